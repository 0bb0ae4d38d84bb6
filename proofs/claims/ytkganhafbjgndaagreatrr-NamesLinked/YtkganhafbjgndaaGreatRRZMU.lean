/- Beginnings (super), walked. -/
import Derived.Test.YtkganhafbjgndaaGreatRRZMF
import Derived.Lib.AppendZerosOnto
import Derived.Lib.SlBytesConst
import Derived.Deep.Draws
import Derived.Handy
import Derived.Laws.ResultCell
import Derived.Laws.Rows
namespace Go.Proofs.YtkganhafbjgndaaGreatRR.U
open F
def ok (a b c:Int):Bool:=decide (64≤a∧a≤1024∧0≤b∧b≤1073741824∧0≤c∧c≤1073741824)
theorem ok_iff {a b c:Int}:ok a b c=true ↔ 64≤a∧a≤1024∧0≤b∧b≤1073741824∧0≤c∧c≤1073741824:=by simp [ok]
theorem ok_not {a b c:Int} (h:¬ (64≤a∧a≤1024∧0≤b∧b≤1073741824∧0≤c∧c≤1073741824)):ok a b c=false:=by simpa [ok] using h
def part (a b c:Nat):Nat→List UInt8
 | 0=>[67,79,80,89]
 | 1=>[67,79,80,89]++lit 4 a
 | 2=>[67,79,80,89]++lit 4 a++lit 4 b
 | _=>[67,79,80,89]++lit 4 a++lit 4 b++lit 4 c
def pre (a b c:Nat):List UInt8:=part a b c 3++List.replicate 108 0
def sec (a b c:Nat):List UInt8:=pre a b c++lit 4 (crc (pre a b c))
theorem part_len (a b c k:Nat) (hk:k≤3):(part a b c k).length=4+4 * k:=by
 match k,hk with
 | 0,_=>rfl
 | 1,_=>simp [part,lit_length]
 | 2,_=>simp [part,lit_length]
 | 3,_=>simp [part,lit_length]
theorem pre_len (a b c:Nat):(pre a b c).length=124:=by unfold pre;rw [List.length_append,part_len _ _ _ _ (Nat.le_refl _)];simp
theorem sec_len (a b c:Nat):(sec a b c).length=128:=by unfold sec;rw [List.length_append,pre_len,lit_length]
def num (b:List UInt8) (i:Nat):Nat:=big ((b.drop (4+4 * i)).take 4)
theorem take4 (n:Nat) (r:List UInt8):(lit 4 n++r).take 4=lit 4 n:=List.take_left' (lit_length 4 n)
theorem num_at {p r:List UInt8} {n i:Nat} (hp:p.length=4+4 * i) (hn:n<4294967296):num (p++(lit 4 n++r)) i=n:=by
 unfold num
 rw [List.drop_left' hp,take4,big_lit]
 exact Nat.mod_eq_of_lt hn
theorem num_sec0 (a b c:Nat) (h:a<4294967296):num (sec a b c) 0=a:=by
 have e:sec a b c=part a b c 0++(lit 4 a++(lit 4 b++(lit 4 c++(List.replicate 108 0++lit 4 (crc (pre a b c)))))):=by simp [sec,pre,part]
 rw [e]
 exact num_at (part_len _ _ _ 0 (by omega)) h
theorem num_sec1 (a b c:Nat) (h:b<4294967296):num (sec a b c) 1=b:=by
 have e:sec a b c=part a b c 1++(lit 4 b++(lit 4 c++(List.replicate 108 0++lit 4 (crc (pre a b c))))):=by simp [sec,pre,part]
 rw [e]
 exact num_at (part_len _ _ _ 1 (by omega)) h
theorem num_sec2 (a b c:Nat) (h:c<4294967296):num (sec a b c) 2=c:=by
 have e:sec a b c=part a b c 2++(lit 4 c++(List.replicate 108 0++lit 4 (crc (pre a b c)))):=by simp [sec,pre,part]
 rw [e]
 exact num_at (part_len _ _ _ 2 (by omega)) h
def IsSec (b:List UInt8):Prop:=b.length=128∧ok (num b 0) (num b 1) (num b 2)=true∧b=sec (num b 0) (num b 1) (num b 2)
theorem isSec_sec {a b c:Nat} (h:ok a b c=true):IsSec (sec a b c):=by
 obtain ⟨_,_,_,_,_,_⟩:=ok_iff.1 h
 have e0:=num_sec0 a b c (by omega)
 have e1:=num_sec1 a b c (by omega)
 have e2:=num_sec2 a b c (by omega)
 refine ⟨sec_len _ _ _,?_,?_⟩
 ·rw [e0,e1,e2];exact h
 ·rw [e0,e1,e2]
end Go.Proofs.YtkganhafbjgndaaGreatRR.U
namespace Go.Proofs.YtkganhafbjgndaaGreatRR.U
open Go.RowKit
set_option linter.unusedVariables false
theorem retb {a b:Bool} (h:a=b):Ending.returned (.bool a)=.returned (.bool b):=by rw [h]
theorem below_drewN {B:Nat} {a w:World} (h:Below B a w) (n:Nat):Below B a (w.drewN n):=⟨h.os,h.tape,h.output,h.size,h.block⟩
theorem zeroCells_one (z:Value) (n:Nat):(Builtin.zeroCells #[z] n).toList=List.replicate n z:=by
 apply List.ext_getElem
 ·simp [Builtin.zeroCells]
 ·intro i h1 h2
  simp [Builtin.zeroCells,Nat.mod_one]
theorem app_zeros {w:World} {base k:Nat} {v:Value} {l:List UInt8} (ty:TypeId) (hown:w.ownsRow base 5 1 v l.length (l.map F.bv)) (h0:0<k) (hl0:0<l.length) (hl:l.length+k≤1000000) (hbase:base≤w.heap.size) :
  ∃ v' w',(Builtin.append_ #[41,3] ty #[v,.int .i64 (k:Int)]).run Tryz.prog w=.ok v' w'∧w'.ownsRow base 5 1 v' (l++List.replicate k 0).length ((l++List.replicate k 0).map F.bv)∧w.grownBy w' v.ownBlock:=by
 obtain ⟨i0,hi,hz0,hz1,hz2⟩:=info_parts F.Tryz.info5
 have hmap:(l++List.replicate k 0).map F.bv=l.map F.bv++List.replicate k (.int .u8 0):=by simp [F.bv]
 have hlen:(l++List.replicate k (0:UInt8)).length=l.length+k:=by simp
 rw [hmap,hlen]
 have hzc:(Value.int .u8 0).cells=#[Value.int .u8 0]:=rfl
 rcases hown.2 with ⟨rfl,he⟩ | ⟨g,cap,cur,rfl,hbg,hg,hnc,hcm,hcs,htake⟩
 ·omega
 ·by_cases hroom:l.length+k≤cap
  ·have hst:=run_storeCells_at Tryz.prog g (l.length * i0.size) 5 (List.replicate k (.int .u8 0)) 0 cur w hg (by rw [hz1];simp [hcs];omega) (fun u hu=>by rw [List.eq_of_mem_replicate hu];rfl)
   simp only [Nat.add_zero] at hst
   have hw:IntKind.i64.wrap (k:Int)=k:=by rw [IntKind.wrap_i64];omega
   have hneg:¬ ((k:Int)<0):=by omega
   have h48i:¬ (281474976710656<(k:Int) * (i0.bytes:Int)):=by rw [hz2];omega
   have hns:¬ (k * i0.size=0):=by rw [hz1];omega
   have hzl:(Builtin.zeroCells (Value.int .u8 0).cells k).toList=List.replicate k (.int .u8 0):=by rw [hzc,zeroCells_one]
   have hr:(Builtin.append_ #[41,3] ty #[.slice (some ⟨g,0,none⟩) l.length cap,.int .i64 (k:Int)]).run Tryz.prog w=.ok (.slice (some ⟨g,0,none⟩) (l.length+k) cap) (w.setRow g (cur.toList.take (l.length * i0.size)++List.replicate k (Value.int .u8 0)++cur.toList.drop (l.length * i0.size+k)).toArray):=by
    simp only [List.length_replicate] at hst
    simp [Builtin.append_,run_underlying Tryz.underlying41,run_underlying Tryz.underlying3,sizeOf,typeInfo,zeroValue,hi,hz0,asInt,asIntOf,hw,hneg,hns,h48i,hroom,Addr.add_lit,hzl,hst]
   refine ⟨_,_,hr,⟨?_,.inr ⟨g,cap,_,rfl,hbg,setRow_heap w g cur _ 5 _ hg,hroom,hcm,?_,?_⟩⟩,⟨rfl,rfl,rfl,by simp,fun k _ hk=>setRow_other w g k _ (fun e=>hk (by simp [Value.ownBlock,e]))⟩⟩
   ·simp
   ·simp only [List.size_toArray,List.length_append,List.length_take,List.length_drop,Array.length_toList,List.length_replicate]
    rw [hz1]
    omega
   ·rw [hz1,htake,Nat.mul_one]
    exact List.take_left' (by simp)
  ·have holds:=hown.cells (g:=g) rfl
   have hold:=run_firstCells_some (P:=Tryz.prog) w.drew i0.size l.length ⟨g,0,none⟩ l.length cap (l.map F.bv) (by rw [hz1];simp) (fun j u hu=>holds j u hu)
   have hr:=Lib.run_append_grow_zeros (P:=Tryz.prog) w 41 3 ty 5 i0 _ .i64 .i64 Tryz.underlying41 Tryz.underlying3 hi hz0 (some ⟨g,0,none⟩) l.length cap (l.map F.bv) hold k h0 (by rw [hz1];omega) (by omega) (by omega) (by rw [hz2];omega) (growslice_fits (by omega) (by rw [hz2];omega))
   have hge:=grownCap_ge w (l.length+k) cap 5
   have hcm2:grownCap w (l.length+k) cap 5≤maxLen:=grownCap_le_maxLen w (l.length+k) cap 5 (by unfold maxLen;omega)
   refine ⟨_,_,hr,⟨by simp,.inr ⟨w.heap.size,_,_,rfl,hbase,heap_alloc_new w.drew _,hge,hcm2,?_,?_⟩⟩,⟨rfl,rfl,rfl,by simp,fun k hk _=>Below.heap_alloc w.drew _ k hk⟩⟩
   ·simp only [Array.size_append,List.size_toArray,size_zeroCells,hzc,List.length_map]
    simp
    omega
   ·simp only [Array.toList_append,hzc,zeroCells_one,Nat.mul_one]
    exact List.take_left' (by simp)
def sb (l:List UInt8):ByteArray:=⟨l.toArray⟩
theorem sb_toList (l:List UInt8):(sb l).toList=l:=by
 have h:(sb l).toList=(sb l).data.toList:=ByteArray.toList_eq _
 rw [h];rfl
theorem sb_list (a b:List UInt8):((sb a).toList == (sb b).toList)=decide (a=b):=by
 rw [sb_toList,sb_toList]
 by_cases h:a=b
 ·subst h;simp
 ·simp [h]
theorem fstr {w:World} {B n c:Nat} {A:Option Addr} {l:List UInt8} (h:F.Bts w B A n c l) (W:World) (hW:Below B w W):(convert 41 9 (.slice A n c)).run Tryz.prog W=.ok (.string (sb l)) W:=h.str W fun p hp=>hW.cell hp
theorem equal_any {w:World} {B B' n c n' c':Nat} {A A':Option Addr} {l l':List UInt8} (h:F.Bts w B A n c l) (h':F.Bts w B' A' n' c' l') :
  Calls Tryz.prog 162 #[.slice A n c,.slice A' n' c'] w fun e w'=>e=.returned (.bool (decide (l=l')))∧w=w':=by
 have h1:=fstr h w (Below.refl _ _)
 have h2:=fstr h' w (Below.refl _ _)
 have HE:=Lib.hid (sb_list l l')
 clear h h'
 go_enter Tryz.func162,Tryz.ntmps162
 go_wp2_with fail
 go_ret
 exact ⟨retb HE.out,rfl⟩
def noughtsL (k:Nat):ByteArray:=sb (List.replicate k 0)
end Go.Proofs.YtkganhafbjgndaaGreatRR.U
namespace Go.Proofs.YtkganhafbjgndaaGreatRR.U
open Go.RowKit
set_option linter.unusedVariables false
theorem numbersOf_any (a b c:Int) (w:World):Calls Tryz.prog 142 #[.agg #[.int .i64 a,.int .i64 b,.int .i64 c]] w fun e w'=>e=.returned (.agg #[.int .i64 a,.int .i64 b,.int .i64 c])∧Below w.heap.size w w':=by
 go_enter Tryz.func142,Tryz.ntmps142
 go_wp2
 go_returns
 exact ⟨rfl,((Below.refl _ w).alloc (Nat.le_refl _) _).alloc (by simp) _⟩
theorem idx0 (a b c:Int) (w:World):(Instr.index 209 (.agg #[.int .i64 a,.int .i64 b,.int .i64 c]) (.int .i64 0)).run Tryz.prog w=.ok (.int .i64 a) w:=by kernel_rfl
theorem idx1 (a b c:Int) (w:World):(Instr.index 209 (.agg #[.int .i64 a,.int .i64 b,.int .i64 c]) (.int .i64 1)).run Tryz.prog w=.ok (.int .i64 b) w:=by kernel_rfl
theorem idx2 (a b c:Int) (w:World):(Instr.index 209 (.agg #[.int .i64 a,.int .i64 b,.int .i64 c]) (.int .i64 2)).run Tryz.prog w=.ok (.int .i64 c) w:=by kernel_rfl
theorem cell3 (w:World) (x y z:Int) (t:TypeId) (b:Nat) (hb:b=w.heap.size) (W:World) (h:Below (b+1) (w.alloc (.cells #[.int .i64 x,.int .i64 y,.int .i64 z] t)) W) :
  W.cell? ⟨b,0,none⟩=some (.int .i64 x)∧W.cell? ⟨b,1,none⟩=some (.int .i64 y)∧W.cell? ⟨b,2,none⟩=some (.int .i64 z):=by
 subst hb
 refine ⟨?_,?_,?_⟩<;>(rw [h.cell (by simp)];exact World.cell?_alloc_mark w _ t (0,0) _)
theorem sound_any (a b c:Int) (w:World):Calls Tryz.prog 141 #[.agg #[.int .i64 a,.int .i64 b,.int .i64 c]] w fun e w'=>e=.returned (.bool (ok a b c))∧Below w.heap.size w w':=by
 obtain ⟨o,ho⟩:∃ o,ok a b c=o:=⟨_,rfl⟩
 rw [ho]
 have HO:=Lib.hid ho
 clear ho
 go_enter Tryz.func141,Tryz.ntmps141
 go_wp2_with fail
 refine (numbersOf_any a b c _).mono ?_
 rintro e w1 ⟨rfl,hb1⟩
 have HB1:=Lib.hid hb1
 clear hb1
 have hs1:((w.alloc (Obj.cells #[.int .i64 a,.int .i64 b,.int .i64 c] 101)).alloc (Obj.cells #[.int .i64 64,.int .i64 0,.int .i64 0] 209)).heap.size=w.heap.size+1+1:=by simp
 obtain ⟨p0,p1,p2⟩:=cell3 _ 64 0 0 209 (w.heap.size+1) (by simp) w1 (((Below.refl _ _).alloc (by simp) _).trans (HB1.out.mono (by simp)))
 obtain ⟨q0,q1,q2⟩:=cell3 _ 1024 1073741824 1073741824 209 (w.heap.size+1+1) (by simp) w1 (HB1.out.mono (by simp))
 have HB:Hid (Below w.heap.size w w1):=((((Below.refl _ w).alloc (Nat.le_refl _) _).alloc (by simp) _).alloc (by simp;omega) _).trans (HB1.out.mono (by simp;omega))
 clear HB1 hs1
 have i0:=idx0 a b c
 have i1:=idx1 a b c
 have i2:=idx2 a b c
 go_wp2_with fail
 by_cases h1:a<64
 ·obtain rfl:o=false:=by rw [← HO.out];exact ok_not (by omega)
  go_rounds 4
  go_ret
  exact ⟨rfl,HB.out⟩
 by_cases h2:1024<a
 ·obtain rfl:o=false:=by rw [← HO.out];exact ok_not (by omega)
  go_rounds 4
  go_ret
  exact ⟨rfl,HB.out⟩
 by_cases h3:b<0
 ·obtain rfl:o=false:=by rw [← HO.out];exact ok_not (by omega)
  go_rounds 4
  go_ret
  exact ⟨rfl,HB.out⟩
 by_cases h4:1073741824<b
 ·obtain rfl:o=false:=by rw [← HO.out];exact ok_not (by omega)
  go_rounds 4
  go_ret
  exact ⟨rfl,HB.out⟩
 by_cases h5:c<0
 ·obtain rfl:o=false:=by rw [← HO.out];exact ok_not (by omega)
  go_rounds 4
  go_ret
  exact ⟨rfl,HB.out⟩
 by_cases h6:1073741824<c
 ·obtain rfl:o=false:=by rw [← HO.out];exact ok_not (by omega)
  go_rounds 4
  go_ret
  exact ⟨rfl,HB.out⟩
 ·obtain rfl:o=true:=by rw [← HO.out];exact ok_iff.2 (by omega)
  go_rounds 4
  go_ret
  exact ⟨rfl,HB.out⟩
end Go.Proofs.YtkganhafbjgndaaGreatRR.U
namespace Go.Proofs.YtkganhafbjgndaaGreatRR.U
open Go.RowKit
set_option linter.unusedVariables false
theorem box_below (w:World) (o:Obj):Below w.heap.size w (w.alloc o):=(Below.refl _ w).alloc (Nat.le_refl _) o
theorem encode_no (a b c:Int) (w:World) (h:ok a b c=false):Calls Tryz.prog 104 #[.agg #[.int .i64 a,.int .i64 b,.int .i64 c]] w fun e w'=>e=.returned (.tuple #[.slice none 0 0,.int .i64 2])∧Below w.heap.size w w':=by
 have H:=Lib.hid h
 clear h
 go_enter Tryz.func104,Tryz.ntmps104
 go_wp2_with fail
 refine (sound_any a b c _).mono ?_
 rintro e w1 ⟨rfl,hb1⟩
 rw [H.out]
 have HB:Hid (Below w.heap.size w w1):=(box_below w _).trans (hb1.mono (by simp))
 clear hb1
 go_wp2_with fail
 go_ret2
 exact ⟨rfl,HB.out⟩
theorem copy_bts (w:World) (fr:Nat × Nat):F.Bts (w.alloc (.cells #[.int .u8 67,.int .u8 79,.int .u8 80,.int .u8 89] 5 fr)) (w.heap.size+1) (some ⟨w.heap.size,0,none⟩) 4 4 [67,79,80,89] :=
 ⟨rfl,Nat.le_refl _,by decide,(fun e=>by cases e),fun _=>⟨w.heap.size,0,rfl,by omega,fun j hj=>by
  have h1:=World.cell?_alloc_mark w #[.int .u8 67,.int .u8 79,.int .u8 80,.int .u8 89] 5 fr j
  rw [Nat.zero_add]
  refine h1.trans ?_
  match j,hj with
  | 0,_=>rfl
  | 1,_=>rfl
  | 2,_=>rfl
  | 3,_=>rfl⟩⟩
def nth (a b c:Nat):Nat→Nat
 | 0=>a
 | 1=>b
 | _=>c
theorem part_succ (a b c:Nat) {k:Nat} (hk:k<3):part a b c (k+1)=part a b c k++F.lit 4 (nth a b c k):=by
 match k,hk with
 | 0,_=>rfl
 | 1,_=>rfl
 | 2,_=>rfl
theorem idxk (a b c:Nat) {k:Nat} (hk:k<3) (w:World):(Instr.index 209 (.agg #[.int .i64 a,.int .i64 b,.int .i64 c]) (.int .i64 k)).run Tryz.prog w=.ok (.int .i64 (nth a b c k:Nat)) w:=by
 match k,hk with
 | 0,_=>exact idx0 a b c w
 | 1,_=>exact idx1 a b c w
 | 2,_=>exact idx2 a b c w
theorem nth_lt {a b c:Nat} (h:ok a b c=true) (k:Nat):nth a b c k<4294967296:=by
 obtain ⟨_,_,_,_,_,_⟩:=ok_iff.1 h
 unfold nth
 split<;>omega
set_option maxRecDepth 20000 in
set_option maxHeartbeats 1000000 in
theorem encode_yes (a b c:Nat) (w:World) (h:ok a b c=true):Calls Tryz.prog 104 #[.agg #[.int .i64 a,.int .i64 b,.int .i64 c]] w (F.Gives2 w (sec a b c)):=by
 have H:=Lib.hid h
 clear h
 go_enter Tryz.func104,Tryz.ntmps104
 go_wp2_with fail
 refine (sound_any a b c _).mono ?_
 rintro e w1 ⟨rfl,hb1⟩
 rw [H.out]
 have HB1:Hid (Below w.heap.size w w1):=(box_below w _).trans (hb1.mono (by simp))
 have hl:w1.cell? ⟨w.heap.size,0,none⟩=some (.int .i64 a)∧w1.cell? ⟨w.heap.size,1,none⟩=some (.int .i64 b)∧w1.cell? ⟨w.heap.size,2,none⟩=some (.int .i64 c):=cell3 w a b c 101 w.heap.size rfl w1 (hb1.mono (by simp))
 have hlt:w.heap.size<w1.heap.size:=by have:=hb1.size;simp at this;omega
 have l0:∀ o,(w1.alloc o).cell? ⟨w.heap.size,0,none⟩=some (.int .i64 a):=fun o=>((box_below w1 o).cell hlt).trans hl.1
 have l1:∀ o,(w1.alloc o).cell? ⟨w.heap.size,1,none⟩=some (.int .i64 b):=fun o=>((box_below w1 o).cell hlt).trans hl.2.1
 have l2:∀ o,(w1.alloc o).cell? ⟨w.heap.size,2,none⟩=some (.int .i64 c):=fun o=>((box_below w1 o).cell hlt).trans hl.2.2
 clear hb1 hl
 have hcv:=Lib.run_convert_bytes_const (P:=Tryz.prog) w1 41 5 #[.int .u8 67,.int .u8 79,.int .u8 80,.int .u8 89] 4 4 Tryz.underlying41 Tryz.underlying5
 go_wp2_with fail
 clear hcv l0 l1 l2
 refine (numbersOf_any a b c _).mono ?_
 rintro e w2 ⟨rfl,hb2⟩
 have HB2:Hid (Below w.heap.size w w2):=(HB1.out.alloc HB1.out.size _).trans (hb2.mono (by simp;omega))
 have HC:Hid (F.Bts w2 (w1.heap.size+1) (some ⟨w1.heap.size,0,none⟩) 4 4 (part a b c 0)):=(copy_bts w1 (4,5)).below (hb2.mono (by simp))
 have hs2:w1.heap.size<w2.heap.size:=by have:=hb2.size;simp at this;omega
 clear hb2 HB1
 have hv:∀ k:Nat,k<3→∀ W,(Instr.index 209 (.agg #[.int .i64 a,.int .i64 b,.int .i64 c]) (.int .i64 k)).run Tryz.prog W=.ok (.int .i64 (nth a b c k:Nat)) W:=fun k hk W=>idxk a b c hk W
 have HV:=Lib.hid hv
 clear hv
 go_wp2_with fail
 go_loopw [4,15] (fun x i wr=>∃ k:Nat,∃ A n cap,k≤3∧i=.int .i64 k∧x=.slice A n cap∧Hid (n=4+4 * k)∧Hid (F.Bts wr wr.heap.size A n cap (part a b c k))∧Hid (Below w.heap.size w wr)∧Hid (0<k→F.Mine w wr (.slice A n cap) (part a b c k))) (fun _ i _=>3 - (intOf i).toNat)
 case atStart=>exact ⟨0,_,_,_,Nat.zero_le _,rfl,rfl,rfl,HC.out.more (by omega),HB2,fun h=>absurd h (by omega)⟩
 case round =>
  clear HC HB2
  obtain ⟨k,A,n,cap,hk,rfl,rfl,hn,HC,HB,HM⟩:=hrel
  have hn16:n≤16:=by have:=hn.out;omega
  by_cases hlt:k<3
  ·have hik:=HV.out k hlt wr
   have HN:Hid (nth a b c k<4294967296):=nth_lt H.out k
   have HP:Hid (part a b c (k+1)=part a b c k++F.lit 4 (nth a b c k)):=part_succ a b c hlt
   generalize nth a b c k=x at *
   go_wp2_with fail
   clear hik
   refine (F.num_yes A n cap _ x _ wr HN.out HC.out (Nat.le_refl _) (by omega)).mono ?_
   rintro e w3 ⟨v,rfl,hm⟩
   rw [← HP.out] at hm
   have HM2:=Lib.hid (hm.from_ HB.out)
   clear hm
   obtain ⟨A',n',c',rfl,hB'⟩:=HM2.out.holds
   have hn':Hid (n'=4+4 * (k+1)):=by show _=_;rw [← hB'.len,part_len _ _ _ _ (by omega)]
   have HB':=Lib.hid hB'
   clear hB'
   go_wp2_with fail
   go_roundw
   case rel=>exact ⟨k+1,A',n',c',by omega,by go_num,rfl,hn',HB',HM2.out.bel,fun _=>HM2.out⟩
   case measure=>simp [intOf];omega
  ·obtain rfl:k=3:=by omega
   have HM1:=Lib.hid (HM.out (by omega))
   obtain rfl:n=16:=hn.out
   clear HM HC
   obtain ⟨v',w',hr,ho,hgr⟩:=app_zeros (k:=108) 41 HM1.out.own (by omega) (by rw [part_len _ _ _ _ (Nat.le_refl _)];omega) (by rw [part_len _ _ _ _ (Nat.le_refl _)];omega) HM1.out.bel.size
   have HR2:=Lib.hid hr
   have HM2:Hid (F.Mine w w' v' (pre a b c)):=⟨ho,HM1.out.bel.grown hgr HM1.out.bel.size (fun j hj=>(HM1.out.own.lt j hj).1)⟩
   clear hr ho hgr
   go_wp2_with (at_builtin;refine Lib.wpList_append_run _ rfl _ _ _ _ rfl _ _ rfl rfl _ _ HR2.out ?_)
   obtain ⟨A2,n2,c2,rfl,hB2⟩:=HM2.out.holds
   have hn2:n2=124:=by rw [← hB2.len,pre_len]
   subst hn2
   have H2:=Lib.hid hB2
   have hcr:=F.crc_lt (pre a b c)
   clear hB2
   go_wp2_with fail
   refine (F.sum_any _ _ _ _ _ _ H2.out (by omega)).mono ?_
   rintro e w3 ⟨rfl,rfl⟩
   go_wp2_with fail
   refine (F.num_yes A2 124 c2 _ (F.crc (pre a b c)) (pre a b c) w' hcr H2.out (Nat.le_refl _) (by omega)).mono ?_
   rintro e w3 ⟨v,rfl,hm3⟩
   have HM3:=Lib.hid (hm3.from_ HM2.out.bel)
   clear hm3
   go_wp2_with fail
   go_ret2
   exact ⟨v,rfl,HM3.out⟩
end Go.Proofs.YtkganhafbjgndaaGreatRR.U
namespace Go.Proofs.YtkganhafbjgndaaGreatRR.U
open Go.RowKit
set_option linter.unusedVariables false
def NoSec (w:World) (e:Ending) (w':World):Prop:=e=.returned (.tuple #[.agg #[.int .i64 0,.int .i64 0,.int .i64 0],.int .i64 2])∧Below w.heap.size w w'
def Said (w:World) (x y z:Nat) (e:Ending) (w':World):Prop:=e=.returned (.tuple #[.agg #[.int .i64 x,.int .i64 y,.int .i64 z],.int .i64 0])∧Below w.heap.size w w'
theorem decode_short (A:Option Addr) (n c:Nat) (w:World) (hn:n≠128):Calls Tryz.prog 139 #[.slice A n c] w (NoSec w):=by
 have h1:((n:Int) != 128)=true:=by rw [bne_iff_ne];omega
 go_enter Tryz.func139,Tryz.ntmps139
 go_wp2_with fail
 go_returns
 exact ⟨rfl,by go_grown⟩
def lst (x y z:Int) (k:Nat):Array Value:=#[.int .i64 (if 0<k then x else 0),.int .i64 (if 1<k then y else 0),.int .i64 (if 2<k then z else 0)]
theorem lst_set (b:List UInt8) {k:Nat} (hk:k<3):(lst (num b 0) (num b 1) (num b 2) k).setIfInBounds k (.int .i64 (num b k))=lst (num b 0) (num b 1) (num b 2) (k+1):=by
 match k,hk with
 | 0,_=>rfl
 | 1,_=>rfl
 | 2,_=>rfl
structure Rd (w wr:World) (b:List UInt8) (g k:Nat):Prop where
 form:F.FormAt wr g w.heap.size (b.drop (4+4 * k)) false
 zero:wr.heap[w.heap.size]?=some (.cells #[.int .i64 0,.int .i64 0,.int .i64 0] 101 (0,0))
 list:wr.heap[w.heap.size+1]?=some (.cells (lst (num b 0) (num b 1) (num b 2) k) 209 (0,0))
 gt:w.heap.size+1<g
 bel:Below w.heap.size w wr
theorem Rd.cell {w wr:World} {b:List UInt8} {g k:Nat} (h:Rd w wr b g k) (hk:k<3):(∃ v,wr.cell? ⟨w.heap.size+1,k,none⟩=some v)∧wr.frozen? ⟨w.heap.size+1,k,none⟩=false:=by
 have hs:k<(lst (num b 0) (num b 1) (num b 2) k).size:=by simp [lst];omega
 exact ⟨⟨(lst (num b 0) (num b 1) (num b 2) k)[k],by rw [F.cell_in h.list,Array.getElem?_eq_getElem hs]⟩,F.free_in h.list k⟩
theorem Rd.next {w wr w':World} {b:List UInt8} {g k:Nat} (h:Rd w wr b g k) (hk:k<3) (hf:F.FormAt w' g w.heap.size ((b.drop (4+4 * k)).drop 4) false) (hg:wr.grownBy w' (some g)) :
  (∃ v,w'.cell? ⟨w.heap.size+1,k,none⟩=some v)∧w'.frozen? ⟨w.heap.size+1,k,none⟩=false∧Rd w (w'.setCell ⟨w.heap.size+1,k,none⟩ (.int .i64 (num b k))) b g (k+1):=by
 have hlt:=h.form.lt
 have hgt:=h.gt
 have hset:∀ j,j≠w.heap.size+1→(w'.setCell ⟨w.heap.size+1,k,none⟩ (.int .i64 (num b k))).heap[j]?=w'.heap[j]?:=fun j hj=>Below.heap_setCell _ _ _ _ (fun e=>hj e)
 have hblk:∀ j,j<wr.heap.size→j≠g→w'.heap[j]?=wr.heap[j]?:=fun j hj hne=>hg.block j hj (fun e=>by injection e with e;exact hne e)
 have h1:w'.heap[w.heap.size+1]?=some (.cells (lst (num b 0) (num b 1) (num b 2) k) 209 (0,0)):=(hblk _ (by omega) (by omega)).trans h.list
 have hs:k<(lst (num b 0) (num b 1) (num b 2) k).size:=by simp [lst];omega
 refine ⟨⟨(lst (num b 0) (num b 1) (num b 2) k)[k],by rw [F.cell_in h1,Array.getElem?_eq_getElem hs]⟩,F.free_in h1 k,?_,?_,?_,hgt,?_⟩
 ·rw [List.drop_drop] at hf
  obtain ⟨A,n,c,hh,hB⟩:=hf.ex
  have e:4+4 * (k+1)=4+4 * k+4:=by omega
  rw [e]
  refine ⟨hf.le,A,n,c,(hset g (by omega)).trans hh,hB.keep fun p hp=>World.cell?_of_block (hset _ (by omega))⟩
 ·rw [hset _ (by omega),hblk _ (by omega) (by omega)];exact h.zero
 ·rw [F.heap_set h1,lst_set b hk]
 ·exact ((h.bel.grown hg h.bel.size (fun j hj=>by cases hj;omega))).setCell (p:=⟨w.heap.size+1,k,none⟩) (by simp) _
end Go.Proofs.YtkganhafbjgndaaGreatRR.U
namespace Go.Proofs.YtkganhafbjgndaaGreatRR.U
open Go.RowKit
set_option linter.unusedVariables false
def DecP (w:World) (b:List UInt8):Bool→Ending→World→Prop
 | true=>Said w (num b 0) (num b 1) (num b 2)
 | false=>NoSec w
theorem Rd.cells {w wr:World} {b:List UInt8} {g:Nat} (h:Rd w wr b g 3):wr.cell? ⟨w.heap.size+1,0,none⟩=some (.int .i64 (num b 0))∧wr.cell? ⟨w.heap.size+1,1,none⟩=some (.int .i64 (num b 1))∧wr.cell? ⟨w.heap.size+1,2,none⟩=some (.int .i64 (num b 2)):=by
 refine ⟨?_,?_,?_⟩<;>(rw [F.cell_in h.list];rfl)
theorem zeros_in {w wr W:World} {b:List UInt8} {g:Nat} (h:Rd w wr b g 3) (hb:Below (wr.heap.size+1) wr W∨Below wr.heap.size wr W):(∀ j,j<3→W.cell? ⟨w.heap.size,j,none⟩=some (.int .i64 0))∧∀ j,W.frozen? ⟨w.heap.size,j,none⟩=false:=by
 have hgt:=h.gt
 have hlt:=h.form.lt
 have hh:W.heap[w.heap.size]?=some (.cells #[.int .i64 0,.int .i64 0,.int .i64 0] 101 (0,0)):=by
  rcases hb with hb | hb<;>exact (hb.block _ (by omega)).trans h.zero
 refine ⟨fun j hj=>?_,fun j=>F.free_in hh j⟩
 rw [F.cell_in hh]
 match j,hj with
 | 0,_=>rfl
 | 1,_=>rfl
 | 2,_=>rfl
theorem info23:(Tryz.prog.info? 101).map (·.size)=some 3:=by kernel_rfl
theorem ret10 {tmps:Array Value} {W:World} {g:Nat} {cs:Array Value} (hp:tmps.getD 2 undef=.pointer (some ⟨g,0,none⟩)) (hg:W.heap[g]?=some (.cells cs 101 (0,0))) (hs:cs.size=3) :
  (results Tryz.f139 tmps).run Tryz.prog W=.ok (.tuple #[.agg cs,tmps.getD 3 undef]) W:=by
 rw [results_cell_tmp (p:=2) (u:=3) (ty:=101) rfl,hp]
 have h:=run_loadVar_row (P:=Tryz.prog) W g 101 101 cs (0,0) _ hg Tryz.underlying101 rfl (by rw [info23,hs])
 simp only [asAddr,Sem.run_pure,Result.andThen_ok,h]
set_option maxRecDepth 20000 in
set_option maxHeartbeats 2000000 in
theorem decode_128 {w:World} {B c:Nat} {A:Option Addr} {b:List UInt8} {r:Bool} (h:F.Bts w B A 128 c b) (hB:B≤w.heap.size) (hr:r=true ↔ IsSec b):Calls Tryz.prog 139 #[.slice A 128 c] w (DecP w b r):=by
 have HR:=Lib.hid hr
 clear hr
 obtain ⟨bb,off,rfl,hbb,hcell⟩:=h.at_ (by omega)
 have H:=Lib.hid (h.more hB)
 have hcap:=h.cap
 have hlim:=h.lim
 unfold maxLen at hlim
 have HLN:=Lib.hid h.len
 have HT:=Lib.hid ((h.more hB).tail (s:=4) (by omega))
 rw [if_neg (by omega)] at HT
 clear h hcell
 go_enter Tryz.func139,Tryz.ntmps139
 go_wp2_with fail
 refine (F.read_any _ _ _ w.heap.size (b.drop 4) _ (HT.out.below (by go_grown)) (by simp;omega)).mono ?_
 rintro e w1 ⟨rfl,hf1,hb1⟩
 have HRD:Hid (Rd w w1 b (w.heap.size+1+1) 0):=by
  have hs:((w.alloc (Obj.cells #[.int .i64 0,.int .i64 0,.int .i64 0] 101)).alloc (Obj.cells #[.int .i64 0,.int .i64 0,.int .i64 0] 209)).heap.size=w.heap.size+1+1:=by simp
  rw [hs] at hf1 hb1
  refine ⟨hf1,?_,?_,by omega,?_⟩
  ·rw [hb1.block _ (by omega)]
   exact heap_alloc2_old w _ _
  ·rw [hb1.block _ (by omega)]
   exact heap_alloc2_new w _ _
  ·exact (((Below.refl _ w).alloc (Nat.le_refl _) _).alloc (by simp) _).trans (hb1.mono (by omega))
 clear hf1 hb1
 go_wp2_with fail
 go_loopw [17] (fun i wr=>∃ k:Nat,k≤3∧i=.int .i64 k∧Hid (Rd w wr b (w.heap.size+1+1) k)) (fun i _=>3 - (intOf i).toNat)
 case atStart=>exact ⟨0,Nat.zero_le _,rfl,HRD⟩
 case round =>
  clear HRD
  obtain ⟨k,hk,rfl,HRD⟩:=hrel
  by_cases hlt:k<3
  ·go_wp2_with fail
   refine (F.fnum_yes (w.heap.size+1+1) w.heap.size (b.drop (4+4 * k)) false wr HRD.out.form (by rw [List.length_drop,HLN.out];omega)).mono ?_
   rintro e w2 ⟨rfl,hf2,hg2⟩
   obtain ⟨⟨v0,hv0⟩,hfr0,hnext⟩:=HRD.out.next hlt hf2 hg2
   have HN:=Lib.hid hnext
   have HE:Hid (F.big ((b.drop (4+4 * k)).take 4)=num b k):=rfl
   clear hf2 hg2 hnext
   rw [HE.out]
   generalize num b k=x at *
   go_wp2_with fail
   go_roundw
   case rel=>exact ⟨k+1,by omega,by go_num,HN⟩
   case measure=>simp [intOf];omega
  ·obtain rfl:k=3:=by omega
   obtain ⟨c0,c1,c2⟩:=HRD.out.cells
   go_wp2_with fail
   clear c0 c1 c2
   have hs0:=HRD.out.bel.size
   cases hok:ok (num b 0) (num b 1) (num b 2) with
   | false =>
    obtain rfl:r=false:=by
     rw [Bool.eq_false_iff]
     intro e
     have:=(HR.out.1 e).2.1
     rw [hok] at this
     cases this
    have HOK:=Lib.hid hok
    clear hok
    refine (encode_no _ _ _ _ HOK.out).mono ?_
    rintro e w3 ⟨rfl,hb3⟩
    have HB3:Hid (Below wr.heap.size wr w3):=(box_below wr _).trans (hb3.mono (by simp))
    have HBF:Below w.heap.size w w3:=HRD.out.bel.trans (HB3.out.mono hs0)
    obtain ⟨hz,hf⟩:=zeros_in HRD.out (.inr HB3.out)
    have HZ:Hid (w3.heap[w.heap.size]?=some (.cells #[.int .i64 0,.int .i64 0,.int .i64 0] 101 (0,0))):=(HB3.out.block _ (by have:=HRD.out.form.lt;omega)).trans HRD.out.zero
    have z0:=hz 0 (by omega)
    have z1:=hz 1 (by omega)
    have z2:=hz 2 (by omega)
    have f0:=hf 0
    have f1:=hf 1
    have f2:=hf 2
    have HBH:=Lib.hid HBF
    clear hb3 hz hf HBF
    go_wp2_with fail
    try simp only [Exit.inBlock,Exit.then]
    refine bodyPost_ret (ret10 rfl (F.heap_set (F.heap_set (F.heap_set HZ.out 0 _) 1 _) 2 _) rfl) rfl ?_
    exact ⟨rfl,by have h0:=HBH.out;go_grown⟩
   | true =>
    have HOK:=Lib.hid hok
    clear hok
    refine (encode_yes _ _ _ _ HOK.out).mono ?_
    rintro e w3 ⟨v,rfl,hm⟩
    have hb3:=hm.bel
    have HB3:Hid (Below wr.heap.size wr w3):=(box_below wr _).trans (hb3.mono (by simp))
    have HBF:Hid (Below w.heap.size w w3):=HRD.out.bel.trans (HB3.out.mono hs0)
    obtain ⟨hz,hf⟩:=zeros_in HRD.out (.inr HB3.out)
    have HZ:Hid (w3.heap[w.heap.size]?=some (.cells #[.int .i64 0,.int .i64 0,.int .i64 0] 101 (0,0))):=(HB3.out.block _ (by have:=HRD.out.form.lt;omega)).trans HRD.out.zero
    have z0:=hz 0 (by omega)
    have z1:=hz 1 (by omega)
    have z2:=hz 2 (by omega)
    have f0:=hf 0
    have f1:=hf 1
    have f2:=hf 2
    obtain ⟨s0,s1,s2⟩:=cell3 wr (num b 0) (num b 1) (num b 2) 101 wr.heap.size rfl w3 (hb3.mono (by simp))
    obtain ⟨A3,n3,c3,rfl,h3⟩:=hm.holds
    have HE:=Lib.hid (equal_any (w:=w3) (H.out.below HBF.out) h3)
    clear hb3 hz hf hm h3
    have hne:w.heap.size≠wr.heap.size:=by have:=HRD.out.form.lt;omega
    by_cases he:b=sec (num b 0) (num b 1) (num b 2)
    ·obtain rfl:r=true:=HR.out.2 ⟨HLN.out,HOK.out,he⟩
     have HD:Hid (decide (b=sec (num b 0) (num b 1) (num b 2))=true):=by show _=_;rw [decide_eq_true_eq];exact he
     rw [HD.out] at HE
     clear he HD
     go_wp2_with fail
     refine HE.out.mono ?_
     rintro e w4 ⟨rfl,rfl⟩
     go_wp2_with fail
     try simp only [Exit.inBlock,Exit.then]
     refine bodyPost_ret (ret10 rfl (F.heap_set (F.heap_set (F.heap_set HZ.out 0 _) 1 _) 2 _) rfl) rfl ?_
     exact ⟨rfl,by have h0:=HBF.out;go_grown⟩
    ·obtain rfl:r=false:=by
      rw [Bool.eq_false_iff]
      intro e
      exact he (HR.out.1 e).2.2
     have HD:Hid (decide (b=sec (num b 0) (num b 1) (num b 2))=false):=by show _=_;rw [decide_eq_false_iff_not];exact he
     rw [HD.out] at HE
     clear he HD
     go_wp2_with fail
     refine HE.out.mono ?_
     rintro e w4 ⟨rfl,rfl⟩
     go_wp2_with fail
     try simp only [Exit.inBlock,Exit.then]
     refine bodyPost_ret (ret10 rfl (F.heap_set (F.heap_set (F.heap_set HZ.out 0 _) 1 _) 2 _) rfl) rfl ?_
     exact ⟨rfl,by have h0:=HBF.out;go_grown⟩
theorem decode_any {w:World} {B n c:Nat} {A:Option Addr} {b:List UInt8} {r:Bool} (h:F.Bts w B A n c b) (hB:B≤w.heap.size) (hr:r=true ↔ IsSec b):Calls Tryz.prog 139 #[.slice A n c] w (DecP w b r):=by
 by_cases hn:n=128
 ·subst hn
  exact decode_128 h hB hr
 ·obtain rfl:r=false:=by
   rw [Bool.eq_false_iff]
   intro e
   exact hn (h.len.symm.trans (hr.1 e).1)
  exact decode_short A n c w hn
end Go.Proofs.YtkganhafbjgndaaGreatRR.U
