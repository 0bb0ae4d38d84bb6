/- Seats (seat), walked. -/
import Derived.Test.YtkganhafbjgndaaGreatRRZMF
import Derived.Lib.AppendZerosOnto
import Derived.Lib.SlBytesConst
import Derived.Deep.Draws
import Derived.Handy
import Derived.Laws.ResultCell
import Derived.Laws.Rows
import Derived.Deep.RegionWith
import Derived.Deep.CutRange
namespace Go.Proofs.YtkganhafbjgndaaGreatRR.A
open F
def ok (a b:Int) (m:Nat):Bool:=decide (0≤a∧a≤1073741824∧0≤b∧b≤1073741824∧m≤96)
theorem ok_iff {a b:Int} {m:Nat}:ok a b m=true ↔ 0≤a∧a≤1073741824∧0≤b∧b≤1073741824∧m≤96:=by simp [ok]
theorem ok_not {a b:Int} {m:Nat} (h:¬ (0≤a∧a≤1073741824∧0≤b∧b≤1073741824∧m≤96)):ok a b m=false:=by simpa [ok] using h
def part (a b:Nat):Nat→List UInt8
 | 0=>[83,69,65,84]
 | 1=>[83,69,65,84]++lit 4 a
 | _=>[83,69,65,84]++lit 4 a++lit 4 b
def part3 (a b m:Nat):List UInt8:=part a b 2++[UInt8.ofNat m]
def part4 (a b:Nat) (r:List UInt8):List UInt8:=part3 a b r.length++r
def pre (a b:Nat) (r:List UInt8):List UInt8:=part4 a b r++List.replicate (111 - r.length) 0
def sec (a b:Nat) (r:List UInt8):List UInt8:=pre a b r++lit 4 (crc (pre a b r))
theorem part_len (a b k:Nat) (hk:k≤2):(part a b k).length=4+4 * k:=by
 match k,hk with
 | 0,_=>rfl
 | 1,_=>simp [part,lit_length]
 | 2,_=>simp [part,lit_length]
theorem part3_len (a b m:Nat):(part3 a b m).length=13:=by unfold part3;rw [List.length_append,part_len _ _ _ (Nat.le_refl _)];simp
theorem part4_len (a b:Nat) (r:List UInt8):(part4 a b r).length=13+r.length:=by unfold part4;rw [List.length_append,part3_len]
theorem pre_len (a b:Nat) {r:List UInt8} (h:r.length≤96):(pre a b r).length=124:=by unfold pre;rw [List.length_append,part4_len];simp;omega
theorem sec_len (a b:Nat) {r:List UInt8} (h:r.length≤96):(sec a b r).length=128:=by unfold sec;rw [List.length_append,pre_len a b h,lit_length]
def num (b:List UInt8) (i:Nat):Nat:=big ((b.drop (4+4 * i)).take 4)
def len (b:List UInt8):Nat:=(b[12]?.getD 0).toNat
def rep (b:List UInt8):List UInt8:=(b.drop 13).take (len b)
theorem len_lt (b:List UInt8):len b<256:=UInt8.toNat_lt _
theorem rep_len {b:List UInt8} (hb:b.length=128) (h:len b≤96):(rep b).length=len b:=by unfold rep;rw [List.length_take,List.length_drop];omega
theorem take4 (n:Nat) (r:List UInt8):(lit 4 n++r).take 4=lit 4 n:=List.take_left' (lit_length 4 n)
theorem num_at {p r:List UInt8} {n i:Nat} (hp:p.length=4+4 * i) (hn:n<4294967296):num (p++(lit 4 n++r)) i=n:=by
 unfold num
 rw [List.drop_left' hp,take4,big_lit]
 exact Nat.mod_eq_of_lt hn
theorem num_sec0 (a b:Nat) (r:List UInt8) (h:a<4294967296):num (sec a b r) 0=a:=by
 have e:sec a b r=part a b 0++(lit 4 a++(lit 4 b++([UInt8.ofNat r.length]++(r++(List.replicate (111 - r.length) 0++lit 4 (crc (pre a b r))))))):=by simp [sec,pre,part4,part3,part]
 rw [e]
 exact num_at (part_len _ _ 0 (by omega)) h
theorem num_sec1 (a b:Nat) (r:List UInt8) (h:b<4294967296):num (sec a b r) 1=b:=by
 have e:sec a b r=part a b 1++(lit 4 b++([UInt8.ofNat r.length]++(r++(List.replicate (111 - r.length) 0++lit 4 (crc (pre a b r)))))):=by simp [sec,pre,part4,part3,part]
 rw [e]
 exact num_at (part_len _ _ 1 (by omega)) h
theorem len_sec (a b:Nat) {r:List UInt8} (h:r.length≤96):len (sec a b r)=r.length:=by
 have e:sec a b r=part a b 2++([UInt8.ofNat r.length]++(r++(List.replicate (111 - r.length) 0++lit 4 (crc (pre a b r))))):=by simp [sec,pre,part4,part3,part]
 have hl:(part a b 2).length=12:=part_len _ _ 2 (by omega)
 unfold len
 rw [e,List.getElem?_append_right (by omega),hl]
 simp
 omega
theorem rep_sec (a b:Nat) {r:List UInt8} (h:r.length≤96):rep (sec a b r)=r:=by
 have e:sec a b r=part3 a b r.length++(r++(List.replicate (111 - r.length) 0++lit 4 (crc (pre a b r)))):=by simp [sec,pre,part4]
 unfold rep
 rw [len_sec a b h,e,List.drop_left' (part3_len _ _ _),List.take_left' rfl]
def IsSec (b:List UInt8):Prop:=b.length=128∧len b≤96∧ok (num b 0) (num b 1) (len b)=true∧b=sec (num b 0) (num b 1) (rep b)
theorem isSec_sec {a b:Nat} {r:List UInt8} (h:ok a b r.length=true):IsSec (sec a b r):=by
 obtain ⟨_,_,_,_,h96⟩:=ok_iff.1 h
 have e0:=num_sec0 a b r (by omega)
 have e1:=num_sec1 a b r (by omega)
 have e2:=len_sec a b h96
 have e3:=rep_sec a b h96
 refine ⟨sec_len _ _ h96,by omega,?_,?_⟩
 ·rw [e0,e1,e2];exact h
 ·rw [e0,e1,e3]
def fate (a b:Int) (hello:Bool) (life seq:Int):Int :=
 if life<1∨1073741824<life∨seq<0∨1073741824<seq then 0
 else if life=a∧seq=b then 2
 else if hello=true∧a<life then 3
 else if hello=false∧life=a∧b<seq then 1
 else 0
end Go.Proofs.YtkganhafbjgndaaGreatRR.A
namespace Go.Proofs.YtkganhafbjgndaaGreatRR.A
open Go.RowKit
set_option linter.unusedVariables false
theorem retb {a b:Bool} (h:a=b):Ending.returned (.bool a)=.returned (.bool b):=by rw [h]
theorem zeroCells_one (z:Value) (n:Nat):(Builtin.zeroCells #[z] n).toList=List.replicate n z:=by
 apply List.ext_getElem
 ·simp [Builtin.zeroCells]
 ·intro i h1 h2
  simp [Builtin.zeroCells,Nat.mod_one]
theorem app_zeros {w:World} {base k:Nat} {v:Value} {l:List UInt8} (ty:TypeId) (hown:w.ownsRow base 5 1 v l.length (l.map F.bv)) (h0:0<k) (hl0:0<l.length) (hl:l.length+k≤1000000) (hbase:base≤w.heap.size) :
  ∃ v' w',(Builtin.append_ #[41,3] ty #[v,.int .i64 (k:Int)]).run Tryz.prog w=.ok v' w'∧w'.ownsRow base 5 1 v' (l++List.replicate k 0).length ((l++List.replicate k 0).map F.bv)∧w.grownBy w' v.ownBlock:=by
 obtain ⟨i0,hi,hz0,hz1,hz2⟩:=info_parts F.Tryz.info5
 have hmap:(l++List.replicate k 0).map F.bv=l.map F.bv++List.replicate k (.int .u8 0):=by simp [F.bv]
 have hlen:(l++List.replicate k (0:UInt8)).length=l.length+k:=by simp
 rw [hmap,hlen]
 have hzc:(Value.int .u8 0).cells=#[Value.int .u8 0]:=rfl
 rcases hown.2 with ⟨rfl,he⟩ | ⟨g,cap,cur,rfl,hbg,hg,hnc,hcm,hcs,htake⟩
 ·omega
 ·by_cases hroom:l.length+k≤cap
  ·have hst:=run_storeCells_at Tryz.prog g (l.length * i0.size) 5 (List.replicate k (.int .u8 0)) 0 cur w hg (by rw [hz1];simp [hcs];omega) (fun u hu=>by rw [List.eq_of_mem_replicate hu];rfl)
   simp only [Nat.add_zero] at hst
   have hw:IntKind.i64.wrap (k:Int)=k:=by rw [IntKind.wrap_i64];omega
   have hneg:¬ ((k:Int)<0):=by omega
   have h48i:¬ (281474976710656<(k:Int) * (i0.bytes:Int)):=by rw [hz2];omega
   have hns:¬ (k * i0.size=0):=by rw [hz1];omega
   have hzl:(Builtin.zeroCells (Value.int .u8 0).cells k).toList=List.replicate k (.int .u8 0):=by rw [hzc,zeroCells_one]
   have hr:(Builtin.append_ #[41,3] ty #[.slice (some ⟨g,0,none⟩) l.length cap,.int .i64 (k:Int)]).run Tryz.prog w=.ok (.slice (some ⟨g,0,none⟩) (l.length+k) cap) (w.setRow g (cur.toList.take (l.length * i0.size)++List.replicate k (Value.int .u8 0)++cur.toList.drop (l.length * i0.size+k)).toArray):=by
    simp only [List.length_replicate] at hst
    simp [Builtin.append_,run_underlying Tryz.underlying41,run_underlying Tryz.underlying3,sizeOf,typeInfo,zeroValue,hi,hz0,asInt,asIntOf,hw,hneg,hns,h48i,hroom,Addr.add_lit,hzl,hst]
   refine ⟨_,_,hr,⟨?_,.inr ⟨g,cap,_,rfl,hbg,setRow_heap w g cur _ 5 _ hg,hroom,hcm,?_,?_⟩⟩,⟨rfl,rfl,rfl,by simp,fun k _ hk=>setRow_other w g k _ (fun e=>hk (by simp [Value.ownBlock,e]))⟩⟩
   ·simp
   ·simp only [List.size_toArray,List.length_append,List.length_take,List.length_drop,Array.length_toList,List.length_replicate]
    rw [hz1]
    omega
   ·rw [hz1,htake,Nat.mul_one]
    exact List.take_left' (by simp)
  ·have holds:=hown.cells (g:=g) rfl
   have hold:=run_firstCells_some (P:=Tryz.prog) w.drew i0.size l.length ⟨g,0,none⟩ l.length cap (l.map F.bv) (by rw [hz1];simp) (fun j u hu=>holds j u hu)
   have hr:=Lib.run_append_grow_zeros (P:=Tryz.prog) w 41 3 ty 5 i0 _ .i64 .i64 Tryz.underlying41 Tryz.underlying3 hi hz0 (some ⟨g,0,none⟩) l.length cap (l.map F.bv) hold k h0 (by rw [hz1];omega) (by omega) (by omega) (by rw [hz2];omega) (growslice_fits (by omega) (by rw [hz2];omega))
   have hge:=grownCap_ge w (l.length+k) cap 5
   have hcm2:grownCap w (l.length+k) cap 5≤maxLen:=grownCap_le_maxLen w (l.length+k) cap 5 (by unfold maxLen;omega)
   refine ⟨_,_,hr,⟨by simp,.inr ⟨w.heap.size,_,_,rfl,hbase,heap_alloc_new w.drew _,hge,hcm2,?_,?_⟩⟩,⟨rfl,rfl,rfl,by simp,fun k hk _=>Below.heap_alloc w.drew _ k hk⟩⟩
   ·simp only [Array.size_append,List.size_toArray,size_zeroCells,hzc,List.length_map]
    simp
    omega
   ·simp only [Array.toList_append,hzc,zeroCells_one,Nat.mul_one]
    exact List.take_left' (by simp)
def sb (l:List UInt8):ByteArray:=⟨l.toArray⟩
theorem sb_toList (l:List UInt8):(sb l).toList=l:=by
 have h:(sb l).toList=(sb l).data.toList:=ByteArray.toList_eq _
 rw [h];rfl
theorem sb_list (a b:List UInt8):((sb a).toList == (sb b).toList)=decide (a=b):=by
 rw [sb_toList,sb_toList]
 by_cases h:a=b
 ·subst h;simp
 ·simp [h]
theorem fstr {w:World} {B n c:Nat} {A:Option Addr} {l:List UInt8} (h:F.Bts w B A n c l) (W:World) (hW:Below B w W):(convert 41 9 (.slice A n c)).run Tryz.prog W=.ok (.string (sb l)) W:=h.str W fun p hp=>hW.cell hp
theorem equal_any {w:World} {B B' n c n' c':Nat} {A A':Option Addr} {l l':List UInt8} (h:F.Bts w B A n c l) (h':F.Bts w B' A' n' c' l') :
  Calls Tryz.prog 162 #[.slice A n c,.slice A' n' c'] w fun e w'=>e=.returned (.bool (decide (l=l')))∧w=w':=by
 have h1:=fstr h w (Below.refl _ _)
 have h2:=fstr h' w (Below.refl _ _)
 have HE:=Lib.hid (sb_list l l')
 clear h h'
 go_enter Tryz.func162,Tryz.ntmps162
 go_wp2_with fail
 go_ret
 exact ⟨retb HE.out,rfl⟩
def noughtsL (k:Nat):ByteArray:=sb (List.replicate k 0)
end Go.Proofs.YtkganhafbjgndaaGreatRR.A
namespace Go.Proofs.YtkganhafbjgndaaGreatRR.A
open Go.RowKit
set_option linter.unusedVariables false
theorem box_below (w:World) (o:Obj):Below w.heap.size w (w.alloc o):=(Below.refl _ w).alloc (Nat.le_refl _) o
theorem counts_yes (x m:Int) (w:World) (h:m≤x) (h':x≤1073741824):Calls Tryz.prog 216 #[.int .i64 x,.int .i64 m] w fun e w'=>e=.returned (.bool true)∧w=w':=by
 go_enter Tryz.func216,Tryz.ntmps216
 go_wp2
 go_ret
 exact ⟨rfl,rfl⟩
theorem counts_no (x m:Int) (w:World) (h:¬ (m≤x∧x≤1073741824)):Calls Tryz.prog 216 #[.int .i64 x,.int .i64 m] w fun e w'=>e=.returned (.bool false)∧w=w':=by
 by_cases h1:m≤x
 ·have h2:¬ x≤1073741824:=by omega
  clear h
  go_enter Tryz.func216,Tryz.ntmps216
  go_wp2
  go_ret
  exact ⟨rfl,rfl⟩
 ·clear h
  go_enter Tryz.func216,Tryz.ntmps216
  go_wp2
  go_ret
  exact ⟨rfl,rfl⟩
theorem sound_any (a b:Int) (A:Option Addr) (n c:Nat) (w:World):Calls Tryz.prog 174 #[.agg #[.int .i64 a,.int .i64 b,.slice A n c]] w fun e w'=>e=.returned (.bool (ok a b n))∧Below w.heap.size w w':=by
 obtain ⟨o,ho⟩:∃ o,ok a b n=o:=⟨_,rfl⟩
 rw [ho]
 have HO:=Lib.hid ho
 clear ho
 by_cases ha:0≤a∧a≤1073741824
 ·have HA:=Lib.hid ha
  clear ha
  by_cases hb:0≤b∧b≤1073741824
  ·have HB:=Lib.hid hb
   clear hb
   by_cases hn:n≤96
   ·obtain rfl:o=true:=by rw [← HO.out];exact ok_iff.2 ⟨HA.out.1,HA.out.2,HB.out.1,HB.out.2,hn⟩
    go_enter Tryz.func174,Tryz.ntmps174
    go_wp2_with fail
    refine (counts_yes a 0 _ HA.out.1 HA.out.2).mono ?_
    rintro e w1 ⟨rfl,rfl⟩
    go_wp2_with fail
    refine (counts_yes b 0 _ HB.out.1 HB.out.2).mono ?_
    rintro e w1 ⟨rfl,rfl⟩
    go_wp2_with fail
    go_ret
    exact ⟨retb (decide_eq_true (by omega)),box_below _ _⟩
   ·obtain rfl:o=false:=by rw [← HO.out];exact ok_not (by omega)
    go_enter Tryz.func174,Tryz.ntmps174
    go_wp2_with fail
    refine (counts_yes a 0 _ HA.out.1 HA.out.2).mono ?_
    rintro e w1 ⟨rfl,rfl⟩
    go_wp2_with fail
    refine (counts_yes b 0 _ HB.out.1 HB.out.2).mono ?_
    rintro e w1 ⟨rfl,rfl⟩
    go_wp2_with fail
    go_ret
    exact ⟨retb (decide_eq_false (by omega)),box_below _ _⟩
  ·obtain rfl:o=false:=by rw [← HO.out];exact ok_not (by omega)
   have HB:=Lib.hid hb
   clear hb
   go_enter Tryz.func174,Tryz.ntmps174
   go_wp2_with fail
   refine (counts_yes a 0 _ HA.out.1 HA.out.2).mono ?_
   rintro e w1 ⟨rfl,rfl⟩
   go_wp2_with fail
   refine (counts_no b 0 _ HB.out).mono ?_
   rintro e w1 ⟨rfl,rfl⟩
   go_wp2_with fail
   go_ret
   exact ⟨rfl,box_below _ _⟩
 ·obtain rfl:o=false:=by rw [← HO.out];exact ok_not (by omega)
  have HA:=Lib.hid ha
  clear ha
  go_enter Tryz.func174,Tryz.ntmps174
  go_wp2_with fail
  refine (counts_no a 0 _ HA.out).mono ?_
  rintro e w1 ⟨rfl,rfl⟩
  go_wp2_with fail
  go_ret
  exact ⟨rfl,box_below _ _⟩
theorem clone_any (A:Option Addr) (n c B:Nat) (l:List UInt8) (w:World) (h:F.Bts w B A n c l) (hB:B≤w.heap.size) (hn:n≤140737488355328) :
  Calls Tryz.prog 145 #[.slice A n c] w (F.GivesMine w l):=by
 have heq:=fun W=>Lib.run_eql_slice_nil (P:=Tryz.prog) W 41 5 A n c 0 0 Tryz.underlying41
 have hl0:=h.len
 have H:=Lib.hid h
 clear h
 rcases A with _ | a
 ·have hc:=H.out.nil rfl
  have h0:l=[]:=List.length_eq_zero_iff.1 (by have:=H.out.cap;omega)
  subst h0
  subst hc
  simp only [Option.isNone_none] at heq
  clear hl0
  go_enter Tryz.func145,Tryz.ntmps145
  go_wp2
  go_ret
  exact ⟨_,rfl,World.ownsRow_nil _ _ _ _,Below.refl _ _⟩
 ·simp only [Option.isNone_some] at heq
  have ho:=World.ownsRow_made (e:=5) (size:=1) (base:=w.heap.size) w #[] 0 (Nat.le_refl _) (by decide) (by rfl)
  have hbl:=F.below_alloc w (.cells #[] 5)
  obtain ⟨v',w',hr,ho',hgr⟩:=F.app_run (l:=[]) 41 ho (H.out.below (hbl.mono hB)) (by simp;omega) (by simp)
  have HR:=Lib.hid hr
  clear hr hl0
  go_enter Tryz.func145,Tryz.ntmps145
  go_wp2_with (at_builtin;refine Lib.wpList_append_run _ rfl _ _ _ _ rfl _ _ rfl rfl _ _ HR.out ?_)
  go_ret
  exact ⟨_,rfl,ho',hbl.grown hgr (by simp) (fun j hj=>(ho.lt j hj).1)⟩
end Go.Proofs.YtkganhafbjgndaaGreatRR.A
namespace Go.Proofs.YtkganhafbjgndaaGreatRR.A
open Go.RowKit
set_option linter.unusedVariables false
theorem encode_no (a b:Int) (A:Option Addr) (n c:Nat) (w:World) (h:ok a b n=false):Calls Tryz.prog 137 #[.agg #[.int .i64 a,.int .i64 b,.slice A n c]] w fun e w'=>e=.returned (.tuple #[.slice none 0 0,.int .i64 2])∧Below w.heap.size w w':=by
 have H:=Lib.hid h
 clear h
 go_enter Tryz.func137,Tryz.ntmps137
 go_wp2_with fail
 refine (sound_any a b A n c _).mono ?_
 rintro e w1 ⟨rfl,hb1⟩
 rw [H.out]
 have HB:Hid (Below w.heap.size w w1):=(box_below w _).trans (hb1.mono (by simp))
 clear hb1
 go_wp2_with fail
 go_ret2
 exact ⟨rfl,HB.out⟩
theorem cell3 (w:World) (x y z:Value) (t:TypeId) (b:Nat) (hb:b=w.heap.size) (W:World) (h:Below (b+1) (w.alloc (.cells #[x,y,z] t)) W) :
  W.cell? ⟨b,0,none⟩=some x∧W.cell? ⟨b,1,none⟩=some y∧W.cell? ⟨b,2,none⟩=some z:=by
 subst hb
 refine ⟨?_,?_,?_⟩<;>(rw [h.cell (by simp)];exact World.cell?_alloc_mark w _ t (0,0) _)
theorem sign_bts (w:World) (fr:Nat × Nat):F.Bts (w.alloc (.cells #[.int .u8 83,.int .u8 69,.int .u8 65,.int .u8 84] 5 fr)) (w.heap.size+1) (some ⟨w.heap.size,0,none⟩) 4 4 [83,69,65,84] :=
 ⟨rfl,Nat.le_refl _,by decide,(fun e=>by cases e),fun _=>⟨w.heap.size,0,rfl,by omega,fun j hj=>by
  have h1:=World.cell?_alloc_mark w #[.int .u8 83,.int .u8 69,.int .u8 65,.int .u8 84] 5 fr j
  rw [Nat.zero_add]
  refine h1.trans ?_
  match j,hj with
  | 0,_=>rfl
  | 1,_=>rfl
  | 2,_=>rfl
  | 3,_=>rfl⟩⟩
def nth (a b:Nat):Nat→Nat
 | 0=>a
 | _=>b
theorem part_succ (a b:Nat) {k:Nat} (hk:k<2):part a b (k+1)=part a b k++F.lit 4 (nth a b k):=by
 match k,hk with
 | 0,_=>rfl
 | 1,_=>rfl
theorem nth_cell {w:World} {g a b k:Nat} (hk:k<2) (h0:w.cell? ⟨g,0,none⟩=some (.int .i64 a)) (h1:w.cell? ⟨g,1,none⟩=some (.int .i64 b)):w.cell? ⟨g,k,none⟩=some (.int .i64 (nth a b k:Nat)):=by
 match k,hk with
 | 0,_=>exact h0
 | 1,_=>exact h1
theorem nth_lt {a b m:Nat} (h:ok a b m=true) (k:Nat):nth a b k<4294967296:=by
 obtain ⟨_,_,_,_,_⟩:=ok_iff.1 h
 unfold nth
 split<;>omega
structure Enc0 (w W:World) (a b:Nat):Prop where
 bts:F.Bts W (w.heap.size+1) (some ⟨w.heap.size,0,none⟩) 4 4 (part a b 0)
 c0:W.cell? ⟨w.heap.size+1,0,none⟩=some (.int .i64 a)
 c1:W.cell? ⟨w.heap.size+1,1,none⟩=some (.int .i64 b)
 bel:Below w.heap.size w W
 size:W.heap.size=w.heap.size+2
theorem enc0 (w:World) (a b:Nat):Enc0 w ((w.alloc (Obj.cells #[.int .u8 83,.int .u8 69,.int .u8 65,.int .u8 84] 5 (4,5))).alloc (Obj.cells #[.int .i64 a,.int .i64 b] 3)) a b:=by
 have hs:(w.alloc (Obj.cells #[.int .u8 83,.int .u8 69,.int .u8 65,.int .u8 84] 5 (4,5))).heap.size=w.heap.size+1:=by simp
 have hb:=box_below (w.alloc (Obj.cells #[.int .u8 83,.int .u8 69,.int .u8 65,.int .u8 84] 5 (4,5))) (Obj.cells #[.int .i64 a,.int .i64 b] 3)
 have h0:=World.cell?_alloc_mark (w.alloc (Obj.cells #[.int .u8 83,.int .u8 69,.int .u8 65,.int .u8 84] 5 (4,5))) #[.int .i64 a,.int .i64 b] 3 (0,0)
 rw [hs] at hb h0
 exact ⟨(sign_bts w (4,5)).below hb,h0 0,h0 1,(box_below w _).trans (hb.mono (by omega)),by simp⟩
theorem own_below {w w':World} {base n:Nat} {v:Value} {xs:List Value} (h:w.ownsRow base 5 1 v n xs) (hb:Below w.heap.size w w'):w'.ownsRow base 5 1 v n xs :=
 h.kept (F.grown_of_below hb none) (by cases hv:v.ownBlock<;>simp)
theorem len_bts (w:World) {n:Nat} (h:n≤96):F.Bts (w.alloc (.cells #[.int .u8 (n:Int)] 5)) (w.heap.size+1) (some ⟨w.heap.size,0,none⟩) 1 1 [UInt8.ofNat n]:=by
 have e:(n:Int)=((UInt8.ofNat n).toNat:Int):=by rw [UInt8.toNat_ofNat'];omega
 rw [e]
 exact F.one_bts w (UInt8.ofNat n)
set_option maxRecDepth 20000 in
set_option maxHeartbeats 2000000 in
theorem encode_yes (a b:Nat) (A:Option Addr) (n c B:Nat) (r:List UInt8) (w:World) (hr:F.Bts w B A n c r) (hB:B≤w.heap.size) (h:ok a b n=true):Calls Tryz.prog 137 #[.agg #[.int .i64 a,.int .i64 b,.slice A n c]] w (F.Gives2 w (sec a b r)):=by
 have H:=Lib.hid h
 have HR:=Lib.hid (hr.more hB)
 have h96:n≤96:=(ok_iff.1 h).2.2.2.2
 clear h hr
 go_enter Tryz.func137,Tryz.ntmps137
 go_wp2_with fail
 refine (sound_any a b A n c _).mono ?_
 rintro e w1 ⟨rfl,hb1⟩
 rw [H.out]
 have HB1:Hid (Below w.heap.size w w1):=(box_below w _).trans (hb1.mono (by simp))
 have HL:Hid (w1.cell? ⟨w.heap.size,0,none⟩=some (.int .i64 a)∧w1.cell? ⟨w.heap.size,1,none⟩=some (.int .i64 b)∧w1.cell? ⟨w.heap.size,2,none⟩=some (.slice A n c)):=cell3 w (.int .i64 a) (.int .i64 b) (.slice A n c) 156 w.heap.size rfl w1 (hb1.mono (by simp))
 have hlt:w.heap.size<w1.heap.size:=by have:=hb1.size;simp at this;omega
 have l0:∀ o,(w1.alloc o).cell? ⟨w.heap.size,0,none⟩=some (.int .i64 a):=fun o=>((box_below w1 o).cell hlt).trans HL.out.1
 have l1:∀ o,(w1.alloc o).cell? ⟨w.heap.size,1,none⟩=some (.int .i64 b):=fun o=>((box_below w1 o).cell hlt).trans HL.out.2.1
 clear hb1
 have hcv:=Lib.run_convert_bytes_const (P:=Tryz.prog) w1 41 5 #[.int .u8 83,.int .u8 69,.int .u8 65,.int .u8 84] 4 4 Tryz.underlying41 Tryz.underlying5
 go_wp2_with fail
 clear hcv l0 l1
 have HW0:=Lib.hid (enc0 w1 a b)
 generalize (w1.alloc (Obj.cells #[.int .u8 83,.int .u8 69,.int .u8 65,.int .u8 84] 5 (4,5))).alloc (Obj.cells #[.int .i64 a,.int .i64 b] 3)=W2 at *
 have HB2:Hid (Below w.heap.size w W2):=HB1.out.trans (HW0.out.bel.mono HB1.out.size)
 have HL2:Hid (W2.cell? ⟨w.heap.size,2,none⟩=some (.slice A n c)):=(HW0.out.bel.cell hlt).trans HL.out.2.2
 have hs2:w1.heap.size+1<W2.heap.size:=by have:=HW0.out.size;omega
 clear HB1 HL
 go_loopw [4,19] (fun x i wr=>∃ k:Nat,∃ A' n' cap,k≤2∧i=.int .i64 k∧x=.slice A' n' cap∧Hid (n'=4+4 * k)∧Hid (F.Bts wr wr.heap.size A' n' cap (part a b k))∧Hid (Below W2.heap.size W2 wr)∧Hid (0<k→F.Mine W2 wr (.slice A' n' cap) (part a b k))) (fun _ i _=>2 - (intOf i).toNat)
 case atStart=>exact ⟨0,_,_,_,Nat.zero_le _,rfl,rfl,rfl,HW0.out.bts.more (by omega),Below.refl _ _,fun h=>absurd h (by omega)⟩
 case round =>
  obtain ⟨k,A',n',cap,hk,rfl,rfl,hn,HC,HB,HM⟩:=hrel
  have hn12:n'≤12:=by have:=hn.out;omega
  by_cases hlt2:k<2
  ·have hik:wr.cell? ⟨w1.heap.size+1,k,none⟩=some (.int .i64 (nth a b k:Nat)):=nth_cell hlt2 ((HB.out.cell hs2).trans HW0.out.c0) ((HB.out.cell hs2).trans HW0.out.c1)
   have HN:Hid (nth a b k<4294967296):=nth_lt H.out k
   have HP:Hid (part a b (k+1)=part a b k++F.lit 4 (nth a b k)):=part_succ a b hlt2
   generalize nth a b k=x at *
   go_wp2_with fail
   clear hik
   refine (F.num_yes A' n' cap _ x _ wr HN.out HC.out (Nat.le_refl _) (by omega)).mono ?_
   rintro e w3 ⟨v,rfl,hm⟩
   rw [← HP.out] at hm
   have HM2:=Lib.hid (hm.from_ HB.out)
   clear hm
   obtain ⟨A2,n2,c2,rfl,hB'⟩:=HM2.out.holds
   have hn':Hid (n2=4+4 * (k+1)):=by show _=_;rw [← hB'.len,part_len _ _ _ (by omega)]
   have HB':=Lib.hid hB'
   clear hB'
   go_wp2_with fail
   go_roundw
   case rel=>exact ⟨k+1,A2,n2,c2,by omega,by go_num,rfl,hn',HB',HM2.out.bel,fun _=>HM2.out⟩
   case measure=>simp [intOf];omega
  ·obtain rfl:k=2:=by omega
   have HM1:=Lib.hid (HM.out (by omega))
   obtain rfl:n'=12:=hn.out
   clear HM HC
   have hws:w.heap.size<W2.heap.size:=by omega
   have l2:∀ o,(wr.alloc o).cell? ⟨w.heap.size,2,none⟩=some (.slice A n c):=fun o=>((HB.out.alloc HB.out.size o).cell hws).trans HL2.out
   have l2':wr.cell? ⟨w.heap.size,2,none⟩=some (.slice A n c):=(HB.out.cell hws).trans HL2.out
   obtain ⟨v4,w4,hr4,ho4,hg4⟩:=F.app_run 41 (own_below HM1.out.own (box_below wr (.cells #[.int .u8 (n:Int)] 5))) (len_bts wr h96) (by rw [part_len _ _ _ (Nat.le_refl _)];simp) (by have:=HB.out.size;simp;omega)
   have HR4:=Lib.hid hr4
   have HM4:Hid (F.Mine W2 w4 v4 (part3 a b n)):=⟨ho4,(HB.out.alloc HB.out.size _).grown hg4 (by have:=HB.out.size;simp;omega) (fun j hj=>(HM1.out.own.lt j hj).1)⟩
   clear hr4 ho4 hg4
   have l4:w4.cell? ⟨w.heap.size,2,none⟩=some (.slice A n c):=(HM4.out.bel.cell hws).trans HL2.out
   obtain ⟨v5,w5,hr5,ho5,hg5⟩:=F.app_run 41 HM4.out.own (HR.out.below (HB2.out.trans (HM4.out.bel.mono HB2.out.size))) (by rw [part3_len,HR.out.len];omega) HM4.out.bel.size
   have e4:part3 a b n++r=part4 a b r:=by unfold part4;rw [HR.out.len]
   rw [e4] at ho5
   have HR5:=Lib.hid hr5
   have HM5:Hid (F.Mine W2 w5 v5 (part4 a b r)):=⟨ho5,HM4.out.bel.grown hg5 HM4.out.bel.size (fun j hj=>(HM4.out.own.lt j hj).1)⟩
   clear hr5 ho5 hg5 e4
   obtain ⟨A5,n5,c5,rfl,hB5⟩:=HM5.out.holds
   have h5:n5=13+n:=by rw [← hB5.len,part4_len,HR.out.len]
   have h5':n5≤109:=by omega
   obtain ⟨v6,w6,hr6,ho6,hg6⟩:=app_zeros (k:=111 - n) 41 HM5.out.own (by omega) (by rw [part4_len];omega) (by rw [part4_len,HR.out.len];omega) HM5.out.bel.size
   have e5:part4 a b r++List.replicate (111 - n) 0=pre a b r:=by unfold pre;rw [HR.out.len]
   have e6:((111 - n:Nat):Int)=124 - (n5:Int):=by omega
   rw [e5] at ho6
   rw [e6] at hr6
   have HR6:=Lib.hid hr6
   have HM6:Hid (F.Mine W2 w6 v6 (pre a b r)):=⟨ho6,HM5.out.bel.grown hg6 HM5.out.bel.size (fun j hj=>(HM5.out.own.lt j hj).1)⟩
   clear hr6 ho6 hg6 e5 e6 hB5 h5
   obtain ⟨A6,n6,c6,rfl,hB6⟩:=HM6.out.holds
   obtain rfl:n6=124:=by rw [← hB6.len,pre_len a b (by rw [HR.out.len];exact h96)]
   have H6:=Lib.hid hB6
   have hcr:=F.crc_lt (pre a b r)
   clear hB6
   go_wp2_with (at_builtin;first | (refine Lib.wpList_append_run _ rfl _ _ _ _ rfl _ _ rfl rfl _ _ HR4.out ?_) | (refine Lib.wpList_append_run _ rfl _ _ _ _ rfl _ _ rfl rfl _ _ HR5.out ?_) | (refine Lib.wpList_append_run _ rfl _ _ _ _ rfl _ _ rfl rfl _ _ HR6.out ?_))
   refine (F.sum_any _ _ _ _ _ _ H6.out (by omega)).mono ?_
   rintro e w3 ⟨rfl,rfl⟩
   go_wp2_with fail
   refine (F.num_yes A6 124 c6 _ (F.crc (pre a b r)) (pre a b r) w6 hcr H6.out (Nat.le_refl _) (by omega)).mono ?_
   rintro e w7 ⟨v,rfl,hm7⟩
   have HM7:=Lib.hid (hm7.from_ (HB2.out.trans (HM6.out.bel.mono HB2.out.size)))
   clear hm7
   go_wp2_with fail
   go_ret2
   exact ⟨v,rfl,HM7.out⟩
end Go.Proofs.YtkganhafbjgndaaGreatRR.A
namespace Go.Proofs.YtkganhafbjgndaaGreatRR.A
open Go.RowKit
set_option linter.unusedVariables false
def NoSec (w:World) (e:Ending) (w':World):Prop:=e=.returned (.tuple #[.agg #[.int .i64 0,.int .i64 0,.slice none 0 0],.int .i64 2])∧Below w.heap.size w w'
def Said (w:World) (x y:Nat) (r:List UInt8) (e:Ending) (w':World):Prop:=∃ A n c,e=.returned (.tuple #[.agg #[.int .i64 x,.int .i64 y,.slice A n c],.int .i64 0])∧F.Bts w' w'.heap.size A n c r∧Below w.heap.size w w'
theorem decode_short (A:Option Addr) (n c:Nat) (w:World) (hn:n≠128):Calls Tryz.prog 140 #[.slice A n c] w (NoSec w):=by
 have h1:((n:Int) != 128)=true:=by rw [bne_iff_ne];omega
 go_enter Tryz.func140,Tryz.ntmps140
 go_wp2_with fail
 go_returns
 exact ⟨rfl,by go_grown⟩
theorem decode_long {w:World} {B c:Nat} {A:Option Addr} {b:List UInt8} (h:F.Bts w B A 128 c b) (hB:B≤w.heap.size) (hl:96<len b):Calls Tryz.prog 140 #[.slice A 128 c] w (NoSec w):=by
 obtain ⟨bb,off,rfl,hbb,hcell⟩:=h.at_ (by omega)
 have hc12:∀ o,(w.alloc o).cell? ⟨bb,off+12,none⟩=some (.int .u8 (len b:Int)):=fun o=>((box_below w o).cell (by show bb < _;omega)).trans (hcell 12 (by omega))
 have hlt:=len_lt b
 have hcap:=h.cap
 have hlim:=h.lim
 unfold maxLen at hlim
 generalize len b=m at *
 clear h hcell
 go_enter Tryz.func140,Tryz.ntmps140
 go_wp2_with fail
 go_returns
 exact ⟨rfl,by go_grown⟩
abbrev Z24:Array Value:=#[.int .i64 0,.int .i64 0,.slice none 0 0]
structure St (w W:World) (b:List UInt8) (k:Nat) (P:Option Nat):Prop where
 form:F.FormAt W (w.heap.size+1) w.heap.size (b.drop (4+4 * k)) false
 zero:W.heap[w.heap.size]?=some (.cells Z24 156 (0,0))
 bel:Below w.heap.size w W
 box:∀ p,P=some p→w.heap.size+1<p∧W.heap[p]?=some (.cells Z24 156 (0,0))
theorem St.lt {w W:World} {b:List UInt8} {k:Nat} {P:Option Nat} (h:St w W b k P):w.heap.size+1<W.heap.size:=h.form.lt
theorem St.below {w W W':World} {b:List UInt8} {k:Nat} {P:Option Nat} (h:St w W b k P) (hb:Below W.heap.size W W'):St w W' b k P:=by
 have hlt:=h.lt
 refine ⟨h.form.below hb,(hb.block _ (by omega)).trans h.zero,h.bel.trans (hb.mono (by omega)),fun p hp=>?_⟩
 obtain ⟨h1,h2⟩:=h.box p hp
 exact ⟨h1,(hb.block _ (F.lt_of_heap h2)).trans h2⟩
theorem St.drew {w W:World} {b:List UInt8} {k:Nat} {P:Option Nat} (h:St w W b k P):St w W.drew b k P:=h.below (Below.refl _ _).drew
theorem St.alloc {w W:World} {b:List UInt8} {k:Nat} (h:St w W b k none) (p:Nat) (hp:p=W.heap.size):St w (W.alloc (.cells Z24 156)) b k (some p):=by
 subst hp
 have hlt:=h.lt
 have hb:=box_below W (.cells Z24 156)
 refine ⟨h.form.below hb,(hb.block _ (by omega)).trans h.zero,h.bel.trans (hb.mono (by omega)),fun p hp=>?_⟩
 cases hp
 exact ⟨hlt,heap_alloc_new W _⟩
theorem St.cells {w W:World} {b:List UInt8} {k p:Nat} (h:St w W b k (some p)):W.cell? ⟨p,0,none⟩=some (.int .i64 0)∧W.cell? ⟨p,1,none⟩=some (.int .i64 0)∧W.cell? ⟨p,2,none⟩=some (.slice none 0 0) ∧
  W.frozen? ⟨p,0,none⟩=false∧W.frozen? ⟨p,1,none⟩=false∧W.frozen? ⟨p,2,none⟩=false:=by
 obtain ⟨_,h2⟩:=h.box p rfl
 exact ⟨F.cell_in h2 0,F.cell_in h2 1,F.cell_in h2 2,F.free_in h2 0,F.free_in h2 1,F.free_in h2 2⟩
theorem num_st {w W:World} {b:List UInt8} {P:Option Nat} (k:Nat) (hk:k≤1) (hb:b.length=128) (h:St w W b k P) :
  Calls Tryz.prog 155 #[.pointer (some ⟨w.heap.size+1,0,none⟩)] W fun e W'=>e=.returned (.int .i64 (num b k:Nat))∧St w W' b (k+1) P:=by
 refine (F.fnum_yes (w.heap.size+1) w.heap.size (b.drop (4+4 * k)) false W h.form (by rw [List.length_drop];omega)).mono ?_
 rintro e w2 ⟨rfl,hf2,hg2⟩
 have hlt:=h.lt
 have hblk:∀ j,j<W.heap.size→j≠w.heap.size+1→w2.heap[j]?=W.heap[j]?:=fun j hj hne=>hg2.block j hj (fun e=>by injection e with e;exact hne e)
 refine ⟨rfl,?_,(hblk _ (by omega) (by omega)).trans h.zero,h.bel.grown hg2 h.bel.size (fun j hj=>by cases hj;omega),fun p hp=>?_⟩
 ·rw [List.drop_drop] at hf2
  have e:4+4 * (k+1)=4+4 * k+4:=by omega
  rw [e]
  exact hf2
 ·obtain ⟨h1,h2⟩:=h.box p hp
  exact ⟨h1,(hblk _ (F.lt_of_heap h2) (by omega)).trans h2⟩
theorem clone_st {w W:World} {b:List UInt8} {P:Option Nat} {A:Option Addr} {n c:Nat} {r:List UInt8} (hr:F.Bts w w.heap.size A n c r) (hn:n≤96) (h:St w W b 2 P) :
  Calls Tryz.prog 145 #[.slice A n c] W fun e W'=>∃ A' n' c',e=.returned (.slice A' n' c')∧(F.Bts W' W'.heap.size A' n' c' r∧∀ g o,A'=some ⟨g,o,none⟩→w.heap.size<g∧∀ p,P=some p→g≠p)∧St w W' b 2 P:=by
 refine (clone_any A n c w.heap.size r W (hr.below h.bel) h.bel.size (by omega)).mono ?_
 rintro e W' ⟨v,rfl,hm⟩
 obtain ⟨A',n',c',rfl,hB'⟩:=hm.holds
 refine ⟨A',n',c',rfl,⟨hB',fun g o ho=>?_⟩,h.below hm.bel⟩
 have hlt:=h.lt
 have hg:W.heap.size≤g:=by
  rcases hm.own.2 with ⟨e,_⟩ | ⟨g',cap',cur,e,hg,_⟩
  ·injection e with e1
   rw [e1] at ho
   cases ho
  ·injection e with e1
   rw [e1] at ho
   injection ho with ho
   injection ho with ho
   omega
 refine ⟨by omega,fun p hp=>?_⟩
 have hlt:=F.lt_of_heap (h.box p hp).2
 omega
structure Dn (w W:World) (b:List UInt8) (p:Nat) (A:Option Addr) (n c:Nat):Prop where
 zero:W.heap[w.heap.size]?=some (.cells Z24 156 (0,0))
 seat:W.heap[p]?=some (.cells #[.int .i64 (num b 0:Nat),.int .i64 (num b 1:Nat),.slice A n c] 156 (0,0))
 gt:w.heap.size+1<p
 bts:F.Bts W W.heap.size A n c (rep b)
 far:∀ g o,A=some ⟨g,o,none⟩→w.heap.size<g
 bel:Below w.heap.size w W
theorem bts_set {W:World} {B n c p:Nat} {A:Option Addr} {l:List UInt8} (h:F.Bts W B A n c l) (hne:∀ g o,A=some ⟨g,o,none⟩→g≠p) (i:Nat) (u:Value):F.Bts (W.setCell ⟨p,i,none⟩ u) B A n c l :=
 ⟨h.len,h.cap,h.lim,h.nil,fun hn=>by
  obtain ⟨g,o,e,hb,hc⟩:=h.at_ hn
  exact ⟨g,o,e,hb,fun j hj=>(World.cell?_of_block (Below.heap_setCell _ _ _ _ (fun e'=>hne g o e e'))).trans (hc j hj)⟩⟩
theorem Dn.new {w W:World} {b:List UInt8} {A:Option Addr} {n c:Nat} (h:St w W b 2 none) (hB:F.Bts W W.heap.size A n c (rep b)∧∀ g o,A=some ⟨g,o,none⟩→w.heap.size<g∧∀ q,none=some q→g≠q) :
  Dn w (W.alloc (.cells #[.int .i64 (num b 0:Nat),.int .i64 (num b 1:Nat),.slice A n c] 156)) b W.heap.size A n c:=by
 have hlt:=h.lt
 have hb:=box_below W (.cells #[.int .i64 (num b 0:Nat),.int .i64 (num b 1:Nat),.slice A n c] 156)
 exact ⟨(hb.block _ (by omega)).trans h.zero,heap_alloc_new W _,hlt,(hB.1.below hb).more hb.size,(fun g o e=>(hB.2 g o e).1),h.bel.trans (hb.mono (by omega))⟩
theorem Dn.put {w W:World} {b:List UInt8} {p n c:Nat} {A:Option Addr} (h:St w W b 2 (some p)) (hB:F.Bts W W.heap.size A n c (rep b)∧∀ g o,A=some ⟨g,o,none⟩→w.heap.size<g∧∀ q,some p=some q→g≠q) :
  Dn w (((W.setCell ⟨p,0,none⟩ (.int .i64 (num b 0:Nat))).setCell ⟨p,1,none⟩ (.int .i64 (num b 1:Nat))).setCell ⟨p,2,none⟩ (.slice A n c)) b p A n c:=by
 obtain ⟨h1,h2⟩:=h.box p rfl
 have hne:∀ g o,A=some ⟨g,o,none⟩→g≠p:=fun g o e=>(hB.2 g o e).2 p rfl
 have hset:∀ (V:World) i u j,j≠p→(V.setCell ⟨p,i,none⟩ u).heap[j]?=V.heap[j]?:=fun V i u j hj=>Below.heap_setCell _ _ _ _ (fun e=>hj e)
 have hw:=h.bel.size
 refine ⟨?_,?_,h1,?_,fun g o e=>(hB.2 g o e).1,?_⟩
 ·rw [hset _ _ _ _ (by omega),hset _ _ _ _ (by omega),hset _ _ _ _ (by omega)]
  exact h.zero
 ·exact F.heap_set (F.heap_set (F.heap_set h2 0 _) 1 _) 2 _
 ·have:=bts_set (bts_set (bts_set hB.1 hne 0 (.int .i64 (num b 0:Nat))) hne 1 (.int .i64 (num b 1:Nat))) hne 2 (.slice A n c)
  simpa using this
 ·exact ((h.bel.setCell (p:=⟨p,0,none⟩) (by simp;omega) _).setCell (p:=⟨p,1,none⟩) (by simp;omega) _).setCell (p:=⟨p,2,none⟩) (by simp;omega) _
end Go.Proofs.YtkganhafbjgndaaGreatRR.A
namespace Go.Proofs.YtkganhafbjgndaaGreatRR.A
open Go.RowKit
set_option linter.unusedVariables false
def DecP (w:World) (b:List UInt8):Bool→Ending→World→Prop
 | true=>Said w (num b 0) (num b 1) (rep b)
 | false=>NoSec w
theorem info24:(Tryz.prog.info? 156).map (·.size)=some 3:=by kernel_rfl
theorem ret11 {tmps:Array Value} {W:World} {g:Nat} {cs:Array Value} (hp:tmps.getD 2 undef=.pointer (some ⟨g,0,none⟩)) (hg:W.heap[g]?=some (.cells cs 156 (0,0))) (hs:cs.size=3) :
  (results Tryz.f140 tmps).run Tryz.prog W=.ok (.tuple #[.agg cs,tmps.getD 3 undef]) W:=by
 rw [results_cell_tmp (p:=2) (u:=3) (ty:=156) rfl,hp]
 have h:=run_loadVar_row (P:=Tryz.prog) W g 156 156 cs (0,0) _ hg Tryz.underlying156 rfl (by rw [info24,hs])
 simp only [asAddr,Sem.run_pure,Result.andThen_ok,h]
set_option maxRecDepth 20000 in
set_option maxHeartbeats 2000000 in
theorem decode_128 {w:World} {B c:Nat} {A:Option Addr} {b:List UInt8} {r:Bool} (h:F.Bts w B A 128 c b) (hB:B≤w.heap.size) (hl:len b≤96) (hr:r=true ↔ IsSec b):Calls Tryz.prog 140 #[.slice A 128 c] w (DecP w b r):=by
 have HRI:=Lib.hid hr
 clear hr
 obtain ⟨bb,off,rfl,hbb,hcell⟩:=h.at_ (by omega)
 have H:=Lib.hid (h.more hB)
 have hc12:∀ o,(w.alloc o).cell? ⟨bb,off+12,none⟩=some (.int .u8 (len b:Int)):=fun o=>((box_below w o).cell (by show bb < _;omega)).trans (hcell 12 (by omega))
 have hlt:=len_lt b
 have hcap:=h.cap
 have hlim:=h.lim
 unfold maxLen at hlim
 have HLN:=Lib.hid h.len
 have HT:=Lib.hid ((h.more hB).tail (s:=4) (by omega))
 rw [if_neg (by omega)] at HT
 obtain ⟨m,hm⟩:∃ m,len b=m:=⟨_,rfl⟩
 have HM:=Lib.hid hm
 rw [hm] at hc12 hl hlt
 clear h hcell hm
 go_enter Tryz.func140,Tryz.ntmps140
 go_wp2_with fail
 refine (F.read_any _ _ _ w.heap.size (b.drop 4) _ (HT.out.below (by go_grown)) (by simp)).mono ?_
 rintro e w1 ⟨rfl,hf1,hb1⟩
 clear hc12
 have HR:Hid (F.Bts w w.heap.size (some ⟨bb,off+13,none⟩) m (c - 13) (rep b)):=by
  have h1:=H.out.tail (s:=13) (by omega)
  rw [if_neg (by omega)] at h1
  have h2:=h1.head (s:=m) (by omega)
  rw [← HM.out] at h2 ⊢
  exact h2
 have HS0:Hid (St w w1.drew b 0 none):=by
  have hs1:(w.alloc (Obj.cells #[.int .i64 0,.int .i64 0,.slice none 0 0] 156)).heap.size=w.heap.size+1:=by simp
  rw [hs1] at hf1 hb1
  refine St.drew ⟨hf1,?_,(box_below w _).trans (hb1.mono (by omega)),fun p hp=>by cases hp⟩
  rw [hb1.block _ (by omega)]
  exact heap_alloc_new w _
 have b0:(0:Int)≤(m:Int):=by omega
 have b1:(13:Int)+(m:Int)≤(c:Int):=by omega
 have b2:(13:Int)≤13+(m:Int):=by omega
 have b3:IntKind.i64.wrap (13+(m:Int))=13+(m:Int):=by rw [IntKind.wrap_i64];omega
 have b4:(0:Int)≤13+(m:Int):=by omega
 have b5:(13:Int)≤(c:Int):=by omega
 have b6:(13+(m:Int)).toNat - 13=m:=by omega
 clear hf1 hb1
 go_upto_region 7 with fail
 go_cut [6] from 23 to 32 (fun s6 wx=>∃ p A n c',s6=.pointer (some ⟨p,0,none⟩)∧Hid (Dn w wx b p A n c'))
 case first =>
  go_region_with (first
   | (go_at_call 155;refine (num_st 0 (by omega) HLN.out HS0.out).mono ?_;rintro e w2 ⟨rfl,h2⟩;have HS1:=Lib.hid h2;clear h2)
   | (go_at_call 155;refine (num_st 0 (by omega) HLN.out (HS0.out.alloc w1.heap.size rfl)).mono ?_;rintro e w2 ⟨rfl,h2⟩;have HS1:=Lib.hid h2;clear h2)
   | (go_at_call 155;refine (num_st 1 (by omega) HLN.out HS1.out).mono ?_;rintro e w3 ⟨rfl,h3⟩;have HS2:=Lib.hid h3;clear h3)
   | (go_at_call 155;refine (num_st 1 (by omega) HLN.out (HS1.out.alloc w2.heap.size rfl)).mono ?_;rintro e w3 ⟨rfl,h3⟩;have HS2:=Lib.hid h3;clear h3)
   | (go_at_call 145;refine (clone_st HR.out hl HS2.out).mono ?_;rintro e w4 ⟨A',n',c',rfl,hB4,h4⟩;have HS3:=Lib.hid h4;clear h4;have HB4:=Lib.hid hB4;clear hB4;try (obtain ⟨z0,z1,z2,f0,f1,f2⟩:=HS3.out.cells))
   | (go_at_call 145;refine (clone_st HR.out hl (HS2.out.alloc w3.heap.size rfl)).mono ?_;rintro e w4 ⟨A',n',c',rfl,hB4,h4⟩;have HS3:=Lib.hid h4;clear h4;have HB4:=Lib.hid hB4;clear hB4;try (obtain ⟨z0,z1,z2,f0,f1,f2⟩:=HS3.out.cells)))
  all_goals (go_wp2_with fail;go_meet;first | exact ⟨_,_,_,_,rfl,Dn.new HS3.out HB4.out⟩ | exact ⟨_,_,_,_,rfl,Dn.put HS3.out HB4.out⟩)
 case rest =>
  obtain ⟨p,A',n',c',rfl,HD⟩:=hcut
  clear HS0 HR b0 b1 b2 b3 b4 b5 b6
  have k0:=F.cell_in HD.out.seat 0
  have k1:=F.cell_in HD.out.seat 1
  have k2:=F.cell_in HD.out.seat 2
  have hn':n'=m:=by rw [← HD.out.bts.len,rep_len HLN.out (by rw [HM.out];exact hl),HM.out]
  subst hn'
  have hs0:=HD.out.bel.size
  have hzl:=F.lt_of_heap HD.out.zero
  have hpl:=F.lt_of_heap HD.out.seat
  cases hok:ok (num b 0) (num b 1) n' with
  | false =>
   obtain rfl:r=false:=by
    rw [Bool.eq_false_iff]
    intro e
    have:=(HRI.out.1 e).2.2.1
    rw [HM.out,hok] at this
    cases this
   have HOK:=Lib.hid hok
   clear hok
   go_wp2_with fail
   refine (encode_no _ _ _ _ _ _ HOK.out).mono ?_
   rintro e w3 ⟨rfl,hb3⟩
   have HZ:Hid (w3.heap[w.heap.size]?=some (.cells Z24 156 (0,0))):=(hb3.block _ hzl).trans HD.out.zero
   have HBF:Hid (Below w.heap.size w w3):=HD.out.bel.trans (hb3.mono hs0)
   have z0:=F.cell_in HZ.out 0
   have z1:=F.cell_in HZ.out 1
   have z2:=F.cell_in HZ.out 2
   have f0:=F.free_in HZ.out 0
   have f1:=F.free_in HZ.out 1
   have f2:=F.free_in HZ.out 2
   clear hb3 k0 k1 k2
   go_wp2_with fail
   try simp only [Exit.inBlock,Exit.then]
   refine bodyPost_ret (ret11 rfl (F.heap_set (F.heap_set (F.heap_set HZ.out 0 _) 1 _) 2 _) rfl) rfl ?_
   exact ⟨rfl,by have h0:=HBF.out;go_grown⟩
  | true =>
   have HOK:=Lib.hid hok
   clear hok
   go_wp2_with fail
   refine (encode_yes (num b 0) (num b 1) A' n' c' _ (rep b) _ HD.out.bts (Nat.le_refl _) HOK.out).mono ?_
   rintro e w3 ⟨v,rfl,hm⟩
   have hb3:=hm.bel
   have HZ:Hid (w3.heap[w.heap.size]?=some (.cells Z24 156 (0,0))):=(hb3.block _ hzl).trans HD.out.zero
   have HP:Hid (w3.heap[p]?=some (.cells #[.int .i64 (num b 0:Nat),.int .i64 (num b 1:Nat),.slice A' n' c'] 156 (0,0))):=(hb3.block _ hpl).trans HD.out.seat
   have HBF:Hid (Below w.heap.size w w3):=HD.out.bel.trans (hb3.mono hs0)
   have HRB:Hid (F.Bts w3 w3.heap.size A' n' c' (rep b)):=(HD.out.bts.below hb3).more hb3.size
   have z0:=F.cell_in HZ.out 0
   have z1:=F.cell_in HZ.out 1
   have z2:=F.cell_in HZ.out 2
   have f0:=F.free_in HZ.out 0
   have f1:=F.free_in HZ.out 1
   have f2:=F.free_in HZ.out 2
   have s0:=F.cell_in HP.out 0
   have s1:=F.cell_in HP.out 1
   have s2:=F.cell_in HP.out 2
   obtain ⟨A3,n3,c3,rfl,h3⟩:=hm.holds
   have HE:=Lib.hid (equal_any (w:=w3) (H.out.below HBF.out) h3)
   clear hb3 hm h3 k0 k1 k2
   have hne:w.heap.size≠p:=by have:=HD.out.gt;omega
   have HFAR:Hid (∀ g o,A'=some ⟨g,o,none⟩→g≠w.heap.size):=fun g o e=>by have:=HD.out.far g o e;omega
   by_cases he:b=sec (num b 0) (num b 1) (rep b)
   ·obtain rfl:r=true:=HRI.out.2 ⟨HLN.out,by rw [HM.out];exact hl,by rw [HM.out];exact HOK.out,he⟩
    have HDC:Hid (decide (b=sec (num b 0) (num b 1) (rep b))=true):=by show _=_;rw [decide_eq_true_eq];exact he
    rw [HDC.out] at HE
    clear he HDC
    go_wp2_with fail
    refine HE.out.mono ?_
    rintro e w4 ⟨rfl,rfl⟩
    go_wp2_with fail
    try simp only [Exit.inBlock,Exit.then]
    refine bodyPost_ret (ret11 rfl (F.heap_set (F.heap_set (F.heap_set HZ.out 0 _) 1 _) 2 _) rfl) rfl ?_
    refine ⟨A',n',c',rfl,?_,by have h0:=HBF.out;go_grown⟩
    have:=bts_set (bts_set (bts_set HRB.out HFAR.out 0 (.int .i64 (num b 0:Nat))) HFAR.out 1 (.int .i64 (num b 1:Nat))) HFAR.out 2 (.slice A' n' c')
    simpa using this
   ·obtain rfl:r=false:=by
     rw [Bool.eq_false_iff]
     intro e
     exact he (HRI.out.1 e).2.2.2
    have HDC:Hid (decide (b=sec (num b 0) (num b 1) (rep b))=false):=by show _=_;rw [decide_eq_false_iff_not];exact he
    rw [HDC.out] at HE
    clear he HDC
    go_wp2_with fail
    refine HE.out.mono ?_
    rintro e w4 ⟨rfl,rfl⟩
    go_wp2_with fail
    try simp only [Exit.inBlock,Exit.then]
    refine bodyPost_ret (ret11 rfl (F.heap_set (F.heap_set (F.heap_set HZ.out 0 _) 1 _) 2 _) rfl) rfl ?_
    exact ⟨rfl,by have h0:=HBF.out;go_grown⟩
theorem decode_any {w:World} {B n c:Nat} {A:Option Addr} {b:List UInt8} {r:Bool} (h:F.Bts w B A n c b) (hB:B≤w.heap.size) (hr:r=true ↔ IsSec b):Calls Tryz.prog 140 #[.slice A n c] w (DecP w b r):=by
 by_cases hn:n=128
 ·subst hn
  by_cases hl:len b≤96
  ·exact decode_128 h hB hl hr
  ·obtain rfl:r=false:=by
    rw [Bool.eq_false_iff]
    intro e
    exact hl (hr.1 e).2.1
   exact decode_long h hB (by omega)
 ·obtain rfl:r=false:=by
   rw [Bool.eq_false_iff]
   intro e
   exact hn (h.len.symm.trans (hr.1 e).1)
  exact decode_short A n c w hn
end Go.Proofs.YtkganhafbjgndaaGreatRR.A
