/- Numbers and frames of bytes (field), walked. -/
import Derived.Test.YtkganhafbjgndaaGreatRRRows
import Derived.WalkKit
import Derived.ProofKit
import Derived.Below
import Derived.Laws.OwnMore
import Derived.Laws.IdiomStrings
import Derived.Laws.BytesArg
import Derived.Maps.AppendAt
import Derived.Deep.AppendLies
import Derived.Lib.Hide
import Derived.Laws.BitsAllLaws
import Derived.Lib.AppendZeros
import Derived.Lib.SliceRun
import Derived.Laws.MakeOwn
import Derived.OwnWalk
import Derived.RangeFuncBox
import Derived.RangeFuncLeaves
import Derived.RangeFuncWrites
import Derived.Shelf.Abstract
import Derived.OwnWalkIn
import Derived.TacticsInMore
import Derived.LoopNIn
import Derived.LoopIn
namespace Go.Proofs.YtkganhafbjgndaaGreatRR.F
def lit:Nat→Nat→List UInt8
 | 0,_=>[]
 | k+1,n=>UInt8.ofNat n :: lit k (n / 256)
def big:List UInt8→Nat
 | []=>0
 | b :: l=>b.toNat+256 * big l
theorem lit_length (k n:Nat):(lit k n).length=k:=by
 induction k generalizing n with
 | zero=>rfl
 | succ k ih=>simp [lit,ih]
theorem big_lt (l:List UInt8):big l<256 ^ l.length:=by
 induction l with
 | nil=>simp [big]
 | cons b l ih =>
  have:=b.toNat_lt
  simp only [big,List.length_cons,Nat.pow_succ]
  omega
theorem big_lit (k n:Nat):big (lit k n)=n % 256 ^ k:=by
 induction k generalizing n with
 | zero=>simp [lit,big,Nat.mod_one]
 | succ k ih =>
  have e:(256:Nat) ^ (k+1)=256 * 256 ^ k:=by rw [Nat.pow_succ,Nat.mul_comm]
  rw [e,Nat.mod_mul]
  simp only [lit,big,ih,UInt8.toNat_ofNat']
theorem lit_snoc (k n:Nat):lit (k+1) n=lit k n++[UInt8.ofNat (n / 256 ^ k)]:=by
 induction k generalizing n with
 | zero=>simp [lit]
 | succ k ih =>
  show UInt8.ofNat n :: lit (k+1) (n / 256)=(UInt8.ofNat n :: lit k (n / 256))++[UInt8.ofNat (n / 256 ^ (k+1))]
  rw [ih,Nat.div_div_eq_div_mul,Nat.pow_succ,Nat.mul_comm 256]
  rfl
def gath (l:List UInt8):Nat:=l.foldl (fun n b=>n * 256+b.toNat) 0
theorem gath_rev (l:List UInt8):gath l.reverse=big l:=by
 unfold gath
 induction l with
 | nil=>rfl
 | cons b l ih =>
  rw [List.reverse_cons,List.foldl_append,ih]
  simp [big]
  omega
theorem gath_snoc (l:List UInt8) (b:UInt8):gath (l++[b])=gath l * 256+b.toNat:=by simp [gath]
theorem gath_lt (l:List UInt8):gath l<256 ^ l.length:=by
 have:=big_lt l.reverse
 rwa [← gath_rev,List.reverse_reverse,List.length_reverse] at this
def zs (s:Nat):Nat:=(s >>> 1) ^^^ ((s &&& 1) * 3988292384)
def zsN:Nat→Nat→Nat
 | 0,s=>s
 | k+1,s=>zs (zsN k s)
theorem zs_lt {s:Nat} (h:s<4294967296):zs s<4294967296:=by
 have h1:s >>> 1<2 ^ 32:=by rw [Nat.shiftRight_eq_div_pow];omega
 have h2:(s &&& 1) * 3988292384<2 ^ 32:=by rw [Nat.and_one_is_mod];omega
 exact Nat.xor_lt_two_pow h1 h2
theorem zsN_lt {s:Nat} (k:Nat) (h:s<4294967296):zsN k s<4294967296:=by
 induction k with
 | zero=>exact h
 | succ k ih=>exact zs_lt ih
def bs (s:Nat) (b:UInt8):Nat:=zsN 8 (s ^^^ b.toNat)
theorem xorb_lt {s:Nat} (h:s<4294967296) (b:UInt8):s ^^^ b.toNat<4294967296:=by
 have:=b.toNat_lt
 exact Nat.xor_lt_two_pow (n:=32) h (by omega)
theorem bs_lt {s:Nat} (h:s<4294967296) (b:UInt8):bs s b<4294967296:=zsN_lt 8 (xorb_lt h b)
def st (l:List UInt8):Nat:=l.foldl bs 4294967295
theorem st_lt (l:List UInt8):st l<4294967296:=by
 have:∀ (l:List UInt8) (s:Nat),s<4294967296→l.foldl bs s<4294967296:=by
  intro l
  induction l with
  | nil=>intro s h;exact h
  | cons b l ih=>intro s h;exact ih _ (bs_lt h b)
 exact this l _ (by omega)
theorem st_snoc (l:List UInt8) (b:UInt8):st (l++[b])=bs (st l) b:=by simp [st]
def crc (l:List UInt8):Nat:=4294967295 - st l
theorem crc_lt (l:List UInt8):crc l<4294967296:=by unfold crc;omega
theorem take_snoc {l:List UInt8} {k:Nat} (h:k<l.length):l.take (k+1)=l.take k++[l[k]?.getD 0]:=by
 rw [List.take_succ_eq_append_getElem h];simp [h]
theorem not_u32 {s:Nat} (h:s<4294967296):s ^^^ 4294967295=4294967295 - s:=by
 have h1:=BitVec.toNat_not (x:=BitVec.ofNat 32 s)
 rw [BitVec.not_def,BitVec.toNat_xor,BitVec.toNat_allOnes,BitVec.toNat_ofNat,Nat.mod_eq_of_lt (by omega)] at h1
 rw [Nat.xor_comm]
 exact h1
end Go.Proofs.YtkganhafbjgndaaGreatRR.F
namespace Go.Proofs.YtkganhafbjgndaaGreatRR.F
theorem lit_div (m n:Nat):lit m n++[UInt8.ofNat (n / 256 ^ m)]=lit (m+1) n:=(lit_snoc m n).symm
end Go.Proofs.YtkganhafbjgndaaGreatRR.F
namespace Go.Proofs.YtkganhafbjgndaaGreatRR.F
open Go.RowKit
theorem ret1 {k:IntKind} {a b:Int} (h:a=b):Ending.returned (.int k a)=.returned (.int k b):=by rw [h]
structure Bts (w:World) (B:Nat) (A:Option Addr) (n c:Nat) (l:List UInt8):Prop where
 len:l.length=n
 cap:n≤c
 lim:c≤maxLen
 nil:A=none→c=0
 at_:0<n→∃ b off,A=some ⟨b,off,none⟩∧b<B∧∀ j,j<n→w.cell? ⟨b,off+j,none⟩=some (.int .u8 ((l[j]?.getD 0).toNat:Int))
section
variable {w w':World} {B B' n c:Nat} {A:Option Addr} {l:List UInt8}
theorem Bts.keep (h:Bts w B A n c l) (hk:∀ p:Addr,p.block<B→w'.cell? p=w.cell? p):Bts w' B A n c l :=
 ⟨h.len,h.cap,h.lim,h.nil,fun hn=>by
  obtain ⟨b,off,e,hb,hc⟩:=h.at_ hn
  exact ⟨b,off,e,hb,fun j hj=>(hk _ hb).trans (hc j hj)⟩⟩
theorem Bts.more (h:Bts w B A n c l) (hB:B≤B'):Bts w B' A n c l :=
 ⟨h.len,h.cap,h.lim,h.nil,fun hn=>by
  obtain ⟨b,off,e,hb,hc⟩:=h.at_ hn
  exact ⟨b,off,e,by omega,hc⟩⟩
theorem Bts.below (h:Bts w B A n c l) (hb:Below B w w'):Bts w' B A n c l:=h.keep fun _ hp=>hb.cell hp
theorem Bts.nil_ (w:World) (B:Nat):Bts w B none 0 0 []:=⟨rfl,Nat.le_refl _,by decide,fun _=>rfl,fun h=>absurd h (by omega)⟩
theorem Bts.cell (h:Bts w B A n c l) {k:Nat} (hk:k<n):∃ b off,A=some ⟨b,off,none⟩∧b<B∧w.cell? ⟨b,off+k,none⟩=some (.int .u8 ((l[k]?.getD 0).toNat:Int)):=by
 obtain ⟨b,off,e,hb,hc⟩:=h.at_ (by omega)
 exact ⟨b,off,e,hb,hc k hk⟩
theorem Bts.str (h:Bts w B A n c l) (W:World) (hW:∀ p:Addr,p.block<B→W.cell? p=w.cell? p):(convert 41 9 (.slice A n c)).run Tryz.prog W=.ok (.string ⟨l.toArray⟩) W:=by
 rcases Nat.eq_zero_or_pos n with h0 | h0
 ·subst h0
  have hl:l=[]:=List.length_eq_zero_iff.1 h.len
  subst hl
  rw [run_convert_bytes_string W 41 9 5 _ 0 c Tryz.underlying41 Tryz.underlying5 Tryz.underlying9]
  cases A<;>simp [Conv.bytesToString,loadCells]
  all_goals rfl
 ·obtain ⟨b,off,rfl,hb,hc⟩:=h.at_ h0
  obtain rfl:=h.len
  refine run_convert_bytes_back W 41 9 5 ⟨b,off,none⟩ c l Tryz.underlying41 Tryz.underlying5 Tryz.underlying9 fun j hj=>?_
  have e:(⟨b,off,none⟩:Addr).add j=⟨b,off+j,none⟩:=by unfold Addr.add;split<;>simp_all
  rw [e,hW _ hb,hc j hj]
  simp [hj]
end
end Go.Proofs.YtkganhafbjgndaaGreatRR.F
namespace Go.Proofs.YtkganhafbjgndaaGreatRR.F
open Go.RowKit
theorem bit_in {s:Nat} (hs:s<4294967296) (b:UInt8):bits .xor .u32 (s:Int) ((b.toNat:Int) % 4294967296)=((s ^^^ b.toNat:Nat):Int):=by
 have:=b.toNat_lt
 have e:((b.toNat:Int) % 4294967296)=((b.toNat:Nat):Int):=by omega
 rw [e,u32_xor_nat _ _ hs (by omega)]
theorem bit_step {s:Nat} (hs:s<4294967296):bits .xor .u32 ((s:Int) / 2) (bits .and .u32 (s:Int) 1 * 3988292384 % 4294967296)=((zs s:Nat):Int):=by
 have h1:bits .and .u32 (s:Int) 1=((s &&& 1:Nat):Int):=u32_and_nat s 1 hs (by omega)
 have h2:s &&& 1<2:=by rw [Nat.and_one_is_mod];omega
 have h3:s >>> 1<4294967296:=by rw [Nat.shiftRight_eq_div_pow];omega
 have e1:((s:Int) / (2:Int))=Int.ofNat (s >>> 1):=by rw [Nat.shiftRight_eq_div_pow];simp
 rw [h1,e1]
 unfold zs
 generalize s &&& 1=x at *
 generalize s >>> 1=y at *
 have e2:(x:Int) * 3988292384 % 4294967296=((x * 3988292384:Nat):Int):=by omega
 rw [e2,Int.ofNat_eq_natCast,u32_xor_nat _ _ h3 (by omega)]
theorem bit_not {s:Nat} (hs:s<4294967296):bits .xor .u32 IntKind.u32.max (s:Int)=((4294967295 - s:Nat):Int):=by
 have h:=u32_xor_nat 4294967295 s (by omega) hs
 have e:IntKind.u32.max=((4294967295:Nat):Int):=rfl
 rw [e,h,Nat.xor_comm,not_u32 hs]
set_option maxRecDepth 20000 in
set_option maxHeartbeats 1000000 in
theorem sum_any (A:Option Addr) (n c B:Nat) (l:List UInt8) (w:World) (h:Bts w B A n c l) (hn:n≤281474976710656) :
  Calls Tryz.prog 132 #[.slice A n c] w fun e w'=>e=.returned (.int .u32 (crc l))∧w=w':=by
 have HL:=Lib.hid h.len
 have H:=Lib.hid h
 clear h
 go_enter Tryz.func132,Tryz.ntmps132
 go_wp2
 go_loop [3,9] (fun s i=>∃ k:Nat,k≤n∧i=.int .i64 k∧s=.int .u32 (st (l.take k):Nat)) (fun _ i=>n - (intOf i).toNat)
 case atStart=>exact ⟨0,Nat.zero_le _,rfl,rfl⟩
 case round =>
  obtain ⟨k,hk,rfl,rfl⟩:=hrel
  by_cases hlt:k<n
  ·obtain ⟨b,off,rfl,hb,hc⟩:=H.out.cell hlt
   go_wp2
   rw [bit_in (st_lt _)]
   go_loop [3,17] (fun s i=>∃ m:Nat,m≤8∧i=.int .i64 m∧s=.int .u32 (zsN m (st (l.take k) ^^^ (l[k]?.getD 0).toNat):Nat)) (fun _ i=>8 - (intOf i).toNat)
   case atStart=>exact ⟨0,Nat.zero_le _,rfl,rfl⟩
   case round =>
    obtain ⟨m,hm,rfl,rfl⟩:=hrel
    have hs:=zsN_lt m (xorb_lt (st_lt (l.take k)) (l[k]?.getD 0))
    by_cases hm8:m<8
    ·go_wp2
     go_round
     case rel=>exact ⟨m+1,by omega,by go_num,by rw [bit_step hs];rfl⟩
     case measure=>simp [intOf];omega
    ·obtain rfl:m=8:=by omega
     go_wp2
     go_round
     case rel=>exact ⟨k+1,by omega,by go_num,by rw [take_snoc (by rw [HL.out];exact hlt),st_snoc];rfl⟩
     case measure=>simp [intOf];omega
  ·obtain rfl:k=n:=by omega
   go_wp2
   go_ret
   exact ⟨ret1 (by rw [bit_not (st_lt _),List.take_of_length_le (by rw [HL.out];omega)];rfl),rfl⟩
end Go.Proofs.YtkganhafbjgndaaGreatRR.F
namespace Go.Proofs.YtkganhafbjgndaaGreatRR.F
open Go.RowKit
set_option linter.unusedVariables false
theorem heap_set {w:World} {g:Nat} {t:TypeId} {cs:Array Value} (h:w.heap[g]?=some (.cells cs t (0,0))) (i:Nat) (u:Value):(w.setCell ⟨g,i,none⟩ u).heap[g]?=some (.cells (cs.setIfInBounds i u) t (0,0)):=by
 simp [World.setCell,Array.getElem?_modify,h]
theorem cell_in {w:World} {g:Nat} {t:TypeId} {cs:Array Value} (h:w.heap[g]?=some (.cells cs t (0,0))) (i:Nat):w.cell? ⟨g,i,none⟩=cs[i]?:=cell_of_row w g i cs t (0,0) h
theorem free_in {w:World} {g:Nat} {t:TypeId} {cs:Array Value} (h:w.heap[g]?=some (.cells cs t (0,0))) (i:Nat):w.frozen? ⟨g,i,none⟩=false:=by
 simp [World.frozen?,h]
def bv (b:UInt8):Value:=.int .u8 (b.toNat:Int)
def spr (k n m:Nat):Array Value:=((lit m n).map bv++List.replicate (k - m) (Value.int .u8 0)).toArray
theorem spr_size {k n m:Nat} (h:m≤k):(spr k n m).size=k:=by simp [spr,lit_length];omega
theorem spr_set {k n m:Nat} (h:m<k):(spr k n m).setIfInBounds m (bv (UInt8.ofNat (n / 256 ^ m)))=spr k n (m+1):=by
 obtain ⟨d,rfl⟩:∃ d,k=m+1+d:=⟨k - m - 1,by omega⟩
 have e1:m+1+d - m=d+1:=by omega
 have e2:m+1+d - (m+1)=d:=by omega
 have hl:=lit_length m n
 apply Array.ext'
 simp only [spr,e1,e2,List.replicate_succ,← lit_div,List.map_append,Array.toList_setIfInBounds]
 rw [List.set_append_right _ _ (by simp [hl])]
 simp [hl]
theorem Tryz.info5:(Tryz.prog.info? 5).map (fun i=>(i.zero,i.size,i.bytes))=some (some (.int .u8 0),1,1):=by kernel_rfl
theorem make_run {n:Nat} (k:Nat) (hk:k≤4) (w:World):(Instr.makeSlice 41 (.int .i64 k) (.int .i64 k)).run Tryz.prog w=.ok (.slice (some ⟨w.heap.size,0,none⟩) k k) (w.alloc (.cells (spr k n 0) 5)):=by
 obtain ⟨i0,hi,hz0,hz1,hz2⟩:=info_parts Tryz.info5
 have hr:=run_make (P:=Tryz.prog) w 41 5 i0 _ Tryz.underlying41 hi hz0 .i64 .i64 k k (by omega) (by omega) (by rw [hz2];omega) (by omega)
 rw [hr,hz1]
 have e:madeCells (Value.int .u8 0).cells ((k:Int).toNat * 1)=spr k n 0:=by
  apply Array.ext'
  have h1:(Value.int .u8 0).cells=#[Value.int .u8 0]:=rfl
  rw [h1,toList_madeCells_one]
  simp [spr,lit]
 rw [e]
 simp
theorem shr_byte (n m:Nat):(n:Int) / 2 ^ (8 * m) % 256=((UInt8.ofNat (n / 256 ^ m)).toNat:Int):=by
 have e:(2:Nat) ^ (8 * m)=256 ^ m:=by rw [Nat.pow_mul]
 rw [UInt8.toNat_ofNat',← e]
 simp
set_option maxRecDepth 20000 in
set_option maxHeartbeats 1000000 in
theorem spread_any (n k:Nat) (w:World) (hn:n<4294967296) (hk:k≤4) :
  Calls Tryz.prog 173 #[.int .i64 n,.int .i64 k] w fun e w'=>e=.returned (.slice (some ⟨w.heap.size,0,none⟩) k k)∧w'.heap[w.heap.size]?=some (.cells (spr k n k) 5 (0,0))∧Below w.heap.size w w':=by
 have hmk:=make_run (n:=n) k hk w
 go_enter Tryz.func173,Tryz.ntmps173
 go_wp2
 clear hmk
 go_loopw [10] (fun i wr=>∃ m:Nat,m≤k∧i=.int .i64 m∧wr.heap[w.heap.size]?=some (.cells (spr k n m) 5 (0,0))∧Below w.heap.size w wr) (fun i _=>k - (intOf i).toNat)
 case atStart=>exact ⟨0,Nat.zero_le _,rfl,heap_alloc_new w _,(Below.refl _ _).alloc (Nat.le_refl _) _⟩
 case round =>
  obtain ⟨m,hm,rfl,hh,hb⟩:=hrel
  have HH:=Lib.hid hh
  have hc:=cell_in hh m
  have hf:=free_in hh m
  clear hh
  by_cases hlt:m<k
  ·obtain ⟨v,hv⟩:∃ v,(spr k n m)[m]?=some v:=⟨_,Array.getElem?_eq_getElem (by rw [spr_size hm];exact hlt)⟩
   rw [hv] at hc
   clear hv
   go_wp2
   go_roundw
   case rel =>
    refine ⟨m+1,by omega,by go_num,?_,hb.setCell (p:=⟨w.heap.size,m,none⟩) (Nat.le_refl _) _⟩
    rw [heap_set HH.out,← spr_set hlt,shr_byte]
    rfl
   case measure=>simp [intOf];omega
  ·obtain rfl:m=k:=by omega
   go_wp2
   go_ret
   exact ⟨rfl,HH.out,hb⟩
structure Mine (w w':World) (v:Value) (l:List UInt8):Prop where
 own:w'.ownsRow w.heap.size 5 1 v l.length (l.map bv)
 bel:Below w.heap.size w w'
def GivesMine (w:World) (l:List UInt8) (e:Ending) (w':World):Prop:=∃ v,e=.returned v∧Mine w w' v l
def Room (v:Value) (t:Nat):Prop:=t≤140737488355328∨∃ g n cap,v=.slice (some ⟨g,0,none⟩) n cap∧t≤cap
def GivesRoom (w:World) (t:Nat) (e:Ending) (w':World):Prop:=∃ v,e=.returned v∧Mine w w' v []∧Room v t
theorem grow_run (n:Nat) (hn:n≤281474976710656) (h0:0<n) (w:World):(Builtin.append_ #[41,3] 41 #[.slice none 0 0,.int .i64 (n:Int)]).run Tryz.prog w =
  .ok (.slice (some ⟨w.heap.size,0,none⟩) n (grownCap w n 0 5)) (w.drew.alloc (.cells (Builtin.zeroCells (Value.int .u8 0).cells n++Builtin.zeroCells (Value.int .u8 0).cells (grownCap w n 0 5 - n)) 5)):=by
 obtain ⟨i0,hi,hz0,hz1,hz2⟩:=info_parts Tryz.info5
 exact Lib.run_append_nil_zeros w 41 3 41 5 i0 _ .i64 .i64 Tryz.underlying41 Tryz.underlying3 hi hz0 n h0 (by omega) (by omega) (by rw [hz2];omega)
set_option maxRecDepth 20000 in
set_option maxHeartbeats 1000000 in
theorem grow_nil (n:Nat) (w:World) (hn:n≤281474976710656):Calls Tryz.prog 215 #[.slice none 0 0,.int .i64 n] w (GivesRoom w n):=by
 by_cases h0:n=0
 ·subst h0
  go_enter Tryz.func215,Tryz.ntmps215
  go_wp2
  go_ret
  exact ⟨_,rfl,⟨World.ownsRow_nil _ _ _ _,Below.refl _ _⟩,.inl (by omega)⟩
 ·have h1:0<n:=by omega
  have hr:=Lib.hid (grow_run n hn h1 w)
  have hcap:=grownCap_ge w n 0 5
  have hm:=grownCap_le_maxLen w n 0 5 (by unfold maxLen;omega)
  go_enter Tryz.func215,Tryz.ntmps215
  go_wp2_with (at_builtin;refine Lib.wpList_append_run _ rfl _ _ _ _ rfl _ _ rfl rfl _ _ hr.out ?_)
  go_ret
  refine ⟨_,rfl,⟨?_,((Below.refl _ w).alloc (Nat.le_refl _) _).drew⟩,.inr ⟨_,_,_,rfl,hcap⟩⟩
  refine World.ownsRow_made (e:=5) (size:=1) (base:=w.heap.size) w _ (grownCap w n 0 5) (Nat.le_refl _) hm ?_
  rw [Array.size_append,size_zeroCells,size_zeroCells]
  simp
  omega
def Holds (w:World) (B:Nat) (v:Value) (l:List UInt8):Prop:=∃ A n c,v=.slice A n c∧Bts w B A n c l
theorem Holds.below {w w':World} {B:Nat} {v:Value} {l:List UInt8} (h:Holds w B v l) (hb:Below B w w'):Holds w' B v l:=by
 obtain ⟨A,n,c,hv,h⟩:=h
 exact ⟨A,n,c,hv,h.below hb⟩
theorem Holds.more {w:World} {B B':Nat} {v:Value} {l:List UInt8} (h:Holds w B v l) (hB:B≤B'):Holds w B' v l:=by
 obtain ⟨A,n,c,hv,h⟩:=h
 exact ⟨A,n,c,hv,h.more hB⟩
theorem own_holds {w:World} {base:Nat} {v:Value} {l:List UInt8} (h:w.ownsRow base 5 1 v l.length (l.map bv)):Holds w w.heap.size v l:=by
 rcases h.2 with ⟨rfl,h0⟩ | ⟨g,cap,cur,rfl,hg,hh,hn,hm,hs,ht⟩
 ·have:l=[]:=List.length_eq_zero_iff.1 h0
  subst this
  exact ⟨_,_,_,rfl,Bts.nil_ _ _⟩
 ·refine ⟨_,_,_,rfl,rfl,hn,hm,(fun h=>by cases h),fun h0=>⟨g,0,rfl,(Array.getElem?_eq_some_iff.1 hh).1,fun j hj=>?_⟩⟩
  rw [Nat.zero_add,cell_in hh]
  have e:cur.toList[j]?=(l.map bv)[j]?:=by
   rw [← ht,List.getElem?_take,if_pos (by omega)]
  rw [← Array.getElem?_toList,e]
  simp [hj,bv]
theorem app_run {w:World} {base B n c:Nat} {v:Value} {A:Option Addr} {l l':List UInt8} (ty:TypeId) (hown:w.ownsRow base 5 1 v l.length (l.map bv)) (h:Bts w B A n c l') (hl:l.length+l'.length≤140737488355328) (hbase:base≤w.heap.size) :
  ∃ v' w',(Builtin.append_ #[41,41] ty #[v,.slice A n c]).run Tryz.prog w=.ok v' w'∧w'.ownsRow base 5 1 v' (l++l').length ((l++l').map bv)∧w.grownBy w' v.ownBlock:=by
 obtain ⟨i0,hi,hz0,hz1,hz2⟩:=info_parts Tryz.info5
 obtain rfl:=h.len
 have h1:∀ u∈l'.map bv,u.oneCell'=true:=by
  intro u hu
  obtain ⟨b,_,rfl⟩:=List.mem_map.1 hu
  rfl
 rcases A with _ | ad
 ·have hc:=h.nil rfl
  subst hc
  have h0:l'=[]:=List.length_eq_zero_iff.1 (by have:=h.cap;omega)
  subst h0
  refine ⟨v,w,?_,by simpa using hown,⟨rfl,rfl,rfl,Nat.le_refl _,fun _ _ _=>rfl⟩⟩
  rcases hown.2 with ⟨rfl,h0⟩ | ⟨g,cap,cur,rfl,_,_,hnc,_⟩
  ·simp [Builtin.append_,run_underlying Tryz.underlying41,sizeOf,typeInfo,hi,Builtin.lenOf,Builtin.firstCells]
  ·simp [Builtin.append_,run_underlying Tryz.underlying41,sizeOf,typeInfo,hi,Builtin.lenOf,Builtin.firstCells,hnc,storeCells]
 ·obtain ⟨v',w',hr,h2,h3,_⟩:=run_append_own (P:=Tryz.prog) w base 41 ty 5 i0 _ 1 1 Tryz.underlying41 hi hz0 hz1 hz2 rfl (by decide) v l.length (l.map bv) hown ad l'.length c (l'.map bv) (by simp)
   (fun j u hu=>by
    have hj:j<l'.length:=by
     have:=(List.getElem?_eq_some_iff.1 hu).1
     simpa using this
    obtain ⟨b,off,e,hb,hcell⟩:=h.at_ (by omega)
    cases e
    rw [Addr.add_lit,hcell j hj,← hu]
    simp [hj,bv]) h1 (by unfold maxLen;omega) (by omega) hbase
  exact ⟨v',w',hr,by simpa using h2,h3⟩
theorem app_room {w:World} {base B n c g cap m:Nat} {A:Option Addr} {l l':List UInt8} (ty:TypeId) (hown:w.ownsRow base 5 1 (.slice (some ⟨g,0,none⟩) m cap) l.length (l.map bv)) (h:Bts w B A n c l') (hl:l.length+l'.length≤cap) :
  ∃ w',(Builtin.append_ #[41,41] ty #[.slice (some ⟨g,0,none⟩) m cap,.slice A n c]).run Tryz.prog w=.ok (.slice (some ⟨g,0,none⟩) (l++l').length cap) w'∧w'.ownsRow base 5 1 (.slice (some ⟨g,0,none⟩) (l++l').length cap) (l++l').length ((l++l').map bv)∧w.grownBy w' (some g):=by
 obtain ⟨i0,hi,hz0,hz1,hz2⟩:=info_parts Tryz.info5
 obtain rfl:=h.len
 have h1:∀ u∈l'.map bv,u.oneCell'=true:=by
  intro u hu
  obtain ⟨b,_,rfl⟩:=List.mem_map.1 hu
  rfl
 rcases hown.2 with ⟨e,_⟩ | ⟨g',cap',cur,e,hbg,hg,hnc,hcm,hcs,htake⟩
 ·cases e
 cases e
 rcases A with _ | ad
 ·have hc:=h.nil rfl
  subst hc
  have h0:l'=[]:=List.length_eq_zero_iff.1 (by have:=h.cap;omega)
  subst h0
  refine ⟨w,?_,by simpa using hown,⟨rfl,rfl,rfl,Nat.le_refl _,fun _ _ _=>rfl⟩⟩
  simp [Builtin.append_,run_underlying Tryz.underlying41,sizeOf,typeInfo,hi,Builtin.lenOf,Builtin.firstCells,hnc,storeCells]
 ·have hr:=run_append_room (P:=Tryz.prog) w 41 ty 5 i0 Tryz.underlying41 hi g l.length cap cur hg ad l'.length c (l'.map bv) (by rw [hz1];simp)
   (fun j u hu=>by
    have hj:j<l'.length:=by
     have:=(List.getElem?_eq_some_iff.1 hu).1
     simpa using this
    obtain ⟨b,off,e,hb,hcell⟩:=h.at_ (by omega)
    cases e
    rw [Addr.add_lit,hcell j hj,← hu]
    simp [hj,bv]) h1 hl (by rw [hz1];simp [hcs];omega)
  rw [hz1] at hr
  have ha:(l++l').length=l.length+l'.length:=List.length_append
  rw [ha]
  refine ⟨_,hr,⟨by simp,.inr ⟨g,cap,_,rfl,hbg,setRow_heap w g cur _ 5 _ hg,hl,hcm,?_,?_⟩⟩,⟨rfl,rfl,rfl,by simp,fun k _ hk=>setRow_other w g k _ (fun e=>hk (by simp [e]))⟩⟩
  ·simp only [List.size_toArray,List.length_append,List.length_take,List.length_drop,Array.length_toList,List.length_map]
   omega
  ·rw [htake]
   simp only [List.map_append]
   exact List.take_left' (by simp)
theorem app_any {w:World} {base B n c t:Nat} {v:Value} {A:Option Addr} {l l':List UInt8} (ty:TypeId) (hown:w.ownsRow base 5 1 v l.length (l.map bv)) (h:Bts w B A n c l') (hr:Room v t) (hl:l.length+l'.length≤t) (hbase:base≤w.heap.size) :
  ∃ v' w',(Builtin.append_ #[41,41] ty #[v,.slice A n c]).run Tryz.prog w=.ok v' w'∧w'.ownsRow base 5 1 v' (l++l').length ((l++l').map bv)∧w.grownBy w' v.ownBlock∧Room v' t:=by
 rcases hr with hr | ⟨g,m,cap,rfl,hr⟩
 ·obtain ⟨v',w',h1,h2,h3⟩:=app_run ty hown h (by omega) hbase
  exact ⟨v',w',h1,h2,h3,.inl hr⟩
 ·obtain ⟨w',h1,h2,h3⟩:=app_room ty hown h (by omega)
  exact ⟨_,w',h1,h2,h3,.inr ⟨_,_,_,rfl,hr⟩⟩
def cat (xs:List (Value × List UInt8)) (k:Nat):List UInt8:=(xs.take k).flatMap (·.2)
theorem cat_succ {xs:List (Value × List UInt8)} {k:Nat} (h:k<xs.length):cat xs (k+1)=cat xs k++xs[k].2:=by
 unfold cat
 rw [List.take_succ_eq_append_getElem h]
 simp only [List.flatMap_append,List.flatMap_cons,List.flatMap_nil,List.append_nil]
theorem cat_le {xs:List (Value × List UInt8)} {k:Nat} (h:k≤xs.length):(cat xs k).length≤(cat xs xs.length).length:=by
 have h2:cat xs xs.length=cat xs k++(xs.drop k).flatMap (·.2):=by
  unfold cat
  rw [List.take_length,← List.flatMap_append,List.take_append_drop]
 rw [h2,List.length_append]
 omega
set_option maxRecDepth 20000 in
set_option maxHeartbeats 1000000 in
theorem concat_any (xs:List (Value × List UInt8)) (g c B:Nat) (w:World) (hg:g<w.heap.size) (hB:B≤w.heap.size) (hxs:xs.length≤4)
  (hc:∀ j (h:j<xs.length),w.cell? ⟨g,j,none⟩=some xs[j].1) (hh:∀ j (h:j<xs.length),Holds w B xs[j].1 xs[j].2) (hlen:(cat xs xs.length).length≤281474976710656) :
  Calls Tryz.prog 172 #[.slice (some ⟨g,0,none⟩) xs.length c] w (GivesMine w (cat xs xs.length)):=by
 have HC:=Lib.hid hc
 have HH:=Lib.hid hh
 clear hc hh
 go_enter Tryz.func172,Tryz.ntmps172
 go_wp2
 go_loop [3,11] (fun s i=>∃ k:Nat,k≤xs.length∧i=.int .i64 k∧s=.int .i64 ((cat xs k).length:Nat)) (fun _ i=>xs.length - (intOf i).toNat)
 case atStart=>exact ⟨0,Nat.zero_le _,rfl,rfl⟩
 case round =>
  obtain ⟨k,hk,rfl,rfl⟩:=hrel
  have hle:=cat_le hk
  by_cases hlt:k<xs.length
  ·have hcx:=HC.out k hlt
   obtain ⟨A,n,cc,hv,hB⟩:=HH.out k hlt
   rw [hv] at hcx
   have hs:=cat_succ hlt
   have hle':=cat_le (k:=k+1) hlt
   have hl:(cat xs (k+1)).length=(cat xs k).length+n:=by rw [hs,List.length_append,hB.len]
   have HL:=Lib.hid hl
   have hnn:(cat xs k).length+n≤281474976710656:=by omega
   clear hl hs hv hle'
   go_wp2
   go_round
   case rel=>exact ⟨k+1,by omega,by go_num,by rw [HL.out];go_num⟩
   case measure=>simp [intOf];omega
  ·obtain rfl:k=xs.length:=by omega
   clear hle
   go_wp2_with ((with_reducible refine (grow_nil _ _ hlen).mono ?_);rintro e w1 ⟨v,rfl,hm,hro⟩)
   go_loopw [6,27] (fun x i wr=>∃ k:Nat,∃ v,k≤xs.length∧i=.int .i64 k∧x=v∧Mine w wr v (cat xs k)∧Room v (cat xs xs.length).length) (fun _ i _=>xs.length - (intOf i).toNat)
   case atStart=>exact ⟨0,v,Nat.zero_le _,rfl,rfl,hm,hro⟩
   case round =>
    obtain ⟨k,v,hk,rfl,rfl,hm,hro⟩:=hrel
    by_cases hlt:k<xs.length
    ·have hcx:=(hm.bel.cell (p:=⟨g,k,none⟩) hg).trans (HC.out k hlt)
     obtain ⟨A,n,cc,hv,hb⟩:=HH.out k hlt
     rw [hv] at hcx
     have hle:=cat_le (k:=k+1) hlt
     have hs:=cat_succ hlt
     have hl:(cat xs k).length+xs[k].2.length≤(cat xs xs.length).length:=by rw [hs,List.length_append] at hle;omega
     obtain ⟨v',w',hr,ho,hgr,hro'⟩:=app_any 41 hm.own (hb.below (hm.bel.mono hB)) hro hl hm.bel.size
     rw [← hs] at ho
     have HR:=Lib.hid hr
     clear hr hs hv hle hl
     go_wp2_with (at_builtin;refine Lib.wpList_append_run _ rfl _ _ _ _ rfl _ _ rfl rfl _ _ HR.out ?_)
     go_roundw
     case rel=>exact ⟨k+1,v',by omega,by go_num,rfl,⟨ho,hm.bel.grown hgr hm.bel.size (fun j hj=>(hm.own.lt j hj).1)⟩,hro'⟩
     case measure=>simp [intOf];omega
    ·obtain rfl:k=xs.length:=by omega
     go_wp2
     go_ret
     exact ⟨_,rfl,hm⟩
end Go.Proofs.YtkganhafbjgndaaGreatRR.F
namespace Go.Proofs.YtkganhafbjgndaaGreatRR.F
open Go.RowKit
set_option linter.unusedVariables false
theorem spr_bts {w:World} {g k n:Nat} (h:w.heap[g]?=some (.cells (spr k n k) 5 (0,0))) (hk:k≤4):Bts w (g+1) (some ⟨g,0,none⟩) k k (lit k n) :=
 ⟨lit_length k n,Nat.le_refl _,by unfold maxLen;omega,(fun e=>by cases e),fun h0=>⟨g,0,rfl,by omega,fun j hj=>by
  rw [Nat.zero_add,cell_in h]
  have hl:=lit_length k n
  simp [spr,hl,hj,bv]⟩⟩
theorem lt_of_heap {w:World} {g:Nat} {o:Obj} (h:w.heap[g]?=some o):g<w.heap.size:=(Array.getElem?_eq_some_iff.1 h).1
theorem Mine.from_ {w W w':World} {v:Value} {l:List UInt8} (h:Mine W w' v l) (hb:Below w.heap.size w W):Mine w w' v l:=by
 refine ⟨⟨h.own.1,?_⟩,hb.trans (h.bel.mono hb.size)⟩
 rcases h.own.2 with h0 | ⟨g,cap,cur,e,hg,r⟩
 ·exact .inl h0
 ·exact .inr ⟨g,cap,cur,e,Nat.le_trans hb.size hg,r⟩
theorem Mine.holds {w w':World} {v:Value} {l:List UInt8} (h:Mine w w' v l):Holds w' w'.heap.size v l:=own_holds h.own
theorem holds_of {w:World} {B n c:Nat} {A:Option Addr} {l:List UInt8} (h:Bts w B A n c l):Holds w B (.slice A n c) l:=⟨_,_,_,rfl,h⟩
theorem below_alloc (w:World) (o:Obj):Below w.heap.size w (w.alloc o):=(Below.refl _ w).alloc (Nat.le_refl _) o
theorem concat2 {v0 v1:Value} {l0 l1:List UInt8} {W:World} {B:Nat} (h0:Holds W B v0 l0) (h1:Holds W B v1 l1) (hB:B≤W.heap.size) (hl:l0.length+l1.length≤281474976710656) :
  Calls Tryz.prog 172 #[.slice (some ⟨W.heap.size,0,none⟩) 2 2] (W.alloc (.cells #[v0,v1] 41)) (GivesMine (W.alloc (.cells #[v0,v1] 41)) (l0++l1)):=by
 have e:cat [(v0,l0),(v1,l1)] 2=l0++l1:=by simp [cat]
 have hb:=(below_alloc W (.cells #[v0,v1] 41)).mono hB
 rw [← e]
 refine concat_any [(v0,l0),(v1,l1)] W.heap.size 2 B _ (by simp) (by simp;omega) (by simp) ?_ ?_ (by show (cat _ 2).length≤_;rw [e,List.length_append];exact hl)
 ·intro j hj
  rw [World.cell?_alloc_mark]
  match j,hj with
  | 0,_=>rfl
  | 1,_=>rfl
 ·intro j hj
  match j,hj with
  | 0,_=>exact h0.below hb
  | 1,_=>exact h1.below hb
def Gives2 (w:World) (l:List UInt8) (e:Ending) (w':World):Prop:=∃ v,e=.returned (.tuple #[v,.int .i64 0])∧Mine w w' v l
set_option maxRecDepth 20000 in
set_option maxHeartbeats 1000000 in
theorem num_yes (A:Option Addr) (n c B x:Nat) (l:List UInt8) (w:World) (hx:x<4294967296) (h:Bts w B A n c l) (hB:B≤w.heap.size) (hn:n≤281474976700000) :
  Calls Tryz.prog 131 #[.slice A n c,.int .i64 x] w (Gives2 w (l++lit 4 x)):=by
 have h0:¬ ((x:Int)<0):=by omega
 have h1:¬ ((x:Int) > 4294967295):=by omega
 have H:=Lib.hid h
 clear h
 go_enter Tryz.func131,Tryz.ntmps131
 go_wp2_with fail
 refine (spread_any x 4 _ hx (by omega)).mono ?_
 rintro e w1 ⟨rfl,hh,hb⟩
 have HH:=Lib.hid hh
 clear hh
 have hB1:w.heap.size+1≤w1.heap.size:=lt_of_heap HH.out
 go_wp2_with fail
 refine (concat2 (holds_of ((H.out.below (hb.mono hB)).more (by omega))) (holds_of (spr_bts HH.out (by omega))) hB1 ?_).mono ?_
 ·rw [lit_length,H.out.len];omega
 rintro e w2 ⟨v,rfl,hm⟩
 go_wp2
 go_ret2
 exact ⟨v,rfl,hm.from_ (hb.trans ((below_alloc _ _).mono hb.size))⟩
def body (t:UInt8) (l:List UInt8):List UInt8:=[t]++lit 2 l.length++l
def fram (t:UInt8) (l:List UInt8):List UInt8:=body t l++lit 4 (crc (body t l))
theorem one_bts (W:World) (t:UInt8):Bts (W.alloc (.cells #[.int .u8 (t.toNat:Int)] 5)) (W.heap.size+1) (some ⟨W.heap.size,0,none⟩) 1 1 [t] :=
 ⟨rfl,Nat.le_refl _,by decide,(fun e=>by cases e),fun _=>⟨W.heap.size,0,rfl,by omega,fun j hj=>by
  have h0:j=0:=by omega
  subst h0
  rw [Nat.zero_add,World.cell?_alloc_mark]
  rfl⟩⟩
end Go.Proofs.YtkganhafbjgndaaGreatRR.F
namespace Go.Proofs.YtkganhafbjgndaaGreatRR.F
open Go.RowKit Go.Shelf
set_option linter.unusedVariables false
attribute [local go_sem] Oper.semAt_some
def bk (l:List UInt8) (k:Nat):List (Nat × UInt8):=(List.range k).map fun j=>(l.length - 1 - j,l[l.length - 1 - j]?.getD 0)
theorem bk_succ (l:List UInt8) (k:Nat):bk l (k+1)=bk l k++[(l.length - 1 - k,l[l.length - 1 - k]?.getD 0)]:=by simp [bk,List.range_succ]
theorem bk_length (l:List UInt8) (k:Nat):(bk l k).length=k:=by simp [bk]
theorem bk_all (l:List UInt8):(bk l l.length).map (·.2)=l.reverse:=by
 apply List.ext_getElem
 ·simp [bk]
 ·intro i h1 h2
  have:i<l.length:=by simpa [bk] using h1
  simp [bk]
  rw [List.getElem?_eq_getElem (by omega)]
  rfl
abbrev encs (x:Nat × UInt8):Array Value:=#[Value.int .i64 (x.1:Int),Value.int .u8 (x.2.toNat:Int)]
structure KB (n₀ g:Nat) (W W':World):Prop where
 bel:Below n₀ W W'
 blk:W'.heap[g]?=W.heap[g]?
theorem KB.refl (n₀ g:Nat) (W:World):KB n₀ g W W:=⟨Below.refl _ _,rfl⟩
theorem KB.trans {n₀ g:Nat} {a b c:World} (h:KB n₀ g a b) (k:KB n₀ g b c):KB n₀ g a c:=⟨h.bel.trans k.bel,k.blk.trans h.blk⟩
theorem KB.cell {n₀ g:Nat} {a b:World} (h:KB n₀ g a b) (o:Nat):b.cell? ⟨g,o,none⟩=a.cell? ⟨g,o,none⟩:=World.cell?_of_block h.blk
theorem KB.putObj {n₀ g:Nat} {w:World} (hn:n₀≤w.heap.size) (hg:g<w.heap.size) (W:World) (l:Nat) (o o':Obj) (hl:w.heap.size≤l) (ho:W.heap[l]?=some o) (h1:o.isCells=false) (h2:o.isWalk=false):KB n₀ g W (W.putObj l o') :=
 ⟨belowK_b hn W l o o' hl ho h1 h2,(belowK_b (n₀:=g+1) hg W l o o' hl ho h1 h2).block g (by omega)⟩
set_option maxRecDepth 100000 in
set_option maxHeartbeats 2000000 in
theorem back1_in (F:Fence) (n:Nat) (h37:F.fn 242) (hro:F.round=none) (hn:1≤n) (ll Bs n₀ cap len:Nat) (A:Option Addr) (l:List UInt8) (J Jx:List (Nat × UInt8)→World→Prop)
  (hY:∀ pre x W,J pre W→pre.length<len→YieldAt F (n - 1) Tryz.prog ll #[.int .i64 (x.1:Int),.int .u8 (x.2.toNat:Int)] W fun e W' =>
   (e=.returned (.bool true)∧J (pre++[x]) W'∧KB n₀ Bs W W')∨(e=.returned (.bool false)∧Jx (pre++[x]) W'))
  (W:World) (hBs:W.cell? ⟨Bs,0,none⟩=some (.slice A len cap)) (hB:Bts W n₀ A len cap l) (hlen:len≤4) (h0:J [] W) :
  CallsIn F n Tryz.prog 242 #[.func (.yield ll) #[] #[],.pointer (some ⟨Bs,0,none⟩)] W fun e W'=>(∃ v,e=.returned v) ∧
   ((∃ ys,ys=bk l len∧J ys W')∨(∃ pre,(∃ k,k≤len∧pre=bk l k)∧Jx pre W')):=by
 have HL:=Lib.hid hB.len
 have HB:=Lib.hid hB
 clear hB
 refine callsIn_of_wp Tryz.func242 rfl h37 ?_ hro
 simp only [Tryz.ntmps242,List.size_toArray,List.length_cons,List.length_nil,Nat.reduceAdd,Nat.reduceSub,Array.replicate_succ,Array.replicate_zero,List.push_toArray,List.append_toArray,List.nil_append,List.cons_append]
 gi_wp2
 gi_loopw [3] (fun i wr=>∃ m:Nat,m≤len∧i=.int .i64 ((m:Int) - 1)∧J (bk l (len - m)) wr∧KB n₀ Bs W wr)
  (fun i _=>(intOf i+1).toNat)
 case atStart=>exact ⟨len,Nat.le_refl _,rfl,by rw [Nat.sub_self];exact h0,KB.refl _ _ _⟩
 case round =>
  obtain ⟨m,hm,rfl,hJs,hnx⟩:=hrel
  have hbs:wr.cell? ⟨Bs,0,none⟩=some (.slice A len cap):=(hnx.cell 0).trans hBs
  rcases m with _ | j
  ·gi_wp2
   go_end0
   exact ⟨⟨_,rfl⟩,.inl ⟨_,rfl,by simpa using hJs⟩⟩
  ·obtain ⟨b,off,rfl,hb,hc⟩:=(HB.out.below hnx.bel).cell (k:=j) (by omega)
   have ej:((j+1:Nat):Int) - 1=(j:Int):=by omega
   rw [ej]
   clear ej
   obtain ⟨fn,tmps,assign,body,hy,hR⟩:=hY _ (j,l[j]?.getD 0) wr hJs (by rw [bk_length];omega)
   dsimp only at hy
   have hge:(0:Int)≤(j:Int):=by omega
   gi_wp2
   refine hR.mono ?_
   have ek:bk l (len - (j+1))++[(j,l[j]?.getD 0)]=bk l (len - j):=by
    have e1:len - j=len - (j+1)+1:=by omega
    have e2:l.length - 1 - (len - (j+1))=j:=by rw [HL.out];omega
    rw [e1,bk_succ,e2]
   rintro e W3 (⟨rfl,hJ3,hk3⟩ | ⟨rfl,hJx3⟩)
   ·rw [ek] at hJ3
    clear ek
    gi_wp2
    go_roundw
    case rel=>exact ⟨j,by omega,rfl,hJ3,hnx.trans hk3⟩
    case measure=>simp [intOf]
   ·rw [ek] at hJx3
    clear ek
    gi_wp2
    refine bodyPost_ret (results_none rfl _ _ _) rfl ?_
    exact ⟨⟨_,rfl⟩,.inr ⟨_,⟨len - j,by omega,rfl⟩,hJx3⟩⟩
set_option maxHeartbeats 1000000 in
theorem back_in (F:Fence) (n:Nat) (h36:F.fn 222) (hro:F.round=none) (a:Option Addr) (len cap:Nat) (w:World) :
  CallsIn F n Tryz.prog 222 #[.slice a len cap] w fun e w'=>e=.returned (.func (.func 242) #[] #[.pointer (some ⟨w.heap.size,0,none⟩)])∧w'=w.alloc (.cells #[.slice a len cap] 41):=by
 refine callsIn_of_wp Tryz.func222 rfl h36 ?_ hro
 simp only [Tryz.ntmps222,List.size_toArray,List.length_cons,List.length_nil,Nat.reduceAdd,Nat.reduceSub,Array.replicate_succ,Array.replicate_zero,List.push_toArray,List.append_toArray,List.nil_append,List.cons_append]
 gi_wp2
 go_ret
 exact ⟨rfl,rfl⟩
theorem back_stops (F:Fence) (n:Nat) (h37:F.fn 242) (hro:F.round=none) (hn:1≤n) (Bs n₀:Nat) (A:Option Addr) (len cap:Nat) (l:List UInt8) (w:World) (hBs:Bs<w.heap.size) (hn₀:n₀≤w.heap.size) (hlen:len≤4)
  (hc:w.cell? ⟨Bs,0,none⟩=some (.slice A len cap)) (hI:Bts w n₀ A len cap l) :
  SeqStopsK F n Tryz.prog 242 #[.pointer (some ⟨Bs,0,none⟩)] encs (KB n₀ Bs) (fun ys=>ys=bk l len) (fun pre=>∃ k,k≤len∧pre=bk l k) len w:=fun ll J Jx W hW _ _ hY h0 =>
 back1_in F n h37 hro hn ll Bs n₀ cap len A l J Jx hY W ((hW.cell (p:=⟨Bs,0,none⟩) hBs).trans hc) (hI.below (hW.mono hn₀)) hlen h0
theorem gath_or {g:Nat} (hg:g<16777216) (b:UInt8):bits .or .i64 ((g:Int) * 256) (b.toNat:Int)=((g * 256+b.toNat:Nat):Int):=by
 have hb:=b.toNat_lt
 have e:(g:Int) * 256=((g * 256:Nat):Int):=by omega
 have hx:g * 256 ||| b.toNat<2 ^ 63:=Nat.or_lt_two_pow (by omega) (by omega)
 have o1:∀ a:Nat,a<9223372036854775808→(BitVec.ofInt 64 (a:Int)).toNat=a:=fun a ha=>by
  rw [BitVec.ofInt_natCast,BitVec.toNat_ofNat];exact Nat.mod_eq_of_lt (by omega)
 have h:bits .or .i64 (((g * 256:Nat)):Int) (b.toNat:Int)=((g * 256 ||| b.toNat:Nat):Int):=by
  show IntKind.i64.wrap ((BitVec.ofInt 64 ((g * 256:Nat):Int) ||| BitVec.ofInt 64 (b.toNat:Int)).toNat:Int)=_
  rw [BitVec.toNat_or,o1 _ (by omega),o1 _ (by omega),IntKind.wrap_i64]
  omega
 have h2:g * 256 ||| b.toNat=g * 256+b.toNat:=by
  rw [Nat.mul_comm]
  exact (Nat.two_pow_add_eq_or_of_lt (i:=8) (by omega) g).symm
 rw [e,h,h2]
set_option maxRecDepth 100000 in
set_option maxHeartbeats 2000000 in
theorem gather_in (F:Fence) (n:Nat) (h30:F.fn 186) (h36:F.fn 222) (h37:F.fn 242) (hro:F.round=none) (hn:3≤n) (a:Option Addr) (len cap:Nat) (l:List UInt8) (w:World) (hI:Bts w w.heap.size a len cap l) (hlen:len≤4) :
  CallsIn F n Tryz.prog 186 #[.slice a len cap] w fun e W'=>e=.returned (.int .i64 (big l:Nat))∧Below w.heap.size w W':=by
 have h1:1≤n:=by omega
 obtain rfl:=hI.len
 have HI:=Lib.hid hI
 clear hI
 refine callsIn_of_wp_marks Tryz.func186 rfl h30 ?_ hro
 simp only [Tryz.ntmps186,List.size_toArray,List.length_cons,List.length_nil,Nat.reduceAdd,Nat.reduceSub,Array.replicate_succ,Array.replicate_zero,List.push_toArray,List.append_toArray,List.nil_append,List.cons_append]
 gi_wp2_with (gi_at_call 222;refine (back_in F (n - 1) h36 hro _ _ _ _).mono ?_;rintro e w' ⟨rfl,rfl⟩)
 have bS:=Boxed.new w 3 (.int .i64 0)
 have bN:=Boxed.new (w.alloc (.cells #[.int .i64 0] 3)) 41 (.slice a l.length cap)
 rw [World.size_alloc] at bN
 have hB0:Below w.heap.size w ((w.alloc (.cells #[.int .i64 0] 3)).alloc (.cells #[.slice a l.length cap] 41)):=((Below.refl _ w).alloc (Nat.le_refl _) _).alloc (by simp) _
 refine wpIn_rangeFunc_ownG hro h1 (gf:=242) (lb:=#[.pointer (some ⟨w.heap.size+1,0,none⟩)]) rfl h37 (enters_of Tryz.func242 (by kernel_rfl) rfl)
  (back_stops F (n - 1) h37 hro (by omega) (w.heap.size+1) w.heap.size a l.length cap l _ (by simp) (by simp;omega) hlen bN.cell (HI.out.below hB0)) KB.trans (KB.putObj (by simp;omega) (by simp)) (Below.refl _ _) (fun _=>rfl)
  (fun pre W=>(W.cell? ⟨w.heap.size,0,none⟩=some (.int .i64 (gath (pre.map (·.2)):Nat))∧W.frozen? ⟨w.heap.size,0,none⟩=false)∧Below w.heap.size w W)
  (fun _ _ _=>False)
  (OwnFrom.and (Own.from (fun s A B row hs hg hr=>⟨cell_kept hs.1 hg hr,(frozen_kept hs.1 hg hr).trans hs.2⟩) _) (ownFrom_below (Nat.le_refl _) (by simp;omega)))
  (fun _ _ _ _ _ hs _ _=>hs)
  ⟨⟨(bS.alloc _).cell,(bS.alloc _).frozen⟩,hB0⟩
  (fun x=>{ tmps:=#[.slice a l.length cap,undef,.int .i64 0,.pointer (some ⟨w.heap.size,0,none⟩),undef,  .int .u8 (x.2.toNat:Int),.slice a l.length cap,.func (.func 242) #[] #[.pointer (some ⟨w.heap.size+1,0,none⟩)],.int .i64 (x.1:Int),.int .u8 (x.2.toNat:Int),undef,undef,undef,undef,undef,undef],defers:=[] }) ?assign ?body ?done ?stop
 case assign =>
  intro l x W K hK
  gi_wp2
  exact hK
 case body =>
  rintro l pre x W ⟨⟨hc,hf⟩,hB⟩ hp
  have hg:=gath_lt (pre.map (·.2))
  have hg3:gath (pre.map (·.2))<16777216:=by
   rw [List.length_map] at hg
   have:256 ^ pre.length≤256 ^ 3:=Nat.pow_le_pow_right (by omega) (by omega)
   omega
  clear hg
  have hgs:=Lib.hid (gath_snoc (pre.map (·.2)) x.2)
  generalize gath (pre.map (·.2))=g at *
  have hbt:=x.2.toNat_lt
  have hw:wrap64 (x.2.toNat:Int)=(x.2.toNat:Int):=by unfold wrap64;omega
  gi_wp2
  rw [gath_or hg3]
  refine ⟨(KeepsOthers.setCell _ _ _).from _,⟨(Below.refl w.heap.size W).setCell (p:=⟨w.heap.size,0,none⟩) (Nat.le_refl _) _,Below.heap_setCell W ⟨w.heap.size,0,none⟩ _ _ (by simp)⟩,⟨?_,by rw [World.frozen?_setCell];exact hf⟩,hB.setCell (p:=⟨w.heap.size,0,none⟩) (Nat.le_refl _) _⟩
  rw [List.map_append]
  have hgs':gath (pre.map (·.2)++[x].map (·.2))=g * 256+x.2.toNat:=hgs.out
  rw [hgs']
  exact World.cell?_setCell_same' _ _ _ (by rw [hc];rfl)
 case done =>
  rintro D ys W hD rfl ⟨⟨hc,_⟩,hB⟩ hK
  rw [bk_all,gath_rev] at hc
  gi_wp2
  refine ⟨by simp,.inl ⟨_,_,rfl,run_takeDeferred hK,?_⟩⟩
  exact ⟨_,results_tmp rfl _ _ _,rfl,hB.trans (belowK_b (w:=w) (Nat.le_refl _) W D _ _ (by simp at hD;omega) hK rfl rfl)⟩
 case stop =>
  rintro D c pre W _ _ h _
  exact h.elim
theorem gather_any (a:Option Addr) (len cap B:Nat) (l:List UInt8) (w:World) (hI:Bts w B a len cap l) (hB:B≤w.heap.size) (hlen:len≤4) :
  Calls Tryz.prog 186 #[.slice a len cap] w fun e w'=>e=.returned (.int .i64 (big l:Nat))∧Below w.heap.size w w' :=
 (callsIn_wide (n:=3)).1 (gather_in Fence.wide 3 trivial trivial trivial rfl (by omega) a len cap l w (hI.more hB) hlen)
end Go.Proofs.YtkganhafbjgndaaGreatRR.F
namespace Go.Proofs.YtkganhafbjgndaaGreatRR.F
open Go.RowKit
set_option linter.unusedVariables false
theorem Bts.head {w:World} {B n c s:Nat} {A:Option Addr} {l:List UInt8} (h:Bts w B A n c l) (hs:s≤n):Bts w B A s c (l.take s):=by
 refine ⟨by rw [List.length_take,h.len];omega,by have:=h.cap;omega,h.lim,h.nil,fun h0=>?_⟩
 obtain ⟨b,off,e,hb,hc⟩:=h.at_ (by omega)
 refine ⟨b,off,e,hb,fun j hj=>?_⟩
 rw [hc j (by omega),List.getElem?_take,if_pos hj]
theorem Bts.tail {w:World} {B n c s:Nat} {A:Option Addr} {l:List UInt8} (h:Bts w B A n c l) (hs:s≤n):Bts w B (if c=s then A else A.map (·.add s)) (n - s) (c - s) (l.drop s):=by
 have hcap:=h.cap
 refine ⟨by rw [List.length_drop,h.len],by omega,by have:=h.lim;omega,fun e=>?_,fun h0=>?_⟩
 ·split at e
  ·omega
  ·have:A=none:=by simpa using e
   have:=h.nil this
   omega
 ·obtain ⟨b,off,rfl,hb,hc⟩:=h.at_ (by omega)
  rw [if_neg (by omega)]
  refine ⟨b,off+s,by simp [Addr.add_lit],hb,fun j hj=>?_⟩
  rw [Nat.add_assoc,hc (s+j) (by omega),List.getElem?_drop]
structure FormAt (w:World) (g B:Nat) (l:List UInt8) (short:Bool):Prop where
 le:B≤g
 ex:∃ A n c,w.heap[g]?=some (.cells #[.slice A n c,.bool short] 252 (0,0))∧Bts w B A n c l
theorem grown_set (w:World) (g i:Nat) (u:Value):w.grownBy (w.setCell ⟨g,i,none⟩ u) (some g) :=
 ⟨rfl,rfl,rfl,by simp [World.setCell],fun k _ hne=>Below.heap_setCell _ _ _ _ (fun e=>hne (by rw [e]))⟩
theorem grown_trans {a b c:World} {r:Option Nat} (h:a.grownBy b r) (k:b.grownBy c r):a.grownBy c r :=
 ⟨k.os.trans h.os,k.tape.trans h.tape,k.output.trans h.output,Nat.le_trans h.size k.size,fun i hi hne=>(k.block i (Nat.lt_of_lt_of_le hi h.size) hne).trans (h.block i hi hne)⟩
theorem grown_of_below {a b:World} (h:Below a.heap.size a b) (r:Option Nat):a.grownBy b r:=⟨h.os,h.tape,h.output,h.size,fun i hi _=>h.block i hi⟩
theorem Bts.grown {w w':World} {g B n c:Nat} {A:Option Addr} {l:List UInt8} (h:Bts w B A n c l) (hB:B≤g) (hg:w.grownBy w' (some g)) (hlt:g<w.heap.size):Bts w' B A n c l :=
 h.keep fun p hp=>World.cell?_of_block (hg.block p.block (by omega) (fun e=>by injection e with e;omega))
theorem FormAt.lt {w:World} {g B:Nat} {l:List UInt8} {sh:Bool} (h:FormAt w g B l sh):g<w.heap.size:=by
 obtain ⟨A,n,c,hh,_⟩:=h.ex
 exact (Array.getElem?_eq_some_iff.1 hh).1
theorem FormAt.below {w w':World} {g B:Nat} {l:List UInt8} {sh:Bool} (h:FormAt w g B l sh) (hb:Below w.heap.size w w'):FormAt w' g B l sh:=by
 have hlt:=h.lt
 have hle:=h.le
 obtain ⟨A,n,c,hh,hB⟩:=h.ex
 exact ⟨hle,A,n,c,(hb.block g hlt).trans hh,hB.below (hb.mono (by omega))⟩
def TookNone (w:World) (g B:Nat) (e:Ending) (w':World):Prop:=e=.returned (.slice none 0 0)∧FormAt w' g B [] true∧w.grownBy w' (some g)
def Took (w:World) (g B:Nat) (l:List UInt8) (sh:Bool) (s:Nat) (e:Ending) (w':World):Prop:=∃ A c,e=.returned (.slice A s c)∧Bts w' B A s c (l.take s)∧FormAt w' g B (l.drop s) sh∧w.grownBy w' (some g)
theorem took {w:World} {g B s n c:Nat} {A:Option Addr} {l:List UInt8} {sh:Bool} {v:Value} (hh:w.heap[g]?=some (.cells #[.slice A n c,.bool sh] 252 (0,0))) (hle:B≤g) (hB:Bts w B A n c l) (hs:s≤n)
  (hv:v=.slice (if c=s then A else A.map (·.add s)) (n - s) (c - s)):Took w g B l sh s (.returned (.slice A s c)) (w.setCell ⟨g,0,none⟩ v):=by
 have hlt:=(Array.getElem?_eq_some_iff.1 hh).1
 have hg:=grown_set w g 0 v
 subst hv
 exact ⟨A,c,rfl,(hB.head hs).grown hle hg hlt,⟨hle,_,_,_,heap_set hh 0 _,(hB.tail hs).grown hle hg hlt⟩,hg⟩
set_option maxRecDepth 20000 in
set_option maxHeartbeats 1000000 in
theorem take_yes (g B s:Nat) (l:List UInt8) (sh:Bool) (w:World) (h:FormAt w g B l sh) (hs:s≤l.length) :
  Calls Tryz.prog 187 #[.pointer (some ⟨g,0,none⟩),.int .i64 s] w (Took w g B l sh s):=by
 have HLE:=Lib.hid h.le
 obtain ⟨A,n,c,hh,hB⟩:=h.ex
 have hn:s≤n:=by rw [← hB.len];exact hs
 have hcap:=hB.cap
 have hlim:=hB.lim
 have hc0:w.cell? ⟨g,0,none⟩=some (.slice A n c):=cell_in hh 0
 have hc1:w.cell? ⟨g,1,none⟩=some (.bool sh):=cell_in hh 1
 have hf0:=free_in hh 0
 have hf1:=free_in hh 1
 have HH:=Lib.hid hh
 have HB:=Lib.hid hB
 clear hh hB h hs
 unfold maxLen at hlim
 by_cases hcs:c=s
 ·subst hcs
  obtain rfl:n=c:=by omega
  go_enter Tryz.func187,Tryz.ntmps187
  go_wp2
  go_ret
  exact took HH.out HLE.out HB.out (Nat.le_refl _) (by simp)
 ·go_enter Tryz.func187,Tryz.ntmps187
  go_wp2
  go_ret
  exact took HH.out HLE.out HB.out hn (by rw [if_neg hcs])
def NumIs (w:World) (g B:Nat) (x:Nat) (l:List UInt8) (sh:Bool) (e:Ending) (w':World):Prop:=e=.returned (.int .i64 (x:Nat))∧FormAt w' g B l sh∧w.grownBy w' (some g)
set_option maxRecDepth 20000 in
set_option maxHeartbeats 1000000 in
theorem fnum_yes (g B:Nat) (l:List UInt8) (sh:Bool) (w:World) (h:FormAt w g B l sh) (hs:4≤l.length):Calls Tryz.prog 155 #[.pointer (some ⟨g,0,none⟩)] w (NumIs w g B (big (l.take 4)) (l.drop 4) sh):=by
 have H:=Lib.hid h
 clear h
 go_enter Tryz.func155,Tryz.ntmps155
 go_wp2_with fail
 refine (take_yes g B 4 l sh w H.out hs).mono ?_
 rintro e w1 ⟨A,c,rfl,hB,h1,hg1⟩
 have hlt:=h1.lt
 have hle:=h1.le
 have HB:=Lib.hid hB
 clear hB
 go_wp2_with fail
 refine (gather_any A 4 c B _ w1 HB.out (by omega) (by omega)).mono ?_
 rintro e w2 ⟨rfl,hb⟩
 go_wp2
 go_ret
 exact ⟨rfl,h1.below hb,grown_trans hg1 (grown_of_below hb _)⟩
def TextIs (w:World) (g B:Nat) (x:List UInt8) (l:List UInt8) (sh:Bool) (e:Ending) (w':World):Prop:=e=.returned (.string ⟨x.toArray⟩)∧FormAt w' g B l sh∧w.grownBy w' (some g)
def endOf (l:List UInt8) (sh:Bool):Int:=if sh then 3 else if 0<l.length then 2 else 0
set_option maxRecDepth 20000 in
set_option maxHeartbeats 1000000 in
theorem read_any (A:Option Addr) (n c B:Nat) (l:List UInt8) (w:World) (h:Bts w B A n c l) (hB:B≤w.heap.size):Calls Tryz.prog 154 #[.slice A n c] w fun e w'=>e=.returned (.pointer (some ⟨w.heap.size,0,none⟩))∧FormAt w' w.heap.size B l false∧Below w.heap.size w w':=by
 have H:=Lib.hid h
 clear h
 go_enter Tryz.func154,Tryz.ntmps154
 go_wp2
 go_ret
 have hb:=(Below.refl _ w).alloc (Nat.le_refl _) (.cells #[.slice A n c,.bool false] 252)
 exact ⟨rfl,⟨hB,A,n,c,heap_alloc_new w _,H.out.below (hb.mono hB)⟩,hb⟩
end Go.Proofs.YtkganhafbjgndaaGreatRR.F
namespace Go.Proofs.YtkganhafbjgndaaGreatRR.F
def Whole (l:List UInt8):Prop:=big (l.drop (l.length - 4))=crc (l.take (l.length - 4))
end Go.Proofs.YtkganhafbjgndaaGreatRR.F
