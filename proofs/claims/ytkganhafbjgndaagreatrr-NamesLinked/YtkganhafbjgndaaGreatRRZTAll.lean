/- tree: words, small functions, encode, decode, parts. -/
import Derived.Test.YtkganhafbjgndaaGreatRRRows
import Derived.WalkKit
import Derived.ProofKit
import Derived.Below
import Derived.Handy
import Derived.Laws.OwnMore
import Derived.Laws.IdiomStrings
import Derived.Laws.BytesArg
import Derived.Laws.MakeOwn
import Derived.Laws.ShiftsVarLaws
import Derived.Maps.AppendAt
import Derived.Deep.AppendLies
import Derived.Lib.Hide
import Derived.Lib.AppendZeros
import Derived.Lib.SliceRun
import Derived.OwnWalk
import Derived.BigQuiet
import Derived.Deep.QuietTactic
import Derived.StillTailTactics
namespace Go.Proofs.YtkganhafbjgndaaGreatRR.T
def route (n:Nat):List Int :=
 if n<4 then [(n:Int)] else if n<12 then [4,(n:Int) - 4] else [5,((n:Int) - 12) / 8,((n:Int) - 12) % 8]
def routes (k:Nat):List (List Int):=(List.range k).map route
theorem route_one {k:Nat} (h:k<4):route k=[(k:Int)]:=if_pos h
theorem route_two {k:Nat} (h:k<8):route (4+k)=[4,(k:Int)]:=by
 unfold route
 rw [if_neg (by omega),if_pos (by omega)]
 congr 2
 omega
theorem route_three {i k:Nat} (hi:i<8) (hk:k<8):route (12+8 * i+k)=[5,(i:Int),(k:Int)]:=by
 unfold route
 rw [if_neg (by omega),if_neg (by omega)]
 congr 2
 ·omega
 ·congr 1
  omega
def okp (n:Int):Bool:=decide (n=0∨43≤n∧n<1024)
theorem okp_iff {n:Int}:okp n=true ↔ n=0∨43≤n∧n<1024:=by simp [okp]
def okl (l:List Int):Bool:=decide (l.length=8) && l.all okp
theorem okl_iff {l:List Int}:okl l=true ↔ l.length=8∧∀ x∈l,okp x=true:=by simp [okl]
def lo (x:Int):UInt8:=UInt8.ofNat (x % 256).toNat
theorem lo_nat (x:Int):((lo x).toNat:Int)=x % 256:=by
 unfold lo
 rw [UInt8.toNat_ofNat']
 omega
def z128:List UInt8:=List.replicate 128 0
def lay1 (b:List UInt8) (k:Nat) (x:Int):List UInt8:=(b.set (2 * k) (lo x)).set (2 * k+1) (lo (x / 256))
def encS (l:List Int):Nat→List UInt8
 | 0=>z128
 | k+1=>lay1 (encS l k) k (l[k]?.getD 0)
theorem encS_len (l:List Int) (k:Nat):(encS l k).length=128:=by
 induction k with
 | zero=>simp [encS,z128]
 | succ k ih=>simp [encS,lay1,ih]
def num (b:List UInt8) (j:Nat):Int:=((b[2 * j]?.getD 0).toNat+256 * (b[2 * j+1]?.getD 0).toNat:Nat)
def dec (b:List UInt8):List Int:=(List.range 8).map (num b)
theorem dec_len (b:List UInt8):(dec b).length=8:=by simp [dec]
theorem num_of {b:List UInt8} {j:Nat} {x:Int} (h1:b[2 * j]?.getD 0=lo x) (h2:b[2 * j+1]?.getD 0=lo (x / 256)) (hx:okp x=true):num b j=x:=by
 have h:=okp_iff.1 hx
 have e1:=lo_nat x
 have e2:=lo_nat (x / 256)
 unfold num
 rw [h1,h2]
 omega
theorem encS_get (l:List Int) {k i:Nat} (hk:k≤64) (hi:i<k):(encS l k)[2 * i]?.getD 0=lo (l[i]?.getD 0)∧(encS l k)[2 * i+1]?.getD 0=lo (l[i]?.getD 0 / 256):=by
 induction k with
 | zero=>omega
 | succ k ih =>
  have hl:=encS_len l k
  unfold encS lay1
  by_cases e:i=k
  ·subst e
   rw [List.getElem?_set_ne (by omega),List.getElem?_set_self (by omega),List.getElem?_set_self (by rw [List.length_set];omega)]
   exact ⟨rfl,rfl⟩
  ·rw [List.getElem?_set_ne (by omega),List.getElem?_set_ne (by omega),List.getElem?_set_ne (by omega),List.getElem?_set_ne (by omega)]
   exact ih (by omega) (by omega)
theorem dec_enc {l:List Int} (h:okl l=true):dec (encS l 8)=l:=by
 obtain ⟨hl,ho⟩:=okl_iff.1 h
 apply List.ext_getElem?
 intro i
 by_cases hi:i<8
 ·obtain ⟨h1,h2⟩:=encS_get l (k:=8) (i:=i) (by omega) hi
  have hg:l[i]?=some (l[i]?.getD 0):=by rw [List.getElem?_eq_getElem (by omega)];rfl
  have:=num_of h1 h2 (ho _ (List.mem_of_getElem? hg))
  rw [hg,dec,List.getElem?_map,List.getElem?_range hi,Option.map_some,this]
 ·rw [List.getElem?_eq_none (by rw [dec_len];omega),List.getElem?_eq_none (by omega)]
def isPt (b:List UInt8):Option (List Int):=if b.length=128∧okl (dec b)=true∧encS (dec b) 8=b then some (dec b) else none
theorem isPt_enc {l:List Int} (h:okl l=true):isPt (encS l 8)=some l:=by
 unfold isPt
 rw [dec_enc h,if_pos ⟨encS_len l 8,h,rfl⟩]
def blocks (n:Int):Int:=if n<1 then 0 else (n - 1) / 128+1
def np (a s:Nat):Nat:=if s=0 then 0 else (a+s - 1) / 128+1 - a / 128
def pb (a k:Nat):Int:=(a / 128+k:Nat)
def pf (a k:Nat):Int:=max ((a:Int) - 128 * pb a k) 0
def pt (a s k:Nat):Int:=min ((a:Int)+s - 128 * pb a k) 128
def upto (a s k:Nat):Int:=if k=0 then 0 else min ((a:Int)+s) ((a / 128+k:Nat) * 128) - a
theorem np_le {a s:Nat} (h:a+s≤9728∨s=0):np a s≤76:=by
 unfold np
 split<;>omega
end Go.Proofs.YtkganhafbjgndaaGreatRR.T
namespace Go.Proofs.YtkganhafbjgndaaGreatRR.T
open Go.RowKit
set_option linter.unusedVariables false
theorem ret1 {k:IntKind} {a b:Int} (h:a=b):Ending.returned (.int k a)=.returned (.int k b):=by rw [h]
structure Bts (w:World) (B:Nat) (A:Option Addr) (n c:Nat) (l:List UInt8):Prop where
 len:l.length=n
 cap:n≤c
 lim:c≤maxLen
 nil:A=none→c=0
 at_:0<n→∃ b off,A=some ⟨b,off,none⟩∧b<B∧∀ j,j<n→w.cell? ⟨b,off+j,none⟩=some (.int .u8 ((l[j]?.getD 0).toNat:Int))
section
variable {w w':World} {B B' n c:Nat} {A:Option Addr} {l:List UInt8}
theorem Bts.keep (h:Bts w B A n c l) (hk:∀ p:Addr,p.block<B→w'.cell? p=w.cell? p):Bts w' B A n c l :=
 ⟨h.len,h.cap,h.lim,h.nil,fun hn=>by
  obtain ⟨b,off,e,hb,hc⟩:=h.at_ hn
  exact ⟨b,off,e,hb,fun j hj=>(hk _ hb).trans (hc j hj)⟩⟩
theorem Bts.more (h:Bts w B A n c l) (hB:B≤B'):Bts w B' A n c l :=
 ⟨h.len,h.cap,h.lim,h.nil,fun hn=>by
  obtain ⟨b,off,e,hb,hc⟩:=h.at_ hn
  exact ⟨b,off,e,by omega,hc⟩⟩
theorem Bts.below (h:Bts w B A n c l) (hb:Below B w w'):Bts w' B A n c l:=h.keep fun _ hp=>hb.cell hp
theorem Bts.nil_ (w:World) (B:Nat):Bts w B none 0 0 []:=⟨rfl,Nat.le_refl _,by decide,fun _=>rfl,fun h=>absurd h (by omega)⟩
theorem Bts.cell (h:Bts w B A n c l) {k:Nat} (hk:k<n):∃ b off,A=some ⟨b,off,none⟩∧b<B∧w.cell? ⟨b,off+k,none⟩=some (.int .u8 ((l[k]?.getD 0).toNat:Int)):=by
 obtain ⟨b,off,e,hb,hc⟩:=h.at_ (by omega)
 exact ⟨b,off,e,hb,hc k hk⟩
theorem Bts.str (h:Bts w B A n c l) (W:World) (hW:∀ p:Addr,p.block<B→W.cell? p=w.cell? p):(convert 41 9 (.slice A n c)).run Tryz.prog W=.ok (.string ⟨l.toArray⟩) W:=by
 rcases Nat.eq_zero_or_pos n with h0 | h0
 ·subst h0
  have hl:l=[]:=List.length_eq_zero_iff.1 h.len
  subst hl
  rw [run_convert_bytes_string W 41 9 5 _ 0 c Tryz.underlying41 Tryz.underlying5 Tryz.underlying9]
  cases A<;>simp [Conv.bytesToString,loadCells]
  all_goals rfl
 ·obtain ⟨b,off,rfl,hb,hc⟩:=h.at_ h0
  obtain rfl:=h.len
  refine run_convert_bytes_back W 41 9 5 ⟨b,off,none⟩ c l Tryz.underlying41 Tryz.underlying5 Tryz.underlying9 fun j hj=>?_
  have e:(⟨b,off,none⟩:Addr).add j=⟨b,off+j,none⟩:=by unfold Addr.add;split<;>simp_all
  rw [e,hW _ hb,hc j hj]
  simp [hj]
end
theorem heap_set {w:World} {g:Nat} {t:TypeId} {cs:Array Value} (h:w.heap[g]?=some (.cells cs t (0,0))) (i:Nat) (u:Value):(w.setCell ⟨g,i,none⟩ u).heap[g]?=some (.cells (cs.setIfInBounds i u) t (0,0)):=by
 simp [World.setCell,Array.getElem?_modify,h]
theorem cell_in {w:World} {g:Nat} {t:TypeId} {cs:Array Value} (h:w.heap[g]?=some (.cells cs t (0,0))) (i:Nat):w.cell? ⟨g,i,none⟩=cs[i]?:=cell_of_row w g i cs t (0,0) h
theorem free_in {w:World} {g:Nat} {t:TypeId} {cs:Array Value} (h:w.heap[g]?=some (.cells cs t (0,0))) (i:Nat):w.frozen? ⟨g,i,none⟩=false:=by
 simp [World.frozen?,h]
def bv (b:UInt8):Value:=.int .u8 (b.toNat:Int)
theorem Tryz.info5:(Tryz.prog.info? 5).map (fun i=>(i.zero,i.size,i.bytes))=some (some (.int .u8 0),1,1):=by kernel_rfl
structure Mine (w w':World) (v:Value) (l:List UInt8):Prop where
 own:w'.ownsRow w.heap.size 5 1 v l.length (l.map bv)
 bel:Below w.heap.size w w'
def GivesMine (w:World) (l:List UInt8) (e:Ending) (w':World):Prop:=∃ v,e=.returned v∧Mine w w' v l
def Holds (w:World) (B:Nat) (v:Value) (l:List UInt8):Prop:=∃ A n c,v=.slice A n c∧Bts w B A n c l
theorem Holds.below {w w':World} {B:Nat} {v:Value} {l:List UInt8} (h:Holds w B v l) (hb:Below B w w'):Holds w' B v l:=by
 obtain ⟨A,n,c,hv,h⟩:=h
 exact ⟨A,n,c,hv,h.below hb⟩
theorem Holds.more {w:World} {B B':Nat} {v:Value} {l:List UInt8} (h:Holds w B v l) (hB:B≤B'):Holds w B' v l:=by
 obtain ⟨A,n,c,hv,h⟩:=h
 exact ⟨A,n,c,hv,h.more hB⟩
theorem own_holds {w:World} {base:Nat} {v:Value} {l:List UInt8} (h:w.ownsRow base 5 1 v l.length (l.map bv)):Holds w w.heap.size v l:=by
 rcases h.2 with ⟨rfl,h0⟩ | ⟨g,cap,cur,rfl,hg,hh,hn,hm,hs,ht⟩
 ·have:l=[]:=List.length_eq_zero_iff.1 h0
  subst this
  exact ⟨_,_,_,rfl,Bts.nil_ _ _⟩
 ·refine ⟨_,_,_,rfl,rfl,hn,hm,(fun h=>by cases h),fun h0=>⟨g,0,rfl,(Array.getElem?_eq_some_iff.1 hh).1,fun j hj=>?_⟩⟩
  rw [Nat.zero_add,cell_in hh]
  have e:cur.toList[j]?=(l.map bv)[j]?:=by
   rw [← ht,List.getElem?_take,if_pos (by omega)]
  rw [← Array.getElem?_toList,e]
  simp [hj,bv]
theorem retb {a b:Bool} (h:a=b):Ending.returned (.bool a)=.returned (.bool b):=by rw [h]
def sb (l:List UInt8):ByteArray:=⟨l.toArray⟩
theorem sb_toList (l:List UInt8):(sb l).toList=l:=by
 have h:(sb l).toList=(sb l).data.toList:=ByteArray.toList_eq _
 rw [h];rfl
theorem sb_list (a b:List UInt8):((sb a).toList == (sb b).toList)=decide (a=b):=by
 rw [sb_toList,sb_toList]
 by_cases h:a=b
 ·subst h;simp
 ·simp [h]
theorem fstr {w:World} {B n c:Nat} {A:Option Addr} {l:List UInt8} (h:Bts w B A n c l) (W:World) (hW:Below B w W):(convert 41 9 (.slice A n c)).run Tryz.prog W=.ok (.string (sb l)) W:=h.str W fun p hp=>hW.cell hp
theorem own_set {w:World} {base g cap m:Nat} {l:List UInt8} (h:w.ownsRow base 5 1 (.slice (some ⟨g,0,none⟩) m cap) l.length (l.map bv)) (j:Nat) (y:UInt8) :
  (w.setCell ⟨g,j,none⟩ (bv y)).ownsRow base 5 1 (.slice (some ⟨g,0,none⟩) m cap) (l.set j y).length ((l.set j y).map bv):=by
 refine ⟨by simp,?_⟩
 rcases h.2 with ⟨e,_⟩ | ⟨g',cap',cur,e,hg,hh,hn,hm,hs,ht⟩
 ·cases e
 ·injection e with e1 e2 e3
  injection e1 with e1
  injection e1 with e1
  subst e1 e2 e3
  refine .inr ⟨g,cap,cur.setIfInBounds j (bv y),by rw [List.length_set],hg,heap_set hh j _,by rw [List.length_set];exact hn,hm,by rw [Array.size_setIfInBounds];exact hs,?_⟩
  rw [List.length_set,Array.toList_setIfInBounds,List.take_set,ht,List.map_set]
theorem own_cell {w:World} {base g cap N j:Nat} {l:List UInt8} (h:w.ownsRow base 5 1 (.slice (some ⟨g,0,none⟩) N cap) l.length (l.map bv)) (hl:l.length=N) (hj:j<N) :
  w.cell? ⟨g,j,none⟩=some (.int .u8 ((l[j]?.getD 0).toNat:Int))∧w.frozen? ⟨g,j,none⟩=false:=by
 constructor
 ·obtain ⟨A,n,c,e,hB⟩:=own_holds h
  cases e
  obtain ⟨b,off,e,_,hc⟩:=hB.cell hj
  cases e
  rw [Nat.zero_add] at hc
  exact hc
 ·rcases h.2 with ⟨e,_⟩ | ⟨g',cap',cur,e,hg,hh,_⟩
  ·cases e
  ·injection e with e1 e2 e3
   injection e1 with e1
   injection e1 with e1
   subst e1
   exact free_in hh j
theorem box_below (w:World) (o:Obj):Below w.heap.size w (w.alloc o):=(Below.refl _ w).alloc (Nat.le_refl _) o
structure Ints (w:World) (B:Nat) (A:Option Addr) (n c:Nat) (l:List Int):Prop where
 len:l.length=n
 cap:n≤c
 lim:c≤maxLen
 at_:0<n→∃ b off,A=some ⟨b,off,none⟩∧b<B∧∀ j,j<n→w.cell? ⟨b,off+j,none⟩=some (.int .i64 (l[j]?.getD 0))
section
variable {w w':World} {B B' n c:Nat} {A:Option Addr} {l:List Int}
theorem Ints.keep (h:Ints w B A n c l) (hk:∀ p:Addr,p.block<B→w'.cell? p=w.cell? p):Ints w' B A n c l :=
 ⟨h.len,h.cap,h.lim,fun hn=>by
  obtain ⟨b,off,e,hb,hc⟩:=h.at_ hn
  exact ⟨b,off,e,hb,fun j hj=>(hk _ hb).trans (hc j hj)⟩⟩
theorem Ints.more (h:Ints w B A n c l) (hB:B≤B'):Ints w B' A n c l :=
 ⟨h.len,h.cap,h.lim,fun hn=>by
  obtain ⟨b,off,e,hb,hc⟩:=h.at_ hn
  exact ⟨b,off,e,by omega,hc⟩⟩
theorem Ints.below (h:Ints w B A n c l) (hb:Below B w w'):Ints w' B A n c l:=h.keep fun _ hp=>hb.cell hp
theorem Ints.nil_ (w:World) (B:Nat):Ints w B none 0 0 []:=⟨rfl,Nat.le_refl _,by decide,fun h=>absurd h (by omega)⟩
theorem Ints.cell (h:Ints w B A n c l) {k:Nat} (hk:k<n):∃ b off,A=some ⟨b,off,none⟩∧b<B∧w.cell? ⟨b,off+k,none⟩=some (.int .i64 (l[k]?.getD 0)):=by
 obtain ⟨b,off,e,hb,hc⟩:=h.at_ (by omega)
 exact ⟨b,off,e,hb,hc k hk⟩
end
def iv (x:Int):Value:=.int .i64 x
theorem ints_new (w:World) (l:List Int) (t:TypeId) (fr:Nat × Nat) (hl:l.length≤1000000):Ints (w.alloc (.cells (l.map iv).toArray t fr)) (w.heap.size+1) (some ⟨w.heap.size,0,none⟩) l.length l.length l :=
 ⟨rfl,Nat.le_refl _,by unfold maxLen;omega,fun _=>⟨w.heap.size,0,rfl,by omega,fun j hj=>by
  rw [Nat.zero_add]
  refine (World.cell?_alloc_mark w _ t fr j).trans ?_
  simp [hj,iv]⟩⟩
theorem get_of {α:Type} {l:List α} {k n:Nat} {d:α} (h:l.length=n) (hk:k<n):l[k]?=some (l[k]?.getD d):=by
 rw [List.getElem?_eq_getElem (by omega)];rfl
theorem all_take {α:Type} {p:α→Bool} {l:List α} {k:Nat} {x:α} (h:l[k]?=some x) (h1:(l.take k).all p=true) (h2:p x=true):(l.take (k+1)).all p=true:=by
 obtain ⟨hk,rfl⟩:=List.getElem?_eq_some_iff.1 h
 rw [List.take_succ_eq_append_getElem hk,List.all_append,h1]
 simp [h2]
theorem all_not {α:Type} {p:α→Bool} {l:List α} {k:Nat} {x:α} (h:l[k]?=some x) (h2:p x=false):l.all p=false:=by
 rw [Bool.eq_false_iff]
 intro ha
 rw [List.all_eq_true.1 ha x (List.mem_of_getElem? h)] at h2
 cases h2
theorem below_drewN {B:Nat} {a w:World} (h:Below B a w) (n:Nat):Below B a (w.drewN n):=⟨h.os,h.tape,h.output,h.size,h.block⟩
theorem ownsRow_keep {w w':World} {base e size n:Nat} {v:Value} {xs:List Value} (h:w.ownsRow base e size v n xs) (he:∀ b,v.ownBlock=some b→w'.heap[b]?=w.heap[b]?):w'.ownsRow base e size v n xs:=by
 refine ⟨h.1,?_⟩
 rcases h.2 with h0 | ⟨g,cap,cur,rfl,hg,hh,rest⟩
 ·exact .inl h0
 ·exact .inr ⟨g,cap,cur,rfl,hg,(he g rfl).trans hh,rest⟩
end Go.Proofs.YtkganhafbjgndaaGreatRR.T
namespace Go.Proofs.YtkganhafbjgndaaGreatRR.T
open Go.RowKit
set_option linter.unusedVariables false
def GivesInts (w:World) (l:List Int) (e:Ending) (w':World):Prop :=
 ∃ g,e=.returned (.tuple #[.slice (some ⟨g,0,none⟩) l.length l.length,.int .i64 0])∧Ints w' w'.heap.size (some ⟨g,0,none⟩) l.length l.length l∧Below w.heap.size w w'∧w.heap.size≤g
def Refuses (w:World) (x:Int) (e:Ending) (w':World):Prop:=e=.returned (.tuple #[.slice none 0 0,.int .i64 x])∧w=w'
theorem gives_new (w:World) (l:List Int) (hl:l.length≤1000000):GivesInts w l (.returned (.tuple #[.slice (some ⟨w.heap.size,0,none⟩) l.length l.length,.int .i64 0])) (w.alloc (.cells (l.map iv).toArray 3)) :=
 ⟨_,rfl,(ints_new w l 3 (0,0) hl).more (by simp),box_below _ _,Nat.le_refl _⟩
theorem route_yes (k:Nat) (w:World) (hk:k<76):Calls Tryz.prog 126 #[.int .i64 k] w (GivesInts w (route k)):=by
 by_cases h1:k<4
 ·have HR:Hid (route k=[(k:Int)]):=route_one h1
  go_enter Tryz.func126,Tryz.ntmps126
  go_wp2_with fail
  go_ret2
  rw [HR.out]
  exact gives_new w [(k:Int)] (by simp)
 ·by_cases h2:k<12
  ·have HR:Hid (route k=[4,(k:Int) - 4]):=by show _=_;unfold route;rw [if_neg h1,if_pos h2]
   go_enter Tryz.func126,Tryz.ntmps126
   go_wp2_with fail
   go_ret2
   rw [HR.out]
   exact gives_new w [4,(k:Int) - 4] (by simp)
  ·have HR:Hid (route k=[5,((k:Int) - 4 - 8) / 8,((k:Int) - 4) % 8]):=by
    show _=_
    unfold route
    rw [if_neg h1,if_neg h2,show (k:Int) - 12=(k:Int) - 4 - 8 by omega,show ((k:Int) - 4 - 8) % 8=((k:Int) - 4) % 8 by omega]
   go_enter Tryz.func126,Tryz.ntmps126
   go_wp2_with fail
   go_ret2
   rw [HR.out]
   exact gives_new w [5,((k:Int) - 4 - 8) / 8,((k:Int) - 4) % 8] (by simp)
theorem allowed_any (n:Int) (w:World):Calls Tryz.prog 235 #[.int .i64 n] w fun e w'=>e=.returned (.bool (okp n))∧w=w':=by
 by_cases h0:n=0
 ·subst h0
  go_enter Tryz.func235,Tryz.ntmps235
  go_wp2_with fail
  go_ret
  exact ⟨rfl,rfl⟩
 ·have h0':(n == 0)=false:=by simpa using h0
  by_cases h1:43≤n
  ·by_cases h2:n<1024
   ·have HO:Hid (okp n=true):=okp_iff.2 (.inr ⟨h1,h2⟩)
    go_enter Tryz.func235,Tryz.ntmps235
    go_wp2_with fail
    go_ret
    exact ⟨retb HO.out.symm,rfl⟩
   ·have HO:Hid (okp n=false):=by show _=_;rw [Bool.eq_false_iff,Ne,okp_iff];omega
    go_enter Tryz.func235,Tryz.ntmps235
    go_wp2_with fail
    go_ret
    exact ⟨retb HO.out.symm,rfl⟩
  ·have HO:Hid (okp n=false):=by show _=_;rw [Bool.eq_false_iff,Ne,okp_iff];omega
   go_enter Tryz.func235,Tryz.ntmps235
   go_wp2_with fail
   go_ret
   exact ⟨retb HO.out.symm,rfl⟩
theorem blocks_any (n:Int) (w:World) (hb:-9223372036854775808≤n∧n≤9223372036854775807):Calls Tryz.prog 94 #[.int .i64 n] w fun e w'=>e=.returned (.int .i64 (blocks n))∧w=w':=by
 by_cases h:n<1
 ·have HO:Hid (blocks n=0):=if_pos h
  go_enter Tryz.func94,Tryz.ntmps94
  go_wp2_with fail
  go_ret
  exact ⟨ret1 HO.out.symm,rfl⟩
 ·have HO:Hid (blocks n=(n - 1) / 128+1):=if_neg h
  go_enter Tryz.func94,Tryz.ntmps94
  go_wp2_with fail
  go_ret
  exact ⟨ret1 HO.out.symm,rfl⟩
theorem equal_any {w:World} {B B' n c n' c':Nat} {A A':Option Addr} {l l':List UInt8} (h:Bts w B A n c l) (h':Bts w B' A' n' c' l') :
  Calls Tryz.prog 162 #[.slice A n c,.slice A' n' c'] w fun e w'=>e=.returned (.bool (decide (l=l')))∧w=w':=by
 have h1:=fstr h w (Below.refl _ _)
 have h2:=fstr h' w (Below.refl _ _)
 have HE:=Lib.hid (sb_list l l')
 clear h h'
 go_enter Tryz.func162,Tryz.ntmps162
 go_wp2_with fail
 go_ret
 exact ⟨retb HE.out,rfl⟩
end Go.Proofs.YtkganhafbjgndaaGreatRR.T
namespace Go.Proofs.YtkganhafbjgndaaGreatRR.T
open Go.RowKit
set_option linter.unusedVariables false
def zeros:Array Value:=(z128.map bv).toArray
theorem make_run (w:World):(Instr.makeSlice 41 (.int .i64 128) (.int .i64 128)).run Tryz.prog w=.ok (.slice (some ⟨w.heap.size,0,none⟩) 128 128) (w.alloc (.cells zeros 5)):=by
 obtain ⟨i0,hi,hz0,hz1,hz2⟩:=info_parts Tryz.info5
 have hr:=run_make (P:=Tryz.prog) w 41 5 i0 _ Tryz.underlying41 hi hz0 .i64 .i64 128 128 (by omega) (by omega) (by rw [hz2];omega) (by omega)
 have e:madeCells (Value.int .u8 0).cells ((128:Int).toNat * 1)=zeros:=by
  apply Array.ext'
  have h1:(Value.int .u8 0).cells=#[Value.int .u8 0]:=rfl
  rw [h1,toList_madeCells_one]
  simp [zeros,z128,bv]
 rw [hz1,e] at hr
 exact hr
theorem zeros_own (w:World):(w.alloc (.cells zeros 5)).ownsRow w.heap.size 5 1 (.slice (some ⟨w.heap.size,0,none⟩) 128 128) z128.length (z128.map bv):=by
 refine ⟨by simp,.inr ⟨w.heap.size,128,zeros,by simp [z128],Nat.le_refl _,heap_alloc_new w _,by simp [z128],by decide,by simp [zeros,z128],?_⟩⟩
 simp [zeros,z128]
def Sec (w:World) (g:Nat) (l:List UInt8):Prop:=w.ownsRow 0 5 1 (.slice (some ⟨g,0,none⟩) 128 128) l.length (l.map bv)∧l.length=128
theorem sec_new (w:World):Sec (w.alloc (.cells zeros 5)) w.heap.size z128:=by
 refine ⟨?_,by simp [z128]⟩
 have h:=zeros_own w
 refine ⟨h.1,?_⟩
 rcases h.2 with ⟨e,_⟩ | ⟨g,cap,cur,e,_,r⟩
 ·cases e
 ·exact .inr ⟨g,cap,cur,e,Nat.zero_le _,r⟩
section
variable {w w':World} {g:Nat} {l:List UInt8}
theorem Sec.cell (h:Sec w g l) {j:Nat} (hj:j<128):w.cell? ⟨g,j,none⟩=some (.int .u8 ((l[j]?.getD 0).toNat:Int))∧w.frozen? ⟨g,j,none⟩=false:=own_cell h.1 h.2 hj
theorem Sec.set (h:Sec w g l) (j:Nat) {y:UInt8} {v:Value} (hv:v=bv y):Sec (w.setCell ⟨g,j,none⟩ v) g (l.set j y):=by
 subst hv
 exact ⟨own_set h.1 j y,by rw [List.length_set];exact h.2⟩
theorem Sec.keep (h:Sec w g l) (he:w'.heap[g]?=w.heap[g]?):Sec w' g l:=⟨ownsRow_keep h.1 fun b hb=>by cases hb;exact he,h.2⟩
theorem Sec.lt (h:Sec w g l):g<w.heap.size:=(h.1.lt g rfl).2
theorem Sec.bts (h:Sec w g l):Bts w w.heap.size (some ⟨g,0,none⟩) 128 128 l:=by
 obtain ⟨A,n,c,e,hB⟩:=own_holds h.1
 cases e
 exact hB
end
theorem lo_bv {x v:Int} (h:v=x % 256):Value.int .u8 v=bv (lo x):=by
 unfold bv
 rw [lo_nat,h]
def isEnc (l:List Int):Option (List UInt8):=if okl l=true then some (encS l 8) else none
def EncP (w:World) (o:Option (List UInt8)) (e:Ending) (w':World):Prop :=
 match o with
 | none=>e=.returned (.tuple #[.slice none 0 0,.int .i64 1])∧Below w.heap.size w w'
 | some b=>∃ g,e=.returned (.tuple #[.slice (some ⟨g,0,none⟩) 128 128,.int .i64 0])∧Bts w' w'.heap.size (some ⟨g,0,none⟩) 128 128 b∧Below w.heap.size w w'
theorem isEnc_no {l:List Int} (h:okl l=false):isEnc l=none:=by unfold isEnc;rw [if_neg (by rw [h];decide)]
theorem isEnc_yes {l:List Int} (h:okl l=true):isEnc l=some (encS l 8):=by unfold isEnc;rw [if_pos h]
theorem enc_short {w:World} {B n c:Nat} {A:Option Addr} {l:List Int} (h:Ints w B A n c l) (hn:n≠8):Calls Tryz.prog 212 #[.slice A n c] w (EncP w none):=by
 have h1:((n:Int) != 8)=true:=by simp;omega
 clear h
 go_enter Tryz.func212,Tryz.ntmps212
 go_wp2_with fail
 go_ret2
 exact ⟨rfl,Below.refl _ _⟩
set_option maxRecDepth 20000 in
set_option maxHeartbeats 1000000 in
theorem enc_eight {w:World} {B c:Nat} {A:Option Addr} {l:List Int} (h:Ints w B A 8 c l) (hB:B≤w.heap.size):Calls Tryz.prog 212 #[.slice A 8 c] w (EncP w (isEnc l)):=by
 obtain ⟨o,ho⟩:∃ o,isEnc l=o:=⟨_,rfl⟩
 rw [ho]
 have HO:=Lib.hid ho
 clear ho
 have HI:=Lib.hid h
 have HL:Hid (l.length=8):=h.len
 have hlim:=h.lim
 have hcap:=h.cap
 unfold maxLen at hlim
 clear h
 have hmk:=make_run w
 go_enter Tryz.func212,Tryz.ntmps212
 go_wp2_with fail
 clear hmk
 go_loopw [13] (fun i wr=>∃ k:Nat,k≤8∧i=.int .i64 k∧Hid ((l.take k).all okp=true)∧Hid (Sec wr w.heap.size (encS l k))∧Hid (Below w.heap.size w wr)) (fun i _=>8 - (intOf i).toNat)
 case atStart=>exact ⟨0,Nat.zero_le _,rfl,by simp [Hid],sec_new w,box_below _ _⟩
 case round =>
  obtain ⟨k,hk,rfl,HN,HS,HB⟩:=hrel
  by_cases hlt:k<8
  ·obtain ⟨b,off,rfl,hb,hc⟩:=(HI.out.below (HB.out.mono hB)).cell hlt
   have HX:Hid (l[k]?=some (l[k]?.getD 0)):=get_of HL.out hlt
   have HE:Hid (encS l (k+1)=lay1 (encS l k) k (l[k]?.getD 0)):=rfl
   generalize l[k]?.getD 0=x at *
   cases hx:okp x with
   | false =>
    have HX2:=Lib.hid hx
    obtain rfl:o=none:=by
     rw [← HO.out]
     refine isEnc_no ?_
     unfold okl
     rw [all_not HX.out hx,Bool.and_false]
    clear hx
    go_wp2_with fail
    refine (allowed_any x _).mono ?_
    rintro e w1 ⟨rfl,rfl⟩
    rw [HX2.out]
    go_wp2_with fail
    go_ret2
    exact ⟨rfl,HB.out⟩
   | true =>
    have hx1:0≤x∧x<1024:=by have:=okp_iff.1 hx;omega
    have HX2:=Lib.hid hx
    have HN2:=Lib.hid (all_take HX.out HN.out hx)
    clear hx
    obtain ⟨hc1,hf1⟩:=HS.out.cell (j:=2 * k) (by omega)
    obtain ⟨hc2,hf2⟩:=HS.out.cell (j:=2 * k+1) (by omega)
    go_wp2_with fail
    refine (allowed_any x _).mono ?_
    rintro e w1 ⟨rfl,rfl⟩
    rw [HX2.out]
    go_wp2_with fail
    refine ⟨⟨k+1,by omega,by go_num,HN2,?_,(HB.out.setCell (p:=⟨w.heap.size,2 * k,none⟩) (Nat.le_refl _) _).setCell (p:=⟨w.heap.size,2 * k+1,none⟩) (Nat.le_refl _) _⟩,by simp [intOf];omega⟩
    rw [HE.out]
    exact (HS.out.set (2 * k) (lo_bv rfl)).set (2 * k+1) (lo_bv (by omega))
  ·obtain rfl:k=8:=by omega
   have HG:Hid (okl l=true):=by
    show _=_
    have:=HN.out
    rw [List.take_of_length_le (by rw [HL.out];omega)] at this
    unfold okl
    rw [this,HL.out]
    rfl
   obtain rfl:o=some (encS l 8):=by rw [← HO.out];exact isEnc_yes HG.out
   go_wp2_with fail
   go_ret2
   exact ⟨_,rfl,HS.out.bts,HB.out⟩
theorem okl_len {l:List Int} (h:l.length≠8):okl l=false:=by
 unfold okl
 rw [decide_eq_false h,Bool.false_and]
theorem enc_any {w:World} {B n c:Nat} {A:Option Addr} {l:List Int} (h:Ints w B A n c l) (hB:B≤w.heap.size):Calls Tryz.prog 212 #[.slice A n c] w (EncP w (isEnc l)):=by
 by_cases hn:n=8
 ·subst hn
  exact enc_eight h hB
 ·rw [isEnc_no (okl_len (by rw [h.len];exact hn))]
  exact enc_short h hn
end Go.Proofs.YtkganhafbjgndaaGreatRR.T
namespace Go.Proofs.YtkganhafbjgndaaGreatRR.T
open Go.RowKit
set_option linter.unusedVariables false
theorem Tryz.info3:(Tryz.prog.info? 3).map (fun i=>(i.zero,i.size,i.bytes))=some (some (.int .i64 0),1,8):=by kernel_rfl
def Fill (w:World) (g n:Nat) (f:Nat→Int) (k:Nat):Prop:=∃ C,w.heap[g]?=some (.cells C 3 (0,0))∧C.size=n∧∀ j,j<k→C[j]?=some (.int .i64 (f j))
def zi (n:Nat):Array Value:=madeCells #[.int .i64 0] n
theorem makeI (w:World):(Instr.makeSlice 54 (.int .i64 8) (.int .i64 8)).run Tryz.prog w=.ok (.slice (some ⟨w.heap.size,0,none⟩) 8 8) (w.alloc (.cells (zi 8) 3)):=by
 obtain ⟨i0,hi,hz0,hz1,hz2⟩:=info_parts Tryz.info3
 have:=run_make (P:=Tryz.prog) w 54 3 i0 _ Tryz.underlying54 hi hz0 .i64 .i64 8 8 (by omega) (by omega) (by rw [hz2];omega) (by omega)
 rw [this,hz1]
 rfl
theorem fill_new (w:World) (n:Nat) (f:Nat→Int):Fill (w.alloc (.cells (zi n) 3)) w.heap.size n f 0 :=
 ⟨_,heap_alloc_new _ _,size_madeCells _ _,fun j hj=>absurd hj (by omega)⟩
section
variable {w w':World} {g n k:Nat} {f:Nat→Int}
theorem Fill.cell (h:Fill w g n f k) (hk:k<n):(∃ v,w.cell? ⟨g,k,none⟩=some v)∧w.frozen? ⟨g,k,none⟩=false:=by
 obtain ⟨C,hC,hs,_⟩:=h
 exact ⟨⟨_,by rw [cell_in hC,Array.getElem?_eq_getElem (by omega)]⟩,free_in hC k⟩
theorem Fill.step (h:Fill w g n f k) (hk:k<n) {x:Int} (hx:x=f k):Fill (w.setCell ⟨g,k,none⟩ (.int .i64 x)) g n f (k+1):=by
 obtain ⟨C,hC,hs,ha⟩:=h
 refine ⟨_,heap_set hC _ _,by simp [hs],fun j hj=>?_⟩
 by_cases e:j=k
 ·subst e;subst hx;simp [hs,hk]
 ·rw [Array.getElem?_setIfInBounds_ne (by omega)];exact ha j (by omega)
theorem Fill.keep (h:Fill w g n f k) (he:w'.heap[g]?=w.heap[g]?):Fill w' g n f k:=by
 obtain ⟨C,hC,r⟩:=h
 exact ⟨C,he.trans hC,r⟩
theorem Fill.lt (h:Fill w g n f k):g<w.heap.size:=by obtain ⟨C,hC,_⟩:=h;exact (Array.getElem?_eq_some_iff.1 hC).1
theorem Fill.ints (h:Fill w g n f n) (hn:n≤maxLen):Ints w w.heap.size (some ⟨g,0,none⟩) n n ((List.range n).map f):=by
 have hlt:=h.lt
 obtain ⟨C,hC,hs,ha⟩:=h
 exact ⟨by simp,Nat.le_refl _,hn,fun _=>⟨g,0,rfl,hlt,fun j hj=>by rw [Nat.zero_add,cell_in hC,ha j hj];simp [hj]⟩⟩
end
theorem or_low (x y:UInt8):bits .or .i64 (x.toNat:Int) ((y.toNat:Int) * 256)=((x.toNat+256 * y.toNat:Nat):Int):=by
 have hx:=x.toNat_lt
 have hy:=y.toNat_lt
 have e:(y.toNat:Int) * 256=((y.toNat * 256:Nat):Int):=by omega
 have o1:∀ a:Nat,a<9223372036854775808→(BitVec.ofInt 64 (a:Int)).toNat=a:=fun a ha=>by
  rw [BitVec.ofInt_natCast,BitVec.toNat_ofNat];exact Nat.mod_eq_of_lt (by omega)
 have hb:x.toNat ||| y.toNat * 256<2 ^ 63:=Nat.or_lt_two_pow (by omega) (by omega)
 have h:bits .or .i64 (x.toNat:Int) ((y.toNat * 256:Nat):Int)=((x.toNat ||| y.toNat * 256:Nat):Int):=by
  show IntKind.i64.wrap ((BitVec.ofInt 64 (x.toNat:Int) ||| BitVec.ofInt 64 ((y.toNat * 256:Nat):Int)).toNat:Int)=_
  rw [BitVec.toNat_or,o1 _ (by omega),o1 _ (by omega),IntKind.wrap_i64]
  omega
 have h2:x.toNat ||| y.toNat * 256=x.toNat+256 * y.toNat:=by
  rw [Nat.or_comm,Nat.mul_comm y.toNat 256,← Nat.two_pow_add_eq_or_of_lt (i:=8) (by omega) y.toNat]
  omega
 rw [e,h,h2]
theorem Fill.row {w:World} {g n:Nat} {f:Nat→Int} (h:Fill w g n f n):w.heap[g]?=some (.cells (((List.range n).map f).map iv).toArray 3 (0,0)):=by
 obtain ⟨C,hC,hs,ha⟩:=h
 rw [hC]
 congr 2
 apply Array.ext_getElem?
 intro j
 by_cases hj:j<n
 ·rw [ha j hj];simp [hj,iv]
 ·rw [Array.getElem?_eq_none (by omega),Array.getElem?_eq_none (by simp;omega)]
def DecP (w:World) (o:Option (List Int)) (e:Ending) (w':World):Prop :=
 match o with
 | none=>e=.returned (.tuple #[.slice none 0 0,.int .i64 2])∧Below w.heap.size w w'
 | some ns=>∃ g,e=.returned (.tuple #[.slice (some ⟨g,0,none⟩) 8 8,.int .i64 0])∧Ints w' w'.heap.size (some ⟨g,0,none⟩) 8 8 ns∧Below w.heap.size w w'∧w.heap.size≤g∧w'.heap[g]?=some (.cells (ns.map iv).toArray 3 (0,0))
set_option maxRecDepth 20000 in
set_option maxHeartbeats 2000000 in
theorem dec_128 {w:World} {B c:Nat} {A:Option Addr} {b:List UInt8} (h:Bts w B A 128 c b) (hB:B≤w.heap.size):Calls Tryz.prog 211 #[.slice A 128 c] w (DecP w (isPt b)):=by
 obtain ⟨o,ho⟩:∃ o,isPt b=o:=⟨_,rfl⟩
 rw [ho]
 have HO:=Lib.hid ho
 clear ho
 obtain ⟨bb,off,rfl,hbb,hcell⟩:=h.at_ (by omega)
 have H:=Lib.hid h
 have hcap:=h.cap
 have hlim:=h.lim
 unfold maxLen at hlim
 have HLN:=Lib.hid h.len
 clear h hcell
 have hmk:=makeI w
 go_enter Tryz.func211,Tryz.ntmps211
 go_wp2_with fail
 clear hmk
 go_loopw [14] (fun i wr=>∃ j:Nat,j≤8∧i=.int .i64 j∧Hid (Fill wr w.heap.size 8 (num b) j)∧Hid (Below w.heap.size w wr)) (fun i _=>8 - (intOf i).toNat)
 case atStart=>exact ⟨0,Nat.zero_le _,rfl,fill_new _ _ _,box_below _ _⟩
 case round =>
  obtain ⟨j,hj,rfl,HF,HB⟩:=hrel
  by_cases hlt:j<8
  ·obtain ⟨⟨v0,hv0⟩,hfr0⟩:=HF.out.cell hlt
   obtain ⟨bb1,off1,e1,hbb1,hx⟩:=(H.out.below (HB.out.mono hB)).cell (k:=2 * j) (by omega)
   cases e1
   obtain ⟨bb2,off2,e2,hbb2,hy⟩:=(H.out.below (HB.out.mono hB)).cell (k:=2 * j+1) (by omega)
   cases e2
   have HN:Hid (num b j=((b[2 * j]?.getD 0).toNat+256 * (b[2 * j+1]?.getD 0).toNat:Nat)):=rfl
   generalize b[2 * j]?.getD 0=x at *
   generalize b[2 * j+1]?.getD 0=y at *
   have hxl:=x.toNat_lt
   have hyl:=y.toNat_lt
   have hne:bb≠w.heap.size:=by omega
   have HW:Hid (w.heap.size≤w.heap.size):=Nat.le_refl _
   generalize hG:w.heap.size=G at *
   clear hG
   have hp:IntKind.i64.wrap (2 * (j:Int))=((2 * j:Nat):Int):=by rw [IntKind.wrap_i64];omega
   have hp1:2 * j+1<128:=by omega
   generalize 2 * j=p at *
   have hi0:(0:Int)≤(p:Int):=by omega
   have hi1:(p:Int)<128:=by omega
   have hi2:((p+1:Nat):Int)<128:=by omega
   have hi4:(0:Int)≤((p+1:Nat):Int):=by omega
   have hw1:IntKind.i64.wrap ((p:Int)+1)=((p+1:Nat):Int):=by rw [IntKind.wrap_i64];omega
   have hw2:IntKind.i64.wrap (x.toNat:Int)=(x.toNat:Int):=by rw [IntKind.wrap_i64];omega
   have hw3:IntKind.i64.wrap (y.toNat:Int)=(y.toNat:Int):=by rw [IntKind.wrap_i64];omega
   have hw4:IntKind.i64.wrap ((y.toNat:Int) * 256)=(y.toNat:Int) * 256:=by rw [IntKind.wrap_i64];omega
   have hj0:(0:Int)≤(j:Int):=by omega
   have hj1:(j:Int)<8:=by omega
   generalize hq:p+1=q at *
   clear hq
   go_wp2_with fail
   go_still_tail 18,(by kernel_rfl)
   change wpList _ _ _ _ _ wr.drew
   have hv0':wr.drew.cell? ⟨G,j,none⟩=some v0:=hv0
   have hfr0':wr.drew.frozen? ⟨G,j,none⟩=false:=hfr0
   go_wp2_with fail
   refine ⟨⟨j+1,by omega,by go_num,(HF.out.step hlt (by rw [HN.out,or_low])).keep rfl,(HB.out.setCell (p:=⟨G,j,none⟩) (Nat.le_refl _) _).drew⟩,by simp [intOf];omega⟩
  ·obtain rfl:j=8:=by omega
   have HI:Hid (Ints wr wr.heap.size (some ⟨w.heap.size,0,none⟩) 8 8 (dec b)):=HF.out.ints (by unfold maxLen;omega)
   have HFL:=Lib.hid HF.out.lt
   have HRW:Hid (wr.heap[w.heap.size]?=some (.cells ((dec b).map iv).toArray 3 (0,0))):=HF.out.row
   cases hg:okl (dec b) with
   | false =>
    obtain rfl:o=none:=by
     rw [← HO.out]
     unfold isPt
     rw [if_neg]
     intro hk
     have h1:=hk.2.1
     rw [hg] at h1
     cases h1
    have HE:=Lib.hid (enc_any HI.out (Nat.le_refl _))
    rw [isEnc_no hg] at HE
    clear hg
    go_wp2_with fail
    refine HE.out.mono ?_
    rintro e w3 ⟨rfl,hb3⟩
    have HB4:Hid (Below w.heap.size w w3):=HB.out.trans (hb3.mono HB.out.size)
    clear hb3
    go_wp2_with fail
    go_ret2
    exact ⟨rfl,HB4.out⟩
   | true =>
    have HG:=Lib.hid hg
    have HE:=Lib.hid (enc_any HI.out (Nat.le_refl _))
    rw [isEnc_yes hg] at HE
    clear hg
    go_wp2_with fail
    refine HE.out.mono ?_
    rintro e w3 ⟨g,rfl,h3,hb3⟩
    have H3:=Lib.hid h3
    have HB3:=Lib.hid hb3
    have HB4:Hid (Below w.heap.size w w3):=HB.out.trans (hb3.mono HB.out.size)
    clear h3 hb3
    have HE2:=Lib.hid (equal_any (w:=w3) H3.out (H.out.below (HB4.out.mono hB)))
    by_cases he:encS (dec b) 8=b
    ·have HD:Hid (decide (encS (dec b) 8=b)=true):=by show _=_;simpa using he
     obtain rfl:o=some (dec b):=by
      rw [← HO.out]
      unfold isPt
      rw [if_pos ⟨HLN.out,HG.out,he⟩]
     clear he
     go_wp2_with fail
     refine HE2.out.mono ?_
     rintro e w4 ⟨rfl,rfl⟩
     rw [HD.out]
     go_wp2_with fail
     go_ret2
     exact ⟨w.heap.size,rfl,(HI.out.below HB3.out).more HB3.out.size,HB4.out,Nat.le_refl _,(HB3.out.block _ HFL.out).trans HRW.out⟩
    ·have HD:Hid (decide (encS (dec b) 8=b)=false):=by show _=_;simpa using he
     obtain rfl:o=none:=by
      rw [← HO.out]
      unfold isPt
      rw [if_neg]
      exact fun hk=>he hk.2.2
     clear he
     go_wp2_with fail
     refine HE2.out.mono ?_
     rintro e w4 ⟨rfl,rfl⟩
     rw [HD.out]
     go_wp2_with fail
     go_ret2
     exact ⟨rfl,HB4.out⟩
end Go.Proofs.YtkganhafbjgndaaGreatRR.T
namespace Go.Proofs.YtkganhafbjgndaaGreatRR.T
open Go.RowKit
set_option linter.unusedVariables false
theorem Tryz.info43:(Tryz.prog.info? 92).map (fun i=>(i.zero,i.size,i.bytes))=some (some (.agg #[.int .i64 0,.int .i64 0,.int .i64 0]),3,24):=by kernel_rfl
theorem flat_get {α:Type} {f:α→List Value} {k:Nat}:∀ {l:List α},(∀ x∈l,(f x).length=k)→∀ {i j:Nat} {x:α},l[i]?=some x→j<k→(l.flatMap f)[i * k+j]?=(f x)[j]?:=by
 intro l
 induction l with
 | nil=>intro _ i j x h;simp at h
 | cons a r ih =>
  intro hk i j x h hj
  have ha:(f a).length=k:=hk a (by simp)
  rw [List.flatMap_cons]
  cases i with
  | zero =>
   simp at h
   subst h
   rw [Nat.zero_mul,Nat.zero_add,List.getElem?_append_left (by omega)]
  | succ i =>
   rw [List.getElem?_append_right (by rw [ha,Nat.succ_mul];omega),ha,show (i+1) * k+j - k=i * k+j by rw [Nat.succ_mul];omega]
   exact ih (fun x hx=>hk x (by simp [hx])) (by simpa using h) hj
def pc (a s j:Nat):List Value:=[.int .i64 (pb a j),.int .i64 (pf a j),.int .i64 (pt a s j)]
def pcs (a s k:Nat):List Value:=(List.range k).flatMap (pc a s)
theorem pcs_succ (a s k:Nat):pcs a s (k+1)=pcs a s k++pc a s k:=by
 unfold pcs
 rw [List.range_succ,List.flatMap_append]
 simp
theorem pcs_get {a s k i j:Nat} (hi:i<k) (hj:j<3):(pcs a s k)[i * 3+j]?=(pc a s i)[j]?:=flat_get (f:=pc a s) (k:=3) (l:=List.range k) (x:=i) (fun x _=>rfl) (List.getElem?_range hi) hj
theorem appP_run {w:World} {base k:Nat} {v:Value} {xs:List Value} (x y z:Int) (hown:w.ownsRow base 92 3 v k xs) (hk:k≤1000) (hbase:base≤w.heap.size) :
  ∃ v' w',(Builtin.append_ #[88,88] 88 #[v,.slice (some ⟨w.heap.size,0,none⟩) 1 1]).run Tryz.prog (w.alloc (.cells #[.int .i64 x,.int .i64 y,.int .i64 z] 92))=.ok v' w'∧w'.ownsRow base 92 3 v' (k+1) (xs++[.int .i64 x,.int .i64 y,.int .i64 z])∧Below base w w':=by
 obtain ⟨i0,hi,hz0,hz1,hz2⟩:=info_parts Tryz.info43
 obtain ⟨v',w',hr,h2,h3,_⟩:=run_append_own (P:=Tryz.prog) (w.alloc (.cells #[.int .i64 x,.int .i64 y,.int .i64 z] 92)) base 88 88 92 i0 _ 3 24 Tryz.underlying88 hi hz0 hz1 hz2 rfl (by decide) v k xs (hown.alloc _) ⟨w.heap.size,0,none⟩ 1 1 [.int .i64 x,.int .i64 y,.int .i64 z] (by rfl)
  (fun j u hu=>by
   rw [Addr.add_lit,World.cell?_alloc_mark,Nat.zero_add]
   match j,hu with
   | 0,hu=>exact hu
   | 1,hu=>exact hu
   | 2,hu=>exact hu
   | j+3,hu=>simp at hu) (fun u hu=>by simp only [List.mem_cons,List.not_mem_nil,or_false] at hu;rcases hu with rfl | rfl | rfl<;>rfl) (by unfold maxLen;omega) (by omega) (by simp;omega)
 exact ⟨v',w',hr,h2,((Below.refl base w).alloc hbase _).grown h3 (by simp;omega) fun j hj=>(hown.lt j hj).1⟩
structure Pts (w:World) (B:Nat) (A:Option Addr) (n c:Nat) (a s:Nat):Prop where
 len:n=np a s
 cap:n≤c
 lim:c≤maxLen
 at_:0<n→∃ b,A=some ⟨b,0,none⟩∧b<B∧∀ j,j<n→w.cell? ⟨b,j * 3,none⟩=some (.int .i64 (pb a j))∧w.cell? ⟨b,j * 3+1,none⟩=some (.int .i64 (pf a j))∧w.cell? ⟨b,j * 3+2,none⟩=some (.int .i64 (pt a s j))
section
variable {w w':World} {B B' n c a s:Nat} {A:Option Addr}
theorem Pts.keep (h:Pts w B A n c a s) (hk:∀ p:Addr,p.block<B→w'.cell? p=w.cell? p):Pts w' B A n c a s :=
 ⟨h.len,h.cap,h.lim,fun hn=>by
  obtain ⟨b,e,hb,hc⟩:=h.at_ hn
  exact ⟨b,e,hb,fun j hj=>⟨(hk _ hb).trans (hc j hj).1,(hk _ hb).trans (hc j hj).2.1,(hk _ hb).trans (hc j hj).2.2⟩⟩⟩
theorem Pts.more (h:Pts w B A n c a s) (hB:B≤B'):Pts w B' A n c a s :=
 ⟨h.len,h.cap,h.lim,fun hn=>by
  obtain ⟨b,e,hb,hc⟩:=h.at_ hn
  exact ⟨b,e,by omega,hc⟩⟩
theorem Pts.below (h:Pts w B A n c a s) (hb:Below B w w'):Pts w' B A n c a s:=h.keep fun _ hp=>hb.cell hp
theorem Pts.nil_ (w:World) (B a:Nat):Pts w B none 0 0 a 0:=⟨rfl,Nat.le_refl _,by decide,fun h=>absurd h (by omega)⟩
end
theorem own_pts {w:World} {base a s:Nat} {v:Value} (h:w.ownsRow base 92 3 v (np a s) (pcs a s (np a s))):∃ A c,v=.slice A (np a s) c∧Pts w w.heap.size A (np a s) c a s∧∀ g o,A=some ⟨g,o,none⟩→base≤g:=by
 rcases h.2 with ⟨rfl,h0⟩ | ⟨g,cap,cur,rfl,hg,hh,hn,hm,hs,ht⟩
 ·exact ⟨none,0,by rw [h0],⟨rfl,by omega,by decide,fun h=>by omega⟩,fun g o e=>by cases e⟩
 ·refine ⟨_,cap,rfl,⟨rfl,hn,hm,fun h0=>⟨g,rfl,(Array.getElem?_eq_some_iff.1 hh).1,fun j hj=>?_⟩⟩,fun g' o e=>by cases e;exact hg⟩
  have hget:∀ i,i<3→w.cell? ⟨g,j * 3+i,none⟩=(pc a s j)[i]?:=fun i hi=>by
   rw [cell_in hh]
   have:cur.toList[j * 3+i]?=(pcs a s (np a s))[j * 3+i]?:=by
    conv=>rhs;rw [← ht]
    rw [List.getElem?_take,if_pos (by omega)]
   rw [← Array.getElem?_toList,this,pcs_get hj hi]
  exact ⟨hget 0 (by omega),hget 1 (by omega),hget 2 (by omega)⟩
def GivesPts (w:World) (a s:Nat) (e:Ending) (w':World):Prop:=∃ A c,e=.returned (.tuple #[.slice A (np a s) c,.int .i64 0])∧Pts w' w'.heap.size A (np a s) c a s∧Below w.heap.size w w'∧∀ g o,A=some ⟨g,o,none⟩→w.heap.size≤g
theorem parts_nil (x:Int) (w:World) (h:0≤x):Calls Tryz.prog 45 #[.int .i64 x,.int .i64 0] w fun e w'=>e=.returned (.tuple #[.slice none 0 0,.int .i64 0])∧w=w':=by
 go_enter Tryz.func45,Tryz.ntmps45
 go_wp2_with fail
 go_ret2
 exact ⟨rfl,rfl⟩
set_option maxRecDepth 20000 in
set_option maxHeartbeats 1000000 in
theorem parts_some (a s:Nat) (w:World) (hs:0<s) (has:a+s≤9728):Calls Tryz.prog 45 #[.int .i64 a,.int .i64 s] w (GivesPts w a s):=by
 have hs1:((s:Int) == 0)=false:=by simp;omega
 have HP:∀ k,Hid (pcs a s (k+1)=pcs a s k++pc a s k):=fun k=>pcs_succ a s k
 have HN:Hid (np a s=(a+s - 1) / 128+1 - a / 128):=by show _=_;unfold np;rw [if_neg (by omega)]
 have HNL:=Lib.hid (np_le (.inl has))
 obtain ⟨q,hq⟩:∃ q,a / 128=q:=⟨_,rfl⟩
 have hqa:128 * q≤a∧a<128 * q+128:=by omega
 have HPC:∀ k,Hid (pc a s k=[.int .i64 ((q:Int)+k),.int .i64 (max ((a:Int) - ((q:Int)+k) * 128) 0),.int .i64 (min ((a:Int)+s - ((q:Int)+k) * 128) 128)]):=fun k=>by
  show _=_
  unfold pc pf pt pb
  rw [hq]
  have e1:((q+k:Nat):Int)=(q:Int)+k:=by omega
  rw [e1,Int.mul_comm 128]
 have HBL:Hid (blocks ((a:Int)+s)=(q:Int)+np a s):=by
  show _=_
  have:=HN.out
  unfold blocks
  rw [if_neg (by omega)]
  omega
 have hqd:(a:Int) / 128=q:=by omega
 obtain ⟨M,hM⟩:∃ M,np a s=M:=⟨_,rfl⟩
 rw [hM] at HBL HN HNL
 have hM1:=HNL.out
 have HMN:=Lib.hid hM
 have hq76:q≤76:=by omega
 clear hM HNL HN hq
 go_enter Tryz.func45,Tryz.ntmps45
 go_wp2_with fail
 go_loopw [8,9] (fun v i wr=>∃ k:Nat,∃ v0:Value,k≤M∧i=.int .i64 ((q:Int)+k)∧v=v0∧Hid (wr.ownsRow w.heap.size 92 3 v0 k (pcs a s k))∧Hid (Below w.heap.size w wr)) (fun _ i _=>q+M - (intOf i).toNat)
 case atStart=>exact ⟨0,_,Nat.zero_le _,by simp,rfl,World.ownsRow_nil _ _ _ _,Below.refl _ _⟩
 case round =>
  obtain ⟨k,v,hk,rfl,rfl,HR,HB⟩:=hrel
  go_wp2_with fail
  refine (blocks_any ((a:Int)+s) _ (by omega)).mono ?_
  rintro e w1 ⟨rfl,rfl⟩
  rw [HBL.out]
  by_cases hlt:k<M
  ·have hlt1:decide ((q:Int)+k<(q:Int)+M)=true:=by simp;omega
   have HF:Hid (max ((a:Int) - ((q:Int)+k) * 128) 0=if ((a:Int) - ((q:Int)+k) * 128)<0 then 0 else ((a:Int) - ((q:Int)+k) * 128)):=by show _=_;split<;>omega
   have HT:Hid (min ((a:Int)+s - ((q:Int)+k) * 128) 128=if 128<((a:Int)+s - ((q:Int)+k) * 128) then 128 else ((a:Int)+s - ((q:Int)+k) * 128)):=by show _=_;split<;>omega
   have HPK:=Lib.hid (HPC k).out
   rw [HF.out,HT.out] at HPK
   clear HF HT
   by_cases c1:((a:Int) - ((q:Int)+k) * 128)<0
   ·rw [if_pos c1] at HPK
    by_cases c2:128<((a:Int)+s - ((q:Int)+k) * 128)
    ·rw [if_pos c2] at HPK
     obtain ⟨v',w',hr,ho,hb⟩:=appP_run ((q:Int)+k) 0 128 HR.out (by omega) HB.out.size
     rw [← HPK.out,← (HP k).out] at ho
     have HR2:=Lib.hid hr
     have HO:=Lib.hid ho
     have HB2:=Lib.hid (HB.out.trans hb)
     clear hr ho hb
     go_wp2_with (at_builtin;refine Lib.wpList_append_run _ rfl _ _ _ _ rfl _ _ rfl rfl _ _ HR2.out ?_)
     go_roundw
     case rel=>exact ⟨k+1,v',by omega,by go_num,rfl,HO,HB2⟩
     case measure=>simp [intOf];omega
    ·rw [if_neg c2] at HPK
     obtain ⟨v',w',hr,ho,hb⟩:=appP_run ((q:Int)+k) 0 ((a:Int)+s - ((q:Int)+k) * 128) HR.out (by omega) HB.out.size
     rw [← HPK.out,← (HP k).out] at ho
     have HR2:=Lib.hid hr
     have HO:=Lib.hid ho
     have HB2:=Lib.hid (HB.out.trans hb)
     clear hr ho hb
     go_wp2_with (at_builtin;refine Lib.wpList_append_run _ rfl _ _ _ _ rfl _ _ rfl rfl _ _ HR2.out ?_)
     go_roundw
     case rel=>exact ⟨k+1,v',by omega,by go_num,rfl,HO,HB2⟩
     case measure=>simp [intOf];omega
   ·rw [if_neg c1] at HPK
    by_cases c2:128<((a:Int)+s - ((q:Int)+k) * 128)
    ·rw [if_pos c2] at HPK
     obtain ⟨v',w',hr,ho,hb⟩:=appP_run ((q:Int)+k) ((a:Int) - ((q:Int)+k) * 128) 128 HR.out (by omega) HB.out.size
     rw [← HPK.out,← (HP k).out] at ho
     have HR2:=Lib.hid hr
     have HO:=Lib.hid ho
     have HB2:=Lib.hid (HB.out.trans hb)
     clear hr ho hb
     go_wp2_with (at_builtin;refine Lib.wpList_append_run _ rfl _ _ _ _ rfl _ _ rfl rfl _ _ HR2.out ?_)
     go_roundw
     case rel=>exact ⟨k+1,v',by omega,by go_num,rfl,HO,HB2⟩
     case measure=>simp [intOf];omega
    ·rw [if_neg c2] at HPK
     obtain ⟨v',w',hr,ho,hb⟩:=appP_run ((q:Int)+k) ((a:Int) - ((q:Int)+k) * 128) ((a:Int)+s - ((q:Int)+k) * 128) HR.out (by omega) HB.out.size
     rw [← HPK.out,← (HP k).out] at ho
     have HR2:=Lib.hid hr
     have HO:=Lib.hid ho
     have HB2:=Lib.hid (HB.out.trans hb)
     clear hr ho hb
     go_wp2_with (at_builtin;refine Lib.wpList_append_run _ rfl _ _ _ _ rfl _ _ rfl rfl _ _ HR2.out ?_)
     go_roundw
     case rel=>exact ⟨k+1,v',by omega,by go_num,rfl,HO,HB2⟩
     case measure=>simp [intOf];omega
  ·obtain rfl:k=M:=by omega
   have hlt1:decide ((q:Int)+k<(q:Int)+k)=false:=by simp
   go_wp2_with fail
   go_ret2
   have ho:=HR.out
   have hM:=HMN.out
   subst hM
   obtain ⟨A,c,rfl,hP,hfr⟩:=own_pts ho
   exact ⟨A,c,rfl,hP,HB.out,hfr⟩
end Go.Proofs.YtkganhafbjgndaaGreatRR.T
