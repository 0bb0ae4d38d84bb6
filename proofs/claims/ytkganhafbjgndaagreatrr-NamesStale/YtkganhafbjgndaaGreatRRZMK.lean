/- Marks (marks), walked. -/
import Derived.Test.YtkganhafbjgndaaGreatRRRows
import Derived.WalkKit
import Derived.ProofKit
import Derived.Below
import Derived.Handy
import Derived.Laws.OwnMore
import Derived.Laws.IdiomStrings
import Derived.Laws.BytesArg
import Derived.Laws.MakeOwn
import Derived.Laws.ShiftsVarLaws
import Derived.Maps.AppendAt
import Derived.Deep.AppendLies
import Derived.Lib.Hide
import Derived.Lib.AppendZeros
import Derived.Lib.SliceRun
import Derived.OwnWalk
import Derived.Deep.RegionHeld3
import Derived.WalkMore
import Derived.Deep.RegionWith
import Derived.ScopeJumps
namespace Go.Proofs.YtkganhafbjgndaaGreatRR.K
def bt (l:List UInt8) (n:Nat):Bool:=(l[n / 8]?.getD 0).toNat.testBit (n % 8)
def put (x:UInt8) (e:Nat) (on:Bool):UInt8:=UInt8.ofNat (if on then x.toNat ||| 2 ^ e else x.toNat &&& (255 - 2 ^ e))
def setb (l:List UInt8) (n:Nat) (on:Bool):List UInt8:=l.set (n / 8) (put (l[n / 8]?.getD 0) (n % 8) on)
theorem pow_lt8 {e:Nat} (h:e<8):2 ^ e<256:=by
 have:(2:Nat) ^ e<2 ^ 8:=Nat.pow_lt_pow_right (by omega) h
 omega
theorem put_lt (x:UInt8) {e:Nat} (on:Bool) (h:e<8):(if on then x.toNat ||| 2 ^ e else x.toNat &&& (255 - 2 ^ e))<256:=by
 have hx:=x.toNat_lt
 have:=pow_lt8 h
 cases on with
 | true=>exact Nat.or_lt_two_pow (n:=8) (by omega) (by omega)
 | false=>exact Nat.and_lt_two_pow (n:=8) _ (Nat.lt_of_le_of_lt (Nat.sub_le _ _) (by decide))
theorem put_nat (x:UInt8) {e:Nat} (on:Bool) (h:e<8):(put x e on).toNat=if on then x.toNat ||| 2 ^ e else x.toNat &&& (255 - 2 ^ e):=by
 unfold put
 rw [UInt8.toNat_ofNat']
 exact Nat.mod_eq_of_lt (put_lt x on h)
theorem put_bit (x:UInt8) {e k:Nat} (on:Bool) (h:e<8) (hk:k<8):(put x e on).toNat.testBit k=if k=e then on else x.toNat.testBit k:=by
 rw [put_nat x on h]
 cases on with
 | true =>
  simp only [if_true,Nat.testBit_or,Nat.testBit_two_pow]
  by_cases hke:k=e
  ·subst hke;simp
  ·simp [hke,Ne.symm hke]
 | false =>
  have e1:255 - 2 ^ e=2 ^ 8 - (2 ^ e+1):=by omega
  have h1:=Nat.testBit_two_pow_sub_succ (x:=2 ^ e) (n:=8) (by have:=pow_lt8 h;omega) k
  simp only [Bool.false_eq_true,if_false,Nat.testBit_and,e1,h1,Nat.testBit_two_pow]
  by_cases hke:k=e
  ·subst hke;simp
  ·simp [hke,Ne.symm hke,hk]
theorem setb_length (l:List UInt8) (n:Nat) (on:Bool):(setb l n on).length=l.length:=by simp [setb]
theorem bt_setb {l:List UInt8} {n m:Nat} (on:Bool) (hn:n<8 * l.length):bt (setb l n on) m=if m=n then on else bt l m:=by
 unfold bt setb
 rw [List.getElem?_set]
 by_cases h8:n / 8=m / 8
 ·rw [if_pos h8,if_pos (by omega),Option.getD_some,put_bit _ _ (by omega) (by omega),h8]
  by_cases he:m=n
  ·subst he;simp
  ·rw [if_neg (by omega),if_neg he]
 ·rw [if_neg h8,if_neg (by intro e;subst e;exact h8 rfl)]
def first (l:List UInt8):Nat→Nat→Option Nat
 | _,0=>none
 | a,k+1=>if bt l a then first l (a+1) k else some a
def count (l:List UInt8):Nat→Nat→Nat
 | _,0=>0
 | a,k+1=>(if bt l a then 1 else 0)+count l (a+1) k
theorem first_some {l:List UInt8} {a k n:Nat} (h:first l a k=some n):a≤n∧n<a+k∧bt l n=false:=by
 induction k generalizing a with
 | zero=>cases h
 | succ k ih =>
  unfold first at h
  split at h
  ·obtain ⟨h1,h2,h3⟩:=ih h
   exact ⟨by omega,by omega,h3⟩
  ·rename_i hb
   cases h
   exact ⟨by omega,by omega,by simpa using hb⟩
theorem first_none {l:List UInt8} {a k:Nat} (h:first l a k=none):count l a k=k:=by
 induction k generalizing a with
 | zero=>rfl
 | succ k ih =>
  unfold first at h
  split at h
  ·rename_i hb
   unfold count
   rw [if_pos hb,ih h]
   omega
  ·cases h
def bitsL (l:List UInt8) (k:Nat):List Bool:=(List.range k).map (bt l)
def part (l:List UInt8) (i:Nat):List UInt8:=(List.range l.length).map fun j=>UInt8.ofNat ((l[j]?.getD 0).toNat % 2 ^ (min 8 (i - 8 * j)))
end Go.Proofs.YtkganhafbjgndaaGreatRR.K
namespace Go.Proofs.YtkganhafbjgndaaGreatRR.K
open Go.RowKit
set_option linter.unusedVariables false
theorem ret1 {k:IntKind} {a b:Int} (h:a=b):Ending.returned (.int k a)=.returned (.int k b):=by rw [h]
structure Bts (w:World) (B:Nat) (A:Option Addr) (n c:Nat) (l:List UInt8):Prop where
 len:l.length=n
 cap:n≤c
 lim:c≤maxLen
 nil:A=none→c=0
 at_:0<n→∃ b off,A=some ⟨b,off,none⟩∧b<B∧∀ j,j<n→w.cell? ⟨b,off+j,none⟩=some (.int .u8 ((l[j]?.getD 0).toNat:Int))
section
variable {w w':World} {B B' n c:Nat} {A:Option Addr} {l:List UInt8}
theorem Bts.keep (h:Bts w B A n c l) (hk:∀ p:Addr,p.block<B→w'.cell? p=w.cell? p):Bts w' B A n c l :=
 ⟨h.len,h.cap,h.lim,h.nil,fun hn=>by
  obtain ⟨b,off,e,hb,hc⟩:=h.at_ hn
  exact ⟨b,off,e,hb,fun j hj=>(hk _ hb).trans (hc j hj)⟩⟩
theorem Bts.more (h:Bts w B A n c l) (hB:B≤B'):Bts w B' A n c l :=
 ⟨h.len,h.cap,h.lim,h.nil,fun hn=>by
  obtain ⟨b,off,e,hb,hc⟩:=h.at_ hn
  exact ⟨b,off,e,by omega,hc⟩⟩
theorem Bts.below (h:Bts w B A n c l) (hb:Below B w w'):Bts w' B A n c l:=h.keep fun _ hp=>hb.cell hp
theorem Bts.nil_ (w:World) (B:Nat):Bts w B none 0 0 []:=⟨rfl,Nat.le_refl _,by decide,fun _=>rfl,fun h=>absurd h (by omega)⟩
theorem Bts.cell (h:Bts w B A n c l) {k:Nat} (hk:k<n):∃ b off,A=some ⟨b,off,none⟩∧b<B∧w.cell? ⟨b,off+k,none⟩=some (.int .u8 ((l[k]?.getD 0).toNat:Int)):=by
 obtain ⟨b,off,e,hb,hc⟩:=h.at_ (by omega)
 exact ⟨b,off,e,hb,hc k hk⟩
theorem Bts.str (h:Bts w B A n c l) (W:World) (hW:∀ p:Addr,p.block<B→W.cell? p=w.cell? p):(convert 41 9 (.slice A n c)).run Tryz.prog W=.ok (.string ⟨l.toArray⟩) W:=by
 rcases Nat.eq_zero_or_pos n with h0 | h0
 ·subst h0
  have hl:l=[]:=List.length_eq_zero_iff.1 h.len
  subst hl
  rw [run_convert_bytes_string W 41 9 5 _ 0 c Tryz.underlying41 Tryz.underlying5 Tryz.underlying9]
  cases A<;>simp [Conv.bytesToString,loadCells]
  all_goals rfl
 ·obtain ⟨b,off,rfl,hb,hc⟩:=h.at_ h0
  obtain rfl:=h.len
  refine run_convert_bytes_back W 41 9 5 ⟨b,off,none⟩ c l Tryz.underlying41 Tryz.underlying5 Tryz.underlying9 fun j hj=>?_
  have e:(⟨b,off,none⟩:Addr).add j=⟨b,off+j,none⟩:=by unfold Addr.add;split<;>simp_all
  rw [e,hW _ hb,hc j hj]
  simp [hj]
end
theorem heap_set {w:World} {g:Nat} {t:TypeId} {cs:Array Value} (h:w.heap[g]?=some (.cells cs t (0,0))) (i:Nat) (u:Value):(w.setCell ⟨g,i,none⟩ u).heap[g]?=some (.cells (cs.setIfInBounds i u) t (0,0)):=by
 simp [World.setCell,Array.getElem?_modify,h]
theorem cell_in {w:World} {g:Nat} {t:TypeId} {cs:Array Value} (h:w.heap[g]?=some (.cells cs t (0,0))) (i:Nat):w.cell? ⟨g,i,none⟩=cs[i]?:=cell_of_row w g i cs t (0,0) h
theorem free_in {w:World} {g:Nat} {t:TypeId} {cs:Array Value} (h:w.heap[g]?=some (.cells cs t (0,0))) (i:Nat):w.frozen? ⟨g,i,none⟩=false:=by
 simp [World.frozen?,h]
def bv (b:UInt8):Value:=.int .u8 (b.toNat:Int)
theorem Tryz.info5:(Tryz.prog.info? 5).map (fun i=>(i.zero,i.size,i.bytes))=some (some (.int .u8 0),1,1):=by kernel_rfl
structure Mine (w w':World) (v:Value) (l:List UInt8):Prop where
 own:w'.ownsRow w.heap.size 5 1 v l.length (l.map bv)
 bel:Below w.heap.size w w'
def GivesMine (w:World) (l:List UInt8) (e:Ending) (w':World):Prop:=∃ v,e=.returned v∧Mine w w' v l
def Holds (w:World) (B:Nat) (v:Value) (l:List UInt8):Prop:=∃ A n c,v=.slice A n c∧Bts w B A n c l
theorem Holds.below {w w':World} {B:Nat} {v:Value} {l:List UInt8} (h:Holds w B v l) (hb:Below B w w'):Holds w' B v l:=by
 obtain ⟨A,n,c,hv,h⟩:=h
 exact ⟨A,n,c,hv,h.below hb⟩
theorem Holds.more {w:World} {B B':Nat} {v:Value} {l:List UInt8} (h:Holds w B v l) (hB:B≤B'):Holds w B' v l:=by
 obtain ⟨A,n,c,hv,h⟩:=h
 exact ⟨A,n,c,hv,h.more hB⟩
theorem own_holds {w:World} {base:Nat} {v:Value} {l:List UInt8} (h:w.ownsRow base 5 1 v l.length (l.map bv)):Holds w w.heap.size v l:=by
 rcases h.2 with ⟨rfl,h0⟩ | ⟨g,cap,cur,rfl,hg,hh,hn,hm,hs,ht⟩
 ·have:l=[]:=List.length_eq_zero_iff.1 h0
  subst this
  exact ⟨_,_,_,rfl,Bts.nil_ _ _⟩
 ·refine ⟨_,_,_,rfl,rfl,hn,hm,(fun h=>by cases h),fun h0=>⟨g,0,rfl,(Array.getElem?_eq_some_iff.1 hh).1,fun j hj=>?_⟩⟩
  rw [Nat.zero_add,cell_in hh]
  have e:cur.toList[j]?=(l.map bv)[j]?:=by
   rw [← ht,List.getElem?_take,if_pos (by omega)]
  rw [← Array.getElem?_toList,e]
  simp [hj,bv]
theorem app_run {w:World} {base B n c:Nat} {v:Value} {A:Option Addr} {l l':List UInt8} (ty:TypeId) (hown:w.ownsRow base 5 1 v l.length (l.map bv)) (h:Bts w B A n c l') (hl:l.length+l'.length≤140737488355328) (hbase:base≤w.heap.size) :
  ∃ v' w',(Builtin.append_ #[41,41] ty #[v,.slice A n c]).run Tryz.prog w=.ok v' w'∧w'.ownsRow base 5 1 v' (l++l').length ((l++l').map bv)∧w.grownBy w' v.ownBlock:=by
 obtain ⟨i0,hi,hz0,hz1,hz2⟩:=info_parts Tryz.info5
 obtain rfl:=h.len
 have h1:∀ u∈l'.map bv,u.oneCell'=true:=by
  intro u hu
  obtain ⟨b,_,rfl⟩:=List.mem_map.1 hu
  rfl
 rcases A with _ | ad
 ·have hc:=h.nil rfl
  subst hc
  have h0:l'=[]:=List.length_eq_zero_iff.1 (by have:=h.cap;omega)
  subst h0
  refine ⟨v,w,?_,by simpa using hown,⟨rfl,rfl,rfl,Nat.le_refl _,fun _ _ _=>rfl⟩⟩
  rcases hown.2 with ⟨rfl,h0⟩ | ⟨g,cap,cur,rfl,_,_,hnc,_⟩
  ·simp [Builtin.append_,run_underlying Tryz.underlying41,sizeOf,typeInfo,hi,Builtin.lenOf,Builtin.firstCells]
  ·simp [Builtin.append_,run_underlying Tryz.underlying41,sizeOf,typeInfo,hi,Builtin.lenOf,Builtin.firstCells,hnc,storeCells]
 ·obtain ⟨v',w',hr,h2,h3,_⟩:=run_append_own (P:=Tryz.prog) w base 41 ty 5 i0 _ 1 1 Tryz.underlying41 hi hz0 hz1 hz2 rfl (by decide) v l.length (l.map bv) hown ad l'.length c (l'.map bv) (by simp)
   (fun j u hu=>by
    have hj:j<l'.length:=by
     have:=(List.getElem?_eq_some_iff.1 hu).1
     simpa using this
    obtain ⟨b,off,e,hb,hcell⟩:=h.at_ (by omega)
    cases e
    rw [Addr.add_lit,hcell j hj,← hu]
    simp [hj,bv]) h1 (by unfold maxLen;omega) (by omega) hbase
  exact ⟨v',w',hr,by simpa using h2,h3⟩
theorem retb {a b:Bool} (h:a=b):Ending.returned (.bool a)=.returned (.bool b):=by rw [h]
def sb (l:List UInt8):ByteArray:=⟨l.toArray⟩
theorem own_set {w:World} {base g cap m:Nat} {l:List UInt8} (h:w.ownsRow base 5 1 (.slice (some ⟨g,0,none⟩) m cap) l.length (l.map bv)) (j:Nat) (y:UInt8) :
  (w.setCell ⟨g,j,none⟩ (bv y)).ownsRow base 5 1 (.slice (some ⟨g,0,none⟩) m cap) (l.set j y).length ((l.set j y).map bv):=by
 refine ⟨by simp,?_⟩
 rcases h.2 with ⟨e,_⟩ | ⟨g',cap',cur,e,hg,hh,hn,hm,hs,ht⟩
 ·cases e
 ·injection e with e1 e2 e3
  injection e1 with e1
  injection e1 with e1
  subst e1 e2 e3
  refine .inr ⟨g,cap,cur.setIfInBounds j (bv y),by rw [List.length_set],hg,heap_set hh j _,by rw [List.length_set];exact hn,hm,by rw [Array.size_setIfInBounds];exact hs,?_⟩
  rw [List.length_set,Array.toList_setIfInBounds,List.take_set,ht,List.map_set]
theorem own_cell {w:World} {base g cap N j:Nat} {l:List UInt8} (h:w.ownsRow base 5 1 (.slice (some ⟨g,0,none⟩) N cap) l.length (l.map bv)) (hl:l.length=N) (hj:j<N) :
  w.cell? ⟨g,j,none⟩=some (.int .u8 ((l[j]?.getD 0).toNat:Int))∧w.frozen? ⟨g,j,none⟩=false:=by
 constructor
 ·obtain ⟨A,n,c,e,hB⟩:=own_holds h
  cases e
  obtain ⟨b,off,e,_,hc⟩:=hB.cell hj
  cases e
  rw [Nat.zero_add] at hc
  exact hc
 ·rcases h.2 with ⟨e,_⟩ | ⟨g',cap',cur,e,hg,hh,_⟩
  ·cases e
  ·injection e with e1 e2 e3
   injection e1 with e1
   injection e1 with e1
   subst e1
   exact free_in hh j
theorem box_below (w:World) (o:Obj):Below w.heap.size w (w.alloc o):=(Below.refl _ w).alloc (Nat.le_refl _) o
theorem clone_any (A:Option Addr) (n c B:Nat) (l:List UInt8) (w:World) (h:Bts w B A n c l) (hB:B≤w.heap.size) (hn:n≤140737488355328) :
  Calls Tryz.prog 145 #[.slice A n c] w (GivesMine w l):=by
 have heq:=fun W=>Lib.run_eql_slice_nil (P:=Tryz.prog) W 41 5 A n c 0 0 Tryz.underlying41
 have hl0:=h.len
 have H:=Lib.hid h
 clear h
 rcases A with _ | a
 ·have hc:=H.out.nil rfl
  have h0:l=[]:=List.length_eq_zero_iff.1 (by have:=H.out.cap;omega)
  subst h0
  subst hc
  simp only [Option.isNone_none] at heq
  clear hl0
  go_enter Tryz.func145,Tryz.ntmps145
  go_wp2
  go_ret
  exact ⟨_,rfl,World.ownsRow_nil _ _ _ _,Below.refl _ _⟩
 ·simp only [Option.isNone_some] at heq
  have ho:=World.ownsRow_made (e:=5) (size:=1) (base:=w.heap.size) w #[] 0 (Nat.le_refl _) (by decide) (by rfl)
  have hbl:=box_below w (.cells #[] 5)
  obtain ⟨v',w',hr,ho',hgr⟩:=app_run (l:=[]) 41 ho (H.out.below (hbl.mono hB)) (by simp;omega) (by simp)
  have HR:=Lib.hid hr
  clear hr hl0
  go_enter Tryz.func145,Tryz.ntmps145
  go_wp2_with (at_builtin;refine Lib.wpList_append_run _ rfl _ _ _ _ rfl _ _ rfl rfl _ _ HR.out ?_)
  go_ret
  exact ⟨_,rfl,ho',hbl.grown hgr (by simp) (fun j hj=>(ho.lt j hj).1)⟩
end Go.Proofs.YtkganhafbjgndaaGreatRR.K
namespace Go.Proofs.YtkganhafbjgndaaGreatRR.K
open Go.RowKit
set_option linter.unusedVariables false
theorem bit_any (n:Nat) (w:World) (hn:n<1024):Calls Tryz.prog 176 #[.int .i64 n] w fun e w'=>e=.returned (.int .u8 ((2 ^ (n % 8):Nat):Int))∧w=w':=by
 have hp:=pow_lt8 (e:=n % 8) (by omega)
 have HP:Hid ((2:Int) ^ (n % 8) % 256=((2 ^ (n % 8):Nat):Int)):=by
  show _=_
  have e1:(2:Int) ^ (n % 8)=((2 ^ (n % 8):Nat):Int):=(Int.natCast_pow 2 _).symm
  rw [e1]
  exact Int.emod_eq_of_lt (Int.natCast_nonneg _) (Int.ofNat_lt.2 hp)
 clear hp
 go_enter Tryz.func176,Tryz.ntmps176
 go_wp2
 go_ret
 exact ⟨ret1 HP.out,rfl⟩
def oneE (n:Nat) (x:Int):Int:=if n=128 then (if 0≤x∧x<1024 then 0 else 4) else 1
theorem one_any (A:Option Addr) (n c:Nat) (x:Int) (w:World):Calls Tryz.prog 175 #[.slice A n c,.int .i64 x] w fun e w'=>e=.returned (.int .i64 (oneE n x))∧w=w':=by
 obtain ⟨o,ho⟩:∃ o,oneE n x=o:=⟨_,rfl⟩
 rw [ho]
 have HO:=Lib.hid ho
 clear ho
 by_cases hn:n=128
 ·subst hn
  by_cases h0:x<0
  ·obtain rfl:o=4:=by rw [← HO.out];unfold oneE;rw [if_pos rfl,if_neg (by omega)]
   go_enter Tryz.func175,Tryz.ntmps175
   go_wp2
   go_ret
   exact ⟨rfl,rfl⟩
  ·by_cases h1:1024≤x
   ·obtain rfl:o=4:=by rw [← HO.out];unfold oneE;rw [if_pos rfl,if_neg (by omega)]
    go_enter Tryz.func175,Tryz.ntmps175
    go_wp2
    go_ret
    exact ⟨rfl,rfl⟩
   ·obtain rfl:o=0:=by rw [← HO.out];unfold oneE;rw [if_pos rfl,if_pos (by omega)]
    go_enter Tryz.func175,Tryz.ntmps175
    go_wp2
    go_ret
    exact ⟨rfl,rfl⟩
 ·obtain rfl:o=1:=by rw [← HO.out];unfold oneE;rw [if_neg hn]
  have hn1:((n:Int) != 128)=true:=by simp;omega
  go_enter Tryz.func175,Tryz.ntmps175
  go_wp2
  go_ret
  exact ⟨rfl,rfl⟩
def someE (n:Nat) (x y:Int):Int:=if n=128 then (if 0≤x∧x≤y∧y≤1024 then 0 else 4) else 1
theorem some_any (A:Option Addr) (n c:Nat) (x y:Int) (w:World):Calls Tryz.prog 213 #[.slice A n c,.int .i64 x,.int .i64 y] w fun e w'=>e=.returned (.int .i64 (someE n x y))∧w=w':=by
 obtain ⟨o,ho⟩:∃ o,someE n x y=o:=⟨_,rfl⟩
 rw [ho]
 have HO:=Lib.hid ho
 clear ho
 by_cases hn:n=128
 ·subst hn
  by_cases h0:x<0
  ·obtain rfl:o=4:=by rw [← HO.out];unfold someE;rw [if_pos rfl,if_neg (by omega)]
   go_enter Tryz.func213,Tryz.ntmps213
   go_wp2
   go_ret
   exact ⟨rfl,rfl⟩
  ·by_cases h1:1024<y
   ·obtain rfl:o=4:=by rw [← HO.out];unfold someE;rw [if_pos rfl,if_neg (by omega)]
    go_enter Tryz.func213,Tryz.ntmps213
    go_wp2
    go_ret
    exact ⟨rfl,rfl⟩
   ·by_cases h2:y<x
    ·obtain rfl:o=4:=by rw [← HO.out];unfold someE;rw [if_pos rfl,if_neg (by omega)]
     go_enter Tryz.func213,Tryz.ntmps213
     go_wp2
     go_ret
     exact ⟨rfl,rfl⟩
    ·obtain rfl:o=0:=by rw [← HO.out];unfold someE;rw [if_pos rfl,if_pos (by omega)]
     go_enter Tryz.func213,Tryz.ntmps213
     go_wp2
     go_ret
     exact ⟨rfl,rfl⟩
 ·obtain rfl:o=1:=by rw [← HO.out];unfold someE;rw [if_neg hn]
  have hn1:((n:Int) != 128)=true:=by simp;omega
  go_enter Tryz.func213,Tryz.ntmps213
  go_wp2
  go_ret
  exact ⟨rfl,rfl⟩
theorem mask_val (x:UInt8) {e:Nat} (he:e<8):(bits .and .u8 (x.toNat:Int) ((2 ^ e:Nat):Int) != 0)=x.toNat.testBit e:=by
 rw [u8_and_nat _ _ x.toNat_lt (pow_lt8 he),Nat.testBit_eq_decide_div_mod_eq]
 rw [nat_bit]
 have hp:0<2 ^ e:=Nat.two_pow_pos _
 rcases Nat.mod_two_eq_zero_or_one (x.toNat / 2 ^ e) with h | h
 ·simp [h]
 ·rw [h,Nat.one_mul]
  have:((2 ^ e:Nat):Int)≠0:=Int.ofNat_ne_zero.2 (by omega)
  rw [decide_eq_true rfl]
  exact bne_iff_ne.2 this
theorem marked_any {w:World} {B c:Nat} {A:Option Addr} {l:List UInt8} (n:Nat) (h:Bts w B A 128 c l) (hn:n<1024) :
  Calls Tryz.prog 214 #[.slice A 128 c,.int .i64 n] w fun e w'=>e=.returned (.bool (bt l n))∧Below w.heap.size w w':=by
 obtain ⟨b,off,rfl,hb,hc⟩:=h.cell (k:=n / 8) (by omega)
 have HE:Hid ((bits .and .u8 ((l[n / 8]?.getD 0).toNat:Int) ((2 ^ (n % 8):Nat):Int) != 0)=bt l n):=mask_val _ (by omega)
 have HBIT:∀ w,Hid (Calls Tryz.prog 176 #[.int .i64 n] w fun e w'=>e=.returned (.int .u8 ((2 ^ (n % 8):Nat):Int))∧w=w'):=fun w=>bit_any n w hn
 clear h
 obtain ⟨m,hm⟩:∃ m,n / 8=m:=⟨_,rfl⟩
 have hq:IntKind.i64.wrap ((n:Int) / 8)=(m:Int):=by rw [IntKind.wrap_i64];omega
 have hm1:m<128:=by omega
 have hm2:(m:Int)<128:=by omega
 have hm3:0≤(m:Int):=by omega
 rw [hm] at hc HE
 clear hm
 generalize bt l n=o at *
 generalize l[m]?.getD 0=x at *
 have HS:∀ W,Hid (Below w.heap.size w W→W.cell? ⟨b,off+m,none⟩=some (.int .u8 (x.toNat:Int))):=fun W hW=>(hW.cell (p:=⟨b,off+m,none⟩) (World.block_lt_of_cell? w ⟨b,off+m,none⟩ hc)).trans hc
 have HBD:Hid (Below w.heap.size w w.drew):=(Below.refl _ _).drew
 go_enter Tryz.func214,Tryz.ntmps214
 go_wp2_with fail
 go_region_held3 (fun w'=>w'.cell? ⟨b,off+m,none⟩=some (.int .u8 (x.toNat:Int))) (first | (with_reducible exact (HS _).out HBD.out) | (with_reducible exact (HS _).out HB1.out)) (first
  | (go_at_call 176;(with_reducible refine ((HBIT _).out).mono ?_);rintro e w1 ⟨rfl,rfl⟩))
 go_wp2_with fail
 go_ret
 exact ⟨retb HE.out,HBD.out⟩
def hasB (l:List UInt8) (n:Nat) (x:Int):Bool:=if oneE n x=0 then bt l x.toNat else false
end Go.Proofs.YtkganhafbjgndaaGreatRR.K
namespace Go.Proofs.YtkganhafbjgndaaGreatRR.K
open Go.RowKit
set_option linter.unusedVariables false
theorem or_val (x:UInt8) {e:Nat} (he:e<8):Value.int .u8 (bits .or .u8 (x.toNat:Int) (2 ^ e))=bv (put x e true):=by
 rw [show (2:Int) ^ e=((2 ^ e:Nat):Int) from (Int.natCast_pow 2 _).symm,u8_or_nat _ _ x.toNat_lt (pow_lt8 he)]
 unfold bv
 rw [put_nat x true he]
 rfl
theorem andNot_val (x:UInt8) {e:Nat} (he:e<8):Value.int .u8 (bits .andNot .u8 (x.toNat:Int) (2 ^ e))=bv (put x e false):=by
 rw [show (2:Int) ^ e=((2 ^ e:Nat):Int) from (Int.natCast_pow 2 _).symm,u8_andNot_nat _ _ x.toNat_lt (pow_lt8 he)]
 unfold bv
 rw [put_nat x false he]
 rfl
def GivesMap (w:World) (l:List UInt8) (e:Ending) (w':World):Prop:=∃ g cap,e=.returned (.tuple #[.slice (some ⟨g,0,none⟩) 128 cap,.int .i64 0])∧Bts w' w'.heap.size (some ⟨g,0,none⟩) 128 cap l∧Below w.heap.size w w'
set_option maxRecDepth 20000 in
set_option maxHeartbeats 1000000 in
theorem set_yes {w:World} {B c:Nat} {A:Option Addr} {l:List UInt8} (k:Nat) (on:Bool) (h:Bts w B A 128 c l) (hB:B≤w.heap.size) (hk:k<1024) :
  Calls Tryz.prog 138 #[.slice A 128 c,.int .i64 k,.bool on] w (GivesMap w (setb l k on)):=by
 have H:=Lib.hid h
 have HL:Hid (l.length=128):=h.len
 clear h
 have HONE:∀ w,Hid (Calls Tryz.prog 175 #[.slice A 128 c,.int .i64 k] w fun e w'=>e=.returned (.int .i64 0)∧w=w'):=fun w=>by
  have:=one_any A 128 c k w
  rw [show oneE 128 (k:Int)=0 by unfold oneE;rw [if_pos rfl,if_pos (by omega)]] at this
  exact this
 have HBIT:∀ w,Hid (Calls Tryz.prog 176 #[.int .i64 k] w fun e w'=>e=.returned (.int .u8 ((2 ^ (k % 8):Nat):Int))∧w=w'):=fun w=>bit_any k w hk
 obtain ⟨m,hm⟩:∃ m,k / 8=m:=⟨_,rfl⟩
 have hq:IntKind.i64.wrap ((k:Int) / 8)=(m:Int):=by rw [IntKind.wrap_i64];omega
 have hm1:m<128:=by omega
 have hm2:(m:Int)<128:=by omega
 have hm3:0≤(m:Int):=by omega
 have HV1:Hid (Value.int .u8 (bits .or .u8 ((l[m]?.getD 0).toNat:Int) (2 ^ (k % 8)))=bv (put (l[m]?.getD 0) (k % 8) true)):=or_val _ (by omega)
 have HV0:Hid (Value.int .u8 (bits .andNot .u8 ((l[m]?.getD 0).toNat:Int) (2 ^ (k % 8)))=bv (put (l[m]?.getD 0) (k % 8) false)):=andNot_val _ (by omega)
 have HSET:Hid (setb l k on=l.set m (put (l[m]?.getD 0) (k % 8) on)):=by show _=_;unfold setb;rw [hm]
 clear hm
 go_enter Tryz.func138,Tryz.ntmps138
 go_wp2_with fail
 refine (HONE _).out.mono ?_
 rintro e w1 ⟨rfl,rfl⟩
 go_wp2_with fail
 refine (clone_any A 128 c B l _ H.out hB (by omega)).mono ?_
 rintro e w1 ⟨v,rfl,hmine⟩
 obtain ⟨g,cap,rfl,hg⟩:∃ g cap,v=.slice (some ⟨g,0,none⟩) 128 cap∧w.heap.size≤g:=by
  have hl1:=HL.out
  rcases hmine.own.2 with ⟨_,h0⟩ | ⟨g,cap,cur,e,hg,_⟩
  ·omega
  ·exact ⟨g,cap,by rw [e,hl1],hg⟩
 have HO:=Lib.hid hmine.own
 have HB1:=Lib.hid hmine.bel
 clear hmine H HONE
 obtain ⟨hcell,hfree⟩:=own_cell HO.out HL.out hm1
 have hcd:w1.drew.cell? ⟨g,m,none⟩=some (.int .u8 ((l[m]?.getD 0).toNat:Int)):=hcell
 have hfd:w1.drew.frozen? ⟨g,m,none⟩=false:=hfree
 have HO2:=Lib.hid (own_set HO.out m (put (l[m]?.getD 0) (k % 8) on))
 have HB2:Hid (Below w.heap.size w (w1.setCell ⟨g,m,none⟩ (bv (put (l[m]?.getD 0) (k % 8) on)))):=HB1.out.setCell (p:=⟨g,m,none⟩) hg _
 generalize l[m]?.getD 0=q at *
 cases on with
 | true =>
  go_wp2_with fail
  go_region_with (go_at_call 176;(with_reducible refine ((HBIT _).out).mono ?_);rintro e w2 ⟨rfl,rfl⟩)
  all_goals
   simp only [HV1.out]
   generalize w1.setCell { block:=g,off:=m } (bv (put q (k % 8) true))=w5 at *
   go_wp2_with fail
   go_ret2
   rw [HSET.out]
   obtain ⟨A5,n5,c5,e5,hB5⟩:=own_holds HO2.out
   cases e5
   exact ⟨_,_,rfl,hB5.keep fun _ _=>rfl,HB2.out.drew⟩
 | false =>
  go_wp2_with fail
  go_region_with (go_at_call 176;(with_reducible refine ((HBIT _).out).mono ?_);rintro e w2 ⟨rfl,rfl⟩)
  all_goals
   simp only [HV0.out]
   generalize w1.setCell { block:=g,off:=m } (bv (put q (k % 8) false))=w5 at *
   go_wp2_with fail
   go_ret2
   rw [HSET.out]
   obtain ⟨A5,n5,c5,e5,hB5⟩:=own_holds HO2.out
   cases e5
   exact ⟨_,_,rfl,hB5.keep fun _ _=>rfl,HB2.out.drew⟩
end Go.Proofs.YtkganhafbjgndaaGreatRR.K
namespace Go.Proofs.YtkganhafbjgndaaGreatRR.K
open Go.RowKit
set_option linter.unusedVariables false
theorem wp_scope_loop {P:Program} {Q:Exit→Act→World→Prop} {a:Act} {w:World} {c rest:Code} (l:Nat) (J:Act→World→Prop) (μ:Act→World→Nat) (hf:findLabel c l=some (Code.seq Code.skip rest))
  (first:(∀ a w,J a w→rest.wp P (Exit.jump l J Q) a w)→c.wp P (Exit.jump l J Q) a w)
  (pass:∀ a w,J a w→rest.wp P (Exit.jump l (fun a' w'=>J a' w'∧μ a' w' < μ a w) Q) a w):(Code.scope c).wp P Q a w :=
 wp_scope_jumps l J μ hf (first fun a w h=>Code.wp_mono (fun e a' w' hq=>by
  cases e<;>first | exact hq | exact ⟨hq.1,hq.2.1⟩) (pass a w h)) (fun a w h=>wp_seq (wp_skip (pass a w h)))
def fn (o:Option Nat):Int:=match o with | some n=>n | none=>0
def fe (o:Option Nat):Int:=match o with | some _=>0 | none=>10
def JmpF (w:World) (A:Option Addr) (c:Nat) (l:List UInt8) (a z:Nat) (R:Option Nat) (a':Act) (w':World):Prop:=Below w.heap.size w w'∧∃ n:Nat,n≤z∧first l n (z - n)=R ∧
 ∃ u3 u4 u5 u6 u7 u8 u10 u11 u12 u13 u14 u15 u16 u17 u18 u19 u20 u21 u22 u23 u24 u25 u26 u27 u28:Value,a'={ tmps:=#[.slice A 128 c,.int .i64 a,.int .i64 z,u3,u4,u5,u6,u7,u8,.int .i64 n,u10,u11,u12,u13,u14,u15,u16,u17,u18,u19,u20,u21,u22,u23,u24,u25,u26,u27,u28],defers:=[] }
theorem JmpF.mk {w w':World} {A:Option Addr} {c:Nat} {l:List UInt8} {a z n:Nat} {R:Option Nat} (hb:Below w.heap.size w w') (hn:n≤z) (h1:first l n (z - n)=R)
  {u3 u4 u5 u6 u7 u8 u10 u11 u12 u13 u14 u15 u16 u17 u18 u19 u20 u21 u22 u23 u24 u25 u26 u27 u28:Value}:JmpF w A c l a z R { tmps:=#[.slice A 128 c,.int .i64 a,.int .i64 z,u3,u4,u5,u6,u7,u8,.int .i64 n,u10,u11,u12,u13,u14,u15,u16,u17,u18,u19,u20,u21,u22,u23,u24,u25,u26,u27,u28],defers:=[] } w' :=
 ⟨hb,n,hn,h1,_,_,_,_,_,_,_,_,_,_,_,_,_,_,_,_,_,_,_,_,_,_,_,_,_,rfl⟩
def measF (a:Act) (_:World):Nat:=match a.tmps.getD 9 undef,a.tmps.getD 2 undef with
 | .int _ n,.int _ z=>(z - n).toNat
 | _,_=>0
theorem first_at {l:List UInt8} {n z:Nat} {R:Option Nat} (h:first l n (z - n)=R) (hn:n<z):(bt l n=true→first l (n+1) (z - (n+1))=R)∧(bt l n=false→R=some n):=by
 obtain ⟨k,hk⟩:∃ k,z - n=k+1:=⟨z - n - 1,by omega⟩
 have hk':z - (n+1)=k:=by omega
 rw [hk,first] at h
 rw [hk']
 constructor
 ·intro hb;rw [if_pos hb] at h;exact h
 ·intro hb;rw [hb] at h;simpa using h.symm
set_option maxHeartbeats 2000000 in
set_option maxRecDepth 100000 in
theorem first_yes {w:World} {B c:Nat} {A:Option Addr} {l:List UInt8} (a z:Nat) (h:Bts w B A 128 c l) (hB:B≤w.heap.size) (haz:a≤z) (hz:z≤1024) :
  Calls Tryz.prog 171 #[.slice A 128 c,.int .i64 a,.int .i64 z] w fun e w'=>e=.returned (.tuple #[.int .i64 (fn (first l a (z - a))),.int .i64 (fe (first l a (z - a)))])∧Below w.heap.size w w':=by
 have H:=Lib.hid h
 clear h
 have HONE:∀ w,Hid (Calls Tryz.prog 213 #[.slice A 128 c,.int .i64 a,.int .i64 z] w fun e w'=>e=.returned (.int .i64 0)∧w=w'):=fun w=>by
  have:=some_any A 128 c a z w
  rw [show someE 128 (a:Int) (z:Int)=0 by unfold someE;rw [if_pos rfl,if_pos (by omega)]] at this
  exact this
 obtain ⟨R,hR⟩:∃ R,first l a (z - a)=R:=⟨_,rfl⟩
 have HR:=Lib.hid hR
 rw [hR]
 clear hR
 go_enter Tryz.func171,Tryz.ntmps171
 go_wp2_with fail
 refine wp_scope_loop 0 (JmpF w A c l a z R) measF rfl ?_ ?_
 ·intro key
  go_wp2_with fail
  refine (HONE _).out.mono ?_
  rintro e w1 ⟨rfl,rfl⟩
  go_wp2_with fail
  rename_i hK
  go_step3
  exact hK _ _ (key _ _ (JmpF.mk (Below.refl _ _) haz HR.out))
 ·rintro a' w' ⟨hb,n,hn,hF,u3,u4,u5,u6,u7,u8,u10,u11,u12,u13,u14,u15,u16,u17,u18,u19,u20,u21,u22,u23,u24,u25,u26,u27,u28,rfl⟩
  have HB:=Lib.hid hb
  have HF:=Lib.hid hF
  clear hb hF HONE HR
  by_cases hnz:n=z
  ·subst hnz
   have HR2:Hid (R=none):=by
    have:=HF.out
    rw [Nat.sub_self] at this
    exact this.symm
   go_wp2_with fail
   simp only [Exit.jump]
   go_ret2
   rw [HR2.out]
   exact ⟨rfl,HB.out⟩
  ·have hlt:n<z:=by omega
   have hne:((n:Int) == (z:Int))=false:=by simp;omega
   obtain ⟨hT,hN⟩:=first_at HF.out hlt
   have HT:=Lib.hid hT
   have HN:=Lib.hid hN
   have HMK:Hid (Calls Tryz.prog 214 #[.slice A 128 c,.int .i64 n] w' fun e w''=>e=.returned (.bool (bt l n))∧Below w'.heap.size w' w''):=marked_any n (H.out.below (HB.out.mono hB)) (by omega)
   clear hT hN HF hnz
   generalize bt l n=o at *
   go_wp2_with fail
   refine HMK.out.mono ?_
   rintro e w1 ⟨rfl,hb1⟩
   have HB1:=Lib.hid (HB.out.trans (hb1.mono HB.out.size))
   clear hb1 HMK
   cases o with
   | true =>
    have HR2:=Lib.hid (HT.out rfl)
    clear HT HN
    go_wp2_with fail
    go_step3
    exact ⟨rfl,JmpF.mk (n:=n+1) HB1.out (by omega) HR2.out,by show ((z:Int) - ((n+1:Nat):Int)).toNat<((z:Int) - (n:Int)).toNat;omega⟩
   | false =>
    have HR2:=Lib.hid (HN.out rfl)
    clear HT HN
    go_wp2_with fail
    simp only [Exit.jump]
    go_ret2
    rw [HR2.out]
    exact ⟨rfl,HB1.out⟩
def firstN (l:List UInt8) (n:Nat) (x y:Int):Int:=if someE n x y=0 then fn (first l x.toNat (y - x).toNat) else 0
def firstE (l:List UInt8) (n:Nat) (x y:Int):Int:=if someE n x y=0 then fe (first l x.toNat (y - x).toNat) else someE n x y
def countN (l:List UInt8) (n:Nat) (x y:Int):Int:=if someE n x y=0 then (count l x.toNat (y - x).toNat:Nat) else 0
def JmpC (w:World) (A:Option Addr) (c:Nat) (l:List UInt8) (a z:Nat) (R:Nat) (a':Act) (w':World):Prop:=Below w.heap.size w w'∧∃ n k:Nat,n≤z∧k+count l n (z - n)=R ∧
 ∃ u3 u4 u5 u6 u7 u8 u11 u12 u13 u14 u15 u16 u17 u18 u19 u20 u21 u22 u23 u24 u25 u26 u27 u28 u29:Value,a'={ tmps:=#[.slice A 128 c,.int .i64 a,.int .i64 z,u3,u4,u5,u6,u7,u8,.int .i64 n,.int .i64 k,u11,u12,u13,u14,u15,u16,u17,u18,u19,u20,u21,u22,u23,u24,u25,u26,u27,u28,u29],defers:=[] }
theorem JmpC.mk {w w':World} {A:Option Addr} {c:Nat} {l:List UInt8} {a z n k:Nat} {R:Nat} (hb:Below w.heap.size w w') (hn:n≤z) (h1:k+count l n (z - n)=R)
  {u3 u4 u5 u6 u7 u8 u11 u12 u13 u14 u15 u16 u17 u18 u19 u20 u21 u22 u23 u24 u25 u26 u27 u28 u29:Value}:JmpC w A c l a z R { tmps:=#[.slice A 128 c,.int .i64 a,.int .i64 z,u3,u4,u5,u6,u7,u8,.int .i64 n,.int .i64 k,u11,u12,u13,u14,u15,u16,u17,u18,u19,u20,u21,u22,u23,u24,u25,u26,u27,u28,u29],defers:=[] } w' :=
 ⟨hb,n,k,hn,h1,_,_,_,_,_,_,_,_,_,_,_,_,_,_,_,_,_,_,_,_,_,_,_,_,_,rfl⟩
end Go.Proofs.YtkganhafbjgndaaGreatRR.K
