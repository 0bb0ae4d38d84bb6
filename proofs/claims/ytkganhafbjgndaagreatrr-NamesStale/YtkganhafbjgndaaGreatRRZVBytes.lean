/- block, changed, Read, blank. -/
import Derived.Test.YtkganhafbjgndaaGreatRRZVWays
import Derived.Lib.SliceRun
import Derived.Test.YtkganhafbjgndaaGreatRRZTAll
namespace Go.Proofs.YtkganhafbjgndaaGreatRR.V
open Go.RowKit
set_option linter.unusedVariables false
set_option maxRecDepth 20000
section
variable {w0 w w1 w2 w':World} {p d N q bf nn:Nat} {O:List Nat} {s:DS} {X:Secs2} {m:List Wr} {G:Nat→Prop} {y:D.Nn} {f:Nat→Nat} {C:Nat→UInt8} {low:List Int} {Tx:List Nat}
theorem nz8 (x:Int) (w:World):Calls Tryz.prog 90 #[.int .u8 x] w fun e w'=>e=.returned (.bool (!(x == 0)))∧w=w':=by
 go_enter Tryz.func90,Tryz.ntmps90
 go_wp2
 go_ret
 exact ⟨rfl,rfl⟩
theorem nzI (x:Int) (w:World):Calls Tryz.prog 181 #[.int .i64 x] w fun e w'=>e=.returned (.bool (!(x == 0)))∧w=w':=by
 go_enter Tryz.func181,Tryz.ntmps181
 go_wp2
 go_ret
 exact ⟨rfl,rfl⟩
def IxR (w:World) (n:Nat) (z:Nat→Prop) (e:Ending) (w':World):Prop:=∃ r:Int,e=.returned (.int .i64 r)∧w=w'∧(0≤r ↔ ∃ j,j<n∧¬ z j)
set_option maxHeartbeats 1000000 in
theorem ix8 {B n c:Nat} {A:Option Addr} {l:List UInt8} (h:T.Bts w B A n c l) (hn:n≤128):Calls Tryz.prog 124 #[.slice A n c,.func (.func 90) #[] #[]] w (IxR w n fun j=>l[j]?.getD 0=0):=by
 have HI:=Lib.hid h
 clear h
 go_enter Tryz.func124,Tryz.ntmps124
 go_wp2_with fail
 go_loopw [8] (fun i wr=>∃ k:Nat,k≤n∧i=.int .i64 k∧Hid (∀ j,j<k→l[j]?.getD 0=0)∧Hid (wr=w)) (fun i _=>n - (intOf i).toNat)
 case atStart=>exact ⟨0,Nat.zero_le _,rfl,fun j hj=>absurd hj (by omega),rfl⟩
 case round =>
  obtain ⟨k,hk,rfl,HN,HW⟩:=hrel
  obtain rfl:wr=w:=HW.out
  by_cases hlt:k<n
  ·obtain ⟨b,off,rfl,hb,hc⟩:=HI.out.cell hlt
   by_cases hx:l[k]?.getD 0=0
   ·have HX:=Lib.hid hx
    rw [hx] at hc
    have hc':wr.cell? ⟨b,off+k,none⟩=some (.int .u8 0):=hc
    clear hc hx
    go_wp2_with fail
    refine (nz8 _ _).mono ?_
    rintro e w1 ⟨rfl,rfl⟩
    go_wp2_with fail
    go_roundw
    case rel=>exact ⟨k+1,by omega,by go_num,fun j hj=>by
     rcases Nat.lt_succ_iff_lt_or_eq.1 hj with a | a
     ·exact HN.out j a
     ·rw [a];exact HX.out,trivial⟩
    case measure=>simp [intOf];omega
   ·have HX:=Lib.hid hx
    have hz:(((l[k]?.getD 0).toNat:Int) == 0)=false:=by
     rw [beq_eq_false_iff_ne]
     intro e
     apply hx
     apply UInt8.toNat_inj.1
     show _=0
     omega
    clear hx
    generalize hy:(((l[k]?.getD 0).toNat:Nat):Int)=y at *
    clear hy
    go_wp2_with fail
    refine (nz8 _ _).mono ?_
    rintro e w1 ⟨rfl,rfl⟩
    rw [hz]
    go_wp2_with fail
    go_ret
    exact ⟨_,rfl,rfl,fun _=>⟨k,hlt,HX.out⟩,fun _=>by omega⟩
  ·obtain rfl:k=n:=by omega
   go_wp2_with fail
   go_ret
   exact ⟨_,rfl,rfl,fun hh=>by omega,fun ⟨j,hj,hx⟩=>absurd (HN.out j hj) hx⟩
set_option maxHeartbeats 1000000 in
theorem ixI {B n c:Nat} {A:Option Addr} {l:List Int} (h:T.Ints w B A n c l) (hn:n≤128):Calls Tryz.prog 219 #[.slice A n c,.func (.func 181) #[] #[]] w (IxR w n fun j=>l[j]?.getD 0=0):=by
 have HI:=Lib.hid h
 clear h
 go_enter Tryz.func219,Tryz.ntmps219
 go_wp2_with fail
 go_loopw [8] (fun i wr=>∃ k:Nat,k≤n∧i=.int .i64 k∧Hid (∀ j,j<k→l[j]?.getD 0=0)∧Hid (wr=w)) (fun i _=>n - (intOf i).toNat)
 case atStart=>exact ⟨0,Nat.zero_le _,rfl,fun j hj=>absurd hj (by omega),rfl⟩
 case round =>
  obtain ⟨k,hk,rfl,HN,HW⟩:=hrel
  obtain rfl:wr=w:=HW.out
  by_cases hlt:k<n
  ·obtain ⟨b,off,rfl,hb,hc⟩:=HI.out.cell hlt
   by_cases hx:l[k]?.getD 0=0
   ·have HX:=Lib.hid hx
    rw [hx] at hc
    clear hx
    go_wp2_with fail
    refine (nzI _ _).mono ?_
    rintro e w1 ⟨rfl,rfl⟩
    go_wp2_with fail
    go_roundw
    case rel=>exact ⟨k+1,by omega,by go_num,fun j hj=>by
     rcases Nat.lt_succ_iff_lt_or_eq.1 hj with a | a
     ·exact HN.out j a
     ·rw [a];exact HX.out,trivial⟩
    case measure=>simp [intOf];omega
   ·have HX:=Lib.hid hx
    have hz:((l[k]?.getD 0) == 0)=false:=by
     rw [beq_eq_false_iff_ne]
     exact hx
    clear hx
    generalize hy:l[k]?.getD 0=y at *
    have HY:=Lib.hid hy
    clear hy
    go_wp2_with fail
    refine (nzI _ _).mono ?_
    rintro e w1 ⟨rfl,rfl⟩
    rw [hz]
    go_wp2_with fail
    go_ret
    exact ⟨_,rfl,rfl,fun _=>⟨k,hlt,fun h0=>HX.out (by rw [← HY.out];exact h0)⟩,fun _=>by omega⟩
  ·obtain rfl:k=n:=by omega
   go_wp2_with fail
   go_ret
   exact ⟨_,rfl,rfl,fun hh=>by omega,fun ⟨j,hj,hx⟩=>absurd (HN.out j hj) hx⟩
theorem hasR {n:Nat} {z:Nat→Prop} {r:Int} (h:0≤r ↔ ∃ j,j<n∧¬ z j) (hb:Bool) (hd:hb=true ↔ ∃ j,j<n∧¬ z j):decide (0≤r)=hb:=by
 rw [Bool.eq_iff_iff,decide_eq_true_iff,hd];exact h
set_option maxHeartbeats 1000000 in
theorem has8 {B n c:Nat} {A:Option Addr} {l:List UInt8} (h:T.Bts w B A n c l) (hn:n≤128) {hb:Bool} (hd:hb=true ↔ ∃ j,j<n∧¬ l[j]?.getD 0=0):Calls Tryz.prog 89 #[.slice A n c,.func (.func 90) #[] #[]] w fun e w'=>e=.returned (.bool hb)∧w=w':=by
 have HC:=Lib.hid (ix8 h hn)
 have HD:=Lib.hid hd
 clear h hd
 go_enter Tryz.func89,Tryz.ntmps89
 go_wp2_with fail
 refine HC.out.mono ?_
 rintro e w1 ⟨r,rfl,rfl,hr⟩
 have HRR:=Lib.hid (hasR hr hb HD.out)
 clear hr
 go_wp2_with fail
 go_ret
 exact ⟨by rw [← HRR.out];rfl,rfl⟩
set_option maxHeartbeats 1000000 in
theorem hasI {B n c:Nat} {A:Option Addr} {l:List Int} (h:T.Ints w B A n c l) (hn:n≤128) {hb:Bool} (hd:hb=true ↔ ∃ j,j<n∧¬ l[j]?.getD 0=0):Calls Tryz.prog 180 #[.slice A n c,.func (.func 181) #[] #[]] w fun e w'=>e=.returned (.bool hb)∧w=w':=by
 have HC:=Lib.hid (ixI h hn)
 have HD:=Lib.hid hd
 clear h hd
 go_enter Tryz.func180,Tryz.ntmps180
 go_wp2_with fail
 refine HC.out.mono ?_
 rintro e w1 ⟨r,rfl,rfl,hr⟩
 have HRR:=Lib.hid (hasR hr hb HD.out)
 clear hr
 go_wp2_with fail
 go_ret
 exact ⟨by rw [← HRR.out];rfl,rfl⟩
def BlkR (w:World) (n:Nat) (x:List UInt8) (e:Ending) (w':World):Prop:=∃ g,e=.returned (.tuple #[.int .i64 (n:Int),.slice (some ⟨g,0,none⟩) 128 128,.int .i64 0])∧Own w' g x∧w.heap.size≤g∧Below w.heap.size w w'
set_option maxHeartbeats 1000000 in
theorem block_yes {b:Nat} (h:Rd w0 w p d N q bf nn O s X m G y f C) (hb:b<76) :
  Calls Tryz.prog 46 #[.pointer (some ⟨bf,0,none⟩),.int .i64 (b:Int)] w (BlkR w (f (ixb b)) (blkL C b)):=by
 have H:=Lib.hid h
 have HW:=Lib.hid (way_leave h hb)
 have HB:=Lib.hid hb
 have hrg:=h.mid.rng (ixb b) (ixb_lt hb)
 clear h hb
 go_enter Tryz.func46,Tryz.ntmps46
 go_wp2_with fail
 refine HW.out.mono ?_
 rintro e w1 ⟨rfl,hbel⟩
 have H1:=Lib.hid (H.out.below hbel)
 have HB1:=Lib.hid hbel
 clear hbel
 by_cases h0:f (ixb b)=0
 ·have HZ:=Lib.hid (blkL_zero (H.out.con.no b HB.out h0))
  rw [h0]
  rw [show ((0:Nat):Int)=0 from rfl]
  have HH0:=Lib.hid h0
  clear h0 hrg
  have hmk:=make128_all w1.drew
  go_upto_region 5 with fail
  go_region
  go_wp2_with fail
  go_ret3
  obtain ⟨a0,a1,a2⟩:=D.box1 w1.drew (Obj.cells (bc zeros).toArray 5)
  refine ⟨w1.heap.size,by rw [HH0.out];rfl,⟨5,by rw [HZ.out];exact a0⟩,HB1.out.size,HB1.out.drew.trans (a1.mono HB1.out.size)⟩
 ·have HC:=Lib.hid (H.out.con.yes b HB.out h0)
  have hz:(((f (ixb b):Nat):Int) == 0)=false:=by rw [beq_eq_false_iff_ne];omega
  have HG:=Lib.hid (get_any H1.out.sto (n:=f (ixb b)) (by omega) (by unfold inLog;omega))
  rw [HC.out] at HG
  have c0:=H1.out.fil.c0
  go_wp2_with fail
  refine HG.out.mono ?_
  rintro e w2 ⟨g,rfl,hg1,hg2,hb2⟩
  have HO:Hid (Own w2 g (blkL C b)):=⟨_,hg2⟩
  have HB2:=Lib.hid (HB1.out.trans (hb2.mono HB1.out.size))
  have hgw:w.heap.size≤g:=Nat.le_trans HB1.out.size hg1
  clear hb2 hg2 c0
  go_wp2_with fail
  go_ret3
  exact ⟨g,rfl,HO.out,hgw,HB2.out⟩
def chd (y:D.Nn) (size:Nat):D.Nn:={ y with s:=size,c:=min (y.c+1) 1073741824 }
theorem fc_set (p nn:Nat) (y:D.Nn) (a b:Nat):(fc p nn { y with s:=a,c:=b }).toArray=((fc p nn y).toArray.setIfInBounds 5 (.int .i64 (a:Int))).setIfInBounds 6 (.int .i64 (b:Int)):=rfl
def ChdQ (w0 w:World) (p d N q bf nn:Nat) (O:List Nat) (s:DS) (X:Secs2) (m:List Wr) (z:D.Nn) (e:Ending) (w':World):Prop :=
 e=.returned (.int .i64 0)∧Sto w0 w' p d O N s X q (ins ((35+nn / 4:Nat):Int) (putN X m nn z) m)∧Chg [q,bf] w w'
set_option maxHeartbeats 2000000 in
theorem changed_gen {size c':Nat} {z:D.Nn} (hzz:z={ y with s:=size,c:=c' }) (hcc:(c':Int)=min ((y.c:Int)+1) 1073741824) (h:Op w0 w p d N q bf nn O s X m G y f C low Tx) (hn:nn<32) (hk:z.up.ok=true) (hl:((35+nn / 4:Nat):Int)∈low) (hc:y.c≤1073741824) :
  Calls Tryz.prog 44 #[.pointer (some ⟨bf,0,none⟩),.int .i64 (size:Int)] w (ChdQ w0 w p d N q bf nn O s X m z):=by
 have H:=Lib.hid h
 have HR:=Lib.hid (h.bud.room h.sto.mok.rise (.inl hl))
 have HK:=Lib.hid hk
 have HN:=Lib.hid hn
 have c5:=h.fil.c5
 have c6:=h.fil.c6
 have f5:=h.fil.free 5
 have f6:=h.fil.free 6
 have hw1:IntKind.i64.wrap ((y.c:Int)+1)=(y.c:Int)+1:=by rw [IntKind.wrap_i64];omega
 have HCD:=Lib.hid hcc
 have HZ:=Lib.hid hzz
 clear h hl hk hn hcc hzz
 go_enter Tryz.func44,Tryz.ntmps44
 go_upto_region 3 with fail
 rw [← HCD.out]
 have HFI:Hid (Fil ((w.setCell ⟨bf,5,none⟩ (.int .i64 (size:Int))).setCell ⟨bf,6,none⟩ (.int .i64 (c':Int))) bf p nn (z)):=by
  refine (F.heap_set (F.heap_set H.out.fil 5 _) 6 _).trans ?_
  have e:=fc_set p nn y size c'
  rw [HZ.out,e]
 have HCH:Hid (Chg [bf] w ((w.setCell ⟨bf,5,none⟩ (.int .i64 (size:Int))).setCell ⟨bf,6,none⟩ (.int .i64 (c':Int)))):=((Chg.refl _ _).setCell (p:=⟨bf,5,none⟩) (.inl (by simp)) _).setCell (p:=⟨bf,6,none⟩) (.inl (by simp)) _
 have HS:Hid (Sto w0 ((w.setCell ⟨bf,5,none⟩ (.int .i64 (size:Int))).setCell ⟨bf,6,none⟩ (.int .i64 (c':Int))) p d O N s X q m):=H.out.sto.keep_ (fun b hb=>HCH.out.block b (H.out.rd.lt (by rcases hb with a | a | a;exact .inl a;exact .inr (.inl a);exact .inr (.inr (.inl a)))) (by
  simp
  rintro rfl
  rcases hb with a | a | a
  ·exact H.out.bfO a
  ·exact H.out.bfp a
  ·exact H.out.bfq a)) (HCH.out.below H.out.rd.base fun b hb=>by simp at hb;rw [hb];exact H.out.bf0)
 clear c5 c6 f5 f6 hc
 generalize (w.setCell ⟨bf,5,none⟩ (.int .i64 (size:Int))).setCell ⟨bf,6,none⟩ (.int .i64 (c':Int))=W at *
 clear HCD HZ
 have HCC:Hid (W.drew.cell? ⟨bf,0,none⟩=some (.pointer (some ⟨p,0,none⟩))∧W.drew.cell? ⟨bf,1,none⟩=some (.int .i64 (nn:Int))∧W.drew.cell? ⟨bf,2,none⟩=some (.int .i64 z.up.k)∧W.drew.cell? ⟨bf,3,none⟩=some (.int .i64 z.up.l)∧W.drew.cell? ⟨bf,4,none⟩=some (.int .i64 z.up.g)∧W.drew.cell? ⟨bf,5,none⟩=some (.int .i64 z.up.s)∧W.drew.cell? ⟨bf,6,none⟩=some (.int .i64 z.up.c)∧W.drew.cell? ⟨bf,7,none⟩=some (.int .i64 z.up.d0)∧W.drew.cell? ⟨bf,8,none⟩=some (.int .i64 z.up.d1)∧W.drew.cell? ⟨bf,9,none⟩=some (.int .i64 z.up.d2)∧W.drew.cell? ⟨bf,10,none⟩=some (.int .i64 z.up.d3)∧W.drew.cell? ⟨bf,11,none⟩=some (.int .i64 z.up.o)∧W.drew.cell? ⟨bf,12,none⟩=some (.int .i64 z.up.t)):=⟨HFI.out.c0,HFI.out.c1,cell_of_row _ _ 2 _ _ _ HFI.out,cell_of_row _ _ 3 _ _ _ HFI.out,cell_of_row _ _ 4 _ _ _ HFI.out,cell_of_row _ _ 5 _ _ _ HFI.out,cell_of_row _ _ 6 _ _ _ HFI.out,cell_of_row _ _ 7 _ _ _ HFI.out,cell_of_row _ _ 8 _ _ _ HFI.out,cell_of_row _ _ 9 _ _ _ HFI.out,cell_of_row _ _ 10 _ _ _ HFI.out,cell_of_row _ _ 11 _ _ _ HFI.out,cell_of_row _ _ 12 _ _ _ HFI.out⟩
 have HSN:Hid (Calls Tryz.prog 71 #[.pointer (some ⟨p,0,none⟩),.int .i64 (nn:Int),.agg #[.int .i64 z.up.k,.int .i64 z.up.l,.int .i64 z.up.g,.int .i64 z.up.s,.int .i64 z.up.c,.int .i64 z.up.d0,.int .i64 z.up.d1,.int .i64 z.up.d2,.int .i64 z.up.d3,.int .i64 z.up.o,.int .i64 z.up.t]] W.drew (Put1 w0 W.drew p d O N s X q (ins ((35+nn / 4:Nat):Int) (putN X m nn z) m))):=setNode_yes (HS.out.below (Below.refl _ W).drew) HN.out z HK.out HR.out
 go_region_held3 (fun W=>W.cell? ⟨bf,0,none⟩=some (.pointer (some ⟨p,0,none⟩))∧W.cell? ⟨bf,1,none⟩=some (.int .i64 (nn:Int))∧W.cell? ⟨bf,2,none⟩=some (.int .i64 z.up.k)∧W.cell? ⟨bf,3,none⟩=some (.int .i64 z.up.l)∧W.cell? ⟨bf,4,none⟩=some (.int .i64 z.up.g)∧W.cell? ⟨bf,5,none⟩=some (.int .i64 z.up.s)∧W.cell? ⟨bf,6,none⟩=some (.int .i64 z.up.c)∧W.cell? ⟨bf,7,none⟩=some (.int .i64 z.up.d0)∧W.cell? ⟨bf,8,none⟩=some (.int .i64 z.up.d1)∧W.cell? ⟨bf,9,none⟩=some (.int .i64 z.up.d2)∧W.cell? ⟨bf,10,none⟩=some (.int .i64 z.up.d3)∧W.cell? ⟨bf,11,none⟩=some (.int .i64 z.up.o)∧W.cell? ⟨bf,12,none⟩=some (.int .i64 z.up.t)) (first | with_reducible exact HCC.out | with_reducible exact HCC2.out)
  (first
  | (go_at_call 71;(with_reducible refine HSN.out.mono ?_);rintro e w2 ⟨rfl,hs,hc⟩;have HS2:=Lib.hid hs;have HC2:=Lib.hid ((HCH.out.drew.mono (O':=[q,bf]) fun b hb=>by simp at hb;left;simp [hb]).tr (hc.mono fun b hb=>by simp at hb;left;simp [hb]));have HF2:Hid (Fil w2 bf p nn z):=HFI.out.keep (hc.block bf HFI.out.lt (by simp;exact H.out.bfq));have HCC2:Hid (w2.cell? ⟨bf,0,none⟩=some (.pointer (some ⟨p,0,none⟩))∧w2.cell? ⟨bf,1,none⟩=some (.int .i64 (nn:Int))∧w2.cell? ⟨bf,2,none⟩=some (.int .i64 z.up.k)∧w2.cell? ⟨bf,3,none⟩=some (.int .i64 z.up.l)∧w2.cell? ⟨bf,4,none⟩=some (.int .i64 z.up.g)∧w2.cell? ⟨bf,5,none⟩=some (.int .i64 z.up.s)∧w2.cell? ⟨bf,6,none⟩=some (.int .i64 z.up.c)∧w2.cell? ⟨bf,7,none⟩=some (.int .i64 z.up.d0)∧w2.cell? ⟨bf,8,none⟩=some (.int .i64 z.up.d1)∧w2.cell? ⟨bf,9,none⟩=some (.int .i64 z.up.d2)∧w2.cell? ⟨bf,10,none⟩=some (.int .i64 z.up.d3)∧w2.cell? ⟨bf,11,none⟩=some (.int .i64 z.up.o)∧w2.cell? ⟨bf,12,none⟩=some (.int .i64 z.up.t)):=⟨HF2.out.c0,HF2.out.c1,cell_of_row _ _ 2 _ _ _ HF2.out,cell_of_row _ _ 3 _ _ _ HF2.out,cell_of_row _ _ 4 _ _ _ HF2.out,cell_of_row _ _ 5 _ _ _ HF2.out,cell_of_row _ _ 6 _ _ _ HF2.out,cell_of_row _ _ 7 _ _ _ HF2.out,cell_of_row _ _ 8 _ _ _ HF2.out,cell_of_row _ _ 9 _ _ _ HF2.out,cell_of_row _ _ 10 _ _ _ HF2.out,cell_of_row _ _ 11 _ _ _ HF2.out,cell_of_row _ _ 12 _ _ _ HF2.out⟩;clear hs hc))
 go_wp2_with fail
 go_ret
 exact ⟨rfl,HS2.out,HC2.out⟩
theorem changed_yes {size:Nat} (h:Op w0 w p d N q bf nn O s X m G y f C low Tx) (hn:nn<32) (hk:(chd y size).up.ok=true) (hl:((35+nn / 4:Nat):Int)∈low) (hc:y.c≤1073741824) :
  Calls Tryz.prog 44 #[.pointer (some ⟨bf,0,none⟩),.int .i64 (size:Int)] w (ChdQ w0 w p d N q bf nn O s X m (chd y size)) :=
 changed_gen (c':=min (y.c+1) 1073741824) rfl (by omega) h hn hk hl hc
end
end Go.Proofs.YtkganhafbjgndaaGreatRR.V
namespace Go.Proofs.YtkganhafbjgndaaGreatRR.V
open Go.RowKit
set_option linter.unusedVariables false
set_option maxRecDepth 20000
def nb (a k:Nat):Nat:=a / 128+k
def nf (a k:Nat):Nat:=if k=0 then a % 128 else 0
def nt (a s k:Nat):Nat:=min (a+s - 128 * nb a k) 128
def up (a s k:Nat):Nat:=if k=0 then 0 else min (a+s) ((a / 128+k) * 128) - a
theorem pb_nb (a k:Nat):T.pb a k=(nb a k:Int):=rfl
theorem pf_nf {a s k:Nat} (h:k<T.np a s):T.pf a k=(nf a k:Int):=by
 unfold T.np at h
 unfold T.pf nf T.pb
 split at h
 ·omega
 ·split<;>omega
theorem pt_nt {a s k:Nat} (h:k<T.np a s):T.pt a s k=(nt a s k:Int):=by
 unfold T.np at h
 unfold T.pt nt nb T.pb
 split at h
 ·omega
 ·omega
structure Part (a s k:Nat):Prop where
 b76:nb a k<76
 lt:nf a k<nt a s k
 le:nt a s k≤128
 at_:128 * nb a k+nf a k=a+up a s k
 nxt:up a s (k+1)=up a s k+(nt a s k - nf a k)
 all:up a s (k+1)≤s
theorem part {a s k:Nat} (h:k<T.np a s) (hs:a+s≤9728):Part a s k:=by
 unfold T.np at h
 split at h
 ·omega
 ·refine ⟨?_,?_,?_,?_,?_,?_⟩
  all_goals (first | unfold nt nb | unfold nb | skip)
  ·omega
  ·unfold nf;split<;>omega
  ·omega
  ·unfold nf up;split<;>omega
  ·unfold up nf;rw [if_neg (by omega)];split<;>omega
  ·unfold up;rw [if_neg (by omega)];omega
theorem up_zero (a s:Nat):up a s 0=0:=if_pos rfl
theorem up_all (a s:Nat):up a s (T.np a s)=s:=by
 unfold up T.np
 split
 ·split<;>(try split at *)<;>omega
 ·split at *<;>omega
theorem np76 {a s:Nat} (hs:a+s≤9728):T.np a s≤76:=T.np_le (.inl hs)
section
variable {w0 w w1 w2 w':World} {p d N q bf nn:Nat} {O:List Nat} {s:DS} {X:Secs2} {m:List Wr} {G:Nat→Prop} {y:D.Nn} {f:Nat→Nat} {C:Nat→UInt8} {low:List Int} {Tx:List Nat}
def byt (C:Nat→UInt8) (a n:Nat):List UInt8:=(List.range n).map fun i=>C (a+i)
theorem byt_len (C:Nat→UInt8) (a n:Nat):(byt C a n).length=n:=by simp [byt]
theorem byt_app (C:Nat→UInt8) (a n k:Nat):byt C a n++byt C (a+n) k=byt C a (n+k):=by
 unfold byt
 rw [List.range_add,List.map_append,List.map_map]
 congr 1
 apply List.map_congr_left
 intro i _
 show C (a+n+i)=C (a+(n+i))
 rw [Nat.add_assoc]
theorem byt_blk (C:Nat→UInt8) {b lo hi:Nat} (h:hi≤128):((blkL C b).drop lo).take (hi - lo)=byt C (128 * b+lo) (hi - lo):=by
 apply List.ext_getElem?
 intro i
 by_cases hi':i<hi - lo
 ·rw [List.getElem?_take,if_pos hi',List.getElem?_drop,blkL_get C b (by omega)]
  simp [byt,hi',Nat.add_assoc]
 ·rw [List.getElem?_eq_none (by rw [List.length_take];omega),List.getElem?_eq_none (by rw [byt_len];omega)]
theorem own_sub {g lo hi:Nat} {x:List UInt8} (h:Own w g x) (hx:x.length=128) (h1:lo<hi) (h2:hi≤128):F.Bts w w.heap.size (some ⟨g,lo,none⟩) (hi - lo) (128 - lo) ((x.drop lo).take (hi - lo)):=by
 have hlt:=h.lt
 refine ⟨by rw [List.length_take,List.length_drop];omega,by omega,by unfold maxLen;omega,fun e=>(by cases e),fun _=>⟨g,lo,rfl,hlt,fun j hj=>?_⟩⟩
 have hr:=h.range (lo+j) ((.int .u8 ((x[lo+j]?.getD 0).toNat:Int))) (by
  rw [bc,List.getElem?_map,List.getElem?_eq_getElem (by omega)];rfl)
 rw [Nat.zero_add] at hr
 rw [hr,List.getElem?_take,if_pos hj,List.getElem?_drop]
def RdR (w:World) (l:List UInt8) (er:Int) (e:Ending) (w':World):Prop:=∃ A n c,e=.returned (.tuple #[.slice A n c,.int .i64 er])∧T.Bts w' w'.heap.size A n c l∧Below w.heap.size w w'
end
end Go.Proofs.YtkganhafbjgndaaGreatRR.V
namespace Go.Proofs.YtkganhafbjgndaaGreatRR.V
open Go.RowKit
set_option linter.unusedVariables false
set_option maxRecDepth 20000
theorem put_blk {N:Nat} {G:Nat→Prop} {V V':Img} {y:D.Nn} {f:Nat→Nat} {C C':Nat→UInt8} (h:Mid N G V y f) (hc:Cont V f C) {b:Nat} (hb:b<76) (h0:f (ixb b)≠0)
  (hV:∀ k,V' k=if f (ixb b)=k then blkL C' b else V k) (hC:∀ i,i / 128≠b→C' i=C i):Mid N G V' y f∧Cont V' f C'∧Fr f V V':=by
 have hi:=ixb_lt hb
 have hne:∀ i,i<86→i≠ixb b→f i≠0→V' (f i)=V (f i):=fun i hi' hn h1=>by
  rw [hV,if_neg (fun e=>hn (h.inj i (ixb b) hi' hi e.symm h1))]
 have h34:V' 34=V 34:=by rw [hV,if_neg (by have:=h.rng _ hi;omega)]
 refine ⟨⟨⟨h.rep.top,fun p hp hn=>?_,h.rep.none_⟩,h.rng,h.inj,by rw [h34];exact h.mrk,h.oth,h.grng,by rw [h34];exact h.ml,h.n1⟩,⟨fun b' hb' hn=>?_,fun b' hb' hn j hj=>?_⟩,fun k h1 h2=>?_⟩
 ·rw [hne p (px_lt hp) (fun e=>ixb_px hb (e ▸ hp)) hn];exact h.rep.some_ p hp hn
 ·by_cases e:b'=b
  ·subst e;rw [hV,if_pos rfl]
  ·rw [hne _ (ixb_lt hb') (fun e'=>e (ixb_inj e')) hn,hc.yes b' hb' hn]
   apply List.ext_getElem?
   intro k
   by_cases hk:k<128
   ·rw [blkL_get _ _ hk,blkL_get _ _ hk,hC _ (by omega)]
   ·rw [List.getElem?_eq_none (by rw [blkL_len];omega),List.getElem?_eq_none (by rw [blkL_len];omega)]
 ·have e:b'≠b:=fun e=>h0 (e ▸ hn)
  rw [hC _ (by omega)];exact hc.no b' hb' hn j hj
 ·rw [hV,if_neg (h2 _ hi h0)]
def zer (C:Nat→UInt8) (a n:Nat):Nat→UInt8:=fun i=>if a≤i∧i<a+n then 0 else C i
theorem zer_zero (C:Nat→UInt8) (a:Nat):zer C a 0=C:=by funext i;unfold zer;rw [if_neg (by omega)]
theorem zer_same {C:Nat→UInt8} {a u d:Nat} (h:∀ j,j<d→zer C a u (a+u+j)=0):zer C a (u+d)=zer C a u:=by
 funext i
 by_cases h1:a+u≤i∧i<a+u+d
 ·have:=h (i - (a+u)) (by omega)
  rw [show a+u+(i - (a+u))=i by omega] at this
  rw [this];unfold zer;rw [if_pos (by omega)]
 ·unfold zer
  by_cases h2:a≤i∧i<a+u
  ·rw [if_pos (by omega),if_pos h2]
  ·rw [if_neg (by omega),if_neg h2]
theorem boolOf (P:Prop):∃ b:Bool,b=true ↔ P:=by
 by_cases h:P
 ·exact ⟨true,by simp [h]⟩
 ·exact ⟨false,by simp [h]⟩
def setz (x:List UInt8) (o:Nat):Nat→List UInt8
 | 0=>x
 | n+1=>setz (x.set o 0) (o+1) n
theorem setz_get:∀ (n:Nat) (x:List UInt8) (o i:Nat),(setz x o n)[i]?=if o≤i∧i<o+n∧i<x.length then some 0 else x[i]?
 | 0,x,o,i=>by rw [if_neg (by omega)];rfl
 | n+1,x,o,i=>by
  rw [setz,setz_get n,List.length_set]
  by_cases h:o=i
  ·subst h
   rw [if_neg (by omega)]
   by_cases hl:o<x.length
   ·rw [if_pos (by omega),List.getElem?_set_self hl]
   ·rw [if_neg (by omega),List.getElem?_eq_none (by rw [List.length_set];omega),List.getElem?_eq_none (by omega)]
  ·rw [List.getElem?_set_ne h]
   by_cases h2:o+1≤i∧i<o+1+n∧i<x.length
   ·rw [if_pos h2,if_pos (by omega)]
   ·rw [if_neg h2,if_neg (by omega)]
theorem own_setz {g:Nat}:∀ (n:Nat) {w:World} {x:List UInt8} {o:Nat},Own w g x→o+n≤x.length→Own (w.setCells g o (List.replicate n (.int .u8 0))) g (setz x o n)
 | 0,_,_,_,h,_=>h
 | n+1,w,x,o,h,hl=>by
  rw [List.replicate_succ]
  show Own ((w.setCell ⟨g,o,none⟩ (.int .u8 0)).setCells g (o+1) _) g (setz (x.set o 0) (o+1) n)
  exact own_setz n (h.set 0 (by omega)) (by rw [List.length_set];omega)
theorem setz_blk (C:Nat→UInt8) {a u b lo d:Nat} (h:128 * b+lo=a+u) (hd:lo+d≤128):setz (blkL (zer C a u) b) lo d=blkL (zer C a (u+d)) b:=by
 apply List.ext_getElem?
 intro i
 rw [setz_get,blkL_len]
 by_cases hi:i<128
 ·rw [blkL_get _ _ hi,blkL_get _ _ hi]
  by_cases h1:lo≤i∧i<lo+d
  ·rw [if_pos (by omega)];unfold zer;rw [if_pos (by omega)]
  ·rw [if_neg (by omega)]
   unfold zer
   by_cases h2:a≤128 * b+i∧128 * b+i<a+u
   ·rw [if_pos h2,if_pos (by omega)]
   ·rw [if_neg h2,if_neg (by omega)]
 ·rw [if_neg (by omega),List.getElem?_eq_none (by rw [blkL_len];omega),List.getElem?_eq_none (by rw [blkL_len];omega)]
theorem chg_setCells (w:World) (g o:Nat) (vs:List Value):Chg [g] w (w.setCells g o vs):=(Chg.refl _ _).setCells (.inl (by simp)) vs o
section
variable {w0 w w1 w2 w':World} {p d N q bf nn:Nat} {O:List Nat} {s:DS} {X:Secs2} {m:List Wr} {G:Nat→Prop} {y:D.Nn} {f:Nat→Nat} {C:Nat→UInt8} {low:List Int} {Tx:List Nat}
theorem Op.put {b:Nat} {C':Nat→UInt8} (h:Op w0 w p d N q bf nn O s X m G y f C low Tx) (hb:b<76) (h0:f (ixb b)≠0) (hx:ixb b∈Tx) (hC:∀ i,i / 128≠b→C' i=C i)
  (hs:Sto w0 w' p d O N s X q (ins (f (ixb b):Nat) (blkL C' b) m)) (hf:Fil w' bf p nn y):Op w0 w' p d N q bf nn O s X (ins (f (ixb b):Nat) (blkL C' b) m) G y f C' low Tx∧Fr f (view X m) (view X (ins (f (ixb b):Nat) (blkL C' b) m)):=by
 obtain ⟨a,b',c⟩:=put_blk h.mid h.con hb h0 (fun k=>view_ins X m _ _ k) hC
 exact ⟨⟨hs,hf,a,b',h.bud.ins _ (.inr ⟨_,hx,h0,rfl⟩),h.bfO,h.bfp,h.bfq,h.bf0⟩,c⟩
def BlaQ (w0 w:World) (p d N q bf nn:Nat) (O:List Nat) (s:DS) (X:Secs2) (m:List Wr) (G:Nat→Prop) (y:D.Nn) (f:Nat→Nat) (C:Nat→UInt8) (low:List Int) (Tx:List Nat) (e:Ending) (w':World):Prop :=
 e=.returned (.int .i64 0)∧∃ m',Op w0 w' p d N q bf nn O s X m' G y f C low Tx∧Fr f (view X m) (view X m')∧Chg [q] w w'
set_option maxHeartbeats 1000000 in
theorem blank_nil {a:Nat} (h:Op w0 w p d N q bf nn O s X m G y f C low Tx) (ha:a≤9728):Calls Tryz.prog 42 #[.pointer (some ⟨bf,0,none⟩),.int .i64 (a:Int),.int .i64 (a:Int)] w (BlaQ w0 w p d N q bf nn O s X m G y f C low Tx):=by
 have H:=Lib.hid h
 have hw:IntKind.i64.wrap ((a:Int) - (a:Int))=0:=by rw [IntKind.wrap_i64];omega
 clear h
 go_enter Tryz.func42,Tryz.ntmps42
 go_wp2_with fail
 refine (T.parts_nil _ _ (by omega)).mono ?_
 rintro e w1 ⟨rfl,rfl⟩
 go_wp2_with fail
 refine wp_loop_rounds 1 ?_
 rw [rounds_succ]
 go_wp2_with fail
 go_ret
 exact ⟨rfl,m,H.out,Fr.refl _ _,Chg.refl _ _⟩
set_option maxHeartbeats 4000000 in
theorem blank_some {a s' t:Nat} (ht:a+s'=t) (h:Op w0 w p d N q bf nn O s X m G y f C low Tx) (hs:0<s') (has:a+s'≤9728) (hT:∀ b,b<76→∀ j,j<128→a≤128 * b+j→128 * b+j<a+s'→C (128 * b+j)≠0→ixb b∈Tx) :
  Calls Tryz.prog 42 #[.pointer (some ⟨bf,0,none⟩),.int .i64 (a:Int),.int .i64 (t:Int)] w (BlaQ w0 w p d N q bf nn O s X m G y f (zer C a s') low Tx):=by
 have H:=Lib.hid h
 have HT:=Lib.hid hT
 have hw:IntKind.i64.wrap ((t:Int) - (a:Int))=(s':Int):=by rw [IntKind.wrap_i64];omega
 clear h hT ht
 go_enter Tryz.func42,Tryz.ntmps42
 go_wp2_with fail
 refine (T.parts_some a s' _ hs has).mono ?_
 rintro e w2 ⟨A,cp,rfl,hp,hb,hfr⟩
 have H2:=Lib.hid (H.out.below hb)
 have HB2:=Lib.hid hb
 have HP:=Lib.hid hp
 have HFR:=Lib.hid hfr
 have hn76:=np76 has
 have HAS:=Lib.hid has
 clear hb hp hw hs has hfr
 generalize hM:T.np a s'=M at *
 have HMM:=Lib.hid hM
 clear hM
 go_wp2_with fail
 go_loopw [28] (fun i wr=>∃ k:Nat,k≤M∧i=.int .i64 k∧Hid (∃ mk,Op w0 wr p d N q bf nn O s X mk G y f (zer C a (up a s' k)) low Tx∧Fr f (view X m) (view X mk))∧Hid (Chg [q] w2 wr)) (fun i _=>M - (intOf i).toNat)
 case atStart=>exact ⟨0,Nat.zero_le _,rfl,⟨m,by rw [up_zero,zer_zero];exact H2.out,Fr.refl _ _⟩,Chg.refl _ _⟩
 case round =>
  obtain ⟨k,hk,rfl,HR,HB⟩:=hrel
  by_cases hlt:k<M
  ·have hlt':k<T.np a s':=by rw [HMM.out];exact hlt
   have P:=part hlt' HAS.out
   obtain ⟨b,e,hbl,hcc⟩:=HP.out.at_ (by omega)
   subst e
   have hbw:=HFR.out b 0 rfl
   have hbq:b≠q:=by have:=H.out.sto.map.lt;omega
   obtain ⟨x0,x1,x2⟩:=hcc k hlt
   have hcell:∀ o,wr.cell? ⟨b,o,none⟩=w2.cell? ⟨b,o,none⟩:=fun o=>World.cell?_of_block (a:=⟨b,o,none⟩) (HB.out.block b hbl (by simp;exact hbq))
   rw [← hcell,pb_nb] at x0
   rw [← hcell,pf_nf hlt'] at x1
   rw [← hcell,pt_nt hlt'] at x2
   have HPT:=Lib.hid P
   obtain ⟨B,hB⟩:∃ B,nb a k=B:=⟨_,rfl⟩
   obtain ⟨lo,hlo⟩:∃ lo,nf a k=lo:=⟨_,rfl⟩
   obtain ⟨hi,hhi⟩:∃ hi,nt a s' k=hi:=⟨_,rfl⟩
   have HE:Hid (B<76∧lo<hi∧hi≤128∧128 * B+lo=a+up a s' k∧up a s' (k+1)=up a s' k+(hi - lo)∧up a s' (k+1)≤s'):=by
    rw [← hB,← hlo,← hhi];exact ⟨P.b76,P.lt,P.le,P.at_,P.nxt,P.all⟩
   rw [hB] at x0
   rw [hlo] at x1
   rw [hhi] at x2
   have hlohi:lo<hi∧hi≤128:=⟨HE.out.2.1,HE.out.2.2.1⟩
   clear P hcc hlo hhi hB hcell
   obtain ⟨a0,a1,a2⟩:=D.box1 wr (Obj.cells #[.int .i64 (B:Int),.int .i64 (lo:Int),.int .i64 (hi:Int)] 92)
   obtain ⟨mk,hop,hfrk⟩:=HR.out
   have HOP:=Lib.hid (hop.below a1)
   have HFK:=Lib.hid hfrk
   have HA:=Lib.hid a0
   have HB3:=Lib.hid (HB.out.tr (Chg.of_below a1))
   have hal:wr.heap.size<(wr.alloc (Obj.cells #[.int .i64 (B:Int),.int .i64 (lo:Int),.int .i64 (hi:Int)] 92)).heap.size:=by rw [a2];omega
   have hqr:q<wr.heap.size:=hop.sto.map.lt
   clear a0 a1 a2 hop hfrk
   go_upto_region 7 with fail
   clear x0 x1 x2
   generalize wr.alloc (Obj.cells #[.int .i64 (B:Int),.int .i64 (lo:Int),.int .i64 (hi:Int)] 92)=W at *
   have y0:W.cell? ⟨wr.heap.size,0,none⟩=some (.int .i64 (B:Int)):=cell_of_row _ _ 0 _ _ _ HA.out
   go_wp2_with fail
   refine (block_yes HOP.out.rd HE.out.1).mono ?_
   rintro e w4 ⟨g,rfl,hg,hgw,hb4⟩
   have HG:=Lib.hid (own_sub hg (blkL_len _ _) hlohi.1 hlohi.2)
   have HOW:=Lib.hid hg
   have HOP4:=Lib.hid (HOP.out.below hb4)
   have HB4:=Lib.hid (HB3.out.tr (Chg.of_below hb4))
   have HA4:=Lib.hid ((hb4.block wr.heap.size hal).trans HA.out)
   have hgr:wr.heap.size<g:=by omega
   clear hg hb4 y0 hal
   have y1:w4.cell? ⟨wr.heap.size,1,none⟩=some (.int .i64 (lo:Int)):=cell_of_row _ _ 1 _ _ _ HA4.out
   have y2:w4.cell? ⟨wr.heap.size,2,none⟩=some (.int .i64 (hi:Int)):=cell_of_row _ _ 2 _ _ _ HA4.out
   have z1:¬ 128=lo:=by omega
   obtain ⟨hb,hhb⟩:=boolOf (∃ j,j<hi - lo∧¬ (((blkL (zer C a (up a s' k)) B).drop lo).take (hi - lo))[j]?.getD 0=0)
   have HAS8:=Lib.hid (has8 (w:=w4) (B:=w4.heap.size) ⟨HG.out.len,HG.out.cap,HG.out.lim,HG.out.nil,HG.out.at_⟩ (by omega) hhb)
   have HNZ:Hid (hb=true ↔ ∃ j,j<hi - lo∧zer C a (up a s' k) (a+up a s' k+j)≠0):=by
    show _ ↔ _
    rw [hhb,byt_blk _ hlohi.2,HE.out.2.2.2.1]
    constructor
    ·rintro ⟨j,h1,h2⟩;exact ⟨j,h1,fun e=>h2 (by simp [byt,h1,e])⟩
    ·rintro ⟨j,h1,h2⟩;exact ⟨j,h1,fun e=>h2 (by simpa [byt,h1] using e)⟩
   clear hhb
   cases hb with
   | false =>
    go_wp2_with fail
    refine HAS8.out.mono ?_
    rintro e w5 ⟨rfl,rfl⟩
    go_wp2_with fail
    go_roundw
    case rel =>
     refine ⟨k+1,by omega,by go_num,⟨mk,?_,HFK.out⟩,HB4⟩
     rw [HE.out.2.2.2.2.1,zer_same fun j hj=>Decidable.by_contra fun hn=>by have:=HNZ.out.2 ⟨j,hj,hn⟩;cases this]
     exact HOP4.out
    case measure=>simp [intOf];omega
   | true =>
    go_wp2_with fail
    refine HAS8.out.mono ?_
    rintro e w5 ⟨rfl,rfl⟩
    obtain ⟨j0,hj0,hn0⟩:=HNZ.out.1 trivial
    have hpos:128 * B+(lo+j0)=a+up a s' k+j0:=by have:=HE.out.2.2.2.1;omega
    have hC0:C (128 * B+(lo+j0))≠0:=fun e=>hn0 (by unfold zer;rw [if_neg (by omega),← hpos];exact e)
    have HTX:=Lib.hid (HT.out B HE.out.1 (lo+j0) (by omega) (by omega) (by have:=HE.out.2.2.2.2.2;have:=HE.out.2.2.2.2.1;omega) hC0)
    have hf0:f (ixb B)≠0:=fun e=>hn0 (by have:=HOP4.out.con.no B HE.out.1 e (lo+j0) (by omega);rw [hpos] at this;exact this)
    have hrg:=HOP4.out.mid.rng _ (ixb_lt HE.out.1)
    have hclr:=Lib.run_clear_slice (P:=Tryz.prog) w4 41 5 0 (.int .u8 0) Tryz.underlying41 Tryz.zeroValue5 rfl rfl g lo (hi - lo) (128 - lo) (by omega)
     (fun j hj=>by obtain ⟨b',off,e,_,hc⟩:=HG.out.cell hj;cases e;rw [hc];rfl) (fun j hj=>by obtain ⟨t,ht⟩:=HOW.out;exact F.free_in ht _)
    have HOW5:Hid (Own (w4.setCells g lo (List.replicate (hi - lo) (.int .u8 0))) g (blkL (zer C a (up a s' (k+1))) B)):=by
     have:=own_setz (hi - lo) HOW.out (o:=lo) (by rw [blkL_len];omega)
     rw [setz_blk C HE.out.2.2.2.1 (by omega)] at this
     rw [HE.out.2.2.2.2.1];exact this
    have hcg:=chg_setCells w4 g lo (List.replicate (hi - lo) (.int .u8 0))
    have hgO:=HOP.out.fresh hgw
    have HOP5:=Lib.hid (HOP4.out.chg hcg hgO)
    have HB5:=Lib.hid (HB4.out.trans hcg fun b hb=>by simp at hb;right;have:=HB3.out.size;omega)
    have HA5:=Lib.hid ((hcg.block wr.heap.size (Array.getElem?_eq_some_iff.1 HA4.out).1 (by simp;omega)).trans HA4.out)
    obtain ⟨w5,hw5⟩:∃ w5,w4.setCells g lo (List.replicate (hi - lo) (.int .u8 0))=w5:=⟨_,rfl⟩
    rw [hw5] at hclr HOW5 HOP5 HB5 HA5
    clear hcg hw5
    have hCC:∀ i,i / 128≠B→zer C a (up a s' (k+1)) i=zer C a (up a s' k) i:=fun i hi'=>by
     have h1:=HE.out.2.2.2.1
     have h2:=HE.out.2.2.2.2.1
     unfold zer
     by_cases h3:a≤i∧i<a+up a s' k
     ·rw [if_pos h3,if_pos (by omega)]
     ·rw [if_neg h3,if_neg (by omega)]
    have HCC:=Lib.hid hCC
    have HBT:Hid (Bts w5 (IM g) (some ⟨g,0,none⟩) 128 128 (blkL (zer C a (up a s' (k+1))) B)):=HOW5.out.bts (blkL_len _ _) rfl
    have hroom:=HOP5.out.bud.room HOP5.out.sto.mok.rise (.inr ⟨_,HTX.out,hf0,rfl⟩)
    have HPUT:=Lib.hid (put_yes (n:=f (ixb B)) HOP5.out.sto (by omega) (by unfold inLog;omega) HBT.out (fun b hb=>by cases hb;exact ⟨HOW5.out.lt,hgO.2.2.1⟩) hroom)
    have HF0:=Lib.hid hf0
    have c0:=HOP5.out.fil.c0
    clear hroom hCC hf0
    go_wp2_with fail
    refine HPUT.out.mono ?_
    rintro e w6 ⟨rfl,hs6,hc6⟩
    have HPP:=Lib.hid (HOP5.out.put HE.out.1 HF0.out HTX.out HCC.out hs6 (HOP5.out.fil.keep (hc6.block bf HOP5.out.fil.lt (by simp;exact HOP5.out.bfq))))
    have HB6:=Lib.hid (HB5.out.tr hc6)
    clear hs6 hc6 c0 hclr
    go_wp2_with fail
    go_roundw
    case rel=>exact ⟨k+1,by omega,by go_num,⟨_,HPP.out.1,HFK.out.trans HPP.out.2 (Ext.refl _)⟩,HB6⟩
    case measure=>simp [intOf];omega
  ·obtain rfl:k=M:=by omega
   go_wp2_with fail
   go_ret
   obtain ⟨mk,ho,hfrk⟩:=HR.out
   have e:up a s' k=s':=by rw [← HMM.out,up_all]
   rw [e] at ho
   exact ⟨rfl,mk,ho,hfrk,(Chg.of_below HB2.out).tr HB.out⟩
end
end Go.Proofs.YtkganhafbjgndaaGreatRR.V
