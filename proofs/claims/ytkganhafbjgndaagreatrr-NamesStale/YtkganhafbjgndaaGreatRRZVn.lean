/- All nodes of a store at once: New, Node, SetNode, Write, Trunc, Free; the beginning. -/
import Derived.Test.YtkganhafbjgndaaGreatRRZSCom
import Derived.Test.YtkganhafbjgndaaGreatRRZVm
import Derived.Test.YtkganhafbjgndaaGreatRRZNAll
namespace Go.Proofs.YtkganhafbjgndaaGreatRR.V
open Go.RowKit
set_option linter.unusedVariables false
set_option maxRecDepth 20000
def nnc (k g c:Nat):D.Nn:=⟨k,1,g,0,c,0,0,0,0,0,0⟩
def SpRt (w:World) (t:Nat) (y:D.Nn) (e:Ending) (w':World):Prop:=e=.returned (.tuple #[.int .i64 (t:Int),.agg (D.nc y.up).toArray,.int .i64 0])∧Below w.heap.size w w'
def SpRf (w:World) (e:Ending) (w':World):Prop:=e=.returned (.tuple #[.int .i64 0,.agg D.z11,.int .i64 9])∧Below w.heap.size w w'
section
variable {w0 w:World} {p d N q:Nat} {O:List Nat} {s:DS} {X:Secs2} {m:List Wr} {y:Nat→D.Nn} {t:Nat}
set_option maxHeartbeats 2000000 in
theorem spare_at (h1:1≤t) (h2:t<32) (hn:∀ i,1≤i→i≤t→∀ w',Below w.heap.size w w'→Calls Tryz.prog 30 #[.pointer (some ⟨p,0,none⟩),.int .i64 (i:Int)] w' (NodeR w' (y i))) (hk:∀ i,1≤i→i<t→(y i).k≠0) (h0:(y t).k=0) :
  Calls Tryz.prog 56 #[.pointer (some ⟨p,0,none⟩)] w (SpRt w t (y t)):=by
 have HN:=Lib.hid hn
 have HK:=Lib.hid hk
 have H0:=Lib.hid h0
 obtain ⟨a0,a1,a2⟩:=D.box1 w (Obj.cells D.z11 66)
 have A0:=Lib.hid a0
 have A1:=Lib.hid a1
 have A2:=Lib.hid a2
 clear hn hk h0 a0 a1 a2
 go_enter Tryz.func56,Tryz.ntmps56
 go_wp2_with fail
 go_loopw [5] (fun i wr=>∃ k:Nat,1≤k∧k≤t∧i=.int .i64 k∧Hid (Below (w.heap.size+1) (w.alloc (Obj.cells D.z11 66)) wr)) (fun i _=>t+1 - (intOf i).toNat)
 case atStart=>exact ⟨1,Nat.le_refl _,h1,rfl,Below.refl _ _⟩
 case round =>
  obtain ⟨k,hk1,hk2,rfl,HB⟩:=hrel
  have GB:=Lib.hid (A1.out.trans (HB.out.mono (by omega)))
  have G0:=Lib.hid ((HB.out.block w.heap.size (by omega)).trans A0.out)
  have hs0:w.heap.size+1≤wr.heap.size:=by have:=HB.out.size;rw [A2.out] at this;exact this
  have HC:=Lib.hid (HN.out k hk1 hk2 wr GB.out)
  have hk32:(k:Int)<32:=by omega
  by_cases hlt:k<t
  ·have HKK:Hid (((y k).up.k == 0)=false):=by show _=_;rw [beq_eq_false_iff_ne];show ((y k).k:Int)≠0;have:=HK.out k hk1 hlt;omega
   generalize y k=yk at *
   go_wp2_with fail
   refine HC.out.mono ?_
   rintro e w1 ⟨rfl,hb⟩
   obtain ⟨b0,b1,b2⟩:=D.box1 w1 (Obj.cells (D.nc yk.up).toArray 66)
   have hs1:=hb.size
   have HB1:Hid (Below (w.heap.size+1) (w.alloc (Obj.cells D.z11 66)) (w1.alloc (Obj.cells (D.nc yk.up).toArray 66))):=(HB.out.trans (hb.mono hs0)).trans (b1.mono (by omega))
   have B0:=Lib.hid b0
   clear hb b0 b1 b2
   go_upto_region 5 with (first | (refine wpList_store_new rfl 66 _ _ rfl w1 D.z11 (D.nc yk.up).toArray rfl rfl s47 rfl (all_oneCell_toArray (D.nc_one _)) ?_) | fail)
   generalize w1.alloc (Obj.cells (D.nc yk.up).toArray 66)=W at *
   have c0:W.cell? ⟨w1.heap.size,0,none⟩=some (.int .i64 yk.up.k):=cell_of_row _ _ 0 _ _ _ B0.out
   have hk1:=HKK.out
   go_wp2_with fail
   go_roundw
   case rel=>exact ⟨k+1,by omega,by omega,by go_num,HB1⟩
   case measure=>simp [intOf];omega
  ·obtain rfl:k=t:=by omega
   have HKK:Hid (((y k).up.k == 0)=true):=by show _=_;rw [beq_iff_eq];show ((y k).k:Int)=0;have:=H0.out;omega
   generalize y k=y3 at *
   go_wp2_with fail
   refine HC.out.mono ?_
   rintro e w1 ⟨rfl,hb⟩
   obtain ⟨b0,b1,b2⟩:=D.box1 w1 (Obj.cells (D.nc y3.up).toArray 66)
   have hs1:=hb.size
   have GB1:=Lib.hid ((GB.out.trans (hb.mono (by omega))).trans (b1.mono (by omega)))
   have G1:=Lib.hid ((b1.block w.heap.size (by omega)).trans ((hb.block w.heap.size (by omega)).trans G0.out))
   have B0:=Lib.hid b0
   clear hb b0 b1 b2
   go_upto_region 5 with (first | (refine wpList_store_new rfl 66 _ _ rfl w1 D.z11 (D.nc y3.up).toArray rfl rfl s47 rfl (all_oneCell_toArray (D.nc_one _)) ?_) | fail)
   generalize w1.alloc (Obj.cells (D.nc y3.up).toArray 66)=W at *
   have c0:W.cell? ⟨w1.heap.size,0,none⟩=some (.int .i64 y3.up.k):=cell_of_row _ _ 0 _ _ _ B0.out
   have hk3:=HKK.out
   go_upto_region 8 with fail
   have e1:W.cell? ⟨w1.heap.size,1,none⟩=some (.int .i64 y3.up.l):=cell_of_row _ _ 1 _ _ _ B0.out
   have e2:W.cell? ⟨w1.heap.size,2,none⟩=some (.int .i64 y3.up.g):=cell_of_row _ _ 2 _ _ _ B0.out
   have e3:W.cell? ⟨w1.heap.size,3,none⟩=some (.int .i64 y3.up.s):=cell_of_row _ _ 3 _ _ _ B0.out
   have e4:W.cell? ⟨w1.heap.size,4,none⟩=some (.int .i64 y3.up.c):=cell_of_row _ _ 4 _ _ _ B0.out
   have e5:W.cell? ⟨w1.heap.size,5,none⟩=some (.int .i64 y3.up.d0):=cell_of_row _ _ 5 _ _ _ B0.out
   have e6:W.cell? ⟨w1.heap.size,6,none⟩=some (.int .i64 y3.up.d1):=cell_of_row _ _ 6 _ _ _ B0.out
   have e7:W.cell? ⟨w1.heap.size,7,none⟩=some (.int .i64 y3.up.d2):=cell_of_row _ _ 7 _ _ _ B0.out
   have e8:W.cell? ⟨w1.heap.size,8,none⟩=some (.int .i64 y3.up.d3):=cell_of_row _ _ 8 _ _ _ B0.out
   have e9:W.cell? ⟨w1.heap.size,9,none⟩=some (.int .i64 y3.up.o):=cell_of_row _ _ 9 _ _ _ B0.out
   have e10:W.cell? ⟨w1.heap.size,10,none⟩=some (.int .i64 y3.up.t):=cell_of_row _ _ 10 _ _ _ B0.out
   go_still_tail 3,(by kernel_rfl)
   change wpList _ _ _ _ _ W.drew
   clear c0 e1 e2 e3 e4 e5 e6 e7 e8 e9 e10
   have G2:Hid (W.drew.heap[w.heap.size]?=some (.cells D.z11 66 (0,0))):=G1.out
   have B2:Hid (W.drew.heap[w1.heap.size]?=some (.cells (D.nc y3.up).toArray 66 (0,0))):=B0.out
   have GB2:=Lib.hid GB1.out.drew
   generalize W.drew=V at *
   go_wp2_with (first | (refine D.wpList_store_row rfl 66 _ _ rfl w.heap.size D.z11 (D.nc y3.up).toArray 66 rfl rfl G2.out s47 rfl (all_oneCell_toArray (D.nc_one _)) ?_) | fail)
   refine bodyPost_ret (ret_tct rfl rfl (D.setRow_in _ _ _ (D.nc y3.up).toArray _ G2.out) Tryz.underlying66 rfl s47) rfl ?_
   exact ⟨rfl,below_setRow GB2.out (Nat.le_refl _) _⟩
set_option maxHeartbeats 2000000 in
theorem spare_full (hn:∀ i:Nat,1≤i→i<32→∀ w',Below w.heap.size w w'→Calls Tryz.prog 30 #[.pointer (some ⟨p,0,none⟩),.int .i64 (i:Int)] w' (NodeR w' (y i))) (hk:∀ i:Nat,1≤i→i<32→(y i).k≠0) :
  Calls Tryz.prog 56 #[.pointer (some ⟨p,0,none⟩)] w (SpRf w):=by
 have HN:=Lib.hid hn
 have HK:=Lib.hid hk
 obtain ⟨a0,a1,a2⟩:=D.box1 w (Obj.cells D.z11 66)
 have A0:=Lib.hid a0
 have A1:=Lib.hid a1
 have A2:=Lib.hid a2
 clear hn hk a0 a1 a2
 go_enter Tryz.func56,Tryz.ntmps56
 go_wp2_with fail
 go_loopw [5] (fun i wr=>∃ k:Nat,1≤k∧k≤32∧i=.int .i64 k∧Hid (Below (w.heap.size+1) (w.alloc (Obj.cells D.z11 66)) wr)) (fun i _=>33 - (intOf i).toNat)
 case atStart=>exact ⟨1,Nat.le_refl _,by omega,rfl,Below.refl _ _⟩
 case round =>
  obtain ⟨k,hk1,hk2,rfl,HB⟩:=hrel
  have GB:=Lib.hid (A1.out.trans (HB.out.mono (by omega)))
  have G0:=Lib.hid ((HB.out.block w.heap.size (by omega)).trans A0.out)
  have hs0:w.heap.size+1≤wr.heap.size:=by have:=HB.out.size;rw [A2.out] at this;exact this
  by_cases hlt:k<32
  ·have HC:=Lib.hid (HN.out k hk1 hlt wr GB.out)
   have hk32:(k:Int)<32:=by omega
   have HKK:Hid (((y k).up.k == 0)=false):=by show _=_;rw [beq_eq_false_iff_ne];show ((y k).k:Int)≠0;have:=HK.out k hk1 hlt;omega
   generalize y k=yk at *
   go_wp2_with fail
   refine HC.out.mono ?_
   rintro e w1 ⟨rfl,hb⟩
   obtain ⟨b0,b1,b2⟩:=D.box1 w1 (Obj.cells (D.nc yk.up).toArray 66)
   have hs1:=hb.size
   have HB1:Hid (Below (w.heap.size+1) (w.alloc (Obj.cells D.z11 66)) (w1.alloc (Obj.cells (D.nc yk.up).toArray 66))):=(HB.out.trans (hb.mono hs0)).trans (b1.mono (by omega))
   have B0:=Lib.hid b0
   clear hb b0 b1 b2
   go_upto_region 5 with (first | (refine wpList_store_new rfl 66 _ _ rfl w1 D.z11 (D.nc yk.up).toArray rfl rfl s47 rfl (all_oneCell_toArray (D.nc_one _)) ?_) | fail)
   generalize w1.alloc (Obj.cells (D.nc yk.up).toArray 66)=W at *
   have c0:W.cell? ⟨w1.heap.size,0,none⟩=some (.int .i64 yk.up.k):=cell_of_row _ _ 0 _ _ _ B0.out
   have hk1:=HKK.out
   go_wp2_with fail
   go_roundw
   case rel=>exact ⟨k+1,by omega,by omega,by go_num,HB1⟩
   case measure=>simp [intOf];omega
  ·obtain rfl:k=32:=by omega
   rw [show ((32:Nat):Int)=32 from rfl]
   have G2:=Lib.hid G0.out
   have GB2:=Lib.hid GB.out
   clear HB GB G0 A0 A1
   go_wp2_with (first | (refine D.wpList_store_row rfl 66 _ _ rfl w.heap.size D.z11 D.z11 66 rfl rfl G2.out s47 rfl (all_oneCell_toArray (D.nc_one D.zeroN.up)) ?_) | fail)
   refine bodyPost_ret (ret_tct rfl rfl (D.setRow_in _ _ _ D.z11 _ G2.out) Tryz.underlying66 rfl s47) rfl ?_
   exact ⟨rfl,below_setRow GB2.out (Nat.le_refl _) _⟩
theorem nnc_ok {k g c:Nat} (hk:k=1∨k=2) (hg:g≤1073741824) (hc:c≤1073741824):(nnc k g c).up.ok=true:=by
 rw [D.Nd.ok_iff]
 refine ⟨?_,by rcases hk with rfl | rfl<;>rfl,?_⟩
 ·unfold D.Nd.nums
  rw [decide_eq_true_eq]
  show 0≤(g:Int)∧(g:Int)≤1073741824∧0≤(c:Int)∧(c:Int)≤1073741824
  omega
 ·rcases hk with rfl | rfl
  ·unfold D.Nd.kind;rw [decide_eq_true_eq];right;left;exact ⟨rfl,(by decide:(1:Int)≤((1:Nat):Int)),(by decide:((1:Nat):Int)≤255),(by decide:(0:Int)≤((0:Nat):Int)),(by decide:((0:Nat):Int)≤9728)⟩
  ·unfold D.Nd.kind;rw [decide_eq_true_eq];right;right;exact ⟨rfl,rfl,(by decide:(0:Int)≤((0:Nat):Int)),(by decide:((0:Nat):Int)≤9728),rfl⟩
theorem ok_nums {y:D.Nn} (h:y.up.ok=true):y.g≤1073741824∧y.c≤1073741824:=by
 obtain ⟨h1,h2,h3⟩:=D.Nd.ok_iff.1 h
 unfold D.Nd.nums at h1
 have a1:=of_decide_eq_true h1
 simp only [D.Nn.up] at a1
 omega
def NodesAre (X:Secs2) (m:List Wr) (y:Nat→D.Nn) (t:Nat):Prop:=∀ i:Nat,1≤i→i≤t→nodeB X m i=(y i).img∧(y i).up.ok=true
theorem node_img (h:Sto w0 w p d O N s X q m) {n:Nat} {z:D.Nn} (hn:n<32) (e:nodeB X m n=z.img) (ho:z.up.ok=true):Calls Tryz.prog 30 #[.pointer (some ⟨p,0,none⟩),.int .i64 n] w (NodeR w z):=by
 obtain ⟨g1,g2⟩:=D.good_img ho
 have:=node_yes h hn (by rw [e];exact g1)
 rw [e,g2] at this
 exact this
def NewQt (w0 w:World) (p d:Nat) (O:List Nat) (N:Nat) (s:DS) (X:Secs2) (q t:Nat) (m':List Wr) (e:Ending) (w':World):Prop:=e=.returned (.tuple #[.int .i64 (t:Int),.int .i64 0])∧Sto w0 w' p d O N s X q m'∧Chg [q] w w'
set_option maxHeartbeats 2000000 in
theorem new_at (h:Sto w0 w p d O N s X q m) {a b c:Nat} (hv:view X m 0=U.sec a b c) (hok:U.ok a b c=true) (hc:c<1073741824) {k:Nat} (hk:k=1∨k=2) (h1:1≤t) (h2:t<32) (hn:NodesAre X m y t)
  (hz:∀ i,1≤i→i<t→(y i).k≠0) (h0:(y t).k=0) {c2:Nat} (hc2:min ((y t).c+1) 1073741824=c2) (hr:Room N m [(0,U.sec a b (c+1)),(((35+t / 4:Nat):Int),putN X m t (nnc k (c+1) c2))]) :
  Calls Tryz.prog 24 #[.pointer (some ⟨p,0,none⟩),.int .i64 k] w (NewQt w0 w p d O N s X q t (insAll [(0,U.sec a b (c+1)),(((35+t / 4:Nat):Int),putN X m t (nnc k (c+1) c2))] m)):=by
 have hcb:=(ok_nums (hn t h1 (Nat.le_refl _)).2).2
 have H:=Lib.hid h
 have HN:=Lib.hid (nnc_ok (k:=k) (g:=c+1) (c:=c2) hk (by omega) (by omega))
 have HSP:Hid (∀ w',Below w.heap.size w w'→Calls Tryz.prog 56 #[.pointer (some ⟨p,0,none⟩)] w' (SpRt w' t (y t))):=fun w' hb=>spare_at h1 h2 (fun i hi hi2 w2 hb2=>node_img ((h.below hb).below hb2) (by omega) (hn i hi hi2).1 (hn i hi hi2).2) hz h0
 have HCT:Hid (∀ w',Below w.heap.size w w'→Calls Tryz.prog 57 #[.pointer (some ⟨p,0,none⟩)] w' (CntR w' a b c)):=fun w' hb=>counted_yes (h.below hb) hv hok hc
 have HPL:=Lib.hid (putN_len h (n:=t) h2 (nnc k (c+1) c2))
 have HWN:Hid (∀ w',Below w.heap.size w w'→Calls Tryz.prog 58 #[.pointer (some ⟨p,0,none⟩),.int .i64 (t:Int),.agg #[.int .i64 (k:Int),.int .i64 1,.int .i64 ((c+1:Nat):Int),.int .i64 0,.int .i64 (c2:Int),.int .i64 0,.int .i64 0,.int .i64 0,.int .i64 0,.int .i64 0,.int .i64 0]] w' (WrR w' (35+t / 4) (putN X m t (nnc k (c+1) c2)))):=fun w' hb=>withNode_yes (n:=t) (h.below hb) h2 (nnc k (c+1) c2) HN.out
 have HR:=Lib.hid hr
 have hkk:((k:Int) != 1 && (k:Int) != 2)=false:=by rcases hk with rfl | rfl<;>rfl
 have hk1:((k:Int) != 1)=decide (k≠1):=by rcases hk with rfl | rfl<;>rfl
 have hc1':((c+1:Nat):Int)≤1073741824:=by omega
 have hmin:min (((y t).c:Int)+1) 1073741824=(c2:Int):=by omega
 obtain ⟨c1,hc1⟩:∃ c1,c+1=c1:=⟨_,rfl⟩
 obtain ⟨hd,hhd⟩:∃ hd,35+t / 4=hd:=⟨_,rfl⟩
 have h3:(t:Int)<32:=by omega
 unfold CntR at HCT
 unfold WrR at HWN
 simp only [hc1,hhd] at HR HN HCT HPL HWN hc1' ⊢
 clear h hr hn hv hok hc hz h0 hc2 hc1 hhd
 go_enter Tryz.func24,Tryz.ntmps24
 go_wp2_with fail
 refine (barred_ok H.out.st).mono ?_
 rintro e w1 ⟨rfl,rfl⟩
 have HBK:Hid (k=1∨k=2):=hk
 rcases hk with rfl | rfl
 all_goals
  go_wp2_with fail
  refine (HSP.out w (Below.refl _ _)).mono ?_
  rintro e w1 ⟨rfl,hb⟩
  have HB1:=Lib.hid hb
  clear hb
  obtain ⟨b0,b1,b2⟩:=D.box1 w1 (Obj.cells (D.nc (y t).up).toArray 66)
  have B0:=Lib.hid b0
  have HB2:=Lib.hid (HB1.out.trans (b1.mono HB1.out.size))
  have hs1:w1.heap.size<(w1.alloc (Obj.cells (D.nc (y t).up).toArray 66)).heap.size:=by rw [b2];omega
  clear b0 b1 b2
  go_upto_region 7 with (first | (refine wpList_store_new rfl 66 _ _ rfl w1 D.z11 (D.nc (y t).up).toArray rfl rfl s47 rfl (all_oneCell_toArray (D.nc_one _)) ?_) | fail)
  generalize w1.alloc (Obj.cells (D.nc (y t).up).toArray 66)=W1 at *
  go_wp2_with fail
  refine (HCT.out W1 HB2.out).mono ?_
  rintro e w2 ⟨g,cap,rfl,hbt,hg1,hg2,hb⟩
  have HBT:=Lib.hid hbt
  have B1:=Lib.hid ((hb.block w1.heap.size hs1).trans B0.out)
  have HB3:=Lib.hid (HB2.out.trans (hb.mono HB2.out.size))
  have hs2:=hb.size
  clear hbt hb B0
  obtain ⟨b0,b1,b2⟩:=D.box1 w2 (Obj.cells #[.int .i64 0,.slice (some ⟨g,0,none⟩) 128 cap] 109)
  have C0:=Lib.hid b0
  have B2:=Lib.hid ((b1.block w1.heap.size (by omega)).trans B1.out)
  have HBT2:=Lib.hid (HBT.out.keep fun b hb=>by cases hb;exact b1.block g hg2)
  have HB4:=Lib.hid (HB3.out.trans (b1.mono HB3.out.size))
  have hs3:w2.heap.size<(w2.alloc (Obj.cells #[.int .i64 0,.slice (some ⟨g,0,none⟩) 128 cap] 109)).heap.size:=by rw [b2];omega
  clear b0 b1 b2 B1 HBT HB3
  go_upto_region 10 with (first | (refine wpList_store_new rfl 109 _ _ rfl w2 #[.int .i64 0,.slice none 0 0] #[.int .i64 0,.slice (some ⟨g,0,none⟩) 128 cap] rfl rfl s34 rfl (oc2 _ _ _ _) ?_) | fail)
  generalize w2.alloc (Obj.cells #[.int .i64 0,.slice (some ⟨g,0,none⟩) 128 cap] 109)=W2 at *
  have c4:W2.cell? ⟨w1.heap.size,4,none⟩=some (.int .i64 ((y t).c:Int)):=cell_of_row _ _ 4 _ _ _ B2.out
  go_wp2_with fail
  refine (HWN.out W2 HB4.out).mono ?_
  rintro e w3 ⟨g',cap',rfl,hbt,hg1',hg2',hb⟩
  have HBT':=Lib.hid hbt
  have C1:=Lib.hid ((hb.block w2.heap.size hs3).trans C0.out)
  have HBT3:=Lib.hid (HBT2.out.keep fun b hb'=>by cases hb';exact hb.block g (by omega))
  have HB5:=Lib.hid (HB4.out.trans (hb.mono HB4.out.size))
  have hs4:=hb.size
  clear hbt hb C0 HBT2 HB4 c4 B2
  obtain ⟨b0,b1,b2⟩:=D.box1 w3 (Obj.cells #[.int .i64 (hd:Int),.slice (some ⟨g',0,none⟩) 128 cap'] 109)
  have E0:=Lib.hid b0
  have C2:=Lib.hid ((b1.block w2.heap.size (by omega)).trans C1.out)
  have HBT4:=Lib.hid (HBT3.out.keep fun b hb=>by cases hb;exact b1.block g (by omega))
  have HBT5:=Lib.hid (HBT'.out.keep fun b hb=>by cases hb;exact b1.block g' hg2')
  have HB6:=Lib.hid (HB5.out.trans (b1.mono HB5.out.size))
  have hs5:w3.heap.size<(w3.alloc (Obj.cells #[.int .i64 (hd:Int),.slice (some ⟨g',0,none⟩) 128 cap'] 109)).heap.size:=by rw [b2];omega
  clear b0 b1 b2 C1 HBT3 HBT' HB5
  go_upto_region 13 with (first | (refine wpList_store_new rfl 109 _ _ rfl w3 #[.int .i64 0,.slice none 0 0] #[.int .i64 (hd:Int),.slice (some ⟨g',0,none⟩) 128 cap'] rfl rfl s34 rfl (oc2 _ _ _ _) ?_) | fail)
  generalize w3.alloc (Obj.cells #[.int .i64 (hd:Int),.slice (some ⟨g',0,none⟩) 128 cap'] 109)=W3 at *
  have H6:=Lib.hid (H.out.below HB6.out)
  have hqw:=H.out.map.lt
  have hwW:=HB2.out.size
  go_wp2_with (first | (refine D.wpList_load_row rfl 109 _ rfl w2.heap.size rfl _ _ _ C2.out _ Tryz.underlying109 rfl s34 ?_) | (refine D.wpList_load_row rfl 109 _ rfl w3.heap.size rfl _ _ _ E0.out _ Tryz.underlying109 rfl s34 ?_) | fail)
  have hbx:=(Below.refl W3.heap.size W3).alloc (Nat.le_refl _) (.cells #[.int .i64 0,.slice (some ⟨g,0,none⟩) 128 cap,.int .i64 (hd:Int),.slice (some ⟨g',0,none⟩) 128 cap'] 109)
  refine (change_any (H6.out.below hbx) (wrs_2 0 (hd:Int) HBT4.out HBT5.out (fun b hb=>by cases hb;omega) (fun b hb=>by cases hb;omega)) ?_ HR.out).mono ?_
  ·rintro b ((hb | hb) | rfl)
   ·cases hb;exact ⟨by simp;omega,by omega⟩
   ·cases hb;exact ⟨by simp;omega,by omega⟩
   ·exact ⟨by simp,by have:=H6.out.map.lt;omega⟩
  ·rintro e w4 ⟨rfl,hs,hc⟩
   have HS:=Lib.hid hs
   have HC:=Lib.hid (((Chg.of_below HB6.out).tr (Chg.of_below hbx)).tr hc)
   clear hs hc hbx
   go_wp2_with fail
   go_ret2
   exact ⟨rfl,HS.out,HC.out⟩
set_option maxHeartbeats 2000000 in
theorem new_full (h:Sto w0 w p d O N s X q m) {k:Nat} (hk:k=1∨k=2) (hn:NodesAre X m y 31) (hz:∀ i:Nat,1≤i→i<32→(y i).k≠0) :
  Calls Tryz.prog 24 #[.pointer (some ⟨p,0,none⟩),.int .i64 k] w fun e w'=>e=.returned (.tuple #[.int .i64 0,.int .i64 9])∧Below w.heap.size w w':=by
 have H:=Lib.hid h
 have HSP:Hid (∀ w',Below w.heap.size w w'→Calls Tryz.prog 56 #[.pointer (some ⟨p,0,none⟩)] w' (SpRf w')):=fun w' hb=>spare_full (fun i hi hi2 w2 hb2=>node_img ((h.below hb).below hb2) hi2 (hn i hi (by omega)).1 (hn i hi (by omega)).2) hz
 have hkk:((k:Int) != 1 && (k:Int) != 2)=false:=by rcases hk with rfl | rfl<;>rfl
 have hk1:((k:Int) != 1)=decide (k≠1):=by rcases hk with rfl | rfl<;>rfl
 clear h hn hz
 go_enter Tryz.func24,Tryz.ntmps24
 go_wp2_with fail
 refine (barred_ok H.out.st).mono ?_
 rintro e w1 ⟨rfl,rfl⟩
 rcases hk with rfl | rfl
 all_goals
  go_wp2_with fail
  refine (HSP.out w (Below.refl _ _)).mono ?_
  rintro e w1 ⟨rfl,hb⟩
  have HB1:=Lib.hid hb
  clear hb
  obtain ⟨b0,b1,b2⟩:=D.box1 w1 (Obj.cells D.z11 66)
  have HB2:=Lib.hid (HB1.out.trans (b1.mono HB1.out.size))
  clear b0 b1 b2
  go_upto_region 7 with (first | (refine wpList_store_new rfl 66 _ _ rfl w1 D.z11 D.z11 rfl rfl s47 rfl (all_oneCell_toArray (D.nc_one D.zeroN.up)) ?_) | fail)
  generalize w1.alloc (Obj.cells D.z11 66)=W1 at *
  go_wp2_with fail
  go_ret2
  exact ⟨rfl,HB2.out⟩
end
end Go.Proofs.YtkganhafbjgndaaGreatRR.V
namespace Go.Proofs.YtkganhafbjgndaaGreatRR.V
open Go.RowKit
set_option linter.unusedVariables false
set_option maxRecDepth 20000
def sett {α:Type} (f:Nat→α) (i:Nat) (x:α):Nat→α:=fun k=>if k=i then x else f k
theorem sett_at {α:Type} (f:Nat→α) (i:Nat) (x:α):sett f i x i=x:=if_pos rfl
theorem sett_ne {α:Type} (f:Nat→α) {i k:Nat} (x:α) (h:k≠i):sett f i x k=f k:=if_neg h
theorem sett_self {α:Type} (f:Nat→α) (i:Nat):sett f i (f i)=f:=by
 funext k;unfold sett;split
 ·rename_i h;rw [h]
 ·rfl
def oth (f:Nat→Nat→Nat) (i:Nat):List Nat:=(((List.range 32).filter fun j=>j != i).map fun j=>gl (f j)).flatten
theorem mem_oth {f:Nat→Nat→Nat} {i n:Nat}:n∈oth f i ↔ ∃ j,j<32∧j≠i∧n∈gl (f j):=by
 unfold oth
 rw [List.mem_flatten]
 constructor
 ·rintro ⟨l,hl,hn⟩
  obtain ⟨j,hj,rfl⟩:=List.mem_map.1 hl
  have h:=List.mem_filter.1 hj
  exact ⟨j,List.mem_range.1 h.1,by simpa using h.2,hn⟩
 ·rintro ⟨j,h1,h2,hn⟩
  exact ⟨gl (f j),List.mem_map.2 ⟨j,List.mem_filter.2 ⟨List.mem_range.2 h1,by simpa using h2⟩,rfl⟩,hn⟩
theorem oth_congr {f g:Nat→Nat→Nat} {i:Nat} (h:∀ j,j≠i→f j=g j):oth f i=oth g i:=by
 unfold oth
 congr 1
 exact List.map_congr_left fun j hj=>by rw [h j (by simpa using (List.mem_filter.1 hj).2)]
def tot (f:Nat→Nat→Nat):Nat:=((List.range 32).map fun j=>nzn (f j)).sum
theorem sum_split {g:Nat→Nat} {i:Nat}:∀ {l:List Nat},l.Nodup→i∈l→(l.map g).sum=g i+((l.filter fun j=>j != i).map g).sum
 | a :: l,hn,hi=>by
  have hn':=List.nodup_cons.1 hn
  by_cases h:a=i
  ·subst h
   have hf:(l.filter fun j=>j != a)=l:=List.filter_eq_self.2 fun j hj=>by
    have:j≠a:=fun e=>hn'.1 (e ▸ hj)
    simpa using this
   rw [List.filter_cons_of_neg (by simp),hf,List.map_cons,List.sum_cons]
  ·have hi':i∈l:=(List.mem_cons.1 hi).elim (fun e=>absurd e.symm h) id
   rw [List.filter_cons_of_pos (by simpa using h),List.map_cons,List.map_cons,List.sum_cons,List.sum_cons,sum_split hn'.2 hi']
   omega
theorem oth_len {f:Nat→Nat→Nat} {i:Nat} (hi:i<32):nzn (f i)+(oth f i).length=tot f:=by
 unfold tot oth
 rw [sum_split List.nodup_range (List.mem_range.2 hi),List.length_flatten,List.map_map]
 congr 2
 exact List.map_congr_left fun j _=>gl_len (f j)
theorem Fl.frame {N:Nat} {G G':Nat→Prop} {V V':Img} {nn:Nat} {y:D.Nn} {f:Nat→Nat} {C:Nat→UInt8} (h:Fl N G V nn y f C) (hV:∀ i,i<86→f i≠0→V' (f i)=V (f i)) (hp:D.piece (V' (35+nn / 4)) (nn % 4)=y.img)
  (hm:∀ n,43≤n→n<N→(K.bt (V' 34) n=true ↔ (∃ i,i<86∧f i=n)∨G' n)) (ho:∀ i,i<86→f i≠0→¬ G' (f i)) (hg:∀ n,G' n→43≤n∧n<N) (hl:(V' 34).length=128):Fl N G' V' nn y f C:=by
 have hk:=h.mid
 refine ⟨⟨⟨hk.rep.top,fun p hp h0=>?_,hk.rep.none_⟩,hk.rng,hk.inj,hm,ho,hg,hl,hk.n1⟩,⟨fun b hb h0=>?_,h.con.no⟩,hp,h.ok,h.kind,h.zero,h.few,h.min⟩
 ·rw [hV p (px_lt hp) h0];exact hk.rep.some_ p hp h0
 ·rw [hV _ (ixb_lt hb) h0];exact h.con.yes b hb h0
structure Nds (N ep g:Nat) (V:Img) (y:Nat→D.Nn) (f:Nat→Nat→Nat) (C:Nat→Nat→UInt8):Prop where
 fl:∀ i,1≤i→i<32→(y i).k≠0→Fl N (GL (oth f i)) V i (y i) (f i) (C i)
 no:∀ i,i<32→i=0∨(y i).k=0→f i=fun _=>0
 img:∀ i,1≤i→i<32→D.piece (V (35+i / 4)) (i % 4)=(y i).img∧(y i).up.ok=true
 len:∀ j,j<8→(V (35+j)).length=128
 root:(y 1).k≠0
 sup:V 0=U.sec N ep g
 sok:U.ok N ep g=true
section
variable {w0 w w1 w2 w':World} {p d N q bf nn ep g t:Nat} {O:List Nat} {s:DS} {X:Secs2} {m m':List Wr} {y:Nat→D.Nn} {f:Nat→Nat→Nat} {C:Nat→Nat→UInt8} {y' z:D.Nn} {f':Nat→Nat} {C':Nat→UInt8} {low:List Int} {Tx gs:List Nat} {V V':Img}
theorem zero_gl {n:Nat} (h:f'=fun _=>0):n∉gl f':=by rw [h,gl_zero];simp
theorem Nds.apart (h:Nds N ep g V y f C) {i j n:Nat} (hi:i<32) (hj:j<32) (hij:i≠j) (h1:n∈gl (f i)) (h2:n∈gl (f j)):False:=by
 by_cases hk:i=0∨(y i).k=0
 ·exact zero_gl (h.no i hi hk) h1
 ·obtain ⟨a,ha,h0,rfl⟩:=mem_gl.1 h1
  exact (h.fl i (by omega) hi (fun e=>hk (.inr e))).mid.oth a ha h0 (mem_oth.2 ⟨j,hj,fun e=>hij e.symm,h2⟩)
theorem Nds.rng (h:Nds N ep g V y f C) {i n:Nat} (hi:i<32) (h1:n∈gl (f i)):43≤n∧n<N:=by
 by_cases hk:i=0∨(y i).k=0
 ·exact absurd h1 (zero_gl (h.no i hi hk))
 ·obtain ⟨a,ha,h0,rfl⟩:=mem_gl.1 h1
  have:=(h.fl i (by omega) hi (fun e=>hk (.inr e))).mid.rng a ha
  omega
theorem Nds.nodup_gl (h:Nds N ep g V y f C) {i:Nat} (hi:i<32):(gl (f i)).Nodup:=by
 by_cases hk:i=0∨(y i).k=0
 ·rw [h.no i hi hk,gl_zero];exact List.nodup_nil
 ·exact gl_nodup (h.fl i (by omega) hi (fun e=>hk (.inr e))).mid
theorem Nds.nodup (h:Nds N ep g V y f C) (i:Nat):(oth f i).Nodup:=by
 unfold oth
 rw [List.Nodup,List.pairwise_flatten]
 refine ⟨fun l hl=>?_,?_⟩
 ·obtain ⟨j,hj,rfl⟩:=List.mem_map.1 hl
  exact h.nodup_gl (List.mem_range.1 (List.mem_filter.1 hj).1)
 ·rw [List.pairwise_map]
  refine (List.Pairwise.filter _ (List.nodup_range (n:=32))).imp_of_mem fun {a b} ha hb hab x hx z hz e=>?_
  subst e
  exact h.apart (List.mem_range.1 (List.mem_filter.1 ha).1) (List.mem_range.1 (List.mem_filter.1 hb).1) hab hx hz
theorem Nds.grng (h:Nds N ep g V y f C) {i n:Nat} (hn:n∈oth f i):43≤n∧n<N:=by
 obtain ⟨j,hj,_,hm⟩:=mem_oth.1 hn
 exact h.rng hj hm
theorem Nds.n1 (h:Nds N ep g V y f C):N≤1024:=(h.fl 1 (Nat.le_refl _) (by omega) h.root).mid.n1
theorem Nds.ml (h:Nds N ep g V y f C):(V 34).length=128:=(h.fl 1 (Nat.le_refl _) (by omega) h.root).mid.ml
theorem Nds.marks (h:Nds N ep g V y f C) {n:Nat} (h1:43≤n) (h2:n<N):K.bt (V 34) n=true ↔ ∃ i,i<32∧n∈gl (f i):=by
 rw [(h.fl 1 (Nat.le_refl _) (by omega) h.root).mid.mrk n h1 h2]
 constructor
 ·rintro (⟨i,hi,e⟩ | hg)
  ·exact ⟨1,by omega,mem_gl.2 ⟨i,hi,by omega,e⟩⟩
  ·obtain ⟨j,hj,_,hm⟩:=mem_oth.1 hg
   exact ⟨j,hj,hm⟩
 ·rintro ⟨i,hi,hm⟩
  by_cases e:i=1
  ·subst e
   obtain ⟨a,ha,_,e⟩:=mem_gl.1 hm
   exact .inl ⟨a,ha,e⟩
  ·exact .inr (mem_oth.2 ⟨i,hi,e,hm⟩)
theorem mem_split {n:Nat} (i:Nat) (hi:i<32) (hn:43≤n):(∃ j,j<32∧n∈gl (f j)) ↔ (∃ b,b<86∧f i b=n)∨n∈oth f i:=by
 constructor
 ·rintro ⟨j,hj,hm⟩
  by_cases e:j=i
  ·subst e
   obtain ⟨a,ha,_,e⟩:=mem_gl.1 hm
   exact .inl ⟨a,ha,e⟩
  ·exact .inr (mem_oth.2 ⟨j,hj,e,hm⟩)
 ·rintro (⟨b,hb,e⟩ | hm)
  ·exact ⟨i,hi,mem_gl.2 ⟨b,hb,by omega,e⟩⟩
  ·obtain ⟨j,hj,_,hm⟩:=mem_oth.1 hm
   exact ⟨j,hj,hm⟩
theorem Nds.aft (h:Nds N ep g (view X m) y f C) (hn1:1≤nn) (hn:nn<32) (hk:(y nn).k≠0) (h64:64≤N) (ha:Aft w0 w p d N q nn O s X m (GL (oth f nn)) (f nn) low Tx m' y' f' C' w') (hk':y'.k≠0) :
  Nds N ep g (view X m') (sett y nn y') (sett f nn f') (sett C nn C'):=by
 have hoth:oth (sett f nn f') nn=oth f nn:=oth_congr fun j hj=>sett_ne f f' hj
 have hme:=h.fl nn hn1 hn hk
 have hV:∀ i,i<32→i≠nn→∀ n,n∈gl (f i)→view X m' n=view X m n:=fun i hi hne n hm=>by
  have hr:=h.rng hi hm
  exact ha.fr n (by omega) (by omega) (fun b hb h0 e=>ha.fl.mid.oth b hb h0 (mem_oth.2 ⟨i,hi,hne,by rw [e];exact hm⟩)) fun b hb h0 e=>h.apart hn hi (Ne.symm hne) (mem_gl.2 ⟨b,hb,h0,e⟩) hm
 have hlow:∀ n,n<43→n≠34→n≠35+nn / 4→view X m' n=view X m n:=fun n h1 h2 h3 =>
  ha.fr n h2 h3 (fun b hb h0 e=>by have:=ha.fl.mid.rng b hb;omega) fun b hb h0 e=>by have:=hme.mid.rng b hb;omega
 have hpc:∀ i,1≤i→i<32→i≠nn→D.piece (view X m' (35+i / 4)) (i % 4)=(y i).img:=fun i h1 h2 h3=>by
  by_cases e:i / 4=nn / 4
  ·rw [e,ha.nd,D.piece_put_ne (h.len _ (by omega)) (Nat.mod_lt _ (by omega)) (Nat.mod_lt _ (by omega)) (D.Nn.img_len _) (by omega),← e]
   exact (h.img i h1 h2).1
  ·rw [hlow _ (by omega) (by omega) (by omega)]
   exact (h.img i h1 h2).1
 have hmem:∀ i n,n∈oth (sett f nn f') i→43≤n∧n<N:=fun i n hm=>by
  obtain ⟨j,hj,_,hm⟩:=mem_oth.1 hm
  by_cases e:j=nn
  ·subst e
   rw [sett_at] at hm
   obtain ⟨b,hb,h0,rfl⟩:=mem_gl.1 hm
   have:=ha.fl.mid.rng b hb
   omega
  ·rw [sett_ne f f' e] at hm
   exact h.rng hj hm
 refine ⟨fun i h1 h2 h3=>?_,fun i h1 h2=>?_,fun i h1 h2=>?_,fun j hj=>?_,?_,?_,h.sok⟩
 ·by_cases e:i=nn
  ·subst e
   rw [sett_at,sett_at,sett_at,hoth]
   exact ha.fl
  ·rw [sett_ne y y' e] at h3 ⊢
   rw [sett_ne f f' e,sett_ne C C' e]
   have hfi:sett f nn f' i=f i:=sett_ne f f' e
   refine (h.fl i h1 h2 h3).frame (fun b hb h0=>hV i h2 e _ (mem_gl.2 ⟨b,hb,h0,rfl⟩)) (hpc i h1 h2 e) (fun n g1 g2=>?_) (fun b hb h0 hg=>?_) (fun n hg=>hmem i n hg) ha.fl.mid.ml
   ·have a1:=ha.fl.mid.mrk n g1 g2
    rw [a1,← hfi]
    have b1:=mem_split (f:=sett f nn f') nn hn g1
    have b2:=mem_split (f:=sett f nn f') i h2 g1
    rw [sett_at,hoth] at b1
    exact b1.symm.trans b2
   ·obtain ⟨j,hj,hji,hm⟩:=mem_oth.1 hg
    by_cases e2:j=nn
    ·subst e2
     rw [sett_at] at hm
     obtain ⟨b',hb',h0',e3⟩:=mem_gl.1 hm
     exact ha.fl.mid.oth b' hb' h0' (mem_oth.2 ⟨i,h2,e,by rw [e3];exact mem_gl.2 ⟨b,hb,h0,rfl⟩⟩)
    ·rw [sett_ne f f' e2] at hm
     exact h.apart h2 hj (Ne.symm hji) (mem_gl.2 ⟨b,hb,h0,rfl⟩) hm
 ·have e:i≠nn:=fun e=>by
   subst e
   rw [sett_at] at h2
   rcases h2 with h2 | h2
   ·omega
   ·exact hk' h2
  rw [sett_ne y y' e] at h2
  rw [sett_ne f f' e]
  exact h.no i h1 h2
 ·by_cases e:i=nn
  ·subst e
   rw [sett_at]
   exact ⟨ha.fl.nod,ha.fl.ok⟩
  ·rw [sett_ne y y' e]
   exact ⟨hpc i h1 h2 e,(h.img i h1 h2).2⟩
 ·by_cases e:j=nn / 4
  ·rw [e,ha.nd]
   exact D.put_len (h.len _ (by omega)) (Nat.mod_lt _ (by omega)) (D.Nn.img_len _)
  ·rw [hlow _ (by omega) (by omega) (by omega)]
   exact h.len j hj
 ·by_cases e:1=nn
  ·subst e;rw [sett_at];exact hk'
  ·rw [sett_ne y y' e];exact h.root
 ·rw [hlow 0 (by omega) (by omega) (by omega)]
  exact h.sup
theorem Nds.one {g':Nat} (h:Nds N ep g V y f C) (hn1:1≤nn) (hn:nn<32) (hV0:V' 0=U.sec N ep g') (hok:U.ok N ep g'=true) (hVn:V' (35+nn / 4)=D.put (V (35+nn / 4)) (nn % 4) z.img) (hVo:∀ k,k≠0→k≠35+nn / 4→V' k=V k)
  (hzok:z.up.ok=true) (hroot:nn=1→z.k≠0) (hz0:z.k=0→f nn=fun _=>0) (hfl:z.k≠0→Fl N (GL (oth f nn)) V' nn z (f nn) C'):Nds N ep g' V' (sett y nn z) f (sett C nn C'):=by
 have hpc:∀ i,1≤i→i<32→i≠nn→D.piece (V' (35+i / 4)) (i % 4)=(y i).img:=fun i h1 h2 h3=>by
  by_cases e:i / 4=nn / 4
  ·rw [e,hVn,D.piece_put_ne (h.len _ (by omega)) (Nat.mod_lt _ (by omega)) (Nat.mod_lt _ (by omega)) (D.Nn.img_len _) (by omega),← e]
   exact (h.img i h1 h2).1
  ·rw [hVo _ (by omega) (by omega)]
   exact (h.img i h1 h2).1
 refine ⟨fun i h1 h2 h3=>?_,fun i h1 h2=>?_,fun i h1 h2=>?_,fun j hj=>?_,?_,hV0,hok⟩
 ·by_cases e:i=nn
  ·subst e
   rw [sett_at] at h3 ⊢
   rw [sett_at]
   exact hfl h3
  ·rw [sett_ne y z e] at h3 ⊢
   rw [sett_ne C C' e]
   have ho:=h.fl i h1 h2 h3
   exact ho.frame (fun b hb h0=>by have:=ho.mid.rng b hb;exact hVo _ (by omega) (by omega)) (hpc i h1 h2 e) (by rw [hVo 34 (by omega) (by omega)];exact ho.mid.mrk) ho.mid.oth ho.mid.grng (by rw [hVo 34 (by omega) (by omega)];exact ho.mid.ml)
 ·by_cases e:i=nn
  ·subst e
   rw [sett_at] at h2
   exact hz0 (h2.resolve_left (by omega))
  ·rw [sett_ne y z e] at h2
   exact h.no i h1 h2
 ·by_cases e:i=nn
  ·subst e
   rw [sett_at,hVn]
   exact ⟨D.piece_put (h.len _ (by omega)) (Nat.mod_lt _ (by omega)) (D.Nn.img_len _),hzok⟩
  ·rw [sett_ne y z e]
   exact ⟨hpc i h1 h2 e,(h.img i h1 h2).2⟩
 ·by_cases e:j=nn / 4
  ·rw [e,hVn]
   exact D.put_len (h.len _ (by omega)) (Nat.mod_lt _ (by omega)) (D.Nn.img_len _)
  ·rw [hVo _ (by omega) (by omega)]
   exact h.len j hj
 ·by_cases e:1=nn
  ·subst e;rw [sett_at];exact hroot rfl
  ·rw [sett_ne y z e];exact h.root
theorem Nds.set {g':Nat} (h:Nds N ep g V y f C) (hn1:1≤nn) (hn:nn<32) (hV0:V' 0=U.sec N ep g') (hok:U.ok N ep g'=true) (hVn:V' (35+nn / 4)=D.put (V (35+nn / 4)) (nn % 4) z.img) (hVo:∀ k,k≠0→k≠35+nn / 4→V' k=V k)
  (hzok:z.up.ok=true) (hk:z.k=(y nn).k) (hk0:z.k≠0) (hp:∀ i,i<6→z.ptr6 i=(y nn).ptr6 i) (hs:z.s=(y nn).s):Nds N ep g' V' (sett y nn z) f C:=by
 have ho:=h.fl nn hn1 hn (by rw [← hk];exact hk0)
 have:=h.one (C':=C nn) hn1 hn hV0 hok hVn hVo hzok (fun _=>hk0) (fun e=>absurd e hk0) fun _=>by
  have hm:=ho.mid
  have hV:∀ i,i<86→f nn i≠0→V' (f nn i)=V (f nn i):=fun i hi h0=>by have:=hm.rng i hi;exact hVo _ (by omega) (by omega)
  have e34:=hVo 34 (by omega) (by omega)
  refine ⟨⟨⟨fun i hi=>(hp i hi).trans (hm.rep.top i hi),fun p hp h0=>?_,hm.rep.none_⟩,hm.rng,hm.inj,by rw [e34];exact hm.mrk,hm.oth,hm.grng,by rw [e34];exact hm.ml,hm.n1⟩,⟨fun b hb h0=>?_,ho.con.no⟩,?_,hzok,by rw [hk];exact ho.kind,by rw [hs];exact ho.zero,by rw [hs];exact ho.few,ho.min⟩
  ·rw [hV p (px_lt hp) h0];exact hm.rep.some_ p hp h0
  ·rw [hV _ (ixb_lt hb) h0];exact ho.con.yes b hb h0
  ·rw [hVn,D.piece_put (h.len _ (by omega)) (Nat.mod_lt _ (by omega)) (D.Nn.img_len _)]
 rw [sett_self] at this
 exact this
theorem Nds.fresh {g':Nat} (h:Nds N ep g V y f C) (hn1:1≤nn) (hn:nn<32) (hV0:V' 0=U.sec N ep g') (hok:U.ok N ep g'=true) (hVn:V' (35+nn / 4)=D.put (V (35+nn / 4)) (nn % 4) z.img) (hVo:∀ k,k≠0→k≠35+nn / 4→V' k=V k)
  (hzok:z.up.ok=true) (hroot:nn=1→z.k≠0) (hf:f nn=fun _=>0) (hp:∀ i,i<6→z.ptr6 i=0) (hs:z.s=0):Nds N ep g' V' (sett y nn z) f (sett C nn fun _=>0):=by
 have e34:=hVo 34 (by omega) (by omega)
 refine h.one hn1 hn hV0 hok hVn hVo hzok hroot (fun _=>hf) fun hk=>?_
 rw [hf]
 refine fl_new hp hs (by
  obtain ⟨_,_,h3⟩:=D.Nd.ok_iff.1 hzok
  unfold D.Nd.kind at h3
  have a3:=of_decide_eq_true h3
  simp only [D.Nn.up] at a3
  omega) hzok (by rw [hVn];exact D.piece_put (h.len _ (by omega)) (Nat.mod_lt _ (by omega)) (D.Nn.img_len _)) (fun n h1 h2=>?_) (fun n hn=>h.grng hn) (by rw [e34];exact h.ml) h.n1
 rw [e34,h.marks h1 h2,mem_split nn hn h1,hf]
 constructor
 ·rintro (⟨b,_,e⟩ | h)
  ·have e:0=n:=e
   omega
  ·exact h
 ·exact .inr
end
end Go.Proofs.YtkganhafbjgndaaGreatRR.V
namespace Go.Proofs.YtkganhafbjgndaaGreatRR.V
open Go.RowKit
set_option linter.unusedVariables false
set_option maxRecDepth 20000
def nfree (g c:Nat):D.Nn:=⟨0,0,g,0,c,0,0,0,0,0,0⟩
theorem nfree_ok {g c:Nat} (hg:g≤1073741824) (hc:c≤1073741824):(nfree g c).up.ok=true:=by
 rw [D.Nd.ok_iff]
 refine ⟨?_,rfl,?_⟩
 ·unfold D.Nd.nums
  rw [decide_eq_true_eq]
  show 0≤(g:Int)∧(g:Int)≤1073741824∧0≤(c:Int)∧(c:Int)≤1073741824
  omega
 ·unfold D.Nd.kind;rw [decide_eq_true_eq];left;exact ⟨rfl,rfl,rfl,rfl⟩
theorem ptr6_nnc (k g c i:Nat) (hi:i<6):(nnc k g c).ptr6 i=0:=by
 match i,hi with | 0,_=>rfl | 1,_=>rfl | 2,_=>rfl | 3,_=>rfl | 4,_=>rfl | 5,_=>rfl
theorem ptr6_nfree (g c i:Nat) (hi:i<6):(nfree g c).ptr6 i=0:=by
 match i,hi with | 0,_=>rfl | 1,_=>rfl | 2,_=>rfl | 3,_=>rfl | 4,_=>rfl | 5,_=>rfl
section
variable {w0 w w1 w2 w':World} {p d N q bf nn ep g t:Nat} {O:List Nat} {s:DS} {X:Secs2} {m m':List Wr} {y:Nat→D.Nn} {f:Nat→Nat→Nat} {C:Nat→Nat→UInt8} {y' z:D.Nn} {f':Nat→Nat} {C':Nat→UInt8} {low:List Int} {Tx gs:List Nat} {V V':Img}
theorem Nds.nodes (h:Nds N ep g (view X m) y f C):NodesAre X m y 31:=fun i h1 h2=>h.img i h1 (by omega)
theorem Nds.node (h:Nds N ep g (view X m) y f C) (hs:Sto w0 w p d O N s X q m) {i:Nat} (h1:1≤i) (h2:i<32):Calls Tryz.prog 30 #[.pointer (some ⟨p,0,none⟩),.int .i64 i] w (NodeR w (y i)) :=
 node_img hs h2 (h.img i h1 h2).1 (h.img i h1 h2).2
theorem view_nw (X:Secs2) (m:List Wr) (a b:List UInt8) (t n:Nat):view X (insAll [(0,a),(((35+t / 4:Nat):Int),b)] m) n=if 35+t / 4=n then b else if 0=n then a else view X m n:=by
 show view X (ins ((35+t / 4:Nat):Int) _ (ins ((0:Nat):Int) _ m)) n=_
 rw [view_ins',view_ins']
def NewF (w0 w:World) (p d N q ep g t k:Nat) (O:List Nat) (s:DS) (X:Secs2) (m:List Wr) (y:Nat→D.Nn) (f:Nat→Nat→Nat) (C:Nat→Nat→UInt8) (e:Ending) (w':World):Prop :=
 e=.returned (.tuple #[.int .i64 (t:Int),.int .i64 0])∧∃ m',Sto w0 w' p d O N s X q m'∧Nds N ep (g+1) (view X m') (sett y t (nnc k (g+1) (min ((y t).c+1) 1073741824))) f (sett C t fun _=>0) ∧
  (∀ x∈keys m',x=((35+t / 4:Nat):Int)∨x=0∨x∈keys m)∧Chg [q] w w'
theorem Nds.new (h:Nds N ep g (view X m) y f C) (hs:Sto w0 w p d O N s X q m) (hg:g<1073741824) {k:Nat} (hk:k=1∨k=2) (h1:1≤t) (h2:t<32) (hz:∀ i,1≤i→i<t→(y i).k≠0) (h0:(y t).k=0) (hr:m.length≤22) :
  Calls Tryz.prog 24 #[.pointer (some ⟨p,0,none⟩),.int .i64 k] w (NewF w0 w p d N q ep g t k O s X m y f C):=by
 have hN1:=hs.n1
 have h64:=hs.n64
 have ho:=U.ok_iff.1 h.sok
 have hok':U.ok N ep ((g+1:Nat):Int)=true:=U.ok_iff.2 (by omega)
 have hck:min ((y t).c+1) 1073741824≤1073741824:=Nat.min_le_right _ _
 refine (new_at hs h.sup h.sok hg hk h1 h2 (fun i a b=>h.nodes i a (by omega)) hz h0 rfl ⟨hs.mok,fun r hr=>?_,?_⟩).mono ?_
 ·rcases List.mem_cons.1 hr with rfl | hr
  ·exact ⟨okn_of hN1 (n:=0) (by omega) (by unfold inLog;omega),by simp;omega,lt_sec (by exact hok')⟩
  ·rcases List.mem_cons.1 hr with rfl | hr
   ·exact ⟨okn_of hN1 (n:=35+t / 4) (by omega) (by unfold inLog;omega),by show ((35+t / 4:Nat):Int)<(N:Int);omega,putN_len hs h2 _⟩
   ·exact absurd hr (by simp)
 ·have a:=newk_le_len m [((0:Int),U.sec N ep (g+1)),(((35+t / 4:Nat):Int),putN X m t (nnc k (g+1) (min ((y t).c+1) 1073741824)))]
  simp only [List.length_cons,List.length_nil] at a
  exact Nat.le_trans (Nat.add_le_add_left a _) (by omega)
 ·rintro e w' ⟨rfl,h3,h4⟩
  refine ⟨rfl,_,h3,h.fresh h1 h2 ?_ hok' ?_ (fun n a b=>?_) (nnc_ok hk (by omega) hck) (fun _=>by show k≠0;omega) (h.no t h2 (.inr h0)) (ptr6_nnc _ _ _) rfl,fun x hx=>?_,h4⟩
  ·rw [view_nw,if_neg (by omega),if_pos rfl]
  ·rw [view_nw,if_pos rfl];rfl
  ·rw [view_nw,if_neg (Ne.symm b),if_neg (Ne.symm a)]
  ·rcases mem_keys_ins hx with h | h
   ·exact .inl h
   ·rcases mem_keys_ins h with h | h
    ·exact .inr (.inl h)
    ·exact .inr (.inr h)
def SetF (w0 w:World) (p d N q ep g nn:Nat) (O:List Nat) (s:DS) (X:Secs2) (m:List Wr) (y:Nat→D.Nn) (f:Nat→Nat→Nat) (C:Nat→Nat→UInt8) (e:Ending) (w':World):Prop :=
 e=.returned (.int .i64 0)∧∃ m',Sto w0 w' p d O N s X q m'∧Nds N ep g (view X m') y f C∧(∀ x∈keys m',x=((35+nn / 4:Nat):Int)∨x∈keys m)∧Chg [q] w w'
theorem view_put {k:Nat} (X:Secs2) (m:List Wr) (x:List UInt8) (n:Nat):view X (ins (k:Int) x m) n=if k=n then x else view X m n:=view_ins X m k x n
theorem Nds.setNode (h:Nds N ep g (view X m) y f C) (hs:Sto w0 w p d O N s X q m) (hn1:1≤nn) (hn:nn<32) (hzok:z.up.ok=true) (hk:z.k=(y nn).k) (hk0:z.k≠0) (hp:∀ i,i<6→z.ptr6 i=(y nn).ptr6 i) (hsz:z.s=(y nn).s) (hr:find m ((35+nn / 4:Nat):Int)≠none∨m.length<24) :
  Calls Tryz.prog 71 #[.pointer (some ⟨p,0,none⟩),.int .i64 nn,.agg (D.nc z.up).toArray] w (SetF w0 w p d N q ep g nn O s X m (sett y nn z) f C):=by
 refine (setNode_yes hs hn z hzok hr).mono ?_
 rintro e w' ⟨rfl,h3,h4⟩
 refine ⟨rfl,_,h3,h.set hn1 hn ?_ h.sok ?_ (fun n a b=>?_) hzok hk hk0 hp hsz,fun x hx=>mem_keys_ins hx,h4⟩
 ·rw [view_put,if_neg (by omega)];exact h.sup
 ·rw [view_put,if_pos rfl];rfl
 ·rw [view_put,if_neg (Ne.symm b)]
theorem Nds.setGone (h:Nds N ep g (view X m) y f C) (hs:Sto w0 w p d O N s X q m) (hn1:1<nn) (hn:nn<32) {g' c':Nat} (hg:g'≤1073741824) (hc:c'≤1073741824) (hf:f nn=fun _=>0) (hr:find m ((35+nn / 4:Nat):Int)≠none∨m.length<24) :
  Calls Tryz.prog 71 #[.pointer (some ⟨p,0,none⟩),.int .i64 nn,.agg (D.nc (nfree g' c').up).toArray] w (SetF w0 w p d N q ep g nn O s X m (sett y nn (nfree g' c')) f (sett C nn fun _=>0)):=by
 refine (setNode_yes hs hn (nfree g' c') (nfree_ok hg hc) hr).mono ?_
 rintro e w' ⟨rfl,h3,h4⟩
 refine ⟨rfl,_,h3,h.fresh (by omega) hn ?_ h.sok ?_ (fun n a b=>?_) (nfree_ok hg hc) (fun e=>by omega) hf (ptr6_nfree _ _) rfl,fun x hx=>mem_keys_ins hx,h4⟩
 ·rw [view_put,if_neg (by omega)];exact h.sup
 ·rw [view_put,if_pos rfl];rfl
 ·rw [view_put,if_neg (Ne.symm b)]
theorem Nds.newFull (h:Nds N ep g (view X m) y f C) (hs:Sto w0 w p d O N s X q m) {k:Nat} (hk:k=1∨k=2) (hz:∀ i:Nat,1≤i→i<32→(y i).k≠0):Calls Tryz.prog 24 #[.pointer (some ⟨p,0,none⟩),.int .i64 k] w fun e w'=>e=.returned (.tuple #[.int .i64 0,.int .i64 9])∧Below w.heap.size w w' :=
 new_full hs hk h.nodes hz
theorem Nds.write (h:Nds N ep g (view X m) y f C) (hs:Sto w0 w p d O N s X q m) {a n c:Nat} {A:Option Addr} {l:List UInt8} {M:Nat→Prop} (hn1:1≤nn) (hnn:nn<32) (hk:(y nn).k≠0) (hbud:Bud low Tx m (f nn)) (h35:((35+nn / 4:Nat):Int)∈low) (hn:0<n) (han:a+n≤9728) (hd:Bts w M A n c l) (hM:∀ b,M b→b<w.heap.size∧b≠q)
  (hx:∀ j,j<T.np a n→∀ i∈path (nb a j),i∈Tx) (h32:(y nn).k=2→max (y nn).s (a+n) % 32=0) :
  Calls Tryz.prog 17 #[.pointer (some ⟨p,0,none⟩),.int .i64 nn,.int .i64 (a:Int),.slice A n c] w fun e w' =>
   (e=.returned (.int .i64 0)∧∃ m' y' f',Sto w0 w' p d O N s X q m'∧Nds N ep g (view X m') (sett y nn y') (sett f nn f') (sett C nn (ovr (C nn) a l n))∧y'.s=max (y nn).s (a+n)∧Kp (y nn) y'∧(∀ i,f' i≠0 ↔ f nn i≠0∨∃ b,Tch a n b∧i∈path b)∧Bud low Tx m' f'∧Chg [q] w w') ∨
   (e=.returned (.int .i64 10)∧(∃ bf m2,FNo w0 w' p d N q bf nn O s X m2 (GL (oth f nn)) (f nn) low Tx a n)∧Chg [q] w w'):=by
 refine (write_yes hs (h.fl nn hn1 hnn hk) hnn hbud h35 hn han hd hM hx h32).mono ?_
 rintro e w' (⟨rfl,m',y',f',haft,hsz,hext,hnew,hall,hkp⟩ | ⟨rfl,h1,h2⟩)
 ·exact .inl ⟨rfl,m',y',f',haft.sto,h.aft hn1 hnn hk hs.n64 haft (by rw [hkp.1];exact hk),hsz,hkp,fun i=>write_nz haft.fl.mid hn han hext hnew hall i,haft.bud,haft.chg⟩
 ·exact .inr ⟨rfl,h1,h2⟩
end
theorem view_sup (X:Secs2) (x:List UInt8) {n:Nat} (hn:0<n):view X [((0:Int),x)] n=X[n]?.getD []:=by
 unfold view
 rw [find_none_iff.2 fun p hp=>by simp at hp;subst hp;simp;omega]
 rfl
theorem Xb_nd {N n:Nat} (hN:64≤N) (hN1:N≤1024) (h1:36≤n) (h2:n<43):(Xb N)[n]?.getD []=zeros:=by
 have hm:=MOk.one hN hN1 (U.ok_iff.2 (by omega):U.ok N ((1:Nat):Int) ((0:Nat):Int)=true)
 have e1:(Xb N)[n]?.getD []=view (X1 N) [(0,U.sec N 1 0)] n:=lay_getD (X1_len N) hm (by omega)
 have e2:view (X1 N) [(0,U.sec N 1 0)] n=(X1 N)[n]?.getD []:=view_sup _ _ (by omega)
 have e3:(X1 N)[n]?.getD []=view (X0 N) (fillM N (X0 N)) n:=lay_getD (X0_len N) (MOk.fill hN hN1) (by omega)
 rw [e1,e2,e3,view_fill,if_neg (by omega),if_neg (by omega),if_neg (by omega),if_neg (by omega),if_pos ⟨h1,h2⟩]
def y0:Nat→D.Nn:=fun i=>if i=1 then rootN else D.zeroN
theorem root_piece {i:Nat} (hi:i<4) (h1:i≠1):D.piece root0 i=D.zeroN.img:=by
 unfold root0
 rw [D.piece_put_ne zeros_len (by omega) hi rootN.img_len (Ne.symm h1)]
 match i,hi with
 | 0,_=>decide +kernel
 | 1,_=>exact absurd rfl h1
 | 2,_=>decide +kernel
 | 3,_=>decide +kernel
theorem zero_piece {i:Nat} (hi:i<4):D.piece zeros i=D.zeroN.img:=by
 match i,hi with
 | 0,_=>decide +kernel
 | 1,_=>decide +kernel
 | 2,_=>decide +kernel
 | 3,_=>decide +kernel
theorem begin_nds {N:Nat} (hN:64≤N) (hN1:N≤1024):Nds N 1 0 (view (Xb N) []) y0 (fun _ _=>0) (fun _ _=>0):=by
 have hs:=Xb_std hN hN1
 have e34:view (Xb N) [] 34=markL 43:=by rw [view_nil];exact hs.mark
 have e35:view (Xb N) [] 35=root0:=by rw [view_nil];exact hs.nd
 have hnd:∀ j,1≤j→j<8→view (Xb N) [] (35+j)=zeros:=fun j h1 h2=>by rw [view_nil];exact Xb_nd hN hN1 (by omega) (by omega)
 have ho:oth (fun _ _=>0) 1=[]:=List.eq_nil_iff_forall_not_mem.2 fun n hn=>by
  obtain ⟨j,_,_,hm⟩:=mem_oth.1 hn
  rw [gl_zero] at hm
  exact absurd hm (by simp)
 have himg:∀ i,1≤i→i<32→D.piece (view (Xb N) [] (35+i / 4)) (i % 4)=(y0 i).img∧(y0 i).up.ok=true:=fun i h1 h2=>by
  unfold y0
  by_cases e:i=1
  ·subst e
   rw [if_pos rfl]
   exact ⟨by rw [show 35+1 / 4=35 from rfl,e35];exact root_piece1,root_ok⟩
  ·rw [if_neg e]
   refine ⟨?_,zeroN_ok⟩
   by_cases e4:i<4
   ·rw [show 35+i / 4=35 by omega,e35]
    exact root_piece (Nat.mod_lt _ (by omega)) (by omega)
   ·rw [hnd _ (by omega) (by omega)]
    exact zero_piece (Nat.mod_lt _ (by omega))
 refine ⟨fun i h1 h2 h3=>?_,fun _ _ _=>rfl,himg,fun j hj=>?_,by decide,by rw [view_nil];exact hs.sup,U.ok_iff.2 (by omega)⟩
 ·have e:i=1:=by
   refine Decidable.byContradiction fun e=>h3 ?_
   unfold y0
   rw [if_neg e]
   rfl
  subst e
  rw [ho]
  refine fl_new (fun i hi=>?_) rfl (.inr rfl) root_ok (himg 1 (by omega) (by omega)).1 (fun n a b=>?_) (fun n h=>absurd h (by simp [GL])) (by rw [e34];exact markL_len 43) hN1
  ·match i,hi with | 0,_=>rfl | 1,_=>rfl | 2,_=>rfl | 3,_=>rfl | 4,_=>rfl | 5,_=>rfl
  ·rw [e34,bt_markL (by omega)]
   simp [GL];omega
 ·by_cases e:j=0
  ·subst e
   rw [show 35+0=35 from rfl,e35]
   exact D.put_len zeros_len (by omega) rootN.img_len
  ·rw [hnd j (by omega) hj]
   exact zeros_len
end Go.Proofs.YtkganhafbjgndaaGreatRR.V
namespace Go.Proofs.YtkganhafbjgndaaGreatRR.V
open Go.RowKit
set_option linter.unusedVariables false
set_option maxRecDepth 20000
def blkT (x:N.Nod):Nat→Bool:=fun b=>if x.k=2 then decide (128 * b<32 * x.rows.length) else x.blk b
def datT (x:N.Nod):List UInt8:=if x.k=2 then N.encs x.rows else x.dat
structure LikeN (x:N.Nod) (y:D.Nn) (f:Nat→Nat) (C:Nat→UInt8):Prop where
 k:y.k=x.k
 l:y.l=x.l
 g:y.g=x.g
 c:y.c=x.c
 s:y.s=N.sizeT x
 dat:byt C 0 y.s=datT x
 blk:∀ b,b<76→(blkT x b=true ↔ f (ixb b)≠0)
def Like (t:N.Tr) (y:Nat→D.Nn) (f:Nat→Nat→Nat) (C:Nat→Nat→UInt8):Prop:=∀ n,1≤n→n<32→LikeN (t.nd n) (y n) (f n) (C n)
def secsT (t:N.Tr):Nat:=((List.range 32).map fun n=>if n=0∨(t.nd n).k=0 then 0 else sct (blkT (t.nd n))).sum
theorem tot_secs {Ns ep g:Nat} {V:Img} {y:Nat→D.Nn} {f:Nat→Nat→Nat} {C:Nat→Nat→UInt8} {t:N.Tr} (h:Nds Ns ep g V y f C) (hl:Like t y f C):tot f=secsT t:=by
 unfold tot secsT
 congr 1
 refine List.map_congr_left fun n hn=>?_
 have hn:=List.mem_range.1 hn
 by_cases h0:n=0∨(t.nd n).k=0
 ·rw [if_pos h0]
  rw [h.no n hn (by
   rcases h0 with e | e
   ·exact .inl e
   ·by_cases e0:n=0
    ·exact .inl e0
    ·exact .inr (by rw [(hl n (by omega) hn).k];exact e)),nzn_zero]
 ·rw [if_neg h0]
  have hb:=hl n (by omega) hn
  have hf:=h.fl n (by omega) hn (by rw [hb.k];exact fun e=>h0 (.inr e))
  exact (sct_nzn hf.mid hf.min hb.blk).symm
theorem Like.put {t:N.Tr} {y:Nat→D.Nn} {f:Nat→Nat→Nat} {C:Nat→Nat→UInt8} (h:Like t y f C) {n:Nat} {x:N.Nod} {y':D.Nn} {f':Nat→Nat} {C':Nat→UInt8} (hx:LikeN x y' f' C'):Like (t.put n x) (sett y n y') (sett f n f') (sett C n C'):=fun j h1 h2=>by
 by_cases e:j=n
 ·subst e
  rw [N.nd_at,sett_at,sett_at,sett_at]
  exact hx
 ·rw [N.nd_ne e,sett_ne y y' e,sett_ne f f' e,sett_ne C C' e]
  exact h j h1 h2
theorem byt_at (C:Nat→UInt8) (s i:Nat):(byt C 0 s)[i]?=if i<s then some (C i) else none:=by
 unfold byt
 rw [List.getElem?_map]
 by_cases h:i<s
 ·rw [List.getElem?_range h,if_pos h]
  simp
 ·rw [if_neg h,List.getElem?_eq_none (by simpa using h)]
  rfl
theorem ixb_in (b:Nat):ixb b∈path b:=by
 unfold ixb path
 split
 ·simp
 ·split<;>simp
theorem LikeN.entry {x:N.Nod} {y y':D.Nn} {f f':Nat→Nat} {C:Nat→UInt8} (h:LikeN x y f C) (hk:x.k=2) {i:Nat} {r:N.Rw} (hi:i≤x.rows.length) (hlen:∀ r∈x.rows,(N.encR r).length=32) (hr:(N.encR r).length=32) (hs:y'.s=max y.s (32 * i+32)) (hkp:Kp y y')
  (hf:∀ j,f' j≠0 ↔ f j≠0∨∃ b,Tch (32 * i) 32 b∧j∈path b):LikeN { x with rows:=N.puts x.rows i r,c:=N.more x.c } y' f' (ovr C (32 * i) (N.encR r) 32):=by
 have hy:y.s=32 * x.rows.length:=by rw [h.s];exact if_pos hk
 have hpl:=N.puts_len x.rows i r
 have hs':y'.s=32 * (N.puts x.rows i r).length:=by
  rw [hs,hy,hpl]
  split<;>omega
 have hlen':∀ z∈N.puts x.rows i r,(N.encR z).length=32:=fun z hz=>by
  rcases N.mem_puts hz with e | hz
  ·rw [e];exact hr
  ·exact hlen z hz
 have hd:byt C 0 y.s=N.encs x.rows:=h.dat.trans (if_pos hk)
 refine ⟨hkp.1.trans h.k,hkp.2.1.trans h.l,hkp.2.2.1.trans h.g,?_,hs'.trans (show _=N.sizeT _ from (if_pos hk).symm),?_,fun b hb=>?_⟩
 ·rw [hkp.2.2.2,h.c];rfl
 ·show byt _ 0 y'.s=datT _
  rw [show datT { x with rows:=N.puts x.rows i r,c:=N.more x.c }=N.encs (N.puts x.rows i r) from if_pos hk]
  apply List.ext_getElem?
  intro a
  obtain ⟨k,j,hj,rfl⟩:∃ k j,j<32∧a=32 * k+j:=⟨a / 32,a % 32,Nat.mod_lt _ (by omega),by omega⟩
  rw [byt_at,N.encs_get hlen' k j hj,N.puts_get _ _ hi]
  by_cases e:k=i
  ·subst e
   have h1:32 * k+j<y'.s:=by rw [hs];omega
   have h2:32 * k≤32 * k+j∧32 * k+j<32 * k+32:=by omega
   rw [if_pos h1,if_pos rfl]
   show some (ovr C (32 * k) (N.encR r) 32 (32 * k+j))=(N.encR r)[j]?
   unfold ovr
   rw [if_pos h2,show 32 * k+j - 32 * k=j by omega,List.getElem?_eq_getElem (by rw [hr];exact hj)]
   rfl
  ·have h2:¬ (32 * i≤32 * k+j∧32 * k+j<32 * i+32):=by omega
   have h3:(byt C 0 y.s)[32 * k+j]?=(N.encs x.rows)[32 * k+j]?:=by rw [hd]
   rw [byt_at,N.encs_get hlen k j hj] at h3
   rw [if_neg e,← h3]
   unfold ovr
   rw [if_neg h2]
   by_cases h4:32 * k+j<y.s
   ·rw [if_pos h4,if_pos (by rw [hs];omega)]
   ·rw [if_neg h4,if_neg (by rw [hs,hy] at *;omega)]
 ·have ho:=h.blk b hb
  have e1:blkT x b=decide (128 * b<32 * x.rows.length):=if_pos hk
  have e2:blkT { x with rows:=N.puts x.rows i r,c:=N.more x.c } b=decide (128 * b<32 * (N.puts x.rows i r).length):=if_pos hk
  rw [e1,decide_eq_true_eq] at ho
  rw [e2,decide_eq_true_eq,hf,← ho,hpl]
  have ht:(∃ b',Tch (32 * i) 32 b'∧ixb b∈path b') ↔ (32 * i≤128 * b+127∧128 * b<32 * i+32):=by
   constructor
   ·rintro ⟨b',⟨t1,t2,t3⟩,hp⟩
    obtain rfl:=ixb_path hb t1 hp
    exact ⟨t2,t3⟩
   ·rintro ⟨t2,t3⟩
    exact ⟨b,⟨hb,t2,t3⟩,ixb_in b⟩
  rw [ht]
  split<;>omega
theorem likeN_new {k g c:Nat} (hk:k=1∨k=2):LikeN ⟨k,1,g,c,[],[],fun _=>false⟩ (nnc k g c) (fun _=>0) (fun _=>0):=by
 refine ⟨rfl,rfl,rfl,rfl,?_,?_,fun b _=>?_⟩
 ·show 0=N.sizeT _
  unfold N.sizeT
  split<;>rfl
 ·show []=datT _
  unfold datT
  split<;>rfl
 ·unfold blkT
  split<;>simp
theorem likeN_free {g c:Nat} {C:Nat→UInt8}:LikeN ⟨0,0,g,c,[],[],fun _=>false⟩ (nfree g c) (fun _=>0) C :=
 ⟨rfl,rfl,rfl,rfl,rfl,rfl,fun b _=>by simp [blkT]⟩
theorem LikeN.write {x:N.Nod} {y y':D.Nn} {f f':Nat→Nat} {C C':Nat→UInt8} (h:LikeN x y f C) (hk:x.k=1) {l:List UInt8} {bk:Nat→Bool} (hs:y'.s=l.length) (hkp:Kp y y') (hd:byt C' 0 y'.s=l) (hb:∀ b,b<76→(bk b=true ↔ f' (ixb b)≠0)) :
  LikeN { x with dat:=l,blk:=bk,c:=N.more x.c } y' f' C':=by
 have h2:¬ x.k=2:=by omega
 refine ⟨hkp.1.trans h.k,hkp.2.1.trans h.l,hkp.2.2.1.trans h.g,?_,hs.trans (show _=N.sizeT _ from (if_neg h2).symm),hd.trans (show _=datT _ from (if_neg h2).symm),fun b hb'=>?_⟩
 ·rw [hkp.2.2.2,h.c];rfl
 ·rw [show blkT { x with dat:=l,blk:=bk,c:=N.more x.c } b=bk b from if_neg h2]
  exact hb b hb'
theorem like0:Like N.tr0 y0 (fun _ _=>0) (fun _ _=>0):=fun n h1 h2=>by
 by_cases e:n=1
 ·subst e
  exact ⟨rfl,rfl,rfl,rfl,rfl,rfl,fun b _=>by
   show decide (128 * b<32 * 0)=true ↔ _
   simp⟩
 ·have e1:y0 n=D.zeroN:=if_neg e
  have e2:N.tr0.nd n=N.none_:=if_neg e
  rw [e1,e2]
  exact ⟨rfl,rfl,rfl,rfl,rfl,rfl,fun b _=>by simp [blkT,N.none_]⟩
end Go.Proofs.YtkganhafbjgndaaGreatRR.V
namespace Go.Proofs.YtkganhafbjgndaaGreatRR.V
open Go.RowKit
set_option linter.unusedVariables false
set_option maxRecDepth 20000
theorem wrG_bl {f f':Nat→Nat} {g:Nat→Bool} {a n:Nat} (hn:0<n) (h:∀ b,b<76→(g b=true ↔ f (ixb b)≠0)) (hz:∀ i,f' i≠0 ↔ f i≠0∨∃ b,Tch a n b∧i∈path b):∀ b,b<76→(wrG g a n ((a+n - 1) / 128+1 - a / 128) b=true ↔ f' (ixb b)≠0):=fun b hb=>by
 rw [hz,← h b hb]
 unfold wrG
 rw [Bool.or_eq_true,Bool.and_eq_true,decide_eq_true_eq,decide_eq_true_eq]
 constructor
 ·rintro (h1 | ⟨h1,h2⟩)
  ·exact .inl h1
  ·exact .inr ⟨b,⟨hb,by omega,by omega⟩,path_last b⟩
 ·rintro (h1 | ⟨b',⟨h1,h2,h3⟩,h4⟩)
  ·exact .inl h1
  ·obtain rfl:=ixb_path hb h1 h4
   exact .inr ⟨by omega,by omega⟩
theorem sct_path {f:Nat→Nat} {g:Nat→Bool} (h:∀ b i,b<76→f (ixb b)≠0→i∈path b→f i≠0) (hmin:∀ p,isPx p→f p≠0→∃ j,j<8∧f (kid p j)≠0) (hg:∀ b,b<76→(g b=true ↔ f (ixb b)≠0)):sct g=nzn f:=by
 have hlen:nzn f=(((List.range 76).filter g).map ixb++(((List.range 8).filter (twoF g 76)).map (14+·)++((if oneF g 76 then [4] else [])++(if anyT (twoF g 76) 8 then [5] else [])))).length:=by
  refine nzn_perm ?_ fun i=>?_
  ·rw [List.nodup_append,List.nodup_append,List.nodup_append]
   refine ⟨?_,⟨?_,⟨?_,?_,?_⟩,?_⟩,?_⟩
   ·exact List.pairwise_map.2 (List.Pairwise.imp (fun hne e=>hne (ixb_inj e)) (List.nodup_range.filter _))
   ·exact List.pairwise_map.2 (List.Pairwise.imp (fun hne e=>hne (by omega)) (List.nodup_range.filter _))
   ·split<;>simp
   ·split<;>simp
   ·intro a ha b hb e
    split at ha<;>split at hb<;>simp_all
   ·intro a ha b hb e
    obtain ⟨j,hj,rfl⟩:=List.mem_map.1 ha
    rcases List.mem_append.1 hb with hb | hb
    ·split at hb<;>simp at hb;omega
    ·split at hb<;>simp at hb;omega
   ·intro a ha b hb e
    obtain ⟨k,hk,rfl⟩:=List.mem_map.1 ha
    have hk76:=List.mem_range.1 (List.mem_filter.1 hk).1
    have hpx:=ixb_px hk76
    subst e
    apply hpx
    rcases List.mem_append.1 hb with hb | hb
    ·obtain ⟨j,hj,e⟩:=List.mem_map.1 hb
     have:=List.mem_range.1 (List.mem_filter.1 hj).1
     rw [← e];unfold isPx;omega
    ·rcases List.mem_append.1 hb with hb | hb
     ·split at hb<;>simp at hb;rw [hb];exact .inl rfl
     ·split at hb<;>simp at hb;rw [hb];exact .inr (.inl rfl)
  ·rw [List.mem_append,List.mem_append,List.mem_append,List.mem_map,List.mem_map]
   have hsub:∀ j,j<8→(f (14+j)≠0 ↔ twoF g 76 j=true):=fun j hj=>by
    obtain ⟨q1,q2,q3,q4⟩:=px14 hj
    rw [two_iff]
    constructor
    ·intro h0
     obtain ⟨j2,hj2,hn⟩:=hmin (14+j) (by rw [← q4];exact q1) h0
     obtain ⟨r1,r2⟩:=kid_bix q1 q2 hj2
     rw [if_neg q3,q4] at r2
     rw [q4] at r1
     have e:=ixb_bix (kid_lt (q4 ▸ q1) hj2).2 r1
     rw [r2] at e
     exact ⟨12+8 * (14+j - 14)+j2,by omega,e.2,by omega,(hg _ e.2).2 (by rw [e.1];exact hn)⟩
    ·rintro ⟨b,h1,h2,h3,h4⟩
     exact h _ _ h2 ((hg b h2).1 h4) (by unfold path;rw [if_neg (by omega),if_neg (by omega),h3];simp)
   constructor
   ·rintro ⟨hi,h0⟩
    by_cases hp:isPx i
    ·rcases hp with rfl | rfl | ⟨h1,h2⟩
     ·right;right;left
      obtain ⟨j,hj,hn⟩:=hmin 4 (.inl rfl) h0
      rw [kid4] at hn
      have:oneF g 76=true:=one_iff.2 ⟨4+j,by omega,by omega,(hg (4+j) (by omega)).2 (by unfold ixb;rw [if_neg (by omega),if_pos (by omega),show 4+j+2=6+j by omega];exact hn)⟩
      rw [if_pos this];simp
     ·right;right;right
      obtain ⟨j,hj,hn⟩:=hmin 5 (.inr (.inl rfl)) h0
      rw [kid5] at hn
      have:anyT (twoF g 76) 8=true:=anyT_iff.2 ⟨j,hj,(hsub j hj).1 hn⟩
      rw [if_pos this];simp
     ·right;left
      exact ⟨i - 14,List.mem_filter.2 ⟨List.mem_range.2 (by omega),(hsub (i - 14) (by omega)).1 (by rw [show 14+(i - 14)=i by omega];exact h0)⟩,by omega⟩
    ·left
     obtain ⟨e1,e2⟩:=ixb_bix hi hp
     exact ⟨bix i,List.mem_filter.2 ⟨List.mem_range.2 e2,(hg _ e2).2 (by rw [e1];exact h0)⟩,e1⟩
   ·rintro (⟨b,hb,rfl⟩ | ⟨j,hj,rfl⟩ | hb | hb)
    ·obtain ⟨h1,h2⟩:=List.mem_filter.1 hb
     have h1:=List.mem_range.1 h1
     exact ⟨ixb_lt h1,(hg b h1).1 h2⟩
    ·obtain ⟨h1,h2⟩:=List.mem_filter.1 hj
     have h1:=List.mem_range.1 h1
     exact ⟨by show 14+j<86;omega,(hsub j h1).2 h2⟩
    ·split at hb<;>simp at hb
     rename_i ho
     obtain ⟨b,h1,h2,h3⟩:=one_iff.1 ho
     rw [hb]
     exact ⟨by omega,h b _ (by omega) ((hg b (by omega)).1 h3) (by unfold path;rw [if_neg (by omega),if_pos (by omega)];simp)⟩
    ·split at hb<;>simp at hb
     rename_i ho
     obtain ⟨j,hj,h3⟩:=anyT_iff.1 ho
     obtain ⟨b,h1,h2,_,h4⟩:=two_iff.1 h3
     rw [hb]
     exact ⟨by omega,h _ _ h2 ((hg b h2).1 h4) (by unfold path;rw [if_neg (by omega),if_neg (by omega)];simp)⟩
 rw [hlen]
 unfold sct cb ct
 simp only [List.length_append,List.length_map]
 split<;>split<;>simp<;>omega
open Classical in
noncomputable def fW (f:Nat→Nat) (a n:Nat):Nat→Nat:=fun i=>if f i≠0∨∃ b,Tch a n b∧i∈path b then 1 else 0
theorem fW_nz (f:Nat→Nat) (a n i:Nat):fW f a n i≠0 ↔ f i≠0∨∃ b,Tch a n b∧i∈path b:=by
 unfold fW
 split
 ·rename_i h;exact ⟨fun _=>h,fun _=>by omega⟩
 ·rename_i h;exact ⟨fun h0=>absurd rfl h0,fun h0=>absurd h0 h⟩
theorem fW_sct {N:Nat} {G:Nat→Prop} {V:Img} {y:D.Nn} {f:Nat→Nat} {g:Nat→Bool} {a n:Nat} (h:Mid N G V y f) (hmin:∀ p,isPx p→f p≠0→∃ j,j<8∧f (kid p j)≠0) (hg:∀ b,b<76→(g b=true ↔ f (ixb b)≠0)) (hn:0<n) :
  sct (wrG g a n ((a+n - 1) / 128+1 - a / 128))=nzn (fW f a n):=by
 refine sct_path (fun b i hb h0 hi=>?_) (fun p hp h0=>?_) (wrG_bl hn hg (fW_nz f a n))
 ·rw [fW_nz] at h0 ⊢
  rcases h0 with h0 | ⟨b',ht,hb'⟩
  ·exact .inl (path_nz h hb h0 hi)
  ·obtain rfl:=ixb_path hb ht.1 hb'
   exact .inr ⟨b,ht,hi⟩
 ·rw [fW_nz] at h0
  rcases h0 with h0 | ⟨b',ht,hb'⟩
  ·obtain ⟨j,hj,hn⟩:=hmin p hp h0
   exact ⟨j,hj,(fW_nz f a n _).2 (.inl hn)⟩
  ·obtain ⟨j,hj,hn⟩:=path_px ht.1 hp hb'
   exact ⟨j,hj,(fW_nz f a n _).2 (.inr ⟨b',ht,hn⟩)⟩
theorem too_few {w0 w':World} {p d N q bf nn a n:Nat} {O:List Nat} {s:DS} {X:Secs2} {m:List Wr} {gs:List Nat} {V:Img} {y:D.Nn} {f:Nat→Nat} {low:List Int} {Tx:List Nat} {g:Nat→Bool} {G:Nat→Prop} (h:FNo w0 w' p d N q bf nn O s X m (GL gs) f low Tx a n) (hgs:gs.Nodup) (hm:Mid N G V y f)
  (hmin:∀ p,isPx p→f p≠0→∃ j,j<8∧f (kid p j)≠0) (hg:∀ b,b<76→(g b=true ↔ f (ixb b)≠0)) (hn:0<n) (han:a+n≤9728) (h43:64≤N):nzn f+(N - 43 - (nzn f+gs.length))<sct (wrG g a n ((a+n - 1) / 128+1 - a / 128))∧sct g=nzn f:=by
 obtain ⟨fk,h1,h2,⟨j,hj,i,hi,h0⟩,h4⟩:=h.full hgs
 have hb:=nb_in hj
 have htch:Tch a n (nb a j):=⟨(part hj han).b76,by omega,by omega⟩
 have hlt:nzn fk<nzn (fW f a n):=nzn_lt (fun k hk=>(fW_nz f a n k).2 ((h2 k hk).imp id fun ⟨j',hj',hi'⟩=>by
  have hb':=nb_in hj'
  exact ⟨nb a j',⟨(part hj' han).b76,by omega,by omega⟩,hi'⟩)) (path_lt htch.1 hi) h0 ((fW_nz f a n i).2 (.inr ⟨nb a j,htch,hi⟩))
 have hle:nzn f≤nzn fk:=by
  have:=nzn_le (T:=[]) (f:=fk) (g:=f) fun k hk=>.inl (by rw [h1 k hk];exact hk)
  simpa using this
 rw [fW_sct hm hmin hg hn]
 exact ⟨by omega,sct_nzn hm hmin hg⟩
section
variable {w0 w w':World} {p d N q bf nn ep g a n:Nat} {O:List Nat} {s:DS} {X:Secs2} {m m2:List Wr} {y:Nat→D.Nn} {f:Nat→Nat→Nat} {C:Nat→Nat→UInt8} {low:List Int} {Tx:List Nat} {V:Img} {b:Nat→Bool}
theorem Nds.few (h:Nds N ep g V y f C) (hf:FNo w0 w' p d N q bf nn O s X m (GL (oth f nn)) (f nn) low Tx a n) (hn1:1≤nn) (hnn:nn<32) (hk:(y nn).k≠0) (hb:∀ i,i<76→(b i=true ↔ f nn (ixb i)≠0)) (hn:0<n) (han:a+n≤9728) (h43:64≤N) :
  sct b+(N - 43 - tot f)<sct (wrG b a n ((a+n - 1) / 128+1 - a / 128))∧sct b=nzn (f nn):=by
 have ho:=h.fl nn hn1 hnn hk
 obtain ⟨h1,h2⟩:=too_few hf (h.nodup nn) ho.mid ho.min hb hn han h43
 rw [h2,← oth_len (f:=f) hnn]
 exact ⟨h1,rfl⟩
theorem sct_congr {b b':Nat→Bool} (h:∀ i,i<76→b i=b' i):sct b=sct b':=by
 have e1:cb b 76=cb b' 76:=by
  unfold cb
  rw [List.filter_congr fun i hi=>h i (List.mem_range.1 hi)]
 have e2:oneF b 76=oneF b' 76:=by
  unfold oneF
  rw [Bool.eq_iff_iff,List.any_eq_true,List.any_eq_true]
  constructor<;>rintro ⟨i,hi,h1⟩<;>refine ⟨i,hi,?_⟩<;>have:=h i (List.mem_range.1 hi)<;>simp_all
 have e3:twoF b 76=twoF b' 76:=by
  funext j
  unfold twoF
  rw [Bool.eq_iff_iff,List.any_eq_true,List.any_eq_true]
  constructor<;>rintro ⟨i,hi,h1⟩<;>refine ⟨i,hi,?_⟩<;>have:=h i (List.mem_range.1 hi)<;>simp_all
 unfold sct
 rw [e1,e2,e3]
theorem blk_entry (k i j:Nat) (hi:i≤k) (hj:j=if i<k then k else k+1) (b:Nat):wrG (fun b=>decide (128 * b<32 * k)) (32 * i) 32 ((32 * i+32 - 1) / 128+1 - 32 * i / 128) b=decide (128 * b<32 * j):=by
 unfold wrG
 rw [Bool.eq_iff_iff,Bool.or_eq_true,Bool.and_eq_true,decide_eq_true_eq,decide_eq_true_eq,decide_eq_true_eq,decide_eq_true_eq]
 split at hj<;>subst hj<;>omega
end
end Go.Proofs.YtkganhafbjgndaaGreatRR.V
namespace Go.Proofs.YtkganhafbjgndaaGreatRR.V
open Go.RowKit
set_option linter.unusedVariables false
set_option maxRecDepth 20000
theorem np_row (i:Nat):T.np (32 * i) 32=1:=by unfold T.np;rw [if_neg (by omega)];omega
theorem tx_row (i:Nat):(tx (32 * i) 32).length≤3:=by
 unfold tx
 rw [np_row]
 show ((path (nb (32 * i) 0))++[]).length≤3
 rw [List.append_nil]
 exact path_len _
def secN (x:N.Nod):Nat:=if x.k=0 then 0 else sct (blkT x)
theorem secsT_put (t:N.Tr) {d:Nat} (h1:1≤d) (hd:d<32) (x:N.Nod):secsT (t.put d x)+secN (t.nd d)=secsT t+secN x:=by
 have hs:∀ (t:N.Tr) (n:Nat),(if n=0∨(t.nd n).k=0 then 0 else sct (blkT (t.nd n)))=if n=0 then 0 else secN (t.nd n):=fun t n=>by
  unfold secN
  by_cases e:n=0
  ·rw [if_pos (.inl e),if_pos e]
  ·rw [if_neg e]
   by_cases e2:(t.nd n).k=0
   ·rw [if_pos (.inr e2),if_pos e2]
   ·rw [if_neg (by simp [e,e2]),if_neg e2]
 unfold secsT
 simp only [hs]
 rw [sum_split (i:=d) List.nodup_range (List.mem_range.2 hd),sum_split (i:=d) (g:=fun n=>if n=0 then 0 else secN (t.nd n)) List.nodup_range (List.mem_range.2 hd),if_neg (by omega),if_neg (by omega),N.nd_at]
 have e:((List.range 32).filter fun j=>j != d).map (fun n=>if n=0 then 0 else secN ((t.put d x).nd n))=((List.range 32).filter fun j=>j != d).map (fun n=>if n=0 then 0 else secN (t.nd n)) :=
  List.map_congr_left fun j hj=>by rw [N.nd_ne (by simpa using (List.mem_filter.1 hj).2)]
 rw [e]
 omega
section
variable {w0 w w':World} {p d Ns q ep g i c:Nat} {O:List Nat} {s:DS} {X:Secs2} {m:List Wr} {y:Nat→D.Nn} {f:Nat→Nat→Nat} {C:Nat→Nat→UInt8} {t:N.Tr} {A:Option Addr} {M:Nat→Prop} {r:N.Rw}
def EntQ (w0 w:World) (p d Ns q ep g i:Nat) (O:List Nat) (s:DS) (X:Secs2) (m:List Wr) (t:N.Tr) (y:Nat→D.Nn) (f:Nat→Nat→Nat) (C:Nat→Nat→UInt8) (nn:Nat) (r:N.Rw) (e:Ending) (w':World):Prop :=
 (e=.returned (.int .i64 0)∧∃ m' y' f' C',Sto w0 w' p d O Ns s X q m'∧Nds Ns ep g (view X m') (sett y nn y') (sett f nn f') (sett C nn C')∧Like (N.setT t nn i r) (sett y nn y') (sett f nn f') (sett C nn C')∧(keys m').length≤(keys m).length+5∧Chg [q] w w') ∨
 (e=.returned (.int .i64 10)∧i=(t.nd nn).rows.length∧Ns - 43 - secsT t<3∧secsT t<secsT (N.setT t nn i r)∧(∃ m2,Sto w0 w' p d O Ns s X q m2)∧Chg [q] w w')
theorem row_lens (ht:N.WF t) {nn:Nat} (hnn:nn<32):∀ z∈(t.nd nn).rows,(N.encR z).length=32:=fun z hz=>N.encR_len (ht.x.row nn hnn z hz)
theorem Nds.entry {nn:Nat} (h:Nds Ns ep g (view X m) y f C) (hl:Like t y f C) (ht:N.WF t) (hs:Sto w0 w p d O Ns s X q m) (hn1:1≤nn) (hnn:nn<32) (hk:(t.nd nn).k=2) (hi:i≤(t.nd nn).rows.length) (h9:32 * i+32≤9728) (hr:N.RowOk t r) (hd:Bts w M A 32 c (N.encR r)) (hM:∀ b,M b→b<w.heap.size∧b≠q)
  (hkl:(keys m).length≤19):Calls Tryz.prog 17 #[.pointer (some ⟨p,0,none⟩),.int .i64 nn,.int .i64 ((32 * i:Nat):Int),.slice A 32 c] w (EntQ w0 w p d Ns q ep g i O s X m t y f C nn r):=by
 have hx:=hl nn hn1 hnn
 have hyk:(y nn).k=2:=hx.k.trans hk
 have hys:(y nn).s=32 * (t.nd nn).rows.length:=by rw [hx.s];exact if_pos hk
 have htx:=tx_row i
 have hlen:=row_lens ht hnn
 have hrl:=N.encR_len hr
 have hmax:max (y nn).s (32 * i+32) % 32=0:=by rw [hys];omega
 refine (h.write hs (low:=34 :: ((35+nn / 4:Nat):Int) :: keys m) (Tx:=tx (32 * i) 32) (a:=32 * i) (n:=32) hn1 hnn (by omega) ⟨fun x hx=>.inl (by simp [hx]),by simp only [List.length_cons];omega,by simp⟩ (by simp) (by omega) h9 hd hM (tx_mem _ _) fun _=>hmax).mono ?_
 have hb1:∀ b,blkT (t.nd nn) b=decide (128 * b<32 * (t.nd nn).rows.length):=fun b=>if_pos hk
 have hpl:=N.puts_len (t.nd nn).rows i r
 have hb2:∀ b,blkT { t.nd nn with rows:=N.puts (t.nd nn).rows i r,c:=N.more (t.nd nn).c } b=wrG (blkT (t.nd nn)) (32 * i) 32 ((32 * i+32 - 1) / 128+1 - 32 * i / 128) b:=fun b=>by
  rw [show blkT { t.nd nn with rows:=N.puts (t.nd nn).rows i r,c:=N.more (t.nd nn).c } b=decide (128 * b<32 * (N.puts (t.nd nn).rows i r).length) from if_pos hk,← blk_entry (t.nd nn).rows.length i _ hi hpl b]
  unfold wrG
  rw [hb1]
 rintro e w' (⟨rfl,m',y',f',h1,h2,h3,h4,h5,h6,h7⟩ | ⟨rfl,⟨bf,m2,hno⟩,hc⟩)
 ·refine .inl ⟨rfl,m',y',f',_,h1,h2,hl.put (hx.entry hk hi hlen hrl (by rw [h3]) h4 h5),?_,h7⟩
  have:=h6.len_le h1.mok.rise
  simp only [List.length_cons] at this
  omega
 ·have h64:=hs.n64
  obtain ⟨e1,e2⟩:=h.few hno hn1 hnn (by omega) hx.blk (by omega) h9 h64
  have hf:=h.fl nn hn1 hnn (by omega)
  have e3:sct (wrG (blkT (t.nd nn)) (32 * i) 32 ((32 * i+32 - 1) / 128+1 - 32 * i / 128))≤nzn (f nn)+3:=by
   rw [fW_sct hf.mid hf.min hx.blk (by omega)]
   refine Nat.le_trans (nzn_le (T:=tx (32 * i) 32) fun k hk=>((fW_nz (f nn) (32 * i) 32 k).1 hk).imp id fun ⟨b,⟨t1,t2,t3⟩,hb⟩=>?_) (by omega)
   obtain ⟨j,hj,rfl⟩:=touch (by omega) t2 t3
   exact tx_mem _ _ j hj k hb
  have e4:sct (blkT { t.nd nn with rows:=N.puts (t.nd nn).rows i r,c:=N.more (t.nd nn).c })=sct (wrG (blkT (t.nd nn)) (32 * i) 32 ((32 * i+32 - 1) / 128+1 - 32 * i / 128)):=sct_congr fun b _=>hb2 b
  have e5:=secsT_put t hn1 hnn { t.nd nn with rows:=N.puts (t.nd nn).rows i r,c:=N.more (t.nd nn).c }
  have e6:secN (t.nd nn)=sct (blkT (t.nd nn)):=if_neg (by omega)
  have e7:secN { t.nd nn with rows:=N.puts (t.nd nn).rows i r,c:=N.more (t.nd nn).c }=sct (blkT { t.nd nn with rows:=N.puts (t.nd nn).rows i r,c:=N.more (t.nd nn).c }):=if_neg (by show (t.nd nn).k≠0;omega)
  have e8:=tot_secs h hl
  rw [e6,e7,e4] at e5
  rw [e8] at e1
  refine .inr ⟨rfl,?_,by omega,?_,⟨_,hno.choose_spec.choose_spec.choose_spec.choose_spec.1.sto⟩,hc⟩
  ·refine Decidable.byContradiction fun hne=>?_
   have:sct (wrG (blkT (t.nd nn)) (32 * i) 32 ((32 * i+32 - 1) / 128+1 - 32 * i / 128))=sct (blkT (t.nd nn)):=sct_congr fun b _=>by
    rw [← hb2 b,hb1,show blkT { t.nd nn with rows:=N.puts (t.nd nn).rows i r,c:=N.more (t.nd nn).c } b=decide (128 * b<32 * (N.puts (t.nd nn).rows i r).length) from if_pos hk,hpl,if_pos (by omega)]
   omega
  ·show secsT t<secsT (t.put nn _)
   omega
end
end Go.Proofs.YtkganhafbjgndaaGreatRR.V
namespace Go.Proofs.YtkganhafbjgndaaGreatRR.V
open Go.RowKit
set_option linter.unusedVariables false
set_option maxRecDepth 20000
section
variable {w0 w w1 w2 w':World} {p d N q bf nn:Nat} {O:List Nat} {s:DS} {X:Secs2} {m:List Wr} {G:Nat→Prop} {y:D.Nn} {f:Nat→Nat} {C:Nat→UInt8} {low:List Int} {Tx:List Nat}
def RdO (w:World) (l:List UInt8) (er:Int) (e:Ending) (w':World):Prop:=∃ A n c,e=.returned (.tuple #[.slice A n c,.int .i64 er])∧T.Bts w' w'.heap.size A n c l∧Below w.heap.size w w'∧∀ g o,A=some ⟨g,o,none⟩→w.heap.size≤g
set_option maxHeartbeats 4000000 in
theorem read_own {a s' z:Nat} (ho:Calls Tryz.prog 41 #[.pointer (some ⟨p,0,none⟩),.int .i64 nn] w (OpenR w p nn y)) (h:Sto w0 w p d O N s X q m) (hm:Mid N G (view X m) y f) (hc:Cont (view X m) f C) (hz:z≤9728) (ha:a<y.s) (hy:y.s≤9728) (hs:min z (y.s - a)=s') (hs0:0<z) :
  Calls Tryz.prog 18 #[.pointer (some ⟨p,0,none⟩),.int .i64 nn,.int .i64 a,.int .i64 z] w (RdO w (byt C a s') 0):=by
 have HO:=Lib.hid ho
 have HS:=Lib.hid h
 have HM:=Lib.hid hm
 have HC:=Lib.hid hc
 have HS':Hid (a+s'≤9728∧0<s'):=by show _∧_;omega
 have HMN:Hid (min (z:Int) ((y.s:Int) - a)=(s':Int)):=by show _=_;omega
 have g1:decide ((a:Int)<0)=false:=by simp
 have g2:decide ((z:Int)<0)=false:=by simp
 have g3:decide ((9728:Int)<(z:Int))=false:=by simp;omega
 have g4:decide ((y.s:Int)≤(a:Int))=false:=by simp;omega
 have hw1:IntKind.i64.wrap ((y.s:Int) - (a:Int))=(y.s:Int) - (a:Int):=by rw [IntKind.wrap_i64];omega
 clear ho h hm hc
 go_enter Tryz.func18,Tryz.ntmps18
 go_wp2_with fail
 refine HO.out.mono ?_
 rintro e w1 ⟨bf,rfl,hf,hbf,hb⟩
 have H1:Hid (Rd w0 w1 p d N q bf nn O s X m G y f C):=⟨HS.out.below hb,hf,HM.out,HC.out⟩
 have HB1:=Lib.hid hb
 have c5:=hf.c5
 clear hf hb
 go_wp2_with fail
 rw [HMN.out]
 refine (T.parts_some a s' _ HS'.out.2 HS'.out.1).mono ?_
 rintro e w2 ⟨A,cp,rfl,hp,hb,_⟩
 have H2:=Lib.hid (H1.out.below hb)
 have HB2:=Lib.hid (HB1.out.trans (hb.mono HB1.out.size))
 have HP:=Lib.hid hp
 have hw12:=HB1.out.size
 have hn76:=np76 HS'.out.1
 clear hb hp c5 g1 g2 g3 g4 hw1
 generalize hM:T.np a s'=M at *
 have HMM:=Lib.hid hM
 clear hM
 go_wp2_with fail
 go_loopw [64,13] (fun i v wr=>∃ k:Nat,k≤M∧i=.int .i64 k∧Hid (wr.ownsRow w2.heap.size 5 1 v (byt C a (up a s' k)).length ((byt C a (up a s' k)).map F.bv))∧Hid (Below w2.heap.size w2 wr)) (fun i _ _=>M - (intOf i).toNat)
 case atStart=>exact ⟨0,Nat.zero_le _,rfl,by rw [up_zero];exact World.ownsRow_nil _ _ _ _,Below.refl _ _⟩
 case round =>
  obtain ⟨k,hk,rfl,HR,HB⟩:=hrel
  by_cases hlt:k<M
  ·have hlt':k<T.np a s':=by rw [HMM.out];exact hlt
   have P:=part hlt' HS'.out.1
   obtain ⟨b,rfl,hbl,hcc⟩:=(HP.out.below HB.out).at_ (by omega)
   obtain ⟨x0,x1,x2⟩:=hcc k hlt
   rw [pb_nb] at x0
   rw [pf_nf hlt'] at x1
   rw [pt_nt hlt'] at x2
   have HPT:=Lib.hid P
   obtain ⟨B,hB⟩:∃ B,nb a k=B:=⟨_,rfl⟩
   obtain ⟨lo,hlo⟩:∃ lo,nf a k=lo:=⟨_,rfl⟩
   obtain ⟨hi,hhi⟩:∃ hi,nt a s' k=hi:=⟨_,rfl⟩
   have HE:Hid (B<76∧lo<hi∧hi≤128∧128 * B+lo=a+up a s' k∧up a s' (k+1)=up a s' k+(hi - lo)):=by
    rw [← hB,← hlo,← hhi];exact ⟨P.b76,P.lt,P.le,P.at_,P.nxt⟩
   rw [hB] at x0
   rw [hlo] at x1
   rw [hhi] at x2
   have hlohi:lo<hi∧hi≤128:=⟨HE.out.2.1,HE.out.2.2.1⟩
   clear P hcc hlo hhi hB
   obtain ⟨a0,a1,a2⟩:=D.box1 wr (Obj.cells #[.int .i64 (B:Int),.int .i64 (lo:Int),.int .i64 (hi:Int)] 92)
   have HA:=Lib.hid a0
   have HB3:=Lib.hid (HB.out.trans (a1.mono HB.out.size))
   have HR3:=Lib.hid (D.own_below HR.out a1)
   have hal:wr.heap.size<(wr.alloc (Obj.cells #[.int .i64 (B:Int),.int .i64 (lo:Int),.int .i64 (hi:Int)] 92)).heap.size:=by rw [a2];omega
   clear a0 a1 a2
   go_upto_region 15 with fail
   clear x0 x1 x2
   generalize wr.alloc (Obj.cells #[.int .i64 (B:Int),.int .i64 (lo:Int),.int .i64 (hi:Int)] 92)=W at *
   have y0:W.cell? ⟨wr.heap.size,0,none⟩=some (.int .i64 (B:Int)):=cell_of_row _ _ 0 _ _ _ HA.out
   go_wp2_with fail
   refine (block_yes (H2.out.below HB3.out) HE.out.1).mono ?_
   rintro e w4 ⟨g,rfl,hg,hgw,hb4⟩
   have HG:=Lib.hid (own_sub hg (blkL_len _ _) hlohi.1 hlohi.2)
   rw [byt_blk C hlohi.2] at HG
   have HR4:=Lib.hid (D.own_below HR3.out hb4)
   have HB4:=Lib.hid (HB3.out.trans (hb4.mono HB3.out.size))
   have HA4:=Lib.hid ((hb4.block wr.heap.size hal).trans HA.out)
   clear hg hb4 y0 hal
   obtain ⟨v',w',hr,ho',hgr⟩:=F.app_run 41 HR4.out HG.out (by rw [byt_len,byt_len];have:=HPT.out.all;have:=HPT.out.nxt;have:=HS'.out.1;omega) HB4.out.size
   have HRUN:=Lib.hid hr
   have HO':Hid (w'.ownsRow w2.heap.size 5 1 v' (byt C a (up a s' (k+1))).length ((byt C a (up a s' (k+1))).map F.bv)):=by
    have e:byt C a (up a s' k)++byt C (128 * B+lo) (hi - lo)=byt C a (up a s' (k+1)):=by rw [HE.out.2.2.2.1,byt_app,HE.out.2.2.2.2]
    rw [e] at ho'
    exact ho'
   have HB5:=Lib.hid (HB4.out.grown hgr HB4.out.size fun j hj=>(HR4.out.lt j hj).1)
   clear hr ho' hgr
   have y1:w4.cell? ⟨wr.heap.size,1,none⟩=some (.int .i64 (lo:Int)):=cell_of_row _ _ 1 _ _ _ HA4.out
   have y2:w4.cell? ⟨wr.heap.size,2,none⟩=some (.int .i64 (hi:Int)):=cell_of_row _ _ 2 _ _ _ HA4.out
   have z1:¬ 128=lo:=by omega
   go_wp2_with (at_builtin;refine Lib.wpList_append_run _ rfl _ _ _ _ rfl _ _ rfl rfl _ _ HRUN.out ?_)
   go_roundw
   case rel=>exact ⟨k+1,by omega,by go_num,HO',HB5⟩
   case measure=>simp [intOf];omega
  ·obtain rfl:k=M:=by omega
   go_wp2_with fail
   go_ret2
   have e:up a s' k=s':=by rw [← HMM.out,up_all]
   have ho:=HR.out
   rw [e] at ho
   obtain ⟨A',n',c',rfl,hh⟩:=F.own_holds ho
   exact ⟨A',n',c',rfl,⟨hh.len,hh.cap,hh.lim,hh.nil,hh.at_⟩,HB2.out.trans (HB.out.mono (by have:=HB2.out.size;omega)),fun g o eg=>by have h1:=(ho.lt g (by rw [eg];rfl)).1;have h2:=HB2.out.size;omega⟩
theorem read_flo {y:D.Nn} (hs:Sto w0 w p d O N s X q m) (h:Fl N G (view X m) nn y f C) (hn:nn<32) {a z s':Nat} (hz:z≤9728) (he:min z (y.s - a)=s'):Calls Tryz.prog 18 #[.pointer (some ⟨p,0,none⟩),.int .i64 nn,.int .i64 (a:Int),.int .i64 (z:Int)] w (RdO w (byt C a s') 0):=by
 have hy:=(ok_size h.ok h.kind).1
 have hnil:∀ e w',ErrS w 0 e w'→s'=0→RdO w (byt C a s') 0 e w':=fun e w' ⟨h1,h2⟩ h0=>⟨none,0,0,h1,by rw [h0];exact T.Bts.nil_ _ _,h2,fun g o e=>by cases e⟩
 by_cases h1:y.s≤a
 ·exact (read_end (h.open_ hs hn) (by omega) ⟨by omega,by omega⟩).mono fun e w' hq=>hnil e w' hq (by omega)
 ·by_cases h2:z=0
  ·subst h2
   exact (read_none (h.open_ hs hn) ⟨by omega,by omega⟩ hy).mono fun e w' hq=>hnil e w' hq (by omega)
  ·exact read_own (h.open_ hs hn) hs h.mid h.con hz (by omega) hy he (by omega)
theorem bts_apart {B g o:Nat} {A:Option Addr} {n c:Nat} {l:List UInt8} (h:T.Bts w B A n c l) (hB:B≤w.heap.size) (hc:Chg O w w') (ho:∀ g o,A=some ⟨g,o,none⟩→g∉O):T.Bts w' B A n c l :=
 ⟨h.len,h.cap,h.lim,h.nil,fun hn=>by
  obtain ⟨b,off,e,hb,hcl⟩:=h.at_ hn
  refine ⟨b,off,e,hb,fun j hj=>?_⟩
  rw [← hcl j hj]
  have:=hc.block b (by omega) (ho b off e)
  simp only [World.cell?,this]⟩
end
end Go.Proofs.YtkganhafbjgndaaGreatRR.V
namespace Go.Proofs.YtkganhafbjgndaaGreatRR.V
open Go.RowKit
set_option linter.unusedVariables false
set_option maxRecDepth 20000
theorem cutF_nil (f:Nat→Nat):cutF 0 f=fun _=>0:=by
 funext i
 by_cases h:i<86
 ·exact cutF_0 f i h
 ·rw [cutF_leaf 0 f (by unfold isPx;omega),if_neg (by omega)]
theorem cutC_zero (C:Nat→UInt8):cutC C 0=fun _=>0:=by
 funext i
 exact if_neg (by omega)
section
variable {w0 w w':World} {p d Ns q ep g nn:Nat} {O:List Nat} {s:DS} {X:Secs2} {m:List Wr} {y:Nat→D.Nn} {f:Nat→Nat→Nat} {C:Nat→Nat→UInt8} {t:N.Tr} {z:D.Nn}
theorem Nds.readAll (h:Nds Ns ep g (view X m) y f C) (hl:Like t y f C) (hs:Sto w0 w p d O Ns s X q m) (h1:1≤nn) (h2:nn<32) (hk:(t.nd nn).k≠0) {k:Nat} (hz:k≤9728) (hge:N.sizeT (t.nd nn)≤k) :
  Calls Tryz.prog 18 #[.pointer (some ⟨p,0,none⟩),.int .i64 nn,.int .i64 0,.int .i64 (k:Int)] w (RdO w (datT (t.nd nn)) 0):=by
 have hx:=hl nn h1 h2
 have hf:=h.fl nn h1 h2 (by rw [hx.k];exact hk)
 have:=read_flo (a:=0) (z:=k) (s':=(y nn).s) hs hf h2 hz (by rw [hx.s];omega)
 rw [hx.dat] at this
 exact this
def lk (y:D.Nn) (l c:Nat):D.Nn:={ y with l:=l,c:=c }
theorem lk_ok {y:D.Nn} (h:y.up.ok=true) (hk:y.k=1) {l c:Nat} (h1:1≤l) (h2:l≤255) (h3:c≤1073741824):(lk y l c).up.ok=true:=by
 obtain ⟨a1,a2,a3⟩:=D.Nd.ok_iff.1 h
 obtain ⟨s1,_,g1,_,_⟩:=ok_size h (.inl hk)
 rw [D.Nd.ok_iff]
 refine ⟨?_,a2,?_⟩
 ·unfold D.Nd.nums
  rw [decide_eq_true_eq]
  show 0≤(y.g:Int)∧(y.g:Int)≤1073741824∧0≤(c:Int)∧(c:Int)≤1073741824
  omega
 ·exact D.kind_1 (by show (y.k:Int)=1;omega) (by show (1:Int)≤(l:Int);omega) (by show (l:Int)≤255;omega) (by show (0:Int)≤(y.s:Int);omega) (by show (y.s:Int)≤9728;omega)
theorem LikeN.lk {x:N.Nod} {y:D.Nn} {f:Nat→Nat} {C:Nat→UInt8} (h:LikeN x y f C) (l c:Nat):LikeN { x with l:=l,c:=c } (V.lk y l c) f C:=⟨h.k,rfl,h.g,rfl,h.s,h.dat,h.blk⟩
theorem Nds.setLinks (h:Nds Ns ep g (view X m) y f C) (hl:Like t y f C) (hs:Sto w0 w p d O Ns s X q m) (hn1:1≤nn) (hnn:nn<32) (hk:(t.nd nn).k=1) {l c:Nat} (l1:1≤l) (l2:l≤255) (hc:c≤1073741824) (hkl:m.length<24) :
  Calls Tryz.prog 71 #[.pointer (some ⟨p,0,none⟩),.int .i64 nn,.agg (D.nc (lk (y nn) l c).up).toArray] w fun e w'=>e=.returned (.int .i64 0)∧∃ m',Sto w0 w' p d O Ns s X q m'∧Nds Ns ep g (view X m') (sett y nn (lk (y nn) l c)) f C∧Like (t.put nn { t.nd nn with l:=l,c:=c }) (sett y nn (lk (y nn) l c)) f C∧(∀ x∈keys m',x=((35+nn / 4:Nat):Int)∨x∈keys m)∧Chg [q] w w':=by
 have hx:=hl nn hn1 hnn
 have hyk:(y nn).k=1:=hx.k.trans hk
 refine (h.setNode hs (z:=lk (y nn) l c) hn1 hnn (lk_ok (h.img nn hn1 hnn).2 hyk l1 l2 hc) rfl (by show (y nn).k≠0;omega) (fun i hi=>by match i,hi with | 0,_=>rfl | 1,_=>rfl | 2,_=>rfl | 3,_=>rfl | 4,_=>rfl | 5,_=>rfl) rfl (.inr hkl)).mono ?_
 rintro e w' ⟨rfl,m',h3,h4,h5,h6⟩
 have:=hl.put (n:=nn) (hx.lk l c)
 rw [sett_self,sett_self] at this
 exact ⟨rfl,m',h3,h4,this,h5,h6⟩
theorem Nds.setFree (h:Nds Ns ep g (view X m) y f C) (hl:∀ n,1≤n→n<32→n≠nn→LikeN (t.nd n) (y n) (f n) (C n)) (hs:Sto w0 w p d O Ns s X q m) (hn1:1<nn) (hnn:nn<32) {g' c:Nat} (hg:g'≤1073741824) (hc:c≤1073741824) (hf:f nn=fun _=>0) (hkl:m.length<24) :
  Calls Tryz.prog 71 #[.pointer (some ⟨p,0,none⟩),.int .i64 nn,.agg (D.nc (nfree g' c).up).toArray] w fun e w'=>e=.returned (.int .i64 0)∧∃ m',Sto w0 w' p d O Ns s X q m'∧Nds Ns ep g (view X m') (sett y nn (nfree g' c)) f (sett C nn fun _=>0)∧Like (t.put nn ⟨0,0,g',c,[],[],fun _=>false⟩) (sett y nn (nfree g' c)) f (sett C nn fun _=>0)∧(∀ x∈keys m',x=((35+nn / 4:Nat):Int)∨x∈keys m)∧Chg [q] w w':=by
 refine (h.setGone hs hn1 hnn hg hc hf (.inr hkl)).mono ?_
 rintro e w' ⟨rfl,m',h3,h4,h5,h6⟩
 refine ⟨rfl,m',h3,h4,fun n a b=>?_,h5,h6⟩
 by_cases e:n=nn
 ·subst e
  rw [N.nd_at,sett_at,sett_at,hf]
  exact likeN_free
 ·rw [N.nd_ne e,sett_ne y _ e,sett_ne C _ e]
  exact hl n a b e
theorem Like.new (h:Like t y f C) {n k gg:Nat} (hk:k=1∨k=2) (hf:f n=fun _=>0) (hc:(y n).c=(t.nd n).c):Like ⟨t.gens+1,(t.put n ⟨k,1,gg,N.more (t.nd n).c,[],[],fun _=>false⟩).nd⟩ (sett y n (nnc k gg (min ((y n).c+1) 1073741824))) f (sett C n fun _=>0):=by
 have:=h.put (n:=n) (likeN_new (g:=gg) (c:=N.more (t.nd n).c) hk)
 rw [← hf,sett_self] at this
 rw [hc]
 exact this
end
end Go.Proofs.YtkganhafbjgndaaGreatRR.V
