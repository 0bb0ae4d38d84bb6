/- names' calls: Rename of a file to a name that nothing has. -/
import Derived.Test.YtkganhafbjgndaaGreatRRZWc
import Derived.Test.YtkganhafbjgndaaGreatRRZVm
namespace Go.Proofs.YtkganhafbjgndaaGreatRR.V
open Go.RowKit
set_option linter.unusedVariables false
set_option maxRecDepth 20000
def MvQ (w0 w:World) (p d Ns q ep k:Nat) (O:List Nat) (s:DS) (X:Secs2) (t t':N.Tr) (er:Int) (w':World):Prop :=
 ((er=0∧∃ m' y' f' C',St w0 w' p d Ns q ep O s X m' y' f' C' t'∧KS k m')∨(er=10∧Ns - 43 - secsT t<3∧∃ m',Sto w0 w' p d O Ns s X q m'))∧Chg [q] w w'
section
variable {w0 w w':World} {p d Ns q ep n B B' dir fd:Nat} {O:List Nat} {s:DS} {X:Secs2} {m:List Wr} {y:Nat→D.Nn} {f:Nat→Nat→Nat} {C:Nat→Nat→UInt8} {t:N.Tr} {ex:Nat→Int} {v v':Value} {k:Nat}
theorem rem_secs {nm:N.Nm} {i:Nat} (h1:1≤fd) (h2:fd<32) (hk:(t.nd fd).k=2) (hf:N.find (t.nd fd).rows nm=some i):secsT (N.removeT t fd nm)=secsT t:=by
 obtain ⟨_,r,hr,_⟩:=N.find_some hf
 have hi:=(List.getElem?_eq_some_iff.1 hr).1
 rw [N.remove_eq hf]
 have:=secsT_put t h1 h2 { t.nd fd with rows:=N.puts (t.nd fd).rows i N.emp,c:=N.more (t.nd fd).c }
 have e:secN { t.nd fd with rows:=N.puts (t.nd fd).rows i N.emp,c:=N.more (t.nd fd).c }=secN (t.nd fd):=by
  unfold secN
  show (if (t.nd fd).k=0 then 0 else _)=_
  rw [if_neg (by omega),if_neg (by omega)]
  refine sct_congr fun b _=>?_
  unfold blkT
  show (if (t.nd fd).k=2 then _ else _)=_
  rw [if_pos hk,if_pos hk]
  show decide (128 * b<32 * (N.puts (t.nd fd).rows i N.emp).length)=_
  rw [N.puts_len,if_pos hi]
 have e2:secsT (N.setT t fd i N.emp)=secsT (t.put fd { t.nd fd with rows:=N.puts (t.nd fd).rows i N.emp,c:=N.more (t.nd fd).c }):=rfl
 omega
set_option maxHeartbeats 4000000 in
theorem move_yes {nm other:N.Nm} {i:Nat} (h:St w0 w p d Ns q ep O s X m y f C t) (ht:N.WFx t ex) (hw:Wy w B v fd) (hw':Wy w B' v' dir) (hqB:q<B') (f1:1≤fd) (f2:fd<32) (fk:(t.nd fd).k=2) (hf:N.find (t.nd fd).rows nm=some i) (hrow:(t.nd fd).rows[i]?=some (nm,(n:Int))) (d1:1≤dir) (d2:dir<32) (dk:(t.nd dir).k=2)
  (n1:1<n) (n2:n<32) (n3:(t.nd n).k≠0) (ho:N.nameB other=true) (hfl:N.fullT (N.removeT t fd nm) dir=false) (hks:KS k m) (hkl:k≤8) (kd:Int) :
  Calls Tryz.prog 34 #[.agg #[.pointer (some ⟨p,0,none⟩),v,.string (E.bs nm),.int .i64 (n:Int)],.agg #[.pointer (some ⟨p,0,none⟩),v',.string (E.bs other),.int .i64 0],.int .i64 kd] w fun e w'=>∃ er,e=.returned (.int .i64 er)∧MvQ w0 w p d Ns q ep (k+6) O s X t (N.mvT t fd nm n dir other) er w':=by
 have hqq:=h.sto.map.lt
 have hsec:=rem_secs f1 f2 fk hf
 have hwx:=ht.remove f2 fk hf hrow
 have hkk:∀ j,((N.removeT t fd nm).nd j).k=(t.nd j).k:=fun j=>by rw [N.remove_eq hf];exact N.set_k j
 have HLV:Hid (∀ W,Below w.heap.size w W→Calls Tryz.prog 65 #[.agg #[.pointer (some ⟨p,0,none⟩),v,.string (E.bs nm),.int .i64 (n:Int)]] W fun e w1=>e=.returned (.int .i64 0)∧Chg [q] W w1∧∀ W1 v B,Below w1.heap.size w1 W1→Wy W1 B v dir →
   Calls Tryz.prog 25 #[.agg #[.pointer (some ⟨p,0,none⟩),v,.string (E.bs other),.int .i64 0],.int .i64 (n:Int)] W1 fun e w2=>∃ er,e=.returned (.int .i64 er)∧MvQ w0 w p d Ns q ep (k+6) O s X t (N.mvT t fd nm n dir other) er w2):=fun W hb=>by
  refine (nleave_yes (h.below hb) ht (hw.below hb) f1 f2 fk hf hks (by omega) (n:Int)).mono ?_
  rintro e w1 ⟨rfl,m1,y1,fa,C1,a1,a2,a3⟩
  refine ⟨rfl,a3,fun W1 v B hb1 hw1=>?_⟩
  refine (come_yes (a1.below hb1) hwx hw1 d1 d2 (by rw [hkk];exact dk) hfl (.inr ⟨ho,n,rfl,n1,n2,by rw [hkk];exact n3⟩) a2 (by omega) 0).mono ?_
  rintro e w2 ⟨er,rfl,⟨rfl,m2,y2,fb,C2,b1,b2,b3,b4,b5⟩ | ⟨rfl,_,b2,_,b4,b5⟩⟩
  ·exact ⟨0,rfl,.inl ⟨rfl,m2,y2,fb,C2,⟨b1,b2,b3⟩,b4⟩,((Chg.of_below hb).tr a3).tr ((Chg.of_below hb1).tr b5)⟩
  ·exact ⟨10,rfl,.inr ⟨rfl,by omega,b4⟩,((Chg.of_below hb).tr a3).tr ((Chg.of_below hb1).tr b5)⟩
 have HW':=Lib.hid hw'
 obtain ⟨vg,vn,vc,rfl,hvg⟩:=hw.slice
 obtain ⟨ug,un,uc,rfl,hug⟩:=hw'.slice
 generalize N.mvT t fd nm n dir other=t' at *
 clear h ht hw hw' fk hf hrow dk n3 ho hfl hks hsec hwx hkk
 obtain ⟨a0,a1,a2,a3⟩:=D.box2 w (Obj.cells (plc (some ⟨p,0,none⟩) (.slice (some ⟨vg,0,none⟩) vn vc) (E.bs nm) (n:Int)) 56) (Obj.cells (plc (some ⟨p,0,none⟩) (.slice (some ⟨ug,0,none⟩) un uc) (E.bs other) 0) 56)
 have A0:=Lib.hid a0
 have A1:=Lib.hid a1
 have A2:=Lib.hid a2
 have hs1:w.heap.size+1<((w.alloc (Obj.cells (plc (some ⟨p,0,none⟩) (.slice (some ⟨vg,0,none⟩) vn vc) (E.bs nm) (n:Int)) 56)).alloc (Obj.cells (plc (some ⟨p,0,none⟩) (.slice (some ⟨ug,0,none⟩) un uc) (E.bs other) 0) 56)).heap.size:=by rw [a3];omega
 clear a0 a1 a2 a3
 go_enter Tryz.func34,Tryz.ntmps34
 go_upto_region 1 with fail
 generalize (w.alloc (Obj.cells (plc (some ⟨p,0,none⟩) (.slice (some ⟨vg,0,none⟩) vn vc) (E.bs nm) (n:Int)) 56)).alloc (Obj.cells (plc (some ⟨p,0,none⟩) (.slice (some ⟨ug,0,none⟩) un uc) (E.bs other) 0) 56)=W at *
 have c3:W.cell? ⟨w.heap.size+1,3,none⟩=some (.int .i64 0):=cell_of_row _ _ 3 _ _ _ A1.out
 go_upto_region 8 with fail
 clear c3
 go_wp2_with (first | (refine D.wpList_load_row rfl 56 _ rfl w.heap.size rfl _ _ _ A0.out _ Tryz.underlying56 rfl (s56 _ _ _ _) ?_) | fail)
 refine (HLV.out W A2.out).mono ?_
 rintro e w1 ⟨rfl,hc,hcm⟩
 have B0:=Lib.hid ((hc.block w.heap.size (by omega) (by simp;omega)).trans A0.out)
 have B1:=Lib.hid ((hc.block (w.heap.size+1) hs1 (by simp;omega)).trans A1.out)
 have hWy:=(HW'.out.below A2.out).chg hc hqB
 have HCM:=Lib.hid (hcm w1 _ _ (Below.refl _ _) hWy)
 clear hc hcm HLV HW' hWy
 have c3:w1.cell? ⟨w.heap.size,3,none⟩=some (.int .i64 (n:Int)):=cell_of_row _ _ 3 _ _ _ B0.out
 go_wp2_with (first | (refine D.wpList_load_row rfl 56 _ rfl (w.heap.size+1) rfl _ _ _ B1.out _ Tryz.underlying56 rfl (s56 _ _ _ _) ?_) | fail)
 refine HCM.out.mono ?_
 rintro e w2 ⟨er,rfl,hq⟩
 have HQ:=Lib.hid hq
 clear hq
 go_wp2_with fail
 go_ret
 exact ⟨er,rfl,HQ.out⟩
set_option maxHeartbeats 8000000 in
theorem rename_yes (h:St w0 w p d Ns q ep O s X m y f C t) (ht:N.WF t) (so sn:List UInt8) (ha0:(N.aboveT t (P.split so)).err=0) (hn0:(N.aboveT t (P.split so)).node≠0) (hkf:(t.nd (N.aboveT t (P.split so)).node).k=1) (hb0:(N.aboveT t (P.split sn)).err=0) (hm0:(N.aboveT t (P.split sn)).node=0)
  (hfl:N.fullT (N.removeT t (N.aboveT t (P.split so)).dir (N.aboveT t (P.split so)).name) (N.aboveT t (P.split sn)).dir=false) (hks:KS k m) (hkl:k≤8) :
  Calls Tryz.prog 13 #[.pointer (some ⟨p,0,none⟩),.string (P.bs so),.string (P.bs sn)] w fun e w' =>
   (e=.returned (.tuple #[.agg (stv (N.stT t (N.aboveT t (P.split so)).node)),.int .i64 0])∧∃ m' y' f' C',St w0 w' p d Ns q ep O s X m' y' f' C' (N.mvT t (N.aboveT t (P.split so)).dir (N.aboveT t (P.split so)).name (N.aboveT t (P.split so)).node (N.aboveT t (P.split sn)).dir (N.aboveT t (P.split sn)).name)∧KS (k+6) m'∧Chg [q] w w') ∨
   (e=.returned (.tuple #[.agg z6,.int .i64 10])∧Ns - 43 - secsT t<3):=by
 have hqq:=h.sto.map.lt
 have HLOW:=Lib.hid h.low
 have HBR:=Lib.hid (fun W (hb:Below w.heap.size w W)=>nbarred_ok (h.sto.below hb))
 have HTK:=Lib.hid (fun W (hb:Below w.heap.size w W)=>taken_any (h.below hb) ht.x so)
 have HFD:=Lib.hid (fun W (hb:Below w.heap.size w W)=>nfind_any (h.below hb) ht.x sn)
 have h8:=(P.split_good so).2
 have h8':=(P.split_good sn).2
 have hnames:=(P.split_good sn).1
 generalize P.split so=qq at *
 generalize P.split sn=qn at *
 have hA:=N.above_of ht.x ha0
 have hB:=N.above_of ht.x hb0
 have hte:takE (N.aboveT t qq)=0:=by unfold takE;rw [if_neg (fun e=>e ha0),if_neg hn0]
 rw [hte] at HTK
 rw [hb0] at HFD
 obtain ⟨i,hf,hrow,g1,g2,g3⟩:=hA.yes hn0
 have hnmB:N.nameB (N.aboveT t qn).name=true:=hB.name fun s hs=>List.all_eq_true.1 hnames s hs
 have HND:=Lib.hid (fun W (hb:Below w.heap.size w W)=>(h.below hb).node (n:=(N.aboveT t qq).node) (by omega) g2)
 have hyk:(y (N.aboveT t qq).node).k=1:=(h.yk (by omega) g2).trans hkf
 have HMV:Hid (∀ W B B' v v',Below w.heap.size w W→Wy W B v (N.aboveT t qq).dir→Wy W B' v' (N.aboveT t qn).dir→q<B'→Calls Tryz.prog 34 #[.agg #[.pointer (some ⟨p,0,none⟩),v,.string (E.bs (N.aboveT t qq).name),.int .i64 ((N.aboveT t qq).node:Int)],.agg #[.pointer (some ⟨p,0,none⟩),v',.string (E.bs (N.aboveT t qn).name),.int .i64 0],.int .i64 1] W fun e w'=>∃ er,e=.returned (.int .i64 er)∧MvQ w0 W p d Ns q ep (k+6) O s X t (N.mvT t (N.aboveT t qq).dir (N.aboveT t qq).name (N.aboveT t qq).node (N.aboveT t qn).dir (N.aboveT t qn).name) er w'):=fun W B B' v v' hb hw hw' hqB =>
  move_yes (h.below hb) ht.x hw hw' hqB hA.d1 hA.d32 hA.dk hf hrow hB.d1 hB.d32 hB.dk g1 g2 g3 hnmB hfl hks hkl 1
 have hstt:(N.mvT t (N.aboveT t qq).dir (N.aboveT t qq).name (N.aboveT t qq).node (N.aboveT t qn).dir (N.aboveT t qn).name).nd (N.aboveT t qq).node=t.nd (N.aboveT t qq).node:=by
  unfold N.mvT
  rw [N.add_nd_ne (fun e=>by have:=hB.dk;rw [← e,hkf] at this;cases this)]
  exact rows_rem (fun e=>by have:=hA.dk;rw [← e,hkf] at this;cases this) _
 have HSTT:=Lib.hid (fun W m' y' f' C' (h:St w0 W p d Ns q ep O s X m' y' f' C' (N.mvT t (N.aboveT t qq).dir (N.aboveT t qq).name (N.aboveT t qq).node (N.aboveT t qn).dir (N.aboveT t qn).name))=>nst_any (n:=(N.aboveT t qq).node) h (by omega) g2)
 rw [N.stT_eq hstt] at HSTT
 have HWY:=Lib.hid (fun W B v (ho:OwnI W B v (wayT t qq.1.dropLast 1))=>wy_of hA ho h8)
 have HWY':=Lib.hid (fun W B v (ho:OwnI W B v (wayT t qn.1.dropLast 1))=>wy_of hB ho h8')
 have hlen:=wayT_len t qq.1.dropLast 1
 have hlen':=wayT_len t qn.1.dropLast 1
 have HNE:Hid (wayT t qq.1.dropLast 1≠[]):=fun e=>by rw [e] at hlen;simp at hlen
 have HNE':Hid (wayT t qn.1.dropLast 1≠[]):=fun e=>by rw [e] at hlen';simp at hlen'
 clear h ht ha0 hb0 hA hB hte hf hrow g3 hnmB hfl hks hstt hlen hlen' hnames h8 h8' hkf g2
 generalize N.mvT t (N.aboveT t qq).dir (N.aboveT t qq).name (N.aboveT t qq).node (N.aboveT t qn).dir (N.aboveT t qn).name=t' at *
 generalize N.stT t (N.aboveT t qq).node=sv at *
 generalize y (N.aboveT t qq).node=yn at *
 obtain ⟨a0,a1,a2⟩:=D.box1 w (Obj.cells z6 28)
 have A0:=Lib.hid a0
 have A1:=Lib.hid a1
 clear a0 a1 a2
 go_enter Tryz.func13,Tryz.ntmps13
 go_wp2_with fail
 refine (HBR.out _ A1.out).mono ?_
 rintro e w1 ⟨rfl,hb⟩
 have G1:=Lib.hid ((hb.block w.heap.size (by simp)).trans A0.out)
 have hlt1:w.heap.size<w1.heap.size:=Nat.lt_of_lt_of_le (by simp) hb.size
 have HB1:=Lib.hid (A1.out.trans (hb.mono (by simp)))
 clear hb HBR
 go_wp2_with fail
 refine (HTK.out w1 HB1.out).mono ?_
 rintro e w2 (⟨_,_,v,rfl,ho,hb⟩ | ⟨hne,_⟩)
 rotate_left 1
 ·exact absurd rfl hne
 have hWy:=HWY.out w2 _ v ho
 obtain ⟨g,c,hv,hg1,hg2,hc1,hc2,hcell⟩:=ownI_slice ho HNE.out
 clear hcell hc1 hc2 HWY HTK ho
 have G2:=Lib.hid ((hb.block w.heap.size hlt1).trans G1.out)
 have hlt2:w.heap.size<w2.heap.size:=Nat.lt_of_lt_of_le hlt1 hb.size
 have HB2:=Lib.hid (HB1.out.trans (hb.mono HB1.out.size))
 clear hb
 subst hv
 generalize (wayT t qq.1.dropLast 1).length=L at *
 generalize (N.aboveT t qq).dir=fdir at *
 generalize (N.aboveT t qq).name=fnm at *
 generalize (N.aboveT t qq).node=nn at *
 obtain ⟨b0,b1,b2⟩:=D.box1 w2 (Obj.cells (plc (some ⟨p,0,none⟩) (.slice (some ⟨g,0,none⟩) L c) (E.bs fnm) (nn:Int)) 56)
 have P3:=Lib.hid b0
 have HWy:=Lib.hid (hWy.below b1)
 have G3:=Lib.hid ((b1.block w.heap.size hlt2).trans G2.out)
 have HB3:=Lib.hid (HB2.out.trans (b1.mono HB2.out.size))
 have hlt3:w2.heap.size<(w2.alloc (Obj.cells (plc (some ⟨p,0,none⟩) (.slice (some ⟨g,0,none⟩) L c) (E.bs fnm) (nn:Int)) 56)).heap.size:=by simp
 clear b0 b1 b2 hWy
 go_upto_region 7 with (first | (refine D.wpList_store_new rfl 56 _ _ rfl w2 z56 (plc (some ⟨p,0,none⟩) (.slice (some ⟨g,0,none⟩) L c) (E.bs fnm) (nn:Int)) rfl rfl (s56 _ _ _ _) rfl (plc_one _ _ _ _ _ _) ?_) | fail)
 generalize w2.alloc (Obj.cells (plc (some ⟨p,0,none⟩) (.slice (some ⟨g,0,none⟩) L c) (E.bs fnm) (nn:Int)) 56)=W3 at *
 go_wp2_with fail
 refine (HFD.out W3 HB3.out).mono ?_
 rintro e w4 (⟨_,_,v',rfl,ho,hb⟩ | ⟨hne,_⟩)
 rotate_left 1
 ·exact absurd rfl hne
 have hWy':=HWY'.out w4 _ v' ho
 obtain ⟨g',c',hv',hg1',hg2',hc1,hc2,hcell⟩:=ownI_slice ho HNE'.out
 have P4:=Lib.hid ((hb.block _ hlt3).trans P3.out)
 have G4:=Lib.hid ((hb.block _ (by omega)).trans G3.out)
 have HWy4:=Lib.hid (HWy.out.below hb)
 have HB4:=Lib.hid (HB3.out.trans (hb.mono HB3.out.size))
 have hlt4:w2.heap.size<w4.heap.size:=Nat.lt_of_lt_of_le hlt3 hb.size
 have hqB:q<W3.heap.size:=by omega
 clear hcell hc1 hc2 HWY' HFD ho hb HWy
 subst hv'
 generalize (wayT t qn.1.dropLast 1).length=L' at *
 generalize (N.aboveT t qn).dir=tdir at *
 generalize (N.aboveT t qn).name=tnm at *
 generalize (N.aboveT t qn).node=tn at *
 subst hm0
 obtain ⟨b0,b1,b2⟩:=D.box1 w4 (Obj.cells (plc (some ⟨p,0,none⟩) (.slice (some ⟨g',0,none⟩) L' c') (E.bs tnm) 0) 56)
 have Q5:=Lib.hid b0
 have P5:=Lib.hid ((b1.block _ hlt4).trans P4.out)
 have G5:=Lib.hid ((b1.block _ (by omega)).trans G4.out)
 have HWy5:=Lib.hid (HWy4.out.below b1)
 have HWz5:=Lib.hid (hWy'.below b1)
 have HB5:=Lib.hid (HB4.out.trans (b1.mono HB4.out.size))
 have hlt5:w4.heap.size<(w4.alloc (Obj.cells (plc (some ⟨p,0,none⟩) (.slice (some ⟨g',0,none⟩) L' c') (E.bs tnm) 0) 56)).heap.size:=by simp
 clear b0 b1 b2 hWy' HWy4
 go_upto_region 10 with (first | (refine D.wpList_store_new rfl 56 _ _ rfl w4 z56 (plc (some ⟨p,0,none⟩) (.slice (some ⟨g',0,none⟩) L' c') (E.bs tnm) 0) rfl rfl (s56 _ _ _ _) rfl (plc_one _ _ _ _ _ _) ?_) | fail)
 generalize w4.alloc (Obj.cells (plc (some ⟨p,0,none⟩) (.slice (some ⟨g',0,none⟩) L' c') (E.bs tnm) 0) 56)=W5 at *
 have c3:W5.cell? ⟨w2.heap.size,3,none⟩=some (.int .i64 (nn:Int)):=cell_of_row _ _ 3 _ _ _ P5.out
 go_wp2_with fail
 clear c3
 refine (HND.out W5 HB5.out).mono ?_
 rintro e w6 ⟨rfl,hb⟩
 obtain ⟨b0,b1,b2⟩:=D.box1 w6 (Obj.cells (D.nc yn.up).toArray 66)
 have hb2:=hb.trans (b1.mono hb.size)
 have N7:=Lib.hid b0
 have P7:=Lib.hid ((hb2.block _ (by omega)).trans P5.out)
 have Q7:=Lib.hid ((hb2.block _ hlt5).trans Q5.out)
 have G7:=Lib.hid ((hb2.block _ (by omega)).trans G5.out)
 have HWy7:=Lib.hid (HWy5.out.below hb2)
 have HWz7:=Lib.hid (HWz5.out.below hb2)
 have HB7:=Lib.hid (HB5.out.trans (hb2.mono HB5.out.size))
 have hs7:=hb2.size
 clear b0 b1 b2 hb hb2 HWy5 HWz5
 go_upto_region 13 with (first | (refine wpList_store_new rfl 66 _ _ rfl w6 D.z11 (D.nc yn.up).toArray rfl rfl s47 rfl (all_oneCell_toArray (D.nc_one _)) ?_) | fail)
 generalize w6.alloc (Obj.cells (D.nc yn.up).toArray 66)=W7 at *
 have d0:W7.cell? ⟨w6.heap.size,0,none⟩=some (.int .i64 1):=by
  have:W7.cell? ⟨w6.heap.size,0,none⟩=some (.int .i64 yn.up.k):=cell_of_row _ _ 0 _ _ _ N7.out
  rw [this]
  show some (Value.int IntKind.i64 (yn.k:Int))=_
  rw [hyk]
  rfl
 have c3:W7.cell? ⟨w2.heap.size,3,none⟩=some (.int .i64 (nn:Int)):=cell_of_row _ _ 3 _ _ _ P7.out
 have e3:W7.cell? ⟨w4.heap.size,3,none⟩=some (.int .i64 0):=cell_of_row _ _ 3 _ _ _ Q7.out
 have hnb:((0:Int) != (nn:Int))=true:=by rw [bne_iff_ne];omega
 go_wp2_with (first | (refine D.wpList_load_row rfl 56 _ rfl w2.heap.size rfl _ _ _ P7.out _ Tryz.underlying56 rfl (s56 _ _ _ _) ?_) | (refine D.wpList_load_row rfl 56 _ rfl w4.heap.size rfl _ _ _ Q7.out _ Tryz.underlying56 rfl (s56 _ _ _ _) ?_) | fail)
 clear d0 c3 e3
 refine (HMV.out W7 _ _ _ _ HB7.out HWy7.out HWz7.out hqB).mono ?_
 rintro e w8 ⟨er,rfl,hq,hc⟩
 have G8:=Lib.hid ((hc.block w.heap.size (by omega) (by simp;omega)).trans G7.out)
 have P8:=Lib.hid ((hc.block w2.heap.size (by omega) (by simp;omega)).trans P7.out)
 have HC8:Hid (Chg [q] w w8):=(Chg.of_below HB7.out).tr hc
 have hlt8:w2.heap.size<w8.heap.size:=Nat.lt_of_lt_of_le (by omega) hc.size
 clear hc HMV HWy7 HWz7
 rcases hq with ⟨rfl,m',y',f',C',q1,q2⟩ | ⟨rfl,q1,_⟩
 ·have HQ1:=Lib.hid q1
  have HQ2:=Lib.hid q2
  have HST8:=Lib.hid (HSTT.out _ _ _ _ _ q1)
  clear q1 q2 HSTT
  have c3:w8.cell? ⟨w2.heap.size,3,none⟩=some (.int .i64 (nn:Int)):=cell_of_row _ _ 3 _ _ _ P8.out
  go_wp2_with fail
  clear c3
  refine HST8.out.mono ?_
  rintro e w9 ⟨rfl,hb⟩
  have G9:=Lib.hid ((hb.block w.heap.size (by omega)).trans G8.out)
  have HC9:Hid (Chg [q] w w9):=HC8.out.tr (Chg.of_below hb)
  have HQ9:=Lib.hid (HQ1.out.below hb)
  clear hb
  go_wp2_with (first | (refine D.wpList_store_row rfl 28 _ _ rfl w.heap.size z6 (stv sv) 28 rfl rfl G9.out (stv_size sv) rfl (stv_one sv) ?_) | fail)
  refine bodyPost_ret (D.ret_row2 rfl rfl (D.setRow_in _ _ _ (stv sv) _ G9.out) Tryz.underlying28 rfl (stv_size sv)) rfl ?_
  exact .inl ⟨rfl,m',y',f',C',HQ9.out.row HLOW.out _,HQ2.out,chg_row HC9.out (Nat.le_refl _) _⟩
 ·have HQ1:=Lib.hid q1
  clear q1 HSTT
  go_wp2_with (first | (refine D.wpList_store_row rfl 28 _ _ rfl w.heap.size z6 z6 28 rfl rfl G8.out z6_size rfl z6_one ?_) | fail)
  refine bodyPost_ret (D.ret_row2 rfl rfl (D.setRow_in _ _ _ z6 _ G8.out) Tryz.underlying28 rfl z6_size) rfl ?_
  exact .inr ⟨rfl,HQ1.out⟩
end
end Go.Proofs.YtkganhafbjgndaaGreatRR.V
namespace Go.Proofs.YtkganhafbjgndaaGreatRR.V
open Go.RowKit
set_option linter.unusedVariables false
set_option maxRecDepth 20000
def NoP (w:World) (er:Int) (e:Ending) (w':World):Prop:=e=.returned (.tuple #[.agg z6,.int .i64 er])∧Below w.heap.size w w'
theorem look_nil (s:ByteArray) (w:World):Calls Tryz.prog 11 #[.pointer none,.string s] w (NoP w 1):=by
 obtain ⟨b0,b1,b2⟩:=D.box1 w (Obj.cells z6 28)
 go_enter Tryz.func11,Tryz.ntmps11
 go_wp2_with fail
 refine (nbarred_nil _).mono ?_
 rintro e w1 ⟨rfl,rfl⟩
 go_wp2_with (first | (refine D.wpList_store_new rfl 28 _ _ rfl w z6 z6 rfl rfl z6_size rfl z6_one ?_) | fail)
 refine bodyPost_ret (D.ret_row2 rfl rfl b0 Tryz.underlying28 rfl z6_size) rfl ?_
 exact ⟨rfl,b1⟩
theorem mk_nil (s:ByteArray) (k:Int) (w:World):Calls Tryz.prog 8 #[.pointer none,.string s,.int .i64 k] w (NoP w 1):=by
 obtain ⟨b0,b1,b2⟩:=D.box1 w (Obj.cells z6 28)
 go_enter Tryz.func8,Tryz.ntmps8
 go_wp2_with fail
 refine (nbarred_nil _).mono ?_
 rintro e w1 ⟨rfl,rfl⟩
 go_wp2_with (first | (refine D.wpList_store_new rfl 28 _ _ rfl w z6 z6 rfl rfl z6_size rfl z6_one ?_) | fail)
 refine bodyPost_ret (D.ret_row2 rfl rfl b0 Tryz.underlying28 rfl z6_size) rfl ?_
 exact ⟨rfl,b1⟩
theorem ln_nil (s s':ByteArray) (w:World):Calls Tryz.prog 12 #[.pointer none,.string s,.string s'] w (NoP w 1):=by
 obtain ⟨b0,b1,b2⟩:=D.box1 w (Obj.cells z6 28)
 go_enter Tryz.func12,Tryz.ntmps12
 go_wp2_with fail
 refine (nbarred_nil _).mono ?_
 rintro e w1 ⟨rfl,rfl⟩
 go_wp2_with (first | (refine D.wpList_store_new rfl 28 _ _ rfl w z6 z6 rfl rfl z6_size rfl z6_one ?_) | fail)
 refine bodyPost_ret (D.ret_row2 rfl rfl b0 Tryz.underlying28 rfl z6_size) rfl ?_
 exact ⟨rfl,b1⟩
theorem ul_nil (s:ByteArray) (w:World):Calls Tryz.prog 10 #[.pointer none,.string s] w (NoP w 1):=by
 obtain ⟨b0,b1,b2⟩:=D.box1 w (Obj.cells z6 28)
 go_enter Tryz.func10,Tryz.ntmps10
 go_wp2_with fail
 refine (nbarred_nil _).mono ?_
 rintro e w1 ⟨rfl,rfl⟩
 go_wp2_with (first | (refine D.wpList_store_new rfl 28 _ _ rfl w z6 z6 rfl rfl z6_size rfl z6_one ?_) | fail)
 refine bodyPost_ret (D.ret_row2 rfl rfl b0 Tryz.underlying28 rfl z6_size) rfl ?_
 exact ⟨rfl,b1⟩
theorem rn_nil (s s':ByteArray) (w:World):Calls Tryz.prog 13 #[.pointer none,.string s,.string s'] w (NoP w 1):=by
 obtain ⟨b0,b1,b2⟩:=D.box1 w (Obj.cells z6 28)
 go_enter Tryz.func13,Tryz.ntmps13
 go_wp2_with fail
 refine (nbarred_nil _).mono ?_
 rintro e w1 ⟨rfl,rfl⟩
 go_wp2_with (first | (refine D.wpList_store_new rfl 28 _ _ rfl w z6 z6 rfl rfl z6_size rfl z6_one ?_) | fail)
 refine bodyPost_ret (D.ret_row2 rfl rfl b0 Tryz.underlying28 rfl z6_size) rfl ?_
 exact ⟨rfl,b1⟩
theorem by_nil (a b:Int) (w:World):Calls Tryz.prog 9 #[.pointer none,.agg #[.int .i64 a,.int .i64 b]] w (NoP w 1):=by
 obtain ⟨a0,a1,a2,a3⟩:=D.box2 w (Obj.cells #[.int .i64 a,.int .i64 b] 26) (Obj.cells z6 28)
 go_enter Tryz.func9,Tryz.ntmps9
 go_wp2_with fail
 refine (nbarred_nil _).mono ?_
 rintro e w1 ⟨rfl,rfl⟩
 go_wp2_with (first | (refine D.wpList_store_row rfl 28 _ _ rfl (w.heap.size+1) z6 z6 28 rfl rfl a1 z6_size rfl z6_one ?_) | fail)
 refine bodyPost_ret (D.ret_row2 rfl rfl (D.setRow_in _ _ _ z6 _ a1) Tryz.underlying28 rfl z6_size) rfl ?_
 exact ⟨rfl,below_setRow a2 (by omega) _⟩
theorem list_nil (s:ByteArray) (w:World):Calls Tryz.prog 14 #[.pointer none,.string s] w (Nil2 w 1):=by
 go_enter Tryz.func14,Tryz.ntmps14
 go_wp2_with fail
 refine (nbarred_nil _).mono ?_
 rintro e w1 ⟨rfl,rfl⟩
 go_wp2_with fail
 go_ret2
 exact ⟨rfl,Below.refl _ _⟩
theorem rmdir_nil (s:ByteArray) (w:World):Calls Tryz.prog 15 #[.pointer none,.string s] w fun e w'=>e=.returned (.int .i64 1)∧w=w':=by
 go_enter Tryz.func15,Tryz.ntmps15
 go_wp2_with fail
 refine (nbarred_nil _).mono ?_
 rintro e w1 ⟨rfl,rfl⟩
 go_wp2_with fail
 go_ret
 exact ⟨rfl,rfl⟩
end Go.Proofs.YtkganhafbjgndaaGreatRR.V
namespace Go.Proofs.YtkganhafbjgndaaGreatRR.V
open Go.RowKit
set_option linter.unusedVariables false
set_option maxRecDepth 20000
namespace Aw
def q1:List N.Nm × Int:=([[97]],0)
def q2:List N.Nm × Int:=([[97],[98]],0)
def q3:List N.Nm × Int:=([[99]],0)
theorem s1:P.split [47,97]=q1:=by decide +kernel
theorem s2:P.split [47,97,47,98]=q2:=by decide +kernel
theorem s3:P.split [47,99]=q3:=by decide +kernel
theorem s0:P.split [47]=([],0):=by decide +kernel
def t1:N.Tr:=(N.makeT N.tr0 q1 2).1
def t2:N.Tr:=(N.makeT t1 q2 1).1
def t3:N.Tr:=N.mvT t2 2 [98] 3 1 [99]
theorem full_small {t:N.Tr} {j:Nat} (h:(t.nd j).rows.length≤10):N.fullT t j=false:=by
 unfold N.fullT
 exact decide_eq_false fun ⟨_,h'⟩=>by omega
theorem e1:(N.makeT N.tr0 q1 2).2.2=0:=by decide +kernel
theorem e2:(N.makeT t1 q2 1).2.2=0:=by decide +kernel
theorem v1:stv (N.makeT N.tr0 q1 2).2.1=#[.int .i64 2,.int .i64 1,.int .i64 2,.int .i64 1,.int .i64 0,.int .i64 1]:=by kernel_rfl
theorem v2:stv (N.makeT t1 q2 1).2.1=#[.int .i64 3,.int .i64 2,.int .i64 1,.int .i64 1,.int .i64 0,.int .i64 1]:=by kernel_rfl
theorem v3:stv (N.stT t2 3)=#[.int .i64 3,.int .i64 2,.int .i64 1,.int .i64 1,.int .i64 0,.int .i64 1]:=by kernel_rfl
theorem r0:∀ j,j<32→N.fullT N.tr0 j=false:=by decide +kernel
theorem r1:∀ j,j<32→N.fullT t1 j=false:=by decide +kernel
theorem k0:secsT N.tr0=0:=by decide +kernel
theorem k1:secsT t1=1:=by decide +kernel
theorem k2:secsT t2=2:=by decide +kernel
theorem g1:t1.gens=1:=by decide +kernel
theorem a2:N.aboveT t2 q2=⟨2,[98],3,0⟩:=by kernel_rfl
theorem a3:N.aboveT t2 q3=⟨1,[99],0,0⟩:=by kernel_rfl
theorem f3:(t2.nd 3).k=1:=by decide +kernel
theorem u3:N.fullT (N.removeT t2 2 [98]) 1=false:=by decide +kernel
theorem w3:N.walkT t3 ([],0)=(1,0):=rfl
theorem d3:(t3.nd 1).k=2:=by decide +kernel
theorem n3:N.nms (t3.nd 1).rows=[[97],[99]]:=by decide +kernel
theorem sr:E.srt [[97],[99]]=[[97],[99]]:=(E.sorted_srt (a:=[[97],[99]]) (b:=[[97],[99]]) (by decide) (List.Perm.refl _)).symm
theorem wf1:N.WF t1:=N.make_wf N.tr0_wf (by decide) e1
theorem wf2:N.WF t2:=N.make_wf wf1 (by decide) e2
theorem wf3:N.WF t3:=by
 have e:=N.rename_mv (t:=t2) (p:=q2) (q:=q3) a2 a3 (by decide) (fun h=>by rw [f3] at h;cases h) u3
 have:=N.rename_wf (t:=t2) (p:=q2) (q:=q3) wf2 (by decide) (by rw [e])
 rw [e] at this
 exact this
end Aw
theorem MkP.ok {w0 w w':World} {p d Ns q ep k:Nat} {O:List Nat} {s:DS} {X:Secs2} {t:N.Tr} {r:N.Tr × N.St × Int} {e:Ending} (h:MkP w0 w p d Ns q ep k O s X t r e w') (h0:r.2.2=0) (hf:¬ Ns - 43 - secsT t<3) :
  e=.returned (.tuple #[.agg (stv r.2.1),.int .i64 0])∧∃ m' y' f' C',St w0 w' p d Ns q ep O s X m' y' f' C' r.1∧KS k m'∧Chg [q] w w':=by
 rcases h with (⟨_,h1,h2⟩ | ⟨h1,_⟩) | ⟨_,h1,_⟩
 ·exact ⟨h1,h2⟩
 ·exact absurd h0 h1
 ·exact absurd h1 hf
theorem begin_st (N0:Nat) (w:World) (h0:64≤N0) (h1:N0≤1024):Calls Tryz.prog 6 #[.int .i64 N0] w fun e w'=>∃ d p q O s,e=.returned (.pointer (some ⟨p,0,none⟩))∧St w w' p d N0 q 1 O s (Xb N0) [] y0 (fun _ _=>0) (fun _ _=>0) N.tr0:=by
 refine (begin_any N0 w h0 h1).mono ?_
 rintro e w' ⟨d,p,q,O,s,rfl,hs⟩
 exact ⟨d,p,q,O,s,rfl,hs,begin_nds h0 h1,like0⟩
set_option maxHeartbeats 8000000 in
theorem awake_any (w:World):Calls Tryz.prog 7 #[] w fun e w'=>e=.returned (.bool true)∧Below w.heap.size w w':=by
 have HBG:Hid (Calls Tryz.prog 6 #[.int .i64 100] w fun e w'=>∃ d p q O s,e=.returned (.pointer (some ⟨p,0,none⟩))∧St w w' p d 100 q 1 O s (Xb 100) [] y0 (fun _ _=>0) (fun _ _=>0) N.tr0):=begin_st 100 w (by omega) (by omega)
 go_enter Tryz.func7,Tryz.ntmps7
 go_wp2_with fail
 refine HBG.out.mono ?_
 rintro e w1 ⟨d,p,q,O,s,rfl,hs⟩
 have hq1:=hs.sto.map.lt
 have HB1:Hid (Below w.heap.size w w1):=hs.sto.ons.sit.bel
 have HM1:=Lib.hid (make_any (kn:=2) hs N.tr0_wf [47,97] (.inr rfl) (by decide) Aw.r0 KS.nil (by omega))
 rw [Aw.s1] at HM1
 clear hs HBG
 go_wp2_with fail
 refine HM1.out.mono ?_
 intro e w2 hm
 obtain ⟨rfl,m2,ya,fa,Ca,h1,h2,h3⟩:=hm.ok Aw.e1 (by rw [Aw.k0];omega)
 have hs12:=h3.size
 clear hm HM1 h3
 rw [show (N.makeT N.tr0 Aw.q1 ((2:Nat):Int)).2.1=(N.makeT N.tr0 Aw.q1 2).2.1 from rfl,Aw.v1]
 obtain ⟨b0,b1,b2⟩:=D.box1 w2 (Obj.cells #[.int .i64 2,.int .i64 1,.int .i64 2,.int .i64 1,.int .i64 0,.int .i64 1] 28)
 have A0:=Lib.hid b0
 have hst:St w (w2.alloc (Obj.cells #[.int .i64 2,.int .i64 1,.int .i64 2,.int .i64 1,.int .i64 0,.int .i64 1] 28)) p d 100 q 1 O s (Xb 100) m2 ya fa Ca Aw.t1:=h1.below b1
 have HM2:=Lib.hid (make_any (kn:=1) hst Aw.wf1 [47,97,47,98] (.inl rfl) (by rw [Aw.g1];omega) Aw.r1 h2 (by omega))
 rw [Aw.s2] at HM2
 have hlt2:w2.heap.size<(w2.alloc (Obj.cells #[.int .i64 2,.int .i64 1,.int .i64 2,.int .i64 1,.int .i64 0,.int .i64 1] 28)).heap.size:=by simp
 clear b0 b1 b2 h1 h2 hst
 go_upto_region 5 with (first | (refine D.wpList_store_new rfl 28 _ _ rfl w2 z6 #[.int .i64 2,.int .i64 1,.int .i64 2,.int .i64 1,.int .i64 0,.int .i64 1] rfl rfl z6_size rfl (by kernel_rfl) ?_) | fail)
 generalize w2.alloc (Obj.cells #[.int .i64 2,.int .i64 1,.int .i64 2,.int .i64 1,.int .i64 0,.int .i64 1] 28)=W2 at *
 go_wp2_with fail
 refine HM2.out.mono ?_
 intro e w3 hm
 obtain ⟨rfl,m3,yb,fb,Cb,h1,h2,h3⟩:=hm.ok Aw.e2 (by rw [Aw.k1];omega)
 have A3:=Lib.hid ((h3.block w2.heap.size hlt2 (by simp;omega)).trans A0.out)
 have hs23:=h3.size
 clear hm HM2 h3 A0
 rw [show (N.makeT Aw.t1 Aw.q2 ((1:Nat):Int)).2.1=(N.makeT Aw.t1 Aw.q2 1).2.1 from rfl,Aw.v2]
 obtain ⟨b0,b1,b2⟩:=D.box1 w3 (Obj.cells #[.int .i64 3,.int .i64 2,.int .i64 1,.int .i64 1,.int .i64 0,.int .i64 1] 28)
 have B4:=Lib.hid b0
 have A4:=Lib.hid ((b1.block w2.heap.size (by omega)).trans A3.out)
 have hst:St w (w3.alloc (Obj.cells #[.int .i64 3,.int .i64 2,.int .i64 1,.int .i64 1,.int .i64 0,.int .i64 1] 28)) p d 100 q 1 O s (Xb 100) m3 yb fb Cb Aw.t2:=h1.below b1
 have HM3:=Lib.hid (rename_yes hst Aw.wf2 [47,97,47,98] [47,99] (by rw [Aw.s2,Aw.a2]) (by rw [Aw.s2,Aw.a2];decide) (by rw [Aw.s2,Aw.a2];exact Aw.f3) (by rw [Aw.s3,Aw.a3]) (by rw [Aw.s3,Aw.a3]) (by rw [Aw.s2,Aw.s3,Aw.a2,Aw.a3];exact Aw.u3) h2 (by omega))
 rw [Aw.s2,Aw.s3,Aw.a2,Aw.a3] at HM3
 have hlt3:w3.heap.size<(w3.alloc (Obj.cells #[.int .i64 3,.int .i64 2,.int .i64 1,.int .i64 1,.int .i64 0,.int .i64 1] 28)).heap.size:=by simp
 clear b0 b1 b2 h1 h2 hst A3
 go_upto_region 6 with (first | (refine D.wpList_store_new rfl 28 _ _ rfl w3 z6 #[.int .i64 3,.int .i64 2,.int .i64 1,.int .i64 1,.int .i64 0,.int .i64 1] rfl rfl z6_size rfl (by kernel_rfl) ?_) | fail)
 generalize w3.alloc (Obj.cells #[.int .i64 3,.int .i64 2,.int .i64 1,.int .i64 1,.int .i64 0,.int .i64 1] 28)=W3 at *
 go_wp2_with fail
 refine HM3.out.mono ?_
 rintro e w4 (⟨rfl,m4,yc,fc,Cc,h1,h2,h3⟩ | ⟨_,h1⟩)
 rotate_left 1
 ·rw [Aw.k2] at h1
  omega
 have A5:=Lib.hid ((h3.block w2.heap.size (by omega) (by simp;omega)).trans A4.out)
 have B5:=Lib.hid ((h3.block w3.heap.size hlt3 (by simp;omega)).trans B4.out)
 have hs34:=h3.size
 clear HM3 h3 h2 A4 B4
 rw [Aw.v3]
 obtain ⟨b0,b1,b2⟩:=D.box1 w4 (Obj.cells #[.int .i64 3,.int .i64 2,.int .i64 1,.int .i64 1,.int .i64 0,.int .i64 1] 28)
 have C6:=Lib.hid b0
 have A6:=Lib.hid ((b1.block w2.heap.size (by omega)).trans A5.out)
 have B6:=Lib.hid ((b1.block w3.heap.size (by omega)).trans B5.out)
 have hst:St w (w4.alloc (Obj.cells #[.int .i64 3,.int .i64 2,.int .i64 1,.int .i64 1,.int .i64 0,.int .i64 1] 28)) p d 100 q 1 O s (Xb 100) m4 yc fc Cc Aw.t3:=h1.below b1
 have HBW:Hid (Below w.heap.size w (w4.alloc (Obj.cells #[.int .i64 3,.int .i64 2,.int .i64 1,.int .i64 1,.int .i64 0,.int .i64 1] 28))):=hst.sto.ons.sit.bel
 have HM4:=Lib.hid (list_dir hst Aw.wf3.x [47] (n:=1) (by rw [Aw.s0];exact Aw.w3) Aw.d3)
 rw [Aw.n3] at HM4
 have hlt4:w4.heap.size<(w4.alloc (Obj.cells #[.int .i64 3,.int .i64 2,.int .i64 1,.int .i64 1,.int .i64 0,.int .i64 1] 28)).heap.size:=by simp
 clear b0 b1 b2 h1 hst A5 B5
 go_upto_region 7 with (first | (refine D.wpList_store_new rfl 28 _ _ rfl w4 z6 #[.int .i64 3,.int .i64 2,.int .i64 1,.int .i64 1,.int .i64 0,.int .i64 1] rfl rfl z6_size rfl (by kernel_rfl) ?_) | fail)
 generalize w4.alloc (Obj.cells #[.int .i64 3,.int .i64 2,.int .i64 1,.int .i64 1,.int .i64 0,.int .i64 1] 28)=W4 at *
 go_wp2_with fail
 refine HM4.out.mono ?_
 rintro e w5 ⟨v,rfl,ho,hb⟩
 rw [Aw.sr] at ho
 obtain ⟨vA,vc,rfl,hstrs⟩:=E.OwnS.strs ho
 have A7:=(hb.block w2.heap.size (by omega)).trans A6.out
 have B7:=(hb.block w3.heap.size (by omega)).trans B6.out
 have C7:=(hb.block w4.heap.size hlt4).trans C6.out
 have HB7:=Lib.hid (HBW.out.trans (hb.mono HBW.out.size))
 obtain ⟨vb,vo,rfl,hvb,hcells⟩:=hstrs.at_ (by decide)
 have hcap:=hstrs.cap
 have hlim:=hstrs.lim
 unfold maxLen at hlim
 have l1:w5.cell? ⟨vb,vo+1,none⟩=some (.string ⟨#[99]⟩):=hcells 1 (by decide)
 have a2:w5.cell? ⟨w2.heap.size,2,none⟩=some (.int .i64 2):=cell_of_row _ _ 2 _ _ _ A7
 have b0:w5.cell? ⟨w3.heap.size,0,none⟩=some (.int .i64 3):=cell_of_row _ _ 0 _ _ _ B7
 have b1:w5.cell? ⟨w3.heap.size,1,none⟩=some (.int .i64 2):=cell_of_row _ _ 1 _ _ _ B7
 have c0:w5.cell? ⟨w4.heap.size,0,none⟩=some (.int .i64 3):=cell_of_row _ _ 0 _ _ _ C7
 have c1:w5.cell? ⟨w4.heap.size,1,none⟩=some (.int .i64 2):=cell_of_row _ _ 1 _ _ _ C7
 clear hb ho A7 B7 C7 A6 B6 C6 HM4 hstrs hcells HBW
 rw [show [[(97:UInt8)],[99]].length=2 from rfl] at *
 go_wp2_with fail
 go_ret
 exact ⟨rfl,HB7.out⟩
end Go.Proofs.YtkganhafbjgndaaGreatRR.V
namespace Go.Proofs.YtkganhafbjgndaaGreatRR.V
open Go.RowKit
set_option linter.unusedVariables false
set_option maxRecDepth 20000
def LkP (w0 w:World) (p d Ns q ep k:Nat) (O:List Nat) (s:DS) (X:Secs2) (r:N.Tr × N.St × Int) (e:Ending) (w':World):Prop :=
 (r.2.2=0∧e=.returned (.tuple #[.agg (stv r.2.1),.int .i64 0])∧∃ m' y' f' C',St w0 w' p d Ns q ep O s X m' y' f' C' r.1∧KS k m'∧Chg [q] w w')∨(∃ er,er≠0∧e=.returned (.tuple #[.agg z6,.int .i64 er])∧Below w0.heap.size w0 w')
def upT (t:N.Tr) (n:Nat):N.Tr:=t.put n { t.nd n with l:=(t.nd n).l+1,c:=N.more (t.nd n).c }
theorem up_ne {t:N.Tr} {n j:Nat} (h:j≠n):(upT t n).nd j=t.nd j:=N.nd_ne h
theorem up_k {t:N.Tr} {n:Nat} (j:Nat):((upT t n).nd j).k=(t.nd j).k:=by
 by_cases e:j=n
 ·subst e;unfold upT;rw [N.nd_at]
 ·rw [up_ne e]
theorem link_eq {t:N.Tr} {p q:List N.Nm × Int} {n:Nat} (hw:N.walkT t p=(n,0)) (hk:(t.nd n).k≠2) (ha:(N.aboveT t q).err=0) (h0:(N.aboveT t q).node=0) (hl:(t.nd n).l<255) (hf:N.fullT t (N.aboveT t q).dir=false) (hd:n≠(N.aboveT t q).dir) :
  N.linkT t p q=(N.addT (upT t n) (N.aboveT t q).dir (N.aboveT t q).name n,N.stT (N.addT (upT t n) (N.aboveT t q).dir (N.aboveT t q).name n) n,0):=by
 have e1:(upT t n).nd (N.aboveT t q).dir=t.nd (N.aboveT t q).dir:=up_ne (Ne.symm hd)
 have e2:(N.addT t (N.aboveT t q).dir (N.aboveT t q).name n).nd n=t.nd n:=N.add_nd_ne hd
 have e:(N.addT t (N.aboveT t q).dir (N.aboveT t q).name n).put n { (N.addT t (N.aboveT t q).dir (N.aboveT t q).name n).nd n with l:=((N.addT t (N.aboveT t q).dir (N.aboveT t q).name n).nd n).l+1,c:=N.more ((N.addT t (N.aboveT t q).dir (N.aboveT t q).name n).nd n).c }=N.addT (upT t n) (N.aboveT t q).dir (N.aboveT t q).name n:=by
  rw [e2]
  unfold N.addT N.setT
  rw [e1]
  unfold upT N.Tr.put
  dsimp only
  rw [sett_comm _ _ _ hd]
 unfold N.linkT
 rw [hw]
 simp only
 rw [if_neg (by decide),if_neg hk,if_neg (fun h=>h ha),if_neg (fun h=>h h0),if_neg (by omega),hf,if_neg (by decide),e]
section
variable {w0 w w':World} {p d Ns q ep n B dir:Nat} {O:List Nat} {s:DS} {X:Secs2} {m:List Wr} {y:Nat→D.Nn} {f:Nat→Nat→Nat} {C:Nat→Nat→UInt8} {t:N.Tr} {ex:Nat→Int} {v:Value} {k:Nat}
set_option maxHeartbeats 8000000 in
theorem link_any (h:St w0 w p d Ns q ep O s X m y f C t) (ht:N.WF t) (so sn:List UInt8) (hfl:∀ j,j<32→N.fullT t j=false) (hks:KS k m) (hkl:k≤11) :
  Calls Tryz.prog 12 #[.pointer (some ⟨p,0,none⟩),.string (P.bs so),.string (P.bs sn)] w (LkP w0 w p d Ns q ep (k+3) O s X (N.linkT t (P.split so) (P.split sn))):=by
 have hqq:=h.sto.map.lt
 have HLOW:=Lib.hid h.low
 have HBEL:Hid (∀ W,Below w.heap.size w W→Below w0.heap.size w0 W):=fun W hb=>h.sto.ons.sit.bel.trans (hb.mono h.sto.ons.sit.bel.size)
 have HBR:=Lib.hid (fun W (hb:Below w.heap.size w W)=>nbarred_ok (h.sto.below hb))
 have HEN:=Lib.hid (fun W (hb:Below w.heap.size w W)=>end_any (h.below hb) ht.x so)
 have HTK:=Lib.hid (fun W (hb:Below w.heap.size w W)=>vacant_any (h.below hb) ht.x sn)
 have h8:=(P.split_good sn).2
 have hnames:=(P.split_good sn).1
 generalize P.split so=qo at *
 generalize P.split sn=qq at *
 by_cases hwe:(N.walkT t qo).2=0
 rotate_left 1
 ·have he:((N.walkT t qo).2 != 0)=true:=by rw [bne_iff_ne];exact hwe
  have HWE:=Lib.hid hwe
  clear h ht hks hfl hnames hwe HTK
  generalize (N.walkT t qo).2=er at *
  generalize (N.walkT t qo).1=nn at *
  obtain ⟨a0,a1,a2⟩:=D.box1 w (Obj.cells z6 28)
  have A0:=Lib.hid a0
  have A1:=Lib.hid a1
  clear a0 a1 a2
  go_enter Tryz.func12,Tryz.ntmps12
  go_wp2_with fail
  refine (HBR.out _ A1.out).mono ?_
  rintro e w1 ⟨rfl,hb⟩
  have G1:=Lib.hid ((hb.block w.heap.size (by simp)).trans A0.out)
  have hlt1:w.heap.size<w1.heap.size:=Nat.lt_of_lt_of_le (by simp) hb.size
  have HB1:=Lib.hid (A1.out.trans (hb.mono (by simp)))
  clear hb HBR
  go_wp2_with fail
  refine (HEN.out w1 HB1.out).mono ?_
  rintro e w2 ⟨rfl,hb⟩
  have G2:=Lib.hid ((hb.block w.heap.size hlt1).trans G1.out)
  have hlt2:w.heap.size<w2.heap.size:=Nat.lt_of_lt_of_le hlt1 hb.size
  have HB2:=Lib.hid (HB1.out.trans (hb.mono HB1.out.size))
  clear hb
  go_wp2_with (first | (refine D.wpList_store_row rfl 28 _ _ rfl w.heap.size z6 z6 28 rfl rfl G2.out z6_size rfl z6_one ?_) | fail)
  refine bodyPost_ret (D.ret_row2 rfl rfl (D.setRow_in _ _ _ z6 _ G2.out) Tryz.underlying28 rfl z6_size) rfl ?_
  exact .inr ⟨_,HWE.out,rfl,HBEL.out _ (below_setRow HB2.out (Nat.le_refl _) _)⟩
 obtain ⟨n1,n2⟩:=walk_in ht.x hwe
 have n3:(t.nd (N.walkT t qo).1).k≠0:=by
  unfold N.walkT at hwe ⊢
  split at hwe
  ·exact absurd hwe ‹_›
  ·rename_i h1
   rw [if_neg h1]
   exact (N.names_of ht.x qo.1 1 (Nat.le_refl _) (by omega) (by rw [ht.x.root];omega) hwe).2.2
 have hwq:N.walkT t qo=((N.walkT t qo).1,0):=Prod.ext rfl hwe
 rw [hwe] at HEN
 generalize (N.walkT t qo).1=n at *
 have hyk:=h.yk n1 n2
 have hyl:=(h.like n n1 n2).l
 have HND:=Lib.hid (fun W (hb:Below w.heap.size w W)=>(h.below hb).node n1 n2)
 by_cases hk2:(t.nd n).k=2
 ·have hkb:((y n).up.k == 2)=true:=by rw [beq_iff_eq];show ((y n).k:Int)=2;omega
  clear h ht hks hfl hnames HTK hyk hyl hwq n3
  generalize y n=yn at *
  obtain ⟨a0,a1,a2⟩:=D.box1 w (Obj.cells z6 28)
  have A0:=Lib.hid a0
  have A1:=Lib.hid a1
  clear a0 a1 a2
  go_enter Tryz.func12,Tryz.ntmps12
  go_wp2_with fail
  refine (HBR.out _ A1.out).mono ?_
  rintro e w1 ⟨rfl,hb⟩
  have G1:=Lib.hid ((hb.block w.heap.size (by simp)).trans A0.out)
  have hlt1:w.heap.size<w1.heap.size:=Nat.lt_of_lt_of_le (by simp) hb.size
  have HB1:=Lib.hid (A1.out.trans (hb.mono (by simp)))
  clear hb HBR
  go_wp2_with fail
  refine (HEN.out w1 HB1.out).mono ?_
  rintro e w2 ⟨rfl,hb⟩
  have G2:=Lib.hid ((hb.block w.heap.size hlt1).trans G1.out)
  have hlt2:w.heap.size<w2.heap.size:=Nat.lt_of_lt_of_le hlt1 hb.size
  have HB2:=Lib.hid (HB1.out.trans (hb.mono HB1.out.size))
  clear hb
  go_wp2_with fail
  refine (HND.out w2 HB2.out).mono ?_
  rintro e w3 ⟨rfl,hb⟩
  obtain ⟨b0,b1,b2⟩:=D.box1 w3 (Obj.cells (D.nc yn.up).toArray 66)
  have hb2:=hb.trans (b1.mono hb.size)
  have N4:=Lib.hid b0
  have G4:=Lib.hid ((hb2.block w.heap.size hlt2).trans G2.out)
  have HB4:=Lib.hid (HB2.out.trans (hb2.mono HB2.out.size))
  have hlt3:w.heap.size<w3.heap.size:=Nat.lt_of_lt_of_le hlt2 hb.size
  have hlt4:w3.heap.size<(w3.alloc (Obj.cells (D.nc yn.up).toArray 66)).heap.size:=by rw [b2];omega
  clear b0 b1 b2 hb hb2 HEN HND
  go_upto_region 10 with (first | (refine wpList_store_new rfl 66 _ _ rfl w3 D.z11 (D.nc yn.up).toArray rfl rfl s47 rfl (all_oneCell_toArray (D.nc_one _)) ?_) | fail)
  generalize w3.alloc (Obj.cells (D.nc yn.up).toArray 66)=W4 at *
  have c0:W4.cell? ⟨w3.heap.size,0,none⟩=some (.int .i64 yn.up.k):=cell_of_row _ _ 0 _ _ _ N4.out
  go_wp2_with (first | (refine D.wpList_store_row rfl 28 _ _ rfl w.heap.size z6 z6 28 rfl rfl G4.out z6_size rfl z6_one ?_) | fail)
  refine bodyPost_ret (D.ret_row2 rfl rfl (D.setRow_in _ _ _ z6 _ G4.out) Tryz.underlying28 rfl z6_size) rfl ?_
  exact .inr ⟨13,by decide,rfl,HBEL.out _ (below_setRow HB4.out (Nat.le_refl _) _)⟩
 have hkb:((y n).up.k == 2)=false:=by rw [beq_eq_false_iff_ne];show ((y n).k:Int)≠2;omega
 by_cases hte:vacE (N.aboveT t qq)=0
 rotate_left 1
 ·have HTE:=Lib.hid hte
  have he:(vacE (N.aboveT t qq) != 0)=true:=by rw [bne_iff_ne];exact hte
  clear h ht hks hfl hnames hyk hyl hwq n3 hte
  generalize vacE (N.aboveT t qq)=te at *
  generalize y n=yn at *
  obtain ⟨a0,a1,a2⟩:=D.box1 w (Obj.cells z6 28)
  have A0:=Lib.hid a0
  have A1:=Lib.hid a1
  clear a0 a1 a2
  go_enter Tryz.func12,Tryz.ntmps12
  go_wp2_with fail
  refine (HBR.out _ A1.out).mono ?_
  rintro e w1 ⟨rfl,hb⟩
  have G1:=Lib.hid ((hb.block w.heap.size (by simp)).trans A0.out)
  have hlt1:w.heap.size<w1.heap.size:=Nat.lt_of_lt_of_le (by simp) hb.size
  have HB1:=Lib.hid (A1.out.trans (hb.mono (by simp)))
  clear hb HBR
  go_wp2_with fail
  refine (HEN.out w1 HB1.out).mono ?_
  rintro e w2 ⟨rfl,hb⟩
  have G2:=Lib.hid ((hb.block w.heap.size hlt1).trans G1.out)
  have hlt2:w.heap.size<w2.heap.size:=Nat.lt_of_lt_of_le hlt1 hb.size
  have HB2:=Lib.hid (HB1.out.trans (hb.mono HB1.out.size))
  clear hb
  go_wp2_with fail
  refine (HND.out w2 HB2.out).mono ?_
  rintro e w3 ⟨rfl,hb⟩
  obtain ⟨b0,b1,b2⟩:=D.box1 w3 (Obj.cells (D.nc yn.up).toArray 66)
  have hb2:=hb.trans (b1.mono hb.size)
  have N4:=Lib.hid b0
  have G4:=Lib.hid ((hb2.block w.heap.size hlt2).trans G2.out)
  have HB4:=Lib.hid (HB2.out.trans (hb2.mono HB2.out.size))
  have hlt3:w.heap.size<w3.heap.size:=Nat.lt_of_lt_of_le hlt2 hb.size
  have hlt4:w3.heap.size<(w3.alloc (Obj.cells (D.nc yn.up).toArray 66)).heap.size:=by rw [b2];omega
  clear b0 b1 b2 hb hb2 HEN HND
  go_upto_region 10 with (first | (refine wpList_store_new rfl 66 _ _ rfl w3 D.z11 (D.nc yn.up).toArray rfl rfl s47 rfl (all_oneCell_toArray (D.nc_one _)) ?_) | fail)
  generalize w3.alloc (Obj.cells (D.nc yn.up).toArray 66)=W4 at *
  have c0:W4.cell? ⟨w3.heap.size,0,none⟩=some (.int .i64 yn.up.k):=cell_of_row _ _ 0 _ _ _ N4.out
  go_wp2_with fail
  clear c0
  refine (HTK.out W4 HB4.out).mono ?_
  rintro e w5 (⟨h0,_⟩ | ⟨hne,pp,A,n',c',nm',kk,rfl,hb⟩)
  ·exact absurd h0 HTE.out
  obtain ⟨b0,b1,b2⟩:=D.box1 w5 (Obj.cells (plc pp (.slice A n' c') nm' kk) 56)
  have hb2:=hb.trans (b1.mono hb.size)
  have G6:=Lib.hid ((hb2.block w.heap.size (by omega)).trans G4.out)
  have HB6:=Lib.hid (HB4.out.trans (hb2.mono HB4.out.size))
  clear b0 b1 b2 hb hb2 HTK
  go_upto_region 13 with (first | (refine D.wpList_store_new rfl 56 _ _ rfl w5 z56 (plc pp (.slice A n' c') nm' kk) rfl rfl (s56 _ _ _ _) rfl (plc_one _ _ _ _ _ _) ?_) | fail)
  generalize w5.alloc (Obj.cells (plc pp (.slice A n' c') nm' kk) 56)=W6 at *
  go_wp2_with (first | (refine D.wpList_store_row rfl 28 _ _ rfl w.heap.size z6 z6 28 rfl rfl G6.out z6_size rfl z6_one ?_) | fail)
  refine bodyPost_ret (D.ret_row2 rfl rfl (D.setRow_in _ _ _ z6 _ G6.out) Tryz.underlying28 rfl z6_size) rfl ?_
  exact .inr ⟨_,HTE.out,rfl,HBEL.out _ (below_setRow HB6.out (Nat.le_refl _) _)⟩
 obtain ⟨ha0,hn0⟩:(N.aboveT t qq).err=0∧(N.aboveT t qq).node=0:=by
  unfold vacE at hte
  split at hte
  ·exact absurd hte ‹_›
  ·split at hte
   ·cases hte
   ·exact ⟨Decidable.not_not.1 ‹_›,Decidable.not_not.1 ‹_›⟩
 have hA:=N.above_of ht.x ha0
 rw [hte] at HTK
 have HWY:=Lib.hid (fun W B v (ho:OwnI W B v (wayT t qq.1.dropLast 1))=>wy_of hA ho h8)
 have hlen:=wayT_len t qq.1.dropLast 1
 have HNE:Hid (wayT t qq.1.dropLast 1≠[]):=fun e=>by rw [e] at hlen;simp at hlen
 have hnd:n≠(N.aboveT t qq).dir:=fun e=>hk2 (by rw [e];exact hA.dk)
 by_cases h255:(t.nd n).l=255
 ·have hlb:((y n).up.l == 255)=true:=by rw [beq_iff_eq];show ((y n).l:Int)=255;omega
  clear h ht hks hfl hnames hyk hyl hwq n3 hte ha0 hA hlen hnd h255
  generalize y n=yn at *
  obtain ⟨a0,a1,a2⟩:=D.box1 w (Obj.cells z6 28)
  have A0:=Lib.hid a0
  have A1:=Lib.hid a1
  clear a0 a1 a2
  go_enter Tryz.func12,Tryz.ntmps12
  go_wp2_with fail
  refine (HBR.out _ A1.out).mono ?_
  rintro e w1 ⟨rfl,hb⟩
  have G1:=Lib.hid ((hb.block w.heap.size (by simp)).trans A0.out)
  have hlt1:w.heap.size<w1.heap.size:=Nat.lt_of_lt_of_le (by simp) hb.size
  have HB1:=Lib.hid (A1.out.trans (hb.mono (by simp)))
  clear hb HBR
  go_wp2_with fail
  refine (HEN.out w1 HB1.out).mono ?_
  rintro e w2 ⟨rfl,hb⟩
  have G2:=Lib.hid ((hb.block w.heap.size hlt1).trans G1.out)
  have hlt2:w.heap.size<w2.heap.size:=Nat.lt_of_lt_of_le hlt1 hb.size
  have HB2:=Lib.hid (HB1.out.trans (hb.mono HB1.out.size))
  clear hb
  go_wp2_with fail
  refine (HND.out w2 HB2.out).mono ?_
  rintro e w3 ⟨rfl,hb⟩
  obtain ⟨b0,b1,b2⟩:=D.box1 w3 (Obj.cells (D.nc yn.up).toArray 66)
  have hb2:=hb.trans (b1.mono hb.size)
  have N4:=Lib.hid b0
  have G4:=Lib.hid ((hb2.block w.heap.size hlt2).trans G2.out)
  have HB4:=Lib.hid (HB2.out.trans (hb2.mono HB2.out.size))
  have hlt3:w.heap.size<w3.heap.size:=Nat.lt_of_lt_of_le hlt2 hb.size
  have hlt4:w3.heap.size<(w3.alloc (Obj.cells (D.nc yn.up).toArray 66)).heap.size:=by rw [b2];omega
  clear b0 b1 b2 hb hb2 HEN HND
  go_upto_region 10 with (first | (refine wpList_store_new rfl 66 _ _ rfl w3 D.z11 (D.nc yn.up).toArray rfl rfl s47 rfl (all_oneCell_toArray (D.nc_one _)) ?_) | fail)
  generalize w3.alloc (Obj.cells (D.nc yn.up).toArray 66)=W4 at *
  have c0:W4.cell? ⟨w3.heap.size,0,none⟩=some (.int .i64 yn.up.k):=cell_of_row _ _ 0 _ _ _ N4.out
  go_wp2_with fail
  clear c0
  refine (HTK.out W4 HB4.out).mono ?_
  rintro e w5 (⟨_,_,v,rfl,ho,hb⟩ | ⟨hne,_⟩)
  rotate_left 1
  ·exact absurd rfl hne
  have hWy:=HWY.out w5 _ v ho
  obtain ⟨g,c,hv,hg1,hg2,hc1,hc2,hcell⟩:=ownI_slice ho HNE.out
  clear hcell hc1 hc2 HWY HTK ho
  subst hv
  generalize (wayT t qq.1.dropLast 1).length=L at *
  generalize (N.aboveT t qq).dir=dir at *
  generalize (N.aboveT t qq).name=nm at *
  generalize (N.aboveT t qq).node=nn at *
  subst hn0
  obtain ⟨b0,b1,b2⟩:=D.box1 w5 (Obj.cells (plc (some ⟨p,0,none⟩) (.slice (some ⟨g,0,none⟩) L c) (E.bs nm) 0) 56)
  have hb2:=hb.trans (b1.mono hb.size)
  have P6:=Lib.hid b0
  have HWy:=Lib.hid (hWy.below b1)
  have G6:=Lib.hid ((hb2.block w.heap.size (by omega)).trans G4.out)
  have N6:=Lib.hid ((hb2.block w3.heap.size hlt4).trans N4.out)
  have HB6:=Lib.hid (HB4.out.trans (hb2.mono HB4.out.size))
  have hlt5:w3.heap.size<w5.heap.size:=Nat.lt_of_lt_of_le hlt4 hb.size
  have hlt6:w5.heap.size<(w5.alloc (Obj.cells (plc (some ⟨p,0,none⟩) (.slice (some ⟨g,0,none⟩) L c) (E.bs nm) 0) 56)).heap.size:=by simp
  clear b0 b1 b2 hWy hb hb2
  go_upto_region 15 with (first | (refine D.wpList_store_new rfl 56 _ _ rfl w5 z56 (plc (some ⟨p,0,none⟩) (.slice (some ⟨g,0,none⟩) L c) (E.bs nm) 0) rfl rfl (s56 _ _ _ _) rfl (plc_one _ _ _ _ _ _) ?_) | fail)
  generalize w5.alloc (Obj.cells (plc (some ⟨p,0,none⟩) (.slice (some ⟨g,0,none⟩) L c) (E.bs nm) 0) 56)=W6 at *
  have c1:W6.cell? ⟨w3.heap.size,1,none⟩=some (.int .i64 yn.up.l):=cell_of_row _ _ 1 _ _ _ N6.out
  go_wp2_with (first | (refine D.wpList_store_row rfl 28 _ _ rfl w.heap.size z6 z6 28 rfl rfl G6.out z6_size rfl z6_one ?_) | fail)
  refine bodyPost_ret (D.ret_row2 rfl rfl (D.setRow_in _ _ _ z6 _ G6.out) Tryz.underlying28 rfl z6_size) rfl ?_
  exact .inr ⟨9,by decide,rfl,HBEL.out _ (below_setRow HB6.out (Nat.le_refl _) _)⟩
 have hlb:((y n).up.l == 255)=false:=by rw [beq_eq_false_iff_ne];show ((y n).l:Int)≠255;omega
 have hk1:(t.nd n).k=1:=by
  have:=ht.x.kind n n2
  omega
 have hok:=ok_size (h.nds.img n n1 n2).2 (.inl (hyk.trans hk1))
 rw [hyl] at hok
 have n1':1<n:=by
  rcases Nat.lt_or_ge 1 n with h' | h'
  ·exact h'
  ·exfalso
   have:n=1:=by omega
   rw [this,ht.x.root] at hk1
   cases hk1
 have hnmB:N.nameB (N.aboveT t qq).name=true:=hA.name fun s hs=>List.all_eq_true.1 hnames s hs
 have HRM:=Lib.hid (link_eq (q:=qq) hwq hk2 ha0 hn0 (by omega) (hfl _ hA.d32) hnd)
 have hux:N.WFx (upT t n) _:=ht.x.attr (x:={ t.nd n with l:=(t.nd n).l+1,c:=N.more (t.nd n).c }) n2 rfl rfl fun e=>absurd e hk2
 have hud:(upT t n).nd (N.aboveT t qq).dir=t.nd (N.aboveT t qq).dir:=up_ne (Ne.symm hnd)
 have HLK:Hid (∀ W,Below w.heap.size w W→Calls Tryz.prog 31 #[.pointer (some ⟨p,0,none⟩),.int .i64 n,.agg (D.nc (y n).up).toArray,.int .i64 1] W fun e w1=>e=.returned (.int .i64 0)∧Chg [q] W w1∧∀ W1 B v,Below w1.heap.size w1 W1→Wy W1 B v (N.aboveT t qq).dir →
   Calls Tryz.prog 25 #[.agg #[.pointer (some ⟨p,0,none⟩),v,.string (E.bs (N.aboveT t qq).name),.int .i64 0],.int .i64 (n:Int)] W1 fun e w2=>∃ er,e=.returned (.int .i64 er)∧Chg [q] W1 w2 ∧
    ((er=0∧∃ m' y' f' C',St w0 w2 p d Ns q ep O s X m' y' f' C' (N.addT (upT t n) (N.aboveT t qq).dir (N.aboveT t qq).name n)∧KS (k+3) m')∨(er=10∧Below w0.heap.size w0 w2))):=fun W hb=>by
  refine (nlink_yes (l':=(t.nd n).l+1) (h.below hb) n1 n2 hk1 (by omega) (by omega) (by omega) hks (by omega)).mono ?_
  rintro e w1 ⟨rfl,m1,y1,fa,C1,a1,a2,a3⟩
  refine ⟨rfl,a3,fun W1 B v hb1 hw=>?_⟩
  refine (come_yes (a1.below hb1) hux hw hA.d1 hA.d32 (by show ((upT t n).nd _).k=2;rw [hud];exact hA.dk) (by
   show N.fullT (upT t n) _=false
   unfold N.fullT
   rw [hud]
   exact hfl _ hA.d32) (.inr ⟨hnmB,n,rfl,n1',n2,by show ((upT t n).nd n).k≠0;rw [up_k];omega⟩) a2 hkl 0).mono ?_
  rintro e w2 ⟨er,rfl,⟨rfl,m2,y2,fb,C2,b1,b2,b3,b4,b5⟩ | ⟨rfl,_,_,_,⟨m2,b4⟩,b5⟩⟩
  ·exact ⟨0,rfl,b5,.inl ⟨rfl,m2,y2,fb,C2,⟨b1,b2,b3⟩,b4⟩⟩
  ·exact ⟨10,rfl,b5,.inr ⟨rfl,b4.ons.sit.bel⟩⟩
 have HSTT:=Lib.hid (fun W m' y' f' C' (h:St w0 W p d Ns q ep O s X m' y' f' C' (N.addT (upT t n) (N.aboveT t qq).dir (N.aboveT t qq).name n))=>nst_any (n:=n) h n1 n2)
 clear h ht hks hfl hnames hyk hyl hwq n3 hte ha0 hA hlen hnd h255 hok hux hud hnmB hk1 n1'
 generalize N.addT (upT t n) (N.aboveT t qq).dir (N.aboveT t qq).name n=t' at *
 generalize N.stT t' n=sv at *
 generalize y n=yn at *
 obtain ⟨a0,a1,a2⟩:=D.box1 w (Obj.cells z6 28)
 have A0:=Lib.hid a0
 have A1:=Lib.hid a1
 clear a0 a1 a2
 go_enter Tryz.func12,Tryz.ntmps12
 go_wp2_with fail
 refine (HBR.out _ A1.out).mono ?_
 rintro e w1 ⟨rfl,hb⟩
 have G1:=Lib.hid ((hb.block w.heap.size (by simp)).trans A0.out)
 have hlt1:w.heap.size<w1.heap.size:=Nat.lt_of_lt_of_le (by simp) hb.size
 have HB1:=Lib.hid (A1.out.trans (hb.mono (by simp)))
 clear hb HBR
 go_wp2_with fail
 refine (HEN.out w1 HB1.out).mono ?_
 rintro e w2 ⟨rfl,hb⟩
 have G2:=Lib.hid ((hb.block w.heap.size hlt1).trans G1.out)
 have hlt2:w.heap.size<w2.heap.size:=Nat.lt_of_lt_of_le hlt1 hb.size
 have HB2:=Lib.hid (HB1.out.trans (hb.mono HB1.out.size))
 clear hb
 go_wp2_with fail
 refine (HND.out w2 HB2.out).mono ?_
 rintro e w3 ⟨rfl,hb⟩
 obtain ⟨b0,b1,b2⟩:=D.box1 w3 (Obj.cells (D.nc yn.up).toArray 66)
 have hb2:=hb.trans (b1.mono hb.size)
 have N4:=Lib.hid b0
 have G4:=Lib.hid ((hb2.block w.heap.size hlt2).trans G2.out)
 have HB4:=Lib.hid (HB2.out.trans (hb2.mono HB2.out.size))
 have hlt3:w.heap.size<w3.heap.size:=Nat.lt_of_lt_of_le hlt2 hb.size
 have hlt4:w3.heap.size<(w3.alloc (Obj.cells (D.nc yn.up).toArray 66)).heap.size:=by rw [b2];omega
 clear b0 b1 b2 hb hb2 HEN HND
 go_upto_region 10 with (first | (refine wpList_store_new rfl 66 _ _ rfl w3 D.z11 (D.nc yn.up).toArray rfl rfl s47 rfl (all_oneCell_toArray (D.nc_one _)) ?_) | fail)
 generalize w3.alloc (Obj.cells (D.nc yn.up).toArray 66)=W4 at *
 have c0:W4.cell? ⟨w3.heap.size,0,none⟩=some (.int .i64 yn.up.k):=cell_of_row _ _ 0 _ _ _ N4.out
 go_wp2_with fail
 clear c0
 refine (HTK.out W4 HB4.out).mono ?_
 rintro e w5 (⟨_,_,v,rfl,ho,hb⟩ | ⟨hne,_⟩)
 rotate_left 1
 ·exact absurd rfl hne
 have hWy:=HWY.out w5 _ v ho
 obtain ⟨g,c,hv,hg1,hg2,hc1,hc2,hcell⟩:=ownI_slice ho HNE.out
 clear hcell hc1 hc2 HWY HTK ho
 subst hv
 generalize (wayT t qq.1.dropLast 1).length=L at *
 generalize (N.aboveT t qq).dir=dir at *
 generalize (N.aboveT t qq).name=nm at *
 generalize (N.aboveT t qq).node=nn at *
 subst hn0
 obtain ⟨b0,b1,b2⟩:=D.box1 w5 (Obj.cells (plc (some ⟨p,0,none⟩) (.slice (some ⟨g,0,none⟩) L c) (E.bs nm) 0) 56)
 have hb2:=hb.trans (b1.mono hb.size)
 have P6:=Lib.hid b0
 have HWy:=Lib.hid (hWy.below b1)
 have G6:=Lib.hid ((hb2.block w.heap.size (by omega)).trans G4.out)
 have N6:=Lib.hid ((hb2.block w3.heap.size hlt4).trans N4.out)
 have HB6:=Lib.hid (HB4.out.trans (hb2.mono HB4.out.size))
 have hlt5:w3.heap.size<w5.heap.size:=Nat.lt_of_lt_of_le hlt4 hb.size
 have hlt6:w5.heap.size<(w5.alloc (Obj.cells (plc (some ⟨p,0,none⟩) (.slice (some ⟨g,0,none⟩) L c) (E.bs nm) 0) 56)).heap.size:=by simp
 clear b0 b1 b2 hWy hb hb2
 go_upto_region 15 with (first | (refine D.wpList_store_new rfl 56 _ _ rfl w5 z56 (plc (some ⟨p,0,none⟩) (.slice (some ⟨g,0,none⟩) L c) (E.bs nm) 0) rfl rfl (s56 _ _ _ _) rfl (plc_one _ _ _ _ _ _) ?_) | fail)
 generalize w5.alloc (Obj.cells (plc (some ⟨p,0,none⟩) (.slice (some ⟨g,0,none⟩) L c) (E.bs nm) 0) 56)=W6 at *
 have c1:W6.cell? ⟨w3.heap.size,1,none⟩=some (.int .i64 yn.up.l):=cell_of_row _ _ 1 _ _ _ N6.out
 go_upto_region 17 with fail
 clear c1
 go_wp2_with (first | (refine D.wpList_load_row rfl 66 _ rfl w3.heap.size rfl _ _ _ N6.out _ Tryz.underlying66 rfl s47 ?_) | fail)
 refine (HLK.out W6 HB6.out).mono ?_
 rintro e w7 ⟨rfl,hc,hcm⟩
 have P7:=Lib.hid ((hc.block w5.heap.size hlt6 (by simp;omega)).trans P6.out)
 have G7:=Lib.hid ((hc.block w.heap.size (by omega) (by simp;omega)).trans G6.out)
 have HWy7:=Lib.hid (HWy.out.chg hc (by omega))
 have HC7:Hid (Chg [q] w w7):=(Chg.of_below HB6.out).tr hc
 have hlt7:w5.heap.size<w7.heap.size:=Nat.lt_of_lt_of_le hlt6 hc.size
 have HCM:=Lib.hid (hcm w7 _ _ (Below.refl _ _) HWy7.out)
 clear hc hcm HLK HWy
 go_wp2_with (first | (refine D.wpList_load_row rfl 56 _ rfl w5.heap.size rfl _ _ _ P7.out _ Tryz.underlying56 rfl (s56 _ _ _ _) ?_) | fail)
 refine HCM.out.mono ?_
 rintro e w8 ⟨er,rfl,hc,hq⟩
 have G8:=Lib.hid ((hc.block w.heap.size (by omega) (by simp;omega)).trans G7.out)
 have HC8:Hid (Chg [q] w w8):=HC7.out.tr hc
 have hlt8:w.heap.size<w8.heap.size:=Nat.lt_of_lt_of_le (by omega) hc.size
 clear hc HCM
 rcases hq with ⟨rfl,m',y',f',C',q1,q2⟩ | ⟨rfl,q1⟩
 ·have HQ1:=Lib.hid q1
  have HQ2:=Lib.hid q2
  have HST8:=Lib.hid (HSTT.out _ _ _ _ _ q1)
  clear q1 q2 HSTT
  go_wp2_with fail
  refine HST8.out.mono ?_
  rintro e w9 ⟨rfl,hb⟩
  have G9:=Lib.hid ((hb.block w.heap.size hlt8).trans G8.out)
  have HC9:Hid (Chg [q] w w9):=HC8.out.tr (Chg.of_below hb)
  have HQ9:=Lib.hid (HQ1.out.below hb)
  clear hb
  go_wp2_with (first | (refine D.wpList_store_row rfl 28 _ _ rfl w.heap.size z6 (stv sv) 28 rfl rfl G9.out (stv_size sv) rfl (stv_one sv) ?_) | fail)
  refine bodyPost_ret (D.ret_row2 rfl rfl (D.setRow_in _ _ _ (stv sv) _ G9.out) Tryz.underlying28 rfl (stv_size sv)) rfl ?_
  rw [HRM.out]
  exact .inl ⟨rfl,rfl,m',y',f',C',HQ9.out.row HLOW.out _,HQ2.out,chg_row HC9.out (Nat.le_refl _) _⟩
 ·have HQ1:=Lib.hid q1
  clear q1 HSTT
  go_wp2_with (first | (refine D.wpList_store_row rfl 28 _ _ rfl w.heap.size z6 z6 28 rfl rfl G8.out z6_size rfl z6_one ?_) | fail)
  refine bodyPost_ret (D.ret_row2 rfl rfl (D.setRow_in _ _ _ z6 _ G8.out) Tryz.underlying28 rfl z6_size) rfl ?_
  exact .inr ⟨10,by decide,rfl,below_setRow HQ1.out HLOW.out.2 _⟩
end
end Go.Proofs.YtkganhafbjgndaaGreatRR.V
