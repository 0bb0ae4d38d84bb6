/- NamesStale, walked: it returns true. -/
import Derived.Test.YtkganhafbjgndaaGreatRRZWd
import Derived.Test.YtkganhafbjgndaaGreatRRZArgs
namespace Go.Proofs.YtkganhafbjgndaaGreatRR.V.namesStale
open Go.RowKit
set_option linter.unusedVariables false
set_option maxRecDepth 20000
def T1 (s:N.Nm):N.Tr:=N.tw 1 (N.dr 1 [(s,2)]) (N.nr 1 1 1 1)
def T2:N.Tr:=N.tw 1 (N.dr 2 [N.emp]) (N.nr 0 0 1 2)
theorem flat0:N.Flat N.tr0:=fun n h1 h2=>by
 rw [N.tr0_tw]
 by_cases e:n=2
 ·subst e;show (0:Nat)≠2;omega
 ·rw [N.tw_ne (by omega) e];show (0:Nat)≠2;omega
theorem flat2:N.Flat T2:=fun n h1 h2=>by
 by_cases e:n=2
 ·subst e;show (0:Nat)≠2;omega
 ·unfold T2;rw [N.tw_ne (by omega) e];show (0:Nat)≠2;omega
theorem made_err {t:N.Tr} {q:List N.Nm × Int} {k:Int} (hk:k=1∨k=2) (h:(N.makeT t q k).2.2=0):(N.aboveT t q).err=0:=by
 refine Decidable.byContradiction fun e=>e ?_
 unfold N.makeT at h
 rw [if_neg (by omega),if_pos e] at h
 exact h
theorem made {t:N.Tr} {ex:Nat→Int} {q:List N.Nm × Int} {k:Int} (ht:N.WFx t ex) (hf:N.Flat t) (hk:k=1∨k=2) (hq:∀ s∈q.1,N.nameB s=true) (h:(N.makeT t q k).2.2=0):∃ s,q=([s],0)∧N.nameB s=true:=by
 obtain ⟨s,e,_,_⟩:=N.flat_above ht hf (made_err hk h)
 exact ⟨s,e,hq s (by rw [e];simp)⟩
theorem m1 (s:N.Nm):N.makeT N.tr0 ([s],0) 1=(T1 s,⟨2,1,1,1,0,1⟩,0):=by
 have hf:N.find ([]:List N.Rw) s=none:=by unfold N.find;split<;>rfl
 rw [N.tr0_tw]
 exact N.make_tw rfl rfl (by omega) hf (by decide) (.inl rfl)
theorem r1 {s:N.Nm} (hs:s≠[]):N.rmT (T1 s) ([s],0)=(T2,N.stT (T1 s) 2,0):=N.rm_tw (i:=0) rfl rfl (N.find_one hs) rfl
theorem m2 (s:N.Nm) {k:Int} (hk:k=1∨k=2):N.makeT T2 ([s],0) k=(N.tw 2 (N.dr 3 [(s,2)]) (N.nr k.toNat 1 2 3),⟨2,2,k.toNat,1,0,3⟩,0):=N.make_tw rfl rfl (by omega) (N.find_emp s) (by decide) hk
theorem y1 (s:N.Nm):N.byT (T1 s) 2 1=(⟨2,1,1,1,0,1⟩,0):=N.by_tw_yes (b:=N.nr 1 1 1 1) (by decide)
theorem y2:N.byT T2 2 1=(N.st0,18):=N.by_tw_no (.inl rfl)
theorem y3 (s:N.Nm) (k:Nat):N.byT (N.tw 2 (N.dr 3 [(s,2)]) (N.nr k 1 2 3)) 2 1=(N.st0,18):=N.by_tw_no (.inr (by decide:((2:Nat):Int)≠1))
theorem full2:∀ j,j<32→N.fullT T2 j=false:=by decide +kernel
theorem sec2:secsT T2=1:=by decide +kernel
theorem sv_lit (a b c d e f:Nat):stv ⟨a,b,c,d,e,f⟩=#[.int .i64 (a:Int),.int .i64 (b:Int),.int .i64 (c:Int),.int .i64 (d:Int),.int .i64 (e:Int),.int .i64 (f:Int)]:=rfl
set_option maxHeartbeats 16000000 in
theorem walk (w:World) (p0 q0:List UInt8) (again:Bool):Calls Tryz.prog 3 #[.string (P.bs p0),.string (P.bs q0),.bool again] w fun e w'=>e=.returned (.bool true)∧Below w.heap.size w w':=by
 have HBG:Hid (Calls Tryz.prog 6 #[.int .i64 100] w fun e w'=>∃ d p q O s,e=.returned (.pointer (some ⟨p,0,none⟩))∧St w w' p d 100 q 1 O s (Xb 100) [] y0 (fun _ _=>0) (fun _ _=>0) N.tr0):=begin_st 100 w (by omega) (by omega)
 have hnp:∀ s∈(P.split p0).1,N.nameB s=true:=List.all_eq_true.1 (P.split_good p0).1
 have hnq:∀ s∈(P.split q0).1,N.nameB s=true:=List.all_eq_true.1 (P.split_good q0).1
 go_enter Tryz.func3,Tryz.ntmps3
 go_wp2_with fail
 refine HBG.out.mono ?_
 rintro e w1 ⟨d,p,q,O,s,rfl,hs⟩
 have HS1:=Lib.hid hs
 clear hs HBG
 go_wp2_with fail
 refine (awake_any _).mono ?_
 rintro e w2 ⟨rfl,hb⟩
 have HS2:=Lib.hid (HS1.out.below hb)
 have hq2:=HS2.out.sto.map.lt
 have HM1:=Lib.hid (make_any (kn:=1) HS2.out N.tr0_wf p0 (.inl rfl) (by decide) Aw.r0 KS.nil (by omega))
 clear hb HS1
 go_wp2_with fail
 refine HM1.out.mono ?_
 rintro e w3 ((⟨h0,rfl,m3,ya,fa,Ca,h1,h2,h3⟩ | ⟨h0,rfl,hb⟩) | ⟨_,h1,_⟩)
 rotate_left 1
 ·have HW:=Lib.hid (HS2.out.sto.ons.sit.bel.trans (hb.mono HS2.out.sto.ons.sit.bel.size))
  have he:((N.makeT N.tr0 (P.split p0) ((1:Nat):Int)).2.2 != 0)=true:=by rw [bne_iff_ne];exact h0
  clear hb h0 HM1 HS2
  generalize (N.makeT N.tr0 (P.split p0) ((1:Nat):Int)).2.2=er at *
  obtain ⟨b0,b1,b2⟩:=D.box1 w3 (Obj.cells z6 28)
  have HW2:=Lib.hid (HW.out.trans (b1.mono HW.out.size))
  clear b0 b1 b2
  go_upto_region 5 with (first | (refine D.wpList_store_new rfl 28 _ _ rfl w3 z6 (stv N.st0) rfl rfl (stv_size N.st0) rfl (stv_one N.st0) ?_) | fail)
  have e0:stv N.st0=z6:=rfl
  rw [e0]
  generalize w3.alloc (Obj.cells z6 28)=W3 at *
  go_wp2_with fail
  go_ret
  exact ⟨rfl,HW2.out⟩
 ·rw [Aw.k0] at h1
  omega
 obtain ⟨s1,hsp,hsn⟩:=made N.tr0_wf.x flat0 (.inl rfl) hnp h0
 have hs1:s1≠[]:=N.name_ne hsn
 rw [hsp] at h1 h0 HM1
 rw [show N.makeT N.tr0 ([s1],0) ((1:Nat):Int)=(T1 s1,⟨2,1,1,1,0,1⟩,0) from m1 s1] at h1
 have e1:stv (N.makeT N.tr0 (P.split p0) ((1:Nat):Int)).2.1=#[.int .i64 2,.int .i64 1,.int .i64 1,.int .i64 1,.int .i64 0,.int .i64 1]:=by rw [hsp,show N.makeT N.tr0 ([s1],0) ((1:Nat):Int)=(T1 s1,⟨2,1,1,1,0,1⟩,0) from m1 s1];rfl
 rw [e1]
 have hwf1:N.WF (T1 s1):=by
  have:=N.make_wf N.tr0_wf (q:=([s1],0)) (k:=1) (fun x hx=>by simp at hx;rw [hx];exact hsn) (by rw [m1])
  rw [m1] at this
  exact this
 have hwf2:N.WF T2:=by
  have:=N.rm_wf hwf1 (q:=([s1],0)) (by rw [r1 hs1])
  rw [r1 hs1] at this
  exact this
 have HW1:=Lib.hid hwf1
 have HW2:=Lib.hid hwf2
 have hs23:=h3.size
 obtain ⟨b0,b1,b2⟩:=D.box1 w3 (Obj.cells #[.int .i64 2,.int .i64 1,.int .i64 1,.int .i64 1,.int .i64 0,.int .i64 1] 28)
 have A0:=Lib.hid b0
 have HT1:Hid (St w (w3.alloc (Obj.cells #[.int .i64 2,.int .i64 1,.int .i64 1,.int .i64 1,.int .i64 0,.int .i64 1] 28)) p d 100 q 1 O s (Xb 100) m3 ya fa Ca (T1 s1)):=h1.below b1
 have HK1:=Lib.hid h2
 have hlt0:w3.heap.size<(w3.alloc (Obj.cells #[.int .i64 2,.int .i64 1,.int .i64 1,.int .i64 1,.int .i64 0,.int .i64 1] 28)).heap.size:=by simp
 have HSP:=Lib.hid hsp
 have HSN:=Lib.hid hs1
 clear b0 b1 b2 h0 h1 h2 h3 HM1 HS2 hwf1 hwf2 hs1 e1 hsp hsn hnp
 go_upto_region 7 with (first | (refine D.wpList_store_new rfl 28 _ _ rfl w3 z6 #[.int .i64 2,.int .i64 1,.int .i64 1,.int .i64 1,.int .i64 0,.int .i64 1] rfl rfl z6_size rfl (by kernel_rfl) ?_) | fail)
 generalize w3.alloc (Obj.cells #[.int .i64 2,.int .i64 1,.int .i64 1,.int .i64 1,.int .i64 0,.int .i64 1] 28)=W0 at *
 have c0:W0.cell? ⟨w3.heap.size,0,none⟩=some (.int .i64 2):=cell_of_row _ _ 0 _ _ _ A0.out
 have c1:W0.cell? ⟨w3.heap.size,1,none⟩=some (.int .i64 1):=cell_of_row _ _ 1 _ _ _ A0.out
 have HB1:=Lib.hid (by_any HT1.out 2 1)
 rw [y1] at HB1
 go_wp2_with fail
 clear c0 c1
 refine HB1.out.mono ?_
 rintro e v1 ⟨rfl,hb⟩
 rw [show stv (⟨2,1,1,1,0,1⟩:N.St)=#[.int .i64 2,.int .i64 1,.int .i64 1,.int .i64 1,.int .i64 0,.int .i64 1] from rfl]
 have hbx:=hb.trans ((D.box1 v1 (Obj.cells #[.int .i64 2,.int .i64 1,.int .i64 1,.int .i64 1,.int .i64 0,.int .i64 1] 28)).2.1.mono hb.size)
 have A1:=Lib.hid ((hbx.block w3.heap.size hlt0).trans A0.out)
 have B1:=Lib.hid (D.box1 v1 (Obj.cells #[.int .i64 2,.int .i64 1,.int .i64 1,.int .i64 1,.int .i64 0,.int .i64 1] 28)).1
 have HT2:=Lib.hid (HT1.out.below hbx)
 have hlt1:v1.heap.size<(v1.alloc (Obj.cells #[.int .i64 2,.int .i64 1,.int .i64 1,.int .i64 1,.int .i64 0,.int .i64 1] 28)).heap.size:=by simp
 have hl01:w3.heap.size<v1.heap.size:=Nat.lt_of_lt_of_le hlt0 hb.size
 clear hb hbx A0 HT1 HB1
 go_upto_region 8 with (first | (refine D.wpList_store_new rfl 28 _ _ rfl v1 z6 #[.int .i64 2,.int .i64 1,.int .i64 1,.int .i64 1,.int .i64 0,.int .i64 1] rfl rfl z6_size rfl (by kernel_rfl) ?_) | fail)
 generalize v1.alloc (Obj.cells #[.int .i64 2,.int .i64 1,.int .i64 1,.int .i64 1,.int .i64 0,.int .i64 1] 28)=W1 at *
 have HU:=Lib.hid (unlink_any HT2.out HW1.out p0 HK1.out (by omega))
 rw [HSP.out,r1 HSN.out] at HU
 go_wp2_with fail
 refine HU.out.mono ?_
 rintro e v2 (⟨_,rfl,m4,yb,fb,Cb,h1,h2,h3⟩ | ⟨h0,_⟩)
 rotate_left 1
 ·exact absurd rfl h0
 have hb2:=(D.box1 v2 (Obj.cells (stv (N.stT (T1 s1) 2)) 28)).2.1
 have A2:=Lib.hid ((hb2.block w3.heap.size (Nat.lt_of_lt_of_le (by omega) h3.size)).trans ((h3.block w3.heap.size (by omega) (by simp;omega)).trans A1.out))
 have B2:=Lib.hid ((hb2.block v1.heap.size (Nat.lt_of_lt_of_le hlt1 h3.size)).trans ((h3.block v1.heap.size hlt1 (by simp;omega)).trans B1.out))
 have HT3:Hid (St w (v2.alloc (Obj.cells (stv (N.stT (T1 s1) 2)) 28)) p d 100 q 1 O s (Xb 100) m4 yb fb Cb T2):=h1.below hb2
 have HK3:=Lib.hid h2
 have hl12:v1.heap.size<v2.heap.size:=Nat.lt_of_lt_of_le hlt1 h3.size
 have hlt2:v2.heap.size<(v2.alloc (Obj.cells (stv (N.stT (T1 s1) 2)) 28)).heap.size:=by simp
 clear h1 h2 h3 hb2 A1 B1 HT2 HK1 HU
 dsimp only
 generalize N.stT (T1 s1) 2=sv at *
 go_upto_region 9 with (first | (refine D.wpList_store_new rfl 28 _ _ rfl v2 z6 (stv sv) rfl rfl (stv_size sv) rfl (stv_one sv) ?_) | fail)
 generalize v2.alloc (Obj.cells (stv sv) 28)=W2 at *
 have c0:W2.cell? ⟨w3.heap.size,0,none⟩=some (.int .i64 2):=cell_of_row _ _ 0 _ _ _ A2.out
 have c1:W2.cell? ⟨w3.heap.size,1,none⟩=some (.int .i64 1):=cell_of_row _ _ 1 _ _ _ A2.out
 have HB2:=Lib.hid (by_any HT3.out 2 1)
 rw [y2] at HB2
 go_wp2_with fail
 clear c0 c1
 refine HB2.out.mono ?_
 rintro e v3 ⟨rfl,hb⟩
 rw [show stv N.st0=z6 from rfl]
 have hbx:=hb.trans ((D.box1 v3 (Obj.cells z6 28)).2.1.mono hb.size)
 have A3:=Lib.hid ((hbx.block w3.heap.size (by omega)).trans A2.out)
 have B3:=Lib.hid ((hbx.block v1.heap.size (by omega)).trans B2.out)
 have HT4:=Lib.hid (HT3.out.below hbx)
 have hl23:v2.heap.size<v3.heap.size:=Nat.lt_of_lt_of_le hlt2 hb.size
 have hlt3:v3.heap.size<(v3.alloc (Obj.cells z6 28)).heap.size:=by simp
 clear hb hbx A2 B2 HT3 HB2
 go_upto_region 10 with (first | (refine D.wpList_store_new rfl 28 _ _ rfl v3 z6 z6 rfl rfl z6_size rfl z6_one ?_) | fail)
 generalize v3.alloc (Obj.cells z6 28)=W3 at *
 cases again with
 | false =>
  have HM2:=Lib.hid (make_any (kn:=1) HT4.out HW2.out q0 (.inl rfl) (by decide) full2 HK3.out (by omega))
  go_wp2_with fail
  refine HM2.out.mono ?_
  rintro e v4 ((⟨h0,rfl,m5,yc,fc,Cc,h1,h2,h3⟩ | ⟨h0,rfl,hb⟩) | ⟨_,h1,_⟩)
  rotate_left 2
  ·rw [sec2] at h1
   omega
  ·obtain ⟨s2,hsq,_⟩:=made HW2.out.x flat2 (.inl rfl) hnq h0
   rw [hsq] at h1
   rw [show N.makeT T2 ([s2],0) ((1:Nat):Int)=(N.tw 2 (N.dr 3 [(s2,2)]) (N.nr 1 1 2 3),⟨2,2,1,1,0,3⟩,0) from m2 s2 (.inl rfl)] at h1
   have e1:stv (N.makeT T2 (P.split q0) ((1:Nat):Int)).2.1=#[.int .i64 2,.int .i64 2,.int .i64 1,.int .i64 1,.int .i64 0,.int .i64 3]:=by rw [hsq,show N.makeT T2 ([s2],0) ((1:Nat):Int)=(N.tw 2 (N.dr 3 [(s2,2)]) (N.nr 1 1 2 3),⟨2,2,1,1,0,3⟩,0) from m2 s2 (.inl rfl)];rfl
   rw [e1]
   have hb4:=(D.box1 v4 (Obj.cells #[.int .i64 2,.int .i64 2,.int .i64 1,.int .i64 1,.int .i64 0,.int .i64 3] 28)).2.1
   have A5:=Lib.hid ((hb4.block w3.heap.size (Nat.lt_of_lt_of_le (by omega) h3.size)).trans ((h3.block w3.heap.size (by omega) (by simp;omega)).trans A3.out))
   have B5:=Lib.hid ((hb4.block v1.heap.size (Nat.lt_of_lt_of_le (by omega) h3.size)).trans ((h3.block v1.heap.size (by omega) (by simp;omega)).trans B3.out))
   have C5:=Lib.hid (D.box1 v4 (Obj.cells #[.int .i64 2,.int .i64 2,.int .i64 1,.int .i64 1,.int .i64 0,.int .i64 3] 28)).1
   have HT5:=Lib.hid (h1.below hb4)
   have hl34:v3.heap.size<v4.heap.size:=Nat.lt_of_lt_of_le hlt3 h3.size
   have hlt4:v4.heap.size<(v4.alloc (Obj.cells #[.int .i64 2,.int .i64 2,.int .i64 1,.int .i64 1,.int .i64 0,.int .i64 3] 28)).heap.size:=by simp
   clear h0 h1 h2 h3 hb4 A3 B3 HT4 HK3 HM2 e1 hsq hnq
   go_upto_region 14 with (first | (refine D.wpList_store_new rfl 28 _ _ rfl v4 z6 #[.int .i64 2,.int .i64 2,.int .i64 1,.int .i64 1,.int .i64 0,.int .i64 3] rfl rfl z6_size rfl (by kernel_rfl) ?_) | fail)
   generalize v4.alloc (Obj.cells #[.int .i64 2,.int .i64 2,.int .i64 1,.int .i64 1,.int .i64 0,.int .i64 3] 28)=W4 at *
   have c0:W4.cell? ⟨w3.heap.size,0,none⟩=some (.int .i64 2):=cell_of_row _ _ 0 _ _ _ A5.out
   have c1:W4.cell? ⟨w3.heap.size,1,none⟩=some (.int .i64 1):=cell_of_row _ _ 1 _ _ _ A5.out
   have HB3:=Lib.hid (by_any HT5.out 2 1)
   rw [y3] at HB3
   go_wp2_with fail
   clear c0 c1
   refine HB3.out.mono ?_
   rintro e v5 ⟨rfl,hb⟩
   rw [show stv N.st0=z6 from rfl]
   have hbx:=hb.trans ((D.box1 v5 (Obj.cells z6 28)).2.1.mono hb.size)
   have A6:=(hbx.block w3.heap.size (by omega)).trans A5.out
   have B6:=(hbx.block v1.heap.size (by omega)).trans B5.out
   have C6:=(hbx.block v4.heap.size hlt4).trans C5.out
   have HBW:Hid (Below w.heap.size w (v5.alloc (Obj.cells z6 28))):=(HT5.out.below hbx).sto.ons.sit.bel
   clear hb hbx A5 B5 C5 HT5 HB3
   go_upto_region 15 with (first | (refine D.wpList_store_new rfl 28 _ _ rfl v5 z6 z6 rfl rfl z6_size rfl z6_one ?_) | fail)
   generalize v5.alloc (Obj.cells z6 28)=W5 at *
   have a0:W5.cell? ⟨w3.heap.size,0,none⟩=some (.int .i64 2):=cell_of_row _ _ 0 _ _ _ A6
   have a1:W5.cell? ⟨w3.heap.size,1,none⟩=some (.int .i64 1):=cell_of_row _ _ 1 _ _ _ A6
   have a2:W5.cell? ⟨w3.heap.size,2,none⟩=some (.int .i64 1):=cell_of_row _ _ 2 _ _ _ A6
   have a3:W5.cell? ⟨w3.heap.size,3,none⟩=some (.int .i64 1):=cell_of_row _ _ 3 _ _ _ A6
   have a4:W5.cell? ⟨w3.heap.size,4,none⟩=some (.int .i64 0):=cell_of_row _ _ 4 _ _ _ A6
   have a5:W5.cell? ⟨w3.heap.size,5,none⟩=some (.int .i64 1):=cell_of_row _ _ 5 _ _ _ A6
   have b0:W5.cell? ⟨v1.heap.size,0,none⟩=some (.int .i64 2):=cell_of_row _ _ 0 _ _ _ B6
   have b1:W5.cell? ⟨v1.heap.size,1,none⟩=some (.int .i64 1):=cell_of_row _ _ 1 _ _ _ B6
   have b2:W5.cell? ⟨v1.heap.size,2,none⟩=some (.int .i64 1):=cell_of_row _ _ 2 _ _ _ B6
   have b3:W5.cell? ⟨v1.heap.size,3,none⟩=some (.int .i64 1):=cell_of_row _ _ 3 _ _ _ B6
   have b4:W5.cell? ⟨v1.heap.size,4,none⟩=some (.int .i64 0):=cell_of_row _ _ 4 _ _ _ B6
   have b5:W5.cell? ⟨v1.heap.size,5,none⟩=some (.int .i64 1):=cell_of_row _ _ 5 _ _ _ B6
   have d0:W5.cell? ⟨v4.heap.size,0,none⟩=some (.int .i64 2):=cell_of_row _ _ 0 _ _ _ C6
   have d1:W5.cell? ⟨v4.heap.size,1,none⟩=some (.int .i64 2):=cell_of_row _ _ 1 _ _ _ C6
   clear A6 B6 C6
   go_wp2_with fail
   go_ret
   exact ⟨rfl,HBW.out⟩
  ·have he:((N.makeT T2 (P.split q0) ((1:Nat):Int)).2.2 != 0)=true:=by rw [bne_iff_ne];exact h0
   rw [show stv N.st0=z6 from rfl]
   have hb4:=hb.trans ((D.box1 v4 (Obj.cells z6 28)).2.1.mono hb.size)
   have A5:=Lib.hid ((hb4.block w3.heap.size (by omega)).trans A3.out)
   have B5:=Lib.hid ((hb4.block v1.heap.size (by omega)).trans B3.out)
   have C5:=Lib.hid (D.box1 v4 (Obj.cells z6 28)).1
   have HT5:=Lib.hid (HT4.out.below hb4)
   have hl34:v3.heap.size<v4.heap.size:=Nat.lt_of_lt_of_le hlt3 hb.size
   have hlt4:v4.heap.size<(v4.alloc (Obj.cells z6 28)).heap.size:=by simp
   clear h0 hb hb4 A3 B3 HT4 HK3 HM2 hnq
   generalize (N.makeT T2 (P.split q0) ((1:Nat):Int)).2.2=er at *
   go_upto_region 14 with (first | (refine D.wpList_store_new rfl 28 _ _ rfl v4 z6 z6 rfl rfl z6_size rfl z6_one ?_) | fail)
   generalize v4.alloc (Obj.cells z6 28)=W4 at *
   have c0:W4.cell? ⟨w3.heap.size,0,none⟩=some (.int .i64 2):=cell_of_row _ _ 0 _ _ _ A5.out
   have c1:W4.cell? ⟨w3.heap.size,1,none⟩=some (.int .i64 1):=cell_of_row _ _ 1 _ _ _ A5.out
   have HB3:=Lib.hid (by_any HT5.out 2 1)
   rw [y2] at HB3
   go_wp2_with fail
   clear c0 c1
   refine HB3.out.mono ?_
   rintro e v5 ⟨rfl,hb⟩
   rw [show stv N.st0=z6 from rfl]
   have hbx:=hb.trans ((D.box1 v5 (Obj.cells z6 28)).2.1.mono hb.size)
   have A6:=(hbx.block w3.heap.size (by omega)).trans A5.out
   have B6:=(hbx.block v1.heap.size (by omega)).trans B5.out
   have C6:=(hbx.block v4.heap.size hlt4).trans C5.out
   have HBW:Hid (Below w.heap.size w (v5.alloc (Obj.cells z6 28))):=(HT5.out.below hbx).sto.ons.sit.bel
   clear hb hbx A5 B5 C5 HT5 HB3
   go_upto_region 15 with (first | (refine D.wpList_store_new rfl 28 _ _ rfl v5 z6 z6 rfl rfl z6_size rfl z6_one ?_) | fail)
   generalize v5.alloc (Obj.cells z6 28)=W5 at *
   have a0:W5.cell? ⟨w3.heap.size,0,none⟩=some (.int .i64 2):=cell_of_row _ _ 0 _ _ _ A6
   have a1:W5.cell? ⟨w3.heap.size,1,none⟩=some (.int .i64 1):=cell_of_row _ _ 1 _ _ _ A6
   have a2:W5.cell? ⟨w3.heap.size,2,none⟩=some (.int .i64 1):=cell_of_row _ _ 2 _ _ _ A6
   have a3:W5.cell? ⟨w3.heap.size,3,none⟩=some (.int .i64 1):=cell_of_row _ _ 3 _ _ _ A6
   have a4:W5.cell? ⟨w3.heap.size,4,none⟩=some (.int .i64 0):=cell_of_row _ _ 4 _ _ _ A6
   have a5:W5.cell? ⟨w3.heap.size,5,none⟩=some (.int .i64 1):=cell_of_row _ _ 5 _ _ _ A6
   have b0:W5.cell? ⟨v1.heap.size,0,none⟩=some (.int .i64 2):=cell_of_row _ _ 0 _ _ _ B6
   have b1:W5.cell? ⟨v1.heap.size,1,none⟩=some (.int .i64 1):=cell_of_row _ _ 1 _ _ _ B6
   have b2:W5.cell? ⟨v1.heap.size,2,none⟩=some (.int .i64 1):=cell_of_row _ _ 2 _ _ _ B6
   have b3:W5.cell? ⟨v1.heap.size,3,none⟩=some (.int .i64 1):=cell_of_row _ _ 3 _ _ _ B6
   have b4:W5.cell? ⟨v1.heap.size,4,none⟩=some (.int .i64 0):=cell_of_row _ _ 4 _ _ _ B6
   have b5:W5.cell? ⟨v1.heap.size,5,none⟩=some (.int .i64 1):=cell_of_row _ _ 5 _ _ _ B6
   clear A6 B6 C6
   go_wp2_with fail
   go_ret
   exact ⟨rfl,HBW.out⟩
 | true =>
  have HM2:=Lib.hid (make_any (kn:=2) HT4.out HW2.out q0 (.inr rfl) (by decide) full2 HK3.out (by omega))
  go_wp2_with fail
  refine HM2.out.mono ?_
  rintro e v4 ((⟨h0,rfl,m5,yc,fc,Cc,h1,h2,h3⟩ | ⟨h0,rfl,hb⟩) | ⟨_,h1,_⟩)
  rotate_left 2
  ·rw [sec2] at h1
   omega
  ·obtain ⟨s2,hsq,_⟩:=made HW2.out.x flat2 (.inr rfl) hnq h0
   rw [hsq] at h1
   rw [show N.makeT T2 ([s2],0) ((2:Nat):Int)=(N.tw 2 (N.dr 3 [(s2,2)]) (N.nr 2 1 2 3),⟨2,2,2,1,0,3⟩,0) from m2 s2 (.inr rfl)] at h1
   have e1:stv (N.makeT T2 (P.split q0) ((2:Nat):Int)).2.1=#[.int .i64 2,.int .i64 2,.int .i64 2,.int .i64 1,.int .i64 0,.int .i64 3]:=by rw [hsq,show N.makeT T2 ([s2],0) ((2:Nat):Int)=(N.tw 2 (N.dr 3 [(s2,2)]) (N.nr 2 1 2 3),⟨2,2,2,1,0,3⟩,0) from m2 s2 (.inr rfl)];rfl
   rw [e1]
   have hb4:=(D.box1 v4 (Obj.cells #[.int .i64 2,.int .i64 2,.int .i64 2,.int .i64 1,.int .i64 0,.int .i64 3] 28)).2.1
   have A5:=Lib.hid ((hb4.block w3.heap.size (Nat.lt_of_lt_of_le (by omega) h3.size)).trans ((h3.block w3.heap.size (by omega) (by simp;omega)).trans A3.out))
   have B5:=Lib.hid ((hb4.block v1.heap.size (Nat.lt_of_lt_of_le (by omega) h3.size)).trans ((h3.block v1.heap.size (by omega) (by simp;omega)).trans B3.out))
   have C5:=Lib.hid (D.box1 v4 (Obj.cells #[.int .i64 2,.int .i64 2,.int .i64 2,.int .i64 1,.int .i64 0,.int .i64 3] 28)).1
   have HT5:=Lib.hid (h1.below hb4)
   have hl34:v3.heap.size<v4.heap.size:=Nat.lt_of_lt_of_le hlt3 h3.size
   have hlt4:v4.heap.size<(v4.alloc (Obj.cells #[.int .i64 2,.int .i64 2,.int .i64 2,.int .i64 1,.int .i64 0,.int .i64 3] 28)).heap.size:=by simp
   clear h0 h1 h2 h3 hb4 A3 B3 HT4 HK3 HM2 e1 hsq hnq
   go_upto_region 14 with (first | (refine D.wpList_store_new rfl 28 _ _ rfl v4 z6 #[.int .i64 2,.int .i64 2,.int .i64 2,.int .i64 1,.int .i64 0,.int .i64 3] rfl rfl z6_size rfl (by kernel_rfl) ?_) | fail)
   generalize v4.alloc (Obj.cells #[.int .i64 2,.int .i64 2,.int .i64 2,.int .i64 1,.int .i64 0,.int .i64 3] 28)=W4 at *
   have c0:W4.cell? ⟨w3.heap.size,0,none⟩=some (.int .i64 2):=cell_of_row _ _ 0 _ _ _ A5.out
   have c1:W4.cell? ⟨w3.heap.size,1,none⟩=some (.int .i64 1):=cell_of_row _ _ 1 _ _ _ A5.out
   have HB3:=Lib.hid (by_any HT5.out 2 1)
   rw [y3] at HB3
   go_wp2_with fail
   clear c0 c1
   refine HB3.out.mono ?_
   rintro e v5 ⟨rfl,hb⟩
   rw [show stv N.st0=z6 from rfl]
   have hbx:=hb.trans ((D.box1 v5 (Obj.cells z6 28)).2.1.mono hb.size)
   have A6:=(hbx.block w3.heap.size (by omega)).trans A5.out
   have B6:=(hbx.block v1.heap.size (by omega)).trans B5.out
   have C6:=(hbx.block v4.heap.size hlt4).trans C5.out
   have HBW:Hid (Below w.heap.size w (v5.alloc (Obj.cells z6 28))):=(HT5.out.below hbx).sto.ons.sit.bel
   clear hb hbx A5 B5 C5 HT5 HB3
   go_upto_region 15 with (first | (refine D.wpList_store_new rfl 28 _ _ rfl v5 z6 z6 rfl rfl z6_size rfl z6_one ?_) | fail)
   generalize v5.alloc (Obj.cells z6 28)=W5 at *
   have a0:W5.cell? ⟨w3.heap.size,0,none⟩=some (.int .i64 2):=cell_of_row _ _ 0 _ _ _ A6
   have a1:W5.cell? ⟨w3.heap.size,1,none⟩=some (.int .i64 1):=cell_of_row _ _ 1 _ _ _ A6
   have a2:W5.cell? ⟨w3.heap.size,2,none⟩=some (.int .i64 1):=cell_of_row _ _ 2 _ _ _ A6
   have a3:W5.cell? ⟨w3.heap.size,3,none⟩=some (.int .i64 1):=cell_of_row _ _ 3 _ _ _ A6
   have a4:W5.cell? ⟨w3.heap.size,4,none⟩=some (.int .i64 0):=cell_of_row _ _ 4 _ _ _ A6
   have a5:W5.cell? ⟨w3.heap.size,5,none⟩=some (.int .i64 1):=cell_of_row _ _ 5 _ _ _ A6
   have b0:W5.cell? ⟨v1.heap.size,0,none⟩=some (.int .i64 2):=cell_of_row _ _ 0 _ _ _ B6
   have b1:W5.cell? ⟨v1.heap.size,1,none⟩=some (.int .i64 1):=cell_of_row _ _ 1 _ _ _ B6
   have b2:W5.cell? ⟨v1.heap.size,2,none⟩=some (.int .i64 1):=cell_of_row _ _ 2 _ _ _ B6
   have b3:W5.cell? ⟨v1.heap.size,3,none⟩=some (.int .i64 1):=cell_of_row _ _ 3 _ _ _ B6
   have b4:W5.cell? ⟨v1.heap.size,4,none⟩=some (.int .i64 0):=cell_of_row _ _ 4 _ _ _ B6
   have b5:W5.cell? ⟨v1.heap.size,5,none⟩=some (.int .i64 1):=cell_of_row _ _ 5 _ _ _ B6
   have d0:W5.cell? ⟨v4.heap.size,0,none⟩=some (.int .i64 2):=cell_of_row _ _ 0 _ _ _ C6
   have d1:W5.cell? ⟨v4.heap.size,1,none⟩=some (.int .i64 2):=cell_of_row _ _ 1 _ _ _ C6
   clear A6 B6 C6
   go_wp2_with fail
   go_ret
   exact ⟨rfl,HBW.out⟩
  ·have he:((N.makeT T2 (P.split q0) ((2:Nat):Int)).2.2 != 0)=true:=by rw [bne_iff_ne];exact h0
   rw [show stv N.st0=z6 from rfl]
   have hb4:=hb.trans ((D.box1 v4 (Obj.cells z6 28)).2.1.mono hb.size)
   have A5:=Lib.hid ((hb4.block w3.heap.size (by omega)).trans A3.out)
   have B5:=Lib.hid ((hb4.block v1.heap.size (by omega)).trans B3.out)
   have C5:=Lib.hid (D.box1 v4 (Obj.cells z6 28)).1
   have HT5:=Lib.hid (HT4.out.below hb4)
   have hl34:v3.heap.size<v4.heap.size:=Nat.lt_of_lt_of_le hlt3 hb.size
   have hlt4:v4.heap.size<(v4.alloc (Obj.cells z6 28)).heap.size:=by simp
   clear h0 hb hb4 A3 B3 HT4 HK3 HM2 hnq
   generalize (N.makeT T2 (P.split q0) ((2:Nat):Int)).2.2=er at *
   go_upto_region 14 with (first | (refine D.wpList_store_new rfl 28 _ _ rfl v4 z6 z6 rfl rfl z6_size rfl z6_one ?_) | fail)
   generalize v4.alloc (Obj.cells z6 28)=W4 at *
   have c0:W4.cell? ⟨w3.heap.size,0,none⟩=some (.int .i64 2):=cell_of_row _ _ 0 _ _ _ A5.out
   have c1:W4.cell? ⟨w3.heap.size,1,none⟩=some (.int .i64 1):=cell_of_row _ _ 1 _ _ _ A5.out
   have HB3:=Lib.hid (by_any HT5.out 2 1)
   rw [y2] at HB3
   go_wp2_with fail
   clear c0 c1
   refine HB3.out.mono ?_
   rintro e v5 ⟨rfl,hb⟩
   rw [show stv N.st0=z6 from rfl]
   have hbx:=hb.trans ((D.box1 v5 (Obj.cells z6 28)).2.1.mono hb.size)
   have A6:=(hbx.block w3.heap.size (by omega)).trans A5.out
   have B6:=(hbx.block v1.heap.size (by omega)).trans B5.out
   have C6:=(hbx.block v4.heap.size hlt4).trans C5.out
   have HBW:Hid (Below w.heap.size w (v5.alloc (Obj.cells z6 28))):=(HT5.out.below hbx).sto.ons.sit.bel
   clear hb hbx A5 B5 C5 HT5 HB3
   go_upto_region 15 with (first | (refine D.wpList_store_new rfl 28 _ _ rfl v5 z6 z6 rfl rfl z6_size rfl z6_one ?_) | fail)
   generalize v5.alloc (Obj.cells z6 28)=W5 at *
   have a0:W5.cell? ⟨w3.heap.size,0,none⟩=some (.int .i64 2):=cell_of_row _ _ 0 _ _ _ A6
   have a1:W5.cell? ⟨w3.heap.size,1,none⟩=some (.int .i64 1):=cell_of_row _ _ 1 _ _ _ A6
   have a2:W5.cell? ⟨w3.heap.size,2,none⟩=some (.int .i64 1):=cell_of_row _ _ 2 _ _ _ A6
   have a3:W5.cell? ⟨w3.heap.size,3,none⟩=some (.int .i64 1):=cell_of_row _ _ 3 _ _ _ A6
   have a4:W5.cell? ⟨w3.heap.size,4,none⟩=some (.int .i64 0):=cell_of_row _ _ 4 _ _ _ A6
   have a5:W5.cell? ⟨w3.heap.size,5,none⟩=some (.int .i64 1):=cell_of_row _ _ 5 _ _ _ A6
   have b0:W5.cell? ⟨v1.heap.size,0,none⟩=some (.int .i64 2):=cell_of_row _ _ 0 _ _ _ B6
   have b1:W5.cell? ⟨v1.heap.size,1,none⟩=some (.int .i64 1):=cell_of_row _ _ 1 _ _ _ B6
   have b2:W5.cell? ⟨v1.heap.size,2,none⟩=some (.int .i64 1):=cell_of_row _ _ 2 _ _ _ B6
   have b3:W5.cell? ⟨v1.heap.size,3,none⟩=some (.int .i64 1):=cell_of_row _ _ 3 _ _ _ B6
   have b4:W5.cell? ⟨v1.heap.size,4,none⟩=some (.int .i64 0):=cell_of_row _ _ 4 _ _ _ B6
   have b5:W5.cell? ⟨v1.heap.size,5,none⟩=some (.int .i64 1):=cell_of_row _ _ 5 _ _ _ B6
   clear A6 B6 C6
   go_wp2_with fail
   go_ret
   exact ⟨rfl,HBW.out⟩
end Go.Proofs.YtkganhafbjgndaaGreatRR.V.namesStale
