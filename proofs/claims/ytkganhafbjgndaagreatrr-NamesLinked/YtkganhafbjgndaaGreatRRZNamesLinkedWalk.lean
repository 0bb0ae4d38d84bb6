/- NamesLinked, walked: it returns true. -/
import Derived.Test.YtkganhafbjgndaaGreatRRZNamesLinkedPlain
import Derived.Test.YtkganhafbjgndaaGreatRRZArgs
namespace Go.Proofs.YtkganhafbjgndaaGreatRR.V.namesLinked
open Go.RowKit
set_option linter.unusedVariables false
set_option maxRecDepth 20000
def sa:N.St:=⟨2,1,1,1,0,1⟩
def sb:N.St:=⟨2,1,1,2,0,2⟩
def sc (n:Nat):N.St:=⟨2,1,1,2,n,3⟩
def sd (n:Nat):N.St:=⟨2,1,1,1,n,4⟩
theorem full0:∀ j,j<32→N.fullT N.tr0 j=false:=Aw.r0
theorem full1 (s:N.Nm):∀ j,j<32→N.fullT (T1 s) j=false:=full_tw (by show (1:Nat)≤10;omega) (by show (0:Nat)≤10;omega)
set_option maxHeartbeats 16000000 in
theorem walk (w:World) (p0 q0:List UInt8) (A:Option Addr) (n c:Nat) (l:List UInt8) (hB:F.Bts w w.heap.size A n c l):Calls Tryz.prog 5 #[.string (P.bs p0),.string (P.bs q0),.slice A n c] w fun e w'=>e=.returned (.bool true)∧Below w.heap.size w w':=by
 have HBG:Hid (Calls Tryz.prog 6 #[.int .i64 200] w fun e w'=>∃ d p q O s,e=.returned (.pointer (some ⟨p,0,none⟩))∧St w w' p d 200 q 1 O s (Xb 200) [] y0 (fun _ _=>0) (fun _ _=>0) N.tr0):=begin_st 200 w (by omega) (by omega)
 have hnp:∀ s∈(P.split p0).1,N.nameB s=true:=List.all_eq_true.1 (P.split_good p0).1
 have hnq:∀ s∈(P.split q0).1,N.nameB s=true:=List.all_eq_true.1 (P.split_good q0).1
 have HBB:=Lib.hid hB
 have hln:=hB.len
 clear hB
 go_enter Tryz.func5,Tryz.ntmps5
 go_wp2_with fail
 refine HBG.out.mono ?_
 rintro e w1 ⟨d,p,q,O,s,rfl,hs⟩
 have HS1:=Lib.hid hs
 clear hs HBG
 go_wp2_with fail
 refine (awake_any _).mono ?_
 rintro e w2 ⟨rfl,hb⟩
 have HS2:=Lib.hid (HS1.out.below hb)
 clear hb HS1
 by_cases hn0:n=0
 ·subst hn0
  have HW:=Lib.hid HS2.out.sto.ons.sit.bel
  clear HS2 hln hnp hnq
  go_wp2_with fail
  refine (awake_any _).mono ?_
  rintro e w3 ⟨rfl,hb⟩
  have HW2:=Lib.hid (HW.out.trans (hb.mono HW.out.size))
  clear hb
  go_wp2_with fail
  go_ret
  exact ⟨rfl,HW2.out⟩
 by_cases hn1:250<n
 ·have HW:=Lib.hid HS2.out.sto.ons.sit.bel
  have g1:((n:Int) == 0)=false:=by rw [beq_eq_false_iff_ne];omega
  have g2:decide ((n:Int) > 250)=true:=by rw [decide_eq_true_iff];omega
  have g3:decide ((250:Int)<n)=true:=by rw [decide_eq_true_iff];omega
  clear HS2 hln hnp hnq hn0 hn1
  go_wp2_with fail
  refine (awake_any _).mono ?_
  rintro e w3 ⟨rfl,hb⟩
  have HW2:=Lib.hid (HW.out.trans (hb.mono HW.out.size))
  clear hb
  go_wp2_with fail
  go_ret
  exact ⟨rfl,HW2.out⟩
 have g1:((n:Int) == 0)=false:=by rw [beq_eq_false_iff_ne];omega
 have g2:decide ((n:Int) > 250)=false:=by rw [decide_eq_false_iff_not];omega
 have g3:decide ((250:Int)<n)=false:=by rw [decide_eq_false_iff_not];omega
 have hq2:=HS2.out.sto.map.lt
 have HM1:=Lib.hid (make_any (kn:=1) HS2.out N.tr0_wf p0 (.inl rfl) (by decide) full0 KS.nil (by omega))
 have HN:=Lib.hid (show 0<n∧n≤250 by omega)
 clear hn0 hn1
 go_upto_region 4 with fail
 clear g1 g2 g3
 go_wp2_with fail
 refine HM1.out.mono ?_
 rintro e w3 ((⟨h0,rfl,m3,ya,fa,Ca,h1,h2,h3⟩ | ⟨h0,rfl,hb⟩) | ⟨_,h1,_⟩)
 rotate_left 1
 ·have he:((N.makeT N.tr0 (P.split p0) ((1:Nat):Int)).2.2 != 0)=true:=by rw [bne_iff_ne];exact h0
  have e0:stv N.st0=z6:=rfl
  have HS3:=Lib.hid (HS2.out.below (hb.trans ((D.box1 w3 (Obj.cells z6 28)).2.1.mono hb.size)))
  have HL1:=Lib.hid (link_any HS3.out N.tr0_wf p0 q0 full0 KS.nil (by omega))
  clear hb h0 HM1 HS2
  generalize (N.makeT N.tr0 (P.split p0) ((1:Nat):Int)).2.2=er at *
  rw [e0]
  go_upto_region 5 with (first | (refine D.wpList_store_new rfl 28 _ _ rfl w3 z6 z6 rfl rfl z6_size rfl z6_one ?_) | fail)
  generalize w3.alloc (Obj.cells z6 28)=W3 at *
  go_wp2_with fail
  refine HL1.out.mono ?_
  rintro e w4 (⟨_,rfl,m4,yb,fb,Cb,h1,_,_⟩ | ⟨er2,_,rfl,hb⟩)
  ·have HW:=Lib.hid h1.sto.ons.sit.bel
   clear h1 HL1 HS3
   dsimp only
   generalize (N.linkT N.tr0 (P.split p0) (P.split q0)).2.1=sv at *
   have HW2:=Lib.hid (HW.out.trans ((D.box1 w4 (Obj.cells (stv sv) 28)).2.1.mono HW.out.size))
   go_upto_region 6 with (first | (refine D.wpList_store_new rfl 28 _ _ rfl w4 z6 (stv sv) rfl rfl (stv_size sv) rfl (stv_one sv) ?_) | fail)
   generalize w4.alloc (Obj.cells (stv sv) 28)=W4 at *
   go_wp2_with fail
   go_ret
   exact ⟨rfl,HW2.out⟩
  ·have HW2:=Lib.hid (hb.trans ((D.box1 w4 (Obj.cells z6 28)).2.1.mono hb.size))
   clear hb HL1 HS3
   go_upto_region 6 with (first | (refine D.wpList_store_new rfl 28 _ _ rfl w4 z6 z6 rfl rfl z6_size rfl z6_one ?_) | fail)
   generalize w4.alloc (Obj.cells z6 28)=W4 at *
   go_wp2_with fail
   go_ret
   exact ⟨rfl,HW2.out⟩
 ·rw [Aw.k0] at h1
  omega
 have hfl:=N.flat_above N.tr0_wf.x flat0 (made_err (.inl rfl) h0)
 obtain ⟨s1,hsp,_,_⟩:=hfl
 have hsn:N.nameB s1=true:=hnp s1 (by rw [hsp];simp)
 have e2:N.makeT N.tr0 ([s1],0) ((1:Nat):Int)=(T1 s1,⟨2,1,1,1,0,1⟩,0):=m1 s1
 rw [hsp] at h1 h0 HM1
 rw [e2] at h1
 have e1:stv (N.makeT N.tr0 (P.split p0) ((1:Nat):Int)).2.1=stv sa:=by rw [hsp,e2];rfl
 rw [e1]
 have hwf1:=wf1 hsn
 have hq3:=h1.low
 obtain ⟨b0,b1,b2⟩:=D.box1 w3 (Obj.cells (stv sa) 28)
 have A0:=Lib.hid b0
 have HT1:Hid (St w (w3.alloc (Obj.cells (stv sa) 28)) p d 200 q 1 O s (Xb 200) m3 ya fa Ca (T1 s1)):=h1.below b1
 have HL1:=Lib.hid (link_any HT1.out hwf1 p0 q0 (full1 s1) h2 (by omega))
 rw [hsp] at HL1
 have HLO:=Lib.hid hq3
 have hlt0:w3.heap.size<(w3.alloc (Obj.cells (stv sa) 28)).heap.size:=by simp
 have HSP:=Lib.hid hsp
 have HSN:=Lib.hid hsn
 have hs23:=h3.size
 clear b0 b1 b2 h0 h1 h2 h3 HM1 HS2 e1 e2 hsp hsn hnp hq3
 go_upto_region 5 with (first | (refine D.wpList_store_new rfl 28 _ _ rfl w3 z6 (stv sa) rfl rfl (stv_size sa) rfl (stv_one sa) ?_) | fail)
 generalize w3.alloc (Obj.cells (stv sa) 28)=W0 at *
 go_wp2_with fail
 refine HL1.out.mono ?_
 rintro e v1 (⟨h0,rfl,m4,yb,fb,Cb,h1,h2,h3⟩ | ⟨er,h0,rfl,hb⟩)
 rotate_left 1
 ·have HW2:=Lib.hid (hb.trans ((D.box1 v1 (Obj.cells z6 28)).2.1.mono hb.size))
  have he:(er != 0)=true:=by rw [bne_iff_ne];exact h0
  clear hb HL1 HT1 h0 A0
  go_upto_region 6 with (first | (refine D.wpList_store_new rfl 28 _ _ rfl v1 z6 z6 rfl rfl z6_size rfl z6_one ?_) | fail)
  generalize v1.alloc (Obj.cells z6 28)=W4 at *
  go_wp2_with fail
  go_ret
  exact ⟨rfl,HW2.out⟩
 obtain ⟨u,hsq,hun,hne⟩:=linked HSN.out hnq hwf1 h0
 have hs1:=N.name_ne HSN.out
 have hu1:=N.name_ne hun
 rw [hsq] at h1 HL1
 have e2:N.linkT (T1 s1) ([s1],0) ([u],0)=(T2 s1 u,⟨2,1,1,2,0,2⟩,0):=l1 hs1 hu1 hne
 rw [e2] at h1
 have e1:stv (N.linkT (T1 s1) ([s1],0) (P.split q0)).2.1=stv sb:=by rw [hsq,e2];rfl
 rw [e1]
 have HWF:=Lib.hid ((wfs HSN.out hun hne).2.2 l)
 have HNE:=Lib.hid (And.intro hs1 (And.intro hu1 hne))
 have HSQ:=Lib.hid hsq
 have hb2:=(D.box1 v1 (Obj.cells (stv sb) 28)).2.1
 have A1:=Lib.hid ((hb2.block w3.heap.size (Nat.lt_of_lt_of_le hlt0 h3.size)).trans ((h3.block w3.heap.size hlt0 (by simp;have:=HLO.out.1 q (.inr (.inr rfl));omega)).trans A0.out))
 have B1:=Lib.hid (D.box1 v1 (Obj.cells (stv sb) 28)).1
 have HT2:Hid (St w (v1.alloc (Obj.cells (stv sb) 28)) p d 200 q 1 O s (Xb 200) m4 yb fb Cb (T2 s1 u)):=h1.below hb2
 have HC1:=Lib.hid (commit_st HT2.out)
 have hl01:w3.heap.size<v1.heap.size:=Nat.lt_of_lt_of_le hlt0 h3.size
 have hlt1:v1.heap.size<(v1.alloc (Obj.cells (stv sb) 28)).heap.size:=by simp
 clear h0 h1 h2 h3 hb2 A0 HT1 HL1 e1 e2 hsq hun hne hs1 hu1 hnq hwf1
 go_upto_region 6 with (first | (refine D.wpList_store_new rfl 28 _ _ rfl v1 z6 (stv sb) rfl rfl (stv_size sb) rfl (stv_one sb) ?_) | fail)
 generalize v1.alloc (Obj.cells (stv sb) 28)=W1 at *
 go_wp2_with fail
 refine HC1.out.mono ?_
 rintro e v2 ⟨rfl,O1,s2,X2,h1,h2,h3⟩
 have ha:w3.heap.size∉q :: O1:=fun hm=>by
  rcases List.mem_cons.1 hm with e | hm
  ·have:=HLO.out.1 q (.inr (.inr rfl));omega
  ·rcases h3 _ hm with hm | hm
   ·have:=HLO.out.1 _ (.inl hm);omega
   ·omega
 have hb:v1.heap.size∉q :: O1:=fun hm=>by
  rcases List.mem_cons.1 hm with e | hm
  ·have:=HLO.out.1 q (.inr (.inr rfl));omega
  ·rcases h3 _ hm with hm | hm
   ·have:=HLO.out.1 _ (.inl hm);omega
   ·omega
 have ha0:w3.heap.size∉q :: O:=fun hm=>by
  rcases List.mem_cons.1 hm with e | hm
  ·have:=HLO.out.1 q (.inr (.inr rfl));omega
  ·have:=HLO.out.1 _ (.inl hm);omega
 have hb0:v1.heap.size∉q :: O:=fun hm=>by
  rcases List.mem_cons.1 hm with e | hm
  ·have:=HLO.out.1 q (.inr (.inr rfl));omega
  ·have:=HLO.out.1 _ (.inl hm);omega
 have HAB:=Lib.hid (And.intro ha hb)
 have A2:=Lib.hid ((h2.block w3.heap.size (by omega) ha0).trans A1.out)
 have B2:=Lib.hid ((h2.block v1.heap.size hlt1 hb0).trans B1.out)
 have HT3:=Lib.hid h1
 have HW1:=Lib.hid (write_st h1 HBB.out HN.out.1 HN.out.2)
 have hl2:v1.heap.size<v2.heap.size:=Nat.lt_of_lt_of_le hlt1 h2.size
 clear h1 h2 h3 ha hb ha0 hb0 A1 B1 HT2 HC1
 have c0:v2.cell? ⟨w3.heap.size,0,none⟩=some (.int .i64 2):=cell_of_row _ _ 0 _ _ _ A2.out
 go_wp2_with fail
 refine HW1.out.mono ?_
 rintro e v3 ⟨rfl,⟨m5,yc,fc,Cc,bk,h1⟩,hc⟩
 have A3:=Lib.hid ((hc.block w3.heap.size (by omega) (by simp;have:=HLO.out.1 q (.inr (.inr rfl));omega)).trans A2.out)
 have B3:=Lib.hid ((hc.block v1.heap.size hl2 (by simp;have:=HLO.out.1 q (.inr (.inr rfl));omega)).trans B2.out)
 have HC2:=Lib.hid (commit_st h1)
 have hl3:v1.heap.size<v3.heap.size:=Nat.lt_of_lt_of_le hl2 hc.size
 clear h1 hc A2 B2 HT3 HW1 c0
 go_wp2_with fail
 refine HC2.out.mono ?_
 rintro e v4 ⟨rfl,O2,s3,X3,h1,h2,h3⟩
 have A4:=Lib.hid ((h2.block w3.heap.size (by omega) HAB.out.1).trans A3.out)
 have B4:=Lib.hid ((h2.block v1.heap.size hl3 HAB.out.2).trans B3.out)
 have HT4:=Lib.hid h1
 have HLK:=Lib.hid (look_any h1 (HWF.out bk).1.x q0)
 rw [HSQ.out,look2 HNE.out.1 HNE.out.2.1 HNE.out.2.2 l bk,hln] at HLK
 have hl4:v1.heap.size<v4.heap.size:=Nat.lt_of_lt_of_le hl3 h2.size
 have hqa:q<w3.heap.size:=HLO.out.1 q (.inr (.inr rfl))
 clear h1 h2 h3 A3 B3 HC2 HAB HLO
 go_wp2_with fail
 refine HLK.out.mono ?_
 rintro e v5 ⟨rfl,hb⟩
 rw [show stv (⟨2,1,1,2,n,3⟩:N.St)=stv (sc n) from rfl]
 have hbx:=hb.trans ((D.box1 v5 (Obj.cells (stv (sc n)) 28)).2.1.mono hb.size)
 have A5:=Lib.hid ((hbx.block w3.heap.size (by omega)).trans A4.out)
 have B5:=Lib.hid ((hbx.block v1.heap.size hl4).trans B4.out)
 have C5:=Lib.hid (D.box1 v5 (Obj.cells (stv (sc n)) 28)).1
 have HT5:=Lib.hid (HT4.out.below hbx)
 have HRD:=Lib.hid (read_st HT5.out (by rw [hln];exact HN.out.2))
 have hl5:v1.heap.size<v5.heap.size:=Nat.lt_of_lt_of_le hl4 hb.size
 have hlt5:v5.heap.size<(v5.alloc (Obj.cells (stv (sc n)) 28)).heap.size:=by simp
 clear hb hbx A4 B4 HT4 HLK
 go_upto_region 11 with (first | (refine D.wpList_store_new rfl 28 _ _ rfl v5 z6 (stv (sc n)) rfl rfl (stv_size (sc n)) rfl (stv_one (sc n)) ?_) | fail)
 generalize v5.alloc (Obj.cells (stv (sc n)) 28)=W5 at *
 have c0:W5.cell? ⟨v5.heap.size,0,none⟩=some (.int .i64 2):=cell_of_row _ _ 0 _ _ _ C5.out
 go_wp2_with fail
 clear c0
 refine HRD.out.mono ?_
 rintro e v6 ⟨A',n',c',rfl,hr,hb,hfr⟩
 have A6:=Lib.hid ((hb.block w3.heap.size (by omega)).trans A5.out)
 have B6:=Lib.hid ((hb.block v1.heap.size (by omega)).trans B5.out)
 have C6:=Lib.hid ((hb.block v5.heap.size hlt5).trans C5.out)
 have HT6:=Lib.hid (HT5.out.below hb)
 have HUL:=Lib.hid (unlink_any HT6.out (HWF.out bk).1 p0 KS.nil (by omega))
 rw [HSP.out,r1 HNE.out.1 HNE.out.2.1 HNE.out.2.2 l bk] at HUL
 have HR6:=Lib.hid hr
 have hnq6:∀ g o,A'=some ⟨g,o,none⟩→g∉[q]:=fun g o e=>by have:=hfr g o e;simp;omega
 have HNQ:=Lib.hid hnq6
 have hl6:v5.heap.size<v6.heap.size:=Nat.lt_of_lt_of_le hlt5 hb.size
 clear hr hb hfr hnq6 A5 B5 C5 HT5 HRD
 go_wp2_with fail
 refine HUL.out.mono ?_
 rintro e v7 (⟨_,rfl,m7,yd,fd,Cd,h1,h2,h3⟩ | ⟨h0,_⟩)
 rotate_left 1
 ·exact absurd rfl h0
 dsimp only
 generalize hsv:N.stT (T3 s1 u l bk) 2=sv at *
 have hb2:=(D.box1 v7 (Obj.cells (stv sv) 28)).2.1
 have hcx:Chg [q] v6 (v7.alloc (Obj.cells (stv sv) 28)):=h3.tr (Chg.of_below hb2)
 have A7:=Lib.hid ((hcx.block w3.heap.size (by omega) (by simp;omega)).trans A6.out)
 have B7:=Lib.hid ((hcx.block v1.heap.size (by omega) (by simp;omega)).trans B6.out)
 have C7:=Lib.hid ((hcx.block v5.heap.size hl6 (by simp;omega)).trans C6.out)
 have R7:=Lib.hid (bts_apart (g:=0) (o:=0) HR6.out (Nat.le_refl _) hcx HNQ.out)
 have HT7:Hid (St w (v7.alloc (Obj.cells (stv sv) 28)) p d 200 q 1 O2 s3 X3 m7 yd fd Cd (T4 u l bk)):=h1.below hb2
 have HK7:=Lib.hid h2
 have hl7:v6.heap.size<(v7.alloc (Obj.cells (stv sv) 28)).heap.size:=by have:=h3.size;simp;omega
 have HLK:=Lib.hid (look_any HT7.out (HWF.out bk).2.1.x q0)
 rw [HSQ.out,look3 HNE.out.1 HNE.out.2.1 HNE.out.2.2 l bk,hln] at HLK
 clear h1 h2 h3 hb2 hcx A6 B6 C6 HR6 HT6 HUL hsv
 go_upto_region 13 with (first | (refine D.wpList_store_new rfl 28 _ _ rfl v7 z6 (stv sv) rfl rfl (stv_size sv) rfl (stv_one sv) ?_) | fail)
 generalize v7.alloc (Obj.cells (stv sv) 28)=W7 at *
 go_wp2_with fail
 refine HLK.out.mono ?_
 rintro e v8 ⟨rfl,hb⟩
 rw [show stv (⟨2,1,1,1,n,4⟩:N.St)=stv (sd n) from rfl]
 have hbx:=hb.trans ((D.box1 v8 (Obj.cells (stv (sd n)) 28)).2.1.mono hb.size)
 have A8:=Lib.hid ((hbx.block w3.heap.size (by omega)).trans A7.out)
 have B8:=Lib.hid ((hbx.block v1.heap.size (by omega)).trans B7.out)
 have C8:=Lib.hid ((hbx.block v5.heap.size (by omega)).trans C7.out)
 have D8:=Lib.hid (D.box1 v8 (Obj.cells (stv (sd n)) 28)).1
 have R8:=Lib.hid (bts_apart (g:=0) (o:=0) R7.out (by omega) (Chg.of_below (O:=[q]) hbx) HNQ.out)
 have HT8:=Lib.hid (HT7.out.below hbx)
 have hl8:v6.heap.size<v8.heap.size:=Nat.lt_of_lt_of_le hl7 hb.size
 have hlt8:v8.heap.size<(v8.alloc (Obj.cells (stv (sd n)) 28)).heap.size:=by simp
 have HUL:=Lib.hid (unlink_any HT8.out (HWF.out bk).2.1 q0 HK7.out (by omega))
 rw [HSQ.out,r2 HNE.out.1 HNE.out.2.1 HNE.out.2.2 l bk] at HUL
 clear hb hbx A7 B7 C7 R7 HT7 HK7 HLK
 go_upto_region 14 with (first | (refine D.wpList_store_new rfl 28 _ _ rfl v8 z6 (stv (sd n)) rfl rfl (stv_size (sd n)) rfl (stv_one (sd n)) ?_) | fail)
 generalize v8.alloc (Obj.cells (stv (sd n)) 28)=W8 at *
 go_wp2_with fail
 refine HUL.out.mono ?_
 rintro e v9 (⟨_,rfl,m9,yf,ff,Cf,h1,h2,h3⟩ | ⟨h0,_⟩)
 rotate_left 1
 ·exact absurd rfl h0
 dsimp only
 generalize N.stT (T4 u l bk) 2=sv2 at *
 have hb2:=(D.box1 v9 (Obj.cells (stv sv2) 28)).2.1
 have hcx:Chg [q] W8 (v9.alloc (Obj.cells (stv sv2) 28)):=h3.tr (Chg.of_below hb2)
 have A9:=Lib.hid ((hcx.block w3.heap.size (by omega) (by simp;omega)).trans A8.out)
 have B9:=Lib.hid ((hcx.block v1.heap.size (by omega) (by simp;omega)).trans B8.out)
 have C9:=Lib.hid ((hcx.block v5.heap.size (by omega) (by simp;omega)).trans C8.out)
 have D9:=Lib.hid ((hcx.block v8.heap.size hlt8 (by simp;omega)).trans D8.out)
 have R9:=Lib.hid (bts_apart (g:=0) (o:=0) R8.out (by omega) hcx HNQ.out)
 have HT9:Hid (St w (v9.alloc (Obj.cells (stv sv2) 28)) p d 200 q 1 O2 s3 X3 m9 yf ff Cf T5):=h1.below hb2
 have hl9:v8.heap.size<(v9.alloc (Obj.cells (stv sv2) 28)).heap.size:=by have:=h3.size;simp;omega
 clear h1 h2 h3 hb2 hcx A8 B8 C8 D8 R8 HT8 HUL HWF HNE
 go_upto_region 15 with (first | (refine D.wpList_store_new rfl 28 _ _ rfl v9 z6 (stv sv2) rfl rfl (stv_size sv2) rfl (stv_one sv2) ?_) | fail)
 generalize v9.alloc (Obj.cells (stv sv2) 28)=W9 at *
 have c0:W9.cell? ⟨w3.heap.size,0,none⟩=some (.int .i64 2):=cell_of_row _ _ 0 _ _ _ A9.out
 have c1:W9.cell? ⟨w3.heap.size,1,none⟩=some (.int .i64 1):=cell_of_row _ _ 1 _ _ _ A9.out
 have HB3:=Lib.hid (by_any HT9.out 2 1)
 rw [y5] at HB3
 go_wp2_with fail
 clear c0 c1
 refine HB3.out.mono ?_
 rintro e v10 ⟨rfl,hb⟩
 rw [show stv N.st0=z6 from rfl]
 have hbx:=hb.trans ((D.box1 v10 (Obj.cells z6 28)).2.1.mono hb.size)
 have A10:=Lib.hid ((hbx.block w3.heap.size (by omega)).trans A9.out)
 have B10:=Lib.hid ((hbx.block v1.heap.size (by omega)).trans B9.out)
 have C10:=Lib.hid ((hbx.block v5.heap.size (by omega)).trans C9.out)
 have D10:=Lib.hid ((hbx.block v8.heap.size hl9).trans D9.out)
 have R10:=Lib.hid (bts_apart (g:=0) (o:=0) R9.out (by omega) (Chg.of_below (O:=[q]) hbx) HNQ.out)
 have HT10:=Lib.hid (HT9.out.below hbx)
 have HCM:=Lib.hid (commit_st HT10.out)
 clear hb hbx A9 B9 C9 D9 R9 HT9 HB3
 go_upto_region 16 with (first | (refine D.wpList_store_new rfl 28 _ _ rfl v10 z6 z6 rfl rfl z6_size rfl z6_one ?_) | fail)
 generalize v10.alloc (Obj.cells z6 28)=W at *
 have a0:W.cell? ⟨w3.heap.size,0,none⟩=some (.int .i64 2):=cell_of_row _ _ 0 _ _ _ A10.out
 have a1:W.cell? ⟨w3.heap.size,1,none⟩=some (.int .i64 1):=cell_of_row _ _ 1 _ _ _ A10.out
 have b2:W.cell? ⟨v1.heap.size,3,none⟩=some (.int .i64 2):=cell_of_row _ _ 3 _ _ _ B10.out
 have c0:W.cell? ⟨v5.heap.size,0,none⟩=some (.int .i64 2):=cell_of_row _ _ 0 _ _ _ C10.out
 have c1:W.cell? ⟨v5.heap.size,1,none⟩=some (.int .i64 1):=cell_of_row _ _ 1 _ _ _ C10.out
 have d3:W.cell? ⟨v8.heap.size,3,none⟩=some (.int .i64 1):=cell_of_row _ _ 3 _ _ _ D10.out
 have d4:W.cell? ⟨v8.heap.size,4,none⟩=some (.int .i64 (n:Int)):=cell_of_row _ _ 4 _ _ _ D10.out
 have s1:(convert 41 9 (.slice A' n' c')).run Tryz.prog W=.ok (.string ⟨l.toArray⟩) W:=R10.out.str W (fun _ _=>rfl)
 have s2:(convert 41 9 (.slice A n c)).run Tryz.prog W=.ok (.string ⟨l.toArray⟩) W:=HBB.out.str W (fun x hx=>HT10.out.sto.ons.sit.bel.cell hx)
 clear A10 B10 C10 D10 R10
 go_wp2_with fail
 refine HCM.out.mono ?_
 rintro e v11 ⟨rfl,O3,s4,X4,h1,_⟩
 have HW:=Lib.hid h1.sto.ons.sit.bel
 clear h1 HCM HT10
 go_wp2_with fail
 go_ret
 exact ⟨rfl,HW.out⟩
end Go.Proofs.YtkganhafbjgndaaGreatRR.V.namesLinked
