/- names' calls: Look, List, By, Unlink, Make, Link. -/
import Derived.Test.YtkganhafbjgndaaGreatRRZWb
namespace Go.Proofs.YtkganhafbjgndaaGreatRR.V
open Go.RowKit
set_option linter.unusedVariables false
set_option maxRecDepth 20000
theorem z6_size:(Tryz.prog.info? 28).map (·.size)=some z6.size:=by kernel_rfl
theorem z6_one:z6.all (·.oneCell')=true:=by kernel_rfl
def StP (w:World) (x:N.St) (er:Int) (e:Ending) (w':World):Prop:=e=.returned (.tuple #[.agg (stv x),.int .i64 er])∧Below w.heap.size w w'
section
variable {w0 w w':World} {p d Ns q ep n B dir:Nat} {O:List Nat} {s:DS} {X:Secs2} {m:List Wr} {y:Nat→D.Nn} {f:Nat→Nat→Nat} {C:Nat→Nat→UInt8} {t:N.Tr} {ex:Nat→Int} {v:Value} {k:Nat}
theorem walk_in (ht:N.WFx t ex) {qq:List N.Nm × Int} (h:(N.walkT t qq).2=0):1≤(N.walkT t qq).1∧(N.walkT t qq).1<32:=by
 unfold N.walkT at h ⊢
 split at h
 ·exact absurd h ‹_›
 ·rename_i h1
  rw [if_neg h1]
  obtain ⟨a,b,_⟩:=N.names_of ht qq.1 1 (Nat.le_refl _) (by omega) (by rw [ht.root];omega) h
  exact ⟨a,b⟩
set_option maxHeartbeats 2000000 in
theorem look_any (h:St w0 w p d Ns q ep O s X m y f C t) (ht:N.WFx t ex) (st:List UInt8):Calls Tryz.prog 11 #[.pointer (some ⟨p,0,none⟩),.string (P.bs st)] w (StP w (N.lookT t (P.split st)).1 (N.lookT t (P.split st)).2):=by
 have HBR:=Lib.hid (fun W (hb:Below w.heap.size w W)=>nbarred_ok (h.sto.below hb))
 have HEN:=Lib.hid (fun W (hb:Below w.heap.size w W)=>end_any (h.below hb) ht st)
 generalize P.split st=qq at *
 by_cases h0:(N.walkT t qq).2=0
 ·obtain ⟨n1,n2⟩:=walk_in ht h0
  have HST:=Lib.hid (fun W (hb:Below w.heap.size w W)=>nst_any (h.below hb) n1 n2)
  have HL:Hid (N.lookT t qq=(N.stT t (N.walkT t qq).1,0)):=by show _=_;unfold N.lookT;rw [if_neg (fun e=>e h0)]
  rw [h0] at HEN
  clear h ht h0 n1 n2
  generalize (N.walkT t qq).1=nn at *
  generalize N.stT t nn=sv at *
  obtain ⟨a0,a1,a2⟩:=D.box1 w (Obj.cells z6 28)
  have A0:=Lib.hid a0
  have A1:=Lib.hid a1
  clear a0 a1 a2
  go_enter Tryz.func11,Tryz.ntmps11
  go_wp2_with fail
  refine (HBR.out _ A1.out).mono ?_
  rintro e w1 ⟨rfl,hb⟩
  have G1:=Lib.hid ((hb.block w.heap.size (by simp)).trans A0.out)
  have hlt1:w.heap.size<w1.heap.size:=Nat.lt_of_lt_of_le (by simp) hb.size
  have HB1:=Lib.hid (A1.out.trans (hb.mono (by simp)))
  clear hb HBR
  go_wp2_with fail
  refine (HEN.out w1 HB1.out).mono ?_
  rintro e w2 ⟨rfl,hb⟩
  have G2:=Lib.hid ((hb.block w.heap.size hlt1).trans G1.out)
  have hlt2:w.heap.size<w2.heap.size:=Nat.lt_of_lt_of_le hlt1 hb.size
  have HB2:=Lib.hid (HB1.out.trans (hb.mono HB1.out.size))
  clear hb
  go_wp2_with fail
  refine (HST.out w2 HB2.out).mono ?_
  rintro e w3 ⟨rfl,hb⟩
  have G3:=Lib.hid ((hb.block w.heap.size hlt2).trans G2.out)
  have hlt3:w.heap.size<w3.heap.size:=Nat.lt_of_lt_of_le hlt2 hb.size
  have HB3:=Lib.hid (HB2.out.trans (hb.mono HB2.out.size))
  clear hb
  go_wp2_with (first | (refine D.wpList_store_row rfl 28 _ _ rfl w.heap.size z6 (stv sv) 28 rfl rfl G3.out (stv_size sv) rfl (stv_one sv) ?_) | fail)
  refine bodyPost_ret (D.ret_row2 rfl rfl (D.setRow_in _ _ _ (stv sv) _ G3.out) Tryz.underlying28 rfl (stv_size sv)) rfl ?_
  rw [HL.out]
  exact ⟨rfl,below_setRow HB3.out (Nat.le_refl _) _⟩
 ·have HL:Hid (N.lookT t qq=(N.st0,(N.walkT t qq).2)):=by show _=_;unfold N.lookT;rw [if_pos h0]
  have he:((N.walkT t qq).2 != 0)=true:=by rw [bne_iff_ne];exact h0
  clear h ht h0
  generalize (N.walkT t qq).2=er at *
  generalize (N.walkT t qq).1=nn at *
  obtain ⟨a0,a1,a2⟩:=D.box1 w (Obj.cells z6 28)
  have A0:=Lib.hid a0
  have A1:=Lib.hid a1
  clear a0 a1 a2
  go_enter Tryz.func11,Tryz.ntmps11
  go_wp2_with fail
  refine (HBR.out _ A1.out).mono ?_
  rintro e w1 ⟨rfl,hb⟩
  have G1:=Lib.hid ((hb.block w.heap.size (by simp)).trans A0.out)
  have hlt1:w.heap.size<w1.heap.size:=Nat.lt_of_lt_of_le (by simp) hb.size
  have HB1:=Lib.hid (A1.out.trans (hb.mono (by simp)))
  clear hb HBR
  go_wp2_with fail
  refine (HEN.out w1 HB1.out).mono ?_
  rintro e w2 ⟨rfl,hb⟩
  have G2:=Lib.hid ((hb.block w.heap.size hlt1).trans G1.out)
  have hlt2:w.heap.size<w2.heap.size:=Nat.lt_of_lt_of_le hlt1 hb.size
  have HB2:=Lib.hid (HB1.out.trans (hb.mono HB1.out.size))
  clear hb
  go_wp2_with (first | (refine D.wpList_store_row rfl 28 _ _ rfl w.heap.size z6 z6 28 rfl rfl G2.out z6_size rfl z6_one ?_) | fail)
  refine bodyPost_ret (D.ret_row2 rfl rfl (D.setRow_in _ _ _ z6 _ G2.out) Tryz.underlying28 rfl z6_size) rfl ?_
  rw [HL.out]
  exact ⟨rfl,below_setRow HB2.out (Nat.le_refl _) _⟩
set_option maxHeartbeats 2000000 in
theorem list_dir (h:St w0 w p d Ns q ep O s X m y f C t) (ht:N.WFx t ex) (st:List UInt8) (hw:N.walkT t (P.split st)=(n,0)) (hk:(t.nd n).k=2):Calls Tryz.prog 14 #[.pointer (some ⟨p,0,none⟩),.string (P.bs st)] w (LstP w (N.nms (t.nd n).rows)):=by
 have HBR:=Lib.hid (fun W (hb:Below w.heap.size w W)=>nbarred_ok (h.sto.below hb))
 have HEN:=Lib.hid (fun W (hb:Below w.heap.size w W)=>end_any (h.below hb) ht st)
 obtain ⟨n1,n2⟩:=walk_in ht (qq:=P.split st) (by rw [hw])
 rw [hw] at HEN n1 n2
 have HLI:=Lib.hid (fun W (hb:Below w.heap.size w W)=>listed_dir (h.below hb) ht n1 n2 hk)
 clear h ht hw hk n1 n2
 generalize N.nms (t.nd n).rows=rs at *
 go_enter Tryz.func14,Tryz.ntmps14
 go_wp2_with fail
 refine (HBR.out w (Below.refl _ _)).mono ?_
 rintro e w1 ⟨rfl,hb⟩
 have HB1:=Lib.hid hb
 clear hb
 go_wp2_with fail
 refine (HEN.out w1 HB1.out).mono ?_
 rintro e w2 ⟨rfl,hb⟩
 have HB2:=Lib.hid (HB1.out.trans (hb.mono HB1.out.size))
 clear hb
 go_wp2_with fail
 refine (HLI.out w2 HB2.out).mono ?_
 rintro e w3 ⟨v,rfl,ho,hb⟩
 have HB3:=Lib.hid (HB2.out.trans (hb.mono HB2.out.size))
 have HO:Hid (E.OwnS w3 w.heap.size v (E.srt rs)):=own_mono ho HB2.out.size
 clear hb ho
 go_wp2_with fail
 go_ret2
 exact ⟨v,rfl,HO.out,HB3.out⟩
set_option maxHeartbeats 4000000 in
theorem by_any (h:St w0 w p d Ns q ep O s X m y f C t) (gn gg:Int):Calls Tryz.prog 9 #[.pointer (some ⟨p,0,none⟩),.agg #[.int .i64 gn,.int .i64 gg]] w (StP w (N.byT t gn gg).1 (N.byT t gn gg).2):=by
 have HBR:=Lib.hid (fun W (hb:Below w.heap.size w W)=>nbarred_ok (h.sto.below hb))
 by_cases h1:gn<1
 ·have HY:Hid (N.byT t gn gg=(N.st0,18)):=by show _=_;unfold N.byT;rw [if_neg (fun e=>by omega)]
  clear h
  obtain ⟨a0,a1,a2,a3⟩:=D.box2 w (Obj.cells #[.int .i64 gn,.int .i64 gg] 26) (Obj.cells z6 28)
  have A0:=Lib.hid a0
  have A1:=Lib.hid a1
  have A2:=Lib.hid a2
  have A3:=Lib.hid a3
  clear a0 a1 a2 a3
  go_enter Tryz.func9,Tryz.ntmps9
  go_wp2_with fail
  refine (HBR.out _ A2.out).mono ?_
  rintro e w1 ⟨rfl,hb⟩
  have G1:=Lib.hid ((hb.block (w.heap.size+1) (by rw [A3.out];omega)).trans A1.out)
  have K1:=Lib.hid ((hb.block w.heap.size (by rw [A3.out];omega)).trans A0.out)
  have hlt1:w.heap.size+1<w1.heap.size:=Nat.lt_of_lt_of_le (by rw [A3.out];omega) hb.size
  have HB1:=Lib.hid (A2.out.trans (hb.mono A2.out.size))
  clear hb HBR A0 A1 A2 A3
  have c0:w1.cell? ⟨w.heap.size,0,none⟩=some (.int .i64 gn):=cell_of_row _ _ 0 _ _ _ K1.out
  go_wp2_with (first | (refine D.wpList_store_row rfl 28 _ _ rfl (w.heap.size+1) z6 z6 28 rfl rfl G1.out z6_size rfl z6_one ?_) | fail)
  refine bodyPost_ret (D.ret_row2 rfl rfl (D.setRow_in _ _ _ z6 _ G1.out) Tryz.underlying28 rfl z6_size) rfl ?_
  rw [HY.out]
  exact ⟨rfl,below_setRow HB1.out (by omega) _⟩
 ·by_cases h2:gn ≥ 32
  ·have HY:Hid (N.byT t gn gg=(N.st0,18)):=by show _=_;unfold N.byT;rw [if_neg (fun e=>by omega)]
   clear h
   obtain ⟨a0,a1,a2,a3⟩:=D.box2 w (Obj.cells #[.int .i64 gn,.int .i64 gg] 26) (Obj.cells z6 28)
   have A0:=Lib.hid a0
   have A1:=Lib.hid a1
   have A2:=Lib.hid a2
   have A3:=Lib.hid a3
   clear a0 a1 a2 a3
   go_enter Tryz.func9,Tryz.ntmps9
   go_wp2_with fail
   refine (HBR.out _ A2.out).mono ?_
   rintro e w1 ⟨rfl,hb⟩
   have G1:=Lib.hid ((hb.block (w.heap.size+1) (by rw [A3.out];omega)).trans A1.out)
   have K1:=Lib.hid ((hb.block w.heap.size (by rw [A3.out];omega)).trans A0.out)
   have hlt1:w.heap.size+1<w1.heap.size:=Nat.lt_of_lt_of_le (by rw [A3.out];omega) hb.size
   have HB1:=Lib.hid (A2.out.trans (hb.mono A2.out.size))
   clear hb HBR A0 A1 A2 A3
   have c0:w1.cell? ⟨w.heap.size,0,none⟩=some (.int .i64 gn):=cell_of_row _ _ 0 _ _ _ K1.out
   go_wp2_with (first | (refine D.wpList_store_row rfl 28 _ _ rfl (w.heap.size+1) z6 z6 28 rfl rfl G1.out z6_size rfl z6_one ?_) | fail)
   refine bodyPost_ret (D.ret_row2 rfl rfl (D.setRow_in _ _ _ z6 _ G1.out) Tryz.underlying28 rfl z6_size) rfl ?_
   rw [HY.out]
   exact ⟨rfl,below_setRow HB1.out (by omega) _⟩
  ·obtain ⟨nn,rfl⟩:∃ nn:Nat,gn=(nn:Int):=⟨gn.toNat,by omega⟩
   have HST:=Lib.hid (fun W (hb:Below w.heap.size w W)=>nst_any (n:=nn) (h.below hb) (by omega) (by omega))
   obtain ⟨sv,hsv⟩:∃ sv,N.stT t nn=sv:=⟨_,rfl⟩
   rw [hsv] at HST
   have HY:Hid (N.byT t (nn:Int) gg=if sv.k≠0∧(sv.g:Int)=gg then (sv,0) else (N.st0,18)):=by
    show _=_
    unfold N.byT
    rw [show ((nn:Int)).toNat=nn by omega,hsv,show (t.nd nn).k=sv.k by rw [← hsv];rfl,show (t.nd nn).g=sv.g by rw [← hsv];rfl]
    by_cases hc:sv.k≠0∧(sv.g:Int)=gg
    ·rw [if_pos ⟨by omega,by omega,hc⟩,if_pos hc]
    ·rw [if_neg (fun e=>hc e.2.2),if_neg hc]
   clear h hsv
   obtain ⟨a0,a1,a2,a3⟩:=D.box2 w (Obj.cells #[.int .i64 (nn:Int),.int .i64 gg] 26) (Obj.cells z6 28)
   have A0:=Lib.hid a0
   have A1:=Lib.hid a1
   have A2:=Lib.hid a2
   have A3:=Lib.hid a3
   clear a0 a1 a2 a3
   go_enter Tryz.func9,Tryz.ntmps9
   go_wp2_with fail
   refine (HBR.out _ A2.out).mono ?_
   rintro e w1 ⟨rfl,hb⟩
   have G1:=Lib.hid ((hb.block (w.heap.size+1) (by rw [A3.out];omega)).trans A1.out)
   have K1:=Lib.hid ((hb.block w.heap.size (by rw [A3.out];omega)).trans A0.out)
   have hlt1:w.heap.size+1<w1.heap.size:=Nat.lt_of_lt_of_le (by rw [A3.out];omega) hb.size
   have HB1:=Lib.hid (A2.out.trans (hb.mono A2.out.size))
   clear hb HBR A0 A1 A2 A3
   have c0:w1.cell? ⟨w.heap.size,0,none⟩=some (.int .i64 (nn:Int)):=cell_of_row _ _ 0 _ _ _ K1.out
   go_wp2_with fail
   clear c0
   refine (HST.out w1 HB1.out).mono ?_
   rintro e w2 ⟨rfl,hb⟩
   have hlt2:w.heap.size+1<w2.heap.size:=Nat.lt_of_lt_of_le hlt1 hb.size
   obtain ⟨b0,b1,b2⟩:=D.box1 w2 (Obj.cells (stv sv) 28)
   have S0:=Lib.hid b0
   have HB2':=hb.trans (b1.mono hb.size)
   have G2:=Lib.hid ((HB2'.block (w.heap.size+1) hlt1).trans G1.out)
   have K2:=Lib.hid ((HB2'.block w.heap.size (by omega)).trans K1.out)
   have HB2:=Lib.hid (HB1.out.trans (HB2'.mono HB1.out.size))
   clear hb b0 b1 b2 HB2'
   go_upto_region 9 with (first | (refine D.wpList_store_new rfl 28 _ _ rfl w2 z6 (stv sv) rfl rfl (stv_size sv) rfl (stv_one sv) ?_) | fail)
   generalize w2.alloc (Obj.cells (stv sv) 28)=W at *
   have d0:W.cell? ⟨w2.heap.size,2,none⟩=some (.int .i64 (sv.k:Int)):=cell_of_row _ _ 2 _ _ _ S0.out
   have d1:W.cell? ⟨w2.heap.size,1,none⟩=some (.int .i64 (sv.g:Int)):=cell_of_row _ _ 1 _ _ _ S0.out
   have d2:W.cell? ⟨w.heap.size,1,none⟩=some (.int .i64 gg):=cell_of_row _ _ 1 _ _ _ K2.out
   by_cases hk:sv.k=0
   ·have hkb:((sv.k:Int) == 0)=true:=by rw [beq_iff_eq];omega
    rw [if_neg (fun e=>e.1 hk)] at HY
    go_wp2_with (first | (refine D.wpList_store_row rfl 28 _ _ rfl (w.heap.size+1) z6 z6 28 rfl rfl G2.out z6_size rfl z6_one ?_) | fail)
    refine bodyPost_ret (D.ret_row2 rfl rfl (D.setRow_in _ _ _ z6 _ G2.out) Tryz.underlying28 rfl z6_size) rfl ?_
    rw [HY.out]
    exact ⟨rfl,below_setRow HB2.out (by omega) _⟩
   ·have hkb:((sv.k:Int) == 0)=false:=by rw [beq_eq_false_iff_ne];omega
    by_cases hg:(sv.g:Int)=gg
    ·have hgb:((sv.g:Int) != gg)=false:=by rw [bne_eq_false_iff_eq];exact hg
     rw [if_pos ⟨hk,hg⟩] at HY
     clear hg
     go_wp2_with (first | (refine D.wpList_load_row rfl 28 _ rfl w2.heap.size rfl _ _ _ S0.out _ Tryz.underlying28 rfl (stv_size sv) ?_) | (refine D.wpList_store_row rfl 28 _ _ rfl (w.heap.size+1) z6 (stv sv) 28 rfl rfl G2.out (stv_size sv) rfl (stv_one sv) ?_) | fail)
     refine bodyPost_ret (D.ret_row2 rfl rfl (D.setRow_in _ _ _ (stv sv) _ G2.out) Tryz.underlying28 rfl (stv_size sv)) rfl ?_
     rw [HY.out]
     exact ⟨rfl,below_setRow HB2.out (by omega) _⟩
    ·have hgb:((sv.g:Int) != gg)=true:=by rw [bne_iff_ne];exact hg
     rw [if_neg (fun e=>hg e.2)] at HY
     clear hg
     go_wp2_with (first | (refine D.wpList_store_row rfl 28 _ _ rfl (w.heap.size+1) z6 z6 28 rfl rfl G2.out z6_size rfl z6_one ?_) | fail)
     refine bodyPost_ret (D.ret_row2 rfl rfl (D.setRow_in _ _ _ z6 _ G2.out) Tryz.underlying28 rfl z6_size) rfl ?_
     rw [HY.out]
     exact ⟨rfl,below_setRow HB2.out (by omega) _⟩
end
end Go.Proofs.YtkganhafbjgndaaGreatRR.V
namespace Go.Proofs.YtkganhafbjgndaaGreatRR.V
open Go.RowKit
set_option linter.unusedVariables false
set_option maxRecDepth 20000
def ChP (w0 w:World) (p d Ns q ep k:Nat) (O:List Nat) (s:DS) (X:Secs2) (r:N.Tr × N.St × Int) (e:Ending) (w':World):Prop :=
 (r.2.2=0∧e=.returned (.tuple #[.agg (stv r.2.1),.int .i64 0])∧∃ m' y' f' C',St w0 w' p d Ns q ep O s X m' y' f' C' r.1∧KS k m'∧Chg [q] w w')∨(r.2.2≠0∧StP w N.st0 r.2.2 e w')
theorem wy_of {w:World} {B:Nat} {v:Value} {t:N.Tr} {qq:List N.Nm × Int} {a:N.Abv} (hA:N.AbvOk t qq a) (ho:OwnI w B v (wayT t qq.1.dropLast 1)) (h8:qq.1.length≤8):Wy w B v a.dir :=
 ⟨_,_,ho,wayT_len t _ _,wayT_last _ _ hA.way,by rw [List.length_dropLast];omega⟩
theorem chg_row {q g:Nat} {w w':World} (h:Chg [q] w w') (hg:w.heap.size≤g) (C:Array Value):Chg [q] w (w'.setRow g C) :=
 ⟨h.os,h.tape,h.output,by simpa [World.setRow] using h.size,fun j hj hn=>(setRow_other w' g j _ (by omega)).trans (h.block j hj hn)⟩
def Low (w0:World) (O:List Nat) (p q g:Nat):Prop:=(∀ b,b∈O∨b=p∨b=q→b<g)∧w0.heap.size≤g
theorem St.low {w0 w:World} {p d Ns q ep:Nat} {O:List Nat} {s:DS} {X:Secs2} {m:List Wr} {y:Nat→D.Nn} {f:Nat→Nat→Nat} {C:Nat→Nat→UInt8} {t:N.Tr} (h:St w0 w p d Ns q ep O s X m y f C t):Low w0 O p q w.heap.size :=
 ⟨fun b hb=>by
  rcases hb with hb | rfl | rfl
  ·exact h.sto.ons.sit.drv.lt b hb
  ·exact h.sto.st.lt
  ·exact h.sto.map.lt,h.sto.ons.sit.bel.size⟩
theorem St.row {w0 w:World} {p d Ns q ep g:Nat} {O:List Nat} {s:DS} {X:Secs2} {m:List Wr} {y:Nat→D.Nn} {f:Nat→Nat→Nat} {C:Nat→Nat→UInt8} {t:N.Tr} (h:St w0 w p d Ns q ep O s X m y f C t) (hl:Low w0 O p q g) (cs:Array Value):St w0 (w.setRow g cs) p d Ns q ep O s X m y f C t :=
 ⟨h.sto.keep_ (fun b hb=>setRow_other _ _ _ _ (by have:=hl.1 b hb;omega)) (below_setRow (Below.refl _ _) hl.2 cs),h.nds,h.like⟩
section
variable {w0 w w':World} {p d Ns q ep n B dir:Nat} {O:List Nat} {s:DS} {X:Secs2} {m:List Wr} {y:Nat→D.Nn} {f:Nat→Nat→Nat} {C:Nat→Nat→UInt8} {t:N.Tr} {ex:Nat→Int} {v:Value} {k:Nat}
set_option maxHeartbeats 4000000 in
theorem unlink_any (h:St w0 w p d Ns q ep O s X m y f C t) (ht:N.WF t) (st:List UInt8) (hks:KS k m) (hkl:k≤10):Calls Tryz.prog 10 #[.pointer (some ⟨p,0,none⟩),.string (P.bs st)] w (ChP w0 w p d Ns q ep (k+3) O s X (N.rmT t (P.split st))):=by
 have hqq:=h.sto.map.lt
 have HLOW:=Lib.hid h.low
 have HBR:=Lib.hid (fun W (hb:Below w.heap.size w W)=>nbarred_ok (h.sto.below hb))
 have HTK:=Lib.hid (fun W (hb:Below w.heap.size w W)=>taken_any (h.below hb) ht.x st)
 have h8:=(P.split_good st).2
 generalize P.split st=qq at *
 by_cases hte:takE (N.aboveT t qq)=0
 ·obtain ⟨ha0,hn0⟩:(N.aboveT t qq).err=0∧(N.aboveT t qq).node≠0:=by
   unfold takE at hte
   split at hte
   ·exact absurd hte ‹_›
   ·split at hte
    ·cases hte
    ·exact ⟨Decidable.not_not.1 ‹_›,‹_›⟩
  have hA:=N.above_of ht.x ha0
  obtain ⟨i,hf,hrow,g1,g2,g3⟩:=hA.yes hn0
  have hRM:N.rmT t qq=if (t.nd (N.aboveT t qq).node).k=2 then (t,N.st0,13) else (N.unlinkT (N.removeT t (N.aboveT t qq).dir (N.aboveT t qq).name) (N.aboveT t qq).node,N.stT t (N.aboveT t qq).node,0):=by
   unfold N.rmT
   rw [if_neg (fun e=>e ha0),if_neg hn0]
  rw [hte] at HTK
  have hok:=h.nds.img (N.aboveT t qq).node (by omega) g2
  have hlk:=h.like (N.aboveT t qq).node (by omega) g2
  have HST:=Lib.hid (fun W (hb:Below w.heap.size w W)=>nst_any (n:=(N.aboveT t qq).node) (h.below hb) (by omega) g2)
  have HTA:Hid ((t.nd (N.aboveT t qq).node).k≠2→∀ W B v,Below w.heap.size w W→Wy W B v (N.aboveT t qq).dir→q<B→Calls Tryz.prog 28 #[.agg #[.pointer (some ⟨p,0,none⟩),v,.string (E.bs (N.aboveT t qq).name),.int .i64 ((N.aboveT t qq).node:Int)]] W (LvQ w0 W p d Ns q ep (k+3) O s X (N.unlinkT (N.removeT t (N.aboveT t qq).dir (N.aboveT t qq).name) (N.aboveT t qq).node))):=fun hk2 W B v hb hw hqB=>by
   have hk1:(t.nd (N.aboveT t qq).node).k=1:=by
    have:=ht.x.kind _ g2
    omega
   have hl:=ok_size hok.2 (.inl (hlk.k.trans hk1))
   rw [hlk.l] at hl
   exact takeAway_yes (h.below hb) ht.x hw hqB hA.d1 hA.d32 hA.dk hf g1 g2 g3 (fun e=>hk2 (by rw [e];exact hA.dk)) hl.2.2.2.1 (fun _=>hk1) hl.2.2.2.2 hks hkl
  have HWY:=Lib.hid (fun W B v (ho:OwnI W B v (wayT t qq.1.dropLast 1))=>wy_of hA ho h8)
  have HSV:Hid ((N.stT t (N.aboveT t qq).node).k=(t.nd (N.aboveT t qq).node).k):=rfl
  have hlen:=wayT_len t qq.1.dropLast 1
  have HNE:Hid (wayT t qq.1.dropLast 1≠[]):=fun e=>by rw [e] at hlen;simp at hlen
  clear h ht h8 hte ha0 hn0 hA hf hrow g1 g2 g3 hok hlk hks hlen
  have HRM:=Lib.hid hRM
  clear hRM
  generalize N.unlinkT (N.removeT t (N.aboveT t qq).dir (N.aboveT t qq).name) (N.aboveT t qq).node=t' at *
  generalize N.stT t (N.aboveT t qq).node=sv at *
  generalize (t.nd (N.aboveT t qq).node).k=kd at *
  obtain ⟨a0,a1,a2⟩:=D.box1 w (Obj.cells z6 28)
  have A0:=Lib.hid a0
  have A1:=Lib.hid a1
  clear a0 a1 a2
  go_enter Tryz.func10,Tryz.ntmps10
  go_wp2_with fail
  refine (HBR.out _ A1.out).mono ?_
  rintro e w1 ⟨rfl,hb⟩
  have G1:=Lib.hid ((hb.block w.heap.size (by simp)).trans A0.out)
  have hlt1:w.heap.size<w1.heap.size:=Nat.lt_of_lt_of_le (by simp) hb.size
  have HB1:=Lib.hid (A1.out.trans (hb.mono (by simp)))
  clear hb HBR
  go_wp2_with fail
  refine (HTK.out w1 HB1.out).mono ?_
  rintro e w2 (⟨_,_,v,rfl,ho,hb⟩ | ⟨hne,_⟩)
  rotate_left 1
  ·exact absurd rfl hne
  have hWy:=HWY.out w2 _ v ho
  obtain ⟨g,c,hv,hg1,hg2,hc1,hc2,hcell⟩:=ownI_slice ho HNE.out
  clear hcell hc1 hc2 HWY HTK ho
  have G2:=Lib.hid ((hb.block w.heap.size hlt1).trans G1.out)
  have hlt2:w.heap.size<w2.heap.size:=Nat.lt_of_lt_of_le hlt1 hb.size
  have HB2:=Lib.hid (HB1.out.trans (hb.mono HB1.out.size))
  clear hb
  subst hv
  generalize (wayT t qq.1.dropLast 1).length=L at *
  generalize (N.aboveT t qq).dir=dir at *
  generalize (N.aboveT t qq).name=nm at *
  generalize (N.aboveT t qq).node=nn at *
  obtain ⟨b0,b1,b2⟩:=D.box1 w2 (Obj.cells (plc (some ⟨p,0,none⟩) (.slice (some ⟨g,0,none⟩) L c) (E.bs nm) (nn:Int)) 56)
  have P3:=Lib.hid b0
  have HWy:=Lib.hid (hWy.below b1)
  have G3:=Lib.hid ((b1.block w.heap.size hlt2).trans G2.out)
  have HB3:=Lib.hid (HB2.out.trans (b1.mono HB2.out.size))
  have hlt3:w2.heap.size<(w2.alloc (Obj.cells (plc (some ⟨p,0,none⟩) (.slice (some ⟨g,0,none⟩) L c) (E.bs nm) (nn:Int)) 56)).heap.size:=by simp
  clear b0 b1 b2 hWy
  go_upto_region 7 with (first | (refine D.wpList_store_new rfl 56 _ _ rfl w2 z56 (plc (some ⟨p,0,none⟩) (.slice (some ⟨g,0,none⟩) L c) (E.bs nm) (nn:Int)) rfl rfl (s56 _ _ _ _) rfl (plc_one _ _ _ _ _ _) ?_) | fail)
  generalize w2.alloc (Obj.cells (plc (some ⟨p,0,none⟩) (.slice (some ⟨g,0,none⟩) L c) (E.bs nm) (nn:Int)) 56)=W3 at *
  have c3:W3.cell? ⟨w2.heap.size,3,none⟩=some (.int .i64 (nn:Int)):=cell_of_row _ _ 3 _ _ _ P3.out
  go_wp2_with fail
  clear c3
  refine (HST.out W3 HB3.out).mono ?_
  rintro e w4 ⟨rfl,hb⟩
  have P4:=Lib.hid ((hb.block _ hlt3).trans P3.out)
  have G4:=Lib.hid ((hb.block _ (by omega)).trans G3.out)
  have HWy4:=Lib.hid (HWy.out.below hb)
  have HB4:=Lib.hid (HB3.out.trans (hb.mono HB3.out.size))
  have hlt4:w2.heap.size<w4.heap.size:=Nat.lt_of_lt_of_le hlt3 hb.size
  clear hb HST
  obtain ⟨b0,b1,b2⟩:=D.box1 w4 (Obj.cells (stv sv) 28)
  have S5:=Lib.hid b0
  have P5:=Lib.hid ((b1.block _ hlt4).trans P4.out)
  have G5:=Lib.hid ((b1.block _ (by omega)).trans G4.out)
  have HWy5:=Lib.hid (HWy4.out.below b1)
  have HB5:=Lib.hid (HB4.out.trans (b1.mono HB4.out.size))
  have hlt5:w4.heap.size<(w4.alloc (Obj.cells (stv sv) 28)).heap.size:=by simp
  clear b0 b1 b2
  go_upto_region 10 with (first | (refine D.wpList_store_new rfl 28 _ _ rfl w4 z6 (stv sv) rfl rfl (stv_size sv) rfl (stv_one sv) ?_) | fail)
  generalize w4.alloc (Obj.cells (stv sv) 28)=W5 at *
  have d0:W5.cell? ⟨w4.heap.size,2,none⟩=some (.int .i64 (sv.k:Int)):=cell_of_row _ _ 2 _ _ _ S5.out
  by_cases hk2:kd=2
  ·have hkb:((sv.k:Int) == 2)=true:=by rw [beq_iff_eq,HSV.out];omega
   go_wp2_with (first | (refine D.wpList_store_row rfl 28 _ _ rfl w.heap.size z6 z6 28 rfl rfl G5.out z6_size rfl z6_one ?_) | fail)
   refine bodyPost_ret (D.ret_row2 rfl rfl (D.setRow_in _ _ _ z6 _ G5.out) Tryz.underlying28 rfl z6_size) rfl ?_
   rw [HRM.out,if_pos hk2]
   exact .inr ⟨(by decide:(13:Int)≠0),rfl,below_setRow HB5.out (Nat.le_refl _) _⟩
  ·have hkb:((sv.k:Int) == 2)=false:=by rw [beq_eq_false_iff_ne,HSV.out];omega
   have HTA2:=Lib.hid (HTA.out hk2 W5 w1.heap.size _ HB5.out HWy5.out (by omega))
   clear HTA HWy5 HWy4 HWy
   go_wp2_with (first | (refine D.wpList_load_row rfl 56 _ rfl w2.heap.size rfl _ _ _ P5.out _ Tryz.underlying56 rfl (s56 _ _ _ _) ?_) | fail)
   refine HTA2.out.mono ?_
   rintro e w6 ⟨rfl,m',y',f',C',q1,q2,q3⟩
   have S6:=Lib.hid ((q3.block w4.heap.size hlt5 (by simp;omega)).trans S5.out)
   have G6:=Lib.hid ((q3.block w.heap.size (by omega) (by simp;omega)).trans G5.out)
   have HC6:Hid (Chg [q] w w6):=(Chg.of_below HB5.out).tr q3
   have HQ1:=Lib.hid q1
   have HQ2:=Lib.hid q2
   clear q1 q2 q3 HTA2
   clear d0
   go_wp2_with (first | (refine D.wpList_load_row rfl 28 _ rfl w4.heap.size rfl _ _ _ S6.out _ Tryz.underlying28 rfl (stv_size sv) ?_) | (refine D.wpList_store_row rfl 28 _ _ rfl w.heap.size z6 (stv sv) 28 rfl rfl G6.out (stv_size sv) rfl (stv_one sv) ?_) | fail)
   refine bodyPost_ret (D.ret_row2 rfl rfl (D.setRow_in _ _ _ (stv sv) _ G6.out) Tryz.underlying28 rfl (stv_size sv)) rfl ?_
   rw [HRM.out,if_neg hk2]
   exact .inl ⟨rfl,rfl,m',y',f',C',HQ1.out.row HLOW.out _,HQ2.out,chg_row HC6.out (Nat.le_refl _) _⟩
 ·have hRM:N.rmT t qq=(t,N.st0,takE (N.aboveT t qq)):=by
   unfold N.rmT takE at *
   split
   ·rfl
   ·split
    ·rfl
    ·rename_i h1 h2
     rw [if_neg h1,if_neg h2] at hte
     exact absurd rfl hte
  rw [hRM]
  have HTE:=Lib.hid hte
  have he:(takE (N.aboveT t qq) != 0)=true:=by rw [bne_iff_ne];exact hte
  clear h ht hks hRM hte
  generalize takE (N.aboveT t qq)=te at *
  obtain ⟨a0,a1,a2⟩:=D.box1 w (Obj.cells z6 28)
  have A0:=Lib.hid a0
  have A1:=Lib.hid a1
  clear a0 a1 a2
  go_enter Tryz.func10,Tryz.ntmps10
  go_wp2_with fail
  refine (HBR.out _ A1.out).mono ?_
  rintro e w1 ⟨rfl,hb⟩
  have G1:=Lib.hid ((hb.block w.heap.size (by simp)).trans A0.out)
  have hlt1:w.heap.size<w1.heap.size:=Nat.lt_of_lt_of_le (by simp) hb.size
  have HB1:=Lib.hid (A1.out.trans (hb.mono (by simp)))
  clear hb HBR
  go_wp2_with fail
  refine (HTK.out w1 HB1.out).mono ?_
  rintro e w2 (⟨h0,_⟩ | ⟨hne,pp,A,n',c',nm',kk,rfl,hb⟩)
  ·exact absurd h0 HTE.out
  have G2:=Lib.hid ((hb.block w.heap.size hlt1).trans G1.out)
  have hlt2:w.heap.size<w2.heap.size:=Nat.lt_of_lt_of_le hlt1 hb.size
  have HB2:=Lib.hid (HB1.out.trans (hb.mono HB1.out.size))
  clear hb
  obtain ⟨b0,b1,b2⟩:=D.box1 w2 (Obj.cells (plc pp (.slice A n' c') nm' kk) 56)
  have G3:=Lib.hid ((b1.block w.heap.size hlt2).trans G2.out)
  have HB3:=Lib.hid (HB2.out.trans (b1.mono HB2.out.size))
  clear b0 b1 b2 HTK
  go_upto_region 5 with (first | (refine D.wpList_store_new rfl 56 _ _ rfl w2 z56 (plc pp (.slice A n' c') nm' kk) rfl rfl (s56 _ _ _ _) rfl (plc_one _ _ _ _ _ _) ?_) | fail)
  generalize w2.alloc (Obj.cells (plc pp (.slice A n' c') nm' kk) 56)=W3 at *
  go_wp2_with (first | (refine D.wpList_store_row rfl 28 _ _ rfl w.heap.size z6 z6 28 rfl rfl G3.out z6_size rfl z6_one ?_) | fail)
  refine bodyPost_ret (D.ret_row2 rfl rfl (D.setRow_in _ _ _ z6 _ G3.out) Tryz.underlying28 rfl z6_size) rfl ?_
  exact .inr ⟨HTE.out,rfl,below_setRow HB3.out (Nat.le_refl _) _⟩
end
end Go.Proofs.YtkganhafbjgndaaGreatRR.V
namespace Go.Proofs.YtkganhafbjgndaaGreatRR.V
open Go.RowKit
set_option linter.unusedVariables false
set_option maxRecDepth 20000
theorem sett_comm {α:Type} (f:Nat→α) {i j:Nat} (x y:α) (h:i≠j):N.sett (N.sett f i x) j y=N.sett (N.sett f j y) i x:=by
 funext k
 unfold N.sett
 by_cases h1:k=j
 ·rw [if_pos h1,if_neg (by omega),if_pos h1]
 ·rw [if_neg h1]
  by_cases h2:k=i
  ·rw [if_pos h2,if_pos h2]
  ·rw [if_neg h2,if_neg h2,if_neg h1]
theorem sct_none {g:Nat→Bool} (h:∀ b,b<76→g b=false):sct g=0:=by
 have:sct g=sct fun _=>false:=sct_congr fun b hb=>h b hb
 rw [this]
 decide +kernel
theorem secN_nr (k g c:Nat) (hk:k≤2):secN (N.nr k 1 g c)=0:=by
 unfold secN
 split
 ·rfl
 ·exact sct_none fun b _=>by
   unfold blkT
   split
   ·exact decide_eq_false (by show ¬ 128 * b<32 * 0;omega)
   ·rfl
def midT (t:N.Tr) (n k:Nat):N.Tr:=⟨t.gens+1,(t.put n (N.nr k 1 (t.gens+1) (N.more (t.nd n).c))).nd⟩
theorem mid_ne {t:N.Tr} {n k j:Nat} (h:j≠n):(midT t n k).nd j=t.nd j:=N.nd_ne h
theorem mid_at {t:N.Tr} {n k:Nat}:(midT t n k).nd n=N.nr k 1 (t.gens+1) (N.more (t.nd n).c):=N.nd_at
theorem mid_wf {t:N.Tr} {n k:Nat} (h:N.WF t) (h1:1<n) (h2:n<32) (h0:(t.nd n).k=0) (hk:k=1∨k=2):∃ ex,N.WFx (midT t n k) ex :=
 ⟨_,(h.x.new (x:=N.nr k 1 (t.gens+1) (N.more (t.nd n).c)) h1 h2 h0 hk rfl fun _=>rfl).gens _⟩
theorem mid_secs {t:N.Tr} {n k:Nat} (h1:1≤n) (h2:n<32) (h0:(t.nd n).k=0) (hk:k≤2):secsT (midT t n k)=secsT t:=by
 have:=secsT_put t h1 h2 (N.nr k 1 (t.gens+1) (N.more (t.nd n).c))
 rw [secN_nr _ _ _ hk,show secN (t.nd n)=0 from if_pos h0] at this
 have e:secsT (midT t n k)=secsT (t.put n (N.nr k 1 (t.gens+1) (N.more (t.nd n).c))):=rfl
 omega
theorem make_eq {t:N.Tr} {qq:List N.Nm × Int} {n kn:Nat} (hk:kn=1∨kn=2) (ha:(N.aboveT t qq).err=0) (h0:(N.aboveT t qq).node=0) (hf:N.freeT t=some n) (hg:t.gens<1073741824) (hl:N.fullT t (N.aboveT t qq).dir=false) (hd:n≠(N.aboveT t qq).dir) :
  N.makeT t qq (kn:Int)=(N.addT (midT t n kn) (N.aboveT t qq).dir (N.aboveT t qq).name n,N.stT (N.addT (midT t n kn) (N.aboveT t qq).dir (N.aboveT t qq).name n) n,0):=by
 unfold N.makeT
 rw [if_neg (by omega),if_neg (fun e=>e ha),if_neg (fun e=>e h0),hf]
 simp only
 rw [if_neg (by omega),hl,if_neg (by decide)]
 have e:(⟨t.gens+1,((N.addT t (N.aboveT t qq).dir (N.aboveT t qq).name n).put n ⟨((kn:Nat):Int).toNat,1,t.gens+1,N.more (t.nd n).c,[],[],fun _=>false⟩).nd⟩:N.Tr)=N.addT (midT t n kn) (N.aboveT t qq).dir (N.aboveT t qq).name n:=by
  have e1:(midT t n kn).nd (N.aboveT t qq).dir=t.nd (N.aboveT t qq).dir:=mid_ne (Ne.symm hd)
  unfold N.addT N.setT
  rw [e1,Int.toNat_natCast]
  unfold midT N.Tr.put N.nr
  dsimp only
  rw [sett_comm _ _ _ hd]
 rw [e]
def MkP (w0 w:World) (p d Ns q ep k:Nat) (O:List Nat) (s:DS) (X:Secs2) (t:N.Tr) (r:N.Tr × N.St × Int) (e:Ending) (w':World):Prop :=
 ChP w0 w p d Ns q ep k O s X r e w'∨(r.2.2=0∧Ns - 43 - secsT t<3∧e=.returned (.tuple #[.agg z6,.int .i64 10])∧(∃ m',Sto w0 w' p d O Ns s X q m')∧Chg [q] w w')
section
variable {w0 w w':World} {p d Ns q ep n B dir:Nat} {O:List Nat} {s:DS} {X:Secs2} {m:List Wr} {y:Nat→D.Nn} {f:Nat→Nat→Nat} {C:Nat→Nat→UInt8} {t:N.Tr} {ex:Nat→Int} {v:Value} {k:Nat}
theorem new_mid {kn:Nat} (h:St w0 w p d Ns q ep O s X m y f C t) (ht:N.WF t) (hk:kn=1∨kn=2) (hf:N.freeT t=some n) (hg:t.gens<1073741824) (hks:KS k m) (hkl:k≤12) :
  Calls Tryz.prog 24 #[.pointer (some ⟨p,0,none⟩),.int .i64 kn] w fun e w'=>e=.returned (.tuple #[.int .i64 (n:Int),.int .i64 0])∧∃ m' y' f' C',St w0 w' p d Ns q ep O s X m' y' f' C' (midT t n kn)∧KS k m'∧Chg [q] w w':=by
 obtain ⟨f1,f2,f3,f4⟩:=N.free_some ht.x hf
 have hl:=hks.len h.sto.mok
 have hy0:(y n).k=0:=(h.yk (by omega) f2).trans f3
 have hfn:f n=fun _=>0:=h.nds.no n f2 (.inr hy0)
 refine (h.nds.new h.sto hg hk (by omega) f2 (fun i i1 i2=>by rw [h.yk i1 (by omega)];exact f4 i i1 i2) hy0 (by omega)).mono ?_
 rintro e w' ⟨rfl,m',a1,a2,a3,a4⟩
 exact ⟨rfl,m',_,_,_,⟨a1,a2,h.like.new hk hfn (h.like n (by omega) f2).c⟩,hks.sub fun x hx=>by
  rcases a3 x hx with rfl | rfl | hx
  ·exact .inl (kb_node f2)
  ·exact .inl (by decide)
  ·exact .inr hx,a4⟩
set_option maxHeartbeats 8000000 in
theorem make_any {kn:Nat} (h:St w0 w p d Ns q ep O s X m y f C t) (ht:N.WF t) (st:List UInt8) (hk:kn=1∨kn=2) (hg:t.gens<1073741824) (hfl:∀ j,j<32→N.fullT t j=false) (hks:KS k m) (hkl:k≤11) :
  Calls Tryz.prog 8 #[.pointer (some ⟨p,0,none⟩),.string (P.bs st),.int .i64 (kn:Int)] w (MkP w0 w p d Ns q ep (k+3) O s X t (N.makeT t (P.split st) (kn:Int))):=by
 have hqq:=h.sto.map.lt
 have HLOW:=Lib.hid h.low
 have HBR:=Lib.hid (fun W (hb:Below w.heap.size w W)=>nbarred_ok (h.sto.below hb))
 have HTK:=Lib.hid (fun W (hb:Below w.heap.size w W)=>vacant_any (h.below hb) ht.x st)
 have h8:=(P.split_good st).2
 have hnames:=(P.split_good st).1
 generalize P.split st=qq at *
 by_cases hte:vacE (N.aboveT t qq)=0
 ·obtain ⟨ha0,hn0⟩:(N.aboveT t qq).err=0∧(N.aboveT t qq).node=0:=by
   unfold vacE at hte
   split at hte
   ·exact absurd hte ‹_›
   ·split at hte
    ·cases hte
    ·exact ⟨Decidable.not_not.1 ‹_›,Decidable.not_not.1 ‹_›⟩
  have hA:=N.above_of ht.x ha0
  rw [hte] at HTK
  have HWY:=Lib.hid (fun W B v (ho:OwnI W B v (wayT t qq.1.dropLast 1))=>wy_of hA ho h8)
  have hlen:=wayT_len t qq.1.dropLast 1
  have HNE:Hid (wayT t qq.1.dropLast 1≠[]):=fun e=>by rw [e] at hlen;simp at hlen
  cases hfr:N.freeT t with
  | none =>
   have HNF:Hid (∀ W,Below w.heap.size w W→Calls Tryz.prog 24 #[.pointer (some ⟨p,0,none⟩),.int .i64 (kn:Int)] W fun e w'=>e=.returned (.tuple #[.int .i64 0,.int .i64 9])∧Below W.heap.size W w'):=fun W hb=>h.nds.newFull (h.sto.below hb) hk fun i i1 i2=>by rw [h.yk i1 i2];exact N.free_none hfr i i1 i2
   have HRM:Hid (N.makeT t qq (kn:Int)=(t,N.st0,9)):=by
    show _=_
    unfold N.makeT
    rw [if_neg (by omega),if_neg (fun e=>e ha0),if_neg (fun e=>e hn0),hfr]
   clear h ht h8 hte ha0 hn0 hA hks hlen hnames hfl hfr
   rcases hk with rfl | rfl
   all_goals
    obtain ⟨a0,a1,a2⟩:=D.box1 w (Obj.cells z6 28)
    have A0:=Lib.hid a0
    have A1:=Lib.hid a1
    clear a0 a1 a2
    go_enter Tryz.func8,Tryz.ntmps8
    go_wp2_with fail
    refine (HBR.out _ A1.out).mono ?_
    rintro e w1 ⟨rfl,hb⟩
    have G1:=Lib.hid ((hb.block w.heap.size (by simp)).trans A0.out)
    have hlt1:w.heap.size<w1.heap.size:=Nat.lt_of_lt_of_le (by simp) hb.size
    have HB1:=Lib.hid (A1.out.trans (hb.mono (by simp)))
    clear hb HBR
    go_wp2_with fail
    refine (HTK.out w1 HB1.out).mono ?_
    rintro e w2 (⟨_,_,v,rfl,ho,hb⟩ | ⟨hne,_⟩)
    rotate_left 1
    ·exact absurd rfl hne
    have hWy:=HWY.out w2 _ v ho
    obtain ⟨g,c,hv,hg1,hg2,hc1,hc2,hcell⟩:=ownI_slice ho HNE.out
    clear hcell hc1 hc2 HWY HTK ho
    have G2:=Lib.hid ((hb.block w.heap.size hlt1).trans G1.out)
    have hlt2:w.heap.size<w2.heap.size:=Nat.lt_of_lt_of_le hlt1 hb.size
    have HB2:=Lib.hid (HB1.out.trans (hb.mono HB1.out.size))
    clear hb
    subst hv
    generalize (wayT t qq.1.dropLast 1).length=L at *
    generalize (N.aboveT t qq).dir=dir at *
    generalize (N.aboveT t qq).name=nm at *
    generalize (N.aboveT t qq).node=nn at *
    obtain ⟨b0,b1,b2⟩:=D.box1 w2 (Obj.cells (plc (some ⟨p,0,none⟩) (.slice (some ⟨g,0,none⟩) L c) (E.bs nm) (nn:Int)) 56)
    have P3:=Lib.hid b0
    have HWy:=Lib.hid (hWy.below b1)
    have G3:=Lib.hid ((b1.block w.heap.size hlt2).trans G2.out)
    have HB3:=Lib.hid (HB2.out.trans (b1.mono HB2.out.size))
    have hlt3:w2.heap.size<(w2.alloc (Obj.cells (plc (some ⟨p,0,none⟩) (.slice (some ⟨g,0,none⟩) L c) (E.bs nm) (nn:Int)) 56)).heap.size:=by simp
    clear b0 b1 b2 hWy
    go_upto_region 9 with (first | (refine D.wpList_store_new rfl 56 _ _ rfl w2 z56 (plc (some ⟨p,0,none⟩) (.slice (some ⟨g,0,none⟩) L c) (E.bs nm) (nn:Int)) rfl rfl (s56 _ _ _ _) rfl (plc_one _ _ _ _ _ _) ?_) | fail)
    generalize w2.alloc (Obj.cells (plc (some ⟨p,0,none⟩) (.slice (some ⟨g,0,none⟩) L c) (E.bs nm) (nn:Int)) 56)=W3 at *
    go_wp2_with fail
    refine (HNF.out W3 HB3.out).mono ?_
    rintro e w4 ⟨rfl,hb⟩
    have G4:=Lib.hid ((hb.block _ (by omega)).trans G3.out)
    have HB4:=Lib.hid (HB3.out.trans (hb.mono HB3.out.size))
    clear hb
    go_wp2_with (first | (refine D.wpList_store_row rfl 28 _ _ rfl w.heap.size z6 z6 28 rfl rfl G4.out z6_size rfl z6_one ?_) | fail)
    refine bodyPost_ret (D.ret_row2 rfl rfl (D.setRow_in _ _ _ z6 _ G4.out) Tryz.underlying28 rfl z6_size) rfl ?_
    rw [HRM.out]
    exact .inl (.inr ⟨(by decide:(9:Int)≠0),rfl,below_setRow HB4.out (Nat.le_refl _) _⟩)
  | some n =>
   obtain ⟨f1,f2,f3,f4⟩:=N.free_some ht.x hfr
   have hnd:n≠(N.aboveT t qq).dir:=fun e=>by
    have:=hA.dk
    rw [← e,f3] at this
    cases this
   have HRM:=Lib.hid (make_eq hk ha0 hn0 hfr hg (hfl _ hA.d32) hnd)
   have hnmB:N.nameB (N.aboveT t qq).name=true:=hA.name fun s hs=>by
    have:=List.all_eq_true.1 hnames s hs
    exact this
   obtain ⟨ex,hmw⟩:=mid_wf ht f1 f2 f3 hk
   have hmd:(midT t n kn).nd (N.aboveT t qq).dir=t.nd (N.aboveT t qq).dir:=mid_ne (Ne.symm hnd)
   have hmf:N.fullT (midT t n kn) (N.aboveT t qq).dir=false:=by
    unfold N.fullT
    rw [hmd]
    exact hfl _ hA.d32
   have hrow:N.RowOk (midT t n kn) ((N.aboveT t qq).name,(n:Int)):=.inr ⟨hnmB,n,rfl,f1,f2,by rw [mid_at];show kn≠0;omega⟩
   have hms:=mid_secs (t:=t) (k:=kn) (by omega:1≤n) f2 f3 (by omega)
   have HNW:Hid (∀ W,Below w.heap.size w W→Calls Tryz.prog 24 #[.pointer (some ⟨p,0,none⟩),.int .i64 (kn:Int)] W fun e w1=>e=.returned (.tuple #[.int .i64 (n:Int),.int .i64 0])∧Chg [q] W w1 ∧
     ∀ W1 B v,Below w1.heap.size w1 W1→Wy W1 B v (N.aboveT t qq).dir→Calls Tryz.prog 25 #[.agg #[.pointer (some ⟨p,0,none⟩),v,.string (E.bs (N.aboveT t qq).name),.int .i64 0],.int .i64 (n:Int)] W1 fun e w2=>∃ er,e=.returned (.int .i64 er)∧Chg [q] W1 w2 ∧
      ((er=0∧∃ m' y' f' C',St w0 w2 p d Ns q ep O s X m' y' f' C' (N.addT (midT t n kn) (N.aboveT t qq).dir (N.aboveT t qq).name n)∧KS (k+3) m')∨(er=10∧Ns - 43 - secsT t<3∧∃ m',Sto w0 w2 p d O Ns s X q m'))):=fun W hb=>by
    refine (new_mid (h.below hb) ht hk hfr hg hks (by omega)).mono ?_
    rintro e w1 ⟨rfl,m1,y1,fa,C1,a1,a2,a3⟩
    refine ⟨rfl,a3,fun W1 B v hb1 hw=>?_⟩
    refine (come_yes (a1.below hb1) hmw hw hA.d1 hA.d32 (by rw [hmd];exact hA.dk) hmf hrow a2 hkl 0).mono ?_
    rintro e w2 ⟨er,rfl,⟨rfl,m2,y2,fb,C2,b1,b2,b3,b4,b5⟩ | ⟨rfl,_,b2,_,b4,b5⟩⟩
    ·exact ⟨0,rfl,b5,.inl ⟨rfl,m2,y2,fb,C2,⟨b1,b2,b3⟩,b4⟩⟩
    ·exact ⟨10,rfl,b5,.inr ⟨rfl,by omega,b4⟩⟩
   have hst:∀ W m' y' f' C',St w0 W p d Ns q ep O s X m' y' f' C' (N.addT (midT t n kn) (N.aboveT t qq).dir (N.aboveT t qq).name n)→Calls Tryz.prog 26 #[.pointer (some ⟨p,0,none⟩),.int .i64 n] W fun e w'=>e=.returned (.tuple #[.agg (stv (N.stT (N.addT (midT t n kn) (N.aboveT t qq).dir (N.aboveT t qq).name n) n)),.int .i64 0])∧Below W.heap.size W w':=fun W m' y' f' C' h=>nst_any h (by omega) f2
   have HSTT:=Lib.hid hst
   clear h ht h8 hte ha0 hA hks hlen hnames hfl hfr f1 f2 f3 f4 hnd hnmB hmw hmd hmf hrow hms hst
   generalize N.addT (midT t n kn) (N.aboveT t qq).dir (N.aboveT t qq).name n=t' at *
   generalize N.stT t' n=sv at *
   rcases hk with rfl | rfl
   all_goals
    obtain ⟨a0,a1,a2⟩:=D.box1 w (Obj.cells z6 28)
    have A0:=Lib.hid a0
    have A1:=Lib.hid a1
    clear a0 a1 a2
    go_enter Tryz.func8,Tryz.ntmps8
    go_wp2_with fail
    refine (HBR.out _ A1.out).mono ?_
    rintro e w1 ⟨rfl,hb⟩
    have G1:=Lib.hid ((hb.block w.heap.size (by simp)).trans A0.out)
    have hlt1:w.heap.size<w1.heap.size:=Nat.lt_of_lt_of_le (by simp) hb.size
    have HB1:=Lib.hid (A1.out.trans (hb.mono (by simp)))
    clear hb HBR
    go_wp2_with fail
    refine (HTK.out w1 HB1.out).mono ?_
    rintro e w2 (⟨_,_,v,rfl,ho,hb⟩ | ⟨hne,_⟩)
    rotate_left 1
    ·exact absurd rfl hne
    have hWy:=HWY.out w2 _ v ho
    obtain ⟨g,c,hv,hg1,hg2,hc1,hc2,hcell⟩:=ownI_slice ho HNE.out
    clear hcell hc1 hc2 HWY HTK ho
    have G2:=Lib.hid ((hb.block w.heap.size hlt1).trans G1.out)
    have hlt2:w.heap.size<w2.heap.size:=Nat.lt_of_lt_of_le hlt1 hb.size
    have HB2:=Lib.hid (HB1.out.trans (hb.mono HB1.out.size))
    clear hb
    subst hv
    generalize (wayT t qq.1.dropLast 1).length=L at *
    generalize (N.aboveT t qq).dir=dir at *
    generalize (N.aboveT t qq).name=nm at *
    generalize (N.aboveT t qq).node=nn at *
    subst hn0
    obtain ⟨b0,b1,b2⟩:=D.box1 w2 (Obj.cells (plc (some ⟨p,0,none⟩) (.slice (some ⟨g,0,none⟩) L c) (E.bs nm) 0) 56)
    have P3:=Lib.hid b0
    have HWy:=Lib.hid (hWy.below b1)
    have G3:=Lib.hid ((b1.block w.heap.size hlt2).trans G2.out)
    have HB3:=Lib.hid (HB2.out.trans (b1.mono HB2.out.size))
    have hlt3:w2.heap.size<(w2.alloc (Obj.cells (plc (some ⟨p,0,none⟩) (.slice (some ⟨g,0,none⟩) L c) (E.bs nm) 0) 56)).heap.size:=by simp
    clear b0 b1 b2 hWy
    go_upto_region 9 with (first | (refine D.wpList_store_new rfl 56 _ _ rfl w2 z56 (plc (some ⟨p,0,none⟩) (.slice (some ⟨g,0,none⟩) L c) (E.bs nm) 0) rfl rfl (s56 _ _ _ _) rfl (plc_one _ _ _ _ _ _) ?_) | fail)
    generalize w2.alloc (Obj.cells (plc (some ⟨p,0,none⟩) (.slice (some ⟨g,0,none⟩) L c) (E.bs nm) 0) 56)=W3 at *
    go_wp2_with fail
    refine (HNW.out W3 HB3.out).mono ?_
    rintro e w4 ⟨rfl,hc,hcm⟩
    have P4:=Lib.hid ((hc.block w2.heap.size hlt3 (by simp;omega)).trans P3.out)
    have G4:=Lib.hid ((hc.block w.heap.size (by omega) (by simp;omega)).trans G3.out)
    have HWy4:=Lib.hid (HWy.out.chg hc (by omega))
    have HC4:Hid (Chg [q] w w4):=(Chg.of_below HB3.out).tr hc
    have hlt4:w2.heap.size<w4.heap.size:=Nat.lt_of_lt_of_le hlt3 hc.size
    have HCM:=Lib.hid (hcm w4 w1.heap.size _ (Below.refl _ _) HWy4.out)
    clear hc hcm HNW HWy
    go_wp2_with (first | (refine D.wpList_load_row rfl 56 _ rfl w2.heap.size rfl _ _ _ P4.out _ Tryz.underlying56 rfl (s56 _ _ _ _) ?_) | fail)
    refine HCM.out.mono ?_
    rintro e w5 ⟨er,rfl,hc,hq⟩
    have G5:=Lib.hid ((hc.block w.heap.size (by omega) (by simp;omega)).trans G4.out)
    have HC5:Hid (Chg [q] w w5):=HC4.out.tr hc
    have hlt5:w.heap.size<w5.heap.size:=Nat.lt_of_lt_of_le (by omega) hc.size
    clear hc HCM
    rcases hq with ⟨rfl,m',y',f',C',q1,q2⟩ | ⟨rfl,q1,m',q2⟩
    ·have HQ1:=Lib.hid q1
     have HQ2:=Lib.hid q2
     have HST5:=Lib.hid (HSTT.out _ _ _ _ _ q1)
     clear q1 q2 HSTT
     go_wp2_with fail
     refine HST5.out.mono ?_
     rintro e w6 ⟨rfl,hb⟩
     have G6:=Lib.hid ((hb.block w.heap.size hlt5).trans G5.out)
     have HC6:Hid (Chg [q] w w6):=HC5.out.tr (Chg.of_below hb)
     have HQ6:=Lib.hid (HQ1.out.below hb)
     clear hb
     go_wp2_with (first | (refine D.wpList_store_row rfl 28 _ _ rfl w.heap.size z6 (stv sv) 28 rfl rfl G6.out (stv_size sv) rfl (stv_one sv) ?_) | fail)
     refine bodyPost_ret (D.ret_row2 rfl rfl (D.setRow_in _ _ _ (stv sv) _ G6.out) Tryz.underlying28 rfl (stv_size sv)) rfl ?_
     rw [HRM.out]
     exact .inl (.inl ⟨rfl,rfl,m',y',f',C',HQ6.out.row HLOW.out _,HQ2.out,chg_row HC6.out (Nat.le_refl _) _⟩)
    ·have HQ1:=Lib.hid q1
     have HQ2:=Lib.hid q2
     clear q1 q2 HSTT
     go_wp2_with (first | (refine D.wpList_store_row rfl 28 _ _ rfl w.heap.size z6 z6 28 rfl rfl G5.out z6_size rfl z6_one ?_) | fail)
     refine bodyPost_ret (D.ret_row2 rfl rfl (D.setRow_in _ _ _ z6 _ G5.out) Tryz.underlying28 rfl z6_size) rfl ?_
     rw [HRM.out]
     exact .inr ⟨rfl,HQ1.out,rfl,⟨m',HQ2.out.keep_ (fun b hb=>setRow_other _ _ _ _ (by have:=HLOW.out.1 b hb;omega)) (below_setRow (Below.refl _ _) HLOW.out.2 _)⟩,chg_row HC5.out (Nat.le_refl _) _⟩
 ·have HRM:Hid (N.makeT t qq (kn:Int)=(t,N.st0,vacE (N.aboveT t qq))):=by
   show _=_
   unfold N.makeT vacE at *
   rw [if_neg (by omega)]
   split
   ·rfl
   ·rename_i h1
    rw [if_neg h1] at hte
    split
    ·rfl
    ·rename_i h2
     rw [if_neg h2] at hte
     exact absurd rfl hte
  have HTE:=Lib.hid hte
  have he:(vacE (N.aboveT t qq) != 0)=true:=by rw [bne_iff_ne];exact hte
  clear h ht hks hte hfl hnames
  generalize vacE (N.aboveT t qq)=te at *
  rcases hk with rfl | rfl
  all_goals
   obtain ⟨a0,a1,a2⟩:=D.box1 w (Obj.cells z6 28)
   have A0:=Lib.hid a0
   have A1:=Lib.hid a1
   clear a0 a1 a2
   go_enter Tryz.func8,Tryz.ntmps8
   go_wp2_with fail
   refine (HBR.out _ A1.out).mono ?_
   rintro e w1 ⟨rfl,hb⟩
   have G1:=Lib.hid ((hb.block w.heap.size (by simp)).trans A0.out)
   have hlt1:w.heap.size<w1.heap.size:=Nat.lt_of_lt_of_le (by simp) hb.size
   have HB1:=Lib.hid (A1.out.trans (hb.mono (by simp)))
   clear hb HBR
   go_wp2_with fail
   refine (HTK.out w1 HB1.out).mono ?_
   rintro e w2 (⟨h0,_⟩ | ⟨hne,pp,A,n',c',nm',kk,rfl,hb⟩)
   ·exact absurd h0 HTE.out
   have G2:=Lib.hid ((hb.block w.heap.size hlt1).trans G1.out)
   have hlt2:w.heap.size<w2.heap.size:=Nat.lt_of_lt_of_le hlt1 hb.size
   have HB2:=Lib.hid (HB1.out.trans (hb.mono HB1.out.size))
   clear hb
   obtain ⟨b0,b1,b2⟩:=D.box1 w2 (Obj.cells (plc pp (.slice A n' c') nm' kk) 56)
   have G3:=Lib.hid ((b1.block w.heap.size hlt2).trans G2.out)
   have HB3:=Lib.hid (HB2.out.trans (b1.mono HB2.out.size))
   clear b0 b1 b2 HTK
   go_upto_region 7 with (first | (refine D.wpList_store_new rfl 56 _ _ rfl w2 z56 (plc pp (.slice A n' c') nm' kk) rfl rfl (s56 _ _ _ _) rfl (plc_one _ _ _ _ _ _) ?_) | fail)
   generalize w2.alloc (Obj.cells (plc pp (.slice A n' c') nm' kk) 56)=W3 at *
   go_wp2_with (first | (refine D.wpList_store_row rfl 28 _ _ rfl w.heap.size z6 z6 28 rfl rfl G3.out z6_size rfl z6_one ?_) | fail)
   refine bodyPost_ret (D.ret_row2 rfl rfl (D.setRow_in _ _ _ z6 _ G3.out) Tryz.underlying28 rfl z6_size) rfl ?_
   rw [HRM.out]
   exact .inl (.inr ⟨HTE.out,rfl,below_setRow HB3.out (Nat.le_refl _) _⟩)
end
end Go.Proofs.YtkganhafbjgndaaGreatRR.V
