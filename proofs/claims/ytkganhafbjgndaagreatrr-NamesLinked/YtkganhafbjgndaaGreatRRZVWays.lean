/- way, with sectors taken and without. -/
import Derived.Test.YtkganhafbjgndaaGreatRRZVGo
namespace Go.Proofs.YtkganhafbjgndaaGreatRR.V
open Go.RowKit
set_option linter.unusedVariables false
set_option maxRecDepth 20000
section
variable {w0 w w1 w2 w':World} {p d N q bf nn:Nat} {O:List Nat} {s:DS} {X:Secs2} {m m1:List Wr} {G:Nat→Prop} {y y1:D.Nn} {f f1 f2:Nat→Nat} {C:Nat→UInt8} {low:List Int} {Tx:List Nat} {S S1 S2 is1 is2 is:List Nat}
theorem Op.fresh (h:Op w0 w p d N q bf nn O s X m G y f C low Tx) {P:Nat} (hP:w.heap.size≤P):P∉O∧P≠p∧P≠q∧P≠bf∧w0.heap.size≤P:=by
 have h1:=h.sto.st.lt
 have h2:=h.sto.map.lt
 have h3:=h.fil.lt
 have h4:=h.bf0
 exact ⟨fun hm=>by have:=h.sto.ons.sit.drv.lt _ hm;omega,by omega,by omega,by omega,by omega⟩
theorem Op.chg (h:Op w0 w p d N q bf nn O s X m G y f C low Tx) {P:Nat} (hc:Chg [P] w w') (hP:P∉O∧P≠p∧P≠q∧P≠bf∧w0.heap.size≤P):Op w0 w' p d N q bf nn O s X m G y f C low Tx:=by
 have hw0:w0.heap.size≤w.heap.size:=by have:=h.bf0;have:=h.fil.lt;omega
 refine ⟨h.sto.keep_ (fun b hb=>?_) (hc.below hw0 fun b hb=>by simp at hb;omega),h.fil.keep (hc.block bf h.fil.lt (by simp;omega)),h.mid,h.con,h.bud,h.bfO,h.bfp,h.bfq,h.bf0⟩
 rcases hb with hb | hb | hb
 ·exact hc.block b (h.sto.ons.sit.drv.lt _ hb) (by simp;rintro rfl;exact hP.1 hb)
 ·exact hc.block b (by rw [hb];exact h.sto.st.lt) (by simp;omega)
 ·exact hc.block b (by rw [hb];exact h.sto.map.lt) (by simp;omega)
theorem Rch.trans (hnu:Nu y y1) (h1:Rch w0 w p d N q bf nn O s X m G y f C low Tx S1 is1 f1 w1) (ho:Op w0 w1 p d N q bf nn O s X m1 G y1 f1 C low Tx) (hfr:Fr f1 (view X m) (view X m1)) (hc:Chg S w w2) (hS2:∀ b∈S2,b∈S∨w.heap.size≤b)
  (h2:Rch w0 w2 p d N q bf nn O s X m1 G y1 f1 C low Tx S2 is2 f2 w') (h3:∀ k,k∈is1∨k∈is2→k∈is):Rch w0 w p d N q bf nn O s X m G y f C low Tx S is f2 w':=by
 obtain ⟨m2,y2,ho2,hfr2,hb2⟩:=h2.op
 exact ⟨⟨m2,y2,ho2,hfr.trans hfr2 h2.ext,hnu.trans hb2⟩,h1.ext.trans h2.ext,fun k hk=>(h2.new k hk).elim (fun a=>(h1.new k a).imp id fun b=>h3 k (.inl b)) (fun b=>.inr (h3 k (.inr b))),hc.trans h2.chg hS2⟩
theorem Rch.no (h1:Rch w0 w p d N q bf nn O s X m G y f C low Tx S1 is1 f1 w1) (ho:Op w0 w1 p d N q bf nn O s X m1 G y1 f1 C low Tx) (hfr:Fr f1 (view X m) (view X m1)) (hc:Chg S w w2) (hS2:∀ b∈S2,b∈S∨w.heap.size≤b)
  (h2:Rno w0 w2 p d N q bf nn O s X m1 G f1 C low Tx S2 is2 f2 w') (h3:∀ k,k∈is1∨k∈is2→k∈is):Rno w0 w p d N q bf nn O s X m G f C low Tx S is f2 w':=by
 obtain ⟨m2,y2,ho2,hfr2,hb2⟩:=h2.op
 obtain ⟨k,hk,e⟩:=h2.lack
 exact ⟨⟨m2,y2,ho2,hfr.trans hfr2 h2.ext,hb2⟩,h1.ext.trans h2.ext,fun k hk=>(h2.new k hk).elim (fun a=>(h1.new k a).imp id fun b=>h3 k (.inl b)) (fun b=>.inr (h3 k (.inr b))),hc.trans h2.chg hS2,k,h3 k (.inr hk),e⟩
theorem Rno.from (hc:Chg S w w2) (hS2:∀ b∈S2,b∈S∨w.heap.size≤b) (h2:Rno w0 w2 p d N q bf nn O s X m G f C low Tx S2 is2 f2 w') (h3:∀ k,k∈is2→k∈is):Rno w0 w p d N q bf nn O s X m G f C low Tx S is f2 w':=by
 obtain ⟨k,hk,e⟩:=h2.lack
 exact ⟨h2.op,h2.ext,fun k hk=>(h2.new k hk).imp id (h3 k),hc.trans h2.chg hS2,k,h3 k hk,e⟩
theorem Rch.from (hc:Chg S w w2) (hS2:∀ b∈S2,b∈S∨w.heap.size≤b) (h2:Rch w0 w2 p d N q bf nn O s X m G y f C low Tx S2 is2 f2 w') (h3:∀ k,k∈is2→k∈is):Rch w0 w p d N q bf nn O s X m G y f C low Tx S is f2 w' :=
 ⟨h2.op,h2.ext,fun k hk=>(h2.new k hk).imp id (h3 k),hc.trans h2.chg hS2⟩
theorem chg_setRow (w:World) (P:Nat) (C:Array Value):Chg [P] w (w.setRow P C):=⟨rfl,rfl,rfl,by simp [World.setRow],fun k hk hn=>setRow_other w P k C (by simpa using hn)⟩
theorem SubAt.setRow {fp L b1 b2 b3 P:Nat} {g:Nat→Nat} {C' C'':Array Value} {t:TypeId} (h:SubAt w bf fp g L b1 b2 b3) (hP:w.heap[P]?=some (.cells C' t (0,0))) (hs:C'.size=2):SubAt (w.setRow P C'') bf fp g L b1 b2 b3 :=
 ⟨(setRow_other w P _ _ (row_ne h.x1 hP (by rw [hs];simp))).trans h.x1,(setRow_other w P _ _ (row_ne h.x2 hP (by rw [hs];simp))).trans h.x2,(setRow_other w P _ _ (row_ne h.x3 hP (by rw [hs];simp))).trans h.x3,(setRow_other w P _ _ (row_ne h.lst hP (by rw [hs];simp [pl_len]))).trans h.lst⟩
theorem SubAt.congr {fp L b1 b2 b3:Nat} {g g':Nat→Nat} (h:SubAt w bf fp g L b1 b2 b3) (he:∀ i,i<8→g i=g' i):SubAt w bf fp g' L b1 b2 b3 :=
 ⟨h.x1,h.x2,h.x3,by have:=h.lst;unfold Lst at this ⊢;rw [← pl_congr he];exact this⟩
def WayQ (w0 w:World) (p d N q bf nn:Nat) (O:List Nat) (s:DS) (X:Secs2) (m:List Wr) (G:Nat→Prop) (y:D.Nn) (f:Nat→Nat) (C:Nat→UInt8) (low:List Int) (Tx:List Nat) (b:Nat) (e:Ending) (w':World):Prop :=
 (∃ f',e=.returned (.tuple #[.int .i64 (f' (ixb b):Nat),.int .i64 0])∧f' (ixb b)≠0∧Rch w0 w p d N q bf nn O s X m G y f C low Tx [q,bf] (path b) f' w')∨(e=.returned (.tuple #[.int .i64 0,.int .i64 10])∧∃ f',Rno w0 w p d N q bf nn O s X m G f C low Tx [q,bf] (path b) f' w')
set_option maxHeartbeats 4000000 in
theorem way_one {b:Nat} (hb:b<4) (h:Op w0 w p d N q bf nn O s X m G y f C low Tx) (hx:∀ ix∈path (b),ix∈Tx) :
  Calls Tryz.prog 92 #[.pointer (some ⟨bf,0,none⟩),.int .i64 ((b:Nat):Int),KT bf] w (WayQ w0 w p d N q bf nn O s X m G y f C low Tx (b)):=by
 have H:=Lib.hid h
 have hpath:path b=[b]:=by unfold path;rw [if_pos hb]
 have hixb:ixb b=b:=by unfold ixb;rw [if_pos hb]
 have HX:Hid (b∈Tx):=hx b (by rw [hpath];simp)
 unfold WayQ
 rw [hpath,hixb]
 have HR:=Lib.hid (T.route_yes (b) w (by omega))
 rw [T.route_one hb] at HR
 clear h hx hpath hixb
 go_enter Tryz.func92,Tryz.ntmps92
 go_wp2_with fail
 refine HR.out.mono ?_
 rintro e w1 ⟨g,rfl,hi,hbel,hgw⟩
 have H1:=Lib.hid (H.out.below hbel)
 have HB1:=Lib.hid hbel
 have HI:=Lib.hid hi
 have hg:g<w1.heap.size:=by
  obtain ⟨g',off,e,hg,hc⟩:=hi.cell (k:=0) (by simp)
  cases e
  exact hg
 have c0:w1.cell? ⟨g,0,none⟩=some (.int .i64 (b:Int)):=by
  obtain ⟨g',off,e,_,hc⟩:=HI.out.cell (k:=0) (by simp)
  cases e
  exact hc
 have C0:=Lib.hid c0
 clear hi hbel HR HI
 simp only [List.length_cons,List.length_nil]
 go_wp2_with fail
 refine (start_yes (bf:=bf) (i:=b) (by omega) _).mono ?_
 rintro e w2 ⟨rfl,hbel⟩
 have H2:=Lib.hid (H1.out.below hbel)
 have HB2:=Lib.hid (HB1.out.trans (hbel.mono HB1.out.size))
 have HGW:=Lib.hid (hbel.mono (Nat.le_refl _))
 obtain ⟨a0,a1,a2⟩:=D.box1 w2 (Obj.cells #[.pointer (some ⟨bf,7+b,none⟩),K0] 189)
 have H3:=Lib.hid (H2.out.below a1)
 have HB3:=Lib.hid (HB2.out.trans (a1.mono HB2.out.size))
 have HA:=Lib.hid a0
 have HP:Hid (w.heap.size≤w2.heap.size∧g<w2.heap.size):=⟨HB2.out.size,by have:=hbel.size;omega⟩
 have HPW:Hid (w2.heap.size<(w2.alloc (Obj.cells #[.pointer (some ⟨bf,7+b,none⟩),K0] 189)).heap.size):=by show _ < _;omega
 have HGB:=Lib.hid (hbel.trans (a1.mono hbel.size))
 clear hbel a0 a1 a2 c0
 go_upto_region 5 with fail
 generalize w2.alloc (Obj.cells #[.pointer (some ⟨bf,7+b,none⟩),K0] 189)=W at *
 go_wp2_with fail
 refine wp_loop_rounds 1 ?_
 rw [rounds_succ]
 go_wp2_with (first | (refine D.wpList_load_row rfl 189 _ rfl w2.heap.size rfl _ _ _ HA.out _ Tryz.underlying189 rfl s193 ?_) | fail)
 refine (reach_top (i:=b) H3.out (by omega) HX.out).mono ?_
 rintro e w4 (⟨f',rfl,hne,hr⟩ | ⟨rfl,f',hr⟩)
 ·have HRR:=Lib.hid hr
  have HNE:=Lib.hid hne
  clear hr hne
  go_wp2_with fail
  go_ret2
  exact .inl ⟨f',rfl,HNE.out,Rch.from (Chg.of_below HB3.out) (fun b hb=>.inl hb) HRR.out (fun k hk=>hk)⟩
 ·have HRR:=Lib.hid hr
  clear hr
  go_wp2_with fail
  go_ret2
  exact .inr ⟨rfl,f',Rno.from (Chg.of_below HB3.out) (fun b hb=>.inl hb) HRR.out (fun k hk=>hk)⟩
set_option maxHeartbeats 4000000 in
theorem way_two {j:Nat} (hj:j<8) (h:Op w0 w p d N q bf nn O s X m G y f C low Tx) (hx:∀ ix∈path (4+j),ix∈Tx) :
  Calls Tryz.prog 92 #[.pointer (some ⟨bf,0,none⟩),.int .i64 ((4+j:Nat):Int),KT bf] w (WayQ w0 w p d N q bf nn O s X m G y f C low Tx (4+j)):=by
 have H:=Lib.hid h
 have hpath:path (4+j)=[4,kid 4 j]:=by unfold path;rw [if_neg (by omega),if_pos (by omega),show 4+j+2=6+j by omega];rfl
 have hixb:ixb (4+j)=kid 4 j:=by unfold ixb;rw [if_neg (by omega),if_pos (by omega),show 4+j+2=6+j by omega];rfl
 have HX:Hid (4∈Tx∧kid 4 j∈Tx):=⟨hx 4 (by rw [hpath];simp),hx _ (by rw [hpath];simp)⟩
 unfold WayQ
 rw [hpath,hixb]
 have HR:=Lib.hid (T.route_yes (4+j) w (by omega))
 rw [T.route_two hj] at HR
 generalize ((4+j:Nat):Int)=bb at *
 clear h hx hpath hixb
 go_enter Tryz.func92,Tryz.ntmps92
 go_wp2_with fail
 refine HR.out.mono ?_
 rintro e w1 ⟨g,rfl,hi,hbel,hgw⟩
 have H1:=Lib.hid (H.out.below hbel)
 have HB1:=Lib.hid hbel
 have HI:=Lib.hid hi
 have hg:g<w1.heap.size:=by
  obtain ⟨g',off,e,hg,hc⟩:=hi.cell (k:=0) (by simp)
  cases e
  exact hg
 have c0:w1.cell? ⟨g,0,none⟩=some (.int .i64 4):=by
  obtain ⟨g',off,e,_,hc⟩:=HI.out.cell (k:=0) (by simp)
  cases e
  exact hc
 have C0:=Lib.hid c0
 have c1:w1.cell? ⟨g,1,none⟩=some (.int .i64 (j:Int)):=by
  obtain ⟨g',off,e,_,hc⟩:=HI.out.cell (k:=1) (by simp)
  cases e
  exact hc
 have C1:=Lib.hid c1
 clear hi hbel HR HI c1
 simp only [List.length_cons,List.length_nil]
 go_wp2_with fail
 refine (start_yes (bf:=bf) (i:=4) (by omega) _).mono ?_
 rintro e w2 ⟨rfl,hbel⟩
 have H2:=Lib.hid (H1.out.below hbel)
 have HB2:=Lib.hid (HB1.out.trans (hbel.mono HB1.out.size))
 have HGW:=Lib.hid (hbel.mono (Nat.le_refl _))
 rw [show (⟨bf,7+4,none⟩:Addr)=⟨bf,11,none⟩ from rfl]
 obtain ⟨a0,a1,a2⟩:=D.box1 w2 (Obj.cells #[.pointer (some ⟨bf,11,none⟩),K0] 189)
 have H3:=Lib.hid (H2.out.below a1)
 have HB3:=Lib.hid (HB2.out.trans (a1.mono HB2.out.size))
 have HA:=Lib.hid a0
 have HP:Hid (w.heap.size≤w2.heap.size∧g<w2.heap.size):=⟨HB2.out.size,by have:=hbel.size;omega⟩
 have HPW:Hid (w2.heap.size<(w2.alloc (Obj.cells #[.pointer (some ⟨bf,11,none⟩),K0] 189)).heap.size):=by show _ < _;omega
 have HGB:=Lib.hid (hbel.trans (a1.mono hbel.size))
 clear hbel a0 a1 a2 c0
 go_upto_region 5 with fail
 generalize w2.alloc (Obj.cells #[.pointer (some ⟨bf,11,none⟩),K0] 189)=W at *
 have C1W:Hid (W.cell? ⟨g,1,none⟩=some (.int .i64 (j:Int))):=(HGB.out.cell (p:=⟨g,1,none⟩) hg).trans C1.out
 have cg1:=C1W.out
 go_wp2_with fail
 refine wp_loop_rounds 2 ?_
 rw [rounds_succ]
 go_wp2_with (first | (refine D.wpList_load_row rfl 189 _ rfl w2.heap.size rfl _ _ _ HA.out _ Tryz.underlying189 rfl s193 ?_) | fail)
 clear cg1
 refine (reach_top (i:=4) H3.out (by omega) HX.out.1).mono ?_
 rintro e w3 (⟨f1,rfl,hne,hr⟩ | ⟨rfl,f1,hr⟩)
 ·obtain ⟨m1,y1,ho,hfr,hbu⟩:=hr.op
  have HO1:=Lib.hid ho
  have HR1:=Lib.hid (Rch.from (S:=[q,bf]) (Chg.of_below HB3.out) (fun b hb=>.inl hb) hr (fun k hk=>hk))
  have HFR1:=Lib.hid hfr
  have HNU1:=Lib.hid hbu
  have HNE:=Lib.hid hne
  have HA3:=Lib.hid ((hr.chg.block w2.heap.size HPW.out (by have:=H.out.fresh HP.out.1;simp;omega)).trans HA.out)
  have cA:w3.cell? ⟨bf,11,none⟩=some (.int .i64 (f1 4:Nat)):=by have:=ho.fil.ptr (i:=4) (by omega);rw [ho.mid.rep.top 4 (by omega)] at this;exact this
  have CA:=Lib.hid cA
  have hrg:=ho.mid.rng 4 (by omega)
  have HP1:=Lib.hid (ho.mid.rep.some_ 4 (.inl rfl) hne)
  have hz:(((f1 4:Nat):Int) == 0)=false:=by rw [beq_eq_false_iff_ne];omega
  clear hr ho hfr hbu cA
  go_wp2_with (first | (refine D.wpList_load_row rfl 189 _ rfl w2.heap.size rfl _ _ _ HA3.out _ Tryz.underlying189 rfl s193 ?_) | fail)
  refine (below_yes (j:=j) HO1.out.sto HO1.out.fil.c0 HO1.out.fil.lt CA.out HO1.out.fil.lt (by omega) (by omega) HP1.out.1 hj).mono ?_
  rintro e w4 ⟨L,b1,b2,b3,rfl,hs,hL,hb⟩
  have HS4:=Lib.hid (hs.congr HP1.out.2)
  have HO4:=Lib.hid (HO1.out.below hb)
  have HA4:=Lib.hid ((hb.block w2.heap.size (Array.getElem?_eq_some_iff.1 HA3.out).1).trans HA3.out)
  have HC4:=Lib.hid (HR1.out.chg.tr (Chg.of_below hb))
  have HL:=Lib.hid hL
  clear hs hL hb hz
  go_wp2_with (first | (refine D.wpList_store_row rfl 189 _ _ rfl w2.heap.size #[.pointer (some ⟨bf,11,none⟩),K0] #[.pointer (some ⟨L,j,none⟩),K1 b1 b2 b3] 189 rfl rfl HA4.out s193 rfl (ocK _ _ _ _) ?_) | fail)
  have HA5:=Lib.hid (D.setRow_in _ _ _ #[.pointer (some ⟨L,j,none⟩),K1 b1 b2 b3] _ HA4.out)
  have HS5:=Lib.hid (HS4.out.setRow (C'':=#[.pointer (some ⟨L,j,none⟩),K1 b1 b2 b3]) HA4.out rfl)
  have HO5:=Lib.hid (HO4.out.chg (chg_setRow w4 w2.heap.size #[.pointer (some ⟨L,j,none⟩),K1 b1 b2 b3]) (H.out.fresh HP.out.1))
  have HC5:=Lib.hid (HC4.out.trans (chg_setRow w4 w2.heap.size #[.pointer (some ⟨L,j,none⟩),K1 b1 b2 b3]) (fun b hb=>by simp at hb;right;rw [hb];exact HP.out.1))
  clear HA3 HA4 HS4 HO4 HC4
  generalize w4.setRow w2.heap.size #[.pointer (some ⟨L,j,none⟩),K1 b1 b2 b3]=w5 at *
  rw [rounds_succ]
  go_wp2_with (first | (refine D.wpList_load_row rfl 189 _ rfl w2.heap.size rfl _ _ _ HA5.out _ Tryz.underlying189 rfl s193 ?_) | fail)
  have hLw:w.heap.size≤L:=by have:=HL.out;have:=HR1.out.chg.size;omega
  have hLf:=H.out.fresh hLw
  refine (reach_sub (j:=j) HO5.out (.inl rfl) hj HX.out.2 HX.out.1 HNE.out HS5.out hLf.1 hLf.2.1 hLf.2.2.1 hLf.2.2.2.1 hLf.2.2.2.2).mono ?_
  rintro e w6 (⟨f2,rfl,hne2,hr,_⟩ | ⟨rfl,f2,hr⟩)
  ·have HRR:=Lib.hid (Rch.trans HNU1.out HR1.out (S:=[q,bf]) (is:=[4,kid 4 j]) HO1.out HFR1.out HC5.out (fun b hb=>by simp at hb;rcases hb with rfl | rfl;left;simp;right;exact hLw) hr (fun k hk=>by simpa using hk))
   have HN2:=Lib.hid hne2
   clear hr hne2
   go_wp2_with fail
   go_ret2
   exact .inl ⟨f2,rfl,HN2.out,HRR.out⟩
  ·have HRR:=Lib.hid (HR1.out.no (S:=[q,bf]) (is:=[4,kid 4 j]) HO1.out HFR1.out HC5.out (fun b hb=>by simp at hb;rcases hb with rfl | rfl;left;simp;right;exact hLw) hr (fun k hk=>by simpa using hk))
   clear hr
   go_wp2_with fail
   go_ret2
   exact .inr ⟨rfl,f2,HRR.out⟩
 ·have HRR:=Lib.hid (Rno.from (S:=[q,bf]) (is:=[4,kid 4 j]) (Chg.of_below HB3.out) (fun b hb=>.inl hb) hr (fun k hk=>by simp at hk;simp [hk]))
  clear hr
  go_wp2_with fail
  go_ret2
  exact .inr ⟨rfl,f1,HRR.out⟩
set_option maxHeartbeats 4000000 in
theorem way_three {i j:Nat} (hi8:i<8) (hj:j<8) (h:Op w0 w p d N q bf nn O s X m G y f C low Tx) (hx:∀ ix∈path (12+8 * i+j),ix∈Tx) :
  Calls Tryz.prog 92 #[.pointer (some ⟨bf,0,none⟩),.int .i64 ((12+8 * i+j:Nat):Int),KT bf] w (WayQ w0 w p d N q bf nn O s X m G y f C low Tx (12+8 * i+j)):=by
 have H:=Lib.hid h
 have hpath:path (12+8 * i+j)=[5,kid 5 i,kid (14+i) j]:=by
  unfold path;rw [if_neg (by omega),if_neg (by omega)]
  have e1:kid 5 i=14+i:=rfl
  have e2:kid (14+i) j=22+8 * i+j:=by unfold kid;rw [if_neg (by omega),if_neg (by omega)];omega
  rw [e1,e2]
  congr 2
  ·omega
  ·congr 1;omega
 have hixb:ixb (12+8 * i+j)=kid (14+i) j:=by
  have e2:kid (14+i) j=22+8 * i+j:=by unfold kid;rw [if_neg (by omega),if_neg (by omega)];omega
  rw [e2];unfold ixb;rw [if_neg (by omega),if_neg (by omega)];omega
 have HX:Hid (5∈Tx∧14+i∈Tx∧kid (14+i) j∈Tx):=⟨hx 5 (by rw [hpath];simp),hx (kid 5 i) (by rw [hpath];simp),hx _ (by rw [hpath];simp)⟩
 have hpx:isPx (14+i):=by unfold isPx;omega
 unfold WayQ
 rw [hpath,hixb]
 have HR:=Lib.hid (T.route_yes (12+8 * i+j) w (by omega))
 rw [T.route_three hi8 hj] at HR
 generalize ((12+8 * i+j:Nat):Int)=bb at *
 clear h hx hpath hixb
 go_enter Tryz.func92,Tryz.ntmps92
 go_wp2_with fail
 refine HR.out.mono ?_
 rintro e w1 ⟨g,rfl,hi,hbel,hgw⟩
 have H1:=Lib.hid (H.out.below hbel)
 have HB1:=Lib.hid hbel
 have HI:=Lib.hid hi
 have hg:g<w1.heap.size:=by
  obtain ⟨g',off,e,hg,hc⟩:=hi.cell (k:=0) (by simp)
  cases e
  exact hg
 have c0:w1.cell? ⟨g,0,none⟩=some (.int .i64 5):=by
  obtain ⟨g',off,e,_,hc⟩:=HI.out.cell (k:=0) (by simp)
  cases e
  exact hc
 have C0:=Lib.hid c0
 have c1:w1.cell? ⟨g,1,none⟩=some (.int .i64 (i:Int)):=by
  obtain ⟨g',off,e,_,hc⟩:=HI.out.cell (k:=1) (by simp)
  cases e
  exact hc
 have C1:=Lib.hid c1
 have c2:w1.cell? ⟨g,2,none⟩=some (.int .i64 (j:Int)):=by
  obtain ⟨g',off,e,_,hc⟩:=HI.out.cell (k:=2) (by simp)
  cases e
  exact hc
 have C2:=Lib.hid c2
 clear hi hbel HR HI c1 c2
 simp only [List.length_cons,List.length_nil]
 go_wp2_with fail
 refine (start_yes (bf:=bf) (i:=5) (by omega) _).mono ?_
 rintro e w2 ⟨rfl,hbel⟩
 have H2:=Lib.hid (H1.out.below hbel)
 have HB2:=Lib.hid (HB1.out.trans (hbel.mono HB1.out.size))
 have HGW:=Lib.hid (hbel.mono (Nat.le_refl _))
 rw [show (⟨bf,7+5,none⟩:Addr)=⟨bf,12,none⟩ from rfl]
 obtain ⟨a0,a1,a2⟩:=D.box1 w2 (Obj.cells #[.pointer (some ⟨bf,12,none⟩),K0] 189)
 have H3:=Lib.hid (H2.out.below a1)
 have HB3:=Lib.hid (HB2.out.trans (a1.mono HB2.out.size))
 have HA:=Lib.hid a0
 have HP:Hid (w.heap.size≤w2.heap.size∧g<w2.heap.size):=⟨HB2.out.size,by have:=hbel.size;omega⟩
 have HPW:Hid (w2.heap.size<(w2.alloc (Obj.cells #[.pointer (some ⟨bf,12,none⟩),K0] 189)).heap.size):=by show _ < _;omega
 have HGB:=Lib.hid (hbel.trans (a1.mono hbel.size))
 clear hbel a0 a1 a2 c0
 go_upto_region 5 with fail
 generalize w2.alloc (Obj.cells #[.pointer (some ⟨bf,12,none⟩),K0] 189)=W at *
 have C1W:Hid (W.cell? ⟨g,1,none⟩=some (.int .i64 (i:Int))):=(HGB.out.cell (p:=⟨g,1,none⟩) hg).trans C1.out
 have C2W:Hid (W.cell? ⟨g,2,none⟩=some (.int .i64 (j:Int))):=(HGB.out.cell (p:=⟨g,2,none⟩) hg).trans C2.out
 have hgf:=H.out.fresh hgw
 have cg1:=C1W.out
 go_wp2_with fail
 refine wp_loop_rounds 3 ?_
 rw [rounds_succ]
 go_wp2_with (first | (refine D.wpList_load_row rfl 189 _ rfl w2.heap.size rfl _ _ _ HA.out _ Tryz.underlying189 rfl s193 ?_) | fail)
 clear cg1
 refine (reach_top (i:=5) H3.out (by omega) HX.out.1).mono ?_
 rintro e w3 (⟨f1,rfl,hne,hr⟩ | ⟨rfl,f1,hr⟩)
 ·obtain ⟨m1,y1,ho,hfr,hbu⟩:=hr.op
  have HO1:=Lib.hid ho
  have HR1:=Lib.hid (Rch.from (S:=[q,bf]) (Chg.of_below HB3.out) (fun b hb=>.inl hb) hr (fun k hk=>hk))
  have HFR1:=Lib.hid hfr
  have HNU1:=Lib.hid hbu
  have HNE:=Lib.hid hne
  have HA3:=Lib.hid ((hr.chg.block w2.heap.size HPW.out (by have:=H.out.fresh HP.out.1;simp;omega)).trans HA.out)
  have cA:w3.cell? ⟨bf,12,none⟩=some (.int .i64 (f1 5:Nat)):=by have:=ho.fil.ptr (i:=5) (by omega);rw [ho.mid.rep.top 5 (by omega)] at this;exact this
  have CA:=Lib.hid cA
  have hrg:=ho.mid.rng 5 (by omega)
  have HP1:=Lib.hid (ho.mid.rep.some_ 5 (.inr (.inl rfl)) hne)
  have hz:(((f1 5:Nat):Int) == 0)=false:=by rw [beq_eq_false_iff_ne];omega
  have C2X:Hid (w3.cell? ⟨g,2,none⟩=some (.int .i64 (j:Int))):=(World.cell?_of_block (a:=⟨g,2,none⟩) (hr.chg.block g (by have:=HP.out.2;have:=HPW.out;omega) (by simp;exact ⟨hgf.2.2.1,hgf.2.2.2.1⟩))).trans C2W.out
  have hPw3:w2.heap.size<w3.heap.size:=Nat.lt_of_lt_of_le HPW.out hr.chg.size
  clear hr ho hfr hbu cA
  go_wp2_with (first | (refine D.wpList_load_row rfl 189 _ rfl w2.heap.size rfl _ _ _ HA3.out _ Tryz.underlying189 rfl s193 ?_) | fail)
  refine (below_yes (j:=i) HO1.out.sto HO1.out.fil.c0 HO1.out.fil.lt CA.out HO1.out.fil.lt (by omega) (by omega) HP1.out.1 hi8).mono ?_
  rintro e w4 ⟨L,b1,b2,b3,rfl,hs,hL,hb⟩
  have HS4:=Lib.hid (hs.congr HP1.out.2)
  have HO4:=Lib.hid (HO1.out.below hb)
  have HA4:=Lib.hid ((hb.block w2.heap.size (Array.getElem?_eq_some_iff.1 HA3.out).1).trans HA3.out)
  have HC4:=Lib.hid (HR1.out.chg.tr (Chg.of_below hb))
  have HL:=Lib.hid hL
  have hPL:w2.heap.size≠L:=by omega
  have hgP:g≠w2.heap.size:=by have:=HP.out.2;omega
  have hgL:g≠L:=by have:=HP.out.2;omega
  have C2Y:Hid (w4.cell? ⟨g,2,none⟩=some (.int .i64 (j:Int))):=(hb.cell (p:=⟨g,2,none⟩) (by have:=HP.out.2;show g < _;omega)).trans C2X.out
  have hgw4:g<w4.heap.size:=by have:=HP.out.2;have:=hb.size;omega
  have hLw4:L<w4.heap.size:=(Array.getElem?_eq_some_iff.1 hs.lst).1
  clear hs hL hb hz
  go_wp2_with (first | (refine D.wpList_store_row rfl 189 _ _ rfl w2.heap.size #[.pointer (some ⟨bf,12,none⟩),K0] #[.pointer (some ⟨L,i,none⟩),K1 b1 b2 b3] 189 rfl rfl HA4.out s193 rfl (ocK _ _ _ _) ?_) | fail)
  have HA5:=Lib.hid (D.setRow_in _ _ _ #[.pointer (some ⟨L,i,none⟩),K1 b1 b2 b3] _ HA4.out)
  have HS5:=Lib.hid (HS4.out.setRow (C'':=#[.pointer (some ⟨L,i,none⟩),K1 b1 b2 b3]) HA4.out rfl)
  have HO5:=Lib.hid (HO4.out.chg (chg_setRow w4 w2.heap.size #[.pointer (some ⟨L,i,none⟩),K1 b1 b2 b3]) (H.out.fresh HP.out.1))
  have HC5:=Lib.hid (HC4.out.trans (chg_setRow w4 w2.heap.size #[.pointer (some ⟨L,i,none⟩),K1 b1 b2 b3]) (fun b hb=>by simp at hb;right;rw [hb];exact HP.out.1))
  have C2Z:Hid ((w4.setRow w2.heap.size #[.pointer (some ⟨L,i,none⟩),K1 b1 b2 b3]).cell? ⟨g,2,none⟩=some (.int .i64 (j:Int))):=(World.cell?_of_block (a:=⟨g,2,none⟩) (setRow_other w4 _ _ _ hgP)).trans C2Y.out
  have hgw5:g<(w4.setRow w2.heap.size #[.pointer (some ⟨L,i,none⟩),K1 b1 b2 b3]).heap.size:=by simp [World.setRow];exact hgw4
  have hLw5:L<(w4.setRow w2.heap.size #[.pointer (some ⟨L,i,none⟩),K1 b1 b2 b3]).heap.size:=by simp [World.setRow];exact hLw4
  clear HA3 HA4 HS4 HO4 HC4 C2Y C2X
  generalize w4.setRow w2.heap.size #[.pointer (some ⟨L,i,none⟩),K1 b1 b2 b3]=w5 at *
  rw [rounds_succ]
  have cg2:=C2Z.out
  go_wp2_with (first | (refine D.wpList_load_row rfl 189 _ rfl w2.heap.size rfl _ _ _ HA5.out _ Tryz.underlying189 rfl s193 ?_) | fail)
  clear cg2
  have hLw:w.heap.size≤L:=by have:=HL.out;have:=HR1.out.chg.size;omega
  have hLf:=H.out.fresh hLw
  refine (reach_sub (j:=i) HO5.out (.inr (.inl rfl)) hi8 HX.out.2.1 HX.out.1 HNE.out HS5.out hLf.1 hLf.2.1 hLf.2.2.1 hLf.2.2.2.1 hLf.2.2.2.2).mono ?_
  rw [show kid 5 i=14+i from rfl]
  rintro e w6 (⟨f2,rfl,hne2,hr,hcc⟩ | ⟨rfl,f2,hr⟩)
  ·have HR2:=Lib.hid (Rch.trans HNU1.out HR1.out (S:=[q,bf]) (is:=[5,14+i]) HO1.out HFR1.out HC5.out (fun b hb=>by simp at hb;rcases hb with rfl | rfl;left;simp;right;exact hLw) hr (fun k hk=>by simpa using hk))
   have HA6:=Lib.hid ((hr.chg.block w2.heap.size (Array.getElem?_eq_some_iff.1 HA5.out).1 (by simp;exact ⟨(H.out.fresh HP.out.1).2.2.1,hPL⟩)).trans HA5.out)
   have hLw6:L<w6.heap.size:=Nat.lt_of_lt_of_le hLw5 hr.chg.size
   obtain ⟨m2,y2,ho,hfr,hbu⟩:=HR2.out.op
   have HO2:=Lib.hid ho
   have HFR2:=Lib.hid hfr
   have HNU2:=Lib.hid hbu
   have HNE2:=Lib.hid hne2
   have HCC:=Lib.hid hcc
   have hrg2:=ho.mid.rng (14+i) (by omega)
   have HP2:=Lib.hid (ho.mid.rep.some_ (14+i) hpx hne2)
   have hz:(((f2 (14+i):Nat):Int) == 0)=false:=by rw [beq_eq_false_iff_ne];omega
   clear hr ho hfr hbu hcc HS5 HO5 HC5 HA5 C2Z
   go_wp2_with (first | (refine D.wpList_load_row rfl 189 _ rfl w2.heap.size rfl _ _ _ HA6.out _ Tryz.underlying189 rfl s193 ?_) | fail)
   refine (below_yes (j:=j) HO2.out.sto HO2.out.fil.c0 HO2.out.fil.lt HCC.out hLw6 (by omega) (by omega) HP2.out.1 hj).mono ?_
   rintro e w7 ⟨L',b1',b2',b3',rfl,hs,hL',hb⟩
   have HS7:=Lib.hid (hs.congr HP2.out.2)
   have HO7:=Lib.hid (HO2.out.below hb)
   have HA7:=Lib.hid ((hb.block w2.heap.size (Array.getElem?_eq_some_iff.1 HA6.out).1).trans HA6.out)
   have HC7:=Lib.hid (HR2.out.chg.tr (Chg.of_below hb))
   have hLw':w.heap.size≤L':=by have:=HR2.out.chg.size;omega
   clear hs hL' hb hz
   go_wp2_with (first | (refine D.wpList_store_row rfl 189 _ _ rfl w2.heap.size #[.pointer (some ⟨L,i,none⟩),K1 b1 b2 b3] #[.pointer (some ⟨L',j,none⟩),K1 b1' b2' b3'] 189 rfl rfl HA7.out s193 rfl (ocK _ _ _ _) ?_) | fail)
   have HA8:=Lib.hid (D.setRow_in _ _ _ #[.pointer (some ⟨L',j,none⟩),K1 b1' b2' b3'] _ HA7.out)
   have HS8:=Lib.hid (HS7.out.setRow (C'':=#[.pointer (some ⟨L',j,none⟩),K1 b1' b2' b3']) HA7.out rfl)
   have HO8:=Lib.hid (HO7.out.chg (chg_setRow w7 w2.heap.size #[.pointer (some ⟨L',j,none⟩),K1 b1' b2' b3']) (H.out.fresh HP.out.1))
   have HC8:=Lib.hid (HC7.out.trans (chg_setRow w7 w2.heap.size #[.pointer (some ⟨L',j,none⟩),K1 b1' b2' b3']) (fun b hb=>by simp at hb;right;rw [hb];exact HP.out.1))
   clear HA6 HA7 HS7 HO7 HC7
   generalize w7.setRow w2.heap.size #[.pointer (some ⟨L',j,none⟩),K1 b1' b2' b3']=w8 at *
   rw [rounds_succ]
   go_wp2_with (first | (refine D.wpList_load_row rfl 189 _ rfl w2.heap.size rfl _ _ _ HA8.out _ Tryz.underlying189 rfl s193 ?_) | fail)
   have hLf':=H.out.fresh hLw'
   refine (reach_sub (j:=j) HO8.out hpx hj HX.out.2.2 HX.out.2.1 HNE2.out HS8.out hLf'.1 hLf'.2.1 hLf'.2.2.1 hLf'.2.2.2.1 hLf'.2.2.2.2).mono ?_
   rintro e w9 (⟨f3,rfl,hne3,hr,_⟩ | ⟨rfl,f3,hr⟩)
   ·have HRR:=Lib.hid (Rch.trans HNU2.out HR2.out (S:=[q,bf]) (is:=[5,14+i,kid (14+i) j]) HO2.out HFR2.out HC8.out (fun b hb=>by simp at hb;rcases hb with rfl | rfl;left;simp;right;exact hLw') hr (fun k hk=>by simp at hk;simp;omega))
    have HN3:=Lib.hid hne3
    clear hr hne3
    go_wp2_with fail
    go_ret2
    exact .inl ⟨f3,rfl,HN3.out,HRR.out⟩
   ·have HRR:=Lib.hid (HR2.out.no (S:=[q,bf]) (is:=[5,14+i,kid (14+i) j]) HO2.out HFR2.out HC8.out (fun b hb=>by simp at hb;rcases hb with rfl | rfl;left;simp;right;exact hLw') hr (fun k hk=>by simp at hk;simp;omega))
    clear hr
    go_wp2_with fail
    go_ret2
    exact .inr ⟨rfl,f3,HRR.out⟩
  ·have HRR:=Lib.hid (HR1.out.no (S:=[q,bf]) (is:=[5,14+i,kid (14+i) j]) HO1.out HFR1.out HC5.out (fun b hb=>by simp at hb;rcases hb with rfl | rfl;left;simp;right;exact hLw) hr (fun k hk=>by simp at hk;simp;omega))
   clear hr
   go_wp2_with fail
   go_ret2
   exact .inr ⟨rfl,f2,HRR.out⟩
 ·have HRR:=Lib.hid (Rno.from (S:=[q,bf]) (is:=[5,14+i,kid (14+i) j]) (Chg.of_below HB3.out) (fun b hb=>.inl hb) hr (fun k hk=>by simp at hk;simp [hk]))
  clear hr
  go_wp2_with fail
  go_ret2
  exact .inr ⟨rfl,f1,HRR.out⟩
theorem way_take {b:Nat} (h:Op w0 w p d N q bf nn O s X m G y f C low Tx) (hb:b<76) (hx:∀ i∈path b,i∈Tx) :
  Calls Tryz.prog 92 #[.pointer (some ⟨bf,0,none⟩),.int .i64 (b:Int),KT bf] w (WayQ w0 w p d N q bf nn O s X m G y f C low Tx b):=by
 by_cases h1:b<4
 ·exact way_one h1 h hx
 ·by_cases h2:b<12
  ·obtain ⟨j,rfl⟩:∃ j,b=4+j:=⟨b - 4,by omega⟩
   exact way_two (by omega) h hx
  ·obtain ⟨i,j,hi,hj,rfl⟩:∃ i j,i<8∧j<8∧b=12+8 * i+j:=⟨(b - 12) / 8,(b - 12) % 8,by omega,by omega,by omega⟩
   exact way_three hi hj h hx
end
end Go.Proofs.YtkganhafbjgndaaGreatRR.V
namespace Go.Proofs.YtkganhafbjgndaaGreatRR.V
open Go.RowKit
set_option linter.unusedVariables false
set_option maxRecDepth 20000
structure Rd (w0 w:World) (p d N q bf nn:Nat) (O:List Nat) (s:DS) (X:Secs2) (m:List Wr) (G:Nat→Prop) (y:D.Nn) (f:Nat→Nat) (C:Nat→UInt8):Prop where
 sto:Sto w0 w p d O N s X q m
 fil:Fil w bf p nn y
 mid:Mid N G (view X m) y f
 con:Cont (view X m) f C
theorem Op.rd {w0 w:World} {p d N q bf nn:Nat} {O:List Nat} {s:DS} {X:Secs2} {m:List Wr} {G:Nat→Prop} {y:D.Nn} {f:Nat→Nat} {C:Nat→UInt8} {low:List Int} {Tx:List Nat} (h:Op w0 w p d N q bf nn O s X m G y f C low Tx):Rd w0 w p d N q bf nn O s X m G y f C:=⟨h.sto,h.fil,h.mid,h.con⟩
section
variable {w0 w w1 w2 w':World} {p d N q bf nn:Nat} {O:List Nat} {s:DS} {X:Secs2} {m:List Wr} {G:Nat→Prop} {y:D.Nn} {f:Nat→Nat} {C:Nat→UInt8}
theorem Rd.below (h:Rd w0 w p d N q bf nn O s X m G y f C) (hb:Below w.heap.size w w'):Rd w0 w' p d N q bf nn O s X m G y f C:=⟨h.sto.below hb,h.fil.below hb,h.mid,h.con⟩
theorem Rd.lt (h:Rd w0 w p d N q bf nn O s X m G y f C) {k:Nat} (hk:k∈O∨k=p∨k=q∨k=bf):k<w.heap.size:=by
 rcases hk with hk | rfl | rfl | rfl
 ·exact h.sto.ons.sit.drv.lt _ hk
 ·exact h.sto.st.lt
 ·exact h.sto.map.lt
 ·exact h.fil.lt
theorem Rd.base (h:Rd w0 w p d N q bf nn O s X m G y f C):w0.heap.size≤w.heap.size:=by have:=h.sto.pf;have:=h.sto.st.lt;omega
theorem Rd.chg (h:Rd w0 w p d N q bf nn O s X m G y f C) {P:Nat} {v:World} (hv:Rd w0 v p d N q bf nn O s X m G y f C) (hP:v.heap.size≤P) (hc:Chg [P] w w'):Rd w0 w' p d N q bf nn O s X m G y f C:=by
 have hne:∀ k,k∈O∨k=p∨k=q∨k=bf→w'.heap[k]?=w.heap[k]?:=fun k hk=>hc.block k (h.lt hk) (by have:=hv.lt hk;simp;omega)
 exact ⟨h.sto.keep_ (fun b hb=>hne b (by rcases hb with a | a | a;exact .inl a;exact .inr (.inl a);exact .inr (.inr (.inl a)))) (hc.below h.base fun b hb=>by have:=hv.base;simp at hb;omega),h.fil.keep (hne bf (by simp)),h.mid,h.con⟩
theorem reachL {A:Addr} {kv:Value} {n:Nat} (hA:w.cell? A=some (.int .i64 (n:Int))) (hAb:A.block<w.heap.size) :
  Calls Tryz.prog 128 #[.agg #[.pointer (some A),kv],KL] w fun e w'=>e=.returned (.tuple #[.int .i64 (n:Int),.int .i64 0])∧Below w.heap.size w w':=by
 by_cases h:n=0
 ·subst h;exact reach_leave hA hAb
 ·exact reach_some hA hAb h
def WayL (w:World) (n:Nat) (e:Ending) (w':World):Prop:=e=.returned (.tuple #[.int .i64 (n:Int),.int .i64 0])∧Below w.heap.size w w'
set_option maxHeartbeats 4000000 in
theorem wayl_one {b:Nat} (hb:b<4) (h:Rd w0 w p d N q bf nn O s X m G y f C) :
  Calls Tryz.prog 92 #[.pointer (some ⟨bf,0,none⟩),.int .i64 ((b:Nat):Int),KL] w (WayL w (f (ixb (b)))):=by
 have H:=Lib.hid h
 have hixb:ixb b=b:=by unfold ixb;rw [if_pos hb]
 rw [hixb]
 have HR:=Lib.hid (T.route_yes (b) w (by omega))
 rw [T.route_one hb] at HR
 clear h hixb
 go_enter Tryz.func92,Tryz.ntmps92
 go_wp2_with fail
 refine HR.out.mono ?_
 rintro e w1 ⟨g,rfl,hi,hbel,hgw⟩
 have H1:=Lib.hid (H.out.below hbel)
 have HB1:=Lib.hid hbel
 have HI:=Lib.hid hi
 have hg:g<w1.heap.size:=by
  obtain ⟨g',off,e,hg,hc⟩:=hi.cell (k:=0) (by simp)
  cases e
  exact hg
 have c0:w1.cell? ⟨g,0,none⟩=some (.int .i64 (b:Int)):=by
  obtain ⟨g',off,e,_,hc⟩:=HI.out.cell (k:=0) (by simp)
  cases e
  exact hc
 have C0:=Lib.hid c0
 clear hi hbel HR HI
 simp only [List.length_cons,List.length_nil]
 go_wp2_with fail
 refine (start_yes (bf:=bf) (i:=b) (by omega) _).mono ?_
 rintro e w2 ⟨rfl,hbel⟩
 have H2:=Lib.hid (H1.out.below hbel)
 have HB2:=Lib.hid (HB1.out.trans (hbel.mono HB1.out.size))
 have HGW:=Lib.hid (hbel.mono (Nat.le_refl _))
 obtain ⟨a0,a1,a2⟩:=D.box1 w2 (Obj.cells #[.pointer (some ⟨bf,7+b,none⟩),K0] 189)
 have H3:=Lib.hid (H2.out.below a1)
 have HB3:=Lib.hid (HB2.out.trans (a1.mono HB2.out.size))
 have HA:=Lib.hid a0
 have HP:Hid (w.heap.size≤w2.heap.size∧g<w2.heap.size):=⟨HB2.out.size,by have:=hbel.size;omega⟩
 have HPW:Hid (w2.heap.size<(w2.alloc (Obj.cells #[.pointer (some ⟨bf,7+b,none⟩),K0] 189)).heap.size):=by show _ < _;omega
 have HGB:=Lib.hid (hbel.trans (a1.mono hbel.size))
 clear hbel a0 a1 a2 c0
 go_upto_region 5 with fail
 generalize w2.alloc (Obj.cells #[.pointer (some ⟨bf,7+b,none⟩),K0] 189)=W at *
 have hp:=H3.out.fil.ptr (i:=b) (by omega)
 rw [H3.out.mid.rep.top b (by omega)] at hp
 have HPT:=Lib.hid hp
 clear hp
 go_wp2_with fail
 refine wp_loop_rounds 1 ?_
 rw [rounds_succ]
 go_wp2_with (first | (refine D.wpList_load_row rfl 189 _ rfl w2.heap.size rfl _ _ _ HA.out _ Tryz.underlying189 rfl s193 ?_) | fail)
 refine (reachL HPT.out H3.out.fil.lt).mono ?_
 rintro e w9 ⟨rfl,hb9⟩
 have HB9:=Lib.hid (HB3.out.trans (hb9.mono HB3.out.size))
 clear hb9
 go_wp2_with fail
 go_ret2
 exact ⟨rfl,HB9.out⟩
set_option maxHeartbeats 4000000 in
theorem wayl_two {j:Nat} (hj:j<8) (h:Rd w0 w p d N q bf nn O s X m G y f C) :
  Calls Tryz.prog 92 #[.pointer (some ⟨bf,0,none⟩),.int .i64 ((4+j:Nat):Int),KL] w (WayL w (f (ixb (4+j)))):=by
 have H:=Lib.hid h
 have hixb:ixb (4+j)=kid 4 j:=by unfold ixb;rw [if_neg (by omega),if_pos (by omega),show 4+j+2=6+j by omega];rfl
 rw [hixb]
 have HR:=Lib.hid (T.route_yes (4+j) w (by omega))
 rw [T.route_two hj] at HR
 generalize ((4+j:Nat):Int)=bb at *
 clear h hixb
 go_enter Tryz.func92,Tryz.ntmps92
 go_wp2_with fail
 refine HR.out.mono ?_
 rintro e w1 ⟨g,rfl,hi,hbel,hgw⟩
 have H1:=Lib.hid (H.out.below hbel)
 have HB1:=Lib.hid hbel
 have HI:=Lib.hid hi
 have hg:g<w1.heap.size:=by
  obtain ⟨g',off,e,hg,hc⟩:=hi.cell (k:=0) (by simp)
  cases e
  exact hg
 have c0:w1.cell? ⟨g,0,none⟩=some (.int .i64 4):=by
  obtain ⟨g',off,e,_,hc⟩:=HI.out.cell (k:=0) (by simp)
  cases e
  exact hc
 have C0:=Lib.hid c0
 have c1:w1.cell? ⟨g,1,none⟩=some (.int .i64 (j:Int)):=by
  obtain ⟨g',off,e,_,hc⟩:=HI.out.cell (k:=1) (by simp)
  cases e
  exact hc
 have C1:=Lib.hid c1
 clear hi hbel HR HI c1
 simp only [List.length_cons,List.length_nil]
 go_wp2_with fail
 refine (start_yes (bf:=bf) (i:=4) (by omega) _).mono ?_
 rintro e w2 ⟨rfl,hbel⟩
 have H2:=Lib.hid (H1.out.below hbel)
 have HB2:=Lib.hid (HB1.out.trans (hbel.mono HB1.out.size))
 have HGW:=Lib.hid (hbel.mono (Nat.le_refl _))
 rw [show (⟨bf,7+4,none⟩:Addr)=⟨bf,11,none⟩ from rfl]
 obtain ⟨a0,a1,a2⟩:=D.box1 w2 (Obj.cells #[.pointer (some ⟨bf,11,none⟩),K0] 189)
 have H3:=Lib.hid (H2.out.below a1)
 have HB3:=Lib.hid (HB2.out.trans (a1.mono HB2.out.size))
 have HA:=Lib.hid a0
 have HP:Hid (w.heap.size≤w2.heap.size∧g<w2.heap.size):=⟨HB2.out.size,by have:=hbel.size;omega⟩
 have HPW:Hid (w2.heap.size<(w2.alloc (Obj.cells #[.pointer (some ⟨bf,11,none⟩),K0] 189)).heap.size):=by show _ < _;omega
 have HGB:=Lib.hid (hbel.trans (a1.mono hbel.size))
 clear hbel a0 a1 a2 c0
 go_upto_region 5 with fail
 generalize w2.alloc (Obj.cells #[.pointer (some ⟨bf,11,none⟩),K0] 189)=W at *
 have hp:=H3.out.fil.ptr (i:=4) (by omega)
 rw [H3.out.mid.rep.top 4 (by omega)] at hp
 have HPT:Hid (W.cell? ⟨bf,11,none⟩=some (.int .i64 (f 4:Nat))):=hp
 have C1W:Hid (W.cell? ⟨g,1,none⟩=some (.int .i64 (j:Int))):=(HGB.out.cell (p:=⟨g,1,none⟩) hg).trans C1.out
 clear hp
 have cg1:=C1W.out
 go_wp2_with fail
 refine wp_loop_rounds 2 ?_
 rw [rounds_succ]
 go_wp2_with (first | (refine D.wpList_load_row rfl 189 _ rfl w2.heap.size rfl _ _ _ HA.out _ Tryz.underlying189 rfl s193 ?_) | fail)
 clear cg1
 refine (reachL HPT.out H3.out.fil.lt).mono ?_
 rintro e w3 ⟨rfl,hb3⟩
 have H4:=Lib.hid (H3.out.below hb3)
 have HB4:=Lib.hid (HB3.out.trans (hb3.mono HB3.out.size))
 have HA4:=Lib.hid ((hb3.block w2.heap.size HPW.out).trans HA.out)
 have CA:=Lib.hid ((hb3.cell (p:=⟨bf,11,none⟩) H3.out.fil.lt).trans HPT.out)
 have hPw3:w2.heap.size<w3.heap.size:=Nat.lt_of_lt_of_le HPW.out hb3.size
 clear hb3
 by_cases h0:f 4=0
 ·have hfz:f (kid 4 j)=0:=by
   exact H.out.mid.rep.none_ 4 (.inl rfl) h0 j hj
  have HFZ:=Lib.hid hfz
  clear hfz
  rw [h0]
  rw [show ((0:Nat):Int)=0 from rfl]
  go_wp2_with fail
  go_ret2
  exact ⟨by rw [HFZ.out];rfl,HB4.out⟩
 ·have hz:(((f 4:Nat):Int) == 0)=false:=by rw [beq_eq_false_iff_ne];omega
  have hrg:=H.out.mid.rng 4 (by omega)
  have HP1:=Lib.hid (H.out.mid.rep.some_ 4 (.inl rfl) h0)
  go_wp2_with (first | (refine D.wpList_load_row rfl 189 _ rfl w2.heap.size rfl _ _ _ HA4.out _ Tryz.underlying189 rfl s193 ?_) | fail)
  refine (below_yes (j:=j) H4.out.sto H4.out.fil.c0 H4.out.fil.lt CA.out H4.out.fil.lt (by omega) (by omega) HP1.out.1 hj).mono ?_
  rintro e w4 ⟨L,b1,b2,b3,rfl,hs,hL,hb⟩
  have HS5:=Lib.hid (hs.congr HP1.out.2)
  have H5:=Lib.hid (H4.out.below hb)
  have HA5:=Lib.hid ((hb.block w2.heap.size (Array.getElem?_eq_some_iff.1 HA4.out).1).trans HA4.out)
  have HB5:=Lib.hid (HB4.out.trans (hb.mono HB4.out.size))
  have hLP:L≠w2.heap.size:=by omega
  have hLl:L<w4.heap.size:=(Array.getElem?_eq_some_iff.1 hs.lst).1
  clear hs hL hb hz
  go_wp2_with (first | (refine D.wpList_store_row rfl 189 _ _ rfl w2.heap.size #[.pointer (some ⟨bf,11,none⟩),K0] #[.pointer (some ⟨L,j,none⟩),K1 b1 b2 b3] 189 rfl rfl HA5.out s193 rfl (ocK _ _ _ _) ?_) | fail)
  have HA6:=Lib.hid (D.setRow_in _ _ _ #[.pointer (some ⟨L,j,none⟩),K1 b1 b2 b3] _ HA5.out)
  have HS6:=Lib.hid (HS5.out.setRow (C'':=#[.pointer (some ⟨L,j,none⟩),K1 b1 b2 b3]) HA5.out rfl)
  have H6:=Lib.hid (H5.out.chg H.out HP.out.1 (chg_setRow w4 w2.heap.size #[.pointer (some ⟨L,j,none⟩),K1 b1 b2 b3]))
  have HB6:=Lib.hid (below_setRow HB5.out HP.out.1 #[.pointer (some ⟨L,j,none⟩),K1 b1 b2 b3])
  have hLl6:L<(w4.setRow w2.heap.size #[.pointer (some ⟨L,j,none⟩),K1 b1 b2 b3]).heap.size:=by simp [World.setRow];exact hLl
  have hPl6:w2.heap.size<(w4.setRow w2.heap.size #[.pointer (some ⟨L,j,none⟩),K1 b1 b2 b3]).heap.size:=(Array.getElem?_eq_some_iff.1 HA6.out).1
  clear HA5 HS5 H5 HB5
  generalize w4.setRow w2.heap.size #[.pointer (some ⟨L,j,none⟩),K1 b1 b2 b3]=w5 at *
  have CL:Hid (w5.cell? ⟨L,j,none⟩=some (.int .i64 (f (kid 4 j):Nat))):=(T.cell_in HS6.out.lst j).trans (by simp [pl_get _ hj,T.iv])
  rw [rounds_succ]
  go_wp2_with (first | (refine D.wpList_load_row rfl 189 _ rfl w2.heap.size rfl _ _ _ HA6.out _ Tryz.underlying189 rfl s193 ?_) | fail)
  refine (reachL CL.out hLl6).mono ?_
  rintro e w9 ⟨rfl,hb9⟩
  have HB9:=Lib.hid (HB6.out.trans (hb9.mono HB6.out.size))
  clear hb9
  go_wp2_with fail
  go_ret2
  exact ⟨rfl,HB9.out⟩
set_option maxHeartbeats 4000000 in
theorem wayl_three {i j:Nat} (hi8:i<8) (hj:j<8) (h:Rd w0 w p d N q bf nn O s X m G y f C) :
  Calls Tryz.prog 92 #[.pointer (some ⟨bf,0,none⟩),.int .i64 ((12+8 * i+j:Nat):Int),KL] w (WayL w (f (ixb (12+8 * i+j)))):=by
 have H:=Lib.hid h
 have hixb:ixb (12+8 * i+j)=kid (14+i) j:=by
  have e2:kid (14+i) j=22+8 * i+j:=by unfold kid;rw [if_neg (by omega),if_neg (by omega)];omega
  rw [e2];unfold ixb;rw [if_neg (by omega),if_neg (by omega)];omega
 have hpx:isPx (14+i):=by unfold isPx;omega
 rw [hixb]
 have HR:=Lib.hid (T.route_yes (12+8 * i+j) w (by omega))
 rw [T.route_three hi8 hj] at HR
 generalize ((12+8 * i+j:Nat):Int)=bb at *
 clear h hixb
 go_enter Tryz.func92,Tryz.ntmps92
 go_wp2_with fail
 refine HR.out.mono ?_
 rintro e w1 ⟨g,rfl,hi,hbel,hgw⟩
 have H1:=Lib.hid (H.out.below hbel)
 have HB1:=Lib.hid hbel
 have HI:=Lib.hid hi
 have hg:g<w1.heap.size:=by
  obtain ⟨g',off,e,hg,hc⟩:=hi.cell (k:=0) (by simp)
  cases e
  exact hg
 have c0:w1.cell? ⟨g,0,none⟩=some (.int .i64 5):=by
  obtain ⟨g',off,e,_,hc⟩:=HI.out.cell (k:=0) (by simp)
  cases e
  exact hc
 have C0:=Lib.hid c0
 have c1:w1.cell? ⟨g,1,none⟩=some (.int .i64 (i:Int)):=by
  obtain ⟨g',off,e,_,hc⟩:=HI.out.cell (k:=1) (by simp)
  cases e
  exact hc
 have C1:=Lib.hid c1
 have c2:w1.cell? ⟨g,2,none⟩=some (.int .i64 (j:Int)):=by
  obtain ⟨g',off,e,_,hc⟩:=HI.out.cell (k:=2) (by simp)
  cases e
  exact hc
 have C2:=Lib.hid c2
 clear hi hbel HR HI c1 c2
 simp only [List.length_cons,List.length_nil]
 go_wp2_with fail
 refine (start_yes (bf:=bf) (i:=5) (by omega) _).mono ?_
 rintro e w2 ⟨rfl,hbel⟩
 have H2:=Lib.hid (H1.out.below hbel)
 have HB2:=Lib.hid (HB1.out.trans (hbel.mono HB1.out.size))
 have HGW:=Lib.hid (hbel.mono (Nat.le_refl _))
 rw [show (⟨bf,7+5,none⟩:Addr)=⟨bf,12,none⟩ from rfl]
 obtain ⟨a0,a1,a2⟩:=D.box1 w2 (Obj.cells #[.pointer (some ⟨bf,12,none⟩),K0] 189)
 have H3:=Lib.hid (H2.out.below a1)
 have HB3:=Lib.hid (HB2.out.trans (a1.mono HB2.out.size))
 have HA:=Lib.hid a0
 have HP:Hid (w.heap.size≤w2.heap.size∧g<w2.heap.size):=⟨HB2.out.size,by have:=hbel.size;omega⟩
 have HPW:Hid (w2.heap.size<(w2.alloc (Obj.cells #[.pointer (some ⟨bf,12,none⟩),K0] 189)).heap.size):=by show _ < _;omega
 have HGB:=Lib.hid (hbel.trans (a1.mono hbel.size))
 clear hbel a0 a1 a2 c0
 go_upto_region 5 with fail
 generalize w2.alloc (Obj.cells #[.pointer (some ⟨bf,12,none⟩),K0] 189)=W at *
 have hp:=H3.out.fil.ptr (i:=5) (by omega)
 rw [H3.out.mid.rep.top 5 (by omega)] at hp
 have HPT:Hid (W.cell? ⟨bf,12,none⟩=some (.int .i64 (f 5:Nat))):=hp
 have C1W:Hid (W.cell? ⟨g,1,none⟩=some (.int .i64 (i:Int))):=(HGB.out.cell (p:=⟨g,1,none⟩) hg).trans C1.out
 have C2W:Hid (W.cell? ⟨g,2,none⟩=some (.int .i64 (j:Int))):=(HGB.out.cell (p:=⟨g,2,none⟩) hg).trans C2.out
 clear hp
 have cg1:=C1W.out
 go_wp2_with fail
 refine wp_loop_rounds 3 ?_
 rw [rounds_succ]
 go_wp2_with (first | (refine D.wpList_load_row rfl 189 _ rfl w2.heap.size rfl _ _ _ HA.out _ Tryz.underlying189 rfl s193 ?_) | fail)
 clear cg1
 refine (reachL HPT.out H3.out.fil.lt).mono ?_
 rintro e w3 ⟨rfl,hb3⟩
 have H4:=Lib.hid (H3.out.below hb3)
 have HB4:=Lib.hid (HB3.out.trans (hb3.mono HB3.out.size))
 have HA4:=Lib.hid ((hb3.block w2.heap.size HPW.out).trans HA.out)
 have CA:=Lib.hid ((hb3.cell (p:=⟨bf,12,none⟩) H3.out.fil.lt).trans HPT.out)
 have C2X:Hid (w3.cell? ⟨g,2,none⟩=some (.int .i64 (j:Int))):=(hb3.cell (p:=⟨g,2,none⟩) (by have:=HP.out.2;have:=HPW.out;show g < _;omega)).trans C2W.out
 have hPw3:w2.heap.size<w3.heap.size:=Nat.lt_of_lt_of_le HPW.out hb3.size
 clear hb3
 by_cases h0:f 5=0
 ·have hfz:f (kid (14+i) j)=0:=by
   exact H.out.mid.rep.none_ _ hpx (H.out.mid.rep.none_ 5 (.inr (.inl rfl)) h0 i hi8) j hj
  have HFZ:=Lib.hid hfz
  clear hfz
  rw [h0]
  rw [show ((0:Nat):Int)=0 from rfl]
  go_wp2_with fail
  go_ret2
  exact ⟨by rw [HFZ.out];rfl,HB4.out⟩
 ·have hz:(((f 5:Nat):Int) == 0)=false:=by rw [beq_eq_false_iff_ne];omega
  have hrg:=H.out.mid.rng 5 (by omega)
  have HP1:=Lib.hid (H.out.mid.rep.some_ 5 (.inr (.inl rfl)) h0)
  go_wp2_with (first | (refine D.wpList_load_row rfl 189 _ rfl w2.heap.size rfl _ _ _ HA4.out _ Tryz.underlying189 rfl s193 ?_) | fail)
  refine (below_yes (j:=i) H4.out.sto H4.out.fil.c0 H4.out.fil.lt CA.out H4.out.fil.lt (by omega) (by omega) HP1.out.1 hi8).mono ?_
  rintro e w4 ⟨L,b1,b2,b3,rfl,hs,hL,hb⟩
  have HS5:=Lib.hid (hs.congr HP1.out.2)
  have H5:=Lib.hid (H4.out.below hb)
  have HA5:=Lib.hid ((hb.block w2.heap.size (Array.getElem?_eq_some_iff.1 HA4.out).1).trans HA4.out)
  have HB5:=Lib.hid (HB4.out.trans (hb.mono HB4.out.size))
  have hLP:L≠w2.heap.size:=by omega
  have hLl:L<w4.heap.size:=(Array.getElem?_eq_some_iff.1 hs.lst).1
  have C2Y:Hid (w4.cell? ⟨g,2,none⟩=some (.int .i64 (j:Int))):=(hb.cell (p:=⟨g,2,none⟩) (by have:=HP.out.2;show g < _;omega)).trans C2X.out
  clear hs hL hb hz
  go_wp2_with (first | (refine D.wpList_store_row rfl 189 _ _ rfl w2.heap.size #[.pointer (some ⟨bf,12,none⟩),K0] #[.pointer (some ⟨L,i,none⟩),K1 b1 b2 b3] 189 rfl rfl HA5.out s193 rfl (ocK _ _ _ _) ?_) | fail)
  have HA6:=Lib.hid (D.setRow_in _ _ _ #[.pointer (some ⟨L,i,none⟩),K1 b1 b2 b3] _ HA5.out)
  have HS6:=Lib.hid (HS5.out.setRow (C'':=#[.pointer (some ⟨L,i,none⟩),K1 b1 b2 b3]) HA5.out rfl)
  have H6:=Lib.hid (H5.out.chg H.out HP.out.1 (chg_setRow w4 w2.heap.size #[.pointer (some ⟨L,i,none⟩),K1 b1 b2 b3]))
  have HB6:=Lib.hid (below_setRow HB5.out HP.out.1 #[.pointer (some ⟨L,i,none⟩),K1 b1 b2 b3])
  have hLl6:L<(w4.setRow w2.heap.size #[.pointer (some ⟨L,i,none⟩),K1 b1 b2 b3]).heap.size:=by simp [World.setRow];exact hLl
  have hPl6:w2.heap.size<(w4.setRow w2.heap.size #[.pointer (some ⟨L,i,none⟩),K1 b1 b2 b3]).heap.size:=(Array.getElem?_eq_some_iff.1 HA6.out).1
  have hgP:g≠w2.heap.size:=by have:=HP.out.2;omega
  have C2Z:Hid ((w4.setRow w2.heap.size #[.pointer (some ⟨L,i,none⟩),K1 b1 b2 b3]).cell? ⟨g,2,none⟩=some (.int .i64 (j:Int))):=(World.cell?_of_block (a:=⟨g,2,none⟩) (setRow_other w4 _ _ _ hgP)).trans C2Y.out
  clear HA5 HS5 H5 HB5
  generalize w4.setRow w2.heap.size #[.pointer (some ⟨L,i,none⟩),K1 b1 b2 b3]=w5 at *
  have CL:Hid (w5.cell? ⟨L,i,none⟩=some (.int .i64 (f (kid 5 i):Nat))):=(T.cell_in HS6.out.lst i).trans (by simp [pl_get _ hi8,T.iv])
  rw [rounds_succ]
  have cg2:=C2Z.out
  go_wp2_with (first | (refine D.wpList_load_row rfl 189 _ rfl w2.heap.size rfl _ _ _ HA6.out _ Tryz.underlying189 rfl s193 ?_) | fail)
  clear cg2
  refine (reachL CL.out hLl6).mono ?_
  rw [show kid 5 i=14+i from rfl] at CL ⊢
  rintro e w6 ⟨rfl,hb6⟩
  have H7:=Lib.hid (H6.out.below hb6)
  have HB7:=Lib.hid (HB6.out.trans (hb6.mono HB6.out.size))
  have HA7:=Lib.hid ((hb6.block w2.heap.size hPl6).trans HA6.out)
  have CL7:=Lib.hid ((hb6.cell (p:=⟨L,i,none⟩) hLl6).trans CL.out)
  have hLl7:L<w6.heap.size:=Nat.lt_of_lt_of_le hLl6 hb6.size
  clear hb6 HA6 HS6 CL C2Z
  by_cases h1:f (14+i)=0
  ·have hfz:f (kid (14+i) j)=0:=H.out.mid.rep.none_ _ hpx h1 j hj
   have HFZ:=Lib.hid hfz
   clear hfz
   rw [h1]
   rw [show ((0:Nat):Int)=0 from rfl]
   go_wp2_with fail
   go_ret2
   exact ⟨by rw [HFZ.out];rfl,HB7.out⟩
  ·have hz:(((f (14+i):Nat):Int) == 0)=false:=by rw [beq_eq_false_iff_ne];omega
   have hrg2:=H.out.mid.rng (14+i) (by omega)
   have HP2:=Lib.hid (H.out.mid.rep.some_ (14+i) hpx h1)
   go_wp2_with (first | (refine D.wpList_load_row rfl 189 _ rfl w2.heap.size rfl _ _ _ HA7.out _ Tryz.underlying189 rfl s193 ?_) | fail)
   refine (below_yes (j:=j) H7.out.sto H7.out.fil.c0 H7.out.fil.lt CL7.out hLl7 (by omega) (by omega) HP2.out.1 hj).mono ?_
   rintro e w7 ⟨L',b1',b2',b3',rfl,hs,hL',hb⟩
   have HS8:=Lib.hid (hs.congr HP2.out.2)
   have HA8:=Lib.hid ((hb.block w2.heap.size (Array.getElem?_eq_some_iff.1 HA7.out).1).trans HA7.out)
   have HB8:=Lib.hid (HB7.out.trans (hb.mono HB7.out.size))
   have hLl8:L'<w7.heap.size:=(Array.getElem?_eq_some_iff.1 hs.lst).1
   clear hs hL' hb hz
   go_wp2_with (first | (refine D.wpList_store_row rfl 189 _ _ rfl w2.heap.size #[.pointer (some ⟨L,i,none⟩),K1 b1 b2 b3] #[.pointer (some ⟨L',j,none⟩),K1 b1' b2' b3'] 189 rfl rfl HA8.out s193 rfl (ocK _ _ _ _) ?_) | fail)
   have HA9:=Lib.hid (D.setRow_in _ _ _ #[.pointer (some ⟨L',j,none⟩),K1 b1' b2' b3'] _ HA8.out)
   have HS9:=Lib.hid (HS8.out.setRow (C'':=#[.pointer (some ⟨L',j,none⟩),K1 b1' b2' b3']) HA8.out rfl)
   have HB9:=Lib.hid (below_setRow HB8.out HP.out.1 #[.pointer (some ⟨L',j,none⟩),K1 b1' b2' b3'])
   have hLl9:L'<(w7.setRow w2.heap.size #[.pointer (some ⟨L',j,none⟩),K1 b1' b2' b3']).heap.size:=by simp [World.setRow];exact hLl8
   clear HA8 HS8 HB8
   generalize w7.setRow w2.heap.size #[.pointer (some ⟨L',j,none⟩),K1 b1' b2' b3']=w8 at *
   have CL9:Hid (w8.cell? ⟨L',j,none⟩=some (.int .i64 (f (kid (14+i) j):Nat))):=(T.cell_in HS9.out.lst j).trans (by simp [pl_get _ hj,T.iv])
   rw [rounds_succ]
   go_wp2_with (first | (refine D.wpList_load_row rfl 189 _ rfl w2.heap.size rfl _ _ _ HA9.out _ Tryz.underlying189 rfl s193 ?_) | fail)
   refine (reachL CL9.out hLl9).mono ?_
   rintro e w9 ⟨rfl,hb9⟩
   have HB10:=Lib.hid (HB9.out.trans (hb9.mono HB9.out.size))
   clear hb9
   go_wp2_with fail
   go_ret2
   exact ⟨rfl,HB10.out⟩
theorem way_leave {b:Nat} (h:Rd w0 w p d N q bf nn O s X m G y f C) (hb:b<76) :
  Calls Tryz.prog 92 #[.pointer (some ⟨bf,0,none⟩),.int .i64 (b:Int),KL] w (WayL w (f (ixb b))):=by
 by_cases h1:b<4
 ·exact wayl_one h1 h
 ·by_cases h2:b<12
  ·obtain ⟨j,rfl⟩:∃ j,b=4+j:=⟨b - 4,by omega⟩
   exact wayl_two (by omega) h
  ·obtain ⟨i,j,hi,hj,rfl⟩:∃ i j,i<8∧j<8∧b=12+8 * i+j:=⟨(b - 12) / 8,(b - 12) % 8,by omega,by omega,by omega⟩
   exact wayl_three hi hj h
end
end Go.Proofs.YtkganhafbjgndaaGreatRR.V
