/- Places, take, reach: the steps of a way. -/
import Derived.Test.YtkganhafbjgndaaGreatRRZVBase
import Derived.Laws.EntriesVeiled
namespace Go.Proofs.YtkganhafbjgndaaGreatRR.V
open Go.RowKit
set_option linter.unusedVariables false
set_option maxRecDepth 20000
theorem s193:(Tryz.prog.info? 189).map (·.size)=some 2:=by kernel_rfl
theorem ocK (A:Option Addr) (fn:Fn) (x z:Array Value):(#[.pointer A,.func fn x z]:Array Value).all (·.oneCell')=true:=all_oneCell_toArray (cs:=[.pointer A,.func fn x z]) (by simp [Value.oneCell'])
abbrev K0:Value:=.func (.func 167) #[] #[]
abbrev K1 (b1 b2 b3:Nat):Value:=.func (.func 169) #[] #[.pointer (some ⟨b1,0,none⟩),.pointer (some ⟨b2,0,none⟩),.pointer (some ⟨b3,0,none⟩)]
section
variable {w0 w w':World} {p d N q bf nn:Nat} {O:List Nat} {s:DS} {X:Secs2} {m:List Wr} {G:Nat→Prop} {y:D.Nn} {f:Nat→Nat} {C:Nat→UInt8} {low:List Int} {Tx:List Nat}
theorem keep0 (w:World):Calls Tryz.prog 167 #[] w fun e w'=>e=.returned (.int .i64 0)∧w=w':=by
 go_enter Tryz.func167,Tryz.ntmps167
 go_wp2
 go_ret
 exact ⟨rfl,rfl⟩
def PlR (w:World) (A:Addr) (kv:Value) (e:Ending) (w':World):Prop:=e=.returned (.agg #[.pointer (some A),kv])∧Below w.heap.size w w'
set_option maxHeartbeats 1000000 in
theorem start_yes {i:Nat} (hi:i<6) (w:World):Calls Tryz.prog 127 #[.pointer (some ⟨bf,0,none⟩),.int .i64 i] w (PlR w ⟨bf,7+i,none⟩ K0):=by
 have HF:=Lib.hid (fun w=>field_yes (bf:=bf) (w:=w) hi)
 clear hi
 generalize 7+i=o at *
 go_enter Tryz.func127,Tryz.ntmps127
 go_wp2_with fail
 refine (HF.out _).mono ?_
 rintro e w1 ⟨rfl,rfl⟩
 go_wp2_with fail
 obtain ⟨a0,a1,a2⟩:=D.box1 w (Obj.cells #[.pointer (some ⟨bf,o,none⟩),.func (.func 167) #[] #[]] 189)
 refine bodyPost_ret (D.ret_row rfl rfl a0 Tryz.underlying189 rfl s193) rfl ?_
 exact ⟨rfl,a1⟩
structure SubAt (w:World) (bf fp:Nat) (g:Nat→Nat) (L b1 b2 b3:Nat):Prop where
 x1:w.heap[b1]?=some (.cells #[.pointer (some ⟨bf,0,none⟩)] 81 (0,0))
 x2:w.heap[b2]?=some (.cells #[.int .i64 (fp:Int)] 3 (0,0))
 x3:w.heap[b3]?=some (.cells #[.slice (some ⟨L,0,none⟩) 8 8] 54 (0,0))
 lst:Lst w L g
theorem SubAt.below {fp L b1 b2 b3:Nat} {g:Nat→Nat} (h:SubAt w bf fp g L b1 b2 b3) (hb:Below w.heap.size w w'):SubAt w' bf fp g L b1 b2 b3 :=
 have lt:∀ {k:Nat} {o:Obj},w.heap[k]?=some o→w'.heap[k]?=some o:=fun h=>(hb.block _ (Array.getElem?_eq_some_iff.1 h).1).trans h
 ⟨lt h.x1,lt h.x2,lt h.x3,lt h.lst⟩
def BelR (w:World) (bf fp j:Nat) (g:Nat→Nat) (e:Ending) (w':World):Prop:=∃ L b1 b2 b3,e=.returned (.tuple #[.agg #[.pointer (some ⟨L,j,none⟩),K1 b1 b2 b3],.int .i64 0])∧SubAt w' bf fp g L b1 b2 b3∧w.heap.size≤L∧Below w.heap.size w w'
set_option maxHeartbeats 1000000 in
theorem below_yes {A:Addr} {kv:Value} {fp j:Nat} (h:Sto w0 w p d O N s X q m) (hf:w.cell? ⟨bf,0,none⟩=some (.pointer (some ⟨p,0,none⟩))) (hbf:bf<w.heap.size) (hA:w.cell? A=some (.int .i64 (fp:Int))) (hAb:A.block<w.heap.size) (hn:43≤fp) (hN:fp<N) (hp:isP (view X m fp)) (hj:j<8) :
  Calls Tryz.prog 129 #[.pointer (some ⟨bf,0,none⟩),.agg #[.pointer (some A),kv],.int .i64 j] w (BelR w bf fp j (kn (view X m fp))):=by
 obtain ⟨a0,a1,a2,a3,a4⟩:=D.box3 w (Obj.cells #[.pointer (some ⟨bf,0,none⟩)] 81) (Obj.cells #[.pointer (some A),kv] 189) (Obj.cells #[.pointer none,.nilFunc] 189)
 have HF:=Lib.hid hf
 have HA:=Lib.hid hA
 have HP:=Lib.hid hp
 clear hf hA hp
 go_enter Tryz.func129,Tryz.ntmps129
 go_upto_region 1 with fail
 have HA4:Hid (w.heap.size+1+1<((((w.alloc (Obj.cells #[.pointer (some ⟨bf,0,none⟩)] 81)).alloc (Obj.cells #[.pointer (some A),kv] 189)).alloc (Obj.cells #[.pointer none,.nilFunc] 189))).heap.size):=by show _ < _;omega
 have HW:=Lib.hid (h.below a3)
 have A0:=Lib.hid a0
 have A1:=Lib.hid a1
 have A2:=Lib.hid a2
 have A3:=Lib.hid a3
 clear a0 a1 a2 a3 a4 h
 generalize ((w.alloc (Obj.cells #[.pointer (some ⟨bf,0,none⟩)] 81)).alloc (Obj.cells #[.pointer (some A),kv] 189)).alloc (Obj.cells #[.pointer none,.nilFunc] 189)=W at *
 have c1:W.cell? ⟨w.heap.size+1,0,none⟩=some (.pointer (some A)):=cell_of_row _ _ 0 _ _ _ A1.out
 have cA:W.cell? A=some (.int .i64 (fp:Int)):=(A3.out.cell hAb).trans HA.out
 go_upto_region 2 with fail
 clear c1 cA
 obtain ⟨b0,b1,b2⟩:=D.box1 W (Obj.cells #[.int .i64 (fp:Int)] 3)
 have B0:=Lib.hid b0
 have HB4:=Lib.hid (A3.out.trans (b1.mono A3.out.size))
 have HS4:=Lib.hid (HW.out.below b1)
 have G0:=Lib.hid ((b1.block w.heap.size (by have:=HA4.out;omega)).trans A0.out)
 have G2:=Lib.hid ((b1.block (w.heap.size+1+1) HA4.out).trans A2.out)
 have HA5:Hid (w.heap.size+1+1<(W.alloc (Obj.cells #[.int .i64 (fp:Int)] 3)).heap.size∧W.heap.size<(W.alloc (Obj.cells #[.int .i64 (fp:Int)] 3)).heap.size∧w.heap.size+1+1<W.heap.size):=by show _∧_;have:=HA4.out;omega
 clear b0 b1 b2 A0 A1 A2 A3 HW HA4
 generalize hT:W.heap.size=T at *
 clear hT
 generalize W.alloc (Obj.cells #[.int .i64 (fp:Int)] 3)=W2 at *
 have c0:W2.cell? ⟨w.heap.size,0,none⟩=some (.pointer (some ⟨bf,0,none⟩)):=cell_of_row _ _ 0 _ _ _ G0.out
 have cT:W2.cell? ⟨T,0,none⟩=some (.int .i64 (fp:Int)):=cell_of_row _ _ 0 _ _ _ B0.out
 go_wp2_with fail
 refine (pointers_yes HS4.out ((HB4.out.cell (p:=⟨bf,0,none⟩) hbf).trans HF.out) hn hN HP.out).mono ?_
 rintro e w3 ⟨L,rfl,hl,hL,hb⟩
 obtain ⟨e0,e1,e2⟩:=D.box1 w3 (Obj.cells #[.slice (some ⟨L,0,none⟩) 8 8] 54)
 have HB5:=Lib.hid ((HB4.out.trans (hb.mono HB4.out.size)).trans (e1.mono (by have:=HB4.out.size;have:=hb.size;omega)))
 have hLw:w.heap.size+1+1<L:=by have:=HA5.out;omega
 have hs3:=hb.size
 have E0:=Lib.hid e0
 have EL:=Lib.hid ((e1.block L (Array.getElem?_eq_some_iff.1 hl).1).trans hl)
 have E1:=Lib.hid ((e1.block T (by have:=HA5.out;omega)).trans ((hb.block T HA5.out.2.1).trans B0.out))
 have E2:=Lib.hid ((e1.block w.heap.size (by have:=HA5.out;omega)).trans ((hb.block w.heap.size (by have:=HA5.out;omega)).trans G0.out))
 have E3:=Lib.hid ((e1.block (w.heap.size+1+1) (by have:=HA5.out;omega)).trans ((hb.block (w.heap.size+1+1) (by have:=HA5.out;omega)).trans G2.out))
 have HNE:Hid (L≠w.heap.size+1+1∧w3.heap.size≠w.heap.size+1+1∧T≠w.heap.size+1+1):=by show _∧_;have:=HA5.out;omega
 have HLS:=Lib.hid (show w.heap.size≤L by omega)
 clear e0 e1 e2 hb hl c0 cT hs3 hL hLw HA5 HB4 G0 G2 B0 HS4
 go_upto_region 5 with fail
 generalize w3.alloc (Obj.cells #[.slice (some ⟨L,0,none⟩) 8 8] 54)=W3 at *
 generalize hT:w3.heap.size=T3 at *
 clear hT
 have c3:W3.cell? ⟨T3,0,none⟩=some (.slice (some ⟨L,0,none⟩) 8 8):=cell_of_row _ _ 0 _ _ _ E0.out
 have hj0:(0:Int)≤(j:Int):=by omega
 have hj1:(j:Int)<8:=by omega
 go_wp2_with (first | (refine D.wpList_store_row rfl 189 _ _ rfl (w.heap.size+1+1) #[.pointer none,.nilFunc] #[.pointer (some ⟨L,j,none⟩),K1 w.heap.size T T3] 189 rfl rfl E3.out s193 rfl (ocK _ _ _ _) ?_) | fail)
 refine bodyPost_ret (D.ret_row2 rfl rfl (D.setRow_in _ _ _ #[.pointer (some ⟨L,j,none⟩),K1 w.heap.size T T3] _ E3.out) Tryz.underlying189 rfl s193) rfl ?_
 have hr:∀ {k:Nat} {o:Obj},k≠w.heap.size+1+1→W3.heap[k]?=some o→(W3.setRow (w.heap.size+1+1) #[.pointer (some ⟨L,j,none⟩),K1 w.heap.size T T3]).heap[k]?=some o:=fun hk h=>(setRow_other W3 _ _ _ hk).trans h
 exact ⟨L,w.heap.size,T,T3,rfl,⟨hr (by omega) E2.out,hr HNE.out.2.2 E1.out,hr HNE.out.2.1 E0.out,hr HNE.out.1 EL.out⟩,HLS.out,below_setRow HB5.out (by omega) _⟩
end
end Go.Proofs.YtkganhafbjgndaaGreatRR.V
namespace Go.Proofs.YtkganhafbjgndaaGreatRR.V
open Go.RowKit
set_option linter.unusedVariables false
set_option maxRecDepth 20000
theorem Lst.set {w:World} {L j n:Nat} {g g':Nat→Nat} (h:Lst w L g) (hg:(pl g).set j (n:Int)=pl g'):Lst (w.setCell ⟨L,j,none⟩ (.int .i64 (n:Int))) L g':=by
 refine (T.heap_set h j _).trans ?_
 rw [← hg,List.setIfInBounds_toArray,List.map_set]
 rfl
theorem row_ne {w:World} {a b:Nat} {x y:Array Value} {t u:TypeId} (h:w.heap[a]?=some (.cells x t (0,0))) (k:w.heap[b]?=some (.cells y u (0,0))) (hs:x.size≠y.size):a≠b:=fun e=>by
 rw [e,k] at h
 cases h
 exact hs rfl
section
variable {w0 w w':World} {p d N q bf nn:Nat} {O:List Nat} {s:DS} {X:Secs2} {m:List Wr} {G:Nat→Prop} {y:D.Nn} {f:Nat→Nat} {C:Nat→UInt8} {low:List Int} {Tx:List Nat}
theorem leave_yes (A:Addr) (kv:Value) (w:World):Calls Tryz.prog 95 #[.agg #[.pointer (some A),kv]] w fun e w'=>e=.returned (.int .i64 0)∧Below w.heap.size w w':=by
 go_enter Tryz.func95,Tryz.ntmps95
 go_wp2
 go_ret
 exact ⟨rfl,D.box_below w _⟩
set_option maxHeartbeats 1000000 in
theorem keep1 {fp L b1 b2 b3:Nat} {g:Nat→Nat} (h:Sto w0 w p d O N s X q m) (hf:w.cell? ⟨bf,0,none⟩=some (.pointer (some ⟨p,0,none⟩))) (hbf:bf<w.heap.size) (hs:SubAt w bf fp g L b1 b2 b3) (hn:43≤fp) (hN:fp<N) (hok:∀ j,j<8→okn_ (g j)) (hr:find m fp≠none∨m.length<24) :
  Calls Tryz.prog 169 #[.pointer (some ⟨b1,0,none⟩),.pointer (some ⟨b2,0,none⟩),.pointer (some ⟨b3,0,none⟩)] w (Put1 w0 w p d O N s X q (ins fp (en g) m)):=by
 have HC:=Lib.hid (setPointers_yes h hf hbf hn hN hs.lst hok hr)
 have c1:w.cell? ⟨b1,0,none⟩=some (.pointer (some ⟨bf,0,none⟩)):=cell_of_row _ _ 0 _ _ _ hs.x1
 have c2:w.cell? ⟨b2,0,none⟩=some (.int .i64 (fp:Int)):=cell_of_row _ _ 0 _ _ _ hs.x2
 have c3:w.cell? ⟨b3,0,none⟩=some (.slice (some ⟨L,0,none⟩) 8 8):=cell_of_row _ _ 0 _ _ _ hs.x3
 clear h hf hs hok hr
 go_enter Tryz.func169,Tryz.ntmps169
 go_wp2_with fail
 refine HC.out.mono ?_
 rintro e w2 ⟨rfl,hs,hc⟩
 have HS:=Lib.hid hs
 have HC2:=Lib.hid hc
 clear hs hc
 go_wp2_with fail
 go_ret
 exact ⟨rfl,HS.out,HC2.out⟩
set_option maxHeartbeats 1000000 in
theorem take_none {A:Addr} {kv:Value} (h:Op w0 w p d N q bf nn O s X m G y f C low Tx) (hf:K.first (view X m 34) 43 (N - 43)=none) :
  Calls Tryz.prog 93 #[.pointer (some ⟨bf,0,none⟩),.agg #[.pointer (some A),kv]] w fun e w'=>e=.returned (.int .i64 10)∧Below w.heap.size w w':=by
 obtain ⟨a0,a1,a2⟩:=D.box1 w (Obj.cells #[.pointer (some A),kv] 189)
 have H:=Lib.hid (h.below a1)
 have HT:=Lib.hid (take_no H.out.sto hf)
 have HB:=Lib.hid a1
 have c0:=H.out.fil.c0
 clear h hf a0 a1 a2
 go_enter Tryz.func93,Tryz.ntmps93
 go_wp2_with fail
 refine HT.out.mono ?_
 rintro e w2 ⟨rfl,hb⟩
 have HB2:=Lib.hid (HB.out.trans (hb.mono HB.out.size))
 clear hb
 go_wp2_with fail
 go_ret
 exact ⟨rfl,HB2.out⟩
def TkT (w0 w:World) (p d N q bf nn:Nat) (O:List Nat) (s:DS) (X:Secs2) (m:List Wr) (G:Nat→Prop) (y:D.Nn) (f:Nat→Nat) (C:Nat→UInt8) (low:List Int) (Tx:List Nat) (i n:Nat) (e:Ending) (w':World):Prop :=
 e=.returned (.int .i64 0)∧∃ m',Op w0 w' p d N q bf nn O s X m' G (setp y i n) (upd f i n) C low Tx∧Fr (upd f i n) (view X m) (view X m')∧Chg [q,bf] w w'
set_option maxHeartbeats 2000000 in
theorem take_topP {i n:Nat} (h:Op w0 w p d N q bf nn O s X m G y f C low Tx) (hf:K.first (view X m 34) 43 (N - 43)=some n) (hi:i<6) (hx:i∈Tx) (h0:f i=0) :
  Calls Tryz.prog 93 #[.pointer (some ⟨bf,0,none⟩),.agg #[.pointer (some ⟨bf,7+i,none⟩),K0]] w (TkT w0 w p d N q bf nn O s X m G y f C low Tx i n):=by
 obtain ⟨a0,a1,a2⟩:=D.box1 w (Obj.cells #[.pointer (some ⟨bf,7+i,none⟩),K0] 189)
 have h64:=h.sto.n64
 have hN1:=h.sto.n1
 have H:=Lib.hid (h.below a1)
 have hn:=K.first_some hf
 have bud':Bud low Tx m (upd f i n):=h.bud.ext (Ext.upd h0)
 have hroom:Room N m [(34,K.setb (view X m 34) n true),((n:Int),zeros)]:=bud'.room2 h.sto.mok hN1 h64 hn.1 (by omega) hx (upd_at f i n) (by rw [K.setb_length];exact h.mid.ml) zeros_len
 have HT:=Lib.hid (take_yes H.out.sto hf hroom)
 have HM:=Lib.hid (take_top (V':=view X (insAll [(34,K.setb (view X m 34) n true),((n:Int),zeros)] m)) h.mid h.con hf (by omega) (fun k=>view_two X m _ n _ k) hi h0)
 have HBU:Hid (Bud low Tx (insAll [(34,K.setb (view X m 34) n true),((n:Int),zeros)] m) (upd f i n)) :=
  (bud'.ins (k:=34) _ (.inl bud'.m34)).ins (k:=(n:Int)) _ (.inr ⟨i,hx,by rw [upd_at];omega,by rw [upd_at]⟩)
 have HI:=Lib.hid hi
 have HB:=Lib.hid a1
 have HBX:=Lib.hid a0
 have hqw:=h.sto.map.lt
 have hbw:=h.fil.lt
 have c0:=H.out.fil.c0
 clear h hf hx h0 a0 a1 a2 hn bud' hroom hi
 generalize insAll [(34,K.setb (view X m 34) n true),((n:Int),zeros)] m=m1 at *
 obtain ⟨o,ho⟩:∃ o,7+i=o:=⟨_,rfl⟩
 have HO:Hid (7+i=o):=ho
 rw [ho] at HBX H HT HB c0 ⊢
 clear ho
 generalize hW:w.alloc (Obj.cells #[.pointer (some ⟨bf,o,none⟩),K0] 189)=W at *
 go_enter Tryz.func93,Tryz.ntmps93
 go_upto_region 1 with fail
 (try rw [hW])
 clear hW
 go_wp2_with fail
 refine HT.out.mono ?_
 rintro e w2 ⟨rfl,hs,hc⟩
 have HS:=Lib.hid hs
 have HC:=Lib.hid hc
 have HFI:=Lib.hid (H.out.fil.keep (hc.block bf H.out.fil.lt (by simp;exact H.out.bfq)))
 have HG:=Lib.hid ((hc.block w.heap.size (by have:=HBX.out;exact (Array.getElem?_eq_some_iff.1 this).1) (by simp;omega)).trans HBX.out)
 clear hs hc c0
 have c1:w2.cell? ⟨w.heap.size,0,none⟩=some (.pointer (some ⟨bf,o,none⟩)):=cell_of_row _ _ 0 _ _ _ HG.out
 have c2:w2.cell? ⟨bf,o,none⟩=some (.int .i64 (y.ptr6 i:Int)):=by have:=HFI.out.ptr HI.out;rw [HO.out] at this;exact this
 have c3:=HFI.out.free o
 go_upto_region 5 with fail
 have HFI3:Hid (Fil (w2.setCell ⟨bf,o,none⟩ (.int .i64 (n:Int))) bf p nn (setp y i n)):=by have:=HFI.out.setp HI.out n;rw [HO.out] at this;exact this
 have hne:w.heap.size≠bf:=by omega
 have hq1:bf≠q:=H.out.bfq
 have HG3:Hid ((w2.setCell ⟨bf,o,none⟩ (.int .i64 (n:Int))).heap[w.heap.size]?=some (Obj.cells #[.pointer (some ⟨bf,o,none⟩),K0] 189)):=(Below.heap_setCell _ _ _ _ (by exact hne)).trans HG.out
 have HS3:Hid (Sto w0 (w2.setCell ⟨bf,o,none⟩ (.int .i64 (n:Int))) p d O N s X q m1):=HS.out.keep_ (fun b hb=>Below.heap_setCell _ _ _ _ (by
   rintro rfl
   rcases hb with hb | hb | hb
   ·exact H.out.bfO hb
   ·exact H.out.bfp hb
   ·exact H.out.bfq hb)) ((Below.refl _ _).setCell (p:=⟨bf,o,none⟩) H.out.bf0 _)
 have HC3:Hid (Chg [q,bf] w (w2.setCell ⟨bf,o,none⟩ (.int .i64 (n:Int)))):=(((Chg.of_below HB.out).tr (HC.out.mono fun b hb=>by simp at hb;left;simp [hb])).setCell (p:=⟨bf,o,none⟩) (.inl (by simp)) _)
 clear c1 c2 c3 HG HS HC HFI
 generalize w2.setCell ⟨bf,o,none⟩ (.int .i64 (n:Int))=w3 at *
 have c1:w3.cell? ⟨w.heap.size,1,none⟩=some K0:=cell_of_row _ _ 1 _ _ _ HG3.out
 go_wp2_with fail
 refine (keep0 _).mono ?_
 rintro e w4 ⟨rfl,rfl⟩
 go_wp2_with fail
 go_ret
 obtain ⟨m1',m2',m3',_,_⟩:=HM.out
 exact ⟨rfl,m1,⟨HS3.out,HFI3.out,m1',m2',HBU.out,H.out.bfO,H.out.bfp,H.out.bfq,H.out.bf0⟩,m3',HC3.out⟩
def TkS (w0 w:World) (p d N q bf nn:Nat) (O:List Nat) (s:DS) (X:Secs2) (m:List Wr) (G:Nat→Prop) (y:D.Nn) (f:Nat→Nat) (C:Nat→UInt8) (low:List Int) (Tx:List Nat) (L pp j n:Nat) (e:Ending) (w':World):Prop :=
 e=.returned (.int .i64 0)∧∃ m',Op w0 w' p d N q bf nn O s X m' G y (upd f (kid pp j) n) C low Tx∧Fr (upd f (kid pp j) n) (view X m) (view X m')∧Chg [q,L] w w'∧Lst w' L (fun i=>upd f (kid pp j) n (kid pp i))
set_option maxHeartbeats 2000000 in
theorem take_subP {pp j n L b1 b2 b3:Nat} (h:Op w0 w p d N q bf nn O s X m G y f C low Tx) (hf:K.first (view X m 34) 43 (N - 43)=some n) (hp:isPx pp) (hj:j<8) (hx:kid pp j∈Tx) (hx0:pp∈Tx) (h0:f (kid pp j)=0) (hfp:f pp≠0)
  (hs:SubAt w bf (f pp) (fun i=>f (kid pp i)) L b1 b2 b3) (hLO:L∉O) (hLp:L≠p) (hLq:L≠q) (hLf:L≠bf) (hL0:w0.heap.size≤L) :
  Calls Tryz.prog 93 #[.pointer (some ⟨bf,0,none⟩),.agg #[.pointer (some ⟨L,j,none⟩),K1 b1 b2 b3]] w (TkS w0 w p d N q bf nn O s X m G y f C low Tx L pp j n):=by
 obtain ⟨a0,a1,a2⟩:=D.box1 w (Obj.cells #[.pointer (some ⟨L,j,none⟩),K1 b1 b2 b3] 189)
 have h64:=h.sto.n64
 have hN1:=h.sto.n1
 have H:=Lib.hid (h.below a1)
 have hn:=K.first_some hf
 have hr:=h.mid.rng pp (px_lt hp)
 have bud':Bud low Tx m (upd f (kid pp j) n):=h.bud.ext (Ext.upd h0)
 have hroom:Room N m [(34,K.setb (view X m 34) n true),((n:Int),zeros)]:=bud'.room2 h.sto.mok hN1 h64 hn.1 (by omega) hx (upd_at f _ n) (by rw [K.setb_length];exact h.mid.ml) zeros_len
 have HT:=Lib.hid (take_yes H.out.sto hf hroom)
 have hkn:∀ i,i<8→kn (view X m (f pp)) i=f (kid pp i):=(h.mid.rep.some_ pp hp hfp).2
 have hgg:∀ i,i<8→upd (kn (view X m (f pp))) j n i=upd f (kid pp j) n (kid pp i):=fun i hi=>by
  by_cases e:i=j
  ·subst e;rw [upd_at,upd_at]
  ·rw [upd_ne _ e,upd_ne _ (fun e'=>e (kid_inj hp hp hi hj e').2),hkn i hi]
 have hen:en (upd (kn (view X m (f pp))) j n)=en (fun i=>upd f (kid pp j) n (kid pp i)):=by unfold en;rw [pl_congr hgg]
 have HM:=Lib.hid (take_sub (V':=view X (ins (f pp:Nat) (en (fun i=>upd f (kid pp j) n (kid pp i))) (insAll [(34,K.setb (view X m 34) n true),((n:Int),zeros)] m))) h.mid h.con hf (by omega) hp hj hfp (fun k=>by rw [view_ins,view_two,hen]) h0)
 have BU1:Bud low Tx (insAll [(34,K.setb (view X m 34) n true),((n:Int),zeros)] m) (upd f (kid pp j) n) :=
  (bud'.ins (k:=34) _ (.inl bud'.m34)).ins (k:=(n:Int)) _ (.inr ⟨_,hx,by rw [upd_at];omega,by rw [upd_at]⟩)
 have hfp':upd f (kid pp j) n pp=f pp:=upd_ne _ (Ne.symm (kid_ne hp hj))
 have hk2:((f pp:Nat):Int)∈low∨∃ i∈Tx,upd f (kid pp j) n i≠0∧((f pp:Nat):Int)=(upd f (kid pp j) n i:Int):=.inr ⟨pp,hx0,by rw [hfp'];exact hfp,by rw [hfp']⟩
 have HBU1:=Lib.hid BU1
 have HK2:=Lib.hid hk2
 have HBU:=Lib.hid (BU1.ins (en (fun i=>upd f (kid pp j) n (kid pp i))) hk2)
 have HOK:Hid (∀ i,i<8→okn_ (upd f (kid pp j) n (kid pp i))):=fun i hi=>by
  unfold upd
  split
  ·unfold okn_;omega
  ·exact h.mid.okn (kid_lt hp hi).2
 have HPU:Hid ((pl fun i=>f (kid pp i)).set j (n:Int)=pl fun i=>upd f (kid pp j) n (kid pp i)):=by
  show _=_
  rw [pl_set _ hj]
  exact pl_congr fun i hi=>by
   by_cases e:i=j
   ·subst e;rw [upd_at,upd_at]
   ·rw [upd_ne _ e,upd_ne _ (fun e'=>e (kid_inj hp hp hi hj e').2)]
 have HB:=Lib.hid a1
 have HBX:=Lib.hid a0
 have HSB:=Lib.hid (hs.below a1)
 have HLL:=Lib.hid (And.intro hLO (And.intro hLp (And.intro hLq (And.intro hLf hL0))))
 have HFR:=Lib.hid hr
 have HFP:=Lib.hid hfp
 have hqw:=h.sto.map.lt
 have hbw:=h.fil.lt
 have hLw:L<w.heap.size:=(Array.getElem?_eq_some_iff.1 hs.lst).1
 have hb3:b1<w.heap.size∧b2<w.heap.size∧b3<w.heap.size:=⟨(Array.getElem?_eq_some_iff.1 hs.x1).1,(Array.getElem?_eq_some_iff.1 hs.x2).1,(Array.getElem?_eq_some_iff.1 hs.x3).1⟩
 have c0:=H.out.fil.c0
 clear h hf hx hx0 h0 a0 a1 a2 hn bud' hroom hs hLO hLp hLq hLf hL0 hkn hgg hen BU1 hk2 hfp' hr hfp
 generalize insAll [(34,K.setb (view X m 34) n true),((n:Int),zeros)] m=m1 at *
 go_enter Tryz.func93,Tryz.ntmps93
 go_upto_region 1 with fail
 generalize w.alloc (Obj.cells #[.pointer (some ⟨L,j,none⟩),K1 b1 b2 b3] 189)=W at *
 go_wp2_with fail
 refine HT.out.mono ?_
 rintro e w2 ⟨rfl,hs,hc⟩
 have HS:=Lib.hid hs
 have HC:=Lib.hid hc
 have hWs:=HB.out.size
 have HFI:=Lib.hid (H.out.fil.keep (hc.block bf H.out.fil.lt (by simp;exact H.out.bfq)))
 have HG:=Lib.hid ((hc.block w.heap.size (by have:=HBX.out;exact (Array.getElem?_eq_some_iff.1 this).1) (by simp;omega)).trans HBX.out)
 have HMP:Hid (MapAt w2 q m1):=hs.map
 have nq:∀ k,(∃ cs t,W.heap[k]?=some (Obj.cells cs t (0,0)))→k≠q:=fun k hk e=>by
  obtain ⟨cs,t,hk⟩:=hk
  obtain ⟨es,clock,hb,_⟩:=H.out.sto.map
  rw [e,hb] at hk
  cases hk
 have HSB2:Hid (SubAt w2 bf (f pp) (fun i=>f (kid pp i)) L b1 b2 b3):=⟨
  (hc.block b1 (Array.getElem?_eq_some_iff.1 HSB.out.x1).1 (by simp;exact nq _ ⟨_,_,HSB.out.x1⟩)).trans HSB.out.x1,
  (hc.block b2 (Array.getElem?_eq_some_iff.1 HSB.out.x2).1 (by simp;exact nq _ ⟨_,_,HSB.out.x2⟩)).trans HSB.out.x2,
  (hc.block b3 (Array.getElem?_eq_some_iff.1 HSB.out.x3).1 (by simp;exact nq _ ⟨_,_,HSB.out.x3⟩)).trans HSB.out.x3,
  (hc.block L (Array.getElem?_eq_some_iff.1 HSB.out.lst).1 (by simp;exact nq _ ⟨_,_,HSB.out.lst⟩)).trans HSB.out.lst⟩
 clear hs hc c0 nq
 have c1:w2.cell? ⟨w.heap.size,0,none⟩=some (.pointer (some ⟨L,j,none⟩)):=cell_of_row _ _ 0 _ _ _ HG.out
 have c2:∃ v,w2.cell? ⟨L,j,none⟩=some v:=⟨_,(T.cell_in HSB2.out.lst j).trans (by simp [pl_get _ hj];rfl)⟩
 obtain ⟨v0,c2⟩:=c2
 have c3:w2.frozen? ⟨L,j,none⟩=false:=T.free_in HSB2.out.lst j
 go_upto_region 5 with fail
 have hz:((pl fun i=>f (kid pp i)).map T.iv).toArray.size=8:=by simp [pl_len]
 have n1:b1≠L:=row_ne HSB2.out.x1 HSB2.out.lst (by rw [hz];simp)
 have n2:b2≠L:=row_ne HSB2.out.x2 HSB2.out.lst (by rw [hz];simp)
 have n3:b3≠L:=row_ne HSB2.out.x3 HSB2.out.lst (by rw [hz];simp)
 have HSB3:Hid (SubAt (w2.setCell ⟨L,j,none⟩ (.int .i64 (n:Int))) bf (f pp) (fun i=>upd f (kid pp j) n (kid pp i)) L b1 b2 b3) :=
  ⟨(Below.heap_setCell _ _ _ _ (by exact n1)).trans HSB2.out.x1,(Below.heap_setCell _ _ _ _ (by exact n2)).trans HSB2.out.x2,(Below.heap_setCell _ _ _ _ (by exact n3)).trans HSB2.out.x3,HSB2.out.lst.set HPU.out⟩
 have hne:w.heap.size≠L:=by omega
 have HG3:Hid ((w2.setCell ⟨L,j,none⟩ (.int .i64 (n:Int))).heap[w.heap.size]?=some (Obj.cells #[.pointer (some ⟨L,j,none⟩),K1 b1 b2 b3] 189)):=(Below.heap_setCell _ _ _ _ (by exact hne)).trans HG.out
 have HFI3:Hid (Fil (w2.setCell ⟨L,j,none⟩ (.int .i64 (n:Int))) bf p nn y):=HFI.out.keep (Below.heap_setCell _ _ _ _ (by exact Ne.symm HLL.out.2.2.2.1))
 have HS3:Hid (Sto w0 (w2.setCell ⟨L,j,none⟩ (.int .i64 (n:Int))) p d O N s X q m1):=HS.out.keep_ (fun b hb=>Below.heap_setCell _ _ _ _ (by
   rintro rfl
   rcases hb with hb | hb | hb
   ·exact HLL.out.1 hb
   ·exact HLL.out.2.1 hb
   ·exact HLL.out.2.2.1 hb)) ((Below.refl _ _).setCell (p:=⟨L,j,none⟩) HLL.out.2.2.2.2 _)
 have HC3:Hid (Chg [q,L] w (w2.setCell ⟨L,j,none⟩ (.int .i64 (n:Int)))):=(((Chg.of_below HB.out).tr (HC.out.mono fun b hb=>by simp at hb;left;simp [hb])).setCell (p:=⟨L,j,none⟩) (.inl (by simp)) _)
 clear c1 c2 c3 HG HS HC HFI HMP HSB2 n1 n2 n3 hz
 generalize w2.setCell ⟨L,j,none⟩ (.int .i64 (n:Int))=w3 at *
 have c1:w3.cell? ⟨w.heap.size,1,none⟩=some (K1 b1 b2 b3):=cell_of_row _ _ 1 _ _ _ HG3.out
 have hr43:43≤f pp∧f pp<N:=by have:=HFR.out;have:=HFP.out;omega
 go_wp2_with fail
 refine (keep1 HS3.out HFI3.out.c0 HFI3.out.lt HSB3.out hr43.1 hr43.2 HOK.out (HBU1.out.room HS3.out.mok.rise HK2.out)).mono ?_
 rintro e w4 ⟨rfl,hs,hc⟩
 have HS4:=Lib.hid hs
 have HC4:=Lib.hid ((HC3.out).tr (hc.mono fun b hb=>by simp at hb;left;simp [hb]))
 have HFI4:=Lib.hid (HFI3.out.keep (hc.block bf HFI3.out.lt (by simp;exact H.out.bfq)))
 have HL4:Hid (Lst w4 L fun i=>upd f (kid pp j) n (kid pp i)):=(hc.block L (Array.getElem?_eq_some_iff.1 HSB3.out.lst).1 (by simp;exact HLL.out.2.2.1)).trans HSB3.out.lst
 clear hs hc c1
 go_wp2_with fail
 go_ret
 obtain ⟨m1',m2',m3',_,_⟩:=HM.out
 exact ⟨rfl,_,⟨HS4.out,HFI4.out,m1',m2',HBU.out,H.out.bfO,H.out.bfp,H.out.bfq,H.out.bf0⟩,m3',HC4.out,HL4.out⟩
end
end Go.Proofs.YtkganhafbjgndaaGreatRR.V
namespace Go.Proofs.YtkganhafbjgndaaGreatRR.V
open Go.RowKit
set_option linter.unusedVariables false
set_option maxRecDepth 20000
abbrev KT (bf:Nat):Value:=.func (.func 93) #[.pointer (some ⟨bf,0,none⟩)] #[]
abbrev KL:Value:=.func (.func 95) #[] #[]
section
variable {w0 w w':World} {p d N q bf nn:Nat} {O:List Nat} {s:DS} {X:Secs2} {m:List Wr} {G:Nat→Prop} {y:D.Nn} {f:Nat→Nat} {C:Nat→UInt8} {low:List Int} {Tx:List Nat}
set_option maxHeartbeats 1000000 in
theorem reach_some {A:Addr} {kv mv:Value} {n:Nat} (hA:w.cell? A=some (.int .i64 (n:Int))) (hAb:A.block<w.heap.size) (hn:n≠0) :
  Calls Tryz.prog 128 #[.agg #[.pointer (some A),kv],mv] w fun e w'=>e=.returned (.tuple #[.int .i64 (n:Int),.int .i64 0])∧Below w.heap.size w w':=by
 obtain ⟨a0,a1,a2⟩:=D.box1 w (Obj.cells #[.pointer (some A),kv] 189)
 have HB:=Lib.hid a1
 have cA:=(a1.cell hAb).trans hA
 have cb:(w.alloc (Obj.cells #[.pointer (some A),kv] 189)).cell? ⟨w.heap.size,0,none⟩=some (.pointer (some A)):=cell_of_row _ _ 0 _ _ _ a0
 have hz:((n:Int) == 0)=false:=by rw [beq_eq_false_iff_ne];omega
 clear hA a0 a1 a2
 go_enter Tryz.func128,Tryz.ntmps128
 go_wp2_with fail
 go_ret2
 exact ⟨rfl,HB.out⟩
set_option maxHeartbeats 1000000 in
theorem reach_leave {A:Addr} {kv:Value} (hA:w.cell? A=some (.int .i64 0)) (hAb:A.block<w.heap.size) :
  Calls Tryz.prog 128 #[.agg #[.pointer (some A),kv],KL] w fun e w'=>e=.returned (.tuple #[.int .i64 0,.int .i64 0])∧Below w.heap.size w w':=by
 obtain ⟨a0,a1,a2⟩:=D.box1 w (Obj.cells #[.pointer (some A),kv] 189)
 have HB:=Lib.hid a1
 have HA0:=Lib.hid a0
 have HCA:=Lib.hid ((a1.cell hAb).trans hA)
 have hlt:A.block<(w.alloc (Obj.cells #[.pointer (some A),kv] 189)).heap.size∧w.heap.size<(w.alloc (Obj.cells #[.pointer (some A),kv] 189)).heap.size:=by omega
 clear hA a0 a1 a2
 go_enter Tryz.func128,Tryz.ntmps128
 go_upto_region 1 with fail
 generalize w.alloc (Obj.cells #[.pointer (some A),kv] 189)=W at *
 have cA:=HCA.out
 have cb:W.cell? ⟨w.heap.size,0,none⟩=some (.pointer (some A)):=cell_of_row _ _ 0 _ _ _ HA0.out
 have cb1:W.cell? ⟨w.heap.size,1,none⟩=some kv:=cell_of_row _ _ 1 _ _ _ HA0.out
 go_upto_region 2 with fail
 clear cA cb cb1
 go_wp2_with (first | (refine D.wpList_load_row rfl 189 _ rfl w.heap.size rfl _ _ _ HA0.out _ Tryz.underlying189 rfl s193 ?_) | fail)
 refine (leave_yes A kv _).mono ?_
 rintro e w2 ⟨rfl,hb⟩
 have HB2:=Lib.hid (HB.out.trans (hb.mono HB.out.size))
 have cA:=(hb.cell (p:=A) hlt.1).trans HCA.out
 have cb:w2.cell? ⟨w.heap.size,0,none⟩=some (.pointer (some A)):=cell_of_row _ _ 0 _ _ _ ((hb.block _ hlt.2).trans HA0.out)
 clear hb
 go_wp2_with fail
 go_ret2
 exact ⟨rfl,HB2.out⟩
set_option maxHeartbeats 1000000 in
theorem reach_zero {A:Addr} {kv:Value} {n:Nat} {P P':World→Prop} (hA:w.cell? A=some (.int .i64 0)) (hAb:A.block<w.heap.size)
  (hT:Calls Tryz.prog 93 #[.pointer (some ⟨bf,0,none⟩),.agg #[.pointer (some A),kv]] (w.alloc (.cells #[.pointer (some A),kv] 189)) fun e w'=>(e=.returned (.int .i64 0)∧w'.cell? A=some (.int .i64 (n:Int))∧w'.heap[w.heap.size]?=some (.cells #[.pointer (some A),kv] 189 (0,0))∧P w')∨(e=.returned (.int .i64 10)∧P' w')) :
  Calls Tryz.prog 128 #[.agg #[.pointer (some A),kv],KT bf] w fun e w'=>(e=.returned (.tuple #[.int .i64 (n:Int),.int .i64 0])∧P w')∨(e=.returned (.tuple #[.int .i64 0,.int .i64 10])∧P' w'):=by
 obtain ⟨a0,a1,a2⟩:=D.box1 w (Obj.cells #[.pointer (some A),kv] 189)
 have HA0:=Lib.hid a0
 have HCA:=Lib.hid ((a1.cell hAb).trans hA)
 have HT:=Lib.hid hT
 clear hA a0 a1 a2 hT
 go_enter Tryz.func128,Tryz.ntmps128
 go_upto_region 1 with fail
 generalize w.alloc (Obj.cells #[.pointer (some A),kv] 189)=W at *
 have cA:=HCA.out
 have cb:W.cell? ⟨w.heap.size,0,none⟩=some (.pointer (some A)):=cell_of_row _ _ 0 _ _ _ HA0.out
 go_upto_region 2 with fail
 clear cA cb
 go_wp2_with (first | (refine D.wpList_load_row rfl 189 _ rfl w.heap.size rfl _ _ _ HA0.out _ Tryz.underlying189 rfl s193 ?_) | fail)
 refine HT.out.mono ?_
 rintro e w2 (⟨rfl,hc,hr,hp⟩ | ⟨rfl,hp⟩)
 ·have HP:=Lib.hid hp
  have cb:w2.cell? ⟨w.heap.size,0,none⟩=some (.pointer (some A)):=cell_of_row _ _ 0 _ _ _ hr
  clear hr hp
  go_wp2_with fail
  go_ret2
  exact .inl ⟨rfl,HP.out⟩
 ·have HP:=Lib.hid hp
  clear hp
  go_wp2_with fail
  go_ret2
  exact .inr ⟨rfl,HP.out⟩
def Nu (y y':D.Nn):Prop:=y'.k=y.k∧y'.l=y.l∧y'.g=y.g∧y'.s=y.s∧y'.c=y.c
theorem Nu.refl (y:D.Nn):Nu y y:=⟨rfl,rfl,rfl,rfl,rfl⟩
theorem Nu.trans {a b c:D.Nn} (h:Nu a b) (k:Nu b c):Nu a c:=⟨k.1.trans h.1,k.2.1.trans h.2.1,k.2.2.1.trans h.2.2.1,k.2.2.2.1.trans h.2.2.2.1,k.2.2.2.2.trans h.2.2.2.2⟩
structure Rch (w0 w:World) (p d N q bf nn:Nat) (O:List Nat) (s:DS) (X:Secs2) (m:List Wr) (G:Nat→Prop) (y:D.Nn) (f:Nat→Nat) (C:Nat→UInt8) (low:List Int) (Tx:List Nat) (S:List Nat) (is:List Nat) (f':Nat→Nat) (w':World):Prop where
 op:∃ m' y',Op w0 w' p d N q bf nn O s X m' G y' f' C low Tx∧Fr f' (view X m) (view X m')∧Nu y y'
 ext:Ext f f'
 new:∀ k,f' k≠0→f k≠0∨k∈is
 chg:Chg S w w'
structure Rno (w0 w:World) (p d N q bf nn:Nat) (O:List Nat) (s:DS) (X:Secs2) (m:List Wr) (G:Nat→Prop) (f:Nat→Nat) (C:Nat→UInt8) (low:List Int) (Tx:List Nat) (S:List Nat) (is:List Nat) (f':Nat→Nat) (w':World):Prop where
 op:∃ m' y',Op w0 w' p d N q bf nn O s X m' G y' f' C low Tx∧Fr f' (view X m) (view X m')∧K.first (view X m' 34) 43 (N - 43)=none
 ext:Ext f f'
 new:∀ k,f' k≠0→f k≠0∨k∈is
 chg:Chg S w w'
 lack:∃ k∈is,f' k=0
theorem Op.rch (h:Op w0 w p d N q bf nn O s X m G y f C low Tx) (hb:Below w.heap.size w w') (S is:List Nat):Rch w0 w p d N q bf nn O s X m G y f C low Tx S is f w' :=
 ⟨⟨m,y,h.below hb,Fr.refl _ _,Nu.refl y⟩,Ext.refl _,fun k hk=>.inl hk,Chg.of_below hb⟩
theorem reach_top {i:Nat} (h:Op w0 w p d N q bf nn O s X m G y f C low Tx) (hi:i<6) (hx:i∈Tx) :
  Calls Tryz.prog 128 #[.agg #[.pointer (some ⟨bf,7+i,none⟩),K0],KT bf] w fun e w'=>(∃ f',e=.returned (.tuple #[.int .i64 (f' i:Nat),.int .i64 0])∧f' i≠0∧Rch w0 w p d N q bf nn O s X m G y f C low Tx [q,bf] [i] f' w')∨(e=.returned (.tuple #[.int .i64 0,.int .i64 10])∧∃ f',Rno w0 w p d N q bf nn O s X m G f C low Tx [q,bf] [i] f' w'):=by
 have hc:=h.fil.ptr hi
 rw [h.mid.rep.top i hi] at hc
 by_cases h0:f i=0
 ·rw [h0] at hc
  have hb:=D.box_below w (Obj.cells #[.pointer (some ⟨bf,7+i,none⟩),K0] 189)
  have hr:(w.alloc (Obj.cells #[.pointer (some ⟨bf,7+i,none⟩),K0] 189)).heap[w.heap.size]?=some (.cells #[.pointer (some ⟨bf,7+i,none⟩),K0] 189 (0,0)):=(D.box1 w _).1
  have h1:=h.below hb
  cases hf:K.first (view X m 34) 43 (N - 43) with
  | none =>
   refine (reach_zero (n:=0) (P:=fun _=>False) (P':=fun w'=>Below w.heap.size w w') hc h.fil.lt ((take_none h1 hf).mono ?_)).mono ?_
   ·rintro e w' ⟨rfl,hb'⟩
    exact .inr ⟨rfl,hb.trans (hb'.mono hb.size)⟩
   ·rintro e w' (⟨_,hp⟩ | ⟨rfl,hb'⟩)
    ·exact hp.elim
    ·exact .inr ⟨rfl,f,⟨m,y,h.below hb',Fr.refl _ _,hf⟩,Ext.refl _,fun k hk=>.inl hk,Chg.of_below hb',i,by simp,h0⟩
  | some n =>
   have hn:=K.first_some hf
   refine (reach_zero (n:=n) (P:=fun w'=>Rch w0 w p d N q bf nn O s X m G y f C low Tx [q,bf] [i] (upd f i n) w') (P':=fun _=>False) hc h.fil.lt ((take_topP h1 hf hi hx h0).mono ?_)).mono ?_
   ·rintro e w' ⟨rfl,m',ho,hfr,hch⟩
    have hcc:=ho.fil.ptr hi
    rw [ho.mid.rep.top i hi,upd_at] at hcc
    have hql:=h.sto.map.lt
    have hbl:=h.fil.lt
    refine .inl ⟨rfl,hcc,(hch.block w.heap.size (by simp) (by simp;omega)).trans hr,⟨m',_,ho,hfr,setp_nums y i n⟩,Ext.upd h0,fun k hk=>?_,(Chg.of_below hb).tr hch⟩
    by_cases e:k=i
    ·right;simp [e]
    ·left;rwa [upd_ne _ e] at hk
   ·rintro e w' (⟨rfl,hp⟩ | ⟨_,hp⟩)
    ·exact .inl ⟨upd f i n,by rw [upd_at],by rw [upd_at];omega,hp⟩
    ·exact hp.elim
 ·refine (reach_some hc h.fil.lt h0).mono ?_
  rintro e w' ⟨rfl,hb⟩
  exact .inl ⟨f,rfl,h0,h.rch hb _ _⟩
theorem reach_sub {pp j L b1 b2 b3:Nat} (h:Op w0 w p d N q bf nn O s X m G y f C low Tx) (hp:isPx pp) (hj:j<8) (hx:kid pp j∈Tx) (hx0:pp∈Tx) (hfp:f pp≠0)
  (hs:SubAt w bf (f pp) (fun i=>f (kid pp i)) L b1 b2 b3) (hLO:L∉O) (hLp:L≠p) (hLq:L≠q) (hLf:L≠bf) (hL0:w0.heap.size≤L) :
  Calls Tryz.prog 128 #[.agg #[.pointer (some ⟨L,j,none⟩),K1 b1 b2 b3],KT bf] w fun e w'=>(∃ f',e=.returned (.tuple #[.int .i64 (f' (kid pp j):Nat),.int .i64 0])∧f' (kid pp j)≠0∧Rch w0 w p d N q bf nn O s X m G y f C low Tx [q,L] [kid pp j] f' w'∧w'.cell? ⟨L,j,none⟩=some (.int .i64 (f' (kid pp j):Nat)))∨(e=.returned (.tuple #[.int .i64 0,.int .i64 10])∧∃ f',Rno w0 w p d N q bf nn O s X m G f C low Tx [q,L] [kid pp j] f' w'):=by
 have hLl:L<w.heap.size:=(Array.getElem?_eq_some_iff.1 hs.lst).1
 have hcl:∀ {W:World} {g:Nat→Nat},Lst W L g→W.cell? ⟨L,j,none⟩=some (.int .i64 (g j:Int)):=fun hl=>(T.cell_in hl j).trans (by simp [pl_get _ hj,T.iv])
 have hc:=hcl hs.lst
 by_cases h0:f (kid pp j)=0
 ·rw [h0] at hc
  have hb:=D.box_below w (Obj.cells #[.pointer (some ⟨L,j,none⟩),K1 b1 b2 b3] 189)
  have hr:(w.alloc (Obj.cells #[.pointer (some ⟨L,j,none⟩),K1 b1 b2 b3] 189)).heap[w.heap.size]?=some (.cells #[.pointer (some ⟨L,j,none⟩),K1 b1 b2 b3] 189 (0,0)):=(D.box1 w _).1
  have h1:=h.below hb
  cases hf:K.first (view X m 34) 43 (N - 43) with
  | none =>
   refine (reach_zero (n:=0) (P:=fun _=>False) (P':=fun w'=>Below w.heap.size w w') hc hLl ((take_none h1 hf).mono ?_)).mono ?_
   ·rintro e w' ⟨rfl,hb'⟩
    exact .inr ⟨rfl,hb.trans (hb'.mono hb.size)⟩
   ·rintro e w' (⟨_,hp⟩ | ⟨rfl,hb'⟩)
    ·exact hp.elim
    ·exact .inr ⟨rfl,f,⟨m,y,h.below hb',Fr.refl _ _,hf⟩,Ext.refl _,fun k hk=>.inl hk,Chg.of_below hb',_,by simp,h0⟩
  | some n =>
   have hn:=K.first_some hf
   refine (reach_zero (n:=n) (P:=fun w'=>Rch w0 w p d N q bf nn O s X m G y f C low Tx [q,L] [kid pp j] (upd f (kid pp j) n) w'∧w'.cell? ⟨L,j,none⟩=some (.int .i64 (n:Int))) (P':=fun _=>False) hc hLl ((take_subP h1 hf hp hj hx hx0 h0 hfp (hs.below hb) hLO hLp hLq hLf hL0).mono ?_)).mono ?_
   ·rintro e w' ⟨rfl,m',ho,hfr,hch,hlst⟩
    have hcc:=hcl hlst
    simp only [upd_at] at hcc
    have hql:=h.sto.map.lt
    refine .inl ⟨rfl,hcc,(hch.block w.heap.size (by simp) (by simp;omega)).trans hr,⟨⟨m',_,ho,hfr,Nu.refl y⟩,Ext.upd h0,fun k hk=>?_,(Chg.of_below hb).tr hch⟩,hcc⟩
    by_cases e:k=kid pp j
    ·right;simp [e]
    ·left;rwa [upd_ne _ e] at hk
   ·rintro e w' (⟨rfl,hp,hcc⟩ | ⟨_,hp⟩)
    ·exact .inl ⟨upd f (kid pp j) n,by rw [upd_at],by rw [upd_at];omega,hp,by rw [upd_at];exact hcc⟩
    ·exact hp.elim
 ·refine (reach_some hc hLl h0).mono ?_
  rintro e w' ⟨rfl,hb⟩
  exact .inl ⟨f,rfl,h0,h.rch hb _ _,(hb.cell (p:=⟨L,j,none⟩) hLl).trans hc⟩
end
end Go.Proofs.YtkganhafbjgndaaGreatRR.V
