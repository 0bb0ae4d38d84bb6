/- How many sectors a change holds; an entry written, a node's sectors given back: the store beside the tree. -/
import Derived.Test.YtkganhafbjgndaaGreatRRZVn
import Derived.Test.YtkganhafbjgndaaGreatRRZWa
import Derived.Test.YtkganhafbjgndaaGreatRRZEb
import Derived.Test.YtkganhafbjgndaaGreatRRZNAll
namespace Go.Proofs.YtkganhafbjgndaaGreatRR.V
open Go.RowKit
set_option linter.unusedVariables false
set_option maxRecDepth 20000
def kb:List Int:=[0,34,35,36,37,38,39,40,41,42]
theorem kb_node {n:Nat} (h:n<32):((35+n / 4:Nat):Int)∈kb:=by
 have:n / 4<8:=by omega
 generalize n / 4=j at *
 have:j=0∨j=1∨j=2∨j=3∨j=4∨j=5∨j=6∨j=7:=by omega
 rcases this with rfl | rfl | rfl | rfl | rfl | rfl | rfl | rfl<;>decide
def KS (k:Nat) (m:List Wr):Prop:=∃ E:List Int,E.length≤k∧∀ x∈keys m,x∈kb++E
theorem KS.nil:KS 0 []:=⟨[],Nat.le_refl _,fun x hx=>absurd hx (by simp [keys])⟩
theorem KS.mono {k k':Nat} {m:List Wr} (h:KS k m) (hk:k≤k'):KS k' m:=by
 obtain ⟨E,h1,h2⟩:=h
 exact ⟨E,by omega,h2⟩
theorem KS.sub {k:Nat} {m m':List Wr} (h:KS k m) (hs:∀ x∈keys m',x∈kb∨x∈keys m):KS k m':=by
 obtain ⟨E,h1,h2⟩:=h
 exact ⟨E,h1,fun x hx=>(hs x hx).elim (fun h=>List.mem_append_left _ h) (h2 x)⟩
theorem KS.len {k N:Nat} {m:List Wr} (h:KS k m) (hm:MOk N m):m.length≤10+k:=by
 obtain ⟨E,h1,h2⟩:=h
 have:=nodup_len (keys_nodup hm.rise) h2
 rw [List.length_append] at this
 have e:(keys m).length=m.length:=by simp [keys]
 have:kb.length=10:=rfl
 omega
section
variable {w0 w w':World} {p d Ns q ep g i c:Nat} {O:List Nat} {s:DS} {X:Secs2} {m:List Wr} {y:Nat→D.Nn} {f:Nat→Nat→Nat} {C:Nat→Nat→UInt8} {t:N.Tr} {A:Option Addr} {M:Nat→Prop} {r:N.Rw} {ex:Nat→Int}
def EntQ2 (w0 w:World) (p d Ns q ep g i k:Nat) (O:List Nat) (s:DS) (X:Secs2) (t:N.Tr) (nn:Nat) (r:N.Rw) (er:Int) (w':World):Prop :=
 (er=0∧∃ m' y' f' C',Sto w0 w' p d O Ns s X q m'∧Nds Ns ep g (view X m') y' f' C'∧Like (N.setT t nn i r) y' f' C'∧KS (k+3) m'∧Chg [q] w w') ∨
 (er=10∧i=(t.nd nn).rows.length∧Ns - 43 - secsT t<3∧secsT t<secsT (N.setT t nn i r)∧(∃ m2,Sto w0 w' p d O Ns s X q m2)∧Chg [q] w w')
def EntP2 (w0 w:World) (p d Ns q ep g i k:Nat) (O:List Nat) (s:DS) (X:Secs2) (t:N.Tr) (nn:Nat) (r:N.Rw) (e:Ending) (w':World):Prop:=∃ er,e=.returned (.int .i64 er)∧EntQ2 w0 w p d Ns q ep g i k O s X t nn r er w'
theorem Nds.ent2 {nn k:Nat} (h:Nds Ns ep g (view X m) y f C) (hl:Like t y f C) (ht:N.WFx t ex) (hs:Sto w0 w p d O Ns s X q m) (hn1:1≤nn) (hnn:nn<32) (hk:(t.nd nn).k=2) (hi:i≤(t.nd nn).rows.length) (h9:32 * i+32≤9728) (hr:N.RowOk t r) (hd:Bts w M A 32 c (N.encR r)) (hM:∀ b,M b→b<w.heap.size∧b≠q)
  (hks:KS k m) (hkl:k≤11):Calls Tryz.prog 17 #[.pointer (some ⟨p,0,none⟩),.int .i64 nn,.int .i64 ((32 * i:Nat):Int),.slice A 32 c] w (EntP2 w0 w p d Ns q ep g i k O s X t nn r):=by
 have hx:=hl nn hn1 hnn
 have hyk:(y nn).k=2:=hx.k.trans hk
 have hys:(y nn).s=32 * (t.nd nn).rows.length:=by rw [hx.s];exact if_pos hk
 have htx:=tx_row i
 have hlen:∀ z∈(t.nd nn).rows,(N.encR z).length=32:=fun z hz=>N.encR_len (ht.row nn hnn z hz)
 have hrl:=N.encR_len hr
 have hmax:max (y nn).s (32 * i+32) % 32=0:=by rw [hys];omega
 obtain ⟨E,hE1,hE2⟩:=hks
 refine (h.write hs (low:=kb++E) (Tx:=tx (32 * i) 32) (a:=32 * i) (n:=32) hn1 hnn (by omega) ⟨fun x hx=>.inl (hE2 x hx),by rw [List.length_append];have:kb.length=10:=rfl;omega,List.mem_append_left _ (by decide)⟩ (List.mem_append_left _ (kb_node hnn)) (by omega) h9 hd hM (tx_mem _ _) fun _=>hmax).mono ?_
 have hb1:∀ b,blkT (t.nd nn) b=decide (128 * b<32 * (t.nd nn).rows.length):=fun b=>if_pos hk
 have hpl:=N.puts_len (t.nd nn).rows i r
 have hb2:∀ b,blkT { t.nd nn with rows:=N.puts (t.nd nn).rows i r,c:=N.more (t.nd nn).c } b=wrG (blkT (t.nd nn)) (32 * i) 32 ((32 * i+32 - 1) / 128+1 - 32 * i / 128) b:=fun b=>by
  rw [show blkT { t.nd nn with rows:=N.puts (t.nd nn).rows i r,c:=N.more (t.nd nn).c } b=decide (128 * b<32 * (N.puts (t.nd nn).rows i r).length) from if_pos hk,← blk_entry (t.nd nn).rows.length i _ hi hpl b]
  unfold wrG
  rw [hb1]
 rintro e w' (⟨rfl,m',y',f',h1,h2,h3,h4,h5,h6,h7⟩ | ⟨rfl,⟨bf,m2,hno⟩,hc⟩)
 ·refine ⟨_,rfl,.inl ⟨rfl,m',_,_,_,h1,h2,hl.put (hx.entry hk hi hlen hrl (by rw [h3]) h4 h5),⟨E++(tx (32 * i) 32).map fun j=>((f' j:Nat):Int),by rw [List.length_append,List.length_map];omega,fun x hx=>?_⟩,h7⟩⟩
  have:=h6.sub x hx
  rw [← List.append_assoc]
  exact this
 ·have h64:=hs.n64
  obtain ⟨e1,e2⟩:=h.few hno hn1 hnn (by omega) hx.blk (by omega) h9 h64
  have hf:=h.fl nn hn1 hnn (by omega)
  have e3:sct (wrG (blkT (t.nd nn)) (32 * i) 32 ((32 * i+32 - 1) / 128+1 - 32 * i / 128))≤nzn (f nn)+3:=by
   rw [fW_sct hf.mid hf.min hx.blk (by omega)]
   refine Nat.le_trans (nzn_le (T:=tx (32 * i) 32) fun k hk=>((fW_nz (f nn) (32 * i) 32 k).1 hk).imp id fun ⟨b,⟨t1,t2,t3⟩,hb⟩=>?_) (by omega)
   obtain ⟨j,hj,rfl⟩:=touch (by omega) t2 t3
   exact tx_mem _ _ j hj k hb
  have e4:sct (blkT { t.nd nn with rows:=N.puts (t.nd nn).rows i r,c:=N.more (t.nd nn).c })=sct (wrG (blkT (t.nd nn)) (32 * i) 32 ((32 * i+32 - 1) / 128+1 - 32 * i / 128)):=sct_congr fun b _=>hb2 b
  have e5:=secsT_put t hn1 hnn { t.nd nn with rows:=N.puts (t.nd nn).rows i r,c:=N.more (t.nd nn).c }
  have e6:secN (t.nd nn)=sct (blkT (t.nd nn)):=if_neg (by omega)
  have e7:secN { t.nd nn with rows:=N.puts (t.nd nn).rows i r,c:=N.more (t.nd nn).c }=sct (blkT { t.nd nn with rows:=N.puts (t.nd nn).rows i r,c:=N.more (t.nd nn).c }):=if_neg (by show (t.nd nn).k≠0;omega)
  have e8:=tot_secs h hl
  rw [e6,e7,e4] at e5
  rw [e8] at e1
  refine ⟨_,rfl,.inr ⟨rfl,?_,by omega,?_,⟨_,hno.choose_spec.choose_spec.choose_spec.choose_spec.1.sto⟩,hc⟩⟩
  ·refine Decidable.byContradiction fun hne=>?_
   have:sct (wrG (blkT (t.nd nn)) (32 * i) 32 ((32 * i+32 - 1) / 128+1 - 32 * i / 128))=sct (blkT (t.nd nn)):=sct_congr fun b _=>by
    rw [← hb2 b,hb1,show blkT { t.nd nn with rows:=N.puts (t.nd nn).rows i r,c:=N.more (t.nd nn).c } b=decide (128 * b<32 * (N.puts (t.nd nn).rows i r).length) from if_pos hk,hpl,if_pos (by omega)]
   omega
  ·show secsT t<secsT (t.put nn _)
   omega
theorem Nds.cut0 {nn k:Nat} (h:Nds Ns ep g (view X m) y f C) (hs:Sto w0 w p d O Ns s X q m) (hn1:1≤nn) (hnn:nn<32) (hk:(y nn).k≠0) (hks:KS k m) (hkl:k≤14) :
  Calls Tryz.prog 110 #[.pointer (some ⟨p,0,none⟩),.int .i64 nn,.int .i64 0] w fun e w'=>e=.returned (.int .i64 0)∧∃ m' y',Sto w0 w' p d O Ns s X q m'∧Nds Ns ep g (view X m') (sett y nn y') (sett f nn fun _=>0) (sett C nn fun _=>0)∧KS k m'∧Chg [q] w w':=by
 obtain ⟨E,hE1,hE2⟩:=hks
 refine (trunc_yes (size:=0) (B:=0) (low:=kb++E) (Tx:=[]) hs (h.fl nn hn1 hnn hk) hnn ⟨fun x hx=>.inl (hE2 x hx),by rw [List.length_append];have:kb.length=10:=rfl;simp;omega,List.mem_append_left _ (by decide)⟩ (List.mem_append_left _ (kb_node hnn)) (by omega) rfl
  (fun p hp h0=>absurd (by rw [cutF_nil]) h0) (fun i _ h0=>by omega) fun _=>rfl).mono ?_
 rintro e w' ⟨rfl,m',y',ha,hy,hkp⟩
 have h2:=h.aft hn1 hnn hk hs.n64 ha (by rw [hkp.1];exact hk)
 rw [cutF_nil,cutC_zero] at h2
 refine ⟨rfl,m',y',ha.sto,h2,⟨E,hE1,fun x hx=>?_⟩,ha.chg⟩
 have:=ha.bud.sub x hx
 simpa using this
end
end Go.Proofs.YtkganhafbjgndaaGreatRR.V
namespace Go.Proofs.YtkganhafbjgndaaGreatRR.V
open Go.RowKit
set_option linter.unusedVariables false
set_option maxRecDepth 20000
def Wy (w:World) (B:Nat) (v:Value) (dir:Nat):Prop:=∃ ws j,OwnI w B v ws∧ws.length=j+1∧ws[j]?=some (dir:Int)∧j≤100
section
variable {w0 w w':World} {p d Ns q ep n B dir:Nat} {O:List Nat} {s:DS} {X:Secs2} {m:List Wr} {y:Nat→D.Nn} {f:Nat→Nat→Nat} {C:Nat→Nat→UInt8} {t:N.Tr} {ex:Nat→Int} {v:Value} {k:Nat}
theorem Wy.keep (h:Wy w B v dir) (hk:∀ b,B≤b→b<w.heap.size→w'.heap[b]?=w.heap[b]?):Wy w' B v dir:=by
 obtain ⟨ws,j,h1,h2,h3,h4⟩:=h
 exact ⟨ws,j,T.ownsRow_keep h1 fun b hb=>hk b (World.ownsRow.lt h1 b hb).1 (World.ownsRow.lt h1 b hb).2,h2,h3,h4⟩
theorem Wy.below (h:Wy w B v dir) (hb:Below w.heap.size w w'):Wy w' B v dir:=h.keep fun b _ hlt=>hb.block b hlt
theorem Wy.chg (h:Wy w B v dir) (hc:Chg [q] w w') (hq:q<B):Wy w' B v dir:=h.keep fun b hb hlt=>hc.block b hlt (by simp;omega)
theorem Wy.dir_ (h:Wy w B v dir) (nm:ByteArray) (k:Int) (pp:Option Addr):Calls Tryz.prog 61 #[.agg #[.pointer pp,v,.string nm,.int .i64 k]] w fun e w'=>e=.returned (.int .i64 (dir:Int))∧Below w.heap.size w w':=by
 obtain ⟨ws,j,h1,h2,h3,h4⟩:=h
 exact dir_any h1 h2 h3 h4
theorem Wy.slice (h:Wy w B v dir):∃ g n c,v=.slice (some ⟨g,0,none⟩) n c∧g<w.heap.size:=by
 obtain ⟨ws,j,h1,h2,h3,h4⟩:=h
 obtain ⟨g,c,rfl,_,hg,_⟩:=ownI_slice h1 (fun e=>by rw [e] at h2;simp at h2)
 exact ⟨g,_,c,rfl,hg⟩
theorem enc_row {r:N.Rw} (hr:N.RowOk t r) (w:World):Calls Tryz.prog 108 #[.agg #[.string (E.bs r.1),.int .i64 r.2]] w fun e w'=>∃ g,e=.returned (.tuple #[.slice (some ⟨g,0,none⟩) 32 32,.int .i64 0])∧Bts w' (fun b=>b=g) (some ⟨g,0,none⟩) 32 32 (N.encR r)∧w.heap.size≤g∧g<w'.heap.size∧Below w.heap.size w w':=by
 have h:=E.enc_any r.1 r.2 w
 have he:E.enc (r.1,r.2)=some (N.encR r):=enc_eN hr
 rw [he] at h
 refine h.mono ?_
 rintro e w' ⟨g,rfl,hb,hg,hbel⟩
 obtain ⟨b,off,e1,e2,e3⟩:=hb.at_ (by decide)
 cases e1
 have hl:=hb.len
 refine ⟨g,rfl,⟨hb.len,hb.cap,hb.lim,fun _=>⟨g,0,rfl,rfl,fun j x hx=>?_⟩⟩,hg,e2,hbel⟩
 have hj:j<(N.encR r).length:=by
  have:=(List.getElem?_eq_some_iff.1 hx).1
  rwa [bc_len] at this
 rw [bc_get hj] at hx
 cases hx
 exact e3 j (by omega)
theorem EntQ2.from_ {w0 w W w':World} {p d Ns q ep g i k:Nat} {O:List Nat} {s:DS} {X:Secs2} {t:N.Tr} {nn:Nat} {r:N.Rw} {er:Int} (hb:Below w.heap.size w W) (h:EntQ2 w0 W p d Ns q ep g i k O s X t nn r er w'):EntQ2 w0 w p d Ns q ep g i k O s X t nn r er w' :=
 h.imp (fun ⟨e,m',y',f',C',a1,a2,a3,a4,a5⟩=>⟨e,m',y',f',C',a1,a2,a3,a4,(Chg.of_below hb).tr a5⟩) fun ⟨e,a1,a2,a3,a4,a5⟩=>⟨e,a1,a2,a3,a4,(Chg.of_below hb).tr a5⟩
theorem EntQ2.chg {w0 w w':World} {p d Ns q ep g i k:Nat} {O:List Nat} {s:DS} {X:Secs2} {t:N.Tr} {nn:Nat} {r:N.Rw} {er:Int} (h:EntQ2 w0 w p d Ns q ep g i k O s X t nn r er w'):Chg [q] w w':=by
 rcases h with ⟨_,_,_,_,_,_,_,_,_,a⟩ | ⟨_,_,_,_,_,a⟩<;>exact a
set_option maxHeartbeats 4000000 in
theorem put_yes {i:Nat} {r:N.Rw} (h:St w0 w p d Ns q ep O s X m y f C t) (ht:N.WFx t ex) (hw:Wy w B v dir) (hn1:1≤dir) (hnn:dir<32) (hk:(t.nd dir).k=2) (hi:i≤(t.nd dir).rows.length) (h9:32 * i+32≤9728) (hr:N.RowOk t r) (hks:KS k m) (hkl:k≤11) (nm:ByteArray) (kk:Int) :
  Calls Tryz.prog 62 #[.agg #[.pointer (some ⟨p,0,none⟩),v,.string nm,.int .i64 kk],.int .i64 (i:Int),.agg #[.string (E.bs r.1),.int .i64 r.2]] w (EntP2 w0 w p d Ns q ep t.gens i k O s X t dir r):=by
 have HEN:=Lib.hid (enc_row hr)
 have HWR:Hid (∀ w' g,Below w.heap.size w w'→Bts w' (fun b=>b=g) (some ⟨g,0,none⟩) 32 32 (N.encR r)→g<w'.heap.size→w.heap.size≤g→Calls Tryz.prog 17 #[.pointer (some ⟨p,0,none⟩),.int .i64 dir,.int .i64 ((32 * i:Nat):Int),.slice (some ⟨g,0,none⟩) 32 32] w' (EntP2 w0 w' p d Ns q ep t.gens i k O s X t dir r)):=fun w' g hb hbt hg hg0=>by
  have hq:=h.sto.map.lt
  exact h.nds.ent2 h.like ht (h.sto.below hb) hn1 hnn hk hi h9 hr hbt (fun b e=>by rw [e];omega) hks hkl
 have hqq:=h.sto.map.lt
 have HW:=Lib.hid hw
 obtain ⟨vg,vn,vc,rfl,hvg⟩:=hw.slice
 have e32:((32 * i:Nat):Int)=32 * (i:Int):=by omega
 have hw1:IntKind.i64.wrap ((i:Int) * 32)=32 * (i:Int):=by rw [IntKind.wrap_i64];omega
 clear h ht hw hk hr hks hkl hi
 obtain ⟨rn,rx⟩:=r
 dsimp only at HEN
 obtain ⟨bts,hbts⟩:∃ b,N.encR (rn,rx)=b:=⟨_,rfl⟩
 rw [hbts] at HEN HWR
 clear hbts
 obtain ⟨a0,a1,a2,a3⟩:=D.box2 w (Obj.cells (plc (some ⟨p,0,none⟩) (.slice (some ⟨vg,0,none⟩) vn vc) nm kk) 56) (Obj.cells #[.string (E.bs rn),.int .i64 rx] 121)
 have A0:=Lib.hid a0
 have A2:=Lib.hid a2
 have A3:=Lib.hid a3
 clear a0 a1 a2 a3
 go_enter Tryz.func62,Tryz.ntmps62
 go_wp2_with fail
 refine (HEN.out _).mono ?_
 rintro e w1 ⟨g,rfl,hbt,hg0,hg1,hb⟩
 have hg00:w.heap.size≤g:=Nat.le_trans A2.out.size hg0
 have hs1:w.heap.size<w1.heap.size:=Nat.lt_of_lt_of_le (by rw [A3.out];omega) hb.size
 have B0:=Lib.hid ((hb.block w.heap.size (by rw [A3.out];omega)).trans A0.out)
 have HB:=Lib.hid (A2.out.trans (hb.mono A2.out.size))
 have HSC:Hid (∀ W,Below w1.heap.size w1 W→W.cell? ⟨w.heap.size,0,none⟩=some (.pointer (some ⟨p,0,none⟩))∧W.cell? ⟨w.heap.size,1,none⟩=some (.slice (some ⟨vg,0,none⟩) vn vc)∧W.cell? ⟨w.heap.size,2,none⟩=some (.string nm)∧W.cell? ⟨w.heap.size,3,none⟩=some (.int .i64 kk)):=fun W hW=>by
  have:=(hW.block w.heap.size hs1).trans B0.out
  exact ⟨cell_of_row _ _ 0 _ _ _ this,cell_of_row _ _ 1 _ _ _ this,cell_of_row _ _ 2 _ _ _ this,cell_of_row _ _ 3 _ _ _ this⟩
 have HWY:Hid (∀ W,Below w1.heap.size w1 W→Wy W B (.slice (some ⟨vg,0,none⟩) vn vc) dir):=fun W hW=>(HW.out.below HB.out).below hW
 have HW2:Hid (∀ W,Below w1.heap.size w1 W→Calls Tryz.prog 17 #[.pointer (some ⟨p,0,none⟩),.int .i64 dir,.int .i64 (32 * (i:Int)),.slice (some ⟨g,0,none⟩) 32 32] W fun e w'=>∃ er,e=.returned (.int .i64 er)∧EntQ2 w0 w p d Ns q ep t.gens i k O s X t dir (rn,rx) er w'∧(w'.cell? ⟨w.heap.size,0,none⟩=some (.pointer (some ⟨p,0,none⟩))∧w'.cell? ⟨w.heap.size,1,none⟩=some (.slice (some ⟨vg,0,none⟩) vn vc)∧w'.cell? ⟨w.heap.size,2,none⟩=some (.string nm)∧w'.cell? ⟨w.heap.size,3,none⟩=some (.int .i64 kk))):=fun W hW=>by
  have hbw:Below w.heap.size w W:=HB.out.trans (hW.mono HB.out.size)
  rw [← e32]
  refine (HWR.out W g hbw ⟨hbt.len,hbt.cap,hbt.lim,fun h0=>?_⟩ (Nat.lt_of_lt_of_le hg1 hW.size) hg00).mono ?_
  ·obtain ⟨b,off,e1,rfl,e3⟩:=hbt.at_ h0
   exact ⟨b,off,e1,rfl,rangeAt_of_heap e3 (hW.block b hg1)⟩
  ·rintro e w' ⟨er,rfl,hq⟩
   have:=(hq.chg.block w.heap.size (Nat.lt_of_lt_of_le hs1 hW.size) (by simp;omega)).trans ((hW.block w.heap.size hs1).trans B0.out)
   exact ⟨er,rfl,hq.from_ hbw,cell_of_row _ _ 0 _ _ _ this,cell_of_row _ _ 1 _ _ _ this,cell_of_row _ _ 2 _ _ _ this,cell_of_row _ _ 3 _ _ _ this⟩
 clear hb hbt e32
 go_upto_region 4 with fail
 go_region_held3 (fun W=>W.cell? ⟨w.heap.size,0,none⟩=some (.pointer (some ⟨p,0,none⟩))∧W.cell? ⟨w.heap.size,1,none⟩=some (.slice (some ⟨vg,0,none⟩) vn vc)∧W.cell? ⟨w.heap.size,2,none⟩=some (.string nm)∧W.cell? ⟨w.heap.size,3,none⟩=some (.int .i64 kk)) (first | with_reducible exact HSC.out _ (Below.refl _ _).drew | with_reducible exact HS3.out | with_reducible exact HSC.out _ HB1.out)
  (first
  | (go_at_call 61;(refine ((HWY.out _ (Below.refl _ _).drew).dir_ _ _ _).mono ?_);rintro e w2 ⟨rfl,hb⟩;have HB1:Hid (Below w1.heap.size w1 w2):=(Below.refl _ w1).drew.trans hb;clear hb)
  | (go_at_call 17;(with_reducible refine (HW2.out _ HB1.out).mono ?_);rintro e w3 ⟨er,rfl,hq,hsc⟩;have HQ:=Lib.hid hq;have HS3:=Lib.hid hsc;clear hq hsc))
 go_wp2_with fail
 go_ret
 exact ⟨er,rfl,HQ.out⟩
set_option maxHeartbeats 4000000 in
theorem come_yes {nm:N.Nm} (h:St w0 w p d Ns q ep O s X m y f C t) (ht:N.WFx t ex) (hw:Wy w B v dir) (hn1:1≤dir) (hnn:dir<32) (hk:(t.nd dir).k=2) (hf:N.fullT t dir=false) (hr:N.RowOk t (nm,(n:Int))) (hks:KS k m) (hkl:k≤11) (kk:Int) :
  Calls Tryz.prog 25 #[.agg #[.pointer (some ⟨p,0,none⟩),v,.string (E.bs nm),.int .i64 kk],.int .i64 (n:Int)] w (EntP2 w0 w p d Ns q ep t.gens (N.place (t.nd dir).rows) k O s X t dir (nm,(n:Int))):=by
 have hqq:=h.sto.map.lt
 have hpl:=N.place_le (t.nd dir).rows
 have hlen:=ht.len dir hnn
 have h9:32 * N.place (t.nd dir).rows+32≤9728:=by
  unfold N.fullT at hf
  have:=of_decide_eq_false hf
  omega
 have HPT:Hid (∀ W,Below w.heap.size w W→Calls Tryz.prog 62 #[.agg #[.pointer (some ⟨p,0,none⟩),v,.string (E.bs nm),.int .i64 kk],.int .i64 (N.place (t.nd dir).rows:Int),.agg #[.string (E.bs nm),.int .i64 (n:Int)]] W fun e w'=>∃ er,e=.returned (.int .i64 er)∧EntQ2 w0 w p d Ns q ep t.gens (N.place (t.nd dir).rows) k O s X t dir (nm,(n:Int)) er w'∧Chg [q] W w'):=fun W hb=>by
  refine (put_yes (h.below hb) ht (hw.below hb) hn1 hnn hk hpl h9 hr hks hkl (E.bs nm) kk).mono ?_
  rintro e w' ⟨er,rfl,hq⟩
  exact ⟨er,rfl,hq.from_ hb,hq.chg⟩
 have HEN:Hid (∀ W,Below w.heap.size w W→Calls Tryz.prog 60 #[.pointer (some ⟨p,0,none⟩),.int .i64 dir] W (EntsP W (t.nd dir).rows)):=fun W hb=>ents_dir (h.below hb) ht hn1 hnn hk
 have HPL:Hid (E.place (t.nd dir).rows=N.place (t.nd dir).rows):=place_dir ht hnn
 have HLN:Hid ((t.nd dir).rows.length≤304):=hlen
 clear hpl hlen h9 hr hf
 generalize (t.nd dir).rows=rs at *
 have HW:=Lib.hid hw
 obtain ⟨vg,vn,vc,rfl,hvg⟩:=hw.slice
 obtain ⟨a0,a1,a2⟩:=D.box1 w (Obj.cells (plc (some ⟨p,0,none⟩) (.slice (some ⟨vg,0,none⟩) vn vc) (E.bs nm) kk) 56)
 have A0:=Lib.hid a0
 have A1:=Lib.hid a1
 have hs1:w.heap.size<(w.alloc (Obj.cells (plc (some ⟨p,0,none⟩) (.slice (some ⟨vg,0,none⟩) vn vc) (E.bs nm) kk) 56)).heap.size:=by rw [a2];omega
 clear h ht hw hk hks hkl a0 a1 a2
 go_enter Tryz.func25,Tryz.ntmps25
 go_upto_region 1 with fail
 generalize w.alloc (Obj.cells (plc (some ⟨p,0,none⟩) (.slice (some ⟨vg,0,none⟩) vn vc) (E.bs nm) kk) 56)=w1 at *
 have HSC:Hid (∀ W,Below w1.heap.size w1 W→W.cell? ⟨w.heap.size,0,none⟩=some (.pointer (some ⟨p,0,none⟩))∧W.cell? ⟨w.heap.size,1,none⟩=some (.slice (some ⟨vg,0,none⟩) vn vc)∧W.cell? ⟨w.heap.size,2,none⟩=some (.string (E.bs nm))∧W.cell? ⟨w.heap.size,3,none⟩=some (.int .i64 kk)):=fun W hW=>by
  have:=(hW.block w.heap.size hs1).trans A0.out
  exact ⟨cell_of_row _ _ 0 _ _ _ this,cell_of_row _ _ 1 _ _ _ this,cell_of_row _ _ 2 _ _ _ this,cell_of_row _ _ 3 _ _ _ this⟩
 have HWY:Hid (∀ W,Below w1.heap.size w1 W→Wy W B (.slice (some ⟨vg,0,none⟩) vn vc) dir):=fun W hW=>(HW.out.below A1.out).below hW
 have HAB:Hid (∀ W,Below w1.heap.size w1 W→Below w.heap.size w W):=fun W hW=>A1.out.trans (hW.mono A1.out.size)
 clear A1 HW
 go_region_held3 (fun W=>W.cell? ⟨w.heap.size,0,none⟩=some (.pointer (some ⟨p,0,none⟩))∧W.cell? ⟨w.heap.size,1,none⟩=some (.slice (some ⟨vg,0,none⟩) vn vc)∧W.cell? ⟨w.heap.size,2,none⟩=some (.string (E.bs nm))∧W.cell? ⟨w.heap.size,3,none⟩=some (.int .i64 kk)) (first | with_reducible exact HSC.out _ (Below.refl _ _).drew | with_reducible exact HSC.out _ HB1.out)
  (first
  | (go_at_call 61;(refine ((HWY.out _ (Below.refl _ _).drew).dir_ _ _ _).mono ?_);rintro e w2 ⟨rfl,hb⟩;have HB1:Hid (Below w1.heap.size w1 w2):=(Below.refl _ w1).drew.trans hb;clear hb)
  | (go_at_call 60;(with_reducible refine (HEN.out _ (HAB.out _ HB1.out)).mono ?_);rintro e w3 ⟨v2,rfl,ho,hb⟩;have HO:=Lib.hid ho;have hs2:=HB1.out.size;replace HB1:=Lib.hid (HB1.out.trans (hb.mono hs2));clear hb ho))
 obtain ⟨A,c,hv2,hr⟩:=E.OwnR.rws HO.out
 have HR:=Lib.hid hr
 clear hr
 subst hv2
 have HSC2:Hid (∀ W,Below w3.heap.size w3 W→W.cell? ⟨w.heap.size,0,none⟩=some (.pointer (some ⟨p,0,none⟩))∧W.cell? ⟨w.heap.size,1,none⟩=some (.slice (some ⟨vg,0,none⟩) vn vc)∧W.cell? ⟨w.heap.size,2,none⟩=some (.string (E.bs nm))∧W.cell? ⟨w.heap.size,3,none⟩=some (.int .i64 kk)):=fun W hW=>HSC.out W (HB1.out.trans (hW.mono HB1.out.size))
 have HPC:Hid (∀ W,Below w3.heap.size w3 W→Calls Tryz.prog 63 #[.slice A rs.length c] W fun e w'=>e=.returned (.int .i64 (N.place rs:Int))∧Below W.heap.size W w'):=fun W hW=>by
  have:=E.place_any (HR.out.below hW) (Nat.le_trans (Nat.le_refl _) hW.size)
  rwa [HPL.out] at this
 have HPT2:Hid (∀ W,Below w3.heap.size w3 W→Calls Tryz.prog 62 #[.agg #[.pointer (some ⟨p,0,none⟩),.slice (some ⟨vg,0,none⟩) vn vc,.string (E.bs nm),.int .i64 kk],.int .i64 (N.place rs:Int),.agg #[.string (E.bs nm),.int .i64 (n:Int)]] W fun e w'=>∃ er,e=.returned (.int .i64 er)∧EntQ2 w0 w p d Ns q ep t.gens (N.place rs) k O s X t dir (nm,(n:Int)) er w'∧(w'.cell? ⟨w.heap.size,0,none⟩=some (.pointer (some ⟨p,0,none⟩))∧w'.cell? ⟨w.heap.size,1,none⟩=some (.slice (some ⟨vg,0,none⟩) vn vc)∧w'.cell? ⟨w.heap.size,2,none⟩=some (.string (E.bs nm))∧w'.cell? ⟨w.heap.size,3,none⟩=some (.int .i64 kk))):=fun W hW=>by
  have h13:Below w1.heap.size w1 W:=HB1.out.trans (hW.mono HB1.out.size)
  refine (HPT.out W (HAB.out W h13)).mono ?_
  rintro e w' ⟨er,rfl,hq,hc⟩
  have:=(hc.block w.heap.size (Nat.lt_of_lt_of_le hs1 h13.size) (by simp;omega)).trans ((h13.block w.heap.size hs1).trans A0.out)
  exact ⟨er,rfl,hq,cell_of_row _ _ 0 _ _ _ this,cell_of_row _ _ 1 _ _ _ this,cell_of_row _ _ 2 _ _ _ this,cell_of_row _ _ 3 _ _ _ this⟩
 clear HSC HWY HPT HEN HB1 HR HO HAB A0
 go_upto_region 4 with fail
 go_region_held3 (fun W=>W.cell? ⟨w.heap.size,0,none⟩=some (.pointer (some ⟨p,0,none⟩))∧W.cell? ⟨w.heap.size,1,none⟩=some (.slice (some ⟨vg,0,none⟩) vn vc)∧W.cell? ⟨w.heap.size,2,none⟩=some (.string (E.bs nm))∧W.cell? ⟨w.heap.size,3,none⟩=some (.int .i64 kk)) (first | with_reducible exact HSC2.out _ (Below.refl _ _).drew | with_reducible exact HS5.out | with_reducible exact HSC2.out _ HB2.out)
  (first
  | (go_at_call 63;(with_reducible refine (HPC.out _ (Below.refl _ _).drew).mono ?_);rintro e w4 ⟨rfl,hb⟩;have HB2:Hid (Below w3.heap.size w3 w4):=(Below.refl _ w3).drew.trans hb;clear hb)
  | (go_at_call 62;(with_reducible refine (HPT2.out _ HB2.out).mono ?_);rintro e w5 ⟨er,rfl,hq,hsc⟩;have HQ:=Lib.hid hq;have HS5:=Lib.hid hsc;clear hq hsc))
 go_wp2_with fail
 go_ret
 exact ⟨er,rfl,HQ.out⟩
def LvQ (w0 w:World) (p d Ns q ep k:Nat) (O:List Nat) (s:DS) (X:Secs2) (t':N.Tr) (e:Ending) (w':World):Prop :=
 e=.returned (.int .i64 0)∧∃ m' y' f' C',St w0 w' p d Ns q ep O s X m' y' f' C' t'∧KS k m'∧Chg [q] w w'
set_option maxHeartbeats 4000000 in
theorem nleave_yes {nm:N.Nm} {i:Nat} (h:St w0 w p d Ns q ep O s X m y f C t) (ht:N.WFx t ex) (hw:Wy w B v dir) (hn1:1≤dir) (hnn:dir<32) (hk:(t.nd dir).k=2) (hf:N.find (t.nd dir).rows nm=some i) (hks:KS k m) (hkl:k≤11) (kk:Int) :
  Calls Tryz.prog 65 #[.agg #[.pointer (some ⟨p,0,none⟩),v,.string (E.bs nm),.int .i64 kk]] w (LvQ w0 w p d Ns q ep (k+3) O s X (N.removeT t dir nm)):=by
 have hlen:=ht.len dir hnn
 obtain ⟨_,r0,hr0,_⟩:=N.find_some hf
 have hil:=(List.getElem?_eq_some_iff.1 hr0).1
 have HPT:Hid (∀ W,Below w.heap.size w W→Calls Tryz.prog 62 #[.agg #[.pointer (some ⟨p,0,none⟩),v,.string (E.bs nm),.int .i64 kk],.int .i64 (i:Int),.agg #[.string (E.bs []),.int .i64 0]] W (LvQ w0 w p d Ns q ep (k+3) O s X (N.removeT t dir nm))):=fun W hb=>by
  refine (put_yes (r:=N.emp) (h.below hb) ht (hw.below hb) hn1 hnn hk (by omega) (by omega) (.inl rfl) hks hkl (E.bs nm) kk).mono ?_
  rintro e w' ⟨er,rfl,⟨rfl,m',y',f',C',a1,a2,a3,a4,a5⟩ | ⟨_,e1,_⟩⟩
  ·rw [N.remove_eq hf]
   exact ⟨rfl,m',y',f',C',⟨a1,a2,a3⟩,a4,(Chg.of_below hb).tr a5⟩
  ·omega
 have HEN:Hid (∀ W,Below w.heap.size w W→Calls Tryz.prog 60 #[.pointer (some ⟨p,0,none⟩),.int .i64 dir] W (EntsP W (t.nd dir).rows)):=fun W hb=>ents_dir (h.below hb) ht hn1 hnn hk
 have HFD:Hid (E.find (t.nd dir).rows nm=some i):=hf
 clear hlen hf hr0 hil
 generalize (t.nd dir).rows=rs at *
 have HW:=Lib.hid hw
 obtain ⟨vg,vn,vc,rfl,hvg⟩:=hw.slice
 obtain ⟨a0,a1,a2⟩:=D.box1 w (Obj.cells (plc (some ⟨p,0,none⟩) (.slice (some ⟨vg,0,none⟩) vn vc) (E.bs nm) kk) 56)
 have A0:=Lib.hid a0
 have A1:=Lib.hid a1
 have hs1:w.heap.size<(w.alloc (Obj.cells (plc (some ⟨p,0,none⟩) (.slice (some ⟨vg,0,none⟩) vn vc) (E.bs nm) kk) 56)).heap.size:=by rw [a2];omega
 clear h ht hw hk hks hkl a0 a1 a2
 go_enter Tryz.func65,Tryz.ntmps65
 go_upto_region 1 with fail
 generalize w.alloc (Obj.cells (plc (some ⟨p,0,none⟩) (.slice (some ⟨vg,0,none⟩) vn vc) (E.bs nm) kk) 56)=w1 at *
 have HSC:Hid (∀ W,Below w1.heap.size w1 W→W.cell? ⟨w.heap.size,0,none⟩=some (.pointer (some ⟨p,0,none⟩))∧W.cell? ⟨w.heap.size,1,none⟩=some (.slice (some ⟨vg,0,none⟩) vn vc)∧W.cell? ⟨w.heap.size,2,none⟩=some (.string (E.bs nm))∧W.cell? ⟨w.heap.size,3,none⟩=some (.int .i64 kk)):=fun W hW=>by
  have:=(hW.block w.heap.size hs1).trans A0.out
  exact ⟨cell_of_row _ _ 0 _ _ _ this,cell_of_row _ _ 1 _ _ _ this,cell_of_row _ _ 2 _ _ _ this,cell_of_row _ _ 3 _ _ _ this⟩
 have HWY:Hid (∀ W,Below w1.heap.size w1 W→Wy W B (.slice (some ⟨vg,0,none⟩) vn vc) dir):=fun W hW=>(HW.out.below A1.out).below hW
 have HAB:Hid (∀ W,Below w1.heap.size w1 W→Below w.heap.size w W):=fun W hW=>A1.out.trans (hW.mono A1.out.size)
 clear A0 A1 HW
 go_region_held3 (fun W=>W.cell? ⟨w.heap.size,0,none⟩=some (.pointer (some ⟨p,0,none⟩))∧W.cell? ⟨w.heap.size,1,none⟩=some (.slice (some ⟨vg,0,none⟩) vn vc)∧W.cell? ⟨w.heap.size,2,none⟩=some (.string (E.bs nm))∧W.cell? ⟨w.heap.size,3,none⟩=some (.int .i64 kk)) (first | with_reducible exact HSC.out _ (Below.refl _ _).drew | with_reducible exact HSC.out _ HB1.out)
  (first
  | (go_at_call 61;(refine ((HWY.out _ (Below.refl _ _).drew).dir_ _ _ _).mono ?_);rintro e w2 ⟨rfl,hb⟩;have HB1:Hid (Below w1.heap.size w1 w2):=(Below.refl _ w1).drew.trans hb;clear hb)
  | (go_at_call 60;(with_reducible refine (HEN.out _ (HAB.out _ HB1.out)).mono ?_);rintro e w3 ⟨v2,rfl,ho,hb⟩;have HO:=Lib.hid ho;have hs2:=HB1.out.size;replace HB1:=Lib.hid (HB1.out.trans (hb.mono hs2));clear hb ho))
 obtain ⟨A,c,hv2,hr⟩:=E.OwnR.rws HO.out
 have HR:=Lib.hid hr
 clear hr
 subst hv2
 have HPT2:Hid (∀ W,Below w3.heap.size w3 W→Calls Tryz.prog 62 #[.agg #[.pointer (some ⟨p,0,none⟩),.slice (some ⟨vg,0,none⟩) vn vc,.string (E.bs nm),.int .i64 kk],.int .i64 (i:Int),.agg #[.string (E.bs []),.int .i64 0]] W (LvQ w0 w p d Ns q ep (k+3) O s X (N.removeT t dir nm))):=fun W hW=>HPT.out W (HAB.out W (HB1.out.trans (hW.mono HB1.out.size)))
 have HC3:=Lib.hid (HSC.out w3 HB1.out)
 have HSC3:Hid (∀ W,Below w3.heap.size w3 W→W.cell? ⟨w.heap.size,0,none⟩=some (.pointer (some ⟨p,0,none⟩))∧W.cell? ⟨w.heap.size,1,none⟩=some (.slice (some ⟨vg,0,none⟩) vn vc)∧W.cell? ⟨w.heap.size,2,none⟩=some (.string (E.bs nm))∧W.cell? ⟨w.heap.size,3,none⟩=some (.int .i64 kk)):=fun W hW=>HSC.out W (HB1.out.trans (hW.mono HB1.out.size))
 clear HSC HWY HPT HEN HB1 HO HAB
 obtain ⟨_,_,c2,_⟩:=HC3.out
 go_wp2_with fail
 refine (E.find_any nm HR.out (Nat.le_refl _)).mono ?_
 rintro e w4 he
 rw [HFD.out] at he
 obtain ⟨rfl,hb⟩:=he
 obtain ⟨c0,c1,c2',c3⟩:=HSC3.out w4 hb
 have HP4:=Lib.hid (HPT2.out w4 hb)
 clear hb c2 HC3 HSC3 HPT2 HR
 go_wp2_with fail
 refine HP4.out.mono ?_
 rintro e w5 ⟨rfl,hq⟩
 have HQ:=Lib.hid hq
 clear hq
 go_wp2_with fail
 go_ret
 exact ⟨rfl,HQ.out⟩
end
end Go.Proofs.YtkganhafbjgndaaGreatRR.V
namespace Go.Proofs.YtkganhafbjgndaaGreatRR.N
set_option linter.unusedVariables false
def Flat (t:Tr):Prop:=∀ n,1<n→n<32→(t.nd n).k≠2
theorem flat_above {t:Tr} {ex:Nat→Int} {q:List Nm × Int} (h:WFx t ex) (hf:Flat t) (he:(aboveT t q).err=0):∃ s,q=([s],0)∧(aboveT t q).dir=1∧(aboveT t q).name=s:=by
 have hA:=above_of h he
 have hd:q.1.dropLast=[]:=by
  cases hc:q.1.dropLast with
  | nil=>rfl
  | cons a l =>
   exfalso
   have hw:=hA.way
   rw [hc] at hw
   obtain ⟨h1,h2,h3⟩:=names_cons hw
   have hx:=names_dir _ _ h3 hA.dk
   rcases (step_of h (by omega) h1).2 with ⟨_,e⟩ | ⟨i,k,_,_,e,k1,k2,_⟩
   ·exact h2 e
   ·rw [e] at hx
    exact hf k k1 k2 hx
 have hl:=hA.lst
 have hw:=hA.way
 rw [hd] at hl hw
 refine ⟨(aboveT t q).name,?_,(congrArg Prod.fst hw).symm,rfl⟩
 have h2:=hA.ok
 rw [List.nil_append] at hl
 exact Prod.ext hl h2
def nr (k l g c:Nat):Nod:=⟨k,l,g,c,[],[],fun _=>false⟩
def dr (c:Nat) (rows:List Rw):Nod:=⟨2,1,0,c,rows,[],fun _=>false⟩
def tw (g:Nat) (a b:Nod):Tr:=⟨g,fun i=>if i=1 then a else if i=2 then b else none_⟩
theorem tr0_tw:tr0=tw 0 (dr 0 []) none_:=by
 unfold tr0 tw
 congr 1
 funext i
 by_cases h1:i=1
 ·rw [if_pos h1,if_pos h1];rfl
 ·rw [if_neg h1,if_neg h1]
  split<;>rfl
section
variable {g:Nat} {a b x:Nod} {s s':Nm}
theorem tw1:(tw g a b).nd 1=a:=rfl
theorem tw2:(tw g a b).nd 2=b:=rfl
theorem tw_ne {i:Nat} (h1:i≠1) (h2:i≠2):(tw g a b).nd i=none_:=(if_neg h1).trans (if_neg h2)
theorem put1:(tw g a b).put 1 x=tw g x b:=by
 unfold Tr.put tw sett
 congr 1
 funext i
 by_cases h1:i=1
 ·simp only [h1,if_true]
 ·simp only [h1,if_false]
theorem put2:(tw g a b).put 2 x=tw g a x:=by
 unfold Tr.put tw sett
 congr 1
 funext i
 by_cases h1:i=1
 ·subst h1;rfl
 ·by_cases h2:i=2
  ·subst h2;rfl
  ·simp only [h1,h2,if_false]
theorem free2 (ha:a.k=2) (hb:b.k=0):freeT (tw g a b)=some 2:=by
 unfold freeT
 rw [show List.range 32=0 :: 1 :: 2 :: (List.range 29).map (·+3) from rfl]
 rw [List.find?_cons_of_neg (by simp),List.find?_cons_of_neg (by simp [tw1,ha]),List.find?_cons_of_pos (by simp [tw2,hb])]
theorem step1_none (ha:a.k=2) (hf:find a.rows s=none):stepT (tw g a b) 1 s=(0,0):=step_none ha hf
theorem step1_some (ha:a.k=2) {i k:Nat} (hf:find a.rows s=some i) (hr:a.rows[i]?=some (s,(k:Int))):stepT (tw g a b) 1 s=(k,0):=by
 unfold stepT
 rw [tw1,if_neg (fun e=>e ha),hf]
 simp only
 rw [hr]
 rfl
theorem above1_none (ha:a.k=2) (hf:find a.rows s=none):aboveT (tw g a b) ([s],0)=⟨1,s,0,0⟩:=above_eq (l:=[]) rfl rfl rfl (step1_none ha hf)
theorem above1_some (ha:a.k=2) {i k:Nat} (hf:find a.rows s=some i) (hr:a.rows[i]?=some (s,(k:Int))):aboveT (tw g a b) ([s],0)=⟨1,s,k,0⟩:=above_eq (l:=[]) rfl rfl rfl (step1_some ha hf hr)
theorem walk1_some (ha:a.k=2) {i k:Nat} (hf:find a.rows s=some i) (hr:a.rows[i]?=some (s,(k:Int))) (hk:k≠0):walkT (tw g a b) ([s],0)=(k,0):=by
 rw [walk_eq (q:=([s],0)) (l:=[]) rfl rfl rfl (step1_some ha hf hr),if_neg hk]
theorem full1 (hl:a.rows.length≤10):fullT (tw g a b) 1=false:=by
 unfold fullT
 rw [tw1]
 exact decide_eq_false fun ⟨_,h⟩=>by omega
theorem make_tw {k:Int} (ha:a.k=2) (hb:b.k=0) (hg:g<1073741824) (hf:find a.rows s=none) (hl:a.rows.length≤10) (hk:k=1∨k=2) :
  makeT (tw g a b) ([s],0) k=(tw (g+1) { a with rows:=puts a.rows (place a.rows) (s,2),c:=more a.c } (nr k.toNat 1 (g+1) (more b.c)),⟨2,g+1,k.toNat,1,0,more b.c⟩,0):=by
 have e1:=above1_none (g:=g) (b:=b) ha hf
 unfold makeT
 rw [if_neg (by omega),e1]
 simp only
 rw [if_neg (by decide),if_neg (by decide),free2 ha hb]
 simp only
 rw [if_neg (by show ¬ 1073741824≤g;omega),full1 hl,if_neg (by decide)]
 have e2:(addT (tw g a b) 1 s 2).put 2 ⟨k.toNat,1,(tw g a b).gens+1,more ((tw g a b).nd 2).c,[],[],fun _=>false⟩=tw g { a with rows:=puts a.rows (place a.rows) (s,2),c:=more a.c } (nr k.toNat 1 (g+1) (more b.c)):=by
  rw [show addT (tw g a b) 1 s 2=tw g { a with rows:=puts a.rows (place a.rows) (s,2),c:=more a.c } b from put1]
  exact put2
 rw [e2]
 rcases hk with rfl | rfl<;>rfl
theorem rm_tw {i:Nat} (ha:a.k=2) (hb:b.k=1) (hf:find a.rows s=some i) (hr:a.rows[i]?=some (s,((2:Nat):Int))) :
  rmT (tw g a b) ([s],0)=(tw g { a with rows:=puts a.rows i emp,c:=more a.c } (if b.l=1 then nr 0 0 b.g (more b.c) else { b with l:=b.l - 1,c:=more b.c }),stT (tw g a b) 2,0):=by
 have e1:=above1_some (g:=g) (b:=b) ha hf hr
 unfold rmT
 rw [e1]
 simp only
 rw [if_neg (by decide),if_neg (by decide),tw2,if_neg (by omega)]
 have e2:removeT (tw g a b) 1 s=tw g { a with rows:=puts a.rows i emp,c:=more a.c } b:=by rw [remove_eq hf];exact put1
 rw [e2]
 unfold unlinkT
 rw [put2]
 rfl
theorem link_tw {i:Nat} (ha:a.k=2) (hb:b.k=1) (hf:find a.rows s=some i) (hr:a.rows[i]?=some (s,((2:Nat):Int))) (hn:find a.rows s'=none) (hl:a.rows.length≤10) (h255:b.l<255) :
  linkT (tw g a b) ([s],0) ([s'],0)=(tw g { a with rows:=puts a.rows (place a.rows) (s',2),c:=more a.c } { b with l:=b.l+1,c:=more b.c },⟨2,b.g,1,b.l+1,b.dat.length,more b.c⟩,0):=by
 have e1:=above1_none (g:=g) (b:=b) ha hn
 have e0:=walk1_some (g:=g) (b:=b) ha hf hr (by decide)
 unfold linkT
 rw [e0,e1]
 simp only
 rw [if_neg (by decide),tw2,if_neg (by omega),if_neg (by decide),if_neg (by decide),if_neg (by omega),full1 hl,if_neg (by decide)]
 have e2:addT (tw g a b) 1 s' 2=tw g { a with rows:=puts a.rows (place a.rows) (s',2),c:=more a.c } b:=put1
 rw [e2,tw2,put2]
 unfold stT sizeT
 rw [tw2]
 simp only
 rw [if_neg (by omega),hb]
theorem look_tw {i:Nat} (ha:a.k=2) (hf:find a.rows s=some i) (hr:a.rows[i]?=some (s,((2:Nat):Int))):lookT (tw g a b) ([s],0)=(stT (tw g a b) 2,0):=look_yes (walk1_some ha hf hr (by decide))
theorem by_tw_yes (hb:b.k≠0):byT (tw g a b) 2 (b.g:Int)=(stT (tw g a b) 2,0):=by
 unfold byT
 rw [if_pos ⟨by decide,by decide,by rw [show (2:Int).toNat=2 from rfl,tw2];exact hb,by rw [show (2:Int).toNat=2 from rfl,tw2]⟩]
 rfl
theorem by_tw_no {gg:Int} (hb:b.k=0∨(b.g:Int)≠gg):byT (tw g a b) 2 gg=(st0,18):=by
 unfold byT
 rw [if_neg]
 rintro ⟨_,_,h1,h2⟩
 rw [show (2:Int).toNat=2 from rfl,tw2] at h1 h2
 rcases hb with h | h
 ·exact h1 h
 ·exact h h2
end
theorem find_one {s:Nm} {x:Int} (h:s≠[]):find [(s,x)] s=some 0:=by
 unfold find
 rw [if_neg h,List.findIdx?_cons]
 simp
theorem find_emp (s:Nm):find [emp] s=none:=by
 unfold find
 split
 ·rfl
 ·rename_i h
  rw [List.findIdx?_cons,if_neg (by simp [emp];exact h)]
  rfl
theorem find_two {s s':Nm} {x y:Int} (h:s≠[]) (h':s'≠[]) (hne:s≠s'):find [(s,x),(s',y)] s=some 0∧find [(s,x),(s',y)] s'=some 1∧find [emp,(s',y)] s'=some 1∧find [(s,x)] s'=none:=by
 unfold find
 rw [if_neg h,if_neg h']
 simp [List.findIdx?_cons,hne,emp,h',Ne.symm h']
end Go.Proofs.YtkganhafbjgndaaGreatRR.N
namespace Go.Proofs.YtkganhafbjgndaaGreatRR.V
open Go.RowKit
set_option linter.unusedVariables false
set_option maxRecDepth 20000
def stv (x:N.St):Array Value:=#[.int .i64 (x.n:Int),.int .i64 (x.g:Int),.int .i64 (x.k:Int),.int .i64 (x.l:Int),.int .i64 (x.s:Int),.int .i64 (x.c:Int)]
theorem stv_size (x:N.St):(Tryz.prog.info? 28).map (·.size)=some (stv x).size:=by kernel_rfl
theorem stv_one (x:N.St):(stv x).all (·.oneCell')=true:=by kernel_rfl
section
variable {w0 w w':World} {p d Ns q ep n B dir:Nat} {O:List Nat} {s:DS} {X:Secs2} {m:List Wr} {y:Nat→D.Nn} {f:Nat→Nat→Nat} {C:Nat→Nat→UInt8} {t:N.Tr} {ex:Nat→Int} {v:Value} {k:Nat}
theorem stc_stv (h:St w0 w p d Ns q ep O s X m y f C t) (h1:1≤n) (h2:n<32):stc (n:Int) (y n).up=stv (N.stT t n):=by
 have hx:=h.like n h1 h2
 unfold stc stv N.stT
 simp only [D.Nn.up]
 rw [hx.g,hx.k,hx.l,hx.s,hx.c]
theorem nst_any (h:St w0 w p d Ns q ep O s X m y f C t) (h1:1≤n) (h2:n<32):Calls Tryz.prog 26 #[.pointer (some ⟨p,0,none⟩),.int .i64 n] w fun e w'=>e=.returned (.tuple #[.agg (stv (N.stT t n)),.int .i64 0])∧Below w.heap.size w w':=by
 have HN:=Lib.hid (fun w' (hb:Below w.heap.size w w')=>(h.below hb).node h1 h2)
 have HS:=Lib.hid (stc_stv h h1 h2)
 clear h
 generalize N.stT t n=sv at *
 generalize y n=yn at *
 obtain ⟨a0,a1,a2⟩:=D.box1 w (Obj.cells z6 28)
 have A0:=Lib.hid a0
 have A1:=Lib.hid a1
 clear a0 a1 a2
 go_enter Tryz.func26,Tryz.ntmps26
 go_wp2_with fail
 refine (HN.out _ A1.out).mono ?_
 rintro e w1 ⟨rfl,hb⟩
 have G1:=Lib.hid ((hb.block w.heap.size (by simp)).trans A0.out)
 have hlt1:w.heap.size<w1.heap.size:=Nat.lt_of_lt_of_le (by simp) hb.size
 have HB1:=Lib.hid (A1.out.trans (hb.mono (by simp)))
 obtain ⟨b0,b1,b2⟩:=D.box1 w1 (Obj.cells (D.nc yn.up).toArray 66)
 have B0:=Lib.hid b0
 have G2:=Lib.hid ((b1.block w.heap.size hlt1).trans G1.out)
 have HB2:=Lib.hid (HB1.out.trans (b1.mono HB1.out.size))
 clear hb b0 b1 b2
 go_upto_region 4 with (first | (refine wpList_store_new rfl 66 _ _ rfl w1 D.z11 (D.nc yn.up).toArray rfl rfl s47 rfl (all_oneCell_toArray (D.nc_one _)) ?_) | fail)
 have hWs:w.heap.size<(w1.alloc (Obj.cells (D.nc yn.up).toArray 66)).heap.size:=Nat.lt_of_lt_of_le hlt1 (by simp)
 generalize w1.alloc (Obj.cells (D.nc yn.up).toArray 66)=W at *
 go_wp2_with (first | (refine D.wpList_load_row rfl 66 _ rfl w1.heap.size rfl _ _ _ B0.out _ Tryz.underlying66 rfl s47 ?_) | fail)
 refine (nstat_any (n:Int) yn.up W).mono ?_
 rintro e w2 ⟨rfl,hb⟩
 have G3:=Lib.hid ((hb.block w.heap.size hWs).trans G2.out)
 have HB3:=Lib.hid (HB2.out.trans (hb.mono HB2.out.size))
 clear hb
 rw [HS.out]
 go_wp2_with (first | (refine D.wpList_store_row rfl 28 _ _ rfl w.heap.size z6 (stv sv) 28 rfl rfl G3.out (stv_size sv) rfl (stv_one sv) ?_) | fail)
 refine bodyPost_ret (D.ret_row2 rfl rfl (D.setRow_in _ _ _ (stv sv) _ G3.out) Tryz.underlying28 rfl (stv_size sv)) rfl ?_
 exact ⟨rfl,below_setRow HB3.out (Nat.le_refl _) _⟩
theorem nlink_yes {l':Nat} {mr:Int} (h:St w0 w p d Ns q ep O s X m y f C t) (h1:1≤n) (h2:n<32) (hk:(t.nd n).k=1) (hl':((t.nd n).l:Int)+mr=(l':Int)) (l1:1≤l') (l2:l'≤255) (hks:KS k m) (hkl:k≤13) :
  Calls Tryz.prog 31 #[.pointer (some ⟨p,0,none⟩),.int .i64 n,.agg (D.nc (y n).up).toArray,.int .i64 mr] w (LvQ w0 w p d Ns q ep k O s X (t.put n { t.nd n with l:=l',c:=N.more (t.nd n).c })):=by
 have hx:=h.like n h1 h2
 have hyc:=(ok_nums (h.nds.img n h1 h2).2).2
 have hcm:N.more (t.nd n).c≤1073741824:=Nat.min_le_right _ _
 have hlen:=hks.len h.sto.mok
 have HSN:Hid (∀ W,Below w.heap.size w W→Calls Tryz.prog 71 #[.pointer (some ⟨p,0,none⟩),.int .i64 n,.agg (D.nc (lk (y n) l' (N.more (t.nd n).c)).up).toArray] W (LvQ w0 w p d Ns q ep k O s X (t.put n { t.nd n with l:=l',c:=N.more (t.nd n).c }))):=fun W hb=>by
  refine (h.nds.setLinks h.like (h.sto.below hb) h1 h2 hk l1 l2 hcm (by omega)).mono ?_
  rintro e w' ⟨rfl,m',a1,a2,a3,a4,a5⟩
  refine ⟨rfl,m',_,_,_,⟨a1,a2,a3⟩,hks.sub fun x hx=>?_,(Chg.of_below hb).tr a5⟩
  rcases a4 x hx with rfl | hx
  ·exact .inl (kb_node h2)
  ·exact .inr hx
 have HC:Hid (N.more (t.nd n).c=min ((y n).c+1) 1073741824):=by show _=_;unfold N.more;rw [hx.c]
 have hw1:IntKind.i64.wrap ((y n).up.l+mr)=(l':Int):=by
  rw [show (y n).up.l=((y n).l:Int) from rfl,hx.l,IntKind.wrap_i64]
  omega
 generalize N.more (t.nd n).c=c' at *
 generalize t.put n { t.nd n with l:=l',c:=c' }=t' at *
 clear h hx hk hl' hks hlen hcm
 generalize y n=yn at *
 obtain ⟨a0,a1,a2⟩:=D.box1 w (Obj.cells (D.nc yn.up).toArray 66)
 have A0:=Lib.hid a0
 have A1:=Lib.hid a1
 clear a0 a1 a2
 go_enter Tryz.func31,Tryz.ntmps31
 go_upto_region 1 with fail
 generalize w.alloc (Obj.cells (D.nc yn.up).toArray 66)=W at *
 have c1:W.cell? ⟨w.heap.size,1,none⟩=some (.int .i64 yn.up.l):=cell_of_row _ _ 1 _ _ _ A0.out
 have f1:W.frozen? ⟨w.heap.size,1,none⟩=false:=F.free_in A0.out 1
 have B0:Hid ((W.setCell ⟨w.heap.size,1,none⟩ (.int .i64 (l':Int))).heap[w.heap.size]?=some (.cells (D.nc { yn.up with l:=(l':Int) }).toArray 66 (0,0))):=F.heap_set A0.out 1 _
 have B1:=Lib.hid (A1.out.setCell (p:=⟨w.heap.size,1,none⟩) (Nat.le_refl _) (.int .i64 (l':Int)))
 go_upto_region 2 with fail
 clear c1 f1 hw1
 generalize W.setCell ⟨w.heap.size,1,none⟩ (.int .i64 (l':Int))=W1 at *
 go_wp2_with (first | (refine D.wpList_load_row rfl 66 _ rfl w.heap.size rfl _ _ _ B0.out _ Tryz.underlying66 rfl s47 ?_) | fail)
 refine (changed_any { yn.up with l:=(l':Int) } W1 ⟨by show (0:Int)≤(yn.c:Int);omega,by show (yn.c:Int)≤_;omega⟩).mono ?_
 rintro e w2 ⟨rfl,hb⟩
 have hlt:w.heap.size<W1.heap.size:=(Array.getElem?_eq_some_iff.1 B0.out).1
 have D0:=Lib.hid ((hb.block w.heap.size hlt).trans B0.out)
 have D1:=Lib.hid (B1.out.trans (hb.mono B1.out.size))
 clear hb
 have c4:w2.cell? ⟨w.heap.size,4,none⟩=some (.int .i64 yn.up.c):=cell_of_row _ _ 4 _ _ _ D0.out
 have f4:w2.frozen? ⟨w.heap.size,4,none⟩=false:=F.free_in D0.out 4
 have e4:min (({ yn.up with l:=(l':Int) }:D.Nd).c+1) 1073741824=(c':Int):=by
  rw [HC.out]
  show min ((yn.c:Int)+1) 1073741824=_
  omega
 rw [e4]
 clear e4
 have E0:Hid ((w2.setCell ⟨w.heap.size,4,none⟩ (.int .i64 (c':Int))).heap[w.heap.size]?=some (.cells (D.nc (lk yn l' c').up).toArray 66 (0,0))):=F.heap_set D0.out 4 _
 have E1:=Lib.hid (D1.out.setCell (p:=⟨w.heap.size,4,none⟩) (Nat.le_refl _) (.int .i64 (c':Int)))
 go_upto_region 3 with fail
 clear c4 f4
 generalize w2.setCell ⟨w.heap.size,4,none⟩ (.int .i64 (c':Int))=W2 at *
 go_wp2_with (first | (refine D.wpList_load_row rfl 66 _ rfl w.heap.size rfl _ _ _ E0.out _ Tryz.underlying66 rfl s47 ?_) | fail)
 refine (HSN.out W2 E1.out).mono ?_
 rintro e w3 ⟨rfl,hq⟩
 have HQ:=Lib.hid hq
 clear hq
 go_wp2_with fail
 go_ret
 exact ⟨rfl,HQ.out⟩
end
end Go.Proofs.YtkganhafbjgndaaGreatRR.V
namespace Go.Proofs.YtkganhafbjgndaaGreatRR.V
open Go.RowKit
set_option linter.unusedVariables false
set_option maxRecDepth 20000
section
variable {w0 w w':World} {p d Ns q ep n B dir:Nat} {O:List Nat} {s:DS} {X:Secs2} {m:List Wr} {y:Nat→D.Nn} {f:Nat→Nat→Nat} {C:Nat→Nat→UInt8} {t:N.Tr} {ex:Nat→Int} {v:Value} {k:Nat}
set_option maxHeartbeats 4000000 in
theorem release_yes (h:St w0 w p d Ns q ep O s X m y f C t) (h1:1<n) (h2:n<32) (hk:(t.nd n).k≠0) (hks:KS k m) (hkl:k≤13) :
  Calls Tryz.prog 66 #[.pointer (some ⟨p,0,none⟩),.int .i64 n,.agg (D.nc (y n).up).toArray] w (LvQ w0 w p d Ns q ep k O s X (t.put n (N.nr 0 0 (t.nd n).g (N.more (t.nd n).c)))):=by
 have hx:=h.like n (by omega) h2
 have hyg:=(ok_nums (h.nds.img n (by omega) h2).2).1
 have hyc:=(ok_nums (h.nds.img n (by omega) h2).2).2
 have hcm:N.more (t.nd n).c≤1073741824:=Nat.min_le_right _ _
 have hqq:=h.sto.map.lt
 have HC:Hid (N.more (t.nd n).c=min ((y n).c+1) 1073741824):=by show _=_;unfold N.more;rw [hx.c]
 have HG:Hid ((y n).g=(t.nd n).g):=hx.g
 have HTR:Hid (∀ W,Below w.heap.size w W→Calls Tryz.prog 110 #[.pointer (some ⟨p,0,none⟩),.int .i64 n,.int .i64 0] W fun e w1=>e=.returned (.int .i64 0)∧Chg [q] W w1∧∀ W',Below w1.heap.size w1 W' →
   Calls Tryz.prog 71 #[.pointer (some ⟨p,0,none⟩),.int .i64 n,.agg #[.int .i64 0,.int .i64 0,.int .i64 ((y n).g:Int),.int .i64 0,.int .i64 (N.more (t.nd n).c:Int),.int .i64 0,.int .i64 0,.int .i64 0,.int .i64 0,.int .i64 0,.int .i64 0]] W' fun e w2=>LvQ w0 w p d Ns q ep k O s X (t.put n (N.nr 0 0 (t.nd n).g (N.more (t.nd n).c))) e w2∧Chg [q] W' w2):=fun W hb=>by
  refine (h.nds.cut0 (h.sto.below hb) (by omega) h2 (by rw [hx.k];exact hk) hks (by omega)).mono ?_
  rintro e w1 ⟨rfl,m1,y1,a1,a2,a3,a4⟩
  refine ⟨rfl,a4,fun W' hb'=>?_⟩
  have hl1:=a3.len a1.mok
  have:=a2.setFree (t:=t) (g':=(t.nd n).g) (c:=N.more (t.nd n).c) (fun j j1 j2 j3=>by rw [sett_ne y _ j3,sett_ne f _ j3,sett_ne C _ j3];exact h.like j j1 j2) (a1.below hb') h1 h2 (by rw [← hx.g];exact hyg) hcm (by rw [sett_at]) (by omega)
  rw [HG.out]
  refine this.mono ?_
  rintro e w2 ⟨rfl,m2,b1,b2,b3,b4,b5⟩
  refine ⟨⟨rfl,m2,_,_,_,⟨b1,b2,b3⟩,a3.sub fun x hx=>?_,((Chg.of_below hb).tr a4).tr ((Chg.of_below hb').tr b5)⟩,b5⟩
  rcases b4 x hx with rfl | hx
  ·exact .inl (kb_node h2)
  ·exact .inr hx
 generalize N.more (t.nd n).c=c' at *
 generalize t.put n (N.nr 0 0 (t.nd n).g c')=t' at *
 clear h hx hk hks hyg hcm
 generalize y n=yn at *
 have HE4:Hid (min (yn.up.c+1) 1073741824=(c':Int)):=by
  show _=_
  rw [HC.out]
  show min ((yn.c:Int)+1) 1073741824=_
  omega
 obtain ⟨a0,a1,a2⟩:=D.box1 w (Obj.cells (D.nc yn.up).toArray 66)
 have A0:=Lib.hid a0
 have A1:=Lib.hid a1
 have hlt:w.heap.size<(w.alloc (Obj.cells (D.nc yn.up).toArray 66)).heap.size:=by rw [a2];omega
 clear a0 a1 a2
 go_enter Tryz.func66,Tryz.ntmps66
 go_upto_region 1 with fail
 generalize w.alloc (Obj.cells (D.nc yn.up).toArray 66)=W at *
 go_wp2_with fail
 refine (HTR.out W A1.out).mono ?_
 rintro e w1 ⟨rfl,hc,hsn⟩
 have B0:=Lib.hid ((hc.block w.heap.size hlt (by simp;omega)).trans A0.out)
 have hlt1:w.heap.size<w1.heap.size:=Nat.lt_of_lt_of_le hlt hc.size
 have HSN:=Lib.hid hsn
 clear hc hsn HTR
 have HSC:Hid (∀ W',Below w1.heap.size w1 W'→W'.cell? ⟨w.heap.size,0,none⟩=some (.int .i64 yn.up.k)∧W'.cell? ⟨w.heap.size,1,none⟩=some (.int .i64 yn.up.l)∧W'.cell? ⟨w.heap.size,2,none⟩=some (.int .i64 yn.up.g)∧W'.cell? ⟨w.heap.size,3,none⟩=some (.int .i64 yn.up.s)∧W'.cell? ⟨w.heap.size,4,none⟩=some (.int .i64 yn.up.c)∧W'.cell? ⟨w.heap.size,5,none⟩=some (.int .i64 yn.up.d0)∧W'.cell? ⟨w.heap.size,6,none⟩=some (.int .i64 yn.up.d1)∧W'.cell? ⟨w.heap.size,7,none⟩=some (.int .i64 yn.up.d2)∧W'.cell? ⟨w.heap.size,8,none⟩=some (.int .i64 yn.up.d3)∧W'.cell? ⟨w.heap.size,9,none⟩=some (.int .i64 yn.up.o)∧W'.cell? ⟨w.heap.size,10,none⟩=some (.int .i64 yn.up.t)):=fun W' hW=>by
  have:=(hW.block w.heap.size hlt1).trans B0.out
  exact ⟨cell_of_row _ _ 0 _ _ _ this,cell_of_row _ _ 1 _ _ _ this,cell_of_row _ _ 2 _ _ _ this,cell_of_row _ _ 3 _ _ _ this,cell_of_row _ _ 4 _ _ _ this,cell_of_row _ _ 5 _ _ _ this,cell_of_row _ _ 6 _ _ _ this,cell_of_row _ _ 7 _ _ _ this,cell_of_row _ _ 8 _ _ _ this,cell_of_row _ _ 9 _ _ _ this,cell_of_row _ _ 10 _ _ _ this⟩
 have HSN2:Hid (∀ W',Below w1.heap.size w1 W'→Calls Tryz.prog 71 #[.pointer (some ⟨p,0,none⟩),.int .i64 n,.agg #[.int .i64 0,.int .i64 0,.int .i64 yn.up.g,.int .i64 0,.int .i64 (c':Int),.int .i64 0,.int .i64 0,.int .i64 0,.int .i64 0,.int .i64 0,.int .i64 0]] W' fun e w2=>LvQ w0 w p d Ns q ep k O s X t' e w2∧(w2.cell? ⟨w.heap.size,0,none⟩=some (.int .i64 yn.up.k)∧w2.cell? ⟨w.heap.size,1,none⟩=some (.int .i64 yn.up.l)∧w2.cell? ⟨w.heap.size,2,none⟩=some (.int .i64 yn.up.g)∧w2.cell? ⟨w.heap.size,3,none⟩=some (.int .i64 yn.up.s)∧w2.cell? ⟨w.heap.size,4,none⟩=some (.int .i64 yn.up.c)∧w2.cell? ⟨w.heap.size,5,none⟩=some (.int .i64 yn.up.d0)∧w2.cell? ⟨w.heap.size,6,none⟩=some (.int .i64 yn.up.d1)∧w2.cell? ⟨w.heap.size,7,none⟩=some (.int .i64 yn.up.d2)∧w2.cell? ⟨w.heap.size,8,none⟩=some (.int .i64 yn.up.d3)∧w2.cell? ⟨w.heap.size,9,none⟩=some (.int .i64 yn.up.o)∧w2.cell? ⟨w.heap.size,10,none⟩=some (.int .i64 yn.up.t))):=fun W' hW=>by
  refine (HSN.out W' hW).mono ?_
  rintro e w2 ⟨hq,hc⟩
  have:=(hc.block w.heap.size (Nat.lt_of_lt_of_le hlt1 hW.size) (by simp;omega)).trans ((hW.block w.heap.size hlt1).trans B0.out)
  exact ⟨hq,cell_of_row _ _ 0 _ _ _ this,cell_of_row _ _ 1 _ _ _ this,cell_of_row _ _ 2 _ _ _ this,cell_of_row _ _ 3 _ _ _ this,cell_of_row _ _ 4 _ _ _ this,cell_of_row _ _ 5 _ _ _ this,cell_of_row _ _ 6 _ _ _ this,cell_of_row _ _ 7 _ _ _ this,cell_of_row _ _ 8 _ _ _ this,cell_of_row _ _ 9 _ _ _ this,cell_of_row _ _ 10 _ _ _ this⟩
 have HCH:Hid (∀ W',Below w1.heap.size w1 W'→Calls Tryz.prog 70 #[.agg #[.int .i64 yn.up.k,.int .i64 yn.up.l,.int .i64 yn.up.g,.int .i64 yn.up.s,.int .i64 yn.up.c,.int .i64 yn.up.d0,.int .i64 yn.up.d1,.int .i64 yn.up.d2,.int .i64 yn.up.d3,.int .i64 yn.up.o,.int .i64 yn.up.t]] W' fun e w2=>e=.returned (.int .i64 (c':Int))∧Below W'.heap.size W' w2):=fun W' _=>by
  have:=changed_any yn.up W' ⟨by show (0:Int)≤(yn.c:Int);omega,by show (yn.c:Int)≤_;omega⟩
  rw [HE4.out] at this
  exact this
 clear HSN HC HG HE4
 go_upto_region 4 with fail
 go_region_held3 (fun W'=>W'.cell? ⟨w.heap.size,0,none⟩=some (.int .i64 yn.up.k)∧W'.cell? ⟨w.heap.size,1,none⟩=some (.int .i64 yn.up.l)∧W'.cell? ⟨w.heap.size,2,none⟩=some (.int .i64 yn.up.g)∧W'.cell? ⟨w.heap.size,3,none⟩=some (.int .i64 yn.up.s)∧W'.cell? ⟨w.heap.size,4,none⟩=some (.int .i64 yn.up.c)∧W'.cell? ⟨w.heap.size,5,none⟩=some (.int .i64 yn.up.d0)∧W'.cell? ⟨w.heap.size,6,none⟩=some (.int .i64 yn.up.d1)∧W'.cell? ⟨w.heap.size,7,none⟩=some (.int .i64 yn.up.d2)∧W'.cell? ⟨w.heap.size,8,none⟩=some (.int .i64 yn.up.d3)∧W'.cell? ⟨w.heap.size,9,none⟩=some (.int .i64 yn.up.o)∧W'.cell? ⟨w.heap.size,10,none⟩=some (.int .i64 yn.up.t))
  (first | with_reducible exact HSC.out _ (Below.refl _ _).drew | with_reducible exact HS3.out | with_reducible exact HSC.out _ HB1.out)
  (first
  | (go_at_call 70;(with_reducible refine (HCH.out _ (Below.refl _ _).drew).mono ?_);rintro e w2 ⟨rfl,hb⟩;have HB1:Hid (Below w1.heap.size w1 w2):=(Below.refl _ w1).drew.trans hb;clear hb)
  | (go_at_call 71;(with_reducible refine (HSN2.out _ HB1.out).mono ?_);rintro e w3 ⟨⟨rfl,hq⟩,hsc⟩;have HQ:=Lib.hid hq;have HS3:=Lib.hid hsc;clear hq hsc))
 go_wp2_with fail
 go_ret
 exact ⟨rfl,HQ.out⟩
theorem rows_rem {j:Nat} (hj:j≠dir) (nm:N.Nm):(N.removeT t dir nm).nd j=t.nd j:=N.set_nd_ne hj
theorem takeAway_yes {nm:N.Nm} {i:Nat} (h:St w0 w p d Ns q ep O s X m y f C t) (ht:N.WFx t ex) (hw:Wy w B v dir) (hqB:q<B) (hn1:1≤dir) (hnn:dir<32) (hk:(t.nd dir).k=2) (hf:N.find (t.nd dir).rows nm=some i) (g1:1<n) (g2:n<32) (g3:(t.nd n).k≠0) (gd:n≠dir) (gl:1≤(t.nd n).l) (gl2:(t.nd n).l≠1→(t.nd n).k=1) (g255:(t.nd n).l≤255) (hks:KS k m) (hkl:k≤10) :
  Calls Tryz.prog 28 #[.agg #[.pointer (some ⟨p,0,none⟩),v,.string (E.bs nm),.int .i64 (n:Int)]] w (LvQ w0 w p d Ns q ep (k+3) O s X (N.unlinkT (N.removeT t dir nm) n)):=by
 have hqq:=h.sto.map.lt
 have hnd:(N.removeT t dir nm).nd n=t.nd n:=rows_rem gd nm
 have HLV:Hid (∀ W,Below w.heap.size w W→Calls Tryz.prog 65 #[.agg #[.pointer (some ⟨p,0,none⟩),v,.string (E.bs nm),.int .i64 (n:Int)]] W fun e w1=>e=.returned (.int .i64 0)∧Chg [q] W w1∧∃ yn:D.Nn,(∀ W',Below w1.heap.size w1 W'→Calls Tryz.prog 30 #[.pointer (some ⟨p,0,none⟩),.int .i64 n] W' (NodeR W' yn))∧(yn.l=(t.nd n).l) ∧
   ((t.nd n).l=1→∀ W',Below w1.heap.size w1 W'→Calls Tryz.prog 66 #[.pointer (some ⟨p,0,none⟩),.int .i64 n,.agg (D.nc yn.up).toArray] W' (LvQ w0 w p d Ns q ep (k+3) O s X (N.unlinkT (N.removeT t dir nm) n))) ∧
   ((t.nd n).l≠1→∀ W',Below w1.heap.size w1 W'→Calls Tryz.prog 31 #[.pointer (some ⟨p,0,none⟩),.int .i64 n,.agg (D.nc yn.up).toArray,.int .i64 (-1)] W' (LvQ w0 w p d Ns q ep (k+3) O s X (N.unlinkT (N.removeT t dir nm) n)))):=fun W hb=>by
  refine (nleave_yes (h.below hb) ht (hw.below hb) hn1 hnn hk hf hks (by omega) (n:Int)).mono ?_
  rintro e w1 ⟨rfl,m1,y1,f1,C1,a1,a2,a3⟩
  refine ⟨rfl,a3,y1 n,fun W' hb'=>(a1.below hb').node (by omega) g2,by rw [(a1.like n (by omega) g2).l,hnd],fun hl W' hb'=>?_,fun hl W' hb'=>?_⟩
  ·refine (release_yes (a1.below hb') g1 g2 (by rw [hnd];exact g3) a2 (by omega)).mono ?_
   rintro e w2 ⟨rfl,m2,y2,f2,C2,b1,b2,b3⟩
   have e1:N.unlinkT (N.removeT t dir nm) n=(N.removeT t dir nm).put n (N.nr 0 0 ((N.removeT t dir nm).nd n).g (N.more ((N.removeT t dir nm).nd n).c)):=by
    unfold N.unlinkT
    rw [if_pos (by rw [hnd];exact hl)]
    rfl
   rw [e1]
   exact ⟨rfl,m2,y2,f2,C2,b1,b2,((Chg.of_below hb).tr a3).tr ((Chg.of_below hb').tr b3)⟩
  ·refine (nlink_yes (l':=(t.nd n).l - 1) (a1.below hb') (by omega) g2 (by rw [hnd];exact gl2 hl) (by rw [hnd];omega) (by omega) (by omega) a2 (by omega)).mono ?_
   rintro e w2 ⟨rfl,m2,y2,f2,C2,b1,b2,b3⟩
   have e1:N.unlinkT (N.removeT t dir nm) n=(N.removeT t dir nm).put n { (N.removeT t dir nm).nd n with l:=(t.nd n).l - 1,c:=N.more ((N.removeT t dir nm).nd n).c }:=by
    unfold N.unlinkT
    rw [if_neg (by rw [hnd];exact hl),hnd]
   rw [e1]
   exact ⟨rfl,m2,y2,f2,C2,b1,b2,((Chg.of_below hb).tr a3).tr ((Chg.of_below hb').tr b3)⟩
 obtain ⟨vg,vn,vc,rfl,hvg⟩:=hw.slice
 generalize N.unlinkT (N.removeT t dir nm) n=t' at *
 generalize (t.nd n).l=ll at *
 clear h ht hw hk hf hks g3 hnd gl2
 obtain ⟨a0,a1,a2⟩:=D.box1 w (Obj.cells (plc (some ⟨p,0,none⟩) (.slice (some ⟨vg,0,none⟩) vn vc) (E.bs nm) (n:Int)) 56)
 have A0:=Lib.hid a0
 have A1:=Lib.hid a1
 have hs1:w.heap.size<(w.alloc (Obj.cells (plc (some ⟨p,0,none⟩) (.slice (some ⟨vg,0,none⟩) vn vc) (E.bs nm) (n:Int)) 56)).heap.size:=by rw [a2];omega
 clear a0 a1 a2
 go_enter Tryz.func28,Tryz.ntmps28
 go_upto_region 1 with fail
 generalize w.alloc (Obj.cells (plc (some ⟨p,0,none⟩) (.slice (some ⟨vg,0,none⟩) vn vc) (E.bs nm) (n:Int)) 56)=W at *
 go_wp2_with (first | (refine D.wpList_load_row rfl 56 _ rfl w.heap.size rfl _ _ _ A0.out _ Tryz.underlying56 rfl (s56 _ _ _ _) ?_) | fail)
 refine (HLV.out W A1.out).mono ?_
 rintro e w1 ⟨rfl,hc,yn,hn,hyl,hr,hl⟩
 have B0:=Lib.hid ((hc.block w.heap.size hs1 (by simp;omega)).trans A0.out)
 have hlt1:w.heap.size<w1.heap.size:=Nat.lt_of_lt_of_le hs1 hc.size
 have HN:=Lib.hid (hn w1 (Below.refl _ _))
 have HR:=Lib.hid hr
 have HL:=Lib.hid hl
 have HYL:=Lib.hid hyl
 clear hc hn hr hl HLV hyl
 have c0:w1.cell? ⟨w.heap.size,0,none⟩=some (.pointer (some ⟨p,0,none⟩)):=cell_of_row _ _ 0 _ _ _ B0.out
 have c3:w1.cell? ⟨w.heap.size,3,none⟩=some (.int .i64 (n:Int)):=cell_of_row _ _ 3 _ _ _ B0.out
 go_wp2_with fail
 clear c0 c3
 refine HN.out.mono ?_
 rintro e w2 ⟨rfl,hb⟩
 obtain ⟨b0,b1,b2⟩:=D.box1 w2 (Obj.cells (D.nc yn.up).toArray 66)
 have C0:=Lib.hid b0
 have HB2:=Lib.hid (hb.trans (b1.mono hb.size))
 have D0:=Lib.hid ((HB2.out.block w.heap.size hlt1).trans B0.out)
 clear hb b0 b1 b2
 go_upto_region 5 with (first | (refine wpList_store_new rfl 66 _ _ rfl w2 D.z11 (D.nc yn.up).toArray rfl rfl s47 rfl (all_oneCell_toArray (D.nc_one _)) ?_) | fail)
 generalize w2.alloc (Obj.cells (D.nc yn.up).toArray 66)=W2 at *
 have c0:W2.cell? ⟨w.heap.size,0,none⟩=some (.pointer (some ⟨p,0,none⟩)):=cell_of_row _ _ 0 _ _ _ D0.out
 have c3:W2.cell? ⟨w.heap.size,3,none⟩=some (.int .i64 (n:Int)):=cell_of_row _ _ 3 _ _ _ D0.out
 have d1:W2.cell? ⟨w2.heap.size,1,none⟩=some (.int .i64 yn.up.l):=cell_of_row _ _ 1 _ _ _ C0.out
 by_cases h1:ll=1
 ·have HC:=Lib.hid (HR.out h1 W2 HB2.out)
  have hb1:(yn.up.l == 1)=true:=by rw [beq_iff_eq];show (yn.l:Int)=1;rw [HYL.out];omega
  clear HR HL h1
  go_wp2_with (first | (refine D.wpList_load_row rfl 66 _ rfl w2.heap.size rfl _ _ _ C0.out _ Tryz.underlying66 rfl s47 ?_) | fail)
  refine HC.out.mono ?_
  rintro e w3 ⟨rfl,hq⟩
  have HQ:=Lib.hid hq
  clear hq
  go_wp2_with fail
  go_ret
  exact ⟨rfl,HQ.out⟩
 ·have HC:=Lib.hid (HL.out h1 W2 HB2.out)
  have hb1:(yn.up.l == 1)=false:=by rw [beq_eq_false_iff_ne];show (yn.l:Int)≠1;rw [HYL.out];omega
  clear HR HL h1
  go_wp2_with (first | (refine D.wpList_load_row rfl 66 _ rfl w2.heap.size rfl _ _ _ C0.out _ Tryz.underlying66 rfl s47 ?_) | fail)
  refine HC.out.mono ?_
  rintro e w3 ⟨rfl,hq⟩
  have HQ:=Lib.hid hq
  clear hq
  go_wp2_with fail
  go_ret
  exact ⟨rfl,HQ.out⟩
end
end Go.Proofs.YtkganhafbjgndaaGreatRR.V
