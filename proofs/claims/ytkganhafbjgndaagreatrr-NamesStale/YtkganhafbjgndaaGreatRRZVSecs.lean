/- Trunc, Sectors. -/
import Derived.Test.YtkganhafbjgndaaGreatRRZVWalks
namespace Go.Proofs.YtkganhafbjgndaaGreatRR.V
open Go.RowKit
set_option linter.unusedVariables false
set_option maxRecDepth 20000
def cutC (C:Nat→UInt8) (n:Nat):Nat→UInt8:=fun i=>if i<n then C i else 0
theorem blocks_nat {size B:Nat} (hB:(size+127) / 128=B):T.blocks (size:Int)=(B:Int):=by
 unfold T.blocks
 split<;>omega
theorem zer_cut {C:Nat→UInt8} {s n t a:Nat} (hz:∀ i,s≤i→C i=0) (ha:min n s=a) (ht:n≤t):zer (cutC C t) a (t - a)=cutC C n:=by
 funext i
 unfold zer cutC
 by_cases h1:a≤i∧i<a+(t - a)
 ·rw [if_pos h1]
  by_cases h2:i<n
  ·rw [if_pos h2,hz i (by omega)]
  ·rw [if_neg h2]
 ·rw [if_neg h1]
  by_cases h2:i<n
  ·rw [if_pos h2,if_pos (by omega)]
  ·rw [if_neg h2]
   by_cases h3:i<t
   ·rw [if_pos h3];omega
   ·rw [if_neg h3]
section
variable {w0 w w1 w2 w':World} {p d N q bf nn:Nat} {O:List Nat} {s:DS} {X:Secs2} {m:List Wr} {G:Nat→Prop} {y:D.Nn} {f:Nat→Nat} {C:Nat→UInt8} {low:List Int} {Tx:List Nat}
theorem blank_cut {g:Nat→Nat} {y2:D.Nn} {m2:List Wr} {a t size B:Nat} (hop:Op w0 w p d N q bf nn O s X m2 G y2 g (cutC C t) low Tx) (hz:∀ i,y.s≤i→C i=0) (ha:min size y.s=a) (ht:128 * B=t) (hB:(size+127) / 128=B) (hsz:size≤9728) (hL:∀ i,size≤i→i<128 * B→C i≠0→ixb (B - 1)∈Tx) :
  Calls Tryz.prog 42 #[.pointer (some ⟨bf,0,none⟩),.int .i64 (a:Int),.int .i64 (t:Int)] w (BlaQ w0 w p d N q bf nn O s X m2 G y2 g (cutC C size) low Tx):=by
 have e:=zer_cut (C:=C) (s:=y.s) (n:=size) (t:=t) (a:=a) hz ha (by omega)
 by_cases h:a=t
 ·subst h
  rw [Nat.sub_self,zer_zero] at e
  rw [e] at hop
  exact blank_nil hop (by omega)
 ·have:=blank_some (a:=a) (s':=t - a) (t:=t) (by omega) hop (by omega) (by omega) (fun b hb j hj h1 h2 h3=>by
   have h4:C (128 * b+j)≠0:=fun e=>h3 (by unfold cutC;split;exact e;rfl)
   have h5:size≤128 * b+j:=by
    by_cases h6:size≤128 * b+j
    ·exact h6
    ·exact absurd (hz _ (by omega)) h4
   have h7:b=B - 1:=by omega
   rw [h7];exact hL _ h5 (by omega) h4)
  rw [e] at this
  exact this
def TruQ (w0 w:World) (p d N q nn:Nat) (O:List Nat) (s:DS) (X:Secs2) (m:List Wr) (G:Nat→Prop) (y:D.Nn) (f:Nat→Nat) (C:Nat→UInt8) (low:List Int) (Tx:List Nat) (size B:Nat) (e:Ending) (w':World):Prop :=
 e=.returned (.int .i64 0)∧∃ m' y',Aft w0 w p d N q nn O s X m G f low Tx m' y' (cutF B f) (cutC C size) w'∧y'.s=size∧Kp y y'
set_option maxHeartbeats 4000000 in
theorem trunc_yes {size B:Nat} (hs:Sto w0 w p d O N s X q m) (h:Fl N G (view X m) nn y f C) (hnn:nn<32) (hbud:Bud low Tx m (cutF B f)) (h35:((35+nn / 4:Nat):Int)∈low) (hsz:size≤9728) (hB:(size+127) / 128=B)
  (hT:∀ p,isPx p→cutF B f p≠0→¬ (∀ j,j<8→cutF B f (kid p j)=f (kid p j))→p∈Tx) (hL:∀ i,size≤i→i<128 * B→C i≠0→ixb (B - 1)∈Tx) (h32:y.k=2→size % 32=0) :
  Calls Tryz.prog 110 #[.pointer (some ⟨p,0,none⟩),.int .i64 nn,.int .i64 (size:Int)] w (TruQ w0 w p d N q nn O s X m G y f C low Tx size B):=by
 obtain ⟨os1,os2,os3,os4,os5⟩:=ok_size h.ok h.kind
 obtain ⟨t,ht⟩:∃ t,128 * B=t:=⟨_,rfl⟩
 obtain ⟨a,ha⟩:∃ a,min size y.s=a:=⟨_,rfl⟩
 have hmn:min (size:Int) (y.s:Int)=(a:Int):=by omega
 have hw1:IntKind.i64.wrap ((B:Int) * 128)=(t:Int):=by rw [IntKind.wrap_i64];omega
 have hg1:decide ((size:Int)<0)=false:=by simp
 have hg2:decide (9728<(size:Int))=false:=by simp;omega
 have HBK:=Lib.hid (T.blocks_any (size:Int) · (by omega))
 rw [blocks_nat hB] at HBK
 have HO:=Lib.hid (h.open_ hs hnn)
 have H:=Lib.hid h
 have HS:=Lib.hid hs
 have HBU:=Lib.hid hbud
 have H35:=Lib.hid h35
 have HT:=Lib.hid hT
 have HL:=Lib.hid hL
 have HNN:=Lib.hid hnn
 have HSZ:=Lib.hid hsz
 have HB:=Lib.hid hB
 have HTA:=Lib.hid (And.intro ht ha)
 have HOS:=Lib.hid (And.intro os1 os2)
 have H32:=Lib.hid h32
 clear h32 h hs hbud h35 hT hL hnn hsz hB ht ha os1 os2 os3 os4 os5
 go_enter Tryz.func110,Tryz.ntmps110
 go_wp2_with fail
 refine HO.out.mono ?_
 rintro e w1 ⟨bf,rfl,hf,hbf,hb⟩
 have hbfr:bf∉O∧bf≠p∧bf≠q∧w0.heap.size≤bf:=⟨fun hm=>by have:=HS.out.ons.sit.drv.lt _ hm;omega,by have:=HS.out.st.lt;omega,by have:=HS.out.map.lt;omega,by have:=HS.out.pf;have:=HS.out.st.lt;omega⟩
 have HRD:Hid (Rd w0 w1 p d N q bf nn O s X m G y f C):=⟨HS.out.below hb,hf,H.out.mid,H.out.con⟩
 have HB1:=Lib.hid hb
 have HBF:=Lib.hid hbf
 have HBFR:=Lib.hid hbfr
 clear hf hb hbf hbfr
 go_wp2_with fail
 refine (HBK.out w1).mono ?_
 rintro e w9 ⟨rfl,rfl⟩
 go_wp2_with fail
 refine (cut_yes HRD.out HBFR.out HBU.out HT.out).mono ?_
 rintro e w2 ⟨rfl,m2,y2,ho2,hfr2,hnu2,hmin2,hc2⟩
 have c5:=ho2.fil.c5
 rw [hnu2.2.2.2.1] at c5
 have HOP2:Hid (Op w0 w2 p d N q bf nn O s X m2 G y2 (cutF B f) (cutC C t) low Tx):=by rw [← HTA.out.1];exact ho2
 have HFR2:=Lib.hid hfr2
 have HNU2:=Lib.hid hnu2
 have HMIN2:=Lib.hid hmin2
 have HC2:=Lib.hid ((Chg.of_below HB1.out).tr hc2)
 clear ho2 hfr2 hnu2 hmin2 hc2
 go_wp2_with fail
 refine (blank_cut HOP2.out H.out.zero HTA.out.2 HTA.out.1 HB.out HSZ.out HL.out).mono ?_
 rintro e w3 ⟨rfl,m3,ho3,hfr3,hc3⟩
 have HOP3:=Lib.hid ho3
 have HFR3:=Lib.hid hfr3
 have HC3:=Lib.hid (HC2.out.tr (hc3.mono (O':=[q,bf]) fun b hb=>by simp at hb;left;simp [hb]))
 have HCHD:=Lib.hid (changed_yes (size:=size) ho3 HNN.out (chd_ok ho3.mid H.out.ok H.out.kind HNU2.out HSZ.out H32.out) H35.out (by have:=HNU2.out.2.2.2.2;have:=HOS.out.2;omega))
 clear ho3 hfr3 hc3 c5
 go_wp2_with fail
 refine HCHD.out.mono ?_
 rintro e w4 ⟨rfl,hs4,hc4⟩
 have AFT:=Lib.hid (aft_of (w:=w) (f:=f) (m:=m) (size:=size) HNN.out HBF.out H.out.ok H.out.kind H32.out (HS.out.view_len (by have:=HNN.out;have:=HS.out.n64;omega) (by have:=HNN.out;unfold inLog;omega)) HS.out.n64 H35.out HOP3.out HNU2.out
  (fun k h1 h2 h3=>(HFR3.out k h1 h2).trans (HFR2.out k h1 h3)) (fun i hi h0=>by have:=H.out.mid.rng i hi;omega) HSZ.out
  (fun i hi=>if_neg (by omega))
  (fun b hb h0=>by
   have hB:=HB.out
   rw [cutF_leaf B f (ixb_px hb),bix_ixb hb] at h0
   by_cases hlt:b<B
   ·omega
   ·rw [if_neg hlt] at h0;exact absurd rfl h0)
  HMIN2.out hs4 (HC3.out.tr hc4))
 clear hs4 hc4
 go_wp2_with fail
 go_ret
 exact ⟨rfl,_,_,AFT.out,rfl,HNU2.out.kp size⟩
end
end Go.Proofs.YtkganhafbjgndaaGreatRR.V
namespace Go.Proofs.YtkganhafbjgndaaGreatRR.V
open Go.RowKit
set_option linter.unusedVariables false
set_option maxRecDepth 20000
abbrev OwnI (w:World) (base:Nat) (v:Value) (l:List Int):Prop:=w.ownsRow base 3 1 v l.length (l.map T.iv)
theorem news_cell (w:World) (x:Int) (j:Nat) (u:Value) (hu:[T.iv x][j]?=some u):(w.alloc (.cells #[.int .i64 x] 3)).cell? ((⟨w.heap.size,0,none⟩:Addr).add j)=some u:=by
 match j,hu with
 | 0,hu =>
  simp only [List.getElem?_cons_zero,Option.some.injEq] at hu
  subst hu
  rw [Addr.add_lit,World.cell?_alloc_mark]
  rfl
 | j+1,hu=>simp at hu
theorem appI_run {w:World} {base:Nat} {v:Value} {l:List Int} (x:Int) (hown:OwnI w base v l) (hl:(l.length+1) * 8≤140737488355328) (hbase:base≤w.heap.size) :
  ∃ v' w',(Builtin.append_ #[54,54] 54 #[v,.slice (some ⟨w.heap.size,0,none⟩) 1 1]).run Tryz.prog (w.alloc (.cells #[.int .i64 x] 3))=.ok v' w'∧OwnI w' base v' (l++[x])∧(w.alloc (.cells #[.int .i64 x] 3)).grownBy w' v.ownBlock∧∀ b,v'.ownBlock=some b→v.ownBlock=some b∨w.heap.size≤b:=by
 obtain ⟨i0,hi,hz0,hz1,hz2⟩:=info_parts T.Tryz.info3
 have h1c:∀ u∈[T.iv x],u.oneCell'=true:=fun u hu=>by simp only [List.mem_singleton] at hu;subst hu;rfl
 obtain ⟨v',w',hr,h2,h3,_⟩:=run_append_own (P:=Tryz.prog) (w.alloc (.cells #[.int .i64 x] 3)) base 54 54 3 i0 _ 1 8 Tryz.underlying54 hi hz0 hz1 hz2 rfl (by decide) v l.length (l.map T.iv) (hown.alloc _) ⟨w.heap.size,0,none⟩ 1 1 [T.iv x] (by simp)
  (news_cell w x) h1c (by unfold maxLen;omega) hl (by simp;omega)
 refine ⟨v',w',hr,by simpa [OwnI] using h2,h3,fun b hb=>?_⟩
 rcases hown.2 with ⟨rfl,h0⟩ | ⟨g,cap,cur,rfl,hg,hh,hn,hm,hs,ht⟩
 ·obtain rfl:l=[]:=List.length_eq_zero_iff.1 h0
  obtain ⟨v2,w2,hr2,k2,_⟩:=run_append_own (P:=Tryz.prog) (w.alloc (.cells #[.int .i64 x] 3)) w.heap.size 54 54 3 i0 _ 1 8 Tryz.underlying54 hi hz0 hz1 hz2 rfl (by decide) (.slice none 0 0) 0 [] ⟨rfl,.inl ⟨rfl,rfl⟩⟩ ⟨w.heap.size,0,none⟩ 1 1 [T.iv x] (by simp)
   (news_cell w x) h1c (by unfold maxLen;omega) hl (by simp)
  rw [hr] at hr2
  injection hr2 with e1 e2
  subst e1
  exact .inr (k2.lt b hb).1
 ·by_cases hc:l.length+1≤cap
  ·have hh':(w.alloc (.cells #[.int .i64 x] 3)).heap[g]?=some (.cells cur 3 (0,0)):=by
    rw [Below.heap_alloc _ _ _ (Array.getElem?_eq_some_iff.1 hh).1];exact hh
   have hr2:=run_append_room (P:=Tryz.prog) (w.alloc (.cells #[.int .i64 x] 3)) 54 54 3 i0 Tryz.underlying54 hi g l.length cap cur hh' ⟨w.heap.size,0,none⟩ 1 1 [T.iv x] (by rw [hz1];simp) (news_cell w x) h1c hc (by rw [hz1,hs];simp;omega)
   rw [hr] at hr2
   injection hr2 with e1 e2
   subst e1
   exact .inl hb
  ·have hcl:∀ j u,(l.map T.iv)[j]?=some u→(w.alloc (.cells #[.int .i64 x] 3)).cell? ((⟨g,0,none⟩:Addr).add j)=some u:=fun j u hu=>by
    have hj:j<l.length:=by have:=(List.getElem?_eq_some_iff.1 hu).1;simpa using this
    rw [Addr.add_lit,Nat.zero_add,World.cell?_alloc_lt _ _ _ (show (⟨g,j,none⟩:Addr).block<w.heap.size from (Array.getElem?_eq_some_iff.1 hh).1),F.cell_in hh,← hu,← Array.getElem?_toList,← ht,List.getElem?_take,if_pos (by omega)]
   obtain ⟨v2,w2,hr2,k2,_⟩:=run_append_arg_grows (P:=Tryz.prog) (w.alloc (.cells #[.int .i64 x] 3)) 54 54 3 i0 _ 1 8 Tryz.underlying54 hi hz0 hz1 hz2 rfl (by decide) ⟨g,0,none⟩ l.length cap (l.map T.iv) (by simp) hcl ⟨w.heap.size,0,none⟩ 1 1 [T.iv x] (by simp) (news_cell w x) (by omega) (by unfold maxLen;omega) hl
   rw [hr] at hr2
   injection hr2 with e1 e2
   subst e1
   have:=(k2.lt b hb).1
   right
   simp at this
   omega
abbrev srtI (l:List Int):List Int:=l.mergeSort fun x y=>decide (x≤y)
end Go.Proofs.YtkganhafbjgndaaGreatRR.V
namespace Go.Proofs.YtkganhafbjgndaaGreatRR.V
open Go.RowKit
set_option linter.unusedVariables false
set_option maxRecDepth 20000
theorem ownI_below {w w':World} {base n:Nat} {v:Value} {xs:List Value} (h:w.ownsRow base 3 1 v n xs) (hb:Below w.heap.size w w'):w'.ownsRow base 3 1 v n xs :=
 h.kept (F.grown_of_below hb none) (by cases hv:v.ownBlock<;>simp)
def nzi (f:Nat→Nat):List Nat:=(List.range 86).filter fun i=>f i != 0
def nzl (f:Nat→Nat):List Int:=(nzi f).map fun i=>((f i:Nat):Int)
theorem mem_nzi {f:Nat→Nat} {i:Nat}:i∈nzi f ↔ i<86∧f i≠0:=by simp [nzi]
theorem nzi_nodup (f:Nat→Nat):(nzi f).Nodup:=List.nodup_range.filter _
structure SI (w1:World) (f:Nat→Nat) (D:Nat→Prop) (S:List Nat) (w:World):Prop where
 bel:Below w1.heap.size w1 w
 lst:∃ (v:Value) (ix:List Nat),w.heap[w1.heap.size]?=some (.cells #[v] 54 (0,0))∧OwnI w (w1.heap.size+1) v (ix.map fun i=>((f i:Nat):Int))∧ix.Nodup∧(∀ i,i∈ix ↔ i<86∧D i∧f i≠0)∧∀ b,b∈S ↔ b=w1.heap.size∨v.ownBlock=some b
section
variable {w0 w w1 w2 w':World} {p d N q bf nn:Nat} {O:List Nat} {s:DS} {X:Secs2} {m:List Wr} {G:Nat→Prop} {y:D.Nn} {f:Nat→Nat} {C:Nat→UInt8} {D:Nat→Prop} {S:List Nat}
theorem SI.lt (h:SI w1 f D S w):∀ b∈S,b<w.heap.size∧w1.heap.size≤b:=by
 obtain ⟨v,ix,h1,h2,_,_,h5⟩:=h.lst
 intro b hb
 rcases (h5 b).1 hb with rfl | hb
 ·exact ⟨(Array.getElem?_eq_some_iff.1 h1).1,Nat.le_refl _⟩
 ·have:=h2.lt b hb
  exact ⟨this.2,by omega⟩
theorem SI.below (h:SI w1 f D S w) (hb:Below w.heap.size w w'):SI w1 f D S w':=by
 obtain ⟨v,ix,h1,h2,h3⟩:=h.lst
 exact ⟨h.bel.trans (hb.mono h.bel.size),v,ix,(hb.block _ (Array.getElem?_eq_some_iff.1 h1).1).trans h1,ownI_below h2 hb,h3⟩
end
end Go.Proofs.YtkganhafbjgndaaGreatRR.V
namespace Go.Proofs.YtkganhafbjgndaaGreatRR.V
open Go.RowKit
set_option linter.unusedVariables false
set_option maxRecDepth 20000
section
variable {w0 w w1 w2 w':World} {p d N q bf nn:Nat} {O:List Nat} {s:DS} {X:Secs2} {m:List Wr} {G:Nat→Prop} {y:D.Nn} {f:Nat→Nat} {C:Nat→UInt8} {D:Nat→Prop} {S:List Nat}
def SecR (w:World) (f:Nat→Nat) (e:Ending) (w':World):Prop:=∃ A c L,e=.returned (.tuple #[.slice A L.length c,.int .i64 0])∧T.Ints w' w'.heap.size A L.length c L∧L.Pairwise (· < ·)∧L.Perm (nzl f)∧Below w.heap.size w w'
theorem perm_of {α:Type} [DecidableEq α] {l l':List α} (h:l.Nodup) (h':l'.Nodup) (hm:∀ x,x∈l ↔ x∈l'):l.Perm l':=by
 refine List.perm_iff_count.2 fun a=>?_
 rw [h.count,h'.count]
 by_cases ha:a∈l
 ·rw [if_pos ha,if_pos ((hm a).1 ha)]
 ·rw [if_neg ha,if_neg fun x=>ha ((hm a).2 x)]
end
end Go.Proofs.YtkganhafbjgndaaGreatRR.V
