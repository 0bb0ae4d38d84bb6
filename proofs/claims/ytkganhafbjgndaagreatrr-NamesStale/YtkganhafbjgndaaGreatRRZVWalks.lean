/- walkFrom, walk, cut. -/
import Derived.Test.YtkganhafbjgndaaGreatRRZVBytes
import Derived.Test.YtkganhafbjgndaaGreatRRZShelf
import Derived.Test.YtkganhafbjgndaaGreatRRZVPuts
namespace Go.Proofs.YtkganhafbjgndaaGreatRR.V
open Go.RowKit
set_option linter.unusedVariables false
set_option maxRecDepth 20000
theorem span0 (w:World):Calls Tryz.prog 218 #[.int .i64 0] w fun e w'=>e=.returned (.int .i64 1)∧w=w':=by
 go_enter Tryz.func218,Tryz.ntmps218
 go_wp2_with fail
 refine wp_loop_rounds 1 ?_
 rw [rounds_succ]
 go_wp2_with fail
 go_ret
 exact ⟨rfl,rfl⟩
theorem span1 (w:World):Calls Tryz.prog 218 #[.int .i64 1] w fun e w'=>e=.returned (.int .i64 8)∧w=w':=by
 go_enter Tryz.func218,Tryz.ntmps218
 go_wp2_with fail
 refine wp_loop_rounds 2 ?_
 rw [rounds_succ]
 go_wp2_with fail
 rw [rounds_succ]
 go_wp2_with fail
 go_ret
 exact ⟨rfl,rfl⟩
theorem span2 (w:World):Calls Tryz.prog 218 #[.int .i64 2] w fun e w'=>e=.returned (.int .i64 64)∧w=w':=by
 go_enter Tryz.func218,Tryz.ntmps218
 go_wp2_with fail
 refine wp_loop_rounds 3 ?_
 rw [rounds_succ]
 go_wp2_with fail
 rw [rounds_succ]
 go_wp2_with fail
 rw [rounds_succ]
 go_wp2_with fail
 go_ret
 exact ⟨rfl,rfl⟩
def Aok (bf:Nat) (Dp S:List Nat) (ga oa:Nat):Prop:=ga∉S∧ga∉Dp∧(ga=bf→oa≠0)∧bf≤ga
def VR (I:(Nat→Prop)→List Nat→World→Prop) (D':Nat→Prop) (S:List Nat) (ga oa gv:Nat) (C:Array Value) (t:TypeId) (w:World) (e:Ending) (w':World):Prop :=
 e=.returned (.int .i64 0)∧∃ S',I D' S' w'∧w'.heap[ga]?=some (.cells (C.setIfInBounds oa (.int .i64 (gv:Int))) t (0,0))∧Chg (ga :: S) w w'∧∀ b∈S',b∈S∨w.heap.size≤b
def dep (ix:Nat):Nat:=if ix=5 then 2 else if ix=4∨(14≤ix∧ix<22) then 1 else 0
structure Vis (bf:Nat) (K:Nat) (cap:Array Value) (f g:Nat→Nat) (I:(Nat→Prop)→List Nat→World→Prop) (Dp:List Nat):Prop where
 ent:Enters Tryz.prog K
 bel:∀ {D S w w'},I D S w→Below w.heap.size w w'→I D S w'
 lt:∀ {D S w},I D S w→(∀ b∈S,b<w.heap.size)∧(∀ b∈Dp,b<w.heap.size)∧bf<w.heap.size
 non:∀ {D S w} {D':Nat→Prop},I D S w→(∀ i,D i→D' i)→(∀ i,D' i→D i∨f i=0)→I D' S w
 gz:∀ {p},isPx p→f p=0→∀ j,j<8→f (kid p j)=0
 ptr:∀ {D S w p},I D S w→isPx p→¬ D p→f p≠0→Calls Tryz.prog 168 #[.pointer (some ⟨bf,0,none⟩),.int .i64 (f p:Nat)] w (PtrR w fun j=>f (kid p j))
 leaf:∀ {D S w ga oa C t ix},ix<86→¬ isPx ix→I D S w→¬ D ix→f ix≠0→w.heap[ga]?=some (.cells C t (0,0))→C[oa]?=some (.int .i64 (f ix:Nat))→Aok bf Dp S ga oa →
  Calls Tryz.prog K (#[.pointer (some ⟨ga,oa,none⟩),.int .i64 (bix ix:Nat),.slice none 0 0]++cap) w (VR I (fun i=>D i∨i=ix) S ga oa (g ix) C t w)
 inner:∀ {D S w ga oa C t p L} {h:Nat→Nat},isPx p→I D S w→¬ D p→(∀ j,j<8→D (kid p j))→f p≠0→w.heap[ga]?=some (.cells C t (0,0))→C[oa]?=some (.int .i64 (f p:Nat))→Aok bf Dp S ga oa→Lst w L h→(∀ j,j<8→h j=g (kid p j)) →
  ∃ D',(D'=D∨D'=fun i=>D i∨i=p)∧(g p=0→D'=fun i=>D i∨i=p)∧((∀ j,j<8→g (kid p j)=f (kid p j))→D'=fun i=>D i∨i=p)∧(g p≠0→¬ (∀ j,j<8→g (kid p j)=f (kid p j))→D'=D) ∧
  Calls Tryz.prog K (#[.pointer (some ⟨ga,oa,none⟩),.int .i64 (bix p:Nat),.slice (some ⟨L,0,none⟩) 8 8]++cap) w (VR I D' S ga oa (g p) C t w)
 put:∀ {D S w p L} {h:Nat→Nat},isPx p→I D S w→¬ D p→(∀ j,j<8→D (kid p j))→f p≠0→g p≠0→¬ (∀ j,j<8→g (kid p j)=f (kid p j))→Lst w L h→(∀ j,j<8→h j=g (kid p j))→L∉S →
  Calls Tryz.prog 170 #[.pointer (some ⟨bf,0,none⟩),.int .i64 (f p:Nat),.slice (some ⟨L,0,none⟩) 8 8] w fun e w'=>e=.returned (.int .i64 0)∧∃ S',I (fun i=>D i∨i=p) S' w'∧Chg S w w'∧∀ b∈S',b∈S∨w.heap.size≤b
section
variable {bf K:Nat} {cap:Array Value} {f g:Nat→Nat} {I:(Nat→Prop)→List Nat→World→Prop} {Dp:List Nat}
def WF (bf K:Nat) (cap:Array Value) (f g:Nat→Nat) (I:(Nat→Prop)→List Nat→World→Prop) (Dp:List Nat) (ix:Nat) (d:Nat) (desc:Nat→Prop):Prop :=
 ∀ D S w ga oa C t,I D S w→(∀ i,desc i→¬ D i)→w.heap[ga]?=some (.cells C t (0,0))→C[oa]?=some (.int .i64 (f ix:Nat))→Aok bf Dp S ga oa →
  Calls Tryz.prog 217 #[.pointer (some ⟨bf,0,none⟩),.pointer (some ⟨ga,oa,none⟩),.int .i64 (d:Nat),.int .i64 (bix ix:Nat),.func (.func K) #[] cap] w (VR I (fun i=>D i∨desc i) S ga oa (g ix) C t w)
theorem set_self {C:Array Value} {o:Nat} {v:Value} (h:C[o]?=some v):C.setIfInBounds o v=C:=by
 apply Array.ext_getElem?
 intro i
 rw [Array.getElem?_setIfInBounds]
 split
 ·rename_i e;subst e
  split
  ·exact h.symm
  ·rename_i hl;rw [Array.getElem?_eq_none (by omega)] at h;cases h
 ·rfl
set_option maxHeartbeats 2000000 in
theorem walk_leaf (V:Vis bf K cap f g I Dp) {ix:Nat} (hi:ix<86) (hp:¬ isPx ix) (hg:f ix=0→g ix=0):WF bf K cap f g I Dp ix 0 (fun i=>i=ix):=by
 intro D S w ga oa C t hI hD hrow hC hok
 have hc:w.cell? ⟨ga,oa,none⟩=some (.int .i64 (f ix:Nat)):=(F.cell_in hrow oa).trans hC
 have hent:∀ (args:Array Value) (w:World),(callFunc K args).run Tryz.prog w=.ok (.enter K args) w:=V.ent
 by_cases h0:f ix=0
 ·have HE:=Lib.hid (V.non (D':=fun i=>D i∨i=ix) hI (fun i=>.inl) (fun i hi=>hi.elim .inl (fun e=>.inr (by rw [e];exact h0))))
  have HR:Hid (w.heap[ga]?=some (.cells (C.setIfInBounds oa (.int .i64 (g ix:Nat))) t (0,0))):=by
   show _=_
   rw [hg h0]
   rw [h0] at hC
   rw [set_self hC]
   exact hrow
  rw [h0] at hc
  clear hI hD hrow hC hok hent
  rw [show ((0:Nat):Int)=0 from rfl] at hc ⊢
  go_enter Tryz.func217,Tryz.ntmps217
  go_wp2_with fail
  go_ret
  exact ⟨rfl,S,HE.out,HR.out,Chg.refl _ _,fun b hb=>.inl hb⟩
 ·have HC:=Lib.hid (V.leaf hi hp hI (hD ix rfl) h0 hrow hC hok)
  have hz:(((f ix:Nat):Int) == 0)=false:=by rw [beq_eq_false_iff_ne];omega
  clear hI hD hrow hC hok
  rw [show ((0:Nat):Int)=0 from rfl]
  go_enter Tryz.func217,Tryz.ntmps217
  go_wp2_with fail
  refine HC.out.mono ?_
  rintro e w1 ⟨rfl,hr⟩
  have HR:=Lib.hid hr
  clear hr
  go_wp2_with fail
  go_ret
  exact ⟨rfl,HR.out⟩
theorem clone8 {w:World} {L:Nat} {h:Nat→Nat} (hl:Lst w L h):Calls Tryz.prog 236 #[.slice (some ⟨L,0,none⟩) 8 8] w fun e w'=>∃ gc cc,e=.returned (.slice (some ⟨gc,0,none⟩) 8 cc)∧w.heap.size≤gc∧gc<w'.heap.size∧(∀ j,j<8→w'.cell? ⟨gc,j,none⟩=some (.int .i64 (h j:Int)))∧Below w.heap.size w w':=by
 refine (Tryz.slices_Clone_int L 0 8 8 (pl h) w (by rw [pl_len];omega) (by omega) (fun j hj=>?_)).mono ?_
 ·rw [pl_len] at hj
  rw [Nat.zero_add,T.cell_in hl,List.getD_eq_getElem?_getD,pl_getD h hj]
  simp [pl_get h hj,T.iv]
 ·rintro e w' ⟨v',rfl,hr,hne,hb⟩
  rcases hr.2 with ⟨rfl,h0⟩ | ⟨gc,cap,cur,rfl,hg,hh,hn,hm,hs,ht⟩
  ·exact absurd rfl hne
  ·refine ⟨gc,cap,rfl,hg,(Array.getElem?_eq_some_iff.1 hh).1,fun j hj=>?_,hb⟩
   rw [F.cell_in hh]
   have h1:cur.toList[j]?=((pl h).take 8 |>.map (Value.int .i64))[j]?:=by
    rw [← ht,List.getElem?_take,if_pos (by omega)]
   rw [← Array.getElem?_toList,h1,List.getElem?_map,List.getElem?_take,if_pos hj,pl_get h hj]
   rfl
set_option maxHeartbeats 4000000 in
theorem walk_succ (V:Vis bf K cap f g I Dp) {p d e sp:Nat} {dk:Nat→Nat→Prop} (hp:isPx p) (he:d+1=e) (hd1:d≤1) (hg:f p=0→g p=0) (hk:∀ j,j<8→WF bf K cap f g I Dp (kid p j) d (dk j))
  (hz:f p=0→∀ j,j<8→∀ i,dk j i→f i=0) (hdis:∀ j j' i,j<8→j'<8→dk j i→dk j' i→j=j') (hself:∀ j,j<8→dk j (kid p j)) (hnp:∀ j,j<8→¬ dk j p)
  (hbix:∀ j,j<8→bix (kid p j)=bix p+j * sp) (hsp:∀ w,Calls Tryz.prog 218 #[.int .i64 (d:Int)] w fun e w'=>e=.returned (.int .i64 (sp:Int))∧w=w') (hsp8:sp≤8) (hb100:bix p≤100):WF bf K cap f g I Dp p e (fun i=>(∃ j,j<8∧dk j i)∨i=p):=by
 intro D S w ga oa C t hI hD hrow hC hok
 have hc:w.cell? ⟨ga,oa,none⟩=some (.int .i64 (f p:Nat)):=(F.cell_in hrow oa).trans hC
 have hent:∀ (args:Array Value) (w:World),(callFunc K args).run Tryz.prog w=.ok (.enter K args) w:=V.ent
 by_cases h0:f p=0
 ·have HE:=Lib.hid (V.non (D':=fun i=>D i∨((∃ j,j<8∧dk j i)∨i=p)) hI (fun i=>.inl) (fun i hi=>by
   rcases hi with a | ⟨j,a,b⟩ | a
   ·exact .inl a
   ·exact .inr (hz h0 j a i b)
   ·exact .inr (by rw [a];exact h0)))
  have HR:Hid (w.heap[ga]?=some (.cells (C.setIfInBounds oa (.int .i64 (g p:Nat))) t (0,0))):=by
   show _=_
   rw [hg h0]
   rw [h0] at hC
   rw [set_self hC]
   exact hrow
  rw [h0] at hc
  clear hI hD hrow hC hok hent
  rw [show ((0:Nat):Int)=0 from rfl] at hc
  go_enter Tryz.func217,Tryz.ntmps217
  go_wp2_with fail
  go_ret
  exact ⟨rfl,S,HE.out,HR.out,Chg.refl _ _,fun b hb=>.inl hb⟩
 ·have HPT:=Lib.hid (V.ptr hI hp (hD p (.inr rfl)) h0)
  have hzb:(((f p:Nat):Int) == 0)=false:=by rw [beq_eq_false_iff_ne];omega
  have heb:((e:Int) == 0)=false:=by rw [beq_eq_false_iff_ne];omega
  have hlt:=V.lt hI
  have hga:ga<w.heap.size:=(Array.getElem?_eq_some_iff.1 hrow).1
  have HI:=Lib.hid hI
  have HROW:=Lib.hid hrow
  have HCC:=Lib.hid hC
  have HOK:=Lib.hid hok
  have HD:=Lib.hid hD
  have HLT:=Lib.hid hlt
  clear hI hrow hC hok hD hlt
  go_enter Tryz.func217,Tryz.ntmps217
  go_wp2_with fail
  refine HPT.out.mono ?_
  rintro er w1 ⟨L,rfl,hl,hL,hb1⟩
  have HL:=Lib.hid hl
  have HB1:=Lib.hid hb1
  clear hl hb1
  go_wp2_with fail
  refine (clone8 HL.out).mono ?_
  rintro er w2 ⟨gc,cc,rfl,hgc,hgl,hcl,hb2⟩
  have HB2:=Lib.hid (HB1.out.trans (hb2.mono HB1.out.size))
  have HL2:Hid (Lst w2 L fun j=>f (kid p j)):=(hb2.block L (Array.getElem?_eq_some_iff.1 HL.out).1).trans HL.out
  have HCL:=Lib.hid hcl
  have hw1:=HB1.out.size
  have hLgc:L<gc:=by have:=(Array.getElem?_eq_some_iff.1 HL.out).1;omega
  have HFR:Hid (w.heap.size≤L∧w.heap.size≤gc∧L≠gc∧L<w2.heap.size∧gc<w2.heap.size):=⟨hL,by omega,by omega,by omega,hgl⟩
  clear hb2 hcl hc
  go_wp2_with fail
  go_loopw [42] (fun i wr=>∃ k:Nat,k≤8∧i=.int .i64 k∧Hid (∃ S',I (fun i=>D i∨∃ j,j<k∧dk j i) S' wr∧(∀ b∈S',b∈S∨w.heap.size≤b)∧L∉S'∧gc∉S')∧Hid (Lst wr L fun j=>if j<k then g (kid p j) else f (kid p j))∧Hid (∀ j,j<8→wr.cell? ⟨gc,j,none⟩=some (.int .i64 (f (kid p j):Nat)))∧Hid (wr.heap[ga]?=some (.cells C t (0,0)))∧Hid (Chg S w wr)∧Hid (w2.heap.size≤wr.heap.size)) (fun i _=>8 - (intOf i).toNat)
  case atStart =>
   refine ⟨0,by omega,rfl,⟨S,?_,fun b hb=>.inl hb,fun hm=>by have:=HLT.out.1 _ hm;have:=HFR.out.1;omega,fun hm=>by have:=HLT.out.1 _ hm;have:=HFR.out.2.1;omega⟩,?_,HCL.out,(HB2.out.block ga hga).trans HROW.out,Chg.of_below HB2.out,Nat.le_refl _⟩
   ·rw [show (fun i=>D i∨∃ j,j<0∧dk j i)=D from funext fun i=>propext ⟨fun h=>h.elim id fun ⟨j,hj,_⟩=>absurd hj (by omega),.inl⟩]
    exact V.bel HI.out HB2.out
   ·rw [show (fun j=>if j<0 then g (kid p j) else f (kid p j))=fun j=>f (kid p j) from funext fun j=>if_neg (by omega)]
    exact HL2.out
  case round =>
   obtain ⟨k,hk8,rfl,HIS,HLS,HCS,HRS,HGS,HSZ⟩:=hrel
   by_cases hlt:k<8
   ·obtain ⟨S',hIk,hS',hLS,hgS⟩:=HIS.out
    obtain ⟨ks,hks⟩:∃ ks,k * sp=ks:=⟨_,rfl⟩
    obtain ⟨bk,hbk⟩:∃ bk,bix (kid p k)=bk:=⟨_,rfl⟩
    have hks8:ks≤56:=by rw [← hks];exact Nat.mul_le_mul (show k≤7 by omega) hsp8
    have hbk':bk=bix p+ks:=by rw [← hbk,hbix k hlt,hks]
    have hw1:IntKind.i64.wrap ((k:Int) * (sp:Int))=(ks:Int):=by
     have e1:(k:Int) * (sp:Int)=(ks:Int):=by rw [← hks,Int.natCast_mul]
     rw [e1,IntKind.wrap_i64];omega
    have hw2:IntKind.i64.wrap ((bix p:Int)+(ks:Int))=(bk:Int):=by rw [IntKind.wrap_i64];omega
    have hw3:IntKind.i64.wrap ((e:Int) - 1)=(d:Int):=by rw [IntKind.wrap_i64];omega
    have hLl:L<wr.heap.size:=(Array.getElem?_eq_some_iff.1 HLS.out).1
    have hCL:((pl fun j=>if j<k then g (kid p j) else f (kid p j)).map T.iv).toArray[k]?=some (.int .i64 (f (kid p k):Nat)):=by
     rw [List.getElem?_toArray,List.getElem?_map,pl_get _ hlt,if_neg (by omega)];rfl
    have hIk':I (fun i=>D i∨∃ j,j<k∧dk j i) S' wr.drew:=V.bel hIk (Below.refl _ wr).drew
    have HCALL:=Lib.hid (hk k hlt _ _ _ L k _ _ hIk' (fun i hi hx=>by
     rcases hx with hx | ⟨j,hj,hx⟩
     ·exact HD.out i (.inl ⟨k,hlt,hi⟩) hx
     ·have:=hdis j k i (by omega) hlt hx hi;omega) HLS.out hCL ⟨hLS,fun hm=>by have:=HLT.out.2.1 _ hm;have:=HFR.out.1;omega,fun e=>by have:=HLT.out.2.2;have:=HFR.out.1;omega,by have:=HLT.out.2.2;have:=HFR.out.1;omega⟩)
    rw [hbk] at HCALL
    have HKK:=Lib.hid (And.intro hS' (And.intro hLS hgS))
    have HSP:=Lib.hid hsp
    have hk0:(0:Int)≤(k:Int):=by omega
    have hk1:(k:Int)<8:=by omega
    clear hIk hS' hLS hgS hCL hIk' hks hbk hks8 hbk'
    go_upto_region 13 with fail
    go_region_held3 (fun _=>True) (trivial)
     (first
     | (go_at_call 218;(with_reducible refine (HSP.out _).mono ?_);rintro er w5 ⟨rfl,rfl⟩)
     | (go_at_call 217;(with_reducible refine HCALL.out.mono ?_);rintro er w5 ⟨rfl,S2,hI2,hr2,hc2,hs2⟩;have HI2:=Lib.hid hI2;have HR2:=Lib.hid hr2;have HC2:=Lib.hid hc2;have HS2:=Lib.hid hs2;clear hI2 hr2 hc2 hs2))
    go_wp2_with fail
    go_roundw
    case rel =>
     have hlL:Lst w5 L fun j=>if j<k+1 then g (kid p j) else f (kid p j):=by
      unfold Lst
      rw [HR2.out,List.setIfInBounds_toArray]
      congr 2
      rw [show (Value.int .i64 (g (kid p k):Nat))=T.iv (g (kid p k):Nat) from rfl,← List.map_set,pl_set _ hlt]
      congr 2
      refine pl_congr fun j hj=>?_
      unfold upd
      by_cases e1:j=k
      ·rw [if_pos e1,if_pos (by omega),e1]
      ·rw [if_neg e1]
       show (if j<k then g (kid p j) else f (kid p j))=if j<k+1 then g (kid p j) else f (kid p j)
       by_cases e2:j<k
       ·rw [if_pos e2,if_pos (by omega)]
       ·rw [if_neg e2,if_neg (by omega)]
     have hblk:∀ b,b<wr.heap.size→b≠L→b∉S'→w5.heap[b]?=wr.heap[b]?:=fun b h1 h2 h3=>HC2.out.block b h1 (by simp;exact ⟨h2,h3⟩)
     have hgaS:ga∉S':=fun hm=>by
      rcases HKK.out.1 ga hm with a | a
      ·exact HOK.out.1 a
      ·omega
     refine ⟨k+1,by omega,by go_num,⟨S2,?_,fun b hb=>?_,fun hm=>?_,fun hm=>?_⟩,hlL,fun j hj=>?_,?_,?_,?_⟩
     ·have:=HI2.out
      rw [show (fun i=>(D i∨∃ j,j<k∧dk j i)∨dk k i)=fun i=>D i∨∃ j,j<k+1∧dk j i from funext fun i=>propext ⟨fun h=>by
        rcases h with (a | ⟨j,a,b⟩) | a
        ·exact .inl a
        ·exact .inr ⟨j,by omega,b⟩
        ·exact .inr ⟨k,by omega,a⟩,fun h=>by
        rcases h with a | ⟨j,a,b⟩
        ·exact .inl (.inl a)
        ·by_cases e:j=k
         ·subst e;exact .inr b
         ·exact .inl (.inr ⟨j,by omega,b⟩)⟩] at this
      exact this
     ·rcases HS2.out b hb with a | a
      ·exact HKK.out.1 b a
      ·right;have:=HGS.out.size;have:=HSZ.out;have:wr.drew.heap.size=wr.heap.size:=rfl;omega
     ·rcases HS2.out L hm with a | a
      ·exact HKK.out.2.1 a
      ·have:wr.drew.heap.size=wr.heap.size:=rfl;omega
     ·rcases HS2.out gc hm with a | a
      ·exact HKK.out.2.2 a
      ·have:wr.drew.heap.size=wr.heap.size:=rfl;have:=HFR.out.2.2.2.2;have:=HSZ.out;omega
     ·exact (World.cell?_of_block (a:=⟨gc,j,none⟩) (hblk gc (by have:=HFR.out.2.2.2.2;have:=HSZ.out;omega) (Ne.symm HFR.out.2.2.1) HKK.out.2.2)).trans (HCS.out j hj)
     ·exact (hblk ga (by have:=HGS.out.size;omega) (by have:=HFR.out.1;omega) hgaS).trans HRS.out
     ·refine (HGS.out.drew).trans HC2.out fun b hb=>?_
      rcases List.mem_cons.1 hb with rfl | hb
      ·exact .inr HFR.out.1
      ·exact HKK.out.1 b hb
     ·exact Nat.le_trans HSZ.out HC2.out.size
    case measure=>simp [intOf];omega
   ·obtain rfl:k=8:=by omega
    rw [show ((8:Nat):Int)=8 from rfl]
    obtain ⟨S',hI8,hS',hLS,hgS⟩:=HIS.out
    have hLg:Lst wr L fun j=>g (kid p j):=by
     have:=HLS.out
     unfold Lst at this ⊢
     rw [this,pl_congr (g:=fun j=>if j<8 then g (kid p j) else f (kid p j)) (h:=fun j=>g (kid p j)) fun j hj=>if_pos hj]
    have hgaS:ga∉S':=fun hm=>by
     rcases hS' ga hm with a | a
     ·exact HOK.out.1 a
     ·omega
    obtain ⟨D',hD1,hD2,hD3,hD4,hIN⟩:=V.inner (h:=fun j=>g (kid p j)) hp hI8 (fun hx=>hx.elim (HD.out p (.inr rfl)) fun ⟨j,hj,hx⟩=>hnp j hj hx) (fun j hj=>.inr ⟨j,hj,hself j hj⟩) h0 HRS.out HCC.out ⟨hgaS,HOK.out.2.1,HOK.out.2.2⟩ hLg (fun j hj=>rfl)
    have HIN:=Lib.hid hIN
    have HDD:=Lib.hid (And.intro hD1 (And.intro hD2 (And.intro hD3 hD4)))
    have HKK:=Lib.hid (And.intro hS' (And.intro hLS (And.intro hgS hgaS)))
    have HLG:=Lib.hid hLg
    have hDe:(fun i=>(D i∨∃ j,j<8∧dk j i)∨i=p)=fun i=>D i∨((∃ j,j<8∧dk j i)∨i=p):=funext fun i=>propext ⟨fun h=>by
      rcases h with (a | a) | a
      ·exact .inl a
      ·exact .inr (.inl a)
      ·exact .inr (.inr a),fun h=>by
      rcases h with a | a | a
      ·exact .inl (.inl a)
      ·exact .inl (.inr a)
      ·exact .inr a⟩
    have HDE:=Lib.hid hDe
    clear hI8 hS' hLS hgS hLg hIN hD1 hD2 hD3 hD4 hgaS hDe
    go_wp2_with fail
    refine HIN.out.mono ?_
    rintro er w5 ⟨rfl,S5,hI5,hr5,hc5,hs5⟩
    have HI5:=Lib.hid hI5
    have HR5:=Lib.hid hr5
    have HC5:Hid (Chg (ga :: S) w w5):=(HGS.out.mono (O':=ga :: S) fun b hb=>.inl (by simp [hb])).trans hc5 fun b hb=>by
     rcases List.mem_cons.1 hb with rfl | hb
     ·left;simp
     ·rcases HKK.out.1 b hb with a | a
      ·left;simp [a]
      ·exact .inr a
    have HS5:Hid (∀ b∈S5,b∈S∨w.heap.size≤b):=fun b hb=>by
     rcases hs5 b hb with a | a
     ·exact HKK.out.1 b a
     ·right;have:=HGS.out.size;omega
    have hgp:w5.cell? ⟨ga,oa,none⟩=some (.int .i64 (g p:Nat)):=(F.cell_in hr5 oa).trans (by rw [Array.getElem?_setIfInBounds_self_of_lt];have:=HCC.out;exact (Array.getElem?_eq_some_iff.1 this).1)
    have hwr5:wr.heap.size≤w5.heap.size:=hc5.size
    have HL5:Hid (Lst w5 L fun j=>g (kid p j)):=(hc5.block L (by have:=HFR.out.2.2.2.1;have:=HSZ.out;omega) (by simp;exact ⟨by have:=HFR.out.1;omega,HKK.out.2.1⟩)).trans HLG.out
    have HG5:Hid (∀ j,j<8→w5.cell? ⟨gc,j,none⟩=some (.int .i64 (f (kid p j):Nat))):=fun j hj=>(World.cell?_of_block (a:=⟨gc,j,none⟩) (hc5.block gc (by have:=HFR.out.2.2.2.2;have:=HSZ.out;omega) (by simp;exact ⟨by have:=HFR.out.2.1;omega,HKK.out.2.2.1⟩))).trans (HCS.out j hj)
    have HL5S:Hid (L∉S5):=fun hm=>by
     rcases hs5 L hm with a | a
     ·exact HKK.out.2.1 a
     ·have:=HFR.out.2.2.2.1;have:=HSZ.out;omega
    clear hI5 hr5 hc5 hs5
    by_cases hg0:g p=0
    ·have hDx:=HDD.out.2.1 hg0
     rw [hg0] at hgp
     rw [show ((0:Nat):Int)=0 from rfl] at hgp
     go_wp2_with fail
     go_ret
     refine ⟨rfl,S5,?_,HR5.out,HC5.out,HS5.out⟩
     rw [← HDE.out,← hDx]
     exact HI5.out
    ·have hgz:(((g p:Nat):Int) == 0)=false:=by rw [beq_eq_false_iff_ne];omega
     have HEQ:=Lib.hid (Tryz.slices_Equal_int L 0 8 8 gc 0 8 cc (pl fun j=>g (kid p j)) (pl fun j=>f (kid p j)) w5 (by rw [pl_len];omega) (by rw [pl_len];omega) (by omega) (by omega) (fun j hj=>by
       rw [pl_len] at hj
       rw [Nat.zero_add,T.cell_in HL5.out,List.getD_eq_getElem?_getD,pl_getD _ hj]
       simp [pl_get _ hj,T.iv]) (fun j hj=>by
       rw [pl_len] at hj
       rw [Nat.zero_add,HG5.out j hj,List.getD_eq_getElem?_getD,pl_getD _ hj]))
     have t8:∀ h:Nat→Nat,(pl h).take 8=pl h:=fun h=>List.take_of_length_le (by rw [pl_len];omega)
     rw [t8,t8] at HEQ
     by_cases heq:∀ j,j<8→g (kid p j)=f (kid p j)
     ·have hDx:=HDD.out.2.2.1 heq
      rw [pl_congr heq,beq_self_eq_true] at HEQ
      clear heq t8
      go_wp2_with fail
      refine HEQ.out.mono ?_
      rintro er w6 ⟨rfl,qn,rfl⟩
      go_wp2_with fail
      go_ret
      refine ⟨rfl,S5,?_,HR5.out,HC5.out.drewN _,HS5.out⟩
      rw [← HDE.out,← hDx]
      exact V.bel HI5.out (T.below_drewN (Below.refl _ w5) _)
     ·have hDx:=HDD.out.2.2.2 hg0 heq
      have hne:((pl fun j=>g (kid p j)) == pl fun j=>f (kid p j))=false:=by
       rw [beq_eq_false_iff_ne]
       exact fun e=>heq fun j hj=>pl_inj e hj
      rw [hne] at HEQ
      have HI6:∀ qn,I (fun i=>D i∨∃ j,j<8∧dk j i) S5 (w5.drewN qn):=fun qn=>by rw [← hDx];exact V.bel HI5.out (T.below_drewN (Below.refl _ w5) _)
      have HPU:Hid (∀ qn,Calls Tryz.prog 170 #[.pointer (some ⟨bf,0,none⟩),.int .i64 (f p:Nat),.slice (some ⟨L,0,none⟩) 8 8] (w5.drewN qn) fun e w'=>e=.returned (.int .i64 0)∧∃ S',I (fun i=>(D i∨∃ j,j<8∧dk j i)∨i=p) S' w'∧Chg S5 (w5.drewN qn) w'∧∀ b∈S',b∈S5∨(w5.drewN qn).heap.size≤b):=fun qn =>
       V.put (h:=fun j=>g (kid p j)) hp (HI6 qn) (fun hx=>hx.elim (HD.out p (.inr rfl)) fun ⟨j,hj,hx⟩=>hnp j hj hx) (fun j hj=>.inr ⟨j,hj,hself j hj⟩) h0 hg0 heq HL5.out (fun j hj=>rfl) HL5S.out
      clear heq t8 hne HI6 hDx
      go_wp2_with fail
      refine HEQ.out.mono ?_
      rintro er w6 ⟨rfl,qn,rfl⟩
      go_wp2_with fail
      refine (HPU.out qn).mono ?_
      rintro er w7 ⟨rfl,S7,hI7,hc7,hs7⟩
      have HI7:=Lib.hid hI7
      have HC7:Hid (Chg (ga :: S) w w7):=(HC5.out.drewN qn).trans hc7 fun b hb=>by
       rcases HS5.out b hb with a | a
       ·left;simp [a]
       ·exact .inr a
      have hgaS5:ga∉S5:=fun hm=>by
       rcases HS5.out ga hm with a | a
       ·exact HOK.out.1 a
       ·omega
      have HR7:Hid (w7.heap[ga]?=some (.cells (C.setIfInBounds oa (.int .i64 (g p:Nat))) t (0,0))):=(hc7.block ga (by show ga<w5.heap.size;have:=HC5.out.size;omega) hgaS5).trans HR5.out
      have HS7:Hid (∀ b∈S7,b∈S∨w.heap.size≤b):=fun b hb=>by
       rcases hs7 b hb with a | a
       ·exact HS5.out b a
       ·right;have:=HC5.out.size;have:(w5.drewN qn).heap.size=w5.heap.size:=rfl;omega
      clear hI7 hc7 hs7 hgaS5
      go_wp2_with fail
      go_ret
      refine ⟨rfl,S7,?_,HR7.out,HC7.out,HS7.out⟩
      rw [← HDE.out]
      exact HI7.out
end
end Go.Proofs.YtkganhafbjgndaaGreatRR.V
namespace Go.Proofs.YtkganhafbjgndaaGreatRR.V
open Go.RowKit
set_option linter.unusedVariables false
set_option maxRecDepth 20000
def dt0 (j:Nat):Nat→Prop:=fun i=>i=j
def dt1 (p:Nat):Nat→Prop:=fun i=>(∃ j,j<8∧i=kid p j)∨i=p
def dt2:Nat→Prop:=fun i=>(∃ j,j<8∧dt1 (kid 5 j) i)∨i=5
def dtop (k:Nat):Nat→Prop:=if k<4 then dt0 k else if k=4 then dt1 4 else dt2
theorem dtop_all {i:Nat} (h:i<86):∃ k,k<6∧dtop k i:=by
 by_cases h1:i<4
 ·exact ⟨i,by omega,by unfold dtop;rw [if_pos h1];rfl⟩
 ·by_cases h2:i=4∨(6≤i∧i<14)
  ·refine ⟨4,by omega,?_⟩
   show dt1 4 i
   rcases h2 with rfl | h2
   ·exact .inr rfl
   ·exact .inl ⟨i - 6,by omega,by show i=6+(i - 6);omega⟩
  ·refine ⟨5,by omega,?_⟩
   show dt2 i
   by_cases h3:i=5
   ·exact .inr h3
   ·by_cases h4:i<22
    ·exact .inl ⟨i - 14,by omega,.inr (by show i=14+(i - 14);omega)⟩
    ·refine .inl ⟨(i - 22) / 8,by omega,.inl ⟨(i - 22) % 8,by omega,?_⟩⟩
     show i=kid (14+(i - 22) / 8) _
     unfold kid;rw [if_neg (by omega),if_neg (by omega)];omega
theorem dtop_dis {k k' i:Nat} (hk:k<6) (hk':k'<6) (h:dtop k i) (h':dtop k' i):k=k':=by
 have key:∀ k,k<6→dtop k i→(k<4→i=k)∧(k=4→i=4∨(6≤i∧i<14))∧(k=5→i=5∨14≤i):=fun k hk h=>by
  unfold dtop at h
  split at h
  ·exact ⟨fun _=>h,fun e=>by omega,fun e=>by omega⟩
  ·split at h
   ·refine ⟨fun e=>by omega,fun _=>?_,fun e=>by omega⟩
    rcases h with ⟨j,hj,rfl⟩ | rfl
    ·right;show 6≤6+j∧6+j<14;omega
    ·exact .inl rfl
   ·refine ⟨fun e=>by omega,fun e=>by omega,fun _=>?_⟩
    rcases h with ⟨j,hj,h | rfl⟩ | rfl
    ·obtain ⟨j',hj',rfl⟩:=h
     right
     show 14≤kid (14+j) j'
     unfold kid;rw [if_neg (by omega),if_neg (by omega)];omega
    ·right;show 14≤14+j;omega
    ·exact .inl rfl
 have a:=key k hk h
 have b:=key k' hk' h'
 omega
section
variable {bf K:Nat} {cap:Array Value} {f g:Nat→Nat} {I:(Nat→Prop)→List Nat→World→Prop} {Dp:List Nat}
theorem kid5 (j:Nat):kid 5 j=14+j:=rfl
theorem kid4 (j:Nat):kid 4 j=6+j:=rfl
theorem kid14 {i:Nat} (h:14≤i) (j:Nat):kid i j=22+8 * (i - 14)+j:=by unfold kid;rw [if_neg (by omega),if_neg (by omega)]
theorem walk_one (V:Vis bf K cap f g I Dp) (hg:∀ i,f i=0→g i=0) {p:Nat} (hp:isPx p) (h5:p≠5):WF bf K cap f g I Dp p 1 (dt1 p):=by
 have hnp:∀ j,j<8→¬ isPx (kid p j):=fun j hj hx=>by
  unfold isPx at hx hp
  unfold kid at hx
  by_cases h4:p=4
  ·rw [if_pos h4] at hx;omega
  ·rw [if_neg h4,if_neg h5] at hx;omega
 refine walk_succ V (d:=0) (sp:=1) (dk:=fun j i=>i=kid p j) hp rfl (by omega) (hg p) (fun j hj=>walk_leaf V (kid_lt hp hj).2 (hnp j hj) (hg _)) (fun h0 j hj i hi=>by rw [hi];exact V.gz hp h0 j hj) (fun j j' i hj hj' h1 h2=>(kid_inj hp hp hj hj' (h1.symm.trans h2)).2) (fun j hj=>rfl) (fun j hj h=>kid_ne hp hj h.symm) (fun j hj=>?_) (fun w=>span0 w) (by omega) ?_
 ·unfold isPx at hp
  by_cases h4:p=4
  ·subst h4;unfold bix kid;simp only [if_true];rw [if_neg (by omega),if_neg (by omega),if_pos (by omega)];simp;omega
  ·rw [kid14 (by omega)];unfold bix;rw [if_neg (by omega),if_neg (by omega),if_neg (by omega),if_neg (by omega),if_neg (by omega),if_neg (by omega),if_neg (by omega),if_pos (by omega)];omega
 ·unfold isPx at hp;unfold bix;split<;>(try split)<;>(try split)<;>(try split)<;>omega
theorem walk_two (V:Vis bf K cap f g I Dp) (hg:∀ i,f i=0→g i=0):WF bf K cap f g I Dp 5 2 dt2:=by
 have h5:isPx 5:=.inr (.inl rfl)
 have hk:∀ j,j<8→isPx (kid 5 j):=fun j hj=>by rw [kid5];unfold isPx;omega
 refine walk_succ V (d:=1) (sp:=8) (dk:=fun j=>dt1 (kid 5 j)) h5 rfl (by omega) (hg 5) (fun j hj=>walk_one V hg (hk j hj) (by rw [kid5];omega)) (fun h0 j hj i hi=>?_) (fun j j' i hj hj' h1 h2=>?_) (fun j hj=>.inr rfl) (fun j hj h=>?_) (fun j hj=>?_) (fun w=>span1 w) (by omega) (by decide)
 ·have h1:=V.gz h5 h0 j hj
  rcases hi with ⟨j',hj',rfl⟩ | rfl
  ·exact V.gz (hk j hj) h1 j' hj'
  ·exact h1
 ·have key:∀ j,j<8→dt1 (kid 5 j) i→i=14+j∨(22+8 * j≤i∧i<30+8 * j):=fun j hj h=>by
   rw [kid5] at h
   rcases h with ⟨j',hj',rfl⟩ | rfl
   ·right;rw [kid14 (by omega)];omega
   ·exact .inl rfl
  have a:=key j hj h1
  have b:=key j' hj' h2
  omega
 ·rw [kid5] at h
  rcases h with ⟨j',hj',h⟩ | h
  ·rw [kid14 (by omega)] at h;omega
  ·omega
 ·rw [kid5];unfold bix;rw [if_neg (by omega),if_neg (by omega),if_neg (by omega),if_pos (by omega),if_neg (by omega),if_pos rfl];omega
def upC (g:Nat→Nat) (C:Array Value):Nat→Array Value
 | 0=>C
 | k+1=>(upC g C k).setIfInBounds (7+k) (.int .i64 (g k:Int))
theorem upC_get (g:Nat→Nat) (C:Array Value) {k o:Nat} (h:∀ j,j<k→7+j≠o):(upC g C k)[o]?=C[o]?:=by
 induction k with
 | zero=>rfl
 | succ k ih =>
  rw [upC,Array.getElem?_setIfInBounds_ne (by exact h k (by omega))]
  exact ih fun j hj=>h j (by omega)
def WalkR (bf:Nat) (g:Nat→Nat) (I:(Nat→Prop)→List Nat→World→Prop) (S:List Nat) (C:Array Value) (t:TypeId) (w:World) (e:Ending) (w':World):Prop :=
 e=.returned (.int .i64 0)∧∃ S',I (fun i=>∃ j,j<6∧dtop j i) S' w'∧w'.heap[bf]?=some (.cells (upC g C 6) t (0,0))∧Chg (bf :: S) w w'∧∀ b∈S',b∈S∨w.heap.size≤b
def bs (k:Nat):Nat:=if k≤4 then k else if k=5 then 12 else 76
set_option maxHeartbeats 8000000 in
theorem walk_all (V:Vis bf K cap f g I Dp) (hg:∀ i,f i=0→g i=0) {w:World} {S:List Nat} {C:Array Value} {t:TypeId} (hI:I (fun _=>False) S w) (hrow:w.heap[bf]?=some (.cells C t (0,0))) (hC:∀ i,i<6→C[7+i]?=some (.int .i64 (f i:Nat))) (hS:bf∉S) (hDp:bf∉Dp) :
  Calls Tryz.prog 178 #[.pointer (some ⟨bf,0,none⟩),.func (.func K) #[] cap] w (WalkR bf g I S C t w):=by
 have HI:=Lib.hid hI
 have HROW:=Lib.hid hrow
 have HCF:=Lib.hid hC
 have HSB:=Lib.hid hS
 have HDP:=Lib.hid hDp
 clear hI hrow hC hS hDp
 go_enter Tryz.func178,Tryz.ntmps178
 go_wp2_with fail
 go_loopw [9,5] (fun i b wr=>∃ k:Nat,k≤6∧i=.int .i64 k∧b=.int .i64 (bs k:Nat)∧Hid (∃ S',I (fun i=>∃ j,j<k∧dtop j i) S' wr∧(∀ b∈S',b∈S∨w.heap.size≤b)∧bf∉S')∧Hid (wr.heap[bf]?=some (.cells (upC g C k) t (0,0)))∧Hid (Chg (bf :: S) w wr)) (fun i _ _=>6 - (intOf i).toNat)
 case atStart =>
  refine ⟨0,by omega,rfl,rfl,⟨S,?_,fun b hb=>.inl hb,HSB.out⟩,HROW,Chg.refl _ _⟩
  rw [show (fun i=>∃ j,j<0∧dtop j i)=fun _=>False from funext fun i=>propext ⟨fun ⟨j,hj,_⟩=>absurd hj (by omega),fun h=>h.elim⟩]
  exact HI.out
 case round =>
  obtain ⟨k,hk,rfl,rfl,HIS,HRS,HGS⟩:=hrel
  by_cases hlt:k<6
  ·rcases (show k=0∨k=1∨k=2∨k=3∨k=4∨k=5 by omega) with rfl | rfl | rfl | rfl | rfl | rfl
   ·-- 0
    have hbk:bs 0=0:=rfl
    rw [hbk]
    obtain ⟨S',hIk,hS',hbS⟩:=HIS.out
    have hCk:(upC g C 0)[7]?=some (.int .i64 (f 0:Nat)):=(upC_get g C (fun j hj=>by omega)).trans (HCF.out 0 (by omega))
    have hwf:WF bf K cap f g I Dp 0 0 (dtop 0):=(walk_leaf V (ix:=0) (by omega) (by unfold isPx;omega) (hg 0))
    have HCALL:=Lib.hid (hwf _ _ _ bf 7 _ _ hIk (fun i hi hx=>by
     obtain ⟨j,hj,hx⟩:=hx
     have:=dtop_dis (by omega) (by omega) hi hx;omega) HRS.out hCk ⟨hbS,HDP.out,fun _=>by omega,Nat.le_refl _⟩)
    have HKK:=Lib.hid (And.intro hS' hbS)
    clear hIk hS' hbS hCk hwf
    (try rw [show ((0:Nat):Int)=0 from rfl]);(try rw [show ((0:Nat):Int)=0 from rfl])
    go_wp2_with fail
    refine (field_yes (bf:=bf) (i:=0) (by omega)).mono ?_
    rintro er w5 ⟨rfl,rfl⟩
    go_wp2_with fail
    refine HCALL.out.mono ?_
    rintro er w6 ⟨rfl,S2,hI2,hr2,hc2,hs2⟩
    have HI2:=Lib.hid hI2
    have HR2:=Lib.hid hr2
    have HC2:=Lib.hid hc2
    have HS2:=Lib.hid hs2
    clear hI2 hr2 hc2 hs2
    go_wp2_with fail
    refine (span0 _).mono ?_
    rintro er w7 ⟨rfl,rfl⟩
    go_wp2_with fail
    go_roundw
    case rel =>
     refine ⟨1,by omega,rfl,rfl,⟨S2,?_,fun b hb=>?_,fun hm=>?_⟩,HR2,?_⟩
     ·have:=HI2.out
      rw [show (fun i=>(∃ j,j<0∧dtop j i)∨dtop 0 i)=fun i=>∃ j,j<1∧dtop j i from funext fun i=>propext ⟨fun h=>by
        rcases h with ⟨j,a,b⟩ | a
        ·exact ⟨j,by omega,b⟩
        ·exact ⟨0,by omega,a⟩,fun h=>by
        obtain ⟨j,a,b⟩:=h
        by_cases e:j=0
        ·subst e;exact .inr b
        ·exact .inl ⟨j,by omega,b⟩⟩] at this
      exact this
     ·rcases HS2.out b hb with a | a
      ·exact HKK.out.1 b a
      ·right;have:=HGS.out.size;omega
     ·rcases HS2.out bf hm with a | a
      ·exact HKK.out.2 a
      ·have:=(Array.getElem?_eq_some_iff.1 HRS.out).1;omega
     ·refine HGS.out.trans HC2.out fun b hb=>?_
      rcases List.mem_cons.1 hb with rfl | hb
      ·left;simp
      ·rcases HKK.out.1 b hb with a | a
       ·left;simp [a]
       ·exact .inr a
    case measure=>simp [intOf]
   ·-- 1
    have hbk:bs 1=1:=rfl
    rw [hbk]
    obtain ⟨S',hIk,hS',hbS⟩:=HIS.out
    have hCk:(upC g C 1)[8]?=some (.int .i64 (f 1:Nat)):=(upC_get g C (fun j hj=>by omega)).trans (HCF.out 1 (by omega))
    have hwf:WF bf K cap f g I Dp 1 0 (dtop 1):=(walk_leaf V (ix:=1) (by omega) (by unfold isPx;omega) (hg 1))
    have HCALL:=Lib.hid (hwf _ _ _ bf 8 _ _ hIk (fun i hi hx=>by
     obtain ⟨j,hj,hx⟩:=hx
     have:=dtop_dis (by omega) (by omega) hi hx;omega) HRS.out hCk ⟨hbS,HDP.out,fun _=>by omega,Nat.le_refl _⟩)
    have HKK:=Lib.hid (And.intro hS' hbS)
    clear hIk hS' hbS hCk hwf
    (try rw [show ((1:Nat):Int)=1 from rfl]);(try rw [show ((1:Nat):Int)=1 from rfl])
    go_wp2_with fail
    refine (field_yes (bf:=bf) (i:=1) (by omega)).mono ?_
    rintro er w5 ⟨rfl,rfl⟩
    go_wp2_with fail
    refine HCALL.out.mono ?_
    rintro er w6 ⟨rfl,S2,hI2,hr2,hc2,hs2⟩
    have HI2:=Lib.hid hI2
    have HR2:=Lib.hid hr2
    have HC2:=Lib.hid hc2
    have HS2:=Lib.hid hs2
    clear hI2 hr2 hc2 hs2
    go_wp2_with fail
    refine (span0 _).mono ?_
    rintro er w7 ⟨rfl,rfl⟩
    go_wp2_with fail
    go_roundw
    case rel =>
     refine ⟨2,by omega,rfl,rfl,⟨S2,?_,fun b hb=>?_,fun hm=>?_⟩,HR2,?_⟩
     ·have:=HI2.out
      rw [show (fun i=>(∃ j,j<1∧dtop j i)∨dtop 1 i)=fun i=>∃ j,j<2∧dtop j i from funext fun i=>propext ⟨fun h=>by
        rcases h with ⟨j,a,b⟩ | a
        ·exact ⟨j,by omega,b⟩
        ·exact ⟨1,by omega,a⟩,fun h=>by
        obtain ⟨j,a,b⟩:=h
        by_cases e:j=1
        ·subst e;exact .inr b
        ·exact .inl ⟨j,by omega,b⟩⟩] at this
      exact this
     ·rcases HS2.out b hb with a | a
      ·exact HKK.out.1 b a
      ·right;have:=HGS.out.size;omega
     ·rcases HS2.out bf hm with a | a
      ·exact HKK.out.2 a
      ·have:=(Array.getElem?_eq_some_iff.1 HRS.out).1;omega
     ·refine HGS.out.trans HC2.out fun b hb=>?_
      rcases List.mem_cons.1 hb with rfl | hb
      ·left;simp
      ·rcases HKK.out.1 b hb with a | a
       ·left;simp [a]
       ·exact .inr a
    case measure=>simp [intOf]
   ·-- 2
    have hbk:bs 2=2:=rfl
    rw [hbk]
    obtain ⟨S',hIk,hS',hbS⟩:=HIS.out
    have hCk:(upC g C 2)[9]?=some (.int .i64 (f 2:Nat)):=(upC_get g C (fun j hj=>by omega)).trans (HCF.out 2 (by omega))
    have hwf:WF bf K cap f g I Dp 2 0 (dtop 2):=(walk_leaf V (ix:=2) (by omega) (by unfold isPx;omega) (hg 2))
    have HCALL:=Lib.hid (hwf _ _ _ bf 9 _ _ hIk (fun i hi hx=>by
     obtain ⟨j,hj,hx⟩:=hx
     have:=dtop_dis (by omega) (by omega) hi hx;omega) HRS.out hCk ⟨hbS,HDP.out,fun _=>by omega,Nat.le_refl _⟩)
    have HKK:=Lib.hid (And.intro hS' hbS)
    clear hIk hS' hbS hCk hwf
    (try rw [show ((2:Nat):Int)=2 from rfl]);(try rw [show ((2:Nat):Int)=2 from rfl])
    go_wp2_with fail
    refine (field_yes (bf:=bf) (i:=2) (by omega)).mono ?_
    rintro er w5 ⟨rfl,rfl⟩
    go_wp2_with fail
    refine HCALL.out.mono ?_
    rintro er w6 ⟨rfl,S2,hI2,hr2,hc2,hs2⟩
    have HI2:=Lib.hid hI2
    have HR2:=Lib.hid hr2
    have HC2:=Lib.hid hc2
    have HS2:=Lib.hid hs2
    clear hI2 hr2 hc2 hs2
    go_wp2_with fail
    refine (span0 _).mono ?_
    rintro er w7 ⟨rfl,rfl⟩
    go_wp2_with fail
    go_roundw
    case rel =>
     refine ⟨3,by omega,rfl,rfl,⟨S2,?_,fun b hb=>?_,fun hm=>?_⟩,HR2,?_⟩
     ·have:=HI2.out
      rw [show (fun i=>(∃ j,j<2∧dtop j i)∨dtop 2 i)=fun i=>∃ j,j<3∧dtop j i from funext fun i=>propext ⟨fun h=>by
        rcases h with ⟨j,a,b⟩ | a
        ·exact ⟨j,by omega,b⟩
        ·exact ⟨2,by omega,a⟩,fun h=>by
        obtain ⟨j,a,b⟩:=h
        by_cases e:j=2
        ·subst e;exact .inr b
        ·exact .inl ⟨j,by omega,b⟩⟩] at this
      exact this
     ·rcases HS2.out b hb with a | a
      ·exact HKK.out.1 b a
      ·right;have:=HGS.out.size;omega
     ·rcases HS2.out bf hm with a | a
      ·exact HKK.out.2 a
      ·have:=(Array.getElem?_eq_some_iff.1 HRS.out).1;omega
     ·refine HGS.out.trans HC2.out fun b hb=>?_
      rcases List.mem_cons.1 hb with rfl | hb
      ·left;simp
      ·rcases HKK.out.1 b hb with a | a
       ·left;simp [a]
       ·exact .inr a
    case measure=>simp [intOf]
   ·-- 3
    have hbk:bs 3=3:=rfl
    rw [hbk]
    obtain ⟨S',hIk,hS',hbS⟩:=HIS.out
    have hCk:(upC g C 3)[10]?=some (.int .i64 (f 3:Nat)):=(upC_get g C (fun j hj=>by omega)).trans (HCF.out 3 (by omega))
    have hwf:WF bf K cap f g I Dp 3 0 (dtop 3):=(walk_leaf V (ix:=3) (by omega) (by unfold isPx;omega) (hg 3))
    have HCALL:=Lib.hid (hwf _ _ _ bf 10 _ _ hIk (fun i hi hx=>by
     obtain ⟨j,hj,hx⟩:=hx
     have:=dtop_dis (by omega) (by omega) hi hx;omega) HRS.out hCk ⟨hbS,HDP.out,fun _=>by omega,Nat.le_refl _⟩)
    have HKK:=Lib.hid (And.intro hS' hbS)
    clear hIk hS' hbS hCk hwf
    (try rw [show ((3:Nat):Int)=3 from rfl]);(try rw [show ((3:Nat):Int)=3 from rfl])
    go_wp2_with fail
    refine (field_yes (bf:=bf) (i:=3) (by omega)).mono ?_
    rintro er w5 ⟨rfl,rfl⟩
    go_wp2_with fail
    refine HCALL.out.mono ?_
    rintro er w6 ⟨rfl,S2,hI2,hr2,hc2,hs2⟩
    have HI2:=Lib.hid hI2
    have HR2:=Lib.hid hr2
    have HC2:=Lib.hid hc2
    have HS2:=Lib.hid hs2
    clear hI2 hr2 hc2 hs2
    go_wp2_with fail
    refine (span0 _).mono ?_
    rintro er w7 ⟨rfl,rfl⟩
    go_wp2_with fail
    go_roundw
    case rel =>
     refine ⟨4,by omega,rfl,rfl,⟨S2,?_,fun b hb=>?_,fun hm=>?_⟩,HR2,?_⟩
     ·have:=HI2.out
      rw [show (fun i=>(∃ j,j<3∧dtop j i)∨dtop 3 i)=fun i=>∃ j,j<4∧dtop j i from funext fun i=>propext ⟨fun h=>by
        rcases h with ⟨j,a,b⟩ | a
        ·exact ⟨j,by omega,b⟩
        ·exact ⟨3,by omega,a⟩,fun h=>by
        obtain ⟨j,a,b⟩:=h
        by_cases e:j=3
        ·subst e;exact .inr b
        ·exact .inl ⟨j,by omega,b⟩⟩] at this
      exact this
     ·rcases HS2.out b hb with a | a
      ·exact HKK.out.1 b a
      ·right;have:=HGS.out.size;omega
     ·rcases HS2.out bf hm with a | a
      ·exact HKK.out.2 a
      ·have:=(Array.getElem?_eq_some_iff.1 HRS.out).1;omega
     ·refine HGS.out.trans HC2.out fun b hb=>?_
      rcases List.mem_cons.1 hb with rfl | hb
      ·left;simp
      ·rcases HKK.out.1 b hb with a | a
       ·left;simp [a]
       ·exact .inr a
    case measure=>simp [intOf]
   ·-- 4
    have hbk:bs 4=4:=rfl
    rw [hbk]
    obtain ⟨S',hIk,hS',hbS⟩:=HIS.out
    have hCk:(upC g C 4)[11]?=some (.int .i64 (f 4:Nat)):=(upC_get g C (fun j hj=>by omega)).trans (HCF.out 4 (by omega))
    have hwf:WF bf K cap f g I Dp 4 1 (dtop 4):=(walk_one V hg (p:=4) (.inl rfl) (by omega))
    have HCALL:=Lib.hid (hwf _ _ _ bf 11 _ _ hIk (fun i hi hx=>by
     obtain ⟨j,hj,hx⟩:=hx
     have:=dtop_dis (by omega) (by omega) hi hx;omega) HRS.out hCk ⟨hbS,HDP.out,fun _=>by omega,Nat.le_refl _⟩)
    have HKK:=Lib.hid (And.intro hS' hbS)
    clear hIk hS' hbS hCk hwf
    (try rw [show ((4:Nat):Int)=4 from rfl]);(try rw [show ((4:Nat):Int)=4 from rfl])
    go_wp2_with fail
    refine (field_yes (bf:=bf) (i:=4) (by omega)).mono ?_
    rintro er w5 ⟨rfl,rfl⟩
    go_wp2_with fail
    refine HCALL.out.mono ?_
    rintro er w6 ⟨rfl,S2,hI2,hr2,hc2,hs2⟩
    have HI2:=Lib.hid hI2
    have HR2:=Lib.hid hr2
    have HC2:=Lib.hid hc2
    have HS2:=Lib.hid hs2
    clear hI2 hr2 hc2 hs2
    go_wp2_with fail
    refine (span1 _).mono ?_
    rintro er w7 ⟨rfl,rfl⟩
    go_wp2_with fail
    go_roundw
    case rel =>
     refine ⟨5,by omega,rfl,rfl,⟨S2,?_,fun b hb=>?_,fun hm=>?_⟩,HR2,?_⟩
     ·have:=HI2.out
      rw [show (fun i=>(∃ j,j<4∧dtop j i)∨dtop 4 i)=fun i=>∃ j,j<5∧dtop j i from funext fun i=>propext ⟨fun h=>by
        rcases h with ⟨j,a,b⟩ | a
        ·exact ⟨j,by omega,b⟩
        ·exact ⟨4,by omega,a⟩,fun h=>by
        obtain ⟨j,a,b⟩:=h
        by_cases e:j=4
        ·subst e;exact .inr b
        ·exact .inl ⟨j,by omega,b⟩⟩] at this
      exact this
     ·rcases HS2.out b hb with a | a
      ·exact HKK.out.1 b a
      ·right;have:=HGS.out.size;omega
     ·rcases HS2.out bf hm with a | a
      ·exact HKK.out.2 a
      ·have:=(Array.getElem?_eq_some_iff.1 HRS.out).1;omega
     ·refine HGS.out.trans HC2.out fun b hb=>?_
      rcases List.mem_cons.1 hb with rfl | hb
      ·left;simp
      ·rcases HKK.out.1 b hb with a | a
       ·left;simp [a]
       ·exact .inr a
    case measure=>simp [intOf]
   ·-- 5
    have hbk:bs 5=12:=rfl
    rw [hbk]
    obtain ⟨S',hIk,hS',hbS⟩:=HIS.out
    have hCk:(upC g C 5)[12]?=some (.int .i64 (f 5:Nat)):=(upC_get g C (fun j hj=>by omega)).trans (HCF.out 5 (by omega))
    have hwf:WF bf K cap f g I Dp 5 2 (dtop 5):=(walk_two V hg)
    have HCALL:=Lib.hid (hwf _ _ _ bf 12 _ _ hIk (fun i hi hx=>by
     obtain ⟨j,hj,hx⟩:=hx
     have:=dtop_dis (by omega) (by omega) hi hx;omega) HRS.out hCk ⟨hbS,HDP.out,fun _=>by omega,Nat.le_refl _⟩)
    have HKK:=Lib.hid (And.intro hS' hbS)
    clear hIk hS' hbS hCk hwf
    (try rw [show ((5:Nat):Int)=5 from rfl]);(try rw [show ((12:Nat):Int)=12 from rfl])
    go_wp2_with fail
    refine (field_yes (bf:=bf) (i:=5) (by omega)).mono ?_
    rintro er w5 ⟨rfl,rfl⟩
    go_wp2_with fail
    refine HCALL.out.mono ?_
    rintro er w6 ⟨rfl,S2,hI2,hr2,hc2,hs2⟩
    have HI2:=Lib.hid hI2
    have HR2:=Lib.hid hr2
    have HC2:=Lib.hid hc2
    have HS2:=Lib.hid hs2
    clear hI2 hr2 hc2 hs2
    go_wp2_with fail
    refine (span2 _).mono ?_
    rintro er w7 ⟨rfl,rfl⟩
    go_wp2_with fail
    go_roundw
    case rel =>
     refine ⟨6,by omega,rfl,rfl,⟨S2,?_,fun b hb=>?_,fun hm=>?_⟩,HR2,?_⟩
     ·have:=HI2.out
      rw [show (fun i=>(∃ j,j<5∧dtop j i)∨dtop 5 i)=fun i=>∃ j,j<6∧dtop j i from funext fun i=>propext ⟨fun h=>by
        rcases h with ⟨j,a,b⟩ | a
        ·exact ⟨j,by omega,b⟩
        ·exact ⟨5,by omega,a⟩,fun h=>by
        obtain ⟨j,a,b⟩:=h
        by_cases e:j=5
        ·subst e;exact .inr b
        ·exact .inl ⟨j,by omega,b⟩⟩] at this
      exact this
     ·rcases HS2.out b hb with a | a
      ·exact HKK.out.1 b a
      ·right;have:=HGS.out.size;omega
     ·rcases HS2.out bf hm with a | a
      ·exact HKK.out.2 a
      ·have:=(Array.getElem?_eq_some_iff.1 HRS.out).1;omega
     ·refine HGS.out.trans HC2.out fun b hb=>?_
      rcases List.mem_cons.1 hb with rfl | hb
      ·left;simp
      ·rcases HKK.out.1 b hb with a | a
       ·left;simp [a]
       ·exact .inr a
    case measure=>simp [intOf]
  ·obtain rfl:k=6:=by omega
   rw [show ((6:Nat):Int)=6 from rfl]
   go_wp2_with fail
   go_ret
   obtain ⟨S',h1,h2,h3⟩:=HIS.out
   exact ⟨rfl,S',h1,HRS.out,HGS.out,h2⟩
end
end Go.Proofs.YtkganhafbjgndaaGreatRR.V
namespace Go.Proofs.YtkganhafbjgndaaGreatRR.V
open Go.RowKit
set_option linter.unusedVariables false
set_option maxRecDepth 20000
theorem neqnil (a:Option Addr) (n c:Nat) (w:World):(binOp .neq 54 (.slice a n c) (.slice none 0 0)).run Tryz.prog w=.ok (.bool a.isSome) w:=by
 simp only [binOp]
 simp [Op.equal,Op.maxDepth,Lib.run_equalIn_slice_nil w 9999 54 3 a n c 0 0 Tryz.underlying54]
structure CI (w0:World) (p d N q bf b1 b2 B:Nat) (O:List Nat) (s:DS) (X:Secs2) (m:List Wr) (G:Nat→Prop) (f:Nat→Nat) (low:List Int) (Tx:List Nat) (D:Nat→Prop) (S:List Nat) (w:World):Prop where
 own:S=[q]
 st:∃ m',Sto w0 w p d O N s X q m'∧CutI N G f (cutF B f) D (view X m) (view X m')∧Bud low Tx m' (cutF B f)
 c0:w.cell? ⟨bf,0,none⟩=some (.pointer (some ⟨p,0,none⟩))
 bl:bf<w.heap.size
 x1:w.heap[b1]?=some (.cells #[.int .i64 (B:Int)] 3 (0,0))
 x2:w.heap[b2]?=some (.cells #[.pointer (some ⟨bf,0,none⟩)] 81 (0,0))
section
variable {w0 w w':World} {p d N q bf b1 b2 B nn:Nat} {O:List Nat} {s:DS} {X:Secs2} {m:List Wr} {G:Nat→Prop} {y:D.Nn} {f:Nat→Nat} {C:Nat→UInt8} {low:List Int} {Tx:List Nat} {S:List Nat} {E:Nat→Prop}
theorem CI.keep (h:CI w0 p d N q bf b1 b2 B O s X m G f low Tx E S w) (hb:Below w.heap.size w w'):CI w0 p d N q bf b1 b2 B O s X m G f low Tx E S w':=by
 obtain ⟨m',a,b,c⟩:=h.st
 exact ⟨h.own,⟨m',a.below hb,b,c⟩,(hb.cell (p:=⟨bf,0,none⟩) h.bl).trans h.c0,Nat.lt_of_lt_of_le h.bl hb.size,(hb.block b1 (Array.getElem?_eq_some_iff.1 h.x1).1).trans h.x1,(hb.block b2 (Array.getElem?_eq_some_iff.1 h.x2).1).trans h.x2⟩
theorem CI.lt (h:CI w0 p d N q bf b1 b2 B O s X m G f low Tx E S w):(∀ b∈S,b<w.heap.size)∧(∀ b∈b1 :: b2 :: p :: O,b<w.heap.size)∧bf<w.heap.size:=by
 obtain ⟨m',a,_,_⟩:=h.st
 refine ⟨fun b hb=>?_,fun b hb=>?_,h.bl⟩
 ·rw [h.own] at hb;simp at hb;rw [hb];exact a.map.lt
 ·simp only [List.mem_cons] at hb
  rcases hb with rfl | rfl | rfl | hb
  ·exact (Array.getElem?_eq_some_iff.1 h.x1).1
  ·exact (Array.getElem?_eq_some_iff.1 h.x2).1
  ·exact a.st.lt
  ·exact a.ons.sit.drv.lt _ hb
theorem CI.ptr (hm:Mid N G (view X m) y f) (h:CI w0 p d N q bf b1 b2 B O s X m G f low Tx E S w) {i:Nat} (hp:isPx i) (hd:¬ E i) (h0:f i≠0) :
  Calls Tryz.prog 168 #[.pointer (some ⟨bf,0,none⟩),.int .i64 (f i:Nat)] w (PtrR w fun j=>f (kid i j)):=by
 obtain ⟨m',a,b,_⟩:=h.st
 have hr:=hm.rng i (px_lt hp)
 obtain ⟨h1,h2⟩:=hm.rep.some_ i hp h0
 have e:=b.yet i hp hd h0
 refine (pointers_yes a h.c0 (by omega) (by omega) (by rw [e];exact h1)).mono ?_
 rintro er w1 ⟨L,rfl,hl,hL,hb⟩
 refine ⟨L,rfl,?_,hL,hb⟩
 unfold Lst at hl ⊢
 rw [hl,e,pl_congr h2]
theorem CI.set (h:CI w0 p d N q bf b1 b2 B O s X m G f low Tx E S w) {ga oa:Nat} {C:Array Value} {t:TypeId} (ho:Aok bf (b1 :: b2 :: p :: O) S ga oa) (hrow:w.heap[ga]?=some (.cells C t (0,0))) (v:Value) (hb0:w0.heap.size≤bf):CI w0 p d N q bf b1 b2 B O s X m G f low Tx E S (w.setCell ⟨ga,oa,none⟩ v):=by
 obtain ⟨m',a,b,c⟩:=h.st
 obtain ⟨o1,o2,o3,o4⟩:=ho
 have h0:w0.heap.size≤ga:=by omega
 simp only [List.mem_cons,not_or] at o2
 rw [h.own] at o1
 simp only [List.mem_singleton] at o1
 have hne:∀ k,k≠ga→(w.setCell ⟨ga,oa,none⟩ v).heap[k]?=w.heap[k]?:=fun k hk=>Below.heap_setCell _ _ _ _ (by exact hk)
 refine ⟨h.own,⟨m',a.keep_ (fun k hk=>hne k (by rcases hk with hk | hk | hk;exact fun e=>o2.2.2.2 (e ▸ hk);exact fun e=>o2.2.2.1 (e.symm.trans hk);exact fun e=>o1 (e.symm.trans hk))) ((Below.refl _ _).setCell (p:=⟨ga,oa,none⟩) h0 _),b,c⟩,?_,by simp;exact h.bl,(hne b1 (Ne.symm o2.1)).trans h.x1,(hne b2 (Ne.symm o2.2.1)).trans h.x2⟩
 by_cases e:ga=bf
 ·have:=o3 e
  subst e
  refine (F.cell_in (F.heap_set hrow oa v) 0).trans ?_
  rw [Array.getElem?_setIfInBounds_ne (by omega),← F.cell_in hrow 0]
  exact h.c0
 ·exact (World.cell?_of_block (a:=⟨bf,0,none⟩) (hne bf (Ne.symm e))).trans h.c0
set_option maxHeartbeats 4000000 in
theorem cutv_leaf {ga oa ix L:Nat} {C:Array Value} {t:TypeId} {h:Nat→Nat} (hm:Mid N G (view X m) y f) (hI:CI w0 p d N q bf b1 b2 B O s X m G f low Tx E S w) (hi:ix<86) (hd:¬ E ix) (h0:f ix≠0) (hrow:w.heap[ga]?=some (.cells C t (0,0))) (hC:C[oa]?=some (.int .i64 (f ix:Nat))) (ho:Aok bf (b1 :: b2 :: p :: O) S ga oa) (hb0:w0.heap.size≤bf) (hg:cutF B f ix=0) (hnb:¬ bix ix<B) :
  Calls Tryz.prog 179 #[.pointer (some ⟨ga,oa,none⟩),.int .i64 (bix ix:Nat),.slice none 0 0,.pointer (some ⟨b1,0,none⟩),.pointer (some ⟨b2,0,none⟩)] w (VR (CI w0 p d N q bf b1 b2 B O s X m G f low Tx) (fun i=>E i∨i=ix) S ga oa (cutF B f ix) C t w):=by
 have hr:=hm.rng ix hi
 have hgl:ga<w.heap.size:=(Array.getElem?_eq_some_iff.1 hrow).1
 have hga:w.cell? ⟨ga,oa,none⟩=some (.int .i64 (f ix:Nat)):=(F.cell_in hrow oa).trans hC
 have c1:w.cell? ⟨b1,0,none⟩=some (.int .i64 (B:Int)):=cell_of_row _ _ 0 _ _ _ hI.x1
 have HGA:=Lib.hid hga
 have HM:=Lib.hid hm
 have HI:=Lib.hid hI
 have HROW:=Lib.hid hrow
 have HO:=Lib.hid ho
 have HG:=Lib.hid hg
 have HD:=Lib.hid hd
 have H0:=Lib.hid h0
 have HIX:=Lib.hid hi
 have HOWN:Hid (S=[q]):=hI.own
 have hC2:Hid (w.drew.cell? ⟨b2,0,none⟩=some (.pointer (some ⟨bf,0,none⟩))∧w.drew.cell? ⟨bf,0,none⟩=some (.pointer (some ⟨p,0,none⟩))∧w.drew.cell? ⟨ga,oa,none⟩=some (.int .i64 (f ix:Nat))):=⟨cell_of_row _ _ 0 _ _ _ hI.x2,hI.c0,hga⟩
 obtain ⟨m',hs,hcut,hbud⟩:=hI.st
 have hroom:=hbud.room hs.mok.rise (k:=34) (.inl hbud.m34)
 have HGV:=Lib.hid (give_yes (hs.below (Below.refl _ w).drew) (n:=f ix) (by omega) (by omega) hroom)
 have HST:=Lib.hid (And.intro hs (And.intro hcut hbud))
 have hnq:ga≠q∧bf≠q∧b1≠q∧b2≠q:=by
  have nq:∀ k,(∃ cs t,w.heap[k]?=some (Obj.cells cs t (0,0)))→k≠q:=fun k hk e=>by
   obtain ⟨cs,t,hk⟩:=hk
   obtain ⟨es,clock,hb,_⟩:=hs.map
   rw [e,hb] at hk
   cases hk
  refine ⟨nq _ ⟨_,_,hrow⟩,fun e=>?_,nq _ ⟨_,_,hI.x1⟩,nq _ ⟨_,_,hI.x2⟩⟩
  have:=hI.c0
  rw [e,MapAt.nocell hs.map] at this
  cases this
 have HB0:=Lib.hid hb0
 have hbl:=hI.bl
 have HL:=Lib.hid (show decide ((bix ix:Nat)<(B:Nat))=false from by simpa using hnb)
 clear hm hI hrow ho hg hd h0 hs hcut hbud hroom hi hb0 hga
 generalize hbx:bix ix=bx at *
 clear hbx
 go_enter Tryz.func179,Tryz.ntmps179
 have hlt:decide ((bx:Int)<(B:Int))=false:=by have:=HL.out;simp at this ⊢;omega
 have hnn:=neqnil none 0 0 w
 rw [show (none:Option Addr).isSome=false from rfl] at hnn
 go_upto_region 6 with fail
 clear c1
 go_region_held3 (fun W=>W.cell? ⟨b2,0,none⟩=some (.pointer (some ⟨bf,0,none⟩))∧W.cell? ⟨bf,0,none⟩=some (.pointer (some ⟨p,0,none⟩))∧W.cell? ⟨ga,oa,none⟩=some (.int .i64 (f ix:Nat))) (first | with_reducible exact hC2.out | with_reducible exact hC5.out)
  (first
  | (go_at_call 182;(with_reducible refine HGV.out.mono ?_);rintro er w5 ⟨rfl,hs5,hc5⟩;have HS5:=Lib.hid hs5;have HC5:=Lib.hid hc5;have hblk:∀ k o,k<w.heap.size→k≠q→w5.cell? ⟨k,o,none⟩=w.drew.cell? ⟨k,o,none⟩:=fun k o h1 h2=>World.cell?_of_block (a:=⟨k,o,none⟩) (hc5.block k h1 (by simp;exact h2));have hC5:Hid (w5.cell? ⟨b2,0,none⟩=some (.pointer (some ⟨bf,0,none⟩))∧w5.cell? ⟨bf,0,none⟩=some (.pointer (some ⟨p,0,none⟩))∧w5.cell? ⟨ga,oa,none⟩=some (.int .i64 (f ix:Nat))):=⟨(hblk b2 0 (Array.getElem?_eq_some_iff.1 HI.out.x2).1 hnq.2.2.2).trans hC2.out.1,(hblk bf 0 hbl hnq.2.1).trans hC2.out.2.1,(hblk ga oa hgl hnq.1).trans hC2.out.2.2⟩;clear hs5 hc5 hblk))
 have HCUT:Hid (CutI N G f (cutF B f) (fun i=>E i∨i=ix) (view X m) (view X (ins ((34:Nat):Int) (K.setb (view X m' 34) (f ix) false) m'))):=CutI.give HM.out HST.out.2.1 HIX.out HD.out H0.out HG.out fun k=>view_ins X m' 34 _ k
 have hrow5:w5.heap[ga]?=some (.cells C t (0,0)):=(HC5.out.block ga hgl (by simp;exact hnq.1)).trans HROW.out
 have HI5:Hid (CI w0 p d N q bf b1 b2 B O s X m G f low Tx (fun i=>E i∨i=ix) S w5):=⟨HI.out.own,⟨_,HS5.out,HCUT.out,HST.out.2.2.ins _ (.inl HST.out.2.2.m34)⟩,hC5.out.2.1,Nat.lt_of_lt_of_le hbl HC5.out.size,
  (HC5.out.block b1 (Array.getElem?_eq_some_iff.1 HI.out.x1).1 (by simp;exact hnq.2.2.1)).trans HI.out.x1,(HC5.out.block b2 (Array.getElem?_eq_some_iff.1 HI.out.x2).1 (by simp;exact hnq.2.2.2)).trans HI.out.x2⟩
 have HROW5:=Lib.hid hrow5
 have cA:=hC5.out.2.2
 have fA:w5.frozen? ⟨ga,oa,none⟩=false:=F.free_in hrow5 oa
 clear hrow5
 go_wp2_with fail
 go_ret
 refine ⟨rfl,S,HI5.out.set HO.out HROW5.out _ HB0.out,?_,?_,fun b hb=>.inl hb⟩
 ·rw [HG.out];exact F.heap_set HROW5.out oa _
 ·refine (((Chg.refl _ w).drew.tr (HC5.out.mono fun b hb=>?_))).setCell (p:=⟨ga,oa,none⟩) (.inl (by simp)) _
  left;rw [HOWN.out];simp at hb;simp [hb]
set_option maxHeartbeats 4000000 in
theorem cutv_in {ga oa ix L:Nat} {C:Array Value} {t:TypeId} {h:Nat→Nat} (hm:Mid N G (view X m) y f) (hI:CI w0 p d N q bf b1 b2 B O s X m G f low Tx E S w) (hi:ix<86) (hd:¬ E ix) (h0:f ix≠0) (hrow:w.heap[ga]?=some (.cells C t (0,0))) (hC:C[oa]?=some (.int .i64 (f ix:Nat))) (ho:Aok bf (b1 :: b2 :: p :: O) S ga oa) (hb0:w0.heap.size≤bf) (hg:cutF B f ix=0) (hl:Lst w L h) (hz:∀ j,j<8→h j=0) :
  Calls Tryz.prog 179 #[.pointer (some ⟨ga,oa,none⟩),.int .i64 (bix ix:Nat),.slice (some ⟨L,0,none⟩) 8 8,.pointer (some ⟨b1,0,none⟩),.pointer (some ⟨b2,0,none⟩)] w (VR (CI w0 p d N q bf b1 b2 B O s X m G f low Tx) (fun i=>E i∨i=ix) S ga oa (cutF B f ix) C t w):=by
 have hr:=hm.rng ix hi
 have hgl:ga<w.heap.size:=(Array.getElem?_eq_some_iff.1 hrow).1
 have hga:w.cell? ⟨ga,oa,none⟩=some (.int .i64 (f ix:Nat)):=(F.cell_in hrow oa).trans hC
 have c1:w.cell? ⟨b1,0,none⟩=some (.int .i64 (B:Int)):=cell_of_row _ _ 0 _ _ _ hI.x1
 have HGA:=Lib.hid hga
 have HM:=Lib.hid hm
 have HI:=Lib.hid hI
 have HROW:=Lib.hid hrow
 have HO:=Lib.hid ho
 have HG:=Lib.hid hg
 have HD:=Lib.hid hd
 have H0:=Lib.hid h0
 have HIX:=Lib.hid hi
 have HOWN:Hid (S=[q]):=hI.own
 have hC2:Hid (w.drew.cell? ⟨b2,0,none⟩=some (.pointer (some ⟨bf,0,none⟩))∧w.drew.cell? ⟨bf,0,none⟩=some (.pointer (some ⟨p,0,none⟩))∧w.drew.cell? ⟨ga,oa,none⟩=some (.int .i64 (f ix:Nat))):=⟨cell_of_row _ _ 0 _ _ _ hI.x2,hI.c0,hga⟩
 obtain ⟨m',hs,hcut,hbud⟩:=hI.st
 have hroom:=hbud.room hs.mok.rise (k:=34) (.inl hbud.m34)
 have HGV:=Lib.hid (give_yes (hs.below (Below.refl _ w).drew) (n:=f ix) (by omega) (by omega) hroom)
 have HST:=Lib.hid (And.intro hs (And.intro hcut hbud))
 have hnq:ga≠q∧bf≠q∧b1≠q∧b2≠q:=by
  have nq:∀ k,(∃ cs t,w.heap[k]?=some (Obj.cells cs t (0,0)))→k≠q:=fun k hk e=>by
   obtain ⟨cs,t,hk⟩:=hk
   obtain ⟨es,clock,hb,_⟩:=hs.map
   rw [e,hb] at hk
   cases hk
  refine ⟨nq _ ⟨_,_,hrow⟩,fun e=>?_,nq _ ⟨_,_,hI.x1⟩,nq _ ⟨_,_,hI.x2⟩⟩
  have:=hI.c0
  rw [e,MapAt.nocell hs.map] at this
  cases this
 have HB0:=Lib.hid hb0
 have hbl:=hI.bl
 have HAN:=Lib.hid (hasI (w:=w) hl.ints (by omega) (hb:=false) ⟨fun e=>(by cases e),fun ⟨j,hj,hn⟩=>absurd (by rw [pl_getD h hj];have:=hz j hj;omega) hn⟩)
 clear hm hI hrow ho hg hd h0 hs hcut hbud hroom hi hb0 hga
 generalize hbx:bix ix=bx at *
 clear hbx
 go_enter Tryz.func179,Tryz.ntmps179
 have hnn:=neqnil (some ⟨L,0,none⟩) 8 8 w
 rw [show (some (⟨L,0,none⟩:Addr)).isSome=true from rfl] at hnn
 go_wp2_with fail
 refine HAN.out.mono ?_
 rintro er w9 ⟨rfl,rfl⟩
 go_upto_region 6 with fail
 clear c1
 go_region_held3 (fun W=>W.cell? ⟨b2,0,none⟩=some (.pointer (some ⟨bf,0,none⟩))∧W.cell? ⟨bf,0,none⟩=some (.pointer (some ⟨p,0,none⟩))∧W.cell? ⟨ga,oa,none⟩=some (.int .i64 (f ix:Nat))) (first | with_reducible exact hC2.out | with_reducible exact hC5.out)
  (first
  | (go_at_call 182;(with_reducible refine HGV.out.mono ?_);rintro er w5 ⟨rfl,hs5,hc5⟩;have HS5:=Lib.hid hs5;have HC5:=Lib.hid hc5;have hblk:∀ k o,k<w.heap.size→k≠q→w5.cell? ⟨k,o,none⟩=w.drew.cell? ⟨k,o,none⟩:=fun k o h1 h2=>World.cell?_of_block (a:=⟨k,o,none⟩) (hc5.block k h1 (by simp;exact h2));have hC5:Hid (w5.cell? ⟨b2,0,none⟩=some (.pointer (some ⟨bf,0,none⟩))∧w5.cell? ⟨bf,0,none⟩=some (.pointer (some ⟨p,0,none⟩))∧w5.cell? ⟨ga,oa,none⟩=some (.int .i64 (f ix:Nat))):=⟨(hblk b2 0 (Array.getElem?_eq_some_iff.1 HI.out.x2).1 hnq.2.2.2).trans hC2.out.1,(hblk bf 0 hbl hnq.2.1).trans hC2.out.2.1,(hblk ga oa hgl hnq.1).trans hC2.out.2.2⟩;clear hs5 hc5 hblk))
 have HCUT:Hid (CutI N G f (cutF B f) (fun i=>E i∨i=ix) (view X m) (view X (ins ((34:Nat):Int) (K.setb (view X m' 34) (f ix) false) m'))):=CutI.give HM.out HST.out.2.1 HIX.out HD.out H0.out HG.out fun k=>view_ins X m' 34 _ k
 have hrow5:w5.heap[ga]?=some (.cells C t (0,0)):=(HC5.out.block ga hgl (by simp;exact hnq.1)).trans HROW.out
 have HI5:Hid (CI w0 p d N q bf b1 b2 B O s X m G f low Tx (fun i=>E i∨i=ix) S w5):=⟨HI.out.own,⟨_,HS5.out,HCUT.out,HST.out.2.2.ins _ (.inl HST.out.2.2.m34)⟩,hC5.out.2.1,Nat.lt_of_lt_of_le hbl HC5.out.size,
  (HC5.out.block b1 (Array.getElem?_eq_some_iff.1 HI.out.x1).1 (by simp;exact hnq.2.2.1)).trans HI.out.x1,(HC5.out.block b2 (Array.getElem?_eq_some_iff.1 HI.out.x2).1 (by simp;exact hnq.2.2.2)).trans HI.out.x2⟩
 have HROW5:=Lib.hid hrow5
 have cA:=hC5.out.2.2
 have fA:w5.frozen? ⟨ga,oa,none⟩=false:=F.free_in hrow5 oa
 clear hrow5
 go_wp2_with fail
 go_ret
 refine ⟨rfl,S,HI5.out.set HO.out HROW5.out _ HB0.out,?_,?_,fun b hb=>.inl hb⟩
 ·rw [HG.out];exact F.heap_set HROW5.out oa _
 ·refine (((Chg.refl _ w).drew.tr (HC5.out.mono fun b hb=>?_))).setCell (p:=⟨ga,oa,none⟩) (.inl (by simp)) _
  left;rw [HOWN.out];simp at hb;simp [hb]
set_option maxHeartbeats 2000000 in
theorem cutv_leaf_stay {A:Addr} {bx:Nat} (h1:w.heap[b1]?=some (.cells #[.int .i64 (B:Int)] 3 (0,0))) (hb:bx<B):Calls Tryz.prog 179 #[.pointer (some A),.int .i64 (bx:Int),.slice none 0 0,.pointer (some ⟨b1,0,none⟩),.pointer (some ⟨b2,0,none⟩)] w fun e w'=>e=.returned (.int .i64 0)∧w=w':=by
 have c1:w.cell? ⟨b1,0,none⟩=some (.int .i64 (B:Int)):=cell_of_row _ _ 0 _ _ _ h1
 have hlt:decide ((bx:Int)<(B:Int))=true:=by simp;omega
 have hnn:=neqnil none 0 0 w
 rw [show (none:Option Addr).isSome=false from rfl] at hnn
 clear h1
 go_enter Tryz.func179,Tryz.ntmps179
 go_wp2_with fail
 go_ret
 exact ⟨rfl,rfl⟩
set_option maxHeartbeats 2000000 in
theorem cutv_in_stay {A:Addr} {bx L:Nat} {h:Nat→Nat} (h1:w.heap[b1]?=some (.cells #[.int .i64 (B:Int)] 3 (0,0))) (hl:Lst w L h) (hz:∃ j,j<8∧h j≠0):Calls Tryz.prog 179 #[.pointer (some A),.int .i64 (bx:Int),.slice (some ⟨L,0,none⟩) 8 8,.pointer (some ⟨b1,0,none⟩),.pointer (some ⟨b2,0,none⟩)] w fun e w'=>e=.returned (.int .i64 0)∧w=w':=by
 have c1:w.cell? ⟨b1,0,none⟩=some (.int .i64 (B:Int)):=cell_of_row _ _ 0 _ _ _ h1
 have HAN:=Lib.hid (hasI (w:=w) hl.ints (by omega) (hb:=true) ⟨fun _=>by obtain ⟨j,hj,hn⟩:=hz;exact ⟨j,hj,by rw [pl_getD h hj];omega⟩,fun _=>rfl⟩)
 have hnn:=neqnil (some ⟨L,0,none⟩) 8 8 w
 rw [show (some (⟨L,0,none⟩:Addr)).isSome=true from rfl] at hnn
 clear h1 hl hz
 go_enter Tryz.func179,Tryz.ntmps179
 go_wp2_with fail
 refine HAN.out.mono ?_
 rintro er w9 ⟨rfl,rfl⟩
 go_wp2_with fail
 go_ret
 exact ⟨rfl,rfl⟩
theorem cut_vis (hm:Mid N G (view X m) y f) (hb0:w0.heap.size≤bf) (hT:∀ p,isPx p→cutF B f p≠0→¬ (∀ j,j<8→cutF B f (kid p j)=f (kid p j))→p∈Tx) :
  Vis bf 179 #[.pointer (some ⟨b1,0,none⟩),.pointer (some ⟨b2,0,none⟩)] f (cutF B f) (CI w0 p d N q bf b1 b2 B O s X m G f low Tx) (b1 :: b2 :: p :: O) where
 ent:=enters_of Tryz.func179 (by kernel_rfl) rfl
 bel:=fun h hb=>h.keep hb
 lt:=fun h=>h.lt
 non:=fun h h1 h2=>by
  obtain ⟨m',a,b,c⟩:=h.st
  exact ⟨h.own,⟨m',a,b.none_ h1 h2,c⟩,h.c0,h.bl,h.x1,h.x2⟩
 gz:=fun hp h0 j hj=>hm.rep.none_ _ hp h0 j hj
 ptr:=fun h hp hd h0=>h.ptr hm hp hd h0
 leaf:=by
  intro D S w ga oa C t ix hi hp hI hd h0 hrow hC ho
  by_cases hb:bix ix<B
  ·have hg:cutF B f ix=f ix:=by rw [cutF_leaf B f hp,if_pos hb]
   refine (cutv_leaf_stay (A:=⟨ga,oa,none⟩) hI.x1 hb).mono ?_
   rintro e w' ⟨rfl,rfl⟩
   obtain ⟨m',a,b,c⟩:=hI.st
   refine ⟨rfl,S,⟨hI.own,⟨m',a,CutI.stay hm b hi hd (by rw [hg];exact h0) (fun hx=>absurd hx hp),c⟩,hI.c0,hI.bl,hI.x1,hI.x2⟩,?_,Chg.refl _ _,fun b hb=>.inl hb⟩
   rw [hg,set_self hC];exact hrow
  ·exact cutv_leaf (L:=0) (h:=fun _=>0) hm hI hi hd h0 hrow hC ho hb0 (by rw [cutF_leaf B f hp,if_neg hb]) hb
 inner:=by
  intro D S w ga oa C t px L h hp hI hd hk h0 hrow hC ho hl hh
  by_cases hg:cutF B f px=0
  ·refine ⟨fun i=>D i∨i=px,.inr rfl,fun _=>rfl,fun _=>rfl,fun hx=>absurd hg hx,?_⟩
   refine cutv_in hm hI (px_lt hp) hd h0 hrow hC ho hb0 hg hl fun j hj=>?_
   rw [hh j hj]
   rw [cutF_px B f hp] at hg
   by_cases ha:any8 (fun j=>cutF B f (kid px j))=true
   ·rw [if_pos ha] at hg;exact absurd hg h0
   ·exact any8_not.1 (by simpa using ha) j hj
  ·have hz:∃ j,j<8∧h j≠0:=by
    have:=hg
    rw [cutF_px B f hp] at this
    by_cases ha:any8 (fun j=>cutF B f (kid px j))=true
    ·obtain ⟨j,hj,hn⟩:=any8_iff.1 ha
     exact ⟨j,hj,by rw [hh j hj];exact hn⟩
    ·rw [if_neg ha] at this;exact absurd rfl this
   have hst:=cutv_in_stay (A:=⟨ga,oa,none⟩) (bx:=bix px) (b2:=b2) hI.x1 hl hz
   have hset:w.heap[ga]?=some (.cells (C.setIfInBounds oa (.int .i64 (cutF B f px:Nat))) t (0,0)):=by rw [cutF_ne hg,set_self hC];exact hrow
   by_cases heq:∀ j,j<8→cutF B f (kid px j)=f (kid px j)
   ·refine ⟨fun i=>D i∨i=px,.inr rfl,fun _=>rfl,fun _=>rfl,fun _ hx=>absurd heq hx,hst.mono ?_⟩
    rintro e w' ⟨rfl,rfl⟩
    obtain ⟨m',a,b,c⟩:=hI.st
    exact ⟨rfl,S,⟨hI.own,⟨m',a,CutI.stay hm b (px_lt hp) hd hg (fun _=>heq),c⟩,hI.c0,hI.bl,hI.x1,hI.x2⟩,hset,Chg.refl _ _,fun b hb=>.inl hb⟩
   ·refine ⟨D,.inl rfl,fun hx=>absurd hx hg,fun hx=>absurd hx heq,fun _ _=>rfl,hst.mono ?_⟩
    rintro e w' ⟨rfl,rfl⟩
    exact ⟨rfl,S,hI,hset,Chg.refl _ _,fun b hb=>.inl hb⟩
 put:=by
  intro D S w px L h hp hI hd hk h0 hg heq hl hh hLS
  obtain ⟨m',a,b,c⟩:=hI.st
  have hr:=hm.rng px (px_lt hp)
  have hTx:=hT px hp hg heq
  have e0:=cutF_ne hg
  have hok:∀ j,j<8→okn_ (h j):=fun j hj=>by
   rw [hh j hj]
   rcases cutF_or B f (kid px j) with e | e
   ·rw [e];exact hm.okn (kid_lt hp hj).2
   ·exact .inl e
  have hen:en h=en fun j=>cutF B f (kid px j):=by unfold en;rw [pl_congr hh]
  have hkey:((f px:Nat):Int)∈low∨∃ i∈Tx,cutF B f i≠0∧((f px:Nat):Int)=(cutF B f i:Int):=.inr ⟨px,hTx,hg,by rw [e0]⟩
  have nq:∀ k,(∃ cs t,w.heap[k]?=some (Obj.cells cs t (0,0)))→k≠q:=fun k hk e=>by
   obtain ⟨cs,t,hk⟩:=hk
   obtain ⟨es,clock,hb,_⟩:=a.map
   rw [e,hb] at hk
   cases hk
  have nbf:bf≠q:=fun e=>by
   have:=hI.c0
   rw [e,MapAt.nocell a.map] at this
   cases this
  refine (setPointers_yes a hI.c0 hI.bl (by omega) (by omega) hl hok (c.room a.mok.rise hkey)).mono ?_
  rintro e w' ⟨rfl,hs,hc⟩
  have hlt:=hI.lt
  refine ⟨rfl,S,⟨hI.own,⟨_,hs,CutI.puts hm b hp hd hg (fun k=>by rw [← hen];exact view_ins X m' _ _ k),c.ins _ hkey⟩,?_,Nat.lt_of_lt_of_le hI.bl hc.size,?_,?_⟩,?_,fun b hb=>.inl hb⟩
  ·exact (World.cell?_of_block (a:=⟨bf,0,none⟩) (hc.block bf hI.bl (by simp;exact nbf))).trans hI.c0
  ·exact (hc.block b1 (Array.getElem?_eq_some_iff.1 hI.x1).1 (by simp;exact nq _ ⟨_,_,hI.x1⟩)).trans hI.x1
  ·exact (hc.block b2 (Array.getElem?_eq_some_iff.1 hI.x2).1 (by simp;exact nq _ ⟨_,_,hI.x2⟩)).trans hI.x2
  ·rw [hI.own];exact hc
def setN (y:D.Nn) (g:Nat→Nat):Nat→D.Nn
 | 0=>y
 | k+1=>setp (setN y g k) k (g k)
theorem setN_nu (y:D.Nn) (g:Nat→Nat):∀ k,Nu y (setN y g k)
 | 0=>Nu.refl y
 | k+1=>(setN_nu y g k).trans (setp_nums _ _ _)
theorem setN_ptr (y:D.Nn) (g:Nat→Nat):∀ k,k≤6→∀ i,i<k→(setN y g k).ptr6 i=g i
 | 0,_,i,hi=>absurd hi (by omega)
 | k+1,hk,i,hi=>by
  rw [setN,ptr_setp _ (by omega) (by omega)]
  by_cases e:i=k
  ·rw [if_pos e,e]
  ·rw [if_neg e];exact setN_ptr y g k (by omega) i (by omega)
theorem upC_fc (p nn:Nat) (y:D.Nn) (g:Nat→Nat):∀ k,k≤6→upC g (fc p nn y).toArray k=(fc p nn (setN y g k)).toArray
 | 0,_=>rfl
 | k+1,hk=>by
  rw [upC,upC_fc p nn y g k (by omega),setN]
  generalize setN y g k=z
  match k,hk with
  | 0,_=>rfl
  | 1,_=>rfl
  | 2,_=>rfl
  | 3,_=>rfl
  | 4,_=>rfl
  | 5,_=>rfl
def CutQ (w0 w:World) (p d N q bf nn:Nat) (O:List Nat) (s:DS) (X:Secs2) (m:List Wr) (G:Nat→Prop) (y:D.Nn) (f:Nat→Nat) (C:Nat→UInt8) (low:List Int) (Tx:List Nat) (B:Nat) (e:Ending) (w':World):Prop :=
 e=.returned (.int .i64 0)∧∃ m' y',Op w0 w' p d N q bf nn O s X m' G y' (cutF B f) (fun i=>if i<128 * B then C i else 0) low Tx∧Fr f (view X m) (view X m')∧Nu y y'∧(∀ p,isPx p→cutF B f p≠0→∃ j,j<8∧cutF B f (kid p j)≠0)∧Chg [q,bf] w w'
set_option maxHeartbeats 2000000 in
theorem cut_yes (h:Rd w0 w p d N q bf nn O s X m G y f C) (hbf:bf∉O∧bf≠p∧bf≠q∧w0.heap.size≤bf) (hbud:Bud low Tx m (cutF B f)) (hT:∀ p,isPx p→cutF B f p≠0→¬ (∀ j,j<8→cutF B f (kid p j)=f (kid p j))→p∈Tx) :
  Calls Tryz.prog 150 #[.pointer (some ⟨bf,0,none⟩),.int .i64 (B:Int)] w (CutQ w0 w p d N q bf nn O s X m G y f C low Tx B):=by
 obtain ⟨a0,a1,a2,a3⟩:=D.box2 w (Obj.cells #[.pointer (some ⟨bf,0,none⟩)] 81) (Obj.cells #[.int .i64 (B:Int)] 3)
 have H:=Lib.hid h
 have HBF:=Lib.hid hbf
 have HB2:=Lib.hid a2
 have hW:w.heap.size+1<((w.alloc (Obj.cells #[.pointer (some ⟨bf,0,none⟩)] 81)).alloc (Obj.cells #[.int .i64 (B:Int)] 3)).heap.size:=by omega
 have hR:=h.below a2
 have HI:Hid (CI w0 p d N q bf (w.heap.size+1) w.heap.size B O s X m G f low Tx (fun _=>False) [q] ((w.alloc (Obj.cells #[.pointer (some ⟨bf,0,none⟩)] 81)).alloc (Obj.cells #[.int .i64 (B:Int)] 3))) :=
  ⟨rfl,⟨m,hR.sto,CutI.start h.mid _,hbud⟩,hR.fil.c0,hR.fil.lt,a1,a0⟩
 have hbw:=h.fil.lt
 have HW:=Lib.hid (walk_all (cut_vis (w0:=w0) (p:=p) (d:=d) (N:=N) (q:=q) (bf:=bf) (b1:=w.heap.size+1) (b2:=w.heap.size) (B:=B) (O:=O) (s:=s) (X:=X) (low:=low) h.mid hbf.2.2.2 hT) (fun i hi=>cutF_zero hi) HI.out hR.fil (fun i hi=>by
   have:=hR.fil.ptr hi
   rw [F.cell_in hR.fil (7+i),h.mid.rep.top i hi] at this
   exact this) (by simp;exact hbf.2.2.1) (by simp;exact ⟨by omega,by omega,hbf.2.1,hbf.1⟩))
 have c0:((w.alloc (Obj.cells #[.pointer (some ⟨bf,0,none⟩)] 81)).alloc (Obj.cells #[.int .i64 (B:Int)] 3)).cell? ⟨w.heap.size,0,none⟩=some (.pointer (some ⟨bf,0,none⟩)):=cell_of_row _ _ 0 _ _ _ a0
 clear h hbf hbud hT a0 a1 a2 a3 hR
 go_enter Tryz.func150,Tryz.ntmps150
 go_upto_region 1 with fail
 generalize (w.alloc (Obj.cells #[.pointer (some ⟨bf,0,none⟩)] 81)).alloc (Obj.cells #[.int .i64 (B:Int)] 3)=W at *
 go_wp2_with fail
 refine HW.out.mono ?_
 rintro e w2 ⟨rfl,S',hI,hrow,hc,hs⟩
 have HI2:=Lib.hid hI
 have HRW:=Lib.hid hrow
 have HC2:=Lib.hid ((Chg.of_below HB2.out).tr (hc.mono (O':=[q,bf]) fun b hb=>by simp at hb;left;simp;omega))
 clear hI hrow hc hs c0
 go_wp2_with fail
 go_ret
 obtain ⟨m',hs',hcut,hbud'⟩:=HI2.out.st
 obtain ⟨e1,e2,e3,e4⟩:=CutI.end_ (y':=setN y (cutF B f) 6) H.out.mid H.out.con hcut (fun i hi=>dtop_all hi) (fun i hi=>setN_ptr y _ 6 (by omega) i hi)
 have hfil:Fil w2 bf p nn (setN y (cutF B f) 6):=by
  have:=HRW.out
  rw [upC_fc p nn y _ 6 (by omega)] at this
  exact this
 exact ⟨rfl,m',_,⟨hs',hfil,e1,e2,hbud',HBF.out.1,HBF.out.2.1,HBF.out.2.2.1,HBF.out.2.2.2⟩,e3,setN_nu y _ 6,e4,HC2.out⟩
end
end Go.Proofs.YtkganhafbjgndaaGreatRR.V
