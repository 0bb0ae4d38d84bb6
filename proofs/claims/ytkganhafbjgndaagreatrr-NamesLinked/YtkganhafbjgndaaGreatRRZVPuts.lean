/- fill, Write. -/
import Derived.Test.YtkganhafbjgndaaGreatRRZVBytes
namespace Go.Proofs.YtkganhafbjgndaaGreatRR.V
open Go.RowKit
set_option linter.unusedVariables false
set_option maxRecDepth 20000
def ovr (C:Nat→UInt8) (a:Nat) (l:List UInt8) (n:Nat):Nat→UInt8:=fun i=>if a≤i∧i<a+n then l[i - a]?.getD 0 else C i
theorem ovr_zero (C:Nat→UInt8) (a:Nat) (l:List UInt8):ovr C a l 0=C:=by funext i;unfold ovr;rw [if_neg (by omega)]
theorem splice_blk (C:Nat→UInt8) {a u b lo d:Nat} {l:List UInt8} (h:128 * b+lo=a+u) (hd:lo+d≤128) (hl:u+d≤l.length):splice (blkL (ovr C a l u) b) lo ((l.drop u).take d)=blkL (ovr C a l (u+d)) b:=by
 apply List.ext_getElem?
 intro i
 unfold splice
 have l1:((l.drop u).take d).length=d:=by rw [List.length_take,List.length_drop];omega
 have l2:((blkL (ovr C a l u) b).take lo).length=lo:=by rw [List.length_take,blkL_len];omega
 by_cases hi:i<128
 ·rw [blkL_get _ _ hi]
  by_cases h1:i<lo
  ·rw [List.getElem?_append_left (by rw [l2];exact h1),List.getElem?_take,if_pos h1,blkL_get _ _ hi]
   congr 1
   unfold ovr
   by_cases h2:a≤128 * b+i∧128 * b+i<a+u
   ·rw [if_pos h2,if_pos (by omega)]
   ·rw [if_neg h2,if_neg (by omega)]
  ·by_cases h3:i<lo+d
   ·rw [List.getElem?_append_right (by rw [l2];omega),l2,List.getElem?_append_left (by rw [l1];omega),List.getElem?_take,if_pos (by omega),List.getElem?_drop]
    unfold ovr
    rw [if_pos (by omega),show 128 * b+i - a=u+(i - lo) by omega,List.getElem?_eq_getElem (by omega)]
    rfl
   ·rw [List.getElem?_append_right (by rw [l2];omega),l2,List.getElem?_append_right (by rw [l1];omega),l1,List.getElem?_drop,show lo+d+(i - lo - d)=i by omega,blkL_get _ _ hi]
    congr 1
    unfold ovr
    by_cases h2:a≤128 * b+i∧128 * b+i<a+u
    ·rw [if_pos h2,if_pos (by omega)]
    ·rw [if_neg h2,if_neg (by omega)]
 ·rw [List.getElem?_eq_none (by rw [List.length_append,List.length_append,l2,l1,List.length_drop,blkL_len];omega),List.getElem?_eq_none (by rw [blkL_len];omega)]
section
variable {w0 w w1 w2 w':World} {p d N q bf nn:Nat} {O:List Nat} {s:DS} {X:Secs2} {m:List Wr} {G:Nat→Prop} {y:D.Nn} {f:Nat→Nat} {C:Nat→UInt8} {low:List Int} {Tx:List Nat}
theorem btail {w:World} {M:Nat→Prop} {n c k:Nat} {A:Option Addr} {l:List UInt8} (h:Bts w M A n c l) (hk:k≤n):Bts w M (if c=k then A else A.map (·.add k)) (n - k) (c - k) (l.drop k):=by
 have h1:=h.len
 have h2:=h.cap
 have h3:=h.lim
 refine ⟨by rw [List.length_drop];omega,by omega,by omega,fun h0=>?_⟩
 obtain ⟨b,off,e,hb,hc⟩:=h.at_ (by omega)
 rw [if_neg (by omega),e]
 refine ⟨b,off+k,by rw [Option.map_some,Addr.add_lit],hb,fun j v hj=>?_⟩
 have:=hc (k+j) v (by rw [bc,List.getElem?_map] at hj ⊢;rw [List.getElem?_drop] at hj;exact hj)
 rw [← this]
 congr 2
 omega
def Dat (w:World) (M:Nat→Prop) (v:Value) (l:List UInt8):Prop:=∃ A n c,v=.slice A n c∧Bts w M A n c l
def FSt (w0 wr:World) (p d N q bf nn:Nat) (O:List Nat) (s:DS) (X:Secs2) (m:List Wr) (G:Nat→Prop) (y:D.Nn) (f:Nat→Nat) (C:Nat→UInt8) (low:List Int) (Tx:List Nat) (a:Nat) (l:List UInt8) (n k:Nat):Prop :=
 ∃ fk mk yk,Op w0 wr p d N q bf nn O s X mk G yk fk (ovr C a l (up a n k)) low Tx∧Fr fk (view X m) (view X mk)∧Ext f fk∧(∀ i,fk i≠0→f i≠0∨∃ j,j<T.np a n∧i∈path (nb a j))∧(∀ j,j<k→fk (ixb (nb a j))≠0)∧Nu y yk
def FNo (w0 wr:World) (p d N q bf nn:Nat) (O:List Nat) (s:DS) (X:Secs2) (m:List Wr) (G:Nat→Prop) (f:Nat→Nat) (low:List Int) (Tx:List Nat) (a n:Nat):Prop :=
 ∃ fk mk yk Ck,Op w0 wr p d N q bf nn O s X mk G yk fk Ck low Tx∧K.first (view X mk 34) 43 (N - 43)=none∧Ext f fk∧(∀ i,fk i≠0→f i≠0∨∃ j,j<T.np a n∧i∈path (nb a j))∧(∃ j,j<T.np a n∧∃ i∈path (nb a j),fk i=0)
def FilQ (w0 w:World) (p d N q bf nn:Nat) (O:List Nat) (s:DS) (X:Secs2) (m:List Wr) (G:Nat→Prop) (y:D.Nn) (f:Nat→Nat) (C:Nat→UInt8) (low:List Int) (Tx:List Nat) (a:Nat) (l:List UInt8) (n:Nat) (e:Ending) (w':World):Prop :=
 (e=.returned (.int .i64 0)∧FSt w0 w' p d N q bf nn O s X m G y f C low Tx a l n (T.np a n)∧Chg [q,bf] w w')∨(e=.returned (.int .i64 10)∧FNo w0 w' p d N q bf nn O s X m G f low Tx a n∧Chg [q,bf] w w')
set_option maxHeartbeats 4000000 in
theorem fill_yes {a n c:Nat} {A:Option Addr} {l:List UInt8} {M:Nat→Prop} (h:Op w0 w p d N q bf nn O s X m G y f C low Tx) (hn:0<n) (han:a+n≤9728) (hd:Bts w M A n c l) (hM:∀ b,M b→b<w.heap.size∧b≠q∧b≠bf)
  (hx:∀ j,j<T.np a n→∀ i∈path (nb a j),i∈Tx) :
  Calls Tryz.prog 43 #[.pointer (some ⟨bf,0,none⟩),.int .i64 (a:Int),.slice A n c] w (FilQ w0 w p d N q bf nn O s X m G y f C low Tx a l n):=by
 have H:=Lib.hid h
 have HX:=Lib.hid hx
 have HM:=Lib.hid hM
 have HD:=Lib.hid hd
 have HL:Hid (l.length=n):=hd.len
 clear h hx hM hd
 go_enter Tryz.func43,Tryz.ntmps43
 go_wp2_with fail
 refine (T.parts_some a n _ hn han).mono ?_
 rintro e w2 ⟨AP,cp,rfl,hp,hb,hfr⟩
 have H2:=Lib.hid (H.out.below hb)
 have HB2:=Lib.hid hb
 have HP:=Lib.hid hp
 have HFR:=Lib.hid hfr
 have HD2:Hid (Dat w2 M (.slice A n c) l):=⟨A,n,c,rfl,HD.out.keep fun b hb'=>hb.block b (HM.out b hb').1⟩
 have hn76:=np76 han
 have HAN:=Lib.hid han
 clear hb hp han hfr hn
 generalize hK:T.np a n=K at *
 have HKK:=Lib.hid hK
 clear hK
 go_wp2_with fail
 go_loopw [27,2] (fun i v wr=>∃ k:Nat,k≤K∧i=.int .i64 k∧Hid (Dat wr M v (l.drop (up a n k)))∧Hid (FSt w0 wr p d N q bf nn O s X m G y f C low Tx a l n k)∧Hid (Chg [q,bf] w2 wr)) (fun i _ _=>K - (intOf i).toNat)
 case atStart=>exact ⟨0,Nat.zero_le _,rfl,by rw [up_zero];exact HD2.out,⟨f,m,y,by rw [up_zero,ovr_zero];exact H2.out,Fr.refl _ _,Ext.refl _,fun i hi=>.inl hi,fun j hj=>absurd hj (by omega),Nu.refl y⟩,Chg.refl _ _⟩
 case round =>
  obtain ⟨k,hk,rfl,HDK,HR,HB⟩:=hrel
  by_cases hlt:k<K
  ·have hlt':k<T.np a n:=by rw [HKK.out];exact hlt
   have P:=part hlt' HAN.out
   obtain ⟨b,e,hbl,hcc⟩:=HP.out.at_ (by omega)
   subst e
   have hbw:=HFR.out b 0 rfl
   have hbq:b≠q∧b≠bf:=by have:=H.out.sto.map.lt;have:=H.out.fil.lt;omega
   obtain ⟨x0,x1,x2⟩:=hcc k hlt
   have hcell:∀ o,wr.cell? ⟨b,o,none⟩=w2.cell? ⟨b,o,none⟩:=fun o=>World.cell?_of_block (a:=⟨b,o,none⟩) (HB.out.block b hbl (by simp;exact hbq))
   rw [← hcell,pb_nb] at x0
   rw [← hcell,pf_nf hlt'] at x1
   rw [← hcell,pt_nt hlt'] at x2
   have HPT:=Lib.hid P
   obtain ⟨B,hB⟩:∃ B,nb a k=B:=⟨_,rfl⟩
   obtain ⟨lo,hlo⟩:∃ lo,nf a k=lo:=⟨_,rfl⟩
   obtain ⟨hi,hhi⟩:∃ hi,nt a n k=hi:=⟨_,rfl⟩
   have HE:Hid (B<76∧lo<hi∧hi≤128∧128 * B+lo=a+up a n k∧up a n (k+1)=up a n k+(hi - lo)∧up a n (k+1)≤n):=by
    rw [← hB,← hlo,← hhi];exact ⟨P.b76,P.lt,P.le,P.at_,P.nxt,P.all⟩
   rw [hB] at x0
   rw [hlo] at x1
   rw [hhi] at x2
   have HNB:=Lib.hid hB
   have hlohi:lo<hi∧hi≤128:=⟨HE.out.2.1,HE.out.2.2.1⟩
   clear P hcc hlo hhi hB hcell
   obtain ⟨a0,a1,a2⟩:=D.box1 wr (Obj.cells #[.int .i64 (B:Int),.int .i64 (lo:Int),.int .i64 (hi:Int)] 92)
   obtain ⟨fk,mk,yk,hop,hfrk,hext,hnew,hall,hnu⟩:=HR.out
   have HOP:=Lib.hid (hop.below a1)
   have HFK:=Lib.hid (And.intro hfrk (And.intro hext (And.intro hnew (And.intro hall hnu))))
   have HA:=Lib.hid a0
   have HB3:=Lib.hid (HB.out.tr (Chg.of_below a1))
   have hal:wr.heap.size<(wr.alloc (Obj.cells #[.int .i64 (B:Int),.int .i64 (lo:Int),.int .i64 (hi:Int)] 92)).heap.size:=by rw [a2];omega
   have hqr:q<wr.heap.size∧bf<wr.heap.size:=⟨hop.sto.map.lt,hop.fil.lt⟩
   obtain ⟨Ak,nk,ck,rfl,hbk⟩:=HDK.out
   have HDA:=Lib.hid (hbk.keep fun b hb'=>a1.block b (by have:=(HM.out b hb').1;have:=HB2.out.size;have:=HB.out.size;omega))
   clear a0 a1 a2 hop hfrk hext hnew hall hnu hbk
   go_upto_region 7 with fail
   clear x0 x1 x2
   generalize wr.alloc (Obj.cells #[.int .i64 (B:Int),.int .i64 (lo:Int),.int .i64 (hi:Int)] 92)=W at *
   have y0:W.cell? ⟨wr.heap.size,0,none⟩=some (.int .i64 (B:Int)):=cell_of_row _ _ 0 _ _ _ HA.out
   go_wp2_with fail
   refine (way_take HOP.out HE.out.1 (by rw [← HNB.out];exact HX.out k hlt)).mono ?_
   rintro e w4 (⟨f4,rfl,hne,hr⟩ | ⟨rfl,f4,hr⟩)
   ·obtain ⟨m4,y4,hop4,hfr4,hnu4⟩:=hr.op
    have HOP4:=Lib.hid hop4
    have HR4:=Lib.hid hr
    have HFR4:=Lib.hid (And.intro hfr4 hnu4)
    have HB4:=Lib.hid (HB3.out.tr hr.chg)
    have HA4:=Lib.hid ((hr.chg.block wr.heap.size hal (by simp;omega)).trans HA.out)
    have HDA4:=Lib.hid (HDA.out.keep fun b hb'=>hr.chg.block b (by have:=(HM.out b hb').1;have:=HB2.out.size;have:=HB.out.size;omega) (by have:=HM.out b hb';simp;exact ⟨this.2.1,this.2.2⟩))
    have hrg:=hop4.mid.rng _ (ixb_lt HE.out.1)
    have HG:=Lib.hid (get_any hop4.sto (n:=f4 (ixb B)) (by omega) (by unfold inLog;omega))
    rw [hop4.con.yes B HE.out.1 hne] at HG
    have HNE:=Lib.hid hne
    have hW4:W.heap.size≤w4.heap.size:=hr.chg.size
    have c0:=hop4.fil.c0
    clear hr hop4 hfr4 hnu4 hne y0
    go_wp2_with fail
    refine HG.out.mono ?_
    rintro e w5 ⟨g,rfl,hg1,hg2,hb5⟩
    have hgO:=H.out.fresh (P:=g) (by have:=HB2.out.size;have:=HB.out.size;omega)
    have HOP5:=Lib.hid (HOP4.out.below hb5)
    have HB5:=Lib.hid (HB4.out.tr (Chg.of_below hb5))
    have HA5:=Lib.hid ((hb5.block wr.heap.size (by omega)).trans HA4.out)
    have HDA5:=Lib.hid (HDA4.out.keep fun b hb'=>hb5.block b (by have:=(HM.out b hb').1;have:=HB2.out.size;have:=HB.out.size;omega))
    have HROW:=Lib.hid hg2
    have hgw:w4.heap.size≤g:=hg1
    clear hb5 hg2 c0 HG
    obtain ⟨d',hd⟩:∃ d',hi - lo=d':=⟨_,rfl⟩
    have hnk:=HDA5.out.len
    have hlen:=HL.out
    have hup:=HE.out.2.2.2.2
    rw [List.length_drop] at hnk
    obtain ⟨bd,od,hAk,hMb,hrow⟩:=HDA5.out.at_ (by omega)
    subst hAk
    obtain ⟨w6,hr6,hh6,hg6,hz6⟩:=D.copy_run (w:=w5) (dT:=41) (ty:=3) (elem:=5) Tryz.underlying41 (by kernel_rfl) (g:=g) (off:=lo) (dLen:=d') (dCap:=128 - lo) (sLen:=nk) (sCap:=ck) (ad:=⟨bd,od,none⟩) (L:=bc (blkL (ovr C a l (up a n k)) B)) (cs:=bc ((l.drop (up a n k)).take d')) (t:=200)
     HROW.out (by rw [bc_len,List.length_take,List.length_drop];show _=min nk d';omega) (fun j v hj=>by
      rw [Addr.add_lit]
      refine hrow j v ?_
      rw [bc,List.getElem?_map] at hj ⊢
      rw [List.getElem?_take] at hj
      split at hj
      ·exact hj
      ·cases hj) (by rw [bc_len,bc_len,blkL_len,List.length_take];omega) (bc_one _)
    rw [show (goInt (bc ((l.drop (up a n k)).take d')).length)=.int .i64 (d':Int) by rw [bc_len,List.length_take,List.length_drop,Nat.min_eq_left (by omega)];rfl] at hr6
    have HOW6:Hid (Own w6 g (blkL (ovr C a l (up a n (k+1))) B)):=by
     refine ⟨200,?_⟩
     rw [hh6]
     congr 2
     have e:splice (bc (blkL (ovr C a l (up a n k)) B)) lo (bc ((l.drop (up a n k)).take d'))=bc (splice (blkL (ovr C a l (up a n k)) B) lo ((l.drop (up a n k)).take d')):=by
      unfold splice bc
      simp
     rw [e,splice_blk C HE.out.2.2.2.1 (by omega) (by omega),HE.out.2.2.2.2.1,hd]
    have hcg:Chg [g] w5 w6:=(Chg.refl _ _).grown hg6 fun j hj=>by cases hj;left;simp
    have HOP6:=Lib.hid (HOP5.out.chg hcg hgO)
    have HB6:=Lib.hid (HB5.out.trans hcg fun b hb=>by have:=HB.out.size;simp at hb;right;omega)
    have HA6:=Lib.hid ((hcg.block wr.heap.size (Array.getElem?_eq_some_iff.1 HA5.out).1 (by simp;omega)).trans HA5.out)
    have hDA6:=HDA5.out.keep (w':=w6) fun b hb'=>hcg.block b (by have:=(HM.out b hb').1;have:=HB2.out.size;have:=HB.out.size;have:=HB5.out.size;omega) (by have:=(HM.out b hb').1;have:=HB2.out.size;have:=HB.out.size;simp;omega)
    have HTL:=Lib.hid (btail hDA6 (k:=d') (by omega))
    rw [List.drop_drop,show up a n k+d'=up a n (k+1) by omega] at HTL
    have y1:w5.cell? ⟨wr.heap.size,1,none⟩=some (.int .i64 (lo:Int)):=cell_of_row _ _ 1 _ _ _ HA5.out
    have y2:w5.cell? ⟨wr.heap.size,2,none⟩=some (.int .i64 (hi:Int)):=cell_of_row _ _ 2 _ _ _ HA5.out
    have z1:¬ 128=lo:=by omega
    have z2:(d':Int)≤(nk:Int):=by omega
    clear hcg hDA6 hh6 hg6 hz6 hrow hMb hnk hlen hup
    by_cases hck:ck=d'
    ·rw [if_pos hck] at HTL
     subst hck
     rw [Nat.sub_self] at HTL
     go_upto_region 14 with fail
     have hCC:∀ i,i / 128≠B→ovr C a l (up a n (k+1)) i=ovr C a l (up a n k) i:=fun i hi'=>by
      have h1:=HE.out.2.2.2.1
      have h2:=HE.out.2.2.2.2.1
      unfold ovr
      by_cases h3:a≤i∧i<a+up a n k
      ·rw [if_pos h3,if_pos (by omega)]
      ·rw [if_neg h3,if_neg (by omega)]
     have HCC:=Lib.hid hCC
     have HBT:Hid (Bts w6 (IM g) (some ⟨g,0,none⟩) 128 128 (blkL (ovr C a l (up a n (k+1))) B)):=HOW6.out.bts (blkL_len _ _) rfl
     have HTX:Hid (ixb B∈Tx):=HX.out k hlt _ (by rw [HNB.out];exact path_last B)
     have hroom:=HOP6.out.bud.room HOP6.out.sto.mok.rise (.inr ⟨_,HTX.out,HNE.out,rfl⟩)
     have HPUT:=Lib.hid (put_yes (n:=f4 (ixb B)) HOP6.out.sto (by have:=HNE.out;omega) (by have:=HNE.out;unfold inLog;omega) HBT.out (fun b hb=>by cases hb;exact ⟨HOW6.out.lt,hgO.2.2.1⟩) hroom)
     have c0:=HOP6.out.fil.c0
     clear hroom hCC y1 y2 hr6
     go_wp2_with fail
     refine HPUT.out.mono ?_
     rintro e w7 ⟨rfl,hs7,hc7⟩
     have HPP:=Lib.hid (HOP6.out.put HE.out.1 HNE.out HTX.out HCC.out hs7 (HOP6.out.fil.keep (hc7.block bf HOP6.out.fil.lt (by simp;exact HOP6.out.bfq))))
     have HB7:=Lib.hid (HB6.out.tr (hc7.mono fun b hb=>by simp at hb;left;simp [hb]))
     have HTL7:=Lib.hid (HTL.out.keep fun b hb'=>hc7.block b (by have:=(HM.out b hb').1;have:=HB2.out.size;have:=HB6.out.size;omega) (by have:=HM.out b hb';simp;exact this.2.1))
     clear hs7 hc7 c0
     go_wp2_with fail
     go_roundw
     case rel =>
      refine ⟨k+1,by omega,by go_num,⟨_,_,_,rfl,HTL7.out⟩,⟨f4,_,y4,HPP.out.1,(HFK.out.1.trans HFR4.out.1 HR4.out.ext).trans HPP.out.2 (Ext.refl _),HFK.out.2.1.trans HR4.out.ext,fun i hi'=>?_,fun j hj=>?_,HFK.out.2.2.2.2.trans HFR4.out.2⟩,HB7⟩
      ·rcases HR4.out.new i hi' with h1 | h1
       ·exact HFK.out.2.2.1 i h1
       ·exact .inr ⟨k,hlt',by rw [HNB.out];exact h1⟩
      ·by_cases e:j=k
       ·rw [e,HNB.out];exact HNE.out
       ·have h1:=HFK.out.2.2.2.1 j (by omega)
        rw [HR4.out.ext _ h1];exact h1
     case measure=>simp [intOf];omega
    ·rw [if_neg hck,Option.map_some,Addr.add_lit] at HTL
     go_upto_region 14 with fail
     have hCC:∀ i,i / 128≠B→ovr C a l (up a n (k+1)) i=ovr C a l (up a n k) i:=fun i hi'=>by
      have h1:=HE.out.2.2.2.1
      have h2:=HE.out.2.2.2.2.1
      unfold ovr
      by_cases h3:a≤i∧i<a+up a n k
      ·rw [if_pos h3,if_pos (by omega)]
      ·rw [if_neg h3,if_neg (by omega)]
     have HCC:=Lib.hid hCC
     have HBT:Hid (Bts w6 (IM g) (some ⟨g,0,none⟩) 128 128 (blkL (ovr C a l (up a n (k+1))) B)):=HOW6.out.bts (blkL_len _ _) rfl
     have HTX:Hid (ixb B∈Tx):=HX.out k hlt _ (by rw [HNB.out];exact path_last B)
     have hroom:=HOP6.out.bud.room HOP6.out.sto.mok.rise (.inr ⟨_,HTX.out,HNE.out,rfl⟩)
     have HPUT:=Lib.hid (put_yes (n:=f4 (ixb B)) HOP6.out.sto (by have:=HNE.out;omega) (by have:=HNE.out;unfold inLog;omega) HBT.out (fun b hb=>by cases hb;exact ⟨HOW6.out.lt,hgO.2.2.1⟩) hroom)
     have c0:=HOP6.out.fil.c0
     clear hroom hCC y1 y2 hr6
     go_wp2_with fail
     refine HPUT.out.mono ?_
     rintro e w7 ⟨rfl,hs7,hc7⟩
     have HPP:=Lib.hid (HOP6.out.put HE.out.1 HNE.out HTX.out HCC.out hs7 (HOP6.out.fil.keep (hc7.block bf HOP6.out.fil.lt (by simp;exact HOP6.out.bfq))))
     have HB7:=Lib.hid (HB6.out.tr (hc7.mono fun b hb=>by simp at hb;left;simp [hb]))
     have HTL7:=Lib.hid (HTL.out.keep fun b hb'=>hc7.block b (by have:=(HM.out b hb').1;have:=HB2.out.size;have:=HB6.out.size;omega) (by have:=HM.out b hb';simp;exact this.2.1))
     clear hs7 hc7 c0
     go_wp2_with fail
     go_roundw
     case rel =>
      refine ⟨k+1,by omega,by go_num,⟨_,_,_,rfl,HTL7.out⟩,⟨f4,_,y4,HPP.out.1,(HFK.out.1.trans HFR4.out.1 HR4.out.ext).trans HPP.out.2 (Ext.refl _),HFK.out.2.1.trans HR4.out.ext,fun i hi'=>?_,fun j hj=>?_,HFK.out.2.2.2.2.trans HFR4.out.2⟩,HB7⟩
      ·rcases HR4.out.new i hi' with h1 | h1
       ·exact HFK.out.2.2.1 i h1
       ·exact .inr ⟨k,hlt',by rw [HNB.out];exact h1⟩
      ·by_cases e:j=k
       ·rw [e,HNB.out];exact HNE.out
       ·have h1:=HFK.out.2.2.2.1 j (by omega)
        rw [HR4.out.ext _ h1];exact h1
     case measure=>simp [intOf];omega
   ·have HRR:=Lib.hid hr
    clear hr
    go_wp2_with fail
    go_ret
    obtain ⟨mn,yn,hon,hfn,hfi⟩:=HRR.out.op
    obtain ⟨ix,hix,hz⟩:=HRR.out.lack
    refine .inr ⟨rfl,⟨f4,mn,yn,_,hon,hfi,HFK.out.2.1.trans HRR.out.ext,fun i hi=>?_,k,hlt',ix,by rw [HNB.out];exact hix,hz⟩,((Chg.of_below HB2.out).tr HB3.out).tr HRR.out.chg⟩
    rcases HRR.out.new i hi with h1 | h1
    ·exact HFK.out.2.2.1 i h1
    ·exact .inr ⟨k,hlt',by rw [HNB.out];exact h1⟩
  ·obtain rfl:k=K:=by omega
   go_wp2_with fail
   go_ret
   refine .inl ⟨rfl,?_,(Chg.of_below HB2.out).tr HB.out⟩
   rw [HKK.out]
   exact HR.out
end
end Go.Proofs.YtkganhafbjgndaaGreatRR.V
namespace Go.Proofs.YtkganhafbjgndaaGreatRR.V
open Go.RowKit
set_option linter.unusedVariables false
set_option maxRecDepth 20000
structure Fl (N:Nat) (G:Nat→Prop) (V:Img) (nn:Nat) (y:D.Nn) (f:Nat→Nat) (C:Nat→UInt8):Prop where
 mid:Mid N G V y f
 con:Cont V f C
 nod:D.piece (V (35+nn / 4)) (nn % 4)=y.img
 ok:y.up.ok=true
 kind:y.k=1∨y.k=2
 zero:∀ i,y.s≤i→C i=0
 few:∀ b,b<76→f (ixb b)≠0→128 * b<y.s
 min:∀ p,isPx p→f p≠0→∃ j,j<8∧f (kid p j)≠0
def Kp (y y':D.Nn):Prop:=y'.k=y.k∧y'.l=y.l∧y'.g=y.g∧y'.c=min (y.c+1) 1073741824
theorem Nu.kp {y y3:D.Nn} (h:Nu y y3) (size:Nat):Kp y (chd y3 size):=by
 obtain ⟨h1,h2,h3,_,h5⟩:=h
 exact ⟨h1,h2,h3,by show min (y3.c+1) _=_;rw [h5]⟩
theorem ok_two {y:D.Nn} (h:y.up.ok=true) (hk:y.k=2):y.l=1∧y.s % 32=0:=by
 obtain ⟨h1,h2,h3⟩:=D.Nd.ok_iff.1 h
 unfold D.Nd.kind at h3
 have a3:=of_decide_eq_true h3
 simp only [D.Nn.up] at a3
 omega
theorem ok_size {y:D.Nn} (h:y.up.ok=true) (hk:y.k=1∨y.k=2):y.s≤9728∧y.c≤1073741824∧y.g≤1073741824∧1≤y.l∧y.l≤255:=by
 obtain ⟨h1,h2,h3⟩:=D.Nd.ok_iff.1 h
 unfold D.Nd.nums at h1
 unfold D.Nd.kind at h3
 have a1:=of_decide_eq_true h1
 have a3:=of_decide_eq_true h3
 simp only [D.Nn.up] at a1 a3
 omega
theorem Mid.ptrs_ok {N:Nat} {G:Nat→Prop} {V:Img} {y:D.Nn} {f:Nat→Nat} (h:Mid N G V y f) {z:D.Nn} (hz:∀ i,i<6→z.ptr6 i=f i):z.up.ptrs=true:=by
 refine D.ptrs_of fun j hj=>?_
 rw [D.p_up,hz j hj,D.ptr_iff]
 have:=h.rng j (by omega)
 have:=h.n1
 omega
theorem chd_ok {N:Nat} {G:Nat→Prop} {V:Img} {y:D.Nn} {f:Nat→Nat} (h:Mid N G V y f) {y0:D.Nn} (h0:y0.up.ok=true) (hk:y0.k=1∨y0.k=2) (hn:Nu y0 y) {size:Nat} (hs:size≤9728) (h32:y0.k=2→size % 32=0):(chd y size).up.ok=true:=by
 obtain ⟨a1,a2,a3,a4,a5⟩:=ok_size h0 hk
 obtain ⟨n1,n2,n3,n4,n5⟩:=hn
 have hp:(chd y size).up.ptrs=true:=h.ptrs_ok (fun i hi=>(show (chd y size).ptr6 i=y.ptr6 i from by match i,hi with | 0,_=>rfl | 1,_=>rfl | 2,_=>rfl | 3,_=>rfl | 4,_=>rfl | 5,_=>rfl).trans (h.rep.top i hi))
 have hcl:(chd y size).c≤1073741824:=Nat.min_le_right _ _
 have e1:(chd y size).k=y.k:=rfl
 have e2:(chd y size).l=y.l:=rfl
 have e3:(chd y size).g=y.g:=rfl
 have e4:(chd y size).s=size:=rfl
 generalize chd y size=z at *
 rw [D.ok_kind (by show (0:Int)≤(z.g:Int);omega) (by show (z.g:Int)≤1073741824;omega) (by show (0:Int)≤(z.c:Int);omega) (by show (z.c:Int)≤1073741824;omega) hp]
 rcases hk with hk | hk
 ·exact D.kind_1 (by show (z.k:Int)=1;omega) (by show (1:Int)≤(z.l:Int);omega) (by show (z.l:Int)≤255;omega) (by show (0:Int)≤(z.s:Int);omega) (by show (z.s:Int)≤9728;omega)
 ·have t1:=(ok_two h0 hk).1
  have t2:=h32 hk
  exact D.kind_2 (by show (z.k:Int)=2;omega) (by show (z.l:Int)=1;omega) (by show (z.s:Int) % 32=0;omega) (by show (0:Int)≤(z.s:Int);omega) (by show (z.s:Int)≤9728;omega)
section
variable {w0 w w1 w2 w':World} {p d N q bf nn:Nat} {O:List Nat} {s:DS} {X:Secs2} {m:List Wr} {G:Nat→Prop} {y:D.Nn} {f:Nat→Nat} {C:Nat→UInt8} {low:List Int} {Tx:List Nat}
theorem Fl.node (hs:Sto w0 w p d O N s X q m) (h:Fl N G (view X m) nn y f C) (hn:nn<32):Calls Tryz.prog 30 #[.pointer (some ⟨p,0,none⟩),.int .i64 nn] w (NodeR w y):=by
 obtain ⟨g1,g2⟩:=D.good_img h.ok
 have e:nodeB X m nn=y.img:=h.nod
 have:=node_yes hs hn (by rw [e];exact g1)
 rw [e,g2] at this
 exact this
theorem Fl.open_ (hs:Sto w0 w p d O N s X q m) (h:Fl N G (view X m) nn y f C) (hn:nn<32):Calls Tryz.prog 41 #[.pointer (some ⟨p,0,none⟩),.int .i64 nn] w (OpenR w p nn y) :=
 open_yes (h.node hs hn) (by have:=h.kind;omega)
structure Aft (w0 w:World) (p d N q nn:Nat) (O:List Nat) (s:DS) (X:Secs2) (m:List Wr) (G:Nat→Prop) (f:Nat→Nat) (low:List Int) (Tx:List Nat) (m':List Wr) (y':D.Nn) (f':Nat→Nat) (C':Nat→UInt8) (w':World):Prop where
 sto:Sto w0 w' p d O N s X q m'
 fl:Fl N G (view X m') nn y' f' C'
 nd:view X m' (35+nn / 4)=D.put (view X m (35+nn / 4)) (nn % 4) y'.img
 fr:∀ k,k≠34→k≠35+nn / 4→(∀ i,i<86→f' i≠0→f' i≠k)→(∀ i,i<86→f i≠0→f i≠k)→view X m' k=view X m k
 bud:Bud low Tx m' f'
 chg:Chg [q] w w'
theorem aft_of {w3:World} {m3:List Wr} {y3:D.Nn} {f3:Nat→Nat} {C3:Nat→UInt8} {size:Nat} (hn:nn<32) (hb0:w.heap.size≤bf) (h0:y.up.ok=true) (hk:y.k=1∨y.k=2) (h32:y.k=2→size % 32=0) (hnd:(view X m (35+nn / 4)).length=128) (hN:64≤N) (hl:((35+nn / 4:Nat):Int)∈low)
  (ho:Op w0 w3 p d N q bf nn O s X m3 G y3 f3 C3 low Tx) (hnu:Nu y y3) (hfr:∀ k,k≠34→(∀ i,i<86→f3 i≠0→f3 i≠k)→(∀ i,i<86→f i≠0→f i≠k)→view X m3 k=view X m k) (h43:∀ i,i<86→f i≠0→43≤f i) (hsz:size≤9728)
  (hz:∀ i,size≤i→C3 i=0) (hfew:∀ b,b<76→f3 (ixb b)≠0→128 * b<size) (hmin:∀ p,isPx p→f3 p≠0→∃ j,j<8∧f3 (kid p j)≠0)
  (hs:Sto w0 w' p d O N s X q (ins ((35+nn / 4:Nat):Int) (putN X m3 nn (chd y3 size)) m3)) (hc:Chg [q,bf] w w') :
  Aft w0 w p d N q nn O s X m G f low Tx (ins ((35+nn / 4:Nat):Int) (putN X m3 nn (chd y3 size)) m3) (chd y3 size) f3 C3 w':=by
 have hk0:35+nn / 4<43:=by omega
 have hV:∀ k,view X (ins ((35+nn / 4:Nat):Int) (putN X m3 nn (chd y3 size)) m3) k=if 35+nn / 4=k then putN X m3 nn (chd y3 size) else view X m3 k:=fun k=>view_ins X m3 _ _ k
 have hVo:∀ k,35+nn / 4≠k→view X (ins ((35+nn / 4:Nat):Int) (putN X m3 nn (chd y3 size)) m3) k=view X m3 k:=fun k h=>by rw [hV,if_neg h]
 have e35:view X m3 (35+nn / 4)=view X m (35+nn / 4):=hfr _ (by omega) (fun i hi h1=>by have:=ho.mid.rng i hi;omega) (fun i hi h1=>by have:=h43 i hi h1;omega)
 have hpi:putN X m3 nn (chd y3 size)=D.put (view X m (35+nn / 4)) (nn % 4) (chd y3 size).img:=by unfold putN;rw [e35]
 have hV35:view X (ins ((35+nn / 4:Nat):Int) (putN X m3 nn (chd y3 size)) m3) (35+nn / 4)=D.put (view X m (35+nn / 4)) (nn % 4) (chd y3 size).img:=by rw [hV,if_pos rfl,hpi]
 have hf:∀ i,i<86→f3 i≠0→view X (ins ((35+nn / 4:Nat):Int) (putN X m3 nn (chd y3 size)) m3) (f3 i)=view X m3 (f3 i):=fun i hi h1=>hVo _ (by have:=ho.mid.rng i hi;omega)
 have e34:=hVo 34 (by omega)
 have hptr:∀ i,i<6→(chd y3 size).ptr6 i=y3.ptr6 i:=fun i hi=>by match i,hi with | 0,_=>rfl | 1,_=>rfl | 2,_=>rfl | 3,_=>rfl | 4,_=>rfl | 5,_=>rfl
 refine ⟨hs,⟨⟨⟨fun i hi=>(hptr i hi).trans (ho.mid.rep.top i hi),fun p hp h1=>?_,ho.mid.rep.none_⟩,ho.mid.rng,ho.mid.inj,by rw [e34];exact ho.mid.mrk,ho.mid.oth,ho.mid.grng,by rw [e34];exact ho.mid.ml,ho.mid.n1⟩,⟨fun b hb h1=>?_,ho.con.no⟩,?_,chd_ok ho.mid h0 hk hnu hsz h32,?_,hz,hfew,hmin⟩,hV35,fun k h1 h2 h3 h4=>?_,ho.bud.ins _ (.inl hl),hc.mono fun b hb=>?_⟩
 ·rw [hf p (px_lt hp) h1];exact ho.mid.rep.some_ p hp h1
 ·rw [hf _ (ixb_lt hb) h1];exact ho.con.yes b hb h1
 ·rw [hV35,D.piece_put hnd (by omega) (D.Nn.img_len _)]
 ·exact hk.imp (fun h=>hnu.1.trans h) fun h=>hnu.1.trans h
 ·rw [hVo k (Ne.symm h2)];exact hfr k h1 h3 h4
 ·simp at hb
  rcases hb with rfl | rfl
  ·left;simp
  ·right;exact hb0
theorem touch {a n b:Nat} (hn:0<n) (h1:a≤128 * b+127) (h2:128 * b<a+n):∃ j,j<T.np a n∧nb a j=b:=by
 refine ⟨b - a / 128,?_,?_⟩
 ·unfold T.np;rw [if_neg (by omega)];omega
 ·unfold nb;omega
theorem nb_in {a n j:Nat} (h:j<T.np a n):a / 128≤nb a j∧128 * nb a j<a+n:=by
 unfold T.np at h
 split at h
 ·omega
 ·unfold nb;omega
theorem ixb_path {b b':Nat} (hb:b<76) (hb':b'<76) (h:ixb b∈path b'):b=b':=by
 have hp:=ixb_px hb
 unfold path at h
 split at h
 ·simp at h;unfold ixb at h;split at h<;>(try split at h)<;>omega
 ·split at h
  ·simp at h
   rcases h with h | h
   ·exact absurd (.inl h) hp
   ·unfold ixb at h;split at h<;>(try split at h)<;>omega
  ·simp at h
   rcases h with h | h | h
   ·exact absurd (.inr (.inl h)) hp
   ·exact absurd (.inr (.inr (by omega))) hp
   ·unfold ixb at h;split at h<;>(try split at h)<;>omega
theorem path_px {b p:Nat} (hb:b<76) (hp:isPx p) (h:p∈path b):∃ j,j<8∧kid p j∈path b:=by
 unfold isPx at hp
 unfold path at h ⊢
 split
 ·rw [if_pos (by assumption)] at h;simp at h;omega
 ·rename_i h4
  rw [if_neg h4] at h
  split
  ·rename_i h12
   rw [if_pos h12] at h
   simp at h
   obtain rfl:p=4:=by omega
   exact ⟨b - 4,by omega,by unfold kid;simp;omega⟩
  ·rename_i h12
   rw [if_neg h12] at h
   simp at h
   by_cases e:p=5
   ·subst e;exact ⟨(b - 12) / 8,by omega,by unfold kid;simp⟩
   ·obtain rfl:p=14+(b - 12) / 8:=by omega
    exact ⟨(b - 12) % 8,by omega,by unfold kid;rw [if_neg (by omega),if_neg (by omega)];simp;omega⟩
theorem path_lt {b i:Nat} (hb:b<76) (h:i∈path b):i<86:=by
 unfold path at h
 split at h
 ·simp at h;omega
 ·split at h
  ·simp at h;omega
  ·simp at h;omega
theorem fst_min {a n:Nat} {f':Nat→Nat} (han:a+n≤9728) (hmin:∀ p,isPx p→f p≠0→∃ j,j<8∧f (kid p j)≠0) (hext:Ext f f') (hrep:∀ p,isPx p→f' p=0→∀ j,j<8→f' (kid p j)=0)
  (hnew:∀ i,f' i≠0→f i≠0∨∃ j,j<T.np a n∧i∈path (nb a j)) (hall:∀ j,j<T.np a n→f' (ixb (nb a j))≠0):∀ p,isPx p→f' p≠0→∃ j,j<8∧f' (kid p j)≠0:=by
 intro p hp h0
 rcases hnew p h0 with h1 | ⟨j,hj,hjp⟩
 ·obtain ⟨i,hi,h2⟩:=hmin p hp h1
  exact ⟨i,hi,by rw [hext _ h2];exact h2⟩
 ·have hb:=(part hj han).b76
  obtain ⟨i,hi,hk⟩:=path_px hb hp hjp
  refine ⟨i,hi,fun e=>hall j hj ?_⟩
  by_cases hx:isPx (kid p i)
  ·have hz:=hrep _ hx e
   obtain ⟨i',hi',hk'⟩:=path_px hb hx hk
   have:kid (kid p i) i'=ixb (nb a j):=by
    unfold isPx at hp hx
    have hk0:=kid_lt hx hi'
    unfold path at hk'
    unfold ixb
    split at hk'
    ·simp at hk';omega
    ·rename_i h4
     split at hk'
     ·rename_i h12
      rw [if_neg h4,if_pos h12]
      simp at hk'
      omega
     ·rename_i h12
      rw [if_neg h4,if_neg h12]
      simp at hk'
      rcases hk' with h | h | h
      ·omega
      ·have e2:kid (kid p i) i'=22+8 * (kid p i - 14)+i':=by
        have h6:=(kid_lt (j:=i) (p:=p) (by unfold isPx;exact hp) hi).1
        generalize kid p i=z at *
        unfold kid;rw [if_neg (by omega),if_neg (by omega)]
       omega
      ·exact h
   rw [← this];exact hz i' hi'
  ·have:kid p i=ixb (nb a j):=by
    have hlt:=kid_lt hp hi
    unfold path at hk
    unfold ixb
    unfold isPx at hx
    split at hk
    ·simp at hk;omega
    ·rename_i h4
     split at hk
     ·rename_i h12
      rw [if_neg h4,if_pos h12]
      simp at hk;omega
     ·rename_i h12
      rw [if_neg h4,if_neg h12]
      simp at hk;omega
   rw [← this];exact e
def WriQ (w0 w:World) (p d N q nn:Nat) (O:List Nat) (s:DS) (X:Secs2) (m:List Wr) (G:Nat→Prop) (y:D.Nn) (f:Nat→Nat) (C:Nat→UInt8) (low:List Int) (Tx:List Nat) (a:Nat) (l:List UInt8) (n:Nat) (e:Ending) (w':World):Prop :=
 (e=.returned (.int .i64 0)∧∃ m' y' f',Aft w0 w p d N q nn O s X m G f low Tx m' y' f' (ovr C a l n) w'∧y'.s=max y.s (a+n)∧Ext f f'∧(∀ i,f' i≠0→f i≠0∨∃ j,j<T.np a n∧i∈path (nb a j))∧(∀ j,j<T.np a n→f' (ixb (nb a j))≠0)∧Kp y y') ∨
 (e=.returned (.int .i64 10)∧(∃ bf m2,FNo w0 w' p d N q bf nn O s X m2 G f low Tx a n)∧Chg [q] w w')
set_option maxHeartbeats 4000000 in
theorem write_yes {a n c:Nat} {A:Option Addr} {l:List UInt8} {M:Nat→Prop} (hs:Sto w0 w p d O N s X q m) (h:Fl N G (view X m) nn y f C) (hnn:nn<32) (hbud:Bud low Tx m f) (h35:((35+nn / 4:Nat):Int)∈low) (hn:0<n) (han:a+n≤9728) (hd:Bts w M A n c l) (hM:∀ b,M b→b<w.heap.size∧b≠q)
  (hx:∀ j,j<T.np a n→∀ i∈path (nb a j),i∈Tx) (h32:y.k=2→max y.s (a+n) % 32=0) :
  Calls Tryz.prog 17 #[.pointer (some ⟨p,0,none⟩),.int .i64 nn,.int .i64 (a:Int),.slice A n c] w (WriQ w0 w p d N q nn O s X m G y f C low Tx a l n):=by
 obtain ⟨os1,os2,os3,os4,os5⟩:=ok_size h.ok h.kind
 obtain ⟨t,ht⟩:∃ t,max a y.s=t:=⟨_,rfl⟩
 have hmx:max (a:Int) (y.s:Int)=(t:Int):=by omega
 obtain ⟨t2,ht2⟩:∃ t2,max y.s (a+n)=t2:=⟨_,rfl⟩
 have hmx2:max (y.s:Int) ((a:Int)+n)=(t2:Int):=by omega
 have hw1:IntKind.i64.wrap (9728 - (n:Int))=9728 - (n:Int):=by rw [IntKind.wrap_i64];omega
 have hw2:IntKind.i64.wrap ((a:Int)+(n:Int))=(a:Int)+(n:Int):=by rw [IntKind.wrap_i64];omega
 have hg1:decide ((a:Int)<0)=false:=by simp
 have hg2:((n:Int) == 0)=false:=by rw [beq_eq_false_iff_ne];omega
 have hg3:decide (9728 - (n:Int)<(a:Int))=false:=by simp;omega
 have HO:=Lib.hid (h.open_ hs hnn)
 have H:=Lib.hid h
 have HS:=Lib.hid hs
 have HBU:=Lib.hid hbud
 have H35:=Lib.hid h35
 have HD:=Lib.hid hd
 have HM:=Lib.hid hM
 have HX:=Lib.hid hx
 have HNN:=Lib.hid hnn
 have HAN:=Lib.hid (And.intro hn han)
 have HT:=Lib.hid (And.intro ht ht2)
 have HOS:=Lib.hid (And.intro os1 os2)
 have H32:Hid (y.k=2→t2 % 32=0):=fun hk=>by rw [← ht2];exact h32 hk
 clear h32 h hs hbud h35 hd hM hx hnn hn han ht ht2 os1 os2 os3 os4 os5
 go_enter Tryz.func17,Tryz.ntmps17
 go_wp2_with fail
 refine HO.out.mono ?_
 rintro e w1 ⟨bf,rfl,hf,hbf,hb⟩
 have hfr:=HS.out.ons
 have hbfr:bf∉O∧bf≠p∧bf≠q:=⟨fun hm=>by have:=HS.out.ons.sit.drv.lt _ hm;omega,by have:=HS.out.st.lt;omega,by have:=HS.out.map.lt;omega⟩
 have hbase:w0.heap.size≤bf:=by have:=HS.out.pf;have:=HS.out.st.lt;omega
 have HOP:Hid (Op w0 w1 p d N q bf nn O s X m G y f C low Tx):=⟨HS.out.below hb,hf,H.out.mid,H.out.con,HBU.out,hbfr.1,hbfr.2.1,hbfr.2.2,hbase⟩
 have HB1:=Lib.hid hb
 have HBF:=Lib.hid hbf
 have c5:=hf.c5
 clear hf hb hfr
 have HBLA:Hid (Calls Tryz.prog 42 #[.pointer (some ⟨bf,0,none⟩),.int .i64 (y.s:Int),.int .i64 (t:Int)] w1.drew (BlaQ w0 w1.drew p d N q bf nn O s X m G y f C low Tx)):=by
  have hop:=HOP.out.below (Below.refl _ w1).drew
  by_cases hle:a≤y.s
  ·obtain rfl:t=y.s:=by have:=HT.out.1;omega
   exact blank_nil hop HOS.out.1
  ·have hz:zer C y.s (t - y.s)=C:=by
    have:=zer_same (C:=C) (a:=y.s) (u:=0) (d:=t - y.s) fun j hj=>by rw [zer_zero];exact H.out.zero _ (by omega)
    rw [Nat.zero_add,zer_zero] at this
    exact this
   have:=blank_some (a:=y.s) (s':=t - y.s) (t:=t) (by have:=HT.out.1;omega) hop (by have:=HT.out.1;omega) (by have:=HT.out.1;have:=HAN.out.2;omega) (fun b hb j hj h1 h2 h3=>absurd (H.out.zero _ h1) h3)
   rw [hz] at this
   exact this
 have hc5:Hid (w1.drew.cell? ⟨bf,5,none⟩=some (.int .i64 (y.s:Int))):=c5
 go_upto_region 10 with fail
 go_region_held3 (fun W=>W.cell? ⟨bf,5,none⟩=some (.int .i64 (y.s:Int))) (first | with_reducible exact hc5.out | with_reducible exact hc52.out)
  (first
  | (go_at_call 42;(with_reducible refine HBLA.out.mono ?_);rintro e w2 ⟨rfl,m2,hop2,hfr2,hch2⟩;have HOP2:=Lib.hid hop2;have HFR2:=Lib.hid hfr2;have HCH2:=Lib.hid hch2;have hc52:Hid (w2.cell? ⟨bf,5,none⟩=some (.int .i64 (y.s:Int))):=hop2.fil.c5;clear hop2 hfr2 hch2))
 have hkeep:∀ b,M b→w2.heap[b]?=w.heap[b]?:=fun b hb=>by
  have:=HM.out b hb
  have h1:=HB1.out.block b this.1
  have h2:=HCH2.out.block b (by show b<w1.heap.size;have:=HB1.out.size;omega) (by simp;exact this.2)
  exact h2.trans h1
 have hw12:w.heap.size≤w2.heap.size:=Nat.le_trans HB1.out.size HCH2.out.size
 have HFI:=Lib.hid (fill_yes HOP2.out HAN.out.1 HAN.out.2 (HD.out.keep hkeep) (fun b hb=>by have:=HM.out b hb;exact ⟨by omega,this.2,by omega⟩) HX.out)
 have HC2:Hid (Chg [q] w w2):=((Chg.of_below HB1.out).drew).tr HCH2.out
 clear hkeep hw12
 go_wp2_with fail
 refine HFI.out.mono ?_
 rintro e w3 (⟨rfl,⟨f3,m3,y3,ho3,hfr3,hext,hnew,hall,hnu⟩,hc3⟩ | ⟨rfl,hno,hc3⟩)
 ·rw [up_all] at ho3
  have c53:=ho3.fil.c5
  rw [hnu.2.2.2.1] at c53
  have HO3:=Lib.hid ho3
  have HF3:=Lib.hid (And.intro hfr3 (And.intro hext (And.intro hnew (And.intro hall hnu))))
  have HC3:=Lib.hid ((HC2.out.mono (O':=[q,bf]) fun b hb=>by simp at hb;left;simp [hb]).tr hc3)
  have ht2:t2≤9728:=by have:=HT.out.2;have:=HAN.out.2;have:=HOS.out.1;omega
  have HCHD:=Lib.hid (changed_yes (size:=t2) ho3 HNN.out (chd_ok ho3.mid H.out.ok H.out.kind hnu ht2 H32.out) H35.out (by have:=hnu.2.2.2.2;have:=HOS.out.2;omega))
  have HT2:=Lib.hid ht2
  clear ho3 hfr3 hext hnew hall hnu hc3 ht2
  go_wp2_with fail
  refine HCHD.out.mono ?_
  rintro e w4 ⟨rfl,hs4,hc4⟩
  have hN:=HS.out.n64
  have AFT:=Lib.hid (aft_of (w:=w) (f:=f) (m:=m) HNN.out HBF.out H.out.ok H.out.kind H32.out (HS.out.view_len (by have:=HNN.out;omega) (by have:=HNN.out;unfold inLog;omega)) hN H35.out HO3.out HF3.out.2.2.2.2
   (fun k h1 h2 h3=>(HF3.out.1 k h1 h2).trans (HFR2.out k h1 h3)) (fun i hi h0=>by have:=H.out.mid.rng i hi;omega) HT2.out
   (fun i hi=>by have:=HT.out.2;unfold ovr;rw [if_neg (by omega)];exact H.out.zero i (by omega))
   (fun b hb h0=>by
    have:=HT.out.2
    rcases HF3.out.2.2.1 _ h0 with h1 | ⟨j,hj,h1⟩
    ·have:=H.out.few b hb h1;omega
    ·have e:=ixb_path hb (part hj HAN.out.2).b76 h1
     have:=(nb_in hj).2
     omega)
   (fst_min HAN.out.2 H.out.min HF3.out.2.1 HO3.out.mid.rep.none_ HF3.out.2.2.1 HF3.out.2.2.2.1) hs4 (HC3.out.tr hc4))
  clear hs4 hc4
  go_wp2_with fail
  go_ret
  exact .inl ⟨rfl,_,_,_,AFT.out,HT.out.2.symm,HF3.out.2.1,HF3.out.2.2.1,HF3.out.2.2.2.1,HF3.out.2.2.2.2.kp t2⟩
 ·have HNO:=Lib.hid hno
  have HC3:Hid (Chg [q] w w3):=((HC2.out.mono (O':=[q,bf]) fun b hb=>by simp at hb;left;simp [hb]).tr hc3).mono fun b hb=>by
   simp at hb
   rcases hb with rfl | rfl
   ·left;simp
   ·right;exact HBF.out
  clear hno hc3
  go_wp2_with fail
  go_ret
  exact .inr ⟨rfl,⟨bf,_,HNO.out⟩,HC3.out⟩
end
end Go.Proofs.YtkganhafbjgndaaGreatRR.V
