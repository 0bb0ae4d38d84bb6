/- NamesLinked: the trees; Commit, Write, Read beside a tree. -/
import Derived.Test.YtkganhafbjgndaaGreatRRZWd
namespace Go.Proofs.YtkganhafbjgndaaGreatRR.V.namesLinked
open Go.RowKit
set_option linter.unusedVariables false
set_option maxRecDepth 20000
def T1 (s:N.Nm):N.Tr:=N.tw 1 (N.dr 1 [(s,2)]) (N.nr 1 1 1 1)
def T2 (s u:N.Nm):N.Tr:=N.tw 1 (N.dr 2 [(s,2),(u,2)]) (N.nr 1 2 1 2)
def fl (k c:Nat) (l:List UInt8) (bk:Nat→Bool):N.Nod:=⟨1,k,1,c,[],l,bk⟩
def T3 (s u:N.Nm) (l:List UInt8) (bk:Nat→Bool):N.Tr:=N.tw 1 (N.dr 2 [(s,2),(u,2)]) (fl 2 3 l bk)
def T4 (u:N.Nm) (l:List UInt8) (bk:Nat→Bool):N.Tr:=N.tw 1 (N.dr 3 [N.emp,(u,2)]) (fl 1 4 l bk)
def T5:N.Tr:=N.tw 1 (N.dr 4 [N.emp,N.emp]) (N.nr 0 0 1 5)
theorem flat_tw {g:Nat} {a b:N.Nod} (hb:b.k≠2):N.Flat (N.tw g a b):=fun n h1 h2=>by
 by_cases e:n=2
 ·subst e;exact hb
 ·rw [N.tw_ne (by omega) e];show (0:Nat)≠2;omega
theorem flat0:N.Flat N.tr0:=by rw [N.tr0_tw];exact flat_tw (by decide)
theorem made_err {t:N.Tr} {q:List N.Nm × Int} {k:Int} (hk:k=1∨k=2) (h:(N.makeT t q k).2.2=0):(N.aboveT t q).err=0:=by
 refine Decidable.byContradiction fun e=>e ?_
 unfold N.makeT at h
 rw [if_neg (by omega),if_pos e] at h
 exact h
theorem m1 (s:N.Nm):N.makeT N.tr0 ([s],0) 1=(T1 s,⟨2,1,1,1,0,1⟩,0):=by
 have hf:N.find ([]:List N.Rw) s=none:=by unfold N.find;split<;>rfl
 rw [N.tr0_tw]
 exact N.make_tw rfl rfl (by omega) hf (by decide) (.inl rfl)
theorem full_tw {g:Nat} {a b:N.Nod} (ha:a.rows.length≤10) (hb:b.rows.length≤10):∀ j,j<32→N.fullT (N.tw g a b) j=false:=fun j _=>Aw.full_small (by
 by_cases h1:j=1
 ·subst h1;exact ha
 ·by_cases h2:j=2
  ·subst h2;exact hb
  ·rw [N.tw_ne h1 h2];exact Nat.zero_le _)
theorem linked {s:N.Nm} {q:List N.Nm × Int} (hs:N.nameB s=true) (hq:∀ x∈q.1,N.nameB x=true) (hwf:N.WF (T1 s)) (h:(N.linkT (T1 s) ([s],0) q).2.2=0):∃ u,q=([u],0)∧N.nameB u=true∧s≠u:=by
 have hsn:=N.name_ne hs
 have e0:N.walkT (T1 s) ([s],0)=(2,0):=N.walk1_some rfl (N.find_one hsn) rfl (by decide)
 unfold N.linkT at h
 rw [e0] at h
 simp only at h
 rw [if_neg (by decide),if_neg (by show ¬ (1:Nat)=2;omega)] at h
 by_cases ha:(N.aboveT (T1 s) q).err=0
 ·rw [if_neg (fun e=>e ha)] at h
  obtain ⟨u,hu,_,_⟩:=N.flat_above hwf.x (flat_tw (by decide)) ha
  refine ⟨u,hu,hq u (by rw [hu];simp),fun e=>?_⟩
  subst e
  have e1:N.aboveT (T1 s) q=⟨1,s,2,0⟩:=by rw [hu];exact N.above1_some rfl (N.find_one hsn) rfl
  rw [e1] at h
  simp only at h
  rw [if_pos (by decide)] at h
  cases h
 ·rw [if_pos ha] at h
  exact absurd h ha
theorem place_one {s:N.Nm} {x:Int} (h:s≠[]):N.place [(s,x)]=1:=by
 unfold N.place
 rw [List.findIdx?_cons,if_neg (by simpa using h)]
 rfl
theorem l1 {s u:N.Nm} (hs:s≠[]) (hu:u≠[]) (hne:s≠u):N.linkT (T1 s) ([s],0) ([u],0)=(T2 s u,⟨2,1,1,2,0,2⟩,0):=by
 have:=N.link_tw (g:=1) (a:=N.dr 1 [(s,2)]) (b:=N.nr 1 1 1 1) (s:=s) (s':=u) (i:=0) rfl rfl (N.find_one hs) rfl (N.find_two (x:=2) (y:=2) hs hu hne).2.2.2 (by show (1:Nat)≤10;omega) (by show (1:Nat)<255;omega)
 rw [show (N.dr 1 [(s,2)]).rows=[(s,2)] from rfl,place_one hs] at this
 exact this
theorem k2 (s u:N.Nm):secsT (T2 s u)=1:=by kernel_rfl
theorem look2 {s u:N.Nm} (hs:s≠[]) (hu:u≠[]) (hne:s≠u) (l:List UInt8) (bk:Nat→Bool):N.lookT (T3 s u l bk) ([u],0)=(⟨2,1,1,2,l.length,3⟩,0):=N.look_tw (i:=1) rfl (N.find_two (x:=2) (y:=2) hs hu hne).2.1 rfl
theorem r1 {s u:N.Nm} (hs:s≠[]) (hu:u≠[]) (hne:s≠u) (l:List UInt8) (bk:Nat→Bool):N.rmT (T3 s u l bk) ([s],0)=(T4 u l bk,N.stT (T3 s u l bk) 2,0):=N.rm_tw (i:=0) rfl rfl (N.find_two (x:=2) (y:=2) hs hu hne).1 rfl
theorem look3 {s u:N.Nm} (hs:s≠[]) (hu:u≠[]) (hne:s≠u) (l:List UInt8) (bk:Nat→Bool):N.lookT (T4 u l bk) ([u],0)=(⟨2,1,1,1,l.length,4⟩,0):=N.look_tw (i:=1) rfl (N.find_two (x:=2) (y:=2) hs hu hne).2.2.1 rfl
theorem r2 {s u:N.Nm} (hs:s≠[]) (hu:u≠[]) (hne:s≠u) (l:List UInt8) (bk:Nat→Bool):N.rmT (T4 u l bk) ([u],0)=(T5,N.stT (T4 u l bk) 2,0):=N.rm_tw (i:=1) rfl rfl (N.find_two (x:=2) (y:=2) hs hu hne).2.2.1 rfl
theorem y5:N.byT T5 2 1=(N.st0,18):=N.by_tw_no (.inl rfl)
theorem wfs {s u:N.Nm} (hs:N.nameB s=true) (hu:N.nameB u=true) (hne:s≠u):N.WF (T1 s)∧N.WF (T2 s u)∧∀ l bk,N.WF (T3 s u l bk)∧N.WF (T4 u l bk)∧N.WF T5:=by
 have hsn:=N.name_ne hs
 have hun:=N.name_ne hu
 have w1:N.WF (T1 s):=by
  have:=N.make_wf N.tr0_wf (q:=([s],0)) (k:=1) (fun x hx=>by simp at hx;rw [hx];exact hs) (by rw [m1])
  rw [m1] at this
  exact this
 have w2:N.WF (T2 s u):=by
  have:=N.link_wf w1 (p:=([s],0)) (q:=([u],0)) (fun x hx=>by simp at hx;rw [hx];exact hu) (by rw [l1 hsn hun hne])
  rw [l1 hsn hun hne] at this
  exact this
 refine ⟨w1,w2,fun l bk=>?_⟩
 have w3:N.WF (T3 s u l bk):=by
  have:=N.data_wf w2 (n:=2) (by omega) l bk 3
  rw [show (T2 s u).put 2 { (T2 s u).nd 2 with dat:=l,blk:=bk,c:=3 }=T3 s u l bk from N.put2] at this
  exact this
 have w4:N.WF (T4 u l bk):=by
  have:=N.rm_wf w3 (q:=([s],0)) (by rw [r1 hsn hun hne])
  rw [r1 hsn hun hne] at this
  exact this
 have w5:N.WF T5:=by
  have:=N.rm_wf w4 (q:=([u],0)) (by rw [r2 hsn hun hne])
  rw [r2 hsn hun hne] at this
  exact this
 exact ⟨w3,w4,w5⟩
theorem wf1 {s:N.Nm} (hs:N.nameB s=true):N.WF (T1 s):=by
 have:=N.make_wf N.tr0_wf (q:=([s],0)) (k:=1) (fun x hx=>by simp at hx;rw [hx];exact hs) (by rw [m1])
 rw [m1] at this
 exact this
section
variable {w0 w w':World} {p d Ns q ep:Nat} {O:List Nat} {s:DS} {X:Secs2} {m:List Wr} {y:Nat→D.Nn} {f:Nat→Nat→Nat} {C:Nat→Nat→UInt8} {t:N.Tr}
theorem commit_st (h:St w0 w p d Ns q ep O s X m y f C t):Calls Tryz.prog 16 #[.pointer (some ⟨p,0,none⟩)] w fun e w'=>e=.returned (.int .i64 0)∧∃ O' s' X',St w0 w' p d Ns q ep O' s' X' [] y f C t∧Chg (q :: O) w w'∧∀ b∈O',b∈O∨w.heap.size≤b:=by
 refine (commit_view h.sto).mono ?_
 rintro e w' ⟨rfl,O',s',X',h1,h2,h3,h4⟩
 exact ⟨rfl,O',s',X',⟨h1,by rw [h2];exact h.nds,h.like⟩,h3,h4⟩
theorem sct_w1:sct (wrG (fun _=>false) 0 0 1)=1:=by decide +kernel
theorem sct_w2:sct (wrG (fun _=>false) 0 0 2)=2:=by decide +kernel
theorem write_st {s1 u:N.Nm} {A:Option Addr} {n c:Nat} {l:List UInt8} (h:St w0 w p d 200 q ep O s X [] y f C (T2 s1 u)) (hB:F.Bts w0 w0.heap.size A n c l) (h1:0<n) (h2:n≤250) :
  Calls Tryz.prog 17 #[.pointer (some ⟨p,0,none⟩),.int .i64 2,.int .i64 0,.slice A n c] w fun e w'=>e=.returned (.int .i64 0)∧(∃ m' y' f' C' bk,St w0 w' p d 200 q ep O s X m' y' f' C' (T3 s1 u l bk))∧Chg [q] w w':=by
 have hx:=h.like 2 (by omega) (by omega)
 have hyk:(y 2).k=1:=hx.k
 have hys:(y 2).s=0:=hx.s
 have htx:(tx 0 n).length≤9:=tx_len (k:=2) (by omega)
 have hw:=h.nds.write (nn:=2) (a:=0) (n:=n) h.sto (low:=kb) (Tx:=tx 0 n) (by omega) (by omega) (by omega) ⟨fun x hx=>absurd hx (by simp [keys]),by have:kb.length=10:=rfl;omega,by decide⟩ (by decide) h1 (by omega) (arg_bts h.sto hB) (arg_out h.sto) (tx_mem _ _) (fun e=>by omega)
 refine hw.mono ?_
 rintro e w' (⟨rfl,m',y',f',a1,a2,a3,a4,a5,a6,a7⟩ | ⟨rfl,⟨bf,m2,hno⟩,hc⟩)
 ·refine ⟨rfl,⟨m',_,_,_,fun b=>decide (f' (ixb b)≠0),a1,a2,?_⟩,a7⟩
  have hs':y'.s=n:=by rw [a3,hys];omega
  have hl:=hB.len
  have:=h.like.put (n:=2) (hx.write (l:=l) (bk:=fun b=>decide (f' (ixb b)≠0)) (y':=y') (f':=f') (C':=ovr (C 2) 0 l n) rfl (by rw [hs',hl]) a4 (by
   apply List.ext_getElem?
   intro i
   rw [hs',byt_at]
   by_cases hi:i<n
   ·rw [if_pos hi]
    unfold ovr
    rw [if_pos ⟨Nat.zero_le _,by omega⟩,Nat.sub_zero,List.getElem?_eq_getElem (by omega)]
    rfl
   ·rw [if_neg hi,List.getElem?_eq_none (by omega)]) fun b _=>by simp)
  rw [show (T2 s1 u).put 2 { (T2 s1 u).nd 2 with dat:=l,blk:=fun b=>decide (f' (ixb b)≠0),c:=N.more ((T2 s1 u).nd 2).c }=T3 s1 u l fun b=>decide (f' (ixb b)≠0) from N.put2] at this
  exact this
 ·exfalso
  obtain ⟨e1,_⟩:=h.nds.few hno (by omega) (by omega) (by omega) (b:=blkT ((T2 s1 u).nd 2)) hx.blk h1 (by omega) (by omega)
  rw [tot_secs h.nds h.like,k2] at e1
  have hb0:blkT ((T2 s1 u).nd 2)=fun _=>false:=rfl
  rw [hb0] at e1
  have hk:(0+n - 1) / 128+1 - 0 / 128=1∨(0+n - 1) / 128+1 - 0 / 128=2:=by omega
  have hg:∀ k,wrG (fun _=>false) 0 n k=wrG (fun _=>false) 0 0 k:=fun k=>rfl
  rw [hg] at e1
  rcases hk with hk | hk
  ·rw [hk,sct_w1] at e1
   omega
  ·rw [hk,sct_w2] at e1
   omega
theorem read_st {s1 u:N.Nm} {l:List UInt8} {bk:Nat→Bool} (h:St w0 w p d Ns q ep O s X m y f C (T3 s1 u l bk)) (hl:l.length≤250):Calls Tryz.prog 18 #[.pointer (some ⟨p,0,none⟩),.int .i64 2,.int .i64 0,.int .i64 300] w (RdO w l 0) :=
 h.nds.readAll h.like h.sto (nn:=2) (k:=300) (by omega) (by omega) (by show (1:Nat)≠0;omega) (by omega) (by show l.length≤300;omega)
end
end Go.Proofs.YtkganhafbjgndaaGreatRR.V.namesLinked
