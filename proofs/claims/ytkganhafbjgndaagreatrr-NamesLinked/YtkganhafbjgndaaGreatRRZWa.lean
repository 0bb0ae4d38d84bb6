/- Entries of the tree's rows: the same as entry's. -/
import Derived.Test.YtkganhafbjgndaaGreatRRZNAll
import Derived.Test.YtkganhafbjgndaaGreatRRZEb
import Derived.Test.YtkganhafbjgndaaGreatRRZVn
import Derived.Test.YtkganhafbjgndaaGreatRRZP
import Derived.Test.YtkganhafbjgndaaGreatRRZSCom
import Derived.Test.YtkganhafbjgndaaGreatRRZEs
namespace Go.Proofs.YtkganhafbjgndaaGreatRR.V
set_option linter.unusedVariables false
theorem idx_congr {α:Type} {p q:α→Bool}:∀ {l:List α},(∀ x∈l,p x=q x)→l.findIdx? p=l.findIdx? q
 | [],_=>rfl
 | a :: l,h=>by
  rw [List.findIdx?_cons,List.findIdx?_cons,h a (by simp),idx_congr fun x hx=>h x (by simp [hx])]
theorem place_eN {l:List N.Rw} (h:∀ r∈l,r.1=[]→r=N.emp):E.place l=N.place l:=by
 unfold E.place N.place
 rw [idx_congr (q:=fun r=>decide (r.1=[])) fun r hr=>by
  by_cases e:r.1=[]
  ·have:=h r hr e
   subst this
   rfl
  ·rw [decide_eq_false e,decide_eq_false fun e2=>e (by rw [e2];rfl)]]
theorem enc_eN {t:N.Tr} {r:N.Rw} (h:N.RowOk t r):E.enc r=some (N.encR r):=by
 unfold N.encR
 rcases h with rfl | ⟨h1,k,h2,h3,h4,_⟩
 ·rfl
 ·have hs:E.sound r=true:=E.sound_iff.2 ⟨h1,by omega,by omega⟩
  rw [if_neg (show r≠N.emp from E.sound_ne hs),E.enc_yes hs]
  rfl
theorem prt_encs {l:List N.Rw} (h:∀ r∈l,(N.encR r).length=32) {k:Nat} {r:N.Rw} (hr:l[k]?=some r):E.prt (N.encs l) k=N.encR r:=by
 have hl:=h r (List.mem_of_getElem? hr)
 unfold E.prt
 apply List.ext_getElem?
 intro j
 rw [List.getElem?_take,List.getElem?_drop]
 by_cases hj:j<32
 ·rw [if_pos hj,N.encs_get h k j hj,hr]
  rfl
 ·rw [if_neg hj,List.getElem?_eq_none (by omega)]
theorem slots_encs {l:List N.Rw} (h:∀ r∈l,E.enc r=some (N.encR r)) (hd:(N.nms l).Nodup):E.slots (N.encs l)=some l:=by
 have h32:∀ r∈l,(N.encR r).length=32:=fun r hr=>E.enc_len (h r hr)
 have hlen:=N.encs_len h32
 have hn:E.nch (N.encs l)=l.length:=by unfold E.nch;omega
 have hdec:∀ k r,l[k]?=some r→E.dec (E.prt (N.encs l) k)=some r:=fun k r hr=>by
  rw [prt_encs h32 hr]
  exact E.dec_enc (h r (List.mem_of_getElem? hr))
 have hr:E.rws (N.encs l) (E.nch (N.encs l))=l:=by
  rw [hn]
  unfold E.rws
  apply List.ext_getElem?
  intro k
  rw [List.getElem?_map]
  by_cases hk:k<l.length
  ·rw [List.getElem?_range hk,List.getElem?_eq_getElem hk,Option.map_some,hdec k _ (List.getElem?_eq_getElem hk)]
   rfl
  ·rw [List.getElem?_eq_none (by simpa using hk),List.getElem?_eq_none (by omega)]
   rfl
 have ho:E.oks (N.encs l) (E.nch (N.encs l))=true:=by
  rw [hn]
  unfold E.oks
  rw [List.all_eq_true]
  intro k hk
  have hk:k<l.length:=by simpa using hk
  rw [hdec k _ (List.getElem?_eq_getElem hk)]
  rfl
 rw [E.slots_yes ho (by rw [hr];exact hd),hr]
theorem slots_dir {t:N.Tr} {ex:Nat→Int} (h:N.WFx t ex) {n:Nat} (hn:n<32):E.slots (N.encs (t.nd n).rows)=some (t.nd n).rows :=
 slots_encs (fun r hr=>enc_eN (h.row n hn r hr)) (h.dist n hn)
theorem place_dir {t:N.Tr} {ex:Nat→Int} (h:N.WFx t ex) {n:Nat} (hn:n<32):E.place (t.nd n).rows=N.place (t.nd n).rows :=
 place_eN fun r hr e=>(h.row n hn r hr).emp_of e
end Go.Proofs.YtkganhafbjgndaaGreatRR.V
namespace Go.Proofs.YtkganhafbjgndaaGreatRR.V
open Go.RowKit
set_option linter.unusedVariables false
set_option maxRecDepth 20000
theorem own_mono {w:World} {b b':Nat} {e:TypeId} {size n:Nat} {v:Value} {xs:List Value} (h:w.ownsRow b e size v n xs) (hb:b'≤b):w.ownsRow b' e size v n xs :=
 ⟨h.1,h.2.imp id fun ⟨g,cap,cur,e1,e2,r⟩=>⟨g,cap,cur,e1,Nat.le_trans hb e2,r⟩⟩
structure St (w0 w:World) (p d Ns q ep:Nat) (O:List Nat) (s:DS) (X:Secs2) (m:List Wr) (y:Nat→D.Nn) (f:Nat→Nat→Nat) (C:Nat→Nat→UInt8) (t:N.Tr):Prop where
 sto:Sto w0 w p d O Ns s X q m
 nds:Nds Ns ep t.gens (view X m) y f C
 like:Like t y f C
def EntsP (w:World) (l:List N.Rw) (e:Ending) (w':World):Prop:=∃ v,e=.returned (.tuple #[v,.int .i64 0])∧E.OwnR w' w.heap.size v l∧Below w.heap.size w w'
def Nil2 (w:World) (er:Int) (e:Ending) (w':World):Prop:=e=.returned (.tuple #[.slice none 0 0,.int .i64 er])∧Below w.heap.size w w'
def Num2 (w:World) (n:Nat) (er:Int) (e:Ending) (w':World):Prop:=e=.returned (.tuple #[.int .i64 (n:Int),.int .i64 er])∧Below w.heap.size w w'
def LstP (w:World) (l:List N.Nm) (e:Ending) (w':World):Prop:=∃ v,e=.returned (.tuple #[v,.int .i64 0])∧E.OwnS w' w.heap.size v (E.srt l)∧Below w.heap.size w w'
theorem nbarred_nil (w:World):Calls Tryz.prog 22 #[.pointer none] w fun e w'=>e=.returned (.int .i64 1)∧w=w':=by
 go_enter Tryz.func22,Tryz.ntmps22
 go_wp2_with fail
 refine (get_nil' 0 w).mono ?_
 rintro e w1 ⟨rfl,rfl⟩
 go_wp2_with fail
 go_ret
 exact ⟨rfl,rfl⟩
section
variable {w0 w w':World} {p d Ns q ep n:Nat} {O:List Nat} {s:DS} {X:Secs2} {m:List Wr} {y:Nat→D.Nn} {f:Nat→Nat→Nat} {C:Nat→Nat→UInt8} {t:N.Tr} {ex:Nat→Int}
theorem St.below (h:St w0 w p d Ns q ep O s X m y f C t) (hb:Below w.heap.size w w'):St w0 w' p d Ns q ep O s X m y f C t:=⟨h.sto.below hb,h.nds,h.like⟩
theorem St.yk (h:St w0 w p d Ns q ep O s X m y f C t) (h1:1≤n) (h2:n<32):(y n).k=(t.nd n).k:=(h.like n h1 h2).k
theorem St.node (h:St w0 w p d Ns q ep O s X m y f C t) (h1:1≤n) (h2:n<32):Calls Tryz.prog 30 #[.pointer (some ⟨p,0,none⟩),.int .i64 n] w (NodeR w (y n)):=h.nds.node h.sto h1 h2
theorem nbarred_ok (h:Sto w0 w p d O Ns s X q m):Calls Tryz.prog 22 #[.pointer (some ⟨p,0,none⟩)] w fun e w'=>e=.returned (.int .i64 0)∧Below w.heap.size w w':=by
 have hn:=h.n64
 have hg:Calls Tryz.prog 55 #[.pointer (some ⟨p,0,none⟩),.int .i64 0] w (SGet w (view X m 0)):=get_any h (n:=0) (by omega) (by unfold inLog;omega)
 have HG:=Lib.hid hg
 clear h hg
 go_enter Tryz.func22,Tryz.ntmps22
 go_wp2_with fail
 refine HG.out.mono ?_
 rintro e w1 ⟨b,rfl,-,-,hb⟩
 have HB:=Lib.hid hb
 clear hb
 go_wp2_with fail
 go_ret
 exact ⟨rfl,HB.out⟩
set_option maxHeartbeats 2000000 in
theorem ents_dir (h:St w0 w p d Ns q ep O s X m y f C t) (ht:N.WFx t ex) (h1:1≤n) (h2:n<32) (hk:(t.nd n).k=2):Calls Tryz.prog 60 #[.pointer (some ⟨p,0,none⟩),.int .i64 n] w (EntsP w (t.nd n).rows):=by
 have HN:=Lib.hid (h.node h1 h2)
 have hsl:=slots_dir ht h2
 have hdat:datT (t.nd n)=N.encs (t.nd n).rows:=if_pos hk
 have hsz:N.sizeT (t.nd n)≤9728:=by
  have:=ht.len n h2
  unfold N.sizeT
  rw [if_pos hk]
  omega
 have HR:Hid (∀ w',Below w.heap.size w w'→Calls Tryz.prog 18 #[.pointer (some ⟨p,0,none⟩),.int .i64 n,.int .i64 0,.int .i64 9728] w' (RdO w' (N.encs (t.nd n).rows) 0)):=fun w' hb=>by
  have:=h.nds.readAll h.like (h.sto.below hb) h1 h2 (by omega) (k:=9728) (Nat.le_refl _) hsz
  rwa [hdat] at this
 have HLN:Hid ((N.encs (t.nd n).rows).length≤9728):=by
  have h3:=N.encs_len (l:=(t.nd n).rows) fun r hr=>N.encR_len (ht.row n h2 r hr)
  have:=ht.len n h2
  show _≤_
  omega
 have HK:Hid (((y n).up.k != 2)=false):=by
  have:=h.yk h1 h2
  show _=_
  rw [bne_eq_false_iff_eq]
  show ((y n).k:Int)=2
  omega
 have HSL:=Lib.hid hsl
 generalize N.encs (t.nd n).rows=l at *
 generalize (t.nd n).rows=rs at *
 clear h ht hk hsl hdat hsz
 go_enter Tryz.func60,Tryz.ntmps60
 go_wp2_with fail
 refine HN.out.mono ?_
 rintro e w1 ⟨rfl,hb⟩
 generalize y n=yn at *
 obtain ⟨b0,b1,b2⟩:=D.box1 w1 (Obj.cells (D.nc yn.up).toArray 66)
 have B0:=Lib.hid b0
 have HB:=Lib.hid (hb.trans (b1.mono hb.size))
 clear hb b0 b1 b2
 go_upto_region 2 with (first | (refine wpList_store_new rfl 66 _ _ rfl w1 D.z11 (D.nc yn.up).toArray rfl rfl s47 rfl (all_oneCell_toArray (D.nc_one _)) ?_) | fail)
 generalize w1.alloc (Obj.cells (D.nc yn.up).toArray 66)=W at *
 have c0:W.cell? ⟨w1.heap.size,0,none⟩=some (.int .i64 yn.up.k):=cell_of_row _ _ 0 _ _ _ B0.out
 have hk:=HK.out
 go_upto_region 6 with fail
 clear c0 hk
 go_wp2_with fail
 refine (HR.out W HB.out).mono ?_
 rintro e w2 ⟨A,k,c,rfl,hbt,hb,_⟩
 have hlen:=hbt.len
 have HB2:=Lib.hid (HB.out.trans (hb.mono HB.out.size))
 have HBT:Hid (E.Bts w2 w2.heap.size A k c l):=⟨hbt.len,hbt.cap,hbt.lim,hbt.nil,hbt.at_⟩
 have hkk:k≤140737488355328:=by have:=HLN.out;omega
 clear hb hbt
 go_wp2_with fail
 refine (E.slots_any HBT.out (Nat.le_refl _) hkk).mono ?_
 rintro e w3 he
 rw [HSL.out] at he
 obtain ⟨v,rfl,ho,hb⟩:=he
 have HO:Hid (E.OwnR w3 w2.heap.size v rs):=ho
 have HB3:=Lib.hid (HB2.out.trans (hb.mono HB2.out.size))
 clear ho hb
 have hs:=HB2.out.size
 go_wp2_with fail
 go_ret2
 exact ⟨v,rfl,own_mono HO.out hs,HB3.out⟩
set_option maxHeartbeats 2000000 in
theorem ents_file (h:St w0 w p d Ns q ep O s X m y f C t) (h1:1≤n) (h2:n<32) (hk:(t.nd n).k≠2):Calls Tryz.prog 60 #[.pointer (some ⟨p,0,none⟩),.int .i64 n] w (Nil2 w 14):=by
 have HN:=Lib.hid (h.node h1 h2)
 have HK:Hid (((y n).up.k != 2)=true):=by
  have:=h.yk h1 h2
  show _=_
  rw [bne_iff_ne]
  show ((y n).k:Int)≠2
  omega
 clear h hk
 go_enter Tryz.func60,Tryz.ntmps60
 go_wp2_with fail
 refine HN.out.mono ?_
 rintro e w1 ⟨rfl,hb⟩
 generalize y n=yn at *
 obtain ⟨b0,b1,b2⟩:=D.box1 w1 (Obj.cells (D.nc yn.up).toArray 66)
 have B0:=Lib.hid b0
 have HB:=Lib.hid (hb.trans (b1.mono hb.size))
 clear hb b0 b1 b2
 go_upto_region 2 with (first | (refine wpList_store_new rfl 66 _ _ rfl w1 D.z11 (D.nc yn.up).toArray rfl rfl s47 rfl (all_oneCell_toArray (D.nc_one _)) ?_) | fail)
 generalize w1.alloc (Obj.cells (D.nc yn.up).toArray 66)=W at *
 have c0:W.cell? ⟨w1.heap.size,0,none⟩=some (.int .i64 yn.up.k):=cell_of_row _ _ 0 _ _ _ B0.out
 have hk:=HK.out
 go_wp2_with fail
 go_ret2
 exact ⟨rfl,HB.out⟩
theorem listed_dir (h:St w0 w p d Ns q ep O s X m y f C t) (ht:N.WFx t ex) (h1:1≤n) (h2:n<32) (hk:(t.nd n).k=2):Calls Tryz.prog 35 #[.pointer (some ⟨p,0,none⟩),.int .i64 n] w (LstP w (N.nms (t.nd n).rows)):=by
 have HE:=Lib.hid (ents_dir h ht h1 h2 hk)
 have hl:=ht.len n h2
 have HL:Hid ((t.nd n).rows.length≤304):=hl
 clear h ht hk hl
 generalize (t.nd n).rows=rs at *
 go_enter Tryz.func35,Tryz.ntmps35
 go_wp2_with fail
 refine HE.out.mono ?_
 rintro e w1 ⟨v,rfl,ho,hb⟩
 obtain ⟨A,c,rfl,hr⟩:=E.OwnR.rws ho
 have HR:=Lib.hid hr
 have HB:=Lib.hid hb
 have hll:=HL.out
 clear ho hr hb
 go_wp2_with fail
 refine (E.names_any HR.out (Nat.le_refl _) (by omega)).mono ?_
 rintro e w2 ⟨v,rfl,ho,hb⟩
 have hs:=HB.out.size
 have HO:Hid (E.OwnS w2 w.heap.size v (E.srt (E.nms rs))):=own_mono ho hs
 have HB2:=Lib.hid (HB.out.trans (hb.mono hs))
 clear ho hb
 go_wp2_with fail
 go_ret2
 exact ⟨v,rfl,HO.out,HB2.out⟩
theorem named_any (h:St w0 w p d Ns q ep O s X m y f C t) (ht:N.WFx t ex) (h1:1≤n) (h2:n<32) (nm:N.Nm):Calls Tryz.prog 73 #[.pointer (some ⟨p,0,none⟩),.int .i64 n,.string (E.bs nm)] w (Num2 w (N.stepT t n nm).1 (N.stepT t n nm).2):=by
 by_cases hk:(t.nd n).k=2
 ·have HE:=Lib.hid (ents_dir h ht h1 h2 hk)
  cases hf:N.find (t.nd n).rows nm with
  | none =>
   have HS:Hid (N.stepT t n nm=(0,0)):=N.step_none hk hf
   have HF:Hid (E.find (t.nd n).rows nm=none):=hf
   clear h ht hk hf
   generalize (t.nd n).rows=rs at *
   go_enter Tryz.func73,Tryz.ntmps73
   go_wp2_with fail
   refine HE.out.mono ?_
   rintro e w1 ⟨v,rfl,ho,hb⟩
   obtain ⟨A,c,rfl,hr⟩:=E.OwnR.rws ho
   have HR:=Lib.hid hr
   have HB:=Lib.hid hb
   clear ho hr hb
   go_wp2_with fail
   refine (E.find_any nm HR.out (Nat.le_refl _)).mono ?_
   rintro e w2 he
   rw [HF.out] at he
   obtain ⟨rfl,hb⟩:=he
   have HB2:=Lib.hid (HB.out.trans (hb.mono HB.out.size))
   clear hb
   go_wp2_with fail
   go_ret2
   rw [HS.out]
   exact ⟨rfl,HB2.out⟩
  | some i =>
   obtain ⟨hne,r,hr,he⟩:=N.find_some hf
   obtain ⟨k,hk0⟩:∃ k:Nat,r.2=(k:Int):=by
    rcases ht.row n h2 r (List.mem_of_getElem? hr) with rfl | ⟨_,k,e,_⟩
    ·exact ⟨0,rfl⟩
    ·exact ⟨k,e⟩
   have HS:Hid (N.stepT t n nm=(k,0)):=by
    show _=_
    unfold N.stepT
    rw [if_neg (fun e=>e hk),hf]
    show (((t.nd n).rows[i]?.getD N.emp).2.toNat,(0:Int))=_
    rw [hr]
    show (r.2.toNat,(0:Int))=_
    rw [hk0]
    rfl
   have HF:Hid (E.find (t.nd n).rows nm=some i):=hf
   have HR0:Hid ((t.nd n).rows[i]?=some r):=hr
   have HK0:=Lib.hid hk0
   clear h ht hk hf hr hk0 hne he
   generalize (t.nd n).rows=rs at *
   go_enter Tryz.func73,Tryz.ntmps73
   go_wp2_with fail
   refine HE.out.mono ?_
   rintro e w1 ⟨v,rfl,ho,hb⟩
   obtain ⟨A,c,rfl,hr⟩:=E.OwnR.rws ho
   have HR:=Lib.hid hr
   have HB:=Lib.hid hb
   clear ho hr hb
   go_wp2_with fail
   refine (E.find_any nm HR.out (Nat.le_refl _)).mono ?_
   rintro e w2 he
   rw [HF.out] at he
   obtain ⟨rfl,hb⟩:=he
   have HR2:=Lib.hid (HR.out.below hb)
   have HB2:=Lib.hid (HB.out.trans (hb.mono HB.out.size))
   clear hb HR
   have hi:i<rs.length:=(List.getElem?_eq_some_iff.1 HR0.out).1
   have hlim:=HR2.out.lim
   have hcap:=HR2.out.cap
   unfold maxLen at hlim
   obtain ⟨b,off,hA,hbB,hcell⟩:=HR2.out.at_ (by omega)
   have c1:=(hcell i r HR0.out).2
   rw [HK0.out] at c1
   subst hA
   clear hcell
   have hii:(i:Int)<(rs.length:Int):=by omega
   go_wp2_with fail
   go_ret2
   rw [HS.out]
   exact ⟨rfl,HB2.out⟩
 ·have HE:=Lib.hid (ents_file h h1 h2 hk)
  have HS:Hid (N.stepT t n nm=(0,14)):=if_pos hk
  clear h ht hk
  go_enter Tryz.func73,Tryz.ntmps73
  go_wp2_with fail
  refine HE.out.mono ?_
  rintro e w1 ⟨rfl,hb⟩
  have HB:=Lib.hid hb
  clear hb
  go_wp2_with fail
  go_ret2
  rw [HS.out]
  exact ⟨rfl,HB.out⟩
end
end Go.Proofs.YtkganhafbjgndaaGreatRR.V
namespace Go.Proofs.YtkganhafbjgndaaGreatRR.V
open Go.RowKit
set_option linter.unusedVariables false
set_option maxRecDepth 20000
def wayT (t:N.Tr):List N.Nm→Nat→List Int
 | [],n=>[(n:Int)]
 | s :: l,n=>(n:Int) :: wayT t l (N.stepT t n s).1
theorem wayT_len (t:N.Tr):∀ (l:List N.Nm) (n:Nat),(wayT t l n).length=l.length+1
 | [],_=>rfl
 | s :: l,n=>by rw [wayT,List.length_cons,List.length_cons,wayT_len t l]
theorem wayT_last {t:N.Tr}:∀ (l:List N.Nm) (n:Nat) {z:Nat},N.namesT t l n=(z,0)→(wayT t l n)[l.length]?=some (z:Int)
 | [],n,z,h=>by
  have:n=z:=congrArg Prod.fst h
  subst this
  rfl
 | s :: l,n,z,h=>by
  obtain ⟨h1,h2,h3⟩:=N.names_cons h
  rw [wayT,List.length_cons,List.getElem?_cons_succ]
  exact wayT_last l _ h3
theorem wayT_snoc {t:N.Tr} {s:N.Nm}:∀ (l:List N.Nm) (n:Nat) {z:Nat},N.namesT t l n=(z,0)→wayT t (l++[s]) n=wayT t l n++[((N.stepT t z s).1:Int)]
 | [],n,z,h=>by
  have:n=z:=congrArg Prod.fst h
  subst this
  rfl
 | a :: l,n,z,h=>by
  obtain ⟨h1,h2,h3⟩:=N.names_cons h
  rw [List.cons_append,wayT,wayT,wayT_snoc l _ h3]
  rfl
theorem appI_bel {w:World} {base:Nat} {v:Value} {l:List Int} (x:Int) (hown:OwnI w base v l) (hl:(l.length+1) * 8≤140737488355328) (hbase:base≤w.heap.size) :
  ∃ v' w',(Builtin.append_ #[54,54] 54 #[v,.slice (some ⟨w.heap.size,0,none⟩) 1 1]).run Tryz.prog (w.alloc (.cells #[.int .i64 x] 3))=.ok v' w'∧OwnI w' base v' (l++[x])∧Below base w w':=by
 obtain ⟨v',w',hr,h2,h3,_⟩:=appI_run x hown hl hbase
 exact ⟨v',w',hr,h2,((Below.refl base w).alloc hbase _).grown h3 (by simp;omega) fun j hj=>(World.ownsRow.lt hown j hj).1⟩
def WayP (w:World) (t:N.Tr) (q:List N.Nm × Int) (e:Ending) (w':World):Prop :=
 (q.2=0∧(∃ z,N.namesT t q.1 1=(z,0))∧∃ v,e=.returned (.tuple #[v,.int .i64 0])∧OwnI w' w.heap.size v (wayT t q.1 1)∧Below w.heap.size w w') ∨
 ((N.walkT t q).2≠0∧Nil2 w (N.walkT t q).2 e w')
theorem names_stop {t:N.Tr} {l:List N.Nm} {k z:Nat} {s:N.Nm} (h:N.namesT t (l.take k) 1=(z,0)) (hs:l[k]?=some s) :
  N.namesT t l 1=if (N.stepT t z s).2≠0 then (0,(N.stepT t z s).2) else if (N.stepT t z s).1=0 then (0,7) else N.namesT t (l.drop (k+1)) (N.stepT t z s).1:=by
 have hk:=(List.getElem?_eq_some_iff.1 hs).1
 have e:l=l.take k++s :: l.drop (k+1):=by
  have:=(List.getElem?_eq_some_iff.1 hs).2
  rw [← this,← List.drop_eq_getElem_cons hk,List.take_append_drop]
 conv=>lhs;rw [e]
 rw [N.names_app t _ _ 1 h,N.namesT]
theorem names_more {t:N.Tr} {l:List N.Nm} {k z:Nat} {s:N.Nm} (h:N.namesT t (l.take k) 1=(z,0)) (hs:l[k]?=some s) (h1:(N.stepT t z s).2=0) (h2:(N.stepT t z s).1≠0):N.namesT t (l.take (k+1)) 1=((N.stepT t z s).1,0)∧wayT t (l.take (k+1)) 1=wayT t (l.take k) 1++[((N.stepT t z s).1:Int)]:=by
 obtain ⟨hk,rfl⟩:=List.getElem?_eq_some_iff.1 hs
 rw [List.take_succ_eq_append_getElem hk]
 constructor
 ·rw [N.names_app t _ _ 1 h,N.namesT,if_neg (fun e=>e h1),if_neg h2]
  rfl
 ·exact wayT_snoc _ _ h
section
variable {w0 w w':World} {p d Ns q ep n:Nat} {O:List Nat} {s:DS} {X:Secs2} {m:List Wr} {y:Nat→D.Nn} {f:Nat→Nat→Nat} {C:Nat→Nat→UInt8} {t:N.Tr} {ex:Nat→Int}
set_option maxHeartbeats 2000000 in
theorem nwalk_any (h:St w0 w p d Ns q ep O s X m y f C t) (ht:N.WFx t ex) (st:List UInt8):Calls Tryz.prog 67 #[.pointer (some ⟨p,0,none⟩),.string (E.bs st)] w (WayP w t (P.split st)):=by
 have HSP:Hid (Calls Tryz.prog 111 #[.string (E.bs st)] w (P.Splits w (P.split st))):=P.split_any st w
 have HH:=Lib.hid h
 have HT:=Lib.hid ht
 have HL8:=Lib.hid (P.split_good st).2
 clear h ht
 obtain ⟨qq,hq⟩:∃ qq,P.split st=qq:=⟨_,rfl⟩
 rw [hq] at HSP HL8 ⊢
 clear hq
 obtain ⟨ns,er⟩:=qq
 dsimp only at HL8
 go_enter Tryz.func67,Tryz.ntmps67
 go_wp2_with fail
 refine HSP.out.mono ?_
 rintro e w1 ⟨A,c,rfl,hs,hb⟩
 have HS:=Lib.hid hs
 have HB:=Lib.hid hb
 have hz:=hb.size
 have hlim:=hs.lim
 have hcap:=hs.cap
 unfold maxLen at hlim
 clear hs hb
 dsimp only at HS hcap ⊢
 by_cases h0:er=0
 ·subst h0
  have HO0:Hid (OwnI (w1.alloc (.cells #[.int .i64 1] 3)) w1.heap.size (.slice (some ⟨w1.heap.size,0,none⟩) 1 1) [1]):=World.ownsRow_lit w1 #[.int .i64 1] 1 (Nat.le_refl _) (by decide) rfl
  have HB0:Hid (Below w.heap.size w (w1.alloc (.cells #[.int .i64 1] 3))):=HB.out.alloc hz _
  go_wp2_with fail
  go_loopw [8,9,24] (fun nn v i wr=>∃ k z:Nat,∃ u:Value,k≤ns.length∧i=.int .i64 k∧nn=.int .i64 (z:Int)∧v=u∧Hid (N.namesT t (ns.take k) 1=(z,0))∧Hid (OwnI wr w1.heap.size u (wayT t (ns.take k) 1))∧Hid (Below w1.heap.size w1 wr)) (fun _ _ i _=>ns.length - (intOf i).toNat)
  case atStart=>exact ⟨0,1,_,Nat.zero_le _,rfl,rfl,rfl,rfl,HO0.out,(Below.refl _ w1).alloc (Nat.le_refl _) _⟩
  case round =>
   obtain ⟨k,z,u,hk,rfl,rfl,hu,HN,HO,HB1⟩:=hrel
   obtain rfl:=hu.symm
   have HBW:Hid (Below w.heap.size w wr):=HB.out.trans (HB1.out.mono hz)
   by_cases hlt:k<ns.length
   ·obtain ⟨b,off,rfl,hbb,hc0⟩:=(HS.out.below HB1.out).cell hlt
    obtain ⟨sm,hsm⟩:∃ sm,ns[k]?=some sm:=⟨_,List.getElem?_eq_getElem hlt⟩
    rw [hsm] at hc0
    have hc1:wr.cell? ⟨b,off+k,none⟩=some (.string (E.bs sm)):=hc0
    have HSM:=Lib.hid hsm
    obtain ⟨z1,z2,z3⟩:=N.names_of HT.out (ns.take k) 1 (Nat.le_refl _) (by omega) (by rw [HT.out.root];omega) (by rw [HN.out])
    rw [HN.out] at z1 z2 z3
    have HNM:=Lib.hid (named_any (HH.out.below HBW.out) HT.out z1 z2 sm)
    clear hsm hc0 z3
    obtain ⟨r,hr⟩:∃ r,N.stepT t z sm=r:=⟨_,rfl⟩
    have HR:=Lib.hid hr
    rw [hr] at HNM
    clear hr
    obtain ⟨n2,e2⟩:=r
    dsimp only at HNM
    by_cases he2:e2=0
    ·subst he2
     by_cases hn2:n2=0
     ·subst hn2
      have HW:Hid (N.walkT t (ns,0)=(0,7)):=by
       show _=_
       unfold N.walkT
       rw [if_neg (fun h=>h rfl)]
       show N.namesT t ns 1=_
       rw [names_stop HN.out HSM.out,HR.out]
       rfl
      clear HO0 HB0 HL8
      go_wp2_with fail
      refine HNM.out.mono ?_
      rintro e w2 ⟨rfl,hb2⟩
      have HB2:=Lib.hid (HBW.out.trans (hb2.mono HBW.out.size))
      clear hb2
      go_wp2_with fail
      go_ret2
      right
      rw [HW.out]
      exact ⟨by decide,rfl,HB2.out⟩
     ·have hm:=names_more HN.out HSM.out (by rw [HR.out]) (by rw [HR.out];exact hn2)
      rw [HR.out] at hm
      have HM:=Lib.hid hm
      have hn2':((n2:Int) == 0)=false:=by rw [beq_eq_false_iff_ne];omega
      clear hm HO0 HB0
      go_wp2_with fail
      refine HNM.out.mono ?_
      rintro e w2 ⟨rfl,hb2⟩
      have HB2:=Lib.hid (HBW.out.trans (hb2.mono HBW.out.size))
      have HB12:=Lib.hid (HB1.out.trans (hb2.mono HB1.out.size))
      have HO2:Hid (OwnI w2 w1.heap.size u (wayT t (ns.take k) 1)):=T.ownsRow_keep HO.out fun b' hb'=>hb2.block b' (World.ownsRow.lt HO.out b' hb').2
      obtain ⟨v',w',hr,ho,hb'⟩:=appI_bel (n2:Int) HO2.out (by rw [wayT_len,List.length_take];have:=HL8.out;omega) HB12.out.size
      have HRUN:=Lib.hid hr
      have HO3:=Lib.hid ho
      have HB3:Hid (Below w1.heap.size w1 w'):=HB12.out.trans hb'
      clear hb2 hr ho hb'
      go_wp2_with (at_builtin;refine Lib.wpList_append_run _ rfl _ _ _ _ rfl _ _ rfl rfl _ _ HRUN.out ?_)
      go_roundw
      case rel=>exact ⟨k+1,n2,v',by omega,by go_num,rfl,rfl,HM.out.1,by rw [HM.out.2];exact HO3.out,HB3⟩
      case measure=>simp [intOf];omega
    ·have HW:Hid (N.walkT t (ns,0)=(0,e2)):=by
      show _=_
      unfold N.walkT
      rw [if_neg (fun h=>h rfl)]
      show N.namesT t ns 1=_
      rw [names_stop HN.out HSM.out,HR.out]
      exact if_pos he2
     have HE:Hid ((e2 != 0)=true):=by show _=_;rw [bne_iff_ne];exact he2
     have he:=HE.out
     clear HO0 HB0 HL8
     go_wp2_with fail
     refine HNM.out.mono ?_
     rintro e w2 ⟨rfl,hb2⟩
     have HB2:=Lib.hid (HBW.out.trans (hb2.mono HBW.out.size))
     clear hb2
     go_wp2_with fail
     go_ret2
     right
     rw [HW.out]
     exact ⟨he2,rfl,HB2.out⟩
   ·obtain rfl:k=ns.length:=by omega
    have HLT:Hid (ns.take ns.length=ns):=List.take_length
    have HN':=HN.out
    have HO':=HO.out
    rw [HLT.out] at HN' HO'
    have HN2:=Lib.hid HN'
    have HO2:=Lib.hid HO'
    clear HN HO HN' HO' HO0 HB0
    go_wp2_with fail
    go_ret2
    exact .inl ⟨rfl,⟨z,HN2.out⟩,u,rfl,own_mono HO2.out hz,HBW.out⟩
 ·have HE:Hid ((er != 0)=true):=by show _=_;rw [bne_iff_ne];exact h0
  have he:=HE.out
  have HW:Hid (N.walkT t (ns,er)=(0,er)):=if_pos h0
  go_wp2_with fail
  go_ret2
  right
  rw [HW.out]
  exact ⟨h0,rfl,HB.out⟩
end
end Go.Proofs.YtkganhafbjgndaaGreatRR.V
namespace Go.Proofs.YtkganhafbjgndaaGreatRR.V
open Go.RowKit
set_option linter.unusedVariables false
set_option maxRecDepth 20000
abbrev z6:Array Value:=#[.int .i64 0,.int .i64 0,.int .i64 0,.int .i64 0,.int .i64 0,.int .i64 0]
def stc (n:Int) (y:D.Nd):Array Value:=#[.int .i64 n,.int .i64 y.g,.int .i64 y.k,.int .i64 y.l,.int .i64 y.s,.int .i64 y.c]
theorem s28 (n:Int) (y:D.Nd):(Tryz.prog.info? 28).map (·.size)=some (stc n y).size:=by kernel_rfl
theorem stc_one (n:Int) (y:D.Nd):(stc n y).all (·.oneCell')=true:=by kernel_rfl
set_option maxHeartbeats 1000000 in
theorem nstat_any (n:Int) (y:D.Nd) (w:World):Calls Tryz.prog 64 #[.int .i64 n,.agg (D.nc y).toArray] w fun e w'=>e=.returned (.agg (stc n y))∧Below w.heap.size w w':=by
 obtain ⟨a0,a1,a2⟩:=D.box1 w (Obj.cells (D.nc y).toArray 66)
 have A0:=Lib.hid a0
 have A1:=Lib.hid a1
 go_enter Tryz.func64,Tryz.ntmps64
 go_upto_region 1 with fail
 clear a0 a1
 generalize w.alloc (Obj.cells (D.nc y).toArray 66)=W at *
 have hlt:w.heap.size<W.heap.size:=by omega
 have cc:∀ j v,((D.nc y).toArray)[j]?=some v→(W.alloc (Obj.cells z6 28)).cell? ⟨w.heap.size,j,none⟩=some v:=fun j v hv=>by
  rw [World.cell?_alloc_lt _ _ _ (show (⟨w.heap.size,j,none⟩:Addr).block<W.heap.size from hlt)]
  rw [cell_of_row _ _ j _ _ _ A0.out]
  exact hv
 have c0:=cc 0 (.int .i64 y.k) rfl
 have c1:=cc 1 (.int .i64 y.l) rfl
 have c2:=cc 2 (.int .i64 y.g) rfl
 have c3:=cc 3 (.int .i64 y.s) rfl
 have c4:=cc 4 (.int .i64 y.c) rfl
 clear cc
 rw [← a2]
 go_wp2_with (first | (refine D.wpList_store_new rfl 28 _ _ rfl W z6 (stc n y) rfl rfl (s28 n y) rfl (stc_one n y) ?_) | fail)
 obtain ⟨b0,b1,b2⟩:=D.box1 W (Obj.cells (stc n y) 28)
 refine bodyPost_ret (D.ret_row rfl rfl b0 Tryz.underlying28 rfl (s28 n y)) rfl ?_
 exact ⟨rfl,A1.out.trans (b1.mono (by omega))⟩
theorem changed_any (y:D.Nd) (w:World) (h:0≤y.c∧y.c≤1073741824):Calls Tryz.prog 70 #[.agg (D.nc y).toArray] w fun e w'=>e=.returned (.int .i64 (min (y.c+1) 1073741824))∧Below w.heap.size w w':=by
 obtain ⟨h1,h2⟩:=h
 obtain ⟨a0,a1,a2⟩:=D.box1 w (Obj.cells (D.nc y).toArray 66)
 have A0:=Lib.hid a0
 have A1:=Lib.hid a1
 clear a0 a1 a2
 go_enter Tryz.func70,Tryz.ntmps70
 go_upto_region 1 with fail
 generalize w.alloc (Obj.cells (D.nc y).toArray 66)=W at *
 have c4:W.cell? ⟨w.heap.size,4,none⟩=some (.int .i64 y.c):=cell_of_row _ _ 4 _ _ _ A0.out
 go_wp2_with fail
 go_ret
 exact ⟨rfl,A1.out⟩
end Go.Proofs.YtkganhafbjgndaaGreatRR.V
namespace Go.Proofs.YtkganhafbjgndaaGreatRR.V
open Go.RowKit
set_option linter.unusedVariables false
set_option maxRecDepth 20000
abbrev plc (pp:Option Addr) (v:Value) (nm:ByteArray) (k:Int):Array Value:=#[.pointer pp,v,.string nm,.int .i64 k]
abbrev z56:Array Value:=#[.pointer none,.slice none 0 0,.string ⟨#[]⟩,.int .i64 0]
theorem s56 (pp:Option Addr) (v:Value) (nm:ByteArray) (k:Int):(Tryz.prog.info? 56).map (·.size)=some (plc pp v nm k).size:=by kernel_rfl
theorem plc_one (pp:Option Addr) (A:Option Addr) (n c:Nat) (nm:ByteArray) (k:Int):(plc pp (.slice A n c) nm k).all (·.oneCell')=true:=by kernel_rfl
theorem nfind_err {w:World} (st:List UInt8) (pp:Option Addr) (h0:P.lastE st≠0):Calls Tryz.prog 32 #[.pointer pp,.string (P.bs st)] w fun e w'=>e=.returned (.tuple #[.agg z56,.int .i64 (P.lastE st)])∧Below w.heap.size w w':=by
 have HLA:Hid (∀ w,Calls Tryz.prog 72 #[.string (P.bs st)] w (P.Lasts w (P.lastA st) (P.lastN st) (P.lastE st))):=P.last_any st
 have he:(P.lastE st != 0)=true:=by rw [bne_iff_ne];exact h0
 generalize P.lastE st=er at *
 clear h0
 obtain ⟨a0,a1,a2⟩:=D.box1 w (Obj.cells z56 56)
 have A0:=Lib.hid a0
 have A1:=Lib.hid a1
 go_enter Tryz.func32,Tryz.ntmps32
 go_wp2_with fail
 refine (HLA.out _).mono ?_
 rintro e w1 ⟨rfl,hb⟩
 have G:=Lib.hid ((hb.block w.heap.size (by simp)).trans A0.out)
 have HB:=Lib.hid (A1.out.trans (hb.mono (by simp)))
 clear a0 a1 a2 hb
 go_wp2_with (first | (refine D.wpList_store_row rfl 56 _ _ rfl w.heap.size z56 z56 56 rfl rfl G.out (s56 _ _ _ _) rfl (plc_one _ _ _ _ _ _) ?_) | fail)
 refine bodyPost_ret (D.ret_row2 rfl rfl (D.setRow_in _ _ _ z56 _ G.out) Tryz.underlying56 rfl (s56 _ _ _ _)) rfl ?_
 exact ⟨rfl,below_setRow HB.out (Nat.le_refl _) _⟩
end Go.Proofs.YtkganhafbjgndaaGreatRR.V
namespace Go.Proofs.YtkganhafbjgndaaGreatRR.V
open Go.RowKit
set_option linter.unusedVariables false
set_option maxRecDepth 20000
theorem split_lastA (st:List UInt8) (h:P.lastE st=0):(P.split st).2=0∧(P.split st).1≠[]∧P.split (P.lastA st)=((P.split st).1.dropLast,0)∧P.lastN st=(P.split st).1.getLastD []:=by
 have h0:(P.split st).2=0:=by
  unfold P.lastE at h
  split at h
  ·exact absurd h ‹_›
  ·exact Classical.not_not.1 ‹_›
 have h1:(P.split st).1≠[]:=fun e=>by
  unfold P.lastE at h
  rw [if_neg (by simpa using h0),if_pos e] at h
  cases h
 refine ⟨h0,h1,?_,by unfold P.lastN;rw [if_pos h]⟩
 have hj:=(P.join_dropLast st h0).1
 unfold P.lastA
 rw [if_pos h]
 unfold P.joinE at hj
 split at hj
 ·cases hj
 ·split at hj
  ·cases hj
  ·split at hj
   ·cases hj
   ·exact P.split_joinL _ (by simpa only [Bool.not_eq_false] using ‹¬ _=false›) (by omega) (by omega)
theorem names_zero {t:N.Tr}:∀ (l:List N.Nm) (n:Nat),(N.namesT t l n).2≠0→(N.namesT t l n).1=0
 | [],n,h=>absurd rfl h
 | s :: l,n,h=>by
  rw [N.namesT] at h ⊢
  split
  ·rfl
  ·split
   ·rfl
   ·rename_i h1 h2
    rw [if_neg h1,if_neg h2] at h
    exact names_zero l _ h
def PlcQ (w:World) (p:Nat) (t:N.Tr) (q:List N.Nm × Int) (er:Int) (e:Ending) (w':World):Prop :=
 (er=0∧(N.aboveT t q).err=0∧∃ v,e=.returned (.tuple #[.agg #[.pointer (some ⟨p,0,none⟩),v,.string (E.bs (N.aboveT t q).name),.int .i64 ((N.aboveT t q).node:Int)],.int .i64 0])∧OwnI w' w.heap.size v (wayT t q.1.dropLast 1)∧Below w.heap.size w w') ∨
 (er≠0∧∃ pp A n c nm k,e=.returned (.tuple #[.agg #[.pointer pp,.slice A n c,.string nm,.int .i64 k],.int .i64 er])∧Below w.heap.size w w')
theorem ownI_slice {w:World} {B:Nat} {v:Value} {ws:List Int} (h:OwnI w B v ws) (h0:ws≠[]):∃ g c,v=.slice (some ⟨g,0,none⟩) ws.length c∧B≤g∧g<w.heap.size∧ws.length≤c∧c≤maxLen∧∀ j z,ws[j]?=some z→w.cell? ⟨g,j,none⟩=some (.int .i64 z):=by
 rcases h.2 with ⟨_,e⟩ | ⟨g,cap,cur,rfl,hg,hh,h1,h2,h3,h4⟩
 ·exact absurd (List.length_eq_zero_iff.1 e) h0
 ·refine ⟨g,cap,rfl,hg,(Array.getElem?_eq_some_iff.1 hh).1,h1,h2,fun j z hz=>?_⟩
  have hj:=(List.getElem?_eq_some_iff.1 hz).1
  have:=World.ownsRow.cellAt h j (by omega)
  rw [this,List.getElem?_map,hz]
  rfl
section
variable {w0 w w':World} {p d Ns q ep n:Nat} {O:List Nat} {s:DS} {X:Secs2} {m:List Wr} {y:Nat→D.Nn} {f:Nat→Nat→Nat} {C:Nat→Nat→UInt8} {t:N.Tr} {ex:Nat→Int}
theorem dir_any {B:Nat} {v:Value} {ws:List Int} {z:Int} {j:Nat} {nm:ByteArray} {k:Int} {pp:Option Addr} (ho:OwnI w B v ws) (hl:ws.length=j+1) (hz:ws[j]?=some z) (hj:j≤100) :
  Calls Tryz.prog 61 #[.agg #[.pointer pp,v,.string nm,.int .i64 k]] w fun e w'=>e=.returned (.int .i64 z)∧Below w.heap.size w w':=by
 obtain ⟨g,c,rfl,_,hg,hc,hc2,hcell⟩:=ownI_slice ho (fun e=>by rw [e] at hl;simp at hl)
 have c0:=hcell j z hz
 rw [hl] at hc ⊢
 clear ho hcell hz hl
 have HB:Hid (Below w.heap.size w (w.alloc (.cells #[.pointer pp,.slice (some ⟨g,0,none⟩) (j+1) c,.string nm,.int .i64 k] 56))):=(Below.refl _ w).alloc (Nat.le_refl _) _
 have c1:(w.alloc (.cells #[.pointer pp,.slice (some ⟨g,0,none⟩) (j+1) c,.string nm,.int .i64 k] 56)).cell? ⟨g,j,none⟩=some (.int .i64 z):=by rw [World.cell?_alloc_lt _ _ _ (show (⟨g,j,none⟩:Addr).block<w.heap.size from hg)];exact c0
 unfold maxLen at hc2
 have e1:IntKind.i64.wrap (((j+1:Nat):Int) - 1)=(j:Int):=by
  rw [IntKind.wrap_i64]
  omega
 clear c0
 go_enter Tryz.func61,Tryz.ntmps61
 go_wp2_with fail
 go_ret
 exact ⟨rfl,HB.out⟩
set_option maxHeartbeats 1000000 in
theorem end_any (h:St w0 w p d Ns q ep O s X m y f C t) (ht:N.WFx t ex) (st:List UInt8):Calls Tryz.prog 29 #[.pointer (some ⟨p,0,none⟩),.string (E.bs st)] w (Num2 w (N.walkT t (P.split st)).1 (N.walkT t (P.split st)).2):=by
 have HW:=Lib.hid (nwalk_any h ht st)
 have HL8:=Lib.hid (P.split_good st).2
 clear h ht
 go_enter Tryz.func29,Tryz.ntmps29
 go_wp2_with fail
 refine HW.out.mono ?_
 rintro e w1 (⟨h0,⟨z,hz⟩,v,rfl,ho,hb⟩ | ⟨h0,rfl,hb⟩)
 ·have hlast:=wayT_last _ _ hz
  have hlen:=wayT_len t (P.split st).1 1
  have HR:Hid (N.walkT t (P.split st)=(z,0)):=by
   show _=_
   unfold N.walkT
   rw [if_neg (fun e=>e h0),hz]
  have hl8:=HL8.out
  obtain ⟨g,c,rfl,_,hg,hc,hc2,hcell⟩:=ownI_slice ho (fun e=>by rw [e] at hlen;simp at hlen)
  have c0:=hcell _ _ hlast
  have HB:=Lib.hid hb
  rw [hlen] at hc ⊢
  unfold maxLen at hc2
  clear ho hcell hlast hlen hz h0 hb
  generalize (P.split st).1.length=j at *
  go_wp2_with fail
  go_ret2
  rw [HR.out]
  exact ⟨rfl,HB.out⟩
 ·have he:((N.walkT t (P.split st)).2 != 0)=true:=by rw [bne_iff_ne];exact h0
  have HZ:Hid ((N.walkT t (P.split st)).1=0):=by
   show _=_
   unfold N.walkT at h0 ⊢
   split
   ·rfl
   ·rename_i hq
    rw [if_neg hq] at h0
    exact names_zero _ _ h0
  have HB:=Lib.hid hb
  clear hb h0
  generalize (N.walkT t (P.split st)).2=er at *
  generalize (N.walkT t (P.split st)).1=nn at *
  go_wp2_with fail
  go_ret2
  rw [HZ.out]
  exact ⟨rfl,HB.out⟩
theorem above_q {q:List N.Nm × Int} (h:q.2≠0):(N.aboveT t q).err=q.2:=by unfold N.aboveT;rw [if_pos h]
theorem above_nil {q:List N.Nm × Int} (h:q.2=0) (h1:q.1=[]):(N.aboveT t q).err=13:=by unfold N.aboveT;rw [if_neg (by rw [h];decide),if_pos h1]
theorem above_way {q:List N.Nm × Int} (h:q.2=0) (h1:q.1≠[]) (h2:(N.namesT t q.1.dropLast 1).2≠0):(N.aboveT t q).err=(N.namesT t q.1.dropLast 1).2:=by
 unfold N.aboveT
 rw [if_neg (by rw [h];decide),if_neg h1]
 simp only
 rw [if_pos h2]
theorem above_step {q:List N.Nm × Int} {z:Nat} (h:q.2=0) (h1:q.1≠[]) (h2:N.namesT t q.1.dropLast 1=(z,0)) :
  N.aboveT t q=if (N.stepT t z (q.1.getLastD [])).2≠0 then ⟨0,[],0,(N.stepT t z (q.1.getLastD [])).2⟩ else ⟨z,q.1.getLastD [],(N.stepT t z (q.1.getLastD [])).1,0⟩:=by
 unfold N.aboveT
 rw [if_neg (by rw [h];decide),if_neg h1]
 simp only [h2]
 rw [if_neg (by decide)]
theorem plc_heap {w:World} {b:Nat} {pp:Option Addr} {v:Value} {nm:ByteArray} {k k':Int} (h:w.heap[b]?=some (.cells (plc pp v nm k) 56 (0,0))):(w.setCell ⟨b,3,none⟩ (.int .i64 k')).heap[b]?=some (.cells (plc pp v nm k') 56 (0,0)):=F.heap_set h 3 (.int .i64 k')
set_option maxHeartbeats 4000000 in
theorem nfind_any (h:St w0 w p d Ns q ep O s X m y f C t) (ht:N.WFx t ex) (st:List UInt8):Calls Tryz.prog 32 #[.pointer (some ⟨p,0,none⟩),.string (P.bs st)] w (PlcQ w p t (P.split st) (N.aboveT t (P.split st)).err):=by
 have HLA:Hid (∀ w,Calls Tryz.prog 72 #[.string (P.bs st)] w (P.Lasts w (P.lastA st) (P.lastN st) (P.lastE st))):=P.last_any st
 by_cases h0:P.lastE st=0
 ·obtain ⟨s0,s1,s2,s3⟩:=split_lastA st h0
  have HW:=Lib.hid (fun w' (hb:Below w.heap.size w w')=>nwalk_any (h.below hb) ht (P.lastA st))
  have HNM:=Lib.hid (fun w' (hb:Below w.heap.size w w') (n:Nat) (h1:1≤n) (h2:n<32)=>named_any (h.below hb) ht h1 h2 (P.lastN st))
  have HWF:=Lib.hid ht
  have hl8:=(P.split_good st).2
  rw [s2] at HW
  have HS3:=Lib.hid s3
  clear h s2 s3
  rw [h0] at HLA
  clear h0
  generalize P.split st=qq at *
  generalize P.lastA st=la at *
  generalize P.lastN st=ln at *
  have HQ:Hid (qq.2=0∧qq.1≠[]):=⟨s0,s1⟩
  have HL8:Hid (qq.1.dropLast.length≤8):=by show _≤_;rw [List.length_dropLast];omega
  clear s0 s1 hl8 ht
  obtain ⟨a0,a1,a2⟩:=D.box1 w (Obj.cells z56 56)
  have A0:=Lib.hid a0
  have A1:=Lib.hid a1
  clear a0 a1 a2
  go_enter Tryz.func32,Tryz.ntmps32
  go_wp2_with fail
  refine (HLA.out _).mono ?_
  rintro e w1 ⟨rfl,hb⟩
  have G1:=Lib.hid ((hb.block w.heap.size (by simp)).trans A0.out)
  have hlt1:w.heap.size<w1.heap.size:=Nat.lt_of_lt_of_le (by simp) hb.size
  have HB1:=Lib.hid (A1.out.trans (hb.mono (by simp)))
  clear hb
  go_wp2_with fail
  refine (HW.out w1 HB1.out).mono ?_
  rintro e w2 (⟨_,⟨z,hz⟩,v,rfl,ho,hb⟩ | ⟨hne,rfl,hb⟩)
  ·have hlast:=wayT_last _ _ hz
   have hlen:=wayT_len t qq.1.dropLast 1
   obtain ⟨z1,z2,_⟩:=N.names_of HWF.out qq.1.dropLast 1 (Nat.le_refl _) (by omega) (by rw [HWF.out.root];omega) (by rw [hz])
   rw [hz] at z1 z2
   have HST:=Lib.hid (above_step (t:=t) HQ.out.1 HQ.out.2 hz)
   rw [← HS3.out] at HST
   have HLAST:Hid ((wayT t qq.1.dropLast 1)[qq.1.dropLast.length]?=some (z:Int)):=hlast
   have HLEN:Hid ((wayT t qq.1.dropLast 1).length=qq.1.dropLast.length+1):=hlen
   obtain ⟨g,c,hv,hg1,hg2,hc1,hc2,hcell⟩:=ownI_slice ho (fun e=>by rw [e] at hlen;simp at hlen)
   have HO:=Lib.hid ho
   have HB2:=Lib.hid (HB1.out.trans (hb.mono HB1.out.size))
   have G2:=Lib.hid ((hb.block w.heap.size hlt1).trans G1.out)
   have hlt2:w.heap.size<w2.heap.size:=Nat.lt_of_lt_of_le hlt1 hb.size
   have hs12:=hb.size
   clear hcell hc1 hc2 hlen hlast hz ho hb
   subst hv
   generalize hL:(wayT t qq.1.dropLast 1).length=L at *
   obtain ⟨b0,b1,b2⟩:=D.box1 w2 (Obj.cells (plc (some ⟨p,0,none⟩) (.slice (some ⟨g,0,none⟩) L c) (P.bs ln) 0) 56)
   have B0:=Lib.hid b0
   have HB3:=Lib.hid (HB2.out.trans (b1.mono HB2.out.size))
   have G3:=Lib.hid ((b1.block w.heap.size hlt2).trans G2.out)
   have HO3:Hid (OwnI (w2.alloc (Obj.cells (plc (some ⟨p,0,none⟩) (.slice (some ⟨g,0,none⟩) L c) (P.bs ln) 0) 56)) w1.heap.size (.slice (some ⟨g,0,none⟩) L c) (wayT t qq.1.dropLast 1)):=T.ownsRow_keep HO.out fun b hb=>b1.block b (World.ownsRow.lt HO.out b hb).2
   have hlt3:w2.heap.size<(w2.alloc (Obj.cells (plc (some ⟨p,0,none⟩) (.slice (some ⟨g,0,none⟩) L c) (P.bs ln) 0) 56)).heap.size:=by simp
   clear b0 b1 b2
   go_upto_region 8 with (first | (refine D.wpList_store_new rfl 56 _ _ rfl w2 z56 (plc (some ⟨p,0,none⟩) (.slice (some ⟨g,0,none⟩) L c) (P.bs ln) 0) rfl rfl (s56 _ _ _ _) rfl (plc_one _ _ _ _ _ _) ?_) | fail)
   generalize w2.alloc (Obj.cells (plc (some ⟨p,0,none⟩) (.slice (some ⟨g,0,none⟩) L c) (P.bs ln) 0) 56)=W at *
   go_wp2_with (first | (refine D.wpList_load_row rfl 56 _ rfl w2.heap.size rfl _ _ _ B0.out _ Tryz.underlying56 rfl (s56 _ _ _ _) ?_) | fail)
   refine (dir_any (z:=(z:Int)) HO3.out (by rw [hL];exact HLEN.out) HLAST.out (by have:=HL8.out;omega)).mono ?_
   rintro e w3 ⟨rfl,hb⟩
   have B1:=Lib.hid ((hb.block _ hlt3).trans B0.out)
   have G4:=Lib.hid ((hb.block _ (by omega)).trans G3.out)
   have HO4:Hid (OwnI w3 w1.heap.size (.slice (some ⟨g,0,none⟩) L c) (wayT t qq.1.dropLast 1)):=T.ownsRow_keep HO3.out fun b hb'=>hb.block b (World.ownsRow.lt HO3.out b hb').2
   have HB4:=Lib.hid (HB3.out.trans (hb.mono HB3.out.size))
   have hlt4:w2.heap.size<w3.heap.size:=Nat.lt_of_lt_of_le hlt3 hb.size
   clear hb
   go_wp2_with fail
   refine (HNM.out w3 HB4.out z z1 z2).mono ?_
   rintro e w4 ⟨rfl,hb⟩
   have B2:=Lib.hid ((hb.block _ hlt4).trans B1.out)
   have G5:=Lib.hid ((hb.block _ (by omega)).trans G4.out)
   have HO5:Hid (OwnI w4 w1.heap.size (.slice (some ⟨g,0,none⟩) L c) (wayT t qq.1.dropLast 1)):=T.ownsRow_keep HO4.out fun b hb'=>hb.block b (World.ownsRow.lt HO4.out b hb').2
   have HB5:=Lib.hid (HB4.out.trans (hb.mono HB4.out.size))
   clear hb
   have c3:w4.cell? ⟨w2.heap.size,3,none⟩=some (.int .i64 0):=cell_of_row _ _ 3 _ _ _ B2.out
   have f3:w4.frozen? ⟨w2.heap.size,3,none⟩=false:=F.free_in B2.out 3
   obtain ⟨rr,hrr⟩:∃ rr,N.stepT t z ln=rr:=⟨_,rfl⟩
   rw [hrr] at HST ⊢
   clear hrr
   obtain ⟨k2,e2⟩:=rr
   dsimp only at HST ⊢
   have B3:=Lib.hid (plc_heap (k':=(k2:Int)) B2.out)
   have G6:Hid ((w4.setCell ⟨w2.heap.size,3,none⟩ (.int .i64 (k2:Int))).heap[w.heap.size]?=some (.cells z56 56 (0,0))):=(Below.heap_setCell _ _ _ _ (by show w.heap.size≠w2.heap.size;omega)).trans G5.out
   have HB6:=Lib.hid (HB5.out.setCell (p:=⟨w2.heap.size,3,none⟩) (by show w.heap.size≤w2.heap.size;omega) (.int .i64 (k2:Int)))
   have HO6:Hid (OwnI (w4.setCell ⟨w2.heap.size,3,none⟩ (.int .i64 (k2:Int))) w1.heap.size (.slice (some ⟨g,0,none⟩) L c) (wayT t qq.1.dropLast 1)):=T.ownsRow_keep HO5.out fun b hb'=>by
    cases hb'
    exact Below.heap_setCell _ _ _ _ (by show g≠w2.heap.size;omega)
   go_upto_region 9 with fail
   clear c3 f3
   generalize w4.setCell ⟨w2.heap.size,3,none⟩ (.int .i64 (k2:Int))=W5 at *
   go_wp2_with (first | (refine D.wpList_load_row rfl 56 _ rfl w2.heap.size rfl _ _ _ B3.out _ Tryz.underlying56 rfl (s56 _ _ _ _) ?_) | (refine D.wpList_store_row rfl 56 _ _ rfl w.heap.size z56 (plc (some ⟨p,0,none⟩) (.slice (some ⟨g,0,none⟩) L c) (P.bs ln) (k2:Int)) 56 rfl rfl G6.out (s56 _ _ _ _) rfl (plc_one _ _ _ _ _ _) ?_) | fail)
   refine bodyPost_ret (D.ret_row2 rfl rfl (D.setRow_in _ _ _ (plc (some ⟨p,0,none⟩) (.slice (some ⟨g,0,none⟩) L c) (P.bs ln) (k2:Int)) _ G6.out) Tryz.underlying56 rfl (s56 _ _ _ _)) rfl ?_
   have HB7:=below_setRow HB6.out (Nat.le_refl _) (plc (some ⟨p,0,none⟩) (.slice (some ⟨g,0,none⟩) L c) (P.bs ln) (k2:Int))
   by_cases he2:e2=0
   ·subst he2
    rw [if_neg (fun h=>h rfl)] at HST
    have e1:(N.aboveT t qq).err=0:=by rw [HST.out]
    refine .inl ⟨e1,e1,.slice (some ⟨g,0,none⟩) L c,?_,?_,HB7⟩
    ·rw [HST.out];rfl
    ·refine own_mono (T.ownsRow_keep HO6.out fun b hb'=>?_) (by omega:w.heap.size≤w1.heap.size)
     cases hb'
     exact setRow_other _ _ _ _ (by show g≠w.heap.size;omega)
   ·rw [if_pos he2] at HST
    have e1:(N.aboveT t qq).err=e2:=by rw [HST.out]
    rw [e1]
    exact .inr ⟨he2,_,_,_,_,_,_,rfl,HB7⟩
  ·have hw:N.walkT t (qq.1.dropLast,0)=N.namesT t qq.1.dropLast 1:=if_neg (fun h=>h rfl)
   rw [hw] at hne ⊢
   have HER:=Lib.hid (above_way HQ.out.1 HQ.out.2 hne)
   have HNE:=Lib.hid hne
   have he:((N.namesT t qq.1.dropLast 1).2 != 0)=true:=by rw [bne_iff_ne];exact hne
   have G2:=Lib.hid ((hb.block w.heap.size hlt1).trans G1.out)
   have HB2:=Lib.hid (HB1.out.trans (hb.mono HB1.out.size))
   clear hb hne hw
   generalize (N.namesT t qq.1.dropLast 1).2=e2 at *
   go_wp2_with (first | (refine D.wpList_store_row rfl 56 _ _ rfl w.heap.size z56 z56 56 rfl rfl G2.out (s56 _ _ _ _) rfl (plc_one _ _ _ _ _ _) ?_) | fail)
   refine bodyPost_ret (D.ret_row2 rfl rfl (D.setRow_in _ _ _ z56 _ G2.out) Tryz.underlying56 rfl (s56 _ _ _ _)) rfl ?_
   rw [HER.out]
   exact .inr ⟨HNE.out,none,none,0,0,_,0,rfl,below_setRow HB2.out (Nat.le_refl _) _⟩
 ·have HE:Hid ((N.aboveT t (P.split st)).err=P.lastE st):=by
   show _=_
   unfold P.lastE at h0 ⊢
   split at h0
   ·rename_i h1
    rw [if_pos h1]
    exact above_q h1
   ·rename_i h1
    rw [if_neg h1]
    split at h0
    ·rename_i h2
     rw [if_pos h2]
     exact above_nil (by simpa using h1) h2
    ·exact absurd rfl h0
  refine (nfind_err st _ h0).mono ?_
  rintro e w' ⟨rfl,hb⟩
  rw [HE.out]
  exact .inr ⟨h0,none,none,0,0,_,0,rfl,hb⟩
def takE (a:N.Abv):Int:=if a.err≠0 then a.err else if a.node=0 then 7 else 0
def vacE (a:N.Abv):Int:=if a.err≠0 then a.err else if a.node≠0 then 8 else 0
set_option maxHeartbeats 2000000 in
theorem taken_any (h:St w0 w p d Ns q ep O s X m y f C t) (ht:N.WFx t ex) (st:List UInt8):Calls Tryz.prog 27 #[.pointer (some ⟨p,0,none⟩),.string (P.bs st)] w (PlcQ w p t (P.split st) (takE (N.aboveT t (P.split st)))):=by
 have HF:=Lib.hid (fun w' (hb:Below w.heap.size w w')=>nfind_any (h.below hb) ht st)
 have hlen:=wayT_len t (P.split st).1.dropLast 1
 clear h ht
 generalize P.split st=qq at *
 obtain ⟨a0,a1,a2⟩:=D.box1 w (Obj.cells z56 56)
 have A0:=Lib.hid a0
 have A1:=Lib.hid a1
 clear a0 a1 a2
 go_enter Tryz.func27,Tryz.ntmps27
 go_wp2_with fail
 refine (HF.out _ A1.out).mono ?_
 rintro e w1 (⟨h0,_,v,rfl,ho,hb⟩ | ⟨hne,pp,A,n,c,nm,k,rfl,hb⟩)
 ·obtain ⟨g,c,hv,hg1,hg2,hc1,hc2,hcell⟩:=ownI_slice ho (fun e=>by rw [e] at hlen;simp at hlen)
  have HO:=Lib.hid ho
  have G1:=Lib.hid ((hb.block w.heap.size (by simp)).trans A0.out)
  have hlt1:w.heap.size<w1.heap.size:=Nat.lt_of_lt_of_le (by simp) hb.size
  have HB1:=Lib.hid (A1.out.trans (hb.mono (by simp)))
  have HH0:=Lib.hid h0
  have hg0:w.heap.size<g:=Nat.lt_of_lt_of_le (by simp) hg1
  clear hcell hc1 hc2 ho hb h0 hg1 HF hlen
  subst hv
  generalize hL:(wayT t qq.1.dropLast 1).length=L at *
  obtain ⟨a,ha⟩:∃ a,N.aboveT t qq=a:=⟨_,rfl⟩
  rw [ha] at HH0 ⊢
  have HA:=Lib.hid ha
  clear ha
  obtain ⟨ad,an,ak,ae⟩:=a
  dsimp only at HH0 ⊢
  obtain rfl:=HH0.out
  obtain ⟨b0,b1,b2⟩:=D.box1 w1 (Obj.cells (plc (some ⟨p,0,none⟩) (.slice (some ⟨g,0,none⟩) L c) (E.bs an) (ak:Int)) 56)
  have B0:=Lib.hid b0
  have HB2:=Lib.hid (HB1.out.trans (b1.mono HB1.out.size))
  have G2:=Lib.hid ((b1.block w.heap.size hlt1).trans G1.out)
  have HO2:Hid (OwnI (w1.alloc (Obj.cells (plc (some ⟨p,0,none⟩) (.slice (some ⟨g,0,none⟩) L c) (E.bs an) (ak:Int)) 56)) (w.heap.size+1) (.slice (some ⟨g,0,none⟩) L c) (wayT t qq.1.dropLast 1)):=own_mono (T.ownsRow_keep HO.out fun b hb=>b1.block b (World.ownsRow.lt HO.out b hb).2) (by simp)
  clear b0 b1 b2
  go_upto_region 2 with (first | (refine D.wpList_store_new rfl 56 _ _ rfl w1 z56 (plc (some ⟨p,0,none⟩) (.slice (some ⟨g,0,none⟩) L c) (E.bs an) (ak:Int)) rfl rfl (s56 _ _ _ _) rfl (plc_one _ _ _ _ _ _) ?_) | fail)
  generalize w1.alloc (Obj.cells (plc (some ⟨p,0,none⟩) (.slice (some ⟨g,0,none⟩) L c) (E.bs an) (ak:Int)) 56)=W at *
  have c3:W.cell? ⟨w1.heap.size,3,none⟩=some (.int .i64 (ak:Int)):=cell_of_row _ _ 3 _ _ _ B0.out
  by_cases hk:ak=0
  ·subst hk
   rw [show ((0:Nat):Int)=0 from rfl] at *
   go_upto_region 4 with fail
   clear c3
   go_wp2_with (first | (refine D.wpList_load_row rfl 56 _ rfl w1.heap.size rfl _ _ _ B0.out _ Tryz.underlying56 rfl (s56 _ _ _ _) ?_) | (refine D.wpList_store_row rfl 56 _ _ rfl w.heap.size z56 (plc (some ⟨p,0,none⟩) (.slice (some ⟨g,0,none⟩) L c) (E.bs an) 0) 56 rfl rfl G2.out (s56 _ _ _ _) rfl (plc_one _ _ _ _ _ _) ?_) | fail)
   refine bodyPost_ret (D.ret_row2 rfl rfl (D.setRow_in _ _ _ (plc (some ⟨p,0,none⟩) (.slice (some ⟨g,0,none⟩) L c) (E.bs an) 0) _ G2.out) Tryz.underlying56 rfl (s56 _ _ _ _)) rfl ?_
   have e1:takE (N.aboveT t qq)=7:=by rw [HA.out];rfl
   rw [e1]
   exact .inr ⟨by decide,_,_,_,_,_,_,rfl,below_setRow HB2.out (Nat.le_refl _) _⟩
  ·have hkb:((ak:Int) == 0)=false:=by rw [beq_eq_false_iff_ne];omega
   have hkn:((ak:Int) != 0)=true:=by rw [bne_iff_ne];omega
   go_upto_region 4 with fail
   clear c3
   go_wp2_with (first | (refine D.wpList_load_row rfl 56 _ rfl w1.heap.size rfl _ _ _ B0.out _ Tryz.underlying56 rfl (s56 _ _ _ _) ?_) | (refine D.wpList_store_row rfl 56 _ _ rfl w.heap.size z56 (plc (some ⟨p,0,none⟩) (.slice (some ⟨g,0,none⟩) L c) (E.bs an) (ak:Int)) 56 rfl rfl G2.out (s56 _ _ _ _) rfl (plc_one _ _ _ _ _ _) ?_) | fail)
   refine bodyPost_ret (D.ret_row2 rfl rfl (D.setRow_in _ _ _ (plc (some ⟨p,0,none⟩) (.slice (some ⟨g,0,none⟩) L c) (E.bs an) (ak:Int)) _ G2.out) Tryz.underlying56 rfl (s56 _ _ _ _)) rfl ?_
   have e1:takE (N.aboveT t qq)=0:=by rw [HA.out];unfold takE;rw [if_neg (fun h=>h rfl),if_neg hk]
   rw [e1]
   refine .inl ⟨rfl,by rw [HA.out],_,by rw [HA.out];rfl,?_,below_setRow HB2.out (Nat.le_refl _) _⟩
   refine own_mono (T.ownsRow_keep HO2.out fun b hb'=>?_) (by omega:w.heap.size≤w.heap.size+1)
   cases hb'
   exact setRow_other _ _ _ _ (by show g≠w.heap.size;omega)
 ·have G1:=Lib.hid ((hb.block w.heap.size (by simp)).trans A0.out)
  have hlt1:w.heap.size<w1.heap.size:=Nat.lt_of_lt_of_le (by simp) hb.size
  have HB1:=Lib.hid (A1.out.trans (hb.mono (by simp)))
  have HE:Hid (takE (N.aboveT t qq)=(N.aboveT t qq).err):=if_pos hne
  have HNE:=Lib.hid hne
  have he:((N.aboveT t qq).err == 0)=false:=by rw [beq_eq_false_iff_ne];exact hne
  clear hb hne HF hlen
  generalize (N.aboveT t qq).err=er at *
  obtain ⟨b0,b1,b2⟩:=D.box1 w1 (Obj.cells (plc pp (.slice A n c) nm k) 56)
  have B0:=Lib.hid b0
  have HB2:=Lib.hid (HB1.out.trans (b1.mono HB1.out.size))
  have G2:=Lib.hid ((b1.block w.heap.size hlt1).trans G1.out)
  clear b0 b1 b2
  go_upto_region 2 with (first | (refine D.wpList_store_new rfl 56 _ _ rfl w1 z56 (plc pp (.slice A n c) nm k) rfl rfl (s56 _ _ _ _) rfl (plc_one _ _ _ _ _ _) ?_) | fail)
  generalize w1.alloc (Obj.cells (plc pp (.slice A n c) nm k) 56)=W at *
  go_upto_region 4 with fail
  go_wp2_with (first | (refine D.wpList_load_row rfl 56 _ rfl w1.heap.size rfl _ _ _ B0.out _ Tryz.underlying56 rfl (s56 _ _ _ _) ?_) | (refine D.wpList_store_row rfl 56 _ _ rfl w.heap.size z56 (plc pp (.slice A n c) nm k) 56 rfl rfl G2.out (s56 _ _ _ _) rfl (plc_one _ _ _ _ _ _) ?_) | fail)
  refine bodyPost_ret (D.ret_row2 rfl rfl (D.setRow_in _ _ _ (plc pp (.slice A n c) nm k) _ G2.out) Tryz.underlying56 rfl (s56 _ _ _ _)) rfl ?_
  rw [HE.out]
  exact .inr ⟨HNE.out,_,_,_,_,_,_,rfl,below_setRow HB2.out (Nat.le_refl _) _⟩
set_option maxHeartbeats 2000000 in
theorem vacant_any (h:St w0 w p d Ns q ep O s X m y f C t) (ht:N.WFx t ex) (st:List UInt8):Calls Tryz.prog 23 #[.pointer (some ⟨p,0,none⟩),.string (P.bs st)] w (PlcQ w p t (P.split st) (vacE (N.aboveT t (P.split st)))):=by
 have HF:=Lib.hid (fun w' (hb:Below w.heap.size w w')=>nfind_any (h.below hb) ht st)
 have hlen:=wayT_len t (P.split st).1.dropLast 1
 clear h ht
 generalize P.split st=qq at *
 obtain ⟨a0,a1,a2⟩:=D.box1 w (Obj.cells z56 56)
 have A0:=Lib.hid a0
 have A1:=Lib.hid a1
 clear a0 a1 a2
 go_enter Tryz.func23,Tryz.ntmps23
 go_wp2_with fail
 refine (HF.out _ A1.out).mono ?_
 rintro e w1 (⟨h0,_,v,rfl,ho,hb⟩ | ⟨hne,pp,A,n,c,nm,k,rfl,hb⟩)
 ·obtain ⟨g,c,hv,hg1,hg2,hc1,hc2,hcell⟩:=ownI_slice ho (fun e=>by rw [e] at hlen;simp at hlen)
  have HO:=Lib.hid ho
  have G1:=Lib.hid ((hb.block w.heap.size (by simp)).trans A0.out)
  have hlt1:w.heap.size<w1.heap.size:=Nat.lt_of_lt_of_le (by simp) hb.size
  have HB1:=Lib.hid (A1.out.trans (hb.mono (by simp)))
  have HH0:=Lib.hid h0
  have hg0:w.heap.size<g:=Nat.lt_of_lt_of_le (by simp) hg1
  clear hcell hc1 hc2 ho hb h0 hg1 HF hlen
  subst hv
  generalize hL:(wayT t qq.1.dropLast 1).length=L at *
  obtain ⟨a,ha⟩:∃ a,N.aboveT t qq=a:=⟨_,rfl⟩
  rw [ha] at HH0 ⊢
  have HA:=Lib.hid ha
  clear ha
  obtain ⟨ad,an,ak,ae⟩:=a
  dsimp only at HH0 ⊢
  obtain rfl:=HH0.out
  obtain ⟨b0,b1,b2⟩:=D.box1 w1 (Obj.cells (plc (some ⟨p,0,none⟩) (.slice (some ⟨g,0,none⟩) L c) (E.bs an) (ak:Int)) 56)
  have B0:=Lib.hid b0
  have HB2:=Lib.hid (HB1.out.trans (b1.mono HB1.out.size))
  have G2:=Lib.hid ((b1.block w.heap.size hlt1).trans G1.out)
  have HO2:Hid (OwnI (w1.alloc (Obj.cells (plc (some ⟨p,0,none⟩) (.slice (some ⟨g,0,none⟩) L c) (E.bs an) (ak:Int)) 56)) (w.heap.size+1) (.slice (some ⟨g,0,none⟩) L c) (wayT t qq.1.dropLast 1)):=own_mono (T.ownsRow_keep HO.out fun b hb=>b1.block b (World.ownsRow.lt HO.out b hb).2) (by simp)
  clear b0 b1 b2
  go_upto_region 2 with (first | (refine D.wpList_store_new rfl 56 _ _ rfl w1 z56 (plc (some ⟨p,0,none⟩) (.slice (some ⟨g,0,none⟩) L c) (E.bs an) (ak:Int)) rfl rfl (s56 _ _ _ _) rfl (plc_one _ _ _ _ _ _) ?_) | fail)
  generalize w1.alloc (Obj.cells (plc (some ⟨p,0,none⟩) (.slice (some ⟨g,0,none⟩) L c) (E.bs an) (ak:Int)) 56)=W at *
  have c3:W.cell? ⟨w1.heap.size,3,none⟩=some (.int .i64 (ak:Int)):=cell_of_row _ _ 3 _ _ _ B0.out
  by_cases hk:ak=0
  ·subst hk
   rw [show ((0:Nat):Int)=0 from rfl] at *
   go_upto_region 4 with fail
   clear c3
   go_wp2_with (first | (refine D.wpList_load_row rfl 56 _ rfl w1.heap.size rfl _ _ _ B0.out _ Tryz.underlying56 rfl (s56 _ _ _ _) ?_) | (refine D.wpList_store_row rfl 56 _ _ rfl w.heap.size z56 (plc (some ⟨p,0,none⟩) (.slice (some ⟨g,0,none⟩) L c) (E.bs an) 0) 56 rfl rfl G2.out (s56 _ _ _ _) rfl (plc_one _ _ _ _ _ _) ?_) | fail)
   refine bodyPost_ret (D.ret_row2 rfl rfl (D.setRow_in _ _ _ (plc (some ⟨p,0,none⟩) (.slice (some ⟨g,0,none⟩) L c) (E.bs an) 0) _ G2.out) Tryz.underlying56 rfl (s56 _ _ _ _)) rfl ?_
   have e1:vacE (N.aboveT t qq)=0:=by rw [HA.out];rfl
   rw [e1]
   refine .inl ⟨rfl,by rw [HA.out],_,by rw [HA.out];rfl,?_,below_setRow HB2.out (Nat.le_refl _) _⟩
   refine own_mono (T.ownsRow_keep HO2.out fun b hb'=>?_) (by omega:w.heap.size≤w.heap.size+1)
   cases hb'
   exact setRow_other _ _ _ _ (by show g≠w.heap.size;omega)
  ·have hkb:((ak:Int) == 0)=false:=by rw [beq_eq_false_iff_ne];omega
   have hkn:((ak:Int) != 0)=true:=by rw [bne_iff_ne];omega
   go_upto_region 4 with fail
   clear c3
   go_wp2_with (first | (refine D.wpList_load_row rfl 56 _ rfl w1.heap.size rfl _ _ _ B0.out _ Tryz.underlying56 rfl (s56 _ _ _ _) ?_) | (refine D.wpList_store_row rfl 56 _ _ rfl w.heap.size z56 (plc (some ⟨p,0,none⟩) (.slice (some ⟨g,0,none⟩) L c) (E.bs an) (ak:Int)) 56 rfl rfl G2.out (s56 _ _ _ _) rfl (plc_one _ _ _ _ _ _) ?_) | fail)
   refine bodyPost_ret (D.ret_row2 rfl rfl (D.setRow_in _ _ _ (plc (some ⟨p,0,none⟩) (.slice (some ⟨g,0,none⟩) L c) (E.bs an) (ak:Int)) _ G2.out) Tryz.underlying56 rfl (s56 _ _ _ _)) rfl ?_
   have e1:vacE (N.aboveT t qq)=8:=by rw [HA.out];unfold vacE;rw [if_neg (fun h=>h rfl),if_pos hk]
   rw [e1]
   exact .inr ⟨by decide,_,_,_,_,_,_,rfl,below_setRow HB2.out (Nat.le_refl _) _⟩
 ·have G1:=Lib.hid ((hb.block w.heap.size (by simp)).trans A0.out)
  have hlt1:w.heap.size<w1.heap.size:=Nat.lt_of_lt_of_le (by simp) hb.size
  have HB1:=Lib.hid (A1.out.trans (hb.mono (by simp)))
  have HE:Hid (vacE (N.aboveT t qq)=(N.aboveT t qq).err):=if_pos hne
  have HNE:=Lib.hid hne
  have he:((N.aboveT t qq).err == 0)=false:=by rw [beq_eq_false_iff_ne];exact hne
  clear hb hne HF hlen
  generalize (N.aboveT t qq).err=er at *
  obtain ⟨b0,b1,b2⟩:=D.box1 w1 (Obj.cells (plc pp (.slice A n c) nm k) 56)
  have B0:=Lib.hid b0
  have HB2:=Lib.hid (HB1.out.trans (b1.mono HB1.out.size))
  have G2:=Lib.hid ((b1.block w.heap.size hlt1).trans G1.out)
  clear b0 b1 b2
  go_upto_region 2 with (first | (refine D.wpList_store_new rfl 56 _ _ rfl w1 z56 (plc pp (.slice A n c) nm k) rfl rfl (s56 _ _ _ _) rfl (plc_one _ _ _ _ _ _) ?_) | fail)
  generalize w1.alloc (Obj.cells (plc pp (.slice A n c) nm k) 56)=W at *
  go_upto_region 4 with fail
  go_wp2_with (first | (refine D.wpList_load_row rfl 56 _ rfl w1.heap.size rfl _ _ _ B0.out _ Tryz.underlying56 rfl (s56 _ _ _ _) ?_) | (refine D.wpList_store_row rfl 56 _ _ rfl w.heap.size z56 (plc pp (.slice A n c) nm k) 56 rfl rfl G2.out (s56 _ _ _ _) rfl (plc_one _ _ _ _ _ _) ?_) | fail)
  refine bodyPost_ret (D.ret_row2 rfl rfl (D.setRow_in _ _ _ (plc pp (.slice A n c) nm k) _ G2.out) Tryz.underlying56 rfl (s56 _ _ _ _)) rfl ?_
  rw [HE.out]
  exact .inr ⟨HNE.out,_,_,_,_,_,_,rfl,below_setRow HB2.out (Nat.le_refl _) _⟩
end
end Go.Proofs.YtkganhafbjgndaaGreatRR.V
