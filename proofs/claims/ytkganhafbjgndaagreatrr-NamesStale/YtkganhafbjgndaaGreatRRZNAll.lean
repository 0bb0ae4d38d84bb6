/- Plain mathematics of names: a tree of nodes, the calls, a sound tree stays one; Rename and back; entries as bytes. -/
namespace Go.Proofs.YtkganhafbjgndaaGreatRR.N
set_option linter.unusedVariables false
abbrev Nm:=List UInt8
abbrev Rw:=Nm × Int
def emp:Rw:=([],0)
def signB (b:UInt8):Bool:=(decide (97≤b) && decide (b≤122)) || (decide (65≤b) && decide (b≤90)) || (decide (48≤b) && decide (b≤57)) || b == 46 || b == 95 || b == 45
def nameB (l:Nm):Bool:=decide (1≤l.length) && decide (l.length≤24) && l != [46] && l != [46,46] && l.all signB
theorem name_ne {l:Nm} (h:nameB l=true):l≠[]:=by
 rintro rfl
 simp [nameB] at h
def find (l:List Rw) (s:Nm):Option Nat:=if s=[] then none else l.findIdx? fun r=>decide (r.1=s)
def nms (l:List Rw):List Nm:=(l.map (·.1)).filter fun s=>decide (s≠[])
def place (l:List Rw):Nat:=(l.findIdx? fun r=>decide (r.1=[])).getD l.length
def puts (l:List Rw) (at_:Nat) (r:Rw):List Rw:=if at_<l.length then l.set at_ r else l++[r]
structure Nod where
 k:Nat
 l:Nat
 g:Nat
 c:Nat
 rows:List Rw
 dat:List UInt8
 blk:Nat→Bool
def none_:Nod:=⟨0,0,0,0,[],[],fun _=>false⟩
structure Tr where
 gens:Nat
 nd:Nat→Nod
def sett {α:Type} (f:Nat→α) (i:Nat) (x:α):Nat→α:=fun k=>if k=i then x else f k
theorem sett_at {α:Type} (f:Nat→α) (i:Nat) (x:α):sett f i x i=x:=if_pos rfl
theorem sett_ne {α:Type} (f:Nat→α) {i k:Nat} (x:α) (h:k≠i):sett f i x k=f k:=if_neg h
def Tr.put (t:Tr) (n:Nat) (x:Nod):Tr:=⟨t.gens,sett t.nd n x⟩
def more (n:Nat):Nat:=min (n+1) 1073741824
def tr0:Tr:=⟨0,fun i=>if i=1 then ⟨2,1,0,0,[],[],fun _=>false⟩ else none_⟩
def stepT (t:Tr) (n:Nat) (s:Nm):Nat × Int:=if (t.nd n).k≠2 then (0,14) else match find (t.nd n).rows s with
 | none=>(0,0)
 | some i=>(((t.nd n).rows[i]?.getD emp).2.toNat,0)
def namesT (t:Tr):List Nm→Nat→Nat × Int
 | [],n=>(n,0)
 | s :: l,n=>if (stepT t n s).2≠0 then (0,(stepT t n s).2) else if (stepT t n s).1=0 then (0,7) else namesT t l (stepT t n s).1
def walkT (t:Tr) (q:List Nm × Int):Nat × Int:=if q.2≠0 then (0,q.2) else namesT t q.1 1
structure Abv where
 dir:Nat
 name:Nm
 node:Nat
 err:Int
def aboveT (t:Tr) (q:List Nm × Int):Abv :=
 if q.2≠0 then ⟨0,[],0,q.2⟩ else if q.1=[] then ⟨0,[],0,13⟩ else
 let d:=namesT t q.1.dropLast 1
 if d.2≠0 then ⟨0,[],0,d.2⟩ else
 let r:=stepT t d.1 (q.1.getLastD [])
 if r.2≠0 then ⟨0,[],0,r.2⟩ else ⟨d.1,q.1.getLastD [],r.1,0⟩
def setT (t:Tr) (d at_:Nat) (r:Rw):Tr:=t.put d { t.nd d with rows:=puts (t.nd d).rows at_ r,c:=more (t.nd d).c }
def fullT (t:Tr) (d:Nat):Bool:=decide (place (t.nd d).rows=(t.nd d).rows.length∧9728<32 * ((t.nd d).rows.length+1))
def addT (t:Tr) (d:Nat) (s:Nm) (n:Nat):Tr:=setT t d (place (t.nd d).rows) (s,(n:Int))
def removeT (t:Tr) (d:Nat) (s:Nm):Tr:=setT t d ((find (t.nd d).rows s).getD 0) emp
def unlinkT (t:Tr) (n:Nat):Tr :=
 t.put n (if (t.nd n).l=1 then ⟨0,0,(t.nd n).g,more (t.nd n).c,[],[],fun _=>false⟩ else { t.nd n with l:=(t.nd n).l - 1,c:=more (t.nd n).c })
def cntR (l:List Rw) (n:Nat):Nat:=(l.filter fun r=>decide (r.2=(n:Int))).length
def cnt (t:Tr) (n:Nat):Nat:=((List.range 32).map fun x=>cntR (t.nd x).rows n).sum
theorem cntR_snoc (l:List Rw) (r:Rw) (n:Nat):cntR (l++[r]) n=cntR l n+if r.2=(n:Int) then 1 else 0:=by
 unfold cntR
 rw [List.filter_append,List.length_append]
 by_cases h:r.2=(n:Int)<;>simp [h]
theorem cntR_set (n:Nat) (r:Rw):∀ (l:List Rw) (i:Nat),i<l.length→cntR (l.set i r) n+(if (l[i]?.getD emp).2=(n:Int) then 1 else 0)=cntR l n+if r.2=(n:Int) then 1 else 0
 | a :: l,0,_=>by
  unfold cntR
  rw [List.set_cons_zero]
  simp only [List.getElem?_cons_zero,Option.getD_some]
  by_cases h1:a.2=(n:Int)<;>by_cases h2:r.2=(n:Int)<;>simp [h1,h2]<;>omega
 | a :: l,i+1,h=>by
  have ih:=cntR_set n r l i (by simpa using h)
  unfold cntR at ih ⊢
  rw [List.set_cons_succ,List.getElem?_cons_succ]
  by_cases h1:a.2=(n:Int)<;>simp [h1]<;>omega
theorem cntR_puts (n:Nat) (r:Rw) (l:List Rw) (i:Nat) (hi:i≤l.length) (hn:1≤n):cntR (puts l i r) n+(if (l[i]?.getD emp).2=(n:Int) then 1 else 0)=cntR l n+if r.2=(n:Int) then 1 else 0:=by
 unfold puts
 split
 ·exact cntR_set n r l i (by assumption)
 ·rw [cntR_snoc,List.getElem?_eq_none (by omega)]
  rw [if_neg (show ¬ (Option.getD none emp).2=(n:Int) from by show ¬ ((0:Int)=n);omega)]
  omega
theorem sum_split {g:Nat→Nat} {i:Nat}:∀ {l:List Nat},l.Nodup→i∈l→(l.map g).sum=g i+((l.filter fun j=>j != i).map g).sum
 | a :: l,hn,hi=>by
  have hn':=List.nodup_cons.1 hn
  by_cases h:a=i
  ·subst h
   have hf:(l.filter fun j=>j != a)=l:=List.filter_eq_self.2 fun j hj=>by
    have:j≠a:=fun e=>hn'.1 (e ▸ hj)
    simpa using this
   rw [List.filter_cons_of_neg (by simp),hf,List.map_cons,List.sum_cons]
  ·have hi':i∈l:=(List.mem_cons.1 hi).elim (fun e=>absurd e.symm h) id
   rw [List.filter_cons_of_pos (by simpa using h),List.map_cons,List.map_cons,List.sum_cons,List.sum_cons,sum_split hn'.2 hi']
   omega
theorem cnt_put (t:Tr) {d:Nat} (hd:d<32) (x:Nod) (n:Nat):cnt (t.put d x) n+cntR (t.nd d).rows n=cnt t n+cntR x.rows n:=by
 unfold cnt
 rw [sum_split List.nodup_range (List.mem_range.2 hd),sum_split (g:=fun x=>cntR (t.nd x).rows n) List.nodup_range (List.mem_range.2 hd)]
 have e1:cntR ((t.put d x).nd d).rows n=cntR x.rows n:=by show cntR (sett t.nd d x d).rows n=_;rw [sett_at]
 have e2:((List.range 32).filter fun j=>j != d).map (fun z=>cntR ((t.put d x).nd z).rows n)=((List.range 32).filter fun j=>j != d).map (fun z=>cntR (t.nd z).rows n) :=
  List.map_congr_left fun j hj=>by
   have:j≠d:=by simpa using (List.mem_filter.1 hj).2
   show cntR (sett t.nd d x j).rows n=_
   rw [sett_ne _ _ this]
 rw [e1,e2]
 omega
theorem cnt_same (t:Tr) {d:Nat} (hd:d<32) (x:Nod) (n:Nat) (h:x.rows=(t.nd d).rows):cnt (t.put d x) n=cnt t n:=by
 have:=cnt_put t hd x n
 rw [h] at this
 omega
theorem cnt_pos {t:Tr} {d n:Nat} (hd:d<32) {r:Rw} (hr:r∈(t.nd d).rows) (h:r.2=(n:Int)):1≤cnt t n:=by
 unfold cnt
 rw [sum_split List.nodup_range (List.mem_range.2 hd)]
 have:1≤cntR (t.nd d).rows n:=by
  unfold cntR
  exact List.length_pos_iff.2 fun e=>by
   have:r∈(t.nd d).rows.filter fun r=>decide (r.2=(n:Int)):=List.mem_filter.2 ⟨hr,by simpa using h⟩
   rw [e] at this
   exact absurd this (by simp)
 omega
end Go.Proofs.YtkganhafbjgndaaGreatRR.N
namespace Go.Proofs.YtkganhafbjgndaaGreatRR.N
set_option linter.unusedVariables false
theorem nms_app (a b:List Rw):nms (a++b)=nms a++nms b:=by unfold nms;rw [List.map_append,List.filter_append]
theorem nms_one (r:Rw):nms [r]=if r.1=[] then [] else [r.1]:=by
 unfold nms
 by_cases h:r.1=[]<;>simp [h]
theorem mem_nms {l:List Rw} {s:Nm}:s∈nms l ↔ s≠[]∧∃ r∈l,r.1=s:=by
 unfold nms
 simp only [List.mem_filter,List.mem_map,decide_eq_true_eq]
 exact ⟨fun h=>⟨h.2,h.1⟩,fun h=>⟨h.2,h.1⟩⟩
theorem cut_at (l:List Rw) {i:Nat} {r0:Rw} (h:l[i]?=some r0):l=l.take i++r0 :: l.drop (i+1):=by
 obtain ⟨hi,e⟩:=List.getElem?_eq_some_iff.1 h
 rw [← e,← List.drop_eq_getElem_cons hi,List.take_append_drop]
theorem set_at (l:List Rw) {i:Nat} (r:Rw) (hi:i<l.length):l.set i r=l.take i++r :: l.drop (i+1):=List.set_eq_take_append_cons_drop.trans (if_pos hi)
theorem nms_set (l:List Rw) {i:Nat} {r0:Rw} (r:Rw) (h:l[i]?=some r0):nms (l.set i r)=nms (l.take i)++(nms [r]++nms (l.drop (i+1)))∧nms l=nms (l.take i)++(nms [r0]++nms (l.drop (i+1))):=by
 have hi:=(List.getElem?_eq_some_iff.1 h).1
 constructor
 ·rw [set_at l r hi,nms_app,← nms_app [r]];rfl
 ·conv=>lhs;rw [cut_at l h]
  rw [nms_app,← nms_app [r0]];rfl
theorem dist_emp {l:List Rw} {i:Nat} {r0:Rw} (h:l[i]?=some r0) (hd:(nms l).Nodup):(nms (l.set i emp)).Nodup:=by
 obtain ⟨e1,e2⟩:=nms_set l emp h
 rw [e1,nms_one,if_pos (show emp.1=[] from rfl)]
 rw [e2] at hd
 exact hd.sublist ((List.Sublist.refl _).append (List.sublist_append_right _ _))
theorem place_le (l:List Rw):place l≤l.length:=by
 unfold place
 cases h:l.findIdx? fun r=>decide (r.1=[]) with
 | none=>exact Nat.le_refl _
 | some i=>exact Nat.le_of_lt (List.findIdx?_eq_some_iff_findIdx_eq.1 h).1
theorem place_at {l:List Rw} (h:place l<l.length):∃ r,l[place l]?=some r∧r.1=[]:=by
 unfold place at h ⊢
 cases hf:l.findIdx? fun r=>decide (r.1=[]) with
 | none=>rw [hf] at h;simp at h
 | some i =>
  obtain ⟨hi,hp,_⟩:=List.findIdx?_eq_some_iff_getElem.1 hf
  exact ⟨l[i],List.getElem?_eq_getElem hi,by simpa using hp⟩
theorem dist_add {l:List Rw} {r:Rw} (hd:(nms l).Nodup) (hs:r.1∉nms l):(nms (puts l (place l) r)).Nodup:=by
 have key:∀ a b:List Nm,(a++b).Nodup→r.1∉a++b→(a++(nms [r]++b)).Nodup:=fun a b hab hn=>by
  rw [nms_one]
  split
  ·exact hab
  ·rw [List.singleton_append]
   exact (List.perm_middle.nodup_iff).2 (List.nodup_cons.2 ⟨hn,hab⟩)
 unfold puts
 split
 ·rename_i h
  obtain ⟨r0,h0,e0⟩:=place_at h
  obtain ⟨e1,e2⟩:=nms_set l r h0
  rw [nms_one,if_pos e0,List.nil_append] at e2
  rw [e1]
  rw [e2] at hd hs
  exact key _ _ hd hs
 ·rw [nms_app]
  have:=key (nms l) [] (by simpa using hd) (by simpa using hs)
  simpa using this
theorem find_some {l:List Rw} {s:Nm} {i:Nat} (h:find l s=some i):s≠[]∧∃ r,l[i]?=some r∧r.1=s:=by
 unfold find at h
 split at h
 ·cases h
 ·rename_i hs
  obtain ⟨hi,hp,_⟩:=List.findIdx?_eq_some_iff_getElem.1 h
  exact ⟨hs,l[i],List.getElem?_eq_getElem hi,by simpa using hp⟩
theorem find_none {l:List Rw} {s:Nm} (h:find l s=none):s∉nms l:=by
 intro hm
 obtain ⟨hs,r,hr,e⟩:=mem_nms.1 hm
 unfold find at h
 rw [if_neg hs,List.findIdx?_eq_none_iff] at h
 have:=h r hr
 simp [e] at this
theorem find_iff {l:List Rw} {s:Nm}:find l s=none ↔ s∉nms l:=by
 refine ⟨find_none,fun h=>?_⟩
 cases hf:find l s with
 | none=>rfl
 | some i =>
  obtain ⟨hs,r,hr,e⟩:=find_some hf
  exact absurd (mem_nms.2 ⟨hs,r,List.mem_of_getElem? hr,e⟩) h
theorem find_of {l:List Rw} {r:Rw} (hd:(nms l).Nodup) (hr:r∈l) (hn:r.1≠[]):∃ i,find l r.1=some i∧l[i]?=some r:=by
 obtain ⟨j,hj⟩:=List.mem_iff_getElem?.1 hr
 cases hf:find l r.1 with
 | none=>exact absurd (mem_nms.2 ⟨hn,r,hr,rfl⟩) (find_none hf)
 | some i =>
  obtain ⟨_,r',hr',e⟩:=find_some hf
  refine ⟨i,rfl,?_⟩
  by_cases hij:i=j
  ·rw [hij];exact hj
  ·exfalso
   have hdup:∀ {i j:Nat} {a b:Rw},i<j→l[i]?=some a→l[j]?=some b→a.1=b.1→a.1≠[]→False:=fun {i j a b} h1 ha hb he hne=>by
    rw [cut_at l ha,nms_app,show a :: l.drop (i+1)=[a]++l.drop (i+1) from rfl,nms_app,nms_one,if_neg hne] at hd
    have hd2:=(List.nodup_append.1 hd).2.1
    have hb':b∈l.drop (i+1):=List.mem_of_getElem? (i:=j - (i+1)) (by rw [List.getElem?_drop,show i+1+(j - (i+1))=j by omega];exact hb)
    exact (List.nodup_cons.1 hd2).1 (mem_nms.2 ⟨hne,b,hb',he.symm⟩)
   rcases Nat.lt_or_gt_of_ne hij with h | h
   ·exact hdup h hr' hj e (by rw [e];exact hn)
   ·exact hdup h hj hr' e.symm hn
def RowOk (t:Tr) (r:Rw):Prop:=r=emp∨(nameB r.1=true∧∃ k:Nat,r.2=(k:Int)∧1<k∧k<32∧(t.nd k).k≠0)
structure WFx (t:Tr) (ex:Nat→Int):Prop where
 kind:∀ n,n<32→(t.nd n).k≤2
 zero:(t.nd 0).k=0
 root:(t.nd 1).k=2
 flat:∀ n,n<32→(t.nd n).k≠2→(t.nd n).rows=[]
 row:∀ n,n<32→∀ r∈(t.nd n).rows,RowOk t r
 dist:∀ n,n<32→(nms (t.nd n).rows).Nodup
 links:∀ n,1<n→n<32→(t.nd n).k≠0→((t.nd n).l:Int)=cnt t n+ex n
 len:∀ n,n<32→(t.nd n).rows.length≤304
 one:∀ n,n<32→(t.nd n).k=2→(t.nd n).l=1
def ind (p:Prop) [Decidable p]:Int:=if p then 1 else 0
theorem puts_len (l:List Rw) (i:Nat) (r:Rw):(puts l i r).length=if i<l.length then l.length else l.length+1:=by
 unfold puts
 split<;>simp
theorem mem_puts {l:List Rw} {i:Nat} {r x:Rw} (h:x∈puts l i r):x=r∨x∈l:=by
 unfold puts at h
 split at h
 ·rcases List.mem_or_eq_of_mem_set h with h | h
  ·exact .inr h
  ·exact .inl h
 ·rcases List.mem_append.1 h with h | h
  ·exact .inr h
  ·exact .inl (by simpa using h)
theorem WFx.set {t:Tr} {ex:Nat→Int} (h:WFx t ex) {d i:Nat} {r:Rw} (hd:d<32) (hk:(t.nd d).k=2) (hi:i≤(t.nd d).rows.length) (hr:RowOk t r) (hdup:(nms (puts (t.nd d).rows i r)).Nodup) (hl:(puts (t.nd d).rows i r).length≤304) :
  WFx (setT t d i r) (fun n=>ex n+ind ((((t.nd d).rows[i]?).getD emp).2=(n:Int)) - ind (r.2=(n:Int))):=by
 have hnd:∀ n,n≠d→(setT t d i r).nd n=t.nd n:=fun n hn=>sett_ne t.nd _ hn
 have hat:(setT t d i r).nd d={ t.nd d with rows:=puts (t.nd d).rows i r,c:=more (t.nd d).c }:=sett_at t.nd d _
 have hkk:∀ n,((setT t d i r).nd n).k=(t.nd n).k:=fun n=>by
  by_cases e:n=d
  ·subst e;rw [hat]
  ·rw [hnd n e]
 have hll:∀ n,((setT t d i r).nd n).l=(t.nd n).l:=fun n=>by
  by_cases e:n=d
  ·subst e;rw [hat]
  ·rw [hnd n e]
 have hrow:∀ x,RowOk t x→RowOk (setT t d i r) x:=fun x hx=>hx.imp id fun ⟨h1,k,h2,h3,h4,h5⟩=>⟨h1,k,h2,h3,h4,by rw [hkk];exact h5⟩
 refine ⟨fun n hn=>by rw [hkk];exact h.kind n hn,by rw [hkk];exact h.zero,by rw [hkk];exact h.root,fun n hn h2=>?_,fun n hn x hx=>?_,fun n hn=>?_,fun n h1 h2 h3=>?_,fun n hn=>?_,fun n hn h2=>by rw [hkk] at h2;rw [hll];exact h.one n hn h2⟩
 ·rw [hkk] at h2
  rw [hnd n (fun e=>by subst e;exact h2 hk)]
  exact h.flat n hn h2
 ·by_cases e:n=d
  ·subst e
   rw [hat] at hx
   rcases mem_puts hx with rfl | hx
   ·exact hrow _ hr
   ·exact hrow _ (h.row n hn x hx)
  ·rw [hnd n e] at hx
   exact hrow _ (h.row n hn x hx)
 ·by_cases e:n=d
  ·subst e;rw [hat];exact hdup
  ·rw [hnd n e];exact h.dist n hn
 ·rw [hkk] at h3
  rw [hll,h.links n h1 h2 h3]
  have a:=cnt_put t hd { t.nd d with rows:=puts (t.nd d).rows i r,c:=more (t.nd d).c } n
  have b:=cntR_puts n r (t.nd d).rows i hi (by omega)
  have e:cnt (setT t d i r) n=cnt (t.put d { t.nd d with rows:=puts (t.nd d).rows i r,c:=more (t.nd d).c }) n:=rfl
  rw [e]
  unfold ind
  simp only at a
  by_cases c1:(((t.nd d).rows[i]?).getD emp).2=(n:Int)<;>by_cases c2:r.2=(n:Int)<;>simp only [c1,c2,if_true,if_false] at b ⊢<;>omega
 ·by_cases e:n=d
  ·subst e;rw [hat];exact hl
  ·rw [hnd n e];exact h.len n hn
theorem sum_zero:∀ {l:List Nat},(∀ x∈l,x=0)→l.sum=0
 | [],_=>rfl
 | a :: l,h=>by rw [List.sum_cons,h a (by simp),sum_zero fun x hx=>h x (by simp [hx])]
theorem WFx.free_cnt {t:Tr} {ex:Nat→Int} (h:WFx t ex) {n:Nat} (h1:1≤n) (h0:(t.nd n).k=0):cnt t n=0:=by
 unfold cnt
 refine sum_zero fun x hx=>?_
 obtain ⟨d,hd,rfl⟩:=List.mem_map.1 hx
 unfold cntR
 rw [List.length_eq_zero_iff,List.filter_eq_nil_iff]
 intro r hr he
 have he:r.2=(n:Int):=by simpa using he
 rcases h.row d (List.mem_range.1 hd) r hr with rfl | ⟨_,k,e,_,_,hk⟩
 ·have he:(0:Int)=n:=he
  omega
 ·rw [e] at he
  have:k=n:=by omega
  subst this
  exact hk h0
theorem RowOk.mono {t t':Tr} {r:Rw} (h:RowOk t r) (hk:∀ n,(t.nd n).k≠0→(t'.nd n).k≠0):RowOk t' r:=h.imp id fun ⟨h1,k,h2,h3,h4,h5⟩=>⟨h1,k,h2,h3,h4,hk k h5⟩
section
variable {t:Tr} {ex:Nat→Int} {n:Nat} {x:Nod}
theorem nd_at:(t.put n x).nd n=x:=sett_at t.nd n x
theorem nd_ne {j:Nat} (h:j≠n):(t.put n x).nd j=t.nd j:=sett_ne t.nd x h
theorem WFx.attr (h:WFx t ex) (hn:n<32) (hk:x.k=(t.nd n).k) (hr:x.rows=(t.nd n).rows) (h1:x.k=2→x.l=1):WFx (t.put n x) (fun j=>if j=n then ex n+((x.l:Int) - ((t.nd n).l:Int)) else ex j):=by
 have hkk:∀ j,((t.put n x).nd j).k=(t.nd j).k:=fun j=>by
  by_cases e:j=n
  ·subst e;rw [nd_at,hk]
  ·rw [nd_ne e]
 have hrr:∀ j,((t.put n x).nd j).rows=(t.nd j).rows:=fun j=>by
  by_cases e:j=n
  ·subst e;rw [nd_at,hr]
  ·rw [nd_ne e]
 refine ⟨fun j hj=>by rw [hkk];exact h.kind j hj,by rw [hkk];exact h.zero,by rw [hkk];exact h.root,fun j hj h2=>by rw [hrr];rw [hkk] at h2;exact h.flat j hj h2,fun j hj r hr'=>?_,fun j hj=>by rw [hrr];exact h.dist j hj,fun j j1 j2 j3=>?_,fun j hj=>by rw [hrr];exact h.len j hj,fun j hj h2=>?_⟩
 ·rw [hrr] at hr'
  exact (h.row j hj r hr').mono fun k hk'=>by rw [hkk];exact hk'
 ·rw [hkk] at j3
  have:=h.links j j1 j2 j3
  rw [cnt_same t hn x j hr]
  by_cases e:j=n
  ·subst e;rw [nd_at,if_pos rfl];omega
  ·rw [nd_ne e,if_neg e];exact this
 ·by_cases e:j=n
  ·subst e;rw [nd_at] at h2 ⊢;exact h1 h2
  ·rw [nd_ne e] at h2 ⊢;exact h.one j hj h2
theorem WFx.new (h:WFx t ex) (h1:1<n) (hn:n<32) (h0:(t.nd n).k=0) (hk:x.k=1∨x.k=2) (hr:x.rows=[]) (hl:x.k=2→x.l=1):WFx (t.put n x) (fun j=>if j=n then (x.l:Int) else ex j):=by
 have hrr:∀ j,((t.put n x).nd j).rows=(t.nd j).rows:=fun j=>by
  by_cases e:j=n
  ·subst e;rw [nd_at,hr,h.flat j hn (by omega)]
  ·rw [nd_ne e]
 have hkk:∀ j,(t.nd j).k≠0→((t.put n x).nd j).k≠0:=fun j hj=>by
  by_cases e:j=n
  ·subst e;exact absurd h0 hj
  ·rw [nd_ne e];exact hj
 have hc:=cnt_same t hn x (h:=by rw [hr,h.flat n hn (by omega)])
 refine ⟨fun j hj=>?_,?_,?_,fun j hj h2=>?_,fun j hj r hr'=>?_,fun j hj=>by rw [hrr];exact h.dist j hj,fun j j1 j2 j3=>?_,fun j hj=>by rw [hrr];exact h.len j hj,fun j hj h2=>?_⟩
 ·by_cases e:j=n
  ·subst e;rw [nd_at];omega
  ·rw [nd_ne e];exact h.kind j hj
 ·rw [nd_ne (by omega)];exact h.zero
 ·rw [nd_ne (by omega)];exact h.root
 ·by_cases e:j=n
  ·subst e;rw [nd_at,hr]
  ·rw [nd_ne e] at h2 ⊢;exact h.flat j hj h2
 ·rw [hrr] at hr'
  exact (h.row j hj r hr').mono hkk
 ·rw [hc]
  by_cases e:j=n
  ·subst e;rw [nd_at,if_pos rfl,h.free_cnt (by omega) h0];omega
  ·rw [nd_ne e] at j3 ⊢;rw [if_neg e];exact h.links j j1 j2 j3
 ·by_cases e:j=n
  ·subst e;rw [nd_at] at h2 ⊢;exact hl h2
  ·rw [nd_ne e] at h2 ⊢;exact h.one j hj h2
theorem cntR_emp {l:List Rw} (h:∀ r∈l,r=emp) {j:Nat} (hj:1≤j):cntR l j=0:=by
 unfold cntR
 rw [List.length_eq_zero_iff,List.filter_eq_nil_iff]
 intro r hr he
 rw [h r hr] at he
 have he:emp.2=(j:Int):=by simpa using he
 have he:(0:Int)=j:=he
 omega
theorem WFx.gone (h:WFx t ex) (h1:1<n) (hn:n<32) (h0:cnt t n=0) (hk:x.k=0) (hr:x.rows=[]) (he:∀ r∈(t.nd n).rows,r=emp):WFx (t.put n x) ex:=by
 have hc:∀ j,1≤j→cnt (t.put n x) j=cnt t j:=fun j hj=>by
  have:=cnt_put t hn x j
  rw [cntR_emp he hj,hr] at this
  simpa [cntR] using this
 refine ⟨fun j hj=>?_,?_,?_,fun j hj h2=>?_,fun j hj r hr'=>?_,fun j hj=>?_,fun j j1 j2 j3=>?_,fun j hj=>?_,fun j hj h2=>?_⟩
 ·by_cases e:j=n
  ·subst e;rw [nd_at];omega
  ·rw [nd_ne e];exact h.kind j hj
 ·rw [nd_ne (by omega)];exact h.zero
 ·rw [nd_ne (by omega)];exact h.root
 ·by_cases e:j=n
  ·subst e;rw [nd_at,hr]
  ·rw [nd_ne e] at h2 ⊢;exact h.flat j hj h2
 ·by_cases e:j=n
  ·subst e;rw [nd_at,hr] at hr';cases hr'
  ·rw [nd_ne e] at hr'
   rcases h.row j hj r hr' with rfl | ⟨a,k,b,c,d,f⟩
   ·exact .inl rfl
   ·refine .inr ⟨a,k,b,c,d,?_⟩
    by_cases e2:k=n
    ·subst e2
     have:=cnt_pos hj hr' b
     omega
    ·rw [nd_ne e2];exact f
 ·by_cases e:j=n
  ·subst e;rw [nd_at,hr];exact List.nodup_nil
  ·rw [nd_ne e];exact h.dist j hj
 ·rw [hc j (by omega)]
  by_cases e:j=n
  ·subst e;rw [nd_at] at j3;exact absurd hk j3
  ·rw [nd_ne e] at j3 ⊢;exact h.links j j1 j2 j3
 ·by_cases e:j=n
  ·subst e;rw [nd_at,hr];simp
  ·rw [nd_ne e];exact h.len j hj
 ·by_cases e:j=n
  ·subst e;rw [nd_at] at h2;omega
  ·rw [nd_ne e] at h2 ⊢;exact h.one j hj h2
end
end Go.Proofs.YtkganhafbjgndaaGreatRR.N
namespace Go.Proofs.YtkganhafbjgndaaGreatRR.N
set_option linter.unusedVariables false
structure St where
 n:Nat
 g:Nat
 k:Nat
 l:Nat
 s:Nat
 c:Nat
def st0:St:=⟨0,0,0,0,0,0⟩
def sizeT (x:Nod):Nat:=if x.k=2 then 32 * x.rows.length else x.dat.length
def stT (t:Tr) (n:Nat):St:=⟨n,(t.nd n).g,(t.nd n).k,(t.nd n).l,sizeT (t.nd n),(t.nd n).c⟩
def lookT (t:Tr) (q:List Nm × Int):St × Int:=if (walkT t q).2≠0 then (st0,(walkT t q).2) else (stT t (walkT t q).1,0)
def byT (t:Tr) (n g:Int):St × Int:=if 1≤n∧n≤31∧(t.nd n.toNat).k≠0∧((t.nd n.toNat).g:Int)=g then (stT t n.toNat,0) else (st0,18)
def freeT (t:Tr):Option Nat:=(List.range 32).find? fun i=>decide (1≤i) && decide ((t.nd i).k=0)
def makeT (t:Tr) (q:List Nm × Int) (k:Int):Tr × St × Int :=
 if k≠1∧k≠2 then (t,st0,1) else
 if (aboveT t q).err≠0 then (t,st0,(aboveT t q).err) else
 if (aboveT t q).node≠0 then (t,st0,8) else
 match freeT t with
 | none=>(t,st0,9)
 | some n=>if 1073741824≤t.gens then (t,st0,9) else if fullT t (aboveT t q).dir=true then (t,st0,17) else
  let t2:Tr:=⟨t.gens+1,((addT t (aboveT t q).dir (aboveT t q).name n).put n ⟨k.toNat,1,t.gens+1,more (t.nd n).c,[],[],fun _=>false⟩).nd⟩
  (t2,stT t2 n,0)
def linkT (t:Tr) (p q:List Nm × Int):Tr × St × Int :=
 if (walkT t p).2≠0 then (t,st0,(walkT t p).2) else
 let n:=(walkT t p).1
 if (t.nd n).k=2 then (t,st0,13) else
 if (aboveT t q).err≠0 then (t,st0,(aboveT t q).err) else
 if (aboveT t q).node≠0 then (t,st0,8) else
 if 255≤(t.nd n).l then (t,st0,9) else
 if fullT t (aboveT t q).dir=true then (t,st0,17) else
 let t1:=addT t (aboveT t q).dir (aboveT t q).name n
 let t2:=t1.put n { t1.nd n with l:=(t1.nd n).l+1,c:=more (t1.nd n).c }
 (t2,stT t2 n,0)
def rmT (t:Tr) (q:List Nm × Int):Tr × St × Int :=
 if (aboveT t q).err≠0 then (t,st0,(aboveT t q).err) else
 if (aboveT t q).node=0 then (t,st0,7) else
 if (t.nd (aboveT t q).node).k=2 then (t,st0,13) else
 (unlinkT (removeT t (aboveT t q).dir (aboveT t q).name) (aboveT t q).node,stT t (aboveT t q).node,0)
def rmdirT (t:Tr) (q:List Nm × Int):Tr × Int :=
 if (aboveT t q).err≠0 then (t,(aboveT t q).err) else
 if (aboveT t q).node=0 then (t,7) else
 if (t.nd (aboveT t q).node).k≠2 then (t,14) else
 if nms (t.nd (aboveT t q).node).rows≠[] then (t,15) else
 (unlinkT (removeT t (aboveT t q).dir (aboveT t q).name) (aboveT t q).node,0)
def onT (t:Tr) (l:List Nm) (n:Nat):Bool:=(List.range l.length).any fun i=>decide (namesT t (l.take i) 1=(n,0))
def awayT (t:Tr) (d:Nat) (s:Nm) (n:Nat):Tr:=if n=0 then t else unlinkT (removeT t d s) n
def renameT (t:Tr) (p q:List Nm × Int):Tr × St × Int :=
 if (aboveT t p).err≠0 then (t,st0,(aboveT t p).err) else
 let n:=(aboveT t p).node
 if n=0 then (t,st0,7) else
 if (aboveT t q).err≠0 then (t,st0,(aboveT t q).err) else
 let m:=(aboveT t q).node
 if (t.nd n).k=2∧onT t q.1 n=true then (t,st0,16) else
 if m=n then (t,stT t n,0) else
 if m≠0∧(t.nd m).k=2∧(t.nd n).k≠2 then (t,st0,13) else
 if m≠0∧(t.nd m).k≠2∧(t.nd n).k=2 then (t,st0,14) else
 if m≠0∧(t.nd n).k=2∧nms (t.nd m).rows≠[] then (t,st0,15) else
 let t1:=removeT (awayT t (aboveT t q).dir (aboveT t q).name m) (aboveT t p).dir (aboveT t p).name
 if fullT t1 (aboveT t q).dir=true then (t,st0,17) else
 (addT t1 (aboveT t q).dir (aboveT t q).name n,stT t n,0)
def Rk (t:Tr):Prop:=∃ d:Nat→Nat,∀ x,x<32→∀ r∈(t.nd x).rows,∀ y:Nat,r.2=(y:Int)→(t.nd y).k=2→d x<d y
structure WF (t:Tr):Prop where
 x:WFx t fun _=>0
 pos:∀ n,1<n→n<32→(t.nd n).k≠0→1≤(t.nd n).l
 rk:Rk t
theorem tr0_wf:WF tr0:=by
 have hk:∀ n,(tr0.nd n).k=if n=1 then 2 else 0:=fun n=>by
  show (if n=1 then _ else _:Nod).k=_
  split<;>rfl
 have hr:∀ n,(tr0.nd n).rows=[]:=fun n=>by
  show (if n=1 then _ else _:Nod).rows=_
  split<;>rfl
 refine ⟨⟨fun n _=>by rw [hk];split<;>omega,by rw [hk];rfl,by rw [hk];rfl,fun n _ _=>hr n,fun n _ r h=>(by rw [hr] at h;cases h),fun n _=>by rw [hr];exact List.nodup_nil,fun n h1 _ h=>(by rw [hk,if_neg (by omega)] at h;exact absurd rfl h),fun n _=>by rw [hr];simp,fun n _ h=>?_⟩,fun n h1 _ h=>(by rw [hk,if_neg (by omega)] at h;exact absurd rfl h),⟨fun _=>0,fun x _ r h=>(by rw [hr] at h;cases h)⟩⟩
 rw [hk] at h
 split at h
 ·rename_i e;subst e;rfl
 ·cases h
section
variable {t:Tr} {n d:Nat} {s:Nm} {q:List Nm × Int} {ex:Nat→Int}
theorem step_of (h:WFx t ex) (hd:d<32) (he:(stepT t d s).2=0):(t.nd d).k=2∧((find (t.nd d).rows s=none∧(stepT t d s).1=0)∨∃ i k:Nat,find (t.nd d).rows s=some i∧(t.nd d).rows[i]?=some (s,(k:Int))∧(stepT t d s).1=k∧1<k∧k<32∧(t.nd k).k≠0):=by
 unfold stepT at he ⊢
 by_cases hk:(t.nd d).k≠2
 ·rw [if_pos hk] at he;cases he
 ·rw [if_neg hk] at he ⊢
  refine ⟨by omega,?_⟩
  cases hf:find (t.nd d).rows s with
  | none=>exact .inl ⟨rfl,rfl⟩
  | some i =>
   obtain ⟨hs,r,hr,e⟩:=find_some hf
   rcases h.row d hd r (List.mem_of_getElem? hr) with rfl | ⟨_,k,h2,h3,h4,h5⟩
   ·exact absurd e.symm hs
   ·refine .inr ⟨i,k,rfl,?_,?_,h3,h4,h5⟩
    ·rw [hr];exact congrArg some (Prod.ext e h2)
    ·show ((t.nd d).rows[i]?.getD emp).2.toNat=k
     rw [hr]
     show r.2.toNat=k
     omega
theorem names_of (h:WFx t ex):∀ (l:List Nm) (n:Nat),1≤n→n<32→(t.nd n).k≠0→(namesT t l n).2=0→1≤(namesT t l n).1∧(namesT t l n).1<32∧(t.nd (namesT t l n).1).k≠0
 | [],n,h1,h2,h3,_=>⟨h1,h2,h3⟩
 | s :: l,n,h1,h2,h3,he=>by
  rw [namesT] at he ⊢
  by_cases a:(stepT t n s).2≠0
  ·rw [if_pos a] at he;exact absurd he a
  ·rw [if_neg a] at he ⊢
   by_cases b:(stepT t n s).1=0
   ·rw [if_pos b] at he;cases he
   ·rw [if_neg b] at he ⊢
    obtain ⟨_,hc⟩:=step_of h h2 (Decidable.not_not.1 a)
    rcases hc with ⟨_,e⟩ | ⟨i,k,_,_,e,k1,k2,k3⟩
    ·exact absurd e b
    ·rw [e] at he ⊢
     exact names_of h l k (by omega) k2 k3 he
structure AbvOk (t:Tr) (q:List Nm × Int) (a:Abv):Prop where
 ok:q.2=0
 way:namesT t q.1.dropLast 1=(a.dir,0)
 lst:q.1=q.1.dropLast++[a.name]
 d32:a.dir<32
 d1:1≤a.dir
 dk:(t.nd a.dir).k=2
 what:(find (t.nd a.dir).rows a.name=none∧a.node=0)∨∃ i:Nat,find (t.nd a.dir).rows a.name=some i∧(t.nd a.dir).rows[i]?=some (a.name,(a.node:Int))∧1<a.node∧a.node<32∧(t.nd a.node).k≠0
theorem above_of (h:WFx t ex) (he:(aboveT t q).err=0):AbvOk t q (aboveT t q):=by
 unfold aboveT at he ⊢
 by_cases h1:q.2≠0
 ·rw [if_pos h1] at he;exact absurd he h1
 ·rw [if_neg h1] at he ⊢
  by_cases h2:q.1=[]
  ·rw [if_pos h2] at he;cases he
  ·rw [if_neg h2] at he ⊢
   simp only at he ⊢
   by_cases h3:(namesT t q.1.dropLast 1).2≠0
   ·rw [if_pos h3] at he;exact absurd he h3
   ·rw [if_neg h3] at he ⊢
    have h3':=Decidable.not_not.1 h3
    obtain ⟨a1,a2,a3⟩:=names_of h q.1.dropLast 1 (Nat.le_refl _) (by omega) (by rw [h.root];omega) h3'
    by_cases h4:(stepT t (namesT t q.1.dropLast 1).1 (q.1.getLastD [])).2≠0
    ·rw [if_pos h4] at he;exact absurd he h4
    ·rw [if_neg h4]
     obtain ⟨b1,b2⟩:=step_of h a2 (Decidable.not_not.1 h4)
     refine ⟨Decidable.not_not.1 h1,Prod.ext rfl h3',?_,a2,a1,b1,?_⟩
     ·show q.1=q.1.dropLast++[q.1.getLastD []]
      rcases List.eq_nil_or_concat q.1 with e | ⟨L,b,e⟩
      ·exact absurd e h2
      ·rw [e];simp
     ·rcases b2 with ⟨c1,c2⟩ | ⟨i,k,c1,c2,c3,c4,c5,c6⟩
      ·exact .inl ⟨c1,c2⟩
      ·exact .inr ⟨i,c1,by rw [c2];exact congrArg some (Prod.ext rfl (congrArg Int.ofNat c3.symm)),by show 1<(stepT t _ _).1;rw [c3];exact c4,by show (stepT t _ _).1<32;rw [c3];exact c5,by show (t.nd (stepT t _ _).1).k≠0;rw [c3];exact c6⟩
end
end Go.Proofs.YtkganhafbjgndaaGreatRR.N
namespace Go.Proofs.YtkganhafbjgndaaGreatRR.N
set_option linter.unusedVariables false
section
variable {t t':Tr} {ex ex':Nat→Int} {n d i:Nat} {s:Nm} {q:List Nm × Int} {x:Nod}
theorem WFx.congr (h:WFx t ex) (he:∀ j,1<j→j<32→ex j=ex' j):WFx t ex' :=
 ⟨h.kind,h.zero,h.root,h.flat,h.row,h.dist,fun j h1 h2 h3=>by rw [← he j h1 h2];exact h.links j h1 h2 h3,h.len,h.one⟩
theorem WFx.gens (h:WFx t ex) (g:Nat):WFx ⟨g,t.nd⟩ ex:=⟨h.kind,h.zero,h.root,h.flat,h.row,h.dist,h.links,h.len,h.one⟩
theorem Rk.gens (h:Rk t) (g:Nat):Rk ⟨g,t.nd⟩:=h
theorem ind_pos {p:Prop} [Decidable p] (h:p):ind p=1:=if_pos h
theorem ind_neg {p:Prop} [Decidable p] (h:¬ p):ind p=0:=if_neg h
theorem RowOk.emp_of {r:Rw} (h:RowOk t r) (hr:r.1=[]):r=emp:=h.elim id fun ⟨h1,_⟩=>absurd hr (name_ne h1)
theorem remove_eq (hf:find (t.nd d).rows s=some i):removeT t d s=setT t d i emp:=by unfold removeT;rw [hf];rfl
theorem WFx.remove (h:WFx t ex) (hd:d<32) (hk:(t.nd d).k=2) (hf:find (t.nd d).rows s=some i) (hr:(t.nd d).rows[i]?=some (s,(n:Int))):WFx (removeT t d s) (fun j=>ex j+ind (n=j)):=by
 have hi:=(List.getElem?_eq_some_iff.1 hr).1
 have hp:puts (t.nd d).rows i emp=(t.nd d).rows.set i emp:=if_pos hi
 rw [remove_eq hf]
 refine (h.set hd hk (Nat.le_of_lt hi) (.inl rfl) (by rw [hp];exact dist_emp hr (h.dist d hd)) (by rw [hp,List.length_set];exact h.len d hd)).congr fun j h1 h2=>?_
 rw [hr,ind_neg (show ¬ emp.2=(j:Int) from by show ¬ ((0:Int)=j);omega)]
 show ex j+ind ((n:Int)=(j:Int)) - 0=_
 by_cases e:n=j
 ·rw [ind_pos e,ind_pos (by omega)];omega
 ·rw [ind_neg e,ind_neg (by omega)];omega
theorem WFx.add (h:WFx t ex) (hd:d<32) (hk:(t.nd d).k=2) (hf:find (t.nd d).rows s=none) (hs:nameB s=true) (h1:1<n) (h2:n<32) (h3:(t.nd n).k≠0) (hl:fullT t d=false):WFx (addT t d s n) (fun j=>ex j - ind (n=j)):=by
 have hle:=h.len d hd
 have hfl:¬ (place (t.nd d).rows=(t.nd d).rows.length∧9728<32 * ((t.nd d).rows.length+1)):=of_decide_eq_false hl
 have hp:=place_le (t.nd d).rows
 refine (h.set (i:=place (t.nd d).rows) (r:=(s,(n:Int))) hd hk hp (.inr ⟨hs,n,rfl,h1,h2,h3⟩) (dist_add (h.dist d hd) (find_none hf)) (by rw [puts_len];split<;>omega)).congr fun j j1 j2=>?_
 have h0:(((t.nd d).rows[place (t.nd d).rows]?).getD emp).2=0:=by
  by_cases hlt:place (t.nd d).rows<(t.nd d).rows.length
  ·obtain ⟨r,e1,e2⟩:=place_at hlt
   rw [e1]
   show r.2=0
   rw [(h.row d hd r (List.mem_of_getElem? e1)).emp_of e2]
   rfl
  ·rw [List.getElem?_eq_none (by omega)]
   rfl
 rw [h0,ind_neg (by omega)]
 show ex j+0 - ind ((n:Int)=(j:Int))=_
 by_cases e:n=j
 ·rw [ind_pos e,ind_pos (by omega)];omega
 ·rw [ind_neg e,ind_neg (by omega)];omega
theorem WFx.unlink (h:WFx t ex) (h1:1<n) (h2:n<32) (h3:(t.nd n).k≠0) (he:ex n=1) (hr:∀ r∈(t.nd n).rows,r=emp):WFx (unlinkT t n) (fun j=>if j=n then 0 else ex j):=by
 have hl:=h.links n h1 h2 h3
 unfold unlinkT
 by_cases e:(t.nd n).l=1
 ·rw [if_pos e]
  have hg:=h.gone h1 h2 (by omega) (x:=⟨0,0,(t.nd n).g,more (t.nd n).c,[],[],fun _=>false⟩) rfl rfl hr
  refine ⟨hg.kind,hg.zero,hg.root,hg.flat,hg.row,hg.dist,fun j j1 j2 j3=>?_,hg.len,hg.one⟩
  by_cases ej:j=n
  ·subst ej;rw [nd_at] at j3;exact absurd rfl j3
  ·rw [if_neg ej];exact hg.links j j1 j2 j3
 ·rw [if_neg e]
  refine (h.attr h2 (x:={ t.nd n with l:=(t.nd n).l - 1,c:=more (t.nd n).c }) rfl rfl fun hk=>absurd (h.one n h2 hk) e).congr fun j j1 j2=>?_
  by_cases ej:j=n
  ·rw [if_pos ej,if_pos ej]
   show ex n+((((t.nd n).l - 1:Nat):Int) - ((t.nd n).l:Int))=0
   omega
  ·rw [if_neg ej,if_neg ej]
theorem nms_nil {l:List Rw} (h:nms l=[]) (ho:∀ r∈l,RowOk t r):∀ r∈l,r=emp:=fun r hr=>by
 refine (ho r hr).emp_of (Decidable.byContradiction fun hn=>?_)
 have:r.1∈nms l:=mem_nms.2 ⟨hn,r,hr,rfl⟩
 rw [h] at this
 cases this
theorem Rk.mono (h:Rk t) (hs:∀ x,x<32→∀ r∈(t'.nd x).rows,∀ y:Nat,r.2=(y:Int)→(t'.nd y).k=2→(t.nd y).k=2∧r∈(t.nd x).rows):Rk t':=by
 obtain ⟨d,hd⟩:=h
 exact ⟨d,fun x hx r hr y hy hk=>hd x hx r (hs x hx r hr y hy hk).2 y hy (hs x hx r hr y hy hk).1⟩
theorem Rk.leaf (h:Rk t) {a:Nat} (hn:∀ r∈(t'.nd n).rows,∀ y:Nat,r.2=(y:Int)→(t'.nd y).k≠2) (hs:∀ x,x<32→x≠n→∀ r∈(t'.nd x).rows,∀ y:Nat,r.2=(y:Int)→(t'.nd y).k=2→(y=n∧x=a)∨(y≠n∧(t.nd y).k=2∧r∈(t.nd x).rows)) (ha:a≠n):Rk t':=by
 obtain ⟨d,hd⟩:=h
 refine ⟨fun z=>if z=n then d a+1 else d z,fun x hx r hr y hy hk=>?_⟩
 by_cases e:x=n
 ·subst e;exact absurd hk (hn r hr y hy)
 ·show (if x=n then d a+1 else d x)<(if y=n then d a+1 else d y)
  rcases hs x hx e r hr y hy hk with ⟨e1,e2⟩ | ⟨e1,e2,e3⟩
  ·subst e1 e2
   rw [if_neg e,if_pos rfl]
   omega
  ·rw [if_neg e,if_neg e1]
   exact hd x hx r e3 y hy e2
theorem set_nd_ne {r:Rw} {j:Nat} (h:j≠d):(setT t d i r).nd j=t.nd j:=sett_ne t.nd _ h
theorem set_nd_at {r:Rw}:(setT t d i r).nd d={ t.nd d with rows:=puts (t.nd d).rows i r,c:=more (t.nd d).c }:=sett_at t.nd d _
theorem set_k {r:Rw} (j:Nat):((setT t d i r).nd j).k=(t.nd j).k:=by
 by_cases e:j=d
 ·subst e;rw [set_nd_at]
 ·rw [set_nd_ne e]
theorem mem_set_rows {r z:Rw} {j:Nat} (h:z∈((setT t d i r).nd j).rows):(j=d∧z=r)∨z∈(t.nd j).rows:=by
 by_cases e:j=d
 ·subst e
  rw [set_nd_at] at h
  rcases mem_puts h with h | h
  ·exact .inl ⟨rfl,h⟩
  ·exact .inr h
 ·rw [set_nd_ne e] at h
  exact .inr h
theorem unlink_k {j:Nat} (h:((unlinkT t n).nd j).k≠0):((unlinkT t n).nd j).k=(t.nd j).k:=by
 unfold unlinkT at h ⊢
 by_cases e:j=n
 ·subst e
  rw [nd_at] at h ⊢
  split
  ·rename_i hl;rw [if_pos hl] at h;exact absurd rfl h
  ·rfl
 ·rw [nd_ne e]
theorem mem_unlink_rows {z:Rw} {j:Nat} (h:z∈((unlinkT t n).nd j).rows):z∈(t.nd j).rows:=by
 unfold unlinkT at h
 by_cases e:j=n
 ·subst e
  rw [nd_at] at h
  split at h
  ·cases h
  ·exact h
 ·rw [nd_ne e] at h;exact h
theorem unlink_pos (h:∀ j,1<j→j<32→(t.nd j).k≠0→1≤(t.nd j).l):∀ j,1<j→j<32→((unlinkT t n).nd j).k≠0→1≤((unlinkT t n).nd j).l:=fun j j1 j2 j3=>by
 have hk:=unlink_k j3
 rw [hk] at j3
 have hp:=h j j1 j2 j3
 by_cases e:j=n
 ·subst e
  unfold unlinkT at hk ⊢
  rw [nd_at] at hk ⊢
  by_cases hl:(t.nd j).l=1
  ·rw [if_pos hl] at hk;exact absurd hk.symm j3
  ·rw [if_neg hl]
   show 1≤(t.nd j).l - 1
   omega
 ·unfold unlinkT
  rw [nd_ne e];exact hp
theorem set_l {r:Rw} (j:Nat):((setT t d i r).nd j).l=(t.nd j).l:=by
 by_cases e:j=d
 ·subst e;rw [set_nd_at]
 ·rw [set_nd_ne e]
theorem WF.away (h:WF t) (hd:d<32) (hk:(t.nd d).k=2) (hf:find (t.nd d).rows s=some i) (hr:(t.nd d).rows[i]?=some (s,(n:Int))) (h1:1<n) (h2:n<32) (h3:(t.nd n).k≠0) (he:(t.nd n).k=2→nms (t.nd n).rows=[]):WF (unlinkT (removeT t d s) n):=by
 have hw:=h.x.remove hd hk hf hr
 rw [remove_eq hf] at hw ⊢
 have hemp:∀ r∈((setT t d i emp).nd n).rows,r=emp:=fun r hr'=>by
  rcases mem_set_rows hr' with ⟨_,e⟩ | hm
  ·exact e
  ·by_cases k2:(t.nd n).k=2
   ·exact nms_nil (he k2) (h.x.row n h2) r hm
   ·rw [h.x.flat n h2 k2] at hm;cases hm
 refine ⟨(hw.unlink h1 h2 (by rw [set_k];exact h3) (by show (0:Int)+ind (n=n)=1;rw [ind_pos rfl];rfl) hemp).congr fun j j1 j2=>?_,unlink_pos fun j j1 j2 j3=>?_,h.rk.mono fun x hx r hr' y hy hk'=>?_⟩
 ·by_cases e:j=n
  ·rw [if_pos e]
  ·rw [if_neg e,ind_neg (Ne.symm e)];rfl
 ·rw [set_k] at j3;rw [set_l];exact h.pos j j1 j2 j3
 ·have a:=unlink_k (by rw [hk'];decide:((unlinkT (setT t d i emp) n).nd y).k≠0)
  rw [a,set_k] at hk'
  refine ⟨hk',?_⟩
  rcases mem_set_rows (mem_unlink_rows hr') with ⟨_,e⟩ | hm
  ·subst e
   have hy:(0:Int)=y:=hy
   have:y=0:=by omega
   subst this
   rw [h.x.zero] at hk'
   cases hk'
  ·exact hm
end
end Go.Proofs.YtkganhafbjgndaaGreatRR.N
namespace Go.Proofs.YtkganhafbjgndaaGreatRR.N
set_option linter.unusedVariables false
section
variable {t t':Tr} {ex ex':Nat→Int} {n d i:Nat} {s:Nm} {p q:List Nm × Int} {x:Nod}
theorem AbvOk.name {a:Abv} (h:AbvOk t q a) (hq:∀ s∈q.1,nameB s=true):nameB a.name=true:=hq _ (by rw [h.lst];simp)
theorem AbvOk.no {a:Abv} (h:AbvOk t q a) (h0:a.node=0):find (t.nd a.dir).rows a.name=none:=by
 rcases h.what with ⟨e,_⟩ | ⟨_,_,_,e,_⟩
 ·exact e
 ·omega
theorem AbvOk.yes {a:Abv} (h:AbvOk t q a) (h0:a.node≠0):∃ i:Nat,find (t.nd a.dir).rows a.name=some i∧(t.nd a.dir).rows[i]?=some (a.name,(a.node:Int))∧1<a.node∧a.node<32∧(t.nd a.node).k≠0:=by
 rcases h.what with ⟨_,e⟩ | e
 ·exact absurd e h0
 ·exact e
theorem free_some (h:WFx t ex) (hf:freeT t=some n):1<n∧n<32∧(t.nd n).k=0∧∀ j,1≤j→j<n→(t.nd j).k≠0:=by
 unfold freeT at hf
 rw [List.find?_range_eq_some] at hf
 obtain ⟨h1,h2,h3⟩:=hf
 have h1:(1≤n)∧(t.nd n).k=0:=by simpa using h1
 refine ⟨?_,List.mem_range.1 h2,h1.2,fun j j1 j2=>?_⟩
 ·rcases Nat.lt_or_ge 1 n with h | h
  ·exact h
  ·exfalso
   have:n=1:=by omega
   subst this
   have:=h1.2
   rw [‹WFx t ex›.root] at this
   cases this
 ·have:=h3 j j2
  simp only [Bool.not_eq_true',Bool.and_eq_false_iff,decide_eq_false_iff_not] at this
  rcases this with h | h
  ·exact absurd j1 h
  ·exact h
theorem free_none (hf:freeT t=none):∀ j,1≤j→j<32→(t.nd j).k≠0:=fun j j1 j2 h0=>by
 unfold freeT at hf
 rw [List.find?_eq_none] at hf
 exact hf j (List.mem_range.2 j2) (by simp [j1,h0])
theorem add_nd_ne {j:Nat} (h:j≠d):(addT t d s n).nd j=t.nd j:=sett_ne t.nd _ h
theorem WF.make (h:WF t) (hd:d<32) (hk:(t.nd d).k=2) (hf:find (t.nd d).rows s=none) (hs:nameB s=true) (h1:1<n) (h2:n<32) (h0:(t.nd n).k=0) (hl:fullT t d=false) (hx:x.k=1∨x.k=2) (hr:x.rows=[]) (hx1:x.l=1) (g:Nat) :
  WF ⟨g,((addT t d s n).put n x).nd⟩:=by
 have hnd:d≠n:=fun e=>by subst e;omega
 have e1:(t.put n x).nd d=t.nd d:=nd_ne hnd
 have heq:((addT t d s n).put n x).nd=(addT (t.put n x) d s n).nd:=by
  funext j
  by_cases ej:j=n
  ·subst ej
   rw [nd_at,add_nd_ne (Ne.symm hnd),nd_at]
  ·rw [nd_ne ej]
   by_cases ed:j=d
   ·subst ed
    show (setT t j _ _).nd j=(setT (t.put n x) j _ _).nd j
    rw [set_nd_at,set_nd_at,e1]
   ·rw [add_nd_ne ed,add_nd_ne ed,nd_ne ej]
 have hw:=(h.x.new h1 h2 h0 hx hr fun _=>hx1).add (d:=d) (s:=s) (n:=n) hd (by rw [e1];exact hk) (by rw [e1];exact hf) hs h1 h2 (by rw [nd_at];omega) (by unfold fullT;rw [e1];exact hl)
 have hw':=hw.gens g
 rw [← heq] at hw'
 have hpos:∀ j,1<j→j<32→(((addT t d s n).put n x).nd j).k≠0→1≤(((addT t d s n).put n x).nd j).l:=fun j j1 j2 j3=>by
  by_cases ej:j=n
  ·subst ej;rw [nd_at];omega
  ·rw [nd_ne ej] at j3 ⊢
   unfold addT at j3 ⊢
   rw [set_k] at j3
   rw [set_l]
   exact h.pos j j1 j2 j3
 refine ⟨hw'.congr fun j j1 j2=>?_,hpos,?_⟩
 ·show (if j=n then (x.l:Int) else 0) - ind (n=j)=0
  by_cases ej:j=n
  ·rw [if_pos ej,ind_pos ej.symm];omega
  ·rw [if_neg ej,ind_neg (Ne.symm ej)];rfl
 ·refine h.rk.leaf (n:=n) (a:=d) (fun r hr'=>?_) (fun z hz hzn r hr' y hy hky=>?_) hnd
  ·have hr':r∈(((addT t d s n).put n x).nd n).rows:=hr'
   rw [nd_at,hr] at hr'
   cases hr'
  ·have hr':r∈(((addT t d s n).put n x).nd z).rows:=hr'
   have hky:(((addT t d s n).put n x).nd y).k=2:=hky
   rw [nd_ne hzn] at hr'
   rcases mem_set_rows hr' with ⟨e,er⟩ | hm
   ·subst er
    have:((n:Nat):Int)=y:=hy
    exact .inl ⟨by omega,e⟩
   ·refine .inr ⟨fun ey=>?_,?_,hm⟩
    ·subst ey
     have:=cnt_pos hz hm hy
     rw [h.x.free_cnt (by omega) h0] at this
     omega
    ·by_cases ey:y=n
     ·subst ey
      have:=cnt_pos hz hm hy
      rw [h.x.free_cnt (by omega) h0] at this
      omega
     ·rw [nd_ne ey] at hky
      unfold addT at hky
      rw [set_k] at hky
      exact hky
theorem make_wf (h:WF t) (hq:∀ s∈q.1,nameB s=true) {k:Int} (he:(makeT t q k).2.2=0):WF (makeT t q k).1:=by
 unfold makeT at he ⊢
 by_cases a1:k≠1∧k≠2
 ·rw [if_pos a1] at he;cases he
 rw [if_neg a1] at he ⊢
 by_cases a2:(aboveT t q).err≠0
 ·rw [if_pos a2] at he;exact absurd he a2
 rw [if_neg a2] at he ⊢
 by_cases a3:(aboveT t q).node≠0
 ·rw [if_pos a3] at he;cases he
 rw [if_neg a3] at he ⊢
 have ha:=above_of h.x (Decidable.not_not.1 a2)
 cases hf:freeT t with
 | none=>rw [hf] at he;cases he
 | some n =>
  rw [hf] at he
  simp only at he ⊢
  by_cases a4:1073741824≤t.gens
  ·rw [if_pos a4] at he;cases he
  rw [if_neg a4] at he ⊢
  by_cases a5:fullT t (aboveT t q).dir=true
  ·rw [if_pos a5] at he;cases he
  rw [if_neg a5] at he ⊢
  obtain ⟨f1,f2,f3,_⟩:=free_some h.x hf
  exact h.make ha.d32 ha.dk (ha.no (Decidable.not_not.1 a3)) (ha.name hq) f1 f2 f3 (by simpa using a5) (by show k.toNat=1∨k.toNat=2;omega) rfl rfl _
theorem link_wf (h:WF t) (hq:∀ s∈q.1,nameB s=true) (he:(linkT t p q).2.2=0):WF (linkT t p q).1:=by
 unfold linkT at he ⊢
 by_cases a1:(walkT t p).2≠0
 ·rw [if_pos a1] at he;exact absurd he a1
 rw [if_neg a1] at he ⊢
 simp only at he ⊢
 have hwk:=Decidable.not_not.1 a1
 have hn:1≤(walkT t p).1∧(walkT t p).1<32∧(t.nd (walkT t p).1).k≠0:=by
  unfold walkT at hwk ⊢
  by_cases b:p.2≠0
  ·rw [if_pos b] at hwk;exact absurd hwk b
  ·rw [if_neg b] at hwk ⊢
   exact names_of h.x _ 1 (Nat.le_refl _) (by omega) (by rw [h.x.root];omega) hwk
 generalize (walkT t p).1=n at *
 by_cases a2:(t.nd n).k=2
 ·rw [if_pos a2] at he;cases he
 rw [if_neg a2] at he ⊢
 by_cases a3:(aboveT t q).err≠0
 ·rw [if_pos a3] at he;exact absurd he a3
 rw [if_neg a3] at he ⊢
 by_cases a4:(aboveT t q).node≠0
 ·rw [if_pos a4] at he;cases he
 rw [if_neg a4] at he ⊢
 by_cases a5:255≤(t.nd n).l
 ·rw [if_pos a5] at he;cases he
 rw [if_neg a5] at he ⊢
 by_cases a6:fullT t (aboveT t q).dir=true
 ·rw [if_pos a6] at he;cases he
 rw [if_neg a6]
 have ha:=above_of h.x (Decidable.not_not.1 a3)
 have hn1:1<n:=by
  rcases Nat.lt_or_ge 1 n with b | b
  ·exact b
  ·have:n=1:=by omega
   subst this
   exact absurd h.x.root a2
 have hw:=h.x.add (n:=n) ha.d32 ha.dk (ha.no (Decidable.not_not.1 a4)) (ha.name hq) hn1 hn.2.1 hn.2.2 (by simpa using a6)
 generalize (aboveT t q).dir=d at *
 generalize (aboveT t q).name=s at *
 have hk1:((addT t d s n).nd n).k=(t.nd n).k:=by unfold addT;rw [set_k]
 have hl1:((addT t d s n).nd n).l=(t.nd n).l:=by unfold addT;rw [set_l]
 refine ⟨(hw.attr (n:=n) (x:={ (addT t d s n).nd n with l:=((addT t d s n).nd n).l+1,c:=more ((addT t d s n).nd n).c }) hn.2.1 rfl rfl fun e=>absurd (hk1.symm.trans e) a2).congr fun j j1 j2=>?_,fun j j1 j2 j3=>?_,h.rk.mono fun z hz r hr y hy hky=>?_⟩
 ·show (if j=n then (0:Int) - ind (n=n)+(((((addT t d s n).nd n).l+1:Nat):Int) - (((addT t d s n).nd n).l:Int)) else 0 - ind (n=j))=0
  by_cases ej:j=n
  ·rw [if_pos ej,ind_pos rfl];omega
  ·rw [if_neg ej,ind_neg (Ne.symm ej)];rfl
 ·by_cases ej:j=n
  ·subst ej;rw [nd_at];show 1≤_+1;omega
  ·rw [nd_ne ej] at j3 ⊢
   unfold addT at j3 ⊢
   rw [set_k] at j3
   rw [set_l]
   exact h.pos j j1 j2 j3
 ·have hky2:(t.nd y).k=2:=by
   by_cases ey:y=n
   ·subst ey
    rw [nd_at] at hky
    have hky:((addT t d s y).nd y).k=2:=hky
    rw [hk1] at hky
    exact hky
   ·rw [nd_ne ey] at hky
    unfold addT at hky
    rw [set_k] at hky
    exact hky
  refine ⟨hky2,?_⟩
  have hr2:r∈((addT t d s n).nd z).rows:=by
   by_cases ez:z=n
   ·subst ez;rw [nd_at] at hr;exact hr
   ·rw [nd_ne ez] at hr;exact hr
  rcases mem_set_rows hr2 with ⟨_,er⟩ | hm
  ·subst er
   have:((n:Nat):Int)=y:=hy
   have:n=y:=by omega
   subst this
   exact absurd hky2 a2
  ·exact hm
theorem rm_wf (h:WF t) (he:(rmT t q).2.2=0):WF (rmT t q).1:=by
 unfold rmT at he ⊢
 by_cases a1:(aboveT t q).err≠0
 ·rw [if_pos a1] at he;exact absurd he a1
 rw [if_neg a1] at he ⊢
 by_cases a2:(aboveT t q).node=0
 ·rw [if_pos a2] at he;cases he
 rw [if_neg a2] at he ⊢
 by_cases a3:(t.nd (aboveT t q).node).k=2
 ·rw [if_pos a3] at he;cases he
 rw [if_neg a3]
 have ha:=above_of h.x (Decidable.not_not.1 a1)
 obtain ⟨i,b1,b2,b3,b4,b5⟩:=ha.yes a2
 exact h.away ha.d32 ha.dk b1 b2 b3 b4 b5 fun e=>absurd e a3
end
end Go.Proofs.YtkganhafbjgndaaGreatRR.N
namespace Go.Proofs.YtkganhafbjgndaaGreatRR.N
set_option linter.unusedVariables false
section
variable {t t':Tr} {ex ex':Nat→Int} {n d i m:Nat} {s:Nm} {p q:List Nm × Int} {x:Nod}
theorem cnt_two {a b:Nat} (ha:a<32) (hb:b<32) (hab:a≠b):cntR (t.nd a).rows n+cntR (t.nd b).rows n≤cnt t n:=by
 unfold cnt
 have hm:b∈(List.range 32).filter fun j=>j != a:=List.mem_filter.2 ⟨List.mem_range.2 hb,by simpa using Ne.symm hab⟩
 have hnd:((List.range 32).filter fun j=>j != a).Nodup:=(List.nodup_range (n:=32)).filter _
 rw [sum_split List.nodup_range (List.mem_range.2 ha),sum_split (g:=fun x=>cntR (t.nd x).rows n) hnd hm]
 omega
theorem cntR_pos {l:List Rw} {r:Rw} (hr:r∈l) (h:r.2=(n:Int)):1≤cntR l n:=by
 unfold cntR
 exact List.length_pos_iff.2 fun e=>by
  have:r∈l.filter fun r=>decide (r.2=(n:Int)):=List.mem_filter.2 ⟨hr,by simpa using h⟩
  rw [e] at this
  exact absurd this (by simp)
theorem WF.parent (h:WF t) {a b y:Nat} {r r':Rw} (ha:a<32) (hb:b<32) (h1:1<y) (h2:y<32) (hk:(t.nd y).k=2) (hr:r∈(t.nd a).rows) (hr':r'∈(t.nd b).rows) (e:r.2=(y:Int)) (e':r'.2=(y:Int)):a=b:=by
 refine Decidable.byContradiction fun hab=>?_
 have h3:=cnt_two (t:=t) (n:=y) ha hb hab
 have h4:=cntR_pos hr e
 have h5:=cntR_pos hr' e'
 have h6:=h.x.links y h1 h2 (by omega)
 have h7:=h.x.one y h2 hk
 omega
inductive Rch (t:Tr) (n:Nat):Nat→Prop
 | here:Rch t n n
 | more {x y:Nat} {r:Rw}:Rch t n x→x<32→r∈(t.nd x).rows→r.2=(y:Int)→(t.nd y).k=2→Rch t n y
theorem Rch.up {y:Nat} (h:Rch t n y):y=n∨∃ x r,Rch t n x∧x<32∧r∈(t.nd x).rows∧r.2=(y:Int):=by
 cases h with
 | here=>exact .inl rfl
 | more a b c d e=>exact .inr ⟨_,_,a,b,c,d⟩
theorem row_num (h:WFx t ex) {r:Rw} {y:Nat} (hd:d<32) (hr:r∈(t.nd d).rows) (e:r.2=(y:Int)) (hy:y≠0):1<y∧y<32∧(t.nd y).k≠0:=by
 rcases h.row d hd r hr with rfl | ⟨_,k,e1,e2,e3,e4⟩
 ·have e:(0:Int)=y:=e
  omega
 ·have:k=y:=by omega
  subst this
  exact ⟨e2,e3,e4⟩
theorem names_dir:∀ (l:List Nm) (x:Nat) {z:Nat},namesT t l x=(z,0)→(t.nd z).k=2→(t.nd x).k=2
 | [],x,z,h,hz=>by
  have:x=z:=congrArg Prod.fst h
  rw [this];exact hz
 | s :: l,x,z,h,hz=>by
  rw [namesT] at h
  by_cases a:(stepT t x s).2≠0
  ·rw [if_pos a] at h;exact absurd (congrArg Prod.snd h) a
  ·refine Decidable.byContradiction fun hx=>a ?_
   unfold stepT
   rw [if_pos hx]
   decide
theorem names_cons {l:List Nm} {x z:Nat} (h:namesT t (s :: l) x=(z,0)):(stepT t x s).2=0∧(stepT t x s).1≠0∧namesT t l (stepT t x s).1=(z,0):=by
 rw [namesT] at h
 by_cases a:(stepT t x s).2≠0
 ·rw [if_pos a] at h;exact absurd (congrArg Prod.snd h) a
 ·rw [if_neg a] at h
  by_cases b:(stepT t x s).1=0
  ·rw [if_pos b] at h;cases congrArg Prod.snd h
  ·rw [if_neg b] at h
   exact ⟨Decidable.not_not.1 a,b,h⟩
theorem names_step {l:List Nm} {x:Nat} (h1:(stepT t x s).2=0) (h2:(stepT t x s).1≠0):namesT t (s :: l) x=namesT t l (stepT t x s).1:=by
 rw [namesT,if_neg (by rw [h1];decide),if_neg h2]
theorem way_out (h:WF t):∀ (l:List Nm) (x:Nat) {z:Nat},x<32→¬ Rch t n x→namesT t l x=(z,0)→(t.nd z).k=2→(∀ i,i≤l.length→namesT t (l.take i) x≠(n,0))→¬ Rch t n z
 | [],x,z,hx,hn,hw,hz,ho=>by
  have:x=z:=congrArg Prod.fst hw
  rw [← this];exact hn
 | s :: l,x,z,hx,hn,hw,hz,ho=>by
  obtain ⟨a,b,c⟩:=names_cons hw
  obtain ⟨_,hc⟩:=step_of h.x hx a
  rcases hc with ⟨_,e⟩ | ⟨i,k,_,hr,e,k1,k2,k3⟩
  ·exact absurd e b
  ·have ho':∀ i,i≤l.length→namesT t (l.take i) (stepT t x s).1≠(n,0):=fun i hi=>by
    have:=ho (i+1) (by simpa using hi)
    rw [List.take_succ_cons,names_step a b] at this
    exact this
   rw [e] at c ho'
   have hk:=names_dir l k c hz
   refine way_out h l k k2 (fun hR=>?_) c hz ho'
   rcases hR.up with e1 | ⟨y,r,r1,r2,r3,r4⟩
   ·subst e1
    exact ho' 0 (Nat.zero_le _) rfl
   ·have:=h.parent r2 hx k1 k2 hk r3 (List.mem_of_getElem? hr) r4 rfl
    subst this
    exact hn r1
theorem on_false {l:List Nm} (h:onT t l n=false):∀ i,i<l.length→namesT t (l.take i) 1≠(n,0):=fun i hi e=>by
 unfold onT at h
 rw [List.any_eq_false] at h
 exact h i (List.mem_range.2 hi) (by simpa using e)
theorem Rk.move (h:WF t) {a:Nat} (hk:(t.nd n).k=2) (ha:¬ Rch t n a) (hx:∀ x,x<32→∀ r∈(t'.nd x).rows,∀ y:Nat,r.2=(y:Int)→(t'.nd y).k=2→(y=n∧x=a)∨(y≠n∧(t.nd y).k=2∧r∈(t.nd x).rows)):Rk t':=by
 classical
 obtain ⟨d,hd⟩:=h.rk
 refine ⟨fun z=>if Rch t n z then d z+d a+1 else d z,fun x x32 r hr y hy hky=>?_⟩
 show (if Rch t n x then d x+d a+1 else d x)<(if Rch t n y then d y+d a+1 else d y)
 rcases hx x x32 r hr y hy hky with ⟨e1,e2⟩ | ⟨e1,e2,e3⟩
 ·subst e1 e2
  rw [if_neg ha,if_pos .here]
  omega
 ·have hlt:=hd x x32 r e3 y hy e2
  by_cases b:Rch t n x
  ·rw [if_pos b,if_pos (b.more x32 e3 hy e2)]
   omega
  ·rw [if_neg b]
   by_cases c:Rch t n y
   ·exfalso
    rcases c.up with e | ⟨z,r',z1,z2,z3,z4⟩
    ·exact e1 e
    ·have hy0:y≠0:=fun e=>by subst e;rw [h.x.zero] at e2;cases e2
     obtain ⟨y1,y2,_⟩:=row_num h.x x32 e3 hy hy0
     have:=h.parent x32 z2 y1 y2 e2 e3 z3 hy z4
     subst this
     exact b z1
   ·rw [if_neg c];exact hlt
theorem find_set {l:List Rw} {i:Nat} (hd:(nms l).Nodup) (hf:find l s=some i):find (l.set i emp) s=none:=by
 rw [find_iff]
 intro hm
 obtain ⟨hs,r,hr,e⟩:=find_some hf
 obtain ⟨e1,e2⟩:=nms_set l emp hr
 rw [e2,nms_one,if_neg (by rw [e];exact hs),List.nodup_append] at hd
 rw [e1,nms_one,if_pos (show emp.1=[] from rfl),List.nil_append,List.mem_append] at hm
 obtain ⟨_,d2,d3⟩:=hd
 rcases hm with hm | hm
 ·exact d3 s hm r.1 (by simp) e.symm
 ·rw [List.singleton_append] at d2
  exact (List.nodup_cons.1 d2).1 (by rw [e];exact hm)
theorem find_other {l:List Rw} {s:Nm} {i j:Nat} {r:Rw} (hd:(nms l).Nodup) (hf:find l s=some i) (hr:l[i]?=some r) (hij:i≠j):find (l.set j emp) s=some i∧(l.set j emp)[i]?=some r:=by
 have hg:(l.set j emp)[i]?=some r:=by rw [List.getElem?_set_ne (Ne.symm hij)];exact hr
 obtain ⟨hs,r',hr',e⟩:=find_some hf
 obtain rfl:r'=r:=by rw [hr] at hr';exact (Option.some.inj hr').symm
 refine ⟨?_,hg⟩
 by_cases hj:j<l.length
 ·have hd':(nms (l.set j emp)).Nodup:=dist_emp (List.getElem?_eq_getElem hj) hd
  obtain ⟨i',h1,h2⟩:=find_of hd' (List.mem_of_getElem? hg) (by rw [e];exact hs)
  rw [e] at h1
  by_cases e3:i'=j
  ·subst e3
   rw [List.getElem?_set_self hj] at h2
   have:emp=r':=Option.some.inj h2
   rw [← this] at e
   exact absurd e.symm hs
  ·rw [List.getElem?_set_ne (Ne.symm e3)] at h2
   obtain ⟨i2,h3,h4⟩:=find_of hd (List.mem_of_getElem? h2) (by rw [e];exact hs)
   rw [e,hf] at h3
   rw [h1]
   congr 1
   refine Decidable.byContradiction fun hne=>?_
   have key:∀ {a b:Nat},a<b→l[a]?=some r'→l[b]?=some r'→False:=fun {a b} hab ha hb=>by
    rw [cut_at l ha,nms_app,show r' :: l.drop (a+1)=[r']++l.drop (a+1) from rfl,nms_app,nms_one,if_neg (by rw [e];exact hs)] at hd
    have hd2:=(List.nodup_append.1 hd).2.1
    exact (List.nodup_cons.1 hd2).1 (mem_nms.2 ⟨by rw [e];exact hs,r',List.mem_of_getElem? (i:=b - (a+1)) (by rw [List.getElem?_drop,show a+1+(b - (a+1))=b by omega];exact hb),rfl⟩)
   rcases Nat.lt_or_gt_of_ne hne with hlt | hlt
   ·exact key hlt h2 hr
   ·exact key hlt hr h2
 ·rw [List.set_eq_of_length_le (by omega)];exact hf
end
end Go.Proofs.YtkganhafbjgndaaGreatRR.N
namespace Go.Proofs.YtkganhafbjgndaaGreatRR.N
set_option linter.unusedVariables false
section
variable {t t':Tr} {ex ex':Nat→Int} {n d i m a f:Nat} {s other name:Nm} {p q:List Nm × Int} {x:Nod}
theorem find_sub {l:List Rw} {j:Nat} (hf:find l s=none):find (l.set j emp) s=none:=by
 rw [find_iff] at hf ⊢
 intro hm
 obtain ⟨hs,r,hr,e⟩:=mem_nms.1 hm
 rcases List.mem_or_eq_of_mem_set hr with hr | hr
 ·exact hf (mem_nms.2 ⟨hs,r,hr,e⟩)
 ·subst hr;exact hs e.symm
theorem rem_rows (hi:i<(t.nd d).rows.length):((setT t d i emp).nd d).rows=(t.nd d).rows.set i emp:=by
 rw [set_nd_at];exact if_pos hi
theorem WF.move1 (h:WF t) (hf32:f<32) (hfk:(t.nd f).k=2) (hfi:find (t.nd f).rows name=some i) (hfr:(t.nd f).rows[i]?=some (name,(n:Int))) (n1:1<n) (n2:n<32) (n3:(t.nd n).k≠0) (ha32:a<32) (hak:(t.nd a).k=2) (ho:find (t.nd a).rows other=none) (hog:nameB other=true)
  (hR:(t.nd n).k=2→¬ Rch t n a) (hl:fullT (removeT t f name) a=false):WF (addT (removeT t f name) a other n):=by
 have hw:=h.x.remove hf32 hfk hfi hfr
 have hi:=(List.getElem?_eq_some_iff.1 hfr).1
 rw [remove_eq hfi] at hw hl ⊢
 have ho1:find ((setT t f i emp).nd a).rows other=none:=by
  by_cases e:a=f
  ·subst e;rw [rem_rows hi];exact find_sub ho
  ·rw [set_nd_ne e];exact ho
 have hw2:=hw.add ha32 (by rw [set_k];exact hak) ho1 hog n1 n2 (by rw [set_k];exact n3) hl
 have hz:∀ z,z<32→∀ r∈((addT (setT t f i emp) a other n).nd z).rows,∀ y:Nat,r.2=(y:Int)→((addT (setT t f i emp) a other n).nd y).k=2→(t.nd y).k=2∧((y=n∧z=a)∨(r∈((setT t f i emp).nd z).rows∧r∈(t.nd z).rows)):=fun z hz r hr y hy hky=>by
  unfold addT at hky
  rw [set_k,set_k] at hky
  refine ⟨hky,?_⟩
  rcases mem_set_rows hr with ⟨e1,e2⟩ | hm
  ·subst e2
   have:((n:Nat):Int)=y:=hy
   exact .inl ⟨by omega,e1⟩
  ·rcases mem_set_rows hm with ⟨_,e2⟩ | hm2
   ·subst e2
    have:(0:Int)=y:=hy
    have:y=0:=by omega
    subst this
    rw [h.x.zero] at hky
    cases hky
   ·exact .inr ⟨hm,hm2⟩
 refine ⟨hw2.congr fun j j1 j2=>?_,fun j j1 j2 j3=>?_,?_⟩
 ·show (0:Int)+ind (n=j) - ind (n=j)=0
  omega
 ·unfold addT at j3 ⊢
  rw [set_k,set_k] at j3
  rw [set_l,set_l]
  exact h.pos j j1 j2 j3
 ·by_cases k2:(t.nd n).k=2
  ·refine Rk.move h k2 (hR k2) fun z hz32 r hr y hy hky=>?_
   obtain ⟨b1,b2⟩:=hz z hz32 r hr y hy hky
   rcases b2 with b2 | ⟨b2,b3⟩
   ·exact .inl b2
   ·refine .inr ⟨fun e=>?_,b1,b3⟩
    subst e
    have c1:=hw.links y n1 n2 (by rw [set_k];exact n3)
    rw [set_l,h.x.one y n2 k2,ind_pos rfl] at c1
    have c2:=cnt_pos hz32 b2 hy
    omega
  ·exact h.rk.mono fun z hz32 r hr y hy hky=>by
    obtain ⟨b1,b2⟩:=hz z hz32 r hr y hy hky
    rcases b2 with ⟨e,_⟩ | ⟨_,b3⟩
    ·subst e;exact absurd b1 k2
    ·exact ⟨b1,b3⟩
theorem Rch.sub (hs:∀ z,z<32→∀ r∈(t'.nd z).rows,∀ y:Nat,r.2=(y:Int)→(t'.nd y).k=2→(t.nd y).k=2∧r∈(t.nd z).rows) {y:Nat} (h:Rch t' n y):Rch t n y:=by
 induction h with
 | here=>exact .here
 | more _ b c d e ih=>exact ih.more b (hs _ b _ c _ d e).2 d (hs _ b _ c _ d e).1
theorem rename_wf (h:WF t) (hq:∀ s∈q.1,nameB s=true) (he:(renameT t p q).2.2=0):WF (renameT t p q).1:=by
 unfold renameT at he ⊢
 by_cases a1:(aboveT t p).err≠0
 ·rw [if_pos a1] at he;exact absurd he a1
 rw [if_neg a1] at he ⊢
 simp only at he ⊢
 by_cases a2:(aboveT t p).node=0
 ·rw [if_pos a2] at he;cases he
 rw [if_neg a2] at he ⊢
 by_cases a3:(aboveT t q).err≠0
 ·rw [if_pos a3] at he;exact absurd he a3
 rw [if_neg a3] at he ⊢
 have hp:=above_of h.x (Decidable.not_not.1 a1)
 have hA:=above_of h.x (Decidable.not_not.1 a3)
 obtain ⟨i,b1,b2,n1,n2,n3⟩:=hp.yes a2
 have hog:=hA.name hq
 have hne:q.1≠[]:=fun e=>by
  have:=hA.lst
  rw [e] at this
  simp at this
 have hlen:q.1.dropLast.length<q.1.length:=by
  rw [List.length_dropLast]
  have:=List.length_pos_iff.2 hne
  omega
 have htk:∀ k,k≤q.1.dropLast.length→q.1.take k=q.1.dropLast.take k:=fun k hk=>by
  conv=>lhs;rw [hA.lst]
  exact List.take_append_of_le_length hk
 have hf32:=hp.d32
 have hfk:=hp.dk
 have ha32:=hA.d32
 have hak:=hA.dk
 have hway:=hA.way
 have hwhat:=hA.what
 clear hp hA a1 a3
 generalize (aboveT t p).node=n at *
 generalize (aboveT t p).dir=f at *
 generalize (aboveT t p).name=name at *
 generalize (aboveT t q).node=m at *
 generalize (aboveT t q).dir=a at *
 generalize (aboveT t q).name=other at *
 by_cases a4:(t.nd n).k=2∧onT t q.1 n=true
 ·rw [if_pos a4] at he;cases he
 rw [if_neg a4] at he ⊢
 by_cases a5:m=n
 ·rw [if_pos a5];exact h
 rw [if_neg a5] at he ⊢
 by_cases a6:m≠0∧(t.nd m).k=2∧(t.nd n).k≠2
 ·rw [if_pos a6] at he;cases he
 rw [if_neg a6] at he ⊢
 by_cases a7:m≠0∧(t.nd m).k≠2∧(t.nd n).k=2
 ·rw [if_pos a7] at he;cases he
 rw [if_neg a7] at he ⊢
 by_cases a8:m≠0∧(t.nd n).k=2∧nms (t.nd m).rows≠[]
 ·rw [if_pos a8] at he;cases he
 rw [if_neg a8] at he ⊢
 by_cases a9:fullT (removeT (awayT t a other m) f name) a=true
 ·rw [if_pos a9] at he;cases he
 rw [if_neg a9]
 have hfull:fullT (removeT (awayT t a other m) f name) a=false:=by simpa using a9
 have hR:(t.nd n).k=2→¬ Rch t n a:=fun k2=>by
  have hon:onT t q.1 n=false:=by
   cases hb:onT t q.1 n with
   | false=>rfl
   | true=>exact absurd ⟨k2,hb⟩ a4
  refine way_out h q.1.dropLast 1 (by omega) (fun hr=>?_) hway hak fun k hk=>?_
  ·rcases hr.up with e | ⟨z,r,_,z2,z3,z4⟩
   ·omega
   ·have:=(row_num h.x z2 z3 z4 (by omega)).1
    omega
  ·rw [← htk k hk];exact on_false hon k (by omega)
 by_cases m0:m=0
 ·have e:awayT t a other m=t:=if_pos m0
  rw [e] at hfull ⊢
  rcases hwhat with ⟨w1,_⟩ | ⟨_,_,_,w3,_⟩
  ·exact h.move1 hf32 hfk b1 b2 n1 n2 n3 ha32 hak w1 hog hR hfull
  ·omega
 ·have e:awayT t a other m=unlinkT (removeT t a other) m:=if_neg m0
  rw [e] at hfull ⊢
  rcases hwhat with ⟨_,w2⟩ | ⟨j,w1,w2,w3,w4,w5⟩
  ·exact absurd w2 m0
  have hemp:(t.nd m).k=2→nms (t.nd m).rows=[]:=fun k2=>by
   refine Decidable.byContradiction fun hne=>?_
   by_cases kn:(t.nd n).k=2
   ·exact a8 ⟨m0,kn,hne⟩
   ·exact a6 ⟨m0,k2,kn⟩
  have hw0:=h.away ha32 hak w1 w2 w3 w4 w5 hemp
  have hjl:=(List.getElem?_eq_some_iff.1 w2).1
  have ham:a≠m:=fun ea=>by
   subst ea
   obtain ⟨dd,hdd⟩:=h.rk
   have:=hdd a ha32 _ (List.mem_of_getElem? w2) a rfl hak
   omega
  have hfm:f≠m:=fun ef=>by
   subst ef
   have:=nms_nil (hemp hfk) (h.x.row f hf32) _ (List.mem_of_getElem? b2)
   obtain ⟨hne,_⟩:=find_some b1
   exact hne (congrArg Prod.fst this)
  have hnd:∀ z,z≠m→(unlinkT (removeT t a other) m).nd z=(removeT t a other).nd z:=fun z hz=>by unfold unlinkT;exact nd_ne hz
  have hkk:∀ z,z≠m→((unlinkT (removeT t a other) m).nd z).k=(t.nd z).k:=fun z hz=>by rw [hnd z hz,remove_eq w1,set_k]
  have hsub:∀ z,z<32→∀ r∈((unlinkT (removeT t a other) m).nd z).rows,∀ y:Nat,r.2=(y:Int)→((unlinkT (removeT t a other) m).nd y).k=2→(t.nd y).k=2∧r∈(t.nd z).rows:=fun z hz r hr y hy hky=>by
   have hk:=unlink_k (by rw [hky];decide:((unlinkT (removeT t a other) m).nd y).k≠0)
   rw [hky,remove_eq w1,set_k] at hk
   refine ⟨hk.symm,?_⟩
   have hr:=mem_unlink_rows hr
   rw [remove_eq w1] at hr
   rcases mem_set_rows hr with ⟨_,e2⟩ | hm2
   ·subst e2
    have:(0:Int)=y:=hy
    have:y=0:=by omega
    subst this
    rw [h.x.zero] at hk
    cases hk
   ·exact hm2
  have hij:i≠j∨f≠a:=by
   by_cases ef:f=a
   ·subst ef
    refine .inl fun eij=>?_
    subst eij
    rw [b2] at w2
    have:=congrArg Prod.snd (Option.some.inj w2)
    have:(n:Int)=(m:Int):=this
    omega
   ·exact .inr ef
  have hfi:find ((unlinkT (removeT t a other) m).nd f).rows name=some i∧((unlinkT (removeT t a other) m).nd f).rows[i]?=some (name,(n:Int)):=by
   rw [hnd f hfm,remove_eq w1]
   by_cases ef:f=a
   ·subst ef
    rw [rem_rows hjl]
    exact find_other (h.x.dist f hf32) b1 b2 (hij.resolve_right (by simp))
   ·rw [set_nd_ne ef];exact ⟨b1,b2⟩
  have hoa:find ((unlinkT (removeT t a other) m).nd a).rows other=none:=by
   rw [hnd a ham,remove_eq w1,rem_rows hjl]
   exact find_set (h.x.dist a ha32) w1
  exact hw0.move1 hf32 (by rw [hkk f hfm];exact hfk) hfi.1 hfi.2 n1 n2 (by rw [hkk n (Ne.symm a5)];exact n3) ha32 (by rw [hkk a ham];exact hak) hoa hog (fun k2 hr=>by
   rw [hkk n (Ne.symm a5)] at k2
   exact hR k2 (hr.sub hsub)) hfull
end
end Go.Proofs.YtkganhafbjgndaaGreatRR.N
namespace Go.Proofs.YtkganhafbjgndaaGreatRR.N
set_option linter.unusedVariables false
theorem names_app (t:Tr):∀ (l1 l2:List Nm) (x:Nat) {y:Nat},namesT t l1 x=(y,0)→namesT t (l1++l2) x=namesT t l2 y
 | [],l2,x,y,h=>by
  have:x=y:=congrArg Prod.fst h
  rw [this];rfl
 | s :: l1,l2,x,y,h=>by
  obtain ⟨a,b,c⟩:=names_cons h
  rw [List.cons_append,names_step a b]
  exact names_app t l1 l2 _ c
section
variable {t t':Tr} {ex ex':Nat→Int} {n d i m a f:Nat} {s other name:Nm} {p q:List Nm × Int} {x:Nod}
theorem step_mem (h:WFx t ex) (hd:d<32) (hk:(t.nd d).k=2) {k:Nat} (hs:s≠[]) (hm:(s,(k:Int))∈(t.nd d).rows):stepT t d s=(k,0):=by
 obtain ⟨i,h1,h2⟩:=find_of (h.dist d hd) hm hs
 have h1:find (t.nd d).rows s=some i:=h1
 unfold stepT
 rw [if_neg (by omega),h1]
 show (((t.nd d).rows[i]?.getD emp).2.toNat,(0:Int))=_
 rw [h2]
 rfl
theorem step_none (hk:(t.nd d).k=2) (hf:find (t.nd d).rows s=none):stepT t d s=(0,0):=by
 unfold stepT
 rw [if_neg (by omega),hf]
theorem mem_set_ne {l:List Rw} {i:Nat} {r r0 e:Rw} (hr:r∈l) (h0:l[i]?=some r0) (hne:r≠r0):r∈l.set i e:=by
 obtain ⟨j,hj⟩:=List.mem_iff_getElem?.1 hr
 refine List.mem_of_getElem? (i:=j) ?_
 rw [List.getElem?_set_ne fun e=>by
  subst e
  rw [h0] at hj
  exact hne (Option.some.inj hj).symm]
 exact hj
theorem mem_add {l:List Rw} {r r':Rw} (hr:r∈l) (hn:r.1≠[]):r∈puts l (place l) r':=by
 unfold puts
 split
 ·rename_i h
  obtain ⟨r0,h0,e0⟩:=place_at h
  exact mem_set_ne hr h0 fun e=>hn (by rw [e];exact e0)
 ·exact List.mem_append_left _ hr
theorem mem_add_self (l:List Rw) (r:Rw):r∈puts l (place l) r:=by
 unfold puts
 split
 ·rename_i h
  exact List.mem_of_getElem? (i:=place l) (List.getElem?_set_self h)
 ·exact List.mem_append_right _ (by simp)
structure Mv (t:Tr) (f:Nat) (name:Nm) (n a:Nat) (other:Nm):Prop where
 wf:WF t
 f32:f<32
 fk:(t.nd f).k=2
 fr:∃ i:Nat,find (t.nd f).rows name=some i∧(t.nd f).rows[i]?=some (name,(n:Int))
 n1:1<n
 n2:n<32
 n3:(t.nd n).k≠0
 a32:a<32
 ak:(t.nd a).k=2
 ho:find (t.nd a).rows other=none
 hog:nameB other=true
 hR:(t.nd n).k=2→¬ Rch t n a
 hl:fullT (removeT t f name) a=false
 an:a≠n
def mvT (t:Tr) (f:Nat) (name:Nm) (n a:Nat) (other:Nm):Tr:=addT (removeT t f name) a other n
theorem Mv.out (h:Mv t f name n a other):WF (mvT t f name n a other):=by
 obtain ⟨i,h1,h2⟩:=h.fr
 exact h.wf.move1 h.f32 h.fk h1 h2 h.n1 h.n2 h.n3 h.a32 h.ak h.ho h.hog h.hR h.hl
theorem Mv.fn (h:Mv t f name n a other):f≠n:=fun e=>by
 obtain ⟨i,h1,h2⟩:=h.fr
 obtain ⟨dd,hdd⟩:=h.wf.rk
 have:=hdd f h.f32 _ (List.mem_of_getElem? h2) n rfl (by rw [← e];exact h.fk)
 rw [e] at this
 omega
theorem Mv.k (h:Mv t f name n a other) (j:Nat):((mvT t f name n a other).nd j).k=(t.nd j).k:=by
 obtain ⟨i,h1,h2⟩:=h.fr
 unfold mvT addT
 rw [set_k,remove_eq h1,set_k]
theorem mv_rows_a (h:Mv t f name n a other):((mvT t f name n a other).nd a).rows=puts ((removeT t f name).nd a).rows (place ((removeT t f name).nd a).rows) (other,(n:Int)):=by
 unfold mvT addT
 rw [set_nd_at]
theorem Mv.mem (h:Mv t f name n a other) {z k:Nat} (hs:s≠[]) (hm:(s,(k:Int))∈(t.nd z).rows) (hz:¬ (z=f∧s=name)):(s,(k:Int))∈((mvT t f name n a other).nd z).rows:=by
 obtain ⟨i,h1,h2⟩:=h.fr
 have hm1:(s,(k:Int))∈((removeT t f name).nd z).rows:=by
  rw [remove_eq h1]
  by_cases e:z=f
  ·subst e
   rw [rem_rows (List.getElem?_eq_some_iff.1 h2).1]
   exact mem_set_ne hm h2 fun e=>hz ⟨rfl,congrArg Prod.fst e⟩
  ·rw [set_nd_ne e];exact hm
 by_cases e:z=a
 ·subst e
  rw [mv_rows_a h]
  exact mem_add hm1 hs
 ·unfold mvT
  rw [add_nd_ne e];exact hm1
theorem Mv.there (h:Mv t f name n a other):(other,(n:Int))∈((mvT t f name n a other).nd a).rows:=by
 rw [mv_rows_a h]
 exact mem_add_self _ _
theorem Mv.gone (h:Mv t f name n a other):find ((mvT t f name n a other).nd f).rows name=none:=by
 obtain ⟨i,h1,h2⟩:=h.fr
 have hg:find ((removeT t f name).nd f).rows name=none:=by
  rw [remove_eq h1,rem_rows (List.getElem?_eq_some_iff.1 h2).1]
  exact find_set (h.wf.x.dist f h.f32) h1
 by_cases e:f=a
 ·subst e
  have hne:other≠name:=fun e2=>by
   subst e2
   have:=h.ho
   rw [h1] at this
   cases this
  rw [mv_rows_a h,find_iff]
  intro hm
  obtain ⟨m1,r,m2,m3⟩:=mem_nms.1 hm
  rcases mem_puts m2 with e3 | m2
  ·subst e3;exact hne m3
  ·exact find_none hg (mem_nms.2 ⟨m1,r,m2,m3⟩)
 ·unfold mvT
  rw [add_nd_ne e];exact hg
theorem Mv.way (h:Mv t f name n a other):∀ (l:List Nm) (x:Nat) {z:Nat},x<32→namesT t l x=(z,0)→(∀ i,i<l.length→namesT t (l.take i) x=(f,0)→l[i]?≠some name)→namesT (mvT t f name n a other) l x=(z,0)
 | [],x,z,_,hw,_=>hw
 | s :: l,x,z,hx,hw,hc=>by
  obtain ⟨b1,b2,b3⟩:=names_cons hw
  obtain ⟨xk,hs⟩:=step_of h.wf.x hx b1
  rcases hs with ⟨_,e⟩ | ⟨i,k,hf,hr,e,k1,k2,k3⟩
  ·exact absurd e b2
  ·have hz:¬ (x=f∧s=name):=fun ⟨e1,e2⟩=>by
    subst e1 e2
    exact hc 0 (by simp) rfl rfl
   have hsne:=(find_some hf).1
   have hm:=h.mem hsne (List.mem_of_getElem? hr) hz
   have hst:=step_mem h.out.x hx (by rw [h.k];exact xk) hsne hm
   rw [e] at b3
   have hst1:(stepT (mvT t f name n a other) x s).2=0:=by rw [hst]
   have hst2:(stepT (mvT t f name n a other) x s).1≠0:=by rw [hst];show k≠0;omega
   rw [names_step hst1 hst2,hst]
   refine h.way l k k2 b3 fun j hj hjw=>?_
   have:=hc (j+1) (by simpa using hj) (by rw [List.take_succ_cons,names_step b1 b2,e];exact hjw)
   simpa using this
end
end Go.Proofs.YtkganhafbjgndaaGreatRR.N
namespace Go.Proofs.YtkganhafbjgndaaGreatRR.N
set_option linter.unusedVariables false
section
variable {t t':Tr} {ex ex':Nat→Int} {n d i m a f k:Nat} {s other name:Nm} {p q:List Nm × Int} {l:List Nm}
theorem above_eq (h2:q.2=0) (hl:q.1=l++[s]) (hw:namesT t l 1=(d,0)) (hs:stepT t d s=(k,0)):aboveT t q=⟨d,s,k,0⟩:=by
 unfold aboveT
 have e1:q.1.dropLast=l:=by rw [hl];simp
 have e2:q.1.getLastD []=s:=by rw [hl];simp
 rw [if_neg (by rw [h2];decide),if_neg (by rw [hl];simp)]
 simp only [e1,e2,hw,hs]
 rfl
theorem walk_eq (h2:q.2=0) (hl:q.1=l++[s]) (hw:namesT t l 1=(d,0)) (hs:stepT t d s=(k,0)):walkT t q=if k=0 then (0,7) else (k,0):=by
 unfold walkT
 rw [if_neg (by rw [h2];decide),hl,names_app t l [s] 1 hw,namesT,if_neg (by rw [hs];exact fun h=>h rfl),hs]
 rfl
theorem look_yes (h:walkT t q=(k,0)):lookT t q=(stT t k,0):=by
 unfold lookT
 rw [h]
 rfl
theorem AbvOk.step (h:WFx t ex) {a:Abv} (hA:AbvOk t q a):stepT t a.dir a.name=(a.node,0):=by
 rcases hA.what with ⟨e1,e2⟩ | ⟨i,e1,e2,_⟩
 ·rw [step_none hA.dk e1,e2]
 ·exact step_mem h hA.d32 hA.dk (find_some e1).1 (List.mem_of_getElem? e2)
theorem stT_eq (h:t'.nd n=t.nd n):stT t' n=stT t n:=by unfold stT;rw [h]
theorem rename_mv (ha:aboveT t p=⟨f,name,n,0⟩) (hb:aboveT t q=⟨a,other,0,0⟩) (hn:n≠0) (hon:(t.nd n).k=2→onT t q.1 n=false) (hl:fullT (removeT t f name) a=false):renameT t p q=(mvT t f name n a other,stT t n,0):=by
 have hw:awayT t a other 0=t:=if_pos rfl
 unfold renameT
 rw [ha,hb]
 simp only
 have h4:¬ ((t.nd n).k=2∧onT t q.1 n=true):=fun ⟨e1,e2⟩=>by rw [hon e1] at e2;cases e2
 rw [if_neg (by decide),if_neg hn,if_neg (by decide),if_neg h4,if_neg (Ne.symm hn)]
 simp only [ne_eq,not_true_eq_false,false_and,if_false]
 rw [hw,hl]
 rfl
end
end Go.Proofs.YtkganhafbjgndaaGreatRR.N
namespace Go.Proofs.YtkganhafbjgndaaGreatRR.N
set_option linter.unusedVariables false
section
variable {t t':Tr} {ex ex':Nat→Int} {n d i m a f k:Nat} {s other name:Nm} {p q:List Nm × Int} {l:List Nm}
theorem data_wf (h:WF t) (hn:n<32) (l:List UInt8) (b:Nat→Bool) (c:Nat):WF (t.put n { t.nd n with dat:=l,blk:=b,c:=c }):=by
 refine ⟨(h.x.attr hn (x:={ t.nd n with dat:=l,blk:=b,c:=c }) rfl rfl fun e=>h.x.one n hn e).congr fun j j1 j2=>?_,fun j j1 j2 j3=>?_,h.rk.mono fun x hx r hr y hy hk=>?_⟩
 ·by_cases e:j=n
  ·rw [if_pos e]
   show (0:Int)+(((t.nd n).l:Int) - ((t.nd n).l:Int))=0
   omega
  ·rw [if_neg e]
 ·by_cases e:j=n
  ·subst e;rw [nd_at] at j3 ⊢;exact h.pos j j1 j2 j3
  ·rw [nd_ne e] at j3 ⊢;exact h.pos j j1 j2 j3
 ·have hk':(t.nd y).k=2:=by
   by_cases e:y=n
   ·subst e;rw [nd_at] at hk;exact hk
   ·rw [nd_ne e] at hk;exact hk
  refine ⟨hk',?_⟩
  by_cases e:x=n
  ·subst e;rw [nd_at] at hr;exact hr
  ·rw [nd_ne e] at hr;exact hr
end
def rawR (nm:Nm) (x:UInt8):List UInt8:=UInt8.ofNat nm.length :: (nm++List.replicate (24 - nm.length) 0++[x,0]++List.replicate 5 0)
def encR (r:Rw):List UInt8:=if r=emp then List.replicate 32 0 else rawR r.1 (UInt8.ofNat r.2.toNat)
theorem rawR_len {nm:Nm} {x:UInt8} (h:nm.length≤24):(rawR nm x).length=32:=by
 simp [rawR]
 omega
theorem name_le {l:Nm} (h:nameB l=true):1≤l.length∧l.length≤24:=by
 simp only [nameB,Bool.and_eq_true,decide_eq_true_eq] at h
 exact ⟨h.1.1.1.1,h.1.1.1.2⟩
theorem encR_len {t:Tr} {r:Rw} (h:RowOk t r):(encR r).length=32:=by
 unfold encR
 split
 ·simp
 ·rename_i hn
  rcases h with h | ⟨h,_⟩
  ·exact absurd h hn
  ·exact rawR_len (name_le h).2
def encs (l:List Rw):List UInt8:=(l.map encR).flatten
theorem encs_len {l:List Rw} (h:∀ r∈l,(encR r).length=32):(encs l).length=32 * l.length:=by
 induction l with
 | nil=>rfl
 | cons a l ih =>
  show (encR a++encs l).length=_
  rw [List.length_append,h a (by simp),ih fun r hr=>h r (by simp [hr]),List.length_cons]
  omega
theorem encs_get {l:List Rw} (h:∀ r∈l,(encR r).length=32) (k j:Nat) (hj:j<32):(encs l)[32 * k+j]?=(l[k]?.map encR).bind fun x=>x[j]?:=by
 induction l generalizing k with
 | nil=>simp [encs]
 | cons a l ih =>
  have e:encs (a :: l)=encR a++encs l:=rfl
  have ha:=h a (by simp)
  rw [e]
  cases k with
  | zero =>
   rw [List.getElem?_append_left (by rw [ha];omega),show 32 * 0+j=j by omega]
   rfl
  | succ k =>
   rw [List.getElem?_append_right (by rw [ha];omega),ha,show 32 * (k+1)+j - 32=32 * k+j by omega,ih (fun r hr=>h r (by simp [hr])),List.getElem?_cons_succ]
theorem puts_get (l:List Rw) {i:Nat} (r:Rw) (hi:i≤l.length) (k:Nat):(puts l i r)[k]?=if k=i then some r else l[k]?:=by
 unfold puts
 by_cases h:i<l.length
 ·rw [if_pos h,List.getElem?_set]
  by_cases e:i=k
  ·subst e;simp [h]
  ·rw [if_neg e,if_neg (Ne.symm e)]
 ·rw [if_neg h]
  have:i=l.length:=by omega
  subst this
  by_cases e:k=l.length
  ·subst e;simp
  ·rw [if_neg e]
   rcases Nat.lt_or_ge k l.length with a | a
   ·rw [List.getElem?_append_left a]
   ·rw [List.getElem?_append_right a,List.getElem?_eq_none (by simp;omega),List.getElem?_eq_none a]
end Go.Proofs.YtkganhafbjgndaaGreatRR.N
