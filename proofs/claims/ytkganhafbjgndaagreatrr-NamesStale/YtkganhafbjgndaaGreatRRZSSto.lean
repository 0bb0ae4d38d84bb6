/- store: plain mathematics, the map in memory, a store at rest; a change. -/
import Derived.Test.YtkganhafbjgndaaGreatRRZMRc
import Derived.Test.YtkganhafbjgndaaGreatRRZShelf
import Derived.Maps.OwnSet
import Derived.Test.YtkganhafbjgndaaGreatRRZMD
namespace Go.Proofs.YtkganhafbjgndaaGreatRR
set_option linter.unusedVariables false
def insW (p:Wr):List Wr→List Wr
  | []=>[p]
  | q :: r=>if p.1<q.1 then p :: q :: r else q :: insW p r
def ins (k:Int) (x:List UInt8) (m:List Wr):List Wr:=insW (k,x) (m.filter fun p=>!(p.1 == k))
def find (m:List Wr) (k:Int):Option (List UInt8):=(m.find? fun p=>p.1 == k).map (·.2)
def Rising (m:List Wr):Prop:=m.Pairwise fun p q=>p.1<q.1
structure MOk (N:Nat) (m:List Wr):Prop where
  rise:Rising m
  all:∀ p∈m,okn p.1=true∧p.1<N∧p.2.length=128
  len:m.length≤24
def view (X:Secs2) (m:List Wr) (n:Nat):List UInt8:=(find m n).getD (X[n]?.getD [])
theorem insW_len (p:Wr):∀ l,(insW p l).length=l.length+1
  | []=>rfl
  | q :: r=>by unfold insW;split;· rfl
               · simp [insW_len p r]
theorem insW_mem (p q:Wr):∀ l,q∈insW p l ↔ q=p∨q∈l
  | []=>by simp [insW]
  | a :: r=>by
    unfold insW
    split
    · simp
    · simp only [List.mem_cons,insW_mem p q r]
      constructor
      · rintro (h | h | h);exact .inr (.inl h);exact .inl h;exact .inr (.inr h)
      · rintro (h | h | h);exact .inr (.inl h);exact .inl h;exact .inr (.inr h)
theorem insW_find (p:Wr) (j:Int):∀ l,(∀ q∈l,p.1≠q.1)→(insW p l).find? (fun q=>q.1 == j)=if p.1=j then some p else l.find? (fun q=>q.1 == j)
  | [],_=>by
    unfold insW
    by_cases h:p.1=j
    · simp [h]
    · simp [h]
  | a :: r,ha=>by
    have ih:=insW_find p j r fun q hq=>ha q (by simp [hq])
    unfold insW
    split
    · by_cases h:p.1=j
      · simp [h]
      · simp [h]
    · rw [List.find?_cons,List.find?_cons,ih]
      by_cases h:p.1=j
      · have:(a.1 == j)=false:=by rw [beq_eq_false_iff_ne];intro e;exact ha a (by simp) (h.trans e.symm)
        rw [this]
      · simp [h]
theorem insW_rise (p:Wr):∀ l,Rising l→(∀ q∈l,p.1≠q.1)→Rising (insW p l)
  | [],_,_=>List.pairwise_singleton _ _
  | a :: r,h,ha=>by
    unfold Rising at h
    rw [List.pairwise_cons] at h
    unfold insW Rising
    split
    · rename_i hlt
      rw [List.pairwise_cons]
      refine ⟨fun q hq=>?_,List.pairwise_cons.2 h⟩
      rcases List.mem_cons.1 hq with rfl | hq
      · exact hlt
      · exact Int.lt_trans hlt (h.1 q hq)
    · rename_i hlt
      rw [List.pairwise_cons]
      refine ⟨fun q hq=>?_,insW_rise p r h.2 fun q hq=>ha q (by simp [hq])⟩
      rcases (insW_mem p q r).1 hq with rfl | hq
      · have:=ha a (by simp);omega
      · exact h.1 q hq
theorem filt_ne (k:Int) (m:List Wr):∀ q∈m.filter (fun p=>!(p.1 == k)),k≠q.1:=by
  intro q hq e
  have:=(List.mem_filter.1 hq).2
  simp [← e] at this
theorem find_filt {m:List Wr} {j k:Int} (h:k≠j):(m.filter fun p=>!(p.1 == k)).find? (fun q=>q.1 == j)=m.find? (fun q=>q.1 == j):=by
  induction m with
  | nil=>rfl
  | cons a r ih =>
    by_cases ha:a.1=k
    · have e1:(a.1 == j)=false:=by rw [beq_eq_false_iff_ne];exact fun e=>h (ha.symm.trans e)
      have e2:(!(a.1 == k))=false:=by simp [ha]
      rw [List.filter_cons_of_neg (by rw [e2];simp),List.find?_cons,e1,ih]
    · have e2:(!(a.1 == k))=true:=by simp [ha]
      rw [List.filter_cons_of_pos (by exact e2),List.find?_cons,List.find?_cons,ih]
theorem find_ins (m:List Wr) (k j:Int) (x:List UInt8):find (ins k x m) j=if k=j then some x else find m j:=by
  unfold find ins
  rw [insW_find _ _ _ (filt_ne k m)]
  by_cases h:k=j
  · simp [h]
  · rw [if_neg h,if_neg h,find_filt h]
theorem ins_rise {m:List Wr} (h:Rising m) (k:Int) (x:List UInt8):Rising (ins k x m) :=
  insW_rise _ _ (List.Pairwise.filter _ h) (filt_ne k m)
theorem find_none_iff {m:List Wr} {k:Int}:find m k=none ↔ ∀ p∈m,p.1≠k:=by
  unfold find
  rw [Option.map_eq_none_iff,List.find?_eq_none]
  constructor
  · intro h p hp e;exact h p hp (by simp [e])
  · intro h p hp e;exact h p hp (by simpa using e)
theorem ins_len {m:List Wr} (h:Rising m) (k:Int) (x:List UInt8):(ins k x m).length=if find m k=none then m.length+1 else m.length:=by
  unfold ins
  rw [insW_len]
  split
  · rename_i hn
    rw [List.filter_eq_self.2]
    intro p hp
    have:=find_none_iff.1 hn p hp
    simp [this]
  · rename_i hn
    induction m with
    | nil=>exact absurd rfl hn
    | cons a r ih =>
      have hr:=List.pairwise_cons.1 (show List.Pairwise _ _ from h)
      by_cases ha:a.1=k
      · have e2:¬ (!(a.1 == k))=true:=by simp [ha]
        rw [List.filter_cons_of_neg (by exact e2),List.filter_eq_self.2,List.length_cons]
        intro p hp
        have:=hr.1 p hp
        have:p.1≠k:=by omega
        simp [this]
      · have e2:(!(a.1 == k))=true:=by simp [ha]
        rw [List.filter_cons_of_pos (by exact e2),List.length_cons,List.length_cons,ih hr.2]
        intro hf
        apply hn
        rw [find_none_iff] at hf ⊢
        intro p hp
        rcases List.mem_cons.1 hp with rfl | hp
        · exact ha
        · exact hf p hp
theorem MOk.nil (N:Nat):MOk N []:=⟨List.Pairwise.nil,by simp,by simp⟩
theorem MOk.ins {N:Nat} {m:List Wr} (h:MOk N m) {k:Int} {x:List UInt8} (hk:okn k=true) (hN:k<N) (hx:x.length=128) (hl:find m k≠none∨m.length<24):MOk N (ins k x m):=by
  refine ⟨ins_rise h.rise k x,fun p hp=>?_,?_⟩
  · unfold YtkganhafbjgndaaGreatRR.ins at hp
    rcases (insW_mem _ _ _).1 hp with rfl | hp
    · exact ⟨hk,hN,hx⟩
    · exact h.all p (List.mem_filter.1 hp).1
  · rw [ins_len h.rise]
    have:=h.len
    split
    · rename_i e
      rcases hl with h1 | h1
      · exact absurd e h1
      · omega
    · omega
theorem MOk.fit {N:Nat} {m:List Wr} (h:MOk N m):fit N m=true:=by
  unfold YtkganhafbjgndaaGreatRR.fit
  rw [Bool.and_eq_true,Bool.and_eq_true]
  refine ⟨good_iff.2 ⟨by simpa using h.len,?_,?_⟩,?_,?_⟩
  · intro n hn
    obtain ⟨p,hp,rfl⟩:=List.mem_map.1 hn
    exact (h.all p hp).1
  · exact List.pairwise_map.2 (List.Pairwise.imp (fun {a b} hab=>by show a.1≠b.1;omega) h.rise)
  · unfold withinL
    rw [List.all_eq_true]
    intro n hn
    obtain ⟨p,hp,rfl⟩:=List.mem_map.1 hn
    have h1:=(okn_iff.1 (h.all p hp).1).1
    have h2:=(h.all p hp).2.1
    simp [h1,h2]
  · unfold wholeL
    rw [List.all_eq_true]
    intro p hp
    simp [(h.all p hp).2.2]
theorem view_ins (X:Secs2) (m:List Wr) (k:Nat) (x:List UInt8) (n:Nat):view X (ins k x m) n=if k=n then x else view X m n:=by
  unfold view
  rw [find_ins]
  by_cases h:k=n
  · subst h;simp
  · rw [if_neg (by omega),if_neg h]
theorem view_nil (X:Secs2) (n:Nat):view X [] n=X[n]?.getD []:=rfl
theorem mem_find {m:List Wr} (h:Rising m) {p:Wr} (hp:p∈m):find m p.1=some p.2:=by
  induction m with
  | nil=>cases hp
  | cons a r ih =>
    have hr:=List.pairwise_cons.1 (show List.Pairwise _ _ from h)
    unfold find
    rw [List.find?_cons]
    rcases List.mem_cons.1 hp with rfl | hp'
    · simp
    · have:=hr.1 p hp'
      have e:(a.1 == p.1)=false:=by rw [beq_eq_false_iff_ne];omega
      rw [e]
      exact ih hr.2 hp'
theorem lay_view {N:Nat} {X:Secs2} (hX:X.length=N):∀ {m:List Wr},Rising m→(∀ p∈m,0≤p.1∧p.1<N)→∀ n,n<N→(lay X (toW m))[n]?=some (view X m n):=by
  intro m hr ha n hn
  cases hf:find m n with
  | none =>
    rw [lay_not]
    · unfold view
      rw [hf,Option.getD_none,List.getElem?_eq_getElem (by omega)]
      rfl
    · intro p hp e
      simp only [toW,List.mem_map] at hp
      obtain ⟨q,hq,rfl⟩:=hp
      have:=(ha q hq).1
      exact find_none_iff.1 hf q hq (by simp at e;omega)
  | some x =>
    have hv:view X m n=x:=by unfold view;rw [hf];rfl
    rw [hv]
    clear hv
    induction m generalizing X with
    | nil=>cases hf
    | cons a r ih =>
      have hr':=List.pairwise_cons.1 (show List.Pairwise _ _ from hr)
      have h0:=ha a (by simp)
      show (lay X ((a.1.toNat,a.2) :: toW r))[n]?=_
      rw [lay_cons]
      by_cases e:a.1=n
      · have e2:a.1.toNat=n:=by omega
        have hx:x=a.2:=by
          unfold find at hf
          rw [List.find?_cons] at hf
          simp [e] at hf
          exact hf.symm
        rw [lay_not,e2,List.getElem?_set_self (by omega),hx]
        intro p hp e3
        simp only [toW,List.mem_map] at hp
        obtain ⟨q,hq,rfl⟩:=hp
        have:=hr'.1 q hq
        simp at e3
        omega
      · refine ih (by simpa using hX) hr'.2 (fun p hp=>ha p (by simp [hp])) ?_
        unfold find at hf ⊢
        rw [List.find?_cons] at hf
        have e1:(a.1 == (n:Int))=false:=by rw [beq_eq_false_iff_ne];exact e
        rw [e1] at hf
        exact hf
end Go.Proofs.YtkganhafbjgndaaGreatRR
namespace Go.Proofs.YtkganhafbjgndaaGreatRR
open Go.RowKit Go.Maps
set_option linter.unusedVariables false
def sv (x:List UInt8):Value:=.agg (bc x).toArray
def RH (v:Value):Option (DataW Value × List MemPlace):=some (.held v,[])
def ent (p:Wr):Lit × DataW Value:=(.int .i64 p.1,.held (sv p.2))
def mapD (m:List Wr):DataW Value:=.map (m.map ent)
def MapAt (w:World) (b:Nat) (m:List Wr):Prop:=w.ownsMap Tryz.prog 3 RH b m.length (mapD m)
theorem insert_map (p:Wr):∀ l:List Wr,DataW.insert (ent p) (l.map ent)=(insW p l).map ent
  | []=>rfl
  | q :: r=>by
    rw [List.map_cons,DataW.insert,insW,insert_map p r]
    have:((ent p).1.before (ent q).1)=decide (p.1<q.1):=rfl
    rw [this]
    by_cases h:p.1<q.1
    · simp [h]
    · simp [h]
theorem same_ent (p:Wr) (k:Int):(ent p).1.sameKey (.int .i64 k)=(p.1 == k):=by
  show decide (IntKind.i64=IntKind.i64∧p.1=k)=_
  by_cases h:p.1=k
  · simp [h]
  · simp [h]
theorem filter_map_ent (k:Int):∀ m:List Wr,(m.map ent).filter (fun p=>!p.1.sameKey (.int .i64 k))=(m.filter fun p=>!(p.1 == k)).map ent
  | []=>rfl
  | q :: r=>by
    have ih:=filter_map_ent k r
    rw [List.map_cons,List.filter_cons,List.filter_cons,same_ent,ih]
    cases (q.1 == k)<;>simp
theorem put_mapD (m:List Wr) (k:Int) (x:List UInt8):(mapD m).put (.int .i64 k) (.held (sv x))=mapD (ins k x m):=by
  show DataW.map (DataW.insert (ent (k,x)) ((m.map ent).filter fun p=>!p.1.sameKey (.int .i64 k)))=_
  rw [filter_map_ent,insert_map]
  rfl
theorem find_mapD (k:Int):∀ m:List Wr,(m.map ent).find? (fun p=>p.1.sameKey (.int .i64 k))=(m.find? fun p=>p.1 == k).map ent
  | []=>rfl
  | q :: r=>by
    rw [List.map_cons,List.find?_cons,List.find?_cons,same_ent,find_mapD k r]
    cases (q.1 == k)<;>simp
theorem has_mapD (m:List Wr) (k:Int):has (mapD m) (.int .i64 k)=(find m k).isSome:=by
  show (m.map ent).any (fun p=>p.1.sameKey (.int .i64 k))=_
  unfold find
  rw [Option.isSome_map]
  induction m with
  | nil=>rfl
  | cons q r ih =>
    rw [List.map_cons,List.any_cons,List.find?_cons,same_ent,ih]
    cases (q.1 == k)<;>simp
theorem at_mapD (m:List Wr) (k:Int) (z:DataW Value):(mapD m).atKey (.int .i64 k) z=match find m k with | some x=>.held (sv x) | none=>z:=by
  unfold mapD DataW.atKey find
  simp only [find_mapD]
  cases m.find? (fun p=>p.1 == k)<;>rfl
theorem size_mapD (m:List Wr):Maps.size (mapD m)=m.length:=by simp [mapD,Maps.size]
theorem intKeys_mapD (m:List Wr):intKeys (mapD m)=m.map (·.1):=by
  unfold intKeys mapD
  simp only [List.map_map]
  rfl
theorem keyed3:Keyed Tryz.prog 3:=int_keyed Tryz.underlying3
theorem wf64 {k:Int} (h1:-9223372036854775808≤k) (h2:k≤9223372036854775807):(Lit.int .i64 k).wf=true:=by
  simp [Lit.wf,IntKind.min,IntKind.max,IntKind.bits,IntKind.signed]
  omega
theorem key3 {k:Int} (h1:-9223372036854775808≤k) (h2:k≤9223372036854775807):keyOf Tryz.prog 3 (.int .i64 k)=some (.int .i64 k):=keyOf_int_mk Tryz.underlying3 (wf64 h1 h2)
section
variable {w w':World} {b:Nat} {m:List Wr}
theorem MapAt.lt (h:MapAt w b m):b<w.heap.size:=World.ownsMap.lt h
theorem MapAt.keep (h:MapAt w b m) (he:w'.heap[b]?=w.heap[b]?):MapAt w' b m:=by
  obtain ⟨es,clock,hb,r⟩:=h
  exact ⟨es,clock,he.trans hb,r⟩
theorem MapAt.below (h:MapAt w b m) (hb:Below w.heap.size w w'):MapAt w' b m:=h.keep (hb.block b h.lt)
theorem MapAt.new (w:World):MapAt (w.alloc (.map #[] 0)) w.heap.size []:=World.ownsMap_made w Tryz.prog 3 RH
theorem own_tight {n:Nat} {D:DataW Value} (h:w.ownsMap Tryz.prog 3 RH b n D):w.ownsMap Tryz.prog 3 RH b (Maps.size D) D:=by
  obtain ⟨es,clock,hb,F,hs,rfl⟩:=h
  exact ⟨es,clock,hb,F,by simp [Maps.size,length_sorted],rfl⟩
theorem zero90 (w:World):(zeroValue 147).run Tryz.prog w=.ok (sv zeros) w:=Tryz.zeroValue147 w
theorem MapAt.look (h:MapAt w b m) {k:Int} (h1:-9223372036854775808≤k) (h2:k≤9223372036854775807) :
    (Instr.lookup 75 (.map (some b)) (.int .i64 k) true).run Tryz.prog w=.ok (.tuple #[sv ((find m k).getD zeros),.bool (find m k).isSome]) w:=by
  obtain ⟨v,ps,hrun,hv⟩:=World.ownsMap.look_ok h keyed3 Tryz.underlying75 (zero90 w) (zd:=.held (sv zeros)) (zp:=[]) rfl (key3 h1 h2)
  rw [hrun,has_mapD]
  rw [at_mapD] at hv
  unfold RH at hv
  simp only [Option.some.injEq,Prod.mk.injEq] at hv
  have e:v=sv ((find m k).getD zeros):=by
    cases hf:find m k with
    | none=>rw [hf] at hv;exact DataW.held.inj hv.1
    | some x=>rw [hf] at hv;exact DataW.held.inj hv.1
  rw [e]
theorem MapAt.look1 (h:MapAt w b m) {k:Int} (h1:-9223372036854775808≤k) (h2:k≤9223372036854775807) {x:List UInt8} (hx:find m k=some x) :
    (Instr.lookup 75 (.map (some b)) (.int .i64 k) false).run Tryz.prog w=.ok (sv x) w:=by
  obtain ⟨v,ps,hrun,hv⟩:=World.ownsMap.lookup h keyed3 Tryz.underlying75 (zero90 w) (zd:=.held (sv zeros)) (zp:=[]) rfl (key3 h1 h2)
  rw [hrun]
  rw [at_mapD,hx] at hv
  unfold RH at hv
  simp only [Option.some.injEq,Prod.mk.injEq] at hv
  rw [DataW.held.inj hv.1]
theorem MapAt.len (h:MapAt w b m) (ty:TypeId):(Builtin.len_ #[75] ty #[.map (some b)]).run Tryz.prog w=.ok (.int .i64 m.length) w:=by
  have:=World.ownsMap.len h Tryz.underlying75 ty
  rw [size_mapD] at this
  exact this
theorem MapAt.put (h:MapAt w b m) {k:Int} (h1:-9223372036854775808≤k) (h2:k≤9223372036854775807) (hl:m.length<1000) (x:List UInt8) :
    ∃ w',(Instr.mapUpdate 75 (.map (some b)) (.int .i64 k) (sv x)).run Tryz.prog w=.ok () w'∧MapAt w' b (ins k x m)∧w.grownBy w' (some b):=by
  obtain ⟨w',hrun,ho,hg⟩:=World.ownsMap.update h keyed3 Tryz.underlying75 (by unfold maxLen;omega) (key3 h1 h2) (val:=sv x) (d:=.held (sv x)) (ps:=[]) rfl
  rw [put_mapD] at ho
  have:=own_tight ho
  rw [size_mapD] at this
  exact ⟨w',hrun,this,hg⟩
theorem MapAt.clear (h:MapAt w b m) (ty:TypeId) :
    ∃ w',(Builtin.clear_ #[75] ty #[.map (some b)]).run Tryz.prog w=.ok (.tuple #[]) w'∧MapAt w' b []∧w.grownBy w' (some b):=by
  obtain ⟨es,clock,hb,F,hs,hD⟩:=h
  refine ⟨ChangeMaps.setBlock w b (.map #[] clock),?_,⟨#[],clock,ChangeMaps.heap_setBlock_same hb _,⟨by simp,MapKept.stamped_empty clock,by simp⟩,Nat.le_refl _,rfl⟩,
    ⟨rfl,rfl,rfl,by simp [ChangeMaps.setBlock],fun i _ hi=>ChangeMaps.heap_setBlock_other hb _ (fun e=>hi (by rw [e]))⟩⟩
  simp [Builtin.clear_,run_underlying Tryz.underlying75,MapKept.run_getObj_map hb,MapKept.run_setObj_map _ hb,Result.andThen,ChangeMaps.setBlock]
end
end Go.Proofs.YtkganhafbjgndaaGreatRR
namespace Go.Proofs.YtkganhafbjgndaaGreatRR
open Go.RowKit Go.Maps Go.Sort Go.Shelf
set_option linter.unusedVariables false
theorem sortsA (m:Nat):AnyZI.SortsIn Tryz.prog Tryz.sortedA_ren Fence.wide m :=
  ⟨fun blk off cap ss W hH hblk hsz=>callsIn_wide.2 (AnyM.slices_Sort_int Tryz.sortA blk off cap ss W hH hblk hsz),
   fun p cap W=>callsIn_wide.2 (AnyM.slices_Sort_int_none Tryz.sortA p cap W)⟩
theorem sorted_self {l ss:List Int} (hp:ss.Perm l) (hl:l.Pairwise (· < ·)):ss.mergeSort (fun x y=>decide (x≤y))=l:=by
  have h1:=mergeSort_of_perm_i hp
  refine h1.trans ?_
  have:l.Pairwise fun a b=>(fun x y=>decide (x≤y)) a b=true:=hl.imp fun {a b} h=>by simp;omega
  exact List.mergeSort_of_pairwise this
theorem keys_call (b:Nat) (W:World):Calls Tryz.prog 88 #[.map (some b)] W fun e w'=>e=.returned (.func (.func 123) #[] #[.pointer (some ⟨W.heap.size,0,none⟩)])∧w'=W.alloc (.cells #[.map (some b)] 75) :=
  (callsIn_wide (n:=5)).1 (AnyZI.keys_in Tryz.keysA Fence.wide 5 trivial rfl (some b) W)
set_option maxRecDepth 40000 in
set_option maxHeartbeats 1000000 in
theorem sorted_call {w:World} {b:Nat} {m:List Wr} (h:MapAt w b m) (hm:Rising m) (hl:m.length≤24) :
    Calls Tryz.prog 87 #[.func (.func 123) #[] #[.pointer (some ⟨w.heap.size,0,none⟩)]] (w.alloc (.cells #[.map (some b)] 75)) fun e w' =>
      ∃ v,e=.returned v∧w'.ownsRow w.heap.size 3 1 v (m.map (·.1)).length ((m.map (·.1)).map encZ)∧Below w.heap.size w w':=by
  have hbl:=h.lt
  have hown:w.ownsMap Tryz.prog 3 RH b m.length (mapD m):=h
  have hseq:SeqGives Fence.wide 2 Tryz.prog 123 #[.pointer (some ⟨w.heap.size,0,none⟩)] encZ (fun ss=>ss.Perm (intKeys (mapD m))) (Maps.size (mapD m)) (w.alloc (.cells #[.map (some b)] 75)) :=
    AnyZI.keys_gives (ρ:=Tryz.keysA_ren) { Tryz.keysA with } Fence.wide _ trivial rfl (by omega) w.heap.size b m.length (mapD m) _ (by simp) (by simp) (by
      obtain ⟨es,clock,hb,Ft,hs,hD⟩:=hown
      exact ⟨es,clock,(Below.heap_alloc _ _ b hbl).trans hb,Ft,hs,hD⟩)
  have hmax:Maps.size (mapD m)≤maxLen:=by rw [size_mapD];unfold maxLen;omega
  have hbytes:Maps.size (mapD m) * 8≤140737488355328:=by rw [size_mapD];omega
  have cS:=AnyZI.sorted_in Tryz.sortedA Fence.wide 5 trivial trivial trivial trivial rfl (by omega) (sortsA _) (enters_of Tryz.func122 (by kernel_rfl) rfl) 123 #[.pointer (some ⟨w.heap.size,0,none⟩)] trivial (enters_of Tryz.func123 (by kernel_rfl) rfl) _ _ hmax hbytes _ hseq
  change CallsIn _ _ Tryz.prog 87 _ _ _ at cS
  refine ((callsIn_wide (n:=5)).1 cS).mono ?_
  rintro e w' ⟨v,ss,rfl,hS,hrow,hnil,hb⟩
  rw [intKeys_mapD] at hS
  have hr:(m.map (·.1)).Pairwise (· < ·):=List.pairwise_map.2 hm
  rw [sorted_self hS hr,hS.length_eq] at hrow
  exact ⟨v,rfl,ownsRow_base_a hrow (by simp),((Below.refl _ w).alloc (Nat.le_refl _) _).trans (hb.mono (by simp))⟩
end Go.Proofs.YtkganhafbjgndaaGreatRR
namespace Go.Proofs.YtkganhafbjgndaaGreatRR
open Go.RowKit
set_option linter.unusedVariables false
set_option maxRecDepth 20000
def StoC (w:World) (p d q:Nat):Prop:=w.heap[p]?=some (.cells #[.pointer (some ⟨d,0,none⟩),.map (some q),.bool false] 77 (0,0))
structure Sto (w0 w:World) (p d:Nat) (O:List Nat) (N:Nat) (s:DS) (X:Secs2) (q:Nat) (m:List Wr):Prop where
  ons:Ons w0 w d O N s X
  st:StoC w p d q
  map:MapAt w q m
  mok:MOk N m
  pO:p∉O
  qO:q∉O
  pf:w0.heap.size≤p
  qf:w0.heap.size≤q
section
variable {w0 w w':World} {p d N q:Nat} {O:List Nat} {s:DS} {X:Secs2} {m:List Wr}
theorem StoC.lt (h:StoC w p d q):p<w.heap.size:=(Array.getElem?_eq_some_iff.1 h).1
theorem StoC.c0 (h:StoC w p d q):w.cell? ⟨p,0,none⟩=some (.pointer (some ⟨d,0,none⟩)):=cell_of_row _ _ 0 _ _ _ h
theorem StoC.c1 (h:StoC w p d q):w.cell? ⟨p,1,none⟩=some (.map (some q)):=cell_of_row _ _ 1 _ _ _ h
theorem StoC.c2 (h:StoC w p d q):w.cell? ⟨p,2,none⟩=some (.bool false):=cell_of_row _ _ 2 _ _ _ h
theorem StoC.keep (h:StoC w p d q) (he:w'.heap[p]?=w.heap[p]?):StoC w' p d q:=he.trans h
theorem Sto.below (h:Sto w0 w p d O N s X q m) (hb:Below w.heap.size w w'):Sto w0 w' p d O N s X q m :=
  ⟨h.ons.below hb,h.st.keep (hb.block p h.st.lt),h.map.below hb,h.mok,h.pO,h.qO,h.pf,h.qf⟩
theorem Sto.pq (h:Sto w0 w p d O N s X q m):p≠q:=by
  intro e
  obtain ⟨es,clock,hb,_⟩:=h.map
  have:=h.st
  unfold StoC at this
  rw [e,hb] at this
  cases this
theorem Sto.n64 (h:Sto w0 w p d O N s X q m):64≤N:=h.ons.n64
theorem Sto.n1 (h:Sto w0 w p d O N s X q m):N≤1024:=h.ons.sit.drv.n64.2
theorem OnS.at_ {n:Nat} (h:OnS N s X) (hX:X.length=N) (hn:n<N) (hl:¬ inLog n):s.now[n]?=some (X[n]?.getD [])∧(X[n]?.getD []).length=128:=by
  obtain ⟨L,hR,hw,hD⟩:=h
  have e:=hD.plain hn hl
  have hlt:n<L.length:=by rw [hw.len];exact hn
  rw [hR.now,← e,List.getElem?_eq_getElem hlt]
  exact ⟨rfl,hw.all _ (List.getElem_mem _)⟩
theorem Sto.view_len (h:Sto w0 w p d O N s X q m) {n:Nat} (hn:n<N) (hl:¬ inLog n):(view X m n).length=128:=by
  unfold view
  cases hf:find m n with
  | none=>exact (h.ons.on.at_ h.ons.len hn hl).2
  | some x =>
    unfold find at hf
    rw [Option.map_eq_some_iff] at hf
    obtain ⟨a,ha,rfl⟩:=hf
    exact (h.mok.all a (List.mem_of_find?_eq_some ha)).2.2
end
theorem barred_ok {w:World} {p d q:Nat} (h:StoC w p d q):Calls Tryz.prog 37 #[.pointer (some ⟨p,0,none⟩)] w fun e w'=>e=.returned (.int .i64 0)∧w=w':=by
  have c0:=h.c0
  have c2:=h.c2
  clear h
  go_enter Tryz.func37,Tryz.ntmps37
  go_wp2
  go_ret
  exact ⟨rfl,rfl⟩
theorem barred_nil (w:World):Calls Tryz.prog 37 #[.pointer none] w fun e w'=>e=.returned (.int .i64 1)∧w=w':=by
  go_enter Tryz.func37,Tryz.ntmps37
  go_wp2
  go_ret
  exact ⟨rfl,rfl⟩
theorem on_any (d:Nat) (w:World):Calls Tryz.prog 48 #[.pointer (some ⟨d,0,none⟩)] w fun e w'=>e=.returned (.pointer (some ⟨w.heap.size+1,0,none⟩))∧StoC w' (w.heap.size+1) d w.heap.size∧MapAt w' w.heap.size []∧Below w.heap.size w w':=by
  have hmm:=@run_makeMap Tryz.prog
  go_enter Tryz.func48,Tryz.ntmps48
  go_wp2
  go_ret
  obtain ⟨a0,a1,a2,a3⟩:=D.box2 w (.map #[] 0) (.cells #[.pointer (some ⟨d,0,none⟩),.map (some w.heap.size),.bool false] 77)
  exact ⟨rfl,a1,(MapAt.new w).below ((Below.refl _ _).alloc (Nat.le_refl _) _),a2⟩
theorem s90:(Tryz.prog.info? 147).map (·.size)=some 128:=by kernel_rfl
theorem splice_all {L cs:List Value} (h:cs.length=L.length):splice L 0 cs=cs:=by
  unfold splice
  rw [List.take_zero,List.nil_append,Nat.zero_add,h,List.drop_length,List.append_nil]
def SGet (w:World) (x:List UInt8) (e:Ending) (w':World):Prop:=∃ b,e=.returned (.tuple #[.slice (some ⟨b,0,none⟩) 128 128,.int .i64 0])∧w.heap.size≤b∧w'.heap[b]?=some (.cells (bc x).toArray 200 (0,0))∧Below w.heap.size w w'
set_option maxHeartbeats 1000000 in
theorem get_any {w0 w:World} {p d N q:Nat} {O:List Nat} {s:DS} {X:Secs2} {m:List Wr} (h:Sto w0 w p d O N s X q m) {n:Nat} (hn:n<N) (hl:¬ inLog n) :
    Calls Tryz.prog 55 #[.pointer (some ⟨p,0,none⟩),.int .i64 n] w (SGet w (view X m n)):=by
  have H:=Lib.hid h
  have hn1:=h.n1
  obtain ⟨o,ho⟩:∃ o,find m n=o:=⟨_,rfl⟩
  have HV:Hid (view X m n=o.getD (X[n]?.getD [])):=by show _=_;unfold view;rw [ho]
  have HO:=Lib.hid ho
  have HL:=Lib.hid (h.view_len hn hl)
  obtain ⟨hx,hxl⟩:=h.ons.on.at_ h.ons.len hn hl
  have HX:=Lib.hid hx
  have HXL:=Lib.hid hxl
  have hc0:=h.st.c0
  clear ho hx hxl h
  generalize view X m n=V at *
  go_enter Tryz.func55,Tryz.ntmps55
  go_wp2_with fail
  refine (barred_ok H.out.st).mono ?_
  rintro e w1 ⟨rfl,rfl⟩
  go_wp2_with fail
  refine (get_ok n H.out.ons.sit.drv H.out.ons.on.down HX.out).mono ?_
  rintro e w1 ⟨b,rfl,hb1,hb2,hb3⟩
  have H1:=Lib.hid (H.out.below hb3)
  have HB1:=Lib.hid hb3
  have HB:=Lib.hid hb2
  have hbl:b<w1.heap.size:=(Array.getElem?_eq_some_iff.1 hb2).1
  clear hb2 hb3 hc0
  have hc1:=H1.out.st.c1
  have hlk:=H1.out.map.look (k:=n) (by omega) (by omega)
  rw [HO.out] at hlk
  have hz:=zero90
  cases o with
  | none =>
    rw [show (Option.none (α:=List UInt8)).getD zeros=zeros from rfl] at hlk
    simp only [Option.isSome_none] at hlk
    unfold sv at hlk hz
    obtain ⟨a0,a1,a2⟩:=D.box1 w1 (Obj.cells (bc zeros).toArray 147)
    have A1:=Lib.hid a1
    clear a0 a1 a2
    go_wp2_with (first | (refine wpList_store_new rfl 147 _ _ rfl w1 (bc zeros).toArray (bc zeros).toArray rfl rfl (by exact s90) rfl (all_oneCell_toArray (bc_one zeros)) ?_) | fail)
    go_ret2
    refine ⟨b,rfl,hb1,?_,HB1.out.trans (A1.out.mono (Nat.le_trans (by omega) HB1.out.size))⟩
    rw [HV.out]
    exact (A1.out.block b hbl).trans HB.out
  | some x =>
    rw [show (Option.some x).getD zeros=x from rfl] at hlk
    simp only [Option.isSome_some] at hlk
    have e:V=x:=HV.out
    subst e
    unfold sv at hlk hz
    have HI:Hid ((Tryz.prog.info? 147).map (·.size)=some (bc V).toArray.size):=by show _=_;rw [s90];simp [bc_len,HL.out]
    have HS:Hid ((bc zeros).toArray.size=(bc V).toArray.size):=by show _=_;simp [bc_len,HL.out];rfl
    obtain ⟨a0,a1,a2⟩:=D.box1 w1 (Obj.cells (bc V).toArray 147)
    have A0:=Lib.hid a0
    have A1:=Lib.hid a1
    obtain ⟨w2,hr2,hh2,hg2,hz2⟩:=D.copy_run (w:=w1.alloc (.cells (bc V).toArray 147)) (dT:=41) (ty:=3) (elem:=5) Tryz.underlying41 (by kernel_rfl) (g:=b) (off:=0) (dLen:=128) (dCap:=128) (sLen:=128) (sCap:=128) (ad:=⟨w1.heap.size,0,none⟩) (L:=bc (X[n]?.getD [])) (cs:=bc V) (t:=200)
      ((a1.block b hbl).trans HB.out) (by rw [bc_len,HL.out];rfl) (fun j v hj=>by rw [Addr.add_lit,Nat.zero_add,cell_of a0,List.getElem?_toArray];exact hj) (by rw [bc_len,bc_len,HL.out,HXL.out];omega) (bc_one V)
    rw [show (goInt (bc V).length)=.int .i64 128 by rw [bc_len,HL.out];rfl] at hr2
    rw [splice_all (by rw [bc_len,bc_len,HL.out,HXL.out])] at hh2
    have HR:=Lib.hid hr2
    have HH:=Lib.hid hh2
    have HG:Hid (Below w.heap.size w w2):=(HB1.out.trans (A1.out.mono HB1.out.size)).grown hg2 (by have:=HB1.out.size;simp;omega) (fun j hj=>by cases hj;exact hb1)
    clear hr2 hh2 hg2 hz2 a0 a1 a2
    have hr3:=HR.out
    go_wp2_with (first | (refine wpList_store_new rfl 147 _ _ rfl w1 (bc zeros).toArray (bc V).toArray rfl rfl HI.out HS.out (all_oneCell_toArray (bc_one V)) ?_) | fail)
    go_ret2
    exact ⟨b,rfl,hb1,HH.out,HG.out⟩
end Go.Proofs.YtkganhafbjgndaaGreatRR
namespace Go.Proofs.YtkganhafbjgndaaGreatRR
open Go.RowKit
set_option linter.unusedVariables false
def newk (m ws:List Wr):Nat:=(ws.filter fun w=>(find m w.1).isNone).length
def insAll (ws m:List Wr):List Wr:=ws.foldl (fun m w=>ins w.1 w.2 m) m
theorem newk_take {m ws:List Wr} {k:Nat} {x:Wr} (h:ws[k]?=some x):newk m (ws.take (k+1))=newk m (ws.take k)+(if (find m x.1).isNone then 1 else 0):=by
  unfold newk
  rw [List.take_add_one,h,List.filter_append,List.length_append]
  cases hf:(find m x.1).isNone<;>simp [hf]
theorem newk_le (m ws:List Wr) (k:Nat):newk m (ws.take k)≤newk m ws:=by
  unfold newk
  exact ((List.take_sublist k ws).filter _).length_le
theorem insAll_take {m ws:List Wr} {k:Nat} {x:Wr} (h:ws[k]?=some x):insAll (ws.take (k+1)) m=ins x.1 x.2 (insAll (ws.take k) m):=by
  unfold insAll
  rw [List.take_add_one,h,List.foldl_append]
  rfl
structure Room (N:Nat) (m ws:List Wr):Prop where
  mok:MOk N m
  all:∀ p∈ws,okn p.1=true∧p.1<N∧p.2.length=128
  len:m.length+newk m ws≤24
theorem newk_ins (m r:List Wr) (k:Int) (x:List UInt8):newk (ins k x m) r≤newk m r:=by
  unfold newk
  induction r with
  | nil=>exact Nat.le_refl _
  | cons a r ih =>
    have e:(find (ins k x m) a.1).isNone=true→(find m a.1).isNone=true:=by
      rw [find_ins]
      by_cases h:k=a.1
      · rw [if_pos h];intro h;cases h
      · rw [if_neg h];exact id
    rw [List.filter_cons,List.filter_cons]
    by_cases h1:(find (ins k x m) a.1).isNone=true
    · rw [if_pos h1,if_pos (e h1),List.length_cons,List.length_cons]
      omega
    · rw [if_neg h1]
      split
      · rw [List.length_cons];omega
      · exact ih
theorem Room.step {N:Nat} {m r:List Wr} {x:Wr} (h:Room N m (x :: r)):Room N (ins x.1 x.2 m) r:=by
  obtain ⟨a1,a2,a3⟩:=h.all x (by simp)
  have hl:=h.len
  have h1:=newk_ins m r x.1 x.2
  have h2:newk m (x :: r)=(if (find m x.1).isNone then 1 else 0)+newk m r:=by
    unfold newk
    rw [List.filter_cons]
    cases (find m x.1).isNone<;>simp
    omega
  have h3:=ins_len h.mok.rise x.1 x.2
  refine ⟨h.mok.ins a1 a2 a3 ?_,fun p hp=>h.all p (by simp [hp]),?_⟩
  · cases hf:find m x.1 with
    | some y=>left;simp
    | none =>
      right
      rw [hf] at h2
      simp at h2
      omega
  · cases hf:find m x.1 with
    | some y =>
      rw [hf] at h2 h3
      simp at h2 h3
      omega
    | none =>
      rw [hf] at h2 h3
      simp at h2 h3
      omega
theorem Room.all_ {N:Nat}:∀ {ws m:List Wr},Room N m ws→∀ k,Room N (insAll (ws.take k) m) (ws.drop k)
  | [],m,h,k=>by simpa [insAll] using h
  | x :: r,m,h,0=>by simpa [insAll] using h
  | x :: r,m,h,k+1=>by
    have:=Room.all_ h.step k
    simpa [insAll] using this
end Go.Proofs.YtkganhafbjgndaaGreatRR
namespace Go.Proofs.YtkganhafbjgndaaGreatRR
open Go.RowKit
set_option linter.unusedVariables false
set_option maxRecDepth 20000
theorem Sto.keep_ {w0 w w':World} {p d N q:Nat} {O:List Nat} {s:DS} {X:Secs2} {m:List Wr} (h:Sto w0 w p d O N s X q m) (he:∀ b,b∈O∨b=p∨b=q→w'.heap[b]?=w.heap[b]?) (hb:Below w0.heap.size w w'):Sto w0 w' p d O N s X q m :=
  ⟨⟨⟨h.ons.sit.drv.keep fun b hb=>he b (.inl hb),h.ons.sit.fresh,h.ons.sit.bel.trans hb⟩,h.ons.on,h.ons.len,h.ons.free⟩,h.st.keep (he p (.inr (.inl rfl))),h.map.keep (he q (.inr (.inr rfl))),h.mok,h.pO,h.qO,h.pf,h.qf⟩
theorem Sto.grown {w0 w w':World} {p d N q g:Nat} {O:List Nat} {s:DS} {X:Secs2} {m:List Wr} (h:Sto w0 w p d O N s X q m) (hg:w.grownBy w' (some g)) (hO:g∉O) (hp:g≠p) (hq:g≠q) (h0:w0.heap.size≤g):Sto w0 w' p d O N s X q m :=
  h.keep_ (fun b hb=>hg.block b (by
    rcases hb with hb | rfl | rfl
    · exact h.ons.sit.drv.lt b hb
    · exact h.st.lt
    · exact h.map.lt) (fun e=>by
      cases e
      rcases hb with hb | e | e
      · exact hO hb
      · exact hp e
      · exact hq e)) ((Below.refl _ w).grown hg h.ons.sit.bel.size (fun j hj=>by cases hj;exact h0))
theorem Sto.put_ {w0 w w':World} {p d N q:Nat} {O:List Nat} {s:DS} {X:Secs2} {m m':List Wr} (h:Sto w0 w p d O N s X q m) (hm:MapAt w' q m') (hk:MOk N m') (hc:Chg [q] w w'):Sto w0 w' p d O N s X q m':=by
  have hbel:Below w0.heap.size w w':=hc.below h.ons.sit.bel.size fun b hb=>by simp at hb;rw [hb];exact h.qf
  refine ⟨⟨⟨h.ons.sit.drv.keep fun b hb=>hc.block b (h.ons.sit.drv.lt b hb) (fun e=>?_),h.ons.sit.fresh,h.ons.sit.bel.trans hbel⟩,h.ons.on,h.ons.len,h.ons.free⟩,h.st.keep (hc.block p h.st.lt (by simp;exact h.pq)),hm,hk,h.pO,h.qO,h.pf,h.qf⟩
  simp at e
  exact h.qO (e ▸ hb)
set_option maxHeartbeats 2000000 in
theorem change_any {w0 w:World} {p d N q:Nat} {O:List Nat} {s:DS} {X:Secs2} {m ws:List Wr} {M:Nat→Prop} {A:Option Addr} {n c:Nat} (h:Sto w0 w p d O N s X q m) (hW:Wrs w M A n c ws) (hM:∀ b,M b→b<w.heap.size∧b≠q) (hr:Room N m ws) :
    Calls Tryz.prog 59 #[.pointer (some ⟨p,0,none⟩),.slice A n c] w fun e w'=>e=.returned (.int .i64 0)∧Sto w0 w' p d O N s X q (insAll ws m)∧Chg [q] w w':=by
  have H:=Lib.hid h
  have HW:=Lib.hid hW
  have HM:=Lib.hid hM
  have HR:=Lib.hid hr
  have hlim:=hW.lim
  have hcap:=hW.cap
  have hl24:=hr.len
  unfold maxLen at hlim
  have hc1:=h.st.c1
  have hlen:=h.map.len 3
  have hN1:=h.n1
  clear h hW hM hr
  go_enter Tryz.func59,Tryz.ntmps59
  go_wp2_with fail
  clear hlen hc1
  go_loopw [5,20] (fun v i wr=>∃ k:Nat,k≤n∧i=.int .i64 k∧v=.int .i64 ((m.length+newk m (ws.take k):Nat):Int)∧Hid (Below w.heap.size w wr)) (fun _ i _=>n - (intOf i).toNat)
  case atStart=>exact ⟨0,Nat.zero_le _,rfl,rfl,Below.refl _ _⟩
  case round =>
    obtain ⟨k,hk,rfl,rfl,HB⟩:=hrel
    have hnl:=newk_le m ws k
    by_cases hlt:k<n
    · obtain ⟨x,hx⟩:∃ x,ws[k]?=some x:=⟨_,List.getElem?_eq_getElem (by rw [HW.out.len];exact hlt)⟩
      obtain ⟨b,off,rfl,hb,hc0,A',n',c',hc1,hBt⟩:=(HW.out.keep (w':=wr) fun b hb=>HB.out.block b (HM.out b hb).1).get hx
      have HX:=Lib.hid hx
      have HN:=Lib.hid (newk_take (m:=m) hx)
      obtain ⟨g1,g2,g3⟩:=HR.out.all x (List.mem_of_getElem? hx)
      have g4:=(okn_iff.1 g1).1
      obtain ⟨y,l⟩:=x
      simp only at hc0 hBt g2 g4 HN
      clear hx hBt
      go_upto_region 5 with fail
      obtain ⟨a0,a1,a2⟩:=D.box1 wr (Obj.cells #[.int .i64 y,.slice A' n' c'] 109)
      have HB1:=Lib.hid (HB.out.trans (a1.mono HB.out.size))
      have HD0:=Lib.hid a0
      have hc0':(wr.alloc (Obj.cells #[.int .i64 y,.slice A' n' c'] 109)).cell? ⟨wr.heap.size,0,none⟩=some (.int .i64 y):=cell_of_row _ _ 0 _ _ _ a0
      have hbl:wr.heap.size<(wr.alloc (Obj.cells #[.int .i64 y,.slice A' n' c'] 109)).heap.size:=by omega
      clear a0 a1 a2 hc0 hc1
      generalize wr.alloc (Obj.cells #[.int .i64 y,.slice A' n' c'] 109)=W1 at *
      generalize wr.heap.size=G at *
      have H1:=Lib.hid (H.out.below HB1.out)
      obtain ⟨o,ho⟩:∃ o,find m y=o:=⟨_,rfl⟩
      have HS:Hid (∀ W,Below W1.heap.size W1 W→W.cell? ⟨p,1,none⟩=some (.map (some q))∧W.cell? ⟨G,0,none⟩=some (.int .i64 y)∧(Instr.lookup 75 (.map (some q)) (.int .i64 y) true).run Tryz.prog W=.ok (.tuple #[.agg (bc (o.getD zeros)).toArray,.bool o.isSome]) W):=by
        intro W hb
        have hh:=H1.out.below hb
        refine ⟨hh.st.c1,?_,?_⟩
        · rw [hb.cell (p:=⟨G,0,none⟩) (by exact hbl)];exact hc0'
        · rw [← ho];exact hh.map.look (by omega) (by omega)
      have HL:Hid ((o.getD zeros).length=128):=by
        show _=_
        rw [← ho]
        cases hf:find m y with
        | none=>rfl
        | some z =>
          unfold find at hf
          rw [Option.map_eq_some_iff] at hf
          obtain ⟨a,ha,rfl⟩:=hf
          exact (HR.out.mok.all a (List.mem_of_find?_eq_some ha)).2.2
      have hi:(Tryz.prog.info? 147).map (·.size)=some (bc (o.getD zeros)).toArray.toList.length:=by rw [s90];simp [bc_len,HL.out]
      have hone:∀ v∈(bc (o.getD zeros)).toArray.toList,v.oneCell'=true:=by simpa using bc_one (o.getD zeros)
      have hcl:(bc (o.getD zeros)).toArray.toList.length=128:=by simp [bc_len,HL.out]
      generalize (bc (o.getD zeros)).toArray=C at *
      have hz:∀ w,(zeroValue 147).run Tryz.prog w=.ok (.agg (bc zeros).toArray) w:=zero90
      obtain ⟨a0,a1,a2⟩:=D.box1 W1 (Obj.cells (bc zeros).toArray 147)
      have hth:(W1.alloc (.cells (bc zeros).toArray 147)).drew.there W1.heap.size 0 C.toList.length:=by
        rw [hcl]
        exact there_of (w:=(W1.alloc (.cells (bc zeros).toArray 147)).drew) a0 (by simp [bc_len];decide)
      have HA1:=Lib.hid a1
      clear a0 a1 a2 HD0 hcl
      generalize (bc zeros).toArray=Z at *
      obtain ⟨hs1,hs2,hs3⟩:=HS.out W1 (Below.refl _ _)
      go_region_held3 (fun W=>W.cell? ⟨p,1,none⟩=some (.map (some q))∧W.cell? ⟨G,0,none⟩=some (.int .i64 y)∧(Instr.lookup 75 (.map (some q)) (.int .i64 y) true).run Tryz.prog W=.ok (.tuple #[.agg C,.bool o.isSome]) W)
        (first | with_reducible exact HS.out _ (Below.refl _ _).drew | with_reducible exact HS.out _ HA1.out.drew | with_reducible exact HS.out _ HA1.out | with_reducible exact HS.out _ (D.below_setCells (Nat.le_refl _) _ _ HA1.out.drew)) (fail)
      all_goals
        have HB2:=Lib.hid (HB1.out.trans ((D.below_setCells (Nat.le_refl _) C.toList 0 HA1.out.drew).mono HB1.out.size))
        clear hth hs1 hs2 hs3 HS HA1 hone hi
        generalize (W1.alloc (Obj.cells Z 147)).drew.setCells W1.heap.size 0 C.toList=W2 at *
        have hnl2:=newk_le m ws (k+1)
        have hn1:=HN.out
        rw [ho] at hn1
        cases o with
        | none =>
          simp only [Option.isSome_none,Option.isNone_none,if_true] at *
          go_wp2_with fail
          go_roundw
          case rel=>exact ⟨k+1,by omega,by go_num,by rw [hn1];go_num,HB2⟩
          case measure=>simp [intOf];omega
        | some z =>
          simp only [Option.isSome_some,Option.isNone_some] at *
          go_wp2_with fail
          go_roundw
          case rel=>exact ⟨k+1,by omega,by go_num,by rw [hn1];go_num,HB2⟩
          case measure=>simp [intOf];omega
    · obtain rfl:n=k:=by omega
      rw [List.take_of_length_le (by rw [HW.out.len];exact Nat.le_refl _)]
      have h24:decide (24<(m.length:Int)+(newk m ws:Int))=false:=by simp;omega
      have HC0:Hid (Chg [q] w wr):=Chg.of_below HB.out
      have H0:=Lib.hid (H.out.below HB.out)
      go_wp2_with fail
      clear h24 hnl
      have HNL:=Lib.hid HW.out.len
      clear HB
      generalize wr=V0 at *
      go_loopw [43] (fun i wr=>∃ k:Nat,k≤n∧i=.int .i64 k∧Hid (Sto w0 wr p d O N s X q (insAll (ws.take k) m))∧Hid (Chg [q] w wr)) (fun i _=>n - (intOf i).toNat)
      case atStart=>exact ⟨0,Nat.zero_le _,rfl,H0,HC0⟩
      case round =>
        obtain ⟨k,hk,rfl,HS,HC⟩:=hrel
        by_cases hlt:k<n
        · obtain ⟨x,hx⟩:∃ x,ws[k]?=some x:=⟨_,List.getElem?_eq_getElem (by rw [HNL.out];exact hlt)⟩
          obtain ⟨b,off,rfl,hb,hc0,A',n',c',hc1,hBt⟩:=(HW.out.keep (w':=wr) fun b hb=>HC.out.block b (HM.out b hb).1 (by simp;exact (HM.out b hb).2)).get hx
          have HX:=Lib.hid hx
          obtain ⟨g1,g2,g3⟩:=HR.out.all x (List.mem_of_getElem? hx)
          have g4:=(okn_iff.1 g1).1
          have HIN:=Lib.hid (insAll_take (m:=m) hx)
          have HRM:=Lib.hid (HR.out.all_ k)
          have HRM1:=Lib.hid (HR.out.all_ (k+1)).mok
          obtain ⟨y,l⟩:=x
          simp only at hc0 hBt g2 g3 g4 HIN
          obtain rfl:n'=128:=by rw [← hBt.len];exact g3
          obtain ⟨b',off',rfl,hb',hrg⟩:=hBt.at_ (by omega)
          have hcap':=hBt.cap
          have hlim':=hBt.lim
          unfold maxLen at hlim'
          have hbq:b'≠q:=(HM.out b' hb').2
          have hbl':b'<wr.heap.size:=Nat.lt_of_lt_of_le (HM.out b' hb').1 HC.out.size
          clear hx hBt
          have hz:∀ w,(zeroValue 147).run Tryz.prog w=.ok (.agg (bc zeros).toArray) w:=zero90
          go_upto_region 15 with fail
          obtain ⟨a0,a1,a2,a3⟩:=D.box2 wr (Obj.cells #[.int .i64 y,.slice (some ⟨b',off',none⟩) 128 c'] 109) (Obj.cells (bc zeros).toArray 147)
          have hd0:((wr.alloc (Obj.cells #[.int .i64 y,.slice (some ⟨b',off',none⟩) 128 c'] 109)).alloc (Obj.cells (bc zeros).toArray 147)).cell? ⟨wr.heap.size,0,none⟩=some (.int .i64 y):=cell_of_row _ _ 0 _ _ _ a0
          have hd1:((wr.alloc (Obj.cells #[.int .i64 y,.slice (some ⟨b',off',none⟩) 128 c'] 109)).alloc (Obj.cells (bc zeros).toArray 147)).cell? ⟨wr.heap.size,1,none⟩=some (.slice (some ⟨b',off',none⟩) 128 c'):=cell_of_row _ _ 1 _ _ _ a0
          have HA1:=Lib.hid a1
          have HBW:=Lib.hid a2
          have HRG:=Lib.hid (rangeAt_of_heap hrg (a2.block b' hbl'))
          have hsz:wr.heap.size+2≤((wr.alloc (Obj.cells #[.int .i64 y,.slice (some ⟨b',off',none⟩) 128 c'] 109)).alloc (Obj.cells (bc zeros).toArray 147)).heap.size:=by omega
          clear a0 a1 a2 a3 hc0 hc1 hrg hz
          generalize (wr.alloc (Obj.cells #[.int .i64 y,.slice (some ⟨b',off',none⟩) 128 c'] 109)).alloc (Obj.cells (bc zeros).toArray 147)=W1 at *
          have HGE:=Lib.hid (Nat.le_refl wr.heap.size)
          have HS1:=Lib.hid (HS.out.below HBW.out)
          have HC1:Hid (Chg [q] w W1):=HC.out.tr (Chg.of_below HBW.out)
          generalize hG:wr.heap.size=G at *
          have hqG:q<G:=by rw [← hG];exact HS.out.map.lt
          have hpG:p<G:=by rw [← hG];exact HS.out.st.lt
          have hwG:w.heap.size≤G:=by rw [← hG];exact HC.out.size
          have HOG:Hid (∀ b∈O,b<G):=by intro b hb;rw [← hG];exact HS.out.ons.sit.drv.lt b hb
          clear hG HBW HGE HS HC
          obtain ⟨w2,hr2,hh2,hg2,hz2⟩:=D.copy_run (w:=W1.drew) (dT:=41) (ty:=3) (elem:=5) Tryz.underlying41 (by kernel_rfl) (g:=G+1) (off:=0) (dLen:=128) (dCap:=128) (sLen:=128) (sCap:=c') (ad:=⟨b',off',none⟩) (L:=bc zeros) (cs:=bc l) (t:=147)
            HA1.out (by rw [bc_len,g3];rfl) (fun j v hj=>by rw [Addr.add_mid];exact HRG.out j v hj) (by rw [bc_len,bc_len,g3];decide) (bc_one l)
          rw [show (goInt (bc l).length)=.int .i64 128 by rw [bc_len,g3];rfl] at hr2
          rw [splice_all (by rw [bc_len,bc_len,g3];rfl)] at hh2
          have HH2:=Lib.hid hh2
          have HG2:=Lib.hid hg2
          clear hh2 hg2 hz2 HA1 HRG
          go_region
          clear hr2
          have hw0:w0.heap.size≤G:=Nat.le_trans H.out.ons.sit.bel.size hwG
          have HS2:=Lib.hid (HS1.out.below (w':=W1.drew) (Below.refl _ _).drew |>.grown HG2.out (fun e=>by have:=HOG.out _ e;omega) (by omega) (by omega) (by omega))
          have HC2:=Lib.hid (HC1.out.drew.grown HG2.out fun j hj=>by cases hj;right;omega)
          have hd0':w2.cell? ⟨G,0,none⟩=some (.int .i64 y):=by
            rw [World.cell?_of_block (a:=⟨G,0,none⟩) (HG2.out.block G (by show G<W1.heap.size;omega) (by simp))];exact hd0
          have HIR:Hid (w2.rangeAt (G+1) 0 (bc l)):=fun j v hj=>by rw [cell_of HH2.out,List.getElem?_toArray,Nat.zero_add];exact hj
          obtain ⟨w3,hr3,hm3,hg3⟩:=MapAt.put (w:=w2.drew) HS2.out.map (k:=y) (by omega) (by omega) (by have:=HRM.out.mok.len;omega) l
          unfold sv at hr3
          have HM3:=Lib.hid hm3
          have HG3:=Lib.hid hg3
          have hcl:(bc l).length=128:=by rw [bc_len,g3]
          have hone:=bc_one l
          have hu:=Tryz.underlying147
          have hi:(Tryz.prog.info? 147).map (·.size)=some (bc l).length:=by rw [hcl];exact s90
          have hp1:=HS2.out.st.c1
          have hsz2:W1.heap.size≤w2.heap.size:=HG2.out.size
          have HKA:Hid (w2.drew.cell? ⟨p,1,none⟩=some (.map (some q))∧w2.drew.cell? ⟨G,0,none⟩=some (.int .i64 y)∧w2.drew.rangeAt (G+1) 0 (bc l)):=⟨hp1,hd0',HIR.out⟩
          have HKB:Hid (w3.cell? ⟨p,1,none⟩=some (.map (some q))∧w3.cell? ⟨G,0,none⟩=some (.int .i64 y)∧w3.rangeAt (G+1) 0 (bc l)):=by
            refine ⟨?_,?_,rangeAt_of_heap (w:=w2.drew) HIR.out (HG3.out.block (G+1) (by show G+1<w2.heap.size;omega) (by simp;omega))⟩
            · rw [World.cell?_of_block (a:=⟨p,1,none⟩) (HG3.out.block p (by show p<w2.heap.size;omega) (by simp;exact HS2.out.pq))];exact hp1
            · rw [World.cell?_of_block (a:=⟨G,0,none⟩) (HG3.out.block G (by show G<w2.heap.size;omega) (by simp;omega))];exact hd0'
          have HIR2:=HIR.out
          clear hm3 hg3 hd0 hd1 HS1 HC1 HG2 HH2
          generalize bc l=cs at *
          go_upto_region 16 with fail
          go_region_held3 (fun W=>W.cell? ⟨p,1,none⟩=some (.map (some q))∧W.cell? ⟨G,0,none⟩=some (.int .i64 y)∧W.rangeAt (G+1) 0 cs)
            (first | with_reducible exact HKA.out | with_reducible exact HKB.out) (fail)
          have HC3:Hid (Chg [q] w w3):=HC2.out.drew.grown HG3.out fun j hj=>by cases hj;left;simp
          have HS3:Hid (Sto w0 w3 p d O N s X q (insAll (ws.take (k+1)) m)) :=
            (HS2.out.below (w':=w2.drew) (Below.refl _ _).drew).put_ (by rw [HIN.out];exact HM3.out) HRM1.out ((Chg.refl _ _).grown HG3.out fun j hj=>by cases hj;left;simp)
          clear hr3 HKA HKB HIR2 HIR hp1 hd0' hone hi hu
          go_wp2_with fail
          go_roundw
          case rel=>exact ⟨_,_,_,⟨k+1,by omega,rfl,HS3⟩,rfl,rfl,by go_num⟩
          case measure=>simp [intOf];omega
        · obtain rfl:n=k:=by omega
          rw [List.take_of_length_le (by rw [HNL.out];exact Nat.le_refl _)] at HS
          go_wp2_with fail
          go_ret
          exact ⟨rfl,HS.out,HC.out⟩
end Go.Proofs.YtkganhafbjgndaaGreatRR
