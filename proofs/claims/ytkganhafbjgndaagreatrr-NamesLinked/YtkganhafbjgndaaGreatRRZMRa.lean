/- A drive, walked: its state in memory, New, Get, Image, Flush, Restart. -/
import Derived.Lib.Hide
import Derived.WalkKit
import Derived.ProofKit
import Derived.Below
import Derived.Laws.OwnMore
import Derived.Deep.MidRow
import Derived.Deep.WholeRow
import Derived.Deep.AppendLies
import Derived.Deep.Draws
import Derived.Test.YtkganhafbjgndaaGreatRRRows
import Derived.Deep.RegionHeld3
import Derived.Laws.MakeOwn
import Derived.Lib.SliceRun
namespace Go.Proofs.YtkganhafbjgndaaGreatRR
set_option linter.unusedVariables false
abbrev Wr:=Int × List UInt8
structure DS where
 now:List (List UInt8)
 lasting:List (List UInt8)
 since:List (Nat × List UInt8)
 fused:Bool
 left:Int
 down:Bool
structure DS.Ok (s:DS) (N:Nat):Prop where
 now:s.now.length=N
 lasting:s.lasting.length=N
 since:∀ p∈s.since,p.1<N∧p.2.length=128
 lo:-9223372036854775808≤s.left
 hi:s.left≤9223372036854775807
 fuse:s.fused=true→s.down=false→0≤s.left
def zeros:List UInt8:=List.replicate 128 0
def newS (N:Nat):DS:=⟨List.replicate N zeros,List.replicate N zeros,[],false,0,false⟩
def DS.pow (s:DS):Bool:=!s.fused || !(s.left == 0)
def DS.spend (s:DS):DS:=if s.fused then { s with left:=s.left - 1,down:=s.left == 0 } else s
def DS.put1 (s:DS) (n:Nat) (d:List UInt8):DS:={ s with now:=s.now.set n d,since:=s.since++[(n,d)] }
def DS.putGo:DS→List Wr→Int × DS
 | s,[]=>(0,s)
 | s,w :: r=>if s.pow then (s.spend.put1 w.1.toNat w.2).putGo r else (11,s.spend)
def inR (N:Nat) (n:Int):Bool:=decide (0≤n) && decide (n<N)
def fitE (N:Nat) (l:List Wr):Int:=if l.all fun w=>inR N w.1 then if l.all fun w=>w.2.length == 128 then 0 else 1 else 4
def DS.put (s:DS) (N:Nat) (l:List Wr):Int × DS:=if s.down then (11,s) else if fitE N l=0 then s.putGo l else (fitE N l,s)
def lay (l:List (List UInt8)) (ps:List (Nat × List UInt8)):List (List UInt8):=ps.foldl (fun l p=>l.set p.1 p.2) l
def DS.flush (s:DS):Int × DS:=if s.down then (11,s) else if s.pow then (0,{ s.spend with lasting:=lay s.lasting s.since,since:=[] }) else (11,s.spend)
def DS.fuse (s:DS) (n:Int):DS:={ s with fused:=decide (0≤n),left:=n }
def kept (keep:List Int) (i:Nat):Bool:=!((keep[i]?.getD 0) == 0)
def keeps (keep:List Int):Nat→List (Nat × List UInt8)→List (Nat × List UInt8)
 | _,[]=>[]
 | i,p :: r=>if kept keep i then p :: keeps keep (i+1) r else keeps keep (i+1) r
def DS.restart (s:DS) (keep:List Int):DS:=⟨lay s.lasting (keeps keep 0 s.since),lay s.lasting (keeps keep 0 s.since),[],false,0,false⟩
theorem lay_len (ps:List (Nat × List UInt8)):∀ l,(lay l ps).length=l.length:=by
 induction ps with
 | nil=>intro l;rfl
 | cons p r ih=>intro l;show (lay (l.set p.1 p.2) r).length=_;rw [ih];simp
theorem lay_snoc (l:List (List UInt8)) (ps:List (Nat × List UInt8)) (p:Nat × List UInt8):lay l (ps++[p])=(lay l ps).set p.1 p.2:=by simp [lay]
theorem Ok_new (N:Nat):(newS N).Ok N:=⟨by simp [newS],by simp [newS],by simp [newS],by simp [newS],by simp [newS],by simp [newS]⟩
section
variable {s:DS} {N:Nat}
theorem DS.Ok.spend (h:s.Ok N) (hd:s.down=false):s.spend.Ok N:=by
 unfold DS.spend
 split
 ·rename_i hf
  have:=h.fuse hf hd
  have:=h.hi
  exact ⟨h.now,h.lasting,h.since,by simp;omega,by simp;omega,fun _ hz=>by simp at hz ⊢;omega⟩
 ·exact h
theorem DS.Ok.put1 (h:s.Ok N) {n:Nat} {d:List UInt8} (hn:n<N) (hd:d.length=128):(s.put1 n d).Ok N:=by
 refine ⟨by simp [DS.put1,h.now],h.lasting,fun p hp=>?_,h.lo,h.hi,h.fuse⟩
 simp only [DS.put1,List.mem_append,List.mem_singleton] at hp
 rcases hp with hp | rfl
 ·exact h.since p hp
 ·exact ⟨hn,hd⟩
theorem spend_down (hp:s.pow=true) (hd:s.down=false):s.spend.down=false:=by
 unfold DS.spend
 split
 ·rename_i hf
  simpa [DS.pow,hf] using hp
 ·exact hd
theorem DS.Ok.restart (h:s.Ok N) (keep:List Int):(s.restart keep).Ok N :=
 ⟨by simp [DS.restart,lay_len,h.lasting],by simp [DS.restart,lay_len,h.lasting],by simp [DS.restart],by simp [DS.restart],by simp [DS.restart],by simp [DS.restart]⟩
end
end Go.Proofs.YtkganhafbjgndaaGreatRR
namespace Go.Proofs.YtkganhafbjgndaaGreatRR
open Go.RowKit
set_option linter.unusedVariables false
structure Chg (O:List Nat) (w w':World):Prop where
 os:w'.os=w.os
 tape:w'.tape=w.tape
 output:w'.output=w.output
 size:w.heap.size≤w'.heap.size
 block:∀ k,k<w.heap.size→k∉O→w'.heap[k]?=w.heap[k]?
section
variable {O O':List Nat} {a w w':World}
theorem Chg.refl (O:List Nat) (w:World):Chg O w w:=⟨rfl,rfl,rfl,Nat.le_refl _,fun _ _ _=>rfl⟩
theorem Chg.trans {c:World} (h:Chg O a w) (k:Chg O' w c) (hO:∀ b∈O',b∈O∨a.heap.size≤b):Chg O a c :=
 ⟨k.os.trans h.os,k.tape.trans h.tape,k.output.trans h.output,Nat.le_trans h.size k.size,fun i hi hn=>by
  rw [k.block i (Nat.lt_of_lt_of_le hi h.size) (fun hm=>by rcases hO i hm with h1 | h1;exact hn h1;omega),h.block i hi hn]⟩
theorem Chg.tr {c:World} (h:Chg O a w) (k:Chg O w c):Chg O a c:=h.trans k fun b hb=>.inl hb
theorem Chg.mono (h:Chg O a w) (hO:∀ b∈O,b∈O'∨a.heap.size≤b):Chg O' a w :=
 (Chg.refl O' a).trans h hO
theorem Chg.below {B:Nat} (h:Chg O a w) (hB:B≤a.heap.size) (hO:∀ b∈O,B≤b):Below B a w :=
 ⟨h.os,h.tape,h.output,h.size,fun k hk=>h.block k (by omega) fun hm=>by have:=hO k hm;omega⟩
theorem Chg.of_below (h:Below w.heap.size w w'):Chg O w w':=⟨h.os,h.tape,h.output,h.size,fun k hk _=>h.block k hk⟩
theorem Chg.drew (h:Chg O a w):Chg O a w.drew:=⟨h.os,h.tape,h.output,h.size,h.block⟩
theorem Chg.drewN (h:Chg O a w) (n:Nat):Chg O a (w.drewN n):=⟨h.os,h.tape,h.output,h.size,h.block⟩
theorem Chg.alloc (h:Chg O a w) (o:Obj):Chg O a (w.alloc o) :=
 ⟨h.os,h.tape,h.output,by simp;have:=h.size;omega,fun k hk hn=>by rw [Below.heap_alloc w o k (Nat.lt_of_lt_of_le hk h.size),h.block k hk hn]⟩
theorem Chg.setCell (h:Chg O a w) {p:Addr} (hp:p.block∈O∨a.heap.size≤p.block) (u:Value):Chg O a (w.setCell p u) :=
 ⟨h.os,h.tape,h.output,by simp;exact h.size,fun k hk hn=>by
  rw [Below.heap_setCell w p u k (fun e=>by subst e;rcases hp with h1 | h1;exact hn h1;omega),h.block k hk hn]⟩
theorem Chg.setCells {b:Nat} (hp:b∈O∨a.heap.size≤b):∀ (vs:List Value) (o:Nat) {w:World},Chg O a w→Chg O a (w.setCells b o vs)
 | [],_,_,h=>h
 | v :: r,o,_,h=>Chg.setCells hp r (o+1) (h.setCell hp v)
theorem Chg.grown {row:Option Nat} (h:Chg O a w) (hg:w.grownBy w' row) (hr:∀ k,row=some k→k∈O∨a.heap.size≤k):Chg O a w' :=
 ⟨hg.os.trans h.os,hg.tape.trans h.tape,hg.output.trans h.output,Nat.le_trans h.size hg.size,fun k hk hn=>by
  rw [hg.block k (Nat.lt_of_lt_of_le hk h.size) (fun e=>by rcases hr k e.symm with h1 | h1;exact hn h1;omega),h.block k hk hn]⟩
end
theorem heap_setCell_at {w:World} {b o:Nat} {C:Array Value} {t:TypeId} {fr:Nat × Nat} (h:w.heap[b]?=some (.cells C t fr)) (v:Value) :
  (w.setCell ⟨b,o,none⟩ v).heap[b]?=some (.cells (C.setIfInBounds o v) t fr):=by
 simp only [World.setCell]
 first
 | (rw [Array.getElem?_modify];simp [h];done)
 | (simp [h])
def setAll (C:Array Value):Nat→List Value→Array Value
 | _,[]=>C
 | o,v :: r=>setAll (C.setIfInBounds o v) (o+1) r
theorem setAll_size (C:Array Value):∀ (vs:List Value) (o:Nat),(setAll C o vs).size=C.size:=by
 intro vs
 induction vs generalizing C with
 | nil=>intro o;rfl
 | cons v r ih=>intro o;rw [setAll,ih];simp
theorem heap_setCells_at {b:Nat} {t:TypeId} {fr:Nat × Nat}:∀ (vs:List Value) (o:Nat) {w:World} {C:Array Value},w.heap[b]?=some (.cells C t fr)→(w.setCells b o vs).heap[b]?=some (.cells (setAll C o vs) t fr)
 | [],_,_,_,h=>h
 | v :: r,o,_,_,h=>heap_setCells_at r (o+1) (heap_setCell_at h v)
theorem heap_setCells_ne {b b':Nat} (hb:b'≠b):∀ (vs:List Value) (o:Nat) (w:World),(w.setCells b o vs).heap[b']?=w.heap[b']?
 | [],_,_=>rfl
 | v :: r,o,w=>by rw [World.setCells,heap_setCells_ne hb r (o+1),Below.heap_setCell _ _ _ _ hb]
theorem heap_size_setCells (b:Nat):∀ (vs:List Value) (o:Nat) (w:World),(w.setCells b o vs).heap.size=w.heap.size
 | [],_,_=>rfl
 | v :: r,o,w=>by rw [World.setCells,heap_size_setCells b r (o+1)];simp
theorem cell_of {w:World} {b:Nat} {C:Array Value} {t:TypeId} {fr:Nat × Nat} (h:w.heap[b]?=some (.cells C t fr)) (j:Nat):w.cell? ⟨b,j,none⟩=C[j]?:=cell_of_row w b j C t fr h
theorem frozen_of {w:World} {b:Nat} {C:Array Value} {t:TypeId} (h:w.heap[b]?=some (.cells C t (0,0))) (j:Nat):w.frozen? ⟨b,j,none⟩=false:=by
 simp [World.frozen?,h]
theorem there_of {w:World} {b:Nat} {C:Array Value} {t:TypeId} (h:w.heap[b]?=some (.cells C t (0,0))) {o n:Nat} (hn:o+n≤C.size):w.there b o n:=fun j hj =>
 ⟨by rw [cell_of h,Array.getElem?_eq_getElem (by omega)];rfl,frozen_of h _⟩
def bc (l:List UInt8):List Value:=l.map fun x=>.int .u8 (x.toNat:Int)
theorem bc_len (l:List UInt8):(bc l).length=l.length:=by simp [bc]
theorem bc_one (l:List UInt8):∀ v∈bc l,v.oneCell'=true:=by
 intro v hv
 simp only [bc,List.mem_map] at hv
 obtain ⟨x,_,rfl⟩:=hv
 rfl
theorem bc_get {l:List UInt8} {j:Nat} (h:j<l.length):(bc l)[j]?=some (.int .u8 ((l[j]?.getD 0).toNat:Int)):=by simp [bc,h]
structure Secs (w:World) (b:Nat) (l:List (List UInt8)):Prop where
 blk:∃ C,w.heap[b]?=some (.cells C 200 (0,0))∧l.length * 128≤C.size
 all:∀ i s,l[i]?=some s→s.length=128∧w.rangeAt b (i * 128) (bc s)
section
variable {w w':World} {b:Nat} {l:List (List UInt8)}
theorem Secs.lt (h:Secs w b l):b<w.heap.size:=by
 obtain ⟨C,hC,_⟩:=h.blk
 exact (Array.getElem?_eq_some_iff.1 hC).1
theorem rangeAt_of_heap {o:Nat} {cs:List Value} (h:w.rangeAt b o cs) (he:w'.heap[b]?=w.heap[b]?):w'.rangeAt b o cs:=fun j v hv=>by
 rw [World.cell?_of_block (a:=⟨b,o+j,none⟩) he];exact h j v hv
theorem Secs.keep (h:Secs w b l) (he:w'.heap[b]?=w.heap[b]?):Secs w' b l :=
 ⟨by rw [he];exact h.blk,fun i s hi=>⟨(h.all i s hi).1,rangeAt_of_heap (h.all i s hi).2 he⟩⟩
theorem Secs.there (h:Secs w b l) {i:Nat} (hi:i<l.length):w.there b (i * 128) 128:=by
 obtain ⟨C,hC,hs⟩:=h.blk
 exact there_of hC (by have:(i+1) * 128≤l.length * 128:=Nat.mul_le_mul_right _ hi;omega)
theorem Secs.set (h:Secs w b l) {i:Nat} (hi:i<l.length) {s:List UInt8} (hs:s.length=128):Secs (w.setCells b (i * 128) (bc s)) b (l.set i s):=by
 refine ⟨?_,fun j t hj=>?_⟩
 ·obtain ⟨C,hC,hz⟩:=h.blk
  exact ⟨_,heap_setCells_at _ _ hC,by rw [setAll_size,List.length_set];exact hz⟩
 ·rw [List.getElem?_set] at hj
  split at hj
  ·rename_i e
   subst e
   cases hj
   exact ⟨hs,World.rangeAt_setCells_same _ _ _ _ (by rw [bc_len,hs];exact h.there hi)⟩
  ·rename_i e
   obtain ⟨h1,h2⟩:=h.all j t hj
   refine ⟨h1,World.rangeAt_setCells_apart h2 _ _ _ ?_⟩
   rw [bc_len,bc_len,h1,hs]
   omega
end
theorem flat_get {α:Type} {f:α→List Value} {k:Nat}:∀ {l:List α},(∀ x∈l,(f x).length=k)→∀ {i j:Nat} {x:α},l[i]?=some x→j<k→(l.flatMap f)[i * k+j]?=(f x)[j]?:=by
 intro l
 induction l with
 | nil=>intro _ i j x h;simp at h
 | cons a r ih =>
  intro hk i j x h hj
  have ha:(f a).length=k:=hk a (by simp)
  rw [List.flatMap_cons]
  cases i with
  | zero =>
   simp at h
   subst h
   rw [Nat.zero_mul,Nat.zero_add,List.getElem?_append_left (by omega)]
  | succ i =>
   have h':r[i]?=some x:=by simpa using h
   rw [List.getElem?_append_right (by rw [ha,Nat.succ_mul];omega),ha,Nat.succ_mul,show i * k+k+j - k=i * k+j by omega]
   exact ih (fun y hy=>hk y (by simp [hy])) h' hj
theorem flat_len {α:Type} {f:α→List Value} {k:Nat}:∀ {l:List α},(∀ x∈l,(f x).length=k)→(l.flatMap f).length=l.length * k:=by
 intro l
 induction l with
 | nil=>intro _;simp
 | cons a r ih=>intro hk;rw [List.flatMap_cons,List.length_append,hk a (by simp),ih (fun y hy=>hk y (by simp [hy])),List.length_cons,Nat.succ_mul];omega
theorem wp_append_run {P:Program} {o:Oper} {a:Act} {w:World} {K:Act→World→Prop} {Q:Exit→Act→World→Prop} (s x:Operand) (t:TypeId)
  (ho:o.op=.call { callee:=.builtin .append,args:=#[s,x],argTypes:=#[t,t] }) (v y v':Value) (w':World) (hs:a.eval s=v) (hx:a.eval x=y)
  (hr:(Builtin.append_ #[t,t] o.type #[v,y]).run P w=.ok v' w') (h:K (a.put o.dst v') w'):o.wp P a w K Q:=by
 unfold Oper.wp execOp
 simp only [ho,resolve,invoke,builtin,Sem.run_bind,Sem.run_pure,Result.andThen_ok,List.map_toArray,List.map_cons,List.map_nil,hs,hx,hr]
 exact h
theorem wpList_append_run {P:Program} {ops:Array Oper} {rest:List Oper} {o:Oper} {a:Act} {w:World} {Q:Exit→Act→World→Prop} (hgd:o.guard=none) (s x:Operand) (t:TypeId)
  (ho:o.op=.call { callee:=.builtin .append,args:=#[s,x],argTypes:=#[t,t] }) (v y v':Value) (w':World) (hs:a.eval s=v) (hx:a.eval x=y)
  (hr:(Builtin.append_ #[t,t] o.type #[v,y]).run P w=.ok v' w') (h:wpList P ops Q rest (a.put o.dst v') w'):wpList P ops Q (o :: rest) a w :=
 wpList_plain hgd fun _ hK=>wp_append_run s x t ho v y v' w' hs hx hr (hK _ _ h)
theorem wpList_store_new {P:Program} {ops:Array Oper} {rest:List Oper} {op:Oper} {a:Act} {Q:Exit→Act→World→Prop} (hgd:op.guard=none) (ty:TypeId) (x y:Operand) (ho:op.op=.store ty x y)
  (w:World) (c c':Array Value) (hx:a.eval x=.pointer (some ⟨w.heap.size,0,none⟩)) (hy:a.eval y=.agg c')
  (hi:(P.info? ty).map (·.size)=some c'.size) (hs:c.size=c'.size) (h1:c'.all (·.oneCell')=true)
  (h:wpList P ops Q rest (a.put op.dst undef) (w.alloc (.cells c' ty))):wpList P ops Q (op :: rest) a (w.alloc (.cells c ty)) :=
 wpList_plain hgd fun K hK=>by
  unfold Oper.wp execOp
  simp only [ho,hx,hy,Instr.storeAt,Instr.sureAddr,Sem.run_bind,Sem.run_pure,Result.andThen_ok,run_storeVar_new w ty c c' hi hs h1]
  exact hK _ _ h
theorem wpList_load_new {P:Program} {ops:Array Oper} {rest:List Oper} {op:Oper} {a:Act} {Q:Exit→Act→World→Prop} (hgd:op.guard=none) (ty:TypeId) (x:Operand) (ho:op.op=.load ty x)
  (w:World) (c:Array Value) (n:Nat) (e:TypeId) (hx:a.eval x=.pointer (some ⟨w.heap.size,0,none⟩)) (hu:P.underlying ty=some (.array n e))
  (hi:(P.info? ty).map (·.size)=some c.size)
  (h:wpList P ops Q rest (a.put op.dst (.agg c)) (w.alloc (.cells c ty))):wpList P ops Q (op :: rest) a (w.alloc (.cells c ty)) :=
 wpList_plain hgd fun K hK=>by
  unfold Oper.wp execOp
  simp only [ho,hx,Instr.loadAt,Instr.sureAddr,Sem.run_bind,Sem.run_pure,Result.andThen_ok,run_loadVar_new w ty c n e hu hi]
  exact hK _ _ h
end Go.Proofs.YtkganhafbjgndaaGreatRR
namespace Go.Proofs.YtkganhafbjgndaaGreatRR
open Go.RowKit
set_option linter.unusedVariables false
theorem retb {a b:Bool} (h:a=b):Ending.returned (.bool a)=.returned (.bool b):=by rw [h]
theorem reti {k:IntKind} {a b:Int} (h:a=b):Ending.returned (.int k a)=.returned (.int k b):=by rw [h]
def St (w:World) (d:Nat) (vn vl vs:Value) (f:Bool) (left:Int) (dn:Bool):Prop :=
 w.heap[d]?=some (.cells #[vn,vl,vs,.bool f,.int .i64 left,.bool dn] 98 (0,0))
section
variable {w w':World} {d:Nat} {vn vl vs:Value} {f:Bool} {left:Int} {dn:Bool}
theorem St.c0 (h:St w d vn vl vs f left dn):w.cell? ⟨d,0,none⟩=some vn:=cell_of h 0
theorem St.c1 (h:St w d vn vl vs f left dn):w.cell? ⟨d,1,none⟩=some vl:=cell_of h 1
theorem St.c2 (h:St w d vn vl vs f left dn):w.cell? ⟨d,2,none⟩=some vs:=cell_of h 2
theorem St.c3 (h:St w d vn vl vs f left dn):w.cell? ⟨d,3,none⟩=some (.bool f):=cell_of h 3
theorem St.c4 (h:St w d vn vl vs f left dn):w.cell? ⟨d,4,none⟩=some (.int .i64 left):=cell_of h 4
theorem St.c5 (h:St w d vn vl vs f left dn):w.cell? ⟨d,5,none⟩=some (.bool dn):=cell_of h 5
theorem St.fr (h:St w d vn vl vs f left dn) (j:Nat):w.frozen? ⟨d,j,none⟩=false:=frozen_of h j
theorem St.lt (h:St w d vn vl vs f left dn):d<w.heap.size:=(Array.getElem?_eq_some_iff.1 h).1
end
theorem ready_any {w:World} {d:Nat} {vn vl vs:Value} {f:Bool} {left:Int} {dn:Bool} (h:St w d vn vl vs f left dn) :
  Calls Tryz.prog 133 #[.pointer (some ⟨d,0,none⟩)] w fun e w'=>e=.returned (.int .i64 (if dn then 11 else 0))∧w=w':=by
 have h5:=h.c5
 clear h
 cases dn
 all_goals
  go_enter Tryz.func133,Tryz.ntmps133
  go_wp2
  go_ret
  exact ⟨rfl,rfl⟩
theorem has_any {w:World} {d N cn:Nat} {A:Option Addr} {vl vs:Value} {f:Bool} {left:Int} {dn:Bool} (n:Int) (h:St w d (.slice A N cn) vl vs f left dn) :
  Calls Tryz.prog 143 #[.pointer (some ⟨d,0,none⟩),.int .i64 n] w fun e w'=>e=.returned (.bool (inR N n))∧w=w':=by
 have h0:=h.c0
 clear h
 by_cases h1:0≤n
 ·have h2:inR N n=decide (n<N):=by simp [inR,h1]
  rw [h2]
  clear h2
  go_enter Tryz.func143,Tryz.ntmps143
  go_wp2
  go_ret
  exact ⟨rfl,rfl⟩
 ·have h2:inR N n=false:=by simp [inR,h1]
  have h3:decide (0≤n)=false:=by simpa using h1
  rw [h2]
  clear h2
  go_enter Tryz.func143,Tryz.ntmps143
  go_wp2
  go_ret
  exact ⟨rfl,rfl⟩
theorem sectors_any {w:World} {d N cn:Nat} {A:Option Addr} {vl vs:Value} {f:Bool} {left:Int} {dn:Bool} (h:St w d (.slice A N cn) vl vs f left dn) :
  Calls Tryz.prog 52 #[.pointer (some ⟨d,0,none⟩)] w fun e w'=>e=.returned (.int .i64 N)∧w=w':=by
 have h0:=h.c0
 clear h
 go_enter Tryz.func52,Tryz.ntmps52
 go_wp2
 go_ret
 exact ⟨rfl,rfl⟩
def FuseP (w:World) (d:Nat) (vn vl vs:Value) (f:Bool) (left:Int) (dn:Bool) (w':World):Prop:=St w' d vn vl vs f left dn∧Chg [d] w w'
theorem spend_free {w:World} {d:Nat} {vn vl vs:Value} {left:Int} {dn:Bool} (h:St w d vn vl vs false left dn) :
  Calls Tryz.prog 135 #[.pointer (some ⟨d,0,none⟩)] w fun e w'=>e=.returned (.bool true)∧w=w':=by
 have h3:=h.c3
 clear h
 go_enter Tryz.func135,Tryz.ntmps135
 go_wp2
 go_ret
 exact ⟨rfl,rfl⟩
theorem spend_fused {w:World} {d:Nat} {vn vl vs:Value} {left:Int} {dn:Bool} (h:St w d vn vl vs true left dn) (hl:0≤left) (hh:left≤9223372036854775807) :
  Calls Tryz.prog 135 #[.pointer (some ⟨d,0,none⟩)] w fun e w'=>e=.returned (.bool (!(left == 0)))∧FuseP w d vn vl vs true (left - 1) (left == 0) w':=by
 have h3:=h.c3
 have h4:=h.c4
 have h5:=h.c5
 have f5:=h.fr 5
 have f4:=h.fr 4
 have H:=Lib.hid h
 clear h
 go_enter Tryz.func135,Tryz.ntmps135
 go_wp2
 go_ret
 refine ⟨rfl,?_,((Chg.refl _ _).setCell (.inl (by simp)) _).setCell (.inl (by simp)) _⟩
 exact heap_setCell_at (heap_setCell_at H.out _) _
end Go.Proofs.YtkganhafbjgndaaGreatRR
namespace Go.Proofs.YtkganhafbjgndaaGreatRR
open Go.RowKit
set_option linter.unusedVariables false
def wc (p:Nat × List UInt8):List Value:=.int .i64 (p.1:Int) :: bc p.2
theorem wc_len {p:Nat × List UInt8} (h:p.2.length=128):(wc p).length=129:=by simp [wc,bc_len,h]
theorem wc_one (p:Nat × List UInt8):∀ v∈wc p,v.oneCell'=true:=by
 intro v hv
 simp only [wc,List.mem_cons] at hv
 rcases hv with rfl | hv
 ·rfl
 ·exact bc_one _ v hv
def owns (d bn bl:Nat) (vs:Value):List Nat:=d :: bn :: bl :: vs.ownBlock.toList
structure DrvAt (w:World) (d N:Nat) (s:DS) (bn cn bl cl:Nat) (vs:Value):Prop where
 st:St w d (.slice (some ⟨bn,0,none⟩) N cn) (.slice (some ⟨bl,0,none⟩) N cl) vs s.fused s.left s.down
 now:Secs w bn s.now
 las:Secs w bl s.lasting
 sin:w.ownsRow 0 202 129 vs s.since.length (s.since.flatMap wc)
 ok:s.Ok N
 n0:64≤N
 n1:N≤1024
 c0:N≤cn
 c1:N≤cl
 nd:(owns d bn bl vs).Nodup
def Drv (w:World) (d:Nat) (O:List Nat) (N:Nat) (s:DS):Prop:=∃ bn cn bl cl vs,O=owns d bn bl vs∧DrvAt w d N s bn cn bl cl vs
theorem ownsRow_keep {w w':World} {base e size n:Nat} {v:Value} {xs:List Value} (h:w.ownsRow base e size v n xs) (he:∀ b,v.ownBlock=some b→w'.heap[b]?=w.heap[b]?):w'.ownsRow base e size v n xs:=by
 refine ⟨h.1,?_⟩
 rcases h.2 with h0 | ⟨g,cap,cur,rfl,hg,hh,rest⟩
 ·exact .inl h0
 ·exact .inr ⟨g,cap,cur,rfl,hg,(he g rfl).trans hh,rest⟩
section
variable {w w':World} {d N bn cn bl cl:Nat} {s:DS} {vs:Value} {O O':List Nat}
theorem DrvAt.keep (h:DrvAt w d N s bn cn bl cl vs) (he:∀ b∈owns d bn bl vs,w'.heap[b]?=w.heap[b]?):DrvAt w' d N s bn cn bl cl vs :=
 ⟨(he d (by simp [owns])).trans h.st,h.now.keep (he bn (by simp [owns])),h.las.keep (he bl (by simp [owns])),ownsRow_keep h.sin fun b hb=>he b (by simp [owns,hb]),h.ok,h.n0,h.n1,h.c0,h.c1,h.nd⟩
theorem Drv.keep (h:Drv w d O N s) (he:∀ b∈O,w'.heap[b]?=w.heap[b]?):Drv w' d O N s:=by
 obtain ⟨bn,cn,bl,cl,vs,rfl,h⟩:=h
 exact ⟨bn,cn,bl,cl,vs,rfl,h.keep he⟩
theorem DrvAt.lt (h:DrvAt w d N s bn cn bl cl vs):∀ b∈owns d bn bl vs,b<w.heap.size:=by
 intro b hb
 simp only [owns,List.mem_cons,Option.mem_toList] at hb
 rcases hb with rfl | rfl | rfl | hb
 ·exact h.st.lt
 ·exact h.now.lt
 ·exact h.las.lt
 ·exact (h.sin.lt b hb).2
theorem Drv.lt (h:Drv w d O N s):∀ b∈O,b<w.heap.size:=by
 obtain ⟨bn,cn,bl,cl,vs,rfl,h⟩:=h
 exact h.lt
theorem Drv.apart (h:Drv w d O N s) (hc:Chg O' w w') (hO:∀ b∈O,b∉O'):Drv w' d O N s:=h.keep fun b hb=>hc.block b (h.lt b hb) (hO b hb)
end
theorem i67:(Tryz.prog.info? 200).map (fun i=>(i.zero,i.size,i.bytes))=some (some (.agg (bc zeros).toArray),128,128):=by kernel_rfl
theorem i69:(Tryz.prog.info? 202).map (fun i=>(i.zero,i.size,i.bytes))=some (some (.agg (wc (0,zeros)).toArray),129,136):=by kernel_rfl
theorem s67:(Tryz.prog.info? 200).map (·.size)=some 128:=by kernel_rfl
theorem s69:(Tryz.prog.info? 202).map (·.size)=some 129:=by kernel_rfl
def mk (N:Nat):Array Value:=madeCells (bc zeros).toArray (N * 128)
theorem make_run (N:Nat) (hN:N≤1024) (w:World):(Instr.makeSlice 95 (.int .i64 N) (.int .i64 N)).run Tryz.prog w=.ok (.slice (some ⟨w.heap.size,0,none⟩) N N) (w.alloc (.cells (mk N) 200)):=by
 have h:=i67
 cases hq:Tryz.prog.info? 200 with
 | none=>simp [hq] at h
 | some i =>
  simp only [hq,Option.map_some,Option.some.injEq,Prod.mk.injEq] at h
  have:=run_makeSlice (P:=Tryz.prog) w 95 200 i _ Tryz.underlying95 hq h.1 .i64 .i64 N N (by omega) (by omega) (by rw [h.2.1];simp;omega) (by rw [h.2.2];omega) (by omega)
  rw [this,h.2.1]
  rfl
theorem zeros_len:zeros.length=128:=List.length_replicate
theorem bcz_len:(bc zeros).length=128:=by rw [bc_len,zeros_len]
theorem zeros_get {k:Nat} (h:k<128):(bc zeros)[k]?=some (.int .u8 0):=by
 unfold bc zeros
 rw [List.getElem?_map,List.getElem?_replicate,if_pos h]
 rfl
theorem mk_size (N:Nat):(mk N).size=N * 128:=by simp [mk,madeCells]
theorem mk_get (N j:Nat) (h:j<N * 128):(mk N)[j]?=some (.int .u8 0):=by
 have hz:=bcz_len
 have:j % 128<128:=Nat.mod_lt _ (by omega)
 have h2:=zeros_get this
 simp only [mk,madeCells,Array.getElem?_map,Array.getElem?_range,h,Option.map_some,List.size_toArray,hz,if_true]
 simp [h2]
theorem secs_mk {w:World} {b N:Nat} (h:w.heap[b]?=some (.cells (mk N) 200 (0,0))):Secs w b (List.replicate N zeros):=by
 refine ⟨⟨_,h,by simp [mk_size]⟩,fun i s hi=>?_⟩
 rw [List.getElem?_replicate] at hi
 split at hi
 ·rename_i hN
  cases hi
  refine ⟨zeros_len,fun j v hj=>?_⟩
  have hj':j<(bc zeros).length:=(List.getElem?_eq_some_iff.1 hj).1
  rw [bcz_len] at hj'
  rw [zeros_get hj'] at hj
  cases hj
  have:(i+1) * 128≤N * 128:=Nat.mul_le_mul_right _ hN
  rw [cell_of h,mk_get N _ (by omega)]
 ·cases hi
theorem drv_new {w:World} {d bn bl N:Nat} (h0:64≤N) (h1:N≤1024) (hd:w.heap[d]?=some (.cells #[.slice (some ⟨bn,0,none⟩) N N,.slice (some ⟨bl,0,none⟩) N N,.slice none 0 0,.bool false,.int .i64 0,.bool false] 98 (0,0)))
  (hn:w.heap[bn]?=some (.cells (mk N) 200 (0,0))) (hl:w.heap[bl]?=some (.cells (mk N) 200 (0,0))) (g1:d≠bn) (g2:d≠bl) (g3:bn≠bl):Drv w d (owns d bn bl (.slice none 0 0)) N (newS N) :=
 ⟨bn,N,bl,N,_,rfl,hd,secs_mk hn,secs_mk hl,World.ownsRow_nil _ _ _ _,Ok_new N,h0,h1,Nat.le_refl _,Nat.le_refl _,by simp [owns,Value.ownBlock,g1,g2,g3]⟩
def NewP (N:Nat) (w:World) (e:Ending) (w':World):Prop:=∃ d O,e=.returned (.tuple #[.pointer (some ⟨d,0,none⟩),.int .i64 0])∧Drv w' d O N (newS N)∧(∀ b∈O,w.heap.size≤b)∧Below w.heap.size w w'
set_option maxHeartbeats 1000000 in
theorem new_any (N:Nat) (w:World) (h0:64≤N) (h1:N≤1024):Calls Tryz.prog 19 #[.int .i64 N] w (NewP N w):=by
 have g1:decide ((N:Int)<64)=false:=by simp;omega
 have g2:decide (1024<(N:Int))=false:=by simp;omega
 have hm:=make_run N h1
 go_enter Tryz.func19,Tryz.ntmps19
 go_wp2
 go_region_held3 (fun _=>True) (trivial) (fail)
 all_goals
  go_wp2
  go_ret2
  have hs1:(w.alloc (.cells (mk N) 200)).heap.size=w.heap.size+1:=by simp
  have hs2:((w.alloc (.cells (mk N) 200)).alloc (.cells (mk N) 200)).heap.size=w.heap.size+1+1:=by simp
  have hd0:∀ cs t,(((w.alloc (.cells (mk N) 200)).alloc (.cells (mk N) 200)).alloc (.cells cs t)).heap[w.heap.size+1+1]?=some (.cells cs t (0,0)):=fun cs t=>by
   have:=heap_alloc_new ((w.alloc (.cells (mk N) 200)).alloc (.cells (mk N) 200)) (.cells cs t)
   rw [hs2] at this
   exact this
  have hl0:∀ {o},(((w.alloc (.cells (mk N) 200)).alloc (.cells (mk N) 200)).alloc o).heap[w.heap.size+1]?=some (.cells (mk N) 200 (0,0)):=fun {o}=>by
   have:=heap_alloc_new (w.alloc (.cells (mk N) 200)) (.cells (mk N) 200)
   rw [hs1] at this
   rw [Below.heap_alloc _ _ _ (by rw [hs2];omega)]
   exact this
  have hn0:∀ {o},(((w.alloc (.cells (mk N) 200)).alloc (.cells (mk N) 200)).alloc o).heap[w.heap.size]?=some (.cells (mk N) 200 (0,0)):=fun {o}=>by
   rw [Below.heap_alloc _ _ _ (by rw [hs2];omega),Below.heap_alloc _ _ _ (by rw [hs1];omega)]
   exact heap_alloc_new _ _
  have hB:∀ o,Below w.heap.size w ((((w.alloc (.cells (mk N) 200)).alloc (.cells (mk N) 200)).alloc o).drew):=fun o =>
   ((((Below.refl _ _).alloc (Nat.le_refl _) _).alloc (by rw [hs1];omega) _).alloc (by rw [hs2];omega) _).drew
 ·refine ⟨_,_,rfl,drv_new h0 h1 (bn:=w.heap.size) (bl:=w.heap.size+1) (hd0 _ _) hn0 hl0 (by omega) (by omega) (by omega),?_,hB _⟩
  intro b hb
  simp [owns,Value.ownBlock] at hb
  omega
 ·refine ⟨_,_,rfl,drv_new h0 h1 (bn:=w.heap.size+1) (bl:=w.heap.size) (hd0 _ _) hl0 hn0 (by omega) (by omega) (by omega),?_,hB _⟩
  intro b hb
  simp [owns,Value.ownBlock] at hb
  omega
end Go.Proofs.YtkganhafbjgndaaGreatRR
namespace Go.Proofs.YtkganhafbjgndaaGreatRR
open Go.RowKit
set_option linter.unusedVariables false
def BytesP (s:List UInt8) (w:World) (e:Ending) (w':World):Prop:=∃ b,e=.returned (.slice (some ⟨b,0,none⟩) 128 128)∧w.heap.size≤b∧w'.heap[b]?=some (.cells (bc s).toArray 200 (0,0))∧Below w.heap.size w w'
set_option maxHeartbeats 1000000 in
theorem bytes_any (s:List UInt8) (w:World) (h:s.length=128):Calls Tryz.prog 144 #[.agg (bc s).toArray] w (BytesP s w):=by
 have hl:(bc s).length=128:=by rw [bc_len,h]
 have HE:Hid (∃ cs,bc s=cs):=⟨_,rfl⟩
 obtain ⟨cs,he⟩:=HE.out
 have HX:=Lib.hid he
 rw [he] at hl ⊢
 clear he HE
 go_enter Tryz.func144,Tryz.ntmps144
 go_wp2_with fail
 go_ret
 exact ⟨_,rfl,Nat.le_refl _,by rw [HX.out];exact heap_alloc_new _ _,(Below.refl _ _).alloc (Nat.le_refl _) _⟩
theorem get_down {w:World} {d:Nat} {O:List Nat} {N:Nat} {s:DS} (n:Int) (h:Drv w d O N s) (hd:s.down=true) :
  Calls Tryz.prog 105 #[.pointer (some ⟨d,0,none⟩),.int .i64 n] w fun e w'=>e=.returned (.tuple #[.slice none 0 0,.int .i64 11])∧w=w':=by
 obtain ⟨bn,cn,bl,cl,vs,rfl,h⟩:=h
 have hst:=h.st
 rw [hd] at hst
 clear h hd
 have H:=Lib.hid hst
 clear hst
 go_enter Tryz.func105,Tryz.ntmps105
 go_wp2_with fail
 refine (ready_any H.out).mono ?_
 rintro e w' ⟨rfl,rfl⟩
 go_wp2_with fail
 go_ret2
 exact ⟨rfl,rfl⟩
def GetP (s:List UInt8) (w:World) (e:Ending) (w':World):Prop:=∃ b,e=.returned (.tuple #[.slice (some ⟨b,0,none⟩) 128 128,.int .i64 0])∧w.heap.size≤b∧w'.heap[b]?=some (.cells (bc s).toArray 200 (0,0))∧Below w.heap.size w w'
set_option maxHeartbeats 1000000 in
theorem get_ok {w:World} {d:Nat} {O:List Nat} {N:Nat} {s:DS} (k:Nat) (h:Drv w d O N s) (hd:s.down=false) {x:List UInt8} (hx:s.now[k]?=some x) :
  Calls Tryz.prog 105 #[.pointer (some ⟨d,0,none⟩),.int .i64 k] w (GetP x w):=by
 obtain ⟨bn,cn,bl,cl,vs,rfl,h⟩:=h
 have hst:=h.st
 rw [hd] at hst
 have hk:k<N:=by have:=(List.getElem?_eq_some_iff.1 hx).1;rw [h.ok.now] at this;exact this
 obtain ⟨hl,hr⟩:=h.now.all k x hx
 have hn1:=h.n1
 have hin:inR N k=true:=by simp [inR,hk]
 have h0:=hst.c0
 clear h hd hx
 have H:=Lib.hid hst
 have HR:=Lib.hid hr
 have HL:=Lib.hid hl
 clear hst hr hl
 go_enter Tryz.func105,Tryz.ntmps105
 go_wp2_with fail
 refine (ready_any H.out).mono ?_
 rintro e w' ⟨rfl,rfl⟩
 go_wp2_with fail
 refine (has_any k H.out).mono ?_
 rintro e w' ⟨rfl,rfl⟩
 go_wp2_with (first | (refine wpList_load_mid rfl 200 _ rfl bn _ rfl (bc x) _ HR.out Tryz.underlying200 rfl (by rw [bc_len,HL.out];exact s67) ?_) | fail)
 refine (bytes_any x _ HL.out).mono ?_
 rintro e w' ⟨b,rfl,hb⟩
 have HB:=Lib.hid hb
 clear hb
 go_wp2_with fail
 go_ret2
 exact ⟨b,rfl,HB.out⟩
end Go.Proofs.YtkganhafbjgndaaGreatRR
namespace Go.Proofs.YtkganhafbjgndaaGreatRR
open Go.RowKit
set_option linter.unusedVariables false
theorem z67 (w:World):(zeroValue 200).run Tryz.prog w=.ok (.agg (bc zeros).toArray) w :=
 (zero_of_info (n:=128) (by have h:=i67;cases hq:Tryz.prog.info? 200 with
  | none=>simp [hq] at h
  | some i=>simp only [hq,Option.map_some,Option.some.injEq,Prod.mk.injEq] at h ⊢;exact ⟨h.1,h.2.1⟩)).1 w
def Rows1 (w:World) (b n lo:Nat) (l:List (List UInt8)) (k:Nat):Prop :=
 ∃ C,w.heap[b]?=some (.cells C 41 (0,0))∧C.size=n∧∀ j x,j<k→l[j]?=some x→∃ bj,C[j]?=some (.slice (some ⟨bj,0,none⟩) 128 128)∧lo≤bj∧bj≠b∧w.heap[bj]?=some (.cells (bc x).toArray 200 (0,0))
def ImgP (w:World) (N:Nat) (l:List (List UInt8)) (e:Ending) (w':World):Prop :=
 ∃ b,e=.returned (.slice (some ⟨b,0,none⟩) N N)∧w.heap.size≤b∧Rows1 w' b N w.heap.size l N∧Below w.heap.size w w'
def nils (N:Nat):Array Value:=madeCells #[.slice none 0 0] N
theorem nils_size (N:Nat):(nils N).size=N:=size_madeCells _ _
theorem make46 (N:Nat) (hN:N≤1024) (w:World):(Instr.makeSlice 235 (.int .i64 N) (.int .i64 N)).run Tryz.prog w=.ok (.slice (some ⟨w.heap.size,0,none⟩) N N) (w.alloc (.cells (nils N) 41)):=by
 have h:(Tryz.prog.info? 41).map (fun i=>(i.zero,i.size,i.bytes))=some (some (.slice none 0 0),1,24):=by kernel_rfl
 cases hq:Tryz.prog.info? 41 with
 | none=>simp [hq] at h
 | some i =>
  simp only [hq,Option.map_some,Option.some.injEq,Prod.mk.injEq] at h
  have:=run_makeSlice (P:=Tryz.prog) w 235 41 i _ Tryz.underlying235 hq h.1 .i64 .i64 N N (by omega) (by omega) (by rw [h.2.1];simp;omega) (by rw [h.2.2];omega) (by omega)
  rw [this,h.2.1,Nat.mul_one]
  rfl
set_option maxRecDepth 20000 in
set_option maxHeartbeats 1000000 in
theorem image_any {w:World} {d:Nat} {O:List Nat} {N:Nat} {s:DS} (h:Drv w d O N s) :
  Calls Tryz.prog 163 #[.pointer (some ⟨d,0,none⟩)] w (ImgP w N s.lasting):=by
 obtain ⟨bn,cn,bl,cl,vs,rfl,h⟩:=h
 have hn1:=h.n1
 have h1:=h.st.c1
 have H:=Lib.hid h
 have hlt:=h.las.lt
 have hdl:=h.st.lt
 have hm:=make46 N hn1
 have HZ:=Lib.hid z67
 clear h
 go_enter Tryz.func163,Tryz.ntmps163
 go_wp2_with fail
 clear hm
 go_loopw [19] (fun i wr=>∃ k:Nat,k≤N∧i=.int .i64 k∧Hid (Rows1 wr w.heap.size N w.heap.size s.lasting k)∧Hid (Below w.heap.size w wr)) (fun i _=>N - (intOf i).toNat)
 case atStart =>
  exact ⟨0,Nat.zero_le _,rfl,⟨_,heap_alloc_new _ _,nils_size N,fun j x hj=>absurd hj (by omega)⟩,(Below.refl _ _).alloc (Nat.le_refl _) _⟩
 case round =>
  obtain ⟨k,hk,rfl,HR,HB⟩:=hrel
  by_cases hlt:k<N
  ·obtain ⟨x,hx⟩:∃ x,s.lasting[k]?=some x:=⟨_,List.getElem?_eq_getElem (by rw [H.out.ok.lasting];exact hlt)⟩
   have HX:=Lib.hid hx
   clear hx
   have HL:Hid (x.length=128):=(H.out.las.all k x HX.out).1
   have HI:Hid ((Tryz.prog.info? 200).map (·.size)=some (bc x).toArray.size):=by
    show _=_
    rw [List.size_toArray,bc_len,HL.out];exact s67
   have HS:Hid ((bc zeros).toArray.size=(bc x).toArray.size):=by
    show _=_
    rw [List.size_toArray,List.size_toArray,bcz_len,bc_len,HL.out]
   have hz:∀ w,(zeroValue 200).run Tryz.prog w=.ok (.agg (bc zeros).toArray) w:=HZ.out
   go_wp2_with (first | (refine wpList_load_mid rfl 200 _ rfl bl _ rfl (bc x) _ (rangeAt_of_heap (H.out.las.all k x HX.out).2 (HB.out.block bl H.out.las.lt)) Tryz.underlying200 rfl (by rw [bc_len,HL.out];exact s67) ?_) | (refine wpList_store_new rfl 200 _ _ rfl wr (bc zeros).toArray (bc x).toArray rfl rfl HI.out HS.out (all_oneCell_toArray (bc_one x)) ?_) | (refine wpList_load_new rfl 200 _ rfl wr (bc x).toArray 128 5 rfl Tryz.underlying200 HI.out ?_) | fail)
   clear hz
   refine (bytes_any x _ HL.out).mono ?_
   rintro e w2 ⟨b,rfl,hb1,hb2,hb3⟩
   obtain ⟨C,hC,hCs,hrow⟩:=HR.out
   have hwr:w.heap.size<wr.heap.size:=(Array.getElem?_eq_some_iff.1 hC).1
   have hsz:(wr.alloc (.cells (bc x).toArray 200)).heap.size=wr.heap.size+1:=by simp
   rw [hsz] at hb1
   have hkeep:∀ j,j<wr.heap.size→w2.heap[j]?=wr.heap[j]?:=fun j hj=>by
    rw [hb3.block j (by rw [hsz];omega),Below.heap_alloc _ _ _ hj]
   have hC2:w2.heap[w.heap.size]?=some (.cells C 41 (0,0)):=(hkeep _ hwr).trans hC
   have hcell:w2.cell? ⟨w.heap.size,k,none⟩=some (C[k]?.getD undef):=by
    rw [cell_of hC2];simp [hCs,hlt]
   have hfro:=frozen_of hC2 k
   have HB2:Hid (Below w.heap.size w w2):=⟨hb3.os.trans HB.out.os,hb3.tape.trans HB.out.tape,hb3.output.trans HB.out.output,by have:=hb3.size;have:=HB.out.size;rw [hsz] at *;omega,fun j hj=>by rw [hkeep j (by omega),HB.out.block j hj]⟩
   have HR2:Hid (Rows1 (w2.setCell ⟨w.heap.size,k,none⟩ (.slice (some ⟨b,0,none⟩) 128 128)) w.heap.size N w.heap.size s.lasting (k+1)):=by
    refine ⟨_,heap_setCell_at hC2 _,by simp [hCs],fun j y hj hy=>?_⟩
    by_cases e:j=k
    ·subst e
     have:y=x:=by rw [HX.out] at hy;exact (Option.some.inj hy).symm
     subst this
     exact ⟨b,by simp [hCs,hlt],by omega,by omega,by rw [Below.heap_setCell _ _ _ _ (by show b≠w.heap.size;omega)];exact hb2⟩
    ·obtain ⟨bj,g1,g2,g3,g4⟩:=hrow j y (by omega) hy
     have hbj:bj<wr.heap.size:=(Array.getElem?_eq_some_iff.1 g4).1
     exact ⟨bj,by rw [Array.getElem?_setIfInBounds_ne (by omega)];exact g1,g2,g3,by rw [Below.heap_setCell _ _ _ _ g3,hkeep _ hbj];exact g4⟩
   clear hb1 hb2 hb3 hC hCs hrow hwr hsz hkeep hC2 HR HB
   go_wp2_with fail
   go_roundw
   case rel=>exact ⟨k+1,by omega,by go_num,HR2,HB2.out.setCell (Nat.le_refl _) _⟩
   case measure=>simp [intOf];omega
  ·obtain rfl:k=N:=by omega
   go_wp2_with fail
   go_ret
   exact ⟨_,rfl,Nat.le_refl _,HR.out,HB.out⟩
end Go.Proofs.YtkganhafbjgndaaGreatRR
namespace Go.Proofs.YtkganhafbjgndaaGreatRR
open Go.RowKit
set_option linter.unusedVariables false
def Did (w:World) (d:Nat) (O:List Nat) (N:Nat) (s':DS) (w':World):Prop:=∃ O',Drv w' d O' N s'∧Chg O w w'∧∀ b∈O',b∈O∨w.heap.size≤b
theorem spend_since (s:DS):s.spend.since=s.since:=by unfold DS.spend;split<;>rfl
theorem spend_now (s:DS):s.spend.now=s.now:=by unfold DS.spend;split<;>rfl
theorem spend_las (s:DS):s.spend.lasting=s.lasting:=by unfold DS.spend;split<;>rfl
theorem z69 (w:World):(zeroValue 202).run Tryz.prog w=.ok (.agg (wc (0,zeros)).toArray) w :=
 (zero_of_info (n:=129) (by have h:=i69;cases hq:Tryz.prog.info? 202 with
  | none=>simp [hq] at h
  | some i=>simp only [hq,Option.map_some,Option.some.injEq,Prod.mk.injEq] at h ⊢;exact ⟨h.1,h.2.1⟩)).1 w
section
variable {w w':World} {d N bn cn bl cl:Nat} {s s':DS} {vs vs':Value} {O O':List Nat}
theorem ne_of_nd (h:DrvAt w d N s bn cn bl cl vs):d≠bn∧d≠bl∧bn≠bl∧∀ g,vs.ownBlock=some g→d≠g∧bn≠g∧bl≠g:=by
 have:=h.nd
 simp only [owns,List.nodup_cons,List.mem_cons,not_or] at this
 refine ⟨this.1.1,this.1.2.1,this.2.1.1,fun g hg=>?_⟩
 rw [hg] at this
 simp only [Option.toList_some,List.mem_singleton] at this
 exact ⟨this.1.2.2,this.2.1.2,this.2.2.1⟩
theorem DrvAt.turn (h:DrvAt w d N s bn cn bl cl vs) (hf:Chg [d] w w') (hst:St w' d (.slice (some ⟨bn,0,none⟩) N cn) (.slice (some ⟨bl,0,none⟩) N cl) vs s'.fused s'.left s'.down)
  (e1:s'.now=s.now) (e2:s'.lasting=s.lasting) (e3:s'.since=s.since) (hok:s'.Ok N):DrvAt w' d N s' bn cn bl cl vs:=by
 obtain ⟨n1,n2,n3,n4⟩:=ne_of_nd h
 refine ⟨hst,?_,?_,?_,hok,h.n0,h.n1,h.c0,h.c1,h.nd⟩
 ·rw [e1];exact h.now.keep (hf.block _ h.now.lt (by simp;omega))
 ·rw [e2];exact h.las.keep (hf.block _ h.las.lt (by simp;omega))
 ·rw [e3];exact ownsRow_keep h.sin fun b hb=>hf.block _ (h.sin.lt b hb).2 (by have:=(n4 b hb).1;simp;omega)
def SpP (w:World) (d N:Nat) (s:DS) (bn cn bl cl:Nat) (vs:Value) (w':World):Prop:=DrvAt w' d N s.spend bn cn bl cl vs∧Chg [d] w w'
theorem spend_any (h:DrvAt w d N s bn cn bl cl vs) (hd:s.down=false) :
  Calls Tryz.prog 135 #[.pointer (some ⟨d,0,none⟩)] w fun e w'=>e=.returned (.bool s.pow)∧SpP w d N s bn cn bl cl vs w':=by
 cases hf:s.fused with
 | false =>
  have hst:=h.st
  rw [hf] at hst
  refine (spend_free hst).mono ?_
  rintro e w' ⟨rfl,rfl⟩
  refine ⟨by simp [DS.pow,hf],?_,Chg.refl _ _⟩
  have:s.spend=s:=by simp [DS.spend,hf]
  rw [this]
  exact h
 | true =>
  have hst:=h.st
  rw [hf] at hst
  refine (spend_fused hst (h.ok.fuse hf hd) h.ok.hi).mono ?_
  rintro e w' ⟨rfl,h1,h2⟩
  refine ⟨by simp [DS.pow,hf],h.turn h2 ?_ (spend_now s) (spend_las s) (spend_since s) (h.ok.spend hd),h2⟩
  simp only [DS.spend,hf,if_true]
  exact h1
theorem DrvAt.at_ (h:DrvAt w d N s bn cn bl cl vs) {k:Nat} {p:Nat × List UInt8} (hp:s.since[k]?=some p) :
  ∃ g c,vs=.slice (some ⟨g,0,none⟩) s.since.length c∧s.since.length≤c∧c≤maxLen∧g<w.heap.size∧w.rangeAt g (k * 129) (wc p):=by
 have hk:k<s.since.length:=(List.getElem?_eq_some_iff.1 hp).1
 rcases h.sin.2 with ⟨_,h0⟩ | ⟨g,cap,cur,rfl,_,hg,hn,hm,hs,ht⟩
 ·omega
 ·refine ⟨g,cap,rfl,hn,hm,(Array.getElem?_eq_some_iff.1 hg).1,fun j v hj=>?_⟩
  have hl:∀ x∈s.since,(wc x).length=129:=fun x hx=>wc_len (h.ok.since x hx).2
  have hj':j<(wc p).length:=(List.getElem?_eq_some_iff.1 hj).1
  rw [hl p (List.mem_of_getElem? hp)] at hj'
  have:(k+1) * 129≤s.since.length * 129:=Nat.mul_le_mul_right _ hk
  rw [cell_of hg,← Array.getElem?_toList,← hj,← flat_get hl hp hj',← ht,List.getElem?_take,if_pos (by omega)]
end
theorem lay_take {l:List (List UInt8)} {ps:List (Nat × List UInt8)} {k:Nat} {p:Nat × List UInt8} (h:ps[k]?=some p):lay l (ps.take (k+1))=(lay l (ps.take k)).set p.1 p.2:=by
 obtain ⟨hk,rfl⟩:=List.getElem?_eq_some_iff.1 h
 rw [List.take_succ_eq_append_getElem hk,lay_snoc]
theorem DrvAt.laid {w:World} {d N bn cn bl cl:Nat} {s:DS} {vs:Value} (h:DrvAt w d N s bn cn bl cl vs) {n:Nat} {x:List UInt8} (hn:n<N) (hx:x.length=128) :
  DrvAt (w.setCells bl (n * 128) (bc x)) d N { s with lasting:=s.lasting.set n x } bn cn bl cl vs:=by
 obtain ⟨n1,n2,n3,n4⟩:=ne_of_nd h
 refine ⟨(heap_setCells_ne n2 _ _ _).trans h.st,h.now.keep (heap_setCells_ne n3 _ _ _),h.las.set (by rw [h.ok.lasting];exact hn) hx,ownsRow_keep h.sin fun b hb=>heap_setCells_ne (fun e=>(n4 b hb).2.2 e.symm) _ _ _,?_,h.n0,h.n1,h.c0,h.c1,h.nd⟩
 exact ⟨h.ok.now,by simp [h.ok.lasting],h.ok.since,h.ok.lo,h.ok.hi,h.ok.fuse⟩
set_option maxRecDepth 20000 in
set_option maxHeartbeats 2000000 in
theorem flush_any {w:World} {d:Nat} {O:List Nat} {N:Nat} {s:DS} (h:Drv w d O N s) :
  Calls Tryz.prog 98 #[.pointer (some ⟨d,0,none⟩)] w fun e w'=>e=.returned (.int .i64 s.flush.1)∧Did w d O N s.flush.2 w':=by
 obtain ⟨bn,cn,bl,cl,vs,rfl,h⟩:=h
 have H:=Lib.hid h
 cases hd:s.down with
 | true =>
  have HF:Hid (s.flush=(11,s)):=by show _=_;simp [DS.flush,hd]
  have hst:=h.st
  rw [hd] at hst
  have HS:=Lib.hid hst
  rw [HF.out]
  clear h hst hd
  go_enter Tryz.func98,Tryz.ntmps98
  go_wp2_with fail
  refine (ready_any HS.out).mono ?_
  rintro e w' ⟨rfl,rfl⟩
  go_wp2_with fail
  go_ret
  exact ⟨rfl,_,⟨bn,cn,bl,cl,vs,rfl,H.out⟩,Chg.refl _ _,fun b hb=>.inl hb⟩
 | false =>
  cases hp:s.pow with
  | false =>
   have HF:Hid (s.flush=(11,s.spend)):=by show _=_;simp [DS.flush,hd,hp]
   have hst:=h.st
   rw [hd] at hst
   have HS:=Lib.hid hst
   have HP:=Lib.hid (spend_any h hd)
   rw [HF.out]
   rw [hp] at HP
   clear h hst hd hp
   go_enter Tryz.func98,Tryz.ntmps98
   go_wp2_with fail
   refine (ready_any HS.out).mono ?_
   rintro e w' ⟨rfl,rfl⟩
   go_wp2_with fail
   refine HP.out.mono ?_
   rintro e w' ⟨rfl,hq⟩
   have HQ:=Lib.hid hq
   clear hq
   go_wp2_with fail
   go_ret
   exact ⟨rfl,_,⟨bn,cn,bl,cl,vs,rfl,HQ.out.1⟩,HQ.out.2.mono (fun b hb=>.inl (by simp at hb;simp [owns,hb])),fun b hb=>.inl hb⟩
  | true =>
   have HF:Hid (s.flush=(0,{ s.spend with lasting:=lay s.lasting s.since,since:=[] })):=by show _=_;simp [DS.flush,hd,hp]
   have hst:=h.st
   rw [hd] at hst
   have HS:=Lib.hid hst
   have HP:=Lib.hid (spend_any h hd)
   rw [HF.out]
   rw [hp] at HP
   obtain ⟨hn0,hn1⟩:=And.intro h.n0 h.n1
   clear h hst hd hp
   go_enter Tryz.func98,Tryz.ntmps98
   go_wp2_with fail
   refine (ready_any HS.out).mono ?_
   rintro e w' ⟨rfl,rfl⟩
   go_wp2_with fail
   refine HP.out.mono ?_
   rintro e w1 ⟨rfl,hq⟩
   have HQ:=Lib.hid hq
   have h2:=hq.1.st.c2
   clear hq
   obtain ⟨A,c,hvs,hc1,hc2⟩:∃ A c,vs=.slice A s.since.length c∧s.since.length≤c∧c≤maxLen:=by
    rcases H.out.sin.2 with ⟨rfl,h0⟩ | ⟨g,cap,cur,rfl,_,hg,hn,hm,_⟩
    ·exact ⟨none,0,by rw [h0],by omega,by decide⟩
    ·exact ⟨_,_,rfl,hn,hm⟩
   unfold maxLen at hc2
   have HV:=Lib.hid hvs
   rw [hvs] at h2
   clear hvs
   go_wp2_with fail
   clear h2
   go_loopw [19] (fun i wr=>∃ k:Nat,k≤s.since.length∧i=.int .i64 k∧Hid (DrvAt wr d N { s.spend with lasting:=lay s.lasting (s.since.take k) } bn cn bl cl vs)∧Hid (Chg (owns d bn bl vs) w wr)) (fun i _=>s.since.length - (intOf i).toNat)
   case atStart =>
    refine ⟨0,Nat.zero_le _,rfl,?_,HQ.out.2.mono (fun b hb=>.inl (by simp at hb;simp [owns,hb]))⟩
    have:({ s.spend with lasting:=lay s.lasting (s.since.take 0) }:DS)=s.spend:=by
     rw [List.take_zero];show ({ s.spend with lasting:=s.lasting }:DS)=_;rw [← spend_las s]
    show DrvAt _ _ _ _ _ _ _ _ _
    rw [this]
    exact HQ.out.1
   case round =>
    obtain ⟨k,hk,rfl,HD,HC⟩:=hrel
    by_cases hlt:k<s.since.length
    ·obtain ⟨p,hp⟩:∃ p,s.since[k]?=some p:=⟨_,List.getElem?_eq_getElem hlt⟩
     obtain ⟨g,c',hv,_,_,hg,hr⟩:=HD.out.at_ (k:=k) (p:=p) (by show s.spend.since[k]?=_;rw [spend_since];exact hp)
     have hv':Value.slice A s.since.length c=.slice (some ⟨g,0,none⟩) s.since.length c':=by rw [← HV.out,hv];show Value.slice _ s.spend.since.length _=_;rw [spend_since]
     obtain ⟨rfl,rfl⟩:A=some ⟨g,0,none⟩∧c=c':=by simpa using hv'
     have HX:=Lib.hid hp
     have HR:=Lib.hid hr
     obtain ⟨hpn,hpl⟩:=H.out.ok.since p (List.mem_of_getElem? hp)
     have HL:=Lib.hid hpl
     clear hp hr hv hv' hpl
     have hz:=z69
     have HI:Hid ((Tryz.prog.info? 202).map (·.size)=some (wc p).toArray.size):=by
      show _=_
      rw [List.size_toArray,wc_len HL.out];exact s69
     have HS2:Hid ((wc (0,zeros)).toArray.size=(wc p).toArray.size):=by
      show _=_
      rw [List.size_toArray,List.size_toArray,wc_len HL.out,wc_len zeros_len]
     go_wp2_with (first | (refine wpList_load_mid rfl 202 _ rfl g _ rfl (wc p) _ HR.out Tryz.underlying202 rfl (by rw [wc_len HL.out];exact s69) ?_) | (refine wpList_store_new rfl 202 _ _ rfl wr (wc (0,zeros)).toArray (wc p).toArray rfl rfl HI.out HS2.out (all_oneCell_toArray (wc_one p)) ?_) | fail)
     clear hz
     obtain ⟨q1,q2,q3,q4⟩:=ne_of_nd HD.out
     have hc1:(wr.alloc (.cells (wc p).toArray 202)).cell? ⟨d,1,none⟩=some (.slice (some ⟨bl,0,none⟩) N cl):=by
      rw [World.cell?_alloc_lt _ _ _ HD.out.st.lt];exact HD.out.st.c1
     have hnew:(wr.alloc (.cells (wc p).toArray 202)).heap[wr.heap.size]?=some (.cells (wc p).toArray 202 (0,0)):=heap_alloc_new _ _
     have hca:(wr.alloc (.cells (wc p).toArray 202)).cell? ⟨wr.heap.size,0,none⟩=some (.int .i64 (p.1:Int)):=by rw [cell_of hnew];rfl
     have hrr:(wr.alloc (.cells (wc p).toArray 202)).rangeAt wr.heap.size 1 (bc p.2):=fun j v hj=>by
      rw [cell_of hnew,Nat.add_comm,List.getElem?_toArray];exact hj
     have hth:(wr.alloc (.cells (wc p).toArray 202)).there bl (p.1 * 128) 128:=World.there_alloc (HD.out.las.there (by rw [HD.out.ok.lasting];exact hpn)) _
     have HD2:Hid (DrvAt ((wr.alloc (.cells (wc p).toArray 202)).drew.setCells bl (p.1 * 128) (bc p.2)) d N { s.spend with lasting:=lay s.lasting (s.since.take (k+1)) } bn cn bl cl vs):=by
      show DrvAt _ _ _ _ _ _ _ _ _
      rw [lay_take HX.out]
      exact DrvAt.laid (w:=(wr.alloc (.cells (wc p).toArray 202)).drew) (HD.out.keep fun b hb=>Below.heap_alloc _ _ _ (HD.out.lt b hb)) hpn HL.out
     have HC2:Hid (Chg (owns d bn bl vs) w ((wr.alloc (.cells (wc p).toArray 202)).drew.setCells bl (p.1 * 128) (bc p.2))):=(HC.out.alloc _).drew.setCells (.inl (by simp [owns])) _ _
     have hlen:(bc p.2).length=128:=by rw [bc_len,HL.out]
     have hone:=bc_one p.2
     have hu:=Tryz.underlying200
     have hi:(Tryz.prog.info? 200).map (·.size)=some (bc p.2).length:=by rw [hlen];exact s67
     have hdn:d≠bl:=q2
     have hhn:wr.heap.size≠bl:=by have:=HD.out.las.lt;omega
     clear HI HS2 HR HX q1 q2 q3 q4 HC hnew
     generalize (wr.alloc (.cells (wc p).toArray 202))=w2 at *
     generalize wr.heap.size=h at *
     obtain ⟨n,x⟩:=p
     simp only at *
     have hk0:(0:Int)≤(n:Int):=Int.natCast_nonneg _
     have hk8:(n:Int)<N:=by omega
     generalize bc x=cs at *
     go_region_held3 (fun w'=>w'.cell? ⟨d,1,none⟩=some (.slice (some ⟨bl,0,none⟩) N cl)∧w'.cell? ⟨h,0,none⟩=some (.int .i64 (n:Int))∧w'.rangeAt h 1 cs∧w'.there bl (n * 128) 128) ((go_split_ands;(try simp only [World.rangeAt_drew,World.there_drew] at *);(repeat' constructor)<;>first | assumption | (apply World.there_setCells;assumption) | (refine (World.cell?_setCells_out _ _ _ _ _ (fun e _=>absurd e hdn)).trans (by assumption)) | (refine (World.cell?_setCells_out _ _ _ _ _ (fun e _=>absurd e hhn)).trans (by assumption)) | (refine World.rangeAt_setCells_apart (by assumption) _ _ _ (Or.inl hhn)))) (fail)
     go_wp2_with fail
     go_roundw
     case rel=>exact ⟨k+1,by omega,by go_num,HD2,HC2⟩
     case measure=>simp [intOf];omega
    ·obtain rfl:k=s.since.length:=by omega
     have h2:=HD.out.st.c2
     have f2:=HD.out.st.fr 2
     rw [HV.out] at h2
     go_wp2_with fail
     go_ret
     refine ⟨rfl,owns d bn bl (.slice none 0 0),⟨bn,cn,bl,cl,_,rfl,?_⟩,HC.out.setCell (.inl (by simp [owns])) _,fun b hb=>.inl ?_⟩
     ·have hd:=HD.out
      rw [List.take_length] at hd
      obtain ⟨n1,n2,n3,n4⟩:=ne_of_nd hd
      refine ⟨heap_setCell_at hd.st _,hd.now.keep (Below.heap_setCell _ _ _ _ (by show bn≠d;omega)),hd.las.keep (Below.heap_setCell _ _ _ _ (by show bl≠d;omega)),World.ownsRow_nil _ _ _ _,⟨hd.ok.now,hd.ok.lasting,by simp,hd.ok.lo,hd.ok.hi,hd.ok.fuse⟩,hd.n0,hd.n1,hd.c0,hd.c1,by simp [owns,Value.ownBlock];omega⟩
     ·simp [owns,Value.ownBlock] at hb ⊢
      omega
end Go.Proofs.YtkganhafbjgndaaGreatRR
namespace Go.Proofs.YtkganhafbjgndaaGreatRR
open Go.RowKit
set_option linter.unusedVariables false
def CloneP (w:World) (N:Nat) (l:List (List UInt8)) (e:Ending) (w':World):Prop :=
 ∃ g cap,e=.returned (.slice (some ⟨g,0,none⟩) N cap)∧N≤cap∧w.heap.size≤g∧Secs w' g l∧Below w.heap.size w w'
end Go.Proofs.YtkganhafbjgndaaGreatRR
namespace Go.Proofs.YtkganhafbjgndaaGreatRR
open Go.RowKit
set_option linter.unusedVariables false
structure Ints (w:World) (M:Nat→Prop) (A:Option Addr) (n c:Nat) (l:List Int):Prop where
 len:l.length=n
 cap:n≤c
 lim:c≤maxLen
 at_:0<n→∃ b off,A=some ⟨b,off,none⟩∧M b∧∀ j,j<n→w.cell? ⟨b,off+j,none⟩=some (.int .i64 (l[j]?.getD 0))
theorem Ints.keep {w w':World} {M:Nat→Prop} {A:Option Addr} {n c:Nat} {l:List Int} (h:Ints w M A n c l) (hk:∀ b,M b→w'.heap[b]?=w.heap[b]?):Ints w' M A n c l :=
 ⟨h.len,h.cap,h.lim,fun hn=>by
  obtain ⟨b,off,e,hb,hc⟩:=h.at_ hn
  exact ⟨b,off,e,hb,fun j hj=>(World.cell?_of_block (a:=⟨b,off+j,none⟩) (hk b hb)).trans (hc j hj)⟩⟩
def RS (w:World) (d bl:Nat) (L:List (List UInt8)):Prop:=w.there d 0 6∧Secs w bl L∧d≠bl∧d<w.heap.size
def RC (w:World) (d:Nat) (V:Value):Prop:=w.cell? ⟨d,1,none⟩=some V
theorem RS.after {w w3:World} {d bl:Nat} {L:List (List UInt8)} {V:Value} (h:w.cell? ⟨d,1,none⟩=some V∧RS w d bl L) (hb:Below w.heap.size w w3):w3.cell? ⟨d,1,none⟩=some V∧RS w3 d bl L:=by
 obtain ⟨h1,h2,h3,h4,h5⟩:=h
 refine ⟨(hb.cell (p:=⟨d,1,none⟩) h5).trans h1,fun j hj=>?_,h3.keep (hb.block bl h3.lt),h4,Nat.lt_of_lt_of_le h5 hb.size⟩
 rw [hb.cell (p:=⟨d,0+j,none⟩) h5,hb.frozen (p:=⟨d,0+j,none⟩) h5]
 exact h2 j hj
theorem RS.set {w:World} {d bl:Nat} {L:List (List UInt8)} {V v0 v2 v3 v4 v5:Value} (h:w.cell? ⟨d,1,none⟩=some V∧RS w d bl L):(w.setCells d 0 [v0,V,v2,v3,v4,v5]).cell? ⟨d,1,none⟩=some V∧RS (w.setCells d 0 [v0,V,v2,v3,v4,v5]) d bl L:=by
 obtain ⟨h1,h2,h3,h4,h5⟩:=h
 refine ⟨World.cell?_setCells_in d [v0,V,v2,v3,v4,v5] 0 w (fun j hj=>(h2 j hj).1) 1 (by simp),World.there_setCells h2 _ _ _,h3.keep (heap_setCells_ne (fun e=>h4 e.symm) _ _ _),h4,by rw [heap_size_setCells];exact h5⟩
end Go.Proofs.YtkganhafbjgndaaGreatRR
