/- Nodes (node), walked. -/
import Derived.Test.YtkganhafbjgndaaGreatRRZMF
import Derived.Lib.AppendZerosOnto
import Derived.Deep.Draws
import Derived.Deep.MidRow
import Derived.Deep.WholeRow
import Derived.Laws.Rows
import Derived.Laws.ResultCell
import Derived.Laws.CopyOwn
import Derived.Deep.RegionLaw
import Derived.Handy
import Derived.Deep.Cut
import Derived.Laws.StructEq
import Derived.Deep.RegionWith
import Derived.Deep.CutRange
import Derived.StillTailTactics
import Derived.Deep.RegionHeld3
namespace Go.Proofs.YtkganhafbjgndaaGreatRR.D
open Go.RowKit
set_option linter.unusedVariables false
theorem retb {a b:Bool} (h:a=b):Ending.returned (.bool a)=.returned (.bool b):=by rw [h]
def sb (l:List UInt8):ByteArray:=⟨l.toArray⟩
def noughtsL (k:Nat):ByteArray:=sb (List.replicate k 0)
end Go.Proofs.YtkganhafbjgndaaGreatRR.D
namespace Go.Proofs.YtkganhafbjgndaaGreatRR.D
set_option linter.unusedVariables false
structure Nd where
 k:Int
 l:Int
 g:Int
 s:Int
 c:Int
 d0:Int
 d1:Int
 d2:Int
 d3:Int
 o:Int
 t:Int
instance :DecidableEq Nd:=fun x y=>decidable_of_iff (x.k=y.k∧x.l=y.l∧x.g=y.g∧x.s=y.s∧x.c=y.c∧x.d0=y.d0∧x.d1=y.d1∧x.d2=y.d2∧x.d3=y.d3∧x.o=y.o∧x.t=y.t) (by cases x;cases y;simp)
structure Nn where
 k:Nat
 l:Nat
 g:Nat
 s:Nat
 c:Nat
 d0:Nat
 d1:Nat
 d2:Nat
 d3:Nat
 o:Nat
 t:Nat
def Nn.up (x:Nn):Nd:=⟨x.k,x.l,x.g,x.s,x.c,x.d0,x.d1,x.d2,x.d3,x.o,x.t⟩
def zeroN:Nn:=⟨0,0,0,0,0,0,0,0,0,0,0⟩
theorem Nn.up_inj {x y:Nn} (h:x.up=y.up):x=y:=by
 cases x;cases y
 simp only [Nn.up,Nd.mk.injEq] at h
 simp only [Nn.mk.injEq]
 omega
def ptr (n:Int):Bool:=decide (n=0∨(43≤n∧n≤1023))
theorem ptr_iff {n:Int}:ptr n=true ↔ n=0∨(43≤n∧n≤1023):=by simp [ptr]
theorem ptr_not {n:Int}:ptr n=false ↔ ¬ (n=0∨(43≤n∧n≤1023)):=by simp [ptr]
def Nd.ptrs (x:Nd):Bool:=ptr x.d0 && ptr x.d1 && ptr x.d2 && ptr x.d3 && ptr x.o && ptr x.t
def Nd.none_ (x:Nd):Bool:=decide (x.d0=0∧x.d1=0∧x.d2=0∧x.d3=0∧x.o=0∧x.t=0)
def Nd.nums (x:Nd):Bool:=decide (0≤x.g∧x.g≤1073741824∧0≤x.c∧x.c≤1073741824)
def Nd.kind (x:Nd):Bool:=decide ((x.k=0∧x.l=0∧x.s=0∧x.none_=true)∨(x.k=1∧1≤x.l∧x.l≤255∧0≤x.s∧x.s≤9728)∨(x.k=2∧x.l=1∧0≤x.s∧x.s≤9728∧x.s % 32=0))
def Nd.ok (x:Nd):Bool:=x.nums && x.ptrs && x.kind
theorem Nd.ok_iff {x:Nd}:x.ok=true ↔ x.nums=true∧x.ptrs=true∧x.kind=true:=by simp [Nd.ok,and_assoc]
theorem Nd.ok_nat {x:Nd} (h:x.ok=true):∃ y:Nn,x=y.up∧y.k<256∧y.l<256∧y.g<4294967296∧y.s<4294967296∧y.c<4294967296∧y.d0<1024∧y.d1<1024∧y.d2<1024∧y.d3<1024∧y.o<1024∧y.t<1024:=by
 obtain ⟨h1,h2,h3⟩:=Nd.ok_iff.1 h
 simp only [Nd.nums,decide_eq_true_eq] at h1
 simp only [Nd.ptrs,Bool.and_eq_true,ptr_iff] at h2
 simp only [Nd.kind,decide_eq_true_eq] at h3
 refine ⟨⟨x.k.toNat,x.l.toNat,x.g.toNat,x.s.toNat,x.c.toNat,x.d0.toNat,x.d1.toNat,x.d2.toNat,x.d3.toNat,x.o.toNat,x.t.toNat⟩,?_,?_⟩
 ·cases x
  simp only [Nn.up,Nd.mk.injEq] at h1 h2 h3 ⊢
  omega
 ·simp only
  omega
structure Nn.Fits (y:Nn):Prop where
 k:y.k<256
 l:y.l<256
 g:y.g<4294967296
 s:y.s<4294967296
 c:y.c<4294967296
 d0:y.d0<65536
 d1:y.d1<65536
 d2:y.d2<65536
 d3:y.d3<65536
 o:y.o<65536
 t:y.t<65536
theorem Nn.fits {y:Nn} (h:y.up.ok=true):y.Fits:=by
 obtain ⟨z,e,h0,h1,h2,h3,h4,h5,h6,h7,h8,h9,h10⟩:=Nd.ok_nat h
 obtain rfl:=Nn.up_inj e
 exact ⟨h0,h1,h2,h3,h4,by omega,by omega,by omega,by omega,by omega,by omega⟩
def Nn.head (y:Nn):List UInt8:=[UInt8.ofNat y.k,UInt8.ofNat y.l]
def Nn.nums3 (y:Nn):Nat→Nat
 | 0=>y.g
 | 1=>y.s
 | _=>y.c
def Nn.ptr6 (y:Nn):Nat→Nat
 | 0=>y.d0
 | 1=>y.d1
 | 2=>y.d2
 | 3=>y.d3
 | 4=>y.o
 | _=>y.t
def Nn.part (y:Nn):Nat→List UInt8
 | 0=>y.head
 | k+1=>y.part k++F.lit 4 (y.nums3 k)
def Nn.parp (y:Nn):Nat→List UInt8
 | 0=>y.part 3
 | k+1=>y.parp k++F.lit 2 (y.ptr6 k)
def Nn.img (y:Nn):List UInt8:=y.parp 6++List.replicate 6 0
theorem Nn.part_len (y:Nn) (k:Nat):(y.part k).length=2+4 * k:=by
 induction k with
 | zero=>rfl
 | succ k ih=>simp [Nn.part,ih,F.lit_length];omega
theorem Nn.parp_len (y:Nn) (k:Nat):(y.parp k).length=14+2 * k:=by
 induction k with
 | zero=>exact y.part_len 3
 | succ k ih=>simp [Nn.parp,ih,F.lit_length];omega
theorem Nn.img_len (y:Nn):y.img.length=32:=by simp [Nn.img,Nn.parp_len]
def num2 (b:List UInt8) (i:Nat):Nat:=(b[14+2 * i]?.getD 0).toNat+256 * (b[14+2 * i+1]?.getD 0).toNat
def num4 (b:List UInt8) (i:Nat):Nat:=F.big ((b.drop (2+4 * i)).take 4)
def rd (b:List UInt8):Nn:=⟨(b[0]?.getD 0).toNat,(b[1]?.getD 0).toNat,num4 b 0,num4 b 1,num4 b 2,num2 b 0,num2 b 1,num2 b 2,num2 b 3,num2 b 4,num2 b 5⟩
theorem num2_lt (b:List UInt8) (i:Nat):num2 b i<65536:=by
 have h1:=(b[14+2 * i]?.getD 0).toNat_lt
 have h2:=(b[14+2 * i+1]?.getD 0).toNat_lt
 unfold num2
 omega
theorem num4_lt (b:List UInt8) (i:Nat):num4 b i<4294967296:=by
 have h:=F.big_lt ((b.drop (2+4 * i)).take 4)
 have h2:((b.drop (2+4 * i)).take 4).length≤4:=by simp;omega
 have h3:256 ^ ((b.drop (2+4 * i)).take 4).length≤256 ^ 4:=Nat.pow_le_pow_right (by omega) h2
 unfold num4
 omega
theorem rd_fits (b:List UInt8):(rd b).Fits :=
 ⟨UInt8.toNat_lt _,UInt8.toNat_lt _,num4_lt b 0,num4_lt b 1,num4_lt b 2,num2_lt b 0,num2_lt b 1,num2_lt b 2,num2_lt b 3,num2_lt b 4,num2_lt b 5⟩
theorem rd_img {y:Nn} (h:y.Fits) (z:List UInt8):rd (y.parp 6++z)=y:=by
 obtain ⟨h0,h1,h2,h3,h4,h5,h6,h7,h8,h9,h10⟩:=h
 cases y
 simp only at h0 h1 h2 h3 h4 h5 h6 h7 h8 h9 h10
 simp [rd,num2,num4,Nn.parp,Nn.part,Nn.head,Nn.nums3,Nn.ptr6,F.lit,F.big]
 omega
def put (b:List UInt8) (i:Nat) (p:List UInt8):List UInt8:=b.take (32 * i)++p++b.drop (32 * i+32)
def piece (b:List UInt8) (i:Nat):List UInt8:=(b.drop (32 * i)).take 32
theorem put_len {b p:List UInt8} {i:Nat} (hb:b.length=128) (hi:i<4) (hp:p.length=32):(put b i p).length=128:=by
 simp [put,hb,hp];omega
theorem piece_len {b:List UInt8} {i:Nat} (hb:b.length=128) (hi:i<4):(piece b i).length=32:=by
 simp [piece,hb];omega
theorem piece_put {b p:List UInt8} {i:Nat} (hb:b.length=128) (hi:i<4) (hp:p.length=32):piece (put b i p) i=p:=by
 have h1:(b.take (32 * i)).length=32 * i:=by simp [hb];omega
 unfold piece put
 rw [List.append_assoc,List.drop_append_of_le_length (by omega),List.drop_of_length_le (by omega),List.nil_append,List.take_append_of_le_length (by omega),List.take_of_length_le (by omega)]
theorem piece_put_ne {b p:List UInt8} {i j:Nat} (hb:b.length=128) (hi:i<4) (hj:j<4) (hp:p.length=32) (hn:i≠j):piece (put b i p) j=piece b j:=by
 apply List.ext_getElem?
 intro n
 unfold piece put
 simp only [List.getElem?_take,List.getElem?_drop]
 split
 ·rename_i hn'
  by_cases hlt:i<j
  ·rw [List.getElem?_append_right (by simp [hb,hp];omega)]
   simp [hb,hp]
   congr 1
   omega
  ·rw [List.append_assoc,List.getElem?_append_left (by simp [hb];omega)]
   simp [List.getElem?_take]
   omega
 ·rfl
def good (p:List UInt8):Bool:=(rd p).up.ok && decide ((rd p).img=p)
theorem good_img {y:Nn} (h:y.up.ok=true):good y.img=true∧rd y.img=y:=by
 have e:rd y.img=y:=rd_img (Nn.fits h) _
 refine ⟨?_,e⟩
 simp [good,e,h]
end Go.Proofs.YtkganhafbjgndaaGreatRR.D
namespace Go.Proofs.YtkganhafbjgndaaGreatRR.D
open Go.RowKit
set_option linter.unusedVariables false
def iv (n:Int):Value:=.int .i64 n
def nc (x:Nd):List Value:=[iv x.k,iv x.l,iv x.g,iv x.s,iv x.c,iv x.d0,iv x.d1,iv x.d2,iv x.d3,iv x.o,iv x.t]
def pc (x:Nd):List Value:=[iv x.d0,iv x.d1,iv x.d2,iv x.d3,iv x.o,iv x.t]
theorem nc_one (x:Nd):∀ v∈nc x,v.oneCell'=true:=by
 intro v hv
 simp only [nc,List.mem_cons,List.not_mem_nil,or_false] at hv
 rcases hv with rfl | rfl | rfl | rfl | rfl | rfl | rfl | rfl | rfl | rfl | rfl<;>rfl
theorem pc_one (x:Nd):∀ v∈pc x,v.oneCell'=true:=by
 intro v hv
 simp only [pc,List.mem_cons,List.not_mem_nil,or_false] at hv
 rcases hv with rfl | rfl | rfl | rfl | rfl | rfl<;>rfl
theorem bv_one (l:List UInt8):∀ v∈l.map F.bv,v.oneCell'=true:=by
 intro v hv
 obtain ⟨b,_,rfl⟩:=List.mem_map.1 hv
 rfl
theorem s25:(Tryz.prog.info? 66).map (·.size)=some 11:=by kernel_rfl
theorem s49:(Tryz.prog.info? 228).map (·.size)=some 6:=by kernel_rfl
theorem s44:(Tryz.prog.info? 172).map (·.size)=some 32:=by kernel_rfl
theorem s3:(Tryz.prog.info? 3).map (·.size)=some 1:=by kernel_rfl
theorem s5:(Tryz.prog.info? 5).map (·.size)=some 1:=by kernel_rfl
theorem box_below (w:World) (o:Obj):Below w.heap.size w (w.alloc o):=(Below.refl _ w).alloc (Nat.le_refl _) o
theorem box1 (w:World) (o:Obj):(w.alloc o).heap[w.heap.size]?=some o∧Below w.heap.size w (w.alloc o)∧(w.alloc o).heap.size=w.heap.size+1 :=
 ⟨heap_alloc_new w o,box_below w o,by simp⟩
theorem box2 (w:World) (o1 o2:Obj):((w.alloc o1).alloc o2).heap[w.heap.size]?=some o1∧((w.alloc o1).alloc o2).heap[w.heap.size+1]?=some o2∧Below w.heap.size w ((w.alloc o1).alloc o2)∧((w.alloc o1).alloc o2).heap.size=w.heap.size+1+1:=by
 obtain ⟨a1,a2,a3⟩:=box1 w o1
 obtain ⟨b1,b2,b3⟩:=box1 (w.alloc o1) o2
 rw [a3] at b1 b2 b3
 exact ⟨(b2.block _ (by omega)).trans a1,b1,a2.trans (b2.mono (by omega)),b3⟩
theorem box3 (w:World) (o1 o2 o3:Obj):(((w.alloc o1).alloc o2).alloc o3).heap[w.heap.size]?=some o1∧(((w.alloc o1).alloc o2).alloc o3).heap[w.heap.size+1]?=some o2∧(((w.alloc o1).alloc o2).alloc o3).heap[w.heap.size+1+1]?=some o3∧Below w.heap.size w (((w.alloc o1).alloc o2).alloc o3)∧(((w.alloc o1).alloc o2).alloc o3).heap.size=w.heap.size+1+1+1:=by
 obtain ⟨a1,a2,a3,a4⟩:=box2 w o1 o2
 obtain ⟨b1,b2,b3⟩:=box1 ((w.alloc o1).alloc o2) o3
 rw [a4] at b1 b2 b3
 exact ⟨(b2.block _ (by omega)).trans a1,(b2.block _ (by omega)).trans a2,b1,a3.trans (b2.mono (by omega)),b3⟩
theorem load_row {P:Program} (w:World) (g:Nat) (t ty:TypeId) (cs:Array Value) (fr:Nat × Nat) (d:TypeDesc) (hg:w.heap[g]?=some (.cells cs t fr)) (hu:P.underlying ty=some d) (hd:d.isRow=true) (hi:(P.info? ty).map (·.size)=some cs.size) :
  (loadVar ty ⟨g,0,none⟩).run P w=.ok (.agg cs) w:=by
 have:=run_loadVar_mid w g 0 ty cs.toList d (fun j v hv=>by rw [Nat.zero_add,cell_of_row w g j cs t fr hg];simpa using hv) hu hd (by simpa using hi)
 simpa using this
theorem wpList_load_row {P:Program} {ops:Array Oper} {rest:List Oper} {op:Oper} {a:Act} {w:World} {Q:Exit→Act→World→Prop} (hw:Region.wanted op (yielded ops a.tmps)=true) (ty:TypeId) (x:Operand) (ho:op.op=.load ty x)
  (g:Nat) (hx:a.eval x=.pointer (some ⟨g,0,none⟩)) (C:Array Value) (t:TypeId) (fr:Nat × Nat) (hg:w.heap[g]?=some (.cells C t fr)) (d:TypeDesc)
  (hu:P.underlying ty=some d) (hd:d.isRow=true) (hi:(P.info? ty).map (·.size)=some C.size)
  (h:wpList P ops Q rest (a.put op.dst (.agg C)) w):wpList P ops Q (op :: rest) a w :=
 wpList_step fun K hK=>by
  simp only [hw,if_true]
  unfold Oper.wp execOp
  simp only [ho,hx,Instr.loadAt,Instr.sureAddr,Sem.run_bind,Sem.run_pure,Result.andThen_ok,load_row w g t ty C fr d hg hu hd hi]
  exact hK _ _ h
theorem wpList_store_row {P:Program} {ops:Array Oper} {rest:List Oper} {op:Oper} {a:Act} {w:World} {Q:Exit→Act→World→Prop} (hgd:op.guard=none) (ty:TypeId) (x y:Operand) (ho:op.op=.store ty x y)
  (g:Nat) (C C':Array Value) (t:TypeId) (hx:a.eval x=.pointer (some ⟨g,0,none⟩)) (hy:a.eval y=.agg C') (hg:w.heap[g]?=some (.cells C t (0,0)))
  (hi:(P.info? ty).map (·.size)=some C'.size) (hs:C.size=C'.size) (h1:C'.all (·.oneCell')=true)
  (h:wpList P ops Q rest (a.put op.dst undef) (w.setRow g C')):wpList P ops Q (op :: rest) a w :=
 wpList_plain hgd fun K hK=>by
  unfold Oper.wp execOp
  simp only [ho,hx,hy,Instr.storeAt,Instr.sureAddr,Sem.run_bind,Sem.run_pure,Result.andThen_ok,run_storeVar_row w g t ty C C' hg hi hs h1]
  exact hK _ _ h
theorem wpList_store_new {P:Program} {ops:Array Oper} {rest:List Oper} {op:Oper} {a:Act} {Q:Exit→Act→World→Prop} (hgd:op.guard=none) (ty:TypeId) (x y:Operand) (ho:op.op=.store ty x y)
  (w:World) (c c':Array Value) (hx:a.eval x=.pointer (some ⟨w.heap.size,0,none⟩)) (hy:a.eval y=.agg c')
  (hi:(P.info? ty).map (·.size)=some c'.size) (hs:c.size=c'.size) (h1:c'.all (·.oneCell')=true)
  (h:wpList P ops Q rest (a.put op.dst undef) (w.alloc (.cells c' ty))):wpList P ops Q (op :: rest) a (w.alloc (.cells c ty)) :=
 wpList_plain hgd fun K hK=>by
  unfold Oper.wp execOp
  simp only [ho,hx,hy,Instr.storeAt,Instr.sureAddr,Sem.run_bind,Sem.run_pure,Result.andThen_ok,run_storeVar_new w ty c c' hi hs h1]
  exact hK _ _ h
theorem copy_run {w:World} {dT ty elem:TypeId} (hu:Tryz.prog.underlying dT=some (.slice elem)) (hs:(Tryz.prog.info? elem).map (·.size)=some 1) {g off dLen dCap sLen sCap:Nat} {ad:Addr} {L cs:List Value} {t:TypeId}
  (hg:w.heap[g]?=some (.cells L.toArray t (0,0))) (hn:cs.length=Nat.min sLen dLen) (hsrc:∀ j v,cs[j]?=some v→w.cell? (ad.add j)=some v) (hfit:off+cs.length≤L.length) (h1:∀ v∈cs,v.oneCell'=true) :
  ∃ w',(Builtin.copy_ #[dT,dT] ty #[.slice (some ⟨g,off,none⟩) dLen dCap,.slice (some ad) sLen sCap]).run Tryz.prog w=.ok (goInt cs.length) w'∧w'.heap[g]?=some (.cells (splice L off cs).toArray t (0,0))∧w.grownBy w' (some g)∧w'.heap.size=w.heap.size:=by
 have hr:=run_copy_row (P:=Tryz.prog) w dT dT ty elem g off dLen dCap ad sLen sCap L.toArray t cs hu hs hg hn hsrc (by simpa using hfit) h1
 refine ⟨_,hr,?_,⟨rfl,rfl,rfl,by simp [World.setRow],fun k _ hk=>setRow_other w g k _ (fun e=>hk (by simp [e]))⟩,by simp [World.setRow]⟩
 simpa [splice] using setRow_heap w g _ _ t _ hg
theorem ret_row {fn:Func} {p:Tmp} {ty:TypeId} (h:fn.results=#[.cell p ty]) {tmps:Array Value} {W:World} {g:Nat} {cs:Array Value} {t:TypeId} {fr:Nat × Nat} {d:TypeDesc} (hp:tmps.getD p undef=.pointer (some ⟨g,0,none⟩)) (hg:W.heap[g]?=some (.cells cs t fr))
  (hu:Tryz.prog.underlying ty=some d) (hd:d.isRow=true) (hi:(Tryz.prog.info? ty).map (·.size)=some cs.size):(results fn tmps).run Tryz.prog W=.ok (.agg cs) W:=by
 have hl:=load_row (P:=Tryz.prog) W g t ty cs fr d hg hu hd hi
 have hp':tmps[p]?.getD undef=.pointer (some ⟨g,0,none⟩):=by simpa using hp
 simp only [results,h]
 simp [hp',asAddr,hl]
theorem ret_row2 {fn:Func} {p u:Tmp} {ty:TypeId} (h:fn.results=#[.cell p ty,.tmp u]) {tmps:Array Value} {W:World} {g:Nat} {cs:Array Value} {t:TypeId} {fr:Nat × Nat} {d:TypeDesc} (hp:tmps.getD p undef=.pointer (some ⟨g,0,none⟩)) (hg:W.heap[g]?=some (.cells cs t fr))
  (hu:Tryz.prog.underlying ty=some d) (hd:d.isRow=true) (hi:(Tryz.prog.info? ty).map (·.size)=some cs.size):(results fn tmps).run Tryz.prog W=.ok (.tuple #[.agg cs,tmps.getD u undef]) W:=by
 rw [results_cell_tmp h,hp]
 have hl:=load_row (P:=Tryz.prog) W g t ty cs fr d hg hu hd hi
 simp only [asAddr,Sem.run_pure,Result.andThen_ok,hl]
theorem setRow_in (w:World) (g:Nat) (C C':Array Value) (t:TypeId) (h:w.heap[g]?=some (.cells C t (0,0))):(w.setRow g C').heap[g]?=some (.cells C' t (0,0)):=setRow_heap w g C C' t _ h
theorem heap_setCells {b:Nat} {t:TypeId}:∀ (vs:List Value) (o:Nat) {w:World} {C:List Value},w.heap[b]?=some (.cells C.toArray t (0,0))→o+vs.length=C.length→(w.setCells b o vs).heap[b]?=some (.cells (C.take o++vs).toArray t (0,0))
 | [],o,w,C,h,hl=>by
  have:C.take o=C:=List.take_of_length_le (by simp at hl;omega)
  rw [World.setCells,this,List.append_nil]
  exact h
 | v :: r,o,w,C,h,hl=>by
  have hlt:o<C.length:=by simp at hl;omega
  have h':(w.setCell ⟨b,o,none⟩ v).heap[b]?=some (.cells (C.set o v).toArray t (0,0)):=by
   have:=F.heap_set h o v
   simpa using this
  have:=heap_setCells r (o+1) h' (by simp at hl ⊢;omega)
  rw [World.setCells,this]
  congr 3
  rw [List.take_succ_eq_append_getElem (by simpa using hlt),List.take_set_of_le (Nat.le_refl _)]
  simp
theorem heap_setCells_ne {b b':Nat} (hb:b'≠b):∀ (vs:List Value) (o:Nat) (w:World),(w.setCells b o vs).heap[b']?=w.heap[b']?
 | [],_,_=>rfl
 | v :: r,o,w=>by rw [World.setCells,heap_setCells_ne hb r (o+1),Below.heap_setCell _ _ _ _ hb]
theorem below_setCells {b B:Nat} (hB:B≤b):∀ (vs:List Value) (o:Nat) {a w:World},Below B a w→Below B a (w.setCells b o vs)
 | [],_,_,_,h=>h
 | v :: r,o,_,_,h=>below_setCells hB r (o+1) (h.setCell (p:=⟨b,o,none⟩) hB v)
end Go.Proofs.YtkganhafbjgndaaGreatRR.D
namespace Go.Proofs.YtkganhafbjgndaaGreatRR.D
open Go.RowKit
set_option linter.unusedVariables false
abbrev z6:Array Value:=#[.int .i64 0,.int .i64 0,.int .i64 0,.int .i64 0,.int .i64 0,.int .i64 0]
def dc (x:Nd):List Value:=[iv x.d0,iv x.d1,iv x.d2,iv x.d3]
theorem dc_one (x:Nd):∀ v∈dc x,v.oneCell'=true:=by
 intro v hv
 simp only [dc,List.mem_cons,List.not_mem_nil,or_false] at hv
 rcases hv with rfl | rfl | rfl | rfl<;>rfl
theorem dc_in {W:World} {g:Nat} {x:Nd} {t:TypeId} {fr:Nat × Nat} (h:W.heap[g]?=some (.cells (nc x).toArray t fr)):∀ j v,(dc x)[j]?=some v→W.cell? ((⟨g,5,none⟩:Addr).add j)=some v:=by
 intro j v hv
 rw [Addr.add_mid,cell_of_row W g _ _ t fr h]
 match j,hv with
 | 0,hv=>exact hv
 | 1,hv=>exact hv
 | 2,hv=>exact hv
 | 3,hv=>exact hv
set_option maxHeartbeats 1000000 in
theorem pointersOf_any (x:Nd) (w:World):Calls Tryz.prog 156 #[.agg (nc x).toArray] w fun e w'=>e=.returned (.agg (pc x).toArray)∧Below w.heap.size w w':=by
 go_enter Tryz.func156,Tryz.ntmps156
 go_wp2_with fail
 obtain ⟨a0,a1,a2,ab,az⟩:=box3 w (Obj.cells (nc x).toArray 66) (Obj.cells z6 228) (Obj.cells z6 228)
 generalize ((w.alloc (Obj.cells (nc x).toArray 66)).alloc (Obj.cells z6 228)).alloc (Obj.cells z6 228)=W at *
 have A0:=Lib.hid a0
 have A1:=Lib.hid a1
 have AB:=Lib.hid ab
 obtain ⟨W2,hr,hg2,hgr,hz2⟩:=copy_run (w:=W.drew) (ty:=3) (dLen:=6) (dCap:=6) (sLen:=4) (sCap:=4) Tryz.underlying54 s3 (L:=z6.toList) (off:=0) a2 (cs:=dc x) rfl (dc_in (W:=W.drew) a0) (by simp [dc]) (dc_one x)
 have A2:Hid (W2.heap[w.heap.size]?=some (.cells (nc x).toArray 66 (0,0))):=(hgr.block _ (by simp;omega) (by simp;omega)).trans a0
 have A3:Hid (W2.heap[w.heap.size+1]?=some (.cells z6 228 (0,0))):=(hgr.block _ (by simp;omega) (by simp)).trans a1
 have B2:Hid (Below w.heap.size w W2):=ab.drew.grown hgr (by simp;omega) (fun k hk=>by cases hk;omega)
 have G2:=Lib.hid hg2
 have c9:W2.cell? ⟨w.heap.size,9,none⟩=some (.int .i64 x.o):=cell_of_row _ _ 9 _ _ _ A2.out
 have c10:W2.cell? ⟨w.heap.size,10,none⟩=some (.int .i64 x.t):=cell_of_row _ _ 10 _ _ _ A2.out
 have e4:W2.cell? ⟨w.heap.size+1+1,4,none⟩=some (.int .i64 0):=cell_of_row _ _ 4 _ _ _ G2.out
 have e5:W2.cell? ⟨w.heap.size+1+1,5,none⟩=some (.int .i64 0):=cell_of_row _ _ 5 _ _ _ G2.out
 have f4:=F.free_in G2.out 4
 have f5:=F.free_in G2.out 5
 have HB:Hid (Below w.heap.size w ((W2.setCell ⟨w.heap.size+1+1,4,none⟩ (.int .i64 x.o)).setCell ⟨w.heap.size+1+1,5,none⟩ (.int .i64 x.t))):=(B2.out.setCell (p:=⟨w.heap.size+1+1,4,none⟩) (by simp;omega) _).setCell (p:=⟨w.heap.size+1+1,5,none⟩) (by simp;omega) _
 have HG:Hid (((W2.setCell ⟨w.heap.size+1+1,4,none⟩ (.int .i64 x.o)).setCell ⟨w.heap.size+1+1,5,none⟩ (.int .i64 x.t)).heap[w.heap.size+1+1]?=some (.cells (pc x).toArray 228 (0,0))):=F.heap_set (F.heap_set G2.out 4 _) 5 _
 have HR:Hid (((W2.setCell ⟨w.heap.size+1+1,4,none⟩ (.int .i64 x.o)).setCell ⟨w.heap.size+1+1,5,none⟩ (.int .i64 x.t)).heap[w.heap.size+1]?=some (.cells z6 228 (0,0))):=by
  show _=_
  rw [Below.heap_setCell _ _ _ _ (by simp),Below.heap_setCell _ _ _ _ (by simp)]
  exact A3.out
 clear a0 a1 a2 ab az hgr hg2 hz2
 go_region
 go_wp2_with (first | (refine wpList_load_row rfl 228 _ rfl (w.heap.size+1+1) rfl _ _ _ HG.out _ Tryz.underlying228 rfl s49 ?_) | (refine wpList_store_row rfl 228 _ _ rfl (w.heap.size+1) _ _ 228 rfl rfl HR.out s49 rfl (all_oneCell_toArray (pc_one x)) ?_) | fail)
 refine bodyPost_ret (ret_row rfl rfl (setRow_in _ _ _ _ _ HR.out) Tryz.underlying228 rfl s49) rfl ?_
 exact ⟨rfl,below_setRow HB.out (by omega) _⟩
end Go.Proofs.YtkganhafbjgndaaGreatRR.D
namespace Go.Proofs.YtkganhafbjgndaaGreatRR.D
open Go.RowKit
set_option linter.unusedVariables false
theorem has_yes (A:Option Addr) (n c:Nat) (i:Int) (w:World) (hn:n=128) (h0:0≤i) (h1:i<4):Calls Tryz.prog 112 #[.slice A n c,.int .i64 i] w fun e w'=>e=.returned (.bool true)∧w=w':=by
 subst hn
 have h2:((128:Nat):Int)=128:=rfl
 go_enter Tryz.func112,Tryz.ntmps112
 go_wp2_with fail
 go_ret
 exact ⟨rfl,rfl⟩
theorem upTo_yes (n m:Int) (w:World) (h0:0≤n) (h1:n≤m):Calls Tryz.prog 157 #[.int .i64 n,.int .i64 m] w fun e w'=>e=.returned (.bool true)∧w=w':=by
 go_enter Tryz.func157,Tryz.ntmps157
 go_wp2_with fail
 go_ret
 exact ⟨rfl,rfl⟩
theorem upTo_no (n m:Int) (w:World) (h:¬ (0≤n∧n≤m)):Calls Tryz.prog 157 #[.int .i64 n,.int .i64 m] w fun e w'=>e=.returned (.bool false)∧w=w':=by
 by_cases h0:0≤n
 ·have h1:¬ n≤m:=by omega
  clear h
  go_enter Tryz.func157,Tryz.ntmps157
  go_wp2_with fail
  go_ret
  exact ⟨rfl,rfl⟩
 ·clear h
  go_enter Tryz.func157,Tryz.ntmps157
  go_wp2_with fail
  go_ret
  exact ⟨rfl,rfl⟩
def Nd.p (x:Nd):Nat→Int
 | 0=>x.d0
 | 1=>x.d1
 | 2=>x.d2
 | 3=>x.d3
 | 4=>x.o
 | _=>x.t
theorem idxp0 (x:Nd) (w:World):(Instr.index 228 (.agg (pc x).toArray) (.int .i64 0)).run Tryz.prog w=.ok (.int .i64 x.d0) w:=by kernel_rfl
theorem idxp1 (x:Nd) (w:World):(Instr.index 228 (.agg (pc x).toArray) (.int .i64 1)).run Tryz.prog w=.ok (.int .i64 x.d1) w:=by kernel_rfl
theorem idxp2 (x:Nd) (w:World):(Instr.index 228 (.agg (pc x).toArray) (.int .i64 2)).run Tryz.prog w=.ok (.int .i64 x.d2) w:=by kernel_rfl
theorem idxp3 (x:Nd) (w:World):(Instr.index 228 (.agg (pc x).toArray) (.int .i64 3)).run Tryz.prog w=.ok (.int .i64 x.d3) w:=by kernel_rfl
theorem idxp4 (x:Nd) (w:World):(Instr.index 228 (.agg (pc x).toArray) (.int .i64 4)).run Tryz.prog w=.ok (.int .i64 x.o) w:=by kernel_rfl
theorem idxp5 (x:Nd) (w:World):(Instr.index 228 (.agg (pc x).toArray) (.int .i64 5)).run Tryz.prog w=.ok (.int .i64 x.t) w:=by kernel_rfl
theorem idxp (x:Nd) {k:Nat} (hk:k<6) (w:World):(Instr.index 228 (.agg (pc x).toArray) (.int .i64 k)).run Tryz.prog w=.ok (.int .i64 (x.p k)) w:=by
 match k,hk with
 | 0,_=>exact idxp0 x w
 | 1,_=>exact idxp1 x w
 | 2,_=>exact idxp2 x w
 | 3,_=>exact idxp3 x w
 | 4,_=>exact idxp4 x w
 | 5,_=>exact idxp5 x w
theorem ptrs_of {x:Nd} (h:∀ j,j<6→ptr (x.p j)=true):x.ptrs=true:=by
 have h0:=h 0 (by omega)
 have h1:=h 1 (by omega)
 have h2:=h 2 (by omega)
 have h3:=h 3 (by omega)
 have h4:=h 4 (by omega)
 have h5:=h 5 (by omega)
 simp only [Nd.p] at h0 h1 h2 h3 h4 h5
 simp [Nd.ptrs,h0,h1,h2,h3,h4,h5]
theorem ptrs_not {x:Nd} {k:Nat} (hk:k<6) (h:ptr (x.p k)=false):x.ptrs=false:=by
 match k,hk with
 | 0,_=>simp only [Nd.p] at h;simp [Nd.ptrs,h]
 | 1,_=>simp only [Nd.p] at h;simp [Nd.ptrs,h]
 | 2,_=>simp only [Nd.p] at h;simp [Nd.ptrs,h]
 | 3,_=>simp only [Nd.p] at h;simp [Nd.ptrs,h]
 | 4,_=>simp only [Nd.p] at h;simp [Nd.ptrs,h]
 | 5,_=>simp only [Nd.p] at h;simp [Nd.ptrs,h]
set_option maxHeartbeats 1000000 in
theorem allowed_any (x:Nd) (w:World):Calls Tryz.prog 158 #[.agg (pc x).toArray] w fun e w'=>e=.returned (.bool x.ptrs)∧Below w.heap.size w w':=by
 obtain ⟨o,ho⟩:∃ o,x.ptrs=o:=⟨_,rfl⟩
 rw [ho]
 have HO:=Lib.hid ho
 clear ho
 obtain ⟨a0,ab,az⟩:=box1 w (Obj.cells (pc x).toArray 228)
 have A0:=Lib.hid a0
 have AB:=Lib.hid ab
 clear a0 ab az
 go_enter Tryz.func158,Tryz.ntmps158
 go_wp2_with (first | (refine wpList_load_row rfl 228 _ rfl w.heap.size rfl _ _ _ A0.out _ Tryz.underlying228 rfl s49 ?_) | fail)
 clear A0
 go_loop [6] (fun i=>∃ k:Nat,k≤6∧i=.int .i64 k∧Hid (∀ j,j<k→ptr (x.p j)=true)) (fun i=>6 - (intOf i).toNat)
 case atStart=>exact ⟨0,Nat.zero_le _,rfl,fun j hj=>absurd hj (by omega)⟩
 case round =>
  obtain ⟨k,hk,rfl,HA⟩:=hrel
  by_cases hlt:k<6
  ·have hi:=idxp x hlt
   have HP:=Lib.hid (@ptrs_not x k hlt)
   obtain ⟨n,hn⟩:∃ n,x.p k=n:=⟨_,rfl⟩
   rw [hn] at hi HP
   have HN:=Lib.hid hn
   clear hn
   have HS:Hid (ptr n=true→∀ j,j<k+1→ptr (x.p j)=true):=fun hp j hj=>by
    rcases Nat.lt_or_ge j k with h | h
    ·exact HA.out j h
    ·obtain rfl:j=k:=by omega
     rw [HN.out];exact hp
   by_cases h0:n=0
   ·subst h0
    go_wp2_with fail
    go_round
    case rel=>exact ⟨k+1,by omega,by go_num,HS.out (ptr_iff.2 (by omega))⟩
    case measure=>simp [intOf];omega
   have h0':(n != 0)=true:=by rw [bne_iff_ne];exact h0
   by_cases h1:n<43
   ·obtain rfl:o=false:=by rw [← HO.out];exact HP.out (ptr_not.2 (by omega))
    go_wp2_with fail
    go_ret
    exact ⟨rfl,AB.out⟩
   by_cases h2:1024≤n
   ·obtain rfl:o=false:=by rw [← HO.out];exact HP.out (ptr_not.2 (by omega))
    go_wp2_with fail
    go_ret
    exact ⟨rfl,AB.out⟩
   ·go_wp2_with fail
    go_round
    case rel=>exact ⟨k+1,by omega,by go_num,HS.out (ptr_iff.2 (by omega))⟩
    case measure=>simp [intOf];omega
  ·obtain rfl:k=6:=by omega
   obtain rfl:o=true:=by rw [← HO.out];exact ptrs_of HA.out
   go_wp2_with fail
   go_ret
   exact ⟨rfl,AB.out⟩
end Go.Proofs.YtkganhafbjgndaaGreatRR.D
namespace Go.Proofs.YtkganhafbjgndaaGreatRR.D
open Go.RowKit
set_option linter.unusedVariables false
section
variable {P:Program}
def eqAt (d:Nat) (elem:TypeId) (xs ys:Array Value):List Nat→Sem Bool
 | []=>pure true
 | i :: is=>do
  let a ← part elem xs (i * 1)
  let b ← part elem ys (i * 1)
  let r ← Op.equalIn d elem a b
  if (!r)=true then pure false else eqAt d elem xs ys is
theorem run_equalIn_array (d:Nat) {t elem:TypeId} {n:Nat} (xs ys:Array Value) (hu:P.underlying t=some (.array n elem)) (hs:∀ w,(sizeOf elem).run P w=.ok 1 w) (w:World) :
  (Op.equalIn (d+1) t (.agg xs) (.agg ys)).run P w=(eqAt d elem xs ys (List.range' 0 n)).run P w:=by
 simp only [Op.equalIn,Sem.run_bind,run_underlying hu,Result.andThen_ok,hs,Std.Legacy.Range.forIn_eq_forIn_range',Std.Legacy.Range.size,Nat.sub_zero,Nat.add_sub_cancel,Nat.div_one]
 generalize List.range' 0 n=l
 induction l generalizing w with
 | nil=>simp [eqAt]
 | cons i l ih =>
  simp only [List.forIn_cons,eqAt,Sem.run_bind]
  generalize (part elem xs (i * 1)).run P w=r1
  cases r1 with
  | ok a w1 =>
   simp only [Result.andThen_ok]
   generalize (part elem ys (i * 1)).run P w1=r2
   cases r2 with
   | ok b w2 =>
    simp only [Result.andThen_ok]
    generalize (Op.equalIn d elem a b).run P w2=r3
    cases r3 with
    | ok r w3 =>
     cases r
     ·simp only [Result.andThen_ok,Bool.not_false,if_true,Sem.run_pure]
     ·simp only [Result.andThen_ok,Bool.not_true,Bool.false_eq_true,if_false,Sem.run_pure]
      exact ih w3
    | halt x w3=>simp [Result.andThen]
   | halt x w2=>simp [Result.andThen]
  | halt x w1=>simp [Result.andThen]
theorem run_part_one {elem:TypeId} (ha:∀ w,(isAgg elem).run P w=.ok false w) {xs:Array Value} {i:Nat} {v:Value} (h:xs[i]?=some v) (w:World):(part elem xs (i * 1)).run P w=.ok v w:=by
 simp [part,ha,h]
theorem eqArr (d:Nat) {t elem:TypeId} {k:IntKind} {n:Nat} (hu:P.underlying t=some (.array n elem)) (he:P.underlying elem=some (.int k)) (hs:∀ w,(sizeOf elem).run P w=.ok 1 w) (ha:∀ w,(isAgg elem).run P w=.ok false w)
  (xs ys:List Int) (hx:xs.length=n) (hy:ys.length=n) (w:World) :
  (Op.equalIn (d+2) t (.agg (xs.map (Value.int k)).toArray) (.agg (ys.map (Value.int k)).toArray)).run P w=.ok (decide (xs=ys)) w:=by
 rw [run_equalIn_array (d+1) _ _ hu hs]
 have key:∀ l:List Nat,(∀ i∈l,i<n)→(eqAt (d+1) elem (xs.map (Value.int k)).toArray (ys.map (Value.int k)).toArray l).run P w=.ok (decide (∀ i∈l,xs[i]?=ys[i]?)) w:=by
  intro l
  induction l with
  | nil=>intro _;simp [eqAt]
  | cons i l ih =>
   intro h
   have hi:=h i (by simp)
   have h1:(xs.map (Value.int k)).toArray[i]?=some (.int k xs[i]):=by simp [hx,hi]
   have h2:(ys.map (Value.int k)).toArray[i]?=some (.int k ys[i]):=by simp [hy,hi]
   simp only [eqAt,Sem.run_bind,run_part_one ha h1,run_part_one ha h2,Result.andThen_ok,run_equalIn_int w d elem k k _ _ he]
   by_cases e:xs[i]=ys[i]
   ·have:=ih fun j hj=>h j (by simp [hj])
    simp only [e,beq_self_eq_true,Bool.not_true,Bool.false_eq_true,if_false,this]
    congr 1
    rw [decide_eq_decide]
    simp [hx,hy,hi,e]
   ·have e':(xs[i] == ys[i])=false:=by rw [beq_eq_false_iff_ne];exact e
    simp only [e',Bool.not_false,if_true,Sem.run_pure]
    congr 1
    symm
    rw [decide_eq_false_iff_not]
    intro hall
    have:=hall i (by simp)
    simp [hx,hy,hi] at this
    exact e this
 rw [key _ (by intro i hi;simp at hi;exact hi)]
 congr 1
 rw [decide_eq_decide]
 constructor
 ·intro h
  apply List.ext_getElem?
  intro i
  by_cases hi:i<n
  ·exact h i (by simp [hi])
  ·rw [List.getElem?_eq_none (by omega),List.getElem?_eq_none (by omega)]
 ·rintro rfl i _;rfl
end
theorem ag3 (w:World):(isAgg 3).run Tryz.prog w=.ok false w:=Tryz.isAgg3 w
theorem ag5 (w:World):(isAgg 5).run Tryz.prog w=.ok false w:=Tryz.isAgg5 w
theorem sz3 (w:World):(sizeOf 3).run Tryz.prog w=.ok 1 w:=Tryz.sizeOf3 w
theorem sz5 (w:World):(sizeOf 5).run Tryz.prog w=.ok 1 w:=Tryz.sizeOf5 w
set_option maxRecDepth 20000 in
theorem eq49 (x:Nd) (w:World):(Op.equalIn 10000 228 (.agg (pc x).toArray) (.agg #[.int .i64 0,.int .i64 0,.int .i64 0,.int .i64 0,.int .i64 0,.int .i64 0])).run Tryz.prog w=.ok x.none_ w:=by
 have h:=eqArr (P:=Tryz.prog) 9998 Tryz.underlying228 Tryz.underlying3 sz3 ag3 [x.d0,x.d1,x.d2,x.d3,x.o,x.t] [0,0,0,0,0,0] rfl rfl w
 refine (show _=_ from h).trans ?_
 congr 1
 unfold Nd.none_
 rw [decide_eq_decide]
 simp
set_option maxRecDepth 20000 in
theorem eq44 (a b:List UInt8) (ha:a.length=32) (hb:b.length=32) (w:World):(Op.equalIn 10000 172 (.agg (a.map F.bv).toArray) (.agg (b.map F.bv).toArray)).run Tryz.prog w=.ok (decide (a=b)) w:=by
 have h:=eqArr (P:=Tryz.prog) 9998 Tryz.underlying172 Tryz.underlying5 sz5 ag5 (a.map fun x=>(x.toNat:Int)) (b.map fun x=>(x.toNat:Int)) (by simp [ha]) (by simp [hb]) w
 rw [List.map_map,List.map_map] at h
 refine (show _=_ from h).trans ?_
 congr 1
 rw [decide_eq_decide]
 constructor
 ·intro h
  exact List.map_inj_right (fun x y e=>UInt8.toNat_inj.1 (by omega)) |>.1 h
 ·rintro rfl;rfl
end Go.Proofs.YtkganhafbjgndaaGreatRR.D
namespace Go.Proofs.YtkganhafbjgndaaGreatRR.D
open Go.RowKit
set_option linter.unusedVariables false
set_option maxRecDepth 20000
theorem ok_nums {x:Nd} (h:¬ (0≤x.g∧x.g≤1073741824∧0≤x.c∧x.c≤1073741824)):x.ok=false:=by
 simp [Nd.ok,Nd.nums,h]
theorem ok_size {x:Nd} (h:¬ (0≤x.s∧x.s≤9728)):x.ok=false:=by
 have:x.kind=false:=by
  simp only [Nd.kind,decide_eq_false_iff_not]
  omega
 simp [Nd.ok,this]
theorem ok_ptrs {x:Nd} (h:x.ptrs=false):x.ok=false:=by simp [Nd.ok,h]
theorem ok_kind {x:Nd} (h0:0≤x.g) (h1:x.g≤1073741824) (h2:0≤x.c) (h3:x.c≤1073741824) (hp:x.ptrs=true):x.ok=x.kind:=by
 simp [Nd.ok,Nd.nums,h0,h1,h2,h3,hp]
theorem kind_0 {x:Nd} (hk:x.k=0) (hl:x.l=0) (hs:x.s=0):x.kind=x.none_:=by
 cases h:x.none_<;>simp [Nd.kind,hk,hl,hs,h]
theorem kind_not {x:Nd} (h0:x.k=0→¬ (x.l=0∧x.s=0)) (h1:x.k=1→¬ (1≤x.l∧x.l≤255)) (h2:x.k=2→¬ (x.l=1∧x.s % 32=0)):x.kind=false:=by
 simp only [Nd.kind,decide_eq_false_iff_not]
 rintro (⟨a,b,c,_⟩ | ⟨a,b,c,_⟩ | ⟨a,b,_,_,c⟩)
 ·exact h0 a ⟨b,c⟩
 ·exact h1 a ⟨b,c⟩
 ·exact h2 a ⟨b,c⟩
theorem kind_1 {x:Nd} (hk:x.k=1) (h1:1≤x.l) (h2:x.l≤255) (h3:0≤x.s) (h4:x.s≤9728):x.kind=true:=by
 simp only [Nd.kind,decide_eq_true_eq]
 exact .inr (.inl ⟨hk,h1,h2,h3,h4⟩)
theorem kind_2 {x:Nd} (hk:x.k=2) (h1:x.l=1) (h2:x.s % 32=0) (h3:0≤x.s) (h4:x.s≤9728):x.kind=true:=by
 simp only [Nd.kind,decide_eq_true_eq]
 exact .inr (.inr ⟨hk,h1,h3,h4,h2⟩)
theorem nd_cells {W:World} {g:Nat} {x:Nd} {t:TypeId} {fr:Nat × Nat} (h:W.heap[g]?=some (.cells (nc x).toArray t fr)) :
  W.cell? ⟨g,0,none⟩=some (.int .i64 x.k)∧W.cell? ⟨g,1,none⟩=some (.int .i64 x.l)∧W.cell? ⟨g,2,none⟩=some (.int .i64 x.g)∧W.cell? ⟨g,3,none⟩=some (.int .i64 x.s)∧W.cell? ⟨g,4,none⟩=some (.int .i64 x.c) :=
 ⟨cell_of_row _ _ 0 _ _ _ h,cell_of_row _ _ 1 _ _ _ h,cell_of_row _ _ 2 _ _ _ h,cell_of_row _ _ 3 _ _ _ h,cell_of_row _ _ 4 _ _ _ h⟩
set_option maxHeartbeats 1000000 in
theorem sound_any (x:Nd) (w:World):Calls Tryz.prog 114 #[.agg (nc x).toArray] w fun e w'=>e=.returned (.bool x.ok)∧Below w.heap.size w w':=by
 obtain ⟨o,ho⟩:∃ o,x.ok=o:=⟨_,rfl⟩
 rw [ho]
 have HO:=Lib.hid ho
 clear ho
 obtain ⟨a0,ab,az⟩:=box1 w (Obj.cells (nc x).toArray 66)
 have A0:=Lib.hid a0
 have AB:=Lib.hid ab
 have AZ:=Lib.hid az
 clear a0 ab az
 go_enter Tryz.func114,Tryz.ntmps114
 go_wp2_with (first | (refine wpList_load_row rfl 66 _ rfl w.heap.size rfl _ _ _ A0.out _ Tryz.underlying66 rfl s25 ?_) | fail)
 refine (pointersOf_any x _).mono ?_
 rintro e w1 ⟨rfl,hb1⟩
 rw [AZ.out] at hb1
 have hs1:w.heap.size+1≤w1.heap.size:=by have:=hb1.size;rw [AZ.out] at this;exact this
 have A1:Hid ((w1.alloc (Obj.cells (pc x).toArray 228)).heap[w.heap.size]?=some (.cells (nc x).toArray 66 (0,0))):=((box_below w1 _).block _ (by omega)).trans ((hb1.block _ (by omega)).trans A0.out)
 have A2:Hid ((w1.alloc (Obj.cells (pc x).toArray 228)).heap[w1.heap.size]?=some (.cells (pc x).toArray 228 (0,0))):=heap_alloc_new w1 _
 have AB1:Hid (Below w.heap.size w (w1.alloc (Obj.cells (pc x).toArray 228))):=(AB.out.trans (hb1.mono (by omega))).trans ((box_below w1 _).mono (by omega))
 obtain ⟨c0,c1,c2,c3,c4⟩:=nd_cells A1.out
 clear hb1 AB A0 AZ
 by_cases h1:0≤x.g∧x.g≤1073741824
 case neg =>
  obtain rfl:o=false:=by rw [← HO.out];exact ok_nums (by omega)
  go_wp2_with (first | (refine wpList_store_new rfl 228 _ _ rfl w1 z6 (pc x).toArray rfl rfl s49 rfl (all_oneCell_toArray (pc_one x)) ?_) | fail)
  refine (upTo_no _ _ _ h1).mono ?_
  rintro e w2 ⟨rfl,rfl⟩
  go_wp2_with fail
  go_ret
  exact ⟨rfl,AB1.out⟩
 obtain ⟨h1,h2⟩:=h1
 go_wp2_with (first | (refine wpList_store_new rfl 228 _ _ rfl w1 z6 (pc x).toArray rfl rfl s49 rfl (all_oneCell_toArray (pc_one x)) ?_) | fail)
 generalize w1.alloc (Obj.cells (pc x).toArray 228)=W at *
 refine (upTo_yes _ _ _ h1 h2).mono ?_
 rintro e w2 ⟨rfl,rfl⟩
 by_cases h3:0≤x.c∧x.c≤1073741824
 case neg =>
  obtain rfl:o=false:=by rw [← HO.out];exact ok_nums (by omega)
  go_wp2_with fail
  refine (upTo_no _ _ _ h3).mono ?_
  rintro e w2 ⟨rfl,rfl⟩
  go_wp2_with fail
  go_ret
  exact ⟨rfl,AB1.out⟩
 obtain ⟨h3,h4⟩:=h3
 go_wp2_with fail
 refine (upTo_yes _ _ _ h3 h4).mono ?_
 rintro e w2 ⟨rfl,rfl⟩
 by_cases h5:0≤x.s∧x.s≤9728
 case neg =>
  obtain rfl:o=false:=by rw [← HO.out];exact ok_size h5
  go_wp2_with fail
  refine (upTo_no _ _ _ h5).mono ?_
  rintro e w2 ⟨rfl,rfl⟩
  go_wp2_with fail
  go_ret
  exact ⟨rfl,AB1.out⟩
 obtain ⟨h5,h6⟩:=h5
 go_wp2_with fail
 refine (upTo_yes _ _ _ h5 h6).mono ?_
 rintro e w2 ⟨rfl,rfl⟩
 go_wp2_with (first | (refine wpList_load_row rfl 228 _ rfl w1.heap.size rfl _ _ _ A2.out _ Tryz.underlying228 rfl s49 ?_) | fail)
 refine (allowed_any x _).mono ?_
 rintro e w2 ⟨rfl,hb2⟩
 have hlt0:=F.lt_of_heap A1.out
 have hlt1:=F.lt_of_heap A2.out
 have AB2:Hid (Below w.heap.size w w2):=AB1.out.trans (hb2.mono (by omega))
 have B1:Hid (w2.heap[w.heap.size]?=some (.cells (nc x).toArray 66 (0,0))):=(hb2.block _ hlt0).trans A1.out
 have B2:Hid (w2.heap[w1.heap.size]?=some (.cells (pc x).toArray 228 (0,0))):=(hb2.block _ hlt1).trans A2.out
 clear hb2 c0 c1 c2 c3 c4 A1 A2 hlt0 hlt1 AB1
 cases hp:x.ptrs with
 | false =>
  obtain rfl:o=false:=by rw [← HO.out];exact ok_ptrs hp
  clear hp
  go_wp2_with fail
  go_ret
  exact ⟨rfl,AB2.out⟩
 | true =>
  obtain ⟨c0,c1,c2,c3,c4⟩:=nd_cells B1.out
  have HK:Hid (x.kind=o):=(ok_kind h1 h2 h3 h4 hp).symm.trans HO.out
  clear hp h1 h2 h3 h4 HO
  have bt:∀ {a b:Int},a=b→(a == b)=true:=fun h=>by rw [beq_iff_eq];exact h
  have bf:∀ {a b:Int},¬ a=b→(a == b)=false:=fun h=>by rw [beq_eq_false_iff_ne];exact h
  by_cases k0:x.k=0
  ·have k0':=bt k0
   by_cases l0:x.l=0
   ·have l0':=bt l0
    by_cases s0:x.s=0
    ·have s0':=bt s0
     obtain rfl:o=x.none_:=by rw [← HK.out];exact kind_0 k0 l0 s0
     have hq:=eq49 x w2
     clear k0 l0 s0 HK bt bf
     go_wp2_with (first | (refine wpList_load_row rfl 228 _ rfl w1.heap.size rfl _ _ _ B2.out _ Tryz.underlying228 rfl s49 ?_) | fail)
     go_ret
     exact ⟨rfl,AB2.out⟩
    ·have s0':=bf s0
     obtain rfl:o=false:=by rw [← HK.out];exact kind_not (fun _ h=>s0 h.2) (by omega) (by omega)
     clear k0 l0 s0 HK bt bf
     go_wp2_with fail
     go_ret
     exact ⟨rfl,AB2.out⟩
   ·have l0':=bf l0
    obtain rfl:o=false:=by rw [← HK.out];exact kind_not (fun _ h=>l0 h.1) (by omega) (by omega)
    clear k0 l0 HK bt bf
    go_wp2_with fail
    go_ret
    exact ⟨rfl,AB2.out⟩
  have k0':=bf k0
  by_cases k1:x.k=1
  ·have k1':=bt k1
   by_cases l1:1≤x.l
   ·by_cases l2:x.l≤255
    ·obtain rfl:o=true:=by rw [← HK.out];exact kind_1 k1 l1 l2 h5 h6
     clear k0 k1 HK bt bf
     go_wp2_with fail
     go_ret
     exact ⟨rfl,AB2.out⟩
    ·obtain rfl:o=false:=by rw [← HK.out];exact kind_not (by omega) (by omega) (by omega)
     clear k0 k1 HK bt bf
     go_wp2_with fail
     go_ret
     exact ⟨retb (decide_eq_false (by omega)),AB2.out⟩
   ·obtain rfl:o=false:=by rw [← HK.out];exact kind_not (by omega) (by omega) (by omega)
    clear k0 k1 HK bt bf
    go_wp2_with fail
    go_ret
    exact ⟨rfl,AB2.out⟩
  have k1':=bf k1
  by_cases k2:x.k=2
  ·have k2':=bt k2
   by_cases l1:x.l=1
   ·have l1':=bt l1
    by_cases s1:x.s % 32=0
    ·have s1':=bt s1
     obtain rfl:o=true:=by rw [← HK.out];exact kind_2 k2 l1 s1 h5 h6
     clear k0 k1 k2 l1 s1 HK bt bf
     go_wp2_with fail
     go_ret
     exact ⟨rfl,AB2.out⟩
    ·have s1':=bf s1
     obtain rfl:o=false:=by rw [← HK.out];exact kind_not (by omega) (by omega) (fun _ h=>s1 h.2)
     clear k0 k1 k2 l1 s1 HK bt bf
     go_wp2_with fail
     go_ret
     exact ⟨rfl,AB2.out⟩
   ·have l1':=bf l1
    obtain rfl:o=false:=by rw [← HK.out];exact kind_not (by omega) (by omega) (fun _ h=>l1 h.1)
    clear k0 k1 k2 l1 HK bt bf
    go_wp2_with fail
    go_ret
    exact ⟨rfl,AB2.out⟩
  have k2':=bf k2
  obtain rfl:o=false:=by rw [← HK.out];exact kind_not (fun h=>absurd h k0) (fun h=>absurd h k1) (fun h=>absurd h k2)
  clear k0 k1 k2 HK bt bf
  go_wp2_with fail
  go_ret
  exact ⟨rfl,AB2.out⟩
end Go.Proofs.YtkganhafbjgndaaGreatRR.D
namespace Go.Proofs.YtkganhafbjgndaaGreatRR.D
open Go.RowKit
set_option linter.unusedVariables false
set_option maxRecDepth 20000
theorem idxn0 (a b c:Int) (w:World):(Instr.index 208 (.agg #[.int .i64 a,.int .i64 b,.int .i64 c]) (.int .i64 0)).run Tryz.prog w=.ok (.int .i64 a) w:=by kernel_rfl
theorem idxn1 (a b c:Int) (w:World):(Instr.index 208 (.agg #[.int .i64 a,.int .i64 b,.int .i64 c]) (.int .i64 1)).run Tryz.prog w=.ok (.int .i64 b) w:=by kernel_rfl
theorem idxn2 (a b c:Int) (w:World):(Instr.index 208 (.agg #[.int .i64 a,.int .i64 b,.int .i64 c]) (.int .i64 2)).run Tryz.prog w=.ok (.int .i64 c) w:=by kernel_rfl
theorem idxn (y:Nn) {k:Nat} (hk:k<3) (w:World):(Instr.index 208 (.agg #[.int .i64 y.g,.int .i64 y.s,.int .i64 y.c]) (.int .i64 k)).run Tryz.prog w=.ok (.int .i64 (y.nums3 k:Nat)) w:=by
 match k,hk with
 | 0,_=>exact idxn0 _ _ _ w
 | 1,_=>exact idxn1 _ _ _ w
 | 2,_=>exact idxn2 _ _ _ w
abbrev z32:Array Value:=#[.int .u8 0,.int .u8 0,.int .u8 0,.int .u8 0,.int .u8 0,.int .u8 0,.int .u8 0,.int .u8 0,.int .u8 0,.int .u8 0,.int .u8 0,.int .u8 0,.int .u8 0,.int .u8 0,.int .u8 0,.int .u8 0,.int .u8 0,.int .u8 0,.int .u8 0,.int .u8 0,.int .u8 0,.int .u8 0,.int .u8 0,.int .u8 0,.int .u8 0,.int .u8 0,.int .u8 0,.int .u8 0,.int .u8 0,.int .u8 0,.int .u8 0,.int .u8 0]
theorem new_own (W:World) (l:List UInt8) (hl:l.length≤1000):(W.alloc (.cells (l.map F.bv).toArray 5)).ownsRow W.heap.size 5 1 (.slice (some ⟨W.heap.size,0,none⟩) l.length l.length) l.length (l.map F.bv) :=
 ⟨by simp,.inr ⟨W.heap.size,l.length,(l.map F.bv).toArray,rfl,Nat.le_refl _,heap_alloc_new W _,Nat.le_refl _,by unfold maxLen;omega,by simp,by simp [List.take_of_length_le]⟩⟩
theorem new_mine (W:World) (l:List UInt8) (hl:l.length≤1000):F.Mine W (W.alloc (.cells (l.map F.bv).toArray 5)) (.slice (some ⟨W.heap.size,0,none⟩) l.length l.length) l:=⟨new_own W l hl,box_below W _⟩
theorem two_row (a b:Int) (p q:UInt8) (ha:a=p.toNat) (hb:b=q.toNat):(#[.int .u8 a,.int .u8 b]:Array Value)=([p,q].map F.bv).toArray:=by subst ha;subst hb;rfl
theorem own_below {w w':World} {base n:Nat} {v:Value} {xs:List Value} (h:w.ownsRow base 5 1 v n xs) (hb:Below w.heap.size w w'):w'.ownsRow base 5 1 v n xs :=
 h.kept (F.grown_of_below hb none) (by cases hv:v.ownBlock<;>simp)
theorem bts_new (W:World) (l:List UInt8) (hl:l.length≤1000):F.Bts (W.alloc (.cells (l.map F.bv).toArray 5)) (W.heap.size+1) (some ⟨W.heap.size,0,none⟩) l.length l.length l :=
 ⟨rfl,Nat.le_refl _,by unfold maxLen;omega,(fun e=>by cases e),fun _=>⟨W.heap.size,0,rfl,by omega,fun j hj=>by
  have h1:=World.cell?_alloc_mark W (l.map F.bv).toArray 5 (0,0) j
  rw [Nat.zero_add]
  refine h1.trans ?_
  simp [hj,F.bv]⟩⟩
theorem low_byte (n:Nat):(n:Int) % 256=((UInt8.ofNat n).toNat:Int):=by rw [UInt8.toNat_ofNat'];omega
theorem high_byte {n:Nat} (h:n<65536):(n:Int) / 256=((UInt8.ofNat (n / 256)).toNat:Int):=by rw [UInt8.toNat_ofNat'];omega
theorem nums3_lt {y:Nn} (h:y.Fits) (k:Nat):y.nums3 k<4294967296:=by
 have:=h.g;have:=h.s;have:=h.c
 unfold Nn.nums3
 split<;>assumption
theorem p_up (y:Nn) (k:Nat):y.up.p k=(y.ptr6 k:Nat):=by
 match k with
 | 0=>rfl
 | 1=>rfl
 | 2=>rfl
 | 3=>rfl
 | 4=>rfl
 | _+5=>rfl
theorem ptr6_lt {y:Nn} (h:y.Fits) (k:Nat):y.ptr6 k<65536:=by
 have:=h.d0;have:=h.d1;have:=h.d2;have:=h.d3;have:=h.o;have:=h.t
 unfold Nn.ptr6
 split<;>assumption
theorem img_splice (y:Nn):splice z32.toList 0 ((y.parp 6).map F.bv)=y.img.map F.bv:=by
 have hl:((y.parp 6).map F.bv).length=26:=by simp [y.parp_len]
 unfold splice Nn.img
 rw [hl,List.map_append]
 rfl
set_option maxHeartbeats 2000000 in
theorem imageOf_any (y:Nn) (w:World) (hf:y.Fits):Calls Tryz.prog 115 #[.agg (nc y.up).toArray] w fun e w'=>e=.returned (.tuple #[.agg (y.img.map F.bv).toArray,.int .i64 0])∧Below w.heap.size w w':=by
 have HF:=Lib.hid hf
 clear hf
 go_enter Tryz.func115,Tryz.ntmps115
 go_upto_region 1 with fail
 obtain ⟨a0,a1,ab,az⟩:=box2 w (Obj.cells (nc y.up).toArray 66) (Obj.cells z32 172)
 generalize (w.alloc (Obj.cells (nc y.up).toArray 66)).alloc (Obj.cells z32 172)=W at *
 have A0:=Lib.hid a0
 have A1:=Lib.hid a1
 have AB:=Lib.hid ab
 have AZ:=Lib.hid az
 have c0:W.cell? ⟨w.heap.size,0,none⟩=some (.int .i64 (y.k:Nat)):=(nd_cells a0).1
 have c1:W.cell? ⟨w.heap.size,1,none⟩=some (.int .i64 (y.l:Nat)):=(nd_cells a0).2.1
 clear a0 a1 ab az
 go_upto_region 2 with fail
 have eh:[UInt8.ofNat y.k,UInt8.ofNat y.l]=y.head:=rfl
 rw [two_row _ _ _ _ (low_byte y.k) (low_byte y.l),eh]
 clear eh
 have HM0:=Lib.hid (new_mine W y.head (by simp [Nn.head]))
 have B0:Hid ((W.alloc (.cells (y.head.map F.bv).toArray 5)).heap[w.heap.size]?=some (.cells (nc y.up).toArray 66 (0,0))):=((box_below W _).block _ (by rw [AZ.out];omega)).trans A0.out
 clear c0 c1
 generalize W.alloc (.cells (y.head.map F.bv).toArray 5)=W1 at *
 have c2:W1.cell? ⟨w.heap.size,2,none⟩=some (.int .i64 (y.g:Nat)):=(nd_cells B0.out).2.2.1
 have c3:W1.cell? ⟨w.heap.size,3,none⟩=some (.int .i64 (y.s:Nat)):=(nd_cells B0.out).2.2.2.1
 have c4:W1.cell? ⟨w.heap.size,4,none⟩=some (.int .i64 (y.c:Nat)):=(nd_cells B0.out).2.2.2.2
 go_wp2_with fail
 clear c2 c3 c4 B0
 go_loopw [4,25] (fun x i wr=>∃ k:Nat,∃ A n cap,k≤3∧i=.int .i64 k∧x=.slice A n cap∧Hid (n=2+4 * k)∧Hid (F.Mine W wr (.slice A n cap) (y.part k))) (fun _ i _=>3 - (intOf i).toNat)
 case atStart=>exact ⟨0,_,_,_,Nat.zero_le _,rfl,rfl,rfl,HM0⟩
 case round =>
  clear HM0
  obtain ⟨k,A,n,cap,hk,rfl,rfl,hn,HM⟩:=hrel
  have hn14:n≤14:=by have:=hn.out;omega
  by_cases hlt:k<3
  ·have hi:=idxn y hlt
   have HN:Hid (y.nums3 k<4294967296):=nums3_lt HF.out k
   have HP:Hid (y.part (k+1)=y.part k++F.lit 4 (y.nums3 k)):=rfl
   generalize y.nums3 k=x at *
   obtain ⟨A',n',c',e',hB⟩:=HM.out.holds
   cases e'
   have HC:=Lib.hid hB
   clear hB
   go_wp2_with fail
   clear hi
   refine (F.num_yes A n cap _ x _ wr HN.out HC.out (Nat.le_refl _) (by omega)).mono ?_
   rintro e w3 ⟨v,rfl,hm⟩
   rw [← HP.out] at hm
   have HM2:=Lib.hid (hm.from_ HM.out.bel)
   clear hm
   obtain ⟨A2,n2,c2,rfl,hB'⟩:=HM2.out.holds
   have hn':Hid (n2=2+4 * (k+1)):=by show _=_;rw [← hB'.len,y.part_len]
   clear hB'
   go_wp2_with fail
   go_roundw
   case rel=>exact ⟨k+1,A2,n2,c2,by omega,by go_num,rfl,hn',HM2⟩
   case measure=>simp [intOf];omega
  ·obtain rfl:k=3:=by omega
   have BW:Hid (wr.heap[w.heap.size]?=some (.cells (nc y.up).toArray 66 (0,0))):=(HM.out.bel.block _ (by rw [AZ.out];omega)).trans A0.out
   go_wp2_with (first | (refine wpList_load_row rfl 66 _ rfl w.heap.size rfl _ _ _ BW.out _ Tryz.underlying66 rfl s25 ?_) | fail)
   refine (pointersOf_any y.up _).mono ?_
   rintro e w2 ⟨rfl,hb2⟩
   have HM2:Hid (F.Mine W w2 (.slice A n cap) (y.parp 0)):=⟨own_below HM.out.own hb2,HM.out.bel.trans (hb2.mono HM.out.bel.size)⟩
   clear hb2 HM BW
   go_wp2_with fail
   have hn0:n=14:=hn.out
   subst hn0
   clear hn hn14 hk hlt
   go_loopw [4,41] (fun x i wr=>∃ k:Nat,∃ A n cap,k≤6∧i=.int .i64 k∧x=.slice A n cap∧Hid (n=14+2 * k)∧Hid (F.Mine W wr (.slice A n cap) (y.parp k))) (fun _ i _=>6 - (intOf i).toNat)
   case atStart=>exact ⟨0,_,_,_,Nat.zero_le _,rfl,rfl,rfl,HM2⟩
   case round =>
    clear HM2
    obtain ⟨k,A,n,cap,hk,rfl,rfl,hn,HM⟩:=hrel
    have hn26:n≤26:=by have:=hn.out;omega
    by_cases hlt:k<6
    ·have hi:=idxp y.up hlt
     rw [p_up] at hi
     have HN:Hid (y.ptr6 k<65536):=ptr6_lt HF.out k
     have HP:Hid (y.parp (k+1)=y.parp k++F.lit 2 (y.ptr6 k)):=rfl
     generalize y.ptr6 k=x at *
     have hx:x<65536:=HN.out
     obtain ⟨v4,w4,hr4,ho4,hg4⟩:=F.app_run 41 (own_below HM.out.own (box_below wr (.cells ([UInt8.ofNat x,UInt8.ofNat (x / 256)].map F.bv).toArray 5))) (bts_new wr [UInt8.ofNat x,UInt8.ofNat (x / 256)] (by simp)) (by rw [y.parp_len];simp;omega) (by have:=HM.out.bel.size;simp;omega)
     have HM4:Hid (F.Mine W w4 v4 (y.parp (k+1))):=by
      show F.Mine _ _ _ _
      rw [HP.out]
      exact ⟨ho4,(HM.out.bel.alloc HM.out.bel.size _).grown hg4 (by have:=HM.out.bel.size;simp;omega) (fun j hj=>(HM.out.own.lt j hj).1)⟩
     rw [← two_row _ _ _ _ (low_byte x) (high_byte hx)] at hr4
     have HR4:=Lib.hid hr4
     clear hr4 ho4 hg4
     obtain ⟨A2,n2,c2,rfl,hB'⟩:=HM4.out.holds
     have hn':Hid (n2=14+2 * (k+1)):=by show _=_;rw [← hB'.len,y.parp_len]
     clear hB'
     go_wp2_with (at_builtin;refine Lib.wpList_append_run _ rfl _ _ _ _ rfl _ _ rfl rfl _ _ HR4.out ?_)
     go_roundw
     case rel=>exact ⟨k+1,A2,n2,c2,by omega,by go_num,rfl,hn',HM4⟩
     case measure=>simp [intOf];omega
    ·obtain rfl:k=6:=by omega
     have hn0:n=26:=hn.out
     subst hn0
     go_upto_region 16 with fail
     obtain ⟨e0,eb,ez⟩:=box1 wr (Obj.cells z32 172)
     obtain ⟨A',n',c',e',hB⟩:=HM.out.holds
     cases e'
     obtain ⟨bb,off,rfl,hbb,hcell⟩:=hB.at_ (by omega)
     have hw:=HM.out.bel.size
     have E1:Hid ((wr.alloc (Obj.cells z32 172)).heap[w.heap.size+1]?=some (.cells z32 172 (0,0))):=(eb.block _ (by rw [AZ.out] at hw;omega)).trans ((HM.out.bel.block _ (by rw [AZ.out];omega)).trans A1.out)
     have EB:Hid (Below w.heap.size w (wr.alloc (Obj.cells z32 172))):=(AB.out.trans (HM.out.bel.mono (by rw [AZ.out];omega))).trans (eb.mono (by rw [AZ.out] at hw;omega))
     have hsrc:∀ j v,((y.parp 6).map F.bv)[j]?=some v→(wr.alloc (Obj.cells z32 172)).cell? ((⟨bb,off,none⟩:Addr).add j)=some v:=by
      intro j v hv
      have hj:j<26:=by
       have:=(List.getElem?_eq_some_iff.1 hv).1
       simpa [y.parp_len] using this
      rw [Addr.add_mid,eb.cell hbb,hcell j hj,← hv]
      have:=y.parp_len 6
      simp [this,hj,F.bv]
     generalize wr.alloc (Obj.cells z32 172)=W4 at *
     obtain ⟨W5,hr,hg5,hgr,hz5⟩:=copy_run (w:=W4) (ty:=3) (dLen:=32) (dCap:=32) (sLen:=26) (sCap:=cap) Tryz.underlying41 s5 (L:=z32.toList) (off:=0) e0 (cs:=(y.parp 6).map F.bv) (by simp [y.parp_len]) hsrc (by simp [y.parp_len]) (bv_one _)
     rw [img_splice] at hg5
     have G5:=Lib.hid hg5
     have hws:w.heap.size+1<wr.heap.size:=by rw [AZ.out] at hw;omega
     have E5:Hid (W5.heap[w.heap.size+1]?=some (.cells z32 172 (0,0))):=(hgr.block _ (by rw [ez];omega) (by simp;omega)).trans E1.out
     have B5:Hid (Below w.heap.size w W5):=EB.out.grown hgr (by rw [ez];omega) (fun k hk=>by cases hk;omega)
     have HS:Hid ((Tryz.prog.info? 172).map (·.size)=some (y.img.map F.bv).toArray.size):=by show _=_;rw [List.size_toArray,List.length_map,y.img_len];exact s44
     have HS2:Hid (z32.size=(y.img.map F.bv).toArray.size):=by
      have h:=y.img_len
      show 32=_
      simp [h]
     clear hsrc hg5 hgr hz5 E1 EB e0 eb ez hcell hB HM
     go_wp2_with (first | (refine wpList_load_row rfl 172 _ rfl wr.heap.size rfl _ _ _ G5.out _ Tryz.underlying172 rfl HS.out ?_) | (refine wpList_store_row rfl 172 _ _ rfl (w.heap.size+1) z32 (y.img.map F.bv).toArray 172 rfl rfl E5.out HS.out HS2.out (all_oneCell_toArray (bv_one _)) ?_) | fail)
     refine bodyPost_ret (ret_row2 rfl rfl (setRow_in _ _ _ _ _ E5.out) Tryz.underlying172 rfl HS.out) rfl ?_
     exact ⟨rfl,below_setRow B5.out (by omega) _⟩
end Go.Proofs.YtkganhafbjgndaaGreatRR.D
namespace Go.Proofs.YtkganhafbjgndaaGreatRR.D
open Go.RowKit
set_option linter.unusedVariables false
set_option maxRecDepth 20000
abbrev z11:Array Value:=#[.int .i64 0,.int .i64 0,.int .i64 0,.int .i64 0,.int .i64 0,.int .i64 0,.int .i64 0,.int .i64 0,.int .i64 0,.int .i64 0,.int .i64 0]
def mid (b:List UInt8):List UInt8:=(b.drop 2).take 12
theorem mid_num {b:List UInt8} {k:Nat} (hk:k≤2):F.big (((mid b).drop (4 * k)).take 4)=num4 b k:=by
 unfold mid num4
 congr 1
 apply List.ext_getElem?
 intro n
 simp only [List.getElem?_take,List.getElem?_drop]
 split
 ·rw [if_pos (by omega)]
  congr 1
  omega
 ·rfl
theorem mid_len {b:List UInt8} (hb:b.length=32):(mid b).length=12:=by simp [mid,hb]
structure St (w W:World) (b:List UInt8) (k:Nat) (P:Option Nat):Prop where
 form:F.FormAt W (w.heap.size+1+1) (w.heap.size+1) ((mid b).drop (4 * k)) false
 box:W.heap[w.heap.size]?=some (.cells (b.map F.bv).toArray 172 (0,0))
 zero:W.heap[w.heap.size+1]?=some (.cells z11 66 (0,0))
 bel:Below w.heap.size w W
 new:∀ p,P=some p→w.heap.size+1+1<p∧W.heap[p]?=some (.cells z11 66 (0,0))
section
variable {w W W':World} {b:List UInt8} {k:Nat} {P:Option Nat}
theorem St.lt (h:St w W b k P):w.heap.size+1+1<W.heap.size:=h.form.lt
theorem St.below (h:St w W b k P) (hb:Below W.heap.size W W'):St w W' b k P:=by
 have hlt:=h.lt
 refine ⟨h.form.below hb,(hb.block _ (by omega)).trans h.box,(hb.block _ (by omega)).trans h.zero,h.bel.trans (hb.mono (by omega)),fun p hp=>?_⟩
 obtain ⟨h1,h2⟩:=h.new p hp
 exact ⟨h1,(hb.block _ (F.lt_of_heap h2)).trans h2⟩
theorem St.drew (h:St w W b k P):St w W.drew b k P:=h.below (Below.refl _ _).drew
theorem St.alloc (h:St w W b k none) (p:Nat) (hp:p=W.heap.size):St w (W.alloc (.cells z11 66)) b k (some p):=by
 subst hp
 have hlt:=h.lt
 have hb:=box_below W (.cells z11 66)
 refine ⟨h.form.below hb,(hb.block _ (by omega)).trans h.box,(hb.block _ (by omega)).trans h.zero,h.bel.trans (hb.mono (by omega)),fun p hp=>?_⟩
 cases hp
 exact ⟨hlt,heap_alloc_new W _⟩
theorem box_cell {W:World} {g:Nat} {b:List UInt8} {t:TypeId} {fr:Nat × Nat} (h:W.heap[g]?=some (.cells (b.map F.bv).toArray t fr)) {j:Nat} (hj:j<b.length):W.cell? ⟨g,j,none⟩=some (.int .u8 ((b[j]?.getD 0).toNat:Int)):=by
 rw [cell_of_row W g _ _ t fr h]
 simp [hj,F.bv]
theorem St.c01 {x y:UInt8} (h:St w W b k P) (hb:b.length=32) (hx:b[0]?.getD 0=x) (hy:b[1]?.getD 0=y):W.cell? ⟨w.heap.size,0,none⟩=some (.int .u8 (x.toNat:Int))∧W.cell? ⟨w.heap.size,1,none⟩=some (.int .u8 (y.toNat:Int)):=by
 subst hx;subst hy
 exact ⟨box_cell h.box (by omega),box_cell h.box (by omega)⟩
theorem St.far {x y:UInt8} (h:St w W b k P) (hb:b.length=32) (hx:b[0]?.getD 0=x) (hy:b[1]?.getD 0=y) (o:Obj):(W.alloc o).cell? ⟨w.heap.size,0,none⟩=some (.int .u8 (x.toNat:Int))∧(W.alloc o).cell? ⟨w.heap.size,1,none⟩=some (.int .u8 (y.toNat:Int)):=by
 have hlt:=h.lt
 obtain ⟨h0,h1⟩:=h.c01 hb hx hy
 exact ⟨((box_below W o).cell (by show w.heap.size < _;omega)).trans h0,((box_below W o).cell (by show w.heap.size < _;omega)).trans h1⟩
theorem St.ne {p:Nat} (h:St w W b k (some p)):p≠w.heap.size:=by have:=(h.new p rfl).1;omega
theorem num_st (k:Nat) (hk:k≤2) (hb:b.length=32) (h:St w W b k P) :
  Calls Tryz.prog 155 #[.pointer (some ⟨w.heap.size+1+1,0,none⟩)] W fun e W'=>e=.returned (.int .i64 (num4 b k:Nat))∧St w W' b (k+1) P:=by
 refine (F.fnum_yes (w.heap.size+1+1) (w.heap.size+1) ((mid b).drop (4 * k)) false W h.form (by rw [List.length_drop,mid_len hb];omega)).mono ?_
 rintro e w2 ⟨rfl,hf2,hg2⟩
 rw [mid_num hk]
 have hlt:=h.lt
 have hblk:∀ j,j<W.heap.size→j≠w.heap.size+1+1→w2.heap[j]?=W.heap[j]?:=fun j hj hne=>hg2.block j hj (fun e=>by injection e with e;exact hne e)
 refine ⟨rfl,?_,(hblk _ (by omega) (by omega)).trans h.box,(hblk _ (by omega) (by omega)).trans h.zero,h.bel.grown hg2 h.bel.size (fun j hj=>by cases hj;omega),fun p hp=>?_⟩
 ·rw [List.drop_drop] at hf2
  have e:4 * (k+1)=4 * k+4:=by omega
  rw [e]
  exact hf2
 ·obtain ⟨h1,h2⟩:=h.new p hp
  exact ⟨h1,(hblk _ (F.lt_of_heap h2) (by omega)).trans h2⟩
theorem St.cells {p:Nat} (h:St w W b k (some p)) (j:Nat) (hj:j<11):W.cell? ⟨p,j,none⟩=some (.int .i64 0)∧W.frozen? ⟨p,j,none⟩=false:=by
 obtain ⟨_,h2⟩:=h.new p rfl
 refine ⟨?_,F.free_in h2 j⟩
 rw [F.cell_in h2]
 match j,hj with
 | 0,_=>rfl
 | 1,_=>rfl
 | 2,_=>rfl
 | 3,_=>rfl
 | 4,_=>rfl
 | 5,_=>rfl
 | 6,_=>rfl
 | 7,_=>rfl
 | 8,_=>rfl
 | 9,_=>rfl
 | 10,_=>rfl
end
def nd5 (b:List UInt8):Nd:=⟨(b[0]?.getD 0).toNat,(b[1]?.getD 0).toNat,num4 b 0,num4 b 1,num4 b 2,0,0,0,0,0,0⟩
structure Dn (w W:World) (b:List UInt8) (p:Nat):Prop where
 box:W.heap[w.heap.size]?=some (.cells (b.map F.bv).toArray 172 (0,0))
 zero:W.heap[w.heap.size+1]?=some (.cells z11 66 (0,0))
 node:W.heap[p]?=some (.cells (nc (nd5 b)).toArray 66 (0,0))
 gt:w.heap.size+1+1<p
 bel:Below w.heap.size w W
section
variable {w W:World} {b:List UInt8} {k p:Nat} {x y:UInt8}
theorem Dn.put (h:St w W b k (some p)) (hx:b[0]?.getD 0=x) (hy:b[1]?.getD 0=y):Dn w (((((((((((W.setCell ⟨p,0,none⟩ (.int .i64 (x.toNat:Int))).setCell ⟨p,1,none⟩ (.int .i64 (y.toNat:Int))).setCell ⟨p,2,none⟩ (.int .i64 (num4 b 0:Nat))).setCell ⟨p,3,none⟩ (.int .i64 (num4 b 1:Nat))).setCell ⟨p,4,none⟩ (.int .i64 (num4 b 2:Nat))).setCell ⟨p,5,none⟩ (.int .i64 0)).setCell ⟨p,6,none⟩ (.int .i64 0)).setCell ⟨p,7,none⟩ (.int .i64 0)).setCell ⟨p,8,none⟩ (.int .i64 0)).setCell ⟨p,9,none⟩ (.int .i64 0)).setCell ⟨p,10,none⟩ (.int .i64 0)) b p:=by
 subst hx;subst hy
 have hlt:=h.lt
 obtain ⟨h1,h2⟩:=h.new p rfl
 have hN:(W.setCells p 0 (nc (nd5 b))).heap[p]?=some (.cells (nc (nd5 b)).toArray 66 (0,0)):=heap_setCells (nc (nd5 b)) 0 (C:=z11.toList) h2 rfl
 show Dn w (W.setCells p 0 (nc (nd5 b))) b p
 exact ⟨(heap_setCells_ne (by omega) _ _ _).trans h.box,(heap_setCells_ne (by omega) _ _ _).trans h.zero,hN,h1,below_setCells (by omega) _ _ h.bel⟩
theorem Dn.new (h:St w W b k none) (hx:b[0]?.getD 0=x) (hy:b[1]?.getD 0=y):Dn w (W.alloc (.cells #[.int .i64 (x.toNat:Int),.int .i64 (y.toNat:Int),.int .i64 (num4 b 0:Nat),.int .i64 (num4 b 1:Nat),.int .i64 (num4 b 2:Nat),.int .i64 0,.int .i64 0,.int .i64 0,.int .i64 0,.int .i64 0,.int .i64 0] 66)) b W.heap.size:=by
 subst hx;subst hy
 have hlt:=h.lt
 have hb:=box_below W (.cells (nc (nd5 b)).toArray 66)
 exact ⟨(hb.block _ (by omega)).trans h.box,(hb.block _ (by omega)).trans h.zero,heap_alloc_new W _,hlt,h.bel.trans (hb.mono (by omega))⟩
end
def fv (b:List UInt8) (k j:Nat):Value:=if j<k then .int .i64 (num2 b j:Nat) else .int .i64 0
def fill (b:List UInt8) (k:Nat):List Value:=[fv b k 0,fv b k 1,fv b k 2,fv b k 3,fv b k 4,fv b k 5]
theorem fill_set (b:List UInt8) {k:Nat} (hk:k<6):(fill b k).toArray.setIfInBounds k (.int .i64 (num2 b k:Nat))=(fill b (k+1)).toArray:=by
 match k,hk with
 | 0,_=>rfl
 | 1,_=>rfl
 | 2,_=>rfl
 | 3,_=>rfl
 | 4,_=>rfl
 | 5,_=>rfl
theorem fill_get (b:List UInt8) {k:Nat} (hk:k<6):∃ v,(fill b k).toArray[k]?=some v:=by
 match k,hk with
 | 0,_=>exact ⟨_,rfl⟩
 | 1,_=>exact ⟨_,rfl⟩
 | 2,_=>exact ⟨_,rfl⟩
 | 3,_=>exact ⟨_,rfl⟩
 | 4,_=>exact ⟨_,rfl⟩
 | 5,_=>exact ⟨_,rfl⟩
theorem Dn.below {w W W':World} {b:List UInt8} {p:Nat} (h:Dn w W b p) (hb:Below W.heap.size W W'):Dn w W' b p:=by
 have h0:=F.lt_of_heap h.box
 exact ⟨(hb.block _ h0).trans h.box,(hb.block _ (F.lt_of_heap h.zero)).trans h.zero,(hb.block _ (F.lt_of_heap h.node)).trans h.node,h.gt,h.bel.trans (hb.mono (by omega))⟩
theorem Dn.set {w W:World} {b:List UInt8} {p G:Nat} (h:Dn w W b p) (hG:p<G) (i:Nat) (u:Value):Dn w (W.setCell ⟨G,i,none⟩ u) b p:=by
 have hset:∀ j,j≠G→(W.setCell ⟨G,i,none⟩ u).heap[j]?=W.heap[j]?:=fun j hj=>Below.heap_setCell _ _ _ _ (fun e=>hj e)
 have:=h.gt
 exact ⟨(hset _ (by omega)).trans h.box,(hset _ (by omega)).trans h.zero,(hset _ (by omega)).trans h.node,h.gt,h.bel.setCell (p:=⟨G,i,none⟩) (by simp;omega) _⟩
structure Rl (w W:World) (b:List UInt8) (p G k:Nat):Prop where
 dn:Dn w W b p
 gt:p<G
 list:W.heap[G]?=some (.cells (fill b k).toArray 228 (0,0))
theorem Rl.step {w W:World} {b:List UInt8} {p G k:Nat} (h:Rl w W b p G k) (hk:k<6) {v:Value} (hv:v=.int .i64 (num2 b k:Nat)):Rl w (W.setCell ⟨G,k,none⟩ v) b p G (k+1):=by
 subst hv
 exact ⟨h.dn.set h.gt _ _,h.gt,by rw [← fill_set b hk];exact F.heap_set h.list k _⟩
theorem Rl.drew {w W:World} {b:List UInt8} {p G k:Nat} (h:Rl w W b p G k):Rl w W.drew b p G k:=⟨h.dn.below (Below.refl _ _).drew,h.gt,h.list⟩
theorem or_low (x y:UInt8):bits .or .i64 (x.toNat:Int) ((y.toNat:Int) * 256)=((x.toNat+256 * y.toNat:Nat):Int):=by
 have hx:=x.toNat_lt
 have hy:=y.toNat_lt
 have e:(y.toNat:Int) * 256=((y.toNat * 256:Nat):Int):=by omega
 have o1:∀ a:Nat,a<9223372036854775808→(BitVec.ofInt 64 (a:Int)).toNat=a:=fun a ha=>by
  rw [BitVec.ofInt_natCast,BitVec.toNat_ofNat];exact Nat.mod_eq_of_lt (by omega)
 have hb:x.toNat ||| y.toNat * 256<2 ^ 63:=Nat.or_lt_two_pow (by omega) (by omega)
 have h:bits .or .i64 (x.toNat:Int) ((y.toNat * 256:Nat):Int)=((x.toNat ||| y.toNat * 256:Nat):Int):=by
  show IntKind.i64.wrap ((BitVec.ofInt 64 (x.toNat:Int) ||| BitVec.ofInt 64 ((y.toNat * 256:Nat):Int)).toNat:Int)=_
  rw [BitVec.toNat_or,o1 _ (by omega),o1 _ (by omega),IntKind.wrap_i64]
  omega
 have h2:x.toNat ||| y.toNat * 256=x.toNat+256 * y.toNat:=by
  rw [Nat.or_comm,Nat.mul_comm y.toNat 256,← Nat.two_pow_add_eq_or_of_lt (i:=8) (by omega) y.toNat]
  omega
 rw [e,h,h2]
def four (b:List UInt8):List Value:=[.int .i64 (num2 b 0:Nat),.int .i64 (num2 b 1:Nat),.int .i64 (num2 b 2:Nat),.int .i64 (num2 b 3:Nat)]
theorem four_one (b:List UInt8):∀ v∈four b,v.oneCell'=true:=by
 intro v hv
 simp only [four,List.mem_cons,List.not_mem_nil,or_false] at hv
 rcases hv with rfl | rfl | rfl | rfl<;>rfl
theorem four_in {W:World} {G:Nat} {b:List UInt8} {t:TypeId} {fr:Nat × Nat} (h:W.heap[G]?=some (.cells (fill b 6).toArray t fr)):∀ j v,(four b)[j]?=some v→W.cell? ((⟨G,0,none⟩:Addr).add j)=some v:=by
 intro j v hv
 rw [Addr.add_mid,cell_of_row W G _ _ t fr h]
 match j,hv with
 | 0,hv=>exact hv
 | 1,hv=>exact hv
 | 2,hv=>exact hv
 | 3,hv=>exact hv
def nd9 (b:List UInt8):Nd:=⟨(b[0]?.getD 0).toNat,(b[1]?.getD 0).toNat,num4 b 0,num4 b 1,num4 b 2,num2 b 0,num2 b 1,num2 b 2,num2 b 3,0,0⟩
end Go.Proofs.YtkganhafbjgndaaGreatRR.D
namespace Go.Proofs.YtkganhafbjgndaaGreatRR.D
open Go.RowKit
set_option linter.unusedVariables false
set_option maxRecDepth 20000
theorem mid_bts {w W:World} {b:List UInt8} (h:W.heap[w.heap.size]?=some (.cells (b.map F.bv).toArray 172 (0,0))) (hb:b.length=32):F.Bts W (w.heap.size+1) (some ⟨w.heap.size,2,none⟩) 12 30 (mid b):=by
 refine ⟨mid_len hb,by omega,by decide,(fun e=>by cases e),fun _=>⟨w.heap.size,2,rfl,by omega,fun j hj=>?_⟩⟩
 rw [box_cell h (by omega)]
 have e:(mid b)[j]?=b[2+j]?:=by
  unfold mid
  rw [List.getElem?_take,if_pos hj,List.getElem?_drop]
 rw [e]
set_option maxRecDepth 20000 in
set_option maxHeartbeats 4000000 in
theorem nodeOf_any (b:List UInt8) (w:World) (hb:b.length=32):Calls Tryz.prog 113 #[.agg (b.map F.bv).toArray] w fun e w'=>e=.returned (.agg (nc (rd b).up).toArray)∧Below w.heap.size w w':=by
 have HL:=Lib.hid hb
 clear hb
 go_enter Tryz.func113,Tryz.ntmps113
 go_upto_region 1 with fail
 obtain ⟨a0,a1,ab,az⟩:=box2 w (Obj.cells (b.map F.bv).toArray 172) (Obj.cells z11 66)
 generalize (w.alloc (Obj.cells (b.map F.bv).toArray 172)).alloc (Obj.cells z11 66)=W at *
 have A0:=Lib.hid a0
 have A1:=Lib.hid a1
 have AB:=Lib.hid ab
 have AZ:=Lib.hid az
 clear a0 a1 ab az
 go_wp2_with fail
 refine (F.read_any _ _ _ (w.heap.size+1) (mid b) _ (mid_bts A0.out HL.out) (by rw [AZ.out];omega)).mono ?_
 rintro e w1 ⟨rfl,hf1,hb1⟩
 rw [AZ.out] at hf1 hb1 ⊢
 have HS0:Hid (St w w1 b 0 none):=by
  exact ⟨hf1,(hb1.block _ (by omega)).trans A0.out,(hb1.block _ (by omega)).trans A1.out,AB.out.trans (hb1.mono (by omega)),fun p hp=>by cases hp⟩
 clear hf1 hb1 A0 A1 AB AZ
 obtain ⟨x0,hx0⟩:∃ x,b[0]?.getD 0=x:=⟨_,rfl⟩
 obtain ⟨x1,hx1⟩:∃ x,b[1]?.getD 0=x:=⟨_,rfl⟩
 have HX:=Lib.hid hx0
 have HY:=Lib.hid hx1
 clear hx0 hx1
 have hw0:IntKind.i64.wrap (x0.toNat:Int)=x0.toNat:=by have:=x0.toNat_lt;rw [IntKind.wrap_i64];omega
 have hw1:IntKind.i64.wrap (x1.toNat:Int)=x1.toNat:=by have:=x1.toNat_lt;rw [IntKind.wrap_i64];omega
 go_upto_region 2 with fail
 go_cut [4] from 10 to 22 (fun s4 wx=>∃ p,s4=.pointer (some ⟨p,0,none⟩)∧Hid (Dn w wx b p))
 case first =>
  go_region_held3 (fun W=>W.cell? ⟨w.heap.size,0,none⟩=some (.int .u8 (x0.toNat:Int))∧W.cell? ⟨w.heap.size,1,none⟩=some (.int .u8 (x1.toNat:Int))) (first | with_reducible exact HS0.out.drew.c01 HL.out HX.out HY.out | with_reducible exact (HS0.out.alloc w1.heap.size rfl).drew.c01 HL.out HX.out HY.out | with_reducible exact HS1.out.c01 HL.out HX.out HY.out | with_reducible exact HS2.out.c01 HL.out HX.out HY.out | with_reducible exact HS3.out.c01 HL.out HX.out HY.out | with_reducible exact HS1.out.far HL.out HX.out HY.out _ | with_reducible exact HS2.out.far HL.out HX.out HY.out _ | with_reducible exact HS3.out.far HL.out HX.out HY.out _ | go_keep) (first
   | (go_at_call 155;with_reducible refine (num_st 0 (by omega) HL.out HS0.out.drew).mono ?_;rintro e w2 ⟨rfl,h2⟩;have HS1:=Lib.hid h2;clear h2)
   | (go_at_call 155;with_reducible refine (num_st 0 (by omega) HL.out (HS0.out.alloc w1.heap.size rfl).drew).mono ?_;rintro e w2 ⟨rfl,h2⟩;have HS1:=Lib.hid h2;clear h2)
   | (go_at_call 155;with_reducible refine (num_st 1 (by omega) HL.out HS1.out).mono ?_;rintro e w3 ⟨rfl,h3⟩;have HS2:=Lib.hid h3;clear h3)
   | (go_at_call 155;with_reducible refine (num_st 1 (by omega) HL.out (HS1.out.alloc w2.heap.size rfl)).mono ?_;rintro e w3 ⟨rfl,h3⟩;have HS2:=Lib.hid h3;clear h3)
   | (go_at_call 155;with_reducible refine (num_st 2 (by omega) HL.out HS2.out).mono ?_;rintro e w4 ⟨rfl,h4⟩;have HS3:=Lib.hid h4;clear h4;try (obtain ⟨z0,f0⟩:=HS3.out.cells 0 (by omega));try (obtain ⟨z1,f1⟩:=HS3.out.cells 1 (by omega));try (obtain ⟨z2,f2⟩:=HS3.out.cells 2 (by omega));try (obtain ⟨z3,f3⟩:=HS3.out.cells 3 (by omega));try (obtain ⟨z4,f4⟩:=HS3.out.cells 4 (by omega));try (obtain ⟨z5,f5⟩:=HS3.out.cells 5 (by omega));try (obtain ⟨z6,f6⟩:=HS3.out.cells 6 (by omega));try (obtain ⟨z7,f7⟩:=HS3.out.cells 7 (by omega));try (obtain ⟨z8,f8⟩:=HS3.out.cells 8 (by omega));try (obtain ⟨z9,f9⟩:=HS3.out.cells 9 (by omega));try (obtain ⟨z10,f10⟩:=HS3.out.cells 10 (by omega));try (have hpn:=HS3.out.ne))
   | (go_at_call 155;with_reducible refine (num_st 2 (by omega) HL.out (HS2.out.alloc w3.heap.size rfl)).mono ?_;rintro e w4 ⟨rfl,h4⟩;have HS3:=Lib.hid h4;clear h4;try (obtain ⟨z0,f0⟩:=HS3.out.cells 0 (by omega));try (obtain ⟨z1,f1⟩:=HS3.out.cells 1 (by omega));try (obtain ⟨z2,f2⟩:=HS3.out.cells 2 (by omega));try (obtain ⟨z3,f3⟩:=HS3.out.cells 3 (by omega));try (obtain ⟨z4,f4⟩:=HS3.out.cells 4 (by omega));try (obtain ⟨z5,f5⟩:=HS3.out.cells 5 (by omega));try (obtain ⟨z6,f6⟩:=HS3.out.cells 6 (by omega));try (obtain ⟨z7,f7⟩:=HS3.out.cells 7 (by omega));try (obtain ⟨z8,f8⟩:=HS3.out.cells 8 (by omega));try (obtain ⟨z9,f9⟩:=HS3.out.cells 9 (by omega));try (obtain ⟨z10,f10⟩:=HS3.out.cells 10 (by omega));try (have hpn:=HS3.out.ne)))
  all_goals (go_wp2_with fail;go_meet;refine ⟨_,rfl,Lib.hid ?_⟩;first | with_reducible exact Dn.new HS3.out HX.out HY.out | with_reducible exact Dn.put HS3.out HX.out HY.out)
 case rest =>
  obtain ⟨p,rfl,HD⟩:=hcut
  clear HS0 hw0 hw1 HX HY
  go_upto_region 4 with fail
  obtain ⟨l0,lb,lz⟩:=box1 wc (Obj.cells z6 228)
  have HR0:Hid (Rl w (wc.alloc (Obj.cells z6 228)) b p wc.heap.size 0):=⟨HD.out.below lb,F.lt_of_heap HD.out.node,l0⟩
  clear l0 lb lz HD
  generalize wc.alloc (Obj.cells z6 228)=W1 at *
  generalize wc.heap.size=G at *
  go_wp2_with fail
  go_loopw [23] (fun i wr=>∃ k:Nat,k≤6∧i=.int .i64 k∧Hid (Rl w wr b p G k)) (fun i _=>6 - (intOf i).toNat)
  case atStart=>exact ⟨0,Nat.zero_le _,rfl,HR0⟩
  case round =>
   clear HR0
   obtain ⟨k,hk,rfl,HR⟩:=hrel
   by_cases hlt:k<6
   ·have hx:=box_cell HR.out.dn.box (j:=14+2 * k) (by rw [HL.out];omega)
    have hy:=box_cell HR.out.dn.box (j:=14+2 * k+1) (by rw [HL.out];omega)
    obtain ⟨v0,hv0⟩:=fill_get b hlt
    have hg0:wr.cell? ⟨G,k,none⟩=some v0:=(F.cell_in HR.out.list k).trans hv0
    have hf0:=F.free_in HR.out.list k
    have HN:Hid (num2 b k=((b[14+2 * k]?.getD 0).toNat+256 * (b[14+2 * k+1]?.getD 0).toNat:Nat)):=rfl
    clear hv0
    generalize b[14+2 * k]?.getD 0=x at *
    generalize b[14+2 * k+1]?.getD 0=y at *
    have hxl:=x.toNat_lt
    have hyl:=y.toNat_lt
    go_wp2_with fail
    have hp:14+2 * (k:Int)=((14+2 * k:Nat):Int):=by omega
    have hp1:14+2 * k+1<32:=by omega
    rw [hp]
    generalize 14+2 * k=m at *
    clear hp
    have hi0:(0:Int)≤(m:Int):=by omega
    have hi1:(m:Int)<32:=by omega
    have hi2:((m+1:Nat):Int)<32:=by omega
    have hi4:(0:Int)≤((m+1:Nat):Int):=by omega
    have hw1:IntKind.i64.wrap ((m:Int)+1)=((m+1:Nat):Int):=by rw [IntKind.wrap_i64];omega
    have hw2:IntKind.i64.wrap (x.toNat:Int)=(x.toNat:Int):=by rw [IntKind.wrap_i64];omega
    have hw3:IntKind.i64.wrap (y.toNat:Int)=(y.toNat:Int):=by rw [IntKind.wrap_i64];omega
    have hw4:IntKind.i64.wrap ((y.toNat:Int) * 256)=(y.toNat:Int) * 256:=by rw [IntKind.wrap_i64];omega
    have hj0:(0:Int)≤(k:Int):=by omega
    have hj1:(k:Int)<6:=by omega
    generalize hq:m+1=q at *
    clear hq
    go_still_tail 13,(by kernel_rfl)
    change wpList _ _ _ _ _ wr.drew
    have hg0':wr.drew.cell? ⟨G,k,none⟩=some v0:=hg0
    have hf0':wr.drew.frozen? ⟨G,k,none⟩=false:=hf0
    go_wp2_with fail
    exact ⟨⟨k+1,by omega,by go_num,(HR.out.step hlt (by rw [HN.out,or_low])).drew⟩,by simp [intOf];omega⟩
   ·obtain rfl:k=6:=by omega
    obtain ⟨W2,hr,hg2,hgr,hz2⟩:=copy_run (w:=wr.drew) (ty:=3) (dLen:=4) (dCap:=4) (sLen:=6) (sCap:=6) Tryz.underlying54 s3 (L:=nc (nd5 b)) (off:=5) HR.out.dn.node (cs:=four b) rfl (four_in (W:=wr.drew) HR.out.list) (by simp [nc,four]) (four_one b)
    have hpG:=HR.out.gt
    have hpw:=HR.out.dn.gt
    have hlt6:=F.lt_of_heap HR.out.list
    have E0:Hid (W2.heap[G]?=some (.cells (fill b 6).toArray 228 (0,0))):=(hgr.block _ hlt6 (by simp;omega)).trans HR.out.list
    have E1:Hid (W2.heap[w.heap.size+1]?=some (.cells z11 66 (0,0))):=(hgr.block _ (by show _<wr.heap.size;omega) (by simp;omega)).trans HR.out.dn.zero
    have E2:Hid (W2.heap[p]?=some (.cells (nc (nd9 b)).toArray 66 (0,0))):=hg2
    have EB:Hid (Below w.heap.size w W2):=HR.out.dn.bel.drew.grown hgr (by show _≤wr.heap.size;omega) (fun k hk=>by cases hk;omega)
    have d4:W2.cell? ⟨G,4,none⟩=some (.int .i64 (num2 b 4:Nat)):=F.cell_in E0.out 4
    have d5:W2.cell? ⟨G,5,none⟩=some (.int .i64 (num2 b 5:Nat)):=F.cell_in E0.out 5
    have n9:W2.cell? ⟨p,9,none⟩=some (.int .i64 0):=F.cell_in E2.out 9
    have n10:W2.cell? ⟨p,10,none⟩=some (.int .i64 0):=F.cell_in E2.out 10
    have f9:=F.free_in E2.out 9
    have f10:=F.free_in E2.out 10
    have G2:Hid (((W2.setCell ⟨p,9,none⟩ (.int .i64 (num2 b 4:Nat))).setCell ⟨p,10,none⟩ (.int .i64 (num2 b 5:Nat))).heap[p]?=some (.cells (nc (rd b).up).toArray 66 (0,0))):=F.heap_set (F.heap_set E2.out 9 _) 10 _
    have G1:Hid (((W2.setCell ⟨p,9,none⟩ (.int .i64 (num2 b 4:Nat))).setCell ⟨p,10,none⟩ (.int .i64 (num2 b 5:Nat))).heap[w.heap.size+1]?=some (.cells z11 66 (0,0))):=by
     show _=_
     rw [Below.heap_setCell _ _ _ _ (by simp;omega),Below.heap_setCell _ _ _ _ (by simp;omega)]
     exact E1.out
    have GB:Hid (Below w.heap.size w ((W2.setCell ⟨p,9,none⟩ (.int .i64 (num2 b 4:Nat))).setCell ⟨p,10,none⟩ (.int .i64 (num2 b 5:Nat)))):=(EB.out.setCell (p:=⟨p,9,none⟩) (by simp;omega) _).setCell (p:=⟨p,10,none⟩) (by simp;omega) _
    have hne:p≠G:=by omega
    clear hg2 hgr hz2 HR hlt6 hpG E0 E1 E2 EB
    go_upto_region 10 with fail
    go_region
    go_wp2_with (first | (refine wpList_load_row rfl 66 _ rfl p rfl _ _ _ G2.out _ Tryz.underlying66 rfl s25 ?_) | (refine wpList_store_row rfl 66 _ _ rfl (w.heap.size+1) z11 (nc (rd b).up).toArray 66 rfl rfl G1.out s25 rfl (all_oneCell_toArray (nc_one _)) ?_) | fail)
    refine bodyPost_ret (ret_row rfl rfl (setRow_in _ _ _ _ _ G1.out) Tryz.underlying66 rfl s25) rfl ?_
    exact ⟨rfl,below_setRow GB.out (by omega) _⟩
end Go.Proofs.YtkganhafbjgndaaGreatRR.D
namespace Go.Proofs.YtkganhafbjgndaaGreatRR.D
open Go.RowKit
set_option linter.unusedVariables false
set_option maxRecDepth 20000
def GetP (w:World) (y:Nn) (r:Bool) (e:Ending) (w':World):Prop :=
 e=.returned (.tuple #[.agg (nc (if r then y else zeroN).up).toArray,.int .i64 (if r then 0 else 2)])∧Below w.heap.size w w'
theorem piece_in {w W:World} {bb off B c i:Nat} {b:List UInt8} (h:F.Bts w B (some ⟨bb,off,none⟩) 128 c b) (hW:Below B w W) (hi:i<4):∀ j v,((piece b i).map F.bv)[j]?=some v→W.cell? ((⟨bb,off+32 * i,none⟩:Addr).add j)=some v:=by
 intro j v hv
 have hj:j<32:=by
  have:=(List.getElem?_eq_some_iff.1 hv).1
  simpa [piece_len h.len hi] using this
 obtain ⟨b2,o2,e2,hb2,hc⟩:=h.at_ (by omega)
 cases e2
 have hl:=h.len
 rw [Addr.add_mid,hW.cell hb2,Nat.add_assoc,hc (32 * i+j) (by omega),← hv]
 have hj2:32 * i+j<b.length:=by omega
 simp [piece,hj,hj2,F.bv]
theorem splice_all {L cs:List Value} (h:cs.length=L.length):splice L 0 cs=cs:=by
 unfold splice
 rw [Nat.zero_add,h,List.drop_length]
 simp
set_option maxRecDepth 20000 in
set_option maxHeartbeats 4000000 in
theorem get_any {w:World} {B c i:Nat} {A:Option Addr} {b:List UInt8} (h:F.Bts w B A 128 c b) (hB:B≤w.heap.size) (hi:i<4):Calls Tryz.prog 69 #[.slice A 128 c,.int .i64 i] w (GetP w (rd (piece b i)) (good (piece b i))):=by
 have H:=Lib.hid (h.more hB)
 have HL:Hid ((piece b i).length=32):=piece_len h.len hi
 have hcap:=h.cap
 have hlim:=h.lim
 unfold maxLen at hlim
 obtain ⟨bb,off,rfl,hbb,hcell⟩:=h.at_ (by omega)
 have HC:=Lib.hid hcell
 clear hcell h
 go_enter Tryz.func69,Tryz.ntmps69
 go_wp2_with fail
 refine (has_yes _ 128 c i _ rfl (by omega) (by omega)).mono ?_
 rintro e w1 ⟨rfl,rfl⟩
 go_upto_region 4 with fail
 obtain ⟨a0,a1,ab,az⟩:=box2 w (Obj.cells z11 66) (Obj.cells z32 172)
 generalize (w.alloc (Obj.cells z11 66)).alloc (Obj.cells z32 172)=W at *
 obtain ⟨m,hm⟩:∃ m,32 * i=m:=⟨_,rfl⟩
 have hm96:m≤96:=by omega
 have hmul:(i:Int) * 32=(m:Int):=by omega
 have hw:IntKind.i64.wrap ((i:Int) * 32)=(m:Int):=by rw [IntKind.wrap_i64];omega
 have hm0:(0:Int)≤(m:Int):=by omega
 have hm1:(m:Int)≤128:=by omega
 have hm2:(m:Int)≤(c:Int):=by omega
 have hm3:¬ c=m:=by omega
 obtain ⟨W2,hr,hg2,hgr,hz2⟩:=copy_run (w:=W.drew) (ty:=3) (dLen:=32) (dCap:=32) (sLen:=128 - m) (sCap:=c - m) Tryz.underlying41 s5 (L:=z32.toList) (off:=0) a1 (ad:=⟨bb,off+m,none⟩) (cs:=(piece b i).map F.bv) (by rw [List.length_map,HL.out];show 32=min (128 - m) 32;omega) (by rw [← hm];exact piece_in H.out ab.drew hi) (by rw [List.length_map,HL.out];decide) (bv_one _)
 rw [splice_all (by rw [List.length_map,HL.out];rfl)] at hg2
 have E0:Hid (W2.heap[w.heap.size]?=some (.cells z11 66 (0,0))):=(hgr.block _ (by show _<W.heap.size;omega) (by simp)).trans a0
 have E1:=Lib.hid hg2
 have EB:Hid (Below w.heap.size w W2):=ab.drew.grown hgr (by show _≤W.heap.size;omega) (fun k hk=>by cases hk;omega)
 have EZ:Hid (W2.heap.size=w.heap.size+1+1):=hz2.trans az
 clear hm a0 a1 ab az hg2 hgr hz2
 obtain ⟨p,hp⟩:∃ p,piece b i=p:=⟨_,rfl⟩
 rw [hp] at HL E1
 have HPI:=Lib.hid hp
 clear hp H HC
 have HS:Hid ((Tryz.prog.info? 172).map (·.size)=some (p.map F.bv).toArray.size):=by show _=_;rw [List.size_toArray,List.length_map,HL.out];exact s44
 go_region
 clear hr
 go_wp2_with (first | (refine wpList_load_row rfl 172 _ rfl (w.heap.size+1) rfl _ _ _ E1.out _ Tryz.underlying172 rfl HS.out ?_) | fail)
 refine (nodeOf_any p _ HL.out).mono ?_
 rintro e w3 ⟨rfl,hb3⟩
 have F0:Hid (∀ o,(w3.alloc o).heap[w.heap.size]?=some (.cells z11 66 (0,0))):=fun o=>((box_below w3 o).block _ (by have:=hb3.size;rw [EZ.out] at this;omega)).trans ((hb3.block _ (by rw [EZ.out];omega)).trans E0.out)
 have F1:Hid (∀ o,(w3.alloc o).heap[w.heap.size+1]?=some (.cells (p.map F.bv).toArray 172 (0,0))):=fun o=>((box_below w3 o).block _ (by have:=hb3.size;rw [EZ.out] at this;omega)).trans ((hb3.block _ (by rw [EZ.out];omega)).trans E1.out)
 have FB:Hid (∀ o,Below w.heap.size w (w3.alloc o)):=fun o=>(EB.out.trans (hb3.mono (by rw [EZ.out];omega))).trans ((box_below w3 o).mono (by have:=hb3.size;rw [EZ.out] at this;omega))
 have F2:Hid ((w3.alloc (Obj.cells (nc (rd p).up).toArray 66)).heap[w3.heap.size]?=some (.cells (nc (rd p).up).toArray 66 (0,0))):=heap_alloc_new w3 _
 have hw3:w.heap.size+1<w3.heap.size:=by have:=hb3.size;rw [EZ.out] at this;omega
 clear hb3 E0 E1 EB EZ
 go_upto_region 6 with (first | (refine wpList_store_new rfl 66 _ _ rfl w3 z11 (nc (rd p).up).toArray rfl rfl s25 rfl (all_oneCell_toArray (nc_one _)) ?_) | fail)
 have F0':=Lib.hid (F0.out (Obj.cells (nc (rd p).up).toArray 66))
 have F1':=Lib.hid (F1.out (Obj.cells (nc (rd p).up).toArray 66))
 have FB':=Lib.hid (FB.out (Obj.cells (nc (rd p).up).toArray 66))
 have FZ:Hid ((w3.alloc (Obj.cells (nc (rd p).up).toArray 66)).heap.size=w3.heap.size+1):=by show _=_;simp
 clear F0 F1 FB
 generalize w3.alloc (Obj.cells (nc (rd p).up).toArray 66)=W3 at *
 go_wp2_with (first | (refine wpList_load_row rfl 66 _ rfl w3.heap.size rfl _ _ _ F2.out _ Tryz.underlying66 rfl s25 ?_) | fail)
 refine (sound_any (rd p).up _).mono ?_
 rintro e w4 ⟨rfl,hb4⟩
 have hz4:=hb4.size
 rw [FZ.out] at hz4
 have G0:Hid (w4.heap[w.heap.size]?=some (.cells z11 66 (0,0))):=(hb4.block _ (by rw [FZ.out];omega)).trans F0'.out
 have G1:Hid (w4.heap[w.heap.size+1]?=some (.cells (p.map F.bv).toArray 172 (0,0))):=(hb4.block _ (by rw [FZ.out];omega)).trans F1'.out
 have G2:Hid (w4.heap[w3.heap.size]?=some (.cells (nc (rd p).up).toArray 66 (0,0))):=(hb4.block _ (by rw [FZ.out];omega)).trans F2.out
 have GB:Hid (Below w.heap.size w w4):=FB'.out.trans (hb4.mono (by rw [FZ.out];omega))
 clear hb4 F0' F1' F2 FB' FZ
 cases hok:(rd p).up.ok with
 | false =>
  have HG:Hid (good p=false):=by show _=_;simp [good,hok]
  clear hok
  go_wp2_with (first | (refine wpList_store_row rfl 66 _ _ rfl w.heap.size z11 z11 66 rfl rfl G0.out s25 rfl (all_oneCell_toArray (nc_one zeroN.up)) ?_) | fail)
  refine bodyPost_ret (ret_row2 rfl rfl (setRow_in _ _ _ _ _ G0.out) Tryz.underlying66 rfl s25) rfl ?_
  obtain rfl:=HPI.out
  rw [HG.out]
  exact ⟨rfl,below_setRow GB.out (Nat.le_refl _) _⟩
 | true =>
  have HOK:=Lib.hid hok
  clear hok
  go_wp2_with (first | (refine wpList_load_row rfl 66 _ rfl w3.heap.size rfl _ _ _ G2.out _ Tryz.underlying66 rfl s25 ?_) | fail)
  refine (imageOf_any (rd p) _ (rd_fits p)).mono ?_
  rintro e w5 ⟨rfl,hb5⟩
  have hz5:=hb5.size
  have IL:Hid ((rd p).img.length=32):=(rd p).img_len
  have HSI:Hid ((Tryz.prog.info? 172).map (·.size)=some ((rd p).img.map F.bv).toArray.size):=by show _=_;rw [List.size_toArray,List.length_map,IL.out];exact s44
  have HSZ:Hid (z32.size=((rd p).img.map F.bv).toArray.size):=by
   have h:=IL.out
   show 32=_
   simp [h]
  have J0:Hid ((w5.alloc (Obj.cells ((rd p).img.map F.bv).toArray 172)).heap[w.heap.size]?=some (.cells z11 66 (0,0))):=((box_below w5 _).block _ (by omega)).trans ((hb5.block _ (by omega)).trans G0.out)
  have J1:Hid ((w5.alloc (Obj.cells ((rd p).img.map F.bv).toArray 172)).heap[w.heap.size+1]?=some (.cells (p.map F.bv).toArray 172 (0,0))):=((box_below w5 _).block _ (by omega)).trans ((hb5.block _ (by omega)).trans G1.out)
  have J2:Hid ((w5.alloc (Obj.cells ((rd p).img.map F.bv).toArray 172)).heap[w3.heap.size]?=some (.cells (nc (rd p).up).toArray 66 (0,0))):=((box_below w5 _).block _ (by omega)).trans ((hb5.block _ (by omega)).trans G2.out)
  have J3:Hid ((w5.alloc (Obj.cells ((rd p).img.map F.bv).toArray 172)).heap[w5.heap.size]?=some (.cells ((rd p).img.map F.bv).toArray 172 (0,0))):=heap_alloc_new w5 _
  have JB:Hid (Below w.heap.size w (w5.alloc (Obj.cells ((rd p).img.map F.bv).toArray 172))):=(GB.out.trans (hb5.mono (by omega))).trans ((box_below w5 _).mono (by omega))
  clear hb5 G0 G1 G2 GB
  go_upto_region 9 with (first | (refine wpList_store_new rfl 172 _ _ rfl w5 z32 ((rd p).img.map F.bv).toArray rfl rfl HSI.out HSZ.out (all_oneCell_toArray (bv_one _)) ?_) | fail)
  generalize w5.alloc (Obj.cells ((rd p).img.map F.bv).toArray 172)=W5 at *
  have hq:=eq44 (rd p).img p IL.out HL.out
  by_cases he:(rd p).img=p
  ·have HG:Hid (good p=true):=by show _=_;rw [good,HOK.out,Bool.true_and];exact decide_eq_true he
   rw [decide_eq_true he] at hq
   clear he
   go_wp2_with (first | (refine wpList_load_row rfl 172 _ rfl w5.heap.size rfl _ _ _ J3.out _ Tryz.underlying172 rfl HSI.out ?_) | (refine wpList_load_row rfl 172 _ rfl (w.heap.size+1) rfl _ _ _ J1.out _ Tryz.underlying172 rfl HS.out ?_) | (refine wpList_load_row rfl 66 _ rfl w3.heap.size rfl _ _ _ J2.out _ Tryz.underlying66 rfl s25 ?_) | (refine wpList_store_row rfl 66 _ _ rfl w.heap.size z11 (nc (rd p).up).toArray 66 rfl rfl J0.out s25 rfl (all_oneCell_toArray (nc_one _)) ?_) | fail)
   refine bodyPost_ret (ret_row2 rfl rfl (setRow_in _ _ _ _ _ J0.out) Tryz.underlying66 rfl s25) rfl ?_
   obtain rfl:=HPI.out
   rw [HG.out]
   exact ⟨rfl,below_setRow JB.out (Nat.le_refl _) _⟩
  ·have HG:Hid (good p=false):=by show _=_;rw [good,HOK.out,Bool.true_and];exact decide_eq_false he
   rw [decide_eq_false he] at hq
   clear he
   go_wp2_with (first | (refine wpList_load_row rfl 172 _ rfl w5.heap.size rfl _ _ _ J3.out _ Tryz.underlying172 rfl HSI.out ?_) | (refine wpList_load_row rfl 172 _ rfl (w.heap.size+1) rfl _ _ _ J1.out _ Tryz.underlying172 rfl HS.out ?_) | (refine wpList_store_row rfl 66 _ _ rfl w.heap.size z11 z11 66 rfl rfl J0.out s25 rfl (all_oneCell_toArray (nc_one zeroN.up)) ?_) | fail)
   refine bodyPost_ret (ret_row2 rfl rfl (setRow_in _ _ _ _ _ J0.out) Tryz.underlying66 rfl s25) rfl ?_
   obtain rfl:=HPI.out
   rw [HG.out]
   exact ⟨rfl,below_setRow JB.out (Nat.le_refl _) _⟩
end Go.Proofs.YtkganhafbjgndaaGreatRR.D
namespace Go.Proofs.YtkganhafbjgndaaGreatRR.D
open Go.RowKit
set_option linter.unusedVariables false
set_option maxRecDepth 20000
set_option maxRecDepth 20000 in
set_option maxHeartbeats 1000000 in
theorem clone_any (A:Option Addr) (n c B:Nat) (l:List UInt8) (w:World) (h:F.Bts w B A n c l) (hB:B≤w.heap.size) (hn:n≤140737488355328) :
  Calls Tryz.prog 145 #[.slice A n c] w (F.GivesMine w l):=by
 have heq:=fun W=>Lib.run_eql_slice_nil (P:=Tryz.prog) W 41 5 A n c 0 0 Tryz.underlying41
 have hl0:=h.len
 have H:=Lib.hid h
 clear h
 rcases A with _ | a
 ·have hc:=H.out.nil rfl
  have h0:l=[]:=List.length_eq_zero_iff.1 (by have:=H.out.cap;omega)
  subst h0
  subst hc
  simp only [Option.isNone_none] at heq
  clear hl0
  go_enter Tryz.func145,Tryz.ntmps145
  go_wp2
  go_ret
  exact ⟨_,rfl,World.ownsRow_nil _ _ _ _,Below.refl _ _⟩
 ·simp only [Option.isNone_some] at heq
  have ho:=World.ownsRow_made (e:=5) (size:=1) (base:=w.heap.size) w #[] 0 (Nat.le_refl _) (by decide) (by rfl)
  have hbl:=F.below_alloc w (.cells #[] 5)
  obtain ⟨v',w',hr,ho',hgr⟩:=F.app_run (l:=[]) 41 ho (H.out.below (hbl.mono hB)) (by simp;omega) (by simp)
  have HR:=Lib.hid hr
  clear hr hl0
  go_enter Tryz.func145,Tryz.ntmps145
  go_wp2_with (at_builtin;refine Lib.wpList_append_run _ rfl _ _ _ _ rfl _ _ rfl rfl _ _ HR.out ?_)
  go_ret
  exact ⟨_,rfl,ho',hbl.grown hgr (by simp) (fun j hj=>(ho.lt j hj).1)⟩
theorem splice_take {cur:List Value} {b p:List UInt8} {i:Nat} (hb:b.length=128) (hi:i<4) (hp:p.length=32) (ht:cur.take 128=b.map F.bv):(splice cur (32 * i) (p.map F.bv)).take 128=(put b i p).map F.bv:=by
 have hl:128≤cur.length:=by
  have:=congrArg List.length ht
  simp [hb] at this
  omega
 have e1:cur.take (32 * i)=(b.take (32 * i)).map F.bv:=by rw [List.map_take,← ht,List.take_take,Nat.min_eq_left (by omega)]
 have e2:(cur.drop (32 * i+32)).take (96 - 32 * i)=(b.drop (32 * i+32)).map F.bv:=by
  rw [List.map_drop,← ht,List.drop_take]
  congr 1
  omega
 unfold splice put
 rw [List.length_map,hp,e1,List.map_append,List.map_append,← e2,← List.append_assoc,List.take_append,List.take_of_length_le (by simp [hb,hp];omega)]
 congr 2
 simp [hb,hp]
 omega
theorem row_in {W:World} {g:Nat} {l:List UInt8} {t:TypeId} {fr:Nat × Nat} (h:W.heap[g]?=some (.cells (l.map F.bv).toArray t fr)):∀ j v,(l.map F.bv)[j]?=some v→W.cell? ((⟨g,0,none⟩:Addr).add j)=some v:=by
 intro j v hv
 rw [Addr.add_mid,Nat.zero_add,cell_of_row W g _ _ t fr h]
 simpa using hv
set_option maxRecDepth 20000 in
set_option maxHeartbeats 4000000 in
theorem put_yes {w:World} {B c i:Nat} {A:Option Addr} {b:List UInt8} (y:Nn) (h:F.Bts w B A 128 c b) (hB:B≤w.heap.size) (hi:i<4) (hok:y.up.ok=true):Calls Tryz.prog 106 #[.slice A 128 c,.int .i64 i,.agg (nc y.up).toArray] w (F.Gives2 w (put b i y.img)):=by
 have H:=Lib.hid (h.more hB)
 have HOK:=Lib.hid hok
 have HLB:=Lib.hid h.len
 obtain ⟨a0,ab,az⟩:=box1 w (Obj.cells (nc y.up).toArray 66)
 have A0:=Lib.hid a0
 have AB:=Lib.hid ab
 have AZ:=Lib.hid az
 clear a0 ab az h hok
 go_enter Tryz.func106,Tryz.ntmps106
 go_wp2_with fail
 refine (has_yes _ 128 c i _ rfl (by omega) (by omega)).mono ?_
 rintro e w1 ⟨rfl,rfl⟩
 go_wp2_with (first | (refine wpList_load_row rfl 66 _ rfl w.heap.size rfl _ _ _ A0.out _ Tryz.underlying66 rfl s25 ?_) | fail)
 refine (sound_any y.up _).mono ?_
 rintro e w2 ⟨rfl,hb2⟩
 rw [HOK.out]
 have hz2:=hb2.size
 rw [AZ.out] at hz2
 have B0:Hid (w2.heap[w.heap.size]?=some (.cells (nc y.up).toArray 66 (0,0))):=(hb2.block _ (by rw [AZ.out];omega)).trans A0.out
 have BB:Hid (Below w.heap.size w w2):=AB.out.trans (hb2.mono (by rw [AZ.out];omega))
 clear hb2 A0 AB AZ
 go_wp2_with (first | (refine wpList_load_row rfl 66 _ rfl w.heap.size rfl _ _ _ B0.out _ Tryz.underlying66 rfl s25 ?_) | fail)
 refine (imageOf_any y _ (Nn.fits HOK.out)).mono ?_
 rintro e w3 ⟨rfl,hb3⟩
 have hz3:=hb3.size
 have IL:Hid (y.img.length=32):=y.img_len
 have HSI:Hid ((Tryz.prog.info? 172).map (·.size)=some (y.img.map F.bv).toArray.size):=by show _=_;rw [List.size_toArray,List.length_map,IL.out];exact s44
 have HSZ:Hid (z32.size=(y.img.map F.bv).toArray.size):=by
  have h:=IL.out
  show 32=_
  simp [h]
 have C1:Hid ((w3.alloc (Obj.cells (y.img.map F.bv).toArray 172)).heap[w3.heap.size]?=some (.cells (y.img.map F.bv).toArray 172 (0,0))):=heap_alloc_new w3 _
 have CB:Hid (Below w.heap.size w (w3.alloc (Obj.cells (y.img.map F.bv).toArray 172))):=(BB.out.trans (hb3.mono (by omega))).trans ((box_below w3 _).mono (by omega))
 have CZ:Hid ((w3.alloc (Obj.cells (y.img.map F.bv).toArray 172)).heap.size=w3.heap.size+1):=by show _=_;simp
 clear hb3 B0 BB
 go_upto_region 6 with (first | (refine wpList_store_new rfl 172 _ _ rfl w3 z32 (y.img.map F.bv).toArray rfl rfl HSI.out HSZ.out (all_oneCell_toArray (bv_one _)) ?_) | fail)
 generalize w3.alloc (Obj.cells (y.img.map F.bv).toArray 172)=W3 at *
 go_wp2_with fail
 refine (clone_any A 128 c w.heap.size b _ (H.out.below CB.out) (by rw [CZ.out];omega) (by omega)).mono ?_
 rintro e w4 ⟨v,rfl,hm⟩
 have hz4:=hm.bel.size
 rw [CZ.out] at hz4
 have D1:Hid (w4.heap[w3.heap.size]?=some (.cells (y.img.map F.bv).toArray 172 (0,0))):=(hm.bel.block _ (by rw [CZ.out];omega)).trans C1.out
 have DB:Hid (Below w.heap.size w w4):=CB.out.trans (hm.bel.mono (by rw [CZ.out];omega))
 obtain ⟨g,cap,cur,e,hg,hh,hnc,hcm,hcs,htk⟩:∃ g cap cur,v=.slice (some ⟨g,0,none⟩) 128 cap∧W3.heap.size≤g∧w4.heap[g]?=some (.cells cur 5 (0,0))∧128≤cap∧cap≤maxLen∧cur.size=cap∧cur.toList.take 128=b.map F.bv:=by
  have ho:=hm.own
  rw [HLB.out] at ho
  rcases ho.2 with ⟨_,h0⟩ | ⟨g,cap,cur,e,h1,h2,h3,h4,h5,h6⟩
  ·omega
  ·exact ⟨g,cap,cur,e,h1,h2,h3,h4,by simpa using h5,by simpa using h6⟩
 subst e
 clear hm C1 CB H
 rw [CZ.out] at hg
 obtain ⟨m,hmi⟩:∃ m,32 * i=m:=⟨_,rfl⟩
 have hm96:m≤96:=by omega
 have hmul:(i:Int) * 32=(m:Int):=by omega
 have hw:IntKind.i64.wrap ((i:Int) * 32)=(m:Int):=by rw [IntKind.wrap_i64];omega
 have hm0:(0:Int)≤(m:Int):=by omega
 have hm1:(m:Int)≤128:=by omega
 have hm2:(m:Int)≤(cap:Int):=by omega
 have hm3:¬ cap=m:=by omega
 obtain ⟨W5,hr,hg5,hgr,hz5⟩:=copy_run (w:=w4.drew) (ty:=3) (dLen:=128 - m) (dCap:=cap - m) (sLen:=32) (sCap:=32) Tryz.underlying41 s5 (L:=cur.toList) (off:=m) hh (ad:=⟨w3.heap.size,0,none⟩) (cs:=y.img.map F.bv) (by rw [List.length_map,IL.out];show 32=min 32 (128 - m);omega) (row_in (W:=w4.drew) D1.out) (by rw [List.length_map,IL.out,Array.length_toList,hcs];omega) (bv_one _)
 have HM:Hid (F.Mine w W5 (.slice (some ⟨g,0,none⟩) 128 cap) (put b i y.img)):=by
  have hpl:(put b i y.img).length=128:=put_len HLB.out hi IL.out
  refine ⟨⟨by simp,.inr ⟨g,cap,_,by rw [hpl],by omega,hg5,by rw [hpl];exact hnc,hcm,?_,?_⟩⟩,DB.out.drew.grown hgr (by show _≤w4.heap.size;omega) (fun k hk=>by cases hk;omega)⟩
  ·rw [List.size_toArray,length_splice _ _ _ (by rw [List.length_map,IL.out,Array.length_toList,hcs];omega)]
   simp [hcs]
  ·rw [hpl,Nat.mul_one,← hmi]
   exact splice_take HLB.out hi IL.out htk
 clear hg5 hgr hz5 hh htk D1 DB hmi hcs
 go_upto_region 9 with fail
 go_region
 clear hr
 go_wp2_with fail
 go_ret2
 exact ⟨_,rfl,HM.out⟩
end Go.Proofs.YtkganhafbjgndaaGreatRR.D
