/- The arguments, opened: a node is eleven numbers, a seat two numbers and bytes, a []byte a slice that holds bytes, a []int one that holds numbers. -/
import Derived.Test.YtkganhafbjgndaaGreatRRZMD
import Derived.Test.YtkganhafbjgndaaGreatRRZMRb
import Derived.OpenShut
import Derived.ShutString
import Derived.ChangeOld
import Derived.SizedLaws
import Derived.Deep.Strs
namespace Go.Proofs.YtkganhafbjgndaaGreatRR
open Go.ChangeShapes Go.WideShapes Go.ChangeAt Go.RowKit
set_option linter.unusedVariables false
set_option maxRecDepth 100000
theorem own:ownKnob Tryz.prog.godebug=none:=by kernel_rfl
theorem laidOut:laidOutB Tryz.prog=true:=by kernel_rfl
theorem byteCells:Tryz.prog.cellsOf 5=1:=by kernel_rfl
theorem intCells:Tryz.prog.cellsOf 3=1:=by kernel_rfl
theorem byte_of {z:Int} (h:(Lit.int .u8 z).wf=true):z=((UInt8.ofNat z.toNat).toNat:Int):=by
 have h1:IntKind.u8.min=0:=rfl
 have h2:IntKind.u8.max=255:=rfl
 simp only [Lit.wf,Bool.and_eq_true,decide_eq_true_eq] at h
 rw [UInt8.toNat_ofNat']
 omega
theorem int_of {z:Int} (h:(Lit.int .i64 z).wf=true):-9223372036854775808≤z∧z≤9223372036854775807:=by
 have h1:IntKind.i64.min = -9223372036854775808:=rfl
 have h2:IntKind.i64.max=9223372036854775807:=rfl
 simp only [Lit.wf,Bool.and_eq_true,decide_eq_true_eq] at h
 omega
theorem open_cell {H:Type} {enc:TypeId × Value→H} {W:World} {fuel:Nat} {v:Value} {x:DataW H × List MemPlace} (hf:DataW.trod enc Tryz.prog W 0 (fun _=>true) true fuel 41 [v]=some x) :
  ∃ a n c l,v=.slice a n c∧F.Bts W W.heap.size a n c l:=by
 rcases open_ints Tryz.underlying41 Tryz.underlying5 byteCells hf with ⟨hcs,hx⟩ | ⟨x,m,cc,zs,hcs,_,hl,hm,hz,hx,hcell,hwz⟩
 ·simp at hcs
  exact ⟨none,0,0,[],hcs,F.Bts.nil_ _ _⟩
 ·simp at hcs
  simp only [if_true] at hz
  refine ⟨some x,m,cc,(zs.take m).map (fun z=>UInt8.ofNat z.toNat),hcs,⟨by simp [hz];omega,hl,hm,(fun e=>by cases e),fun h0=>?_⟩⟩
  obtain ⟨b,off,spot⟩:=x
  have hspot:spot=none:=by simpa [Addr.add] using World.cell?_spot (hcell 0 (by omega))
  subst hspot
  have hb:b<W.heap.size:=by
   have:=hcell 0 (by omega)
   exact World.block_lt_of_cell? W ⟨b,off,none⟩ (by rw [Addr.add_lit] at this;exact this)
  refine ⟨b,off,rfl,hb,fun j hj=>?_⟩
  have hjz:j<zs.length:=by omega
  have h1:=hcell j hjz
  rw [Addr.add_lit] at h1
  rw [h1]
  have hw:=byte_of (hwz zs[j] (List.getElem_mem hjz))
  simp only [List.getElem?_map,List.getElem?_take,if_pos hj,List.getD,List.getElem?_eq_getElem hjz,Option.getD_some,Option.map_some]
  rw [← hw]
theorem open_bytes {H:Type} {enc:TypeId × Value→H} {W:World} {a:Option Addr} {n c:Nat} {d:DataW H} {p:List MemPlace} (h:DataW.Trod enc Tryz.prog W 0 (fun _=>true) true 41 (.slice a n c) d p) :
  ∃ l,F.Bts W W.heap.size a n c l:=by
 obtain ⟨fuel,hf⟩:=h
 obtain ⟨a',n',c',l,e,hB⟩:=open_cell hf
 cases e
 exact ⟨l,hB⟩
end Go.Proofs.YtkganhafbjgndaaGreatRR
namespace Go.Proofs.YtkganhafbjgndaaGreatRR.V
open Go.ChangeShapes Go.WideShapes Go.ChangeAt Go.RowKit
set_option linter.unusedVariables false
set_option maxRecDepth 100000
theorem handle_cells:(Tryz.prog.cellsOf 26)=2:=by kernel_rfl
theorem open_handle {H:Type} {enc:TypeId × Value→H} {W:World} {r:Reach} {b0:Nat} {v:Value} {d:DataW H} {p:List MemPlace} (hval:Value.okWide Tryz.prog W r b0 26 v) (h:DataW.Trod enc Tryz.prog W 0 (fun _=>true) true 26 v d p) :
  ∃ a b:Int,v=.agg #[.int .i64 a,.int .i64 b]:=by
 obtain ⟨cs,rfl,hcs⟩:=okWide_struct Tryz.underlying26 hval
 rw [handle_cells] at hcs
 obtain ⟨fuel,hf⟩:=h
 obtain ⟨xs,m,_,_,_,hlen,hfs⟩:=DataW.trod_struct Tryz.underlying26 hf
 obtain ⟨l⟩:=cs
 match l,hcs with
 | [c0,c1],_ =>
  match xs,hlen with
  | [y0,y1],_ =>
   have g0:DataW.trod enc Tryz.prog W 0 (fun _=>true) true m 3 (([c0,c1].drop 0).take (Tryz.prog.cellsOf 3))=some y0:=hfs 0 _ rfl
   have g1:DataW.trod enc Tryz.prog W 0 (fun _=>true) true m 3 (([c0,c1].drop 1).take (Tryz.prog.cellsOf 3))=some y1:=hfs 1 _ rfl
   rw [intCells] at g0 g1
   obtain ⟨z0,e0,_⟩:=DataW.trod_int Tryz.underlying3 g0
   obtain ⟨z1,e1,_⟩:=DataW.trod_int Tryz.underlying3 g1
   simp at e0 e1
   exact ⟨z0,z1,by rw [e0,e1]⟩
end Go.Proofs.YtkganhafbjgndaaGreatRR.V
