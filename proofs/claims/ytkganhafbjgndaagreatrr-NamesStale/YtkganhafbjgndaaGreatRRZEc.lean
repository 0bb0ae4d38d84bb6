/- slices.Chunk of bytes, 32 by 32: what it yields. -/
import Derived.RangeFuncBox
import Derived.RangeFuncLeaves
import Derived.RangeFuncWrites
import Derived.Shelf.Abstract
import Derived.OwnWalkIn
import Derived.TacticsInMore
import Derived.LoopNIn
import Derived.LoopIn
import Derived.RegionIn
import Derived.BigRegionIn
import Derived.Test.YtkganhafbjgndaaGreatRRZEa
namespace Go.Proofs.YtkganhafbjgndaaGreatRR.E
open Go.RowKit Go.Shelf
set_option linter.unusedVariables false
attribute [local go_sem] Oper.semAt_some
def nparts (len:Nat):Nat:=(len+31) / 32
abbrev Pl (len:Nat):={ k:Nat // k<nparts len }
def plen (len k:Nat):Nat:=min 32 (len - 32 * k)
abbrev encs (bb off len:Nat) (x:Pl len):Array Value:=#[Value.slice (some ⟨bb,off+32 * x.1,none⟩) (plen len x.1) (plen len x.1)]
structure KB (n₀ g g':Nat) (W W':World):Prop where
 bel:Below n₀ W W'
 blk:W'.heap[g]?=W.heap[g]?
 blk':W'.heap[g']?=W.heap[g']?
theorem KB.refl (n₀ g g':Nat) (W:World):KB n₀ g g' W W:=⟨Below.refl _ _,rfl,rfl⟩
theorem KB.trans {n₀ g g':Nat} {a b c:World} (h:KB n₀ g g' a b) (k:KB n₀ g g' b c):KB n₀ g g' a c:=⟨h.bel.trans k.bel,k.blk.trans h.blk,k.blk'.trans h.blk'⟩
theorem KB.cell {n₀ g g':Nat} {a b:World} (h:KB n₀ g g' a b) (o:Nat):b.cell? ⟨g,o,none⟩=a.cell? ⟨g,o,none⟩:=World.cell?_of_block h.blk
theorem KB.cell' {n₀ g g':Nat} {a b:World} (h:KB n₀ g g' a b) (o:Nat):b.cell? ⟨g',o,none⟩=a.cell? ⟨g',o,none⟩:=World.cell?_of_block h.blk'
theorem KB.putObj {n₀ g g':Nat} {w:World} (hn:n₀≤w.heap.size) (hg:g<w.heap.size) (hg':g'<w.heap.size) (W:World) (l:Nat) (o o':Obj) (hl:w.heap.size≤l) (ho:W.heap[l]?=some o) (h1:o.isCells=false) (h2:o.isWalk=false):KB n₀ g g' W (W.putObj l o') :=
 ⟨belowK_b hn W l o o' hl ho h1 h2,(belowK_b (n₀:=g+1) hg W l o o' hl ho h1 h2).block g (by omega),(belowK_b (n₀:=g'+1) hg' W l o o' hl ho h1 h2).block g' (by omega)⟩
theorem KB.drew {n₀ g g':Nat} {a b:World} (h:KB n₀ g g' a b):KB n₀ g g' a b.drew:=⟨h.bel.drew,h.blk,h.blk'⟩
set_option maxRecDepth 100000 in
set_option maxHeartbeats 2000000 in
theorem chunk1_in (n:Nat) (hn:1≤n) (ll Bs Bn n₀ cap len bb off:Nat) (A:Option Addr) (J Jx:List (Pl len)→World→Prop) (hA:0<len→A=some ⟨bb,off,none⟩) (hcap:len≤cap) (hlim:cap≤9223372036854775807)
  (hJd:∀ s W,J s W→J s W.drew)
  (hY:∀ pre x W,J pre W→pre.length<nparts len→YieldAt Fence.wide (n - 1) Tryz.prog ll (encs bb off len x) W fun e W' =>
   (e=.returned (.bool true)∧J (pre++[x]) W'∧KB n₀ Bs Bn W W')∨(e=.returned (.bool false)∧Jx (pre++[x]) W'))
  (W:World) (hBs:W.cell? ⟨Bs,0,none⟩=some (.slice A len cap)) (hBn:W.cell? ⟨Bn,0,none⟩=some (.int .i64 32)) (h0:J [] W) (hlen:len≤140737488355328) :
  CallsIn Fence.wide n Tryz.prog 177 #[.func (.yield ll) #[] #[],.pointer (some ⟨Bs,0,none⟩),.pointer (some ⟨Bn,0,none⟩)] W fun e W'=>(∃ v,e=.returned v) ∧
   ((∃ ys:List (Pl len),ys.map (·.1)=List.range (nparts len)∧J ys W')∨(∃ pre:List (Pl len),(∃ k,k≤nparts len∧pre.map (·.1)=List.range k)∧Jx pre W')):=by
 refine callsIn_of_wp Tryz.func177 rfl trivial ?_ rfl
 simp only [Tryz.ntmps177,List.size_toArray,List.length_cons,List.length_nil,Nat.reduceAdd,Nat.reduceSub,Array.replicate_succ,Array.replicate_zero,List.push_toArray,List.append_toArray,List.nil_append,List.cons_append]
 gi_wp2
 gi_loopw [4] (fun i wr=>∃ k:Nat,∃ pre:List (Pl len),k≤nparts len∧i=.int .i64 ((32 * k:Nat):Int)∧Hid (pre.map (·.1)=List.range k)∧Hid (J pre wr)∧Hid (KB n₀ Bs Bn W wr))
  (fun i _=>(32 * nparts len - (intOf i).toNat))
 case atStart=>exact ⟨0,[],Nat.zero_le _,rfl,rfl,h0,KB.refl _ _ _ _⟩
 case round =>
  obtain ⟨k,pre,hk,rfl,HP,HJ,HK⟩:=hrel
  have hbs:wr.cell? ⟨Bs,0,none⟩=some (.slice A len cap):=(HK.out.cell 0).trans hBs
  have hbn:wr.cell? ⟨Bn,0,none⟩=some (.int .i64 32):=(HK.out.cell' 0).trans hBn
  by_cases hlt:k<nparts len
  ·have hlen1:32 * k<len:=by unfold nparts at hlt;omega
   obtain rfl:=hA (by omega)
   have HNP:Hid (nparts len=(len+31) / 32):=rfl
   obtain ⟨q,hq⟩:∃ q,q=32 * k:=⟨_,rfl⟩
   have HPL:Hid (plen len k=min 32 (len - q)):=by rw [hq];rfl
   have HSQ:Hid (List.range (k+1)=List.range k++[k]):=List.range_succ
   have hPL:pre.length=k:=by
    have:=congrArg List.length HP.out
    simpa using this
   have hY':=hY pre ⟨k,hlt⟩ wr.drew (hJd _ _ HJ.out) (by omega)
   have HY:Hid (YieldAt Fence.wide (n - 1) Tryz.prog ll #[Value.slice (some ⟨bb,off+q,none⟩) (plen len k) (plen len k)] wr.drew fun e W' =>
    (e=.returned (.bool true)∧J (pre++[⟨k,hlt⟩]) W'∧KB n₀ Bs Bn wr.drew W')∨(e=.returned (.bool false)∧Jx (pre++[⟨k,hlt⟩]) W')):=by
    show YieldAt _ _ _ _ _ _ _
    rw [hq]
    exact hY'
   clear hY'
   have hq0:q+32≤140737488355370:=by omega
   have HQ:Hid (((32 * (k+1):Nat):Int)=(q:Int)+32):=by show _=_;omega
   have HM:Hid (32 * nparts len - (32 * (k+1))<32 * nparts len - q):=by show _ < _;omega
   rw [← hq]
   have hq1:(q:Int)<(len:Int):=by omega
   have hq2:q≤cap:=by omega
   have hq3:¬ cap=q:=by omega
   have hq4:(q:Int)≤(len:Int):=by omega
   clear hq hlen1 hk
   by_cases hl:len - q<32
   ·obtain ⟨m,hm⟩:∃ m,len - q=m:=⟨_,rfl⟩
    rw [show plen len k=m by rw [HPL.out];omega] at HY
    have hm0:q+m=len:=by omega
    have hm1:((m:Nat):Int)<32:=by omega
    have hm2:0<m:=by omega
    have hm3:(q:Int)+(m:Int)≤(cap:Int):=by omega
    have hm4:(q:Int)≤(q:Int)+(m:Int):=by omega
    have hm5:((q:Int)+(m:Int)).toNat - q=m:=by omega
    have hm6:¬ ((q:Int)+(m:Int)).toNat=q:=by omega
    clear hl hm0
    gi_wp2
    gi_big_region
    all_goals
     obtain ⟨fn,tmps,assign,body,hy,hR⟩:=HY.out
     gi_wp2
     refine hR.mono ?_
     rintro e W3 (⟨rfl,hJ3,hk3⟩ | ⟨rfl,hJx3⟩)
     ·have HJ3:=Lib.hid hJ3
      have HK3:=Lib.hid (HK.out.drew.trans hk3)
      have hbn3:W3.cell? ⟨Bn,0,none⟩=some (.int .i64 32):=(HK3.out.cell' 0).trans hBn
      clear hJ3 hk3 hy hR
      gi_wp2
      go_roundw
      case rel=>exact ⟨k+1,pre++[⟨k,hlt⟩],by omega,by rw [HQ.out],by show _=_;rw [List.map_append,HP.out,HSQ.out];rfl,HJ3,HK3⟩
      case measure=>have:=HM.out;simp only [intOf];omega
     ·have HJX:=Lib.hid hJx3
      clear hJx3 hy hR
      gi_wp2
      refine bodyPost_ret (results_none rfl _ _ _) rfl ?_
      exact ⟨⟨_,rfl⟩,.inr ⟨_,⟨k+1,by omega,by rw [List.map_append,HP.out,HSQ.out];rfl⟩,HJX.out⟩⟩
   ·rw [show plen len k=32 by rw [HPL.out];omega] at HY
    have hm1:¬ (((len - q:Nat)):Int)<32:=by omega
    have hm3:(q:Int)+32≤(cap:Int):=by omega
    have hm5:((q:Int)+32).toNat - q=32:=by omega
    have hm6:¬ ((q:Int)+32).toNat=q:=by omega
    clear hl
    gi_wp2
    gi_big_region
    all_goals
     obtain ⟨fn,tmps,assign,body,hy,hR⟩:=HY.out
     gi_wp2
     refine hR.mono ?_
     rintro e W3 (⟨rfl,hJ3,hk3⟩ | ⟨rfl,hJx3⟩)
     ·have HJ3:=Lib.hid hJ3
      have HK3:=Lib.hid (HK.out.drew.trans hk3)
      have hbn3:W3.cell? ⟨Bn,0,none⟩=some (.int .i64 32):=(HK3.out.cell' 0).trans hBn
      clear hJ3 hk3 hy hR
      gi_wp2
      go_roundw
      case rel=>exact ⟨k+1,pre++[⟨k,hlt⟩],by omega,by rw [HQ.out],by show _=_;rw [List.map_append,HP.out,HSQ.out];rfl,HJ3,HK3⟩
      case measure=>have:=HM.out;simp only [intOf];omega
     ·have HJX:=Lib.hid hJx3
      clear hJx3 hy hR
      gi_wp2
      refine bodyPost_ret (results_none rfl _ _ _) rfl ?_
      exact ⟨⟨_,rfl⟩,.inr ⟨_,⟨k+1,by omega,by rw [List.map_append,HP.out,HSQ.out];rfl⟩,HJX.out⟩⟩
  ·obtain rfl:k=nparts len:=by omega
   have hq1:¬ (((32 * nparts len:Nat)):Int)<(len:Int):=by unfold nparts;omega
   generalize 32 * nparts len=q at *
   gi_wp2
   go_end0
   exact ⟨⟨_,rfl⟩,.inl ⟨_,HP.out,HJ.out⟩⟩
end Go.Proofs.YtkganhafbjgndaaGreatRR.E
