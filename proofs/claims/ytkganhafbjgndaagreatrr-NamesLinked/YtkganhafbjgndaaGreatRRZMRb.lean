/- A drive, walked: Put; bytes of one's own. -/
import Derived.Test.YtkganhafbjgndaaGreatRRZMRa
import Derived.Great.BuildSlice
import Derived.Deep.RegionHeld3
namespace Go.Proofs.YtkganhafbjgndaaGreatRR
open Go.RowKit
set_option linter.unusedVariables false
structure Bts (w:World) (M:Nat→Prop) (A:Option Addr) (n c:Nat) (l:List UInt8):Prop where
  len:l.length=n
  cap:n≤c
  lim:c≤maxLen
  at_:0<n→∃ b off,A=some ⟨b,off,none⟩∧M b∧w.rangeAt b off (bc l)
structure Wrs (w:World) (M:Nat→Prop) (A:Option Addr) (n c:Nat) (ws:List Wr):Prop where
  len:ws.length=n
  cap:n≤c
  lim:c≤maxLen
  at_:0<n→∃ b off,A=some ⟨b,off,none⟩∧M b∧∀ j x,ws[j]?=some x→w.cell? ⟨b,off+j * 2,none⟩=some (.int .i64 x.1)∧∃ A' n' c',w.cell? ⟨b,off+j * 2+1,none⟩=some (.slice A' n' c')∧Bts w M A' n' c' x.2
section
variable {w w':World} {M M':Nat→Prop} {A:Option Addr} {n c:Nat} {l:List UInt8} {ws:List Wr}
theorem Bts.keep (h:Bts w M A n c l) (hk:∀ b,M b→w'.heap[b]?=w.heap[b]?):Bts w' M A n c l :=
  ⟨h.len,h.cap,h.lim,fun hn=>by
    obtain ⟨b,off,e,hb,hc⟩:=h.at_ hn
    exact ⟨b,off,e,hb,rangeAt_of_heap hc (hk b hb)⟩⟩
theorem Bts.more (h:Bts w M A n c l) (hk:∀ b,M b→M' b):Bts w M' A n c l :=
  ⟨h.len,h.cap,h.lim,fun hn=>by
    obtain ⟨b,off,e,hb,hc⟩:=h.at_ hn
    exact ⟨b,off,e,hk b hb,hc⟩⟩
theorem Wrs.keep (h:Wrs w M A n c ws) (hk:∀ b,M b→w'.heap[b]?=w.heap[b]?):Wrs w' M A n c ws :=
  ⟨h.len,h.cap,h.lim,fun hn=>by
    obtain ⟨b,off,e,hb,hc⟩:=h.at_ hn
    refine ⟨b,off,e,hb,fun j x hj=>?_⟩
    obtain ⟨h1,A',n',c',h2,h3⟩:=hc j x hj
    exact ⟨(World.cell?_of_block (a:=⟨b,off+j * 2,none⟩) (hk b hb)).trans h1,A',n',c',(World.cell?_of_block (a:=⟨b,off+j * 2+1,none⟩) (hk b hb)).trans h2,h3.keep hk⟩⟩
theorem Wrs.more (h:Wrs w M A n c ws) (hk:∀ b,M b→M' b):Wrs w M' A n c ws :=
  ⟨h.len,h.cap,h.lim,fun hn=>by
    obtain ⟨b,off,e,hb,hc⟩:=h.at_ hn
    refine ⟨b,off,e,hk b hb,fun j x hj=>?_⟩
    obtain ⟨h1,A',n',c',h2,h3⟩:=hc j x hj
    exact ⟨h1,A',n',c',h2,h3.more hk⟩⟩
theorem Wrs.get (h:Wrs w M A n c ws) {j:Nat} {x:Wr} (hj:ws[j]?=some x):∃ b off,A=some ⟨b,off,none⟩∧M b∧w.cell? ⟨b,off+j * 2,none⟩=some (.int .i64 x.1)∧∃ A' n' c',w.cell? ⟨b,off+j * 2+1,none⟩=some (.slice A' n' c')∧Bts w M A' n' c' x.2:=by
  obtain ⟨b,off,e,hb,hc⟩:=h.at_ (by rw [← h.len];have:=(List.getElem?_eq_some_iff.1 hj).1;omega)
  exact ⟨b,off,e,hb,hc j x hj⟩
end
theorem all_take {α:Type} {p:α→Bool} {l:List α} {k:Nat} {x:α} (h:l[k]?=some x) (h1:(l.take k).all p=true) (h2:p x=true):(l.take (k+1)).all p=true:=by
  obtain ⟨hk,rfl⟩:=List.getElem?_eq_some_iff.1 h
  rw [List.take_succ_eq_append_getElem hk,List.all_append,h1]
  simp [h2]
theorem all_not {α:Type} {p:α→Bool} {l:List α} {k:Nat} {x:α} (h:l[k]?=some x) (h2:p x=false):l.all p=false:=by
  rw [Bool.eq_false_iff]
  intro ha
  rw [List.all_eq_true] at ha
  have:=ha x (List.mem_of_getElem? h)
  rw [h2] at this
  cases this
theorem St.keep {w w':World} {d:Nat} {vn vl vs:Value} {f:Bool} {left:Int} {dn:Bool} (h:St w d vn vl vs f left dn) (he:w'.heap[d]?=w.heap[d]?):St w' d vn vl vs f left dn:=he.trans h
set_option maxRecDepth 20000 in
set_option maxHeartbeats 2000000 in
theorem fits_any {w:World} {d N cn:Nat} {A0:Option Addr} {vl vs:Value} {f:Bool} {left:Int} {dn:Bool} (hst:St w d (.slice A0 N cn) vl vs f left dn)
    {M:Nat→Prop} {A:Option Addr} {n c:Nat} {ws:List Wr} (hW:Wrs w M A n c ws) (hM:∀ b,M b→b<w.heap.size) :
    Calls Tryz.prog 134 #[.pointer (some ⟨d,0,none⟩),.slice A n c] w fun e w'=>e=.returned (.int .i64 (fitE N ws))∧Below w.heap.size w w':=by
  have HS:=Lib.hid hst
  have HW:=Lib.hid hW
  have HM:=Lib.hid hM
  have hlim:=hW.lim
  have hcap:=hW.cap
  unfold maxLen at hlim
  have hdl:=hst.lt
  clear hst hW hM
  go_enter Tryz.func134,Tryz.ntmps134
  go_wp2_with fail
  go_loopw [11] (fun i wr=>∃ k:Nat,k≤n∧i=.int .i64 k∧Hid ((ws.take k).all (fun x=>inR N x.1)=true)∧Hid (Below w.heap.size w wr)) (fun i _=>n - (intOf i).toNat)
  case atStart=>exact ⟨0,Nat.zero_le _,rfl,by simp [Hid],Below.refl _ _⟩
  case round =>
    obtain ⟨k,hk,rfl,HA,HB⟩:=hrel
    by_cases hlt:k<n
    · obtain ⟨x,hx⟩:∃ x,ws[k]?=some x:=⟨_,List.getElem?_eq_getElem (by rw [HW.out.len];exact hlt)⟩
      obtain ⟨b,off,rfl,hb,hc0,A',n',c',hc1,hB⟩:=(HW.out.keep (w':=wr) fun b hb=>HB.out.block b (HM.out b hb)).get hx
      have HX:=Lib.hid hx
      obtain ⟨y,l⟩:=x
      simp only at hc0 hB
      clear hx hB
      have hsw:=HB.out.size
      cases hin:inR N y with
      | true =>
        have HA2:=Lib.hid (all_take HX.out HA.out hin)
        have HIN:=Lib.hid hin
        clear hin
        go_wp2_with fail
        refine (has_any y (HS.out.keep (by rw [Below.heap_alloc _ _ _ (by omega)];exact HB.out.block d hdl))).mono ?_
        rintro e w2 ⟨rfl,rfl⟩
        rw [HIN.out]
        go_wp2_with fail
        go_roundw
        case rel=>exact ⟨k+1,by omega,by go_num,HA2,HB.out.alloc (by omega) _⟩
        case measure=>simp [intOf];omega
      | false =>
        have HF:Hid (fitE N ws=4):=by
          show _=_
          unfold fitE
          rw [if_neg]
          rw [Bool.not_eq_true]
          exact all_not HX.out hin
        have HIN:=Lib.hid hin
        clear hin
        go_wp2_with fail
        refine (has_any y (HS.out.keep (by rw [Below.heap_alloc _ _ _ (by omega)];exact HB.out.block d hdl))).mono ?_
        rintro e w2 ⟨rfl,rfl⟩
        rw [HIN.out]
        go_wp2_with fail
        go_ret
        exact ⟨reti HF.out.symm,HB.out.alloc (by omega) _⟩
    · obtain rfl:k=n:=by omega
      have HALL:Hid (ws.all (fun x=>inR N x.1)=true):=by
        have:=HA.out
        rw [List.take_of_length_le (by rw [HW.out.len];omega)] at this
        exact this
      clear HA
      go_wp2_with fail
      rename_i w1 _
      go_loopw [23] (fun i wr=>∃ k':Nat,k'≤k∧i=.int .i64 k'∧Hid ((ws.take k').all (fun x=>x.2.length == 128)=true)∧Hid (Below w.heap.size w wr)) (fun i _=>k - (intOf i).toNat)
      case atStart=>exact ⟨0,Nat.zero_le _,rfl,by simp [Hid],HB⟩
      case round =>
        clear HB
        obtain ⟨k',hk',rfl,HA,HB⟩:=hrel
        by_cases hlt:k'<k
        · obtain ⟨x,hx⟩:∃ x,ws[k']?=some x:=⟨_,List.getElem?_eq_getElem (by rw [HW.out.len];exact hlt)⟩
          obtain ⟨b,off,rfl,hb,hc0,A',n',c',hc1,hB⟩:=(HW.out.keep (w':=wr) fun b hb=>HB.out.block b (HM.out b hb)).get hx
          have HX:=Lib.hid hx
          have hl2:x.2.length=n':=hB.len
          have hsw:=HB.out.size
          by_cases h128:n'=128
          · have HA2:=Lib.hid (all_take HX.out HA.out (by simp [hl2,h128]))
            subst h128
            clear hx hB hl2
            obtain ⟨y,l⟩:=x
            simp only at hc0
            go_wp2_with fail
            go_roundw
            case rel=>exact ⟨k'+1,by omega,by go_num,HA2,HB.out.alloc (by omega) _⟩
            case measure=>simp [intOf];omega
          · have HF:Hid (fitE N ws=1):=by
              show _=_
              unfold fitE
              rw [if_pos HALL.out,if_neg]
              rw [Bool.not_eq_true]
              exact all_not HX.out (by simp [hl2,h128])
            have g1:((n':Int) != 128)=true:=by rw [bne_iff_ne];omega
            clear hx hB hl2
            obtain ⟨y,l⟩:=x
            simp only at hc0
            go_wp2_with fail
            go_ret
            exact ⟨reti HF.out.symm,HB.out.alloc (by omega) _⟩
        · obtain rfl:k'=k:=by omega
          have HF:Hid (fitE N ws=0):=by
            have:=HA.out
            rw [List.take_of_length_le (by rw [HW.out.len];omega)] at this
            show _=_
            unfold fitE
            rw [if_pos HALL.out,if_pos this]
          go_wp2_with fail
          go_ret
          exact ⟨reti HF.out.symm,HB.out⟩
end Go.Proofs.YtkganhafbjgndaaGreatRR
namespace Go.Proofs.YtkganhafbjgndaaGreatRR
open Go.RowKit
set_option linter.unusedVariables false
theorem step_append_run {P:Program} {ops:Array Oper} {o:Oper} {a:Act} {w:World} {K:Act→World→Prop} {Q:Exit→Act→World→Prop} {E:Prop} (hgd:o.guard=none) (s x:Operand) (t:TypeId)
    (ho:o.op=.call { callee:=.builtin .append,args:=#[s,x],argTypes:=#[t,t] }) (v y v':Value) (w':World) (hs:a.eval s=v) (hx:a.eval x=y)
    (hr:(Builtin.append_ #[t,t] o.type #[v,y]).run P w=.ok v' w') (h:K (a.put o.dst v') w'):if Region.wanted o (yielded ops a.tmps)=true then Oper.wp P o a w K Q else E:=by
  have hw:Region.wanted o (yielded ops a.tmps)=true:=by simp [Region.wanted,hgd]
  rw [if_pos hw]
  exact wp_append_run s x t ho v y v' w' hs hx hr h
theorem wp_copy_run {P:Program} {o:Oper} {a:Act} {w:World} {K:Act→World→Prop} {Q:Exit→Act→World→Prop} (s x:Operand) (t t':TypeId)
    (ho:o.op=.call { callee:=.builtin .copy,args:=#[s,x],argTypes:=#[t,t'] }) (v y v':Value) (w':World) (hs:a.eval s=v) (hx:a.eval x=y)
    (hr:(Builtin.copy_ #[t,t'] o.type #[v,y]).run P w=.ok v' w') (h:K (a.put o.dst v') w'):o.wp P a w K Q:=by
  unfold Oper.wp execOp
  simp only [ho,resolve,invoke,builtin,Sem.run_bind,Sem.run_pure,Result.andThen_ok,List.map_toArray,List.map_cons,List.map_nil,hs,hx,hr]
  exact h
theorem step_copy_run {P:Program} {ops:Array Oper} {o:Oper} {a:Act} {w:World} {K:Act→World→Prop} {Q:Exit→Act→World→Prop} {E:Prop} (hgd:o.guard=none) (s x:Operand) (t t':TypeId)
    (ho:o.op=.call { callee:=.builtin .copy,args:=#[s,x],argTypes:=#[t,t'] }) (v y v':Value) (w':World) (hs:a.eval s=v) (hx:a.eval x=y)
    (hr:(Builtin.copy_ #[t,t'] o.type #[v,y]).run P w=.ok v' w') (h:K (a.put o.dst v') w'):if Region.wanted o (yielded ops a.tmps)=true then Oper.wp P o a w K Q else E:=by
  have hw:Region.wanted o (yielded ops a.tmps)=true:=by simp [Region.wanted,hgd]
  rw [if_pos hw]
  exact wp_copy_run s x t t' ho v y v' w' hs hx hr h
theorem build69 (m:Nat) (w:World):(Instr.build 202 #[(0,.int .i64 (m:Int))]).run Tryz.prog w=.ok (.agg (wc (m,zeros)).toArray) w:=by
  have h0:=z69 w
  unfold Instr.build
  simp only [Sem.run_bind,h0,Result.andThen_ok,Tryz.runUnderlying202]
  have h2:(Array.mapM (fun f:Field=>do
              let __do_lift ← sizeOf f.type
              pure (f.offset, __do_lift)) #[{ name := "at", type := 3, offset := 0, embedded := false, tag := "", pkgPath := "copyhold/drive", byteOffset := 0 }, { name := "data", type := 200, offset := 1, embedded := false, tag := "", pkgPath := "copyhold/drive", byteOffset := 8 }]).run Tryz.prog w = .ok #[(0, 1), (1, 128)] w := by
    simp [Array.mapM_eq_foldlM,Sem.run_bind,Tryz.sizeOf3,Tryz.sizeOf200]
  rw [h2]
  simp only [Result.andThen_ok]
  have h3:Instr.fill (fun x=>(#[(0,1),(1,128)]:Array (Nat × Nat))[x]?) (Value.agg (wc (0,zeros)).toArray).cells [(0,Value.int .i64 (m:Int))]=some (wc (m,zeros)).toArray:=by
    simp [Instr.fill,Value.cells,wc]
  rw [h3]
  rfl
theorem fill_one (cs:List Value) (h:cs.length=129) (cells:Array Value) (hc:cells.size=129):Instr.fill (fun i=>some (i * 129,129)) cells [(0,.agg cs.toArray)]=some cs.toArray:=by
  obtain ⟨r,hr,hs,hk⟩:=Great.fill_dense (s:=129) (by omega) [.agg cs.toArray] 0 cells (fun v hv=>by simp at hv;subst hv;simpa [Value.cells] using h) (by simp [hc])
  have:r=cs.toArray:=by
    apply Array.ext_getElem?
    intro k
    rw [hk k]
    by_cases h1:k<129
    · rw [if_pos ⟨by omega,by simpa using h1⟩]
      have e1:k / 129=0:=by omega
      have e2:k % 129=k:=by omega
      rw [e1,e2]
      simp [Value.cells]
    · rw [if_neg (by simp;omega),Array.getElem?_eq_none (by omega),Array.getElem?_eq_none (by simp;omega)]
  rw [this] at hr
  exact hr
theorem buildS (cs:List Value) (h:cs.length=129) (w:World):(Instr.buildSlice 96 1 #[(0,.agg cs.toArray)]).run Tryz.prog w=.ok (.slice (some ⟨w.heap.size,0,none⟩) 1 1) (w.alloc (.cells cs.toArray 202)):=by
  have hz:=i69
  cases hq:Tryz.prog.info? 202 with
  | none=>simp [hq] at hz
  | some i =>
    simp only [hq,Option.map_some,Option.some.injEq,Prod.mk.injEq] at hz
    refine run_buildSlice w 96 202 1 _ _ i _ Tryz.underlying96 hq hz.1 (by rw [hz.2.1];omega) (by rw [hz.2.1];omega) ?_
    rw [hz.2.1]
    exact fill_one cs h _ (by simp)
theorem wpList_build_run {P:Program} {ops:Array Oper} {rest:List Oper} {o:Oper} {a:Act} {w:World} {Q:Exit→Act→World→Prop} (hgd:o.guard=none) (t:TypeId) (x:Operand) (ho:o.op=.build t #[(0,x)])
    (u:Value) (hv:a.eval x=u) (v:Value) (hr:(Instr.build t #[(0,u)]).run P w=.ok v w) (h:wpList P ops Q rest (a.put o.dst v) w):wpList P ops Q (o :: rest) a w :=
  wpList_plain hgd fun K hK=>by
    unfold Oper.wp execOp
    simp only [ho,Sem.run_bind,List.map_toArray,List.map_cons,List.map_nil,hv,hr,Result.andThen_ok]
    exact hK _ _ h
theorem step_buildSlice_run {P:Program} {ops:Array Oper} {o:Oper} {a:Act} {w:World} {K:Act→World→Prop} {Q:Exit→Act→World→Prop} {E:Prop} (hgd:o.guard=none) (t:TypeId) (len:Nat) (x:Operand) (ho:o.op=.buildSlice t len #[(0,x)])
    (u:Value) (hv:a.eval x=u) (v:Value) (w':World) (hr:(Instr.buildSlice t len #[(0,u)]).run P w=.ok v w') (h:K (a.put o.dst v) w'):if Region.wanted o (yielded ops a.tmps)=true then Oper.wp P o a w K Q else E:=by
  have hw:Region.wanted o (yielded ops a.tmps)=true:=by simp [Region.wanted,hgd]
  rw [if_pos hw]
  unfold Oper.wp execOp
  simp only [ho,Sem.run_bind,List.map_toArray,List.map_cons,List.map_nil,hv,hr,Result.andThen_ok]
  exact h
theorem setAll_app:∀ (c a b:List Value),b.length=c.length→setAll (a++b).toArray a.length c=(a++c).toArray:=by
  intro c
  induction c with
  | nil=>intro a b h;have:b=[]:=List.length_eq_zero_iff.1 h;subst this;rfl
  | cons v r ih =>
    intro a b h
    cases b with
    | nil=>cases h
    | cons x t =>
      rw [setAll]
      have e:((a++x :: t).toArray.setIfInBounds a.length v)=((a++[v])++t).toArray:=by
        simp
      rw [e]
      have:=ih (a++[v]) t (by simpa using h)
      rw [List.length_append] at this
      simpa using this
theorem setAll_wc (m:Nat) (l:List UInt8) (h:l.length=128):setAll (wc (m,zeros)).toArray 1 (bc l)=(wc (m,l)).toArray :=
  setAll_app (bc l) [.int .i64 (m:Int)] (bc zeros) (by rw [bcz_len,bc_len,h])
theorem DrvAt.wrote {w:World} {d N bn cn bl cl:Nat} {s:DS} {vs:Value} (h:DrvAt w d N s bn cn bl cl vs) {n:Nat} {x:List UInt8} (hn:n<N) (hx:x.length=128) :
    DrvAt (w.setCells bn (n * 128) (bc x)) d N { s with now:=s.now.set n x } bn cn bl cl vs:=by
  obtain ⟨n1,n2,n3,n4⟩:=ne_of_nd h
  refine ⟨(heap_setCells_ne n1 _ _ _).trans h.st,h.now.set (by rw [h.ok.now];exact hn) hx,h.las.keep (heap_setCells_ne (fun e=>n3 e.symm) _ _ _),ownsRow_keep h.sin fun b hb=>heap_setCells_ne (fun e=>(n4 b hb).2.1 e.symm) _ _ _,?_,h.n0,h.n1,h.c0,h.c1,h.nd⟩
  exact ⟨by simp [h.ok.now],h.ok.lasting,h.ok.since,h.ok.lo,h.ok.hi,h.ok.fuse⟩
def Apps (w:World) (vs:Value) (k:Nat) (xs:List Value) (cs:List Value) (g cap:Nat) (w':World):Prop :=
  (Builtin.append_ #[96,96] 96 #[vs,.slice (some ⟨w.heap.size,0,none⟩) 1 1]).run Tryz.prog (w.alloc (.cells cs.toArray 202))=.ok (.slice (some ⟨g,0,none⟩) (k+1) cap) w' ∧
    w'.ownsRow 0 202 129 (.slice (some ⟨g,0,none⟩) (k+1) cap) (k+1) (xs++cs)∧(w.alloc (.cells cs.toArray 202)).grownBy w' vs.ownBlock∧(vs.ownBlock=some g∨g=w.heap.size+1)∧g<w'.heap.size
theorem app_one {w:World} {vs:Value} {k:Nat} {xs:List Value} (h:w.ownsRow 0 202 129 vs k xs) (cs:List Value) (hl:cs.length=129) (h1:∀ v∈cs,v.oneCell'=true) (hb:(k+1) * 136≤140737488355328):∃ g cap w',Apps w vs k xs cs g cap w':=by
  have hz:=i69
  cases hq:Tryz.prog.info? 202 with
  | none=>simp [hq] at hz
  | some i =>
    simp only [hq,Option.map_some,Option.some.injEq,Prod.mk.injEq] at hz
    have hnew:(w.alloc (.cells cs.toArray 202)).heap[w.heap.size]?=some (.cells cs.toArray 202 (0,0)):=heap_alloc_new _ _
    have:=run_append_lies (P:=Tryz.prog) (w.alloc (.cells cs.toArray 202)) 96 96 0 202 i _ 129 136 Tryz.underlying96 hq hz.1 hz.2.1 hz.2.2 (by show (wc (0,zeros)).toArray.size=129;rw [List.size_toArray,wc_len zeros_len]) (by omega)
      vs k xs (ownsRow_keep h fun b hb=>Below.heap_alloc _ _ _ (h.lt b hb).2) ⟨w.heap.size,0,none⟩ 1 1 cs (by omega) (fun j u hu=>by rw [Addr.add_mid,Nat.zero_add,cell_of hnew,List.getElem?_toArray];exact hu) h1 (by omega) (by unfold maxLen;omega) hb (by omega) (w.heap.size+1) (by simp)
    exact this
theorem wp_load60 {o:Oper} {a:Act} {w:World} {K:Act→World→Prop} {Q:Exit→Act→World→Prop} (x:Operand) (ho:o.op=.load 96 x) (p:Addr) (hx:a.eval x=.pointer (some p)) (v:Value) (hc:w.cell? p=some v)
    (h:K (a.put o.dst v) w):o.wp Tryz.prog a w K Q:=by
  unfold Oper.wp execOp
  simp only [ho,hx]
  simp [hc,go_sem]
  exact h
theorem wp_store60 {o:Oper} {a:Act} {w:World} {K:Act→World→Prop} {Q:Exit→Act→World→Prop} (x y:Operand) (ho:o.op=.store 96 x y) (p:Addr) (v:Value) (hx:a.eval x=.pointer (some p)) (hy:a.eval y=v) (u:Value) (hc:w.cell? p=some u) (hf:w.frozen? p=false)
    (h1:∃ A n c,v=.slice A n c) (h:K (a.put o.dst undef) (w.setCell p v)):o.wp Tryz.prog a w K Q:=by
  obtain ⟨A,n,c,rfl⟩:=h1
  unfold Oper.wp execOp
  simp only [ho,hx,hy]
  simp [hc,hf,go_sem]
  exact h
def PutR (w:World) (d N bn cn bl cl:Nat) (O:List Nat) (s:DS) (ws:List Wr) (k:Nat) (wr:World) (sk:DS) (vsk:Value):Prop :=
  DrvAt wr d N sk bn cn bl cl vsk∧sk.down=false∧s.putGo ws=sk.putGo (ws.drop k)∧sk.since.length=s.since.length+k∧Chg O w wr∧∀ g,vsk.ownBlock=some g→g∈O∨w.heap.size≤g
theorem drop_at {α:Type} {l:List α} {k:Nat} {x:α} (h:l[k]?=some x):l.drop k=x :: l.drop (k+1):=by
  obtain ⟨hk,rfl⟩:=List.getElem?_eq_some_iff.1 h
  exact List.drop_eq_getElem_cons hk
theorem fitE_zero {N:Nat} {ws:List Wr} (h:fitE N ws=0):∀ x∈ws,(∃ m:Nat,x.1=m∧m<N)∧x.2.length=128:=by
  unfold fitE at h
  split at h
  · rename_i h1
    split at h
    · rename_i h2
      intro x hx
      have g1:=List.all_eq_true.1 h1 x hx
      have g2:=List.all_eq_true.1 h2 x hx
      simp only [inR,Bool.and_eq_true,decide_eq_true_eq] at g1
      exact ⟨⟨x.1.toNat,by omega,by omega⟩,by simpa using g2⟩
    · cases h
  · cases h
theorem DrvAt.slice {w:World} {d N bn cn bl cl:Nat} {s:DS} {vs:Value} (h:DrvAt w d N s bn cn bl cl vs):∃ A c,vs=.slice A s.since.length c∧s.since.length≤c∧c≤maxLen:=by
  rcases h.sin.2 with ⟨rfl,h0⟩ | ⟨g,cap,cur,rfl,_,hg,hn,hm,_⟩
  · exact ⟨none,0,by rw [h0],by omega,by decide⟩
  · exact ⟨_,_,rfl,hn,hm⟩
end Go.Proofs.YtkganhafbjgndaaGreatRR
namespace Go.Proofs.YtkganhafbjgndaaGreatRR
open Go.RowKit
set_option linter.unusedVariables false
set_option maxRecDepth 100000 in
set_option maxRecDepth 20000 in
set_option maxHeartbeats 4000000 in
theorem put_go {w:World} {d N bn cn bl cl:Nat} {s:DS} {vs:Value} {M:Nat→Prop} {A:Option Addr} {n c:Nat} {ws:List Wr} (h:DrvAt w d N s bn cn bl cl vs) (hd:s.down=false)
    (hW:Wrs w M A n c ws) (hM:∀ b,M b→b<w.heap.size∧b∉owns d bn bl vs) (hf:fitE N ws=0) (hb:(s.since.length+n) * 136≤140737488355328) :
    Calls Tryz.prog 97 #[.pointer (some ⟨d,0,none⟩),.slice A n c] w fun e w'=>e=.returned (.int .i64 (s.putGo ws).1)∧Did w d (owns d bn bl vs) N (s.putGo ws).2 w':=by
  have H:=Lib.hid h
  have HW:=Lib.hid hW
  have HM:=Lib.hid hM
  have HF:=Lib.hid hf
  have HFX:=Lib.hid (fitE_zero hf)
  have hst:=h.st
  rw [hd] at hst
  have HS:=Lib.hid hst
  have HD0:=Lib.hid hd
  have hlim:=hW.lim
  have hcap:=hW.cap
  unfold maxLen at hlim
  obtain ⟨hn0,hn1⟩:=And.intro h.n0 h.n1
  have HBY:=Lib.hid hb
  clear h hst hd hW hM hf hb
  go_enter Tryz.func97,Tryz.ntmps97
  go_wp2_with fail
  refine (ready_any HS.out).mono ?_
  rintro e w' ⟨rfl,rfl⟩
  go_wp2_with fail
  refine (fits_any HS.out HW.out (fun b hb=>(HM.out b hb).1)).mono ?_
  rintro e w0 ⟨rfl,hb0⟩
  rw [HF.out]
  have HB0:=Lib.hid hb0
  clear hb0
  go_wp2_with fail
  go_loopw [23] (fun i wr=>∃ k sk vsk,k≤n∧i=.int .i64 (k:Int)∧Hid (PutR w d N bn cn bl cl (owns d bn bl vs) s ws k wr sk vsk)) (fun i _=>n - (intOf i).toNat)
  case atStart=>exact ⟨0,s,vs,Nat.zero_le _,rfl,H.out.keep (fun b hb=>HB0.out.block b (H.out.lt b hb)),HD0.out,rfl,rfl,Chg.of_below HB0.out,fun g hg=>.inl (by simp [owns,hg])⟩
  case round =>
    obtain ⟨k,sk,vsk,hk,rfl,HR⟩:=hrel
    by_cases hlt:k<n
    · obtain ⟨x,hx⟩:∃ x,ws[k]?=some x:=⟨_,List.getElem?_eq_getElem (by rw [HW.out.len];exact hlt)⟩
      have hkeep:∀ b,M b→wr.heap[b]?=w.heap[b]?:=fun b hb=>HR.out.2.2.2.2.1.block b (HM.out b hb).1 (HM.out b hb).2
      obtain ⟨b,off,rfl,hmb,hc0,A',n',c',hc1,hB⟩:=(HW.out.keep hkeep).get hx
      obtain ⟨⟨m,hm,hmN⟩,hl⟩:=HFX.out x (List.mem_of_getElem? hx)
      have HX:=Lib.hid hx
      obtain ⟨y,l⟩:=x
      simp only at hc0 hB hm hl
      subst hm
      obtain rfl:n'=128:=by rw [← hB.len,hl]
      have HBT:=Lib.hid hB
      have HL:=Lib.hid hl
      have hcc:=hB.cap
      have hcl:=hB.lim
      unfold maxLen at hcl
      have HD1:Hid (DrvAt (wr.alloc (.cells #[.int .i64 (m:Int),.slice A' 128 c'] 109)) d N sk bn cn bl cl vsk):=HR.out.1.keep fun b hb=>Below.heap_alloc _ _ _ (HR.out.1.lt b hb)
      have HC1:Hid (Chg (owns d bn bl vs) w (wr.alloc (.cells #[.int .i64 (m:Int),.slice A' 128 c'] 109))):=HR.out.2.2.2.2.1.alloc _
      have HN1:Hid ((wr.alloc (.cells #[.int .i64 (m:Int),.slice A' 128 c'] 109)).heap[wr.heap.size]?=some (.cells #[.int .i64 (m:Int),.slice A' 128 c'] 109 (0,0))):=heap_alloc_new _ _
      have HNO:Hid (wr.heap.size∉owns d bn bl vsk):=fun hm=>absurd (HR.out.1.lt _ hm) (by omega)
      clear hx hB hl hkeep
      go_wp2_with fail
      generalize (wr.alloc (.cells #[.int .i64 (m:Int),.slice A' 128 c'] 109))=w1 at *
      generalize hh1:wr.heap.size=h1 at *
      have HH1:=Lib.hid hh1
      clear hc0 hc1 hh1
      refine (spend_any HD1.out HR.out.2.1).mono ?_
      rintro e w2 ⟨rfl,hq⟩
      have HQ:=Lib.hid hq
      clear hq
      cases hp:sk.pow with
      | false =>
        have HE:Hid (s.putGo ws=(11,sk.spend)):=by
          show _=_
          rw [HR.out.2.2.1,drop_at HX.out]
          simp [DS.putGo,hp]
        clear hp
        go_wp2_with fail
        go_ret
        rw [HE.out]
        refine ⟨rfl,owns d bn bl vsk,⟨bn,cn,bl,cl,vsk,rfl,HQ.out.1⟩,HC1.out.trans HQ.out.2 (fun b hb=>.inl (by simp at hb;simp [owns,hb])),fun b hb=>?_⟩
        simp only [owns,List.mem_cons,Option.mem_toList] at hb
        rcases hb with rfl | rfl | rfl | hb
        · exact .inl (by simp [owns])
        · exact .inl (by simp [owns])
        · exact .inl (by simp [owns])
        · exact HR.out.2.2.2.2.2 b hb
      | true =>
        have HE:Hid (s.putGo ws=(sk.spend.put1 m l).putGo (ws.drop (k+1))):=by
          show _=_
          rw [HR.out.2.2.1,drop_at HX.out]
          simp [DS.putGo,hp]
        have HDN:=Lib.hid (spend_down hp HR.out.2.1)
        clear hp
        have hne1:h1∉[d]:=fun e=>HNO.out (by simp at e;simp [owns,e])
        have HN2:Hid (w2.heap[h1]?=some (.cells #[.int .i64 (m:Int),.slice A' 128 c'] 109 (0,0))):=(HQ.out.2.block h1 (Array.getElem?_eq_some_iff.1 HN1.out).1 hne1).trans HN1.out
        have hc0:w2.cell? ⟨h1,0,none⟩=some (.int .i64 (m:Int)):=cell_of HN2.out 0
        have hz:=z69
        have HI:Hid ((Tryz.prog.info? 202).map (·.size)=some (wc (m,zeros)).toArray.size):=by
          show _=_
          rw [List.size_toArray,wc_len zeros_len];exact s69
        have HS2:Hid ((wc (0,zeros)).toArray.size=(wc (m,zeros)).toArray.size):=by
          show _=_
          rw [List.size_toArray,List.size_toArray,wc_len zeros_len,wc_len zeros_len]
        go_wp2_with (first | (refine wpList_build_run rfl 202 _ rfl (.int .i64 (m:Int)) rfl _ (build69 m _) ?_) | (refine wpList_store_new rfl 202 _ _ rfl w2 (wc (0,zeros)).toArray (wc (m,zeros)).toArray rfl rfl HI.out HS2.out (all_oneCell_toArray (wc_one (m,zeros))) ?_) | fail)
        clear hz hc0 HI HS2
        have HN3:Hid ((w2.alloc (.cells (wc (m,zeros)).toArray 202)).heap[w2.heap.size]?=some (.cells (wc (m,zeros)).toArray 202 (0,0))):=heap_alloc_new _ _
        have l1:h1<w2.heap.size:=(Array.getElem?_eq_some_iff.1 HN2.out).1
        have HW3:Hid ((w2.alloc (.cells (wc (m,zeros)).toArray 202)).heap[h1]?=some (.cells #[.int .i64 (m:Int),.slice A' 128 c'] 109 (0,0))):=(Below.heap_alloc _ _ _ l1).trans HN2.out
        have HD3:Hid (DrvAt (w2.alloc (.cells (wc (m,zeros)).toArray 202)) d N sk.spend bn cn bl cl vsk):=HQ.out.1.keep fun b hb=>Below.heap_alloc _ _ _ (HQ.out.1.lt b hb)
        have HC3:Hid (Chg (owns d bn bl vs) w (w2.alloc (.cells (wc (m,zeros)).toArray 202))):=(HC1.out.trans HQ.out.2 (fun b hb=>.inl (by simp at hb;simp [owns,hb]))).alloc _
        have HNO2:Hid (w2.heap.size∉owns d bn bl vsk):=fun hm=>absurd (HQ.out.1.lt _ hm) (by omega)
        have hw2:w.heap.size≤w2.heap.size:=by have:=HC1.out.size;have:=HQ.out.2.size;omega
        obtain ⟨b',off',rfl,hmb',hrng⟩:=HBT.out.at_ (by omega)
        have HRG:Hid ((w2.alloc (.cells (wc (m,zeros)).toArray 202)).rangeAt b' off' (bc l)):=rangeAt_of_heap hrng (by
          rw [HC3.out.block b' (HM.out b' hmb').1 (HM.out b' hmb').2,HR.out.2.2.2.2.1.block b' (HM.out b' hmb').1 (HM.out b' hmb').2])
        have hb2:b'≠w2.heap.size:=by have:=(HM.out b' hmb').1;omega
        clear hrng HN1 HN2 HQ HC1 HD1 hne1
        generalize (w2.alloc (.cells (wc (m,zeros)).toArray 202))=w3 at *
        generalize w2.heap.size=h2 at *
        have hcw:=cell_of HW3.out 1
        have hcw:w3.cell? ⟨h1,1,none⟩=some (.slice (some ⟨b',off',none⟩) 128 c'):=hcw
        have HT3:=Lib.hid (there_of (o:=1) (n:=128) HN3.out (by rw [List.size_toArray,wc_len zeros_len];omega))
        have hcp:(Builtin.copy_ #[41,41] 3 #[.slice (some ⟨h2,1,none⟩) 128 128,.slice (some ⟨b',off',none⟩) 128 c']).run Tryz.prog w3.drew=.ok (goInt (bc l).length) (w3.drew.setCells h2 1 (bc l)) :=
          run_copy_cells w3.drew 41 41 3 5 h2 1 128 128 ⟨b',off',none⟩ 128 c' (bc l) Tryz.underlying41 (by kernel_rfl) (by rw [bc_len,HL.out];rfl) (fun j v hj=>by rw [Addr.add_mid];exact HRG.out j v hj)
            (fun j hj=>(HT3.out j (by rw [bc_len,HL.out] at hj;exact hj)).1) (fun j hj=>(HT3.out j (by rw [bc_len,HL.out] at hj;exact hj)).2) (bc_one l)
        have HCP:=Lib.hid hcp
        have hhn:h1≠h2:=by omega
        clear hcp
        go_region_held3 (fun w'=>w'.cell? ⟨h1,1,none⟩=some (.slice (some ⟨b',off',none⟩) 128 c')) (first | assumption | (refine (World.cell?_setCells_out _ _ _ _ _ (fun e _=>absurd e hhn)).trans (by assumption))) ((refine step_copy_run (by rfl) _ _ 41 41 (by rfl) _ _ _ _ (by rfl) (by rfl) HCP.out ?_))
        have HN4:Hid ((w3.drew.setCells h2 1 (bc l)).heap[h2]?=some (.cells (wc (m,l)).toArray 202 (0,0))):=by
          show _=_
          rw [heap_setCells_at (w:=w3.drew) (bc l) 1 HN3.out,setAll_wc m l HL.out]
        have HD4:Hid (DrvAt (w3.drew.setCells h2 1 (bc l)) d N sk.spend bn cn bl cl vsk):=HD3.out.keep fun b hb=>by
          rw [heap_setCells_ne (fun e=>HNO2.out (by rw [← e];exact hb))];rfl
        have HC4:Hid (Chg (owns d bn bl vs) w (w3.drew.setCells h2 1 (bc l))):=HC3.out.drew.setCells (.inr hw2) _ _
        clear hcw HT3 HCP HRG HN3 HW3 HD3 HC3 hmb' hb2 hhn
        generalize (w3.drew.setCells h2 1 (bc l))=w4 at *
        go_wp2_with fail
        have hc0:=HD4.out.st.c0
        have hca:w4.cell? ⟨h2,0,none⟩=some (.int .i64 (m:Int)):=cell_of HN4.out 0
        have hrr:w4.rangeAt h2 1 (bc l):=fun j v hj=>by
          rw [cell_of HN4.out,Nat.add_comm,List.getElem?_toArray];exact hj
        have hth:w4.there bn (m * 128) 128:=HD4.out.now.there (by rw [HD4.out.ok.now];exact hmN)
        have hdn:d≠bn:=(ne_of_nd HD4.out).1
        have hhn:h2≠bn:=fun e=>HNO2.out (by simp [owns,e])
        have HD5:Hid (DrvAt (w4.drew.setCells bn (m * 128) (bc l)) d N { sk.spend with now:=sk.spend.now.set m l } bn cn bl cl vsk) :=
          DrvAt.wrote (w:=w4.drew) (HD4.out.keep fun _ _=>rfl) hmN HL.out
        have HC5:Hid (Chg (owns d bn bl vs) w (w4.drew.setCells bn (m * 128) (bc l))):=HC4.out.drew.setCells (.inl (by simp [owns])) _ _
        have HN5:Hid ((w4.drew.setCells bn (m * 128) (bc l)).heap[h2]?=some (.cells (wc (m,l)).toArray 202 (0,0))):=by
          show _=_
          rw [heap_setCells_ne hhn];exact HN4.out
        have hlen:(bc l).length=128:=by rw [bc_len,HL.out]
        have hone:=bc_one l
        have hu:=Tryz.underlying200
        have hi:(Tryz.prog.info? 200).map (·.size)=some (bc l).length:=by rw [hlen];exact s67
        have hk0:(0:Int)≤(m:Int):=Int.natCast_nonneg _
        have hk8:(m:Int)<N:=by omega
        clear HN4 HD4 HC4
        generalize bc l=cs at *
        go_region_held3 (fun w'=>w'.cell? ⟨d,0,none⟩=some (.slice (some ⟨bn,0,none⟩) N cn)∧w'.cell? ⟨h2,0,none⟩=some (.int .i64 (m:Int))∧w'.rangeAt h2 1 cs∧w'.there bn (m * 128) 128) ((go_split_ands;(try simp only [World.rangeAt_drew,World.there_drew] at *);(repeat' constructor)<;>first | assumption | (apply World.there_setCells;assumption) | (refine (World.cell?_setCells_out _ _ _ _ _ (fun e _=>absurd e hdn)).trans (by assumption)) | (refine (World.cell?_setCells_out _ _ _ _ _ (fun e _=>absurd e hhn)).trans (by assumption)) | (refine World.rangeAt_setCells_apart (by assumption) _ _ _ (Or.inl hhn)))) (fail)
        clear hc0 hca hrr hth hlen hone hu hi hdn hhn
        generalize (w4.drew.setCells bn (m * 128) cs)=w5 at *
        go_wp2_with fail
        have hsl:sk.spend.since.length=s.since.length+k:=by rw [spend_since];exact HR.out.2.2.2.1
        obtain ⟨g,cap,w7,hap⟩:=app_one (w:=w5.drew) (ownsRow_keep (w:=w5) HD5.out.sin fun _ _=>rfl) (wc (m,l)) (wc_len HL.out) (wc_one _) (by
          have:=HBY.out
          show (sk.spend.since.length+1) * 136≤_
          rw [hsl];omega)
        have HAP:=Lib.hid hap
        have h2c:=HD5.out.st.c2
        have hrw:w5.rangeAt h2 0 (wc (m,l)):=fun j v hj=>by
          rw [cell_of HN5.out,Nat.zero_add,List.getElem?_toArray];exact hj
        obtain ⟨A5,c5,hv5,_,_⟩:=HD5.out.slice
        have HV5:=Lib.hid hv5
        rw [hv5] at h2c
        have hlen:(wc (m,l)).length=129:=wc_len HL.out
        have hone:=wc_one (m,l)
        have hu:=Tryz.underlying202
        have hi:(Tryz.prog.info? 202).map (·.size)=some (wc (m,l)).length:=by rw [hlen];exact s69
        have hbs:=buildS (wc (m,l)) hlen
        obtain ⟨hrun,hown,hgrow,hat,hgl⟩:=hap
        rw [hv5] at hrun
        have HRUN:=Lib.hid hrun
        have hdl:d<w5.heap.size:=HD5.out.st.lt
        have hnd:=ne_of_nd HD5.out
        have hvd:some d≠vsk.ownBlock:=fun e=>absurd rfl (hnd.2.2.2 d e.symm).1
        have hvn:some bn≠vsk.ownBlock:=fun e=>absurd rfl (hnd.2.2.2 bn e.symm).2.1
        have hvl:some bl≠vsk.ownBlock:=fun e=>absurd rfl (hnd.2.2.2 bl e.symm).2.2
        have hv2:some h2≠vsk.ownBlock:=fun e=>HNO2.out (by simp [owns,← e])
        have hfar:∀ q,q<w5.heap.size→some q≠vsk.ownBlock→w7.heap[q]?=w5.heap[q]?:=fun q hq hn =>
          (hgrow.block q (by have:(w5.drew.alloc (.cells (wc (m,l)).toArray 202)).heap.size=w5.heap.size+1:=by simp
                             omega) hn).trans (Below.heap_alloc w5.drew _ q hq)
        have h2l:h2<w5.heap.size:=(Array.getElem?_eq_some_iff.1 HN5.out).1
        have HR7:Hid (w7.rangeAt h2 0 (wc (m,l))):=rangeAt_of_heap hrw (hfar h2 h2l hv2)
        have hst7:=HD5.out.st.keep (hfar d hdl hvd)
        have hc7:=hst7.c2
        have hf7:=hst7.fr 2
        have hd2:h2≠d:=fun e=>HNO2.out (by simp [owns,e])
        have hg5:vsk.ownBlock=some g∨g=w5.heap.size+1:=hat
        have hgd:g≠d∧g≠bn∧g≠bl:=by
          rcases hg5 with e | e
          · have:=hnd.2.2.2 g e;omega
          · have:=HD5.out.now.lt;have:=HD5.out.las.lt;omega
        have HD8:Hid (DrvAt (w7.setCell ⟨d,2,none⟩ (.slice (some ⟨g,0,none⟩) (sk.spend.since.length+1) cap)) d N (sk.spend.put1 m l) bn cn bl cl (.slice (some ⟨g,0,none⟩) (sk.spend.since.length+1) cap)):=by
          have hok:=HD5.out.ok
          have hne:∀ q,q≠d→(w7.setCell ⟨d,2,none⟩ (.slice (some ⟨g,0,none⟩) (sk.spend.since.length+1) cap)).heap[q]?=w7.heap[q]?:=fun q hq=>Below.heap_setCell _ _ _ _ hq
          refine ⟨heap_setCell_at hst7 _,(HD5.out.now.keep (hfar bn HD5.out.now.lt hvn)).keep (hne bn (fun e=>hnd.1 e.symm)),(HD5.out.las.keep (hfar bl HD5.out.las.lt hvl)).keep (hne bl (fun e=>hnd.2.1 e.symm)),?_,?_,hn0,hn1,HD5.out.c0,HD5.out.c1,?_⟩
          · have:=ownsRow_keep (w':=w7.setCell ⟨d,2,none⟩ (.slice (some ⟨g,0,none⟩) (sk.spend.since.length+1) cap)) hown (fun q hq=>hne q (by simp [Value.ownBlock] at hq;omega))
            simpa [DS.put1] using this
          · exact ⟨by simpa [DS.put1] using hok.now,hok.lasting,fun p hp=>by
              simp only [DS.put1,List.mem_append,List.mem_singleton] at hp
              rcases hp with hp | rfl
              · exact hok.since p hp
              · exact ⟨hmN,HL.out⟩,hok.lo,hok.hi,hok.fuse⟩
          · simp [owns,Value.ownBlock];omega
        have HC8:Hid (Chg (owns d bn bl vs) w (w7.setCell ⟨d,2,none⟩ (.slice (some ⟨g,0,none⟩) (sk.spend.since.length+1) cap))) :=
          ((HC5.out.drew.alloc _).grown hgrow HR.out.2.2.2.2.2).setCell (.inl (by simp [owns])) _
        have HG8:Hid (g∈owns d bn bl vs∨w.heap.size≤g):=by
          rcases hg5 with e | e
          · exact HR.out.2.2.2.2.2 g e
          · right;have:=HC5.out.size;omega
        have HLEN:Hid ((sk.spend.put1 m l).since.length=s.since.length+(k+1)):=by
          show _=_
          simp only [DS.put1,List.length_append,List.length_singleton]
          rw [hsl];omega
        have HDN8:Hid ((sk.spend.put1 m l).down=false):=HDN.out
        have hc7':w7.cell? ⟨d,2,none⟩=some (.slice A5 sk.spend.since.length c5):=by rw [hc7,HV5.out]
        clear hv5 hsl hown hgrow hat hgl hrun hvd hvn hvl hv2 hfar hst7 hc7 hnd hg5 hgd HX hmb HAP HV5 HD5 HC5 HN5
        generalize wc (m,l)=cs2 at *
        have h2c':w5.cell? ⟨d,2,none⟩=some (.slice A5 sk.spend.since.length c5):=h2c
        clear h2c
        have HRUN':Hid ((Builtin.append_ #[96,96] 96 #[.slice A5 sk.spend.since.length c5,.slice (some ⟨w5.drew.heap.size,0,none⟩) 1 1]).run Tryz.prog (w5.drew.alloc (.cells cs2.toArray 202))=.ok (.slice (some ⟨g,0,none⟩) (sk.spend.since.length+1) cap) w7):=HRUN
        clear HRUN
        refine wp_region_noPanic ?_
        refine wp_region_held_drew (S:=fun w'=>w'.rangeAt h2 0 cs2) (by kernel_rfl) (by simpa using hrw) (fun hHeld=>?_)
        refine wpAnyH_take (i := 0) (oi := ⟨some 47, .move (.tmp 0), 47, "drive.go:72", #[], none⟩) (v := .pointer (some ⟨d, 0, none⟩)) rfl (by kernel_rfl) (by kernel_rfl) (by kernel_rfl) (fun _ _ _ h => h) (Or.inl ⟨by rfl, fun w hw => by go_simp⟩) (by assumption) ?_
        simp only [Act.put,List.setIfInBounds_toArray,List.set_cons_zero,List.set_cons_succ]
        refine wpAnyH_take (i := 1) (oi := ⟨some 48, .move (.tmp 0), 47, "drive.go:72", #[], none⟩) (v := .pointer (some ⟨d, 0, none⟩)) rfl (by kernel_rfl) (by kernel_rfl) (by kernel_rfl) (fun _ _ _ h => h) (Or.inl ⟨by rfl, fun w hw => by go_simp⟩) (by assumption) ?_
        simp only [Act.put,List.setIfInBounds_toArray,List.set_cons_zero,List.set_cons_succ]
        refine wpAnyH_take (i := 2) (oi := ⟨some 49, .nilCheck (.tmp 48), 0, "drive.go:72", #[⟨1, .data⟩], none⟩) (v := .pointer (some ⟨d, 0, none⟩)) rfl (by kernel_rfl) (by kernel_rfl) (by kernel_rfl) (fun _ _ _ h => h) (Or.inl ⟨by rfl, fun w hw => by go_simp⟩) (by assumption) ?_
        simp only [Act.put,List.setIfInBounds_toArray,List.set_cons_zero,List.set_cons_succ]
        refine wpAnyH_take (i := 3) (oi := ⟨some 50, .fieldAddr 98 (.tmp 49) 2, 0, "drive.go:72", #[⟨2, .data⟩], none⟩) (v := .pointer (some ⟨d, 2, none⟩)) rfl (by kernel_rfl) (by kernel_rfl) (by kernel_rfl) (fun _ _ _ h => h) (Or.inl ⟨by rfl, fun w hw => by go_simp⟩) (by assumption) ?_
        simp only [Act.put,List.setIfInBounds_toArray,List.set_cons_zero,List.set_cons_succ]
        refine wpAnyH_take (i := 5) (oi := ⟨some 52, .load 202 (.tmp 9), 202, "drive.go:72", #[], none⟩) (v := .agg cs2.toArray) rfl (by kernel_rfl) (by kernel_rfl) (by kernel_rfl) (fun _ _ _ h => h) (yieldsIf_load_mid (by rfl) 202 _ rfl h2 0 rfl cs2 _ (fun w hw => hw) Tryz.underlying202 rfl hi) (by assumption) ?_
        simp only [Act.put,List.setIfInBounds_toArray,List.set_cons_zero,List.set_cons_succ]
        refine wpAnyH_ready (rs:=[4,6]) (by kernel_rfl) (by simp) ?_
        refine AllReadyH.cons (o := ⟨some 51, .load 96 (.tmp 50), 96, "drive.go:72", #[⟨3, .data⟩], none⟩) rfl (fun K hK => ?_) (AllReadyH.cons (o := ⟨some 53, .buildSlice 96 1 #[(0, .tmp 52)], 96, "drive.go:72", #[⟨5, .data⟩], none⟩) rfl (fun K hK => ?_) AllReadyH.nil)
        · skip
          rw [if_pos (by rfl)]
          refine wp_load60 (.tmp 50) rfl ⟨d,2,none⟩ rfl (.slice A5 sk.spend.since.length c5) (by first | exact h2c' | (rw [World.cell?_alloc_lt _ _ _ hdl];exact h2c')) ?_
          simp only [Act.put,List.setIfInBounds_toArray,List.set_cons_zero,List.set_cons_succ]
          refine hK.out _ _ hHeld (fun hHeld=>?_)
          clear hK K
          refine wpAnyH_ready (rs:=[6]) (by kernel_rfl) (by simp) ?_
          refine AllReadyH.cons (o := ⟨some 53, .buildSlice 96 1 #[(0, .tmp 52)], 96, "drive.go:72", #[⟨5, .data⟩], none⟩) rfl (fun K hK => ?_) AllReadyH.nil
          refine step_buildSlice_run rfl 96 1 (.tmp 52) rfl (.agg cs2.toArray) rfl _ _ (hbs w5.drew) ?_
          simp only [Act.put,List.setIfInBounds_toArray,List.set_cons_zero,List.set_cons_succ]
          refine hK.out _ _ (World.rangeAt_alloc hHeld _) (fun hHeld=>?_)
          clear hK K
          refine wpAnyH_ready (rs:=[7]) (by kernel_rfl) (by simp) ?_
          refine AllReadyH.cons (o := ⟨some 54, .call { callee := .builtin .append, args := #[.tmp 51, .tmp 53], argTypes := #[96, 96] }, 96, "drive.go:72", #[⟨4, .data⟩, ⟨6, .data⟩], none⟩) rfl (fun K hK => ?_) AllReadyH.nil
          refine step_append_run rfl _ _ 96 rfl _ _ _ _ rfl rfl HRUN'.out ?_
          simp only [Act.put,List.setIfInBounds_toArray,List.set_cons_zero,List.set_cons_succ]
          refine hK.out _ _ HR7.out (fun hHeld=>?_)
          clear hK K
          refine wpAnyH_take (i := 8) (oi := ⟨some 55, .nilCheck (.tmp 47), 0, "drive.go:72", #[⟨0, .data⟩, ⟨0, .phase⟩, ⟨1, .phase⟩, ⟨2, .phase⟩, ⟨3, .phase⟩, ⟨4, .phase⟩, ⟨5, .phase⟩, ⟨6, .phase⟩, ⟨7, .phase⟩], none⟩) (v := .pointer (some ⟨d, 0, none⟩)) rfl (by kernel_rfl) (by kernel_rfl) (by kernel_rfl) (fun _ _ _ h => h) (Or.inl ⟨by rfl, fun w hw => by go_simp⟩) (by assumption) ?_
          simp only [Act.put,List.setIfInBounds_toArray,List.set_cons_zero,List.set_cons_succ]
          refine wpAnyH_take (i := 9) (oi := ⟨some 56, .fieldAddr 98 (.tmp 55) 2, 0, "drive.go:72", #[⟨8, .data⟩, ⟨0, .phase⟩, ⟨1, .phase⟩, ⟨2, .phase⟩, ⟨3, .phase⟩, ⟨4, .phase⟩, ⟨5, .phase⟩, ⟨6, .phase⟩, ⟨7, .phase⟩], none⟩) (v := .pointer (some ⟨d, 2, none⟩)) rfl (by kernel_rfl) (by kernel_rfl) (by kernel_rfl) (fun _ _ _ h => h) (Or.inl ⟨by rfl, fun w hw => by go_simp⟩) (by assumption) ?_
          simp only [Act.put,List.setIfInBounds_toArray,List.set_cons_zero,List.set_cons_succ]
          refine wpAnyH_ready (rs:=[10]) (by kernel_rfl) (by simp) ?_
          refine AllReadyH.cons (o := ⟨none, .store 96 (.tmp 56) (.tmp 54), 0, "drive.go:72", #[⟨9, .data⟩, ⟨7, .data⟩, ⟨7, .chain⟩, ⟨0, .phase⟩, ⟨1, .phase⟩, ⟨2, .phase⟩, ⟨3, .phase⟩, ⟨4, .phase⟩, ⟨5, .phase⟩, ⟨6, .phase⟩, ⟨7, .phase⟩], none⟩) rfl (fun K hK => ?_) AllReadyH.nil
          rw [if_pos (by rfl)]
          refine wp_store60 (.tmp 56) (.tmp 54) rfl ⟨d,2,none⟩ _ rfl rfl _ hc7' hf7 ⟨_,_,_,rfl⟩ ?_
          simp only [Act.put]
          refine hK.out _ _ (rangeAt_of_heap HR7.out (Below.heap_setCell _ _ _ _ hd2)) (fun hHeld=>?_)
          clear hK K
          refine wpAnyH_done (by kernel_rfl) ?_ _
          refine NoPanic.normal ?_
          go_wp2_with fail
          go_roundw
          case rel=>exact ⟨k+1,_,_,by omega,by go_num,HD8.out,HDN8.out,HE.out,HLEN.out,HC8.out,fun q hq=>by simp [Value.ownBlock] at hq;subst hq;exact HG8.out⟩
          case measure=>simp [intOf];omega
        · skip
          refine step_buildSlice_run rfl 96 1 (.tmp 52) rfl (.agg cs2.toArray) rfl _ _ (hbs w5.drew) ?_
          simp only [Act.put,List.setIfInBounds_toArray,List.set_cons_zero,List.set_cons_succ]
          refine hK.out _ _ (World.rangeAt_alloc hHeld _) (fun hHeld=>?_)
          clear hK K
          refine wpAnyH_ready (rs:=[4]) (by kernel_rfl) (by simp) ?_
          refine AllReadyH.cons (o := ⟨some 51, .load 96 (.tmp 50), 96, "drive.go:72", #[⟨3, .data⟩], none⟩) rfl (fun K hK => ?_) AllReadyH.nil
          rw [if_pos (by rfl)]
          refine wp_load60 (.tmp 50) rfl ⟨d,2,none⟩ rfl (.slice A5 sk.spend.since.length c5) (by first | exact h2c' | (rw [World.cell?_alloc_lt _ _ _ hdl];exact h2c')) ?_
          simp only [Act.put,List.setIfInBounds_toArray,List.set_cons_zero,List.set_cons_succ]
          refine hK.out _ _ hHeld (fun hHeld=>?_)
          clear hK K
          refine wpAnyH_ready (rs:=[7]) (by kernel_rfl) (by simp) ?_
          refine AllReadyH.cons (o := ⟨some 54, .call { callee := .builtin .append, args := #[.tmp 51, .tmp 53], argTypes := #[96, 96] }, 96, "drive.go:72", #[⟨4, .data⟩, ⟨6, .data⟩], none⟩) rfl (fun K hK => ?_) AllReadyH.nil
          refine step_append_run rfl _ _ 96 rfl _ _ _ _ rfl rfl HRUN'.out ?_
          simp only [Act.put,List.setIfInBounds_toArray,List.set_cons_zero,List.set_cons_succ]
          refine hK.out _ _ HR7.out (fun hHeld=>?_)
          clear hK K
          refine wpAnyH_take (i := 8) (oi := ⟨some 55, .nilCheck (.tmp 47), 0, "drive.go:72", #[⟨0, .data⟩, ⟨0, .phase⟩, ⟨1, .phase⟩, ⟨2, .phase⟩, ⟨3, .phase⟩, ⟨4, .phase⟩, ⟨5, .phase⟩, ⟨6, .phase⟩, ⟨7, .phase⟩], none⟩) (v := .pointer (some ⟨d, 0, none⟩)) rfl (by kernel_rfl) (by kernel_rfl) (by kernel_rfl) (fun _ _ _ h => h) (Or.inl ⟨by rfl, fun w hw => by go_simp⟩) (by assumption) ?_
          simp only [Act.put,List.setIfInBounds_toArray,List.set_cons_zero,List.set_cons_succ]
          refine wpAnyH_take (i := 9) (oi := ⟨some 56, .fieldAddr 98 (.tmp 55) 2, 0, "drive.go:72", #[⟨8, .data⟩, ⟨0, .phase⟩, ⟨1, .phase⟩, ⟨2, .phase⟩, ⟨3, .phase⟩, ⟨4, .phase⟩, ⟨5, .phase⟩, ⟨6, .phase⟩, ⟨7, .phase⟩], none⟩) (v := .pointer (some ⟨d, 2, none⟩)) rfl (by kernel_rfl) (by kernel_rfl) (by kernel_rfl) (fun _ _ _ h => h) (Or.inl ⟨by rfl, fun w hw => by go_simp⟩) (by assumption) ?_
          simp only [Act.put,List.setIfInBounds_toArray,List.set_cons_zero,List.set_cons_succ]
          refine wpAnyH_ready (rs:=[10]) (by kernel_rfl) (by simp) ?_
          refine AllReadyH.cons (o := ⟨none, .store 96 (.tmp 56) (.tmp 54), 0, "drive.go:72", #[⟨9, .data⟩, ⟨7, .data⟩, ⟨7, .chain⟩, ⟨0, .phase⟩, ⟨1, .phase⟩, ⟨2, .phase⟩, ⟨3, .phase⟩, ⟨4, .phase⟩, ⟨5, .phase⟩, ⟨6, .phase⟩, ⟨7, .phase⟩], none⟩) rfl (fun K hK => ?_) AllReadyH.nil
          rw [if_pos (by rfl)]
          refine wp_store60 (.tmp 56) (.tmp 54) rfl ⟨d,2,none⟩ _ rfl rfl _ hc7' hf7 ⟨_,_,_,rfl⟩ ?_
          simp only [Act.put]
          refine hK.out _ _ (rangeAt_of_heap HR7.out (Below.heap_setCell _ _ _ _ hd2)) (fun hHeld=>?_)
          clear hK K
          refine wpAnyH_done (by kernel_rfl) ?_ _
          refine NoPanic.normal ?_
          go_wp2_with fail
          go_roundw
          case rel=>exact ⟨k+1,_,_,by omega,by go_num,HD8.out,HDN8.out,HE.out,HLEN.out,HC8.out,fun q hq=>by simp [Value.ownBlock] at hq;subst hq;exact HG8.out⟩
          case measure=>simp [intOf];omega
    · obtain rfl:k=n:=by omega
      have HE:Hid (s.putGo ws=(0,sk)):=by
        show _=_
        rw [HR.out.2.2.1,List.drop_of_length_le (by rw [HW.out.len];omega)]
        rfl
      go_wp2_with fail
      go_ret
      rw [HE.out]
      refine ⟨rfl,owns d bn bl vsk,⟨bn,cn,bl,cl,vsk,rfl,HR.out.1⟩,HR.out.2.2.2.2.1,fun b hb=>?_⟩
      simp only [owns,List.mem_cons,Option.mem_toList] at hb
      rcases hb with rfl | rfl | rfl | hb
      · exact .inl (by simp [owns])
      · exact .inl (by simp [owns])
      · exact .inl (by simp [owns])
      · exact HR.out.2.2.2.2.2 b hb
theorem put_down {w:World} {d:Nat} {vn vl vs:Value} {f:Bool} {left:Int} {A:Option Addr} {n c:Nat} (h:St w d vn vl vs f left true) :
    Calls Tryz.prog 97 #[.pointer (some ⟨d,0,none⟩),.slice A n c] w fun e w'=>e=.returned (.int .i64 11)∧w=w':=by
  have HS:=Lib.hid h
  clear h
  go_enter Tryz.func97,Tryz.ntmps97
  go_wp2_with fail
  refine (ready_any HS.out).mono ?_
  rintro e w' ⟨rfl,rfl⟩
  go_wp2_with fail
  go_ret
  exact ⟨rfl,rfl⟩
theorem put_bad {w:World} {d N cn:Nat} {A0:Option Addr} {vl vs:Value} {f:Bool} {left:Int} (hst:St w d (.slice A0 N cn) vl vs f left false)
    {M:Nat→Prop} {A:Option Addr} {n c:Nat} {ws:List Wr} (hW:Wrs w M A n c ws) (hM:∀ b,M b→b<w.heap.size) (hf:fitE N ws≠0) :
    Calls Tryz.prog 97 #[.pointer (some ⟨d,0,none⟩),.slice A n c] w fun e w'=>e=.returned (.int .i64 (fitE N ws))∧Below w.heap.size w w':=by
  have HS:=Lib.hid hst
  have HW:=Lib.hid hW
  have HM:=Lib.hid hM
  have h1:(fitE N ws != 0)=true:=by simpa using hf
  have h2:(fitE N ws == 0)=false:=by simpa using hf
  clear hst hW hM hf
  generalize hx:fitE N ws=x at *
  have HX:=Lib.hid hx
  clear hx
  go_enter Tryz.func97,Tryz.ntmps97
  go_wp2_with fail
  refine (ready_any HS.out).mono ?_
  rintro e w' ⟨rfl,rfl⟩
  go_wp2_with fail
  refine (fits_any HS.out HW.out HM.out).mono ?_
  rintro e w0 ⟨rfl,hb0⟩
  rw [HX.out]
  have HB0:=Lib.hid hb0
  clear hb0
  go_wp2_with fail
  go_ret
  exact ⟨rfl,HB0.out⟩
theorem put_any {w:World} {d:Nat} {O:List Nat} {N:Nat} {s:DS} {M:Nat→Prop} {A:Option Addr} {n c:Nat} {ws:List Wr} (h:Drv w d O N s)
    (hW:Wrs w M A n c ws) (hM:∀ b,M b→b<w.heap.size∧b∉O) (hb:(s.since.length+n) * 136≤140737488355328) :
    Calls Tryz.prog 97 #[.pointer (some ⟨d,0,none⟩),.slice A n c] w fun e w'=>e=.returned (.int .i64 (s.put N ws).1)∧Did w d O N (s.put N ws).2 w':=by
  obtain ⟨bn,cn,bl,cl,vs,rfl,h⟩:=h
  unfold DS.put
  cases hd:s.down with
  | true =>
    have hst:=h.st
    rw [hd] at hst
    refine (put_down hst).mono ?_
    rintro e w' ⟨rfl,rfl⟩
    exact ⟨rfl,_,⟨bn,cn,bl,cl,vs,rfl,h⟩,Chg.refl _ _,fun b hb=>.inl hb⟩
  | false =>
    by_cases hf:fitE N ws=0
    · simp only [hf,Bool.false_eq_true,if_false,if_true]
      exact put_go h hd hW hM hf hb
    · simp only [hf,Bool.false_eq_true,if_false]
      have hst:=h.st
      rw [hd] at hst
      refine (put_bad hst hW (fun b hb=>(hM b hb).1) hf).mono ?_
      rintro e w' ⟨rfl,hbw⟩
      exact ⟨rfl,_,⟨bn,cn,bl,cl,vs,rfl,h.keep fun b hb=>hbw.block b (h.lt b hb)⟩,Chg.of_below hbw,fun b hb=>.inl hb⟩
end Go.Proofs.YtkganhafbjgndaaGreatRR
namespace Go.Proofs.YtkganhafbjgndaaGreatRR
open Go.RowKit
set_option linter.unusedVariables false
def Own (w:World) (b:Nat) (l:List UInt8):Prop:=∃ t,w.heap[b]?=some (.cells (bc l).toArray t (0,0))
section
variable {w w':World} {b:Nat} {l:List UInt8} {O:List Nat}
theorem Own.lt (h:Own w b l):b<w.heap.size:=by obtain ⟨t,h⟩:=h;exact (Array.getElem?_eq_some_iff.1 h).1
theorem Own.keep (h:Own w b l) (he:w'.heap[b]?=w.heap[b]?):Own w' b l:=by obtain ⟨t,h⟩:=h;exact ⟨t,he.trans h⟩
theorem Own.chg (h:Own w b l) (hc:Chg O w w') (hb:b∉O):Own w' b l:=h.keep (hc.block b h.lt hb)
theorem Own.below (h:Own w b l) (hc:Below w.heap.size w w'):Own w' b l:=h.keep (hc.block b h.lt)
theorem Own.cell (h:Own w b l) {j:Nat} {x:UInt8} (hj:l[j]?=some x):w.cell? ⟨b,j,none⟩=some (.int .u8 (x.toNat:Int)):=by
  obtain ⟨t,h⟩:=h
  rw [cell_of h,List.getElem?_toArray]
  simp [bc,hj]
theorem Own.frozen (h:Own w b l) (j:Nat):w.frozen? ⟨b,j,none⟩=false:=by obtain ⟨t,h⟩:=h;exact frozen_of h j
theorem Own.range (h:Own w b l):w.rangeAt b 0 (bc l):=fun j v hj=>by
  obtain ⟨t,h⟩:=h
  rw [cell_of h,List.getElem?_toArray,Nat.zero_add];exact hj
theorem Own.bts (h:Own w b l) (hl:l.length=128) {M:Nat→Prop} (hM:M b):Bts w M (some ⟨b,0,none⟩) 128 128 l :=
  ⟨hl,Nat.le_refl _,by unfold maxLen;omega,fun _=>⟨b,0,rfl,hM,h.range⟩⟩
theorem Own.set (h:Own w b l) {j:Nat} (x:UInt8) (hj:j<l.length):Own (w.setCell ⟨b,j,none⟩ (.int .u8 (x.toNat:Int))) b (l.set j x):=by
  obtain ⟨t,h⟩:=h
  refine ⟨t,?_⟩
  rw [heap_setCell_at h]
  congr 2
  simp [bc,List.map_set]
theorem Own.str (h:Own w b l) (hl:l.length=128):(convert 41 9 (.slice (some ⟨b,0,none⟩) 128 128)).run Tryz.prog w=.ok (.string ⟨l.toArray⟩) w:=by
  have:=run_convert_bytes_back (P:=Tryz.prog) w 41 9 5 ⟨b,0,none⟩ 128 l Tryz.underlying41 Tryz.underlying5 Tryz.underlying9 (fun j hj=>by
    rw [Addr.add_mid]
    have:=h.range j _ (bc_get hj)
    rw [this]
    simp [hj])
  rw [hl] at this
  exact this
end
theorem made5:madeCells #[.int .u8 0] 128=(bc zeros).toArray:=by kernel_rfl
set_option maxRecDepth 20000 in
theorem make128 (w:World):∃ b w1,(Instr.makeSlice 41 (.int .i64 128) (.int .i64 128)).run Tryz.prog w=.ok (.slice (some ⟨b,0,none⟩) 128 128) w1∧Own w1 b zeros∧b=w.heap.size∧Below w.heap.size w w1:=by
  have h:(Tryz.prog.info? 5).map (fun i=>(i.zero,i.size,i.bytes))=some (some (.int .u8 0),1,1):=by kernel_rfl
  cases hq:Tryz.prog.info? 5 with
  | none=>simp [hq] at h
  | some i =>
    simp only [hq,Option.map_some,Option.some.injEq,Prod.mk.injEq] at h
    have:=run_makeSlice (P:=Tryz.prog) w 41 5 i _ Tryz.underlying41 hq h.1 .i64 .i64 128 128 (by omega) (by omega) (by rw [h.2.1];omega) (by rw [h.2.2];omega) (by omega)
    rw [h.2.1] at this
    refine ⟨_,_,this,⟨5,?_⟩,rfl,(Below.refl _ _).alloc (Nat.le_refl _) _⟩
    rw [heap_alloc_new]
    show some (Obj.cells (madeCells #[.int .u8 0] 128) 5 (0,0))=_
    rw [made5]
set_option maxRecDepth 20000 in
theorem make128_all (w:World):(Instr.makeSlice 41 (.int .i64 128) (.int .i64 128)).run Tryz.prog w=.ok (.slice (some ⟨w.heap.size,0,none⟩) 128 128) (w.alloc (.cells (bc zeros).toArray 5)):=by
  have h:(Tryz.prog.info? 5).map (fun i=>(i.zero,i.size,i.bytes))=some (some (.int .u8 0),1,1):=by kernel_rfl
  cases hq:Tryz.prog.info? 5 with
  | none=>simp [hq] at h
  | some i =>
    simp only [hq,Option.map_some,Option.some.injEq,Prod.mk.injEq] at h
    have:=run_makeSlice (P:=Tryz.prog) w 41 5 i _ Tryz.underlying41 hq h.1 .i64 .i64 128 128 (by omega) (by omega) (by rw [h.2.1];omega) (by rw [h.2.2];omega) (by omega)
    rw [h.2.1] at this
    rw [this,← made5]
    rfl
def WM (b h:Nat):Nat→Prop:=fun q=>q=b∨q=h
structure Sit (w0 w:World) (d:Nat) (O:List Nat) (N:Nat) (s:DS):Prop where
  drv:Drv w d O N s
  fresh:∀ b∈O,w0.heap.size≤b
  bel:Below w0.heap.size w0 w
section
variable {w0 w w':World} {d N:Nat} {O:List Nat} {s s':DS}
theorem Sit.did (h:Sit w0 w d O N s) (k:Did w d O N s' w'):∃ O',Sit w0 w' d O' N s'∧Chg O w w'∧∀ b∈O',b∈O∨w.heap.size≤b:=by
  obtain ⟨O',h1,h2,h3⟩:=k
  refine ⟨O',⟨h1,fun b hb=>?_,h.bel.trans (h2.below h.bel.size h.fresh)⟩,h2,h3⟩
  rcases h3 b hb with g | g
  · exact h.fresh b g
  · have:=h.bel.size;omega
theorem Sit.below (h:Sit w0 w d O N s) (hb:Below w.heap.size w w'):Sit w0 w' d O N s :=
  ⟨h.drv.keep fun b hb'=>hb.block b (h.drv.lt b hb'),h.fresh,h.bel.trans (hb.mono h.bel.size)⟩
theorem Sit.set (h:Sit w0 w d O N s) {b j:Nat} (u:Value) (hb:b∉O) (hw:w0.heap.size≤b):Sit w0 (w.setCell ⟨b,j,none⟩ u) d O N s :=
  ⟨h.drv.keep fun q hq=>Below.heap_setCell _ _ _ _ (fun e=>hb (by have e':q=b:=e;rw [← e'];exact hq)),h.fresh,h.bel.setCell hw u⟩
end
theorem sectorsD {w:World} {d:Nat} {O:List Nat} {N:Nat} {s:DS} (h:Drv w d O N s) :
    Calls Tryz.prog 52 #[.pointer (some ⟨d,0,none⟩)] w fun e w'=>e=.returned (.int .i64 N)∧w=w':=by
  obtain ⟨bn,cn,bl,cl,vs,rfl,h⟩:=h
  exact sectors_any h.st
theorem put_free {s:DS} {N:Nat} {ws:List Wr} (hf:s.fused=false) (hd:s.down=false) (h:fitE N ws=0):s.put N ws=(0,ws.foldl (fun s w=>s.put1 w.1.toNat w.2) s):=by
  unfold DS.put
  rw [hd,if_neg (by simp),if_pos h]
  clear h hd
  induction ws generalizing s with
  | nil=>rfl
  | cons x r ih =>
    rw [DS.putGo,if_pos (by simp [DS.pow,hf])]
    have:s.spend=s:=by simp [DS.spend,hf]
    rw [this,ih (by exact hf)]
    rfl
theorem flush_free {s:DS} (hf:s.fused=false) (hd:s.down=false):s.flush=(0,{ s with lasting:=lay s.lasting s.since,since:=[] }):=by
  have h1:s.spend=s:=by simp [DS.spend,hf]
  have h2:s.pow=true:=by simp [DS.pow,hf]
  unfold DS.flush
  rw [h1,h2,if_neg (by simp [hd]),if_pos rfl]
def PS (w0 w:World) (d:Nat) (O:List Nat) (N:Nat) (s':DS) (w':World):Prop:=∃ O',Sit w0 w' d O' N s'∧Chg O w w'∧∀ b∈O',b∈O∨w.heap.size≤b
theorem not_after {O O':List Nat} {w:World} {b:Nat} (h:∀ q∈O',q∈O∨w.heap.size≤q) (hb:b∉O) (hl:b<w.heap.size):b∉O':=fun e=>by
  rcases h b e with g | g
  · exact hb g
  · omega
section
variable {w0 w w':World} {d N b:Nat} {O:List Nat} {s:DS} {l:List UInt8}
def GS (w0 w:World) (d:Nat) (O:List Nat) (N:Nat) (s:DS) (x:List UInt8) (b:Nat) (w':World):Prop:=Sit w0 w' d O N s∧Own w' b x∧b∉O∧w.heap.size≤b∧Below w.heap.size w w'
def GP (w0 w:World) (d:Nat) (O:List Nat) (N:Nat) (s:DS) (x:List UInt8) (e:Ending) (w':World):Prop:=∃ b,e=.returned (.tuple #[.slice (some ⟨b,0,none⟩) 128 128,.int .i64 0])∧GS w0 w d O N s x b w'
end
def IM (h:Nat):Nat→Prop:=fun q=>q=h
theorem ints_none (w:World) (M:Nat→Prop):Ints w M none 0 0 []:=⟨rfl,Nat.le_refl _,by unfold maxLen;omega,fun h=>absurd h (by omega)⟩
end Go.Proofs.YtkganhafbjgndaaGreatRR
