/- Encode, walked. -/
import Derived.Test.YtkganhafbjgndaaGreatRRZEs
import Derived.Lib.LazyBuf
import Derived.Test.YtkganhafbjgndaaGreatRRZEa
import Derived.BigRegion
import Derived.Deep.RegionHeld3
import Derived.Lib.RowBridge
import Derived.Test.YtkganhafbjgndaaGreatRRZEc
namespace Go.Proofs.YtkganhafbjgndaaGreatRR.E
open Go.RowKit
set_option linter.unusedVariables false
def zeros:Array Value:=(z32.map bv).toArray
theorem make_run (w:World):(Instr.makeSlice 41 (.int .i64 32) (.int .i64 32)).run Tryz.prog w=.ok (.slice (some ⟨w.heap.size,0,none⟩) 32 32) (w.alloc (.cells zeros 5)):=by
 obtain ⟨i0,hi,hz0,hz1,hz2⟩:=info_parts Tryz.info5
 have hr:=run_make (P:=Tryz.prog) w 41 5 i0 _ Tryz.underlying41 hi hz0 .i64 .i64 32 32 (by omega) (by omega) (by rw [hz2];omega) (by omega)
 have e:madeCells (Value.int .u8 0).cells ((32:Int).toNat * 1)=zeros:=by
  apply Array.ext'
  have h1:(Value.int .u8 0).cells=#[Value.int .u8 0]:=rfl
  rw [h1,toList_madeCells_one]
  simp [zeros,z32,bv]
 rw [hz1,e] at hr
 exact hr
def Sec (w:World) (g:Nat) (l:List UInt8):Prop:=w.heap[g]?=some (.cells (l.map bv).toArray 5 (0,0))∧l.length=32
section
variable {w w':World} {g:Nat} {l:List UInt8}
theorem Sec.cell (h:Sec w g l) {j:Nat} (hj:j<32):w.cell? ⟨g,j,none⟩=some (.int .u8 ((l[j]?.getD 0).toNat:Int))∧w.frozen? ⟨g,j,none⟩=false:=by
 refine ⟨?_,free_in h.1 j⟩
 rw [cell_in h.1]
 have:j<l.length:=by rw [h.2];exact hj
 simp [this,bv]
theorem Sec.set (h:Sec w g l) (j:Nat) {y:UInt8} {v:Value} (hv:v=bv y):Sec (w.setCell ⟨g,j,none⟩ v) g (l.set j y):=by
 subst hv
 refine ⟨?_,by rw [List.length_set];exact h.2⟩
 rw [heap_set h.1]
 simp
theorem Sec.keep (h:Sec w g l) (he:w'.heap[g]?=w.heap[g]?):Sec w' g l:=⟨he.trans h.1,h.2⟩
theorem Sec.lt (h:Sec w g l):g<w.heap.size:=(Array.getElem?_eq_some_iff.1 h.1).1
theorem Sec.bts (h:Sec w g l):Bts w w.heap.size (some ⟨g,0,none⟩) 32 32 l :=
 ⟨h.2,Nat.le_refl _,by decide,(fun h=>by cases h),fun _=>⟨g,0,rfl,h.lt,fun j hj=>by rw [Nat.zero_add];exact (h.cell hj).1⟩⟩
end
theorem sec_new (w:World):Sec (w.alloc (.cells zeros 5)) w.heap.size z32:=⟨heap_alloc_new w _,rfl⟩
theorem heap_mid {b:Nat} {t:TypeId}:∀ (vs:List Value) (o:Nat) {w:World} {C:List Value},w.heap[b]?=some (.cells C.toArray t (0,0))→o+vs.length≤C.length→(w.setCells b o vs).heap[b]?=some (.cells (C.take o++vs++C.drop (o+vs.length)).toArray t (0,0))
 | [],o,w,C,h,hl=>by
  rw [World.setCells]
  simpa using h
 | v :: r,o,w,C,h,hl=>by
  have hlt:o<C.length:=by simp at hl;omega
  have h':(w.setCell ⟨b,o,none⟩ v).heap[b]?=some (.cells (C.set o v).toArray t (0,0)):=by
   have:=heap_set h o v
   simpa using this
  have:=heap_mid r (o+1) h' (by simp at hl ⊢;omega)
  rw [World.setCells,this]
  congr 3
  rw [List.take_succ_eq_append_getElem (by simpa using hlt),List.take_set_of_le (Nat.le_refl _),List.drop_set_of_lt (by omega)]
  simp only [List.getElem_set_self,List.append_assoc,List.cons_append,List.nil_append,List.length_cons]
  rw [show o+1+r.length=o+(r.length+1) by omega]
theorem heap_mid_ne {b b':Nat} (hb:b'≠b):∀ (vs:List Value) (o:Nat) (w:World),(w.setCells b o vs).heap[b']?=w.heap[b']?
 | [],_,_=>rfl
 | v :: r,o,w=>by rw [World.setCells,heap_mid_ne hb r (o+1),Below.heap_setCell _ _ _ _ hb]
theorem below_mid {b B:Nat} (hB:B≤b):∀ (vs:List Value) (o:Nat) {a w:World},Below B a w→Below B a (w.setCells b o vs)
 | [],_,_,_,h=>h
 | v :: r,o,_,_,h=>below_mid hB r (o+1) (h.setCell (p:=⟨b,o,none⟩) hB v)
theorem sz5 (w:World):(sizeOf 5).run Tryz.prog w=.ok 1 w:=by kernel_rfl
theorem copy_run {w:World} {g:Nat} {l nm:List UInt8} (h:Sec w g l) (hn:nm.length≤24) :
  ∃ w',(Builtin.copy_ #[41,9] 3 #[.slice (some ⟨g,1,none⟩) 31 31,.string (bs nm)]).run Tryz.prog w=.ok (.int .i64 nm.length) w'∧Sec w' g (l.take 1++nm++l.drop (1+nm.length))∧(∀ b,b≠g→w'.heap[b]?=w.heap[b]?)∧(∀ B,B≤g→Below B w w'):=by
 have hr:=run_copy_string (P:=Tryz.prog) w 41 9 3 5 g 1 31 31 (bs nm) Tryz.underlying41 sz5 (by rw [bs_size];omega) (fun j hj=>by
   rw [bs_size] at hj
   rw [(h.cell (j:=1+j) (by omega)).1];rfl) (fun j hj=>(h.cell (j:=1+j) (by rw [bs_size] at hj;omega)).2)
 refine ⟨_,hr,⟨?_,?_⟩,fun b hb=>heap_mid_ne hb _ _ _,fun B hB=>below_mid hB _ _ (Below.refl _ _)⟩
 ·have hl:=h.2
  have:=heap_mid (nm.map bv) 1 h.1 (by simp;omega)
  rw [bs_data]
  refine this.trans ?_
  simp
 ·simp [h.2]
  omega
theorem raw_steps {nm:List UInt8} {x:UInt8} (h:nm.length≤24):(((z32.set 0 (UInt8.ofNat nm.length)).take 1++nm++(z32.set 0 (UInt8.ofNat nm.length)).drop (1+nm.length)).set 25 x).set 26 0=raw nm x:=by
 have e1:(z32.set 0 (UInt8.ofNat nm.length)).take 1=[UInt8.ofNat nm.length]:=rfl
 have e2:(z32.set 0 (UInt8.ofNat nm.length)).drop (1+nm.length)=List.replicate (24 - nm.length) 0++([0,0]++List.replicate 5 0):=by
  rw [List.drop_set_of_lt (by omega)]
  unfold z32
  rw [List.drop_replicate,show ([0,0]++List.replicate 5 0:List UInt8)=List.replicate 7 0 from rfl,List.replicate_append_replicate]
  congr 1
  omega
 rw [e1,e2]
 unfold raw
 simp only [List.cons_append,List.nil_append,List.set_cons_succ,List.append_assoc]
 congr 1
 rw [List.set_append_right (h:=by omega),List.set_append_right (h:=by omega),List.set_append_right (h:=by simp),List.set_append_right (h:=by simp;omega)]
 simp only [List.length_replicate]
 rw [show 24 - nm.length - (24 - nm.length)=0 by omega,show 25 - nm.length - (24 - nm.length)=1 by omega]
 rfl
def EncP (w:World) (o:Option (List UInt8)) (e:Ending) (w':World):Prop :=
 match o with
 | none=>e=.returned (.tuple #[.slice none 0 0,.int .i64 2])∧Below w.heap.size w w'
 | some b=>∃ g,e=.returned (.tuple #[.slice (some ⟨g,0,none⟩) 32 32,.int .i64 0])∧Bts w' w'.heap.size (some ⟨g,0,none⟩) 32 32 b∧w.heap.size≤g∧Below w.heap.size w w'
theorem nil_yes:((bs []).toList == [])=true:=by rw [bs_list];rfl
theorem nil_no {a:List UInt8} (h:a≠[]):((bs a).toList == [])=false:=by rw [bs_list];simpa using h
theorem nil_no' {a:List UInt8} (h:a≠[]):¬ (bs a).toList=[]:=by rw [bs_list];exact h
theorem nil_yes':(bs []).toList=[]:=by rw [bs_list]
set_option maxRecDepth 20000 in
set_option maxHeartbeats 1000000 in
theorem enc_emp_any (w:World):Calls Tryz.prog 108 #[.agg #[.string (bs []),.int .i64 0]] w (EncP w (some z32)):=by
 obtain ⟨b1,b2,b3⟩:=box1 w (.cells #[.string (bs []),.int .i64 0] 121)
 have hmk:=make_run (w.alloc (.cells #[.string (bs []),.int .i64 0] 121))
 have HS:=Lib.hid (sec_new (w.alloc (.cells #[.string (bs []),.int .i64 0] 121)))
 have HB:=Lib.hid (b2.alloc (by rw [b3];omega) (.cells zeros 5))
 rw [b3] at hmk HS
 clear b1 b2 b3
 have h0:=nil_yes'
 go_enter Tryz.func108,Tryz.ntmps108
 go_wp2_with fail
 go_ret2
 exact ⟨_,rfl,HS.out.bts,by omega,HB.out⟩
theorem start (w:World) (r:Rw):∃ W,W=(w.alloc (.cells #[.string (bs r.1),.int .i64 r.2] 121)).alloc (.cells zeros 5)∧Sec W (w.heap.size+1) z32∧W.heap[w.heap.size]?=some (.cells #[.string (bs r.1),.int .i64 r.2] 121 (0,0))∧Below w.heap.size w W∧W.heap.size=w.heap.size+2:=by
 obtain ⟨b1,b2,b3⟩:=box1 w (.cells #[.string (bs r.1),.int .i64 r.2] 121)
 obtain ⟨c1,c2,c3⟩:=box1 (w.alloc (.cells #[.string (bs r.1),.int .i64 r.2] 121)) (.cells zeros 5)
 refine ⟨_,rfl,?_,(c2.block _ (by rw [b3];omega)).trans b1,b2.trans (c2.mono (by rw [b3];omega)),by rw [c3,b3]⟩
 have:=sec_new (w.alloc (.cells #[.string (bs r.1),.int .i64 r.2] 121))
 rw [b3] at this
 exact this
set_option maxRecDepth 20000 in
set_option maxHeartbeats 1000000 in
theorem enc_no_any (a:List UInt8) (x:Int) (w:World) (h:(a,x)≠emp) (hs:sound (a,x)=false):Calls Tryz.prog 108 #[.agg #[.string (bs a),.int .i64 x]] w (EncP w none):=by
 have HS:=Lib.hid hs
 clear hs
 have hmk:=make_run (w.alloc (.cells #[.string (bs a),.int .i64 x] 121))
 obtain ⟨W,hW,h1,h2,h3,h4⟩:=start w (a,x)
 have HB:=Lib.hid h3
 rw [(box1 w _).2.2] at hmk
 dsimp only at hW h2
 rw [← hW] at hmk
 have c0:W.cell? ⟨w.heap.size,0,none⟩=some (.string (bs a)):=cell_in h2 0
 have c1:W.cell? ⟨w.heap.size,1,none⟩=some (.int .i64 x):=cell_in h2 1
 have HW:=Lib.hid hW
 clear h1 h2 h3 h4 hW
 by_cases ha:a=[]
 ·subst ha
  have h0:=nil_yes'
  have hx:(x == 0)=false:=by
   rw [beq_eq_false_iff_ne]
   intro e
   exact h (by rw [e];rfl)
  clear h
  go_enter Tryz.func108,Tryz.ntmps108
  go_wp2_with fail
  refine (sound_any [] x _).mono ?_
  rintro e w1 ⟨rfl,hb⟩
  rw [HS.out]
  have HB2:=Lib.hid (HB.out.trans (hb.mono HB.out.size))
  clear hb
  go_wp2_with fail
  go_ret2
  exact ⟨rfl,HB2.out⟩
 ·have h0:=nil_no ha
  have h0':=nil_no' ha
  clear h
  go_enter Tryz.func108,Tryz.ntmps108
  go_wp2_with fail
  refine (sound_any a x _).mono ?_
  rintro e w1 ⟨rfl,hb⟩
  rw [HS.out]
  have HB2:=Lib.hid (HB.out.trans (hb.mono HB.out.size))
  clear hb
  go_wp2_with fail
  go_ret2
  exact ⟨rfl,HB2.out⟩
end Go.Proofs.YtkganhafbjgndaaGreatRR.E
namespace Go.Proofs.YtkganhafbjgndaaGreatRR.E
open Go.RowKit
set_option linter.unusedVariables false
def find (l:List Rw) (s:List UInt8):Option Nat:=if s=[] then none else l.findIdx? fun r=>decide (r.1=s)
def place (l:List Rw):Nat:=(l.findIdx? fun r=>decide (r=emp)).getD l.length
theorem fst_hit {p:Rw→Bool} {l:List Rw} {k:Nat} {r:Rw} (h:l[k]?=some r) (hp:p r=true) (ht:(l.take k).all (fun r=>!p r)=true):l.findIdx? p=some k:=by
 obtain ⟨hk,rfl⟩:=List.getElem?_eq_some_iff.1 h
 rw [List.findIdx?_eq_some_iff_getElem]
 refine ⟨hk,hp,fun j hj=>?_⟩
 have:=List.all_eq_true.1 ht l[j] (List.mem_take_iff_getElem.2 ⟨j,by omega,rfl⟩)
 simpa using this
theorem fst_none {p:Rw→Bool} {l:List Rw} (ht:l.all (fun r=>!p r)=true):l.findIdx? p=none:=by
 rw [List.findIdx?_eq_none_iff]
 intro x hx
 have:=List.all_eq_true.1 ht x hx
 simpa using this
def FindP (w:World) (o:Option Nat) (e:Ending) (w':World):Prop:=e=.returned (.tuple #[.int .i64 (o.getD 0:Nat),.bool o.isSome])∧Below w.heap.size w w'
set_option maxRecDepth 20000 in
set_option maxHeartbeats 1000000 in
theorem find_any {w:World} {B n c:Nat} {A:Option Addr} {l:List Rw} (s:List UInt8) (h:Rws w B A n c l) (hB:B≤w.heap.size):Calls Tryz.prog 109 #[.slice A n c,.string (bs s)] w (FindP w (find l s)):=by
 obtain ⟨o,ho⟩:∃ o,find l s=o:=⟨_,rfl⟩
 rw [ho]
 have HO:=Lib.hid ho
 clear ho
 have H:=Lib.hid h
 have HL:=Lib.hid h.len
 have hlim:=h.lim
 have hcap:=h.cap
 unfold maxLen at hlim
 clear h
 by_cases hs:s=[]
 ·obtain rfl:o=none:=by rw [← HO.out];unfold find;rw [if_pos hs]
  subst hs
  have h0:=nil_yes
  have h0':=nil_yes'
  go_enter Tryz.func109,Tryz.ntmps109
  go_wp2_with fail
  go_ret2
  exact ⟨rfl,Below.refl _ _⟩
 ·have HF:Hid (find l s=l.findIdx? fun r=>decide (r.1=s)):=by show _=_;unfold find;rw [if_neg hs]
  have h0:=nil_no hs
  have h0':=nil_no' hs
  clear hs
  go_enter Tryz.func109,Tryz.ntmps109
  go_wp2_with fail
  go_loopw [12] (fun i wr=>∃ k:Nat,k≤n∧i=.int .i64 k∧Hid ((l.take k).all (fun r=>!decide (r.1=s))=true)∧Hid (Below w.heap.size w wr)) (fun i _=>n - (intOf i).toNat)
  case atStart=>exact ⟨0,Nat.zero_le _,rfl,by simp [Hid],Below.refl _ _⟩
  case round =>
   obtain ⟨k,hk,rfl,HA,HB⟩:=hrel
   by_cases hlt:k<n
   ·obtain ⟨b,off,r,rfl,hb,hr,hc0,hc1⟩:=(H.out.below (HB.out.mono hB)).get hlt
    obtain ⟨a,x⟩:=r
    have HR:=Lib.hid hr
    have HB2:=fun v=>Lib.hid (HB.out.alloc HB.out.size (Obj.cells v 121))
    dsimp only at hc0 hc1
    clear hr
    by_cases he:a=s
    ·subst he
     have HX:Hid (o=some k):=by show _=_;rw [← HO.out,HF.out];exact fst_hit HR.out (by simp) HA.out
     have h1:((bs a).toList == (bs a).toList)=true:=by simp
     go_wp2_with fail
     go_ret2
     rw [HX.out]
     exact ⟨rfl,(HB2 _).out⟩
    ·have h1:((bs a).toList == (bs s).toList)=false:=by rw [bs_two];simpa using he
     have h1':¬ (bs a).toList=(bs s).toList:=by rw [bs_list,bs_list];exact he
     have HA2:=Lib.hid (all_take HR.out HA.out (by simpa using he))
     clear he
     go_wp2_with fail
     go_roundw
     case rel=>exact ⟨k+1,by omega,by go_num,HA2,(HB2 _).out⟩
     case measure=>simp [intOf];omega
   ·obtain rfl:k=n:=by omega
    have HX:Hid (o=none):=by
     show _=_
     rw [← HO.out,HF.out]
     have:=HA.out
     rw [List.take_of_length_le (by rw [HL.out];omega)] at this
     exact fst_none this
    go_wp2_with fail
    go_ret2
    rw [HX.out]
    exact ⟨rfl,HB.out⟩
set_option maxRecDepth 20000 in
set_option maxHeartbeats 1000000 in
theorem place_any {w:World} {B n c:Nat} {A:Option Addr} {l:List Rw} (h:Rws w B A n c l) (hB:B≤w.heap.size):Calls Tryz.prog 63 #[.slice A n c] w fun e w'=>e=.returned (.int .i64 (place l:Nat))∧Below w.heap.size w w':=by
 obtain ⟨o,ho⟩:∃ o,place l=o:=⟨_,rfl⟩
 rw [ho]
 have HO:=Lib.hid ho
 clear ho
 have H:=Lib.hid h
 have HL:=Lib.hid h.len
 have hlim:=h.lim
 have hcap:=h.cap
 unfold maxLen at hlim
 clear h
 go_enter Tryz.func63,Tryz.ntmps63
 go_wp2_with fail
 go_loopw [7] (fun i wr=>∃ k:Nat,k≤n∧i=.int .i64 k∧Hid ((l.take k).all (fun r=>!decide (r=emp))=true)∧Hid (Below w.heap.size w wr)) (fun i _=>n - (intOf i).toNat)
 case atStart=>exact ⟨0,Nat.zero_le _,rfl,by simp [Hid],Below.refl _ _⟩
 case round =>
  obtain ⟨k,hk,rfl,HA,HB⟩:=hrel
  by_cases hlt:k<n
  ·obtain ⟨b,off,r,rfl,hb,hr,hc0,hc1⟩:=(H.out.below (HB.out.mono hB)).get hlt
   obtain ⟨a,x⟩:=r
   have HR:=Lib.hid hr
   have HB2:=fun v=>Lib.hid (HB.out.alloc HB.out.size (Obj.cells v 121))
   dsimp only at hc0 hc1
   clear hr
   by_cases ha:a=[]
   ·subst ha
    have h0:=nil_yes
    have h0':=nil_yes'
    by_cases hx:x=0
    ·subst hx
     have HX:Hid (o=k):=by show _=_;rw [← HO.out];unfold place;rw [fst_hit HR.out (by rfl) HA.out];rfl
     go_wp2_with fail
     go_ret
     rw [HX.out]
     exact ⟨rfl,(HB2 _).out⟩
    ·have hx':(x == 0)=false:=by simpa using hx
     have HA2:=Lib.hid (all_take HR.out HA.out (by simpa [emp] using hx))
     go_wp2_with fail
     go_roundw
     case rel=>exact ⟨k+1,by omega,by go_num,HA2,(HB2 _).out⟩
     case measure=>simp [intOf];omega
   ·have h0:=nil_no ha
    have h0':=nil_no' ha
    have HA2:=Lib.hid (all_take HR.out HA.out (by simp [emp,ha]))
    clear ha
    go_wp2_with fail
    go_roundw
    case rel=>exact ⟨k+1,by omega,by go_num,HA2,(HB2 _).out⟩
    case measure=>simp [intOf];omega
  ·obtain rfl:k=n:=by omega
   have HX:Hid (o=k):=by
    show _=_
    have:=HA.out
    rw [List.take_of_length_le (by rw [HL.out];omega)] at this
    rw [← HO.out]
    unfold place
    rw [fst_none this]
    exact HL.out
   go_wp2_with fail
   go_ret
   rw [HX.out]
   exact ⟨rfl,HB.out⟩
def fnum:Option Nat→Int
 | none=>-1
 | some k=>k
end Go.Proofs.YtkganhafbjgndaaGreatRR.E
namespace Go.Proofs.YtkganhafbjgndaaGreatRR.E
set_option linter.unusedVariables false
def gd (b:List UInt8) (k:Nat):Bool:=(List.range k).all fun j=>(dec (prt b j)).isSome && (find (rws b j) ((dec (prt b j)).getD emp).1).isNone
def puts (l:List Rw) (r:Rw):List Rw:=if place l<l.length then l.set (place l) r else l++[r]
end Go.Proofs.YtkganhafbjgndaaGreatRR.E
namespace Go.Proofs.YtkganhafbjgndaaGreatRR.E
open Go.RowKit
set_option linter.unusedVariables false
set_option maxRecDepth 20000 in
set_option maxHeartbeats 1000000 in
theorem enc_yes_any (a:List UInt8) (x:Int) (w:World) (hs:sound (a,x)=true):Calls Tryz.prog 108 #[.agg #[.string (bs a),.int .i64 x]] w (EncP w (some (raw a (UInt8.ofNat x.toNat)))):=by
 obtain ⟨hn,hx1,hx2⟩:=sound_iff.1 hs
 have hlen:=name_len hn
 have h0:=nil_no (name_ne hn)
 have h0':=nil_no' (name_ne hn)
 dsimp only at hn hx1 hx2 hlen h0 h0'
 have HRW:Hid ((((z32.set 0 (UInt8.ofNat a.length)).take 1++a++(z32.set 0 (UInt8.ofNat a.length)).drop (1+a.length)).set 25 (UInt8.ofNat x.toNat)).set 26 0=raw a (UInt8.ofNat x.toNat)):=raw_steps hlen.2
 have HS:=Lib.hid hs
 clear hs hn
 have hmk:=make_run (w.alloc (.cells #[.string (bs a),.int .i64 x] 121))
 obtain ⟨W,hW,h1,h2,h3,h4⟩:=start w (a,x)
 have HB:=Lib.hid h3
 have HC:=Lib.hid h1
 have HX:=Lib.hid h2
 have HZ:=Lib.hid h4
 rw [(box1 w _).2.2] at hmk
 dsimp only at hW h2
 rw [← hW] at hmk
 have c0:W.cell? ⟨w.heap.size,0,none⟩=some (.string (bs a)):=cell_in h2 0
 have c1:W.cell? ⟨w.heap.size,1,none⟩=some (.int .i64 x):=cell_in h2 1
 have HW:=Lib.hid hW
 clear h1 h2 h3 h4 hW
 go_enter Tryz.func108,Tryz.ntmps108
 go_wp2_with fail
 refine (sound_any a x _).mono ?_
 rintro e w1 ⟨rfl,hb⟩
 rw [HS.out]
 have HC1:=Lib.hid (HC.out.keep (hb.block _ (by rw [HZ.out];omega)))
 have HX1:=Lib.hid ((hb.block _ (by rw [HZ.out];omega)).trans HX.out)
 have HB1:=Lib.hid (HB.out.trans (hb.mono HB.out.size))
 clear hb c0 c1 hmk HC HX HB HZ HW
 obtain ⟨k0,f0⟩:=HC1.out.cell (j:=0) (by omega)
 have c0:w1.cell? ⟨w.heap.size,0,none⟩=some (.string (bs a)):=cell_in HX1.out 0
 have hsz:(bs a).size=a.length:=bs_size a
 go_upto_region 7 with fail
 have hv0:Value.int .u8 (a.length:Int)=bv (UInt8.ofNat a.length):=by
  unfold bv
  rw [UInt8.toNat_ofNat',Nat.mod_eq_of_lt (by omega)]
 have HC2:=Lib.hid (HC1.out.set 0 hv0)
 have HX2:Hid ((w1.setCell ⟨w.heap.size+1,0,none⟩ (.int .u8 (a.length:Int))).heap[w.heap.size]?=some (.cells #[.string (bs a),.int .i64 x] 121 (0,0))):=(Below.heap_setCell _ _ _ _ (by show w.heap.size≠w.heap.size+1;omega)).trans HX1.out
 have HB2:=Lib.hid (HB1.out.setCell (p:=⟨w.heap.size+1,0,none⟩) (by show w.heap.size≤w.heap.size+1;omega) (.int .u8 (a.length:Int)))
 clear HC1 HX1 HB1 k0 f0 c0 hv0
 generalize w1.setCell ⟨w.heap.size+1,0,none⟩ (.int .u8 (a.length:Int))=W2 at *
 have c0:W2.cell? ⟨w.heap.size,0,none⟩=some (.string (bs a)):=cell_in HX2.out 0
 obtain ⟨W3,hr,hC3,hne,hbl⟩:=copy_run (w:=W2.drew) (g:=w.heap.size+1) (nm:=a) HC2.out hlen.2
 have HC3:=Lib.hid hC3
 have HX3:Hid (W3.heap[w.heap.size]?=some (.cells #[.string (bs a),.int .i64 x] 121 (0,0))):=(hne _ (by omega)).trans HX2.out
 have HB3:Hid (Below w.heap.size w W3):=(HB2.out.drew).trans (hbl _ (by omega))
 clear hC3 hne hbl HC2 HX2 HB2
 go_region
 clear hr c0
 obtain ⟨k1,f1⟩:=HC3.out.cell (j:=25) (by omega)
 obtain ⟨k2,f2⟩:=HC3.out.cell (j:=26) (by omega)
 have c1:W3.cell? ⟨w.heap.size,1,none⟩=some (.int .i64 x):=cell_in HX3.out 1
 go_wp2_with fail
 go_region
 go_wp2_with fail
 go_ret2
 have hv1:Value.int .u8 x=bv (UInt8.ofNat x.toNat):=by
  unfold bv
  rw [UInt8.toNat_ofNat',Nat.mod_eq_of_lt (by omega)]
  congr 1
  omega
 have hv2:Value.int .u8 (x / 256)=bv 0:=by
  unfold bv
  congr 1
  show x / 256=0
  omega
 have hf:=(HC3.out.set 25 hv1).set 26 hv2
 rw [HRW.out] at hf
 have hf':Sec ((W3.setCell ⟨w.heap.size+1,25,none⟩ (.int .u8 x)).setCell ⟨w.heap.size+1,26,none⟩ (.int .u8 (x / 256))).drew (w.heap.size+1) (raw a (UInt8.ofNat x.toNat)):=hf
 exact ⟨_,rfl,hf'.bts,by omega,((HB3.out.setCell (p:=⟨w.heap.size+1,25,none⟩) (by show w.heap.size≤w.heap.size+1;omega) _).setCell (p:=⟨w.heap.size+1,26,none⟩) (by show w.heap.size≤w.heap.size+1;omega) _).drew⟩
theorem enc_any (a:List UInt8) (x:Int) (w:World):Calls Tryz.prog 108 #[.agg #[.string (bs a),.int .i64 x]] w (EncP w (enc (a,x))):=by
 by_cases h:(a,x)=emp
 ·rw [h,enc_emp]
  obtain ⟨rfl,rfl⟩:a=[]∧x=0:=by
   unfold emp at h
   simpa using h
  exact enc_emp_any w
 ·cases hs:sound (a,x) with
  | false=>rw [enc_no h hs];exact enc_no_any a x w h hs
  | true=>rw [enc_yes hs];exact enc_yes_any a x w hs
end Go.Proofs.YtkganhafbjgndaaGreatRR.E
namespace Go.Proofs.YtkganhafbjgndaaGreatRR.E
open Go.RowKit
set_option linter.unusedVariables false
theorem or_low (x y:UInt8):bits .or .i64 (x.toNat:Int) ((y.toNat:Int) * 256)=((x.toNat+256 * y.toNat:Nat):Int):=by
 have hx:=x.toNat_lt
 have hy:=y.toNat_lt
 have e:(y.toNat:Int) * 256=((y.toNat * 256:Nat):Int):=by omega
 have o1:∀ a:Nat,a<9223372036854775808→(BitVec.ofInt 64 (a:Int)).toNat=a:=fun a ha=>by
  rw [BitVec.ofInt_natCast,BitVec.toNat_ofNat];exact Nat.mod_eq_of_lt (by omega)
 have hb:x.toNat ||| y.toNat * 256<2 ^ 63:=Nat.or_lt_two_pow (by omega) (by omega)
 have h:bits .or .i64 (x.toNat:Int) ((y.toNat * 256:Nat):Int)=((x.toNat ||| y.toNat * 256:Nat):Int):=by
  show IntKind.i64.wrap ((BitVec.ofInt 64 (x.toNat:Int) ||| BitVec.ofInt 64 ((y.toNat * 256:Nat):Int)).toNat:Int)=_
  rw [BitVec.toNat_or,o1 _ (by omega),o1 _ (by omega),IntKind.wrap_i64]
  omega
 have h2:x.toNat ||| y.toNat * 256=x.toNat+256 * y.toNat:=by
  rw [Nat.or_comm,Nat.mul_comm y.toNat 256,← Nat.two_pow_add_eq_or_of_lt (i:=8) (by omega) y.toNat]
  omega
 rw [e,h,h2]
abbrev zr:Array Value:=#[.string { data:=#[] },.int .i64 0]
theorem zr_one:zr.all (·.oneCell')=true:=all_oneCell_toArray (rc_one emp)
def DecP (w:World) (o:Option Rw) (e:Ending) (w':World):Prop:=e=.returned (.tuple #[.agg #[.string (bs (o.getD emp).1),.int .i64 (o.getD emp).2],.int .i64 (if o=none then 2 else 0)])∧Below w.heap.size w w'
set_option maxRecDepth 20000 in
set_option maxHeartbeats 1000000 in
theorem dec_unfit {w:World} {B n c:Nat} {A:Option Addr} {b:List UInt8} (h:Bts w B A n c b) (hB:B≤w.heap.size) (hf:fits b=false):Calls Tryz.prog 147 #[.slice A n c] w (DecP w none):=by
 obtain ⟨a0,ab,az⟩:=box1 w (Obj.cells zr 121)
 have A0:=Lib.hid a0
 have AB:=Lib.hid ab
 have HK:=Lib.hid (h.below (ab.mono hB))
 have HL:=Lib.hid h.len
 have hlim:=h.lim
 have hcap:=h.cap
 unfold maxLen at hlim
 clear a0 ab az h
 by_cases hn:n=32
 ·subst hn
  obtain ⟨bb,off,rfl,hb,hc⟩:=HK.out.cell (k:=0) (by omega)
  have hk:24<(b[0]?.getD 0).toNat:=by
   unfold fits at hf
   rw [HL.out] at hf
   simpa using hf
  have hk':(24:Int)<((b[0]?.getD 0).toNat:Int):=by omega
  generalize (b[0]?.getD 0).toNat=k at *
  rw [Nat.add_zero] at hc
  clear hf
  go_enter Tryz.func147,Tryz.ntmps147
  go_wp2_with (first | (refine wpList_store_row rfl 121 _ _ rfl w.heap.size zr zr 121 rfl rfl A0.out s23 rfl zr_one ?_) | fail)
  refine bodyPost_ret (ret_row2 rfl rfl (setRow_in _ _ zr zr _ A0.out) Tryz.underlying121 rfl s23) rfl ?_
  exact ⟨rfl,below_row AB.out (Nat.le_refl _) _⟩
 ·have hn':((n:Int) != 32)=true:=by rw [bne_iff_ne];omega
  clear hf
  go_enter Tryz.func147,Tryz.ntmps147
  go_wp2_with (first | (refine wpList_store_row rfl 121 _ _ rfl w.heap.size zr zr 121 rfl rfl A0.out s23 rfl zr_one ?_) | fail)
  refine bodyPost_ret (ret_row2 rfl rfl (setRow_in _ _ zr zr _ A0.out) Tryz.underlying121 rfl s23) rfl ?_
  exact ⟨rfl,below_row AB.out (Nat.le_refl _) _⟩
end Go.Proofs.YtkganhafbjgndaaGreatRR.E
namespace Go.Proofs.YtkganhafbjgndaaGreatRR.E
open Go.RowKit
set_option linter.unusedVariables false
set_option maxRecDepth 20000 in
set_option maxHeartbeats 2000000 in
theorem dec_fit {w:World} {B c:Nat} {A:Option Addr} {b:List UInt8} (h:Bts w B A 32 c b) (hB:B≤w.heap.size) (hf:fits b=true):Calls Tryz.prog 147 #[.slice A 32 c] w (DecP w (dec b)):=by
 obtain ⟨o,ho⟩:∃ o,dec b=o:=⟨_,rfl⟩
 rw [ho]
 have HO:=Lib.hid ho
 clear ho
 have HF:=Lib.hid hf
 have HL:=Lib.hid h.len
 have hlim:=h.lim
 have hcap:=h.cap
 unfold maxLen at hlim
 obtain ⟨bb,off,rfl,hbb,hcell⟩:=h.at_ (by omega)
 have HC:=Lib.hid hcell
 have H:=Lib.hid h
 have hk24:(b[0]?.getD 0).toNat≤24:=by
  simp only [fits,Bool.and_eq_true,decide_eq_true_eq] at hf
  exact hf.2
 clear hcell h hf
 obtain ⟨nm,hnm⟩:∃ nm,(b.drop 1).take (b[0]?.getD 0).toNat=nm:=⟨_,rfl⟩
 have HNM:=Lib.hid hnm
 obtain ⟨b25,h25⟩:∃ x,b[25]?.getD 0=x:=⟨_,rfl⟩
 obtain ⟨b26,h26⟩:∃ x,b[26]?.getD 0=x:=⟨_,rfl⟩
 have HCA:Hid (cand b=(nm,((b25.toNat+256 * b26.toNat:Nat):Int))):=by show _=_;unfold cand;rw [hnm,h25,h26]
 have hc0:=HC.out 0 (by omega)
 have hc25:=HC.out 25 (by omega)
 have hc26:=HC.out 26 (by omega)
 rw [h25] at hc25
 rw [h26] at hc26
 rw [Nat.add_zero] at hc0
 have HSUB:=Lib.hid (H.out.sub (s:=1) (m:=(b[0]?.getD 0).toNat) (by omega))
 rw [hnm] at HSUB
 clear h25 h26 hnm
 obtain ⟨k,hk⟩:∃ k,(b[0]?.getD 0).toNat=k:=⟨_,rfl⟩
 rw [hk] at hc0 hk24 HSUB
 clear hk
 go_enter Tryz.func147,Tryz.ntmps147
 obtain ⟨a0,ab,az⟩:=box1 w (Obj.cells zr 121)
 have W0:(w.alloc (Obj.cells zr 121)).cell? ⟨bb,off,none⟩=some (.int .u8 k):=(ab.cell (p:=⟨bb,off,none⟩) (by show bb < _;omega)).trans hc0
 have W25:(w.alloc (Obj.cells zr 121)).cell? ⟨bb,off+25,none⟩=some (.int .u8 (b25.toNat:Int)):=(ab.cell (p:=⟨bb,off+25,none⟩) (by show bb < _;omega)).trans hc25
 have W26:(w.alloc (Obj.cells zr 121)).cell? ⟨bb,off+26,none⟩=some (.int .u8 (b26.toNat:Int)):=(ab.cell (p:=⟨bb,off+26,none⟩) (by show bb < _;omega)).trans hc26
 have hk24':¬ (24:Int)<(k:Int):=by omega
 have HW:Hid (Bts (w.alloc (Obj.cells zr 121)) (w.alloc (Obj.cells zr 121)).heap.size (some ⟨bb,off,none⟩) 32 c b):=(H.out.below (ab.mono hB)).more (by rw [az];omega)
 have HWS:Hid (Bts (w.alloc (Obj.cells zr 121)) (w.alloc (Obj.cells zr 121)).heap.size (some ⟨bb,off+1,none⟩) k (c - 1) nm):=(HSUB.out.below (ab.mono hB)).more (by rw [az];omega)
 go_upto_region 3 with fail
 have A0:=Lib.hid a0
 have AB:=Lib.hid ab
 have hz:w.heap.size<(w.alloc (Obj.cells zr 121)).heap.size:=by rw [az];omega
 clear a0 ab az hc0 hc25 hc26 HSUB H HC
 generalize w.alloc (Obj.cells zr 121)=W at *
 have w1:IntKind.i64.wrap (1+(k:Int))=1+(k:Int):=by rw [IntKind.wrap_i64];omega
 have w2:(1+(k:Int))≤(c:Int):=by omega
 have w3:(1:Int)≤1+(k:Int):=by omega
 have w4:(1+(k:Int)).toNat - 1=k:=by omega
 have w5:(0:Int)≤1+(k:Int):=by omega
 have cv:∀ V,Below W.heap.size W V→(convert 41 9 (.slice (some ⟨bb,off+1,none⟩) k (c - 1))).run Tryz.prog V=.ok (.string (bs nm)) V:=fun V hV=>fstr HWS.out V hV
 have cv1:=cv W.drew ((Below.refl _ _).drew)
 have cv2:=cv (W.alloc (.cells zr 121)).drew ((box_below W _).drew)
 have hbW:bb<W.heap.size:=by omega
 have V0:(W.alloc (Obj.cells zr 121)).cell? ⟨bb,off,none⟩=some (.int .u8 k):=((box_below W _).cell (p:=⟨bb,off,none⟩) hbW).trans W0
 have V25:(W.alloc (Obj.cells zr 121)).cell? ⟨bb,off+25,none⟩=some (.int .u8 (b25.toNat:Int)):=((box_below W _).cell (p:=⟨bb,off+25,none⟩) hbW).trans W25
 have V26:(W.alloc (Obj.cells zr 121)).cell? ⟨bb,off+26,none⟩=some (.int .u8 (b26.toNat:Int)):=((box_below W _).cell (p:=⟨bb,off+26,none⟩) hbW).trans W26
 have w6:IntKind.i64.wrap (k:Int)=(k:Int):=by rw [IntKind.wrap_i64];omega
 have w7:IntKind.i64.wrap (b25.toNat:Int)=(b25.toNat:Int):=by have:=b25.toNat_lt;rw [IntKind.wrap_i64];omega
 have w8:IntKind.i64.wrap (b26.toNat:Int)=(b26.toNat:Int):=by have:=b26.toNat_lt;rw [IntKind.wrap_i64];omega
 have w9:IntKind.i64.wrap ((b26.toNat:Int) * 256)=(b26.toNat:Int) * 256:=by have:=b26.toNat_lt;rw [IntKind.wrap_i64];omega
 have w10:=or_low b25 b26
 have w11:¬ c=1:=by omega
 go_region
 all_goals
  have HE:∀ V,Hid (Calls Tryz.prog 108 #[.agg #[.string (bs nm),.int .i64 ((b25.toNat:Int)+256 * (b26.toNat:Int))]] V (EncP V (enc (cand b)))):=fun V=>by
   have h1:=HCA.out
   rw [show ((b25.toNat+256 * b26.toNat:Nat):Int)=(b25.toNat:Int)+256 * (b26.toNat:Int) by omega] at h1
   show Calls _ _ _ _ _
   rw [h1]
   exact enc_any nm _ V
  have HCB:Hid (cand b=(nm,(b25.toNat:Int)+256 * (b26.toNat:Int))):=by show _=_;rw [HCA.out];congr 1
  clear w1 w2 w3 w4 w5 w6 w7 w8 w9 w10 w11 cv cv1 cv2 V0 V25 V26 W0 W25 W26 HCA HWS
  generalize (b25.toNat:Int)+256 * (b26.toNat:Int)=x at *
  obtain ⟨v1,v2,v3⟩:=box1 W (Obj.cells #[.string (bs nm),.int .i64 x] 121)
  have hv:Below W.heap.size W (W.alloc (Obj.cells #[.string (bs nm),.int .i64 x] 121)).drew:=v2.drew
  have X0:Hid ((W.alloc (Obj.cells #[.string (bs nm),.int .i64 x] 121)).drew.heap[w.heap.size]?=some (.cells zr 121 (0,0))):=(hv.block _ hz).trans A0.out
  have X1:Hid ((W.alloc (Obj.cells #[.string (bs nm),.int .i64 x] 121)).drew.heap[W.heap.size]?=some (.cells #[.string (bs nm),.int .i64 x] 121 (0,0))):=v1
  have XB:Hid (Below w.heap.size w (W.alloc (Obj.cells #[.string (bs nm),.int .i64 x] 121)).drew):=AB.out.trans (hv.mono AB.out.size)
  have XW:Hid (Bts (W.alloc (Obj.cells #[.string (bs nm),.int .i64 x] 121)).drew W.heap.size (some ⟨bb,off,none⟩) 32 c b):=HW.out.below hv
  have XZ:Hid (W.heap.size<(W.alloc (Obj.cells #[.string (bs nm),.int .i64 x] 121)).drew.heap.size):=by show W.heap.size<(W.alloc _).heap.size;rw [v3];omega
  clear v1 v2 v3 hv HW A0 AB
  go_upto_region 4 with fail
  generalize (W.alloc (Obj.cells #[.string (bs nm),.int .i64 x] 121)).drew=V at *
  have hzz:w.heap.size<V.heap.size:=by have:=XZ.out;omega
  go_wp2_with (first | (refine wpList_load_row rfl 121 _ rfl W.heap.size rfl _ _ _ X1.out _ Tryz.underlying121 rfl s23 ?_) | fail)
  refine (HE V).out.mono ?_
  obtain ⟨q,hq⟩:∃ q,enc (cand b)=q:=⟨_,rfl⟩
  rw [hq]
  have HQ:=Lib.hid hq
  clear hq HE
  cases q with
  | none =>
   rintro e w2 ⟨rfl,hb2⟩
   obtain rfl:o=none:=by rw [← HO.out];unfold dec;rw [if_pos HF.out,HQ.out,if_neg (by simp)]
   have Y0:Hid (w2.heap[w.heap.size]?=some (.cells zr 121 (0,0))):=(hb2.block _ hzz).trans X0.out
   have YB:=Lib.hid (XB.out.trans (hb2.mono XB.out.size))
   clear hb2 X0 X1 XB XW XZ
   go_wp2_with (first | (refine wpList_store_row rfl 121 _ _ rfl w.heap.size zr zr 121 rfl rfl Y0.out s23 rfl zr_one ?_) | fail)
   refine bodyPost_ret (ret_row2 rfl rfl (setRow_in _ _ zr zr _ Y0.out) Tryz.underlying121 rfl s23) rfl ?_
   exact ⟨rfl,below_row YB.out (Nat.le_refl _) _⟩
  | some y =>
   rintro e w2 ⟨g,rfl,hby,hgy,hb2⟩
   have Y0:Hid (w2.heap[w.heap.size]?=some (.cells zr 121 (0,0))):=(hb2.block _ hzz).trans X0.out
   have Y1:Hid (w2.heap[W.heap.size]?=some (.cells #[.string (bs nm),.int .i64 x] 121 (0,0))):=(hb2.block _ XZ.out).trans X1.out
   have YB:=Lib.hid (XB.out.trans (hb2.mono XB.out.size))
   have YW:=Lib.hid (XW.out.below (hb2.mono (Nat.le_of_lt XZ.out)))
   have YY:=Lib.hid hby
   clear hb2 X0 X1 XB XW XZ hby hgy
   go_wp2_with fail
   refine (equal_any YY.out YW.out).mono ?_
   rintro e w3 ⟨rfl,rfl⟩
   by_cases hy:y=b
   ·subst hy
    obtain rfl:o=some (nm,x):=by rw [← HO.out];unfold dec;rw [if_pos HF.out,HQ.out,if_pos rfl,HCB.out]
    rw [decide_eq_true (rfl:y=y)]
    go_wp2_with (first | (refine wpList_load_row rfl 121 _ rfl W.heap.size rfl _ _ _ Y1.out _ Tryz.underlying121 rfl s23 ?_) | (refine wpList_store_row rfl 121 _ _ rfl w.heap.size zr #[.string (bs nm),.int .i64 x] 121 rfl rfl Y0.out s23 rfl (all_oneCell_toArray (rc_one (nm,x))) ?_) | fail)
    refine bodyPost_ret (ret_row2 rfl rfl (setRow_in _ _ zr #[.string (bs nm),.int .i64 x] _ Y0.out) Tryz.underlying121 rfl s23) rfl ?_
    exact ⟨rfl,below_row YB.out (Nat.le_refl _) _⟩
   ·obtain rfl:o=none:=by rw [← HO.out];unfold dec;rw [if_pos HF.out,HQ.out,if_neg (by simpa using hy)]
    rw [decide_eq_false hy]
    clear hy
    go_wp2_with (first | (refine wpList_store_row rfl 121 _ _ rfl w.heap.size zr zr 121 rfl rfl Y0.out s23 rfl zr_one ?_) | fail)
    refine bodyPost_ret (ret_row2 rfl rfl (setRow_in _ _ zr zr _ Y0.out) Tryz.underlying121 rfl s23) rfl ?_
    exact ⟨rfl,below_row YB.out (Nat.le_refl _) _⟩
theorem dec_any {w:World} {B n c:Nat} {A:Option Addr} {b:List UInt8} (h:Bts w B A n c b) (hB:B≤w.heap.size):Calls Tryz.prog 147 #[.slice A n c] w (DecP w (dec b)):=by
 cases hf:fits b with
 | false =>
  have:dec b=none:=by unfold dec;rw [if_neg (by rw [hf];decide)]
  rw [this]
  exact dec_unfit h hB hf
 | true =>
  obtain rfl:n=32:=by
   simp only [fits,Bool.and_eq_true,decide_eq_true_eq] at hf
   rw [← h.len,hf.1]
  exact dec_fit h hB hf
end Go.Proofs.YtkganhafbjgndaaGreatRR.E
namespace Go.Proofs.YtkganhafbjgndaaGreatRR.E
open Go.RowKit
set_option linter.unusedVariables false
theorem srt_nil:srt []=[]:=by simp [srt]
theorem own_sort {w:World} {base g cap m:Nat} {l:List (List UInt8)} (h:OwnS w base (.slice (some ⟨g,0,none⟩) m cap) l):Sort.Holds encStr w g 0 l.toArray∧g<w.heap.size∧base≤g∧m=l.length∧l.length≤cap:=by
 rcases h.2 with ⟨e,_⟩ | ⟨g',cap',cur,e,hg,hh,hn,hm,hs,ht⟩
 ·cases e
 ·injection e with e1 e2 e3
  injection e1 with e1
  injection e1 with e1
  subst e1 e2 e3
  refine ⟨fun j hj=>?_,(Array.getElem?_eq_some_iff.1 hh).1,hg,rfl,hn⟩
  have hj':j<l.length:=by simpa using hj
  refine ⟨?_,free_in hh _⟩
  rw [Nat.zero_add,cell_in hh]
  have e:cur.toList[j]?=(l.map fun s=>Value.string (bs s))[j]?:=by
   rw [← ht,List.getElem?_take,if_pos (by omega)]
  rw [← Array.getElem?_toList,e]
  simp [hj',bs,getElem!_pos]
theorem own_put {w:World} {base g cap m:Nat} {l l':List (List UInt8)} (h:OwnS w base (.slice (some ⟨g,0,none⟩) m cap) l) (hl:l'.length=l.length) (n:Nat) (os:Array Obj) :
  OwnS (Sort.grow (Sort.putRow encStr (Sort.ahead w n) g 0 l'.toArray) os) base (.slice (some ⟨g,0,none⟩) m cap) l'∧Below base w (Sort.grow (Sort.putRow encStr (Sort.ahead w n) g 0 l'.toArray) os):=by
 rcases h.2 with ⟨e,_⟩ | ⟨g',cap',cur,e,hg,hh,hn,hm,hs,ht⟩
 ·cases e
 ·injection e with e1 e2 e3
  injection e1 with e1
  injection e1 with e1
  subst e1 e2 e3
  have hlt:g<w.heap.size:=(Array.getElem?_eq_some_iff.1 hh).1
  have hblk:(Sort.grow (Sort.putRow encStr (Sort.ahead w n) g 0 l'.toArray) os).heap[g]?=some (.cells (Sort.putCells encStr 0 l'.toArray cur) 9 (0,0)):=by
   rw [Sort.heap_grow_old _ _ (by simpa using hlt)]
   simp [Sort.putRow,Sort.mapBlock,Array.getElem?_modify,hh,Sort.onCells]
  refine ⟨⟨by simp,.inr ⟨g,cap,_,by rw [hl],hg,hblk,by rw [hl];exact hn,hm,by simp [Sort.putCells,hs],?_⟩⟩,?_⟩
  ·rw [Nat.mul_one]
   apply List.ext_getElem?
   intro j
   rw [List.getElem?_take]
   by_cases hj:j<l'.length
   ·have hjc:j<cur.size:=by omega
    simp [hj,Sort.putCells,hjc,bs]
   ·simp [hj]
  ·refine ⟨rfl,rfl,rfl,by simp,fun k hk=>?_⟩
   have hkw:k<w.heap.size:=by omega
   rw [Sort.heap_grow_old _ _ (by simpa using hkw)]
   simp only [Sort.putRow,Sort.mapBlock,Sort.ahead,Array.getElem?_modify]
   rw [if_neg (by omega)]
theorem sort_any {w:World} {base:Nat} {v:Value} {l:List (List UInt8)} (h:OwnS w base v l) (hl:l.length≤5000000000000):Calls Tryz.prog 117 #[v] w fun e w'=>e=.returned (.tuple #[])∧OwnS w' base v (srt l)∧Below base w w':=by
 rcases h.2 with ⟨rfl,h0⟩ | ⟨g,cap,cur,rfl,hg,hh,hn,hm,hs,ht⟩
 ·obtain rfl:l=[]:=List.length_eq_zero_iff.1 h0
  refine (Tryz.slices_Sort_string_none none 0 w).mono ?_
  rintro e w' ⟨rfl,rfl⟩
  exact ⟨rfl,by rw [srt_nil];exact h,Below.refl _ _⟩
 ·obtain ⟨h1,h2,h3,h4,h5⟩:=own_sort h
  refine (Tryz.slices_Sort_string g 0 cap l w h1 h2 (by omega)).mono ?_
  rintro e w' ⟨rfl,n,os,rfl⟩
  exact ⟨rfl,own_put h (l':=srt l) (srt_len l) n os⟩
theorem compact_any {w:World} {base:Nat} {v:Value} {l:List (List UInt8)} (h:OwnS w base v l) (hl:l.length≤5000000000000):Calls Tryz.prog 148 #[v] w fun e w'=>(∃ A c,e=.returned (.slice A (Lib.compact l).length c))∧Below base w w':=by
 rcases h.2 with ⟨rfl,h0⟩ | ⟨g,cap,cur,rfl,hg,hh,hn,hm,hs,ht⟩
 ·obtain rfl:l=[]:=List.length_eq_zero_iff.1 h0
  refine (Tryz.slices_Compact_string_empty none 0 w).mono ?_
  rintro e w' ⟨rfl,rfl⟩
  exact ⟨⟨none,0,rfl⟩,Below.refl _ _⟩
 ·obtain ⟨h1,h2,h3,h4,h5⟩:=own_sort h
  refine (Tryz.slices_Compact_string g 0 cap l w h1 (by omega) h5).mono ?_
  rintro e w' ⟨rfl,n,rfl⟩
  refine ⟨⟨_,_,rfl⟩,?_⟩
  have hle:(Lib.compact l).length≤l.length:=Lib.compact_length_le l
  have:=(own_put h (l':=Lib.compact l++List.replicate (l.length - (Lib.compact l).length) []) (by simp;omega) n #[]).2
  rw [Sort.grow_empty] at this
  exact this
def NamesP (w:World) (l:List Rw) (e:Ending) (w':World):Prop:=∃ v,e=.returned v∧OwnS w' w.heap.size v (srt (nms l))∧Below w.heap.size w w'
theorem nms_take {l:List Rw} {k:Nat} {r:Rw} (h:l[k]?=some r):nms (l.take (k+1))=nms (l.take k)++if r.1=[] then [] else [r.1]:=by
 obtain ⟨hk,rfl⟩:=List.getElem?_eq_some_iff.1 h
 rw [List.take_succ_eq_append_getElem hk,nms_snoc]
set_option maxRecDepth 20000 in
set_option maxHeartbeats 1000000 in
theorem names_any {w:World} {B n c:Nat} {A:Option Addr} {l:List Rw} (h:Rws w B A n c l) (hB:B≤w.heap.size) (hn:n≤5000000000000):Calls Tryz.prog 76 #[.slice A n c] w (NamesP w l):=by
 have H:=Lib.hid h
 have HL:=Lib.hid h.len
 have hlim:=h.lim
 have hcap:=h.cap
 unfold maxLen at hlim
 have HT:∀ k,Hid ((nms (l.take k)).length≤k):=fun k=>by
  show _≤_
  refine Nat.le_trans (nms_len _) ?_
  rw [List.length_take]
  omega
 clear h
 go_enter Tryz.func76,Tryz.ntmps76
 go_wp2_with fail
 go_loopw [3,8] (fun u i wr=>∃ k:Nat,∃ v:Value,k≤n∧i=.int .i64 k∧u=v∧Hid (OwnS wr w.heap.size v (nms (l.take k)))∧Hid (Below w.heap.size w wr)) (fun _ i _=>n - (intOf i).toNat)
 case atStart=>exact ⟨0,_,Nat.zero_le _,rfl,rfl,OwnS.nil_ _ _,Below.refl _ _⟩
 case round =>
  obtain ⟨k,v,hk,rfl,hu,HO,HB⟩:=hrel
  obtain rfl:=hu.symm
  by_cases hlt:k<n
  ·obtain ⟨b,off,r,rfl,hb,hr,hc0,hc1⟩:=(H.out.below (HB.out.mono hB)).get hlt
   have HS:=Lib.hid (nms_take hr)
   obtain ⟨a,x⟩:=r
   have HB2:Hid (Below w.heap.size w (wr.alloc (Obj.cells #[.string (bs a),.int .i64 x] 121))):=HB.out.alloc HB.out.size _
   have HO2:Hid (OwnS (wr.alloc (Obj.cells #[.string (bs a),.int .i64 x] 121)) w.heap.size v (nms (l.take k))):=HO.out.below (box_below wr _)
   dsimp only at hc0 hc1 HS
   clear hr
   by_cases ha:a=[]
   ·subst ha
    have h0:=nil_yes
    have h0':=nil_yes'
    have HO3:Hid (OwnS (wr.alloc (Obj.cells #[.string (bs []),.int .i64 x] 121)) w.heap.size v (nms (l.take (k+1)))):=by
     show OwnS _ _ _ _
     rw [HS.out,if_pos rfl,List.append_nil]
     exact HO2.out
    go_wp2_with fail
    go_roundw
    case rel=>exact ⟨k+1,v,by omega,by go_num,rfl,HO3,HB2⟩
    case measure=>simp [intOf];omega
   ·have h0:=nil_no ha
    have h0':=nil_no' ha
    obtain ⟨v',w',hr,ho,hb'⟩:=appS_run a HO2.out (by have:=(HT k).out;omega) HB2.out.size
    have hz:(wr.alloc (Obj.cells #[.string (bs a),.int .i64 x] 121)).heap.size=wr.heap.size+1:=by simp
    rw [hz] at hr
    have HO3:Hid (OwnS w' w.heap.size v' (nms (l.take (k+1)))):=by
     show OwnS _ _ _ _
     rw [HS.out,if_neg ha]
     exact ho
    have HB3:=Lib.hid (HB2.out.trans hb')
    have HR:=Lib.hid hr
    clear hr ho hb' ha hz
    go_wp2_with (at_builtin;refine Lib.wpList_append_run _ rfl _ _ _ _ rfl _ _ rfl rfl _ _ HR.out ?_)
    go_roundw
    case rel=>exact ⟨k+1,v',by omega,by go_num,rfl,HO3,HB3⟩
    case measure=>simp [intOf];omega
  ·obtain rfl:k=n:=by omega
   have HS:=Lib.hid (sort_any HO.out (by have:=(HT k).out;omega))
   have HLT:Hid (l.take k=l):=List.take_of_length_le (by rw [HL.out];omega)
   go_wp2_with fail
   refine HS.out.mono ?_
   rintro e w1 ⟨rfl,ho,hb1⟩
   rw [HLT.out] at ho
   have HO1:=Lib.hid ho
   have HB1:=Lib.hid (HB.out.trans hb1)
   clear ho hb1 HS
   go_wp2_with fail
   go_ret
   exact ⟨v,rfl,HO1.out,HB1.out⟩
end Go.Proofs.YtkganhafbjgndaaGreatRR.E
namespace Go.Proofs.YtkganhafbjgndaaGreatRR.E
open Go.RowKit Go.Shelf
set_option linter.unusedVariables false
attribute [local go_sem] Oper.semAt_some
set_option maxHeartbeats 1000000 in
theorem chunk_in (n:Nat) (A:Option Addr) (len cap:Nat) (w:World) :
  CallsIn Fence.wide n Tryz.prog 146 #[.slice A len cap,.int .i64 32] w fun e w'=>e=.returned (.func (.func 177) #[] #[.pointer (some ⟨w.heap.size,0,none⟩),.pointer (some ⟨w.heap.size+1,0,none⟩)])∧w'=(w.alloc (.cells #[.slice A len cap] 41)).alloc (.cells #[.int .i64 32] 3):=by
 refine callsIn_of_wp Tryz.func146 rfl trivial ?_ rfl
 simp only [Tryz.ntmps146,List.size_toArray,List.length_cons,List.length_nil,Nat.reduceAdd,Nat.reduceSub,Array.replicate_succ,Array.replicate_zero,List.push_toArray,List.append_toArray,List.nil_append,List.cons_append]
 gi_wp2
 go_ret
 exact ⟨rfl,rfl⟩
theorem chunk_stops (n:Nat) (hn:1≤n) (Bs Bn n₀ bb off:Nat) (A:Option Addr) (len cap:Nat) (w:World) (hBs:Bs<w.heap.size) (hBn:Bn<w.heap.size) (hA:0<len→A=some ⟨bb,off,none⟩) (hcap:len≤cap) (hlim:cap≤9223372036854775807) (hlen:len≤140737488355328)
  (hc:w.cell? ⟨Bs,0,none⟩=some (.slice A len cap)) (hc':w.cell? ⟨Bn,0,none⟩=some (.int .i64 32)) :
  SeqStopsK Fence.wide n Tryz.prog 177 #[.pointer (some ⟨Bs,0,none⟩),.pointer (some ⟨Bn,0,none⟩)] (encs bb off len) (KB n₀ Bs Bn) (fun ys=>ys.map (·.1)=List.range (nparts len)) (fun pre=>∃ k,k≤nparts len∧pre.map (·.1)=List.range k) (nparts len) w:=fun ll J Jx W hW hJ _ hY h0 =>
 chunk1_in n hn ll Bs Bn n₀ cap len bb off A J Jx hA hcap hlim (fun s V hs=>hJ s V V.drew none hs ⟨rfl,rfl,rfl,Nat.le_refl _,fun _ _ _=>rfl⟩ (fun r e=>by cases e)) hY W ((hW.cell (p:=⟨Bs,0,none⟩) hBs).trans hc) ((hW.cell (p:=⟨Bn,0,none⟩) hBn).trans hc') h0 hlen
theorem boxed_own {β:Type} (B:Nat) (t:TypeId) (v:Value):Own (fun (_:β) W=>Boxed W B t v):=by
 intro s X Y row hv hg hrow
 refine Boxed.kept hv hg fun e'=>?_
 obtain ⟨o,ho,hc⟩:=hrow B e'.symm
 rw [show X.heap[B]?=_ from hv] at ho
 cases ho
 cases hc
theorem appR_raw {w:World} {base:Nat} {v:Value} {l:List Rw} (r:Rw) (hown:OwnR w base v l) (hk:l.length≤5000000000000) (hbase:base≤w.heap.size) :
  ∃ v' w',(Builtin.append_ #[115,115] 115 #[v,.slice (some ⟨w.heap.size,0,none⟩) 1 1]).run Tryz.prog (w.alloc (.cells #[.string (bs r.1),.int .i64 r.2] 121))=.ok v' w'∧OwnR w' base v' (l++[r])∧(w.alloc (.cells #[.string (bs r.1),.int .i64 r.2] 121)).grownBy w' v.ownBlock:=by
 obtain ⟨i0,hi,hz0,hz1,hz2⟩:=info_parts Tryz.info23
 obtain ⟨v',w',hr,h2,h3,_⟩:=run_append_own (P:=Tryz.prog) (w.alloc (.cells #[.string (bs r.1),.int .i64 r.2] 121)) base 115 115 121 i0 _ 2 24 Tryz.underlying115 hi hz0 hz1 hz2 rfl (by decide) v l.length (l.flatMap rc) (World.ownsRow.alloc hown _) ⟨w.heap.size,0,none⟩ 1 1 (rc r) (by rfl)
  (fun j u hu=>by
   rw [Addr.add_lit,World.cell?_alloc_mark,Nat.zero_add]
   match j,hu with
   | 0,hu=>exact hu
   | 1,hu=>exact hu
   | j+2,hu=>simp [rc] at hu) (rc_one r) (by unfold maxLen;omega) (by omega) (by simp;omega)
 refine ⟨v',w',hr,?_,h3⟩
 unfold OwnR
 rw [List.flatMap_append,List.length_append]
 simpa using h2
def rowsOf (b:List UInt8) (ks:List Nat):List Rw:=ks.map fun i=>(dec (prt b i)).getD emp
def oksOf (b:List UInt8) (ks:List Nat):Bool:=ks.all fun i=>(dec (prt b i)).isSome
theorem plen_take {b:List UInt8} {len:Nat} (h:b.length=len) (k:Nat):(b.drop (32 * k)).take (plen len k)=prt b k:=by
 unfold prt plen
 rw [← h,← List.length_drop,List.take_eq_take_iff]
 omega
def Inv (w:World) (A:Option Addr) (cap:Nat) (b:List UInt8) {len:Nat} (pre:List (Pl len)) (W:World):Prop :=
 (∃ v,Boxed W (w.heap.size+1+1) 115 v∧W.ownsRow w.heap.size 121 2 v (rowsOf b (pre.map (·.1))).length ((rowsOf b (pre.map (·.1))).flatMap rc)∧True)∧(Boxed W w.heap.size 115 (.slice none 0 0)∧(Boxed W (w.heap.size+1) 29 (.int .i64 0)∧(Boxed W (w.heap.size+1+1+1) 41 (.slice A len cap)∧(Boxed W (w.heap.size+1+1+1+1) 3 (.int .i64 32)∧(Below w.heap.size w W∧oksOf b (pre.map (·.1))=true)))))
def InvX (w:World) (b:List UInt8) {len:Nat} (c:Code) (pre:List (Pl len)) (W:World):Prop :=
 Boxed W w.heap.size 115 (.slice none 0 0)∧(Boxed W (w.heap.size+1) 29 (.int .i64 2)∧(Below w.heap.size w W∧(c=.ret∧oksOf b (pre.map (·.1))=false)))
theorem inv_own (w:World) (A:Option Addr) (cap:Nat) (b:List UInt8) {len B:Nat} (hB:w.heap.size≤B):OwnFrom B (Inv w A cap b (len:=len)) :=
 OwnFrom.and ((holdsRow_own w.heap.size (w.heap.size+1+1) 115 121 2 (fun pre:List (Pl len)=>(rowsOf b (pre.map (·.1))).length) (fun pre=>(rowsOf b (pre.map (·.1))).flatMap rc) (fun _ _=>True)).from B)
  (OwnFrom.and ((boxed_own _ _ _).from B) (OwnFrom.and ((boxed_own _ _ _).from B) (OwnFrom.and ((boxed_own _ _ _).from B) (OwnFrom.and ((boxed_own _ _ _).from B) (OwnFrom.and (ownFrom_below (Nat.le_refl _) hB) (fun _ _ _ _ hs _ _=>hs))))))
theorem invX_own (w:World) (b:List UInt8) {len B:Nat} (hB:w.heap.size≤B) (c:Code):OwnFrom B (InvX w b (len:=len) c) :=
 OwnFrom.and ((boxed_own _ _ _).from B) (OwnFrom.and ((boxed_own _ _ _).from B) (OwnFrom.and (ownFrom_below (Nat.le_refl _) hB) (fun _ _ _ _ hs _ _=>hs)))
theorem keeps_below {B:Nat} {W W':World} (h:Below W.heap.size W W'):KeepsFrom B W W':=⟨h.size,fun k o _ hk _=>(h.block k (Array.getElem?_eq_some_iff.1 hk).1).trans hk⟩
theorem ret_two {fn:Func} {p q:Tmp} {ty ty':TypeId} (h:fn.results=#[.cell p ty,.cell q ty']) {tmps:Array Value} {W:World} {g g':Nat} {v v':Value} (hp:tmps.getD p undef=.pointer (some ⟨g,0,none⟩)) (hq:tmps.getD q undef=.pointer (some ⟨g',0,none⟩)) (hl:(loadVar ty ⟨g,0,none⟩).run Tryz.prog W=.ok v W) (hl':(loadVar ty' ⟨g',0,none⟩).run Tryz.prog W=.ok v' W) :
  (results fn tmps).run Tryz.prog W=.ok (.tuple #[v,v']) W:=by
 have hp':tmps[p]?.getD undef=.pointer (some ⟨g,0,none⟩):=by simpa using hp
 have hq':tmps[q]?.getD undef=.pointer (some ⟨g',0,none⟩):=by simpa using hq
 simp only [results,h]
 simp [hp',hq',asAddr,hl,hl']
theorem load35 {W:World} {g:Nat} {v:Value} (h:Boxed W g 115 v):(loadVar 115 ⟨g,0,none⟩).run Tryz.prog W=.ok v W:=by
 simp [loadVar,h.cell]
theorem load25 {W:World} {g:Nat} {v:Value} (h:Boxed W g 29 v):(loadVar 29 ⟨g,0,none⟩).run Tryz.prog W=.ok v W:=by
 simp [loadVar,h.cell]
theorem wpListIn_append_run {F:Fence} {n:Nat} {P:Program} (w:World) {ops:Array Oper} {rest:List Oper} {o:Oper} {a:Act} {Q:Exit→Act→World→Prop}
  (hg:o.guard=none) (s x:Operand) (t:TypeId) (hop:o.op=Op.call { callee:=Callee.builtin Builtin.append,args:=#[s,x],argTypes:=#[t,t] }) (vs vx:Value) (hs:a.eval s=vs) (hx:a.eval x=vx)
  (v':Value) (w':World) (hrun:(Builtin.append_ #[t,t] o.type #[vs,vx]).run P w=.ok v' w') (h:wpListIn F n P ops Q rest (a.put o.dst v') w'):wpListIn F n P ops Q (o :: rest) a w:=by
 refine wpListIn_plain hg fun K hK'=>?_
 unfold Oper.wpIn
 refine ⟨?_,?_⟩
 ·simp [Oper.about,hop,resolve,Target.leads,Sem.run_pure]
 ·rw [Oper.semAt_plain F _ _ (by rw [hop];intro c hc';cases hc')]
  simp [execOp,hop,resolve,invoke,builtin,hs,hx,hrun,Result.andThen]
  exact hK' _ _ h
theorem decP_none {w w':World} {e:Ending} (h:DecP w none e w'):e=.returned (.tuple #[.agg #[.string (bs []),.int .i64 0],.int .i64 2])∧Below w.heap.size w w':=by
 obtain ⟨h1,h2⟩:=h
 refine ⟨h1.trans ?_,h2⟩
 simp [emp]
theorem decP_some {w w':World} {e:Ending} {r:Rw} (h:DecP w (some r) e w'):e=.returned (.tuple #[.agg #[.string (bs r.1),.int .i64 r.2],.int .i64 0])∧Below w.heap.size w w':=by
 obtain ⟨h1,h2⟩:=h
 refine ⟨h1.trans ?_,h2⟩
 simp
theorem Boxed.below {W W':World} {B:Nat} {t:TypeId} {v:Value} (h:Boxed W B t v) (hb:Below W.heap.size W W'):Boxed W' B t v:=(hb.block B h.lt).trans h
theorem callsR {n l:Nat} {f:FuncId} {args:Array Value} {w:World} {R:Ending→World→Prop} (h:Calls Tryz.prog f args w R):CallsIn (Fence.wide.inRound l) n Tryz.prog f args w R :=
 (callsIn_wide.2 h:CallsIn Fence.wide n Tryz.prog f args w R)
theorem callsW {n:Nat} {f:FuncId} {args:Array Value} {w:World} {R:Ending→World→Prop} (h:Calls Tryz.prog f args w R):CallsIn Fence.wide n Tryz.prog f args w R:=callsIn_wide.2 h
end Go.Proofs.YtkganhafbjgndaaGreatRR.E
namespace Go.Proofs.YtkganhafbjgndaaGreatRR.E
open Go.RowKit Go.Shelf
set_option linter.unusedVariables false
attribute [local go_sem] Oper.semAt_some
def SlotsP (w:World) (o:Option (List Rw)) (e:Ending) (w':World):Prop :=
 match o with
 | none=>e=.returned (.tuple #[.slice none 0 0,.int .i64 2])∧Below w.heap.size w w'
 | some l=>∃ v,e=.returned (.tuple #[v,.int .i64 0])∧OwnR w' w.heap.size v l∧Below w.heap.size w w'
def begun (w:World) (A:Option Addr) (len cap:Nat):World:=((((w.alloc (.cells #[.slice none 0 0] 115)).alloc (.cells #[.int .i64 0] 29)).alloc (.cells #[.slice none 0 0] 115)).alloc (.cells #[.slice A len cap] 41)).alloc (.cells #[.int .i64 32] 3)
theorem begun_inv (w:World) (A:Option Addr) (len cap:Nat) (b:List UInt8):Inv w A cap b (len:=len) [] (begun w A len cap)∧(begun w A len cap).heap.size=w.heap.size+1+1+1+1+1:=by
 have h1:=Boxed.new w 115 (.slice none 0 0)
 have h2:=Boxed.new (w.alloc (.cells #[.slice none 0 0] 115)) 29 (.int .i64 0)
 have h3:=Boxed.new ((w.alloc (.cells #[.slice none 0 0] 115)).alloc (.cells #[.int .i64 0] 29)) 115 (.slice none 0 0)
 have h4:=Boxed.new (((w.alloc (.cells #[.slice none 0 0] 115)).alloc (.cells #[.int .i64 0] 29)).alloc (.cells #[.slice none 0 0] 115)) 41 (.slice A len cap)
 have h5:=Boxed.new ((((w.alloc (.cells #[.slice none 0 0] 115)).alloc (.cells #[.int .i64 0] 29)).alloc (.cells #[.slice none 0 0] 115)).alloc (.cells #[.slice A len cap] 41)) 3 (.int .i64 32)
 simp only [World.size_alloc] at h1 h2 h3 h4 h5
 refine ⟨⟨⟨_,(h3.alloc _).alloc _,World.ownsRow_nil _ _ _ _,trivial⟩,(((h1.alloc _).alloc _).alloc _).alloc _,((h2.alloc _).alloc _).alloc _,h4.alloc _,h5,?_,rfl⟩,by simp [begun]⟩
 exact ((((box_below w _).alloc (by simp) _).alloc (by simp;omega) _).alloc (by simp;omega) _).alloc (by simp;omega) _
set_option maxRecDepth 100000 in
set_option maxHeartbeats 4000000 in
theorem slots_in {w:World} {len cap:Nat} {A:Option Addr} {b:List UInt8} (hI:Bts w w.heap.size A len cap b) (hlen:len≤140737488355328) :
  CallsIn Fence.wide 3 Tryz.prog 107 #[.slice A len cap] w (SlotsP w (slots b)):=by
 obtain ⟨o,ho⟩:∃ o,slots b=o:=⟨_,rfl⟩
 rw [ho]
 have HO:=Lib.hid ho
 clear ho
 obtain ⟨bb,off,hA⟩:∃ bb off,0<len→A=some ⟨bb,off,none⟩:=by
  by_cases h0:0<len
  ·obtain ⟨bb,off,e,_⟩:=hI.at_ h0
   exact ⟨bb,off,fun _=>e⟩
  ·exact ⟨0,0,fun h=>absurd h h0⟩
 have HA:=Lib.hid hA
 have HI:=Lib.hid hI
 have HL:=Lib.hid hI.len
 have hlim:=hI.lim
 have hcap:=hI.cap
 unfold maxLen at hlim
 have HN:Hid (nch b=nparts len):=by show _=_;unfold nch nparts;rw [HL.out]
 have hnp:nparts len≤4398046511105:=by unfold nparts;omega
 clear hI hA
 obtain ⟨b1,b2⟩:=begun_inv w A len cap b
 have B1:=Lib.hid b1
 have B2:=Lib.hid b2
 clear b1 b2
 refine callsIn_of_wp_marks Tryz.func107 rfl trivial ?_ rfl
 simp only [Tryz.ntmps107,List.size_toArray,List.length_cons,List.length_nil,Nat.reduceAdd,Nat.reduceSub,Array.replicate_succ,Array.replicate_zero,List.push_toArray,List.append_toArray,List.nil_append,List.cons_append]
 gi_wp2_with fail
 refine ⟨trivial,(chunk_in _ _ _ _ _).mono ?_⟩
 rintro e w' ⟨rfl,rfl⟩
 gi_wp2_with fail
 obtain ⟨i1,i2,i3,i4,i5,i6,i7⟩:=B1.out
 refine wpIn_rangeFunc_ownG (w:=begun w A len cap) rfl (by omega) (gf:=177) (lb:=#[.pointer (some ⟨w.heap.size+1+1+1,0,none⟩),.pointer (some ⟨w.heap.size+1+1+1+1,0,none⟩)]) rfl trivial (enters_of Tryz.func177 (by kernel_rfl) rfl)
  (chunk_stops 2 (by omega) (w.heap.size+1+1+1) (w.heap.size+1+1+1+1) w.heap.size bb off A len cap (begun w A len cap) (by rw [B2.out];omega) (by rw [B2.out];omega) HA.out hcap hlim hlen i4.cell i5.cell)
  KB.trans (KB.putObj (by rw [B2.out];omega) (by rw [B2.out];omega) (by rw [B2.out];omega)) (Below.refl _ _) (fun _=>rfl)
  (Inv w A cap b) (InvX w b) (inv_own w A cap b (by rw [B2.out];omega)) (invX_own w b (by rw [B2.out];omega)) B1.out
  (fun x=>{ tmps:=#[.slice A len cap,undef,.pointer (some ⟨w.heap.size,0,none⟩),.pointer (some ⟨w.heap.size+1,0,none⟩),.pointer (some ⟨w.heap.size+1+1,0,none⟩),.slice (some ⟨bb,off+32 * x.1,none⟩) (plen len x.1) (plen len x.1),undef,undef,undef,.slice A len cap,.func (.func 177) #[] #[.pointer (some ⟨w.heap.size+1+1+1,0,none⟩),.pointer (some ⟨w.heap.size+1+1+1+1,0,none⟩)],.slice (some ⟨bb,off+32 * x.1,none⟩) (plen len x.1) (plen len x.1),undef,undef,undef,undef,undef,undef,undef,undef,undef,undef,undef,undef,undef,undef,undef,undef,undef,undef,undef,undef,undef],defers:=[] }) ?assign ?body ?done ?stop
 case assign =>
  intro l x W K hK
  gi_wp2
  exact hK
 case body =>
  clear i1 i2 i3 i4 i5 i6 i7
  rintro l pre x W ⟨⟨v,j1,j2,_⟩,j3,j4,j5,j6,j7,j8⟩ hp
  have hx:=x.2
  have hx0:32 * x.1<len:=by unfold nparts at hx;omega
  have hA:=HA.out (by omega)
  have hB0:=HI.out.below j7
  rw [hA] at hB0
  have hB1:=hB0.sub3 (s:=32 * x.1) (m:=plen len x.1) (by unfold plen;omega)
  rw [plen_take HL.out] at hB1
  have hD:=dec_any hB1 j7.size
  have HRW:Hid (rowsOf b ((pre++[x]).map (·.1))=rowsOf b (pre.map (·.1))++[(dec (prt b x.1)).getD emp]):=by show _=_;simp [rowsOf]
  have HOK:Hid (oksOf b ((pre++[x]).map (·.1))=(oksOf b (pre.map (·.1)) && (dec (prt b x.1)).isSome)):=by show _=_;simp [oksOf]
  have hRL:(rowsOf b (pre.map (·.1))).length=pre.length:=by simp [rowsOf]
  clear hB0 hB1
  have HD:=Lib.hid hD
  clear hD hA
  obtain ⟨q,hq⟩:∃ q,dec (prt b x.1)=q:=⟨_,rfl⟩
  rw [hq] at HD HRW HOK
  clear hq
  have J1:=Lib.hid j1
  have J2:=Lib.hid j2
  have J3:=Lib.hid j3
  have J4:=Lib.hid j4
  have J5:=Lib.hid j5
  have J6:=Lib.hid j6
  have J7:=Lib.hid j7
  have J8:=Lib.hid j8
  have hpl:pre.length≤5000000000000:=by omega
  rw [← hRL] at hpl
  clear j1 j2 j3 j4 j5 j6 j7 j8 hRL
  generalize rowsOf b (pre.map (·.1))=rs at *
  have HZ:Hid (w.heap.size+1+1+1+1<W.heap.size):=J6.out.lt
  cases q with
  | none =>
   gi_wp2_with fail
   refine ⟨trivial,CallsIn.mono (callsR HD.out) ?_⟩
   intro e w2 hd
   obtain ⟨rfl,hb2⟩:=decP_none hd
   clear hd HD
   have hb3:Below W.heap.size W (w2.alloc (Obj.cells #[.string (bs []),.int .i64 0] 121)):=hb2.trans ((box_below w2 _).mono hb2.size)
   have k3:=Boxed.below J3.out hb3
   have k4:=Boxed.below J4.out hb3
   have c3:=k3.cell
   have f3:=k3.frozen
   have c4:=k4.cell
   have f4:=k4.frozen
   have K3:=Lib.hid k3
   have K4:=Lib.hid k4
   have KB3:=Lib.hid hb3
   clear hb2 hb3 k3 k4
   gi_wp2_with fail
   generalize w2.alloc (Obj.cells #[.string (bs []),.int .i64 0] 121)=Wa at *
   refine ⟨(keeps_below KB3.out).trans (((KeepsOthers.setCell _ _ _).trans (KeepsOthers.setCell _ _ _)).from _),?_,?_,?_,rfl,?_⟩
   ·exact (K3.out.set _).kept (grownBy_setCell' _ _ _) (by simp)
   ·exact (K4.out.kept (grownBy_setCell' _ _ _) (by simp)).set _
   ·exact ((J7.out.trans (KB3.out.mono J7.out.size)).setCell (p:=⟨w.heap.size,0,none⟩) (Nat.le_refl _) _).setCell (p:=⟨w.heap.size+1,0,none⟩) (by show w.heap.size≤w.heap.size+1;omega) _
   ·rw [HOK.out];simp
  | some r =>
   gi_wp2_with fail
   refine ⟨trivial,CallsIn.mono (callsR HD.out) ?_⟩
   intro e w2 hd
   obtain ⟨rfl,hb2⟩:=decP_some hd
   clear hd HD
   have hb3:Below W.heap.size W (w2.alloc (Obj.cells #[.string (bs r.1),.int .i64 r.2] 121)):=hb2.trans ((box_below w2 _).mono hb2.size)
   have k1:=Boxed.below J1.out hb3
   have k3:=Boxed.below J3.out hb3
   have k4:=Boxed.below J4.out hb3
   have k5:=Boxed.below J5.out hb3
   have k6:=Boxed.below J6.out hb3
   have ko:OwnR (w2.alloc (Obj.cells #[.string (bs r.1),.int .i64 r.2] 121)) w.heap.size v rs:=OwnR.below J2.out hb3
   have hsz:w.heap.size≤(w2.alloc (Obj.cells #[.string (bs r.1),.int .i64 r.2] 121)).heap.size:=Nat.le_trans J7.out.size hb3.size
   obtain ⟨v',w',hr,ho,hgr⟩:=appR_raw r ko hpl hsz
   obtain ⟨a1,a2,a3,a4,a5⟩:=Boxed.appended k1 (by decide) ko hsz (by omega) ho hgr
   have hlen':(rs++[r]).length=rs.length+1:=by simp
   obtain ⟨g,cp,hv'⟩:=ownsRow_succ (hlen' ▸ ho:w'.ownsRow w.heap.size 121 2 v' (rs.length+1) ((rs++[r]).flatMap rc))
   have hn1:∀ {B:Nat} {t:TypeId} {u:Value},Boxed (w2.alloc (Obj.cells #[.string (bs r.1),.int .i64 r.2] 121)) B t u→t≠121→B≠w.heap.size+1+1→Boxed (w'.setCell ⟨w.heap.size+1+1,0,none⟩ v') B t u:=fun hB ht hne=>((hB.alloc _).kept hgr (hB.not_row ht ko)).kept (grownBy_setCell' _ _ _) (by simpa using hne)
   have K3:=Lib.hid (hn1 k3 (by decide) (by omega))
   have K4:=Lib.hid (hn1 k4 (by decide) (by omega))
   have K5:=Lib.hid (hn1 k5 (by decide) (by omega))
   have K6:=Lib.hid (hn1 k6 (by decide) (by omega))
   have A2:=Lib.hid a2
   have A3:=Lib.hid a3
   have A4:=Lib.hid ((keeps_below (B:=(begun w A len cap).heap.size) hb3).trans (a4.from _))
   have A5:=Lib.hid ((hb3.mono J7.out.size).trans a5)
   have hz:(w2.alloc (Obj.cells #[.string (bs r.1),.int .i64 r.2] 121)).heap.size=w2.heap.size+1:=by simp
   rw [hz] at hr
   have HR:=Lib.hid hr
   have c1:=k1.cell
   have c1':=a1.cell
   have f1':=a1.frozen
   clear hb2 hb3 k1 k3 k4 k5 k6 ko hsz hr ho hgr a1 a2 a3 a4 a5 hlen' hn1 hz
   subst hv'
   gi_wp2_with (gi_at_builtin;refine wpListIn_append_run _ rfl _ _ 115 rfl _ _ rfl rfl _ _ HR.out ?_)
   refine ⟨A4.out,⟨A5.out,?_,?_⟩,⟨_,A2.out,?_,trivial⟩,K3.out,K4.out,K5.out,K6.out,J7.out.trans A5.out,?_⟩
   ·exact K5.out.trans J5.out.symm
   ·exact K6.out.trans J6.out.symm
   ·rw [HRW.out];exact A3.out
   ·rw [HOK.out,J8.out];rfl
 case done =>
  rintro D ys W hD hys ⟨⟨v,j1,j2,_⟩,j3,j4,j5,j6,j7,j8⟩ hK
  rw [hys] at j2 j8
  have hr:rowsOf b (List.range (nparts len))=rws b (nch b):=by rw [HN.out];rfl
  have hk:oks b (nch b)=true:=by rw [HN.out];exact j8
  rw [hr] at j2
  have hOR:OwnR W w.heap.size v (rws b (nch b)):=j2
  have hRL:(rws b (nch b)).length≤5000000000000:=by rw [rws_len,HN.out];omega
  have hDW:D<W.heap.size:=(Array.getElem?_eq_some_iff.1 hK).1
  have hD5:w.heap.size+1+1+1+1+1≤D:=by rw [B2.out] at hD;exact hD
  clear hr j8 hys i1 i2 i3 i4 i5 i6 i7 j2 j5 j6 hD
  generalize hrs:rws b (nch b)=rs at *
  have HRS:=Lib.hid hrs
  have HOK:=Lib.hid hk
  obtain ⟨A1,c1,rfl,hRws⟩:=hOR.rws
  have HNM:=Lib.hid (names_any hRws (Nat.le_refl _) hRL)
  have J1:=Lib.hid j1
  have J3:=Lib.hid j3
  have J4:=Lib.hid j4
  have J7:=Lib.hid j7
  have JO:=Lib.hid hOR
  have JK:=Lib.hid hK
  have c1':=j1.cell
  clear j1 j3 j4 j7 hOR hK hRws hrs hk
  gi_wp2_with fail
  refine ⟨trivial,CallsIn.mono (callsW HNM.out) ?_⟩
  rintro e w1 ⟨u,rfl,hu,hb1⟩
  obtain ⟨A2,c2,rfl,hS2⟩:=hu.strs
  have HSL:Hid ((srt (nms rs)).length≤5000000000000):=by show _≤_;rw [srt_len];exact Nat.le_trans (nms_len rs) hRL
  have HCM:=Lib.hid (compact_any hu HSL.out)
  have hlim2:=hS2.lim
  have hcap2:=hS2.cap
  unfold maxLen at hlim2
  have HCP:=Lib.hid (compact_srt (nms rs))
  have HB1:=Lib.hid hb1
  have HLL:=HSL.out
  clear hu hb1 hS2 HNM c1'
  generalize (srt (nms rs)).length=m at *
  gi_wp2_with fail
  refine ⟨trivial,CallsIn.mono (callsW HCM.out) ?_⟩
  rintro e w2 ⟨⟨A3,c3,rfl⟩,hb2⟩
  have hb:Below W.heap.size W w2:=HB1.out.trans hb2
  have k1:=Boxed.below J1.out hb
  have k3:=Boxed.below J3.out hb
  have k4:=Boxed.below J4.out hb
  have d1:=k1.cell
  have d3:=k3.cell
  have e3:=k3.frozen
  have d4:=k4.cell
  have e4:=k4.frozen
  have K3:=Lib.hid k3
  have K4:=Lib.hid k4
  have KO:=Lib.hid (OwnR.below JO.out hb)
  have KK:=Lib.hid ((hb.block _ hDW).trans JK.out)
  have K7:=Lib.hid (J7.out.trans (hb.mono J7.out.size))
  have hcl:(Lib.compact (srt (nms rs))).length≤9223372036854775807:=by
   have:=compactUpTo_len (d:=(srt (nms rs)).toArray) (srt (nms rs)).length
   have h2:(Lib.compact (srt (nms rs))).length≤(srt (nms rs)).length:=this
   have h3:(srt (nms rs)).length≤rs.length:=by rw [srt_len];exact nms_len rs
   omega
  clear hb hb2 k1 k3 k4 HCM HB1 JO JK J7 J1 J3 J4
  generalize (Lib.compact (srt (nms rs))).length=p at *
  by_cases hpm:p<m
  ·have hpm':(p:Int)<(m:Int):=by omega
   obtain rfl:o=none:=by rw [← HO.out];exact slots_dup (by rw [HRS.out];exact HCP.out.1 hpm)
   clear hpm
   gi_wp2_with fail
   have q3:Boxed ((w2.setCell ⟨w.heap.size,0,none⟩ (.slice none 0 0)).setCell ⟨w.heap.size+1,0,none⟩ (.int .i64 2)) w.heap.size 115 (.slice none 0 0):=(K3.out.set _).kept (grownBy_setCell' _ _ _) (by simp)
   have q4:Boxed ((w2.setCell ⟨w.heap.size,0,none⟩ (.slice none 0 0)).setCell ⟨w.heap.size+1,0,none⟩ (.int .i64 2)) (w.heap.size+1) 29 (.int .i64 2):=(K4.out.kept (grownBy_setCell' _ _ _) (by simp)).set _
   have q7:=(K7.out.setCell (p:=⟨w.heap.size,0,none⟩) (Nat.le_refl _) (.slice none 0 0)).setCell (p:=⟨w.heap.size+1,0,none⟩) (by show w.heap.size≤w.heap.size+1;omega) (.int .i64 2)
   have qK:((w2.setCell ⟨w.heap.size,0,none⟩ (.slice none 0 0)).setCell ⟨w.heap.size+1,0,none⟩ (.int .i64 2)).heap[D]?=some (Obj.deferred (some [])):=(Below.heap_setCell _ _ _ _ (by show D≠w.heap.size+1;omega)).trans ((Below.heap_setCell _ _ _ _ (by show D≠w.heap.size;omega)).trans KK.out)
   refine ⟨by simp,.inl ⟨_,_,rfl,run_takeDeferred qK,?_⟩⟩
   refine ⟨_,ret_two rfl rfl rfl (load35 (q3.kept (grownBy_putObj' _ _ _) (by simp;omega))) (load25 (q4.kept (grownBy_putObj' _ _ _) (by simp;omega))),rfl,?_⟩
   exact q7.trans (belowK_b (w:=w) (Nat.le_refl _) _ D _ _ (by omega) qK rfl rfl)
  ·have hpm':¬ (p:Int)<(m:Int):=by omega
   obtain rfl:o=some rs:=by
    rw [← HO.out,← HRS.out]
    exact slots_yes HOK.out (by rw [HRS.out];exact Classical.not_not.1 fun h=>hpm (HCP.out.2 h))
   clear hpm
   gi_wp2_with fail
   have q3:Boxed ((w2.setCell ⟨w.heap.size,0,none⟩ (.slice A1 rs.length c1)).setCell ⟨w.heap.size+1,0,none⟩ (.int .i64 0)) w.heap.size 115 (.slice A1 rs.length c1):=(K3.out.set _).kept (grownBy_setCell' _ _ _) (by simp)
   have q4:Boxed ((w2.setCell ⟨w.heap.size,0,none⟩ (.slice A1 rs.length c1)).setCell ⟨w.heap.size+1,0,none⟩ (.int .i64 0)) (w.heap.size+1) 29 (.int .i64 0):=(K4.out.kept (grownBy_setCell' _ _ _) (by simp)).set _
   have q7:=(K7.out.setCell (p:=⟨w.heap.size,0,none⟩) (Nat.le_refl _) (.slice A1 rs.length c1)).setCell (p:=⟨w.heap.size+1,0,none⟩) (by show w.heap.size≤w.heap.size+1;omega) (.int .i64 0)
   have qK:((w2.setCell ⟨w.heap.size,0,none⟩ (.slice A1 rs.length c1)).setCell ⟨w.heap.size+1,0,none⟩ (.int .i64 0)).heap[D]?=some (Obj.deferred (some [])):=(Below.heap_setCell _ _ _ _ (by show D≠w.heap.size+1;omega)).trans ((Below.heap_setCell _ _ _ _ (by show D≠w.heap.size;omega)).trans KK.out)
   have qO:OwnR ((w2.setCell ⟨w.heap.size,0,none⟩ (.slice A1 rs.length c1)).setCell ⟨w.heap.size+1,0,none⟩ (.int .i64 0)) w.heap.size (.slice A1 rs.length c1) rs:=by
    have n1:=K3.out.not_row (by decide) KO.out
    have n2:=K4.out.not_row (by decide) KO.out
    refine ownsRow_keep KO.out fun g hg=>?_
    rw [hg] at n1 n2
    exact (Below.heap_setCell _ _ _ _ (by show g≠w.heap.size+1;intro e;exact n2 (by rw [e]))).trans (Below.heap_setCell _ _ _ _ (by show g≠w.heap.size;intro e;exact n1 (by rw [e])))
   refine ⟨by simp,.inl ⟨_,_,rfl,run_takeDeferred qK,?_⟩⟩
   refine ⟨_,ret_two rfl rfl rfl (load35 (q3.kept (grownBy_putObj' _ _ _) (by simp;omega))) (load25 (q4.kept (grownBy_putObj' _ _ _) (by simp;omega))),_,rfl,?_,?_⟩
   ·exact ownsRow_putObj qO _ qK rfl
   ·exact q7.trans (belowK_b (w:=w) (Nat.le_refl _) _ D _ _ (by omega) qK rfl rfl)
 case stop =>
  rintro D c pre W hD ⟨k,hk,hp⟩ ⟨j3,j4,j7,rfl,j8⟩ hK
  have hD5:w.heap.size+1+1+1+1+1≤D:=by rw [B2.out] at hD;exact hD
  obtain rfl:o=none:=by
   rw [← HO.out]
   refine slots_oks ?_
   rw [Bool.eq_false_iff]
   intro h
   have h1:=oks_mono h (k:=k) (by rw [HN.out];exact hk)
   rw [hp] at j8
   have:oksOf b (List.range k)=true:=h1
   rw [j8] at this
   cases this
  clear i1 i2 i3 i4 i5 i6 i7 j8 hp hk
  gi_wp2_with fail
  refine ⟨by simp,.inl ⟨_,_,rfl,run_takeDeferred hK,?_⟩⟩
  refine ⟨_,ret_two rfl rfl rfl (load35 (j3.kept (grownBy_putObj' _ _ _) (by simp;omega))) (load25 (j4.kept (grownBy_putObj' _ _ _) (by simp;omega))),rfl,?_⟩
  exact j7.trans (belowK_b (w:=w) (Nat.le_refl _) _ D _ _ (by omega) hK rfl rfl)
theorem slots_any {w:World} {B n c:Nat} {A:Option Addr} {b:List UInt8} (h:Bts w B A n c b) (hB:B≤w.heap.size) (hn:n≤140737488355328):Calls Tryz.prog 107 #[.slice A n c] w (SlotsP w (slots b)) :=
 (callsIn_wide (n:=3)).1 (slots_in (h.more hB) hn)
end Go.Proofs.YtkganhafbjgndaaGreatRR.E
