/- sign, barred, ref.Name and path.Name, walked. -/
import Derived.Test.YtkganhafbjgndaaGreatRRZEa
import Derived.Lib.Strings
import Derived.Lib.SlicesCompact
import Derived.Lib.RowBridge
import Derived.Shelf.Sort.Plain
import Derived.Shelf.Slices.CompactS
import Derived.Shelf.Slices.In.SortNone
import Derived.Test.YtkganhafbjgndaaGreatRRProg
namespace Go.Proofs.YtkganhafbjgndaaGreatRR.E
open Go.RowKit
set_option linter.unusedVariables false
set_option maxRecDepth 20000
set_option maxHeartbeats 1000000 in
theorem barred_any (c:UInt8) (w:World):Calls Tryz.prog 185 #[.int .u8 (c.toNat:Int)] w fun e w'=>e=.returned (.bool (!signB c))∧w=w':=by
 have e:signB c=(decide ((97:Int)≤(c.toNat:Int)) && decide ((c.toNat:Int)≤122) || decide ((65:Int)≤(c.toNat:Int)) && decide ((c.toNat:Int)≤90) || decide ((48:Int)≤(c.toNat:Int)) && decide ((c.toNat:Int)≤57) || decide ((c.toNat:Int)=46) || decide ((c.toNat:Int)=95) || decide ((c.toNat:Int)=45)):=by
  unfold signB
  rw [Bool.eq_iff_iff]
  simp [u8le,u8eq]
 have E:=Lib.hid e
 clear e
 generalize (c.toNat:Int)=z at *
 go_enter Tryz.func185,Tryz.ntmps185
 go_wp2
 all_goals
  go_ret
  rw [E.out]
  exact ⟨retb (by rw [Bool.eq_iff_iff];simp<;>omega),rfl⟩
theorem name_short {s:ByteArray} (h:¬ 1≤s.size):nameB s.data.toList=false:=by
 rw [Lib.size_eq] at h
 generalize s.data.toList=l at *
 simp [nameB]
 omega
theorem name_long {s:ByteArray} (h:¬ s.size≤24):nameB s.data.toList=false:=by
 rw [Lib.size_eq] at h
 generalize s.data.toList=l at *
 simp [nameB]
 omega
theorem name_dot {s:ByteArray} (h:s.toList=[46]):nameB s.data.toList=false:=by
 rw [← Lib.toList_data,h]
 decide
theorem name_dots {s:ByteArray} (h:s.toList=[46,46]):nameB s.data.toList=false:=by
 rw [← Lib.toList_data,h]
 decide
theorem name_rest {s:ByteArray} (h1:1≤s.size) (h2:s.size≤24) (h3:¬ s.toList=[46]) (h4:¬ s.toList=[46,46]):nameB s.data.toList=s.data.toList.all signB:=by
 rw [Lib.size_eq] at h1 h2
 rw [Lib.toList_data] at h3 h4
 generalize s.data.toList=l at *
 simp [nameB,h1,h2,h3,h4]
theorem all_takeS {s:ByteArray} {k:Nat} (h:k<s.size):(s.data.toList.take (k+1)).all signB=((s.data.toList.take k).all signB && signB s[k]):=by
 rw [List.take_succ_eq_append_getElem (by simpa using h),List.all_append]
 simp
 rfl
theorem all_notS {s:ByteArray} {k:Nat} (h:k<s.size) (hk:signB s[k]=false):s.data.toList.all signB=false:=by
 rw [List.all_eq_false]
 refine ⟨s[k],?_,by simp [hk]⟩
 exact List.getElem_mem (by simpa using h)
theorem all_done {s:ByteArray} {k:Nat} (h:¬ k<s.size) (hk:(s.data.toList.take k).all signB=true):s.data.toList.all signB=true:=by
 rwa [List.take_of_length_le (by rw [← Lib.size_eq];omega)] at hk
def Byt (w:World) (g:Nat) (s:ByteArray):Prop:=∀ k (h:k<s.size),w.cell? ⟨g,k,none⟩=some (.int .u8 ((s[k]'h).toNat:Int))
def allB (s:ByteArray):Bool:=s.data.toList.all signB
def IndexPost (s:ByteArray) (w:World) (e:Ending) (w':World):Prop:=∃ z:Int,e=.returned (.int .i64 z)∧-1≤z∧z≤24∧(0≤z ↔ allB s=false)∧w=w'
set_option maxHeartbeats 1000000 in
theorem indexFunc_any (s:ByteArray) (g c:Nat) (w:World) (hs:s.size≤24) (hc:Byt w g s):Calls Tryz.prog 124 #[.slice (some ⟨g,0,none⟩) s.size c,.func (.func 185) #[] #[]] w (IndexPost s w):=by
 have HC:=Lib.hid hc
 clear hc
 go_enter Tryz.func124,Tryz.ntmps124
 go_wp2
 go_loop [8] (fun i=>∃ k:Nat,k≤s.size∧i=.int .i64 k∧Hid ((s.data.toList.take k).all signB=true)) (fun i=>s.size - (intOf i).toNat)
 case atStart=>exact ⟨0,Nat.zero_le _,rfl,rfl⟩
 case round =>
  obtain ⟨k,hk,rfl,HA⟩:=hrel
  by_cases hlt:k<s.size
  ·have HT:=Lib.hid (all_takeS hlt)
   have hcell:=HC.out k hlt
   by_cases hs:signB s[k]=true
   ·go_wp2_with (go_at_call 185;refine (barred_any _ _).mono ?_;rintro e w' ⟨rfl,rfl⟩)
    go_round
    case rel=>exact ⟨k+1,by omega,by go_num,show _=_ by rw [HT.out,HA.out,hs];rfl⟩
    case measure=>simp [intOf];omega
   ·have hs':signB s[k]=false:=by simpa using hs
    have HN:=Lib.hid (all_notS hlt hs')
    go_wp2_with (go_at_call 185;refine (barred_any _ _).mono ?_;rintro e w' ⟨rfl,rfl⟩)
    go_ret
    exact ⟨_,rfl,by omega,by omega,by unfold allB;rw [HN.out];simp,rfl⟩
  ·have HD:=Lib.hid (all_done hlt HA.out)
   go_wp2
   go_ret
   exact ⟨_,rfl,by omega,by omega,by unfold allB;rw [HD.out];simp,rfl⟩
set_option maxHeartbeats 1000000 in
theorem containsFunc_any (s:ByteArray) (g c:Nat) (w:World) (hs:s.size≤24) (hc:Byt w g s):Calls Tryz.prog 89 #[.slice (some ⟨g,0,none⟩) s.size c,.func (.func 185) #[] #[]] w fun e w'=>e=.returned (.bool (!allB s))∧w=w':=by
 have HC:=Lib.hid hc
 clear hc
 go_enter Tryz.func89,Tryz.ntmps89
 go_wp2_with fail
 refine (indexFunc_any s g c w hs HC.out).mono ?_
 rintro e w' ⟨z,rfl,h1,h2,h3,rfl⟩
 have H3:=Lib.hid h3
 clear h3
 go_wp2
 go_ret
 refine ⟨retb ?_,rfl⟩
 cases h:allB s<;>simp [h,H3.out]
theorem conv_run (s:ByteArray) (w:World):∃ c w1,(convert 9 41 (.string s)).run Tryz.prog w=.ok (.slice (some ⟨w.heap.size,0,none⟩) s.size c) w1∧Byt w1 w.heap.size s∧Below w.heap.size w w1:=by
 refine ⟨_,_,run_bytes_of_string w 9 41 5 s Tryz.underlying9 Tryz.underlying41 Tryz.underlying5,fun k h=>?_,((Below.refl _ w).drew).alloc (Nat.le_refl _) _⟩
 have:=World.cell?_alloc_mark w.drew (bytesRow s (grownCap w s.size 0 5)) 5 ((bytesRow s (grownCap w s.size 0 5)).size,(bytesRow s (grownCap w s.size 0 5)).size+1) k
 exact this.trans (bytesRow_at s _ k h)
set_option maxHeartbeats 1000000 in
theorem pathName_any (s:ByteArray) (w:World):Calls Tryz.prog 153 #[.string s] w fun e w'=>e=.returned (.bool (nameB s.data.toList))∧Below w.heap.size w w':=by
 by_cases h1:1≤s.size
 ·by_cases h2:s.size≤24
  ·by_cases h3:s.toList=[46]
   ·have h3':=Lib.hid h3
    go_enter Tryz.func153,Tryz.ntmps153
    go_wp2
    go_ret
    exact ⟨retb (name_dot h3'.out).symm,Below.refl _ _⟩
   by_cases h4:s.toList=[46,46]
   ·have h4':=Lib.hid h4
    go_enter Tryz.func153,Tryz.ntmps153
    go_wp2
    go_ret
    exact ⟨retb (name_dots h4'.out).symm,Below.refl _ _⟩
   have HR:=Lib.hid (name_rest h1 h2 h3 h4)
   have h3':(s.toList == [46])=false:=by simpa using h3
   have h4':(s.toList == [46,46])=false:=by simpa using h4
   go_enter Tryz.func153,Tryz.ntmps153
   obtain ⟨c,w1,hr,hby,hb⟩:=conv_run s w
   have HY:=Lib.hid hby
   have HB:=Lib.hid hb
   clear hby hb
   go_wp2_with fail
   clear hr
   refine (containsFunc_any s _ c w1 h2 HY.out).mono ?_
   rintro e w' ⟨rfl,rfl⟩
   go_wp2
   go_ret
   exact ⟨retb (by rw [HR.out];simp [allB]),HB.out⟩
  ·have h2':decide ((24:Int)<s.size)=true:=by simp;omega
   go_enter Tryz.func153,Tryz.ntmps153
   go_wp2
   go_ret
   exact ⟨retb (name_long h2).symm,Below.refl _ _⟩
 ·go_enter Tryz.func153,Tryz.ntmps153
  go_wp2
  go_ret
  exact ⟨retb (name_short h1).symm,Below.refl _ _⟩
end Go.Proofs.YtkganhafbjgndaaGreatRR.E
namespace Go.Proofs.YtkganhafbjgndaaGreatRR.E
open Go.RowKit
set_option linter.unusedVariables false
def z (k:Nat):List UInt8:=List.replicate k 0
def lit:Nat→Nat→List UInt8
 | 0,_=>[]
 | k+1,n=>lit k n++[UInt8.ofNat (n / 256 ^ k)]
theorem equal_any {w:World} {B B' n c n' c':Nat} {A A':Option Addr} {l l':List UInt8} (h:Bts w B A n c l) (h':Bts w B' A' n' c' l') :
  Calls Tryz.prog 162 #[.slice A n c,.slice A' n' c'] w fun e w'=>e=.returned (.bool (decide (l=l')))∧w=w':=by
 have h1:=fstr h w (Below.refl _ _)
 have h2:=fstr h' w (Below.refl _ _)
 have HE:=Lib.hid (bs_two l l')
 clear h h'
 go_enter Tryz.func162,Tryz.ntmps162
 go_wp2_with fail
 go_ret
 exact ⟨retb HE.out,rfl⟩
theorem pName (l:List UInt8) (w:World):Calls Tryz.prog 153 #[.string (bs l)] w fun e w'=>e=.returned (.bool (nameB l))∧Below w.heap.size w w':=pathName_any (bs l) w
theorem ent_cells (w:World) (r:Rw) (g:Nat) (hg:g=w.heap.size) (W:World) (hW:Below (w.heap.size+1) (w.alloc (.cells #[.string (bs r.1),.int .i64 r.2] 121)) W) :
  W.cell? ⟨g,0,none⟩=some (.string (bs r.1))∧W.cell? ⟨g,1,none⟩=some (.int .i64 r.2):=by
 subst hg
 rw [hW.cell (p:=⟨w.heap.size,0,none⟩) (by simp),hW.cell (p:=⟨w.heap.size,1,none⟩) (by simp)]
 exact ⟨World.cell?_alloc_mark w _ 121 (0,0) 0,World.cell?_alloc_mark w _ 121 (0,0) 1⟩
theorem sound_any (a:List UInt8) (x:Int) (w:World):Calls Tryz.prog 149 #[.agg #[.string (bs a),.int .i64 x]] w fun e w'=>e=.returned (.bool (sound (a,x)))∧Below w.heap.size w w':=by
 obtain ⟨o,ho⟩:∃ o,sound (a,x)=o:=⟨_,rfl⟩
 rw [ho]
 have HO:=Lib.hid ho
 obtain ⟨q,hq⟩:∃ q,nameB a=q:=⟨_,rfl⟩
 have HQ:=Lib.hid hq
 clear ho hq
 go_enter Tryz.func149,Tryz.ntmps149
 go_wp2_with fail
 refine (pName a _).mono ?_
 rintro e w1 ⟨rfl,hb⟩
 obtain ⟨c0,c1⟩:=ent_cells w (a,x) w.heap.size rfl w1 (hb.mono (by simp))
 have HB:Hid (Below w.heap.size w w1):=(box_below w _).trans (hb.mono (by simp))
 clear hb
 rw [HQ.out]
 dsimp only at c0 c1
 cases q with
 | false =>
  obtain rfl:o=false:=by
   rw [← HO.out]
   unfold sound
   simp [HQ.out]
  go_wp2_with fail
  go_ret
  exact ⟨rfl,HB.out⟩
 | true =>
  by_cases h1:1≤x
  ·by_cases h2:x<32
   ·obtain rfl:o=true:=by
     rw [← HO.out]
     exact sound_iff.2 ⟨HQ.out,h1,by show x≤31;omega⟩
    go_wp2_with fail
    go_ret
    exact ⟨rfl,HB.out⟩
   ·obtain rfl:o=false:=by
     rw [← HO.out,Bool.eq_false_iff]
     intro h
     have:=(sound_iff.1 h).2.2
     dsimp only at this
     omega
    have h2':decide (x<32)=false:=by simp;omega
    go_wp2_with fail
    go_ret
    exact ⟨rfl,HB.out⟩
  ·obtain rfl:o=false:=by
    rw [← HO.out,Bool.eq_false_iff]
    intro h
    have:=(sound_iff.1 h).2.1
    dsimp only at this
    omega
   have h1':decide (1≤x)=false:=by simp;omega
   go_wp2_with fail
   go_ret
   exact ⟨rfl,HB.out⟩
end Go.Proofs.YtkganhafbjgndaaGreatRR.E
namespace Go.Proofs.YtkganhafbjgndaaGreatRR.E
set_option linter.unusedVariables false
theorem compactUpTo_len {d:Array (List UInt8)}:∀ (m:Nat),(Lib.compactUpTo d m).length≤m
 | 0=>by simp [Lib.compactUpTo]
 | m+1=>by
  rw [Lib.compactUpTo_succ,List.length_append]
  have:=compactUpTo_len (d:=d) m
  split<;>simp<;>omega
theorem compactUpTo_eq {d:Array (List UInt8)}:∀ (m:Nat),(Lib.compactUpTo d m).length=m→∀ j,j<m→Lib.keeps d j=true
 | 0,_,j,hj=>by omega
 | m+1,h,j,hj=>by
  rw [Lib.compactUpTo_succ,List.length_append] at h
  have h1:=compactUpTo_len (d:=d) m
  by_cases hk:Lib.keeps d m=true
  ·rw [if_pos hk] at h
   by_cases e:j=m
   ·subst e;exact hk
   ·exact compactUpTo_eq m (by simpa using h) j (by omega)
  ·rw [if_neg hk] at h
   simp at h
   omega
theorem compact_nodup {l:List (List UInt8)} (hs:l.Pairwise (·≤·)):(Lib.compact l).length<l.length ↔ ¬ l.Nodup:=by
 have hle:=Lib.compact_length_le l
 constructor
 ·intro h hn
  have:Lib.compact l=l:=by
   refine Lib.compact_all l fun j hj=>?_
   unfold Lib.keeps
   rw [decide_eq_true_eq]
   by_cases h0:j=0
   ·exact .inl h0
   ·refine .inr ?_
    have h1:l.toArray[j]! = l[j]:=by simp [getElem!_pos,hj]
    have h2:l.toArray[j - 1]! = l[j - 1]:=by simp [getElem!_pos,show j - 1<l.length by omega]
    rw [h1,h2]
    intro e
    have hp:=List.pairwise_iff_getElem.1 hn (j - 1) j (by omega) hj (by omega)
    exact hp e.symm
  rw [this] at h
  omega
 ·intro hn
  rcases Nat.lt_or_ge (Lib.compact l).length l.length with h | h
  ·exact h
  ·exfalso
   apply hn
   have he:(Lib.compactUpTo l.toArray l.length).length=l.length:=Nat.le_antisymm hle h
   have hk:=compactUpTo_eq (d:=l.toArray) l.length he
   have hlt:l.Pairwise (· < ·):=by
    rw [List.pairwise_iff_getElem]
    have step:∀ j (h1:j+1<l.length),l[j]<l[j+1]:=by
     intro j h1
     have:=hk (j+1) h1
     unfold Lib.keeps at this
     rw [decide_eq_true_eq] at this
     have e1:l.toArray[j+1]! = l[j+1]:=by simp [getElem!_pos,h1]
     have e2:l.toArray[j+1 - 1]! = l[j]:=by simp [getElem!_pos,show j<l.length by omega]
     rw [e1,e2] at this
     have hne:l[j+1]≠l[j]:=this.resolve_left (by omega)
     have hle':l[j]≤l[j+1]:=List.pairwise_iff_getElem.1 hs j (j+1) (by omega) h1 (by omega)
     exact Std.lt_of_le_of_ne hle' fun e=>hne e.symm
    intro i j hi hj hij
    have key:∀ d,∀ (h:i+1+d<l.length),l[i]<l[i+1+d]:=by
     intro d
     induction d with
     | zero=>intro h;exact step i h
     | succ d ih=>intro h;exact List.lt_trans (ih (by omega)) (step (i+1+d) h)
    have:=key (j - i - 1) (by omega)
    simpa [show i+1+(j - i - 1)=j by omega] using this
   exact hlt.imp fun h e=>by rw [e] at h;exact List.lt_irrefl _ h
theorem compact_srt (l:List (List UInt8)):(Lib.compact (srt l)).length<(srt l).length ↔ ¬ l.Nodup:=by
 rw [compact_nodup (srt_sorted l),(srt_perm l).nodup_iff]
end Go.Proofs.YtkganhafbjgndaaGreatRR.E
namespace Go.Proofs
open Go.Shelf
def Tryz.lays190_ren:Go.Shelf.Ren:=⟨fun | 190=>117 | 125=>161 | 258=>160 | 128=>200 | 129=>201 | 302=>191 | 303=>192 | 304=>193 | 305=>194 | 306=>195 | 307=>196 | 308=>197 | 309=>198 | 310=>199 | 333=>225 | 329=>226 | 330=>227 | 334=>228 | 335=>229 | 336=>230 | 344=>245 | n=>n,fun | 31=>36 | 9=>9 | 3=>3 | 46=>196 | 0=>0 | 51=>197 | 53=>274 | 4=>4 | 183=>266 | 182=>265 | 131=>166 | 5=>5 | 218=>291 | 222=>187 | 228=>304 | 229=>305 | n=>n,fun | n=>n⟩
theorem Tryz.lays190:Go.Proofs.Lays.n190 Tryz.prog Tryz.lays190_ren:={
 mixed:=by kernel_rfl
 f125:=Tryz.func161.trans (congrArg some (by kernel_rfl))
 f128:=Tryz.func200.trans (congrArg some (by kernel_rfl))
 f129:=Tryz.func201.trans (congrArg some (by kernel_rfl))
 f190:=Tryz.func117.trans (congrArg some (by kernel_rfl))
 f258:=Tryz.func160.trans (congrArg some (by kernel_rfl))
 f302:=Tryz.func191.trans (congrArg some (by kernel_rfl))
 f303:=Tryz.func192.trans (congrArg some (by kernel_rfl))
 f304:=Tryz.func193.trans (congrArg some (by kernel_rfl))
 f305:=Tryz.func194.trans (congrArg some (by kernel_rfl))
 f306:=Tryz.func195.trans (congrArg some (by kernel_rfl))
 f307:=Tryz.func196.trans (congrArg some (by kernel_rfl))
 f308:=Tryz.func197.trans (congrArg some (by kernel_rfl))
 f309:=Tryz.func198.trans (congrArg some (by kernel_rfl))
 f310:=Tryz.func199.trans (congrArg some (by kernel_rfl))
 f329:=Tryz.func226.trans (congrArg some (by kernel_rfl))
 f330:=Tryz.func227.trans (congrArg some (by kernel_rfl))
 f333:=Tryz.func225.trans (congrArg some (by kernel_rfl))
 f334:=Tryz.func228.trans (congrArg some (by kernel_rfl))
 f335:=Tryz.func229.trans (congrArg some (by kernel_rfl))
 f336:=Tryz.func230.trans (congrArg some (by kernel_rfl))
 f344:=Tryz.func245.trans (congrArg some (by kernel_rfl))
 t0:=Tryz.underlying0
 a0:=Tryz.isAgg0
 z0:=Tryz.sizeOf0
 v0:=Tryz.zeroValue0
 t3:=Tryz.underlying3
 a3:=Tryz.isAgg3
 z3:=Tryz.sizeOf3
 v3:=Tryz.zeroValue3
 t4:=Tryz.underlying4
 a4:=Tryz.isAgg4
 z4:=Tryz.sizeOf4
 v4:=Tryz.zeroValue4
 t5:=Tryz.underlying5
 a5:=Tryz.isAgg5
 z5:=Tryz.sizeOf5
 v5:=Tryz.zeroValue5
 t9:=Tryz.underlying9
 a9:=Tryz.isAgg9
 z9:=Tryz.sizeOf9
 v9:=Tryz.zeroValue9
 t31:=Tryz.underlying36
 a31:=Tryz.isAgg36
 z31:=Tryz.sizeOf36
 v31:=Tryz.zeroValue36
 t46:=Tryz.underlying196
 a46:=Tryz.isAgg196
 z46:=Tryz.sizeOf196
 v46:=Tryz.zeroValue196
 t51:=Tryz.underlying197
 a51:=Tryz.isAgg197
 z51:=Tryz.sizeOf197
 v51:=Tryz.zeroValue197
 t53:=Tryz.underlying274
 a53:=Tryz.isAgg274
 z53:=Tryz.sizeOf274
 v53:=Tryz.zeroValue274
 t131:=Tryz.underlying166
 a131:=Tryz.isAgg166
 z131:=Tryz.sizeOf166
 v131:=Tryz.zeroValue166
 t182:=Tryz.underlying265
 a182:=Tryz.isAgg265
 z182:=Tryz.sizeOf265
 v182:=Tryz.zeroValue265
 t183:=Tryz.underlying266
 a183:=Tryz.isAgg266
 z183:=Tryz.sizeOf266
 v183:=Tryz.zeroValue266
 t218:=Tryz.underlying291
 a218:=Tryz.isAgg291
 z218:=Tryz.sizeOf291
 v218:=Tryz.zeroValue291
 t222:=Tryz.underlying187
 a222:=Tryz.isAgg187
 z222:=Tryz.sizeOf187
 v222:=Tryz.zeroValue187
 t228:=Tryz.underlying304
 a228:=Tryz.isAgg304
 z228:=Tryz.sizeOf304
 v228:=Tryz.zeroValue304
 t229:=Tryz.underlying305
 a229:=Tryz.isAgg305
 z229:=Tryz.sizeOf305
 v229:=Tryz.zeroValue305 }
open Go.Sort Go.RowKit in
theorem Tryz.slices_Sort_string (blk off cap:Nat) (ss:List (List UInt8)) (w:World) (hH:Holds encStr w blk off ss.toArray) (hblk:blk<w.heap.size) (hsz:ss.length<4611686018427387904) :
  Calls Tryz.prog 117 #[.slice (some ⟨blk,off,none⟩) ss.length cap] w fun e w' =>
   e=.returned (.tuple #[])∧∃ n os,w'=grow (putRow encStr (Sort.ahead w n) blk off (ss.mergeSort fun x y=>decide (x≤y)).toArray) os:=Any.slices_Sort_string Tryz.lays190 blk off cap ss w hH hblk hsz
def Tryz.lays194_ren:Go.Shelf.Ren:=⟨fun | 194=>148 | n=>n,fun | 31=>36 | 9=>9 | 3=>3 | 4=>4 | 0=>0 | n=>n,fun | n=>n⟩
theorem Tryz.lays194:Go.Proofs.Lays.n194 Tryz.prog Tryz.lays194_ren:={
 mixed:=by kernel_rfl
 f194:=Tryz.func148.trans (congrArg some (by kernel_rfl))
 t0:=Tryz.underlying0
 a0:=Tryz.isAgg0
 z0:=Tryz.sizeOf0
 v0:=Tryz.zeroValue0
 t3:=Tryz.underlying3
 a3:=Tryz.isAgg3
 z3:=Tryz.sizeOf3
 v3:=Tryz.zeroValue3
 t4:=Tryz.underlying4
 a4:=Tryz.isAgg4
 z4:=Tryz.sizeOf4
 v4:=Tryz.zeroValue4
 t9:=Tryz.underlying9
 a9:=Tryz.isAgg9
 z9:=Tryz.sizeOf9
 v9:=Tryz.zeroValue9
 t31:=Tryz.underlying36
 a31:=Tryz.isAgg36
 z31:=Tryz.sizeOf36
 v31:=Tryz.zeroValue36 }
open Go.RowKit Go.Lib Go.Sort in
theorem Tryz.slices_Compact_string_arr (blk off cap:Nat) (d:Array (List UInt8)) (w:World) (hH:Holds encStr w blk off d) (hsz:d.size≤9223372036854775807) (hcap:d.size≤cap) :
  Calls Tryz.prog 148 #[.slice (some ⟨blk,off,none⟩) d.size cap] w fun e w'=>e=.returned (.slice (some ⟨blk,off,none⟩) (compactUpTo d d.size).length cap)∧∃ q,w'=putRow encStr (Sort.ahead w q) blk off (compactUpTo d d.size++List.replicate (d.size - (compactUpTo d d.size).length) []).toArray:=Any.slices_Compact_string_arr Tryz.lays194 blk off cap d w hH hsz hcap
open Go.RowKit Go.Lib Go.Sort in
theorem Tryz.slices_Compact_string (blk off cap:Nat) (zs:List (List UInt8)) (w:World) (hH:Holds encStr w blk off zs.toArray) (hsz:zs.length≤9223372036854775807) (hcap:zs.length≤cap) :
  Calls Tryz.prog 148 #[.slice (some ⟨blk,off,none⟩) zs.length cap] w fun e w'=>e=.returned (.slice (some ⟨blk,off,none⟩) (Lib.compact zs).length cap)∧∃ q,w'=putRow encStr (Sort.ahead w q) blk off (Lib.compact zs++List.replicate (zs.length - (Lib.compact zs).length) []).toArray:=Any.slices_Compact_string Tryz.lays194 blk off cap zs w hH hsz hcap
open Go.RowKit Go.Lib Go.Sort in
theorem Tryz.slices_Compact_string_empty (a:Option Addr) (cap:Nat) (w:World) :
  Calls Tryz.prog 148 #[.slice a 0 cap] w fun e w'=>e=.returned (.slice a 0 cap)∧w'=w:=Any.slices_Compact_string_empty Tryz.lays194 a cap w
open Go.RowKit Go.Sort in
theorem Tryz.slices_Sort_string_none (p:Option Addr) (cap:Nat) (w:World) :
  Calls Tryz.prog 117 #[.slice p 0 cap] w fun e w'=>e=.returned (.tuple #[])∧w'=w:=Any.slices_Sort_string_none Tryz.lays190 p cap w
end Go.Proofs
