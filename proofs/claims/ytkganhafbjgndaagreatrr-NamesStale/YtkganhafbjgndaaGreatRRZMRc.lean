/- The log (redo), walked: heads, Commit, Recover; what a drive stands for. -/
import Derived.Test.YtkganhafbjgndaaGreatRRZMRa
import Derived.Test.YtkganhafbjgndaaGreatRRZMF
import Derived.Test.YtkganhafbjgndaaGreatRRZMRb
import Derived.Lib.AppendZerosOnto
import Derived.Lib.SlBytesConst
import Derived.StillTailTactics
namespace Go.Proofs.YtkganhafbjgndaaGreatRR
set_option linter.unusedVariables false
def okn (n:Int):Bool:=decide (0≤n) && decide (n<1024) && !(decide (1≤n) && decide (n<26))
theorem okn_iff {n:Int}:okn n=true ↔ 0≤n∧n<1024∧(n<1∨26≤n):=by
 unfold okn
 simp only [Bool.and_eq_true,decide_eq_true_eq,Bool.not_eq_true',Bool.and_eq_false_iff,decide_eq_false_iff_not]
 omega
def good (l:List Int):Bool:=decide (l.length≤24) && (l.all okn && decide l.Nodup)
theorem good_iff {l:List Int}:good l=true ↔ l.length≤24∧(∀ n∈l,okn n=true)∧l.Nodup:=by
 unfold good
 simp only [Bool.and_eq_true,decide_eq_true_eq,List.all_eq_true]
def hbody (l:List Int):List UInt8:=[82,69,68,79]++F.lit 4 l.length++l.flatMap fun n=>F.lit 2 n.toNat
def hpre (l:List Int):List UInt8:=hbody l++List.replicate (124 - (hbody l).length) 0
def hd (l:List Int):List UInt8:=hpre l++F.lit 4 (F.crc (hpre l))
theorem flat2_len (l:List Int):(l.flatMap fun n=>F.lit 2 n.toNat).length=2 * l.length:=by
 induction l with
 | nil=>rfl
 | cons a r ih=>rw [List.flatMap_cons,List.length_append,ih,F.lit_length,List.length_cons];omega
theorem hbody_len (l:List Int):(hbody l).length=8+2 * l.length:=by
 unfold hbody
 rw [List.length_append,List.length_append,F.lit_length,flat2_len]
 rfl
theorem hpre_len {l:List Int} (h:l.length≤24):(hpre l).length=124:=by
 unfold hpre
 rw [List.length_append,List.length_replicate,hbody_len]
 omega
theorem hd_len {l:List Int} (h:l.length≤24):(hd l).length=128:=by
 unfold hd
 rw [List.length_append,hpre_len h,F.lit_length]
def cnt (b:List UInt8):Nat:=F.big ((b.drop 4).take 4)
def num (b:List UInt8) (i:Nat):Int:=((b[8+2 * i]?.getD 0).toNat+256 * (b[8+2 * i+1]?.getD 0).toNat:Nat)
def nums (b:List UInt8) (k:Nat):List Int:=(List.range k).map (num b)
theorem nums_len (b:List UInt8) (k:Nat):(nums b k).length=k:=by simp [nums]
def HdOk (b:List UInt8):Prop:=b.length=128∧cnt b≤24∧good (nums b (cnt b))=true∧hd (nums b (cnt b))=b
instance (b:List UInt8):Decidable (HdOk b):=by unfold HdOk;infer_instance
def isHd (b:List UInt8):Option (List Int):=if HdOk b then some (nums b (cnt b)) else none
theorem isHd_some {b:List UInt8} {ns:List Int} (h:isHd b=some ns):good ns=true∧hd ns=b:=by
 unfold isHd at h
 split at h
 ·rename_i hk
  cases h
  exact ⟨hk.2.2.1,hk.2.2.2⟩
 ·cases h
theorem flat2_get:∀ {l:List Int} {i:Nat} {n:Int},l[i]?=some n→(l.flatMap fun n=>F.lit 2 n.toNat)[2 * i]?=some (UInt8.ofNat n.toNat)∧(l.flatMap fun n=>F.lit 2 n.toNat)[2 * i+1]?=some (UInt8.ofNat (n.toNat / 256)):=by
 intro l
 induction l with
 | nil=>intro i n h;simp at h
 | cons a r ih =>
  intro i n h
  rw [List.flatMap_cons]
  have ha:F.lit 2 a.toNat=[UInt8.ofNat a.toNat,UInt8.ofNat (a.toNat / 256)]:=rfl
  rw [ha]
  cases i with
  | zero =>
   simp at h
   subst h
   exact ⟨rfl,rfl⟩
  | succ i =>
   have h':r[i]?=some n:=by simpa using h
   obtain ⟨h1,h2⟩:=ih h'
   have e1:2 * (i+1)=2 * i+2:=by omega
   rw [e1]
   exact ⟨by simpa using h1,by simpa using h2⟩
theorem hd_get {l:List Int} (hl:l.length≤24) {j:Nat} (hj:j<(hbody l).length):(hd l)[j]?=(hbody l)[j]?:=by
 have:=hbody_len l
 unfold hd hpre
 rw [List.getElem?_append_left (by rw [List.length_append];omega),List.getElem?_append_left hj]
theorem hbody_get (l:List Int) (j:Nat):(hbody l)[8+j]?=(l.flatMap fun n=>F.lit 2 n.toNat)[j]?:=by
 unfold hbody
 rw [List.getElem?_append_right (by rw [List.length_append,F.lit_length];simp)]
 congr 1
 rw [List.length_append,F.lit_length]
 simp
theorem cnt_hd {l:List Int} (hl:l.length≤24):cnt (hd l)=l.length:=by
 unfold cnt
 have:(hd l).drop 4=F.lit 4 l.length++(l.flatMap (fun n=>F.lit 2 n.toNat)++List.replicate (124 - (hbody l).length) 0++F.lit 4 (F.crc (hpre l))):=by
  unfold hd
  conv=>lhs;arg 2;arg 1;unfold hpre
  conv=>lhs;arg 2;arg 1;arg 1;unfold hbody
  simp
 rw [this,List.take_left' (F.lit_length _ _),F.big_lit]
 omega
theorem num_hd {l:List Int} (hl:l.length≤24) {i:Nat} {n:Int} (hi:l[i]?=some n) (hn:0≤n∧n<65536):num (hd l) i=n:=by
 have hlt:i<l.length:=(List.getElem?_eq_some_iff.1 hi).1
 obtain ⟨h1,h2⟩:=flat2_get hi
 have hb:=hbody_len l
 unfold num
 rw [Nat.add_assoc,hd_get hl (by omega),hd_get hl (by omega),hbody_get,hbody_get,h1,h2]
 simp only [Option.getD_some,UInt8.toNat_ofNat']
 omega
theorem nums_hd {l:List Int} (h:good l=true):nums (hd l) l.length=l:=by
 obtain ⟨h1,h2,_⟩:=good_iff.1 h
 apply List.ext_getElem
 ·rw [nums_len]
 ·intro i g1 g2
  have hn:=okn_iff.1 (h2 l[i] (List.getElem_mem g2))
  simp only [nums,List.getElem_map,List.getElem_range]
  exact num_hd h1 (List.getElem?_eq_getElem g2) ⟨hn.1,by omega⟩
theorem isHd_hd {l:List Int} (h:good l=true):isHd (hd l)=some l:=by
 have h1:=(good_iff.1 h).1
 have hk:HdOk (hd l):=by
  unfold HdOk
  rw [cnt_hd h1,nums_hd h]
  exact ⟨hd_len h1,h1,h,rfl⟩
 unfold isHd
 rw [if_pos hk,cnt_hd h1,nums_hd h]
theorem good_nil:good []=true:=rfl
def withinL (N:Nat) (ns:List Int):Bool:=ns.all fun n=>decide (0≤n) && decide (n<N)
def wholeL (ws:List Wr):Bool:=ws.all fun w=>w.2.length == 128
def DS.lasts (s:DS) (N:Nat) (ws:List Wr):Int × DS:=if (s.put N ws).1=0 then (s.put N ws).2.flush else s.put N ws
def DS.head (s:DS) (N:Nat) (ns:List Int):Int × DS:=s.lasts N [(1,hd ns)]
def DS.apply (s:DS) (N:Nat) (ws:List Wr):Int × DS:=if (s.lasts N ws).1=0 then (s.lasts N ws).2.head N [] else s.lasts N ws
def DS.settle (s:DS):Int × DS:=if s.down then (11,s) else if s.now[1]?=s.lasting[1]? then (0,s) else s.flush
def DS.bodyOf (s:DS) (ns:List Int):List Wr:=ns.mapIdx fun i n=>(n,s.now[2+i]?.getD [])
def DS.finish (s:DS) (N:Nat) (ns:List Int):Int × DS:=if s.settle.1=0 then if ns=[] then s.settle else s.settle.2.apply N (s.settle.2.bodyOf ns) else s.settle
def DS.recover (s:DS) (N:Nat):Int × DS :=
 if s.down then (11,s) else match isHd (s.now[1]?.getD []) with
 | none=>(2,s)
 | some ns=>if withinL N ns then s.finish N ns else (2,s)
def inBodyL (ws:List Wr):List Wr:=ws.mapIdx fun i w=>(2+(i:Int),w.2)
def DS.log (s:DS) (N:Nat) (ws:List Wr):Int × DS :=
 if (s.lasts N (inBodyL ws)).1=0 then
  if ((s.lasts N (inBodyL ws)).2.head N (ws.map (·.1))).1=0 then ((s.lasts N (inBodyL ws)).2.head N (ws.map (·.1))).2.apply N ws
  else (s.lasts N (inBodyL ws)).2.head N (ws.map (·.1))
 else s.lasts N (inBodyL ws)
def fit (N:Nat) (ws:List Wr):Bool:=good (ws.map (·.1)) && (withinL N (ws.map (·.1)) && wholeL ws)
def DS.commit (s:DS) (N:Nat) (ws:List Wr):Int × DS :=
 if ws=[] then (0,s) else if fit N ws then if s.down then (11,s) else match isHd (s.now[1]?.getD []) with
 | none=>(2,s)
 | some _=>s.log N ws
 else (1,s)
end Go.Proofs.YtkganhafbjgndaaGreatRR
namespace Go.Proofs.YtkganhafbjgndaaGreatRR
open Go.RowKit
set_option linter.unusedVariables false
section
variable {w w':World} {M M':Nat→Prop} {A:Option Addr} {n c:Nat} {l:List Int}
theorem Ints.more (h:Ints w M A n c l) (hk:∀ b,M b→M' b):Ints w M' A n c l :=
 ⟨h.len,h.cap,h.lim,fun hn=>by
  obtain ⟨b,off,e,hb,hc⟩:=h.at_ hn
  exact ⟨b,off,e,hk b hb,hc⟩⟩
theorem Ints.cell (h:Ints w M A n c l) {k:Nat} (hk:k<n):∃ b off,A=some ⟨b,off,none⟩∧M b∧w.cell? ⟨b,off+k,none⟩=some (.int .i64 (l[k]?.getD 0)):=by
 obtain ⟨b,off,e,hb,hc⟩:=h.at_ (by omega)
 exact ⟨b,off,e,hb,hc k hk⟩
theorem Ints.head (h:Ints w M A n c l) {k:Nat} (hk:k≤n):Ints w M A k c (l.take k) :=
 ⟨by rw [List.length_take,h.len];omega,by have:=h.cap;omega,h.lim,fun h0=>by
  obtain ⟨b,off,e,hb,hc⟩:=h.at_ (by omega)
  exact ⟨b,off,e,hb,fun j hj=>by rw [hc j (by omega),List.getElem?_take,if_pos hj]⟩⟩
end
theorem get_of {α:Type} {l:List α} {k n:Nat} {d:α} (h:l.length=n) (hk:k<n):l[k]?=some (l[k]?.getD d):=by
 rw [List.getElem?_eq_getElem (by omega)];rfl
def IdxP (l:List Int) (v:Int) (x:Int):Prop:=(x = -1∧v∉l)∨(0≤x∧v∈l)
def IdxR (w:World) (l:List Int) (v:Int) (e:Ending) (w':World):Prop:=∃ x,e=.returned (.int .i64 x)∧IdxP l v x∧w=w'
theorem mem_take {l:List Int} {k:Nat} {v:Int} (hk:k<l.length):v∈l.take (k+1) ↔ v∈l.take k∨v=l[k]?.getD 0:=by
 rw [List.take_succ_eq_append_getElem hk,List.mem_append,List.mem_singleton,List.getElem?_eq_getElem hk]
 rfl
theorem index_any {w:World} {M:Nat→Prop} {A:Option Addr} {n c:Nat} {l:List Int} (v:Int) (h:Ints w M A n c l) :
  Calls Tryz.prog 74 #[.slice A n c,.int .i64 v] w (IdxR w l v):=by
 have HI:=Lib.hid h
 have HL:=Lib.hid h.len
 have hcap:=h.cap
 have hlim:=h.lim
 unfold maxLen at hlim
 clear h
 go_enter Tryz.func74,Tryz.ntmps74
 go_wp2
 go_loop [8] (fun i=>∃ k:Nat,k≤n∧i=.int .i64 k∧Hid (v∉l.take k)) (fun i=>n - (intOf i).toNat)
 case atStart=>exact ⟨0,Nat.zero_le _,rfl,by simp [Hid]⟩
 case round =>
  obtain ⟨k,hk,rfl,HN⟩:=hrel
  by_cases hlt:k<n
  ·obtain ⟨b,off,rfl,hb,hc⟩:=HI.out.cell hlt
   have hm:v∈l.take (k+1) ↔ v∈l.take k∨v=l[k]?.getD 0:=mem_take (by rw [HL.out];exact hlt)
   have HX:Hid (l[k]?=some (l[k]?.getD 0)):=get_of HL.out hlt
   have HM:=Lib.hid hm
   clear hm
   generalize l[k]?.getD 0=x at *
   by_cases hx:v=x
   ·subst hx
    go_wp2
    go_ret
    exact ⟨_,rfl,.inr ⟨by omega,List.mem_of_getElem? HX.out⟩,rfl⟩
   ·have hx':(v == x)=false:=by simpa using hx
    have HX2:=Lib.hid hx
    clear hx
    go_wp2
    go_round
    case rel=>exact ⟨k+1,by omega,by go_num,fun hmem=>by rcases HM.out.1 hmem with h | h;exact HN.out h;exact HX2.out h⟩
    case measure=>simp [intOf];omega
  ·obtain rfl:k=n:=by omega
   go_wp2
   go_ret
   refine ⟨_,rfl,.inl ⟨rfl,?_⟩,rfl⟩
   have:=HN.out
   rwa [List.take_of_length_le (by rw [HL.out];omega)] at this
theorem contains_any {w:World} {M:Nat→Prop} {A:Option Addr} {n c:Nat} {l:List Int} (v:Int) (h:Ints w M A n c l) :
  Calls Tryz.prog 33 #[.slice A n c,.int .i64 v] w fun e w'=>e=.returned (.bool (decide (v∈l)))∧w=w':=by
 have H:=Lib.hid h
 clear h
 go_enter Tryz.func33,Tryz.ntmps33
 go_wp2_with fail
 refine (index_any v H.out).mono ?_
 rintro e w1 ⟨x,rfl,hx,rfl⟩
 have HD:Hid (decide (v∈l)=decide (0≤x)):=by
  show _=_
  rcases hx with ⟨rfl,hx⟩ | ⟨h0,hx⟩
  ·simp [hx]
  ·simp [hx,h0]
 clear hx
 go_wp2_with fail
 go_ret
 exact ⟨retb HD.out.symm,rfl⟩
theorem good_upto {l:List Int} (hl:l.length≤24) (h1:l.all okn=true) (h2:l.Nodup):good l=true:=good_iff.2 ⟨hl,List.all_eq_true.1 h1,h2⟩
theorem take_nodup {l:List Int} {k:Nat} {x:Int} (h:l[k]?=some x) (h1:(l.take k).Nodup) (h2:x∉l.take k):(l.take (k+1)).Nodup:=by
 obtain ⟨hk,rfl⟩:=List.getElem?_eq_some_iff.1 h
 rw [List.take_succ_eq_append_getElem hk]
 refine List.nodup_append.2 ⟨h1,by simp,fun a ha b hb=>?_⟩
 simp only [List.mem_singleton] at hb
 subst hb
 exact fun e=>h2 (e ▸ ha)
theorem not_good_at {l:List Int} {k:Nat} {x:Int} (h:l[k]?=some x) (h2:okn x=false∨x∈l.take k):good l=false:=by
 rw [Bool.eq_false_iff]
 intro hg
 obtain ⟨_,g1,g2⟩:=good_iff.1 hg
 rcases h2 with h2 | h2
 ·rw [g1 x (List.mem_of_getElem? h)] at h2;cases h2
 ·obtain ⟨hk,rfl⟩:=List.getElem?_eq_some_iff.1 h
  rw [← List.take_append_drop (k+1) l,List.take_succ_eq_append_getElem hk] at g2
  have:=(List.nodup_append.1 (List.nodup_append.1 g2).1).2.2 _ h2 l[k] (by simp)
  exact this rfl
set_option maxHeartbeats 1000000 in
theorem allowed_any {w:World} {M:Nat→Prop} {A:Option Addr} {n c:Nat} {l:List Int} (h:Ints w M A n c l) :
  Calls Tryz.prog 78 #[.slice A n c] w fun e w'=>e=.returned (.bool (good l))∧w=w':=by
 have HI:=Lib.hid h
 have HL:=Lib.hid h.len
 have hcap:=h.cap
 have hlim:=h.lim
 unfold maxLen at hlim
 clear h
 by_cases hn:24<n
 ·have HG:Hid (good l=false):=by show _=_;rw [Bool.eq_false_iff];intro hg;have:=(good_iff.1 hg).1;have:=HL.out;omega
  have hn1:decide (24<(n:Int))=true:=by simp;omega
  go_enter Tryz.func78,Tryz.ntmps78
  go_wp2_with fail
  go_ret
  exact ⟨retb HG.out.symm,rfl⟩
 have hn1:decide (24<(n:Int))=false:=by simp;omega
 go_enter Tryz.func78,Tryz.ntmps78
 go_wp2_with fail
 go_loop [11] (fun i=>∃ k:Nat,k≤n∧i=.int .i64 k∧Hid ((l.take k).all okn=true∧(l.take k).Nodup)) (fun i=>n - (intOf i).toNat)
 case atStart=>exact ⟨0,Nat.zero_le _,rfl,by simp [Hid]⟩
 case round =>
  obtain ⟨k,hk,rfl,HN⟩:=hrel
  by_cases hlt:k<n
  ·obtain ⟨b,off,rfl,hb,hc⟩:=HI.out.cell hlt
   have HX:Hid (l[k]?=some (l[k]?.getD 0)):=get_of HL.out hlt
   have HK:=Lib.hid (HI.out.head hk)
   generalize l[k]?.getD 0=x at *
   by_cases h0:x<0
   ·have HG:=Lib.hid (not_good_at HX.out (.inl (by rw [Bool.eq_false_iff,Ne,okn_iff];omega)))
    go_wp2_with fail
    go_ret
    exact ⟨retb HG.out.symm,rfl⟩
   by_cases h1:1024≤x
   ·have HG:=Lib.hid (not_good_at HX.out (.inl (by rw [Bool.eq_false_iff,Ne,okn_iff];omega)))
    go_wp2_with fail
    go_ret
    exact ⟨retb HG.out.symm,rfl⟩
   by_cases h2:1≤x∧x<26
   ·have HG:=Lib.hid (not_good_at HX.out (.inl (by rw [Bool.eq_false_iff,Ne,okn_iff];omega)))
    obtain ⟨h2,h3⟩:=h2
    go_wp2_with fail
    go_ret
    exact ⟨retb HG.out.symm,rfl⟩
   have HO:Hid (okn x=true):=okn_iff.2 ⟨by omega,by omega,by omega⟩
   have hcase:x<1∨(¬ x<1∧¬ x<26):=by omega
   clear h2
   by_cases hm:x∈l.take k
   ·have HG:=Lib.hid (not_good_at HX.out (.inr hm))
    have HD:Hid (decide (x∈l.take k)=true):=by show _=_;simpa using hm
    clear hm
    rcases hcase with h2 | ⟨h2,h3⟩
    all_goals
     go_wp2_with fail
     refine (contains_any x HK.out).mono ?_
     rintro e w1 ⟨rfl,rfl⟩
     rw [HD.out]
     go_wp2_with fail
     go_ret
     exact ⟨retb HG.out.symm,rfl⟩
   ·have HD:Hid (decide (x∈l.take k)=false):=by show _=_;simpa using hm
    have HN2:Hid ((l.take (k+1)).all okn=true∧(l.take (k+1)).Nodup):=⟨all_take HX.out HN.out.1 HO.out,take_nodup HX.out HN.out.2 hm⟩
    clear hm
    rcases hcase with h2 | ⟨h2,h3⟩
    all_goals
     go_wp2_with fail
     refine (contains_any x HK.out).mono ?_
     rintro e w1 ⟨rfl,rfl⟩
     rw [HD.out]
     go_wp2_with fail
     go_round
     case rel=>exact ⟨k+1,by omega,by go_num,HN2⟩
     case measure=>simp [intOf];omega
  ·obtain rfl:k=n:=by omega
   have HG:Hid (good l=true):=by
    have:=HN.out
    rw [List.take_of_length_le (by rw [HL.out];omega)] at this
    exact good_upto (by rw [HL.out];omega) this.1 this.2
   go_wp2_with fail
   go_ret
   exact ⟨retb HG.out.symm,rfl⟩
end Go.Proofs.YtkganhafbjgndaaGreatRR
namespace Go.Proofs.YtkganhafbjgndaaGreatRR
open Go.RowKit
set_option linter.unusedVariables false
theorem zeroCells_one (z:Value) (n:Nat):(Builtin.zeroCells #[z] n).toList=List.replicate n z:=by
 apply List.ext_getElem
 ·simp [Builtin.zeroCells]
 ·intro i h1 h2
  simp [Builtin.zeroCells,Nat.mod_one]
theorem app_zeros {w:World} {base k:Nat} {v:Value} {l:List UInt8} (ty:TypeId) (hown:w.ownsRow base 5 1 v l.length (l.map F.bv)) (h0:0<k) (hl0:0<l.length) (hl:l.length+k≤1000000) (hbase:base≤w.heap.size) :
  ∃ v' w',(Builtin.append_ #[41,3] ty #[v,.int .i64 (k:Int)]).run Tryz.prog w=.ok v' w'∧w'.ownsRow base 5 1 v' (l++List.replicate k 0).length ((l++List.replicate k 0).map F.bv)∧w.grownBy w' v.ownBlock:=by
 obtain ⟨i0,hi,hz0,hz1,hz2⟩:=info_parts F.Tryz.info5
 have hmap:(l++List.replicate k 0).map F.bv=l.map F.bv++List.replicate k (.int .u8 0):=by simp [F.bv]
 have hlen:(l++List.replicate k (0:UInt8)).length=l.length+k:=by simp
 rw [hmap,hlen]
 have hzc:(Value.int .u8 0).cells=#[Value.int .u8 0]:=rfl
 rcases hown.2 with ⟨rfl,he⟩ | ⟨g,cap,cur,rfl,hbg,hg,hnc,hcm,hcs,htake⟩
 ·omega
 ·by_cases hroom:l.length+k≤cap
  ·have hst:=run_storeCells_at Tryz.prog g (l.length * i0.size) 5 (List.replicate k (.int .u8 0)) 0 cur w hg (by rw [hz1];simp [hcs];omega) (fun u hu=>by rw [List.eq_of_mem_replicate hu];rfl)
   simp only [Nat.add_zero] at hst
   have hw:IntKind.i64.wrap (k:Int)=k:=by rw [IntKind.wrap_i64];omega
   have hneg:¬ ((k:Int)<0):=by omega
   have h48i:¬ (281474976710656<(k:Int) * (i0.bytes:Int)):=by rw [hz2];omega
   have hns:¬ (k * i0.size=0):=by rw [hz1];omega
   have hzl:(Builtin.zeroCells (Value.int .u8 0).cells k).toList=List.replicate k (.int .u8 0):=by rw [hzc,zeroCells_one]
   have hr:(Builtin.append_ #[41,3] ty #[.slice (some ⟨g,0,none⟩) l.length cap,.int .i64 (k:Int)]).run Tryz.prog w=.ok (.slice (some ⟨g,0,none⟩) (l.length+k) cap) (w.setRow g (cur.toList.take (l.length * i0.size)++List.replicate k (Value.int .u8 0)++cur.toList.drop (l.length * i0.size+k)).toArray):=by
    simp only [List.length_replicate] at hst
    simp [Builtin.append_,run_underlying Tryz.underlying41,run_underlying Tryz.underlying3,sizeOf,typeInfo,zeroValue,hi,hz0,asInt,asIntOf,hw,hneg,hns,h48i,hroom,Addr.add_lit,hzl,hst]
   refine ⟨_,_,hr,⟨?_,.inr ⟨g,cap,_,rfl,hbg,setRow_heap w g cur _ 5 _ hg,hroom,hcm,?_,?_⟩⟩,⟨rfl,rfl,rfl,by simp,fun k _ hk=>setRow_other w g k _ (fun e=>hk (by simp [Value.ownBlock,e]))⟩⟩
   ·simp
   ·simp only [List.size_toArray,List.length_append,List.length_take,List.length_drop,Array.length_toList,List.length_replicate]
    rw [hz1]
    omega
   ·rw [hz1,htake,Nat.mul_one]
    exact List.take_left' (by simp)
  ·have holds:=hown.cells (g:=g) rfl
   have hold:=run_firstCells_some (P:=Tryz.prog) w.drew i0.size l.length ⟨g,0,none⟩ l.length cap (l.map F.bv) (by rw [hz1];simp) (fun j u hu=>holds j u hu)
   have hr:=Lib.run_append_grow_zeros (P:=Tryz.prog) w 41 3 ty 5 i0 _ .i64 .i64 Tryz.underlying41 Tryz.underlying3 hi hz0 (some ⟨g,0,none⟩) l.length cap (l.map F.bv) hold k h0 (by rw [hz1];omega) (by omega) (by omega) (by rw [hz2];omega) (growslice_fits (by omega) (by rw [hz2];omega))
   have hge:=grownCap_ge w (l.length+k) cap 5
   have hcm2:grownCap w (l.length+k) cap 5≤maxLen:=grownCap_le_maxLen w (l.length+k) cap 5 (by unfold maxLen;omega)
   refine ⟨_,_,hr,⟨by simp,.inr ⟨w.heap.size,_,_,rfl,hbase,heap_alloc_new w.drew _,hge,hcm2,?_,?_⟩⟩,⟨rfl,rfl,rfl,by simp,fun k hk _=>Below.heap_alloc w.drew _ k hk⟩⟩
   ·simp only [Array.size_append,List.size_toArray,size_zeroCells,hzc,List.length_map]
    simp
    omega
   ·simp only [Array.toList_append,hzc,zeroCells_one,Nat.mul_one]
    exact List.take_left' (by simp)
theorem redo_bts (w:World) (fr:Nat × Nat):F.Bts (w.alloc (.cells #[.int .u8 82,.int .u8 69,.int .u8 68,.int .u8 79] 5 fr)) (w.heap.size+1) (some ⟨w.heap.size,0,none⟩) 4 4 [82,69,68,79] :=
 ⟨rfl,Nat.le_refl _,by decide,(fun e=>by cases e),fun _=>⟨w.heap.size,0,rfl,by omega,fun j hj=>by
  have h1:=World.cell?_alloc_mark w #[.int .u8 82,.int .u8 69,.int .u8 68,.int .u8 79] 5 fr j
  rw [Nat.zero_add]
  refine h1.trans ?_
  match j,hj with
  | 0,_=>rfl
  | 1,_=>rfl
  | 2,_=>rfl
  | 3,_=>rfl⟩⟩
def hpart (l:List Int) (k:Nat):List UInt8:=[82,69,68,79]++F.lit 4 l.length++(l.take k).flatMap fun n=>F.lit 2 n.toNat
theorem hpart_len (l:List Int) (k:Nat):(hpart l k).length≤8+2 * l.length∧8≤(hpart l k).length:=by
 unfold hpart
 rw [List.length_append,List.length_append,F.lit_length,flat2_len,List.length_take]
 have:([82,69,68,79]:List UInt8).length=4:=rfl
 omega
theorem hpart_succ {l:List Int} {k:Nat} {x:Int} (h:l[k]?=some x):hpart l (k+1)=hpart l k++F.lit 2 x.toNat:=by
 obtain ⟨hk,rfl⟩:=List.getElem?_eq_some_iff.1 h
 unfold hpart
 rw [List.take_succ_eq_append_getElem hk,List.flatMap_append]
 simp
theorem two_bts (W:World) (m:Nat) (hm:m<65536):F.Bts (W.alloc (.cells #[.int .u8 ((m:Int) % 256),.int .u8 ((m:Int) / 256)] 5)) (W.heap.size+1) (some ⟨W.heap.size,0,none⟩) 2 2 (F.lit 2 m) :=
 ⟨rfl,Nat.le_refl _,by decide,(fun e=>by cases e),fun _=>⟨W.heap.size,0,rfl,by omega,fun j hj=>by
  have h1:=World.cell?_alloc_mark W #[.int .u8 ((m:Int) % 256),.int .u8 ((m:Int) / 256)] 5 (0,0) j
  rw [Nat.zero_add]
  refine h1.trans ?_
  have hl:F.lit 2 m=[UInt8.ofNat m,UInt8.ofNat (m / 256)]:=rfl
  rw [hl]
  match j,hj with
  | 0,_ =>
   show some (Value.int .u8 _)=some (Value.int .u8 ((UInt8.ofNat m).toNat:Int))
   rw [UInt8.toNat_ofNat'];congr 2
  | 1,_ =>
   show some (Value.int .u8 _)=some (Value.int .u8 ((UInt8.ofNat (m / 256)).toNat:Int))
   rw [UInt8.toNat_ofNat'];congr 2;omega⟩⟩
theorem head_no {w:World} {M:Nat→Prop} {A:Option Addr} {n c:Nat} {l:List Int} (h:Ints w M A n c l) (hg:good l=false) :
  Calls Tryz.prog 96 #[.slice A n c] w fun e w'=>e=.returned (.tuple #[.slice none 0 0,.int .i64 1])∧w=w':=by
 have HI:=Lib.hid h
 have HG:=Lib.hid hg
 clear h hg
 go_enter Tryz.func96,Tryz.ntmps96
 go_wp2_with fail
 refine (allowed_any HI.out).mono ?_
 rintro e w1 ⟨rfl,rfl⟩
 rw [HG.out]
 go_wp2_with fail
 go_ret2
 exact ⟨rfl,rfl⟩
set_option maxRecDepth 20000 in
set_option maxHeartbeats 1000000 in
theorem head_yes {w:World} {M:Nat→Prop} {A:Option Addr} {n c:Nat} {l:List Int} (h:Ints w M A n c l) (hM:∀ b,M b→b<w.heap.size) (hg:good l=true) :
  Calls Tryz.prog 96 #[.slice A n c] w (F.Gives2 w (hd l)):=by
 have HI:=Lib.hid h
 have HL:=Lib.hid h.len
 have HM:=Lib.hid hM
 have HG:=Lib.hid hg
 have hn24:n≤24:=by rw [← h.len];exact (good_iff.1 hg).1
 have hlim:=h.lim
 unfold maxLen at hlim
 clear h hM hg
 go_enter Tryz.func96,Tryz.ntmps96
 go_wp2_with fail
 refine (allowed_any HI.out).mono ?_
 rintro e w1 ⟨rfl,rfl⟩
 rw [HG.out]
 have hcv:=Lib.run_convert_bytes_const (P:=Tryz.prog) w 41 5 #[.int .u8 82,.int .u8 69,.int .u8 68,.int .u8 79] 4 4 Tryz.underlying41 Tryz.underlying5
 go_wp2_with fail
 clear hcv
 refine (F.num_yes _ 4 4 _ n [82,69,68,79] _ (by omega) (redo_bts w _) (by simp) (by omega)).mono ?_
 rintro e w1 ⟨v,rfl,hm0⟩
 have HM1:Hid (F.Mine w w1 v (hpart l 0)):=by
  have hp:[82,69,68,79]++F.lit 4 n=hpart l 0:=by simp [hpart,HL.out]
  rw [← hp]
  exact hm0.from_ (F.below_alloc _ _)
 clear hm0
 go_wp2_with fail
 go_loopw [4,24] (fun x i wr=>∃ k:Nat,∃ v,k≤n∧i=.int .i64 k∧x=v∧Hid (F.Mine w wr v (hpart l k))) (fun _ i _=>n - (intOf i).toNat)
 case atStart=>exact ⟨0,v,Nat.zero_le _,rfl,rfl,HM1⟩
 case round =>
  clear HM1
  obtain ⟨k,v,hk,rfl,rfl,HR⟩:=hrel
  by_cases hlt:k<n
  ·obtain ⟨b,off,rfl,hb,hc⟩:=(HI.out.keep (w':=wr) fun b hb=>HR.out.bel.block b (HM.out b hb)).cell hlt
   have HX:Hid (l[k]?=some (l[k]?.getD 0)):=get_of HL.out hlt
   generalize l[k]?.getD 0=x at *
   obtain ⟨hx0,hx1,_⟩:=okn_iff.1 ((good_iff.1 HG.out).2.1 x (List.mem_of_getElem? HX.out))
   obtain ⟨m,rfl⟩:∃ m:Nat,x=m:=⟨x.toNat,by omega⟩
   obtain ⟨hle,hge⟩:=hpart_len l k
   have hln:=HL.out
   obtain ⟨v',w',hr,ho,hgr⟩:=F.app_run 41 (HR.out.own.alloc (.cells #[.int .u8 ((m:Int) % 256),.int .u8 ((m:Int) / 256)] 5)) (two_bts wr m (by omega)) (by rw [F.lit_length];omega) (by simp;have:=HR.out.bel.size;omega)
   have HR2:=Lib.hid hr
   have HM2:Hid (F.Mine w w' v' (hpart l (k+1))):=by
    rw [hpart_succ HX.out]
    exact ⟨ho,(HR.out.bel.alloc HR.out.bel.size _).grown hgr (by simp;have:=HR.out.bel.size;omega) (fun j hj=>(HR.out.own.lt j hj).1)⟩
   clear hr ho hgr hle hge hln
   go_wp2_with (at_builtin;refine Lib.wpList_append_run _ rfl _ _ _ _ rfl _ _ rfl rfl _ _ HR2.out ?_)
   go_roundw
   case rel=>exact ⟨k+1,v',by omega,by go_num,rfl,HM2⟩
   case measure=>simp [intOf];omega
  ·obtain rfl:k=n:=by omega
   have HH:Hid (hpart l k=hbody l):=by show _=_;unfold hpart hbody;rw [List.take_of_length_le (by rw [HL.out];omega)]
   have hlen:(hbody l).length=8+2 * k:=by rw [hbody_len,HL.out]
   rw [HH.out] at HR
   obtain ⟨A1,n1,c1,rfl,hB1⟩:=HR.out.holds
   have hn1:n1=8+2 * k:=by rw [← hB1.len,hlen]
   subst hn1
   clear hB1
   obtain ⟨v',w',hr,ho,hgr⟩:=app_zeros (k:=124 - (8+2 * k)) 23 HR.out.own (by omega) (by omega) (by omega) HR.out.bel.size
   have HR2:=Lib.hid hr
   have HM2:Hid (F.Mine w w' v' (hpre l)):=by
    have:hpre l=hbody l++List.replicate (124 - (8+2 * k)) 0:=by unfold hpre;rw [hlen]
    rw [this]
    exact ⟨ho,HR.out.bel.grown hgr HR.out.bel.size (fun j hj=>(HR.out.own.lt j hj).1)⟩
   have hz0:(124:Int) - (8+2 * (k:Int))=((124 - (8+2 * k):Nat):Int):=by omega
   clear hr ho hgr
   go_wp2_with (at_builtin;refine Lib.wpList_append_run _ rfl _ _ _ _ rfl _ _ rfl rfl _ _ HR2.out ?_)
   obtain ⟨A2,n2,c2,rfl,hB2⟩:=HM2.out.holds
   have hn2:n2=124:=by rw [← hB2.len,hpre_len (by rw [HL.out];omega)]
   subst hn2
   have H2:=Lib.hid hB2
   have hcr:=F.crc_lt (hpre l)
   clear hB2
   go_wp2_with fail
   refine (F.sum_any _ _ _ _ _ _ H2.out (by omega)).mono ?_
   rintro e w3 ⟨rfl,rfl⟩
   go_wp2_with fail
   refine (F.num_yes A2 124 c2 _ (F.crc (hpre l)) (hpre l) w' hcr H2.out (Nat.le_refl _) (by omega)).mono ?_
   rintro e w3 ⟨v,rfl,hm3⟩
   have HM3:=Lib.hid (hm3.from_ HM2.out.bel)
   clear hm3
   go_wp2_with fail
   go_ret2
   exact ⟨v,rfl,HM3.out⟩
end Go.Proofs.YtkganhafbjgndaaGreatRR
namespace Go.Proofs.YtkganhafbjgndaaGreatRR
open Go.RowKit
set_option linter.unusedVariables false
def sb (l:List UInt8):ByteArray:=⟨l.toArray⟩
theorem sb_toList (l:List UInt8):(sb l).toList=l:=by
 have h:(sb l).toList=(sb l).data.toList:=ByteArray.toList_eq _
 rw [h];rfl
theorem sb_list (a b:List UInt8):((sb a).toList == (sb b).toList)=decide (a=b):=by
 rw [sb_toList,sb_toList]
 by_cases h:a=b
 ·subst h;simp
 ·simp [h]
theorem fstr {w:World} {B n c:Nat} {A:Option Addr} {l:List UInt8} (h:F.Bts w B A n c l) (W:World) (hW:Below B w W):(convert 41 9 (.slice A n c)).run Tryz.prog W=.ok (.string (sb l)) W:=h.str W fun p hp=>hW.cell hp
theorem equal_any {w:World} {B B' n c n' c':Nat} {A A':Option Addr} {l l':List UInt8} (h:F.Bts w B A n c l) (h':F.Bts w B' A' n' c' l') :
  Calls Tryz.prog 162 #[.slice A n c,.slice A' n' c'] w fun e w'=>e=.returned (.bool (decide (l=l')))∧w=w':=by
 have h1:=fstr h w (Below.refl _ _)
 have h2:=fstr h' w (Below.refl _ _)
 have HE:=Lib.hid (sb_list l l')
 clear h h'
 go_enter Tryz.func162,Tryz.ntmps162
 go_wp2_with fail
 go_ret
 exact ⟨retb HE.out,rfl⟩
def Fill (w:World) (g n:Nat) (f:Nat→Int) (k:Nat):Prop:=∃ C,w.heap[g]?=some (.cells C 3 (0,0))∧C.size=n∧∀ j,j<k→C[j]?=some (.int .i64 (f j))
def zi (n:Nat):Array Value:=madeCells #[.int .i64 0] n
theorem makeI (n:Nat) (hn:n * 8≤140737488355328) (w:World):(Instr.makeSlice 54 (.int .i64 n) (.int .i64 n)).run Tryz.prog w=.ok (.slice (some ⟨w.heap.size,0,none⟩) n n) (w.alloc (.cells (zi n) 3)):=by
 have h:(Tryz.prog.info? 3).map (fun i=>(i.zero,i.size,i.bytes))=some (some (.int .i64 0),1,8):=by kernel_rfl
 cases hq:Tryz.prog.info? 3 with
 | none=>simp [hq] at h
 | some i =>
  simp only [hq,Option.map_some,Option.some.injEq,Prod.mk.injEq] at h
  have:=run_make (P:=Tryz.prog) w 54 3 i _ Tryz.underlying54 hq h.1 .i64 .i64 n n (by omega) (by omega) (by rw [h.2.2];omega) (by omega)
  rw [this,h.2.1,Nat.mul_one]
  rfl
theorem fill_new (w:World) (n:Nat) (f:Nat→Int):Fill (w.alloc (.cells (zi n) 3)) w.heap.size n f 0 :=
 ⟨_,heap_alloc_new _ _,size_madeCells _ _,fun j hj=>absurd hj (by omega)⟩
section
variable {w w':World} {g n k:Nat} {f:Nat→Int}
theorem Fill.cell (h:Fill w g n f k) (hk:k<n):(∃ v,w.cell? ⟨g,k,none⟩=some v)∧w.frozen? ⟨g,k,none⟩=false:=by
 obtain ⟨C,hC,hs,_⟩:=h
 exact ⟨⟨_,by rw [cell_of hC,Array.getElem?_eq_getElem (by omega)]⟩,frozen_of hC k⟩
theorem Fill.step (h:Fill w g n f k) (hk:k<n) {x:Int} (hx:x=f k):Fill (w.setCell ⟨g,k,none⟩ (.int .i64 x)) g n f (k+1):=by
 obtain ⟨C,hC,hs,ha⟩:=h
 refine ⟨_,heap_setCell_at hC _,by simp [hs],fun j hj=>?_⟩
 by_cases e:j=k
 ·subst e;subst hx;simp [hs,hk]
 ·rw [Array.getElem?_setIfInBounds_ne (by omega)];exact ha j (by omega)
theorem Fill.keep (h:Fill w g n f k) (he:w'.heap[g]?=w.heap[g]?):Fill w' g n f k:=by
 obtain ⟨C,hC,r⟩:=h
 exact ⟨C,he.trans hC,r⟩
theorem Fill.lt (h:Fill w g n f k):g<w.heap.size:=by obtain ⟨C,hC,_⟩:=h;exact (Array.getElem?_eq_some_iff.1 hC).1
theorem Fill.ints (h:Fill w g n f n) (hn:n≤maxLen):Ints w (IM g) (some ⟨g,0,none⟩) n n ((List.range n).map f):=by
 obtain ⟨C,hC,hs,ha⟩:=h
 exact ⟨by simp,Nat.le_refl _,hn,fun _=>⟨g,0,rfl,rfl,fun j hj=>by rw [Nat.zero_add,cell_of hC,ha j hj];simp [hj]⟩⟩
end
def HeadsP (w:World) (o:Option (List Int)) (e:Ending) (w':World):Prop :=
 match o with
 | none=>e=.returned (.tuple #[.slice none 0 0,.int .i64 2])∧Below w.heap.size w w'
 | some ns=>∃ g,e=.returned (.tuple #[.slice (some ⟨g,0,none⟩) ns.length ns.length,.int .i64 0])∧Ints w' (IM g) (some ⟨g,0,none⟩) ns.length ns.length ns∧w.heap.size≤g∧g<w'.heap.size∧Below w.heap.size w w'
theorem or_low (x y:UInt8):bits .or .i64 (x.toNat:Int) ((y.toNat:Int) * 256)=((x.toNat+256 * y.toNat:Nat):Int):=by
 have hx:=x.toNat_lt
 have hy:=y.toNat_lt
 have e:(y.toNat:Int) * 256=((y.toNat * 256:Nat):Int):=by omega
 have o1:∀ a:Nat,a<9223372036854775808→(BitVec.ofInt 64 (a:Int)).toNat=a:=fun a ha=>by
  rw [BitVec.ofInt_natCast,BitVec.toNat_ofNat];exact Nat.mod_eq_of_lt (by omega)
 have hb:x.toNat ||| y.toNat * 256<2 ^ 63:=Nat.or_lt_two_pow (by omega) (by omega)
 have h:bits .or .i64 (x.toNat:Int) ((y.toNat * 256:Nat):Int)=((x.toNat ||| y.toNat * 256:Nat):Int):=by
  show IntKind.i64.wrap ((BitVec.ofInt 64 (x.toNat:Int) ||| BitVec.ofInt 64 ((y.toNat * 256:Nat):Int)).toNat:Int)=_
  rw [BitVec.toNat_or,o1 _ (by omega),o1 _ (by omega),IntKind.wrap_i64]
  omega
 have h2:x.toNat ||| y.toNat * 256=x.toNat+256 * y.toNat:=by
  rw [Nat.or_comm,Nat.mul_comm y.toNat 256,← Nat.two_pow_add_eq_or_of_lt (i:=8) (by omega) y.toNat]
  omega
 rw [e,h,h2]
set_option maxRecDepth 20000 in
set_option maxHeartbeats 1000000 in
theorem heads_short (A:Option Addr) (n c:Nat) (w:World) (hn:n≠128) :
  Calls Tryz.prog 118 #[.slice A n c] w fun e w'=>e=.returned (.tuple #[.slice none 0 0,.int .i64 2])∧w=w':=by
 have h1:((n:Int) != 128)=true:=by rw [bne_iff_ne];omega
 go_enter Tryz.func118,Tryz.ntmps118
 go_wp2_with fail
 go_ret2
 exact ⟨rfl,rfl⟩
set_option maxRecDepth 20000 in
set_option maxHeartbeats 2000000 in
theorem heads_128 {w:World} {B c:Nat} {A:Option Addr} {b:List UInt8} (h:F.Bts w B A 128 c b) (hB:B≤w.heap.size):Calls Tryz.prog 118 #[.slice A 128 c] w (HeadsP w (isHd b)):=by
 obtain ⟨o,ho⟩:∃ o,isHd b=o:=⟨_,rfl⟩
 rw [ho]
 have HO:=Lib.hid ho
 clear ho
 obtain ⟨bb,off,rfl,hbb,hcell⟩:=h.at_ (by omega)
 have H:=Lib.hid h
 have hcap:=h.cap
 have hlim:=h.lim
 unfold maxLen at hlim
 have HLN:=Lib.hid h.len
 have HT:=Lib.hid (h.tail (s:=4) (by omega))
 rw [if_neg (by omega)] at HT
 clear h hcell
 go_enter Tryz.func118,Tryz.ntmps118
 go_wp2_with fail
 refine (F.read_any _ _ _ B _ w HT.out hB).mono ?_
 rintro e w1 ⟨rfl,hf1,hb1⟩
 have HF1:=Lib.hid hf1
 have HB1:=Lib.hid hb1
 clear hf1 hb1
 go_wp2_with fail
 refine (F.fnum_yes w.heap.size B (b.drop 4) false w1 HF1.out (by rw [List.length_drop,HLN.out];omega)).mono ?_
 rintro e w2 ⟨rfl,hf2,hg2⟩
 have HB2:Hid (Below w.heap.size w w2):=HB1.out.grown hg2 HB1.out.size (fun j hj=>by cases hj;exact Nat.le_refl _)
 clear hf2 hg2
 have HC:Hid (F.big ((b.drop 4).take 4)=cnt b):=rfl
 rw [HC.out]
 by_cases hc24:24<cnt b
 ·obtain rfl:o=none:=by
   rw [← HO.out]
   unfold isHd
   rw [if_neg]
   intro hk
   have:=hk.2.1
   omega
  have hc1:decide (24<(cnt b:Int))=true:=by simp;omega
  go_wp2_with fail
  go_ret2
  exact ⟨rfl,HB2.out⟩
 ·have hc1:decide (24<(cnt b:Int))=false:=by simp;omega
  generalize hk:cnt b=k at *
  have HK:=Lib.hid hk
  clear hk
  have hmk:=makeI k (by omega) w2
  go_wp2_with fail
  clear hmk hc1
  have hsz2:=HB2.out.size
  go_loopw [27] (fun i wr=>∃ j:Nat,j≤k∧i=.int .i64 j∧Hid (Fill wr w2.heap.size k (num b) j)∧Hid (Below w.heap.size w wr)) (fun i _=>k - (intOf i).toNat)
  case atStart=>exact ⟨0,Nat.zero_le _,rfl,fill_new _ _ _,HB2.out.alloc hsz2 _⟩
  case round =>
   clear HB2
   obtain ⟨j,hj,rfl,HF,HB⟩:=hrel
   by_cases hlt:j<k
   ·obtain ⟨⟨v0,hv0⟩,hfr0⟩:=HF.out.cell hlt
    obtain ⟨bb1,off1,e1,hbb1,hx⟩:=(H.out.below (HB.out.mono hB)).cell (k:=8+2 * j) (by omega)
    cases e1
    obtain ⟨bb2,off2,e2,hbb2,hy⟩:=(H.out.below (HB.out.mono hB)).cell (k:=8+2 * j+1) (by omega)
    cases e2
    have HN:Hid (num b j=((b[8+2 * j]?.getD 0).toNat+256 * (b[8+2 * j+1]?.getD 0).toNat:Nat)):=rfl
    generalize b[8+2 * j]?.getD 0=x at *
    generalize b[8+2 * j+1]?.getD 0=y at *
    have hxl:=x.toNat_lt
    have hyl:=y.toNat_lt
    have hne:bb≠w2.heap.size:=by omega
    have HB0:=Lib.hid HB.out
    have HW:=Lib.hid hsz2
    generalize hG:w2.heap.size=G at *
    clear hG
    go_wp2_with fail
    have hp:8+2 * (j:Int)=((8+2 * j:Nat):Int):=by omega
    have hp1:8+2 * j+1<128:=by omega
    rw [hp]
    generalize 8+2 * j=p at *
    clear hp
    have hi0:(0:Int)≤(p:Int):=by omega
    have hi1:(p:Int)<128:=by omega
    have hi2:((p+1:Nat):Int)<128:=by omega
    have hi4:(0:Int)≤((p+1:Nat):Int):=by omega
    have hw1:IntKind.i64.wrap ((p:Int)+1)=((p+1:Nat):Int):=by rw [IntKind.wrap_i64];omega
    have hw2:IntKind.i64.wrap (x.toNat:Int)=(x.toNat:Int):=by rw [IntKind.wrap_i64];omega
    have hw3:IntKind.i64.wrap (y.toNat:Int)=(y.toNat:Int):=by rw [IntKind.wrap_i64];omega
    have hw4:IntKind.i64.wrap ((y.toNat:Int) * 256)=(y.toNat:Int) * 256:=by rw [IntKind.wrap_i64];omega
    have hj0:(0:Int)≤(j:Int):=by omega
    have hj1:(j:Int)<(k:Int):=by omega
    generalize hq:p+1=q at *
    clear hq
    go_still_tail 16,(by kernel_rfl)
    change wpList _ _ _ _ _ wr.drew
    have hv0':wr.drew.cell? ⟨G,j,none⟩=some v0:=hv0
    have hfr0':wr.drew.frozen? ⟨G,j,none⟩=false:=hfr0
    go_wp2_with fail
    refine ⟨⟨j+1,by omega,by go_num,(HF.out.step hlt (by rw [HN.out,or_low])).keep rfl,(HB.out.setCell (p:=⟨G,j,none⟩) HW.out _).drew⟩,by simp [intOf];omega⟩
   ·obtain rfl:j=k:=by omega
    have HI:Hid (Ints wr (IM w2.heap.size) (some ⟨w2.heap.size,0,none⟩) j j (nums b j)):=HF.out.ints (by unfold maxLen;omega)
    have HIM:Hid (∀ q,IM w2.heap.size q→q<wr.heap.size):=fun q hq=>by cases hq;exact HF.out.lt
    cases hg:good (nums b j) with
    | false =>
     obtain rfl:o=none:=by
      rw [← HO.out]
      unfold isHd
      rw [if_neg]
      intro hk
      have h1:=hk.2.2.1
      rw [HK.out,hg] at h1
      cases h1
     have HG:=Lib.hid hg
     clear hg
     go_wp2_with fail
     refine (head_no HI.out HG.out).mono ?_
     rintro e w3 ⟨rfl,rfl⟩
     go_wp2_with fail
     go_ret2
     exact ⟨rfl,HB.out⟩
    | true =>
     have HG:=Lib.hid hg
     clear hg
     go_wp2_with fail
     refine (head_yes HI.out HIM.out HG.out).mono ?_
     rintro e w3 ⟨v,rfl,hm⟩
     obtain ⟨A3,n3,c3,rfl,h3⟩:=hm.holds
     have H3:=Lib.hid h3
     have HB3:=Lib.hid hm.bel
     clear h3 hm
     have HB4:Hid (Below w.heap.size w w3):=HB.out.trans (HB3.out.mono HB.out.size)
     have HE:=Lib.hid (equal_any (w:=w3) ((H.out.below (HB4.out.mono hB))) H3.out)
     by_cases he:b=hd (nums b j)
     ·have HD:Hid (decide (b=hd (nums b j))=true):=by show _=_;simpa using he
      obtain rfl:o=some (nums b j):=by
       rw [← HO.out]
       unfold isHd
       have hk:HdOk b:=by
        unfold HdOk
        rw [HK.out]
        exact ⟨HLN.out,by omega,HG.out,he.symm⟩
       rw [if_pos hk,HK.out]
      clear he
      go_wp2_with fail
      refine HE.out.mono ?_
      rintro e w4 ⟨rfl,rfl⟩
      rw [HD.out]
      go_wp2_with fail
      go_ret2
      have hln:=nums_len b j
      refine ⟨w2.heap.size,?_,?_,hsz2,Nat.lt_of_lt_of_le HF.out.lt HB3.out.size,HB4.out⟩
      ·rw [hln];rfl
      ·rw [hln]
       exact HI.out.keep fun q hq=>HB3.out.block q (HIM.out q hq)
     ·have HD:Hid (decide (b=hd (nums b j))=false):=by show _=_;simpa using he
      obtain rfl:o=none:=by
       rw [← HO.out]
       unfold isHd
       rw [if_neg]
       intro hk
       have h1:=hk.2.2.2
       rw [HK.out] at h1
       exact he h1.symm
      clear he
      go_wp2_with fail
      refine HE.out.mono ?_
      rintro e w4 ⟨rfl,rfl⟩
      rw [HD.out]
      go_wp2_with fail
      go_ret2
      exact ⟨rfl,HB4.out⟩
theorem isHd_len {b:List UInt8} (h:b.length≠128):isHd b=none:=by
 unfold isHd
 rw [if_neg]
 exact fun hk=>h hk.1
theorem heads_any {w:World} {B n c:Nat} {A:Option Addr} {b:List UInt8} (h:F.Bts w B A n c b) (hB:B≤w.heap.size):Calls Tryz.prog 118 #[.slice A n c] w (HeadsP w (isHd b)):=by
 by_cases hn:n=128
 ·subst hn
  exact heads_128 h hB
 ·rw [isHd_len (by rw [h.len];exact hn)]
  refine (heads_short A n c w hn).mono ?_
  rintro e w' ⟨rfl,rfl⟩
  exact ⟨rfl,Below.refl _ _⟩
end Go.Proofs.YtkganhafbjgndaaGreatRR
namespace Go.Proofs.YtkganhafbjgndaaGreatRR
open Go.RowKit
set_option linter.unusedVariables false
def Free (w:World) (O:List Nat) (M:Nat→Prop):Prop:=∀ b,M b→b<w.heap.size∧b∉O
theorem Free.after {w w':World} {O O':List Nat} {M:Nat→Prop} (h:Free w O M) (hc:Chg O w w') (hO:∀ b∈O',b∈O∨w.heap.size≤b):Free w' O' M:=fun b hb =>
 ⟨Nat.lt_of_lt_of_le (h b hb).1 hc.size,not_after hO (h b hb).2 (h b hb).1⟩
theorem Free.keep {w w':World} {O:List Nat} {M:Nat→Prop} (h:Free w O M) (hc:Chg O w w'):∀ b,M b→w'.heap[b]?=w.heap[b]?:=fun b hb=>hc.block b (h b hb).1 (h b hb).2
theorem Free.below {w w':World} {O:List Nat} {M:Nat→Prop} (h:Free w O M) (hc:Below w.heap.size w w'):Free w' O M:=fun b hb=>⟨Nat.lt_of_lt_of_le (h b hb).1 hc.size,(h b hb).2⟩
theorem Did.mk {w w':World} {d N:Nat} {O:List Nat} {s:DS} (h:Drv w' d O N s) (hc:Chg O w w'):Did w d O N s w':=⟨O,h,hc,fun b hb=>.inl hb⟩
theorem Did.below {w w':World} {d N:Nat} {O:List Nat} {s:DS} (h:Drv w d O N s) (hb:Below w.heap.size w w'):Did w d O N s w' :=
 Did.mk (h.keep fun b hb'=>hb.block b (h.lt b hb')) (Chg.of_below hb)
theorem Did.from_ {w w1 w':World} {d N:Nat} {O:List Nat} {s:DS} (h:Did w1 d O N s w') (hb:Below w.heap.size w w1):Did w d O N s w':=by
 obtain ⟨O',h1,h2,h3⟩:=h
 exact ⟨O',h1,(Chg.of_below hb).tr h2,fun b hb'=>by rcases h3 b hb' with g | g;exact .inl g;right;have:=hb.size;omega⟩
theorem Did.then_ {w w1 w2:World} {d N:Nat} {O O1:List Nat} {s:DS} (hc:Chg O w w1) (hO:∀ b∈O1,b∈O∨w.heap.size≤b) (k:Did w1 d O1 N s w2):Did w d O N s w2:=by
 obtain ⟨O2,g1,g2,g3⟩:=k
 refine ⟨O2,g1,hc.trans g2 hO,fun b hb=>?_⟩
 rcases g3 b hb with g | g
 ·exact hO b g
 ·right;have:=hc.size;omega
theorem Drv.below {w w':World} {d N:Nat} {O:List Nat} {s:DS} (h:Drv w d O N s) (hb:Below w.heap.size w w'):Drv w' d O N s:=h.keep fun b hb'=>hb.block b (h.lt b hb')
theorem flush_since {s:DS} (h:s.flush.1=0):s.flush.2.since=[]:=by
 unfold DS.flush at h ⊢
 split
 ·rename_i hd;simp [hd] at h
 ·rename_i hd
  split
  ·rfl
  ·rename_i hp;simp [hd,hp] at h
theorem lasts_since {s:DS} {N:Nat} {ws:List Wr} (h:(s.lasts N ws).1=0):(s.lasts N ws).2.since=[]:=by
 unfold DS.lasts at h ⊢
 by_cases hp:(s.put N ws).1=0
 ·rw [if_pos hp] at h ⊢
  exact flush_since h
 ·rw [if_neg hp] at h
  exact absurd h hp
abbrev rid (w:World) (d:Nat) (O:List Nat) (N:Nat) (p:Int × DS):Ending→World→Prop:=fun e w'=>e=.returned (.int .i64 p.1)∧Did w d O N p.2 w'
set_option maxRecDepth 20000 in
set_option maxHeartbeats 1000000 in
theorem lasting_any {w:World} {d:Nat} {O:List Nat} {N:Nat} {s:DS} {M:Nat→Prop} {A:Option Addr} {n c:Nat} {ws:List Wr} (h:Drv w d O N s)
  (hW:Wrs w M A n c ws) (hM:Free w O M) (hb:(s.since.length+n) * 136≤140737488355328) :
  Calls Tryz.prog 83 #[.pointer (some ⟨d,0,none⟩),.slice A n c] w fun e w'=>e=.returned (.int .i64 (s.lasts N ws).1)∧Did w d O N (s.lasts N ws).2 w':=by
 have HP:=Lib.hid (put_any h hW hM hb)
 unfold DS.lasts
 generalize s.put N ws=p at *
 obtain ⟨x,s1⟩:=p
 clear h hW hM hb
 by_cases hx:x=0
 ·subst hx
  simp only [if_true]
  simp only at HP
  generalize hf:s1.flush=q at *
  obtain ⟨y,s2⟩:=q
  have HF:=Lib.hid hf
  clear hf
  go_enter Tryz.func83,Tryz.ntmps83
  go_wp2_with fail
  refine HP.out.mono ?_
  rintro e w1 ⟨rfl,O1,h1,h2,h3⟩
  have H1:=Lib.hid h1
  have H2:=Lib.hid h2
  have H3:=Lib.hid h3
  clear h1 h2 h3
  go_wp2_with fail
  refine (flush_any H1.out).mono ?_
  rintro e w2 ⟨rfl,hd⟩
  rw [HF.out] at hd ⊢
  have HD:=Lib.hid (Did.then_ H2.out H3.out hd)
  clear hd
  go_wp2_with fail
  go_ret
  exact ⟨rfl,HD.out⟩
 ·simp only [hx,if_false]
  have hx':(x != 0)=true:=by simpa using hx
  simp only at HP
  clear hx
  go_enter Tryz.func83,Tryz.ntmps83
  go_wp2_with fail
  refine HP.out.mono ?_
  rintro e w1 ⟨rfl,hd⟩
  have HD:=Lib.hid hd
  clear hd
  go_wp2_with fail
  go_ret
  exact ⟨rfl,HD.out⟩
theorem mine_bts {w w':World} {v:Value} {l:List UInt8} (h:F.Mine w w' v l) (h0:0<l.length):∃ g cap,v=.slice (some ⟨g,0,none⟩) l.length cap∧w.heap.size≤g∧g<w'.heap.size∧Bts w' (IM g) (some ⟨g,0,none⟩) l.length cap l:=by
 rcases h.own.2 with ⟨rfl,e⟩ | ⟨g,cap,cur,rfl,hg,hh,hn,hm,hs,ht⟩
 ·omega
 ·refine ⟨g,cap,rfl,hg,(Array.getElem?_eq_some_iff.1 hh).1,rfl,hn,hm,fun _=>⟨g,0,rfl,rfl,fun j v hj=>?_⟩⟩
  have hj':j<l.length:=by have:=(List.getElem?_eq_some_iff.1 hj).1;rwa [bc_len] at this
  rw [Nat.zero_add,cell_of hh,← Array.getElem?_toList,← hj]
  have:cur.toList[j]?=(l.map F.bv)[j]?:=by
   rw [← ht,List.getElem?_take,if_pos (by omega)]
  rw [this]
  rfl
theorem wrs_1 {w:World} {M:Nat→Prop} {A:Option Addr} {n c:Nat} {l:List UInt8} (x:Int) (hb:Bts w M A n c l) (hM:∀ b,M b→b<w.heap.size) :
  Wrs (w.alloc (.cells #[.int .i64 x,.slice A n c] 109)) (fun q=>M q∨q=w.heap.size) (some ⟨w.heap.size,0,none⟩) 1 1 [(x,l)]:=by
 have hnew:(w.alloc (.cells #[.int .i64 x,.slice A n c] 109)).heap[w.heap.size]?=some (.cells #[.int .i64 x,.slice A n c] 109 (0,0)):=heap_alloc_new _ _
 refine ⟨rfl,Nat.le_refl _,by unfold maxLen;omega,fun _=>⟨_,0,rfl,.inr rfl,fun j y hj=>?_⟩⟩
 match j,hj with
 | 0,hj =>
  simp only [List.getElem?_cons_zero,Option.some.injEq] at hj
  subst hj
  exact ⟨cell_of hnew 0,_,_,_,cell_of hnew 1,(hb.keep fun b hb'=>Below.heap_alloc _ _ _ (hM b hb')).more fun b hb'=>.inl hb'⟩
 | j+1,hj=>simp at hj
set_option maxRecDepth 20000 in
set_option maxHeartbeats 1000000 in
theorem putHead_any {w:World} {d:Nat} {O:List Nat} {N:Nat} {s:DS} {M:Nat→Prop} {A:Option Addr} {n c:Nat} {ns:List Int} (h:Drv w d O N s)
  (hI:Ints w M A n c ns) (hM:∀ b,M b→b<w.heap.size) (hg:good ns=true) (hb:s.since.length≤1000000) :
  Calls Tryz.prog 85 #[.pointer (some ⟨d,0,none⟩),.slice A n c] w fun e w'=>e=.returned (.int .i64 (s.head N ns).1)∧Did w d O N (s.head N ns).2 w':=by
 have H:=Lib.hid h
 have HH:=Lib.hid (head_yes hI hM hg)
 have hlen:=hd_len (good_iff.1 hg).1
 have HLN:=Lib.hid hlen
 have HSN:=Lib.hid hb
 clear h hI hM hg hlen hb
 go_enter Tryz.func85,Tryz.ntmps85
 go_wp2_with fail
 refine HH.out.mono ?_
 rintro e w1 ⟨v,rfl,hm⟩
 have HB1:=Lib.hid hm.bel
 obtain ⟨g,cap,rfl,hg1,hg2,hbt⟩:=mine_bts hm (by rw [HLN.out];omega)
 rw [HLN.out] at hbt ⊢
 have HBT:=Lib.hid hbt
 clear hm hbt
 go_wp2_with fail
 refine (lasting_any (O:=O) (N:=N) (s:=s) (H.out.below (HB1.out.alloc HB1.out.size _)) (wrs_1 1 HBT.out (fun b hb=>by cases hb;exact hg2)) ?_ (by have:=HSN.out;omega)).mono ?_
 ·rintro b (rfl | rfl)
  ·exact ⟨by simp;omega,fun e=>by have:=H.out.lt _ e;omega⟩
  ·exact ⟨by simp,fun e=>by have:=H.out.lt _ e;have:=HB1.out.size;omega⟩
 ·rintro e w2 ⟨rfl,hdd⟩
  have HD:Hid (Did w d O N (s.head N ns).2 w2):=Did.from_ hdd (HB1.out.alloc HB1.out.size _)
  have HE:Hid (s.lasts N [(1,hd ns)]=s.head N ns):=rfl
  rw [HE.out]
  clear hdd
  go_wp2_with fail
  go_ret
  exact ⟨rfl,HD.out⟩
set_option maxRecDepth 20000 in
set_option maxHeartbeats 1000000 in
theorem apply_any {w:World} {d:Nat} {O:List Nat} {N:Nat} {s:DS} {M:Nat→Prop} {A:Option Addr} {n c:Nat} {ws:List Wr} (h:Drv w d O N s)
  (hW:Wrs w M A n c ws) (hM:Free w O M) (hb:(s.since.length+n) * 136≤140737488355328) :
  Calls Tryz.prog 86 #[.pointer (some ⟨d,0,none⟩),.slice A n c] w fun e w'=>e=.returned (.int .i64 (s.apply N ws).1)∧Did w d O N (s.apply N ws).2 w':=by
 have HP:=Lib.hid (lasting_any h hW hM hb)
 have HZ:=Lib.hid (@lasts_since s N ws)
 unfold DS.apply
 generalize s.lasts N ws=p at *
 obtain ⟨x,s1⟩:=p
 clear h hW hM hb
 by_cases hx:x=0
 ·subst hx
  simp only [if_true]
  have HZ2:Hid (s1.since=[]):=HZ.out rfl
  simp only at HP
  generalize hf:s1.head N []=q at *
  obtain ⟨y,s2⟩:=q
  have HF:=Lib.hid hf
  clear hf HZ
  go_enter Tryz.func86,Tryz.ntmps86
  go_wp2_with fail
  refine HP.out.mono ?_
  rintro e w1 ⟨rfl,O1,h1,h2,h3⟩
  have H1:=Lib.hid h1
  have H2:=Lib.hid h2
  have H3:=Lib.hid h3
  clear h1 h2 h3
  go_wp2_with fail
  refine (putHead_any H1.out (ints_none w1 (fun _=>False)) (fun _ hf=>hf.elim) good_nil (by rw [HZ2.out];simp)).mono ?_
  rintro e w2 ⟨rfl,hd⟩
  rw [HF.out] at hd ⊢
  have HD:=Lib.hid (Did.then_ H2.out H3.out hd)
  clear hd
  go_wp2_with fail
  go_ret
  exact ⟨rfl,HD.out⟩
 ·simp only [hx,if_false]
  have hx':(x != 0)=true:=by simpa using hx
  simp only at HP
  clear hx HZ
  go_enter Tryz.func86,Tryz.ntmps86
  go_wp2_with fail
  refine HP.out.mono ?_
  rintro e w1 ⟨rfl,hd⟩
  have HD:=Lib.hid hd
  clear hd
  go_wp2_with fail
  go_ret
  exact ⟨rfl,HD.out⟩
end Go.Proofs.YtkganhafbjgndaaGreatRR
namespace Go.Proofs.YtkganhafbjgndaaGreatRR
open Go.RowKit
set_option linter.unusedVariables false
theorem blk_fbts {w:World} {b:Nat} {t:TypeId} {x:List UInt8} (h:w.heap[b]?=some (.cells (bc x).toArray t (0,0))) (hx:x.length=128):F.Bts w (b+1) (some ⟨b,0,none⟩) 128 128 x :=
 ⟨hx,Nat.le_refl _,by unfold maxLen;omega,(fun e=>by cases e),fun _=>⟨b,0,rfl,by omega,fun j hj=>by rw [Nat.zero_add,cell_of h,List.getElem?_toArray,bc_get (by omega)]⟩⟩
theorem Drv.sec {w:World} {d N:Nat} {O:List Nat} {s:DS} (h:Drv w d O N s) {k:Nat} (hk:k<N):∃ x,s.now[k]?=some x∧x.length=128:=by
 obtain ⟨bn,cn,bl,cl,vs,rfl,h⟩:=h
 have hx:=List.getElem?_eq_getElem (l:=s.now) (i:=k) (by rw [h.ok.now];exact hk)
 exact ⟨_,hx,(h.now.all k _ hx).1⟩
theorem Drv.lsec {w:World} {d N:Nat} {O:List Nat} {s:DS} (h:Drv w d O N s) {k:Nat} (hk:k<N):∃ x,s.lasting[k]?=some x∧x.length=128:=by
 obtain ⟨bn,cn,bl,cl,vs,rfl,h⟩:=h
 have hx:=List.getElem?_eq_getElem (l:=s.lasting) (i:=k) (by rw [h.ok.lasting];exact hk)
 exact ⟨_,hx,(h.las.all k _ hx).1⟩
theorem Drv.n64 {w:World} {d N:Nat} {O:List Nat} {s:DS} (h:Drv w d O N s):64≤N∧N≤1024:=by
 obtain ⟨bn,cn,bl,cl,vs,rfl,h⟩:=h
 exact ⟨h.n0,h.n1⟩
def LogP (w:World) (o:Option (List Int)):Ending→World→Prop:=HeadsP w o
set_option maxRecDepth 20000 in
theorem logged_down {w:World} {d:Nat} {O:List Nat} {N:Nat} {s:DS} (h:Drv w d O N s) (hd:s.down=true) :
  Calls Tryz.prog 81 #[.pointer (some ⟨d,0,none⟩)] w fun e w'=>e=.returned (.tuple #[.slice none 0 0,.int .i64 11])∧w=w':=by
 have HG:=Lib.hid (get_down 1 h hd)
 clear h hd
 go_enter Tryz.func81,Tryz.ntmps81
 go_wp2_with fail
 refine HG.out.mono ?_
 rintro e w1 ⟨rfl,rfl⟩
 go_wp2_with fail
 go_ret2
 exact ⟨rfl,rfl⟩
theorem HeadsP.from_ {w w1 w':World} {o:Option (List Int)} {e:Ending} (h:HeadsP w1 o e w') (hb:Below w.heap.size w w1):HeadsP w o e w':=by
 cases o with
 | none=>exact ⟨h.1,hb.trans (h.2.mono hb.size)⟩
 | some ns =>
  obtain ⟨g,h1,h2,h3,h4,h5⟩:=h
  exact ⟨g,h1,h2,Nat.le_trans hb.size h3,h4,hb.trans (h5.mono hb.size)⟩
set_option maxRecDepth 20000 in
set_option maxHeartbeats 1000000 in
theorem logged_up {w:World} {d:Nat} {O:List Nat} {N:Nat} {s:DS} (h:Drv w d O N s) (hd:s.down=false) :
  Calls Tryz.prog 81 #[.pointer (some ⟨d,0,none⟩)] w (HeadsP w (isHd (s.now[1]?.getD []))):=by
 obtain ⟨x,hx,hl⟩:=h.sec (k:=1) (by have:=h.n64;omega)
 have HG:=Lib.hid (get_ok 1 h hd hx)
 have HL:=Lib.hid hl
 rw [hx,Option.getD_some]
 obtain ⟨o,ho⟩:∃ o,isHd x=o:=⟨_,rfl⟩
 rw [ho]
 have HO:=Lib.hid ho
 clear h hd hx hl ho
 go_enter Tryz.func81,Tryz.ntmps81
 go_wp2_with fail
 refine HG.out.mono ?_
 rintro e w1 ⟨b,rfl,hb1,hb2,hb3⟩
 have HF:=Lib.hid (blk_fbts hb2 HL.out)
 have HB:=Lib.hid hb3
 have hlt:b+1≤w1.heap.size:=(Array.getElem?_eq_some_iff.1 hb2).1
 clear hb2 hb3
 go_wp2_with fail
 refine (heads_any HF.out hlt).mono ?_
 intro e w2 hp
 rw [HO.out] at hp
 cases o with
 | none =>
  obtain ⟨rfl,h2⟩:=hp
  have HB2:=Lib.hid (HB.out.trans (h2.mono HB.out.size))
  clear h2
  go_wp2_with fail
  go_ret2
  exact ⟨rfl,HB2.out⟩
 | some ns =>
  obtain ⟨g,rfl,h2,h3,h4,h5⟩:=hp
  have HB2:=Lib.hid (HB.out.trans (h5.mono HB.out.size))
  have HI:=Lib.hid h2
  have h3':=Nat.le_trans HB.out.size h3
  clear h2 h5
  go_wp2_with fail
  go_ret2
  exact ⟨g,rfl,HI.out,h3',h4,HB2.out⟩
set_option maxRecDepth 20000 in
set_option maxHeartbeats 1000000 in
theorem settle_any {w:World} {d:Nat} {O:List Nat} {N:Nat} {s:DS} (h:Drv w d O N s) :
  Calls Tryz.prog 119 #[.pointer (some ⟨d,0,none⟩)] w fun e w'=>e=.returned (.int .i64 s.settle.1)∧Did w d O N s.settle.2 w':=by
 cases hd:s.down with
 | true =>
  have HS:Hid (s.settle=(11,s)):=by show _=_;simp [DS.settle,hd]
  have HG:=Lib.hid (get_down 1 h hd)
  have H:=Lib.hid h
  rw [HS.out]
  clear h hd
  go_enter Tryz.func119,Tryz.ntmps119
  go_wp2_with fail
  refine HG.out.mono ?_
  rintro e w1 ⟨rfl,rfl⟩
  go_wp2_with fail
  go_ret
  exact ⟨rfl,Did.mk H.out (Chg.refl _ _)⟩
 | false =>
  obtain ⟨x,hx,hl⟩:=h.sec (k:=1) (by have:=h.n64;omega)
  obtain ⟨y,hy,hly⟩:=h.lsec (k:=1) (by have:=h.n64;omega)
  have HG:=Lib.hid (get_ok 1 h hd hx)
  have hn64:=h.n64
  have H:=Lib.hid h
  have HL:=Lib.hid hl
  have HLY:=Lib.hid hly
  have HY:=Lib.hid hy
  have HS:Hid (s.settle=if x=y then (0,s) else s.flush):=by
   show _=_
   unfold DS.settle
   rw [hd,hx,hy]
   simp
  generalize s.settle=q at *
  obtain ⟨z,s0⟩:=q
  clear h hd hx hl hy hly
  go_enter Tryz.func119,Tryz.ntmps119
  go_wp2_with fail
  refine HG.out.mono ?_
  rintro e w1 ⟨b,rfl,hb1,hb2,hb3⟩
  have HF:=Lib.hid (blk_fbts hb2 HL.out)
  have HB:=Lib.hid hb3
  have hlt:b+1≤w1.heap.size:=(Array.getElem?_eq_some_iff.1 hb2).1
  clear hb2 hb3
  go_wp2_with fail
  refine (image_any (H.out.below HB.out)).mono ?_
  rintro e w2 ⟨g,rfl,hg1,hg2,hg3⟩
  have HB2:=Lib.hid (HB.out.trans (hg3.mono HB.out.size))
  have HB3:=Lib.hid hg3
  obtain ⟨C,hC,hCs,hrow⟩:=hg2
  obtain ⟨bj,h1,h2,h3,h4⟩:=hrow 1 y (by omega) HY.out
  have hcell:w2.cell? ⟨g,1,none⟩=some (.slice (some ⟨bj,0,none⟩) 128 128):=by rw [cell_of hC];exact h1
  have HF2:=Lib.hid (blk_fbts h4 HLY.out)
  have HE:=Lib.hid (equal_any (w:=w2) (HF.out.below (HB3.out.mono hlt)) HF2.out)
  clear hC hCs hrow h1 h2 h3 h4 hg3
  by_cases hxy:x=y
  ·have HD:Hid (decide (x=y)=true):=by show _=_;simpa using hxy
   have hs:=HS.out
   rw [if_pos hxy] at hs
   obtain ⟨rfl,rfl⟩:z=0∧s0=s:=by simpa using hs
   clear hxy HS hs
   go_wp2_with fail
   refine HE.out.mono ?_
   rintro e w3 ⟨rfl,rfl⟩
   rw [HD.out]
   go_wp2_with fail
   go_ret
   exact ⟨rfl,Did.below H.out HB2.out⟩
  ·have HD:Hid (decide (x=y)=false):=by show _=_;simpa using hxy
   have HS2:Hid (s.flush=(z,s0)):=by
    have hs:=HS.out
    rw [if_neg hxy] at hs
    exact hs.symm
   clear hxy HS
   go_wp2_with fail
   refine HE.out.mono ?_
   rintro e w3 ⟨rfl,rfl⟩
   rw [HD.out]
   go_wp2_with fail
   refine (flush_any (H.out.below HB2.out)).mono ?_
   rintro e w3 ⟨rfl,hd⟩
   rw [HS2.out] at hd ⊢
   have HDD:=Lib.hid (Did.from_ hd HB2.out)
   clear hd
   go_wp2_with fail
   go_ret
   exact ⟨rfl,HDD.out⟩
set_option maxRecDepth 20000 in
set_option maxHeartbeats 1000000 in
theorem within_any {w:World} {d:Nat} {O:List Nat} {N:Nat} {s:DS} {M:Nat→Prop} {A:Option Addr} {n c:Nat} {l:List Int} (h:Drv w d O N s) (hI:Ints w M A n c l) :
  Calls Tryz.prog 79 #[.pointer (some ⟨d,0,none⟩),.slice A n c] w fun e w'=>e=.returned (.bool (withinL N l))∧w=w':=by
 have H:=Lib.hid h
 have HI:=Lib.hid hI
 have HL:=Lib.hid hI.len
 have hcap:=hI.cap
 have hlim:=hI.lim
 unfold maxLen at hlim
 clear h hI
 go_enter Tryz.func79,Tryz.ntmps79
 go_wp2_with fail
 go_loop [9] (fun i=>∃ k:Nat,k≤n∧i=.int .i64 k∧Hid ((l.take k).all (fun n=>decide (0≤n) && decide (n<(N:Int)))=true)) (fun i=>n - (intOf i).toNat)
 case atStart=>exact ⟨0,Nat.zero_le _,rfl,by simp [Hid]⟩
 case round =>
  obtain ⟨k,hk,rfl,HN⟩:=hrel
  by_cases hlt:k<n
  ·obtain ⟨b,off,rfl,hb,hc⟩:=HI.out.cell hlt
   have HX:Hid (l[k]?=some (l[k]?.getD 0)):=get_of HL.out hlt
   generalize l[k]?.getD 0=x at *
   by_cases h0:x<0
   ·have HG:Hid (withinL N l=false):=all_not HX.out (by simp;omega)
    go_wp2_with fail
    go_ret
    exact ⟨retb HG.out.symm,rfl⟩
   by_cases h1:x<(N:Int)
   ·have HN2:=Lib.hid (all_take HX.out HN.out (by simp;omega))
    go_wp2_with fail
    refine (sectorsD H.out).mono ?_
    rintro e w1 ⟨rfl,rfl⟩
    go_wp2_with fail
    go_round
    case rel=>exact ⟨k+1,by omega,by go_num,HN2⟩
    case measure=>simp [intOf];omega
   ·have HG:Hid (withinL N l=false):=all_not HX.out (by simp;omega)
    go_wp2_with fail
    refine (sectorsD H.out).mono ?_
    rintro e w1 ⟨rfl,rfl⟩
    go_wp2_with fail
    go_ret
    exact ⟨retb HG.out.symm,rfl⟩
  ·obtain rfl:k=n:=by omega
   have HG:Hid (withinL N l=true):=by
    have:=HN.out
    rw [List.take_of_length_le (by rw [HL.out];omega)] at this
    exact this
   go_wp2_with fail
   go_ret
   exact ⟨retb HG.out.symm,rfl⟩
set_option maxRecDepth 20000 in
set_option maxHeartbeats 1000000 in
theorem whole_any {w:World} {M:Nat→Prop} {A:Option Addr} {n c:Nat} {ws:List Wr} (hW:Wrs w M A n c ws) (hM:∀ b,M b→b<w.heap.size) :
  Calls Tryz.prog 80 #[.slice A n c] w fun e w'=>e=.returned (.bool (wholeL ws))∧Below w.heap.size w w':=by
 have HW:=Lib.hid hW
 have HM:=Lib.hid hM
 have hlim:=hW.lim
 have hcap:=hW.cap
 unfold maxLen at hlim
 clear hW hM
 go_enter Tryz.func80,Tryz.ntmps80
 go_wp2_with fail
 go_loopw [7] (fun i wr=>∃ k:Nat,k≤n∧i=.int .i64 k∧Hid ((ws.take k).all (fun x=>x.2.length == 128)=true)∧Hid (Below w.heap.size w wr)) (fun i _=>n - (intOf i).toNat)
 case atStart=>exact ⟨0,Nat.zero_le _,rfl,by simp [Hid],Below.refl _ _⟩
 case round =>
  obtain ⟨k,hk,rfl,HA,HB⟩:=hrel
  by_cases hlt:k<n
  ·obtain ⟨x,hx⟩:∃ x,ws[k]?=some x:=⟨_,List.getElem?_eq_getElem (by rw [HW.out.len];exact hlt)⟩
   obtain ⟨b,off,rfl,hb,hc0,A',n',c',hc1,hB⟩:=(HW.out.keep (w':=wr) fun b hb=>HB.out.block b (HM.out b hb)).get hx
   have HX:=Lib.hid hx
   have hl2:x.2.length=n':=hB.len
   have hsw:=HB.out.size
   by_cases h128:n'=128
   ·have HA2:=Lib.hid (all_take HX.out HA.out (by simp [hl2,h128]))
    subst h128
    clear hx hB hl2
    obtain ⟨y,l⟩:=x
    simp only at hc0
    go_wp2_with fail
    go_roundw
    case rel=>exact ⟨k+1,by omega,by go_num,HA2,HB.out.alloc (by omega) _⟩
    case measure=>simp [intOf];omega
   ·have HF:Hid (wholeL ws=false):=all_not HX.out (by simp [hl2,h128])
    have g1:((n':Int) != 128)=true:=by rw [bne_iff_ne];omega
    clear hx hB hl2
    obtain ⟨y,l⟩:=x
    simp only at hc0
    go_wp2_with fail
    go_ret
    exact ⟨retb HF.out.symm,HB.out.alloc (by omega) _⟩
  ·obtain rfl:k=n:=by omega
   have HF:Hid (wholeL ws=true):=by
    have:=HA.out
    rw [List.take_of_length_le (by rw [HW.out.len];omega)] at this
    exact this
   go_wp2_with fail
   go_ret
   exact ⟨retb HF.out.symm,HB.out⟩
end Go.Proofs.YtkganhafbjgndaaGreatRR
namespace Go.Proofs.YtkganhafbjgndaaGreatRR
open Go.RowKit
set_option linter.unusedVariables false
theorem map_range {ws:List Wr} {n:Nat} (h:ws.length=n):(List.range n).map (fun j=>(ws[j]?.getD (0,[])).1)=ws.map (·.1):=by
 subst h
 apply List.ext_getElem
 ·simp
 ·intro i h1 h2
  have:i<ws.length:=by simpa using h1
  simp [this]
def OwnI (w:World) (n:Nat) (l:List Int) (e:Ending) (w':World):Prop :=
 ∃ g,e=.returned (.slice (some ⟨g,0,none⟩) n n)∧Ints w' (IM g) (some ⟨g,0,none⟩) n n l∧w.heap.size≤g∧g<w'.heap.size∧Below w.heap.size w w'
set_option maxRecDepth 20000 in
set_option maxHeartbeats 1000000 in
theorem places_any {w:World} {M:Nat→Prop} {A:Option Addr} {n c:Nat} {ws:List Wr} (hW:Wrs w M A n c ws) (hM:∀ b,M b→b<w.heap.size) (hn:n * 8≤140737488355328) :
  Calls Tryz.prog 77 #[.slice A n c] w (OwnI w n (ws.map (·.1))):=by
 have HW:=Lib.hid hW
 have HM:=Lib.hid hM
 have hlim:=hW.lim
 have hcap:=hW.cap
 unfold maxLen at hlim
 have HR:=Lib.hid (map_range hW.len)
 clear hW hM
 have hmk:=makeI n hn w
 go_enter Tryz.func77,Tryz.ntmps77
 go_wp2_with fail
 clear hmk
 go_loopw [11] (fun i wr=>∃ k:Nat,k≤n∧i=.int .i64 k∧Hid (Fill wr w.heap.size n (fun j=>(ws[j]?.getD (0,[])).1) k)∧Hid (Below w.heap.size w wr)) (fun i _=>n - (intOf i).toNat)
 case atStart=>exact ⟨0,Nat.zero_le _,rfl,fill_new _ _ _,(Below.refl _ _).alloc (Nat.le_refl _) _⟩
 case round =>
  obtain ⟨k,hk,rfl,HF,HB⟩:=hrel
  by_cases hlt:k<n
  ·obtain ⟨x,hx⟩:∃ x,ws[k]?=some x:=⟨_,List.getElem?_eq_getElem (by rw [HW.out.len];exact hlt)⟩
   obtain ⟨b,off,rfl,hb,hc0,A',n',c',hc1,hB⟩:=(HW.out.keep (w':=wr) fun b hb=>HB.out.block b (HM.out b hb)).get hx
   have HX:=Lib.hid hx
   obtain ⟨⟨v0,hv0⟩,hfr0⟩:=HF.out.cell hlt
   have hgl:=HF.out.lt
   have hsw:=HB.out.size
   obtain ⟨y,l⟩:=x
   simp only at hc0 hB
   clear hx hB
   generalize hG:w.heap.size=G at *
   have HG:=Lib.hid hG
   clear hG
   have hne:wr.heap.size≠G:=by omega
   go_wp2_with fail
   go_roundw
   case rel =>
    have hz:(wr.setCell ⟨G,k,none⟩ (.int .i64 y)).heap.size=wr.heap.size:=by simp
    refine ⟨k+1,by omega,by go_num,(HF.out.step hlt (by rw [HX.out];rfl)).keep (Below.heap_alloc _ _ _ (by rw [hz];exact hgl)),(HB.out.setCell (p:=⟨G,k,none⟩) (Nat.le_refl _) _).alloc (by rw [hz];exact hsw) _⟩
   case measure=>simp [intOf];omega
  ·obtain rfl:k=n:=by omega
   go_wp2_with fail
   go_ret
   refine ⟨_,rfl,?_,Nat.le_refl _,HF.out.lt,HB.out⟩
   rw [← HR.out]
   exact HF.out.ints (by unfold maxLen;omega)
def FillW (w:World) (g n:Nat) (M:Nat→Prop) (ws:List Wr) (k:Nat):Prop :=
 ∃ C,w.heap[g]?=some (.cells C 109 (0,0))∧C.size=n * 2∧∀ j x,j<k→ws[j]?=some x→C[j * 2]?=some (.int .i64 x.1)∧∃ A' n' c',C[j * 2+1]?=some (.slice A' n' c')∧Bts w M A' n' c' x.2
def zw (n:Nat):Array Value:=madeCells #[.int .i64 0,.slice none 0 0] (n * 2)
theorem makeW (n:Nat) (hn:n * 32≤140737488355328) (w:World):(Instr.makeSlice 78 (.int .i64 n) (.int .i64 n)).run Tryz.prog w=.ok (.slice (some ⟨w.heap.size,0,none⟩) n n) (w.alloc (.cells (zw n) 109)):=by
 have h:(Tryz.prog.info? 109).map (fun i=>(i.zero,i.size,i.bytes))=some (some (.agg #[.int .i64 0,.slice none 0 0]),2,32):=by kernel_rfl
 cases hq:Tryz.prog.info? 109 with
 | none=>simp [hq] at h
 | some i =>
  simp only [hq,Option.map_some,Option.some.injEq,Prod.mk.injEq] at h
  have:=run_make (P:=Tryz.prog) w 78 109 i _ Tryz.underlying78 hq h.1 .i64 .i64 n n (by omega) (by omega) (by rw [h.2.2];omega) (by omega)
  rw [this,h.2.1]
  rfl
theorem fillW_new (w:World) (n:Nat) (M:Nat→Prop) (ws:List Wr):FillW (w.alloc (.cells (zw n) 109)) w.heap.size n M ws 0 :=
 ⟨_,heap_alloc_new _ _,size_madeCells _ _,fun j x hj=>absurd hj (by omega)⟩
section
variable {w w':World} {g n k:Nat} {M M':Nat→Prop} {ws:List Wr}
theorem FillW.cell (h:FillW w g n M ws k) (hk:k<n):(∃ v,w.cell? ⟨g,k * 2,none⟩=some v)∧(∃ v,w.cell? ⟨g,k * 2+1,none⟩=some v)∧w.frozen? ⟨g,k * 2,none⟩=false∧w.frozen? ⟨g,k * 2+1,none⟩=false:=by
 obtain ⟨C,hC,hs,_⟩:=h
 exact ⟨⟨_,by rw [cell_of hC,Array.getElem?_eq_getElem (by omega)]⟩,⟨_,by rw [cell_of hC,Array.getElem?_eq_getElem (by omega)]⟩,frozen_of hC _,frozen_of hC _⟩
theorem FillW.lt (h:FillW w g n M ws k):g<w.heap.size:=by obtain ⟨C,hC,_⟩:=h;exact (Array.getElem?_eq_some_iff.1 hC).1
theorem FillW.keep (h:FillW w g n M ws k) (he:w'.heap[g]?=w.heap[g]?) (hk:∀ b,M b→w'.heap[b]?=w.heap[b]?):FillW w' g n M ws k:=by
 obtain ⟨C,hC,hs,ha⟩:=h
 refine ⟨C,he.trans hC,hs,fun j x hj hx=>?_⟩
 obtain ⟨h1,A',n',c',h2,h3⟩:=ha j x hj hx
 exact ⟨h1,A',n',c',h2,h3.keep hk⟩
theorem FillW.more (h:FillW w g n M ws k) (hk:∀ b,M b→M' b):FillW w g n M' ws k:=by
 obtain ⟨C,hC,hs,ha⟩:=h
 refine ⟨C,hC,hs,fun j x hj hx=>?_⟩
 obtain ⟨h1,A',n',c',h2,h3⟩:=ha j x hj hx
 exact ⟨h1,A',n',c',h2,h3.more hk⟩
theorem FillW.step (h:FillW w g n M ws k) (hk:k<n) {x:Wr} (hx:ws[k]?=some x) {A':Option Addr} {n' c':Nat} (hb:Bts w M A' n' c' x.2) (hg:¬ M g) {z:Int} (hz:z=x.1) :
  FillW ((w.setCell ⟨g,k * 2,none⟩ (.int .i64 z)).setCell ⟨g,k * 2+1,none⟩ (.slice A' n' c')) g n M ws (k+1):=by
 obtain ⟨C,hC,hs,ha⟩:=h
 have hkeep:∀ b,M b→((w.setCell ⟨g,k * 2,none⟩ (.int .i64 z)).setCell ⟨g,k * 2+1,none⟩ (.slice A' n' c')).heap[b]?=w.heap[b]?:=fun b hb=>by
  have hne:b≠g:=fun e=>hg (e ▸ hb)
  rw [Below.heap_setCell _ _ _ _ hne,Below.heap_setCell _ _ _ _ hne]
 refine ⟨_,heap_setCell_at (heap_setCell_at hC _) _,by simp [hs],fun j y hj hy=>?_⟩
 by_cases e:j=k
 ·subst e
  rw [hx] at hy
  cases hy
  subst hz
  refine ⟨?_,A',n',c',?_,hb.keep hkeep⟩
  ·rw [Array.getElem?_setIfInBounds_ne (by omega),Array.getElem?_setIfInBounds_self_of_lt (by omega)]
  ·rw [Array.getElem?_setIfInBounds_self_of_lt (by simp;omega)]
 ·obtain ⟨h1,A2,n2,c2,h2,h3⟩:=ha j y (by omega) hy
  refine ⟨?_,A2,n2,c2,?_,h3.keep hkeep⟩
  ·rw [Array.getElem?_setIfInBounds_ne (by omega),Array.getElem?_setIfInBounds_ne (by omega)];exact h1
  ·rw [Array.getElem?_setIfInBounds_ne (by omega),Array.getElem?_setIfInBounds_ne (by omega)];exact h2
theorem FillW.wrs (h:FillW w g n M ws n) (hl:ws.length=n) (hn:n≤maxLen):Wrs w (fun q=>M q∨q=g) (some ⟨g,0,none⟩) n n ws:=by
 obtain ⟨C,hC,hs,ha⟩:=h
 refine ⟨hl,Nat.le_refl _,hn,fun _=>⟨g,0,rfl,.inr rfl,fun j x hj=>?_⟩⟩
 have hlt:j<n:=by rw [← hl];exact (List.getElem?_eq_some_iff.1 hj).1
 obtain ⟨h1,A',n',c',h2,h3⟩:=ha j x hlt hj
 exact ⟨by rw [Nat.zero_add,cell_of hC];exact h1,A',n',c',by rw [Nat.zero_add,cell_of hC];exact h2,h3.more fun b hb=>.inl hb⟩
end
def OwnW (w:World) (M:Nat→Prop) (n:Nat) (ws:List Wr) (e:Ending) (w':World):Prop :=
 ∃ g,e=.returned (.slice (some ⟨g,0,none⟩) n n)∧Wrs w' (fun q=>M q∨q=g) (some ⟨g,0,none⟩) n n ws∧w.heap.size≤g∧g<w'.heap.size∧Below w.heap.size w w'
theorem inBody_get {ws:List Wr} {k:Nat} {x:Wr} (h:ws[k]?=some x):(inBodyL ws)[k]?=some (2+(k:Int),x.2):=by
 unfold inBodyL
 rw [List.getElem?_mapIdx,h]
 rfl
set_option maxRecDepth 20000 in
set_option maxHeartbeats 1000000 in
theorem inBody_any {w:World} {M:Nat→Prop} {A:Option Addr} {n c:Nat} {ws:List Wr} (hW:Wrs w M A n c ws) (hM:∀ b,M b→b<w.heap.size) (hn:n≤24) :
  Calls Tryz.prog 84 #[.slice A n c] w (OwnW w M n (inBodyL ws)):=by
 have HW:=Lib.hid hW
 have HM:=Lib.hid hM
 have hlim:=hW.lim
 have hcap:=hW.cap
 unfold maxLen at hlim
 clear hW hM
 have hmk:=makeW n (by omega) w
 go_enter Tryz.func84,Tryz.ntmps84
 go_wp2_with fail
 clear hmk
 go_loopw [11] (fun i wr=>∃ k:Nat,k≤n∧i=.int .i64 k∧Hid (FillW wr w.heap.size n M (inBodyL ws) k)∧Hid (Below w.heap.size w wr)) (fun i _=>n - (intOf i).toNat)
 case atStart=>exact ⟨0,Nat.zero_le _,rfl,fillW_new _ _ _ _,(Below.refl _ _).alloc (Nat.le_refl _) _⟩
 case round =>
  obtain ⟨k,hk,rfl,HF,HB⟩:=hrel
  by_cases hlt:k<n
  ·obtain ⟨x,hx⟩:∃ x,ws[k]?=some x:=⟨_,List.getElem?_eq_getElem (by rw [HW.out.len];exact hlt)⟩
   obtain ⟨b,off,rfl,hb,hc0,A',n',c',hc1,hB⟩:=(HW.out.keep (w':=wr) fun b hb=>HB.out.block b (HM.out b hb)).get hx
   have HX:=Lib.hid (inBody_get hx)
   have HBT:=Lib.hid hB
   obtain ⟨⟨v0,hv0⟩,⟨v1,hv1⟩,hfr0,hfr1⟩:=HF.out.cell hlt
   have hgl:=HF.out.lt
   have hsw:=HB.out.size
   have HNM:Hid (¬ M w.heap.size):=fun hm=>by have:=HM.out _ hm;omega
   obtain ⟨y,l⟩:=x
   simp only at hc0 hB
   clear hx hB
   generalize hG:w.heap.size=G at *
   have HG:=Lib.hid hG
   clear hG
   have hne:wr.heap.size≠G:=by omega
   go_wp2_with fail
   go_roundw
   case rel =>
    have hz:((wr.setCell ⟨G,k * 2,none⟩ (.int .i64 (2+(k:Int)))).setCell ⟨G,k * 2+1,none⟩ (.slice A' n' c')).heap.size=wr.heap.size:=by simp
    refine ⟨k+1,by omega,by go_num,(HF.out.step hlt HX.out HBT.out HNM.out rfl).keep (Below.heap_alloc _ _ _ (by rw [hz];exact hgl)) (fun b hb=>Below.heap_alloc _ _ _ (by rw [hz];have:=HM.out b hb;omega)),((HB.out.setCell (p:=⟨G,k * 2,none⟩) (Nat.le_refl _) _).setCell (p:=⟨G,k * 2+1,none⟩) (Nat.le_refl _) _).alloc (by rw [hz];exact hsw) _⟩
   case measure=>simp [intOf];omega
  ·obtain rfl:k=n:=by omega
   go_wp2_with fail
   go_ret
   exact ⟨_,rfl,HF.out.wrs (by simp [inBodyL,HW.out.len]) (by unfold maxLen;omega),Nat.le_refl _,HF.out.lt,HB.out⟩
theorem bodyOf_get {s:DS} {ns:List Int} {k:Nat} {x:Int} (h:ns[k]?=some x):(s.bodyOf ns)[k]?=some (x,s.now[2+k]?.getD []):=by
 unfold DS.bodyOf
 rw [List.getElem?_mapIdx,h]
 rfl
theorem bodyOf_len (s:DS) (ns:List Int):(s.bodyOf ns).length=ns.length:=by simp [DS.bodyOf]
def MD (a b:Nat):Nat→Prop:=fun q=>a<q∧q<b
def FromP (w:World) (n:Nat) (ws:List Wr) (e:Ending) (w':World):Prop :=
 ∃ g,e=.returned (.tuple #[.slice (some ⟨g,0,none⟩) n n,.int .i64 0])∧Wrs w' (fun q=>w.heap.size≤q∧q<w'.heap.size) (some ⟨g,0,none⟩) n n ws∧Below w.heap.size w w'
set_option maxRecDepth 20000 in
set_option maxHeartbeats 1000000 in
theorem fromBody_any {w:World} {d:Nat} {O:List Nat} {N:Nat} {s:DS} {M:Nat→Prop} {A:Option Addr} {n c:Nat} {ns:List Int} (h:Drv w d O N s) (hd:s.down=false) (hI:Ints w M A n c ns) (hM:∀ b,M b→b<w.heap.size) (hn:n≤24) :
  Calls Tryz.prog 120 #[.pointer (some ⟨d,0,none⟩),.slice A n c] w (FromP w n (s.bodyOf ns)):=by
 have H:=Lib.hid h
 have HDN:=Lib.hid hd
 have HI:=Lib.hid hI
 have HL:=Lib.hid hI.len
 have HM:=Lib.hid hM
 have hlim:=hI.lim
 have hcap:=hI.cap
 unfold maxLen at hlim
 clear h hd hI hM
 have hmk:=makeW n (by omega) w
 go_enter Tryz.func120,Tryz.ntmps120
 go_wp2_with fail
 clear hmk
 go_loopw [16] (fun i wr=>∃ k:Nat,k≤n∧i=.int .i64 k∧Hid (FillW wr w.heap.size n (MD w.heap.size wr.heap.size) (s.bodyOf ns) k)∧Hid (Below w.heap.size w wr)) (fun i _=>n - (intOf i).toNat)
 case atStart=>exact ⟨0,Nat.zero_le _,rfl,fillW_new _ _ _ _,(Below.refl _ _).alloc (Nat.le_refl _) _⟩
 case round =>
  obtain ⟨k,hk,rfl,HF,HB⟩:=hrel
  by_cases hlt:k<n
  ·obtain ⟨b,off,rfl,hb,hc⟩:=(HI.out.keep (w':=wr) fun b hb=>HB.out.block b (HM.out b hb)).cell hlt
   have HX0:Hid (ns[k]?=some (ns[k]?.getD 0)):=get_of HL.out hlt
   generalize ns[k]?.getD 0=x at *
   obtain ⟨y,hy,hyl⟩:=H.out.sec (k:=2+k) (by have:=H.out.n64;omega)
   have HX:Hid ((s.bodyOf ns)[k]?=some (x,y)):=by
    show _=_
    rw [bodyOf_get HX0.out,hy]
    rfl
   have HG:=Lib.hid (get_ok (2+k) (H.out.below HB.out) HDN.out hy)
   have HYL:=Lib.hid hyl
   have hgl:=HF.out.lt
   have hsw:=HB.out.size
   clear hy hyl
   obtain ⟨m,hm⟩:∃ m,2+k=m:=⟨_,rfl⟩
   rw [hm] at HG
   have hk2:(2:Int)+(k:Int)=(m:Int):=by omega
   clear hm
   generalize hGG:w.heap.size=G at *
   have HGG:=Lib.hid hGG
   clear hGG
   go_wp2_with fail
   refine HG.out.mono ?_
   rintro e w2 ⟨b2,rfl,hb2,hh2,hbl2⟩
   have HB2:=Lib.hid (HB.out.trans (hbl2.mono hsw))
   have hsz2:=hbl2.size
   have hb2l:b2<w2.heap.size:=(Array.getElem?_eq_some_iff.1 hh2).1
   have HF2:Hid (FillW w2 G n (MD G w2.heap.size) (s.bodyOf ns) k) :=
    (HF.out.keep (hbl2.block _ hgl) fun q hq=>hbl2.block q hq.2).more fun q hq=>⟨hq.1,by have:=hq.2;omega⟩
   have HBT:Hid (Bts w2 (MD G w2.heap.size) (some ⟨b2,0,none⟩) 128 128 y):=(Own.bts ⟨_,hh2⟩ HYL.out (M:=IM b2) rfl).more fun q hq=>by cases hq;exact ⟨by omega,hb2l⟩
   have HNM:Hid (¬ MD G w2.heap.size G):=fun hm=>by have:=hm.1;omega
   obtain ⟨⟨v0,hv0⟩,⟨v1,hv1⟩,hfr0,hfr1⟩:=HF2.out.cell hlt
   clear hh2 hbl2
   go_wp2_with fail
   go_roundw
   case rel =>
    have hz:((w2.setCell ⟨G,k * 2,none⟩ (.int .i64 x)).setCell ⟨G,k * 2+1,none⟩ (.slice (some ⟨b2,0,none⟩) 128 128)).heap.size=w2.heap.size:=by simp
    refine ⟨k+1,by omega,by go_num,?_,(HB2.out.setCell (p:=⟨G,k * 2,none⟩) (Nat.le_refl _) _).setCell (p:=⟨G,k * 2+1,none⟩) (Nat.le_refl _) _⟩
    show FillW _ _ _ _ _ _
    rw [hz]
    exact HF2.out.step hlt HX.out HBT.out HNM.out rfl
   case measure=>simp [intOf];omega
  ·obtain rfl:k=n:=by omega
   go_wp2_with fail
   go_ret2
   refine ⟨_,rfl,?_,HB.out⟩
   refine (HF.out.wrs (by rw [bodyOf_len,HL.out]) (by unfold maxLen;omega)).more fun q hq=>?_
   rcases hq with hq | rfl
   ·exact ⟨by have:=hq.1;omega,hq.2⟩
   ·exact ⟨Nat.le_refl _,HF.out.lt⟩
end Go.Proofs.YtkganhafbjgndaaGreatRR
namespace Go.Proofs.YtkganhafbjgndaaGreatRR
open Go.RowKit
set_option linter.unusedVariables false
theorem flush_down {s:DS} (h:s.flush.1=0):s.flush.2.down=false:=by
 unfold DS.flush at h ⊢
 by_cases hd:s.down=true
 ·simp [hd] at h
 ·by_cases hp:s.pow=true
  ·simp only [hd,hp]
   exact spend_down hp (by simpa using hd)
  ·simp [hd,hp] at h
theorem settle_down {s:DS} (h:s.settle.1=0):s.settle.2.down=false:=by
 unfold DS.settle at h ⊢
 by_cases hd:s.down=true
 ·simp [hd] at h
 ·by_cases he:s.now[1]?=s.lasting[1]?
  ·simp only [hd,he]
   simpa using hd
  ·simp only [hd,he] at h ⊢
   exact flush_down h
theorem settle_since {s:DS} (h:s.settle.1=0):s.settle.2.since.length≤s.since.length:=by
 unfold DS.settle at h ⊢
 by_cases hd:s.down=true
 ·simp [hd] at h
 ·by_cases he:s.now[1]?=s.lasting[1]?
  ·simp [hd,he]
  ·simp only [hd,he] at h ⊢
   have:=flush_since (s:=s) h
   simp [this]
set_option maxRecDepth 20000 in
set_option maxHeartbeats 1000000 in
theorem finish_any {w:World} {d:Nat} {O:List Nat} {N:Nat} {s:DS} {M:Nat→Prop} {A:Option Addr} {n c:Nat} {ns:List Int} (h:Drv w d O N s)
  (hI:Ints w M A n c ns) (hM:Free w O M) (hn:n≤24) (hb:s.since.length≤1000000) :
  Calls Tryz.prog 82 #[.pointer (some ⟨d,0,none⟩),.slice A n c] w fun e w'=>e=.returned (.int .i64 (s.finish N ns).1)∧Did w d O N (s.finish N ns).2 w':=by
 have HP:=Lib.hid (settle_any h)
 have HI:=Lib.hid hI
 have HL:=Lib.hid hI.len
 have HM:=Lib.hid hM
 have HZ:=Lib.hid (@settle_down s)
 have HZ2:=Lib.hid (@settle_since s)
 have HSN:=Lib.hid hb
 unfold DS.finish
 generalize s.settle=p at *
 obtain ⟨x,s1⟩:=p
 clear h hI hM hb
 by_cases hx:x=0
 ·subst hx
  have HD1:Hid (s1.down=false):=HZ.out rfl
  have HS1:Hid (s1.since.length≤s.since.length):=HZ2.out rfl
  clear HZ HZ2
  simp only [if_true]
  simp only at HP
  by_cases hn0:n=0
  ·subst hn0
   obtain rfl:ns=[]:=List.length_eq_zero_iff.1 HL.out
   simp only [if_true]
   go_enter Tryz.func82,Tryz.ntmps82
   go_wp2_with fail
   refine HP.out.mono ?_
   rintro e w1 ⟨rfl,hd⟩
   have HD:=Lib.hid hd
   clear hd
   go_wp2_with fail
   go_ret
   exact ⟨rfl,HD.out⟩
  ·have hne:¬ ns=[]:=fun e=>hn0 (by rw [← HL.out,e];rfl)
   simp only [hne,if_false]
   have hn0':((n:Int) == 0)=false:=by simp;omega
   generalize hf:s1.apply N (s1.bodyOf ns)=q at *
   obtain ⟨y,s2⟩:=q
   have HF:=Lib.hid hf
   clear hf hne
   go_enter Tryz.func82,Tryz.ntmps82
   go_wp2_with fail
   refine HP.out.mono ?_
   rintro e w1 ⟨rfl,O1,h1,h2,h3⟩
   have H1:=Lib.hid h1
   have H2:=Lib.hid h2
   have H3:=Lib.hid h3
   clear h1 h2 h3
   go_wp2_with fail
   refine (fromBody_any H1.out HD1.out (HI.out.keep (HM.out.keep H2.out)) (fun b hb=>Nat.lt_of_lt_of_le (HM.out b hb).1 H2.out.size) hn).mono ?_
   rintro e w2 ⟨g,rfl,hw2,hb2⟩
   have HW2:=Lib.hid hw2
   have HB2:=Lib.hid hb2
   clear hw2 hb2
   go_wp2_with fail
   refine (apply_any (H1.out.below HB2.out) HW2.out (fun q hq=>⟨hq.2,fun e=>by have:=H1.out.lt q e;have:=hq.1;omega⟩) (by have:=HS1.out;have:=HSN.out;omega)).mono ?_
   rintro e w3 ⟨rfl,hd⟩
   rw [HF.out] at hd ⊢
   have HD:=Lib.hid (Did.then_ H2.out H3.out (hd.from_ HB2.out))
   clear hd
   go_wp2_with fail
   go_ret
   exact ⟨rfl,HD.out⟩
 ·simp only [hx,if_false]
  have hx':(x != 0)=true:=by simpa using hx
  simp only at HP
  clear hx HZ HZ2
  go_enter Tryz.func82,Tryz.ntmps82
  go_wp2_with fail
  refine HP.out.mono ?_
  rintro e w1 ⟨rfl,hd⟩
  have HD:=Lib.hid hd
  clear hd
  go_wp2_with fail
  go_ret
  exact ⟨rfl,HD.out⟩
set_option maxRecDepth 20000 in
set_option maxHeartbeats 1000000 in
theorem recover_any {w:World} {d:Nat} {O:List Nat} {N:Nat} {s:DS} (h:Drv w d O N s) (hb:s.down=false→s.since.length≤1000000) :
  Calls Tryz.prog 50 #[.pointer (some ⟨d,0,none⟩)] w fun e w'=>e=.returned (.int .i64 (s.recover N).1)∧Did w d O N (s.recover N).2 w':=by
 unfold DS.recover
 cases hd:s.down with
 | true =>
  have HG:=Lib.hid (logged_down h hd)
  have H:=Lib.hid h
  simp only [if_true]
  clear h hd hb
  go_enter Tryz.func50,Tryz.ntmps50
  go_wp2_with fail
  refine HG.out.mono ?_
  rintro e w1 ⟨rfl,rfl⟩
  go_wp2_with fail
  go_ret
  exact ⟨rfl,Did.mk H.out (Chg.refl _ _)⟩
 | false =>
  have HG:=Lib.hid (logged_up h hd)
  have H:=Lib.hid h
  have HSN:=Lib.hid (hb hd)
  simp only [Bool.false_eq_true,if_false]
  have HO:Hid (∀ ns,isHd (s.now[1]?.getD [])=some ns→good ns=true):=fun ns h=>(isHd_some h).1
  generalize isHd (s.now[1]?.getD [])=o at *
  clear h hd hb
  cases o with
  | none =>
   simp only
   go_enter Tryz.func50,Tryz.ntmps50
   go_wp2_with fail
   refine HG.out.mono ?_
   rintro e w1 ⟨rfl,hb1⟩
   have HB1:=Lib.hid hb1
   clear hb1
   go_wp2_with fail
   go_ret
   exact ⟨rfl,Did.below H.out HB1.out⟩
  | some ns =>
   have HN:Hid (ns.length≤24):=(good_iff.1 (HO.out ns rfl)).1
   clear HO
   simp only
   cases hw:withinL N ns with
   | false =>
    simp only [Bool.false_eq_true,if_false]
    have HW:=Lib.hid hw
    clear hw
    go_enter Tryz.func50,Tryz.ntmps50
    go_wp2_with fail
    refine HG.out.mono ?_
    rintro e w1 ⟨g,rfl,h2,h3,h4,h5⟩
    have HI:=Lib.hid h2
    have HB1:=Lib.hid h5
    clear h2 h5
    go_wp2_with fail
    refine (within_any (H.out.below HB1.out) HI.out).mono ?_
    rintro e w2 ⟨rfl,rfl⟩
    rw [HW.out]
    go_wp2_with fail
    go_ret
    exact ⟨rfl,Did.below H.out HB1.out⟩
   | true =>
    simp only [if_true]
    have HW:=Lib.hid hw
    clear hw
    generalize hf:s.finish N ns=q at *
    obtain ⟨y,s2⟩:=q
    have HF:=Lib.hid hf
    clear hf
    go_enter Tryz.func50,Tryz.ntmps50
    go_wp2_with fail
    refine HG.out.mono ?_
    rintro e w1 ⟨g,rfl,h2,h3,h4,h5⟩
    have HI:=Lib.hid h2
    have HB1:=Lib.hid h5
    clear h2 h5
    go_wp2_with fail
    refine (within_any (H.out.below HB1.out) HI.out).mono ?_
    rintro e w2 ⟨rfl,rfl⟩
    rw [HW.out]
    go_wp2_with fail
    refine (finish_any (H.out.below HB1.out) HI.out (fun q hq=>by cases hq;exact ⟨h4,fun e=>by have:=H.out.lt _ e;omega⟩) HN.out HSN.out).mono ?_
    rintro e w2 ⟨rfl,hd⟩
    rw [HF.out] at hd ⊢
    have HD:=Lib.hid (hd.from_ HB1.out)
    clear hd
    go_wp2_with fail
    go_ret
    exact ⟨rfl,HD.out⟩
end Go.Proofs.YtkganhafbjgndaaGreatRR
namespace Go.Proofs.YtkganhafbjgndaaGreatRR
open Go.RowKit
set_option linter.unusedVariables false
theorem commit_none {p A:Option Addr} {c:Nat} (d:Nat) (w:World):Calls Tryz.prog 38 #[.pointer (some ⟨d,0,none⟩),.slice A 0 c] w fun e w'=>e=.returned (.int .i64 0)∧w=w':=by
 go_enter Tryz.func38,Tryz.ntmps38
 go_wp2_with fail
 go_ret
 exact ⟨rfl,rfl⟩
set_option maxRecDepth 20000 in
set_option maxHeartbeats 2000000 in
theorem commit_bad {w:World} {d:Nat} {O:List Nat} {N:Nat} {s:DS} {M:Nat→Prop} {A:Option Addr} {n c:Nat} {ws:List Wr} (h:Drv w d O N s)
  (hW:Wrs w M A n c ws) (hM:Free w O M) (hn0:n≠0) (hn:n * 8≤140737488355328) (hf:fit N ws=false) :
  Calls Tryz.prog 38 #[.pointer (some ⟨d,0,none⟩),.slice A n c] w fun e w'=>e=.returned (.int .i64 1)∧Below w.heap.size w w':=by
 have HM:Hid (∀ b,M b→b<w.heap.size):=fun b hb=>(hM b hb).1
 have H:=Lib.hid h
 have HW:=Lib.hid hW
 have HP:=Lib.hid (places_any hW HM.out hn)
 have hn0':((n:Int) == 0)=false:=by simp;omega
 have HF:=Lib.hid hf
 clear h hW hM hf
 go_enter Tryz.func38,Tryz.ntmps38
 go_wp2_with fail
 refine HP.out.mono ?_
 rintro e w1 ⟨g,rfl,hI,hg1,hg2,hb1⟩
 have HI:=Lib.hid hI
 have HB1:=Lib.hid hb1
 clear hI hb1
 go_wp2_with fail
 refine (allowed_any HI.out).mono ?_
 rintro e w2 ⟨rfl,rfl⟩
 cases hg:good (ws.map (·.1)) with
 | false =>
  clear hg
  go_wp2_with fail
  go_ret
  exact ⟨rfl,HB1.out⟩
 | true =>
  have HG:=Lib.hid hg
  clear hg
  go_wp2_with fail
  refine (within_any (H.out.below HB1.out) HI.out).mono ?_
  rintro e w2 ⟨rfl,rfl⟩
  cases hw:withinL N (ws.map (·.1)) with
  | false =>
   clear hw
   go_wp2_with fail
   go_ret
   exact ⟨rfl,HB1.out⟩
  | true =>
   have HWW:Hid (wholeL ws=false):=by
    show _=_
    have:=HF.out
    unfold fit at this
    rw [HG.out,hw] at this
    simpa using this
   clear hw
   go_wp2_with fail
   refine (whole_any (HW.out.keep fun b hb=>HB1.out.block b (HM.out b hb)) (fun b hb=>Nat.lt_of_lt_of_le (HM.out b hb) HB1.out.size)).mono ?_
   rintro e w2 ⟨rfl,hb2⟩
   rw [HWW.out]
   have HB2:=Lib.hid (HB1.out.trans (hb2.mono HB1.out.size))
   clear hb2
   go_wp2_with fail
   go_ret
   exact ⟨rfl,HB2.out⟩
theorem fit_parts {N:Nat} {ws:List Wr} (h:fit N ws=true):good (ws.map (·.1))=true∧withinL N (ws.map (·.1))=true∧wholeL ws=true:=by
 unfold fit at h
 simpa using h
def ComS (w:World) (n:Nat) (l:List Int) (g:Nat) (w':World):Prop:=Ints w' (IM g) (some ⟨g,0,none⟩) n n l∧w.heap.size≤g∧g<w'.heap.size∧Below w.heap.size w w'
set_option maxRecDepth 20000 in
set_option maxHeartbeats 2000000 in
theorem commit_fit {w:World} {d:Nat} {O:List Nat} {N:Nat} {s:DS} {M:Nat→Prop} {A:Option Addr} {n c:Nat} {ws:List Wr} (h:Drv w d O N s)
  (hW:Wrs w M A n c ws) (hM:Free w O M) (hn0:n≠0) (hf:fit N ws=true) (hsn:s.down=false→s.since.length≤1000000)
  (ho:s.down=false→∀ ns,isHd (s.now[1]?.getD [])=some ns→ns=[]) :
  Calls Tryz.prog 38 #[.pointer (some ⟨d,0,none⟩),.slice A n c] w fun e w'=>e=.returned (.int .i64 (s.commit N ws).1)∧Did w d O N (s.commit N ws).2 w':=by
 have HM:Hid (∀ b,M b→b<w.heap.size):=fun b hb=>(hM b hb).1
 have HFR:=Lib.hid hM
 have H:=Lib.hid h
 have HW:=Lib.hid hW
 obtain ⟨hg,hwi,hwh⟩:=fit_parts hf
 have hlen:n≤24:=by rw [← hW.len];have:=(good_iff.1 hg).1;simpa using this
 have HP:=Lib.hid (places_any hW HM.out (by omega))
 have hn0':((n:Int) == 0)=false:=by simp;omega
 have HG:=Lib.hid hg
 have HWI:=Lib.hid hwi
 have HWH:=Lib.hid hwh
 have hne:¬ ws=[]:=fun e=>hn0 (by rw [← hW.len,e];rfl)
 unfold DS.commit
 simp only [hne,if_false,hf,if_true]
 clear h hW hM hf hg hwi hwh hne
 cases hd:s.down with
 | true =>
  have HD:=Lib.hid hd
  simp only [if_true]
  clear hd hsn ho
  go_enter Tryz.func38,Tryz.ntmps38
  go_wp2_with fail
  refine HP.out.mono ?_
  rintro e w1 ⟨g,rfl,hI,hg1,hg2,hb1⟩
  have HI:=Lib.hid hI
  have HB1:=Lib.hid hb1
  clear hI hb1
  go_wp2_with fail
  refine (allowed_any HI.out).mono ?_
  rintro e w2 ⟨rfl,rfl⟩
  rw [HG.out]
  go_wp2_with fail
  refine (within_any (H.out.below HB1.out) HI.out).mono ?_
  rintro e w2 ⟨rfl,rfl⟩
  rw [HWI.out]
  go_wp2_with fail
  refine (whole_any (HW.out.keep fun b hb=>HB1.out.block b (HM.out b hb)) (fun b hb=>Nat.lt_of_lt_of_le (HM.out b hb) HB1.out.size)).mono ?_
  rintro e w2 ⟨rfl,hb2⟩
  rw [HWH.out]
  have HB2:=Lib.hid (HB1.out.trans (hb2.mono HB1.out.size))
  clear hb2
  go_wp2_with fail
  refine (logged_down (H.out.below HB2.out) HD.out).mono ?_
  rintro e w3 ⟨rfl,rfl⟩
  go_wp2_with fail
  go_ret
  exact ⟨rfl,Did.below H.out HB2.out⟩
 | false =>
  have HD:=Lib.hid hd
  have HSN:=Lib.hid (hsn hd)
  have HO:=Lib.hid (ho hd)
  simp only [Bool.false_eq_true,if_false]
  clear hd hsn ho
  have HLG:=fun (w2:World) (hb:Below w.heap.size w w2)=>logged_up (H.out.below hb) HD.out
  generalize isHd (s.now[1]?.getD [])=o at *
  have HLG:=Lib.hid HLG
  cases o with
  | none =>
   simp only
   go_enter Tryz.func38,Tryz.ntmps38
   go_wp2_with fail
   refine HP.out.mono ?_
   rintro e w1 ⟨g,rfl,hI,hg1,hg2,hb1⟩
   have HI:=Lib.hid hI
   have HB1:=Lib.hid hb1
   clear hI hb1
   go_wp2_with fail
   refine (allowed_any HI.out).mono ?_
   rintro e w2 ⟨rfl,rfl⟩
   rw [HG.out]
   go_wp2_with fail
   refine (within_any (H.out.below HB1.out) HI.out).mono ?_
   rintro e w2 ⟨rfl,rfl⟩
   rw [HWI.out]
   go_wp2_with fail
   refine (whole_any (HW.out.keep fun b hb=>HB1.out.block b (HM.out b hb)) (fun b hb=>Nat.lt_of_lt_of_le (HM.out b hb) HB1.out.size)).mono ?_
   rintro e w2 ⟨rfl,hb2⟩
   rw [HWH.out]
   have HB2:=Lib.hid (HB1.out.trans (hb2.mono HB1.out.size))
   clear hb2
   go_wp2_with fail
   refine (HLG.out _ HB2.out).mono ?_
   rintro e w3 ⟨rfl,hb3⟩
   have HB3:=Lib.hid (HB2.out.trans (hb3.mono HB2.out.size))
   clear hb3
   go_wp2_with fail
   go_ret
   exact ⟨rfl,Did.below H.out HB3.out⟩
  | some ns =>
   obtain rfl:ns=[]:=HO.out ns rfl
   simp only
   clear HO
   unfold DS.log
   have HZ:=Lib.hid (@lasts_since s N (inBodyL ws))
   generalize hq1:s.lasts N (inBodyL ws)=q1 at *
   obtain ⟨x1,s1⟩:=q1
   have HQ1:=Lib.hid hq1
   clear hq1
   simp only
   by_cases hx1:x1=0
   ·subst hx1
    have HZ1:Hid (s1.since=[]):=HZ.out rfl
    have HZ2:Hid ((s1.head N (ws.map (·.1))).1=0→(s1.head N (ws.map (·.1))).2.since=[]):=fun h=>lasts_since h
    clear HZ
    simp only [if_true]
    generalize hq2:s1.head N (ws.map (·.1))=q2 at *
    obtain ⟨x2,s2⟩:=q2
    have HQ2:=Lib.hid hq2
    clear hq2
    simp only
    by_cases hx2:x2=0
    ·subst hx2
     have HZ3:Hid (s2.since=[]):=HZ2.out rfl
     clear HZ2
     simp only [if_true]
     generalize hq3:s2.apply N ws=q3 at *
     obtain ⟨x3,s3⟩:=q3
     have HQ3:=Lib.hid hq3
     clear hq3
     simp only
     go_enter Tryz.func38,Tryz.ntmps38
     go_wp2_with fail
     refine HP.out.mono ?_
     rintro e w1 ⟨g,rfl,hI,hg1,hg2,hb1⟩
     have HI:=Lib.hid hI
     have HB1:=Lib.hid hb1
     clear hI hb1
     go_wp2_with fail
     refine (allowed_any HI.out).mono ?_
     rintro e w2 ⟨rfl,rfl⟩
     rw [HG.out]
     go_wp2_with fail
     refine (within_any (H.out.below HB1.out) HI.out).mono ?_
     rintro e w2 ⟨rfl,rfl⟩
     rw [HWI.out]
     go_wp2_with fail
     refine (whole_any (HW.out.keep fun b hb=>HB1.out.block b (HM.out b hb)) (fun b hb=>Nat.lt_of_lt_of_le (HM.out b hb) HB1.out.size)).mono ?_
     rintro e w2 ⟨rfl,hb2⟩
     rw [HWH.out]
     have HB2:=Lib.hid (HB1.out.trans (hb2.mono HB1.out.size))
     have HB12:=Lib.hid hb2
     clear hb2
     go_wp2_with fail
     refine (HLG.out _ HB2.out).mono ?_
     rintro e w3 ⟨g3,rfl,hI3,hg31,hg32,hb3⟩
     have HB3:=Lib.hid (HB2.out.trans (hb3.mono HB2.out.size))
     have HB13:=Lib.hid (HB12.out.trans (hb3.mono HB12.out.size))
     clear hb3 hI3
     go_wp2_with fail
     refine (inBody_any (HW.out.keep fun b hb=>HB3.out.block b (HM.out b hb)) (fun b hb=>Nat.lt_of_lt_of_le (HM.out b hb) HB3.out.size) hlen).mono ?_
     rintro e w4 ⟨g4,rfl,hW4,hg41,hg42,hb4⟩
     have HW4:=Lib.hid hW4
     have HB4:=Lib.hid (HB3.out.trans (hb4.mono HB3.out.size))
     have HB14:=Lib.hid (HB13.out.trans (hb4.mono HB13.out.size))
     have HI4:Hid (Ints w4 (IM g) (some ⟨g,0,none⟩) n n (ws.map (·.1))):=HI.out.keep fun b hb=>by cases hb;exact HB14.out.block g hg2
     clear hb4 hW4
     go_wp2_with fail
     refine (lasting_any (H.out.below HB4.out) HW4.out (fun q hq=>?_) (by have:=HSN.out;omega)).mono ?_
     ·rcases hq with hq | rfl
      ·exact ⟨Nat.lt_of_lt_of_le (HM.out q hq) HB4.out.size,(HFR.out q hq).2⟩
      ·exact ⟨hg42,fun e=>by have:=H.out.lt _ e;have:=HB3.out.size;omega⟩
     rintro e w5 ⟨rfl,hd5⟩
     rw [HQ1.out] at hd5 ⊢
     obtain ⟨O5,h51,h52,h53⟩:=hd5
     have H51:=Lib.hid h51
     have H52:=Lib.hid ((Chg.of_below HB4.out).tr h52)
     have H53:Hid (∀ b∈O5,b∈O∨w.heap.size≤b):=fun b hb=>by
      rcases h53 b hb with h | h
      ·exact .inl h
      ·right;have:=HB4.out.size;omega
     have HI5:=Lib.hid (HI4.out.keep (w':=w5) fun b hb=>by cases hb;exact h52.block g (Nat.lt_of_lt_of_le hg2 HB14.out.size) (fun e=>by have:=H.out.lt _ e;omega))
     have hg5:g<w5.heap.size:=Nat.lt_of_lt_of_le hg2 (Nat.le_trans HB14.out.size h52.size)
     clear h51 h52 h53
     go_wp2_with fail
     refine (putHead_any H51.out HI5.out (fun b hb=>by cases hb;exact hg5) HG.out (by rw [HZ1.out];simp)).mono ?_
     rintro e w6 ⟨rfl,hd6⟩
     rw [HQ2.out] at hd6 ⊢
     obtain ⟨O6,h61,h62,h63⟩:=Did.then_ H52.out H53.out hd6
     have H61:=Lib.hid h61
     have H62:=Lib.hid h62
     have H63:=Lib.hid h63
     clear h61 h62 h63 hd6
     go_wp2_with fail
     refine (apply_any H61.out (HW.out.keep (HFR.out.keep H62.out)) (HFR.out.after H62.out H63.out) (by rw [HZ3.out];simp;omega)).mono ?_
     rintro e w7 ⟨rfl,hd7⟩
     rw [HQ3.out] at hd7 ⊢
     have HD7:=Lib.hid (Did.then_ H62.out H63.out hd7)
     clear hd7
     go_wp2_with fail
     go_ret
     exact ⟨rfl,HD7.out⟩
    ·simp only [hx2,if_false]
     have hx2':(x2 != 0)=true:=by simpa using hx2
     clear hx2 HZ2
     go_enter Tryz.func38,Tryz.ntmps38
     go_wp2_with fail
     refine HP.out.mono ?_
     rintro e w1 ⟨g,rfl,hI,hg1,hg2,hb1⟩
     have HI:=Lib.hid hI
     have HB1:=Lib.hid hb1
     clear hI hb1
     go_wp2_with fail
     refine (allowed_any HI.out).mono ?_
     rintro e w2 ⟨rfl,rfl⟩
     rw [HG.out]
     go_wp2_with fail
     refine (within_any (H.out.below HB1.out) HI.out).mono ?_
     rintro e w2 ⟨rfl,rfl⟩
     rw [HWI.out]
     go_wp2_with fail
     refine (whole_any (HW.out.keep fun b hb=>HB1.out.block b (HM.out b hb)) (fun b hb=>Nat.lt_of_lt_of_le (HM.out b hb) HB1.out.size)).mono ?_
     rintro e w2 ⟨rfl,hb2⟩
     rw [HWH.out]
     have HB2:=Lib.hid (HB1.out.trans (hb2.mono HB1.out.size))
     have HB12:=Lib.hid hb2
     clear hb2
     go_wp2_with fail
     refine (HLG.out _ HB2.out).mono ?_
     rintro e w3 ⟨g3,rfl,hI3,hg31,hg32,hb3⟩
     have HB3:=Lib.hid (HB2.out.trans (hb3.mono HB2.out.size))
     have HB13:=Lib.hid (HB12.out.trans (hb3.mono HB12.out.size))
     clear hb3 hI3
     go_wp2_with fail
     refine (inBody_any (HW.out.keep fun b hb=>HB3.out.block b (HM.out b hb)) (fun b hb=>Nat.lt_of_lt_of_le (HM.out b hb) HB3.out.size) hlen).mono ?_
     rintro e w4 ⟨g4,rfl,hW4,hg41,hg42,hb4⟩
     have HW4:=Lib.hid hW4
     have HB4:=Lib.hid (HB3.out.trans (hb4.mono HB3.out.size))
     have HB14:=Lib.hid (HB13.out.trans (hb4.mono HB13.out.size))
     have HI4:Hid (Ints w4 (IM g) (some ⟨g,0,none⟩) n n (ws.map (·.1))):=HI.out.keep fun b hb=>by cases hb;exact HB14.out.block g hg2
     clear hb4 hW4
     go_wp2_with fail
     refine (lasting_any (H.out.below HB4.out) HW4.out (fun q hq=>?_) (by have:=HSN.out;omega)).mono ?_
     ·rcases hq with hq | rfl
      ·exact ⟨Nat.lt_of_lt_of_le (HM.out q hq) HB4.out.size,(HFR.out q hq).2⟩
      ·exact ⟨hg42,fun e=>by have:=H.out.lt _ e;have:=HB3.out.size;omega⟩
     rintro e w5 ⟨rfl,hd5⟩
     rw [HQ1.out] at hd5 ⊢
     obtain ⟨O5,h51,h52,h53⟩:=hd5
     have H51:=Lib.hid h51
     have H52:=Lib.hid ((Chg.of_below HB4.out).tr h52)
     have H53:Hid (∀ b∈O5,b∈O∨w.heap.size≤b):=fun b hb=>by
      rcases h53 b hb with h | h
      ·exact .inl h
      ·right;have:=HB4.out.size;omega
     have HI5:=Lib.hid (HI4.out.keep (w':=w5) fun b hb=>by cases hb;exact h52.block g (Nat.lt_of_lt_of_le hg2 HB14.out.size) (fun e=>by have:=H.out.lt _ e;omega))
     have hg5:g<w5.heap.size:=Nat.lt_of_lt_of_le hg2 (Nat.le_trans HB14.out.size h52.size)
     clear h51 h52 h53
     go_wp2_with fail
     refine (putHead_any H51.out HI5.out (fun b hb=>by cases hb;exact hg5) HG.out (by rw [HZ1.out];simp)).mono ?_
     rintro e w6 ⟨rfl,hd6⟩
     rw [HQ2.out] at hd6 ⊢
     have HD6:=Lib.hid (Did.then_ H52.out H53.out hd6)
     clear hd6
     go_wp2_with fail
     go_ret
     exact ⟨rfl,HD6.out⟩
   ·simp only [hx1,if_false]
    have hx1':(x1 != 0)=true:=by simpa using hx1
    clear hx1 HZ
    go_enter Tryz.func38,Tryz.ntmps38
    go_wp2_with fail
    refine HP.out.mono ?_
    rintro e w1 ⟨g,rfl,hI,hg1,hg2,hb1⟩
    have HI:=Lib.hid hI
    have HB1:=Lib.hid hb1
    clear hI hb1
    go_wp2_with fail
    refine (allowed_any HI.out).mono ?_
    rintro e w2 ⟨rfl,rfl⟩
    rw [HG.out]
    go_wp2_with fail
    refine (within_any (H.out.below HB1.out) HI.out).mono ?_
    rintro e w2 ⟨rfl,rfl⟩
    rw [HWI.out]
    go_wp2_with fail
    refine (whole_any (HW.out.keep fun b hb=>HB1.out.block b (HM.out b hb)) (fun b hb=>Nat.lt_of_lt_of_le (HM.out b hb) HB1.out.size)).mono ?_
    rintro e w2 ⟨rfl,hb2⟩
    rw [HWH.out]
    have HB2:=Lib.hid (HB1.out.trans (hb2.mono HB1.out.size))
    have HB12:=Lib.hid hb2
    clear hb2
    go_wp2_with fail
    refine (HLG.out _ HB2.out).mono ?_
    rintro e w3 ⟨g3,rfl,hI3,hg31,hg32,hb3⟩
    have HB3:=Lib.hid (HB2.out.trans (hb3.mono HB2.out.size))
    have HB13:=Lib.hid (HB12.out.trans (hb3.mono HB12.out.size))
    clear hb3 hI3
    go_wp2_with fail
    refine (inBody_any (HW.out.keep fun b hb=>HB3.out.block b (HM.out b hb)) (fun b hb=>Nat.lt_of_lt_of_le (HM.out b hb) HB3.out.size) hlen).mono ?_
    rintro e w4 ⟨g4,rfl,hW4,hg41,hg42,hb4⟩
    have HW4:=Lib.hid hW4
    have HB4:=Lib.hid (HB3.out.trans (hb4.mono HB3.out.size))
    have HB14:=Lib.hid (HB13.out.trans (hb4.mono HB13.out.size))
    have HI4:Hid (Ints w4 (IM g) (some ⟨g,0,none⟩) n n (ws.map (·.1))):=HI.out.keep fun b hb=>by cases hb;exact HB14.out.block g hg2
    clear hb4 hW4
    go_wp2_with fail
    refine (lasting_any (H.out.below HB4.out) HW4.out (fun q hq=>?_) (by have:=HSN.out;omega)).mono ?_
    ·rcases hq with hq | rfl
     ·exact ⟨Nat.lt_of_lt_of_le (HM.out q hq) HB4.out.size,(HFR.out q hq).2⟩
     ·exact ⟨hg42,fun e=>by have:=H.out.lt _ e;have:=HB3.out.size;omega⟩
    rintro e w5 ⟨rfl,hd5⟩
    rw [HQ1.out] at hd5 ⊢
    have HD5:=Lib.hid (hd5.from_ HB4.out)
    clear hd5
    go_wp2_with fail
    go_ret
    exact ⟨rfl,HD5.out⟩
end Go.Proofs.YtkganhafbjgndaaGreatRR
namespace Go.Proofs.YtkganhafbjgndaaGreatRR
set_option linter.unusedVariables false
abbrev Secs2:=List (List UInt8)
def toW (ws:List Wr):List (Nat × List UInt8):=ws.map fun w=>(w.1.toNat,w.2)
theorem lay_cons (L:Secs2) (p:Nat × List UInt8) (r:List (Nat × List UInt8)):lay L (p :: r)=lay (L.set p.1 p.2) r:=rfl
theorem lay_not {ps:List (Nat × List UInt8)} {i:Nat}:∀ (L:Secs2),(∀ p∈ps,p.1≠i)→(lay L ps)[i]?=L[i]?:=by
 induction ps with
 | nil=>intro L _;rfl
 | cons p r ih =>
  intro L h
  rw [lay_cons,ih _ (fun q hq=>h q (by simp [hq])),List.getElem?_set_ne (h p (by simp))]
theorem lay_at {ps:List (Nat × List UInt8)} {i:Nat}:∀ (L L':Secs2),L.length=L'.length→(∃ p∈ps,p.1=i)→(lay L ps)[i]?=(lay L' ps)[i]?:=by
 induction ps with
 | nil=>intro L L' _ ⟨p,hp,_⟩;simp at hp
 | cons p r ih =>
  intro L L' hl h
  rw [lay_cons,lay_cons]
  by_cases hr:∃ q∈r,q.1=i
  ·exact ih _ _ (by simp [hl]) hr
  ·have hn:∀ q∈r,q.1≠i:=fun q hq e=>hr ⟨q,hq,e⟩
   rw [lay_not _ hn,lay_not _ hn]
   obtain ⟨q,hq,e⟩:=h
   have:q=p:=by
    simp only [List.mem_cons] at hq
    rcases hq with h | h
    ·exact h
    ·exact absurd e (hn q h)
   subst this
   subst e
   rw [List.getElem?_set,List.getElem?_set]
   simp [hl]
theorem lay_congr {ps:List (Nat × List UInt8)} {i:Nat} {L L':Secs2} (hl:L.length=L'.length) (h:L[i]?=L'[i]?):(lay L ps)[i]?=(lay L' ps)[i]?:=by
 by_cases hp:∃ p∈ps,p.1=i
 ·exact lay_at L L' hl hp
 ·have hn:∀ q∈ps,q.1≠i:=fun q hq e=>hp ⟨q,hq,e⟩
  rw [lay_not _ hn,lay_not _ hn,h]
theorem lay_redo {ps qs:List (Nat × List UInt8)} (h:∀ q∈qs,q∈ps) (L:Secs2) (i:Nat):(lay (lay L qs) ps)[i]?=(lay L ps)[i]?:=by
 by_cases hp:∃ p∈ps,p.1=i
 ·exact lay_at _ _ (lay_len _ _) hp
 ·have hn:∀ q∈ps,q.1≠i:=fun q hq e=>hp ⟨q,hq,e⟩
  rw [lay_not _ hn,lay_not _ hn,lay_not _ (fun q hq=>hn q (h q hq))]
theorem keeps_sub (keep:List Int):∀ (ps:List (Nat × List UInt8)) (i:Nat),∀ q∈keeps keep i ps,q∈ps:=by
 intro ps
 induction ps with
 | nil=>intro i q hq;simp [keeps] at hq
 | cons p r ih =>
  intro i q hq
  rw [keeps] at hq
  split at hq
  ·simp only [List.mem_cons] at hq ⊢
   rcases hq with h | h
   ·exact .inl h
   ·exact .inr (ih _ _ h)
  ·simp only [List.mem_cons]
   exact .inr (ih _ _ hq)
structure Rest (s:DS) (L:Secs2):Prop where
 down:s.down=false
 since:s.since=[]
 now:s.now=L
 las:s.lasting=L
 fuse:s.fused=true→0≤s.left
structure Cut (s:DS) (L:Secs2) (ps:List (Nat × List UInt8)):Prop where
 down:s.down=true
 las:s.lasting=L
 sub:∀ q∈s.since,q∈ps
theorem Cut.again {s:DS} {L:Secs2} {ps:List (Nat × List UInt8)} (h:Cut s L ps) (keep:List Int):∃ qs,(∀ q∈qs,q∈ps)∧Rest (s.restart keep) (lay L qs)∧(s.restart keep).fused=false :=
 ⟨keeps keep 0 s.since,fun q hq=>h.sub q (keeps_sub _ _ _ q hq),⟨rfl,rfl,by simp [DS.restart,h.las],by simp [DS.restart,h.las],by simp [DS.restart]⟩,rfl⟩
theorem Rest.again {s:DS} {L:Secs2} (h:Rest s L) (keep:List Int):Rest (s.restart keep) L∧(s.restart keep).fused=false:=by
 have:lay s.lasting (keeps keep 0 s.since)=L:=by rw [h.since,h.las];rfl
 exact ⟨⟨rfl,rfl,by simp [DS.restart,this],by simp [DS.restart,this],by simp [DS.restart]⟩,rfl⟩
def PutOk (s:DS) (ws:List Wr) (s':DS):Prop:=s'.down=false∧s'.now=lay s.now (toW ws)∧s'.lasting=s.lasting∧s'.since=s.since++toW ws∧s'.fused=s.fused∧(s'.fused=true→0≤s'.left)
theorem spend_facts (s:DS):s.spend.now=s.now∧s.spend.lasting=s.lasting∧s.spend.since=s.since∧s.spend.fused=s.fused:=by
 unfold DS.spend
 split
 ·rename_i h;exact ⟨rfl,rfl,rfl,rfl⟩
 ·exact ⟨rfl,rfl,rfl,rfl⟩
theorem spend_left {s:DS} (hp:s.pow=true) (hl:s.fused=true→0≤s.left):s.spend.fused=true→0≤s.spend.left:=by
 intro h
 have hf:s.fused=true:=by rw [← (spend_facts s).2.2.2];exact h
 have h1:s.left≠0:=by simpa [DS.pow,hf] using hp
 have:=hl hf
 simp only [DS.spend,hf,if_true]
 omega
theorem pow_not {s:DS} (h:s.pow=false):s.fused=true∧s.spend.down=true:=by
 have:s.fused=true∧s.left=0:=by simpa [DS.pow] using h
 exact ⟨this.1,by simp [DS.spend,this.1,this.2]⟩
theorem putGo_cases:∀ (ws:List Wr) (s:DS),s.down=false→(s.fused=true→0≤s.left) →
  (∃ s',s.putGo ws=(0,s')∧PutOk s ws s')∨(∃ s' k,s.putGo ws=(11,s')∧s.fused=true∧s'.down=true∧s'.lasting=s.lasting∧s'.since=s.since++toW (ws.take k)):=by
 intro ws
 induction ws with
 | nil=>intro s hd hl;exact .inl ⟨s,rfl,hd,rfl,rfl,by simp [toW],rfl,hl⟩
 | cons w r ih =>
  intro s hd hl
  obtain ⟨e1,e2,e3,e4⟩:=spend_facts s
  cases hp:s.pow with
  | false =>
   obtain ⟨h1,h2⟩:=pow_not hp
   exact .inr ⟨s.spend,0,by simp [DS.putGo,hp],h1,h2,e2,by simp [e3,toW]⟩
  | true =>
   have hgo:s.putGo (w :: r)=(s.spend.put1 w.1.toNat w.2).putGo r:=by simp [DS.putGo,hp]
   rw [hgo]
   rcases ih (s.spend.put1 w.1.toNat w.2) (spend_down hp hd) (spend_left hp hl) with ⟨s',h1,h2,h3,h4,h5,h6,h7⟩ | ⟨s',k,h1,h2,h3,h4,h5⟩
   ·refine .inl ⟨s',h1,h2,?_,?_,?_,?_,h7⟩
    ·rw [h3];show lay (s.spend.now.set _ _) _=lay s.now ((_,_) :: _);rw [e1];rfl
    ·rw [h4];exact e2
    ·rw [h5];show (s.spend.since++[_])++_=_;rw [e3];simp [toW]
    ·rw [h6];exact e4
   ·refine .inr ⟨s',k+1,h1,by rw [← e4];exact h2,h3,by rw [h4];exact e2,?_⟩
    rw [h5];show (s.spend.since++[_])++_=_;rw [e3];simp [toW]
theorem mem_toW_take {ws:List Wr} {k:Nat}:∀ q∈toW (ws.take k),q∈toW ws:=by
 intro q hq
 simp only [toW,List.mem_map] at hq ⊢
 obtain ⟨w,hw,e⟩:=hq
 exact ⟨w,List.mem_of_mem_take hw,e⟩
theorem lasts_cases {s:DS} {L:Secs2} {N:Nat} {ws:List Wr} (h:Rest s L) (hf:fitE N ws=0) :
  (∃ s',s.lasts N ws=(0,s')∧Rest s' (lay L (toW ws))∧s'.fused=s.fused)∨(∃ s',s.lasts N ws=(11,s')∧Cut s' L (toW ws)∧s.fused=true):=by
 have hput:s.put N ws=s.putGo ws:=by simp [DS.put,h.down,hf]
 unfold DS.lasts
 rw [hput]
 rcases putGo_cases ws s h.down h.fuse with ⟨s1,h1,g1,g2,g3,g4,g5,g6⟩ | ⟨s1,k,h1,g1,g2,g3,g4⟩
 ·rw [h1]
  simp only [if_true]
  obtain ⟨e1,e2,e3,e4⟩:=spend_facts s1
  cases hp:s1.pow with
  | true =>
   refine .inl ⟨{ s1.spend with lasting:=lay s1.lasting s1.since,since:=[] },by simp [DS.flush,g1,hp],⟨spend_down hp g1,rfl,?_,?_,spend_left hp g6⟩,?_⟩
   ·show s1.spend.now=_;rw [e1,g2,h.now]
   ·show lay s1.lasting s1.since=_;rw [g3,g4,h.since,h.las];rfl
   ·show s1.spend.fused=_;rw [e4,g5]
  | false =>
   obtain ⟨p1,p2⟩:=pow_not hp
   refine .inr ⟨s1.spend,by simp [DS.flush,g1,hp],⟨p2,by rw [e2,g3,h.las],?_⟩,by rw [← g5];exact p1⟩
   rw [e3,g4,h.since]
   simp
 ·rw [h1]
  refine .inr ⟨s1,by simp,⟨g2,by rw [g3,h.las],?_⟩,g1⟩
  rw [g4,h.since,List.nil_append]
  exact mem_toW_take
end Go.Proofs.YtkganhafbjgndaaGreatRR
namespace Go.Proofs.YtkganhafbjgndaaGreatRR
set_option linter.unusedVariables false
structure Wf (N:Nat) (L:Secs2):Prop where
 len:L.length=N
 all:∀ x∈L,x.length=128
def inLog (i:Nat):Prop:=1≤i∧i<26
instance (i:Nat):Decidable (inLog i):=by unfold inLog;infer_instance
def bodyL (L:Secs2) (ns:List Int):List Wr:=ns.mapIdx fun i n=>(n,L[2+i]?.getD [])
structure DenN (N:Nat) (L:Secs2) (ns:List Int) (X:Secs2):Prop where
 good:good ns=true
 win:withinL N ns=true
 head:L[1]?=some (hd ns)
 eq:∀ i,i<N→¬ inLog i→(lay L (toW (bodyL L ns)))[i]?=X[i]?
def Den (N:Nat) (L X:Secs2):Prop:=∃ ns,DenN N L ns X
def OnS (N:Nat) (s:DS) (X:Secs2):Prop:=∃ L,Rest s L∧Wf N L∧DenN N L [] X
def Back (N:Nat) (s:DS) (X Y:Secs2):Prop:=∀ keep,∃ L,Rest (s.restart keep) L∧(s.restart keep).fused=false∧Wf N L∧(Den N L X∨Den N L Y)
theorem Wf.lay {N:Nat} {L:Secs2} (h:Wf N L):∀ {ps:List (Nat × List UInt8)},(∀ p∈ps,p.2.length=128)→Wf N (lay L ps):=by
 intro ps
 induction ps generalizing L with
 | nil=>intro _;exact h
 | cons p r ih =>
  intro hp
  rw [lay_cons]
  refine ih ⟨by rw [List.length_set];exact h.len,fun x hx=>?_⟩ (fun q hq=>hp q (by simp [hq]))
  rcases List.mem_or_eq_of_mem_set hx with h1 | h1
  ·exact h.all x h1
  ·rw [h1];exact hp p (by simp)
theorem fit0 {N:Nat} {ws:List Wr} (h:∀ w∈ws,0≤w.1∧w.1<N∧w.2.length=128):fitE N ws=0:=by
 unfold fitE
 rw [if_pos,if_pos]
 ·rw [List.all_eq_true];intro w hw;simp [(h w hw).2.2]
 ·rw [List.all_eq_true];intro w hw;simp [inR,(h w hw).1,(h w hw).2.1]
theorem toW_len {ws:List Wr} (h:∀ w∈ws,w.2.length=128):∀ p∈toW ws,p.2.length=128:=by
 intro p hp
 simp only [toW,List.mem_map] at hp
 obtain ⟨w,hw,rfl⟩:=hp
 exact h w hw
theorem mem_bodyL {L:Secs2} {ns:List Int} {w:Wr} (h:w∈bodyL L ns):∃ i,ns[i]?=some w.1∧w.2=L[2+i]?.getD []:=by
 obtain ⟨i,hi⟩:=List.getElem?_of_mem h
 unfold bodyL at hi
 rw [List.getElem?_mapIdx] at hi
 cases hn:ns[i]? with
 | none=>simp [hn] at hi
 | some n =>
  simp only [hn,Option.map_some,Option.some.injEq] at hi
  subst hi
  exact ⟨i,hn,rfl⟩
section
variable {N:Nat} {L X:Secs2} {ns:List Int}
theorem num_facts (hg:good ns=true) (hw:withinL N ns=true) {n:Int} (h:n∈ns):0≤n∧n<N∧¬ inLog n.toNat:=by
 have h1:=okn_iff.1 ((good_iff.1 hg).2.1 n h)
 have h2:=List.all_eq_true.1 hw n h
 simp only [Bool.and_eq_true,decide_eq_true_eq] at h2
 refine ⟨h1.1,h2.2,fun hl=>?_⟩
 have:=hl.1
 have:=hl.2
 omega
theorem body_facts (hN:64≤N) (hw:Wf N L) (hg:good ns=true) (hi:withinL N ns=true) {w:Wr} (h:w∈bodyL L ns):0≤w.1∧w.1<N∧w.2.length=128∧¬ inLog w.1.toNat:=by
 obtain ⟨i,h1,h2⟩:=mem_bodyL h
 obtain ⟨g1,g2,g3⟩:=num_facts hg hi (List.mem_of_getElem? h1)
 have hi24:i<24:=by
  have:=(List.getElem?_eq_some_iff.1 h1).1
  have:=(good_iff.1 hg).1
  omega
 refine ⟨g1,g2,?_,g3⟩
 rw [h2,List.getElem?_eq_getElem (by rw [hw.len];omega),Option.getD_some]
 exact hw.all _ (List.getElem_mem _)
theorem body_apart (hg:good ns=true) (hi:withinL N ns=true):∀ p∈toW (bodyL L ns),¬ inLog p.1:=by
 intro p hp
 simp only [toW,List.mem_map] at hp
 obtain ⟨w,hw,rfl⟩:=hp
 obtain ⟨i,h1,h2⟩:=mem_bodyL hw
 exact (num_facts hg hi (List.mem_of_getElem? h1)).2.2
theorem lay_log {qs:List (Nat × List UInt8)} (h:∀ q∈qs,¬ inLog q.1) {i:Nat} (hi:inLog i):(lay L qs)[i]?=L[i]? :=
 lay_not _ fun q hq e=>h q hq (e ▸ hi)
theorem bodyL_congr {L':Secs2} (hg:good ns=true) (h:∀ i,inLog i→L'[i]?=L[i]?):bodyL L' ns=bodyL L ns:=by
 unfold bodyL
 apply List.ext_getElem?
 intro i
 rw [List.getElem?_mapIdx,List.getElem?_mapIdx]
 cases hn:ns[i]? with
 | none=>rfl
 | some n =>
  have:i<24:=by
   have:=(List.getElem?_eq_some_iff.1 hn).1
   have:=(good_iff.1 hg).1
   omega
  simp only [Option.map_some]
  rw [h (2+i) ⟨by omega,by omega⟩]
theorem DenN.part (h:DenN N L ns X) {qs:List (Nat × List UInt8)} (hq:∀ q∈qs,q∈toW (bodyL L ns)):DenN N (lay L qs) ns X:=by
 have hap:∀ q∈qs,¬ inLog q.1:=fun q hq'=>body_apart h.good h.win q (hq q hq')
 have hb:bodyL (lay L qs) ns=bodyL L ns:=bodyL_congr h.good fun i hi=>lay_log hap hi
 refine ⟨h.good,h.win,by rw [lay_log hap ⟨by omega,by omega⟩];exact h.head,fun i h1 h2=>?_⟩
 rw [hb,lay_redo hq]
 exact h.eq i h1 h2
theorem DenN.empty (h0:L[1]?=some (hd [])) (h:∀ i,i<N→¬ inLog i→L[i]?=X[i]?):DenN N L [] X:=⟨good_nil,rfl,h0,h⟩
theorem DenN.plain (h:DenN N L [] X) {i:Nat} (h1:i<N) (h2:¬ inLog i):L[i]?=X[i]?:=h.eq i h1 h2
end
theorem hd_fit {N:Nat} (hN:64≤N) {ns:List Int} (hg:good ns=true):fitE N [(1,hd ns)]=0:=fit0 fun w hw=>by
 simp only [List.mem_singleton] at hw
 subst hw
 exact ⟨by simp,by show (1:Int)<N;omega,hd_len (good_iff.1 hg).1⟩
theorem sub_one {p:Nat × List UInt8} {qs:List (Nat × List UInt8)} (h:∀ q∈qs,q∈[p]) (L:Secs2):lay L qs=L∨lay L qs=L.set p.1 p.2:=by
 have:∀ (qs:List (Nat × List UInt8)) (L:Secs2),(∀ q∈qs,q=p)→qs≠[]→lay L qs=L.set p.1 p.2:=by
  intro qs
  induction qs with
  | nil=>intro L _ h;exact absurd rfl h
  | cons a r ih =>
   intro L ha _
   have e:a=p:=ha a (by simp)
   subst e
   rw [lay_cons]
   by_cases hr:r=[]
   ·subst hr;rfl
   ·rw [ih _ (fun q hq=>ha q (by simp [hq])) hr,List.set_set]
 by_cases hq:qs=[]
 ·subst hq;exact .inl rfl
 ·exact .inr (this qs L (fun q hq=>by simpa using h q hq) hq)
section
variable {N:Nat} {s:DS} {L X:Secs2} {ns:List Int}
theorem set_head {ns':List Int} (hN:64≤N) (hw:Wf N L) (hg:good ns'=true):Wf N (L.set 1 (hd ns')):=hw.lay (ps:=[(1,hd ns')]) fun p hp=>by
 simp only [List.mem_singleton] at hp
 subst hp
 exact hd_len (good_iff.1 hg).1
theorem Cut.back {s:DS} {L Y:Secs2} {ps:List (Nat × List UInt8)} (h:Cut s L ps) (hw:Wf N L) (hp:∀ p∈ps,p.2.length=128) (hd:∀ qs,(∀ q∈qs,q∈ps)→Den N (lay L qs) X∨Den N (lay L qs) Y):Back N s X Y:=by
 intro keep
 obtain ⟨qs,h1,h2,h3⟩:=h.again keep
 exact ⟨lay L qs,h2,h3,hw.lay fun q hq=>hp q (h1 q hq),hd qs h1⟩
theorem head_den (hN:64≤N) (hR:Rest s L) (hw:Wf N L) (hD:Den N L X) (hX:∀ i,i<N→¬ inLog i→L[i]?=X[i]?) :
  (∃ s',s.head N []=(0,s')∧OnS N s' X∧s'.fused=s.fused)∨(∃ s',s.head N []=(11,s')∧s.fused=true∧s'.down=true∧Back N s' X X):=by
 have hemp:DenN N (L.set 1 (hd [])) [] X:=DenN.empty (by rw [List.getElem?_set_self (by rw [hw.len];omega)]) fun i h1 h2=>by
  rw [List.getElem?_set_ne (fun e=>h2 ⟨by omega,by omega⟩)];exact hX i h1 h2
 rcases lasts_cases hR (hd_fit hN good_nil) with ⟨s',h1,h2,h3⟩ | ⟨s',h1,h2,h3⟩
 ·exact .inl ⟨s',h1,⟨_,h2,set_head hN hw good_nil,hemp⟩,h3⟩
 ·refine .inr ⟨s',h1,h3,h2.down,h2.back hw (fun p hp=>?_) fun qs hq=>?_⟩
  ·simp only [toW,List.map_cons,List.map_nil,List.mem_singleton] at hp
   subst hp
   exact hd_len (good_iff.1 good_nil).1
  ·rcases sub_one hq L with e | e
   ·rw [e];exact .inl hD
   ·rw [e];exact .inl ⟨_,hemp⟩
theorem apply_den (hN:64≤N) (hR:Rest s L) (hw:Wf N L) (hD:DenN N L ns X) :
  (∃ s',s.apply N (bodyL L ns)=(0,s')∧OnS N s' X∧s'.fused=s.fused)∨(∃ s',s.apply N (bodyL L ns)=(11,s')∧s.fused=true∧s'.down=true∧Back N s' X X):=by
 have hbf:∀ w∈bodyL L ns,0≤w.1∧w.1<N∧w.2.length=128:=fun w h=>by
  obtain ⟨a,b,c,_⟩:=body_facts hN hw hD.good hD.win h
  exact ⟨a,b,c⟩
 have hlen:=toW_len fun w h=>(hbf w h).2.2
 unfold DS.apply
 rcases lasts_cases hR (fit0 hbf) with ⟨s1,h1,h2,h3⟩ | ⟨s1,h1,h2,h3⟩
 ·rw [h1]
  simp only [if_true]
  rcases head_den hN h2 (hw.lay hlen) ⟨ns,hD.part fun q hq=>hq⟩ (fun i g1 g2=>hD.eq i g1 g2) with ⟨s',g1,g2,g3⟩ | ⟨s',g1,g2,g3,g4⟩
  ·exact .inl ⟨s',g1,g2,g3.trans h3⟩
  ·exact .inr ⟨s',g1,by rw [← h3];exact g2,g3,g4⟩
 ·rw [h1]
  refine .inr ⟨s1,by simp,h3,h2.down,h2.back hw hlen fun qs hq=>.inl ⟨ns,hD.part hq⟩⟩
theorem inBody_facts (hN:64≤N) {ws:List Wr} (hl:ws.length≤24) (hw:∀ w∈ws,w.2.length=128):∀ w∈inBodyL ws,(0≤w.1∧w.1<N∧w.2.length=128)∧2≤w.1∧w.1<26:=by
 intro w h
 obtain ⟨i,hi⟩:=List.getElem?_of_mem h
 unfold inBodyL at hi
 rw [List.getElem?_mapIdx] at hi
 cases hn:ws[i]? with
 | none=>simp [hn] at hi
 | some x =>
  simp only [hn,Option.map_some,Option.some.injEq] at hi
  subst hi
  have:i<ws.length:=(List.getElem?_eq_some_iff.1 hn).1
  have h2:=hw x (List.mem_of_getElem? hn)
  exact ⟨⟨by show (0:Int)≤2+(i:Int);omega,by show 2+(i:Int)<(N:Int);omega,h2⟩,by show (2:Int)≤2+(i:Int);omega,by show 2+(i:Int)<26;omega⟩
theorem lay_body {ws:List Wr} (k:Nat) (L:Secs2) (hl:k+ws.length+2≤L.length):∀ {i:Nat} {x:Wr},ws[i]?=some x→(lay L (toW (ws.mapIdx fun i w=>(2+((k+i:Nat):Int),w.2))))[2+(k+i)]?=some x.2:=by
 induction ws generalizing k L with
 | nil=>intro i x h;simp at h
 | cons w r ih =>
  intro i x h
  have e:((w :: r).mapIdx fun i w=>((2+((k+i:Nat):Int),w.2):Wr))=(2+((k:Nat):Int),w.2) :: r.mapIdx fun i w=>(2+((k+1+i:Nat):Int),w.2):=by
   rw [List.mapIdx_cons]
   congr 1
   apply congrArg (fun f=>r.mapIdx f)
   funext i w
   rw [show k+(i+1)=k+1+i by omega]
  rw [e]
  simp only [List.length_cons] at hl
  show (lay (L.set (2+(k:Int)).toNat w.2) (toW _))[_]?=_
  have ek:(2+(k:Int)).toNat=2+k:=by omega
  rw [ek]
  cases i with
  | zero =>
   simp only [List.getElem?_cons_zero,Option.some.injEq] at h
   subst h
   rw [lay_not,Nat.add_zero,List.getElem?_set_self (by omega)]
   intro p hp
   simp only [toW,List.mem_map] at hp
   obtain ⟨v,hv,rfl⟩:=hp
   obtain ⟨j,hj⟩:=List.getElem?_of_mem hv
   rw [List.getElem?_mapIdx] at hj
   cases hn:r[j]? with
   | none=>simp [hn] at hj
   | some y =>
    simp only [hn,Option.map_some,Option.some.injEq] at hj
    subst hj
    show (2+((k+1+j:Nat):Int)).toNat≠_
    omega
  | succ i =>
   have h':r[i]?=some x:=by simpa using h
   have:=ih (k+1) (L.set (2+k) w.2) (by rw [List.length_set];omega) h'
   rw [show k+(i+1)=k+1+i by omega]
   exact this
theorem bodyL_of {ws:List Wr} (h:∀ i x,ws[i]?=some x→L[2+i]?=some x.2):bodyL L (ws.map (·.1))=ws:=by
 apply List.ext_getElem?
 intro i
 unfold bodyL
 rw [List.getElem?_mapIdx,List.getElem?_map]
 cases hn:ws[i]? with
 | none=>rfl
 | some x =>
  simp only [Option.map_some]
  rw [h i x hn]
  rfl
theorem fit_facts {ws:List Wr} (h:fit N ws=true):good (ws.map (·.1))=true∧withinL N (ws.map (·.1))=true∧(∀ w∈ws,w.2.length=128)∧ws.length≤24:=by
 have h0:good (ws.map (·.1))=true∧withinL N (ws.map (·.1))=true∧wholeL ws=true:=by
  unfold fit at h
  simpa using h
 refine ⟨h0.1,h0.2.1,fun w hw=>?_,by have:=(good_iff.1 h0.1).1;simpa using this⟩
 have:=List.all_eq_true.1 h0.2.2 w hw
 simpa using this
theorem commit_den (hN:64≤N) {ws:List Wr} (hO:OnS N s X) (hX:X.length=N) (hf:fit N ws=true) (hne:ws≠[]) :
  (∃ s',s.commit N ws=(0,s')∧OnS N s' (lay X (toW ws))∧s'.fused=s.fused)∨(∃ s',s.commit N ws=(11,s')∧s.fused=true∧s'.down=true∧Back N s' X (lay X (toW ws))):=by
 obtain ⟨L,hR,hw,hD⟩:=hO
 obtain ⟨hg,hin,h128,h24⟩:=fit_facts hf
 have hcom:s.commit N ws=s.log N ws:=by
  unfold DS.commit
  rw [hR.now,hD.head,Option.getD_some,isHd_hd good_nil]
  simp [hne,hf,hR.down]
 rw [hcom]
 unfold DS.log
 have hib:=inBody_facts hN h24 h128
 have hiblen:=toW_len fun w h=>(hib w h).1.2.2
 have hlog:∀ p∈toW (inBodyL ws),inLog p.1∧p.1≠1:=by
  intro p hp
  simp only [toW,List.mem_map] at hp
  obtain ⟨w,hw,rfl⟩:=hp
  have:=(hib w hw).2
  exact ⟨⟨by omega,by omega⟩,by omega⟩
 have hpart:∀ qs,(∀ q∈qs,q∈toW (inBodyL ws))→DenN N (lay L qs) [] X:=fun qs hq =>
  DenN.empty (by rw [lay_not _ (fun q hq'=>(hlog q (hq q hq')).2)];exact hD.head) fun i h1 h2=>by
   rw [lay_not (i:=i) _ (fun q hq' e=>h2 (by rw [← e];exact (hlog q (hq q hq')).1))]
   exact hD.plain h1 h2
 rcases lasts_cases hR (fit0 fun w h=>(hib w h).1) with ⟨s1,h1,h2,h3⟩ | ⟨s1,h1,h2,h3⟩
 ·rw [h1]
  simp only [if_true]
  have hw1:=hw.lay hiblen
  have hD1:=hpart _ fun q hq=>hq
  have hbody:∀ i x,ws[i]?=some x→(lay L (toW (inBodyL ws)))[2+i]?=some x.2:=fun i x hx=>by
   have:=lay_body 0 L (by rw [hw.len];omega) hx
   simp only [Nat.zero_add] at this
   exact this
  generalize lay L (toW (inBodyL ws))=L1 at *
  have hD2:DenN N (L1.set 1 (hd (ws.map (·.1)))) (ws.map (·.1)) (lay X (toW ws)):=by
   have hb:bodyL (L1.set 1 (hd (ws.map (·.1)))) (ws.map (·.1))=ws:=bodyL_of fun i x hx=>by
    rw [List.getElem?_set_ne (by omega)];exact hbody i x hx
   refine ⟨hg,hin,by rw [List.getElem?_set_self (by rw [hw1.len];omega)],fun i g1 g2=>?_⟩
   rw [hb]
   refine lay_congr (by rw [List.length_set,hw1.len,hX]) ?_
   rw [List.getElem?_set_ne (fun e=>g2 ⟨by omega,by omega⟩)]
   exact hD1.plain g1 g2
  have hb2:bodyL (L1.set 1 (hd (ws.map (·.1)))) (ws.map (·.1))=ws:=bodyL_of fun i x hx=>by
   rw [List.getElem?_set_ne (by omega)];exact hbody i x hx
  rcases lasts_cases (ws:=[(1,hd (ws.map (·.1)))]) h2 (hd_fit hN hg) with ⟨s2,k1,k2,k3⟩ | ⟨s2,k1,k2,k3⟩
  ·have k1':s1.head N (ws.map (·.1))=(0,s2):=k1
   rw [k1']
   simp only [if_true]
   have:=apply_den hN k2 (set_head hN hw1 hg) hD2
   rw [show (lay L1 (toW [(1,hd (ws.map (·.1)))]))=L1.set 1 (hd (ws.map (·.1))) from rfl,hb2] at this
   rcases this with ⟨s',g1,g2,g3⟩ | ⟨s',g1,g2,g3,g4⟩
   ·exact .inl ⟨s',g1,g2,g3.trans (k3.trans h3)⟩
   ·refine .inr ⟨s',g1,by rw [← h3,← k3];exact g2,g3,fun keep=>?_⟩
    obtain ⟨L',a,b,c,d⟩:=g4 keep
    exact ⟨L',a,b,c,.inr (d.elim id id)⟩
  ·have k1':s1.head N (ws.map (·.1))=(11,s2):=k1
   rw [k1']
   refine .inr ⟨s2,by simp,by rw [← h3];exact k3,k2.down,k2.back hw1 (fun p hp=>?_) fun qs hq=>?_⟩
   ·simp only [toW,List.map_cons,List.map_nil,List.mem_singleton] at hp
    subst hp
    exact hd_len (good_iff.1 hg).1
   ·rcases sub_one hq L1 with e | e
    ·rw [e];exact .inl ⟨_,hD1⟩
    ·rw [e];exact .inr ⟨_,hD2⟩
 ·rw [h1]
  exact .inr ⟨s1,by simp,h3,h2.down,h2.back hw hiblen fun qs hq=>.inl ⟨_,hpart qs hq⟩⟩
theorem OnS.back (h:OnS N s X):Back N s X X:=fun keep=>by
 obtain ⟨L,hR,hw,hD⟩:=h
 obtain ⟨h1,h2⟩:=hR.again keep
 exact ⟨L,h1,h2,hw,.inl ⟨_,hD⟩⟩
theorem OnS.recover (hN:64≤N) (h:OnS N s X):s.recover N=(0,s):=by
 obtain ⟨L,hR,hw,hD⟩:=h
 have hset:s.settle=(0,s):=by simp [DS.settle,hR.down,hR.now,hR.las]
 unfold DS.recover
 rw [hR.now,hD.head,Option.getD_some,isHd_hd good_nil]
 simp [hR.down,withinL,DS.finish,hset]
end
end Go.Proofs.YtkganhafbjgndaaGreatRR
namespace Go.Proofs.YtkganhafbjgndaaGreatRR
open Go.RowKit
set_option linter.unusedVariables false
theorem commit_any {w:World} {d:Nat} {O:List Nat} {N:Nat} {s:DS} {M:Nat→Prop} {A:Option Addr} {n c:Nat} {ws:List Wr} (h:Drv w d O N s)
  (hW:Wrs w M A n c ws) (hM:Free w O M) (hn:n * 8≤140737488355328) (hsn:s.down=false→s.since.length≤1000000)
  (ho:s.down=false→∀ ns,isHd (s.now[1]?.getD [])=some ns→ns=[]) :
  Calls Tryz.prog 38 #[.pointer (some ⟨d,0,none⟩),.slice A n c] w fun e w'=>e=.returned (.int .i64 (s.commit N ws).1)∧Did w d O N (s.commit N ws).2 w':=by
 by_cases hn0:n=0
 ·subst hn0
  obtain rfl:ws=[]:=List.length_eq_zero_iff.1 hW.len
  refine (commit_none (p:=none) d w).mono ?_
  rintro e w' ⟨rfl,rfl⟩
  exact ⟨rfl,Did.mk h (Chg.refl _ _)⟩
 ·cases hf:fit N ws with
  | true=>exact commit_fit h hW hM hn0 hf hsn ho
  | false =>
   refine (commit_bad h hW hM hn0 hn hf).mono ?_
   rintro e w' ⟨rfl,hb⟩
   have hne:¬ ws=[]:=fun e=>hn0 (by rw [← hW.len,e];rfl)
   have:s.commit N ws=(1,s):=by simp [DS.commit,hne,hf]
   rw [this]
   exact ⟨rfl,Did.below h hb⟩
theorem OnS.left {N:Nat} {s:DS} {X:Secs2} (h:OnS N s X):∀ ns,isHd (s.now[1]?.getD [])=some ns→ns=[]:=by
 obtain ⟨L,hR,hw,hD⟩:=h
 intro ns hns
 rw [hR.now,hD.head,Option.getD_some,isHd_hd good_nil] at hns
 exact (Option.some.inj hns).symm
theorem OnS.since {N:Nat} {s:DS} {X:Secs2} (h:OnS N s X):s.since=[]:=by
 obtain ⟨L,hR,hw,hD⟩:=h
 exact hR.since
theorem OnS.down {N:Nat} {s:DS} {X:Secs2} (h:OnS N s X):s.down=false:=by
 obtain ⟨L,hR,hw,hD⟩:=h
 exact hR.down
structure Ons (w0 w:World) (d:Nat) (O:List Nat) (N:Nat) (s:DS) (X:Secs2):Prop where
 sit:Sit w0 w d O N s
 on:OnS N s X
 len:X.length=N
 free:s.fused=false
def Onw (w0 w:World) (d:Nat) (O:List Nat) (N:Nat) (X:Secs2) (w':World):Prop:=∃ O' s',Ons w0 w' d O' N s' X∧Chg O w w'∧∀ b∈O',b∈O∨w.heap.size≤b
section
variable {w0 w w':World} {d N n c:Nat} {O:List Nat} {s:DS} {X:Secs2} {M:Nat→Prop} {A:Option Addr} {ws:List Wr}
theorem Ons.n64 (h:Ons w0 w d O N s X):64≤N:=h.sit.drv.n64.1
theorem Ons.below (h:Ons w0 w d O N s X) (hb:Below w.heap.size w w'):Ons w0 w' d O N s X:=⟨h.sit.below hb,h.on,h.len,h.free⟩
theorem commitO (h:Ons w0 w d O N s X) (hW:Wrs w M A n c ws) (hM:Free w O M) (hf:fit N ws=true) :
  Calls Tryz.prog 38 #[.pointer (some ⟨d,0,none⟩),.slice A n c] w fun e w'=>e=.returned (.int .i64 0)∧Onw w0 w d O N (lay X (toW ws)) w':=by
 have h24:=(fit_facts hf).2.2.2
 have hl:=hW.len
 refine (commit_any h.sit.drv hW hM (by omega) (fun _=>by rw [h.on.since];simp) (fun _=>h.on.left)).mono ?_
 rintro e w' ⟨rfl,hd⟩
 have hlen:(lay X (toW ws)).length=N:=by rw [lay_len,h.len]
 by_cases hne:ws=[]
 ·subst hne
  have:s.commit N []=(0,s):=by simp [DS.commit]
  rw [this] at hd ⊢
  obtain ⟨O',h1,h2,h3⟩:=h.sit.did hd
  exact ⟨rfl,O',s,⟨h1,h.on,h.len,h.free⟩,h2,h3⟩
 ·rcases commit_den h.n64 h.on h.len hf hne with ⟨s',e1,e2,e3⟩ | ⟨s',e1,e2,_⟩
  ·rw [e1] at hd ⊢
   obtain ⟨O',h1,h2,h3⟩:=h.sit.did hd
   exact ⟨rfl,O',s',⟨h1,e2,hlen,e3.trans h.free⟩,h2,h3⟩
  ·rw [h.free] at e2;cases e2
end
def X0 (N:Nat):Secs2:=(List.replicate N zeros).set 1 (hd [])
def begS (N:Nat):DS:=⟨X0 N,X0 N,[],false,0,false⟩
theorem beg_put {N:Nat} (hN:64≤N):(newS N).put N [(1,hd [])]=(0,⟨X0 N,List.replicate N zeros,[(1,hd [])],false,0,false⟩):=by
 rw [put_free rfl rfl (hd_fit hN good_nil)]
 rfl
theorem beg_flush (N:Nat):(⟨X0 N,List.replicate N zeros,[(1,hd [])],false,0,false⟩:DS).flush=(0,begS N):=by
 rw [flush_free rfl rfl]
 rfl
theorem beg_on {N:Nat} (hN:64≤N):OnS N (begS N) (X0 N):=by
 refine ⟨X0 N,⟨rfl,rfl,rfl,rfl,fun h=>by cases h⟩,?_,DenN.empty ?_ fun i _ _=>rfl⟩
 ·exact set_head hN ⟨by simp,fun x hx=>by rw [List.eq_of_mem_replicate hx];exact zeros_len⟩ good_nil
 ·unfold X0
  rw [List.getElem?_set_self (by simp;omega)]
def BegP (N:Nat) (w:World) (e:Ending) (w':World):Prop:=∃ d O,e=.returned (.pointer (some ⟨d,0,none⟩))∧Ons w w' d O N (begS N) (X0 N)
end Go.Proofs.YtkganhafbjgndaaGreatRR
