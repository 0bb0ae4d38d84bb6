/- Plain mathematics: names, the parts of a path, what is split and joined. -/
import Derived.Lib.Join
import Derived.Lib.IndexMore
import Derived.Test.YtkganhafbjgndaaGreatRRRows
import Derived.WalkKit
import Derived.ProofKit
import Derived.Below
import Derived.Laws.OwnMore
import Derived.Laws.IdiomStrings
import Derived.Laws.BytesArg
import Derived.Maps.AppendAt
import Derived.Deep.AppendLies
import Derived.Lib.Hide
import Derived.BigQuiet
import Derived.Deep.QuietTactic
import Derived.Lib.Strings
import Derived.Deep.Draws
import Derived.Shelf.Strings.OnBuilder
import Derived.Shelf.Small.Wraps
import Derived.Shelf.Strings.Search2
import Derived.Shelf.Slices.Equal
import Derived.Shelf.Slices.Empties2
import Derived.Test.YtkganhafbjgndaaGreatRRProg
import Derived.Laws.Strings3
import Derived.WalkMore
import Derived.ScopeJumps
import Derived.Deep.DrawnRows
import Derived.Lib.AppendZeros
namespace Go.Proofs.YtkganhafbjgndaaGreatRR.P
def signB (b:UInt8):Bool:=(decide (97≤b) && decide (b≤122)) || (decide (65≤b) && decide (b≤90)) || (decide (48≤b) && decide (b≤57)) || b == 46 || b == 95 || b == 45
def nameB (l:List UInt8):Bool:=decide (1≤l.length) && decide (l.length≤24) && l != [46] && l != [46,46] && l.all signB
def parts:List UInt8→List (List UInt8)
 | []=>[[]]
 | c :: r=>if c=47 then [] :: parts r else match parts r with
  | []=>[[c]]
  | p :: ps=>(c :: p) :: ps
def goes:List (List UInt8)→List (List UInt8)→List (List UInt8) × Int
 | ns,[]=>(ns,0)
 | ns,p :: ps=>if p=[46,46] then goes ns.dropLast ps else if p=[]∨p=[46] then goes ns ps else if nameB p=false then ([],6) else if ns.length=8 then ([],4) else goes (ns++[p]) ps
def split (s:List UInt8):List (List UInt8) × Int :=
 if 96<s.length then ([],17) else match s with
  | []=>([],5)
  | c :: r=>if c=47 then goes [] (parts r) else ([],5)
def joinT (ns:List (List UInt8)):List UInt8:=ns.flatMap (47 :: ·)
def joinL (ns:List (List UInt8)):List UInt8:=if ns=[] then [47] else joinT ns
def joinE (ns:List (List UInt8)):Int:=if 8<ns.length then 4 else if ns.all nameB=false then 6 else if 96<(joinL ns).length then 17 else 0
def joinS (ns:List (List UInt8)):List UInt8:=if joinE ns=0 then joinL ns else []
theorem parts_none {p:List UInt8} (h:47∉p):parts p=[p]:=by
 induction p with
 | nil=>rfl
 | cons c r ih =>
  have h1:c≠47:=fun e=>h (by simp [e])
  have h2:47∉r:=fun e=>h (by simp [e])
  simp [parts,h1,ih h2]
theorem parts_cut {p r:List UInt8} (h:47∉p):parts (p++47 :: r)=p :: parts r:=by
 induction p with
 | nil=>simp [parts]
 | cons c q ih =>
  have h1:c≠47:=fun e=>h (by simp [e])
  have h2:47∉q:=fun e=>h (by simp [e])
  simp [parts,h1,ih h2]
theorem parts_ne (l:List UInt8):parts l≠[]:=by
 cases l with
 | nil=>simp [parts]
 | cons c r =>
  simp only [parts]
  split
  ·simp
  ·split<;>simp
theorem parts_len (l:List UInt8):(joinT (parts l)).length=l.length+1:=by
 induction l with
 | nil=>rfl
 | cons c r ih =>
  by_cases h:c=47
  ·simp only [parts,h,if_true]
   simp only [joinT,List.flatMap_cons,List.length_append,List.length_cons,List.length_nil] at ih ⊢
   omega
  ·obtain ⟨p,ps,e⟩:∃ p ps,parts r=p :: ps:=by
    cases e:parts r with
    | nil=>exact absurd e (parts_ne r)
    | cons p ps=>exact ⟨p,ps,rfl⟩
   rw [e] at ih
   simp only [parts,h,if_false,e]
   simp only [joinT,List.flatMap_cons,List.length_append,List.length_cons] at ih ⊢
   omega
theorem sign47:signB 47=false:=by decide
theorem name_parts {p:List UInt8} (h:nameB p=true):47∉p∧p≠[]∧p≠[46]∧p≠[46,46]∧p.length≤24:=by
 simp only [nameB,Bool.and_eq_true,decide_eq_true_eq,bne_iff_ne] at h
 obtain ⟨⟨⟨⟨h1,h2⟩,h3⟩,h4⟩,h5⟩:=h
 refine ⟨fun hm=>?_,fun e=>by simp [e] at h1,h3,h4,h2⟩
 have:=List.all_eq_true.1 h5 _ hm
 rw [sign47] at this
 cases this
theorem goes_name {ns ps:List (List UInt8)} {p:List UInt8} (hp:nameB p=true) (hn:ns.length≠8):goes ns (p :: ps)=goes (ns++[p]) ps:=by
 obtain ⟨_,h1,h2,h3,_⟩:=name_parts hp
 simp [goes,h1,h2,h3,hp,hn]
theorem goes_up {ns ps:List (List UInt8)}:goes ns ([46,46] :: ps)=goes ns.dropLast ps:=by simp [goes]
theorem goes_skip {ns ps:List (List UInt8)} {p:List UInt8} (h1:¬ p=[46,46]) (h2:p=[]∨p=[46]):goes ns (p :: ps)=goes ns ps:=by simp [goes,h1,h2]
theorem goes_bad {ns ps:List (List UInt8)} {p:List UInt8} (h1:¬ p=[46,46]) (h2:¬ (p=[]∨p=[46])) (h3:nameB p=false):goes ns (p :: ps)=([],6):=by simp [goes,h1,h2,h3]
theorem goes_deep {ns ps:List (List UInt8)} {p:List UInt8} (h1:¬ p=[46,46]) (h2:¬ (p=[]∨p=[46])) (h3:nameB p=true) (h4:ns.length=8):goes ns (p :: ps)=([],4):=by simp [goes,h1,h2,h3,h4]
theorem goes_keeps:∀ (ps ns:List (List UInt8)),ns.all nameB=true→ns.length≤8→(goes ns ps).1.all nameB=true∧(goes ns ps).1.length≤8
 | [],ns,h,hl=>⟨h,hl⟩
 | p :: ps,ns,h,hl=>by
  have hd:ns.dropLast.all nameB=true:=by
   rw [List.all_eq_true] at h ⊢
   exact fun x hx=>h x (List.dropLast_subset _ hx)
  by_cases h1:p=[46,46]
  ·simp only [goes,h1,if_true]
   exact goes_keeps ps _ hd (by rw [List.length_dropLast];omega)
  by_cases h2:p=[]∨p=[46]
  ·simp only [goes,h1,h2,if_true,if_false]
   exact goes_keeps ps _ h hl
  by_cases h3:nameB p=false
  ·simp only [goes,h1,h2,h3,if_true,if_false]
   exact ⟨rfl,by simp⟩
  by_cases h4:ns.length=8
  ·simp only [goes,h1,h2,h3,h4,if_true,if_false]
   exact ⟨rfl,by simp⟩
  ·rw [goes_name (by simpa using h3) h4]
   refine goes_keeps ps _ ?_ (by simp;omega)
   rw [List.all_append,h]
   simpa using h3
theorem joinT_dropLast (ns:List (List UInt8)):(joinT ns.dropLast).length≤(joinT ns).length:=by
 rcases List.eq_nil_or_concat ns with rfl | ⟨l,x,rfl⟩
 ·simp
 ·simp [joinT]
theorem goes_len:∀ (ps ns:List (List UInt8)),(joinT (goes ns ps).1).length≤(joinT ns).length+(joinT ps).length
 | [],ns=>by simp [goes]
 | p :: ps,ns=>by
  have hp:(joinT (p :: ps)).length=p.length+1+(joinT ps).length:=by simp [joinT];omega
  rw [hp]
  by_cases h1:p=[46,46]
  ·simp only [goes,h1,if_true]
   have:=goes_len ps ns.dropLast
   have:=joinT_dropLast ns
   omega
  by_cases h2:p=[]∨p=[46]
  ·simp only [goes,h1,h2,if_true,if_false]
   have:=goes_len ps ns
   omega
  by_cases h3:nameB p=false
  ·simp only [goes,h1,h2,h3,if_true,if_false]
   simp [joinT]
  by_cases h4:ns.length=8
  ·simp only [goes,h1,h2,h3,h4,if_true,if_false]
   simp [joinT]
  ·rw [goes_name (by simpa using h3) h4]
   have:=goes_len ps (ns++[p])
   have e:(joinT (ns++[p])).length=(joinT ns).length+(p.length+1):=by simp [joinT]
   omega
theorem goes_all:∀ (ps ns:List (List UInt8)),ps.all nameB=true→ns.length+ps.length≤8→goes ns ps=(ns++ps,0)
 | [],ns,_,_=>by simp [goes]
 | p :: ps,ns,h,hl=>by
  simp only [List.all_cons,Bool.and_eq_true] at h
  simp only [List.length_cons] at hl
  rw [goes_name h.1 (by omega),goes_all ps _ h.2 (by simp;omega)]
  simp
theorem parts_joinT:∀ (ps:List (List UInt8)) (p:List UInt8),47∉p→ps.all nameB=true→parts (p++joinT ps)=p :: ps
 | [],p,h,_=>by simp [joinT,parts_none h]
 | q :: ps,p,h,hq=>by
  simp only [List.all_cons,Bool.and_eq_true] at hq
  have e:p++joinT (q :: ps)=p++47 :: (q++joinT ps):=by simp [joinT]
  rw [e,parts_cut h,parts_joinT ps q (name_parts hq.1).1 hq.2]
theorem split_good (s:List UInt8):(split s).1.all nameB=true∧(split s).1.length≤8:=by
 unfold split
 split
 ·exact ⟨rfl,by simp⟩
 ·split
  ·exact ⟨rfl,by simp⟩
  ·split
   ·exact goes_keeps _ _ rfl (by simp)
   ·exact ⟨rfl,by simp⟩
theorem split_len (s:List UInt8) (h:(split s).2=0):(joinL (split s).1).length≤s.length∧s.length≤96:=by
 unfold split at h ⊢
 split at h
 ·cases h
 ·rename_i hl
  rw [if_neg hl]
  refine ⟨?_,by omega⟩
  split at h
  ·cases h
  ·rename_i c r
   split at h
   ·rename_i hc
    simp only [hc,if_true]
    have h1:=goes_len (parts r) []
    have h2:=parts_len r
    have h3:(joinT []).length=0:=rfl
    unfold joinL
    split
    ·simp
    ·simp only [List.length_cons]
     omega
   ·cases h
theorem split_joinL (ns:List (List UInt8)) (h:ns.all nameB=true) (hl:ns.length≤8) (hj:(joinL ns).length≤96):split (joinL ns)=(ns,0):=by
 cases ns with
 | nil=>decide
 | cons p ps =>
  have h0:=h
  simp only [List.all_cons,Bool.and_eq_true] at h
  have e:joinL (p :: ps)=47 :: (p++joinT ps):=by simp [joinL,joinT]
  rw [e] at hj ⊢
  unfold split
  rw [if_neg (by omega)]
  simp only [if_true]
  rw [parts_joinT ps p (name_parts h.1).1 h.2,goes_all _ _ h0 (by simpa using hl)]
  simp
def withinB (a b:List (List UInt8)):Bool:=decide (b.length<a.length) && (a.take b.length == b)
theorem join_eq (ns:List (List UInt8)):47 :: Lib.join ns [47]=joinL ns:=by
 cases ns with
 | nil=>rfl
 | cons p ps =>
  rw [Lib.join_cons]
  simp [joinL,joinT,Lib.joinTail,List.flatMap]
end Go.Proofs.YtkganhafbjgndaaGreatRR.P
namespace Go.Proofs.YtkganhafbjgndaaGreatRR.P
open Go.RowKit
set_option linter.unusedVariables false
theorem retb {a b:Bool} (h:a=b):Ending.returned (.bool a)=.returned (.bool b):=by rw [h]
theorem u8le (a b:UInt8):(a≤b) ↔ ((a.toNat:Int)≤(b.toNat:Int)):=by rw [UInt8.le_iff_toNat_le];omega
theorem u8eq (a b:UInt8):(a=b) ↔ ((a.toNat:Int)=(b.toNat:Int)):=by rw [← UInt8.toNat_inj];omega
set_option maxHeartbeats 1000000 in
theorem barred_any (c:UInt8) (w:World):Calls Tryz.prog 185 #[.int .u8 (c.toNat:Int)] w fun e w'=>e=.returned (.bool (!signB c))∧w=w':=by
 have e:signB c=(decide ((97:Int)≤(c.toNat:Int)) && decide ((c.toNat:Int)≤122) || decide ((65:Int)≤(c.toNat:Int)) && decide ((c.toNat:Int)≤90) || decide ((48:Int)≤(c.toNat:Int)) && decide ((c.toNat:Int)≤57) || decide ((c.toNat:Int)=46) || decide ((c.toNat:Int)=95) || decide ((c.toNat:Int)=45)):=by
  unfold signB
  rw [Bool.eq_iff_iff]
  simp [u8le,u8eq]
 have E:=Lib.hid e
 clear e
 generalize (c.toNat:Int)=z at *
 go_enter Tryz.func185,Tryz.ntmps185
 go_wp2
 all_goals
  go_ret
  rw [E.out]
  exact ⟨retb (by rw [Bool.eq_iff_iff];simp<;>omega),rfl⟩
end Go.Proofs.YtkganhafbjgndaaGreatRR.P
namespace Go.Proofs.YtkganhafbjgndaaGreatRR.P
open Go.RowKit
set_option linter.unusedVariables false
set_option maxRecDepth 20000
theorem name_short {s:ByteArray} (h:¬ 1≤s.size):nameB s.data.toList=false:=by
 rw [Lib.size_eq] at h
 generalize s.data.toList=l at *
 simp [nameB]
 omega
theorem name_long {s:ByteArray} (h:¬ s.size≤24):nameB s.data.toList=false:=by
 rw [Lib.size_eq] at h
 generalize s.data.toList=l at *
 simp [nameB]
 omega
theorem name_dot {s:ByteArray} (h:s.toList=[46]):nameB s.data.toList=false:=by
 rw [← Lib.toList_data,h]
 decide
theorem name_dots {s:ByteArray} (h:s.toList=[46,46]):nameB s.data.toList=false:=by
 rw [← Lib.toList_data,h]
 decide
theorem name_rest {s:ByteArray} (h1:1≤s.size) (h2:s.size≤24) (h3:¬ s.toList=[46]) (h4:¬ s.toList=[46,46]):nameB s.data.toList=s.data.toList.all signB:=by
 rw [Lib.size_eq] at h1 h2
 rw [Lib.toList_data] at h3 h4
 generalize s.data.toList=l at *
 simp [nameB,h1,h2,h3,h4]
theorem all_take {s:ByteArray} {k:Nat} (h:k<s.size):(s.data.toList.take (k+1)).all signB=((s.data.toList.take k).all signB && signB s[k]):=by
 rw [List.take_succ_eq_append_getElem (by simpa using h),List.all_append]
 simp
 rfl
theorem all_not {s:ByteArray} {k:Nat} (h:k<s.size) (hk:signB s[k]=false):s.data.toList.all signB=false:=by
 rw [List.all_eq_false]
 refine ⟨s[k],?_,by simp [hk]⟩
 exact List.getElem_mem (by simpa using h)
theorem all_done {s:ByteArray} {k:Nat} (h:¬ k<s.size) (hk:(s.data.toList.take k).all signB=true):s.data.toList.all signB=true:=by
 rwa [List.take_of_length_le (by rw [← Lib.size_eq];omega)] at hk
def Byt (w:World) (g:Nat) (s:ByteArray):Prop:=∀ k (h:k<s.size),w.cell? ⟨g,k,none⟩=some (.int .u8 ((s[k]'h).toNat:Int))
def allB (s:ByteArray):Bool:=s.data.toList.all signB
def IndexPost (s:ByteArray) (w:World) (e:Ending) (w':World):Prop:=∃ z:Int,e=.returned (.int .i64 z)∧-1≤z∧z≤24∧(0≤z ↔ allB s=false)∧w=w'
set_option maxHeartbeats 1000000 in
theorem indexFunc_any (s:ByteArray) (g c:Nat) (w:World) (hs:s.size≤24) (hc:Byt w g s):Calls Tryz.prog 124 #[.slice (some ⟨g,0,none⟩) s.size c,.func (.func 185) #[] #[]] w (IndexPost s w):=by
 have HC:=Lib.hid hc
 clear hc
 go_enter Tryz.func124,Tryz.ntmps124
 go_wp2
 go_loop [8] (fun i=>∃ k:Nat,k≤s.size∧i=.int .i64 k∧Hid ((s.data.toList.take k).all signB=true)) (fun i=>s.size - (intOf i).toNat)
 case atStart=>exact ⟨0,Nat.zero_le _,rfl,rfl⟩
 case round =>
  obtain ⟨k,hk,rfl,HA⟩:=hrel
  by_cases hlt:k<s.size
  ·have HT:=Lib.hid (all_take hlt)
   have hcell:=HC.out k hlt
   by_cases hs:signB s[k]=true
   ·go_wp2_with (go_at_call 185;refine (barred_any _ _).mono ?_;rintro e w' ⟨rfl,rfl⟩)
    go_round
    case rel=>exact ⟨k+1,by omega,by go_num,show _=_ by rw [HT.out,HA.out,hs];rfl⟩
    case measure=>simp [intOf];omega
   ·have hs':signB s[k]=false:=by simpa using hs
    have HN:=Lib.hid (all_not hlt hs')
    go_wp2_with (go_at_call 185;refine (barred_any _ _).mono ?_;rintro e w' ⟨rfl,rfl⟩)
    go_ret
    exact ⟨_,rfl,by omega,by omega,by unfold allB;rw [HN.out];simp,rfl⟩
  ·have HD:=Lib.hid (all_done hlt HA.out)
   go_wp2
   go_ret
   exact ⟨_,rfl,by omega,by omega,by unfold allB;rw [HD.out];simp,rfl⟩
set_option maxHeartbeats 1000000 in
theorem containsFunc_any (s:ByteArray) (g c:Nat) (w:World) (hs:s.size≤24) (hc:Byt w g s):Calls Tryz.prog 89 #[.slice (some ⟨g,0,none⟩) s.size c,.func (.func 185) #[] #[]] w fun e w'=>e=.returned (.bool (!allB s))∧w=w':=by
 have HC:=Lib.hid hc
 clear hc
 go_enter Tryz.func89,Tryz.ntmps89
 go_wp2_with fail
 refine (indexFunc_any s g c w hs HC.out).mono ?_
 rintro e w' ⟨z,rfl,h1,h2,h3,rfl⟩
 have H3:=Lib.hid h3
 clear h3
 go_wp2
 go_ret
 refine ⟨retb ?_,rfl⟩
 cases h:allB s<;>simp [h,H3.out]
theorem conv_run (s:ByteArray) (w:World):∃ c w1,(convert 9 41 (.string s)).run Tryz.prog w=.ok (.slice (some ⟨w.heap.size,0,none⟩) s.size c) w1∧Byt w1 w.heap.size s∧Below w.heap.size w w1:=by
 refine ⟨_,_,run_bytes_of_string w 9 41 5 s Tryz.underlying9 Tryz.underlying41 Tryz.underlying5,fun k h=>?_,((Below.refl _ w).drew).alloc (Nat.le_refl _) _⟩
 have:=World.cell?_alloc_mark w.drew (bytesRow s (grownCap w s.size 0 5)) 5 ((bytesRow s (grownCap w s.size 0 5)).size,(bytesRow s (grownCap w s.size 0 5)).size+1) k
 exact this.trans (bytesRow_at s _ k h)
set_option maxHeartbeats 1000000 in
theorem pathName_any (s:ByteArray) (w:World):Calls Tryz.prog 153 #[.string s] w fun e w'=>e=.returned (.bool (nameB s.data.toList))∧Below w.heap.size w w':=by
 by_cases h1:1≤s.size
 ·by_cases h2:s.size≤24
  ·by_cases h3:s.toList=[46]
   ·have h3':=Lib.hid h3
    go_enter Tryz.func153,Tryz.ntmps153
    go_wp2
    go_ret
    exact ⟨retb (name_dot h3'.out).symm,Below.refl _ _⟩
   by_cases h4:s.toList=[46,46]
   ·have h4':=Lib.hid h4
    go_enter Tryz.func153,Tryz.ntmps153
    go_wp2
    go_ret
    exact ⟨retb (name_dots h4'.out).symm,Below.refl _ _⟩
   have HR:=Lib.hid (name_rest h1 h2 h3 h4)
   have h3':(s.toList == [46])=false:=by simpa using h3
   have h4':(s.toList == [46,46])=false:=by simpa using h4
   go_enter Tryz.func153,Tryz.ntmps153
   obtain ⟨c,w1,hr,hby,hb⟩:=conv_run s w
   have HY:=Lib.hid hby
   have HB:=Lib.hid hb
   clear hby hb
   go_wp2_with fail
   clear hr
   refine (containsFunc_any s _ c w1 h2 HY.out).mono ?_
   rintro e w' ⟨rfl,rfl⟩
   go_wp2
   go_ret
   exact ⟨retb (by rw [HR.out];simp [allB]),HB.out⟩
  ·have h2':decide ((24:Int)<s.size)=true:=by simp;omega
   go_enter Tryz.func153,Tryz.ntmps153
   go_wp2
   go_ret
   exact ⟨retb (name_long h2).symm,Below.refl _ _⟩
 ·go_enter Tryz.func153,Tryz.ntmps153
  go_wp2
  go_ret
  exact ⟨retb (name_short h1).symm,Below.refl _ _⟩
end Go.Proofs.YtkganhafbjgndaaGreatRR.P
namespace Go.Proofs.YtkganhafbjgndaaGreatRR.P
open Go.RowKit
set_option linter.unusedVariables false
def bs (l:List UInt8):ByteArray:=⟨l.toArray⟩
theorem bs_data (l:List UInt8):(bs l).data.toList=l:=rfl
theorem bs_list (l:List UInt8):(bs l).toList=l:=by rw [Lib.toList_data];rfl
theorem data_bs (s:ByteArray):bs s.data.toList=s:=Lib.mk_data s
theorem bs_size (l:List UInt8):(bs l).size=l.length:=by rw [Lib.size_eq];rfl
structure Strs (w:World) (B:Nat) (A:Option Addr) (n c:Nat) (l:List (List UInt8)):Prop where
 len:l.length=n
 cap:n≤c
 lim:c≤maxLen
 nil:A=none→c=0
 at_:0<n→∃ b off,A=some ⟨b,off,none⟩∧b<B∧∀ j,j<n→w.cell? ⟨b,off+j,none⟩=some (.string (bs (l[j]?.getD [])))
section
variable {w w':World} {B B' n c:Nat} {A:Option Addr} {l:List (List UInt8)}
theorem Strs.keep (h:Strs w B A n c l) (hk:∀ p:Addr,p.block<B→w'.cell? p=w.cell? p):Strs w' B A n c l :=
 ⟨h.len,h.cap,h.lim,h.nil,fun hn=>by
  obtain ⟨b,off,e,hb,hc⟩:=h.at_ hn
  exact ⟨b,off,e,hb,fun j hj=>(hk _ hb).trans (hc j hj)⟩⟩
theorem Strs.more (h:Strs w B A n c l) (hB:B≤B'):Strs w B' A n c l :=
 ⟨h.len,h.cap,h.lim,h.nil,fun hn=>by
  obtain ⟨b,off,e,hb,hc⟩:=h.at_ hn
  exact ⟨b,off,e,by omega,hc⟩⟩
theorem Strs.below (h:Strs w B A n c l) (hb:Below B w w'):Strs w' B A n c l:=h.keep fun _ hp=>hb.cell hp
theorem Strs.nil_ (w:World) (B:Nat):Strs w B none 0 0 []:=⟨rfl,Nat.le_refl _,by decide,fun _=>rfl,fun h=>absurd h (by omega)⟩
theorem Strs.cell (h:Strs w B A n c l) {k:Nat} (hk:k<n):∃ b off,A=some ⟨b,off,none⟩∧b<B∧w.cell? ⟨b,off+k,none⟩=some (.string (bs (l[k]?.getD []))):=by
 obtain ⟨b,off,e,hb,hc⟩:=h.at_ (by omega)
 exact ⟨b,off,e,hb,hc k hk⟩
theorem Strs.head (h:Strs w B A n c l) {s:Nat} (hs:s≤n):Strs w B A s c (l.take s) :=
 ⟨by rw [List.length_take,h.len];omega,Nat.le_trans hs h.cap,h.lim,h.nil,fun hn=>by
  obtain ⟨b,off,e,hb,hc⟩:=h.at_ (by omega)
  refine ⟨b,off,e,hb,fun j hj=>?_⟩
  rw [hc j (by omega),List.getElem?_take,if_pos hj]⟩
end
theorem below_drewN {B:Nat} {a w:World} (h:Below B a w) (n:Nat):Below B a (w.drewN n):=⟨h.os,h.tape,h.output,h.size,h.block⟩
theorem bs_app (a b:List UInt8):bs a++bs b=bs (a++b):=by
 rw [← data_bs (bs a++bs b)]
 congr 1
end Go.Proofs.YtkganhafbjgndaaGreatRR.P
namespace Go.Proofs.YtkganhafbjgndaaGreatRR.P
open Go.Shelf
def Tryz.lays156_ren:Go.Shelf.Ren:=⟨fun | 156=>159 | 165=>188 | 166=>189 | 169=>190 | 240=>223 | 241=>224 | 276=>243 | 277=>244 | n=>n,fun | 31=>36 | 9=>9 | 3=>3 | 4=>4 | 0=>0 | 20=>20 | 72=>257 | 76=>261 | 70=>255 | 37=>41 | 75=>260 | 127=>290 | 164=>302 | 5=>5 | 80=>263 | n=>n,fun | n=>n⟩
theorem Tryz.lays156:Go.Proofs.Lays.n156 Tryz.prog Tryz.lays156_ren:={
 mixed:=by kernel_rfl
 f156:=Tryz.func159.trans (congrArg some (by kernel_rfl))
 f165:=Tryz.func188.trans (congrArg some (by kernel_rfl))
 f166:=Tryz.func189.trans (congrArg some (by kernel_rfl))
 f169:=Tryz.func190.trans (congrArg some (by kernel_rfl))
 f240:=Tryz.func223.trans (congrArg some (by kernel_rfl))
 f241:=Tryz.func224.trans (congrArg some (by kernel_rfl))
 f276:=Tryz.func243.trans (congrArg some (by kernel_rfl))
 f277:=Tryz.func244.trans (congrArg some (by kernel_rfl))
 t0:=Tryz.underlying0
 a0:=Tryz.isAgg0
 z0:=Tryz.sizeOf0
 v0:=Tryz.zeroValue0
 t3:=Tryz.underlying3
 a3:=Tryz.isAgg3
 z3:=Tryz.sizeOf3
 v3:=Tryz.zeroValue3
 t4:=Tryz.underlying4
 a4:=Tryz.isAgg4
 z4:=Tryz.sizeOf4
 v4:=Tryz.zeroValue4
 t9:=Tryz.underlying9
 a9:=Tryz.isAgg9
 z9:=Tryz.sizeOf9
 v9:=Tryz.zeroValue9
 t20:=Tryz.underlying20
 a20:=Tryz.isAgg20
 z20:=Tryz.sizeOf20
 v20:=Tryz.zeroValue20
 t31:=Tryz.underlying36
 a31:=Tryz.isAgg36
 z31:=Tryz.sizeOf36
 v31:=Tryz.zeroValue36
 t37:=Tryz.underlying41
 a37:=Tryz.isAgg41
 z37:=Tryz.sizeOf41
 v37:=Tryz.zeroValue41
 t70:=Tryz.underlying255
 a70:=Tryz.isAgg255
 z70:=Tryz.sizeOf255
 v70:=Tryz.zeroValue255
 t72:=Tryz.underlying257
 a72:=Tryz.isAgg257
 z72:=Tryz.sizeOf257
 v72:=Tryz.zeroValue257
 t75:=Tryz.underlying260
 a75:=Tryz.isAgg260
 z75:=Tryz.sizeOf260
 v75:=Tryz.zeroValue260
 t76:=Tryz.underlying261
 a76:=Tryz.isAgg261
 z76:=Tryz.sizeOf261
 v76:=Tryz.zeroValue261
 t127:=Tryz.underlying290
 a127:=Tryz.isAgg290
 z127:=Tryz.sizeOf290
 v127:=Tryz.zeroValue290
 t164:=Tryz.underlying302
 a164:=Tryz.isAgg302
 z164:=Tryz.sizeOf302
 v164:=Tryz.zeroValue302 }
theorem Tryz.Builder_Extra_156:Builder.Extra Tryz.prog Tryz.lays156_ren:={
 sizeBuilder:=by kernel_rfl
 liesBuilder:=by kernel_rfl
 t5:=Tryz.underlying5
 a5:=Tryz.isAgg5
 z5:=Tryz.sizeOf5
 v5:=Tryz.zeroValue5
 infoByte:=by kernel_rfl
 cellsByte:=by kernel_rfl
 sizeByte:=by kernel_rfl
 neB5:=by decide }
open Go.RowKit in
theorem Tryz.strings_Join_none (a:Option Addr) (c:Nat) (sep:ByteArray) (w:World) :
  Calls Tryz.prog 159 #[.slice a 0 c,.string sep] w fun e w'=>e=.returned (.string ⟨#[]⟩)∧w'=w:=Any.strings_Join_none Tryz.lays156 Tryz.Builder_Extra_156 a c sep w
open Go.RowKit in
theorem Tryz.strings_Join (bk o c:Nat) (xs:List ByteArray) (sep:ByteArray) (w:World) (hcells:∀ (j:Nat) x,xs[j]?=some x→w.cell? ⟨bk,o+j,none⟩=some (.string x)) (hbk:bk<w.heap.size) (hN:xs.length≤140737488355328) (hcap:xs.length≤c) (hlen:(Lib.join (xs.map (·.data.toList)) sep.data.toList).length≤140737488355328) :
  Calls Tryz.prog 159 #[.slice (some ⟨bk,o,none⟩) xs.length c,.string sep] w fun e w'=>e=.returned (.string ⟨(Lib.join (xs.map (·.data.toList)) sep.data.toList).toArray⟩)∧Below w.heap.size w w':=Any.strings_Join Tryz.lays156 Tryz.Builder_Extra_156 bk o c xs sep w hcells hbk hN hcap hlen
def Tryz.lays103_ren:Go.Shelf.Ren:=⟨fun | 103=>151 | 210=>183 | 206=>220 | n=>n,fun | 9=>9 | 4=>4 | 24=>220 | 3=>3 | n=>n,fun | n=>n⟩
theorem Tryz.lays103:Go.Proofs.Lays.n103 Tryz.prog Tryz.lays103_ren:={
 mixed:=by kernel_rfl
 f103:=Tryz.func151.trans (congrArg some (by kernel_rfl))
 f206:=Tryz.func220.trans (congrArg some (by kernel_rfl))
 f210:=Tryz.func183.trans (congrArg some (by kernel_rfl))
 t3:=Tryz.underlying3
 a3:=Tryz.isAgg3
 z3:=Tryz.sizeOf3
 v3:=Tryz.zeroValue3
 t4:=Tryz.underlying4
 a4:=Tryz.isAgg4
 z4:=Tryz.sizeOf4
 v4:=Tryz.zeroValue4
 t9:=Tryz.underlying9
 a9:=Tryz.isAgg9
 z9:=Tryz.sizeOf9
 v9:=Tryz.zeroValue9
 t24:=Tryz.underlying220
 a24:=Tryz.isAgg220
 z24:=Tryz.sizeOf220
 v24:=Tryz.zeroValue220 }
open Go.RowKit in
theorem Tryz.strings_CutPrefix (s p:ByteArray) (w:World) :
  Calls Tryz.prog 151 #[.string s,.string p] w fun e w'=>e=.returned (.tuple #[.string ⟨(Lib.trimPrefix s.data.toList p.data.toList).toArray⟩,.bool (Lib.hasPrefix s.data.toList p.data.toList)])∧w'=w:=Any.strings_CutPrefix Tryz.lays103 s p w
def Tryz.lays219_ren:Go.Shelf.Ren:=⟨fun | 219=>221 | 217=>238 | 225=>239 | 224=>240 | 267=>241 | 266=>247 | 314=>248 | n=>n,fun | 9=>9 | 3=>3 | 4=>4 | 5=>5 | 46=>196 | 146=>308 | 51=>197 | n=>n,fun | 1=>0 | n=>n⟩
theorem Tryz.lays219:Go.Proofs.Lays.n219 Tryz.prog Tryz.lays219_ren:={
 mixed:=by kernel_rfl
 f217:=Tryz.func238.trans (congrArg some (by kernel_rfl))
 f219:=Tryz.func221.trans (congrArg some (by kernel_rfl))
 f224:=Tryz.func240.trans (congrArg some (by kernel_rfl))
 f225:=Tryz.func239.trans (congrArg some (by kernel_rfl))
 f266:=Tryz.func247.trans (congrArg some (by kernel_rfl))
 f267:=Tryz.func241.trans (congrArg some (by kernel_rfl))
 f314:=Tryz.func248.trans (congrArg some (by kernel_rfl))
 t3:=Tryz.underlying3
 a3:=Tryz.isAgg3
 z3:=Tryz.sizeOf3
 v3:=Tryz.zeroValue3
 t4:=Tryz.underlying4
 a4:=Tryz.isAgg4
 z4:=Tryz.sizeOf4
 v4:=Tryz.zeroValue4
 t5:=Tryz.underlying5
 a5:=Tryz.isAgg5
 z5:=Tryz.sizeOf5
 v5:=Tryz.zeroValue5
 t9:=Tryz.underlying9
 a9:=Tryz.isAgg9
 z9:=Tryz.sizeOf9
 v9:=Tryz.zeroValue9
 t46:=Tryz.underlying196
 a46:=Tryz.isAgg196
 z46:=Tryz.sizeOf196
 v46:=Tryz.zeroValue196
 t51:=Tryz.underlying197
 a51:=Tryz.isAgg197
 z51:=Tryz.sizeOf197
 v51:=Tryz.zeroValue197
 t146:=Tryz.underlying308
 a146:=Tryz.isAgg308
 z146:=Tryz.sizeOf308
 v146:=Tryz.zeroValue308
 g1:=by kernel_rfl }
open Go.RowKit Go.Lib in
theorem Tryz.stringslite_Index_one (s:ByteArray) (c:UInt8) (w:World) :
  Calls Tryz.prog 221 #[.string s,.string ⟨#[c]⟩] w fun e w'=>e=.returned (.int .i64 (Lib.indexByte s.data.toList c))∧w'=w:=Any.stringslite_Index_one Tryz.lays219 s c w
end Go.Proofs.YtkganhafbjgndaaGreatRR.P
namespace Go.Proofs.YtkganhafbjgndaaGreatRR.P
open Go.RowKit
set_option linter.unusedVariables false
theorem index_no {l:List UInt8} (h:47∉l):Lib.indexByte l 47 = -1:=by
 induction l with
 | nil=>rfl
 | cons c r ih =>
  have h1:c≠47:=fun e=>h (by simp [e])
  have h2:47∉r:=fun e=>h (by simp [e])
  simp [Lib.indexByte,h1,ih h2]
theorem index_yes {p r:List UInt8} (h:47∉p):Lib.indexByte (p++47 :: r) 47=p.length:=by
 induction p with
 | nil=>simp [Lib.indexByte]
 | cons c q ih =>
  have h1:c≠47:=fun e=>h (by simp [e])
  have h2:47∉q:=fun e=>h (by simp [e])
  have h3:¬ ((q.length:Int) = -1):=by omega
  simp [Lib.indexByte,h1,ih h2,h3]
theorem cut_parts (l:List UInt8) (h:47∈l):∃ p r,l=p++47 :: r∧47∉p:=by
 induction l with
 | nil=>cases h
 | cons c q ih =>
  by_cases hc:c=47
  ·exact ⟨[],q,by simp [hc],by simp⟩
  ·obtain ⟨p,r,e,hp⟩:=ih (by simpa [Ne.symm hc] using h)
   exact ⟨c :: p,r,by simp [e],by simp [Ne.symm hc,hp]⟩
set_option maxHeartbeats 1000000 in
theorem lcut_no (l:List UInt8) (w:World) (h:47∉l):Calls Tryz.prog 184 #[.string (bs l),.string ⟨#[47]⟩] w fun e w'=>e=.returned (.tuple #[.string (bs l),.string ⟨#[]⟩,.bool false])∧Below w.heap.size w w':=by
 have HI:Hid (Lib.indexByte (bs l).data.toList 47 = -1):=index_no h
 clear h
 go_enter Tryz.func184,Tryz.ntmps184
 go_wp2_with (go_at_call 221;refine (Tryz.stringslite_Index_one _ _ _).mono ?_;rintro e w' ⟨rfl,rfl⟩;rw [HI.out])
 go_ret3
 exact ⟨rfl,Below.refl _ _⟩
set_option maxHeartbeats 1000000 in
theorem cut_no (l:List UInt8) (w:World) (h:47∉l):Calls Tryz.prog 152 #[.string (bs l),.string ⟨#[47]⟩] w fun e w'=>e=.returned (.tuple #[.string (bs l),.string ⟨#[]⟩,.bool false])∧Below w.heap.size w w':=by
 go_enter Tryz.func152,Tryz.ntmps152
 go_wp2_with (go_at_call 184;refine (lcut_no _ _ h).mono ?_;rintro e w' ⟨rfl,hb⟩)
 go_ret3
 exact ⟨rfl,hb⟩
theorem cut_take (p r:List UInt8):(bs (p++47 :: r)).extract 0 p.length=bs p:=by
 rw [← data_bs ((bs (p++47 :: r)).extract 0 p.length)]
 congr 1
 rw [Lib.extract_data,bs_data]
 simp
theorem cut_drop (p r:List UInt8):(bs (p++47 :: r)).extract (p.length+1) (bs (p++47 :: r)).size=bs r:=by
 rw [← data_bs ((bs (p++47 :: r)).extract (p.length+1) (bs (p++47 :: r)).size)]
 congr 1
 rw [Lib.extract_data,bs_data,bs_size]
 simp
 exact List.take_of_length_le (by omega)
set_option maxHeartbeats 1000000 in
theorem lcut_yes (p r:List UInt8) (w:World) (h:47∉p) (hl:(p++47 :: r).length≤1000000):Calls Tryz.prog 184 #[.string (bs (p++47 :: r)),.string ⟨#[47]⟩] w fun e w'=>e=.returned (.tuple #[.string (bs p),.string (bs r),.bool true])∧Below w.heap.size w w':=by
 have HI:Hid (Lib.indexByte (bs (p++47 :: r)).data.toList 47=p.length):=index_yes h
 have H1:=Lib.hid (cut_take p r)
 have H2:=Lib.hid (cut_drop p r)
 have hsz:=bs_size (p++47 :: r)
 have hsz2:(p++47 :: r).length=p.length+1+r.length:=by simp;omega
 have i1:p.length+1≤(bs (p++47 :: r)).size:=by omega
 have i2:(bs (p++47 :: r)).size≤1000000:=by omega
 clear h hsz hsz2 hl
 generalize bs (p++47 :: r)=s at *
 generalize p.length=k at *
 go_enter Tryz.func184,Tryz.ntmps184
 go_wp2_with (go_at_call 221;refine (Tryz.stringslite_Index_one _ _ _).mono ?_;rintro e w' ⟨rfl,rfl⟩;rw [HI.out])
 go_quiet (fail)
 go_wp2
 go_ret3
 refine ⟨?_,below_drewN (Below.refl _ _) _⟩
 rw [← H1.out,← H2.out]
 rfl
set_option maxHeartbeats 1000000 in
theorem cut_yes (p r:List UInt8) (w:World) (h:47∉p) (hl:(p++47 :: r).length≤1000000):Calls Tryz.prog 152 #[.string (bs (p++47 :: r)),.string ⟨#[47]⟩] w fun e w'=>e=.returned (.tuple #[.string (bs p),.string (bs r),.bool true])∧Below w.heap.size w w':=by
 go_enter Tryz.func152,Tryz.ntmps152
 go_wp2_with (go_at_call 184;refine (lcut_yes _ _ _ h hl).mono ?_;rintro e w' ⟨rfl,hb⟩)
 go_ret3
 exact ⟨rfl,hb⟩
end Go.Proofs.YtkganhafbjgndaaGreatRR.P
namespace Go.Proofs.YtkganhafbjgndaaGreatRR.P
open Go.RowKit
set_option linter.unusedVariables false
theorem wp_scope_loop {P:Program} {Q:Exit→Act→World→Prop} {a:Act} {w:World} {c rest:Code} (l:Nat) (J:Act→World→Prop) (μ:Act→World→Nat) (hf:findLabel c l=some (Code.seq Code.skip rest))
  (first:(∀ a w,J a w→rest.wp P (Exit.jump l J Q) a w)→c.wp P (Exit.jump l J Q) a w)
  (pass:∀ a w,J a w→rest.wp P (Exit.jump l (fun a' w'=>J a' w'∧μ a' w' < μ a w) Q) a w):(Code.scope c).wp P Q a w :=
 wp_scope_jumps l J μ hf (first fun a w h=>Code.wp_mono (fun e a' w' hq=>by
  cases e<;>first | exact hq | exact ⟨hq.1,hq.2.1⟩) (pass a w h)) (fun a w h=>wp_seq (wp_skip (pass a w h)))
def todo (m:Bool) (l:List UInt8):List (List UInt8):=if m=true then parts l else []
def CutPost (l:List UInt8) (w:World) (e:Ending) (w':World):Prop:=∃ p r m,e=.returned (.tuple #[.string (bs p),.string (bs r),.bool m])∧parts l=p :: todo m r∧(m=true→r.length<l.length)∧r.length≤l.length∧Below w.heap.size w w'
theorem cut_any (l:List UInt8) (w:World) (hl:l.length≤1000000):Calls Tryz.prog 152 #[.string (bs l),.string ⟨#[47]⟩] w (CutPost l w):=by
 by_cases h:47∈l
 ·obtain ⟨p,r,rfl,hp⟩:=cut_parts l h
  refine (cut_yes p r w hp hl).mono ?_
  rintro e w' ⟨rfl,hb⟩
  exact ⟨p,r,true,rfl,by simp [parts_cut hp,todo],fun _=>by simp;omega,by simp;omega,hb⟩
 ·refine (cut_no l w h).mono ?_
  rintro e w' ⟨rfl,hb⟩
  exact ⟨l,[],false,rfl,by simp [parts_none h,todo],fun h=>(by cases h),by simp,hb⟩
def sv (p:List UInt8):Value:=.string (bs p)
def Own (w:World) (base:Nat) (v:Value) (ns:List (List UInt8)):Prop:=w.ownsRow base 9 1 v ns.length (ns.map sv)
theorem Own.nil (w:World) (base:Nat):Own w base (.slice none 0 0) []:=World.ownsRow_nil _ _ _ _
theorem Own.form {w:World} {base:Nat} {v:Value} {ns:List (List UInt8)} (h:Own w base v ns):∃ A c,v=.slice A ns.length c∧ns.length≤c∧c≤maxLen:=by
 rcases h.2 with ⟨rfl,h0⟩ | ⟨g,cap,cur,rfl,_,_,hn,hm,_⟩
 ·exact ⟨none,0,by rw [h0],by omega,by decide⟩
 ·exact ⟨_,_,rfl,hn,hm⟩
theorem Own.strs {w:World} {base:Nat} {v:Value} {ns:List (List UInt8)} (h:Own w base v ns):∃ A c,v=.slice A ns.length c∧Strs w w.heap.size A ns.length c ns:=by
 rcases h.2 with ⟨rfl,h0⟩ | ⟨g,cap,cur,rfl,hg,hh,hn,hm,hs,ht⟩
 ·have:ns=[]:=List.length_eq_zero_iff.1 h0
  subst this
  exact ⟨none,0,rfl,Strs.nil_ _ _⟩
 ·refine ⟨_,_,rfl,rfl,hn,hm,(fun h=>by cases h),fun h0=>⟨g,0,rfl,(Array.getElem?_eq_some_iff.1 hh).1,fun j hj=>?_⟩⟩
  rw [Nat.zero_add,cell_of_row w g j cur 9 (0,0) hh]
  have e:cur.toList[j]?=(ns.map sv)[j]?:=by
   rw [← ht,List.getElem?_take,if_pos (by omega)]
  rw [← Array.getElem?_toList,e]
  simp [hj,sv]
theorem Own.below {w w':World} {base:Nat} {v:Value} {ns:List (List UInt8)} (h:Own w base v ns) (hb:Below w.heap.size w w'):Own w' base v ns:=by
 refine ⟨h.1,?_⟩
 rcases h.2 with hn | ⟨g,cap,cur,rfl,hg,hh,rest⟩
 ·exact .inl hn
 ·refine .inr ⟨g,cap,cur,rfl,hg,?_,rest⟩
  rw [hb.block g (Array.getElem?_eq_some_iff.1 hh).1]
  exact hh
theorem Own.drop {w:World} {base:Nat} {A:Option Addr} {c:Nat} {ns:List (List UInt8)} (h:Own w base (.slice A ns.length c) ns):Own w base (.slice A (ns.length - 1) c) ns.dropLast:=by
 refine ⟨by simp,?_⟩
 rcases h.2 with ⟨e,h0⟩ | ⟨g,cap,cur,e,hg,hh,hn,hm,hs,ht⟩
 ·simp only [Value.slice.injEq] at e
  obtain ⟨rfl,_,rfl⟩:=e
  exact .inl ⟨by rw [h0],by simp;omega⟩
 ·cases e
  refine .inr ⟨g,c,cur,by simp,hg,hh,by simp;omega,hm,hs,?_⟩
  rw [List.length_dropLast,List.map_dropLast,← ht,List.dropLast_eq_take,List.take_take]
  congr 1
  simp
  omega
theorem str_info:(Tryz.prog.info? 9).map (fun i=>(i.zero,i.size,i.bytes))=some (some (.string ⟨#[]⟩),1,16):=by kernel_rfl
def Apps (w:World) (base:Nat) (v:Value) (ns:List (List UInt8)) (p:List UInt8) (v':Value) (w':World):Prop :=
 (Builtin.append_ #[36,36] 36 #[v,.slice (some ⟨w.heap.size,0,none⟩) 1 1]).run Tryz.prog (w.alloc (.cells #[.string (bs p)] 9))=.ok v' w'∧Own w' base v' (ns++[p])∧∀ w0,Below base w0 w→Below base w0 w'
theorem app_one {w:World} {base:Nat} {v:Value} {ns:List (List UInt8)} (p:List UInt8) (h:Own w base v ns) (hn:ns.length≤8) (hb:base≤w.heap.size):∃ v' w',Apps w base v ns p v' w':=by
 obtain ⟨i0,hi,hz0,hz1,hz2⟩:=info_parts str_info
 have h':(w.alloc (.cells #[.string (bs p)] 9)).ownsRow base 9 1 v ns.length (ns.map sv):=World.ownsRow.alloc h _
 obtain ⟨v',w',hr,h2,h3,_⟩:=run_append_own (P:=Tryz.prog) (w.alloc (.cells #[.string (bs p)] 9)) base 36 36 9 i0 _ 1 16 Tryz.underlying36 hi hz0 hz1 hz2 rfl (by decide) v ns.length (ns.map sv) h' ⟨w.heap.size,0,none⟩ 1 1 [sv p] (by simp)
  (fun j u hu=>by
   cases j with
   | zero =>
    simp at hu
    subst hu
    rw [Addr.add_lit]
    exact cell_of_row _ _ _ _ _ _ (heap_alloc_new w _)
   | succ j=>simp at hu) (fun u hu=>by simp at hu;subst hu;rfl) (by unfold maxLen;omega) (by omega) (by simp;omega)
 refine ⟨v',w',hr,by simpa [Own] using h2,fun w0 h0=>?_⟩
 exact (h0.alloc hb _).grown h3 (by simp;omega) (fun j hj=>(h'.lt j hj).1)
def Jmp (w:World) (s:Value) (R:List (List UInt8) × Int) (a':Act) (w':World):Prop:=Below w.heap.size w w'∧∃ (m:Bool) (l:List UInt8) (ns:List (List UInt8)) (v:Value),goes ns (todo m l)=R∧l.length≤96∧ns.length≤8∧Own w' w.heap.size v ns ∧
 ∃ u7 u8 u9 u10 u11 u12 u13 u14 u15 u16 u17 u18 u19 u20 u21 u22 u23 u24 u25 u26 u27 u28 u29 u30 u31 u32 u33 u34 u35 u36 u37 u38 u39 u40 u41 u42 u43 u44 u45 u46 u47 u48 u49:Value,a'={ tmps:=#[s,undef,.slice none 0 0,.int .i64 0,.string (bs l),.bool m,v,u7,u8,u9,u10,u11,u12,u13,u14,u15,u16,u17,u18,u19,u20,u21,u22,u23,u24,u25,u26,u27,u28,u29,u30,u31,u32,u33,u34,u35,u36,u37,u38,u39,u40,u41,u42,u43,u44,u45,u46,u47,u48,u49],defers:=[] }
theorem Jmp.mk {w w':World} {s:Value} {R:List (List UInt8) × Int} {m:Bool} {l:List UInt8} {ns:List (List UInt8)} {v:Value} (hb:Below w.heap.size w w') (h1:goes ns (todo m l)=R) (h2:l.length≤96) (h3:ns.length≤8) (h4:Own w' w.heap.size v ns)
  {u7 u8 u9 u10 u11 u12 u13 u14 u15 u16 u17 u18 u19 u20 u21 u22 u23 u24 u25 u26 u27 u28 u29 u30 u31 u32 u33 u34 u35 u36 u37 u38 u39 u40 u41 u42 u43 u44 u45 u46 u47 u48 u49:Value}:Jmp w s R { tmps:=#[s,undef,.slice none 0 0,.int .i64 0,.string (bs l),.bool m,v,u7,u8,u9,u10,u11,u12,u13,u14,u15,u16,u17,u18,u19,u20,u21,u22,u23,u24,u25,u26,u27,u28,u29,u30,u31,u32,u33,u34,u35,u36,u37,u38,u39,u40,u41,u42,u43,u44,u45,u46,u47,u48,u49],defers:=[] } w':=⟨hb,m,l,ns,v,h1,h2,h3,h4,_,_,_,_,_,_,_,_,_,_,_,_,_,_,_,_,_,_,_,_,_,_,_,_,_,_,_,_,_,_,_,_,_,_,_,_,_,_,_,_,_,_,_,rfl⟩
def meas (a:Act) (_:World):Nat:=match a.tmps.getD 5 undef,a.tmps.getD 4 undef with
 | .bool true,.string s=>s.size+1
 | _,_=>0
theorem meas_lt {l q:List UInt8} {m:Bool} {v v':Value} (h:m=true→q.length<l.length) {x0 x1 x2 x3 y0 y1 y2 y3:Value} {us vs:List Value} {w w':World}:meas { tmps:=(y0 :: y1 :: y2 :: y3 :: .string (bs q) :: .bool m :: v' :: vs).toArray,defers:=[] } w'<meas { tmps:=(x0 :: x1 :: x2 :: x3 :: .string (bs l) :: .bool true :: v :: us).toArray,defers:=[] } w:=by
 cases m with
 | false=>show 0<(bs l).size+1;omega
 | true =>
  show (bs q).size+1<(bs l).size+1
  rw [bs_size,bs_size]
  have:=h rfl
  omega
def Splits (w:World) (R:List (List UInt8) × Int) (e:Ending) (w':World):Prop:=∃ A c,e=.returned (.tuple #[.slice A R.1.length c,.int .i64 R.2])∧Strs w' w'.heap.size A R.1.length c R.1∧Below w.heap.size w w'
theorem Splits.none {w w':World} {x:Int} (hb:Below w.heap.size w w'):Splits w ([],x) (.returned (.tuple #[.slice .none 0 0,.int .i64 x])) w':=⟨.none,0,rfl,Strs.nil_ _ _,hb⟩
theorem Splits.own {w w':World} {v:Value} {ns:List (List UInt8)} (h:Own w' w.heap.size v ns) (hb:Below w.heap.size w w'):Splits w (ns,0) (.returned (.tuple #[v,.int .i64 0])) w':=by
 obtain ⟨A,c,rfl,hs⟩:=h.strs
 exact ⟨A,c,rfl,hs,hb⟩
end Go.Proofs.YtkganhafbjgndaaGreatRR.P
namespace Go.Proofs.YtkganhafbjgndaaGreatRR.P
open Go.RowKit
set_option linter.unusedVariables false
set_option maxHeartbeats 2000000 in
set_option maxRecDepth 100000 in
theorem split_loop (s r:List UInt8) (w:World) (hl:¬ 96<s.length) (hr:s=47 :: r):Calls Tryz.prog 111 #[.string (bs s)] w (Splits w (goes [] (parts r))):=by
 have hs:(bs s).size≤96:=by rw [bs_size];omega
 have HP:Hid (Lib.hasPrefix (bs s).data.toList (⟨#[47]⟩:ByteArray).data.toList=true):=by
  show _=_
  rw [bs_data,hr]
  rfl
 have HE:Hid ((⟨(Lib.trimPrefix (bs s).data.toList (⟨#[47]⟩:ByteArray).data.toList).toArray⟩:ByteArray)=bs r):=by
  show _=_
  unfold Lib.trimPrefix
  rw [if_pos HP.out,bs_data,hr]
  rfl
 have hrl:r.length≤96:=by rw [hr] at hl;simp at hl;omega
 clear hr
 go_enter Tryz.func111,Tryz.ntmps111
 go_wp2
 refine wp_scope_loop 0 (Jmp w (.string (bs s)) (goes [] (parts r))) meas rfl ?_ ?_
 ·intro key
  go_wp2_with (go_at_call 151;refine (Tryz.strings_CutPrefix _ _ _).mono ?_;rintro e w' ⟨rfl,rfl⟩;rw [HP.out,HE.out])
  rename_i hK
  go_step3
  exact hK _ _ (key _ _ (Jmp.mk (ns:=[]) (Below.refl _ _) (by simp [todo]) hrl (by simp) (Own.nil _ _)))
 ·rintro a' w' ⟨hb,m,l,ns,v,hR,hl2,hn,hown,u7,u8,u9,u10,u11,u12,u13,u14,u15,u16,u17,u18,u19,u20,u21,u22,u23,u24,u25,u26,u27,u28,u29,u30,u31,u32,u33,u34,u35,u36,u37,u38,u39,u40,u41,u42,u43,u44,u45,u46,u47,u48,u49,rfl⟩
  have HO:=Lib.hid hown
  have HB:=Lib.hid hb
  have HR:=Lib.hid hR
  clear hown hb hR
  cases m with
  | false =>
   go_wp2
   simp only [Exit.jump]
   go_ret2
   have:goes [] (parts r)=(ns,0):=HR.out.symm
   rw [this]
   exact Splits.own HO.out HB.out
  | true =>
   have hln:(bs l).size=l.length:=bs_size l
   have HLN:=Lib.hid hln
   clear hln
   go_wp2_with fail
   refine (cut_any l w' (by omega)).mono ?_
   rintro e w1 ⟨p,q,m,rfl,hp,hm,hq,hb1⟩
   have HO1:=Lib.hid (HO.out.below hb1)
   have HB1:=Lib.hid (HB.out.trans (hb1.mono HB.out.size))
   have HR1:Hid (goes ns (p :: todo m q)=goes [] (parts r)):=by
    show _=_
    rw [← hp]
    exact HR.out
   have HM:=Lib.hid hm
   clear HO HB HR hp hb1 hm
   have hql:q.length≤96:=by omega
   obtain ⟨A,c,rfl,hc1,hc2⟩:=HO1.out.form
   unfold maxLen at hc2
   have hlist:=bs_list p
   by_cases h1:p=[46,46]
   ·subst h1
    have HR2:Hid (goes ns.dropLast (todo m q)=goes [] (parts r)):=by
     have:=HR1.out
     rwa [goes_up] at this
    clear HR1 hlist
    have hD:=Lib.hid HO1.out.drop
    have k1:(bs [46,46]).toList=[46,46]:=bs_list _
    go_wp2
    rw [show (max ((ns.length:Int) - 1) 0).toNat=ns.length - 1 by omega]
    go_step3
    exact ⟨rfl,Jmp.mk HB1.out HR2.out hql (by simp;omega) hD.out,meas_lt HM.out⟩
   by_cases h2:p=[]∨p=[46]
   ·have HR2:Hid (goes ns (todo m q)=goes [] (parts r)):=by
     have:=HR1.out
     rwa [goes_skip h1 h2] at this
    clear HR1 hlist
    rcases h2 with rfl | rfl
    ·have k1:(bs []).toList=[]:=bs_list _
     clear h1
     go_wp2
     go_step3
     exact ⟨rfl,Jmp.mk HB1.out HR2.out hql hn HO1.out,meas_lt HM.out⟩
    ·have k1:(bs [46]).toList=[46]:=bs_list _
     clear h1
     go_wp2
     go_step3
     exact ⟨rfl,Jmp.mk HB1.out HR2.out hql hn HO1.out,meas_lt HM.out⟩
   have k1:((bs p).toList == [46,46])=false:=by rw [hlist];simpa using h1
   have k2:((bs p).toList == [46])=false:=by rw [hlist];simp at h2 ⊢;exact h2.2
   have k3:(bs p).toList.isEmpty=false:=by rw [hlist];simp at h2 ⊢;exact h2.1
   have hz:=HB1.out.size
   by_cases h3:nameB p=false
   ·have HR2:Hid (goes [] (parts r)=([],6)):=by
     have:=HR1.out
     rw [goes_bad h1 h2 h3] at this
     exact this.symm
    clear HR1 hlist h1 h2
    have H3:=Lib.hid h3
    clear h3
    go_wp2_with (go_at_call 153;refine (pathName_any _ _).mono ?_;rintro e w2 ⟨rfl,hb2⟩;rw [bs_data,H3.out])
    simp only [Exit.jump]
    go_ret2
    rw [HR2.out]
    exact Splits.none (HB1.out.trans (hb2.mono hz))
   ·have H3:Hid (nameB p=true):=by show _=_;simpa using h3
    by_cases h4:ns.length=8
    ·have HR2:Hid (goes [] (parts r)=([],4)):=by
      have:=HR1.out
      rw [goes_deep h1 h2 H3.out h4] at this
      exact this.symm
     clear HR1 hlist h1 h2 h3
     go_wp2_with (go_at_call 153;refine (pathName_any _ _).mono ?_;rintro e w2 ⟨rfl,hb2⟩;rw [bs_data,H3.out])
     simp only [Exit.jump]
     go_ret2
     rw [HR2.out]
     exact Splits.none (HB1.out.trans (hb2.mono hz))
    ·have HR2:Hid (goes (ns++[p]) (todo m q)=goes [] (parts r)):=by
      have:=HR1.out
      rwa [goes_name H3.out h4] at this
     have k4:((ns.length:Int) == 8)=false:=by simp;omega
     clear HR1 hlist h1 h2 h3
     go_wp2_with fail
     refine (pathName_any _ _).mono ?_
     rintro e w2 ⟨rfl,hb2⟩
     rw [bs_data,H3.out]
     obtain ⟨v',w3,hap,ho,hbe⟩:=app_one p (HO1.out.below hb2) hn (Nat.le_trans hz hb2.size)
     have HA:=Lib.hid hap
     have HO3:=Lib.hid ho
     have HB3:=Lib.hid (hbe w (HB1.out.trans (hb2.mono hz)))
     clear hap ho hbe
     go_wp2_with (at_builtin;refine Lib.wpList_append_run _ rfl _ _ _ _ rfl _ _ rfl rfl _ _ HA.out ?_)
     go_step3
     exact ⟨rfl,Jmp.mk HB3.out HR2.out hql (by simp;omega) HO3.out,meas_lt HM.out⟩
end Go.Proofs.YtkganhafbjgndaaGreatRR.P
namespace Go.Proofs.YtkganhafbjgndaaGreatRR.P
open Go.RowKit
set_option linter.unusedVariables false
set_option maxHeartbeats 1000000 in
theorem split_any (s:List UInt8) (w:World):Calls Tryz.prog 111 #[.string (bs s)] w (Splits w (split s)):=by
 by_cases hl:96<s.length
 ·have HS:Hid (split s=([],17)):=by show _=_;unfold split;rw [if_pos hl]
  have hs:96<(bs s).size:=by rw [bs_size];omega
  clear hl
  go_enter Tryz.func111,Tryz.ntmps111
  go_wp2
  go_step3
  go_wp2
  rw [Exit.noGoto_ret]
  go_ret2
  rw [HS.out]
  exact Splits.none (Below.refl _ _)
 ·have hs:(bs s).size≤96:=by rw [bs_size];omega
  by_cases hp:∃ r,s=47 :: r
  ·obtain ⟨r,rfl⟩:=hp
   have e:split (47 :: r)=goes [] (parts r):=by unfold split;rw [if_neg hl];simp
   rw [e]
   exact split_loop _ r w hl rfl
  ·have HS:Hid (split s=([],5)):=by
    show _=_
    unfold split
    rw [if_neg hl]
    cases s with
    | nil=>rfl
    | cons c r =>
     by_cases hc:c=47
     ·exact absurd ⟨r,by rw [hc]⟩ hp
     ·simp [hc]
   have HP:Hid (Lib.hasPrefix (bs s).data.toList (⟨#[47]⟩:ByteArray).data.toList=false):=by
    show _=_
    rw [bs_data]
    cases s with
    | nil=>rfl
    | cons c r =>
     by_cases hc:c=47
     ·exact absurd ⟨r,by rw [hc]⟩ hp
     ·simp [Lib.hasPrefix,List.isPrefixOf,Ne.symm hc]
   clear hp
   go_enter Tryz.func111,Tryz.ntmps111
   go_wp2
   go_step3
   go_wp2_with (go_at_call 151;refine (Tryz.strings_CutPrefix _ _ _).mono ?_;rintro e w' ⟨rfl,rfl⟩;rw [HP.out])
   rw [Exit.noGoto_ret]
   go_ret2
   rw [HS.out]
   exact Splits.none (Below.refl _ _)
def pend (s:List UInt8) (f:Nat):List (List UInt8):=if f≤s.length then parts (s.drop f) else []
end Go.Proofs.YtkganhafbjgndaaGreatRR.P
namespace Go.Proofs.YtkganhafbjgndaaGreatRR.P
open Go.RowKit
set_option linter.unusedVariables false
def Copies (w:World) (base:Nat) (v:Value) (ns:List (List UInt8)) (v':Value) (w':World):Prop :=
 (Builtin.append_ #[36,36] 36 #[.slice (some ⟨w.heap.size,0,none⟩) 0 0,v]).run Tryz.prog (w.alloc (.cells #[] 9))=.ok v' w'∧Own w' base v' ns∧∀ w0,Below base w0 w→Below base w0 w'
theorem Own.zero {w:World} {base:Nat} (hb:base≤w.heap.size):Own (w.alloc (.cells #[] 9)) base (.slice (some ⟨w.heap.size,0,none⟩) 0 0) []:=World.ownsRow_made (base:=base) (e:=9) (size:=1) w #[] 0 hb (by decide) rfl
def Turn (w:World) (s:List UInt8) (R:List (List UInt8) × Int) (o f i:Value) (wr:World):Prop:=∃ (k fr:Nat) (ns:List (List UInt8)),i=.int .i64 k∧f=.int .i64 fr∧1≤fr∧fr≤k∧k≤s.length+1∧(k=s.length+1→fr=s.length+1)∧47∉(s.drop fr).take (k - fr)∧goes ns (pend s fr)=R∧ns.length≤8∧Own wr w.heap.size o ns∧Below w.heap.size w wr
end Go.Proofs.YtkganhafbjgndaaGreatRR.P
namespace Go.Proofs.YtkganhafbjgndaaGreatRR.P
open Go.RowKit
set_option linter.unusedVariables false
theorem all_takeN {l:List (List UInt8)} {k:Nat} (h:k<l.length):(l.take (k+1)).all nameB=((l.take k).all nameB && nameB (l[k]?.getD [])):=by
 rw [List.take_succ_eq_append_getElem h,List.all_append,List.getElem?_eq_getElem h]
 simp
theorem all_notN {l:List (List UInt8)} {k:Nat} (h:k<l.length) (hk:nameB (l[k]?.getD [])=false):l.all nameB=false:=by
 rw [List.getElem?_eq_getElem h] at hk
 rw [List.all_eq_false]
 exact ⟨l[k],List.getElem_mem h,by simpa using hk⟩
theorem joinT_small (l:List (List UInt8)) (h:l.all nameB=true):(joinT l).length≤l.length * 25:=by
 induction l with
 | nil=>simp [joinT]
 | cons p ps ih =>
  simp only [List.all_cons,Bool.and_eq_true] at h
  have h1:=ih h.2
  have h2:=(name_parts h.1).2.2.2.2
  have e:(joinT (p :: ps)).length=p.length+1+(joinT ps).length:=by simp [joinT];omega
  rw [e,List.length_cons]
  omega
theorem joinL_small (l:List (List UInt8)) (h:l.all nameB=true) (hn:l.length≤8):(joinL l).length≤201:=by
 have:=joinT_small l h
 unfold joinL
 split
 ·simp
 ·omega
def Joins (w:World) (t:List UInt8) (x:Int) (e:Ending) (w':World):Prop:=e=.returned (.tuple #[.string (bs t),.int .i64 x])∧Below w.heap.size w w'
theorem libJoin_any (A:Option Addr) (n c B:Nat) (l:List (List UInt8)) (w:World) (h:Strs w B A n c l) (hB:B≤w.heap.size) (hn:n≤8) (hj:(Lib.join l [47]).length≤1000000) :
  Calls Tryz.prog 159 #[.slice A n c,.string ⟨#[47]⟩] w fun e w'=>e=.returned (.string (bs (Lib.join l [47])))∧Below w.heap.size w w':=by
 obtain rfl:=h.len
 rcases Nat.eq_zero_or_pos l.length with h0 | h0
 ·have e:l=[]:=List.length_eq_zero_iff.1 h0
  subst e
  refine (Tryz.strings_Join_none A c _ w).mono ?_
  rintro e w' ⟨rfl,rfl⟩
  exact ⟨rfl,Below.refl _ _⟩
 ·obtain ⟨b,off,rfl,hb,hc⟩:=h.at_ h0
  have e1:(l.map bs).map (·.data.toList)=l:=by
   rw [List.map_map]
   exact List.map_id _
  have hlen:(l.map bs).length=l.length:=List.length_map _
  have hh:=Tryz.strings_Join b off c (l.map bs) ⟨#[47]⟩ w (fun j x hx=>by
   have hj:j<l.length:=by
    have:=(List.getElem?_eq_some_iff.1 hx).1
    simpa using this
   rw [hc j hj]
   rw [List.getElem?_map,List.getElem?_eq_getElem hj] at hx
   simp only [Option.map_some,Option.some.injEq] at hx
   rw [List.getElem?_eq_getElem hj,← hx]
   rfl) (by omega) (by rw [hlen];omega) (by rw [hlen];exact h.cap) (by
    rw [e1]
    show (Lib.join l [47]).length≤_
    omega)
  rw [e1,hlen] at hh
  exact hh
set_option maxHeartbeats 1000000 in
theorem pathJoin_any (A:Option Addr) (n c B:Nat) (l:List (List UInt8)) (w:World) (h:Strs w B A n c l) (hB:B≤w.heap.size) :
  Calls Tryz.prog 116 #[.slice A n c] w (Joins w (joinS l) (joinE l)):=by
 have H:=Lib.hid h
 have hcap:=h.cap
 have hlim:=h.lim
 have hlen:=h.len
 unfold maxLen at hlim
 clear h
 by_cases h8:8<n
 ·have HE:Hid (joinE l=4):=by show _=_;unfold joinE;rw [if_pos (by omega)]
  have HS:Hid (joinS l=[]):=by show _=_;unfold joinS;rw [if_neg (by rw [HE.out];decide)]
  have HLN:=Lib.hid hlen
  clear hlen
  go_enter Tryz.func116,Tryz.ntmps116
  go_wp2
  go_ret2
  rw [HE.out,HS.out]
  exact ⟨rfl,Below.refl _ _⟩
 ·have HLN:=Lib.hid hlen
  clear hlen
  go_enter Tryz.func116,Tryz.ntmps116
  go_wp2
  go_loopw [12] (fun i wr=>∃ k:Nat,k≤n∧i=.int .i64 k∧Hid ((l.take k).all nameB=true)∧Hid (Below w.heap.size w wr)) (fun i _=>n - (intOf i).toNat)
  case atStart=>exact ⟨0,Nat.zero_le _,rfl,rfl,Below.refl _ _⟩
  case round =>
   obtain ⟨k,hk,rfl,HA,HB⟩:=hrel
   by_cases hlt:k<n
   ·obtain ⟨b,off,rfl,hb,hcell⟩:=(H.out.below (HB.out.mono hB)).cell hlt
    have hz:=HB.out.size
    have hkl:k<l.length:=by rw [HLN.out];exact hlt
    have HT:=Lib.hid (all_takeN hkl)
    by_cases hs:nameB (l[k]?.getD [])=false
    ·have HN:=Lib.hid (all_notN hkl hs)
     have HE:Hid (joinE l=6):=by show _=_;unfold joinE;rw [if_neg (by rw [HLN.out];omega),if_pos HN.out]
     have HS:Hid (joinS l=[]):=by show _=_;unfold joinS;rw [if_neg (by rw [HE.out];decide)]
     have H3:=Lib.hid hs
     clear hs
     generalize l[k]?.getD []=p at *
     go_wp2_with (go_at_call 153;refine (pathName_any _ _).mono ?_;rintro e w2 ⟨rfl,hb2⟩;rw [bs_data,H3.out])
     go_ret2
     rw [HE.out,HS.out]
     exact ⟨rfl,HB.out.trans (hb2.mono hz)⟩
    ·have H3:Hid (nameB (l[k]?.getD [])=true):=by show _=_;simpa using hs
     clear hs
     generalize l[k]?.getD []=p at *
     go_wp2_with (go_at_call 153;refine (pathName_any _ _).mono ?_;rintro e w2 ⟨rfl,hb2⟩;rw [bs_data,H3.out])
     go_roundw
     case rel=>exact ⟨k+1,by omega,by go_num,show _=_ by rw [HT.out,HA.out,H3.out];rfl,HB.out.trans (hb2.mono hz)⟩
     case measure=>simp [intOf];omega
   ·obtain rfl:k=n:=by omega
    have HAll:Hid (l.all nameB=true):=by
     show _=_
     have:=HA.out
     rwa [List.take_of_length_le (by rw [HLN.out];omega)] at this
    have hsm:=joinL_small l HAll.out (by rw [HLN.out];omega)
    have HJ:=Lib.hid (join_eq l)
    have hj2:(Lib.join l [47]).length+1≤201:=by
     have:=congrArg List.length (join_eq l)
     rw [List.length_cons] at this
     omega
    have hz:=HB.out.size
    have HAdd:Hid ((⟨#[47]⟩:ByteArray)++bs (Lib.join l [47])=bs (joinL l)):=by
     show _=_
     rw [← join_eq,show (⟨#[47]⟩:ByteArray)=bs [47] from rfl,bs_app]
     rfl
    have hsz:(bs (Lib.join l [47])).size≤200:=by rw [bs_size];omega
    go_wp2_with fail
    refine (libJoin_any _ _ _ B l wr (H.out.below (HB.out.mono hB)) (by omega) (by omega) (by omega)).mono ?_
    rintro e w2 ⟨rfl,hb2⟩
    have HB2:=Lib.hid (HB.out.trans (hb2.mono hz))
    have hadd:=HAdd.out
    by_cases h96:96<(joinL l).length
    ·have HE:Hid (joinE l=17):=by show _=_;unfold joinE;rw [if_neg (by rw [HLN.out];omega),if_neg (by rw [HAll.out];decide),if_pos h96]
     have HS:Hid (joinS l=[]):=by show _=_;unfold joinS;rw [if_neg (by rw [HE.out];decide)]
     have hq:96<(bs (joinL l)).size:=by rw [bs_size];exact h96
     go_wp2
     go_ret2
     rw [HE.out,HS.out]
     exact ⟨rfl,HB2.out⟩
    ·have HE:Hid (joinE l=0):=by show _=_;unfold joinE;rw [if_neg (by rw [HLN.out];omega),if_neg (by rw [HAll.out];decide),if_neg h96]
     have HS:Hid (joinS l=joinL l):=by show _=_;unfold joinS;rw [if_pos HE.out]
     have hq:(bs (joinL l)).size≤96:=by rw [bs_size];omega
     go_wp2
     go_ret2
     rw [HE.out,HS.out]
     exact ⟨rfl,HB2.out⟩
end Go.Proofs.YtkganhafbjgndaaGreatRR.P
namespace Go.Proofs.YtkganhafbjgndaaGreatRR.P
open Go.RowKit
set_option linter.unusedVariables false
def cleanS (s:List UInt8):List UInt8:=if (split s).2=0 then joinL (split s).1 else []
def lastE (s:List UInt8):Int:=if (split s).2≠0 then (split s).2 else if (split s).1=[] then 13 else 0
def lastA (s:List UInt8):List UInt8:=if lastE s=0 then joinL (split s).1.dropLast else []
def lastN (s:List UInt8):List UInt8:=if lastE s=0 then (split s).1.getLastD [] else []
theorem join_dropLast (s:List UInt8) (h:(split s).2=0):joinE (split s).1.dropLast=0∧joinS (split s).1.dropLast=joinL (split s).1.dropLast:=by
 have h1:=split_good s
 have h2:=split_len s h
 have h3:joinE (split s).1.dropLast=0:=by
  generalize (split s).1=ns at *
  have ha:ns.dropLast.all nameB=true:=by
   rw [List.all_eq_true] at *
   exact fun x hx=>h1.1 x (List.dropLast_subset _ hx)
  have hj:(joinL ns.dropLast).length≤96:=by
   unfold joinL
   split
   ·simp
   ·rename_i hd
    have hne:ns≠[]:=fun e=>hd (by rw [e];rfl)
    have:=joinT_dropLast ns
    unfold joinL at h2
    rw [if_neg hne] at h2
    omega
  unfold joinE
  rw [if_neg (by rw [List.length_dropLast];omega),if_neg (by rw [ha];decide),if_neg (by omega)]
 refine ⟨h3,?_⟩
 unfold joinS
 rw [if_pos h3]
def Lasts (w:World) (t u:List UInt8) (x:Int) (e:Ending) (w':World):Prop:=e=.returned (.tuple #[.string (bs t),.string (bs u),.int .i64 x])∧Below w.heap.size w w'
set_option maxHeartbeats 1000000 in
theorem last_any (s:List UInt8) (w:World):Calls Tryz.prog 72 #[.string (bs s)] w (Lasts w (lastA s) (lastN s) (lastE s)):=by
 go_enter Tryz.func72,Tryz.ntmps72
 go_wp2_with fail
 refine (split_any s w).mono ?_
 rintro e w1 ⟨A,c,rfl,hs,hb⟩
 have HS:=Lib.hid hs
 have HB:=Lib.hid hb
 have hz:=hb.size
 clear hs hb
 by_cases h0:(split s).2=0
 ·by_cases h1:(split s).1=[]
  ·have HE:Hid (lastE s=13):=by show _=_;unfold lastE;rw [if_neg (by simpa using h0),if_pos h1]
   have HA:Hid (lastA s=[]):=by show _=_;unfold lastA;rw [if_neg (by rw [HE.out];decide)]
   have HN:Hid (lastN s=[]):=by show _=_;unfold lastN;rw [if_neg (by rw [HE.out];decide)]
   rw [h0,h1]
   clear h0 h1
   go_wp2
   go_ret3
   rw [HE.out,HA.out,HN.out]
   exact ⟨rfl,HB.out⟩
  ·have HE:Hid (lastE s=0):=by show _=_;unfold lastE;rw [if_neg (by simpa using h0),if_neg h1]
   have HA:Hid (lastA s=joinL (split s).1.dropLast):=by show _=_;unfold lastA;rw [if_pos HE.out]
   have HN:Hid (lastN s=(split s).1.getLastD []):=by show _=_;unfold lastN;rw [if_pos HE.out]
   obtain ⟨j1,j2⟩:=join_dropLast s h0
   have J1:=Lib.hid j1
   have J2:=Lib.hid j2
   rw [h0]
   clear h0 j1 j2
   generalize (split s).1=ns at *
   obtain ⟨m,x,rfl⟩:∃ m x,ns=m++[x]:=⟨ns.dropLast,ns.getLast h1,(List.dropLast_concat_getLast h1).symm⟩
   have hlen:(m++[x]).length=m.length+1:=by simp
   rw [hlen] at HS ⊢
   have HD:Hid (Strs w1 w1.heap.size A m.length c m):=by
    have:=HS.out.head (s:=m.length) (by omega)
    rwa [List.take_left] at this
   have hcap:=HS.out.cap
   have hlim:=HS.out.lim
   unfold maxLen at hlim
   rw [List.dropLast_concat] at HA J1 J2
   rw [List.getLastD_concat] at HN
   clear hlen h1
   go_wp2_with fail
   refine (pathJoin_any _ _ _ _ m w1 HD.out (Nat.le_refl _)).mono ?_
   rintro e w2 ⟨rfl,hb2⟩
   rw [J1.out,J2.out]
   obtain ⟨b,off,rfl,hbb,hcell⟩:=(HS.out.below hb2).cell (k:=m.length) (by omega)
   have hx:(m++[x])[m.length]?.getD []=x:=by simp
   rw [hx] at hcell
   clear hx
   go_wp2
   go_quiet (fail)
   go_wp2
   go_ret3
   rw [HE.out,HA.out,HN.out]
   exact ⟨rfl,below_drewN (HB.out.trans (hb2.mono hz)) _⟩
 ·have HE:Hid (lastE s=(split s).2):=by show _=_;unfold lastE;rw [if_pos h0]
  have HA:Hid (lastA s=[]):=by show _=_;unfold lastA;rw [if_neg (by rw [HE.out];exact h0)]
  have HN:Hid (lastN s=[]):=by show _=_;unfold lastN;rw [if_neg (by rw [HE.out];exact h0)]
  generalize (split s).2=x at *
  have hx:(x == 0)=false:=by simpa using h0
  go_wp2
  go_ret3
  rw [HE.out,HA.out,HN.out]
  exact ⟨rfl,HB.out⟩
def withinE (s t:List UInt8):Int:=if (split s).2≠0 then (split s).2 else (split t).2
def withinR (s t:List UInt8):Bool:=if withinE s t=0 then withinB (split s).1 (split t).1 else false
def Withins (w:World) (b:Bool) (x:Int) (e:Ending) (w':World):Prop:=e=.returned (.tuple #[.bool b,.int .i64 x])∧Below w.heap.size w w'
end Go.Proofs.YtkganhafbjgndaaGreatRR.P
