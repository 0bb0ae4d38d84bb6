/- Plain mathematics: names, entries, the entries of bytes. -/
import Derived.Test.YtkganhafbjgndaaGreatRRRows
import Derived.WalkKit
import Derived.ProofKit
import Derived.Below
import Derived.Handy
import Derived.Laws.OwnMore
import Derived.Laws.IdiomStrings
import Derived.Laws.BytesArg
import Derived.Laws.MakeOwn
import Derived.Laws.ShiftsVarLaws
import Derived.Maps.AppendAt
import Derived.Deep.AppendLies
import Derived.Lib.Hide
import Derived.Lib.AppendZeros
import Derived.Lib.SliceRun
import Derived.OwnWalk
import Derived.BigQuiet
import Derived.Deep.QuietTactic
import Derived.Deep.MidRow
import Derived.Deep.WholeRow
import Derived.Laws.Rows
import Derived.Laws.StructEq
import Derived.Laws.ResultCell
import Derived.Deep.RegionLaw
import Derived.Deep.Cut
namespace Go.Proofs.YtkganhafbjgndaaGreatRR.E
set_option linter.unusedVariables false
def signB (b:UInt8):Bool:=(decide (97≤b) && decide (b≤122)) || (decide (65≤b) && decide (b≤90)) || (decide (48≤b) && decide (b≤57)) || b == 46 || b == 95 || b == 45
def nameB (l:List UInt8):Bool:=decide (1≤l.length) && decide (l.length≤24) && l != [46] && l != [46,46] && l.all signB
abbrev Rw:=List UInt8 × Int
def emp:Rw:=([],0)
def sound (r:Rw):Bool:=nameB r.1 && decide (1≤r.2) && decide (r.2≤31)
def raw (nm:List UInt8) (x:UInt8):List UInt8:=UInt8.ofNat nm.length :: (nm++List.replicate (24 - nm.length) 0++[x,0]++List.replicate 5 0)
def z32:List UInt8:=List.replicate 32 0
def enc (r:Rw):Option (List UInt8):=if r=emp then some z32 else if sound r=true then some (raw r.1 (UInt8.ofNat r.2.toNat)) else none
def cand (b:List UInt8):Rw:=((b.drop 1).take (b[0]?.getD 0).toNat,(((b[25]?.getD 0).toNat+256 * (b[26]?.getD 0).toNat:Nat):Int))
def fits (b:List UInt8):Bool:=decide (b.length=32) && decide ((b[0]?.getD 0).toNat≤24)
def dec (b:List UInt8):Option Rw:=if fits b=true then if enc (cand b)=some b then some (cand b) else none else none
theorem name_len {l:List UInt8} (h:nameB l=true):1≤l.length∧l.length≤24:=by
 simp only [nameB,Bool.and_eq_true,decide_eq_true_eq] at h
 exact ⟨h.1.1.1.1,h.1.1.1.2⟩
theorem sound_iff {r:Rw}:sound r=true ↔ nameB r.1=true∧1≤r.2∧r.2≤31:=by
 simp only [sound,Bool.and_eq_true,decide_eq_true_eq,and_assoc]
theorem name_ne {l:List UInt8} (h:nameB l=true):l≠[]:=by
 intro e
 have:=(name_len h).1
 rw [e] at this
 simp at this
theorem sound_ne {r:Rw} (h:sound r=true):r≠emp:=by
 intro e
 exact name_ne (sound_iff.1 h).1 (by rw [e];rfl)
theorem enc_emp:enc emp=some z32:=rfl
theorem enc_yes {r:Rw} (h:sound r=true):enc r=some (raw r.1 (UInt8.ofNat r.2.toNat)):=by
 unfold enc
 rw [if_neg (sound_ne h),if_pos h]
theorem enc_no {r:Rw} (h1:r≠emp) (h2:sound r=false):enc r=none:=by
 unfold enc
 rw [if_neg h1,if_neg (by rw [h2];decide)]
theorem raw_len {nm:List UInt8} {x:UInt8} (h:nm.length≤24):(raw nm x).length=32:=by
 simp [raw]
 omega
theorem raw_cand {nm:List UInt8} {x:UInt8} (h:nm.length≤24):cand (raw nm x)=(nm,(x.toNat:Int)):=by
 have h0:((raw nm x)[0]?.getD 0).toNat=nm.length:=by
  simp [raw]
  omega
 have h25:(raw nm x)[25]?.getD 0=x:=by
  simp only [raw,List.getElem?_cons_succ,List.append_assoc]
  rw [List.getElem?_append_right (by omega),List.getElem?_append_right (by simp),List.length_replicate,show 24 - nm.length - (24 - nm.length)=0 by omega]
  rfl
 have h26:(raw nm x)[26]?.getD 0=0:=by
  simp only [raw,List.getElem?_cons_succ,List.append_assoc]
  rw [List.getElem?_append_right (by omega),List.getElem?_append_right (by simp;omega),List.length_replicate,show 25 - nm.length - (24 - nm.length)=1 by omega]
  rfl
 unfold cand
 rw [h0,h25,h26]
 simp [raw,List.append_assoc]
theorem dec_raw {nm:List UInt8} {x:UInt8} (h:nm.length≤24) (he:enc (nm,(x.toNat:Int))=some (raw nm x)):dec (raw nm x)=some (nm,(x.toNat:Int)):=by
 unfold dec fits
 have h0:((raw nm x)[0]?.getD 0).toNat=nm.length:=by
  simp [raw]
  omega
 rw [raw_len h,h0,raw_cand h,he]
 simp [h]
theorem dec_enc {r:Rw} {x:List UInt8} (h:enc r=some x):dec x=some r:=by
 by_cases h1:r=emp
 ·subst h1
  rw [enc_emp] at h
  cases h
  rfl
 ·cases h2:sound r with
  | false=>rw [enc_no h1 h2] at h;cases h
  | true =>
   have he:=enc_yes h2
   rw [he] at h
   cases h
   obtain ⟨n1,n2,n3⟩:=sound_iff.1 h2
   have hx:((UInt8.ofNat r.2.toNat).toNat:Int)=r.2:=by
    rw [UInt8.toNat_ofNat']
    omega
   have:=dec_raw (x:=UInt8.ofNat r.2.toNat) (name_len n1).2 (by rw [hx];exact he)
   rw [this,hx]
theorem dec_some {b:List UInt8} {r:Rw} (h:dec b=some r):fits b=true∧cand b=r∧enc r=some b:=by
 unfold dec at h
 split at h
 ·split at h
  ·cases h
   rename_i h1 h2
   exact ⟨h1,rfl,h2⟩
  ·cases h
 ·cases h
theorem enc_len {r:Rw} {x:List UInt8} (h:enc r=some x):x.length=32:=by
 have:=(dec_some (dec_enc h)).1
 simp only [fits,Bool.and_eq_true,decide_eq_true_eq] at this
 exact this.1
def nms (l:List Rw):List (List UInt8):=(l.map (·.1)).filter fun s=>decide (s≠[])
def srt (l:List (List UInt8)):List (List UInt8):=l.mergeSort fun x y=>decide (x≤y)
theorem nms_snoc (l:List Rw) (r:Rw):nms (l++[r])=nms l++if r.1=[] then [] else [r.1]:=by
 unfold nms
 rw [List.map_append,List.filter_append]
 congr 1
 by_cases h:r.1=[]<;>simp [h]
theorem nms_len (l:List Rw):(nms l).length≤l.length:=by
 unfold nms
 refine Nat.le_trans (List.length_filter_le _ _) ?_
 rw [List.length_map]
 exact Nat.le_refl _
theorem srt_len (l:List (List UInt8)):(srt l).length=l.length:=by
 unfold srt
 exact List.length_mergeSort _
theorem srt_perm (l:List (List UInt8)):(srt l).Perm l:=List.mergeSort_perm _ _
theorem le_tot (a b:List UInt8):a≤b∨b≤a:=Std.Total.total a b
theorem srt_sorted (l:List (List UInt8)):(srt l).Pairwise (·≤·):=by
 have h:=List.pairwise_mergeSort (le:=fun x y:List UInt8=>decide (x≤y)) (fun a b c h1 h2=>by
  simp only [decide_eq_true_eq] at *
  exact List.le_trans h1 h2) (fun a b=>by
  simp only [Bool.or_eq_true,decide_eq_true_eq]
  exact le_tot a b) l
 exact h.imp fun h=>by simpa using h
theorem sorted_eq {a b:List (List UInt8)} (ha:a.Pairwise (·≤·)) (hb:b.Pairwise (·≤·)) (h:a.Perm b):a=b :=
 List.Perm.eq_of_pairwise (fun x y _ _ h1 h2=>List.le_antisymm h1 h2) ha hb h
theorem sorted_srt {a b:List (List UInt8)} (ha:a.Pairwise (·≤·)) (h:a.Perm b):a=srt b:=sorted_eq ha (srt_sorted b) (h.trans (srt_perm b).symm)
def prt (b:List UInt8) (k:Nat):List UInt8:=(b.drop (32 * k)).take 32
def nch (b:List UInt8):Nat:=(b.length+31) / 32
def rws (b:List UInt8) (k:Nat):List Rw:=(List.range k).map fun i=>(dec (prt b i)).getD emp
def oks (b:List UInt8) (k:Nat):Bool:=(List.range k).all fun i=>(dec (prt b i)).isSome
def slots (b:List UInt8):Option (List Rw):=if oks b (nch b)=true∧(nms (rws b (nch b))).Nodup then some (rws b (nch b)) else none
theorem rws_len (b:List UInt8) (k:Nat):(rws b k).length=k:=by simp [rws]
theorem oks_mono {b:List UInt8} {k m:Nat} (h:oks b m=true) (hk:k≤m):oks b k=true:=by
 unfold oks at *
 rw [List.all_eq_true] at *
 intro i hi
 rw [List.mem_range] at hi
 exact h i (by rw [List.mem_range];omega)
theorem slots_oks {b:List UInt8} (h:oks b (nch b)=false):slots b=none:=by
 unfold slots
 rw [if_neg]
 rintro ⟨h1,_⟩
 rw [h] at h1
 cases h1
theorem slots_dup {b:List UInt8} (h:¬ (nms (rws b (nch b))).Nodup):slots b=none:=by
 unfold slots
 rw [if_neg]
 rintro ⟨_,h1⟩
 exact h h1
theorem slots_yes {b:List UInt8} (h:oks b (nch b)=true) (hn:(nms (rws b (nch b))).Nodup):slots b=some (rws b (nch b)):=by
 unfold slots
 rw [if_pos ⟨h,hn⟩]
end Go.Proofs.YtkganhafbjgndaaGreatRR.E
namespace Go.Proofs.YtkganhafbjgndaaGreatRR.E
open Go.RowKit
set_option linter.unusedVariables false
structure Bts (w:World) (B:Nat) (A:Option Addr) (n c:Nat) (l:List UInt8):Prop where
 len:l.length=n
 cap:n≤c
 lim:c≤maxLen
 nil:A=none→c=0
 at_:0<n→∃ b off,A=some ⟨b,off,none⟩∧b<B∧∀ j,j<n→w.cell? ⟨b,off+j,none⟩=some (.int .u8 ((l[j]?.getD 0).toNat:Int))
section
variable {w w':World} {B B' n c:Nat} {A:Option Addr} {l:List UInt8}
theorem Bts.keep (h:Bts w B A n c l) (hk:∀ p:Addr,p.block<B→w'.cell? p=w.cell? p):Bts w' B A n c l :=
 ⟨h.len,h.cap,h.lim,h.nil,fun hn=>by
  obtain ⟨b,off,e,hb,hc⟩:=h.at_ hn
  exact ⟨b,off,e,hb,fun j hj=>(hk _ hb).trans (hc j hj)⟩⟩
theorem Bts.more (h:Bts w B A n c l) (hB:B≤B'):Bts w B' A n c l :=
 ⟨h.len,h.cap,h.lim,h.nil,fun hn=>by
  obtain ⟨b,off,e,hb,hc⟩:=h.at_ hn
  exact ⟨b,off,e,by omega,hc⟩⟩
theorem Bts.below (h:Bts w B A n c l) (hb:Below B w w'):Bts w' B A n c l:=h.keep fun _ hp=>hb.cell hp
theorem Bts.nil_ (w:World) (B:Nat):Bts w B none 0 0 []:=⟨rfl,Nat.le_refl _,by decide,fun _=>rfl,fun h=>absurd h (by omega)⟩
theorem Bts.cell (h:Bts w B A n c l) {k:Nat} (hk:k<n):∃ b off,A=some ⟨b,off,none⟩∧b<B∧w.cell? ⟨b,off+k,none⟩=some (.int .u8 ((l[k]?.getD 0).toNat:Int)):=by
 obtain ⟨b,off,e,hb,hc⟩:=h.at_ (by omega)
 exact ⟨b,off,e,hb,hc k hk⟩
theorem Bts.str (h:Bts w B A n c l) (W:World) (hW:∀ p:Addr,p.block<B→W.cell? p=w.cell? p):(convert 41 9 (.slice A n c)).run Tryz.prog W=.ok (.string ⟨l.toArray⟩) W:=by
 rcases Nat.eq_zero_or_pos n with h0 | h0
 ·subst h0
  have hl:l=[]:=List.length_eq_zero_iff.1 h.len
  subst hl
  rw [run_convert_bytes_string W 41 9 5 _ 0 c Tryz.underlying41 Tryz.underlying5 Tryz.underlying9]
  cases A<;>simp [Conv.bytesToString,loadCells]
  all_goals rfl
 ·obtain ⟨b,off,rfl,hb,hc⟩:=h.at_ h0
  obtain rfl:=h.len
  refine run_convert_bytes_back W 41 9 5 ⟨b,off,none⟩ c l Tryz.underlying41 Tryz.underlying5 Tryz.underlying9 fun j hj=>?_
  have e:(⟨b,off,none⟩:Addr).add j=⟨b,off+j,none⟩:=by unfold Addr.add;split<;>simp_all
  rw [e,hW _ hb,hc j hj]
  simp [hj]
end
theorem heap_set {w:World} {g:Nat} {t:TypeId} {cs:Array Value} (h:w.heap[g]?=some (.cells cs t (0,0))) (i:Nat) (u:Value):(w.setCell ⟨g,i,none⟩ u).heap[g]?=some (.cells (cs.setIfInBounds i u) t (0,0)):=by
 simp [World.setCell,Array.getElem?_modify,h]
theorem cell_in {w:World} {g:Nat} {t:TypeId} {cs:Array Value} (h:w.heap[g]?=some (.cells cs t (0,0))) (i:Nat):w.cell? ⟨g,i,none⟩=cs[i]?:=cell_of_row w g i cs t (0,0) h
theorem free_in {w:World} {g:Nat} {t:TypeId} {cs:Array Value} (h:w.heap[g]?=some (.cells cs t (0,0))) (i:Nat):w.frozen? ⟨g,i,none⟩=false:=by
 simp [World.frozen?,h]
def bv (b:UInt8):Value:=.int .u8 (b.toNat:Int)
theorem Tryz.info5:(Tryz.prog.info? 5).map (fun i=>(i.zero,i.size,i.bytes))=some (some (.int .u8 0),1,1):=by kernel_rfl
structure Mine (w w':World) (v:Value) (l:List UInt8):Prop where
 own:w'.ownsRow w.heap.size 5 1 v l.length (l.map bv)
 bel:Below w.heap.size w w'
def GivesMine (w:World) (l:List UInt8) (e:Ending) (w':World):Prop:=∃ v,e=.returned v∧Mine w w' v l
def Holds (w:World) (B:Nat) (v:Value) (l:List UInt8):Prop:=∃ A n c,v=.slice A n c∧Bts w B A n c l
theorem Holds.below {w w':World} {B:Nat} {v:Value} {l:List UInt8} (h:Holds w B v l) (hb:Below B w w'):Holds w' B v l:=by
 obtain ⟨A,n,c,hv,h⟩:=h
 exact ⟨A,n,c,hv,h.below hb⟩
theorem Holds.more {w:World} {B B':Nat} {v:Value} {l:List UInt8} (h:Holds w B v l) (hB:B≤B'):Holds w B' v l:=by
 obtain ⟨A,n,c,hv,h⟩:=h
 exact ⟨A,n,c,hv,h.more hB⟩
theorem retb {a b:Bool} (h:a=b):Ending.returned (.bool a)=.returned (.bool b):=by rw [h]
def bs (l:List UInt8):ByteArray:=⟨l.toArray⟩
theorem bs_size (l:List UInt8):(bs l).size=l.length:=rfl
theorem bs_list (l:List UInt8):(bs l).toList=l:=by
 have h:(bs l).toList=(bs l).data.toList:=ByteArray.toList_eq _
 rw [h];rfl
theorem bs_two (a b:List UInt8):((bs a).toList == (bs b).toList)=decide (a=b):=by
 rw [bs_list,bs_list]
 by_cases h:a=b
 ·subst h;simp
 ·simp [h]
theorem fstr {w:World} {B n c:Nat} {A:Option Addr} {l:List UInt8} (h:Bts w B A n c l) (W:World) (hW:Below B w W):(convert 41 9 (.slice A n c)).run Tryz.prog W=.ok (.string (bs l)) W:=h.str W fun p hp=>hW.cell hp
theorem box_below (w:World) (o:Obj):Below w.heap.size w (w.alloc o):=(Below.refl _ w).alloc (Nat.le_refl _) o
theorem all_take {α:Type} {p:α→Bool} {l:List α} {k:Nat} {x:α} (h:l[k]?=some x) (h1:(l.take k).all p=true) (h2:p x=true):(l.take (k+1)).all p=true:=by
 obtain ⟨hk,rfl⟩:=List.getElem?_eq_some_iff.1 h
 rw [List.take_succ_eq_append_getElem hk,List.all_append,h1]
 simp [h2]
theorem ownsRow_keep {w w':World} {base e size n:Nat} {v:Value} {xs:List Value} (h:w.ownsRow base e size v n xs) (he:∀ b,v.ownBlock=some b→w'.heap[b]?=w.heap[b]?):w'.ownsRow base e size v n xs:=by
 refine ⟨h.1,?_⟩
 rcases h.2 with h0 | ⟨g,cap,cur,rfl,hg,hh,rest⟩
 ·exact .inl h0
 ·exact .inr ⟨g,cap,cur,rfl,hg,(he g rfl).trans hh,rest⟩
theorem bs_data (l:List UInt8):(bs l).data.toList=l:=rfl
theorem u8le (a b:UInt8):(a≤b) ↔ ((a.toNat:Int)≤(b.toNat:Int)):=by rw [UInt8.le_iff_toNat_le];omega
theorem u8eq (a b:UInt8):(a=b) ↔ ((a.toNat:Int)=(b.toNat:Int)):=by rw [← UInt8.toNat_inj];omega
end Go.Proofs.YtkganhafbjgndaaGreatRR.E
namespace Go.Proofs.YtkganhafbjgndaaGreatRR.E
open Go.RowKit
set_option linter.unusedVariables false
def rc (r:Rw):List Value:=[.string (bs r.1),.int .i64 r.2]
theorem rc_len (r:Rw):(rc r).length=2:=rfl
theorem rc_one (r:Rw):∀ v∈rc r,v.oneCell'=true:=by
 intro v hv
 simp only [rc,List.mem_cons,List.not_mem_nil,or_false] at hv
 rcases hv with rfl | rfl<;>rfl
theorem Tryz.info23:(Tryz.prog.info? 121).map (fun i=>(i.zero,i.size,i.bytes))=some (some (.agg #[.string (bs []),.int .i64 0]),2,24):=by kernel_rfl
theorem Tryz.info9:(Tryz.prog.info? 9).map (fun i=>(i.zero,i.size,i.bytes))=some (some (.string (bs [])),1,16):=by kernel_rfl
theorem s23:(Tryz.prog.info? 121).map (·.size)=some 2:=by kernel_rfl
theorem box1 (w:World) (o:Obj):(w.alloc o).heap[w.heap.size]?=some o∧Below w.heap.size w (w.alloc o)∧(w.alloc o).heap.size=w.heap.size+1 :=
 ⟨heap_alloc_new w o,box_below w o,by simp⟩
def eqF (d:Nat) (xs ys:Array Value):List (TypeId × Nat)→Sem Bool
 | []=>pure true
 | f :: fs=>do
  let a ← part f.1 xs f.2
  let b ← part f.1 ys f.2
  let r ← Op.equalIn d f.1 a b
  if (!r)=true then pure false else eqF d xs ys fs
structure Rws (w:World) (B:Nat) (A:Option Addr) (n c:Nat) (l:List Rw):Prop where
 len:l.length=n
 cap:n≤c
 lim:c≤maxLen
 at_:0<n→∃ b off,A=some ⟨b,off,none⟩∧b<B∧∀ j r,l[j]?=some r→w.cell? ⟨b,off+j * 2,none⟩=some (.string (bs r.1))∧w.cell? ⟨b,off+j * 2+1,none⟩=some (.int .i64 r.2)
section
variable {w w':World} {B B' n c:Nat} {A:Option Addr} {l:List Rw}
theorem Rws.keep (h:Rws w B A n c l) (hk:∀ p:Addr,p.block<B→w'.cell? p=w.cell? p):Rws w' B A n c l :=
 ⟨h.len,h.cap,h.lim,fun hn=>by
  obtain ⟨b,off,e,hb,hc⟩:=h.at_ hn
  exact ⟨b,off,e,hb,fun j r hj=>⟨(hk _ hb).trans (hc j r hj).1,(hk _ hb).trans (hc j r hj).2⟩⟩⟩
theorem Rws.more (h:Rws w B A n c l) (hB:B≤B'):Rws w B' A n c l :=
 ⟨h.len,h.cap,h.lim,fun hn=>by
  obtain ⟨b,off,e,hb,hc⟩:=h.at_ hn
  exact ⟨b,off,e,by omega,hc⟩⟩
theorem Rws.below (h:Rws w B A n c l) (hb:Below B w w'):Rws w' B A n c l:=h.keep fun _ hp=>hb.cell hp
theorem Rws.nil_ (w:World) (B:Nat):Rws w B none 0 0 []:=⟨rfl,Nat.le_refl _,by decide,fun h=>absurd h (by omega)⟩
theorem Rws.get (h:Rws w B A n c l) {k:Nat} (hk:k<n):∃ b off r,A=some ⟨b,off,none⟩∧b<B∧l[k]?=some r∧w.cell? ⟨b,off+k * 2,none⟩=some (.string (bs r.1))∧w.cell? ⟨b,off+k * 2+1,none⟩=some (.int .i64 r.2):=by
 obtain ⟨b,off,e,hb,hc⟩:=h.at_ (by omega)
 have hr:l[k]?=some (l[k]'(by rw [h.len];exact hk)):=List.getElem?_eq_getElem _
 exact ⟨b,off,_,e,hb,hr,hc k _ hr⟩
theorem Rws.head (h:Rws w B A n c l) {s:Nat} (hs:s≤n):Rws w B A s c (l.take s) :=
 ⟨by rw [List.length_take,h.len];omega,Nat.le_trans hs h.cap,h.lim,fun hn=>by
  obtain ⟨b,off,e,hb,hc⟩:=h.at_ (by omega)
  refine ⟨b,off,e,hb,fun j r hj=>hc j r ?_⟩
  rw [List.getElem?_take] at hj
  split at hj
  ·exact hj
  ·cases hj⟩
end
structure Strs (w:World) (B:Nat) (A:Option Addr) (n c:Nat) (l:List (List UInt8)):Prop where
 len:l.length=n
 cap:n≤c
 lim:c≤maxLen
 at_:0<n→∃ b off,A=some ⟨b,off,none⟩∧b<B∧∀ j,j<n→w.cell? ⟨b,off+j,none⟩=some (.string (bs (l[j]?.getD [])))
section
variable {w w':World} {B B' n c:Nat} {A:Option Addr} {l:List (List UInt8)}
theorem Strs.keep (h:Strs w B A n c l) (hk:∀ p:Addr,p.block<B→w'.cell? p=w.cell? p):Strs w' B A n c l :=
 ⟨h.len,h.cap,h.lim,fun hn=>by
  obtain ⟨b,off,e,hb,hc⟩:=h.at_ hn
  exact ⟨b,off,e,hb,fun j hj=>(hk _ hb).trans (hc j hj)⟩⟩
theorem Strs.more (h:Strs w B A n c l) (hB:B≤B'):Strs w B' A n c l :=
 ⟨h.len,h.cap,h.lim,fun hn=>by
  obtain ⟨b,off,e,hb,hc⟩:=h.at_ hn
  exact ⟨b,off,e,by omega,hc⟩⟩
theorem Strs.below (h:Strs w B A n c l) (hb:Below B w w'):Strs w' B A n c l:=h.keep fun _ hp=>hb.cell hp
theorem Strs.nil_ (w:World) (B:Nat):Strs w B none 0 0 []:=⟨rfl,Nat.le_refl _,by decide,fun h=>absurd h (by omega)⟩
theorem Strs.cell (h:Strs w B A n c l) {k:Nat} (hk:k<n):∃ b off,A=some ⟨b,off,none⟩∧b<B∧w.cell? ⟨b,off+k,none⟩=some (.string (bs (l[k]?.getD []))):=by
 obtain ⟨b,off,e,hb,hc⟩:=h.at_ (by omega)
 exact ⟨b,off,e,hb,hc k hk⟩
end
theorem flat_get {α:Type} {f:α→List Value} {k:Nat}:∀ {l:List α},(∀ x∈l,(f x).length=k)→∀ {i j:Nat} {x:α},l[i]?=some x→j<k→(l.flatMap f)[i * k+j]?=(f x)[j]?:=by
 intro l
 induction l with
 | nil=>intro _ i j x h;simp at h
 | cons a r ih =>
  intro hk i j x h hj
  have ha:(f a).length=k:=hk a (by simp)
  rw [List.flatMap_cons]
  cases i with
  | zero =>
   simp at h
   subst h
   rw [Nat.zero_mul,Nat.zero_add,List.getElem?_append_left (by omega)]
  | succ i =>
   rw [List.getElem?_append_right (by rw [ha,Nat.succ_mul];omega),ha,show (i+1) * k+j - k=i * k+j by rw [Nat.succ_mul];omega]
   exact ih (fun x hx=>hk x (by simp [hx])) (by simpa using h) hj
def OwnR (w:World) (base:Nat) (v:Value) (l:List Rw):Prop:=w.ownsRow base 121 2 v l.length (l.flatMap rc)
def OwnS (w:World) (base:Nat) (v:Value) (l:List (List UInt8)):Prop:=w.ownsRow base 9 1 v l.length (l.map fun s=>.string (bs s))
theorem OwnR.rws {w:World} {base:Nat} {v:Value} {l:List Rw} (h:OwnR w base v l):∃ A c,v=.slice A l.length c∧Rws w w.heap.size A l.length c l:=by
 rcases h.2 with ⟨rfl,h0⟩ | ⟨g,cap,cur,rfl,hg,hh,hn,hm,hs,ht⟩
 ·obtain rfl:l=[]:=List.length_eq_zero_iff.1 h0
  exact ⟨none,0,rfl,Rws.nil_ _ _⟩
 ·refine ⟨_,cap,rfl,⟨rfl,hn,hm,fun h0=>⟨g,0,rfl,(Array.getElem?_eq_some_iff.1 hh).1,fun j r hj=>?_⟩⟩⟩
  have hjl:j<l.length:=(List.getElem?_eq_some_iff.1 hj).1
  have hget:∀ i,i<2→w.cell? ⟨g,j * 2+i,none⟩=(rc r)[i]?:=fun i hi=>by
   rw [cell_in hh]
   have:cur.toList[j * 2+i]?=(l.flatMap rc)[j * 2+i]?:=by
    conv=>rhs;rw [← ht]
    rw [List.getElem?_take,if_pos (by omega)]
   rw [← Array.getElem?_toList,this,flat_get (fun x _=>rc_len x) hj hi]
  rw [Nat.zero_add]
  exact ⟨hget 0 (by omega),hget 1 (by omega)⟩
theorem OwnR.below {w w':World} {base:Nat} {v:Value} {l:List Rw} (h:OwnR w base v l) (hb:Below w.heap.size w w'):OwnR w' base v l :=
 ownsRow_keep h fun b hb'=>hb.block b (h.lt b hb').2
theorem OwnR.nil_ (w:World) (base:Nat):OwnR w base (.slice none 0 0) []:=World.ownsRow_nil _ _ _ _
theorem OwnS.strs {w:World} {base:Nat} {v:Value} {l:List (List UInt8)} (h:OwnS w base v l):∃ A c,v=.slice A l.length c∧Strs w w.heap.size A l.length c l:=by
 rcases h.2 with ⟨rfl,h0⟩ | ⟨g,cap,cur,rfl,hg,hh,hn,hm,hs,ht⟩
 ·obtain rfl:l=[]:=List.length_eq_zero_iff.1 h0
  exact ⟨none,0,rfl,Strs.nil_ _ _⟩
 ·refine ⟨_,cap,rfl,⟨rfl,hn,hm,fun h0=>⟨g,0,rfl,(Array.getElem?_eq_some_iff.1 hh).1,fun j hj=>?_⟩⟩⟩
  rw [Nat.zero_add,cell_in hh]
  have e:cur.toList[j]?=(l.map fun s=>Value.string (bs s))[j]?:=by
   rw [← ht,List.getElem?_take,if_pos (by omega)]
  rw [← Array.getElem?_toList,e]
  simp [hj]
theorem OwnS.below {w w':World} {base:Nat} {v:Value} {l:List (List UInt8)} (h:OwnS w base v l) (hb:Below w.heap.size w w'):OwnS w' base v l :=
 ownsRow_keep h fun b hb'=>hb.block b (h.lt b hb').2
theorem OwnS.nil_ (w:World) (base:Nat):OwnS w base (.slice none 0 0) []:=World.ownsRow_nil _ _ _ _
theorem appS_run {w:World} {base:Nat} {v:Value} {l:List (List UInt8)} (s:List UInt8) (hown:OwnS w base v l) (hk:l.length≤5000000000000) (hbase:base≤w.heap.size) :
  ∃ v' w',(Builtin.append_ #[36,36] 36 #[v,.slice (some ⟨w.heap.size,0,none⟩) 1 1]).run Tryz.prog (w.alloc (.cells #[.string (bs s)] 9))=.ok v' w'∧OwnS w' base v' (l++[s])∧Below base w w':=by
 obtain ⟨i0,hi,hz0,hz1,hz2⟩:=info_parts Tryz.info9
 obtain ⟨v',w',hr,h2,h3,_⟩:=run_append_own (P:=Tryz.prog) (w.alloc (.cells #[.string (bs s)] 9)) base 36 36 9 i0 _ 1 16 Tryz.underlying36 hi hz0 hz1 hz2 rfl (by decide) v l.length (l.map fun s=>.string (bs s)) (World.ownsRow.alloc hown _) ⟨w.heap.size,0,none⟩ 1 1 [.string (bs s)] (by rfl)
  (fun j u hu=>by
   rw [Addr.add_lit,World.cell?_alloc_mark,Nat.zero_add]
   match j,hu with
   | 0,hu=>exact hu
   | j+1,hu=>simp at hu) (fun u hu=>by simp only [List.mem_cons,List.not_mem_nil,or_false] at hu;subst hu;rfl) (by unfold maxLen;omega) (by omega) (by simp;omega)
 refine ⟨v',w',hr,?_,((Below.refl base w).alloc hbase _).grown h3 (by simp;omega) fun j hj=>(World.ownsRow.lt hown j hj).1⟩
 unfold OwnS
 rw [List.map_append,List.length_append]
 simpa using h2
end Go.Proofs.YtkganhafbjgndaaGreatRR.E
namespace Go.Proofs.YtkganhafbjgndaaGreatRR.E
open Go.RowKit
set_option linter.unusedVariables false
theorem load_row {P:Program} (w:World) (g:Nat) (t ty:TypeId) (cs:Array Value) (fr:Nat × Nat) (d:TypeDesc) (hg:w.heap[g]?=some (.cells cs t fr)) (hu:P.underlying ty=some d) (hd:d.isRow=true) (hi:(P.info? ty).map (·.size)=some cs.size) :
  (loadVar ty ⟨g,0,none⟩).run P w=.ok (.agg cs) w:=by
 have:=run_loadVar_mid w g 0 ty cs.toList d (fun j v hv=>by rw [Nat.zero_add,cell_of_row w g j cs t fr hg];simpa using hv) hu hd (by simpa using hi)
 simpa using this
theorem wpList_load_row {P:Program} {ops:Array Oper} {rest:List Oper} {op:Oper} {a:Act} {w:World} {Q:Exit→Act→World→Prop} (hw:Region.wanted op (yielded ops a.tmps)=true) (ty:TypeId) (x:Operand) (ho:op.op=.load ty x)
  (g:Nat) (hx:a.eval x=.pointer (some ⟨g,0,none⟩)) (C:Array Value) (t:TypeId) (fr:Nat × Nat) (hg:w.heap[g]?=some (.cells C t fr)) (d:TypeDesc)
  (hu:P.underlying ty=some d) (hd:d.isRow=true) (hi:(P.info? ty).map (·.size)=some C.size)
  (h:wpList P ops Q rest (a.put op.dst (.agg C)) w):wpList P ops Q (op :: rest) a w :=
 wpList_step fun K hK=>by
  simp only [hw,if_true]
  unfold Oper.wp execOp
  simp only [ho,hx,Instr.loadAt,Instr.sureAddr,Sem.run_bind,Sem.run_pure,Result.andThen_ok,load_row w g t ty C fr d hg hu hd hi]
  exact hK _ _ h
theorem wpList_store_row {P:Program} {ops:Array Oper} {rest:List Oper} {op:Oper} {a:Act} {w:World} {Q:Exit→Act→World→Prop} (hgd:op.guard=none) (ty:TypeId) (x y:Operand) (ho:op.op=.store ty x y)
  (g:Nat) (C C':Array Value) (t:TypeId) (hx:a.eval x=.pointer (some ⟨g,0,none⟩)) (hy:a.eval y=.agg C') (hg:w.heap[g]?=some (.cells C t (0,0)))
  (hi:(P.info? ty).map (·.size)=some C'.size) (hs:C.size=C'.size) (h1:C'.all (·.oneCell')=true)
  (h:wpList P ops Q rest (a.put op.dst undef) (w.setRow g C')):wpList P ops Q (op :: rest) a w :=
 wpList_plain hgd fun K hK=>by
  unfold Oper.wp execOp
  simp only [ho,hx,hy,Instr.storeAt,Instr.sureAddr,Sem.run_bind,Sem.run_pure,Result.andThen_ok,run_storeVar_row w g t ty C C' hg hi hs h1]
  exact hK _ _ h
theorem ret_row2 {fn:Func} {p u:Tmp} {ty:TypeId} (h:fn.results=#[.cell p ty,.tmp u]) {tmps:Array Value} {W:World} {g:Nat} {cs:Array Value} {t:TypeId} {fr:Nat × Nat} {d:TypeDesc} (hp:tmps.getD p undef=.pointer (some ⟨g,0,none⟩)) (hg:W.heap[g]?=some (.cells cs t fr))
  (hu:Tryz.prog.underlying ty=some d) (hd:d.isRow=true) (hi:(Tryz.prog.info? ty).map (·.size)=some cs.size):(results fn tmps).run Tryz.prog W=.ok (.tuple #[.agg cs,tmps.getD u undef]) W:=by
 rw [results_cell_tmp h,hp]
 have hl:=load_row (P:=Tryz.prog) W g t ty cs fr d hg hu hd hi
 simp only [asAddr,Sem.run_pure,Result.andThen_ok,hl]
theorem setRow_in (w:World) (g:Nat) (C C':Array Value) (t:TypeId) (h:w.heap[g]?=some (.cells C t (0,0))):(w.setRow g C').heap[g]?=some (.cells C' t (0,0)):=setRow_heap w g C C' t _ h
theorem below_row {B g:Nat} {a w:World} (h:Below B a w) (hg:B≤g) (C:Array Value):Below B a (w.setRow g C) :=
 ⟨h.os,h.tape,h.output,by simpa [World.setRow] using h.size,fun k hk=>(setRow_other w g k _ (by omega)).trans (h.block k hk)⟩
theorem Bts.sub {w:World} {B n c bb off:Nat} {l:List UInt8} (h:Bts w B (some ⟨bb,off,none⟩) n c l) {s m:Nat} (hm:s+m≤n):Bts w B (some ⟨bb,off+s,none⟩) m (c - s) ((l.drop s).take m):=by
 have h1:=h.len
 have h2:=h.cap
 have h3:=h.lim
 refine ⟨by rw [List.length_take,List.length_drop];omega,by omega,by omega,(fun e=>by cases e),fun h0=>?_⟩
 obtain ⟨b,o,e,hb,hc⟩:=h.at_ (by omega)
 cases e
 refine ⟨bb,off+s,rfl,hb,fun j hj=>?_⟩
 rw [Nat.add_assoc,hc (s+j) (by omega),List.getElem?_take,if_pos hj,List.getElem?_drop]
theorem Bts.sub3 {w:World} {B n c bb off:Nat} {l:List UInt8} (h:Bts w B (some ⟨bb,off,none⟩) n c l) {s m:Nat} (hm:s+m≤n):Bts w B (some ⟨bb,off+s,none⟩) m m ((l.drop s).take m):=by
 have h1:=h.sub hm
 have h2:=h1.cap
 have h3:=h1.lim
 exact ⟨h1.len,Nat.le_refl _,by omega,(fun e=>by cases e),h1.at_⟩
end Go.Proofs.YtkganhafbjgndaaGreatRR.E
