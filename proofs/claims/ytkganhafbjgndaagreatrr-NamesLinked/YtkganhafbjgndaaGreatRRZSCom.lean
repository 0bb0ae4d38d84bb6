/- store: Put, Read, Node, lists, New, Commit. -/
import Derived.Test.YtkganhafbjgndaaGreatRRZSSto
import Derived.Test.YtkganhafbjgndaaGreatRRZMU
import Derived.Test.YtkganhafbjgndaaGreatRRZMA
import Derived.Test.YtkganhafbjgndaaGreatRRZMK
import Derived.OwnWalk
import Derived.StillTailTactics
namespace Go.Proofs.YtkganhafbjgndaaGreatRR
open Go.RowKit
set_option linter.unusedVariables false
set_option maxRecDepth 20000
theorem okn_of {n N:Nat} (hN:N≤1024) (hn:n<N) (hl:¬ inLog n):okn n=true:=by
 rw [okn_iff]
 unfold inLog at hl
 omega
def Put1 (w0 w:World) (p d:Nat) (O:List Nat) (N:Nat) (s:DS) (X:Secs2) (q:Nat) (m':List Wr) (e:Ending) (w':World):Prop:=e=.returned (.int .i64 0)∧Sto w0 w' p d O N s X q m'∧Chg [q] w w'
section
variable {w0 w:World} {p d N q:Nat} {O:List Nat} {s:DS} {X:Secs2} {m:List Wr}
theorem MapAt.nocell {o:Nat} (h:MapAt w q m):w.cell? ⟨q,o,none⟩=none:=by
 obtain ⟨es,clock,hb,_⟩:=h
 simp [World.cell?,hb]
theorem kbts {n c g:Nat} {l:List UInt8} {B:Nat} (h:K.Bts w B (some ⟨g,0,none⟩) n c l):Bts w (IM g) (some ⟨g,0,none⟩) n c l :=
 ⟨h.len,h.cap,h.lim,fun hn=>⟨g,0,rfl,rfl,fun j v hj=>by
  obtain ⟨b,off,e,hb,hc⟩:=h.at_ hn
  cases e
  have hjl:j<l.length:=by have:=(List.getElem?_eq_some_iff.1 hj).1;rwa [bc_len] at this
  rw [bc_get hjl] at hj
  rw [hc j (by rw [← h.len];exact hjl),hj]⟩⟩
theorem kbts_ne {n c g:Nat} {l:List UInt8} {B:Nat} (h:K.Bts w B (some ⟨g,0,none⟩) n c l) (hn:0<n) (hq:MapAt w q m):g≠q∧g<w.heap.size:=by
 obtain ⟨b,off,e,hb,hc⟩:=h.at_ hn
 cases e
 have hc0:=hc 0 hn
 refine ⟨fun e=>?_,?_⟩
 ·subst e
  rw [hq.nocell] at hc0
  cases hc0
 ·apply Classical.byContradiction
  intro hge
  have:w.heap[g]?=none:=Array.getElem?_eq_none (by omega)
  simp [World.cell?,this] at hc0
theorem has_yes (h:Sto w0 w p d O N s X q m) {n:Nat} (hn:n<N) (hl:¬ inLog n) :
  Calls Tryz.prog 125 #[.pointer (some ⟨p,0,none⟩),.int .i64 n] w fun e w'=>e=.returned (.bool true)∧w=w':=by
 have H:=Lib.hid h
 have hc0:=h.st.c0
 unfold inLog at hl
 clear h
 have hnn:(0:Int)≤(n:Int):=by omega
 have hnN:(n:Int)<N:=by omega
 by_cases h1:1≤n
 ·have h26:decide ((n:Int)<26)=false:=by simp;omega
  have h1':decide ((1:Int)≤n)=true:=by simp;omega
  go_enter Tryz.func125,Tryz.ntmps125
  go_wp2_with (first | (go_at_call 52;refine (sectorsD H.out.ons.sit.drv).mono ?_;rintro e w' ⟨rfl,rfl⟩) | fail)
  go_ret
  exact ⟨rfl,rfl⟩
 ·obtain rfl:n=0:=by omega
  go_enter Tryz.func125,Tryz.ntmps125
  go_wp2_with (first | (go_at_call 52;refine (sectorsD H.out.ons.sit.drv).mono ?_;rintro e w' ⟨rfl,rfl⟩) | fail)
  go_ret
  exact ⟨rfl,rfl⟩
set_option maxHeartbeats 1000000 in
theorem put_yes (h:Sto w0 w p d O N s X q m) {n c:Nat} {x:List UInt8} {A:Option Addr} {M:Nat→Prop} (hn:n<N) (hl:¬ inLog n) (hB:Bts w M A 128 c x) (hM:∀ b,M b→b<w.heap.size∧b≠q) (hr:find m n≠none∨m.length<24) :
  Calls Tryz.prog 91 #[.pointer (some ⟨p,0,none⟩),.int .i64 n,.slice A 128 c] w (Put1 w0 w p d O N s X q (ins n x m)):=by
 have H:=Lib.hid h
 have HB:=Lib.hid hB
 have HM:=Lib.hid hM
 have HR:=Lib.hid hr
 have HN:=Lib.hid hn
 have HL:=Lib.hid hl
 clear h hB hM hr hn hl
 go_enter Tryz.func91,Tryz.ntmps91
 go_wp2_with fail
 refine (barred_ok H.out.st).mono ?_
 rintro e w1 ⟨rfl,rfl⟩
 go_wp2_with fail
 refine (has_yes H.out HN.out HL.out).mono ?_
 rintro e w1 ⟨rfl,rfl⟩
 go_wp2_with fail
 have hbx:=(Below.refl w.heap.size w).alloc (Nat.le_refl _) (.cells #[.int .i64 (n:Int),.slice A 128 c] 109)
 refine (change_any (ws:=[((n:Int),x)]) (H.out.below hbx) (wrs_1 (n:Int) HB.out (fun b hb=>(HM.out b hb).1)) ?_ ?_).mono ?_
 ·rintro b (hb | rfl)
  ·exact ⟨by simp;have:=(HM.out b hb).1;omega,(HM.out b hb).2⟩
  ·exact ⟨by simp,by have:=H.out.map.lt;omega⟩
 ·refine ⟨H.out.mok,fun r hr=>?_,?_⟩
  ·simp at hr
   subst hr
   exact ⟨okn_of H.out.n1 HN.out HL.out,by have:=HN.out;simp;omega,HB.out.len⟩
  ·have:=H.out.mok.len
   unfold newk
   cases hf:find m n with
   | some z=>simp [hf];omega
   | none =>
    rcases HR.out with g | g
    ·exact absurd hf g
    ·simp [hf];omega
 ·rintro e w2 ⟨rfl,hs,hc⟩
  have HS:=Lib.hid hs
  have HC:=Lib.hid ((Chg.of_below hbx).tr hc)
  clear hs hc hbx
  go_wp2_with fail
  go_ret
  exact ⟨rfl,HS.out,HC.out⟩
theorem holder_any (n:Nat) (w:World) (hn:n<32):Calls Tryz.prog 101 #[.int .i64 n] w fun e w'=>e=.returned (.int .i64 ((35+n / 4:Nat):Int))∧w=w':=by
 have h1:(n:Int).tdiv 4=((n / 4:Nat):Int):=by rw [Int.tdiv_eq_ediv_of_nonneg (by omega)];omega
 have h2:IntKind.i64.wrap ((n:Int).tdiv 4)=((n / 4:Nat):Int):=by rw [h1,IntKind.wrap_i64];omega
 have h3:IntKind.i64.wrap (35+((n / 4:Nat):Int))=35+((n / 4:Nat):Int):=by rw [IntKind.wrap_i64];omega
 go_enter Tryz.func101,Tryz.ntmps101
 go_wp2
 go_ret
 exact ⟨F.ret1 (by omega),rfl⟩
theorem lt_sec {a b c:Nat} (h:U.ok a b c=true):(U.sec a b c).length=128:=(U.isSec_sec h).1
set_option maxHeartbeats 1000000 in
theorem setSuper_yes (h:Sto w0 w p d O N s X q m) (a b c:Nat) (ho:U.ok a b c=true) (hr:find m 0≠none∨m.length<24) :
  Calls Tryz.prog 54 #[.pointer (some ⟨p,0,none⟩),.agg #[.int .i64 a,.int .i64 b,.int .i64 c]] w (Put1 w0 w p d O N s X q (ins 0 (U.sec a b c) m)):=by
 have H:=Lib.hid h
 have HO:=Lib.hid ho
 have HR:=Lib.hid hr
 clear h ho hr
 go_enter Tryz.func54,Tryz.ntmps54
 go_wp2_with fail
 refine (U.encode_yes a b c _ HO.out).mono ?_
 rintro e w1 ⟨v,rfl,hm⟩
 obtain ⟨g,cap,rfl,hg1,hg2,hbt⟩:=mine_bts hm (by rw [lt_sec HO.out];omega)
 have hb1:=((Below.refl w.heap.size w).alloc (Nat.le_refl _) (.cells #[.int .i64 (a:Int),.int .i64 (b:Int),.int .i64 (c:Int)] 101)).trans (hm.bel.mono (by simp))
 rw [lt_sec HO.out] at hbt ⊢
 have HBT:=Lib.hid hbt
 have HB1:=Lib.hid hb1
 have H1:=Lib.hid (H.out.below hb1)
 have hgq:g≠q:=by have:=H.out.map.lt;simp at hg1;omega
 clear hm hbt hb1
 go_wp2_with fail
 refine (put_yes (n:=0) H1.out (by have:=H.out.n64;omega) (by unfold inLog;omega) HBT.out (fun b hb=>by cases hb;exact ⟨hg2,hgq⟩) HR.out).mono ?_
 rintro e w2 ⟨rfl,hs,hc⟩
 have HS:=Lib.hid hs
 have HC:=Lib.hid ((Chg.of_below HB1.out).tr hc)
 clear hs hc
 go_wp2_with fail
 go_ret
 exact ⟨rfl,HS.out,HC.out⟩
theorem seats_yes (h:Sto w0 w p d O N s X q m) {n:Nat} (hn:n<8):Calls Tryz.prog 136 #[.pointer (some ⟨p,0,none⟩),.int .i64 n] w fun e w'=>e=.returned (.int .i64 0)∧w=w':=by
 have H:=Lib.hid h
 clear h
 have h0:decide ((n:Int)<0)=false:=by simp
 have h1:decide ((8:Int)≤n)=false:=by simp;omega
 go_enter Tryz.func136,Tryz.ntmps136
 go_wp2_with fail
 refine (barred_ok H.out.st).mono ?_
 rintro e w1 ⟨rfl,rfl⟩
 go_wp2_with fail
 go_ret
 exact ⟨rfl,rfl⟩
def seat0:List UInt8:=A.sec 0 0 []
theorem seat0_ok:A.ok 0 0 ([]:List UInt8).length=true:=by decide
theorem seat0_is:A.IsSec seat0:=A.isSec_sec seat0_ok
theorem seat0_len:seat0.length=128:=seat0_is.1
set_option maxHeartbeats 1000000 in
theorem setSeat_zero (h:Sto w0 w p d O N s X q m) {n:Nat} (hn:n<8) (hr:find m ((26+n:Nat):Int)≠none∨m.length<24) :
  Calls Tryz.prog 99 #[.pointer (some ⟨p,0,none⟩),.int .i64 n,.agg #[.int .i64 0,.int .i64 0,.slice none 0 0]] w (Put1 w0 w p d O N s X q (ins ((26+n:Nat):Int) seat0 m)):=by
 have H:=Lib.hid h
 have HR:=Lib.hid hr
 clear h hr
 have hbx:=(Below.refl w.heap.size w).alloc (Nat.le_refl _) (.cells #[.int .i64 0,.int .i64 0,.slice none 0 0] 156)
 have H0:=Lib.hid (H.out.below hbx)
 have HBX:=Lib.hid hbx
 clear hbx
 go_enter Tryz.func99,Tryz.ntmps99
 go_wp2_with fail
 refine (seats_yes H0.out hn).mono ?_
 rintro e w1 ⟨rfl,rfl⟩
 go_wp2_with fail
 refine (A.encode_yes 0 0 none 0 0 0 [] _ (F.Bts.nil_ _ _) (Nat.zero_le _) (by decide)).mono ?_
 rintro e w1 ⟨v,rfl,hm⟩
 obtain ⟨g,cap,rfl,hg1,hg2,hbt⟩:=mine_bts hm (by rw [show (A.sec 0 0 []).length=128 from seat0_len];omega)
 rw [show (A.sec 0 0 []).length=128 from seat0_len] at hbt ⊢
 have HBT:=Lib.hid hbt
 have HB1:=Lib.hid (HBX.out.trans (hm.bel.mono HBX.out.size))
 have H1:=Lib.hid (H0.out.below hm.bel)
 have hgq:g≠q:=by have:=H0.out.map.lt;omega
 clear hm hbt
 have hw1:IntKind.i64.wrap (26+(n:Int))=((26+n:Nat):Int):=by rw [IntKind.wrap_i64];omega
 go_wp2_with fail
 refine (put_yes (n:=26+n) H1.out (by have:=H.out.n64;omega) (by unfold inLog;omega) HBT.out (fun b hb=>by cases hb;exact ⟨hg2,hgq⟩) HR.out).mono ?_
 rintro e w2 ⟨rfl,hs,hc⟩
 have HS:=Lib.hid hs
 have HC:=Lib.hid ((Chg.of_below HB1.out).tr hc)
 clear hs hc
 go_wp2_with fail
 go_ret
 exact ⟨rfl,HS.out,HC.out⟩
def markL:Nat→List UInt8
 | 0=>zeros
 | k+1=>K.setb (markL k) k true
theorem markL_len (k:Nat):(markL k).length=128:=by
 induction k with
 | zero=>rfl
 | succ k ih=>rw [markL,K.setb_length,ih]
set_option maxHeartbeats 1000000 in
theorem fillMarks_yes (h:Sto w0 w p d O N s X q m) (hr:find m 34≠none∨m.length<24) :
  Calls Tryz.prog 100 #[.pointer (some ⟨p,0,none⟩)] w (Put1 w0 w p d O N s X q (ins 34 (markL 43) m)):=by
 have H:=Lib.hid h
 have HR:=Lib.hid hr
 clear h hr
 have hmk:=make128_all w
 go_enter Tryz.func100,Tryz.ntmps100
 go_wp2_with fail
 clear hmk
 obtain ⟨a0,a1,a2⟩:=D.box1 w (Obj.cells (bc zeros).toArray 5)
 have HA:Hid (K.Bts (w.alloc (Obj.cells (bc zeros).toArray 5)) (w.heap.size+1) (some ⟨w.heap.size,0,none⟩) 128 128 zeros) :=
  let f:=blk_fbts a0 rfl
  ⟨f.len,f.cap,f.lim,f.nil,f.at_⟩
 have HB:Hid (Below w.heap.size w (w.alloc (Obj.cells (bc zeros).toArray 5))):=a1
 rw [← a2] at HA
 clear a0 a1 a2
 generalize w.alloc (Obj.cells (bc zeros).toArray 5)=W0 at *
 go_loopw [3,7] (fun v i wr=>∃ k g cap:Nat,k≤43∧i=.int .i64 k∧v=.slice (some ⟨g,0,none⟩) 128 cap∧Hid (K.Bts wr wr.heap.size (some ⟨g,0,none⟩) 128 cap (markL k))∧Hid (Below w.heap.size w wr)) (fun _ i _=>43 - (intOf i).toNat)
 case atStart=>exact ⟨0,_,_,Nat.zero_le _,rfl,rfl,HA,HB⟩
 case round =>
  obtain ⟨k,g,cap,hk,rfl,rfl,HK,HBW⟩:=hrel
  by_cases hlt:k<43
  ·go_wp2_with fail
   refine (K.set_yes k true HK.out (Nat.le_refl _) (by omega)).mono ?_
   rintro e w1 ⟨g1,cap1,rfl,hb1,hb2⟩
   have HK1:=Lib.hid hb1
   have HB1:=Lib.hid (HBW.out.trans (hb2.mono HBW.out.size))
   clear hb1 hb2
   go_wp2_with fail
   go_roundw
   case rel=>exact ⟨k+1,g1,cap1,by omega,by go_num,rfl,HK1,HB1⟩
   case measure=>simp [intOf];omega
  ·obtain rfl:k=43:=by omega
   rw [show ((43:Nat):Int)=43 from rfl]
   have H1:=Lib.hid (H.out.below HBW.out)
   have hne:=kbts_ne HK.out (by omega) H1.out.map
   have HKB:=Lib.hid (kbts HK.out)
   go_wp2_with fail
   refine (put_yes (n:=34) H1.out (by have:=H.out.n64;omega) (by unfold inLog;omega) HKB.out (fun b hb=>by cases hb;exact ⟨hne.2,hne.1⟩) HR.out).mono ?_
   rintro e w2 ⟨rfl,hs,hc⟩
   have HS:=Lib.hid hs
   have HC:=Lib.hid ((Chg.of_below HBW.out).tr hc)
   clear hs hc
   go_wp2_with fail
   go_ret
   exact ⟨rfl,HS.out,HC.out⟩
end
end Go.Proofs.YtkganhafbjgndaaGreatRR
namespace Go.Proofs.YtkganhafbjgndaaGreatRR
open Go.RowKit
set_option linter.unusedVariables false
set_option maxRecDepth 20000
def SupR (w:World) (x y z er:Int) (e:Ending) (w':World):Prop:=e=.returned (.tuple #[.agg #[.int .i64 x,.int .i64 y,.int .i64 z],.int .i64 er])∧Below w.heap.size w w'
theorem s42:(Tryz.prog.info? 101).map (·.size)=some 3:=by kernel_rfl
theorem s49x:(Tryz.prog.info? 156).map (·.size)=some 3:=by kernel_rfl
theorem s47:(Tryz.prog.info? 66).map (·.size)=some 11:=by kernel_rfl
theorem s34:(Tryz.prog.info? 109).map (·.size)=some 2:=by kernel_rfl
theorem oc3 (x y z:Int):(#[.int .i64 x,.int .i64 y,.int .i64 z]:Array Value).all (·.oneCell')=true:=all_oneCell_toArray (cs:=[.int .i64 x,.int .i64 y,.int .i64 z]) (by simp [Value.oneCell'])
theorem oc3s (x y:Int) (A:Option Addr) (n c:Nat):(#[.int .i64 x,.int .i64 y,.slice A n c]:Array Value).all (·.oneCell')=true:=all_oneCell_toArray (cs:=[.int .i64 x,.int .i64 y,.slice A n c]) (by simp [Value.oneCell'])
section
variable {w0 w:World} {p d N q:Nat} {O:List Nat} {s:DS} {X:Secs2} {m:List Wr}
theorem fb {b:Nat} {x:List UInt8} (h:w.heap[b]?=some (.cells (bc x).toArray 200 (0,0))) (hx:x.length=128):F.Bts w w.heap.size (some ⟨b,0,none⟩) 128 128 x :=
 (blk_fbts h hx).more (Array.getElem?_eq_some_iff.1 h).1
theorem kb {b:Nat} {x:List UInt8} (h:w.heap[b]?=some (.cells (bc x).toArray 200 (0,0))) (hx:x.length=128):K.Bts w w.heap.size (some ⟨b,0,none⟩) 128 128 x :=
 let f:=fb h hx
 ⟨f.len,f.cap,f.lim,f.nil,f.at_⟩
set_option maxHeartbeats 1000000 in
theorem begins_gen (h:Sto w0 w p d O N s X q m) (x y z er:Int) (hd:∀ (w1:World) (b:Nat),F.Bts w1 w1.heap.size (some ⟨b,0,none⟩) 128 128 (view X m 0)→Calls Tryz.prog 139 #[.slice (some ⟨b,0,none⟩) 128 128] w1 (SupR w1 x y z er)) :
  Calls Tryz.prog 102 #[.pointer (some ⟨p,0,none⟩)] w (SupR w x y z er):=by
 have HD:=Lib.hid hd
 obtain ⟨a0,a1,a2⟩:=D.box1 w (Obj.cells #[.int .i64 0,.int .i64 0,.int .i64 0] 101)
 have A0:=Lib.hid a0
 have A1:=Lib.hid a1
 have A2:=Lib.hid a2
 have H:=Lib.hid (h.below a1)
 have H64:=Lib.hid h.n64
 have HL:=Lib.hid (h.view_len (n:=0) (by have:=h.n64;omega) (by unfold inLog;omega))
 clear hd a0 a1 a2 h
 go_enter Tryz.func102,Tryz.ntmps102
 go_wp2_with fail
 refine (get_any (n:=0) H.out (by have:=H64.out;omega) (by unfold inLog;omega)).mono ?_
 rintro e w1 ⟨b,rfl,hb1,hb2,hb3⟩
 have HB:=Lib.hid (fb hb2 HL.out)
 have G1:=Lib.hid ((hb3.block _ (by rw [A2.out];omega)).trans A0.out)
 have GB:=Lib.hid (A1.out.trans (hb3.mono (by rw [A2.out];omega)))
 have hs1:w.heap.size+1≤w1.heap.size:=by have:=hb3.size;rw [A2.out] at this;exact this
 clear hb1 hb2 hb3 A0 A1 A2
 go_wp2_with fail
 refine (HD.out w1 b HB.out).mono ?_
 rintro e w2 ⟨rfl,hb3⟩
 have G2:=Lib.hid ((hb3.block w.heap.size (by omega)).trans G1.out)
 have GB2:=Lib.hid (GB.out.trans (hb3.mono (by omega)))
 clear hb3 G1 GB
 go_wp2_with (first | (refine D.wpList_store_row rfl 101 _ _ rfl w.heap.size #[.int .i64 0,.int .i64 0,.int .i64 0] #[.int .i64 x,.int .i64 y,.int .i64 z] 101 rfl rfl G2.out s42 rfl (oc3 x y z) ?_) | fail)
 refine bodyPost_ret (D.ret_row2 rfl rfl (D.setRow_in _ _ _ #[.int .i64 x,.int .i64 y,.int .i64 z] _ G2.out) Tryz.underlying101 rfl s42) rfl ?_
 exact ⟨rfl,below_setRow GB2.out (Nat.le_refl _) _⟩
theorem begins_yes (h:Sto w0 w p d O N s X q m) (hs:U.IsSec (view X m 0)):Calls Tryz.prog 102 #[.pointer (some ⟨p,0,none⟩)] w (SupR w (U.num (view X m 0) 0:Nat) (U.num (view X m 0) 1:Nat) (U.num (view X m 0) 2:Nat) 0) :=
 begins_gen h _ _ _ _ fun w1 b hb=>U.decode_any (r:=true) hb (Nat.le_refl _) ⟨fun _=>hs,fun _=>rfl⟩
set_option maxHeartbeats 1000000 in
theorem super_gen {x y z er:Int} (hb:∀ w',Below w.heap.size w w'→Calls Tryz.prog 102 #[.pointer (some ⟨p,0,none⟩)] w' (SupR w' x y z er)) :
  Calls Tryz.prog 51 #[.pointer (some ⟨p,0,none⟩)] w fun e w'=>e=.returned (.agg #[.int .i64 x,.int .i64 y,.int .i64 z])∧Below w.heap.size w w':=by
 have HB:=Lib.hid hb
 obtain ⟨a0,a1,a2⟩:=D.box1 w (Obj.cells #[.int .i64 0,.int .i64 0,.int .i64 0] 101)
 have A0:=Lib.hid a0
 have A1:=Lib.hid a1
 have A2:=Lib.hid a2
 clear hb a0 a1 a2
 go_enter Tryz.func51,Tryz.ntmps51
 go_wp2_with fail
 refine (HB.out _ A1.out).mono ?_
 rintro e w1 ⟨rfl,hb3⟩
 have G1:=Lib.hid ((hb3.block _ (by rw [A2.out];omega)).trans A0.out)
 have GB:=Lib.hid (A1.out.trans (hb3.mono (by rw [A2.out];omega)))
 have hs1:w.heap.size+1≤w1.heap.size:=by have:=hb3.size;rw [A2.out] at this;exact this
 clear hb3 A0 A1 A2
 go_upto_region 2 with (first | (refine wpList_store_new rfl 101 _ _ rfl w1 #[.int .i64 0,.int .i64 0,.int .i64 0] #[.int .i64 x,.int .i64 y,.int .i64 z] rfl rfl s42 rfl (oc3 x y z) ?_) | fail)
 obtain ⟨b0,b1,b2⟩:=D.box1 w1 (Obj.cells #[.int .i64 x,.int .i64 y,.int .i64 z] 101)
 have G2:=Lib.hid ((b1.block w.heap.size (by omega)).trans G1.out)
 have G3:=Lib.hid b0
 have GB2:=Lib.hid (GB.out.trans (b1.mono (by omega)))
 clear b0 b1 b2
 generalize w1.alloc (Obj.cells #[.int .i64 x,.int .i64 y,.int .i64 z] 101)=W at *
 go_wp2_with (first | (refine D.wpList_load_row rfl 101 _ rfl w1.heap.size rfl _ _ _ G3.out _ Tryz.underlying101 rfl s42 ?_) | (refine D.wpList_store_row rfl 101 _ _ rfl w.heap.size #[.int .i64 0,.int .i64 0,.int .i64 0] #[.int .i64 x,.int .i64 y,.int .i64 z] 101 rfl rfl G2.out s42 rfl (oc3 x y z) ?_) | fail)
 refine bodyPost_ret (D.ret_row rfl rfl (D.setRow_in _ _ _ #[.int .i64 x,.int .i64 y,.int .i64 z] _ G2.out) Tryz.underlying101 rfl s42) rfl ?_
 exact ⟨rfl,below_setRow GB2.out (Nat.le_refl _) _⟩
theorem super_yes (h:Sto w0 w p d O N s X q m) (hs:U.IsSec (view X m 0)):Calls Tryz.prog 51 #[.pointer (some ⟨p,0,none⟩)] w fun e w'=>e=.returned (.agg #[.int .i64 (U.num (view X m 0) 0:Nat),.int .i64 (U.num (view X m 0) 1:Nat),.int .i64 (U.num (view X m 0) 2:Nat)])∧Below w.heap.size w w' :=
 super_gen fun w' hb=>begins_yes (h.below hb) hs
def SeatR (w:World) (er:Int) (e:Ending) (w':World):Prop:=∃ (a b:Int) (A:Option Addr) (n c:Nat),e=.returned (.tuple #[.agg #[.int .i64 a,.int .i64 b,.slice A n c],.int .i64 er])∧Below w.heap.size w w'
theorem dec_seat {w:World} {b:Nat} {x:List UInt8} (hb:F.Bts w w.heap.size (some ⟨b,0,none⟩) 128 128 x) {er:Int} (he:(A.IsSec x→er=0)∧(¬ A.IsSec x→er=2)):Calls Tryz.prog 140 #[.slice (some ⟨b,0,none⟩) 128 128] w (SeatR w er):=by
 by_cases hs:A.IsSec x
 ·rw [he.1 hs]
  refine (A.decode_any (r:=true) hb (Nat.le_refl _) ⟨fun _=>hs,fun _=>rfl⟩).mono ?_
  rintro e w' ⟨A,n,c,rfl,_,hb⟩
  exact ⟨_,_,_,_,_,rfl,hb⟩
 ·rw [he.2 hs]
  refine (A.decode_any (r:=false) hb (Nat.le_refl _) ⟨fun e=>(by cases e),fun e=>absurd e hs⟩).mono ?_
  rintro e w' ⟨rfl,hb⟩
  exact ⟨_,_,_,_,_,rfl,hb⟩
set_option maxHeartbeats 1000000 in
theorem seat_any (h:Sto w0 w p d O N s X q m) {n:Nat} (hn:n<8) {er:Int} (he:(A.IsSec (view X m (26+n))→er=0)∧(¬ A.IsSec (view X m (26+n))→er=2)) :
  Calls Tryz.prog 103 #[.pointer (some ⟨p,0,none⟩),.int .i64 n] w (SeatR w er):=by
 have HE:=Lib.hid he
 obtain ⟨a0,a1,a2⟩:=D.box1 w (Obj.cells #[.int .i64 0,.int .i64 0,.slice none 0 0] 156)
 have A0:=Lib.hid a0
 have A1:=Lib.hid a1
 have A2:=Lib.hid a2
 have H:=Lib.hid (h.below a1)
 have H64:=Lib.hid h.n64
 have HL:=Lib.hid (h.view_len (n:=26+n) (by have:=h.n64;omega) (by unfold inLog;omega))
 clear he a0 a1 a2 h
 have hw1:IntKind.i64.wrap (26+(n:Int))=((26+n:Nat):Int):=by rw [IntKind.wrap_i64];omega
 go_enter Tryz.func103,Tryz.ntmps103
 go_wp2_with fail
 refine (seats_yes H.out hn).mono ?_
 rintro e w1 ⟨rfl,rfl⟩
 go_wp2_with fail
 refine (get_any (n:=26+n) H.out (by have:=H64.out;omega) (by unfold inLog;omega)).mono ?_
 rintro e w1 ⟨b,rfl,hb1,hb2,hb3⟩
 have HB:=Lib.hid (fb hb2 HL.out)
 have G1:=Lib.hid ((hb3.block _ (by rw [A2.out];omega)).trans A0.out)
 have GB:=Lib.hid (A1.out.trans (hb3.mono (by rw [A2.out];omega)))
 have hs1:w.heap.size+1≤w1.heap.size:=by have:=hb3.size;rw [A2.out] at this;exact this
 clear hb1 hb2 hb3 A0 A1 A2
 go_wp2_with fail
 refine (dec_seat HB.out HE.out).mono ?_
 rintro e w2 ⟨a,b',A',n',c',rfl,hb3⟩
 have G2:=Lib.hid ((hb3.block w.heap.size (by omega)).trans G1.out)
 have GB2:=Lib.hid (GB.out.trans (hb3.mono (by omega)))
 clear hb3 G1 GB
 go_wp2_with (first | (refine D.wpList_store_row rfl 156 _ _ rfl w.heap.size #[.int .i64 0,.int .i64 0,.slice none 0 0] #[.int .i64 a,.int .i64 b',.slice A' n' c'] 156 rfl rfl G2.out s49x rfl (oc3s a b' A' n' c') ?_) | fail)
 refine bodyPost_ret (D.ret_row2 rfl rfl (D.setRow_in _ _ _ #[.int .i64 a,.int .i64 b',.slice A' n' c'] _ G2.out) Tryz.underlying156 rfl s49x) rfl ?_
 exact ⟨a,b',A',n',c',rfl,below_setRow GB2.out (Nat.le_refl _) _⟩
set_option maxHeartbeats 1000000 in
theorem seated_any (h:Sto w0 w p d O N s X q m) {r:Bool} (hr:r=true ↔ ∀ i,i<8→A.IsSec (view X m (26+i))) :
  Calls Tryz.prog 53 #[.pointer (some ⟨p,0,none⟩)] w fun e w'=>e=.returned (.bool r)∧Below w.heap.size w w':=by
 have H:=Lib.hid h
 have HR:=Lib.hid hr
 clear h hr
 go_enter Tryz.func53,Tryz.ntmps53
 go_wp2_with fail
 go_loopw [6] (fun i wr=>∃ k:Nat,k≤8∧i=.int .i64 k∧Hid (∀ j,j<k→A.IsSec (view X m (26+j)))∧Hid (Below w.heap.size w wr)) (fun i _=>8 - (intOf i).toNat)
 case atStart=>exact ⟨0,Nat.zero_le _,rfl,fun j hj=>absurd hj (by omega),Below.refl _ _⟩
 case round =>
  obtain ⟨k,hk,rfl,HA,HB⟩:=hrel
  by_cases hlt:k<8
  ·have H1:=Lib.hid (H.out.below HB.out)
   by_cases hs:A.IsSec (view X m (26+k))
   ·have HS:=Lib.hid hs
    clear hs
    go_wp2_with fail
    refine (seat_any (er:=0) H1.out hlt ⟨fun _=>rfl,fun e=>absurd HS.out e⟩).mono ?_
    rintro e w1 ⟨a,b,A',n',c',rfl,hb⟩
    have HB1:=Lib.hid (HB.out.trans (hb.mono HB.out.size))
    clear hb
    obtain ⟨b0,b1,b2⟩:=D.box1 w1 (Obj.cells #[.int .i64 a,.int .i64 b,.slice A' n' c'] 156)
    have HB2:Hid (Below w.heap.size w (w1.alloc (Obj.cells #[.int .i64 a,.int .i64 b,.slice A' n' c'] 156))):=HB1.out.trans (b1.mono HB1.out.size)
    have HA1:Hid (∀ j,j<k+1→A.IsSec (view X m (26+j))):=fun j hj=>by
     by_cases e:j=k
     ·rw [e];exact HS.out
     ·exact HA.out j (by omega)
    clear b0 b1 b2
    go_wp2_with (first | (refine wpList_store_new rfl 156 _ _ rfl w1 #[.int .i64 0,.int .i64 0,.slice none 0 0] #[.int .i64 a,.int .i64 b,.slice A' n' c'] rfl rfl s49x rfl (oc3s a b A' n' c') ?_) | fail)
    go_roundw
    case rel=>exact ⟨k+1,by omega,by go_num,HA1,HB2⟩
    case measure=>simp [intOf];omega
   ·have HS:=Lib.hid hs
    clear hs
    obtain rfl:r=false:=by
     cases r with
     | false=>rfl
     | true=>exact absurd (HR.out.1 rfl k hlt) HS.out
    go_wp2_with fail
    refine (seat_any (er:=2) H1.out hlt ⟨fun e=>absurd e HS.out,fun _=>rfl⟩).mono ?_
    rintro e w1 ⟨a,b,A',n',c',rfl,hb⟩
    have HB1:=Lib.hid (HB.out.trans (hb.mono HB.out.size))
    clear hb
    obtain ⟨b0,b1,b2⟩:=D.box1 w1 (Obj.cells #[.int .i64 a,.int .i64 b,.slice A' n' c'] 156)
    have HB2:Hid (Below w.heap.size w (w1.alloc (Obj.cells #[.int .i64 a,.int .i64 b,.slice A' n' c'] 156))):=HB1.out.trans (b1.mono HB1.out.size)
    clear b0 b1 b2
    go_wp2_with (first | (refine wpList_store_new rfl 156 _ _ rfl w1 #[.int .i64 0,.int .i64 0,.slice none 0 0] #[.int .i64 a,.int .i64 b,.slice A' n' c'] rfl rfl s49x rfl (oc3s a b A' n' c') ?_) | fail)
    go_ret
    exact ⟨rfl,HB2.out⟩
  ·obtain rfl:k=8:=by omega
   obtain rfl:r=true:=HR.out.2 HA.out
   rw [show ((8:Nat):Int)=8 from rfl]
   go_wp2_with fail
   go_ret
   exact ⟨rfl,HB.out⟩
set_option maxHeartbeats 1000000 in
theorem around_yes (h:Sto w0 w p d O N s X q m) {n:Nat} (hn:n<32):Calls Tryz.prog 68 #[.pointer (some ⟨p,0,none⟩),.int .i64 n] w (SGet w (view X m (35+n / 4))):=by
 have H:=Lib.hid h
 have H64:=Lib.hid h.n64
 clear h
 have h0:decide ((n:Int)<0)=false:=by simp
 have h1:decide ((32:Int)≤n)=false:=by simp;omega
 go_enter Tryz.func68,Tryz.ntmps68
 go_wp2_with fail
 refine (barred_ok H.out.st).mono ?_
 rintro e w1 ⟨rfl,rfl⟩
 go_wp2_with fail
 refine (holder_any n _ hn).mono ?_
 rintro e w1 ⟨rfl,rfl⟩
 go_wp2_with fail
 refine (get_any (n:=35+n / 4) H.out (by have:=H64.out;omega) (by unfold inLog;omega)).mono ?_
 rintro e w1 ⟨b,rfl,hb1,hb2,hb3⟩
 have HB2:=Lib.hid hb2
 have HB3:=Lib.hid hb3
 clear hb2 hb3
 go_wp2_with fail
 go_ret2
 exact ⟨b,rfl,hb1,HB2.out,HB3.out⟩
def NodeR (w:World) (y:D.Nn) (e:Ending) (w':World):Prop:=e=.returned (.tuple #[.agg (D.nc y.up).toArray,.int .i64 0])∧Below w.heap.size w w'
def nodeB (X:Secs2) (m:List Wr) (n:Nat):List UInt8:=D.piece (view X m (35+n / 4)) (n % 4)
theorem mod4 (n:Nat):(n:Int).tmod 4=((n % 4:Nat):Int):=by rw [Int.tmod_eq_emod_of_nonneg (by omega)];omega
set_option maxHeartbeats 1000000 in
theorem node_yes (h:Sto w0 w p d O N s X q m) {n:Nat} (hn:n<32) (hg:D.good (nodeB X m n)=true):Calls Tryz.prog 30 #[.pointer (some ⟨p,0,none⟩),.int .i64 n] w (NodeR w (D.rd (nodeB X m n))):=by
 obtain ⟨y,hy⟩:∃ y,D.rd (nodeB X m n)=y:=⟨_,rfl⟩
 rw [hy]
 have HY:Hid (D.rd (D.piece (view X m (35+n / 4)) (n % 4))=y):=hy
 clear hy
 obtain ⟨a0,a1,a2⟩:=D.box1 w (Obj.cells D.z11 66)
 have A0:=Lib.hid a0
 have A1:=Lib.hid a1
 have A2:=Lib.hid a2
 have H:=Lib.hid (h.below a1)
 have HG:=Lib.hid hg
 have HL:=Lib.hid (h.view_len (n:=35+n / 4) (by have:=h.n64;omega) (by unfold inLog;omega))
 clear a0 a1 a2 h hg
 have hm4:=mod4 n
 have hm5:IntKind.i64.wrap ((n:Int).tmod 4)=((n % 4:Nat):Int):=by rw [hm4,IntKind.wrap_i64];omega
 go_enter Tryz.func30,Tryz.ntmps30
 go_wp2_with fail
 refine (around_yes H.out hn).mono ?_
 rintro e w1 ⟨b,rfl,hb1,hb2,hb3⟩
 have HB:=Lib.hid (fb hb2 HL.out)
 have G1:=Lib.hid ((hb3.block _ (by rw [A2.out];omega)).trans A0.out)
 have GB:=Lib.hid (A1.out.trans (hb3.mono (by rw [A2.out];omega)))
 have hs1:w.heap.size+1≤w1.heap.size:=by have:=hb3.size;rw [A2.out] at this;exact this
 clear hb1 hb2 hb3 A0 A1 A2
 go_wp2_with fail
 have HGET:=Lib.hid (D.get_any (i:=n % 4) HB.out (Nat.le_refl _) (by omega))
 rw [show D.good (D.piece (view X m (35+n / 4)) (n % 4))=true from HG.out] at HGET
 refine HGET.out.mono ?_
 rintro e w2 ⟨rfl,hb3⟩
 simp only [if_true]
 have G2:=Lib.hid ((hb3.block w.heap.size (by omega)).trans G1.out)
 have GB2:=Lib.hid (GB.out.trans (hb3.mono (by omega)))
 clear hb3 G1 GB HGET
 rw [HY.out]
 go_wp2_with (first | (refine D.wpList_store_row rfl 66 _ _ rfl w.heap.size D.z11 (D.nc y.up).toArray 66 rfl rfl G2.out s47 rfl (all_oneCell_toArray (D.nc_one _)) ?_) | fail)
 refine bodyPost_ret (D.ret_row2 rfl rfl (D.setRow_in _ _ _ (D.nc y.up).toArray _ G2.out) Tryz.underlying66 rfl s47) rfl ?_
 exact ⟨rfl,below_setRow GB2.out (Nat.le_refl _) _⟩
end
end Go.Proofs.YtkganhafbjgndaaGreatRR
namespace Go.Proofs.YtkganhafbjgndaaGreatRR
open Go.RowKit
set_option linter.unusedVariables false
set_option maxRecDepth 20000
theorem oc2 (x:Int) (A:Option Addr) (n c:Nat):(#[.int .i64 x,.slice A n c]:Array Value).all (·.oneCell')=true:=all_oneCell_toArray (cs:=[.int .i64 x,.slice A n c]) (by simp [Value.oneCell'])
def WrR (w:World) (k:Nat) (x:List UInt8) (e:Ending) (w':World):Prop:=∃ g cap,e=.returned (.tuple #[.agg #[.int .i64 k,.slice (some ⟨g,0,none⟩) 128 cap],.int .i64 0])∧Bts w' (IM g) (some ⟨g,0,none⟩) 128 cap x∧w.heap.size≤g∧g<w'.heap.size∧Below w.heap.size w w'
def putN (X:Secs2) (m:List Wr) (n:Nat) (y:D.Nn):List UInt8:=D.put (view X m (35+n / 4)) (n % 4) y.img
section
variable {w0 w:World} {p d N q:Nat} {O:List Nat} {s:DS} {X:Secs2} {m:List Wr}
theorem putN_len (h:Sto w0 w p d O N s X q m) {n:Nat} (hn:n<32) (y:D.Nn):(putN X m n y).length=128 :=
 D.put_len (h.view_len (by have:=h.n64;omega) (by unfold inLog;omega)) (by omega) y.img_len
set_option maxHeartbeats 1000000 in
theorem withNode_yes (h:Sto w0 w p d O N s X q m) {n:Nat} (hn:n<32) (y:D.Nn) (hy:y.up.ok=true) :
  Calls Tryz.prog 58 #[.pointer (some ⟨p,0,none⟩),.int .i64 n,.agg (D.nc y.up).toArray] w (WrR w (35+n / 4) (putN X m n y)):=by
 obtain ⟨a0,a1,a2,a3⟩:=D.box2 w (Obj.cells (D.nc y.up).toArray 66) (Obj.cells #[.int .i64 0,.slice none 0 0] 109)
 have A0:=Lib.hid a0
 have A1:=Lib.hid a1
 have A2:=Lib.hid a2
 have A3:=Lib.hid a3
 have H:=Lib.hid (h.below a2)
 have HY:=Lib.hid hy
 have HPL:=Lib.hid (putN_len h hn y)
 have HL:=Lib.hid (h.view_len (n:=35+n / 4) (by have:=h.n64;omega) (by unfold inLog;omega))
 have HP:Hid (putN X m n y=D.put (view X m (35+n / 4)) (n % 4) y.img):=rfl
 clear a0 a1 a2 a3 h hy
 have hm4:=mod4 n
 have hm5:IntKind.i64.wrap ((n:Int).tmod 4)=((n % 4:Nat):Int):=by rw [hm4,IntKind.wrap_i64];omega
 go_enter Tryz.func58,Tryz.ntmps58
 go_wp2_with fail
 refine (around_yes H.out hn).mono ?_
 rintro e w1 ⟨b,rfl,hb1,hb2,hb3⟩
 have HB:=Lib.hid (fb hb2 HL.out)
 have G0:=Lib.hid ((hb3.block w.heap.size (by rw [A3.out];omega)).trans A0.out)
 have G1:=Lib.hid ((hb3.block (w.heap.size+1) (by rw [A3.out];omega)).trans A1.out)
 have GB:=Lib.hid (A2.out.trans (hb3.mono (by rw [A3.out];omega)))
 have hs1:w.heap.size+1+1≤w1.heap.size:=by have:=hb3.size;rw [A3.out] at this;exact this
 clear hb1 hb2 hb3 A0 A1 A2 A3
 go_wp2_with (first | (refine D.wpList_load_row rfl 66 _ rfl w.heap.size rfl _ _ _ G0.out _ Tryz.underlying66 rfl s47 ?_) | fail)
 refine (D.put_yes (i:=n % 4) y HB.out (Nat.le_refl _) (by omega) HY.out).mono ?_
 rintro e w2 ⟨v,rfl,hm⟩
 rw [← HP.out] at hm
 obtain ⟨g,cap,rfl,hg1,hg2,hbt⟩:=mine_bts hm (by rw [HPL.out];omega)
 rw [HPL.out] at hbt ⊢
 have HBT:=Lib.hid hbt
 have G2:=Lib.hid ((hm.bel.block (w.heap.size+1) (by omega)).trans G1.out)
 have GB2:=Lib.hid (GB.out.trans (hm.bel.mono (by omega)))
 have hs2:=hm.bel.size
 clear hm hbt G0 G1 GB HB
 go_wp2_with fail
 refine (holder_any n _ hn).mono ?_
 rintro e w3 ⟨rfl,rfl⟩
 go_wp2_with (first | (refine D.wpList_store_row rfl 109 _ _ rfl (w.heap.size+1) #[.int .i64 0,.slice none 0 0] #[.int .i64 ((35+n / 4:Nat):Int),.slice (some ⟨g,0,none⟩) 128 cap] 109 rfl rfl G2.out s34 rfl (oc2 _ _ _ _) ?_) | fail)
 refine bodyPost_ret (D.ret_row2 rfl rfl (D.setRow_in _ _ _ #[.int .i64 ((35+n / 4:Nat):Int),.slice (some ⟨g,0,none⟩) 128 cap] _ G2.out) Tryz.underlying109 rfl s34) rfl ?_
 refine ⟨g,cap,rfl,HBT.out.keep fun b hb=>?_,by omega,by simp [World.setRow];exact hg2,below_setRow GB2.out (by omega) _⟩
 cases hb
 exact setRow_other w2 (w.heap.size+1) g _ (by omega)
set_option maxHeartbeats 1000000 in
theorem setNode_yes (h:Sto w0 w p d O N s X q m) {n:Nat} (hn:n<32) (y:D.Nn) (hy:y.up.ok=true) (hr:find m ((35+n / 4:Nat):Int)≠none∨m.length<24) :
  Calls Tryz.prog 71 #[.pointer (some ⟨p,0,none⟩),.int .i64 n,.agg (D.nc y.up).toArray] w (Put1 w0 w p d O N s X q (ins ((35+n / 4:Nat):Int) (putN X m n y) m)):=by
 obtain ⟨k,hk⟩:∃ k,35+n / 4=k:=⟨_,rfl⟩
 have HW:=Lib.hid (fun (w':World) (hb:Below w.heap.size w w')=>withNode_yes (h.below hb) hn y hy)
 rw [hk] at hr HW ⊢
 have hk1:35≤k∧k<43:=by omega
 obtain ⟨a0,a1,a2⟩:=D.box1 w (Obj.cells (D.nc y.up).toArray 66)
 have A0:=Lib.hid a0
 have A1:=Lib.hid a1
 have H:=Lib.hid (h.below a1)
 have HY:=Lib.hid hy
 have HR:=Lib.hid hr
 have HPL:=Lib.hid (putN_len h hn y)
 clear a0 a1 a2 h hy hr hk
 go_enter Tryz.func71,Tryz.ntmps71
 go_wp2_with (first | (refine D.wpList_load_row rfl 66 _ rfl w.heap.size rfl _ _ _ A0.out _ Tryz.underlying66 rfl s47 ?_) | fail)
 refine (HW.out _ A1.out).mono ?_
 rintro e w1 ⟨g,cap,rfl,hbt,hg1,hg2,hb⟩
 have H1:=Lib.hid (H.out.below hb)
 have HBT:=Lib.hid hbt
 have GB:=Lib.hid (A1.out.trans (hb.mono A1.out.size))
 have hgq:g≠q:=by have:=H.out.map.lt;omega
 clear hbt hb
 obtain ⟨b0,b1,b2⟩:=D.box1 w1 (Obj.cells #[.int .i64 (k:Int),.slice (some ⟨g,0,none⟩) 128 cap] 109)
 have B1:=Lib.hid b1
 have B0:=Lib.hid b0
 clear b0 b1
 go_upto_region 4 with (first | (refine wpList_store_new rfl 109 _ _ rfl w1 #[.int .i64 0,.slice none 0 0] #[.int .i64 (k:Int),.slice (some ⟨g,0,none⟩) 128 cap] rfl rfl s34 rfl (oc2 _ _ _ _) ?_) | fail)
 have H2:=Lib.hid (H1.out.below B1.out)
 have HB2:=Lib.hid (HBT.out.keep (w':=w1.alloc (Obj.cells #[.int .i64 (k:Int),.slice (some ⟨g,0,none⟩) 128 cap] 109)) fun b hb=>by cases hb;exact B1.out.block g hg2)
 have GB2:=Lib.hid (GB.out.trans (B1.out.mono GB.out.size))
 have hg3:g<(w1.alloc (Obj.cells #[.int .i64 (k:Int),.slice (some ⟨g,0,none⟩) 128 cap] 109)).heap.size:=by rw [b2];omega
 clear b2 B1 H1 HBT GB
 generalize w1.alloc (Obj.cells #[.int .i64 (k:Int),.slice (some ⟨g,0,none⟩) 128 cap] 109)=W at *
 go_wp2_with (first | (refine D.wpList_load_row rfl 109 _ rfl w1.heap.size rfl _ _ _ B0.out _ Tryz.underlying109 rfl s34 ?_) | fail)
 have hbx:=(Below.refl W.heap.size W).alloc (Nat.le_refl _) (.cells #[.int .i64 (k:Int),.slice (some ⟨g,0,none⟩) 128 cap] 109)
 refine (change_any (ws:=[((k:Int),putN X m n y)]) (H2.out.below hbx) (wrs_1 _ HB2.out (fun b hb=>by cases hb;exact hg3)) ?_ ?_).mono ?_
 ·rintro b (hb | rfl)
  ·cases hb;exact ⟨by simp;omega,hgq⟩
  ·exact ⟨by simp,by have:=H2.out.map.lt;omega⟩
 ·refine ⟨H2.out.mok,fun r hr=>?_,?_⟩
  ·simp at hr
   subst hr
   exact ⟨okn_of H2.out.n1 (n:=k) (by have:=H2.out.n64;omega) (by unfold inLog;omega),by have:=H2.out.n64;simp;omega,HPL.out⟩
  ·have:=H2.out.mok.len
   unfold newk
   cases hf:find m (k:Int) with
   | some z=>simp only [List.filter_cons,hf];simp;omega
   | none =>
    rcases HR.out with g | g
    ·exact absurd hf g
    ·simp only [List.filter_cons,hf];simp;omega
 ·rintro e w2 ⟨rfl,hs,hc⟩
  have HS:=Lib.hid hs
  have HC:=Lib.hid (((Chg.of_below GB2.out).tr (Chg.of_below hbx)).tr hc)
  clear hs hc hbx
  go_wp2_with fail
  go_ret
  exact ⟨rfl,HS.out,HC.out⟩
def CntR (w:World) (a b c:Nat) (e:Ending) (w':World):Prop:=∃ g cap,e=.returned (.tuple #[.agg #[.int .i64 0,.slice (some ⟨g,0,none⟩) 128 cap],.int .i64 ((c+1:Nat):Int),.int .i64 0])∧Bts w' (IM g) (some ⟨g,0,none⟩) 128 cap (U.sec a b (c+1))∧w.heap.size≤g∧g<w'.heap.size∧Below w.heap.size w w'
theorem ret_row3 {fn:Func} {p u t:Tmp} {ty:TypeId} (h:fn.results=#[.cell p ty,.tmp u,.tmp t]) {tmps:Array Value} {W:World} {g:Nat} {cs:Array Value} {ty':TypeId} {fr:Nat × Nat} {d:TypeDesc} (hp:tmps.getD p undef=.pointer (some ⟨g,0,none⟩)) (hg:W.heap[g]?=some (.cells cs ty' fr))
  (hu:Tryz.prog.underlying ty=some d) (hd:d.isRow=true) (hi:(Tryz.prog.info? ty).map (·.size)=some cs.size):(results fn tmps).run Tryz.prog W=.ok (.tuple #[.agg cs,tmps.getD u undef,tmps.getD t undef]) W:=by
 have hl:=D.load_row (P:=Tryz.prog) W g ty' ty cs fr d hg hu hd hi
 have hp':tmps[p]?.getD undef=.pointer (some ⟨g,0,none⟩):=by simpa using hp
 simp only [results,h]
 simp [hp',asAddr,hl]
set_option maxHeartbeats 1000000 in
theorem counted_yes (h:Sto w0 w p d O N s X q m) {a b c:Nat} (hv:view X m 0=U.sec a b c) (hok:U.ok a b c=true) (hc:c<1073741824):Calls Tryz.prog 57 #[.pointer (some ⟨p,0,none⟩)] w (CntR w a b c):=by
 have hs:U.IsSec (view X m 0):=by rw [hv];exact U.isSec_sec hok
 have ho1:=U.ok_iff.1 hok
 have HB:=Lib.hid (fun (w':World) (hb:Below w.heap.size w w')=>begins_yes (h.below hb) hs)
 rw [hv,U.num_sec0 a b c (by omega),U.num_sec1 a b c (by omega),U.num_sec2 a b c (by omega)] at HB
 have HOK:Hid (U.ok a b (c+1:Nat)=true):=U.ok_iff.2 (by omega)
 obtain ⟨a0,a1,a2⟩:=D.box1 w (Obj.cells #[.int .i64 0,.slice none 0 0] 109)
 have A0:=Lib.hid a0
 have A1:=Lib.hid a1
 have A2:=Lib.hid a2
 obtain ⟨c1,hc1⟩:∃ c1,c+1=c1:=⟨_,rfl⟩
 have hcc:((c:Int) == 1073741824)=false:=by rw [beq_eq_false_iff_ne];omega
 have hw1:IntKind.i64.wrap ((c:Int)+1)=(c1:Int):=by rw [IntKind.wrap_i64];omega
 unfold CntR
 rw [hc1] at HOK ⊢
 clear h hs hv hok a0 a1 a2 ho1 hc hc1
 go_enter Tryz.func57,Tryz.ntmps57
 go_wp2_with fail
 refine (HB.out _ A1.out).mono ?_
 rintro e w1 ⟨rfl,hb3⟩
 have G1:=Lib.hid ((hb3.block w.heap.size (by rw [A2.out];omega)).trans A0.out)
 have GB:=Lib.hid (A1.out.trans (hb3.mono (by rw [A2.out];omega)))
 have hs1:w.heap.size+1≤w1.heap.size:=by have:=hb3.size;rw [A2.out] at this;exact this
 clear hb3 A0 A1 A2
 obtain ⟨b0,b1,b2⟩:=D.box1 w1 (Obj.cells #[.int .i64 (a:Int),.int .i64 (b:Int),.int .i64 (c:Int)] 101)
 have B0:=Lib.hid b0
 have B1:=Lib.hid b1
 clear b0 b1
 go_upto_region 4 with (first | (refine wpList_store_new rfl 101 _ _ rfl w1 #[.int .i64 0,.int .i64 0,.int .i64 0] #[.int .i64 (a:Int),.int .i64 (b:Int),.int .i64 (c:Int)] rfl rfl s42 rfl (oc3 _ _ _) ?_) | fail)
 have G2:=Lib.hid ((B1.out.block w.heap.size (by omega)).trans G1.out)
 have GB2:=Lib.hid (GB.out.trans (B1.out.mono (by omega)))
 have hs2:w1.heap.size<(w1.alloc (Obj.cells #[.int .i64 (a:Int),.int .i64 (b:Int),.int .i64 (c:Int)] 101)).heap.size:=by rw [b2];omega
 clear b2 B1 G1 GB
 generalize w1.alloc (Obj.cells #[.int .i64 (a:Int),.int .i64 (b:Int),.int .i64 (c:Int)] 101)=W at *
 have c2:W.cell? ⟨w1.heap.size,2,none⟩=some (.int .i64 (c:Int)):=cell_of_row _ _ 2 _ _ _ B0.out
 have f2:=F.free_in B0.out 2
 go_upto_region 7 with fail
 have C0:Hid ((W.setCell ⟨w1.heap.size,2,none⟩ (.int .i64 (c1:Int))).heap[w1.heap.size]?=some (.cells #[.int .i64 (a:Int),.int .i64 (b:Int),.int .i64 (c1:Int)] 101 (0,0))):=F.heap_set B0.out 2 _
 have G3:Hid ((W.setCell ⟨w1.heap.size,2,none⟩ (.int .i64 (c1:Int))).heap[w.heap.size]?=some (.cells #[.int .i64 0,.slice none 0 0] 109 (0,0))):=(Below.heap_setCell _ _ _ _ (by show w.heap.size≠w1.heap.size;omega)).trans G2.out
 have GB3:Hid (Below w.heap.size w (W.setCell ⟨w1.heap.size,2,none⟩ (.int .i64 (c1:Int)))):=GB2.out.setCell (p:=⟨w1.heap.size,2,none⟩) (by show w.heap.size≤w1.heap.size;omega) _
 have hs3:w1.heap.size<(W.setCell ⟨w1.heap.size,2,none⟩ (.int .i64 (c1:Int))).heap.size:=by simp;exact hs2
 clear c2 f2 G2 GB2 B0 hs2 hw1
 generalize W.setCell ⟨w1.heap.size,2,none⟩ (.int .i64 (c1:Int))=V at *
 generalize hT:w1.heap.size=T at *
 clear hT
 go_wp2_with (first | (refine D.wpList_load_row rfl 101 _ rfl T rfl _ _ _ C0.out _ Tryz.underlying101 rfl s42 ?_) | fail)
 refine (U.encode_yes a b c1 _ HOK.out).mono ?_
 rintro e w2 ⟨v,rfl,hm⟩
 obtain ⟨g,cap,rfl,hg1,hg2,hbt⟩:=mine_bts hm (by rw [lt_sec HOK.out];omega)
 rw [lt_sec HOK.out] at hbt ⊢
 have HBT:=Lib.hid hbt
 have G4:=Lib.hid ((hm.bel.block w.heap.size (by omega)).trans G3.out)
 have C4:=Lib.hid ((hm.bel.block T (by omega)).trans C0.out)
 have GB4:=Lib.hid (GB3.out.trans (hm.bel.mono (by omega)))
 have hs4:=hm.bel.size
 clear hm hbt G3 GB3 C0
 have c2:w2.cell? ⟨T,2,none⟩=some (.int .i64 (c1:Int)):=cell_of_row _ _ 2 _ _ _ C4.out
 have d0:w2.cell? ⟨w.heap.size,0,none⟩=some (.int .i64 0):=cell_of_row _ _ 0 _ _ _ G4.out
 have d1:w2.cell? ⟨w.heap.size,1,none⟩=some (.slice none 0 0):=cell_of_row _ _ 1 _ _ _ G4.out
 have e0:=F.free_in G4.out 0
 have e1:=F.free_in G4.out 1
 have hTw:T≠w.heap.size:=by omega
 go_upto_region 8 with fail
 go_region
 go_wp2_with fail
 have G5:Hid (((w2.setCell ⟨w.heap.size,0,none⟩ (.int .i64 0)).setCell ⟨w.heap.size,1,none⟩ (.slice (some ⟨g,0,none⟩) 128 cap)).drew.heap[w.heap.size]?=some (.cells #[.int .i64 0,.slice (some ⟨g,0,none⟩) 128 cap] 109 (0,0))):=F.heap_set (F.heap_set G4.out 0 _) 1 _
 refine bodyPost_ret (ret_row3 rfl rfl G5.out Tryz.underlying109 rfl s34) rfl ?_
 have hgw:g≠w.heap.size:=by omega
 refine ⟨g,cap,rfl,HBT.out.keep fun b hb=>?_,by omega,?_,((GB4.out.setCell (p:=⟨w.heap.size,0,none⟩) (Nat.le_refl _) _).setCell (p:=⟨w.heap.size,1,none⟩) (Nat.le_refl _) _).drew⟩
 ·cases hb
  show ((w2.setCell _ _).setCell _ _).heap[g]?=_
  rw [Below.heap_setCell _ _ _ _ (by exact hgw),Below.heap_setCell _ _ _ _ (by exact hgw)]
 ·show g<((w2.setCell _ _).setCell _ _).heap.size
  simp
  exact hg2
end
end Go.Proofs.YtkganhafbjgndaaGreatRR
namespace Go.Proofs.YtkganhafbjgndaaGreatRR
open Go.RowKit
set_option linter.unusedVariables false
set_option maxRecDepth 20000
def pw (p:Wr × Nat):List Value:=[.int .i64 p.1.1,.slice (some ⟨p.2,0,none⟩) 128 128]
theorem pw_len (p:Wr × Nat):(pw p).length=2:=rfl
structure LstAt (base:Nat) (w:World) (v:Value) (ps:List (Wr × Nat)):Prop where
 row:w.ownsRow base 109 2 v ps.length (ps.flatMap pw)
 dat:∀ p∈ps,Own w p.2 p.1.2∧p.1.2.length=128∧base≤p.2
theorem info34:(Tryz.prog.info? 109).map (fun i=>(i.zero,i.size,i.bytes))=some (some (.agg #[.int .i64 0,.slice none 0 0]),2,32):=by kernel_rfl
theorem LstAt.wrs {base:Nat} {w:World} {v:Value} {ps:List (Wr × Nat)} (h:LstAt base w v ps) :
  ∃ A c,v=.slice A ps.length c∧Wrs w (fun q=>base≤q∧q<w.heap.size) A ps.length c (ps.map (·.1)):=by
 rcases h.row.2 with ⟨rfl,h0⟩ | ⟨g,cap,cur,rfl,hg,hh,hn,hm,hs,ht⟩
 ·obtain rfl:ps=[]:=List.length_eq_zero_iff.1 h0
  exact ⟨none,0,rfl,rfl,Nat.le_refl _,by unfold maxLen;omega,fun h=>absurd h (by simp)⟩
 ·refine ⟨_,_,rfl,by simp,hn,hm,fun h0=>⟨g,0,rfl,⟨hg,(Array.getElem?_eq_some_iff.1 hh).1⟩,fun j x hj=>?_⟩⟩
  rw [List.getElem?_map] at hj
  cases hp:ps[j]? with
  | none=>simp [hp] at hj
  | some p =>
   simp only [hp,Option.map_some,Option.some.injEq] at hj
   subst hj
   have hjl:j<ps.length:=(List.getElem?_eq_some_iff.1 hp).1
   have hget:∀ i,i<2→cur[j * 2+i]?=(pw p)[i]?:=fun i hi=>by
    have:cur.toList[j * 2+i]?=(ps.flatMap pw)[j * 2+i]?:=by
     rw [← ht,List.getElem?_take,if_pos (by omega)]
    rw [← Array.getElem?_toList,this,flat_get (fun x _=>pw_len x) hp hi]
   obtain ⟨h1,h2,h3⟩:=h.dat p (List.mem_of_getElem? hp)
   refine ⟨by rw [Nat.zero_add,cell_of hh];exact hget 0 (by omega),_,_,_,by rw [Nat.zero_add,cell_of hh];exact hget 1 (by omega),h1.bts h2 ⟨h3,h1.lt⟩⟩
theorem LstAt.ne {base:Nat} {w:World} {v:Value} {ps:List (Wr × Nat)} {D':List UInt8} {b:Nat} (h:LstAt base w v ps) (hp:ps≠[]) (ho:Own w b D') (hD:D'.length=128):v.ownBlock≠some b:=by
 intro e
 rcases h.row.2 with ⟨rfl,h0⟩ | ⟨g,cap,cur,rfl,hg,hh,hn,hm,hs,ht⟩
 ·cases e
 ·cases e
  obtain ⟨t,ho⟩:=ho
  rw [hh] at ho
  simp only [Option.some.injEq,Obj.cells.injEq] at ho
  obtain ⟨p,r,rfl⟩:=List.exists_cons_of_ne_nil hp
  have h1:cur.toList[0]?=some (.int .i64 p.1.1):=by
   have:cur.toList[0]?=((p :: r).flatMap pw)[0]?:=by rw [← ht,List.getElem?_take,if_pos (by simp)]
   rw [this]
   rfl
  rw [ho.1] at h1
  rw [Array.getElem?_toList,List.getElem?_toArray,bc_get (by omega)] at h1
  cases h1
theorem LstAt.below {base:Nat} {w w':World} {v:Value} {ps:List (Wr × Nat)} (h:LstAt base w v ps) (hb:Below w.heap.size w w'):LstAt base w' v ps :=
 ⟨ownsRow_keep h.row fun b hb'=>hb.block b (h.row.lt b hb').2,fun p hp=>⟨(h.dat p hp).1.below hb,(h.dat p hp).2⟩⟩
theorem LstAt.app {base b:Nat} {w:World} {v:Value} {ps:List (Wr × Nat)} (h:LstAt base w v ps) (x:Wr) (hD:x.2.length=128) (ho:Own w b x.2) (hb:base≤b) (hl:ps.length≤24) (hbase:base≤w.heap.size) (hv:ps=[]→v.ownBlock≠some b) :
  ∃ v' w',(Builtin.append_ #[78,78] 78 #[v,.slice (some ⟨w.heap.size,0,none⟩) 1 1]).run Tryz.prog (w.alloc (.cells #[.int .i64 x.1,.slice (some ⟨b,0,none⟩) 128 128] 109))=.ok v' w'∧LstAt base w' v' (ps++[(x,b)])∧Below base w w':=by
 obtain ⟨i0,hi,hz0,hz1,hz2⟩:=info_parts info34
 obtain ⟨v',w',hr,h2,h3,_⟩:=run_append_own (P:=Tryz.prog) (w.alloc (.cells #[.int .i64 x.1,.slice (some ⟨b,0,none⟩) 128 128] 109)) base 78 78 109 i0 _ 2 32 Tryz.underlying78 hi hz0 hz1 hz2 rfl (by decide) v ps.length (ps.flatMap pw) (h.row.alloc _) ⟨w.heap.size,0,none⟩ 1 1 (pw (x,b)) (by rfl)
  (fun j u hu=>by
   rw [Addr.add_lit,World.cell?_alloc_mark,Nat.zero_add]
   match j,hu with
   | 0,hu=>exact hu
   | 1,hu=>exact hu
   | j+2,hu=>simp [pw] at hu) (fun u hu=>by simp only [pw,List.mem_cons,List.not_mem_nil,or_false] at hu;rcases hu with rfl | rfl<;>rfl) (by unfold maxLen;omega) (by omega) (by simp;omega)
 have hkeep:∀ q,q<w.heap.size→v.ownBlock≠some q→w'.heap[q]?=w.heap[q]?:=fun q hq hn=>by
  rw [h3.block q (by simp;omega) (fun e=>hn e.symm),Below.heap_alloc _ _ _ hq]
 refine ⟨v',w',hr,⟨?_,?_⟩,?_⟩
 ·rw [List.flatMap_append]
  simpa using h2
 ·intro p hp
  simp only [List.mem_append,List.mem_singleton] at hp
  rcases hp with hp | rfl
  ·obtain ⟨g1,g2,g3⟩:=h.dat p hp
   exact ⟨g1.keep (hkeep _ g1.lt (h.ne (List.ne_nil_of_mem hp) g1 g2)),g2,g3⟩
  ·refine ⟨ho.keep (hkeep _ ho.lt ?_),hD,hb⟩
   by_cases hp:ps=[]
   ·exact hv hp
   ·exact h.ne hp ho hD
 ·exact ((Below.refl base w).alloc hbase _).grown h3 (by simp;omega) fun j hj=>(h.row.lt j hj).1
theorem ownI_ints {w:World} {base:Nat} {v:Value} {l:List Int} (h:w.ownsRow base 3 1 v l.length (l.map encZ)):∃ A c,v=.slice A l.length c∧Ints w (fun q=>q<w.heap.size) A l.length c l:=by
 rcases h.2 with ⟨rfl,h0⟩ | ⟨g,cap,cur,rfl,hg,hh,hn,hm,hs,ht⟩
 ·have:l=[]:=List.length_eq_zero_iff.1 h0
  subst this
  exact ⟨_,_,rfl,ints_none _ _⟩
 ·refine ⟨_,_,rfl,rfl,hn,hm,fun h0=>⟨g,0,rfl,(Array.getElem?_eq_some_iff.1 hh).1,fun j hj=>?_⟩⟩
  rw [Nat.zero_add,cell_of hh]
  have e:cur.toList[j]?=(l.map encZ)[j]?:=by
   rw [← ht,List.getElem?_take,if_pos (by omega)]
  rw [← Array.getElem?_toList,e]
  simp [hj,encZ]
def ChsP (w:World) (m:List Wr) (e:Ending) (w':World):Prop:=∃ v ps,e=.returned v∧ps.map (·.1)=m∧LstAt w.heap.size w' v ps∧Below w.heap.size w w'
section
variable {w0 w:World} {p d N q:Nat} {O:List Nat} {s:DS} {X:Secs2} {m:List Wr}
set_option maxHeartbeats 2000000 in
theorem changes_any (h:Sto w0 w p d O N s X q m):Calls Tryz.prog 39 #[.pointer (some ⟨p,0,none⟩)] w (ChsP w m):=by
 have H:=Lib.hid h
 have hl24:=h.mok.len
 have hc1:=h.st.c1
 clear h
 go_enter Tryz.func39,Tryz.ntmps39
 go_wp2_with fail
 refine (keys_call q w).mono ?_
 rintro e w1 ⟨rfl,rfl⟩
 go_wp2_with fail
 refine (sorted_call H.out.map H.out.mok.rise hl24).mono ?_
 rintro e w1 ⟨v,rfl,hrow,hb⟩
 obtain ⟨A,c,rfl,hI⟩:=ownI_ints hrow
 have HI:=Lib.hid hI
 have HB:=Lib.hid hb
 have H1:=Lib.hid (H.out.below hb)
 have HL:Hid ((m.map (·.1)).length=m.length):=List.length_map _
 rw [HL.out] at hI ⊢
 have hcap:=hI.cap
 have hlim:=hI.lim
 unfold maxLen at hlim
 clear hrow hI hb hc1
 rw [HL.out] at HI
 have HS1:=Lib.hid HB.out.size
 go_wp2_with fail
 go_loopw [3,14] (fun u i wr=>∃ k:Nat,∃ v:Value,∃ ps,k≤m.length∧i=.int .i64 k∧u=v∧Hid (LstAt w1.heap.size wr v ps)∧Hid (ps.map (·.1)=m.take k)∧Hid (ps=[]→v=.slice none 0 0)∧Hid (Below w1.heap.size w1 wr)) (fun _ i _=>m.length - (intOf i).toNat)
 case atStart=>exact ⟨0,_,[],Nat.zero_le _,rfl,rfl,⟨World.ownsRow_nil _ _ _ _,by simp⟩,rfl,fun _=>rfl,Below.refl _ _⟩
 case round =>
  obtain ⟨k,v,ps,hk,rfl,rfl,HA,HP,HV,HBW⟩:=hrel
  by_cases hlt:k<m.length
  ·obtain ⟨x,hx⟩:∃ x,m[k]?=some x:=⟨_,List.getElem?_eq_getElem hlt⟩
   have hmem:=List.mem_of_getElem? hx
   obtain ⟨b,off,rfl,hb,hc⟩:=(HI.out.keep (w':=wr) fun b hb=>HBW.out.block b hb).cell hlt
   rw [show ((m.map (·.1))[k]?.getD 0)=x.1 by rw [List.getElem?_map,hx];rfl] at hc
   have HX:=Lib.hid hx
   obtain ⟨g1,g2,g3⟩:=H.out.mok.all x hmem
   have g4:=okn_iff.1 g1
   have H2:=Lib.hid (H1.out.below HBW.out)
   have hlk:=H2.out.map.look1 (k:=x.1) (by omega) (by omega) (mem_find H.out.mok.rise hmem)
   have hc1:=H2.out.st.c1
   have HL3:=Lib.hid g3
   have HI3:Hid ((Tryz.prog.info? 147).map (·.size)=some (bc x.2).toArray.size):=by show _=_;rw [s90];simp [bc_len,HL3.out]
   have HS3:Hid ((bc zeros).toArray.size=(bc x.2).toArray.size):=by show _=_;simp [bc_len,HL3.out];rfl
   have hz:∀ w,(zeroValue 147).run Tryz.prog w=.ok (.agg (bc zeros).toArray) w:=zero90
   have hpl:ps.length=k:=by have:=congrArg List.length HP.out;rw [List.length_map,List.length_take] at this;omega
   unfold sv at hlk
   clear g1 g2 g3 g4 hx hmem
   obtain ⟨y,l⟩:=x
   simp only at hc hlk HL3 HI3 HS3
   obtain ⟨a0,a1,a2⟩:=D.box1 wr (Obj.cells (bc l).toArray 147)
   have A0:Hid (Own (wr.alloc (Obj.cells (bc l).toArray 147)) wr.heap.size l):=⟨147,a0⟩
   have A1:=Lib.hid a1
   clear a0 a1
   go_upto_region 6 with (first | (refine wpList_store_new rfl 147 _ _ rfl wr (bc zeros).toArray (bc l).toArray rfl rfl HI3.out HS3.out (all_oneCell_toArray (bc_one l)) ?_) | fail)
   clear hlk hz hc hc1 HI3 HS3
   have HA1:=Lib.hid (HA.out.below A1.out)
   have HB1:=Lib.hid (HBW.out.trans (A1.out.mono HBW.out.size))
   have hs1:=HBW.out.size
   have hs2:w1.heap.size≤(wr.alloc (Obj.cells (bc l).toArray 147)).heap.size:=HB1.out.size
   clear a2 A1
   generalize wr.alloc (Obj.cells (bc l).toArray 147)=W at *
   obtain ⟨v',w',hr,hA',hb'⟩:=HA1.out.app (y,l) HL3.out A0.out hs1 (by omega) hs2 (fun e=>by rw [HV.out e];simp [Value.ownBlock])
   have HR:=Lib.hid hr
   have HA2:=Lib.hid hA'
   have HB2:=Lib.hid (HB1.out.trans hb')
   have HP2:Hid ((ps++[((y,l),wr.heap.size)]).map (·.1)=m.take (k+1)):=by
    show _=_
    rw [List.map_append,HP.out,List.take_add_one,HX.out]
    rfl
   have HV2:Hid (ps++[((y,l),wr.heap.size)]=[]→v'=.slice none 0 0):=fun e=>absurd e (by simp)
   clear hr hA' hb' HA1 HB1
   go_wp2_with (first | (refine wpList_append_run rfl _ _ 78 rfl _ _ _ _ rfl rfl HR.out ?_) | fail)
   go_roundw
   case rel=>exact ⟨k+1,v',_,by omega,by go_num,rfl,HA2,HP2,HV2,HB2⟩
   case measure=>simp [intOf];omega
  ·obtain rfl:k=m.length:=by omega
   go_wp2_with fail
   go_ret
   refine ⟨_,ps,rfl,by rw [HP.out,List.take_length],⟨ownsRow_base_a HA.out.row HS1.out,fun p hp=>?_⟩,HB.out.trans (HBW.out.mono HS1.out)⟩
   obtain ⟨e1,e2,e3⟩:=HA.out.dat p hp
   exact ⟨e1,e2,Nat.le_trans HS1.out e3⟩
end
end Go.Proofs.YtkganhafbjgndaaGreatRR
namespace Go.Proofs.YtkganhafbjgndaaGreatRR
open Go.RowKit
set_option linter.unusedVariables false
set_option maxRecDepth 20000
theorem wrs_2 {w:World} {M M':Nat→Prop} {A A':Option Addr} {n c n' c':Nat} {l l':List UInt8} (x x':Int) (hb:Bts w M A n c l) (hb':Bts w M' A' n' c' l') (hM:∀ b,M b→b<w.heap.size) (hM':∀ b,M' b→b<w.heap.size) :
  Wrs (w.alloc (.cells #[.int .i64 x,.slice A n c,.int .i64 x',.slice A' n' c'] 109)) (fun q=>(M q∨M' q)∨q=w.heap.size) (some ⟨w.heap.size,0,none⟩) 2 2 [(x,l),(x',l')]:=by
 have hnew:(w.alloc (.cells #[.int .i64 x,.slice A n c,.int .i64 x',.slice A' n' c'] 109)).heap[w.heap.size]?=some (.cells #[.int .i64 x,.slice A n c,.int .i64 x',.slice A' n' c'] 109 (0,0)):=heap_alloc_new _ _
 refine ⟨rfl,Nat.le_refl _,by unfold maxLen;omega,fun _=>⟨_,0,rfl,.inr rfl,fun j y hj=>?_⟩⟩
 match j,hj with
 | 0,hj =>
  simp only [List.getElem?_cons_zero,Option.some.injEq] at hj
  subst hj
  exact ⟨cell_of hnew 0,_,_,_,cell_of hnew 1,(hb.keep fun b hb'=>Below.heap_alloc _ _ _ (hM b hb')).more fun b hb'=>.inl (.inl hb')⟩
 | 1,hj =>
  simp only [List.getElem?_cons_succ,List.getElem?_cons_zero,Option.some.injEq] at hj
  subst hj
  exact ⟨cell_of hnew 2,_,_,_,cell_of hnew 3,(hb'.keep fun b hb'=>Below.heap_alloc _ _ _ (hM' b hb')).more fun b hb'=>.inl (.inr hb')⟩
 | j+2,hj=>simp at hj
theorem ret_tct {fn:Func} {p u t:Tmp} {ty:TypeId} (h:fn.results=#[.tmp u,.cell p ty,.tmp t]) {tmps:Array Value} {W:World} {g:Nat} {cs:Array Value} {ty':TypeId} {fr:Nat × Nat} {d:TypeDesc} (hp:tmps.getD p undef=.pointer (some ⟨g,0,none⟩)) (hg:W.heap[g]?=some (.cells cs ty' fr))
  (hu:Tryz.prog.underlying ty=some d) (hd:d.isRow=true) (hi:(Tryz.prog.info? ty).map (·.size)=some cs.size):(results fn tmps).run Tryz.prog W=.ok (.tuple #[tmps.getD u undef,.agg cs,tmps.getD t undef]) W:=by
 have hl:=D.load_row (P:=Tryz.prog) W g ty' ty cs fr d hg hu hd hi
 have hp':tmps[p]?.getD undef=.pointer (some ⟨g,0,none⟩):=by simpa using hp
 simp only [results,h]
 simp [hp',asAddr,hl]
section
variable {w0 w:World} {p d N q:Nat} {O:List Nat} {s:DS} {X:Secs2} {m:List Wr}
def SpR (w:World) (y:D.Nn) (e:Ending) (w':World):Prop:=e=.returned (.tuple #[.int .i64 2,.agg (D.nc y.up).toArray,.int .i64 0])∧Below w.heap.size w w'
def nn (k g:Nat):D.Nn:=⟨k,1,g,0,1,0,0,0,0,0,0⟩
def NewQ (w0 w:World) (p d:Nat) (O:List Nat) (N:Nat) (s:DS) (X:Secs2) (q:Nat) (m':List Wr) (e:Ending) (w':World):Prop:=e=.returned (.tuple #[.int .i64 2,.int .i64 0])∧Sto w0 w' p d O N s X q m'∧Chg [q] w w'
end
end Go.Proofs.YtkganhafbjgndaaGreatRR
namespace Go.Proofs.YtkganhafbjgndaaGreatRR
open Go.RowKit
set_option linter.unusedVariables false
set_option maxRecDepth 20000
section
variable {w0 w:World} {p d N q:Nat} {O:List Nat} {s:DS} {X:Secs2} {m:List Wr}
def ComP (w0 w:World) (p d:Nat) (O:List Nat) (N:Nat) (X:Secs2) (q:Nat) (e:Ending) (w':World):Prop:=e=.returned (.int .i64 0)∧∃ O' s',Sto w0 w' p d O' N s' X q []∧Chg (q :: O) w w'∧∀ b∈O',b∈O∨w.heap.size≤b
set_option maxHeartbeats 2000000 in
theorem commit_yes (h:Sto w0 w p d O N s X q m):Calls Tryz.prog 16 #[.pointer (some ⟨p,0,none⟩)] w (ComP w0 w p d O N (lay X (toW m)) q):=by
 have H:=Lib.hid h
 have hc0:=h.st.c0
 have hpw:=h.st.lt
 have hqw:=h.map.lt
 clear h
 have HCH:Hid (∀ w',Below w.heap.size w w'→Calls Tryz.prog 39 #[.pointer (some ⟨p,0,none⟩)] w' (ChsP w' m)):=fun w' hb=>changes_any (H.out.below hb)
 have HCO:Hid (∀ w' v,Below w.heap.size w w'→(∃ ps,ps.map (·.1)=m∧LstAt w.heap.size w' v ps)→Calls Tryz.prog 38 #[.pointer (some ⟨d,0,none⟩),v] w' fun e w''=>e=.returned (.int .i64 0)∧Onw w0 w' d O N (lay X (toW m)) w''):=by
  intro w' v hb ⟨ps,hps,hl⟩
  obtain ⟨A,c,rfl,hW⟩:=hl.wrs
  rw [hps] at hW
  refine commitO (H.out.below hb).ons hW (fun b hb'=>⟨hb'.2,fun e=>?_⟩) H.out.mok.fit
  have:=H.out.ons.sit.drv.lt b e
  omega
 go_enter Tryz.func16,Tryz.ntmps16
 go_wp2_with fail
 refine (barred_ok H.out.st).mono ?_
 rintro e w1 ⟨rfl,rfl⟩
 go_upto_region 4 with fail
 have HS:Hid (∀ W,Below w.heap.size w W→W.cell? ⟨p,0,none⟩=some (.pointer (some ⟨d,0,none⟩))):=fun W hb=>(H.out.below hb).st.c0
 go_region_held3 (fun W=>W.cell? ⟨p,0,none⟩=some (.pointer (some ⟨d,0,none⟩))) (first | with_reducible exact HS.out _ (Below.refl _ _).drew | with_reducible exact HS.out _ HB1.out | with_reducible exact HS2.out)
  ((first
   | (go_at_call 39;refine (HCH.out w.drew (Below.refl _ _).drew).mono ?_;rintro e w1 ⟨v,ps,rfl,hps,hl,hb⟩;have HB1:Hid (Below w.heap.size w w1):=(Below.refl _ w).drew.trans hb;have HL1:Hid (LstAt w.heap.size w1 v ps):=hl;have HP1:=Lib.hid hps;clear hb hl hps)
   | (go_at_call 38;(with_reducible refine (HCO.out _ _ HB1.out ⟨_,HP1.out,HL1.out⟩).mono ?_);rintro e w2 ⟨rfl,O',s',hO,hc,hf⟩;have HO2:=Lib.hid hO;have HC2:=Lib.hid hc;have HF2:=Lib.hid hf;have HS2:Hid (w2.cell? ⟨p,0,none⟩=some (.pointer (some ⟨d,0,none⟩))):=(World.cell?_of_block (a:=⟨p,0,none⟩) (hc.block p (Nat.lt_of_lt_of_le hpw HB1.out.size) H.out.pO)).trans (HS.out _ HB1.out);clear hO hc hf)))
 have HB2:Hid (Chg O w w2):=(Chg.of_below HB1.out).tr HC2.out
 have HS3:Hid (Sto w0 w2 p d O' N s' (lay X (toW m)) q m):=by
  have hsz:=HB1.out.size
  refine ⟨HO2.out,H.out.st.keep (HB2.out.block p hpw H.out.pO),H.out.map.keep (HB2.out.block q hqw H.out.qO),H.out.mok,fun e=>?_,fun e=>?_,H.out.pf,H.out.qf⟩
  ·rcases HF2.out p e with g | g
   ·exact H.out.pO g
   ·omega
  ·rcases HF2.out q e with g | g
   ·exact H.out.qO g
   ·omega
 have hc1:=HS3.out.st.c1
 obtain ⟨w3,hr3,hm3,hg3⟩:=HS3.out.map.clear 0
 have HC3:Hid (Chg [q] w2 w3):=(Chg.refl _ _).grown hg3 fun j hj=>by cases hj;left;simp
 have HS4:=Lib.hid (HS3.out.put_ hm3 (MOk.nil N) HC3.out)
 have HF3:Hid (∀ b∈O',b∈O∨w.heap.size≤b):=fun b hb=>by
  rcases HF2.out b hb with g | g
  ·exact .inl g
  ·right;have:=HB1.out.size;omega
 have HC4:Hid (Chg (q :: O) w w3):=(HB2.out.mono fun b hb=>.inl (by simp [hb])).trans HC3.out fun b hb=>by simp at hb;left;simp [hb]
 clear hm3 hg3 hc0
 go_wp2_with fail
 go_ret
 exact ⟨rfl,O',s',HS4.out,HC4.out,HF3.out⟩
set_option maxHeartbeats 1000000 in
theorem give_yes (h:Sto w0 w p d O N s X q m) {n:Nat} (h43:43≤n) (hn:n<N) (hr:find m 34≠none∨m.length<24) :
  Calls Tryz.prog 182 #[.pointer (some ⟨p,0,none⟩),.int .i64 n] w (Put1 w0 w p d O N s X q (ins 34 (K.setb (view X m 34) n false) m)):=by
 have H:=Lib.hid h
 have HR:=Lib.hid hr
 have h64:=h.n64
 have hN1:=h.n1
 have HL:=Lib.hid (h.view_len (n:=34) (by omega) (by unfold inLog;omega))
 have hlt:decide ((n:Int)<43)=false:=by simp;omega
 clear h hr
 go_enter Tryz.func182,Tryz.ntmps182
 go_wp2_with fail
 refine (barred_ok H.out.st).mono ?_
 rintro e w1 ⟨rfl,rfl⟩
 go_wp2_with fail
 refine (has_yes H.out hn (by unfold inLog;omega)).mono ?_
 rintro e w1 ⟨rfl,rfl⟩
 go_wp2_with fail
 refine (get_any (n:=34) H.out (by omega) (by unfold inLog;omega)).mono ?_
 rintro e w1 ⟨b,rfl,hb1,hb2,hb3⟩
 have HB:=Lib.hid (kb hb2 HL.out)
 have H1:=Lib.hid (H.out.below hb3)
 have HB1:=Lib.hid hb3
 clear hb1 hb2 hb3
 go_wp2_with fail
 refine (K.set_yes n false HB.out (Nat.le_refl _) (by omega)).mono ?_
 rintro e w2 ⟨g,cap,rfl,hk,hb⟩
 have H2:=Lib.hid (H1.out.below hb)
 have hne:=kbts_ne hk (by omega) H2.out.map
 have HK:=Lib.hid (kbts hk)
 have HB2:=Lib.hid (HB1.out.trans (hb.mono HB1.out.size))
 clear hk hb
 go_wp2_with fail
 refine (put_yes (n:=34) H2.out (by omega) (by unfold inLog;omega) HK.out (fun b hb=>by cases hb;exact ⟨hne.2,hne.1⟩) HR.out).mono ?_
 rintro e w3 ⟨rfl,hs,hc⟩
 have HS:=Lib.hid hs
 have HC:=Lib.hid ((Chg.of_below HB2.out).tr hc)
 clear hs hc
 go_wp2_with fail
 go_ret
 exact ⟨rfl,HS.out,HC.out⟩
def TakP (w0 w:World) (p d:Nat) (O:List Nat) (N:Nat) (s:DS) (X:Secs2) (q:Nat) (m':List Wr) (n:Nat) (e:Ending) (w':World):Prop:=e=.returned (.tuple #[.int .i64 n,.int .i64 0])∧Sto w0 w' p d O N s X q m'∧Chg [q] w w'
set_option maxHeartbeats 1000000 in
theorem take_yes (h:Sto w0 w p d O N s X q m) {n:Nat} (hf:K.first (view X m 34) 43 (N - 43)=some n) (hr:Room N m [(34,K.setb (view X m 34) n true),((n:Int),zeros)]) :
  Calls Tryz.prog 130 #[.pointer (some ⟨p,0,none⟩)] w (TakP w0 w p d O N s X q (insAll [(34,K.setb (view X m 34) n true),((n:Int),zeros)] m) n):=by
 have H:=Lib.hid h
 have HR:=Lib.hid hr
 have HF:=Lib.hid hf
 have h64:=h.n64
 have hN1:=h.n1
 have HL:=Lib.hid (h.view_len (n:=34) (by omega) (by unfold inLog;omega))
 obtain ⟨f1,f2,f3⟩:=K.first_some hf
 have hc0:=h.st.c0
 clear h hr hf f3
 go_enter Tryz.func130,Tryz.ntmps130
 go_wp2_with fail
 refine (get_any (n:=34) H.out (by omega) (by unfold inLog;omega)).mono ?_
 rintro e w1 ⟨b,rfl,hb1,hb2,hb3⟩
 have HB:=Lib.hid (kb hb2 HL.out)
 have H1:=Lib.hid (H.out.below hb3)
 have HB1:=Lib.hid hb3
 have hbl:b<w1.heap.size:=(Array.getElem?_eq_some_iff.1 hb2).1
 clear hb1 hb2 hb3 hc0
 have hc0:=H1.out.st.c0
 go_wp2_with fail
 refine (sectorsD H1.out.ons.sit.drv).mono ?_
 rintro e w2 ⟨rfl,rfl⟩
 go_wp2_with fail
 have HFI:=Lib.hid (K.first_yes 43 N HB.out (Nat.le_refl _) (by omega) hN1)
 rw [HF.out,show K.fn (some n)=(n:Int) from rfl,show K.fe (some n)=0 from rfl] at HFI
 refine HFI.out.mono ?_
 rintro e w2 ⟨rfl,hb⟩
 have H2:=Lib.hid (H1.out.below hb)
 have HBT2:=Lib.hid (HB.out.below hb)
 have HB2:=Lib.hid (HB1.out.trans (hb.mono HB1.out.size))
 have hs12:=hb.size
 clear hb hc0 HFI HB
 go_wp2_with fail
 refine (K.set_yes n true (HBT2.out.more hs12) (Nat.le_refl _) (by omega)).mono ?_
 rintro e w3 ⟨g,cap,rfl,hk,hb⟩
 have H3:=Lib.hid (H2.out.below hb)
 have hne:=kbts_ne hk (by omega) H3.out.map
 have HK:=Lib.hid (kbts hk)
 have HB3:=Lib.hid (HB2.out.trans (hb.mono HB2.out.size))
 clear hk hb HBT2
 have hmk:=make128_all w3
 go_upto_region 11 with fail
 clear hmk
 obtain ⟨a0,a1,a2⟩:=D.box1 w3 (Obj.cells (bc zeros).toArray 5)
 have HZ:Hid (Bts (w3.alloc (Obj.cells (bc zeros).toArray 5)) (IM w3.heap.size) (some ⟨w3.heap.size,0,none⟩) 128 128 zeros):=Own.bts ⟨5,a0⟩ rfl rfl
 have HK2:=Lib.hid (HK.out.keep (w':=w3.alloc (Obj.cells (bc zeros).toArray 5)) fun b hb=>by cases hb;exact a1.block g hne.2)
 have H4:=Lib.hid (H3.out.below a1)
 have HB4:=Lib.hid (HB3.out.trans (a1.mono HB3.out.size))
 have hs4:w3.heap.size<(w3.alloc (Obj.cells (bc zeros).toArray 5)).heap.size:=by rw [a2];omega
 have hqw3:=H3.out.map.lt
 clear a0 a1 a2 HK
 generalize w3.alloc (Obj.cells (bc zeros).toArray 5)=W at *
 go_wp2_with fail
 have hbx:=(Below.refl W.heap.size W).alloc (Nat.le_refl _) (.cells #[.int .i64 34,.slice (some ⟨g,0,none⟩) 128 cap,.int .i64 (n:Int),.slice (some ⟨w3.heap.size,0,none⟩) 128 128] 109)
 refine (change_any (H4.out.below hbx) (wrs_2 34 (n:Int) HK2.out HZ.out (fun b hb=>by cases hb;omega) (fun b hb=>by cases hb;omega)) ?_ HR.out).mono ?_
 ·rintro b ((hb | hb) | rfl)
  ·cases hb;exact ⟨by simp;omega,hne.1⟩
  ·cases hb;exact ⟨by simp;omega,by omega⟩
  ·exact ⟨by simp,by have:=H4.out.map.lt;omega⟩
 ·rintro e w5 ⟨rfl,hs,hc⟩
  have HS:=Lib.hid hs
  have HC:=Lib.hid (((Chg.of_below HB4.out).tr (Chg.of_below hbx)).tr hc)
  clear hs hc hbx
  go_wp2_with fail
  go_ret2
  exact ⟨rfl,HS.out,HC.out⟩
end
end Go.Proofs.YtkganhafbjgndaaGreatRR
namespace Go.Proofs.YtkganhafbjgndaaGreatRR
open Go.RowKit
set_option linter.unusedVariables false
set_option maxRecDepth 20000
section
variable {w0 w:World} {p d N q:Nat} {O:List Nat} {s:DS} {X:Secs2} {m:List Wr}
def SpR3 (w:World) (y:D.Nn) (e:Ending) (w':World):Prop:=e=.returned (.tuple #[.int .i64 3,.agg (D.nc y.up).toArray,.int .i64 0])∧Below w.heap.size w w'
def NewQ3 (w0 w:World) (p d:Nat) (O:List Nat) (N:Nat) (s:DS) (X:Secs2) (q:Nat) (m':List Wr) (e:Ending) (w':World):Prop:=e=.returned (.tuple #[.int .i64 3,.int .i64 0])∧Sto w0 w' p d O N s X q m'∧Chg [q] w w'
end
end Go.Proofs.YtkganhafbjgndaaGreatRR
