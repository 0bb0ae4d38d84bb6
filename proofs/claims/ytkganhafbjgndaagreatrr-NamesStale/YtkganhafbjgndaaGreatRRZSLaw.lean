/- store: what is filled, Make, Mount; no store; mathematics of the laws. -/
import Derived.Test.YtkganhafbjgndaaGreatRRZSCom
import Derived.BigQuiet
import Derived.Deep.QuietTactic
namespace Go.Proofs.YtkganhafbjgndaaGreatRR
open Go.RowKit
set_option linter.unusedVariables false
set_option maxRecDepth 20000
def rootN:D.Nn:=⟨2,1,0,0,0,0,0,0,0,0,0⟩
theorem root_ok:rootN.up.ok=true:=by decide
def seatsM (N:Nat):Nat→List Wr
 | 0=>ins 0 (U.sec N 0 0) []
 | k+1=>ins ((26+k:Nat):Int) seat0 (seatsM N k)
def nodesM (N:Nat):Nat→List Wr
 | 0=>ins 34 (markL 43) (seatsM N 8)
 | k+1=>ins ((35+k:Nat):Int) zeros (nodesM N k)
def rootS (N:Nat) (X:Secs2):List UInt8:=putN X (nodesM N 8) 1 rootN
def fillM (N:Nat) (X:Secs2):List Wr:=ins 35 (rootS N X) (nodesM N 8)
theorem ins_le {m:List Wr} (k:Int) (x:List UInt8):(ins k x m).length≤m.length+1:=by
 unfold ins
 rw [insW_len]
 have:=List.length_filter_le (fun p:Wr=>!(p.1 == k)) m
 omega
theorem seatsM_len (N k:Nat):(seatsM N k).length≤k+1:=by
 induction k with
 | zero=>exact ins_le _ _
 | succ k ih=>rw [seatsM];have:=ins_le (m:=seatsM N k) ((26+k:Nat):Int) seat0;omega
theorem nodesM_len (N k:Nat):(nodesM N k).length≤k+10:=by
 induction k with
 | zero=>rw [nodesM];have:=ins_le (m:=seatsM N 8) 34 (markL 43);have:=seatsM_len N 8;omega
 | succ k ih=>rw [nodesM];have:=ins_le (m:=nodesM N k) ((35+k:Nat):Int) zeros;omega
section
variable {w0 w:World} {p d N q:Nat} {O:List Nat} {s:DS} {X:Secs2} {m:List Wr}
set_option maxHeartbeats 2000000 in
theorem fill_yes (h:Sto w0 w p d O N s X q []):Calls Tryz.prog 49 #[.pointer (some ⟨p,0,none⟩)] w (Put1 w0 w p d O N s X q (fillM N X)):=by
 have H:=Lib.hid h
 have h64:=h.n64
 have hN1:=h.n1
 have hc0:=h.st.c0
 have HOK:Hid (U.ok N (0:Nat) (0:Nat)=true):=U.ok_iff.2 (by omega)
 clear h
 go_enter Tryz.func49,Tryz.ntmps49
 go_wp2_with fail
 refine (sectorsD H.out.ons.sit.drv).mono ?_
 rintro e w1 ⟨rfl,rfl⟩
 go_wp2_with fail
 refine (setSuper_yes H.out N 0 0 HOK.out (by right;simp)).mono ?_
 rintro e w1 ⟨rfl,hs,hc⟩
 have HS0:Hid (Sto w0 w1 p d O N s X q (seatsM N 0)):=hs
 have HC0:=Lib.hid hc
 clear hs hc hc0
 go_wp2_with fail
 go_loopw [20] (fun i wr=>∃ k:Nat,k≤8∧i=.int .i64 k∧Hid (Sto w0 wr p d O N s X q (seatsM N k))∧Hid (Chg [q] w wr)) (fun i _=>8 - (intOf i).toNat)
 case atStart=>exact ⟨0,Nat.zero_le _,rfl,HS0,HC0⟩
 case round =>
  obtain ⟨k,hk,rfl,HS,HC⟩:=hrel
  by_cases hlt:k<8
  ·go_wp2_with fail
   refine (setSeat_zero HS.out hlt (by right;have:=seatsM_len N k;omega)).mono ?_
   rintro e w2 ⟨rfl,hs,hc⟩
   have HS2:Hid (Sto w0 w2 p d O N s X q (seatsM N (k+1))):=hs
   have HC2:=Lib.hid (HC.out.tr hc)
   clear hs hc
   go_wp2_with fail
   go_roundw
   case rel=>first | exact ⟨k+1,by omega,by go_num,HS2,HC2⟩ | exact ⟨k+1,by omega,by go_num,HS2⟩
   case measure=>simp [intOf];omega
  ·obtain rfl:k=8:=by omega
   rw [show ((8:Nat):Int)=8 from rfl]
   go_wp2_with fail
   refine (fillMarks_yes HS.out (by right;have:=seatsM_len N 8;omega)).mono ?_
   rintro e w2 ⟨rfl,hs,hc⟩
   have HS2:Hid (Sto w0 w2 p d O N s X q (nodesM N 0)):=hs
   have HC2:=Lib.hid (HC.out.tr hc)
   clear hs hc HS HC
   go_wp2_with fail
   generalize wr=V0 at *
   go_loopw [7] (fun i wr=>∃ k:Nat,k≤8∧i=.int .i64 ((4 * k:Nat):Int)∧Hid (Sto w0 wr p d O N s X q (nodesM N k))∧Hid (Chg [q] w wr)) (fun i _=>32 - (intOf i).toNat)
   case atStart=>exact ⟨0,Nat.zero_le _,rfl,HS2,HC2⟩
   case round =>
    obtain ⟨k,hk,rfl,HS,HC⟩:=hrel
    by_cases hlt:k<8
    ·obtain ⟨j,hj⟩:∃ j,4 * k=j:=⟨_,rfl⟩
     have HJ:Hid (35+j / 4=35+k):=by show _=_;omega
     have HJ4:Hid (4 * (k+1)=j+4):=by show _=_;omega
     have hj32:(j:Int)<32:=by omega
     rw [hj]
     have HHO:Hid (∀ w,Calls Tryz.prog 101 #[.int .i64 (j:Int)] w fun e w'=>e=.returned (.int .i64 ((35+k:Nat):Int))∧w=w'):=fun w=>by rw [← HJ.out];exact holder_any j w (by omega)
     have hmk:=make128_all
     obtain ⟨a0,a1,a2⟩:=D.box1 wr (Obj.cells (bc zeros).toArray 5)
     have HZ:Hid (Bts (wr.alloc (Obj.cells (bc zeros).toArray 5)).drew (IM wr.heap.size) (some ⟨wr.heap.size,0,none⟩) 128 128 zeros):=Own.bts (w:=(wr.alloc (Obj.cells (bc zeros).toArray 5)).drew) ⟨5,a0⟩ rfl rfl
     have HBA:Hid (Below wr.heap.size wr (wr.alloc (Obj.cells (bc zeros).toArray 5)).drew):=a1.drew
     have HS1:=Lib.hid (HS.out.below HBA.out)
     have hql:=HS.out.map.lt
     obtain ⟨i35,h35⟩:∃ i,35+k=i:=⟨_,rfl⟩
     have HPU:Hid (Calls Tryz.prog 91 #[.pointer (some ⟨p,0,none⟩),.int .i64 (i35:Int),.slice (some ⟨wr.heap.size,0,none⟩) 128 128] (wr.alloc (Obj.cells (bc zeros).toArray 5)).drew (Put1 w0 (wr.alloc (Obj.cells (bc zeros).toArray 5)).drew p d O N s X q (nodesM N (k+1)))):=by
      have e:nodesM N (k+1)=ins (i35:Int) zeros (nodesM N k):=by rw [← h35];rfl
      rw [e]
      exact put_yes HS1.out (by omega) (by unfold inLog;omega) HZ.out (fun b hb=>by cases hb;exact ⟨by show wr.heap.size<(wr.alloc _).heap.size;simp,by omega⟩) (by right;have:=nodesM_len N k;omega)
     rw [h35] at HHO
     clear a0 a1 a2 hj h35
     go_upto_region 17 with fail
     go_region_held3 (fun _=>True) (trivial) (first
      | (go_at_call 101;refine (HHO.out _).mono ?_;rintro e w2 ⟨rfl,rfl⟩)
      | (go_at_call 91;refine HPU.out.mono ?_;rintro e w2 ⟨rfl,hs,hc⟩;have HS3:=Lib.hid hs;have HC3:=Lib.hid ((HC.out.tr (Chg.of_below HBA.out)).tr hc);clear hs hc))
     all_goals
      have hw4:IntKind.i64.wrap ((j:Int)+4)=((j+4:Nat):Int):=by rw [IntKind.wrap_i64];omega
      go_wp2_with fail
      go_roundw
      case rel=>first | exact ⟨k+1,by omega,by rw [HJ4.out];go_num,HS3,HC3⟩ | exact ⟨k+1,by omega,by rw [HJ4.out];go_num,HS3⟩ | trace_state
      case measure=>simp [intOf];omega
    ·obtain rfl:k=8:=by omega
     rw [show ((4 * 8:Nat):Int)=32 from rfl]
     go_wp2_with fail
     have HSN:Hid (Calls Tryz.prog 71 #[.pointer (some ⟨p,0,none⟩),.int .i64 1,.agg #[.int .i64 2,.int .i64 1,.int .i64 0,.int .i64 0,.int .i64 0,.int .i64 0,.int .i64 0,.int .i64 0,.int .i64 0,.int .i64 0,.int .i64 0]] wr (Put1 w0 wr p d O N s X q (fillM N X))) :=
      setNode_yes (n:=1) HS.out (by omega) rootN root_ok (by right;have:=nodesM_len N 8;omega)
     refine HSN.out.mono ?_
     rintro e w3 ⟨rfl,hs,hc⟩
     have HS3:=Lib.hid hs
     have HC3:=Lib.hid (HC.out.tr hc)
     clear hs hc HSN
     go_wp2_with fail
     go_ret
     exact ⟨rfl,HS3.out,HC3.out⟩
end
end Go.Proofs.YtkganhafbjgndaaGreatRR
namespace Go.Proofs.YtkganhafbjgndaaGreatRR
open Go.RowKit
set_option linter.unusedVariables false
set_option maxRecDepth 20000
theorem zeros_noHd:isHd zeros=none:=by
 unfold isHd
 rw [if_neg]
 intro h
 have h1:=h.2.2.2
 have hc:cnt zeros=0:=by decide +kernel
 rw [hc] at h1
 have h2:(hd (nums zeros 0))[0]?=zeros[0]?:=by rw [h1]
 have h3:(hd (nums zeros 0))[0]?=some 82:=by
  rw [hd_get (by simp [nums]) (by rw [hbody_len];omega)]
  rfl
 rw [h3] at h2
 cases h2
theorem new_recover (N:Nat) (hN:64≤N) (f:Bool) (l:Int):(⟨List.replicate N zeros,List.replicate N zeros,[],f,l,false⟩:DS).recover N=(2,⟨List.replicate N zeros,List.replicate N zeros,[],f,l,false⟩):=by
 unfold DS.recover
 simp only [Bool.false_eq_true,if_false]
 have:(List.replicate N zeros)[1]?.getD []=zeros:=by rw [List.getElem?_replicate,if_pos (by omega)];rfl
 rw [this,zeros_noHd]
def X1 (N:Nat):Secs2:=lay (X0 N) (toW (fillM N (X0 N)))
theorem X0_len (N:Nat):(X0 N).length=N:=by simp [X0]
theorem X1_len (N:Nat):(X1 N).length=N:=by unfold X1;rw [lay_len,X0_len]
def OnQ (w0 w:World) (d:Nat) (O:List Nat) (N:Nat) (X:Secs2) (e:Ending) (w':World):Prop:=e=.returned (.int .i64 0)∧∃ O' s',Ons w0 w' d O' N s' X∧Chg O w w'∧∀ b∈O',b∈O∨w.heap.size≤b
section
variable {w0 w:World} {p d N q:Nat} {O:List Nat} {s:DS} {X:Secs2} {m:List Wr}
set_option maxHeartbeats 1000000 in
theorem emptyLog_gen (h:Sit w0 w d O N s) (hN:64≤N) (hs:∃ f l,s=⟨List.replicate N zeros,List.replicate N zeros,[],f,l,false⟩) {e1:Int} {s1:DS} (hp:s.put N [(1,hd [])]=(e1,s1)) (Q:Ending→World→Prop)
  (h0:e1=0→∀ e w',(e=.returned (.int .i64 s1.flush.1)∧∃ O',Sit w0 w' d O' N s1.flush.2∧Chg O w w'∧∀ b∈O',b∈O∨w.heap.size≤b)→Q e w')
  (h1:e1≠0→∀ e w',(e=.returned (.int .i64 e1)∧∃ O',Sit w0 w' d O' N s1∧Chg O w w'∧∀ b∈O',b∈O∨w.heap.size≤b)→Q e w') :
  Calls Tryz.prog 47 #[.pointer (some ⟨d,0,none⟩)] w Q:=by
 obtain ⟨f,l,es⟩:=hs
 have HREC:Hid (s.recover N=(2,s)):=by rw [es];exact new_recover N hN f l
 have HSN:Hid (s.since=[]):=by show _=_;rw [es]
 have H:=Lib.hid h
 have HP:=Lib.hid hp
 have HQ0:=Lib.hid h0
 have HQ1:=Lib.hid h1
 clear es hp h h0 h1
 go_enter Tryz.func47,Tryz.ntmps47
 go_wp2_with fail
 have HRE:=Lib.hid (recover_any H.out.drv (fun _=>by rw [HSN.out];simp))
 rw [HREC.out] at HRE
 refine HRE.out.mono ?_
 rintro e w1 ⟨rfl,hd⟩
 obtain ⟨O1,h1,hc1,hf1⟩:=H.out.did hd
 have H1:=Lib.hid h1
 have HC1:=Lib.hid hc1
 have HF1:=Lib.hid hf1
 clear HRE hd h1 hc1 hf1
 show _
 go_wp2_with fail
 refine (head_yes (ints_none w1 (fun _=>False)) (fun _ hf=>hf.elim) good_nil).mono ?_
 rintro e w2 ⟨v,rfl,hm⟩
 have H2:=Lib.hid (H1.out.below hm.bel)
 obtain ⟨g,cap,rfl,hg1,hg2,hbt⟩:=mine_bts hm (by rw [hd_len (by simp)];omega)
 rw [hd_len (by simp)] at hbt ⊢
 have HBT:=Lib.hid hbt
 have HB2:=Lib.hid hm.bel
 clear hm hbt
 go_wp2_with fail
 have hbx:=(Below.refl w2.heap.size w2).alloc (Nat.le_refl _) (.cells #[.int .i64 1,.slice (some ⟨g,0,none⟩) 128 cap] 109)
 have HPU:=Lib.hid (put_any (H2.out.below hbx).drv (wrs_1 1 HBT.out (fun b hb=>by cases hb;exact hg2)) (by
  rintro b (rfl | rfl)
  ·exact ⟨by simp;omega,fun e=>by have:=H1.out.drv.lt _ e;omega⟩
  ·exact ⟨by simp,fun e=>by have:=H2.out.drv.lt _ e;omega⟩) (by rw [HSN.out];simp))
 rw [HP.out] at HPU
 refine HPU.out.mono ?_
 rintro e w3 ⟨rfl,hdd⟩
 obtain ⟨O3,h3,hc3,hf3⟩:=(H2.out.below hbx).did hdd
 have H3:=Lib.hid h3
 have hz1:=HB2.out.size
 have hz2:w2.heap.size≤(w2.alloc (.cells #[.int .i64 1,.slice (some ⟨g,0,none⟩) 128 cap] 109)).heap.size:=by simp
 have HF3:Hid (∀ b∈O3,b∈O1∨w1.heap.size≤b):=fun b hb=>by
  rcases hf3 b hb with g | g
  ·exact .inl g
  ·right;omega
 have HC3:Hid (Chg O w w3):=by
  have e1:Chg O1 w1 w3:=(Chg.of_below (HB2.out.trans (hbx.mono hz1))).tr hc3
  exact HC1.out.trans e1 HF1.out
 have HF4:Hid (∀ b∈O3,b∈O∨w.heap.size≤b):=fun b hb=>by
  rcases HF3.out b hb with g | g
  ·exact HF1.out b g
  ·right;have:=HC1.out.size;omega
 clear HPU hdd h3 hc3 hf3 hbx hz1 hz2 HF3
 by_cases he:e1=0
 ·subst he
  show _
  go_wp2_with fail
  refine (flush_any H3.out.drv).mono ?_
  rintro e w4 ⟨rfl,hdd⟩
  obtain ⟨O4,h4,hc4,hf4⟩:=H3.out.did hdd
  have HH4:Hid (∃ O',Sit w0 w4 d O' N s1.flush.2∧Chg O w w4∧∀ b∈O',b∈O∨w.heap.size≤b):=⟨O4,h4,HC3.out.trans hc4 HF4.out,fun b hb=>by
   rcases hf4 b hb with g | g
   ·exact HF4.out b g
   ·right;have:=HC3.out.size;omega⟩
  clear hdd h4 hc4 hf4
  go_wp2_with fail
  first | exact HQ0.out rfl _ _ ⟨rfl,HH4.out⟩ | exact HQ0.out trivial _ _ ⟨rfl,HH4.out⟩
 ·have hne:(e1 != 0)=true:=by rw [bne_iff_ne];exact he
  show _
  go_wp2_with fail
  exact HQ1.out he _ _ ⟨rfl,O3,H3.out,HC3.out,HF4.out⟩
theorem emptyLog_new (h:Sit w0 w d O N (newS N)) (hN:64≤N):Calls Tryz.prog 47 #[.pointer (some ⟨d,0,none⟩)] w (OnQ w0 w d O N (X0 N)):=by
 refine emptyLog_gen h hN ⟨false,0,rfl⟩ (beg_put hN) _ (fun _ e w' hh=>?_) (fun hn=>absurd rfl hn)
 rw [beg_flush] at hh
 obtain ⟨rfl,O',hS,hc,hf⟩:=hh
 exact ⟨rfl,O',begS N,⟨hS,beg_on hN,X0_len N,rfl⟩,hc,hf⟩
set_option maxHeartbeats 1000000 in
theorem make_new (h:Sit w0 w d O N (newS N)) (hN:64≤N):Calls Tryz.prog 20 #[.pointer (some ⟨d,0,none⟩)] w (OnQ w0 w d O N (X1 N)):=by
 have H:=Lib.hid h
 have HN:=Lib.hid hN
 clear h hN
 go_enter Tryz.func20,Tryz.ntmps20
 go_wp2_with fail
 refine (emptyLog_new H.out HN.out).mono ?_
 rintro e w1 ⟨rfl,O1,s1,h1,hc1,hf1⟩
 have H1:=Lib.hid h1
 have HC1:=Lib.hid hc1
 have HF1:=Lib.hid hf1
 clear h1 hc1 hf1
 go_wp2_with fail
 refine (on_any d w1).mono ?_
 rintro e w2 ⟨rfl,hst,hmp,hb⟩
 have HS:Hid (Sto w0 w2 (w1.heap.size+1) d O1 N s1 (X0 N) w1.heap.size []) :=
  ⟨H1.out.below hb,hst,hmp,MOk.nil N,fun e=>by have:=H1.out.sit.drv.lt _ e;omega,fun e=>by have:=H1.out.sit.drv.lt _ e;omega,by have:=H1.out.sit.bel.size;omega,H1.out.sit.bel.size⟩
 have HB:=Lib.hid hb
 have hsz:=hb.size
 clear hst hmp hb
 generalize hq:w1.heap.size=q1 at *
 generalize hp:q1+1=p1 at *
 go_wp2_with fail
 refine (fill_yes HS.out).mono ?_
 rintro e w3 ⟨rfl,hs3,hc3⟩
 have HS3:=Lib.hid hs3
 have HC3:=Lib.hid hc3
 clear hs3 hc3
 go_wp2_with fail
 refine (commit_yes HS3.out).mono ?_
 rintro e w4 ⟨rfl,O4,s4,hs4,hc4,hf4⟩
 have HS4:=Lib.hid hs4
 have HE:Hid (Chg O w w4∧∀ b∈O4,b∈O∨w.heap.size≤b):=by
  have hz:=HC1.out.size
  have z3:=HC3.out.size
  have a1:Chg O w w2:=HC1.out.trans (Chg.of_below (by rw [hq];exact HB.out) (O:=O)) fun b hb=>.inl hb
  have a2:Chg O w w3:=a1.trans HC3.out fun b hb=>by simp at hb;right;omega
  refine ⟨a2.trans hc4 fun b hb=>?_,fun b hb=>?_⟩
  ·rcases List.mem_cons.1 hb with rfl | hb
   ·right;omega
   ·exact HF1.out b hb
  ·rcases hf4 b hb with g | g
   ·exact HF1.out b g
   ·right;omega
 clear hs4 hc4 hf4
 go_wp2_with fail
 go_ret
 exact ⟨rfl,O4,s4,HS4.out.ons,HE.out.1,HE.out.2⟩
def Mou (w0 w:World) (d:Nat) (O:List Nat) (N:Nat) (s:DS) (X:Secs2) (er:Int) (e:Ending) (w':World):Prop:=e=.returned (.tuple #[.pointer none,.int .i64 er])∧∃ O',Ons w0 w' d O' N s X∧Chg O w w'∧∀ b∈O',b∈O∨w.heap.size≤b
def MouOk (w0 w:World) (d:Nat) (O:List Nat) (N:Nat) (X:Secs2) (b c:Nat) (e:Ending) (w':World):Prop:=∃ p q O' s',e=.returned (.tuple #[.pointer (some ⟨p,0,none⟩),.int .i64 0])∧Sto w0 w' p d O' N s' (lay X (toW [(0,U.sec N (b+1) c)])) q []∧w.heap.size≤p∧w.heap.size≤q∧Chg O w w'∧∀ b∈O',b∈O∨w.heap.size≤b
set_option maxHeartbeats 4000000 in
theorem mount_walk (h:Ons w0 w d O N s X) {a b c:Nat} {r:Bool} (hsup:∀ w1 p q O1,Sto w0 w1 p d O1 N s X q []→Calls Tryz.prog 51 #[.pointer (some ⟨p,0,none⟩)] w1 fun e w'=>e=.returned (.agg #[.int .i64 a,.int .i64 b,.int .i64 c])∧Below w1.heap.size w1 w')
  (hseat:∀ w1 p q O1,Sto w0 w1 p d O1 N s X q []→Calls Tryz.prog 53 #[.pointer (some ⟨p,0,none⟩)] w1 fun e w'=>e=.returned (.bool r)∧Below w1.heap.size w1 w')
  (hk:a=N→r=true→b≠1073741824→U.ok N ((b+1:Nat):Int) c=true) (hb30:b≤4294967296) (Q:Ending→World→Prop)
  (q1:a≠N→∀ e w',Mou w0 w d O N s X 2 e w'→Q e w') (q2:a=N→r=false→∀ e w',Mou w0 w d O N s X 2 e w'→Q e w')
  (q3:a=N→r=true→b=1073741824→∀ e w',Mou w0 w d O N s X 9 e w'→Q e w') (q4:a=N→r=true→b≠1073741824→∀ e w',MouOk w0 w d O N X b c e w'→Q e w') :
  Calls Tryz.prog 21 #[.pointer (some ⟨d,0,none⟩)] w Q:=by
 have H:=Lib.hid h
 have HSU:=Lib.hid hsup
 have HSE:=Lib.hid hseat
 have HK:=Lib.hid hk
 have Q1:=Lib.hid q1
 have Q2:=Lib.hid q2
 have Q3:=Lib.hid q3
 have Q4:=Lib.hid q4
 clear h hsup hseat hk q1 q2 q3 q4
 go_enter Tryz.func21,Tryz.ntmps21
 go_wp2_with fail
 have HRE:=Lib.hid (recover_any H.out.sit.drv (fun _=>by rw [H.out.on.since];simp))
 rw [H.out.on.recover H.out.n64] at HRE
 refine HRE.out.mono ?_
 rintro e w1 ⟨rfl,hd⟩
 obtain ⟨O1,h1,hc1,hf1⟩:=H.out.sit.did hd
 have H1:Hid (Ons w0 w1 d O1 N s X):=⟨h1,H.out.on,H.out.len,H.out.free⟩
 have HC1:=Lib.hid hc1
 have HF1:=Lib.hid hf1
 clear HRE hd h1 hc1 hf1
 show _
 go_wp2_with fail
 refine (on_any d w1).mono ?_
 rintro e w2 ⟨rfl,hst,hmp,hb⟩
 have HS:Hid (Sto w0 w2 (w1.heap.size+1) d O1 N s X w1.heap.size []) :=
  ⟨H1.out.below hb,hst,hmp,MOk.nil N,fun e=>by have:=H1.out.sit.drv.lt _ e;omega,fun e=>by have:=H1.out.sit.drv.lt _ e;omega,by have:=H1.out.sit.bel.size;omega,H1.out.sit.bel.size⟩
 have HC2:Hid (Chg O w w2):=HC1.out.trans (Chg.of_below hb (O:=O)) fun b hb=>.inl hb
 have hz1:=HC1.out.size
 clear hst hmp hb
 generalize hq:w1.heap.size=q1 at *
 generalize hp:q1+1=p1 at *
 have hp1:w.heap.size≤p1:=by omega
 clear hq hp
 go_wp2_with fail
 refine (HSU.out w2 p1 q1 O1 HS.out).mono ?_
 rintro e w3 ⟨rfl,hb3⟩
 obtain ⟨a0,a1,a2⟩:=D.box1 w3 (Obj.cells #[.int .i64 (a:Int),.int .i64 (b:Int),.int .i64 (c:Int)] 101)
 have A0:=Lib.hid a0
 have hb4:=hb3.trans (a1.mono hb3.size)
 have HS4:=Lib.hid (HS.out.below hb4)
 have HC4:Hid (Chg O w (w3.alloc (Obj.cells #[.int .i64 (a:Int),.int .i64 (b:Int),.int .i64 (c:Int)] 101))):=HC2.out.trans (Chg.of_below hb4 (O:=O)) fun b hb=>.inl hb
 have hz3:w.heap.size≤w3.heap.size:=Nat.le_trans HC2.out.size hb3.size
 have hpG:p1<w3.heap.size:=Nat.lt_of_lt_of_le HS.out.st.lt hb3.size
 have hqG:q1<w3.heap.size:=Nat.lt_of_lt_of_le HS.out.map.lt hb3.size
 have HOG:Hid (∀ b∈O1,b<w3.heap.size):=fun b hb=>Nat.lt_of_lt_of_le (HS.out.ons.sit.drv.lt b hb) hb3.size
 have hw0:w0.heap.size≤w3.heap.size:=Nat.le_trans H.out.sit.bel.size hz3
 clear hb3 hb4 a0 a1 HS
 go_upto_region 6 with (first | (refine wpList_store_new rfl 101 _ _ rfl w3 #[.int .i64 0,.int .i64 0,.int .i64 0] #[.int .i64 (a:Int),.int .i64 (b:Int),.int .i64 (c:Int)] rfl rfl s42 rfl (oc3 _ _ _) ?_) | fail)
 have hg4:w3.heap.size<(w3.alloc (Obj.cells #[.int .i64 (a:Int),.int .i64 (b:Int),.int .i64 (c:Int)] 101)).heap.size:=by rw [a2];omega
 clear a2
 generalize w3.alloc (Obj.cells #[.int .i64 (a:Int),.int .i64 (b:Int),.int .i64 (c:Int)] 101)=W at *
 generalize w3.heap.size=G at *
 have hc0:W.cell? ⟨G,0,none⟩=some (.int .i64 (a:Int)):=cell_of_row _ _ 0 _ _ _ A0.out
 have HSC:Hid (∀ V,Below W.heap.size W V→V.cell? ⟨G,0,none⟩=some (.int .i64 (a:Int))):=fun V hb=>by rw [hb.cell (p:=⟨G,0,none⟩) hg4];exact hc0
 have HSEC:Hid (∀ V,Below W.heap.size W V→Calls Tryz.prog 52 #[.pointer (some ⟨d,0,none⟩)] V fun e w'=>e=.returned (.int .i64 N)∧V=w'):=fun V hb=>sectorsD (HS4.out.below hb).ons.sit.drv
 have HSEA:Hid (∀ V,Below W.heap.size W V→Calls Tryz.prog 53 #[.pointer (some ⟨p1,0,none⟩)] V fun e w'=>e=.returned (.bool r)∧Below V.heap.size V w'):=fun V hb=>HSE.out V p1 q1 O1 (HS4.out.below hb)
 have HMOU:Hid (∀ V er,Below W.heap.size W V→Mou w0 w d O N s X er (.returned (.tuple #[.pointer none,.int .i64 er])) V):=fun V er hb =>
  ⟨rfl,O1,(HS4.out.below hb).ons,HC4.out.trans (Chg.of_below hb (O:=O)) fun b hb=>.inl hb,HF1.out⟩
 by_cases ha:a=N
 ·have hne:((a:Int) != (N:Int))=false:=by rw [bne_eq_false_iff_eq];omega
  have HB0:Hid (Below W.heap.size W W.drew):=(Below.refl _ _).drew
  go_region_held3 (fun V=>V.cell? ⟨G,0,none⟩=some (.int .i64 (a:Int))) (first | with_reducible exact HSC.out _ HB0.out | with_reducible exact HSC.out _ HB1.out)
   ((first
    | (go_at_call 52;(with_reducible refine (HSEC.out _ HB0.out).mono ?_);rintro e w' ⟨rfl,rfl⟩)
    | (go_at_call 52;(with_reducible refine (HSEC.out _ HB1.out).mono ?_);rintro e w' ⟨rfl,rfl⟩)
    | (go_at_call 53;(with_reducible refine (HSEA.out _ HB0.out).mono ?_);rintro e V ⟨rfl,hb⟩;have HB1:Hid (Below W.heap.size W V):=HB0.out.trans hb;clear hb)))
  have HMO2:=Lib.hid (fun er=>HMOU.out _ er HB1.out)
  have HB2:=Lib.hid HB1.out
  subst ha
  cases r with
  | false =>
   go_wp2_with fail
   first | exact Q2.out rfl rfl _ _ (HMO2.out 2) | exact Q2.out trivial rfl _ _ (HMO2.out 2) | exact Q2.out trivial trivial _ _ (HMO2.out 2) | exact Q2.out _ _ (HMO2.out 2)
  | true =>
   have A1:=Lib.hid ((HB2.out.block G hg4).trans A0.out)
   have HSV:=Lib.hid (HS4.out.below HB2.out)
   have HCV:Hid (Chg O w V):=HC4.out.trans (Chg.of_below HB2.out (O:=O)) fun b hb=>.inl hb
   have hgV:G<V.heap.size:=Nat.lt_of_lt_of_le hg4 HB2.out.size
   clear HSC HSEC HSEA HMOU HB1 HS4 HC4 A0 hc0
   have hc1:V.cell? ⟨G,1,none⟩=some (.int .i64 (b:Int)):=cell_of_row _ _ 1 _ _ _ A1.out
   by_cases hb:b=1073741824
   ·have hbe:((b:Int) == 1073741824)=true:=by rw [beq_iff_eq];omega
    go_wp2_with fail
    first | exact Q3.out rfl rfl hb _ _ (HMO2.out 9) | exact Q3.out trivial trivial hb _ _ (HMO2.out 9) | exact Q3.out hb _ _ (HMO2.out 9)
   ·have hbe:((b:Int) == 1073741824)=false:=by rw [beq_eq_false_iff_ne];omega
    have f1:=F.free_in A1.out 1
    have HOK:Hid (U.ok a ((b+1:Nat):Int) c=true):=by first | exact HK.out rfl rfl hb | exact HK.out trivial trivial hb | exact HK.out hb
    obtain ⟨b1,hb1⟩:∃ b1,b+1=b1:=⟨_,rfl⟩
    have hw1:IntKind.i64.wrap ((b:Int)+1)=(b1:Int):=by rw [IntKind.wrap_i64];omega
    rw [hb1] at HOK
    have HBB:=Lib.hid hb
    have H1B:=Lib.hid hb1
    clear hb hb1 hb30
    go_upto_region 11 with fail
    have A2:Hid ((V.setCell ⟨G,1,none⟩ (.int .i64 (b1:Int))).heap[G]?=some (.cells #[.int .i64 (a:Int),.int .i64 (b1:Int),.int .i64 (c:Int)] 101 (0,0))):=F.heap_set A1.out 1 _
    have HCW:Hid (Chg O w (V.setCell ⟨G,1,none⟩ (.int .i64 (b1:Int)))):=HCV.out.setCell (.inr hz3) _
    have HSW:Hid (Sto w0 (V.setCell ⟨G,1,none⟩ (.int .i64 (b1:Int))) p1 d O1 a s X q1 []):=HSV.out.keep_ (fun x hx=>Below.heap_setCell _ _ _ _ (by
     show x≠G
     rcases hx with hx | rfl | rfl
     ·have:=HOG.out x hx;omega
     ·omega
     ·omega)) ((Below.refl _ V).setCell (p:=⟨G,1,none⟩) hw0 _)
    clear hc1 f1 hw1 A1 HSV HCV hgV HMO2
    generalize V.setCell ⟨G,1,none⟩ (.int .i64 (b1:Int))=V1 at *
    go_wp2_with (first | (refine D.wpList_load_row rfl 101 _ rfl G rfl _ _ _ A2.out _ Tryz.underlying101 rfl s42 ?_) | fail)
    refine (setSuper_yes HSW.out a b1 c HOK.out (by right;simp)).mono ?_
    rintro e w5 ⟨rfl,hs5,hc5⟩
    have HS5:Hid (Sto w0 w5 p1 d O1 a s X q1 [(0,U.sec a b1 c)]):=hs5
    have HC5:Hid (Chg O w w5):=HCW.out.trans hc5 fun x hx=>by simp at hx;right;omega
    clear hs5 hc5
    go_wp2_with fail
    refine (commit_yes HS5.out).mono ?_
    rintro e w6 ⟨rfl,O6,s6,hs6,hc6,hf6⟩
    have hz5:=HC5.out.size
    have HFIN:Hid (MouOk w0 w d O a X b c (.returned (.tuple #[.pointer (some ⟨p1,0,none⟩),.int .i64 0])) w6):=by
     refine ⟨p1,q1,O6,s6,rfl,by rw [H1B.out];exact hs6,hp1,hz1,HC5.out.trans hc6 fun x hx=>?_,fun x hx=>?_⟩
     ·rcases List.mem_cons.1 hx with rfl | hx
      ·right;exact hz1
      ·exact HF1.out x hx
     ·rcases hf6 x hx with g | g
      ·exact HF1.out x g
      ·right;omega
    clear hs6 hc6 hf6
    go_wp2_with fail
    first | exact Q4.out rfl rfl HBB.out _ _ HFIN.out | exact Q4.out trivial trivial HBB.out _ _ HFIN.out | exact Q4.out HBB.out _ _ HFIN.out
 ·have hne:((a:Int) != (N:Int))=true:=by rw [bne_iff_ne];omega
  have HB0:Hid (Below W.heap.size W W.drew):=(Below.refl _ _).drew
  have hne2:((a:Int) == (N:Int))=false:=by rw [beq_eq_false_iff_ne];omega
  have HBN:Hid (∀ n,Below W.heap.size W (W.drewN n)):=fun n=>U.below_drewN (Below.refl _ _) n
  have HSEQ:Hid (∀ n,Calls Tryz.prog 52 #[.pointer (some ⟨d,0,none⟩)] (W.drewN n) fun e w'=>e=.returned (.int .i64 N)∧∃ m,w'=W.drewN m):=fun n=>by
   refine (HSEC.out _ (HBN.out n)).mono ?_
   rintro e w' ⟨rfl,rfl⟩
   exact ⟨rfl,n,rfl⟩
  go_quiet (first | (go_at_call 52;exact HSEQ.out _))
  go_wp2_with fail
  exact Q1.out ha _ _ (HMOU.out _ _ (HBN.out _))
end
end Go.Proofs.YtkganhafbjgndaaGreatRR
namespace Go.Proofs.YtkganhafbjgndaaGreatRR
open Go.RowKit
set_option linter.unusedVariables false
set_option maxRecDepth 20000
section
variable {w0 w:World} {d N:Nat} {O:List Nat} {s:DS}
theorem get_nil' (n:Int) (w:World):Calls Tryz.prog 55 #[.pointer none,.int .i64 n] w fun e w'=>e=.returned (.tuple #[.slice none 0 0,.int .i64 1])∧w=w':=by
 go_enter Tryz.func55,Tryz.ntmps55
 go_wp2_with fail
 refine (barred_nil w).mono ?_
 rintro e w1 ⟨rfl,rfl⟩
 go_wp2_with fail
 go_ret2
 exact ⟨rfl,rfl⟩
end
end Go.Proofs.YtkganhafbjgndaaGreatRR
namespace Go.Proofs.YtkganhafbjgndaaGreatRR
set_option linter.unusedVariables false
set_option maxRecDepth 20000
theorem bt_zeros (n:Nat):K.bt zeros n=false:=by
 unfold K.bt
 have:zeros[n / 8]?.getD 0=0:=by
  unfold zeros
  rw [List.getElem?_replicate]
  split<;>rfl
 rw [this]
 simp
theorem bt_markL {k:Nat} (hk:k≤1024) (n:Nat):K.bt (markL k) n=decide (n<k):=by
 induction k with
 | zero=>rw [markL,bt_zeros];simp
 | succ k ih =>
  rw [markL,K.bt_setb true (by rw [markL_len];omega),ih (by omega)]
  by_cases h:n=k
  ·subst h;simp
  ·rw [if_neg h]
   congr 1
   rw [eq_iff_iff]
   omega
theorem lay_getD {N:Nat} {X:Secs2} {m:List Wr} (hX:X.length=N) (hm:MOk N m) {n:Nat} (hn:n<N):(lay X (toW m))[n]?.getD []=view X m n:=by
 rw [lay_view hX hm.rise (fun p hp=>⟨(okn_iff.1 (hm.all p hp).1).1,(hm.all p hp).2.1⟩) n hn]
 rfl
structure Std (N:Nat) (X:Secs2) (ep g:Nat) (ns mk:List UInt8):Prop where
 sup:X[0]?.getD []=U.sec N ep g
 seat:∀ i,i<8→X[26+i]?.getD []=seat0
 mark:X[34]?.getD []=mk
 nd:X[35]?.getD []=ns
 zero:∀ n,43≤n→n<N→X[n]?.getD []=zeros
def root0:List UInt8:=D.put zeros 1 rootN.img
theorem view_ins' (X:Secs2) (m:List Wr) (k:Nat) (x:List UInt8) (n:Nat):view X (ins (k:Int) x m) n=if k=n then x else view X m n:=view_ins X m k x n
theorem view_seats (N:Nat) (X:Secs2):∀ k n,view X (seatsM N k) n=if n=0 then U.sec N 0 0 else if 26≤n∧n<26+k then seat0 else X[n]?.getD []:=by
 intro k
 induction k with
 | zero =>
  intro n
  rw [seatsM,show (0:Int)=((0:Nat):Int) from rfl,view_ins',view_nil]
  by_cases h:n=0
  ·simp [h]
  ·rw [if_neg (by omega),if_neg h,if_neg (by omega)]
 | succ k ih =>
  intro n
  rw [seatsM,view_ins',ih]
  by_cases h:26+k=n
  ·rw [if_pos h,if_neg (by omega),if_pos (by omega)]
  ·rw [if_neg h]
   by_cases h0:n=0
   ·simp [h0]
   ·rw [if_neg h0,if_neg h0]
    by_cases h1:26≤n∧n<26+k
    ·rw [if_pos h1,if_pos (by omega)]
    ·rw [if_neg h1,if_neg (by omega)]
theorem view_nodes (N:Nat) (X:Secs2):∀ k n,view X (nodesM N k) n=if n=0 then U.sec N 0 0 else if 26≤n∧n<34 then seat0 else if n=34 then markL 43 else if 35≤n∧n<35+k then zeros else X[n]?.getD []:=by
 intro k
 induction k with
 | zero =>
  intro n
  rw [nodesM,show (34:Int)=((34:Nat):Int) from rfl,view_ins',view_seats]
  by_cases h:34=n
  ·subst h;simp
  ·rw [if_neg h]
   by_cases h0:n=0
   ·simp [h0]
   ·rw [if_neg h0,if_neg h0,if_neg (show ¬ n=34 by omega),if_neg (show ¬ (35≤n∧n<35+0) by omega)]
 | succ k ih =>
  intro n
  rw [nodesM,view_ins',ih]
  by_cases h:35+k=n
  ·rw [if_pos h,if_neg (by omega),if_neg (by omega),if_neg (by omega),if_pos (by omega)]
  ·rw [if_neg h]
   by_cases h1:35≤n∧n<35+k
   ·rw [if_pos h1,if_pos (show 35≤n∧n<35+(k+1) by omega)]
   ·rw [if_neg h1,if_neg (show ¬ (35≤n∧n<35+(k+1)) by omega)]
theorem view_fill (N:Nat) (X:Secs2) (n:Nat):view X (fillM N X) n=if n=0 then U.sec N 0 0 else if 26≤n∧n<34 then seat0 else if n=34 then markL 43 else if n=35 then root0 else if 36≤n∧n<43 then zeros else X[n]?.getD []:=by
 have hr:rootS N X=root0:=by
  unfold rootS putN root0
  rw [show 35+1 / 4=35 from rfl,view_nodes]
  rfl
 rw [fillM,hr,show (35:Int)=((35:Nat):Int) from rfl,view_ins',view_nodes]
 by_cases h:35=n
 ·subst h;simp
 ·rw [if_neg h,if_neg (show ¬ n=35 by omega)]
  by_cases h1:36≤n∧n<43
  ·rw [if_pos h1,if_pos (show 35≤n∧n<35+8 by omega)]
  ·rw [if_neg h1,if_neg (show ¬ (35≤n∧n<35+8) by omega)]
theorem MOk.fill {N:Nat} (hN:64≤N) (hN1:N≤1024):MOk N (fillM N (X0 N)):=by
 have h0:MOk N (seatsM N 0):=(MOk.nil N).ins (okn_of hN1 (n:=0) (by omega) (by unfold inLog;omega)) (by omega) (lt_sec (U.ok_iff.2 (by omega))) (by right;simp)
 have hs:∀ k,k≤8→MOk N (seatsM N k):=by
  intro k
  induction k with
  | zero=>intro _;exact h0
  | succ k ih=>intro hk;exact (ih (by omega)).ins (okn_of hN1 (n:=26+k) (by omega) (by unfold inLog;omega)) (by omega) seat0_len (by right;have:=seatsM_len N k;omega)
 have hn:∀ k,k≤8→MOk N (nodesM N k):=by
  intro k
  induction k with
  | zero=>intro _;exact (hs 8 (by omega)).ins (okn_of hN1 (n:=34) (by omega) (by unfold inLog;omega)) (by omega) (markL_len 43) (by right;have:=seatsM_len N 8;omega)
  | succ k ih=>intro hk;exact (ih (by omega)).ins (okn_of hN1 (n:=35+k) (by omega) (by unfold inLog;omega)) (by omega) zeros_len (by right;have:=nodesM_len N k;omega)
 refine (hn 8 (by omega)).ins (okn_of hN1 (n:=35) (by omega) (by unfold inLog;omega)) (by omega) ?_ (by right;have:=nodesM_len N 8;omega)
 unfold rootS putN
 refine D.put_len ?_ (by omega) rootN.img_len
 rw [show 35+1 / 4=35 from rfl,view_nodes]
 simp
 exact zeros_len
theorem X0_zero {N n:Nat} (h:n<N) (h1:n≠1):(X0 N)[n]?.getD []=zeros:=by
 unfold X0
 rw [List.getElem?_set_ne (by omega),List.getElem?_replicate,if_pos h]
 rfl
theorem Std.made {N:Nat} (hN:64≤N) (hN1:N≤1024):Std N (X1 N) 0 0 root0 (markL 43):=by
 have hg:∀ n,n<N→(X1 N)[n]?.getD []=view (X0 N) (fillM N (X0 N)) n:=fun n hn=>lay_getD (X0_len N) (MOk.fill hN hN1) hn
 refine ⟨?_,fun i hi=>?_,?_,?_,fun n h1 h2=>?_⟩
 ·rw [hg 0 (by omega),view_fill];rfl
 ·rw [hg _ (by omega),view_fill,if_neg (by omega),if_pos (by omega)]
 ·rw [hg 34 (by omega),view_fill];rfl
 ·rw [hg 35 (by omega),view_fill];rfl
 ·rw [hg n h2,view_fill,if_neg (by omega),if_neg (by omega),if_neg (by omega),if_neg (by omega),if_neg (by omega),X0_zero h2 (by omega)]
theorem Std.commit {N:Nat} {X:Secs2} {ep g ep' g':Nat} {ns mk ns' mk':List UInt8} (h:Std N X ep g ns mk) (hX:X.length=N) (hN:64≤N) {m:List Wr} (hm:MOk N m)
  (h0:view X m 0=U.sec N ep' g') (h1:∀ i,i<8→find m ((26+i:Nat):Int)=none) (h2:view X m 34=mk') (h3:view X m 35=ns') (h4:∀ n,43≤n→n<N→view X m n=zeros):Std N (lay X (toW m)) ep' g' ns' mk':=by
 refine ⟨?_,fun i hi=>?_,?_,?_,fun n g1 g2=>?_⟩
 ·rw [lay_getD hX hm (by omega),h0]
 ·rw [lay_getD hX hm (by omega)]
  unfold view
  rw [h1 i hi]
  exact h.seat i hi
 ·rw [lay_getD hX hm (by omega),h2]
 ·rw [lay_getD hX hm (by omega),h3]
 ·rw [lay_getD hX hm (by omega),h4 n g1 g2]
theorem MOk.one {N:Nat} (hN:64≤N) (hN1:N≤1024) {a b c:Nat} (ho:U.ok a b c=true):MOk N [(0,U.sec a b c)] :=
 (MOk.nil N).ins (okn_of hN1 (n:=0) (by omega) (by unfold inLog;omega)) (by omega) (lt_sec ho) (by right;simp)
theorem Std.mount {N:Nat} {X:Secs2} {ep g:Nat} {ns mk:List UInt8} (h:Std N X ep g ns mk) (hX:X.length=N) (hN:64≤N) (hN1:N≤1024) (ho:U.ok N ((ep+1:Nat):Int) g=true):Std N (lay X (toW [(0,U.sec N (ep+1) g)])) (ep+1) g ns mk:=by
 have hf:∀ n:Nat,0<n→find [((0:Int),U.sec N (ep+1) g)] n=none:=fun n hn=>by
  rw [find_none_iff]
  intro p hp
  simp at hp
  subst hp
  simp
  omega
 have hv:∀ n:Nat,0<n→view X [((0:Int),U.sec N (ep+1) g)] n=X[n]?.getD []:=fun n hn=>by unfold view;rw [hf n hn];rfl
 refine h.commit hX hN (MOk.one hN hN1 ho) rfl (fun i _=>hf _ (by omega)) ?_ ?_ fun n g1 g2=>?_
 ·rw [hv 34 (by omega)];exact h.mark
 ·rw [hv 35 (by omega)];exact h.nd
 ·rw [hv n (by omega)];exact h.zero n g1 g2
theorem root_piece1:D.piece root0 1=rootN.img:=D.piece_put zeros_len (by omega) rootN.img_len
theorem zeroN_ok:D.zeroN.up.ok=true:=by decide
end Go.Proofs.YtkganhafbjgndaaGreatRR
namespace Go.Proofs.YtkganhafbjgndaaGreatRR
open Go.RowKit
set_option linter.unusedVariables false
set_option maxRecDepth 20000
section
variable {w0 w:World} {p d N q:Nat} {O:List Nat} {s:DS} {X:Secs2} {m:List Wr} {ep g:Nat} {ns mk:List UInt8}
def OnR (w0 w:World) (d:Nat) (O:List Nat) (N:Nat) (X:Secs2) (w':World):Prop:=∃ O' s',Ons w0 w' d O' N s' X∧Chg O w w'∧∀ b∈O',b∈O∨w.heap.size≤b
theorem std_sup (h:Sto w0 w p d O N s X q []) (hs:Std N X ep g ns mk) (hok:U.ok N ep g=true) :
  Calls Tryz.prog 51 #[.pointer (some ⟨p,0,none⟩)] w fun e w'=>e=.returned (.agg #[.int .i64 N,.int .i64 ep,.int .i64 g])∧Below w.heap.size w w':=by
 have hv:view X [] 0=U.sec N ep g:=hs.sup
 have ho:=U.ok_iff.1 hok
 have:=super_yes h (by rw [hv];exact U.isSec_sec hok)
 rw [hv,U.num_sec0 N ep g (by omega),U.num_sec1 N ep g (by omega),U.num_sec2 N ep g (by omega)] at this
 exact this
theorem mount_std (h:Ons w0 w d O N s X) (hs:Std N X ep g ns mk) (hok:U.ok N ep g=true) (hep:ep<1073741824):Calls Tryz.prog 21 #[.pointer (some ⟨d,0,none⟩)] w (MouOk w0 w d O N X ep g):=by
 have ho:=U.ok_iff.1 hok
 refine mount_walk h (a:=N) (b:=ep) (c:=g) (r:=true) (fun w1 p q O1 hS=>std_sup hS hs hok) (fun w1 p q O1 hS=>seated_any hS ⟨fun _ i hi=>?_,fun _=>rfl⟩) (fun _ _ _=>U.ok_iff.2 (by omega)) (by omega) _ (fun hn=>absurd rfl hn) (fun _ hr=>by cases hr) (fun _ _ hb=>by omega) (fun _ _ _ e w' hh=>hh)
 rw [show view X [] (26+i)=seat0 from hs.seat i hi]
 exact seat0_is
def Xb (N:Nat):Secs2:=lay (X1 N) (toW [(0,U.sec N 1 0)])
theorem Xb_std (hN:64≤N) (hN1:N≤1024):Std N (Xb N) 1 0 root0 (markL 43):=(Std.made hN hN1).mount (X1_len N) hN hN1 (U.ok_iff.2 (by omega))
def BegQ (N:Nat) (w:World) (e:Ending) (w':World):Prop:=∃ d p q O s,e=.returned (.pointer (some ⟨p,0,none⟩))∧Sto w w' p d O N s (Xb N) q []
set_option maxHeartbeats 1000000 in
theorem begin_any (N:Nat) (w:World) (h0:64≤N) (h1:N≤1024):Calls Tryz.prog 6 #[.int .i64 N] w (BegQ N w):=by
 have HN0:=Lib.hid h0
 have HN1:=Lib.hid h1
 clear h0 h1
 go_enter Tryz.func6,Tryz.ntmps6
 go_wp2_with fail
 refine (new_any N w HN0.out HN1.out).mono ?_
 rintro e w1 ⟨d,O,rfl,hd1,hf1,hb1⟩
 have HS:Hid (Sit w w1 d O N (newS N)):=⟨hd1,hf1,hb1⟩
 clear hd1 hf1 hb1
 go_wp2_with fail
 refine (make_new HS.out HN0.out).mono ?_
 rintro e w2 ⟨rfl,O2,s2,h2,_,_⟩
 have H2:=Lib.hid h2
 clear h2
 go_wp2_with fail
 refine (mount_std H2.out (Std.made HN0.out HN1.out) (U.ok_iff.2 (by have:=HN0.out;have:=HN1.out;omega)) (by omega)).mono ?_
 rintro e w3 ⟨p,q,O3,s3,rfl,h3,_,_,_,_⟩
 have H3:=Lib.hid h3
 clear h3
 go_wp2_with fail
 go_ret
 exact ⟨d,p,q,O3,s3,rfl,H3.out⟩
def m1 (N ep g k:Nat):List Wr:=insAll [(0,U.sec N ep (g+1)),(35,D.put root0 2 (nn k (g+1)).img)] []
def m2 (N ep g k:Nat):List Wr:=insAll [(34,markL 44),(43,zeros)] (m1 N ep g k)
theorem newk_le_len (m ws:List Wr):newk m ws≤ws.length:=by unfold newk;exact List.length_filter_le _ _
def ns2 (g k:Nat):List UInt8:=D.put root0 2 (nn k (g+1)).img
end
end Go.Proofs.YtkganhafbjgndaaGreatRR
