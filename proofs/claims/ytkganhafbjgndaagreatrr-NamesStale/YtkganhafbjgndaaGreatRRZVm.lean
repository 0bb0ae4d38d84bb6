/- What is refused; mathematics of the laws. -/
import Derived.Test.YtkganhafbjgndaaGreatRRZVSecs
import Derived.Test.YtkganhafbjgndaaGreatRRZSLaw
import Derived.Test.YtkganhafbjgndaaGreatRRZSCom
import Derived.Laws.DeepStrings4
import Derived.Test.YtkganhafbjgndaaGreatRRZArgs
import Derived.Deep.Slices
import Derived.Deep.Fields
namespace Go.Proofs.YtkganhafbjgndaaGreatRR.V
open Go.RowKit
set_option linter.unusedVariables false
set_option maxRecDepth 20000
section
variable {w0 w:World} {p d N q nn:Nat} {O:List Nat} {s:DS} {X:Secs2} {m:List Wr} {y:D.Nn}
theorem around_range (h:Sto w0 w p d O N s X q m) {n:Int} (hn:n<0∨31<n):Calls Tryz.prog 68 #[.pointer (some ⟨p,0,none⟩),.int .i64 n] w fun e w'=>e=.returned (.tuple #[.slice none 0 0,.int .i64 4])∧w=w':=by
 have H:=Lib.hid h
 clear h
 by_cases h0:n<0
 ·clear hn
  go_enter Tryz.func68,Tryz.ntmps68
  go_wp2_with fail
  refine (barred_ok H.out.st).mono ?_
  rintro e w1 ⟨rfl,rfl⟩
  go_wp2_with fail
  go_ret2
  exact ⟨rfl,rfl⟩
 ·have h1:32≤n:=by omega
  clear hn
  go_enter Tryz.func68,Tryz.ntmps68
  go_wp2_with fail
  refine (barred_ok H.out.st).mono ?_
  rintro e w1 ⟨rfl,rfl⟩
  go_wp2_with fail
  go_ret2
  exact ⟨rfl,rfl⟩
def ErrS (w:World) (er:Int) (e:Ending) (w':World):Prop:=e=.returned (.tuple #[.slice none 0 0,.int .i64 er])∧Below w.heap.size w w'
def Err1 (w:World) (er:Int) (e:Ending) (w':World):Prop:=e=.returned (.int .i64 er)∧Below w.heap.size w w'
variable {A:Option Addr} {n er:Int}
theorem read_end (ho:Calls Tryz.prog 41 #[.pointer A,.int .i64 n] w (OpenR w p nn y)) {a z:Int} (ha:(y.s:Int)≤a) (hz:0≤z∧z≤9728):Calls Tryz.prog 18 #[.pointer A,.int .i64 n,.int .i64 a,.int .i64 z] w (ErrS w 0):=by
 have HO:=Lib.hid ho
 have h1:¬ a<0:=by omega
 have h2:¬ z<0:=by omega
 have h3:¬ 9728<z:=by omega
 clear ho hz
 go_enter Tryz.func18,Tryz.ntmps18
 go_wp2_with fail
 refine HO.out.mono ?_
 rintro e w1 ⟨bf,rfl,hf,_,hb⟩
 have HB:=Lib.hid hb
 have c5:=hf.c5
 clear hb hf
 go_wp2_with fail
 go_ret2
 exact ⟨rfl,HB.out⟩
theorem read_none (ho:Calls Tryz.prog 41 #[.pointer A,.int .i64 n] w (OpenR w p nn y)) {a:Int} (ha:0≤a∧a<(y.s:Int)) (hy:y.s≤9728):Calls Tryz.prog 18 #[.pointer A,.int .i64 n,.int .i64 a,.int .i64 0] w (ErrS w 0):=by
 have HO:=Lib.hid ho
 have HA:=Lib.hid ha.1
 have h1:¬ a<0:=by omega
 have h2:¬ (y.s:Int)≤a:=by omega
 have hw1:IntKind.i64.wrap ((y.s:Int) - a)=(y.s:Int) - a:=by rw [IntKind.wrap_i64];omega
 have hmn:min (0:Int) ((y.s:Int) - a)=0:=by omega
 clear ho ha
 go_enter Tryz.func18,Tryz.ntmps18
 go_wp2_with fail
 refine HO.out.mono ?_
 rintro e w1 ⟨bf,rfl,hf,_,hb⟩
 have HB:=Lib.hid hb
 have c5:=hf.c5
 clear hb hf
 go_wp2_with fail
 refine (T.parts_nil a _ HA.out).mono ?_
 rintro e w2 ⟨rfl,rfl⟩
 go_wp2_with fail
 refine wp_loop_rounds 1 ?_
 rw [rounds_succ]
 go_wp2_with fail
 go_ret2
 exact ⟨rfl,HB.out⟩
end
end Go.Proofs.YtkganhafbjgndaaGreatRR.V
namespace Go.Proofs.YtkganhafbjgndaaGreatRR.V
open Go.RowKit
set_option linter.unusedVariables false
set_option maxRecDepth 20000
theorem count_len (l:List UInt8):∀ (k a:Nat),K.count l a k=((List.range' a k).filter fun n=>K.bt l n).length
 | 0,a=>rfl
 | k+1,a=>by
  rw [K.count,count_len l k (a+1),List.range'_succ,List.filter_cons]
  by_cases h:K.bt l a=true
  ·rw [if_pos h,if_pos h,List.length_cons];omega
  ·rw [if_neg h,if_neg h];omega
abbrev new1 (g:Nat):D.Nn:=nn 1 g
def nzn (f:Nat→Nat):Nat:=(nzi f).length
def GL (gs:List Nat):Nat→Prop:=fun n=>n∈gs
section
variable {w0 w:World} {p d N q bf nn:Nat} {O:List Nat} {s:DS} {X:Secs2} {m:List Wr} {gs:List Nat} {I:Img} {y:D.Nn} {f:Nat→Nat} {C:Nat→UInt8} {low:List Int} {Tx:List Nat}
theorem nzm_nodup (h:∀ i j,i<86→j<86→f i=f j→f i≠0→i=j):((nzi f).map f).Nodup:=by
 refine List.pairwise_map.2 (List.Pairwise.imp_of_mem (fun {a b} ha hb hne=>?_) (nzi_nodup f))
 intro e
 obtain ⟨h1,h2⟩:=mem_nzi.1 ha
 exact hne (h a b h1 (mem_nzi.1 hb).1 e h2)
theorem count_mid (h:Mid N (GL gs) I y f) (hg:gs.Nodup):K.count (I 34) 43 (N - 43)=nzn f+gs.length:=by
 have hn:((nzi f).map f++gs).Nodup:=by
  rw [List.nodup_append]
  refine ⟨nzm_nodup h.inj,hg,fun a ha b hb e=>?_⟩
  obtain ⟨i,hi,rfl⟩:=List.mem_map.1 ha
  exact h.oth i (mem_nzi.1 hi).1 (mem_nzi.1 hi).2 (by show f i∈gs;rw [e];exact hb)
 have hp:((List.range' 43 (N - 43)).filter fun n=>K.bt (I 34) n).Perm ((nzi f).map f++gs):=by
  refine perm_of ((List.nodup_range' (step:=1)).filter _) hn fun n=>?_
  rw [List.mem_filter,List.mem_range',List.mem_append,List.mem_map]
  constructor
  ·rintro ⟨⟨i,hi,rfl⟩,hb⟩
   rcases (h.mrk _ (by omega) (by omega)).1 hb with ⟨j,hj,e⟩ | hg
   ·exact .inl ⟨j,mem_nzi.2 ⟨hj,by omega⟩,e⟩
   ·exact .inr hg
  ·rintro (⟨j,hj,e⟩ | hg)
   ·have hj:=mem_nzi.1 hj
    have:=h.rng j hj.1
    exact ⟨⟨n - 43,by omega,by omega⟩,(h.mrk n (by omega) (by omega)).2 (.inl ⟨j,hj.1,e⟩)⟩
   ·have:=h.grng n hg
    exact ⟨⟨n - 43,by omega,by omega⟩,(h.mrk n this.1 this.2).2 (.inr hg)⟩
 rw [count_len,hp.length_eq,List.length_append,List.length_map]
 rfl
theorem nzn_le {f g:Nat→Nat} {T:List Nat} (h:∀ i,g i≠0→f i≠0∨i∈T):nzn g≤nzn f+T.length:=by
 have:=nodup_len (nzi_nodup g) (L:=nzi f++T) fun i hi=>by
  obtain ⟨h1,h2⟩:=mem_nzi.1 hi
  rcases h i h2 with a | a
  ·exact List.mem_append_left _ (mem_nzi.2 ⟨h1,a⟩)
  ·exact List.mem_append_right _ a
 rw [List.length_append] at this
 exact this
theorem nzn_lt {f g:Nat→Nat} (h:∀ i,g i≠0→f i≠0) {k:Nat} (hk:k<86) (h1:g k=0) (h2:f k≠0):nzn g<nzn f:=by
 have:=nodup_len (l:=k :: nzi g) (L:=nzi f) (List.nodup_cons.2 ⟨fun hm=>(mem_nzi.1 hm).2 h1,nzi_nodup g⟩) fun i hi=>by
  rcases List.mem_cons.1 hi with rfl | hi
  ·exact mem_nzi.2 ⟨hk,h2⟩
  ·exact mem_nzi.2 ⟨(mem_nzi.1 hi).1,h i (mem_nzi.1 hi).2⟩
 unfold nzn
 simp at this
 omega
theorem nzn_perm {f:Nat→Nat} {T:List Nat} (hT:T.Nodup) (h:∀ i,(i<86∧f i≠0) ↔ i∈T):nzn f=T.length :=
 (perm_of (nzi_nodup f) hT fun i=>by rw [mem_nzi];exact h i).length_eq
theorem nzn_zero:nzn (fun _=>0)=0:=nzn_perm (T:=[]) List.nodup_nil fun i=>by simp
theorem FNo.full {w':World} {a n:Nat} (h:FNo w0 w' p d N q bf nn O s X m (GL gs) f low Tx a n) (hg:gs.Nodup):∃ fk,Ext f fk∧(∀ i,fk i≠0→f i≠0∨∃ j,j<T.np a n∧i∈path (nb a j))∧(∃ j,j<T.np a n∧∃ i∈path (nb a j),fk i=0)∧N - 43=nzn fk+gs.length:=by
 obtain ⟨fk,mk,yk,Ck,ho,hf,h1,h2,h3⟩:=h
 refine ⟨fk,h1,h2,h3,?_⟩
 rw [← count_mid ho.mid hg,K.first_none hf]
theorem fl_new {G:Nat→Prop} (hp:∀ i,i<6→y.ptr6 i=0) (hs:y.s=0) (hk:y.k=1∨y.k=2) (ho:y.up.ok=true) (hn:D.piece (I (35+nn / 4)) (nn % 4)=y.img) (hm:∀ n,43≤n→n<N→(K.bt (I 34) n=true ↔ G n)) (hg:∀ n,G n→43≤n∧n<N) (hl:(I 34).length=128) (h1:N≤1024):Fl N G I nn y (fun _=>0) (fun _=>0) :=
 ⟨⟨⟨hp,fun _ _ h=>absurd rfl h,fun _ _ _ _ _=>rfl⟩,fun _ _=>.inl rfl,fun _ _ _ _ _ h=>absurd rfl h,fun n a b=>by
   rw [hm n a b]
   exact ⟨.inr,fun h=>h.elim (fun ⟨i,_,e⟩=>absurd e (by omega)) id⟩,fun _ _ h=>absurd rfl h,hg,hl,h1⟩,⟨fun _ _ h=>absurd rfl h,fun _ _ _ _ _=>rfl⟩,hn,ho,hk,fun _ _=>rfl,fun _ _ h=>absurd rfl h,fun _ _ h=>absurd rfl h⟩
theorem Bud.all {m:List Wr} {k:Int} (hr:Rising m) (hk:(V.keys m).length≤22) (f:Nat→Nat):Bud (34 :: k :: V.keys m) [] m f :=
 ⟨fun x hx=>.inl (by simp [hx]),by simp;omega,by simp⟩
theorem Bud.len_le {m:List Wr} (h:Bud low Tx m f) (hr:Rising m):(V.keys m).length≤low.length+Tx.length:=by
 have:=nodup_len (keys_nodup hr) (L:=low++Tx.map fun i=>((f i:Nat):Int)) h.sub
 simpa using this
theorem cutF_0 (f:Nat→Nat):∀ i,i<86→cutF 0 f i=0:=fun i hi=>by
 have hl:∀ i,¬ isPx i→cutF 0 f i=0:=fun i h=>by rw [cutF_leaf 0 f h,if_neg (by omega)]
 have hpx:∀ p,isPx p→(∀ j,j<8→cutF 0 f (kid p j)=0)→cutF 0 f p=0:=fun p h hk=>by
  rw [cutF_px 0 f h,if_neg]
  intro ha
  obtain ⟨j,hj,hn⟩:=any8_iff.1 ha
  exact hn (hk j hj)
 by_cases hp:isPx i
 ·refine hpx i hp fun j hj=>?_
  by_cases hq:isPx (kid i j)
  ·refine hpx _ hq fun j' hj'=>hl _ ?_
   unfold isPx at hp hq ⊢
   unfold kid at hq ⊢
   split at hq
   ·omega
   ·split at hq
    ·rename_i h4 h5
     rw [if_neg h4,if_pos h5,if_neg (by omega),if_neg (by omega)]
     omega
    ·omega
  ·exact hl _ hq
 ·exact hl i hp
end
end Go.Proofs.YtkganhafbjgndaaGreatRR.V
namespace Go.Proofs.YtkganhafbjgndaaGreatRR.V
open Go.RowKit
set_option linter.unusedVariables false
set_option maxRecDepth 20000
end Go.Proofs.YtkganhafbjgndaaGreatRR.V
namespace Go.Proofs.YtkganhafbjgndaaGreatRR.V
open Go.RowKit
set_option linter.unusedVariables false
set_option maxRecDepth 20000
def gl (f:Nat→Nat):List Nat:=(nzi f).map f
theorem mem_gl {f:Nat→Nat} {n:Nat}:n∈gl f ↔ ∃ i,i<86∧f i≠0∧f i=n:=by
 unfold gl
 rw [List.mem_map]
 constructor
 ·rintro ⟨i,hi,rfl⟩
  exact ⟨i,(mem_nzi.1 hi).1,(mem_nzi.1 hi).2,rfl⟩
 ·rintro ⟨i,h1,h2,rfl⟩
  exact ⟨i,mem_nzi.2 ⟨h1,h2⟩,rfl⟩
theorem gl_len (f:Nat→Nat):(gl f).length=nzn f:=by unfold gl nzn;rw [List.length_map]
theorem gl_zero:gl (fun _=>0)=[]:=by
 unfold gl nzi
 rw [List.filter_eq_nil_iff.2 fun a _=>by simp]
 rfl
structure Two (na no N:Nat) (V:Img) (y1:D.Nn) (f1:Nat→Nat) (C1:Nat→UInt8) (y2:D.Nn) (f2:Nat→Nat) (C2:Nat→UInt8):Prop where
 a:Fl N (GL (gl f2)) V na y1 f1 C1
 b:Fl N (GL (gl f1)) V no y2 f2 C2
theorem Two.symm {na no N:Nat} {V:Img} {y1 y2:D.Nn} {f1 f2:Nat→Nat} {C1 C2:Nat→UInt8} (h:Two na no N V y1 f1 C1 y2 f2 C2):Two no na N V y2 f2 C2 y1 f1 C1:=⟨h.b,h.a⟩
section
variable {w0 w w1 w2 w':World} {p d N q bf nn na no:Nat} {O:List Nat} {s:DS} {X:Secs2} {m m':List Wr} {y y' y1 y1' y2:D.Nn} {f f' f1 f1' f2:Nat→Nat} {C C' C1 C1' C2:Nat→UInt8} {low:List Int} {Tx gs:List Nat} {G:Nat→Prop} {V:Img}
theorem gl_nodup (h:Mid N G V y f):(gl f).Nodup:=nzm_nodup h.inj
theorem Two.aft (h:Two na no N (view X m) y1 f1 C1 y2 f2 C2) (hs:Sto w0 w p d O N s X q m) (hab:na / 4=no / 4) (hne:na≠no) (hn:no<32) (ha:Aft w0 w p d N q na O s X m (GL (gl f2)) f1 low Tx m' y1' f1' C1' w') :
  Two na no N (view X m') y1' f1' C1' y2 f2 C2:=by
 refine ⟨ha.fl,?_⟩
 have hk:∀ i,i<86→f2 i≠0→view X m' (f2 i)=view X m (f2 i):=fun i hi h0=>by
  have hr:=h.b.mid.rng i hi
  exact ha.fr (f2 i) (by omega) (by omega) (fun i' hi' h0' e=>ha.fl.mid.oth i' hi' h0' (mem_gl.2 ⟨i,hi,h0,e.symm⟩)) (fun i' hi' h0' e=>h.a.mid.oth i' hi' h0' (mem_gl.2 ⟨i,hi,h0,e.symm⟩))
 have hm:=h.b.mid
 refine ⟨⟨⟨hm.rep.top,fun p hp h0=>?_,hm.rep.none_⟩,hm.rng,hm.inj,fun n h1 h2=>?_,fun i hi h0 hg=>?_,fun n hg=>?_,ha.fl.mid.ml,hm.n1⟩,⟨fun b hb h0=>?_,h.b.con.no⟩,?_,h.b.ok,h.b.kind,h.b.zero,h.b.few,h.b.min⟩
 ·rw [hk p (px_lt hp) h0];exact hm.rep.some_ p hp h0
 ·rw [ha.fl.mid.mrk n h1 h2]
  constructor
  ·rintro (⟨i,hi,e⟩ | hg)
   ·exact .inr (mem_gl.2 ⟨i,hi,by omega,e⟩)
   ·obtain ⟨i,hi,_,e⟩:=mem_gl.1 hg
    exact .inl ⟨i,hi,e⟩
  ·rintro (⟨i,hi,e⟩ | hg)
   ·exact .inr (mem_gl.2 ⟨i,hi,by omega,e⟩)
   ·obtain ⟨i,hi,_,e⟩:=mem_gl.1 hg
    exact .inl ⟨i,hi,e⟩
 ·obtain ⟨i',hi',h0',e⟩:=mem_gl.1 hg
  exact ha.fl.mid.oth i' hi' h0' (mem_gl.2 ⟨i,hi,h0,e.symm⟩)
 ·obtain ⟨i',hi',h0',e⟩:=mem_gl.1 hg
  have:=ha.fl.mid.rng i' hi'
  omega
 ·rw [hk _ (ixb_lt hb) h0];exact h.b.con.yes b hb h0
 ·have h64:=hs.n64
  rw [← hab,ha.nd,D.piece_put_ne (hs.view_len (by omega) (by unfold inLog;omega)) (Nat.mod_lt _ (by omega)) (Nat.mod_lt _ (by omega)) (D.Nn.img_len _) (by omega),hab]
  exact h.b.nod
theorem view_commit (h:Sto w0 w p d O N s X q m):view (lay X (toW m)) []=view X m:=by
 funext n
 by_cases hn:n<N
 ·rw [view_nil,lay_getD h.ons.len h.mok hn]
 ·rw [view_nil]
  unfold view
  rw [List.getElem?_eq_none (by rw [lay_len,h.ons.len];omega),List.getElem?_eq_none (by rw [h.ons.len];omega),find_none_iff.2 fun p hp e=>by have:=(h.mok.all p hp).2.1;omega]
  rfl
def ComV (w0 w:World) (p d:Nat) (O:List Nat) (N:Nat) (V:Img) (q:Nat) (e:Ending) (w':World):Prop:=e=.returned (.int .i64 0)∧∃ O' s' X',Sto w0 w' p d O' N s' X' q []∧view X' []=V∧Chg (q :: O) w w'∧∀ b∈O',b∈O∨w.heap.size≤b
theorem commit_view (h:Sto w0 w p d O N s X q m):Calls Tryz.prog 16 #[.pointer (some ⟨p,0,none⟩)] w (ComV w0 w p d O N (view X m) q) :=
 (commit_yes h).mono fun e w' ⟨he,O',s',hs,hc,ho⟩=>⟨he,O',s',_,hs,view_commit h,hc,ho⟩
theorem path_nz (h:Mid N G V y f) {b i:Nat} (hb:b<76) (h0:f (ixb b)≠0) (hi:i∈path b):f i≠0:=by
 unfold path at hi
 unfold ixb at h0
 split at hi
 ·rw [if_pos (by assumption)] at h0
  simp at hi;rw [hi];exact h0
 ·rw [if_neg (by assumption)] at h0
  split at hi
  ·rw [if_pos (by assumption)] at h0
   simp at hi
   rcases hi with rfl | rfl
   ·intro e
    have:=h.rep.none_ 4 (.inl rfl) e (b - 4) (by omega)
    rw [show kid 4 (b - 4)=b+2 by unfold kid;rw [if_pos rfl];omega] at this
    exact h0 this
   ·exact h0
  ·rw [if_neg (by assumption)] at h0
   have h14:f (14+(b - 12) / 8)≠0:=fun e=>by
    have:=h.rep.none_ (14+(b - 12) / 8) (.inr (.inr (by omega))) e ((b - 12) % 8) (by omega)
    rw [show kid (14+(b - 12) / 8) ((b - 12) % 8)=b+10 by unfold kid;rw [if_neg (by omega),if_neg (by omega)];omega] at this
    exact h0 this
   simp at hi
   rcases hi with rfl | rfl | rfl
   ·intro e
    have:=h.rep.none_ 5 (.inr (.inl rfl)) e ((b - 12) / 8) (by omega)
    rw [show kid 5 ((b - 12) / 8)=14+(b - 12) / 8 by unfold kid;rw [if_neg (by omega),if_pos rfl]] at this
    exact h14 this
   ·exact h14
   ·exact h0
def Tch (a n b:Nat):Prop:=b<76∧a≤128 * b+127∧128 * b<a+n
theorem write_nz {a n:Nat} (hm:Mid N G V y' f') (hn:0<n) (han:a+n≤9728) (hext:Ext f f') (hnew:∀ i,f' i≠0→f i≠0∨∃ j,j<T.np a n∧i∈path (nb a j)) (hall:∀ j,j<T.np a n→f' (ixb (nb a j))≠0) (i:Nat) :
  f' i≠0 ↔ f i≠0∨∃ b,Tch a n b∧i∈path b:=by
 constructor
 ·intro h
  rcases hnew i h with h | ⟨j,hj,hi⟩
  ·exact .inl h
  ·have:=nb_in hj
   exact .inr ⟨nb a j,⟨(part hj han).b76,by omega,by omega⟩,hi⟩
 ·rintro (h | ⟨b,⟨h1,h2,h3⟩,hi⟩)
  ·rw [hext i h];exact h
  ·obtain ⟨j,hj,rfl⟩:=touch hn h2 h3
   exact path_nz hm h1 (hall j hj) hi
def tx (a n:Nat):List Nat:=((List.range (T.np a n)).map fun j=>path (nb a j)).flatten
theorem tx_mem (a n:Nat):∀ j,j<T.np a n→∀ i∈path (nb a j),i∈tx a n:=fun j hj i hi =>
 List.mem_flatten.2 ⟨path (nb a j),List.mem_map.2 ⟨j,List.mem_range.2 hj,rfl⟩,hi⟩
theorem flat_len {L:List (List Nat)} (h:∀ l∈L,l.length≤3):L.flatten.length≤3 * L.length:=by
 induction L with
 | nil=>simp
 | cons a r ih =>
  have h1:=h a (by simp)
  have h2:=ih fun l hl=>h l (by simp [hl])
  simp only [List.flatten_cons,List.length_append,List.length_cons]
  omega
theorem tx_len {a n k:Nat} (hn:n≤128 * k+1):(tx a n).length≤3 * (k+1):=by
 have h1:=flat_len (L:=(List.range (T.np a n)).map fun j=>path (nb a j)) fun l hl=>by
  obtain ⟨j,_,rfl⟩:=List.mem_map.1 hl
  exact path_len _
 have h2:T.np a n≤k+1:=by unfold T.np;split<;>omega
 rw [List.length_map,List.length_range] at h1
 unfold tx
 omega
def m3 (N ep g:Nat):List Wr:=insAll [(0,U.sec N ep (g+2)),(35,D.put (ns2 g 1) 3 (YtkganhafbjgndaaGreatRR.nn 1 (g+2)).img)] (m1 N ep g 1)
variable {ep g:Nat} {mk:List UInt8}
end
end Go.Proofs.YtkganhafbjgndaaGreatRR.V
namespace Go.Proofs.YtkganhafbjgndaaGreatRR.V
open Go.RowKit
set_option linter.unusedVariables false
set_option maxRecDepth 20000
section
variable {w0 w w1 w2 w':World} {p d N q bf nn na no a n c:Nat} {O:List Nat} {s:DS} {X:Secs2} {m m':List Wr} {y y' y1 y1' y2:D.Nn} {f f' f1 f1' f2:Nat→Nat} {C C' C1 C1' C2:Nat→UInt8} {low:List Int} {Tx gs:List Nat} {G:Nat→Prop} {V:Img} {A:Option Addr} {l:List UInt8} {M:Nat→Prop}
theorem arg_bts (h:Sto w0 w p d O N s X q m) (hB:F.Bts w0 w0.heap.size A n c l):Bts w (fun b=>b<w0.heap.size) A n c l :=
 ⟨hB.len,hB.cap,hB.lim,fun hn=>by
  obtain ⟨b,off,e,hb,hc⟩:=hB.at_ hn
  refine ⟨b,off,e,hb,fun j v hj=>?_⟩
  have hjl:j<l.length:=by have:=(List.getElem?_eq_some_iff.1 hj).1;rwa [bc_len] at this
  rw [bc_get hjl] at hj
  rw [h.ons.sit.bel.cell (p:=⟨b,off+j,none⟩) hb,hc j (by rw [← hB.len];exact hjl),hj]⟩
theorem arg_out (h:Sto w0 w p d O N s X q m):∀ b,b<w0.heap.size→b<w.heap.size∧b≠q:=fun b hb=>by
 have h1:=h.map.lt
 have h2:=h.qf
 omega
def WrT (w0 w:World) (p d N q na no:Nat) (O:List Nat) (s:DS) (X:Secs2) (y1:D.Nn) (f1:Nat→Nat) (C1:Nat→UInt8) (y2:D.Nn) (f2:Nat→Nat) (C2:Nat→UInt8) (low:List Int) (Tx:List Nat) (a:Nat) (l:List UInt8) (n:Nat) (e:Ending) (w':World):Prop :=
 e=.returned (.int .i64 0)∧∃ m' y1' f1',Sto w0 w' p d O N s X q m'∧Two na no N (view X m') y1' f1' (ovr C1 a l n) y2 f2 C2∧y1'.s=max y1.s (a+n)∧(∀ i,f1' i≠0 ↔ f1 i≠0∨∃ b,Tch a n b∧i∈path b)∧Bud low Tx m' f1'∧Chg [q] w w'∧Kp y1 y1'
end
end Go.Proofs.YtkganhafbjgndaaGreatRR.V
namespace Go.Proofs.YtkganhafbjgndaaGreatRR.V
open Go.RowKit
set_option linter.unusedVariables false
set_option maxRecDepth 20000
theorem kid_bix {p j:Nat} (hp:isPx p) (h5:p≠5) (hj:j<8):¬ isPx (kid p j)∧bix (kid p j)=(if p=4 then 4 else 12+8 * (p - 14))+j:=by
 unfold isPx at hp ⊢
 unfold kid bix
 rcases hp with rfl | rfl | ⟨h1,h2⟩
 ·rw [if_pos rfl,if_pos rfl,if_neg (by omega),if_neg (by omega),if_pos (by omega)];omega
 ·omega
 ·rw [if_neg (by omega),if_neg h5,if_neg (by omega),if_neg (by omega),if_neg (by omega),if_neg (by omega),if_neg (by omega)];omega
section
variable {w0 w w':World} {p d N q nn B size:Nat} {O:List Nat} {s:DS} {X:Secs2} {m:List Wr} {y:D.Nn} {f:Nat→Nat} {C:Nat→UInt8} {G:Nat→Prop}
theorem px14 {j:Nat} (hj:j<8):isPx (kid 5 j)∧kid 5 j≠5∧kid 5 j≠4∧kid 5 j=14+j:=by
 have:kid 5 j=14+j:=by unfold kid;rw [if_neg (by omega),if_pos rfl]
 rw [this]
 unfold isPx
 omega
def TruP (w0 w:World) (p d N q nn:Nat) (O:List Nat) (s:DS) (X:Secs2) (m:List Wr) (G:Nat→Prop) (y:D.Nn) (f:Nat→Nat) (C:Nat→UInt8) (size k:Nat) (e:Ending) (w':World):Prop :=
 e=.returned (.int .i64 0)∧∃ low Tx m' y',Aft w0 w p d N q nn O s X m G f low Tx m' y' (cutF ((size+127) / 128) f) (cutC C size) w'∧y'.s=size∧(keys m').length≤(keys m).length+k∧Kp y y'
end
end Go.Proofs.YtkganhafbjgndaaGreatRR.V
namespace Go.Proofs.YtkganhafbjgndaaGreatRR.V
open Go.RowKit
set_option linter.unusedVariables false
set_option maxRecDepth 20000
def rc (l:List UInt8) (g:Nat→Bool):List Value:=.string (sb l) :: (List.range 76).map fun b=>.bool (g b)
def upb (g:Nat→Bool) (b:Nat) (x:Bool):Nat→Bool:=fun k=>if k=b then x else g k
section
variable {w w':World} {b:Nat} {l l':List UInt8} {g g':Nat→Bool}
end
end Go.Proofs.YtkganhafbjgndaaGreatRR.V
namespace Go.Proofs.YtkganhafbjgndaaGreatRR.V
open Go.RowKit
set_option linter.unusedVariables false
set_option maxRecDepth 20000
def noughts (k:Nat):List UInt8:=List.replicate k 0
def pad (l:List UInt8) (a:Nat):List UInt8:=l++noughts (a - l.length)
def wrL (l:List UInt8) (a:Nat) (d:List UInt8):List UInt8:=(pad l a).take a++d++(pad l a).drop (a+d.length)
def wrG (g:Nat→Bool) (a n k:Nat):Nat→Bool:=fun b=>g b || (decide (a / 128≤b) && decide (b<a / 128+k))
def slen (w:World) (b:Nat):Nat:=match w.cell? ⟨b,0,none⟩ with | some (.string s)=>s.size | _=>0
end Go.Proofs.YtkganhafbjgndaaGreatRR.V
namespace Go.Proofs.YtkganhafbjgndaaGreatRR.V
open Go.RowKit
set_option linter.unusedVariables false
set_option maxRecDepth 20000
end Go.Proofs.YtkganhafbjgndaaGreatRR.V
namespace Go.Proofs.YtkganhafbjgndaaGreatRR.V
open Go.RowKit
set_option linter.unusedVariables false
set_option maxRecDepth 20000
end Go.Proofs.YtkganhafbjgndaaGreatRR.V
namespace Go.Proofs.YtkganhafbjgndaaGreatRR.V
open Go.RowKit
set_option linter.unusedVariables false
set_option maxRecDepth 20000
def trL (l:List UInt8) (n:Nat):List UInt8:=(pad l n).take n
def trG (g:Nat→Bool) (B j:Nat):Nat→Bool:=fun b=>g b && !(decide (B≤b) && decide (b<B+j))
end Go.Proofs.YtkganhafbjgndaaGreatRR.V
namespace Go.Proofs.YtkganhafbjgndaaGreatRR.V
open Go.ChangeShapes Go.WideShapes Go.ChangeAt Go.RowKit Go.Deep
set_option linter.unusedVariables false
structure SStep where
 what:Int
 file:Int
 pos:Int
 size:Int
 data:List UInt8
def I64 (z:Int):Prop:=-9223372036854775808≤z∧z≤9223372036854775807
structure Stps (w:World) (B:Nat) (A:Option Addr) (n c:Nat) (l:List SStep):Prop where
 len:l.length=n
 cap:n≤c
 lim:c≤maxLen
 at_:0<n→∃ b off,A=some ⟨b,off,none⟩∧b<B∧∀ (j:Nat) (x:SStep),l[j]?=some x→∃ A' n' c',w.cell? ⟨b,off+j * 5,none⟩=some (.int .i64 x.what)∧w.cell? ⟨b,off+j * 5+1,none⟩=some (.int .i64 x.file) ∧
  w.cell? ⟨b,off+j * 5+2,none⟩=some (.int .i64 x.pos)∧w.cell? ⟨b,off+j * 5+3,none⟩=some (.int .i64 x.size)∧w.cell? ⟨b,off+j * 5+4,none⟩=some (.slice A' n' c')∧F.Bts w B A' n' c' x.data∧I64 x.what∧I64 x.file∧I64 x.pos∧I64 x.size
theorem Stps.below {w w':World} {B:Nat} {A:Option Addr} {n c:Nat} {l:List SStep} (h:Stps w B A n c l) (hb:Below B w w'):Stps w' B A n c l :=
 ⟨h.len,h.cap,h.lim,fun h0=>by
  obtain ⟨b,off,e,hbB,hc⟩:=h.at_ h0
  refine ⟨b,off,e,hbB,fun j x hj=>?_⟩
  obtain ⟨A',n',c',h1,h2,h3,h4,h5,h6,h7⟩:=hc j x hj
  exact ⟨A',n',c',(hb.cell (p:=⟨b,_,none⟩) hbB).trans h1,(hb.cell (p:=⟨b,_,none⟩) hbB).trans h2,(hb.cell (p:=⟨b,_,none⟩) hbB).trans h3,(hb.cell (p:=⟨b,_,none⟩) hbB).trans h4,(hb.cell (p:=⟨b,_,none⟩) hbB).trans h5,h6.below hb,h7⟩⟩
section
variable {H:Type} {enc:TypeId × Value→H} {W:World}
end
end Go.Proofs.YtkganhafbjgndaaGreatRR.V
namespace Go.Proofs.YtkganhafbjgndaaGreatRR.V
open Go.RowKit
set_option linter.unusedVariables false
set_option maxRecDepth 20000
section
variable {w0 w w':World} {p d N q nn:Nat} {O:List Nat} {s:DS} {X:Secs2} {m m':List Wr} {G:Nat→Prop} {f f':Nat→Nat} {C':Nat→UInt8} {y':D.Nn} {low:List Int} {Tx:List Nat} {ep g:Nat}
structure Bas (N:Nat) (V:Img) (ep g:Nat):Prop where
 sup:V 0=U.sec N ep g
 seat:∀ i,i<8→V (26+i)=seat0
theorem Bas.aft (h:Bas N (view X m) ep g) (hnn:nn<32) (hr:∀ i,i<86→f i≠0→43≤f i) (ha:Aft w0 w p d N q nn O s X m G f low Tx m' y' f' C' w'):Bas N (view X m') ep g:=by
 have hr':∀ i,i<86→f' i≠0→43≤f' i:=fun i hi h0=>by have:=ha.fl.mid.rng i hi;omega
 have hk:∀ k,k<34→view X m' k=view X m k:=fun k hk=>ha.fr k (by omega) (by omega) (fun i hi h0 e=>by have:=hr' i hi h0;omega) (fun i hi h0 e=>by have:=hr i hi h0;omega)
 exact ⟨by rw [hk 0 (by omega)];exact h.sup,fun i hi=>by rw [hk _ (by omega)];exact h.seat i hi⟩
end
end Go.Proofs.YtkganhafbjgndaaGreatRR.V
namespace Go.Proofs.YtkganhafbjgndaaGreatRR.V
open Go.RowKit
set_option linter.unusedVariables false
set_option maxRecDepth 20000
def cb (g:Nat→Bool) (k:Nat):Nat:=((List.range k).filter g).length
def oneF (g:Nat→Bool) (k:Nat):Bool:=(List.range k).any fun b=>g b && (decide (4≤b) && decide (b<12))
def twoF (g:Nat→Bool) (k i:Nat):Bool:=(List.range k).any fun b=>g b && (decide (12≤b) && decide ((b - 12) / 8=i))
def ct (t:Nat→Bool) (k:Nat):Nat:=((List.range k).filter t).length
def anyT (t:Nat→Bool) (k:Nat):Bool:=(List.range k).any t
def sct (g:Nat→Bool):Nat:=cb g 76+ct (twoF g 76) 8+(if oneF g 76 then 1 else 0)+(if anyT (twoF g 76) 8 then 1 else 0)
theorem one_iff {g:Nat→Bool}:oneF g 76=true ↔ ∃ b,4≤b∧b<12∧g b=true:=by
 unfold oneF
 rw [List.any_eq_true]
 constructor
 ·rintro ⟨b,_,h⟩
  simp at h
  exact ⟨b,h.2.1,h.2.2,h.1⟩
 ·rintro ⟨b,h1,h2,h⟩
  exact ⟨b,List.mem_range.2 (by omega),by simp [h,h1,h2]⟩
theorem two_iff {g:Nat→Bool} {i:Nat}:twoF g 76 i=true ↔ ∃ b,12≤b∧b<76∧(b - 12) / 8=i∧g b=true:=by
 unfold twoF
 rw [List.any_eq_true]
 constructor
 ·rintro ⟨b,hb,h⟩
  simp at h
  exact ⟨b,h.2.1,List.mem_range.1 hb,h.2.2,h.1⟩
 ·rintro ⟨b,h1,h2,h3,h⟩
  exact ⟨b,List.mem_range.2 h2,by simp [h,h1,h3]⟩
theorem anyT_iff {t:Nat→Bool} {k:Nat}:anyT t k=true ↔ ∃ i,i<k∧t i=true:=by
 unfold anyT
 rw [List.any_eq_true]
 exact ⟨fun ⟨i,h,e⟩=>⟨i,List.mem_range.1 h,e⟩,fun ⟨i,h,e⟩=>⟨i,List.mem_range.2 h,e⟩⟩
theorem sct_nzn {N:Nat} {G:Nat→Prop} {V:Img} {y:D.Nn} {f:Nat→Nat} {g:Nat→Bool} (h:Mid N G V y f) (hmin:∀ p,isPx p→f p≠0→∃ j,j<8∧f (kid p j)≠0) (hg:∀ b,b<76→(g b=true ↔ f (ixb b)≠0)):sct g=nzn f:=by
 have hlen:nzn f=(((List.range 76).filter g).map ixb++(((List.range 8).filter (twoF g 76)).map (14+·)++((if oneF g 76 then [4] else [])++(if anyT (twoF g 76) 8 then [5] else [])))).length:=by
  refine nzn_perm ?_ fun i=>?_
  ·rw [List.nodup_append,List.nodup_append,List.nodup_append]
   refine ⟨?_,⟨?_,⟨?_,?_,?_⟩,?_⟩,?_⟩
   ·exact List.pairwise_map.2 (List.Pairwise.imp (fun hne e=>hne (ixb_inj e)) (List.nodup_range.filter _))
   ·exact List.pairwise_map.2 (List.Pairwise.imp (fun hne e=>hne (by omega)) (List.nodup_range.filter _))
   ·split<;>simp
   ·split<;>simp
   ·intro a ha b hb e
    split at ha<;>split at hb<;>simp_all
   ·intro a ha b hb e
    obtain ⟨j,hj,rfl⟩:=List.mem_map.1 ha
    rcases List.mem_append.1 hb with hb | hb
    ·split at hb<;>simp at hb;omega
    ·split at hb<;>simp at hb;omega
   ·intro a ha b hb e
    obtain ⟨k,hk,rfl⟩:=List.mem_map.1 ha
    have hk76:=List.mem_range.1 (List.mem_filter.1 hk).1
    have hpx:=ixb_px hk76
    subst e
    apply hpx
    rcases List.mem_append.1 hb with hb | hb
    ·obtain ⟨j,hj,e⟩:=List.mem_map.1 hb
     have:=List.mem_range.1 (List.mem_filter.1 hj).1
     rw [← e];unfold isPx;omega
    ·rcases List.mem_append.1 hb with hb | hb
     ·split at hb<;>simp at hb;rw [hb];exact .inl rfl
     ·split at hb<;>simp at hb;rw [hb];exact .inr (.inl rfl)
  ·rw [List.mem_append,List.mem_append,List.mem_append,List.mem_map,List.mem_map]
   have hsub:∀ j,j<8→(f (14+j)≠0 ↔ twoF g 76 j=true):=fun j hj=>by
    obtain ⟨q1,q2,q3,q4⟩:=px14 hj
    rw [two_iff]
    constructor
    ·intro h0
     obtain ⟨j2,hj2,hn⟩:=hmin (14+j) (by rw [← q4];exact q1) h0
     obtain ⟨r1,r2⟩:=kid_bix q1 q2 hj2
     rw [if_neg q3,q4] at r2
     rw [q4] at r1
     have e:=ixb_bix (kid_lt (q4 ▸ q1) hj2).2 r1
     rw [r2] at e
     exact ⟨12+8 * (14+j - 14)+j2,by omega,e.2,by omega,(hg _ e.2).2 (by rw [e.1];exact hn)⟩
    ·rintro ⟨b,h1,h2,h3,h4⟩
     exact path_nz h h2 ((hg b h2).1 h4) (by unfold path;rw [if_neg (by omega),if_neg (by omega),h3];simp)
   constructor
   ·rintro ⟨hi,h0⟩
    by_cases hp:isPx i
    ·rcases hp with rfl | rfl | ⟨h1,h2⟩
     ·right;right;left
      obtain ⟨j,hj,hn⟩:=hmin 4 (.inl rfl) h0
      rw [kid4] at hn
      have:oneF g 76=true:=one_iff.2 ⟨4+j,by omega,by omega,(hg (4+j) (by omega)).2 (by unfold ixb;rw [if_neg (by omega),if_pos (by omega),show 4+j+2=6+j by omega];exact hn)⟩
      rw [if_pos this];simp
     ·right;right;right
      obtain ⟨j,hj,hn⟩:=hmin 5 (.inr (.inl rfl)) h0
      rw [kid5] at hn
      have:anyT (twoF g 76) 8=true:=anyT_iff.2 ⟨j,hj,(hsub j hj).1 hn⟩
      rw [if_pos this];simp
     ·right;left
      exact ⟨i - 14,List.mem_filter.2 ⟨List.mem_range.2 (by omega),(hsub (i - 14) (by omega)).1 (by rw [show 14+(i - 14)=i by omega];exact h0)⟩,by omega⟩
    ·left
     obtain ⟨e1,e2⟩:=ixb_bix hi hp
     exact ⟨bix i,List.mem_filter.2 ⟨List.mem_range.2 e2,(hg _ e2).2 (by rw [e1];exact h0)⟩,e1⟩
   ·rintro (⟨b,hb,rfl⟩ | ⟨j,hj,rfl⟩ | hb | hb)
    ·obtain ⟨h1,h2⟩:=List.mem_filter.1 hb
     have h1:=List.mem_range.1 h1
     exact ⟨ixb_lt h1,(hg b h1).1 h2⟩
    ·obtain ⟨h1,h2⟩:=List.mem_filter.1 hj
     have h1:=List.mem_range.1 h1
     exact ⟨by show 14+j<86;omega,(hsub j h1).2 h2⟩
    ·split at hb<;>simp at hb
     rename_i ho
     obtain ⟨b,h1,h2,h3⟩:=one_iff.1 ho
     rw [hb]
     exact ⟨by omega,path_nz h (b:=b) (by omega) ((hg b (by omega)).1 h3) (by unfold path;rw [if_neg (by omega),if_pos (by omega)];simp)⟩
    ·split at hb<;>simp at hb
     rename_i ho
     obtain ⟨j,hj,h3⟩:=anyT_iff.1 ho
     obtain ⟨b,h1,h2,_,h4⟩:=two_iff.1 h3
     rw [hb]
     exact ⟨by omega,path_nz h h2 ((hg b h2).1 h4) (by unfold path;rw [if_neg (by omega),if_neg (by omega)];simp)⟩
 rw [hlen]
 unfold sct cb ct
 simp only [List.length_append,List.length_map]
 split<;>split<;>simp<;>omega
end Go.Proofs.YtkganhafbjgndaaGreatRR.V
namespace Go.Proofs.YtkganhafbjgndaaGreatRR.V
open Go.RowKit
set_option linter.unusedVariables false
set_option maxRecDepth 20000
def tc (t:Nat→Bool):List Value:=(List.range 8).map fun i=>.bool (t i)
abbrev z8:Array Value:=#[.bool false,.bool false,.bool false,.bool false,.bool false,.bool false,.bool false,.bool false]
section
variable {w w':World} {b:Nat} {t:Nat→Bool}
end
end Go.Proofs.YtkganhafbjgndaaGreatRR.V
