/- Files (space): plain mathematics; a file in memory, open, fields, pointers; a call in its midst. -/
import Derived.Test.YtkganhafbjgndaaGreatRRZSSto
import Derived.Test.YtkganhafbjgndaaGreatRRZMK
import Derived.Test.YtkganhafbjgndaaGreatRRZMD
import Derived.Test.YtkganhafbjgndaaGreatRRZTAll
import Derived.Test.YtkganhafbjgndaaGreatRRZSCom
namespace Go.Proofs.YtkganhafbjgndaaGreatRR.V
set_option linter.unusedVariables false
abbrev Img:=Nat→List UInt8
def kn (b:List UInt8) (j:Nat):Nat:=(b[2 * j]?.getD 0).toNat+256 * (b[2 * j+1]?.getD 0).toNat
def pl (g:Nat→Nat):List Int:=(List.range 8).map fun j=>(g j:Int)
theorem dec_pl (b:List UInt8):T.dec b=pl (kn b):=rfl
theorem pl_len (g:Nat→Nat):(pl g).length=8:=by simp [pl]
theorem pl_get (g:Nat→Nat) {j:Nat} (h:j<8):(pl g)[j]?=some (g j:Int):=by simp [pl,h]
theorem pl_getD (g:Nat→Nat) {j:Nat} (h:j<8):(pl g)[j]?.getD 0=(g j:Int):=by rw [pl_get g h];rfl
def upd (f:Nat→Nat) (i n:Nat):Nat→Nat:=fun k=>if k=i then n else f k
theorem upd_at (f:Nat→Nat) (i n:Nat):upd f i n i=n:=if_pos rfl
theorem upd_ne (f:Nat→Nat) {i n k:Nat} (h:k≠i):upd f i n k=f k:=if_neg h
theorem pl_set (g:Nat→Nat) {i:Nat} (hi:i<8) (n:Nat):(pl g).set i (n:Int)=pl (upd g i n):=by
  apply List.ext_getElem?
  intro k
  by_cases hk:k<8
  · rw [pl_get _ hk]
    by_cases e:k=i
    · subst e
      rw [List.getElem?_set_self (by rw [pl_len];exact hk),upd_at]
    · rw [List.getElem?_set_ne (Ne.symm e),pl_get g hk,upd_ne _ e]
  · rw [List.getElem?_eq_none (by rw [List.length_set,pl_len];omega),List.getElem?_eq_none (by rw [pl_len];omega)]
theorem pl_congr {g h:Nat→Nat} (e:∀ j,j<8→g j=h j):pl g=pl h:=by
  apply List.ext_getElem?
  intro k
  by_cases hk:k<8
  · rw [pl_get _ hk,pl_get _ hk,e k hk]
  · rw [List.getElem?_eq_none (by rw [pl_len];omega),List.getElem?_eq_none (by rw [pl_len];omega)]
theorem pl_inj {g h:Nat→Nat} (e:pl g=pl h) {j:Nat} (hj:j<8):g j=h j:=by
  have:=congrArg (·[j]?) e
  simp only [pl_get _ hj,Option.some.injEq] at this
  omega
def okn_ (n:Nat):Prop:=n=0∨(43≤n∧n<1024)
theorem okl_pl {g:Nat→Nat} (h:∀ j,j<8→okn_ (g j)):T.okl (pl g)=true:=by
  rw [T.okl_iff]
  refine ⟨pl_len g,fun x hx=>?_⟩
  obtain ⟨j,hj,rfl⟩:=List.mem_map.1 hx
  have:=h j (List.mem_range.1 hj)
  unfold okn_ at this
  rw [T.okp_iff]
  omega
def en (g:Nat→Nat):List UInt8:=T.encS (pl g) 8
def isP (b:List UInt8):Prop:=T.isPt b=some (pl (kn b))
theorem kn_en {g:Nat→Nat} (h:∀ j,j<8→okn_ (g j)) {j:Nat} (hj:j<8):kn (en g) j=g j :=
  pl_inj (by rw [← dec_pl,en,T.dec_enc (okl_pl h)]) hj
theorem isP_en {g:Nat→Nat} (h:∀ j,j<8→okn_ (g j)):isP (en g):=by
  unfold isP en
  rw [T.isPt_enc (okl_pl h),← dec_pl,T.dec_enc (okl_pl h)]
theorem kn_zeros (j:Nat):kn zeros j=0:=by
  unfold kn zeros
  simp only [List.getElem?_replicate]
  split<;>split<;>rfl
theorem isP_zeros:isP zeros:=by
  have h:∀ j,j<8→okn_ ((fun _=>0:Nat→Nat) j):=fun _ _=>.inl rfl
  have e:zeros=en (fun _=>0):=by decide +kernel
  rw [e]
  exact isP_en h
def kid (p j:Nat):Nat:=if p=4 then 6+j else if p=5 then 14+j else 22+8 * (p - 14)+j
def isPx (p:Nat):Prop:=p=4∨p=5∨(14≤p∧p<22)
theorem kid_lt {p j:Nat} (hp:isPx p) (hj:j<8):6≤kid p j∧kid p j<86:=by
  unfold isPx at hp;unfold kid
  split
  · omega
  · split<;>omega
theorem kid_inj {p j p' j':Nat} (hp:isPx p) (hp':isPx p') (hj:j<8) (hj':j'<8) (e:kid p j=kid p' j'):p=p'∧j=j':=by
  unfold isPx at hp hp';unfold kid at e
  split at e<;>split at e<;>(try split at e)<;>(try split at e)<;>omega
theorem kid_ne {p j:Nat} (hp:isPx p) (hj:j<8):kid p j≠p:=by
  unfold isPx at hp;unfold kid
  split
  · omega
  · split<;>omega
def ixb (b:Nat):Nat:=if b<4 then b else if b<12 then b+2 else b+10
theorem ixb_lt {b:Nat} (h:b<76):ixb b<86:=by unfold ixb;split;omega;split<;>omega
theorem ixb_inj {a b:Nat} (h:ixb a=ixb b):a=b:=by
  unfold ixb at h
  split at h<;>split at h<;>(try split at h)<;>(try split at h)<;>omega
theorem ixb_px {b:Nat} (h:b<76):¬ isPx (ixb b):=by
  unfold ixb isPx
  split
  · omega
  · split<;>omega
def path (b:Nat):List Nat:=if b<4 then [b] else if b<12 then [4,b+2] else [5,14+(b - 12) / 8,b+10]
theorem path_len (b:Nat):(path b).length≤3:=by unfold path;split;simp;split<;>simp
theorem path_last (b:Nat):ixb b∈path b:=by unfold path ixb;split;simp;split<;>simp
def setp (y:D.Nn) (i n:Nat):D.Nn :=
  match i with
  | 0=>{ y with d0:=n } | 1=>{ y with d1:=n } | 2=>{ y with d2:=n } | 3=>{ y with d3:=n } | 4=>{ y with o:=n } | _=>{ y with t:=n }
theorem ptr_setp (y:D.Nn) {i k:Nat} (hi:i<6) (hk:k<6) (n:Nat):(setp y i n).ptr6 k=if k=i then n else y.ptr6 k:=by
  match i,hi with
  | 0,_=>match k,hk with | 0,_=>rfl | 1,_=>rfl | 2,_=>rfl | 3,_=>rfl | 4,_=>rfl | 5,_=>rfl
  | 1,_=>match k,hk with | 0,_=>rfl | 1,_=>rfl | 2,_=>rfl | 3,_=>rfl | 4,_=>rfl | 5,_=>rfl
  | 2,_=>match k,hk with | 0,_=>rfl | 1,_=>rfl | 2,_=>rfl | 3,_=>rfl | 4,_=>rfl | 5,_=>rfl
  | 3,_=>match k,hk with | 0,_=>rfl | 1,_=>rfl | 2,_=>rfl | 3,_=>rfl | 4,_=>rfl | 5,_=>rfl
  | 4,_=>match k,hk with | 0,_=>rfl | 1,_=>rfl | 2,_=>rfl | 3,_=>rfl | 4,_=>rfl | 5,_=>rfl
  | 5,_=>match k,hk with | 0,_=>rfl | 1,_=>rfl | 2,_=>rfl | 3,_=>rfl | 4,_=>rfl | 5,_=>rfl
theorem setp_nums (y:D.Nn) (i n:Nat):(setp y i n).k=y.k∧(setp y i n).l=y.l∧(setp y i n).g=y.g∧(setp y i n).s=y.s∧(setp y i n).c=y.c:=by
  unfold setp
  split<;>exact ⟨rfl,rfl,rfl,rfl,rfl⟩
structure Rep (V:Img) (y:D.Nn) (f:Nat→Nat):Prop where
  top:∀ i,i<6→y.ptr6 i=f i
  some_:∀ p,isPx p→f p≠0→isP (V (f p))∧∀ j,j<8→kn (V (f p)) j=f (kid p j)
  none_:∀ p,isPx p→f p=0→∀ j,j<8→f (kid p j)=0
structure Mid (N:Nat) (G:Nat→Prop) (V:Img) (y:D.Nn) (f:Nat→Nat):Prop where
  rep:Rep V y f
  rng:∀ i,i<86→f i=0∨(43≤f i∧f i<N)
  inj:∀ i j,i<86→j<86→f i=f j→f i≠0→i=j
  mrk:∀ n,43≤n→n<N→(K.bt (V 34) n=true ↔ (∃ i,i<86∧f i=n)∨G n)
  oth:∀ i,i<86→f i≠0→¬ G (f i)
  grng:∀ n,G n→43≤n∧n<N
  ml:(V 34).length=128
  n1:N≤1024
def blkL (C:Nat→UInt8) (b:Nat):List UInt8:=(List.range 128).map fun j=>C (128 * b+j)
theorem blkL_len (C:Nat→UInt8) (b:Nat):(blkL C b).length=128:=by simp [blkL]
theorem blkL_get (C:Nat→UInt8) (b:Nat) {j:Nat} (h:j<128):(blkL C b)[j]?=some (C (128 * b+j)):=by simp [blkL,h]
theorem blkL_zero {C:Nat→UInt8} {b:Nat} (h:∀ j,j<128→C (128 * b+j)=0):blkL C b=zeros:=by
  apply List.ext_getElem?
  intro k
  by_cases hk:k<128
  · rw [blkL_get C b hk,h k hk,zeros,List.getElem?_replicate,if_pos hk]
  · rw [List.getElem?_eq_none (by rw [blkL_len];omega),List.getElem?_eq_none (by rw [zeros,List.length_replicate];omega)]
structure Cont (V:Img) (f:Nat→Nat) (C:Nat→UInt8):Prop where
  yes:∀ b,b<76→f (ixb b)≠0→V (f (ixb b))=blkL C b
  no:∀ b,b<76→f (ixb b)=0→∀ j,j<128→C (128 * b+j)=0
def Fr (f:Nat→Nat) (V V':Img):Prop:=∀ k,k≠34→(∀ i,i<86→f i≠0→f i≠k)→V' k=V k
def Ext (f f':Nat→Nat):Prop:=∀ i,f i≠0→f' i=f i
theorem Ext.refl (f:Nat→Nat):Ext f f:=fun _ _=>rfl
theorem Ext.trans {f g h:Nat→Nat} (a:Ext f g) (b:Ext g h):Ext f h:=fun i hi=>by rw [b i (by rw [a i hi];exact hi),a i hi]
theorem Fr.refl (f:Nat→Nat) (V:Img):Fr f V V:=fun _ _ _=>rfl
theorem Fr.trans {f f':Nat→Nat} {V V' V'':Img} (a:Fr f V V') (b:Fr f' V' V'') (he:Ext f f'):Fr f' V V'':=fun k h1 h2=>by
  rw [b k h1 h2,a k h1 fun i hi h0 e=>h2 i hi (by rw [he i h0];exact h0) (by rw [he i h0];exact e)]
theorem Fr.ext {f f':Nat→Nat} {V V':Img} (a:Fr f V V') (he:Ext f f'):Fr f' V V':=Fr.trans a (Fr.refl _ _) he
theorem Ext.upd {f:Nat→Nat} {i n:Nat} (h:f i=0):Ext f (upd f i n):=fun k hk=>upd_ne f fun e=>hk (by rw [e,h])
theorem Mid.okn {N:Nat} {G:Nat→Prop} {V:Img} {y:D.Nn} {f:Nat→Nat} (h:Mid N G V y f) {i:Nat} (hi:i<86):okn_ (f i):=by
  have:=h.rng i hi;have:=h.n1;unfold okn_;omega
theorem px_lt {p:Nat} (hp:isPx p):p<86:=by unfold isPx at hp;omega
theorem take_top {N:Nat} {G:Nat→Prop} {V V':Img} {y:D.Nn} {f:Nat→Nat} {C:Nat→UInt8} (h:Mid N G V y f) (hc:Cont V f C) {n:Nat} (hn:K.first (V 34) 43 (N - 43)=some n) (hN:43≤N)
    (hV:∀ k,V' k=if n=k then zeros else if 34=k then K.setb (V 34) n true else V k) {ix:Nat} (hi:ix<6) (h0:f ix=0) :
    Mid N G V' (setp y ix n) (upd f ix n)∧Cont V' (upd f ix n) C∧Fr (upd f ix n) V V'∧43≤n∧n<N:=by
  obtain ⟨n1,n2,n3⟩:=K.first_some hn
  have hn34:n≠34:=by omega
  have hun:¬ ((∃ i,i<86∧f i=n)∨G n):=fun hx=>by rw [(h.mrk n n1 (by omega)).2 hx] at n3;cases n3
  have hnf:∀ i,i<86→f i≠n:=fun i hi e=>hun (.inl ⟨i,hi,e⟩)
  have hVo:∀ k,k≠n→k≠34→V' k=V k:=fun k a b=>by rw [hV,if_neg (Ne.symm a),if_neg (Ne.symm b)]
  have hVf:∀ i,i<86→f i≠0→V' (f i)=V (f i):=fun i hi h0=>hVo _ (hnf i hi) (by have:=h.rng i hi;omega)
  have hVn:V' n=zeros:=by rw [hV,if_pos rfl]
  have hV34:V' 34=K.setb (V 34) n true:=by rw [hV,if_neg hn34,if_pos rfl]
  have h8:n<8 * (V 34).length:=by rw [h.ml];have:=h.n1;omega
  refine ⟨⟨⟨fun i hi'=>?_,fun p hp hpn=>?_,fun p hp hpn j hj=>?_⟩,fun i hi'=>?_,fun i j hi' hj e he=>?_,fun k h1 h2=>?_,fun i hi' he=>?_,h.grng,?_,h.n1⟩,⟨fun b hb he=>?_,fun b hb he j hj=>?_⟩,fun k h1 h2=>?_,n1,by omega⟩
  · rw [ptr_setp y hi hi',upd,h.rep.top i hi']
  · by_cases e:p=ix
    · subst e
      rw [upd_at] at hpn ⊢
      rw [hVn]
      refine ⟨isP_zeros,fun j hj=>?_⟩
      rw [kn_zeros,upd_ne _ (kid_ne hp hj),h.rep.none_ p hp h0 j hj]
    · rw [upd_ne _ e] at hpn ⊢
      rw [hVf p (px_lt hp) hpn]
      obtain ⟨a,b⟩:=h.rep.some_ p hp hpn
      exact ⟨a,fun j hj=>by rw [b j hj,upd_ne _ (by have:=kid_lt hp hj;omega)]⟩
  · by_cases e:p=ix
    · subst e;rw [upd_at] at hpn;omega
    · rw [upd_ne _ e] at hpn
      rw [upd_ne _ (by have:=kid_lt hp hj;omega),h.rep.none_ p hp hpn j hj]
  · unfold upd;split
    · right;omega
    · exact h.rng i hi'
  · unfold upd at e he
    split at e<;>split at e
    · omega
    · exact absurd e.symm (hnf j hj)
    · exact absurd e (hnf i hi')
    · rename_i a b;rw [if_neg a] at he;exact h.inj i j hi' hj e he
  · rw [hV34,K.bt_setb _ h8]
    by_cases e:k=n
    · subst e
      rw [if_pos rfl]
      exact ⟨fun _=>.inl ⟨ix,by omega,upd_at f ix k⟩,fun _=>rfl⟩
    · rw [if_neg e,h.mrk k h1 h2]
      constructor
      · rintro (⟨i,a,b⟩ | a)
        · exact .inl ⟨i,a,by rw [upd_ne _ (fun e'=>by rw [e',h0] at b;omega)];exact b⟩
        · exact .inr a
      · rintro (⟨i,a,b⟩ | a)
        · unfold upd at b;split at b
          · exact absurd b.symm e
          · exact .inl ⟨i,a,b⟩
        · exact .inr a
  · unfold upd at he ⊢;split
    · exact fun g=>hun (.inr g)
    · rename_i a;rw [if_neg a] at he;exact h.oth i hi' he
  · rw [hV34,K.setb_length];exact h.ml
  · by_cases e:ixb b=ix
    · rw [e,upd_at,hVn]
      exact (blkL_zero (hc.no b hb (by rw [e];exact h0))).symm
    · rw [upd_ne _ e] at he ⊢
      rw [hVf _ (ixb_lt hb) he]
      exact hc.yes b hb he
  · by_cases e:ixb b=ix
    · rw [e,upd_at] at he;omega
    · rw [upd_ne _ e] at he;exact hc.no b hb he j hj
  · refine hVo k (fun e=>h2 ix (by omega) (by rw [upd_at];omega) (by rw [upd_at];exact e.symm)) h1
theorem take_sub {N:Nat} {G:Nat→Prop} {V V':Img} {y:D.Nn} {f:Nat→Nat} {C:Nat→UInt8} (h:Mid N G V y f) (hc:Cont V f C) {n:Nat} (hn:K.first (V 34) 43 (N - 43)=some n) (hN:43≤N) {p j:Nat} (hp:isPx p) (hj:j<8) (hfp:f p≠0)
    (hV:∀ k,V' k=if f p=k then en (upd (kn (V (f p))) j n) else if n=k then zeros else if 34=k then K.setb (V 34) n true else V k) (h0:f (kid p j)=0) :
    Mid N G V' y (upd f (kid p j) n)∧Cont V' (upd f (kid p j) n) C∧Fr (upd f (kid p j) n) V V'∧43≤n∧n<N:=by
  obtain ⟨n1,n2,n3⟩:=K.first_some hn
  have hn34:n≠34:=by omega
  have hk:=kid_lt hp hj
  have hpl:=px_lt hp
  have hun:¬ ((∃ i,i<86∧f i=n)∨G n):=fun hx=>by rw [(h.mrk n n1 (by omega)).2 hx] at n3;cases n3
  have hnf:∀ i,i<86→f i≠n:=fun i hi e=>hun (.inl ⟨i,hi,e⟩)
  have hp34:f p≠34:=by have:=h.rng p hpl;omega
  have hVo:∀ k,k≠n→k≠34→k≠f p→V' k=V k:=fun k a b c=>by rw [hV,if_neg (Ne.symm c),if_neg (Ne.symm a),if_neg (Ne.symm b)]
  have hVf:∀ i,i<86→i≠p→f i≠0→V' (f i)=V (f i):=fun i hi hip h0=>hVo _ (hnf i hi) (by have:=h.rng i hi;omega) (fun e=>hip (h.inj i p hi hpl e h0))
  have hVn:V' n=zeros:=by rw [hV,if_neg (hnf p hpl),if_pos rfl]
  have hV34:V' 34=K.setb (V 34) n true:=by rw [hV,if_neg hp34,if_neg hn34,if_pos rfl]
  have hVp:V' (f p)=en (upd (kn (V (f p))) j n):=by rw [hV,if_pos rfl]
  have h8:n<8 * (V 34).length:=by rw [h.ml];have:=h.n1;omega
  obtain ⟨a0,b0⟩:=h.rep.some_ p hp hfp
  have hok:∀ i,i<8→okn_ (upd (kn (V (f p))) j n i):=fun i hi=>by
    unfold upd;split
    · have:=h.n1;unfold okn_;omega
    · rw [b0 i hi];exact h.okn (kid_lt hp hi).2
  have kne:∀ q,isPx q→q≠kid p j∨f q=0:=fun q hq=>by
    by_cases e:q=kid p j
    · right;rw [e];exact h0
    · exact .inl e
  refine ⟨⟨⟨fun i hi'=>?_,fun q hq hqn=>?_,fun q hq hqn i hi=>?_⟩,fun i hi'=>?_,fun i i' hi' hj' e he=>?_,fun k h1 h2=>?_,fun i hi' he=>?_,h.grng,?_,h.n1⟩,⟨fun b hb he=>?_,fun b hb he i hi=>?_⟩,fun k h1 h2=>?_,n1,by omega⟩
  · rw [upd_ne _ (by omega),h.rep.top i hi']
  · by_cases e:q=kid p j
    · subst e
      rw [upd_at] at hqn ⊢
      rw [hVn]
      refine ⟨isP_zeros,fun i hi=>?_⟩
      rw [kn_zeros,upd_ne _ (kid_ne hq hi),h.rep.none_ _ hq h0 i hi]
    · rw [upd_ne _ e] at hqn ⊢
      by_cases e2:q=p
      · subst e2
        rw [hVp]
        refine ⟨isP_en hok,fun i hi=>?_⟩
        rw [kn_en hok hi]
        by_cases e3:i=j
        · subst e3;rw [upd_at,upd_at]
        · rw [upd_ne _ e3,upd_ne _ (fun e4=>e3 (kid_inj hp hp hi hj e4).2),b0 i hi]
      · rw [hVf q (px_lt hq) e2 hqn]
        obtain ⟨a,b⟩:=h.rep.some_ q hq hqn
        exact ⟨a,fun i hi=>by rw [b i hi,upd_ne _ (fun e4=>e2 (kid_inj hq hp hi hj e4).1)]⟩
  · by_cases e:q=kid p j
    · subst e;rw [upd_at] at hqn;omega
    · rw [upd_ne _ e] at hqn
      rw [upd_ne _ (fun e4=>hfp (by rw [← (kid_inj hq hp hi hj e4).1];exact hqn)),h.rep.none_ q hq hqn i hi]
  · unfold upd;split
    · right;omega
    · exact h.rng i hi'
  · unfold upd at e he
    split at e<;>split at e
    · omega
    · exact absurd e.symm (hnf i' hj')
    · exact absurd e (hnf i hi')
    · rename_i a b;rw [if_neg a] at he;exact h.inj i i' hi' hj' e he
  · rw [hV34,K.bt_setb _ h8]
    by_cases e:k=n
    · subst e
      rw [if_pos rfl]
      exact ⟨fun _=>.inl ⟨kid p j,hk.2,upd_at f _ k⟩,fun _=>rfl⟩
    · rw [if_neg e,h.mrk k h1 h2]
      constructor
      · rintro (⟨i,a,b⟩ | a)
        · exact .inl ⟨i,a,by rw [upd_ne _ (fun e'=>by rw [e',h0] at b;omega)];exact b⟩
        · exact .inr a
      · rintro (⟨i,a,b⟩ | a)
        · unfold upd at b;split at b
          · exact absurd b.symm e
          · exact .inl ⟨i,a,b⟩
        · exact .inr a
  · unfold upd at he ⊢;split
    · exact fun g=>hun (.inr g)
    · rename_i a;rw [if_neg a] at he;exact h.oth i hi' he
  · rw [hV34,K.setb_length];exact h.ml
  · have hbp:ixb b≠p:=fun e=>ixb_px hb (by rw [e];exact hp)
    by_cases e:ixb b=kid p j
    · rw [e,upd_at,hVn]
      exact (blkL_zero (hc.no b hb (by rw [e];exact h0))).symm
    · rw [upd_ne _ e] at he ⊢
      rw [hVf _ (ixb_lt hb) hbp he]
      exact hc.yes b hb he
  · by_cases e:ixb b=kid p j
    · rw [e,upd_at] at he;omega
    · rw [upd_ne _ e] at he;exact hc.no b hb he i hi
  · refine hVo k (fun e=>h2 _ hk.2 (by rw [upd_at];omega) (by rw [upd_at];exact e.symm)) h1 (fun e=>h2 p hpl (by rw [upd_ne _ (Ne.symm (kid_ne hp hj))];exact hfp) (by rw [upd_ne _ (Ne.symm (kid_ne hp hj))];exact e.symm))
end Go.Proofs.YtkganhafbjgndaaGreatRR.V
namespace Go.Proofs.YtkganhafbjgndaaGreatRR.V
set_option linter.unusedVariables false
def bix (ix:Nat):Nat:=if ix<5 then ix else if ix=5 then 12 else if ix<14 then ix - 2 else if ix<22 then 12+8 * (ix - 14) else ix - 10
theorem bix_ixb {b:Nat} (h:b<76):bix (ixb b)=b:=by
  unfold ixb
  split
  · unfold bix;rw [if_pos (by omega)]
  · split
    · unfold bix;rw [if_neg (by omega),if_neg (by omega),if_pos (by omega)];omega
    · unfold bix;rw [if_neg (by omega),if_neg (by omega),if_neg (by omega),if_neg (by omega)];omega
theorem ixb_bix {i:Nat} (h:i<86) (hp:¬ isPx i):ixb (bix i)=i∧bix i<76:=by
  unfold isPx at hp
  have e:bix i=if i<4 then i else if i<14 then i - 2 else i - 10:=by
    unfold bix
    by_cases h1:i<4
    · rw [if_pos (by omega),if_pos h1]
    · rw [if_neg (by omega),if_neg (by omega),if_neg h1]
      by_cases h2:i<14
      · rw [if_pos h2,if_pos h2]
      · rw [if_neg h2,if_neg h2,if_neg (by omega)]
  rw [e]
  unfold ixb
  by_cases h1:i<4
  · rw [if_pos h1,if_pos h1];omega
  · rw [if_neg h1]
    by_cases h2:i<14
    · rw [if_pos h2,if_neg (by omega),if_pos (by omega)];omega
    · rw [if_neg h2,if_neg (by omega),if_neg (by omega)];omega
def any8 (q:Nat→Nat):Bool:=(List.range 8).any fun j=>q j != 0
theorem any8_iff {q:Nat→Nat}:any8 q=true ↔ ∃ j,j<8∧q j≠0:=by
  unfold any8
  rw [List.any_eq_true]
  constructor
  · rintro ⟨j,hj,h⟩;exact ⟨j,List.mem_range.1 hj,by simpa using h⟩
  · rintro ⟨j,hj,h⟩;exact ⟨j,List.mem_range.2 hj,by simpa using h⟩
theorem any8_not {q:Nat→Nat}:any8 q=false ↔ ∀ j,j<8→q j=0:=by
  rw [← Bool.not_eq_true,any8_iff]
  constructor
  · intro h j hj;exact Decidable.by_contra fun hn=>h ⟨j,hj,hn⟩
  · rintro h ⟨j,hj,hn⟩;exact hn (h j hj)
def cut0 (B:Nat) (f:Nat→Nat) (i:Nat):Nat:=if bix i<B then f i else 0
def cut1 (B:Nat) (f:Nat→Nat) (p:Nat):Nat:=if any8 fun j=>cut0 B f (kid p j) then f p else 0
def cutF (B:Nat) (f:Nat→Nat) (i:Nat):Nat :=
  if i=5 then (if any8 fun j=>cut1 B f (14+j) then f 5 else 0) else if i=4∨(14≤i∧i<22) then cut1 B f i else cut0 B f i
theorem cutF_leaf (B:Nat) (f:Nat→Nat) {i:Nat} (h:¬ isPx i):cutF B f i=if bix i<B then f i else 0:=by
  unfold isPx at h
  unfold cutF
  rw [if_neg (by omega),if_neg (by omega)]
  rfl
theorem cutF_px (B:Nat) (f:Nat→Nat) {p:Nat} (h:isPx p):cutF B f p=if any8 fun j=>cutF B f (kid p j) then f p else 0:=by
  have e:∀ q q':Nat→Nat,(∀ j,j<8→q j=q' j)→any8 q=any8 q':=fun q q' hq=>by
    rw [Bool.eq_iff_iff,any8_iff,any8_iff]
    exact ⟨fun ⟨j,a,b⟩=>⟨j,a,by rw [← hq j a];exact b⟩,fun ⟨j,a,b⟩=>⟨j,a,by rw [hq j a];exact b⟩⟩
  by_cases h5:p=5
  · subst h5
    rw [e (fun j=>cutF B f (kid 5 j)) (fun j=>cut1 B f (14+j)) fun j hj=>by
      show cutF B f (kid 5 j)=_
      rw [show kid 5 j=14+j from rfl]
      unfold cutF
      rw [if_neg (by omega),if_pos (by omega)]]
    unfold cutF
    rw [if_pos rfl]
  · have hp:p=4∨(14≤p∧p<22):=by unfold isPx at h;omega
    rw [e (fun j=>cutF B f (kid p j)) (fun j=>cut0 B f (kid p j)) fun j hj=>by
      refine (cutF_leaf B f fun hx=>?_).trans rfl
      unfold isPx at hx;unfold kid at hx
      by_cases h4:p=4
      · rw [if_pos h4] at hx;omega
      · rw [if_neg h4,if_neg h5] at hx;omega]
    unfold cutF
    rw [if_neg h5,if_pos hp]
    rfl
theorem cutF_or (B:Nat) (f:Nat→Nat) (i:Nat):cutF B f i=f i∨cutF B f i=0:=by
  unfold cutF cut1 cut0
  split
  · next h=>subst h;split;exact .inl rfl;exact .inr rfl
  · split<;>split
    all_goals first | exact .inl rfl | exact .inr rfl
theorem cutF_ne {B:Nat} {f:Nat→Nat} {i:Nat} (h:cutF B f i≠0):cutF B f i=f i:=(cutF_or B f i).resolve_right h
theorem cutF_zero {B:Nat} {f:Nat→Nat} {i:Nat} (h:f i=0):cutF B f i=0:=by rcases cutF_or B f i with e | e;exact e.trans h;exact e
structure CutI (N:Nat) (G:Nat→Prop) (f g:Nat→Nat) (D:Nat→Prop) (V0 V:Img):Prop where
  mrk:∀ n,43≤n→n<N→(K.bt (V 34) n=true ↔ (∃ i,i<86∧f i=n∧¬ (D i∧g i=0))∨G n)
  ml:(V 34).length=128
  don:∀ p,isPx p→D p→g p≠0→isP (V (g p))∧∀ j,j<8→kn (V (g p)) j=g (kid p j)
  yet:∀ p,isPx p→¬ D p→f p≠0→V (f p)=V0 (f p)
  oth:∀ k,k≠34→(∀ p,isPx p→f p≠0→f p≠k)→V k=V0 k
abbrev Node:=D.Nn
section
variable {N B:Nat} {G:Nat→Prop} {f:Nat→Nat} {V0 V V':Img} {y:Node} {D:Nat→Prop} {C:Nat→UInt8}
theorem CutI.start (h:Mid N G V y f) (g:Nat→Nat):CutI N G f g (fun _=>False) V V :=
  ⟨fun n h1 h2=>(h.mrk n h1 h2).trans ⟨fun a=>a.imp (fun ⟨i,a,b⟩=>⟨i,a,b,fun c=>c.1⟩) id,fun a=>a.imp (fun ⟨i,a,b,_⟩=>⟨i,a,b⟩) id⟩,h.ml,fun _ _ d=>d.elim,fun _ _ _ _=>rfl,fun _ _ _=>rfl⟩
theorem CutI.none_ (h:CutI N G f (cutF B f) D V0 V) {D':Nat→Prop} (hD:∀ i,D i→D' i) (hz:∀ i,D' i→D i∨f i=0):CutI N G f (cutF B f) D' V0 V :=
  ⟨fun n h1 h2=>(h.mrk n h1 h2).trans ⟨fun a=>a.imp (fun ⟨i,a,b,c⟩=>⟨i,a,b,fun d=>(hz i d.1).elim (fun e=>c ⟨e,d.2⟩) (fun e=>by omega)⟩) id,
    fun a=>a.imp (fun ⟨i,a,b,c⟩=>⟨i,a,b,fun d=>c ⟨hD i d.1,d.2⟩⟩) id⟩,h.ml,
   fun p hp d e=>(hz p d).elim (fun d=>h.don p hp d e) (fun z=>absurd (cutF_zero z) e),fun p hp d e=>h.yet p hp (fun x=>d (hD p x)) e,h.oth⟩
theorem CutI.give (hm:Mid N G V0 y f) (h:CutI N G f (cutF B f) D V0 V) {ix:Nat} (hi:ix<86) (hd:¬ D ix) (h0:f ix≠0) (hg:cutF B f ix=0)
    (hV:∀ k,V' k=if 34=k then K.setb (V 34) (f ix) false else V k):CutI N G f (cutF B f) (fun i=>D i∨i=ix) V0 V':=by
  have hr:=hm.rng ix hi
  have hn1:=hm.n1
  have hV34:V' 34=K.setb (V 34) (f ix) false:=by rw [hV,if_pos rfl]
  have hVo:∀ k,k≠34→V' k=V k:=fun k hk=>by rw [hV,if_neg (Ne.symm hk)]
  have hf34:∀ i,i<86→f i≠34:=fun i hi=>by have:=hm.rng i hi;omega
  refine ⟨fun n h1 h2=>?_,by rw [hV34,K.setb_length];exact h.ml,fun p hp d e=>?_,fun p hp d e=>?_,fun k h1 h2=>?_⟩
  · rw [hV34,K.bt_setb _ (by rw [h.ml];omega)]
    by_cases e:n=f ix
    · rw [if_pos e]
      refine ⟨fun x=>by simp at x,?_⟩
      rintro (⟨i,a,b,c⟩ | a)
      · exact absurd ⟨.inr (hm.inj i ix a hi (by omega) (by omega)),by rw [hm.inj i ix a hi (by omega) (by omega)];exact hg⟩ c
      · exact absurd (e ▸ a) (hm.oth ix hi h0)
    · rw [if_neg e,h.mrk n h1 h2]
      constructor
      · rintro (⟨i,a,b,c⟩ | a)
        · exact .inl ⟨i,a,b,fun d=>d.1.elim (fun x=>c ⟨x,d.2⟩) (fun x=>e (by rw [← b,x]))⟩
        · exact .inr a
      · rintro (⟨i,a,b,c⟩ | a)
        · exact .inl ⟨i,a,b,fun d=>c ⟨.inl d.1,d.2⟩⟩
        · exact .inr a
  · rcases d with d | d
    · rw [hVo _ (by rw [cutF_ne e];exact hf34 p (px_lt hp))];exact h.don p hp d e
    · exact absurd (d ▸ hg) e
  · rw [hVo _ (hf34 p (px_lt hp))];exact h.yet p hp (fun x=>d (.inl x)) e
  · rw [hVo k h1];exact h.oth k h1 h2
theorem CutI.stay (hm:Mid N G V0 y f) (h:CutI N G f (cutF B f) D V0 V) {ix:Nat} (hi:ix<86) (hd:¬ D ix) (hg:cutF B f ix≠0)
    (hs:isPx ix→∀ j,j<8→cutF B f (kid ix j)=f (kid ix j)):CutI N G f (cutF B f) (fun i=>D i∨i=ix) V0 V:=by
  refine ⟨fun n h1 h2=>(h.mrk n h1 h2).trans ⟨fun a=>a.imp (fun ⟨i,a,b,c⟩=>⟨i,a,b,fun d=>d.1.elim (fun x=>c ⟨x,d.2⟩) (fun x=>hg (x ▸ d.2))⟩) id,
    fun a=>a.imp (fun ⟨i,a,b,c⟩=>⟨i,a,b,fun d=>c ⟨.inl d.1,d.2⟩⟩) id⟩,h.ml,fun p hp d e=>?_,fun p hp d e=>h.yet p hp (fun x=>d (.inl x)) e,h.oth⟩
  rcases d with d | d
  · exact h.don p hp d e
  · subst d
    have e0:=cutF_ne hg
    rw [e0,h.yet p hp hd (by rw [← e0];exact hg)]
    obtain ⟨a,b⟩:=hm.rep.some_ p hp (by rw [← e0];exact hg)
    exact ⟨a,fun j hj=>by rw [b j hj,hs hp j hj]⟩
theorem CutI.puts (hm:Mid N G V0 y f) (h:CutI N G f (cutF B f) D V0 V) {ix:Nat} (hp:isPx ix) (hd:¬ D ix) (hg:cutF B f ix≠0)
    (hV:∀ k,V' k=if f ix=k then en (fun j=>cutF B f (kid ix j)) else V k):CutI N G f (cutF B f) (fun i=>D i∨i=ix) V0 V':=by
  have e0:=cutF_ne hg
  have h0:f ix≠0:=by rw [← e0];exact hg
  have hr:=hm.rng ix (px_lt hp)
  have hV34:V' 34=V 34:=by rw [hV,if_neg (by omega)]
  have hok:∀ j,j<8→okn_ (cutF B f (kid ix j)):=fun j hj=>by
    rcases cutF_or B f (kid ix j) with e | e
    · rw [e];exact hm.okn (kid_lt hp hj).2
    · exact .inl e
  refine ⟨fun n h1 h2=>?_,by rw [hV34];exact h.ml,fun p hp' d e=>?_,fun p hp' d e=>?_,fun k h1 h2=>?_⟩
  · rw [hV34]
    exact (h.mrk n h1 h2).trans ⟨fun a=>a.imp (fun ⟨i,a,b,c⟩=>⟨i,a,b,fun d=>d.1.elim (fun x=>c ⟨x,d.2⟩) (fun x=>hg (x ▸ d.2))⟩) id,
      fun a=>a.imp (fun ⟨i,a,b,c⟩=>⟨i,a,b,fun d=>c ⟨.inl d.1,d.2⟩⟩) id⟩
  · by_cases e1:p=ix
    · subst e1
      rw [e0,hV,if_pos rfl]
      exact ⟨isP_en hok,fun j hj=>kn_en hok hj⟩
    · have e2:=cutF_ne e
      rw [e2,hV,if_neg (fun x=>e1 (hm.inj ix p (px_lt hp) (px_lt hp') x h0).symm),← e2]
      rcases d with d | d
      · exact h.don p hp' d e
      · exact absurd d e1
  · have e1:p≠ix:=fun x=>d (.inr x)
    rw [hV,if_neg (fun x=>e1 (hm.inj ix p (px_lt hp) (px_lt hp') x h0).symm)]
    exact h.yet p hp' (fun x=>d (.inl x)) e
  · rw [hV,if_neg (h2 ix hp h0)]
    exact h.oth k h1 h2
theorem CutI.end_ (hm:Mid N G V0 y f) (hc:Cont V0 f C) (h:CutI N G f (cutF B f) D V0 V) (hD:∀ i,i<86→D i) {y':Node} (hy:∀ i,i<6→y'.ptr6 i=cutF B f i) :
    Mid N G V y' (cutF B f)∧Cont V (cutF B f) (fun i=>if i<128 * B then C i else 0)∧Fr f V0 V∧∀ p,isPx p→cutF B f p≠0→∃ j,j<8∧cutF B f (kid p j)≠0:=by
  have hfr:Fr f V0 V:=fun k h1 h2=>h.oth k h1 fun p hp h0 e=>h2 p (px_lt hp) h0 e
  refine ⟨⟨⟨hy,fun p hp e=>h.don p hp (hD p (px_lt hp)) e,fun p hp e j hj=>?_⟩,fun i hi=>?_,fun i j hi hj e e0=>?_,fun n h1 h2=>?_,fun i hi e=>?_,hm.grng,h.ml,hm.n1⟩,⟨fun b hb e=>?_,fun b hb e j hj=>?_⟩,hfr,fun p hp e=>?_⟩
  · rw [cutF_px B f hp] at e
    by_cases ha:any8 (fun j=>cutF B f (kid p j))=true
    · rw [if_pos ha] at e
      exact cutF_zero (hm.rep.none_ p hp e j hj)
    · exact any8_not.1 (by simpa using ha) j hj
  · rcases cutF_or B f i with e | e
    · rw [e];exact hm.rng i hi
    · exact .inl e
  · have e1:=cutF_ne e0
    have e2:=cutF_ne (e ▸ e0:cutF B f j≠0)
    exact hm.inj i j hi hj (by rw [← e1,← e2];exact e) (by rw [← e1];exact e0)
  · rw [h.mrk n h1 h2]
    constructor
    · rintro (⟨i,a,b,c⟩ | a)
      · have:cutF B f i≠0:=fun z=>c ⟨hD i a,z⟩
        exact .inl ⟨i,a,by rw [cutF_ne this];exact b⟩
      · exact .inr a
    · rintro (⟨i,a,b⟩ | a)
      · have:cutF B f i≠0:=by omega
        exact .inl ⟨i,a,by rw [← cutF_ne this];exact b,fun z=>this z.2⟩
      · exact .inr a
  · have e1:=cutF_ne e
    rw [e1] at e ⊢
    exact hm.oth i hi e
  · have e1:=cutF_ne e
    have hl:=ixb_px hb
    rw [cutF_leaf B f hl,bix_ixb hb] at e
    have hbB:b<B:=by
      by_cases x:b<B
      · exact x
      · rw [if_neg x] at e;exact absurd rfl e
    rw [if_pos hbB] at e
    have h34:f (ixb b)≠34:=by have:=hm.rng (ixb b) (ixb_lt hb);omega
    rw [e1,h.oth _ h34 fun p hp h0 x=>hl ((hm.inj p (ixb b) (px_lt hp) (ixb_lt hb) x h0) ▸ hp),hc.yes b hb e]
    apply List.ext_getElem?
    intro k
    by_cases hk:k<128
    · rw [blkL_get _ _ hk,blkL_get _ _ hk,if_pos (by omega)]
    · rw [List.getElem?_eq_none (by rw [blkL_len];omega),List.getElem?_eq_none (by rw [blkL_len];omega)]
  · show (if 128 * b+j<128 * B then C (128 * b+j) else 0)=0
    split
    · rw [cutF_leaf B f (ixb_px hb),bix_ixb hb,if_pos (by omega)] at e
      exact hc.no b hb e j hj
    · rfl
  · rw [cutF_px B f hp] at e
    by_cases ha:any8 (fun j=>cutF B f (kid p j))=true
    · exact any8_iff.1 ha
    · rw [if_neg ha] at e;exact absurd rfl e
end
end Go.Proofs.YtkganhafbjgndaaGreatRR.V
namespace Go.Proofs.YtkganhafbjgndaaGreatRR.V
open Go.RowKit
set_option linter.unusedVariables false
set_option maxRecDepth 20000
def fc (p nn:Nat) (y:D.Nn):List Value:=.pointer (some ⟨p,0,none⟩) :: .int .i64 (nn:Int) :: D.nc y.up
def Fil (w:World) (bf p nn:Nat) (y:D.Nn):Prop:=w.heap[bf]?=some (.cells (fc p nn y).toArray 86 (0,0))
theorem Fil.lt {w:World} {bf p nn:Nat} {y:D.Nn} (h:Fil w bf p nn y):bf<w.heap.size:=(Array.getElem?_eq_some_iff.1 h).1
theorem Fil.keep {w w':World} {bf p nn:Nat} {y:D.Nn} (h:Fil w bf p nn y) (he:w'.heap[bf]?=w.heap[bf]?):Fil w' bf p nn y:=he.trans h
theorem Fil.below {w w':World} {bf p nn:Nat} {y:D.Nn} (h:Fil w bf p nn y) (hb:Below w.heap.size w w'):Fil w' bf p nn y:=h.keep (hb.block bf h.lt)
theorem Fil.c0 {w:World} {bf p nn:Nat} {y:D.Nn} (h:Fil w bf p nn y):w.cell? ⟨bf,0,none⟩=some (.pointer (some ⟨p,0,none⟩)):=cell_of_row _ _ 0 _ _ _ h
theorem Fil.c1 {w:World} {bf p nn:Nat} {y:D.Nn} (h:Fil w bf p nn y):w.cell? ⟨bf,1,none⟩=some (.int .i64 (nn:Int)):=cell_of_row _ _ 1 _ _ _ h
theorem Fil.c5 {w:World} {bf p nn:Nat} {y:D.Nn} (h:Fil w bf p nn y):w.cell? ⟨bf,5,none⟩=some (.int .i64 (y.s:Int)):=cell_of_row _ _ 5 _ _ _ h
theorem Fil.c6 {w:World} {bf p nn:Nat} {y:D.Nn} (h:Fil w bf p nn y):w.cell? ⟨bf,6,none⟩=some (.int .i64 (y.c:Int)):=cell_of_row _ _ 6 _ _ _ h
theorem Fil.ptr {w:World} {bf p nn:Nat} {y:D.Nn} (h:Fil w bf p nn y) {i:Nat} (hi:i<6):w.cell? ⟨bf,7+i,none⟩=some (.int .i64 (y.ptr6 i:Int)):=by
  match i,hi with
  | 0,_=>exact cell_of_row _ _ 7 _ _ _ h
  | 1,_=>exact cell_of_row _ _ 8 _ _ _ h
  | 2,_=>exact cell_of_row _ _ 9 _ _ _ h
  | 3,_=>exact cell_of_row _ _ 10 _ _ _ h
  | 4,_=>exact cell_of_row _ _ 11 _ _ _ h
  | 5,_=>exact cell_of_row _ _ 12 _ _ _ h
theorem Fil.free {w:World} {bf p nn:Nat} {y:D.Nn} (h:Fil w bf p nn y) (i:Nat):w.frozen? ⟨bf,i,none⟩=false:=F.free_in h i
theorem Fil.setp {w:World} {bf p nn:Nat} {y:D.Nn} (h:Fil w bf p nn y) {i:Nat} (hi:i<6) (n:Nat):Fil (w.setCell ⟨bf,7+i,none⟩ (.int .i64 (n:Int))) bf p nn (setp y i n):=by
  refine (F.heap_set h (7+i) _).trans ?_
  match i,hi with
  | 0,_=>rfl
  | 1,_=>rfl
  | 2,_=>rfl
  | 3,_=>rfl
  | 4,_=>rfl
  | 5,_=>rfl
theorem wpList_build3_run {P:Program} {ops:Array Oper} {rest:List Oper} {o:Oper} {a:Act} {w:World} {Q:Exit→Act→World→Prop} (hgd:o.guard=none) (t:TypeId) (x y z:Operand) (ho:o.op=.build t #[(0,x),(1,y),(2,z)])
    (u u' u'':Value) (hv:a.eval x=u) (hv':a.eval y=u') (hv'':a.eval z=u'') (v:Value) (hr:(Instr.build t #[(0,u),(1,u'),(2,u'')]).run P w=.ok v w) (h:wpList P ops Q rest (a.put o.dst v) w):wpList P ops Q (o :: rest) a w :=
  wpList_plain hgd fun K hK=>by
    unfold Oper.wp execOp
    simp only [ho,Sem.run_bind,List.map_toArray,List.map_cons,List.map_nil,hv,hv',hv'',hr,Result.andThen_ok]
    exact hK _ _ h
theorem box_run {P:Program} (t:TypeId) (cs:Array Value) (w:World):(Instr.box t (.agg cs)).run P w=.ok (.pointer (some ⟨w.heap.size,0,none⟩)) (w.alloc (.cells cs t)):=by rfl
theorem wpList_box_run {P:Program} {ops:Array Oper} {rest:List Oper} {o:Oper} {a:Act} {w:World} {Q:Exit→Act→World→Prop} (hgd:o.guard=none) (t:TypeId) (x:Operand) (ho:o.op=.box t x) (cs:Array Value)
    (hv:a.eval x=.agg cs) (h:wpList P ops Q rest (a.put o.dst (.pointer (some ⟨w.heap.size,0,none⟩))) (w.alloc (.cells cs t))):wpList P ops Q (o :: rest) a w :=
  wpList_plain hgd fun K hK=>by
    unfold Oper.wp execOp
    simp only [ho,Sem.run_bind,hv,box_run,Result.andThen_ok]
    exact hK _ _ h
section
variable {w0 w:World} {p d N q:Nat} {O:List Nat} {s:DS} {X:Secs2} {m:List Wr}
def OpenR (w:World) (p nn:Nat) (y:D.Nn) (e:Ending) (w':World):Prop:=∃ bf,e=.returned (.tuple #[.pointer (some ⟨bf,0,none⟩),.int .i64 0])∧Fil w' bf p nn y∧w.heap.size≤bf∧Below w.heap.size w w'
set_option maxHeartbeats 1000000 in
theorem open_yes {nn:Nat} {y:D.Nn} (hn:Calls Tryz.prog 30 #[.pointer (some ⟨p,0,none⟩),.int .i64 nn] w (NodeR w y)) (hk:y.k≠0) :
    Calls Tryz.prog 41 #[.pointer (some ⟨p,0,none⟩),.int .i64 nn] w (OpenR w p nn y):=by
  have HN:=Lib.hid hn
  have HK:Hid ((y.up.k == 0)=false):=by show _=_;rw [beq_eq_false_iff_ne];show (y.k:Int)≠0;omega
  clear hn hk
  go_enter Tryz.func41,Tryz.ntmps41
  go_wp2_with fail
  refine HN.out.mono ?_
  rintro e w1 ⟨rfl,hb⟩
  obtain ⟨b0,b1,b2⟩:=D.box1 w1 (Obj.cells (D.nc y.up).toArray 66)
  have B0:=Lib.hid b0
  have HB:=Lib.hid (hb.trans (b1.mono hb.size))
  have hs:w.heap.size≤w1.heap.size:=hb.size
  clear hb b0 b1
  go_upto_region 2 with (first | (refine wpList_store_new rfl 66 _ _ rfl w1 D.z11 (D.nc y.up).toArray rfl rfl s47 rfl (all_oneCell_toArray (D.nc_one _)) ?_) | fail)
  have hWs:w.heap.size≤(w1.alloc (Obj.cells (D.nc y.up).toArray 66)).heap.size:=HB.out.size
  clear b2
  generalize w1.alloc (Obj.cells (D.nc y.up).toArray 66)=W at *
  have c0:W.cell? ⟨w1.heap.size,0,none⟩=some (.int .i64 y.up.k):=cell_of_row _ _ 0 _ _ _ B0.out
  have hk:=HK.out
  go_upto_region 6 with fail
  clear c0 hk
  have hbd:∀ W,(Instr.build 86 #[(0,.pointer (some ⟨p,0,none⟩)),(1,.int .i64 (nn:Int)),(2,.agg (D.nc y.up).toArray)]).run Tryz.prog W=.ok (.agg (fc p nn y).toArray) W:=fun W=>run_build W 86 _ _ (by kernel_rfl)
  obtain ⟨cs,hcs⟩:∃ cs,(fc p nn y).toArray=cs:=⟨_,rfl⟩
  rw [hcs] at hbd
  have HCS:=Lib.hid hcs
  clear hcs
  go_wp2_with (first | (refine wpList_build3_run (by exact rfl) 86 _ _ _ (by exact rfl) (.pointer (some ⟨p,0,none⟩)) (.int .i64 (nn:Int)) (.agg (D.nc y.up).toArray) (by exact rfl) (by exact rfl) (by exact rfl) _ (hbd _) ?_) | (refine wpList_box_run (by exact rfl) 86 _ (by exact rfl) cs (by exact rfl) ?_) | (refine D.wpList_load_row rfl 66 _ rfl w1.heap.size rfl _ _ _ B0.out _ Tryz.underlying66 rfl s47 ?_) | fail)
  go_ret2
  refine ⟨W.heap.size,rfl,?_,hWs,HB.out.trans ((Below.refl _ W).alloc hWs _)⟩
  have e:=heap_alloc_new W (.cells cs 86)
  unfold Fil
  rw [HCS.out]
  exact e
def Errs (w:World) (er:Int) (e:Ending) (w':World):Prop:=e=.returned (.tuple #[.pointer none,.int .i64 er])∧Below w.heap.size w w'
theorem field_yes {bf:Nat} {i:Nat} (hi:i<6):Calls Tryz.prog 166 #[.pointer (some ⟨bf,0,none⟩),.int .i64 i] w fun e w'=>e=.returned (.pointer (some ⟨bf,7+i,none⟩))∧w=w':=by
  match i,hi with
  | 0,_ =>
    rw [show ((0:Nat):Int)=0 from rfl]
    go_enter Tryz.func166,Tryz.ntmps166
    go_wp2
    go_ret
    exact ⟨rfl,rfl⟩
  | 1,_ =>
    rw [show ((1:Nat):Int)=1 from rfl]
    go_enter Tryz.func166,Tryz.ntmps166
    go_wp2
    go_ret
    exact ⟨rfl,rfl⟩
  | 2,_ =>
    rw [show ((2:Nat):Int)=2 from rfl]
    go_enter Tryz.func166,Tryz.ntmps166
    go_wp2
    go_ret
    exact ⟨rfl,rfl⟩
  | 3,_ =>
    rw [show ((3:Nat):Int)=3 from rfl]
    go_enter Tryz.func166,Tryz.ntmps166
    go_wp2
    go_ret
    exact ⟨rfl,rfl⟩
  | 4,_ =>
    rw [show ((4:Nat):Int)=4 from rfl]
    go_enter Tryz.func166,Tryz.ntmps166
    go_wp2
    go_ret
    exact ⟨rfl,rfl⟩
  | 5,_ =>
    rw [show ((5:Nat):Int)=5 from rfl]
    go_enter Tryz.func166,Tryz.ntmps166
    go_wp2
    go_ret
    exact ⟨rfl,rfl⟩
def Lst (w:World) (L:Nat) (g:Nat→Nat):Prop:=w.heap[L]?=some (.cells ((pl g).map T.iv).toArray 3 (0,0))
def PtrR (w:World) (g:Nat→Nat) (e:Ending) (w':World):Prop:=∃ L,e=.returned (.tuple #[.slice (some ⟨L,0,none⟩) 8 8,.int .i64 0])∧Lst w' L g∧w.heap.size≤L∧Below w.heap.size w w'
set_option maxHeartbeats 1000000 in
theorem pointers_yes {bf n:Nat} {q:Nat} (h:Sto w0 w p d O N s X q m) (hf:w.cell? ⟨bf,0,none⟩=some (.pointer (some ⟨p,0,none⟩))) (hn:43≤n) (hN:n<N) (hp:isP (view X m n)) :
    Calls Tryz.prog 168 #[.pointer (some ⟨bf,0,none⟩),.int .i64 n] w (PtrR w (kn (view X m n))):=by
  have HV:=Lib.hid (h.view_len hN (by unfold inLog;omega))
  have HG:=Lib.hid (get_any h (n:=n) hN (by unfold inLog;omega))
  have HP:=Lib.hid hp
  clear h hp
  generalize view X m n=v at *
  go_enter Tryz.func168,Tryz.ntmps168
  go_wp2_with fail
  refine HG.out.mono ?_
  rintro e w1 ⟨b,rfl,hb1,hb2,hb3⟩
  have HB:Hid (T.Bts w1 w1.heap.size (some ⟨b,0,none⟩) 128 128 v):=let f:=fb hb2 HV.out;⟨f.len,f.cap,f.lim,f.nil,f.at_⟩
  have HB1:=Lib.hid hb3
  clear hb1 hb2 hb3 hf
  go_wp2_with fail
  refine (T.dec_128 HB.out (Nat.le_refl _)).mono ?_
  rw [show T.isPt v=_ from HP.out]
  rintro e w2 ⟨g,rfl,_,hb,hg,hrow⟩
  have HB2:=Lib.hid (HB1.out.trans (hb.mono HB1.out.size))
  have HR:=Lib.hid hrow
  have hg':w.heap.size≤g:=Nat.le_trans HB1.out.size hg
  clear hb hrow
  go_wp2_with fail
  go_ret2
  exact ⟨g,rfl,HR.out,hg',HB2.out⟩
theorem tb_ne {w:World} {q n c g:Nat} {l:List UInt8} {B:Nat} (h:T.Bts w B (some ⟨g,0,none⟩) n c l) (hn:0<n) (hq:MapAt w q m):Bts w (IM g) (some ⟨g,0,none⟩) n c l∧g≠q∧g<w.heap.size :=
  let k:K.Bts w B (some ⟨g,0,none⟩) n c l:=⟨h.len,h.cap,h.lim,h.nil,h.at_⟩
  ⟨kbts k,kbts_ne k hn hq⟩
theorem Lst.ints {w:World} {L:Nat} {g:Nat→Nat} (h:Lst w L g):T.Ints w w.heap.size (some ⟨L,0,none⟩) 8 8 (pl g) :=
  ⟨pl_len g,Nat.le_refl _,by unfold maxLen;omega,fun _=>⟨L,0,rfl,(Array.getElem?_eq_some_iff.1 h).1,fun j hj=>by
    rw [Nat.zero_add,T.cell_in h,pl_getD g hj];simp [pl_get g hj,T.iv]⟩⟩
set_option maxHeartbeats 1000000 in
theorem setPointers_yes {bf n:Nat} {q:Nat} {g:Nat→Nat} {L:Nat} (h:Sto w0 w p d O N s X q m) (hf:w.cell? ⟨bf,0,none⟩=some (.pointer (some ⟨p,0,none⟩))) (hbf:bf<w.heap.size) (hn:43≤n) (hN:n<N) (hl:Lst w L g) (hok:∀ j,j<8→okn_ (g j)) (hr:find m n≠none∨m.length<24) :
    Calls Tryz.prog 170 #[.pointer (some ⟨bf,0,none⟩),.int .i64 n,.slice (some ⟨L,0,none⟩) 8 8] w (Put1 w0 w p d O N s X q (ins n (en g) m)):=by
  have H:=Lib.hid h
  have HE:=Lib.hid (T.enc_eight hl.ints (Nat.le_refl _))
  rw [T.isEnc_yes (okl_pl hok)] at HE
  have HF:=Lib.hid hf
  have HR:=Lib.hid hr
  clear h hf hl hr
  go_enter Tryz.func170,Tryz.ntmps170
  go_wp2_with fail
  refine HE.out.mono ?_
  rintro e w1 ⟨b,rfl,hb,hbel⟩
  have H1:=Lib.hid (H.out.below hbel)
  obtain ⟨b1,b2,b3⟩:=tb_ne hb (by omega) H1.out.map
  have HB:=Lib.hid b1
  have HB1:=Lib.hid hbel
  have hf1:=(hbel.cell (p:=⟨bf,0,none⟩) hbf).trans HF.out
  clear hb hbel b1
  go_wp2_with fail
  refine (put_yes (n:=n) H1.out hN (by unfold inLog;omega) HB.out (fun b hb=>by cases hb;exact ⟨b3,b2⟩) HR.out).mono ?_
  rintro e w2 ⟨rfl,hs,hc⟩
  have HS:=Lib.hid hs
  have HC:=Lib.hid ((Chg.of_below HB1.out).tr hc)
  clear hs hc
  go_wp2_with fail
  go_ret
  exact ⟨rfl,HS.out,HC.out⟩
end
end Go.Proofs.YtkganhafbjgndaaGreatRR.V
namespace Go.Proofs.YtkganhafbjgndaaGreatRR.V
open Go.RowKit
set_option linter.unusedVariables false
set_option maxRecDepth 20000
theorem nodup_len {α:Type} [DecidableEq α]:∀ {l L:List α},l.Nodup→(∀ x∈l,x∈L)→l.length≤L.length
  | [],L,_,_=>Nat.zero_le _
  | a :: r,L,hn,hs=>by
    obtain ⟨ha,hr⟩:=List.nodup_cons.1 hn
    have:=nodup_len (l:=r) (L:=L.erase a) hr fun x hx=>(List.mem_erase_of_ne fun e=>ha (by rw [← e];exact hx)).2 (hs x (by simp [hx]))
    have hl:=List.length_erase_of_mem (hs a (by simp))
    have h0:0<L.length:=List.length_pos_of_mem (hs a (by simp))
    simp only [List.length_cons]
    omega
def keys (m:List Wr):List Int:=m.map (·.1)
theorem mem_keys_ins {k k':Int} {x:List UInt8} {m:List Wr} (h:k'∈keys (ins k x m)):k'=k∨k'∈keys m:=by
  obtain ⟨p,hp,rfl⟩:=List.mem_map.1 h
  unfold ins at hp
  rcases (insW_mem _ _ _).1 hp with rfl | hp
  · exact .inl rfl
  · exact .inr (List.mem_map.2 ⟨p,(List.mem_filter.1 hp).1,rfl⟩)
theorem keys_nodup {m:List Wr} (h:Rising m):(keys m).Nodup :=
  List.pairwise_map.2 (List.Pairwise.imp (fun {a b} hab=>by show a.1≠b.1;omega) h)
theorem keys_none {m:List Wr} {k:Int} (h:find m k=none):k∉keys m:=fun hk=>by
  obtain ⟨p,hp,e⟩:=List.mem_map.1 hk
  exact find_none_iff.1 h p hp e
structure Bud (low:List Int) (Tx:List Nat) (m:List Wr) (f:Nat→Nat):Prop where
  keys:∀ k∈keys m,k∈low∨∃ i∈Tx,f i≠0∧k=(f i:Int)
  len:low.length+Tx.length≤24
  m34:(34:Int)∈low
theorem Bud.sub {low:List Int} {Tx:List Nat} {m:List Wr} {f:Nat→Nat} (h:Bud low Tx m f):∀ k∈V.keys m,k∈low++Tx.map fun i=>(f i:Int):=fun k hk=>by
  rcases h.keys k hk with a | ⟨i,a,_,b⟩
  · exact List.mem_append_left _ a
  · exact List.mem_append_right _ (List.mem_map.2 ⟨i,a,b.symm⟩)
theorem Bud.ext {low:List Int} {Tx:List Nat} {m:List Wr} {f f':Nat→Nat} (h:Bud low Tx m f) (he:Ext f f'):Bud low Tx m f' :=
  ⟨fun k hk=>(h.keys k hk).imp id fun ⟨i,a,b,c⟩=>⟨i,a,by rw [he i b];exact b,by rw [he i b];exact c⟩,h.len,h.m34⟩
theorem Bud.ins {low:List Int} {Tx:List Nat} {m:List Wr} {f:Nat→Nat} (h:Bud low Tx m f) {k:Int} (x:List UInt8) (hk:k∈low∨∃ i∈Tx,f i≠0∧k=(f i:Int)):Bud low Tx (ins k x m) f :=
  ⟨fun k' hk'=>by rcases mem_keys_ins hk' with rfl | a;exact hk;exact h.keys k' a,h.len,h.m34⟩
theorem Bud.room {low:List Int} {Tx:List Nat} {m:List Wr} {f:Nat→Nat} (h:Bud low Tx m f) (hr:Rising m) {k:Int} (hk:k∈low∨∃ i∈Tx,f i≠0∧k=(f i:Int)):find m k≠none∨m.length<24:=by
  by_cases hf:find m k=none
  · right
    have hn:(k :: V.keys m).Nodup:=List.nodup_cons.2 ⟨keys_none hf,keys_nodup hr⟩
    have:=nodup_len hn (L:=low++Tx.map fun i=>(f i:Int)) fun x hx=>by
      rcases List.mem_cons.1 hx with rfl | hx
      · rcases hk with a | ⟨i,a,_,b⟩
        · exact List.mem_append_left _ a
        · exact List.mem_append_right _ (List.mem_map.2 ⟨i,a,b.symm⟩)
      · exact h.sub x hx
    have hl:=h.len
    simp [V.keys] at this
    omega
  · exact .inl hf
theorem Bud.room2 {low:List Int} {Tx:List Nat} {m:List Wr} {f:Nat→Nat} {N:Nat} (h:Bud low Tx m f) (hm:MOk N m) (hN:N≤1024) (h64:64≤N) {n:Nat} (h43:43≤n) (hn:n<N) {ix:Nat} (hix:ix∈Tx) (he:f ix=n) {a b:List UInt8} (ha:a.length=128) (hb:b.length=128):Room N m [(34,a),((n:Int),b)]:=by
  have h0:f ix≠0:=by omega
  refine ⟨hm,fun p hp=>?_,?_⟩
  · simp at hp
    rcases hp with rfl | rfl
    · exact ⟨okn_of hN (n:=34) (by omega) (by unfold inLog;omega),by show (34:Int)<N;omega,ha⟩
    · exact ⟨okn_of hN (n:=n) hn (by unfold inLog;omega),by show (n:Int)<N;omega,hb⟩
  · have hl:=h.len
    have r1:=h.room hm.rise (k:=34) (.inl h.m34)
    have r2:=h.room hm.rise (k:=(n:Int)) (.inr ⟨ix,hix,h0,by rw [he]⟩)
    have hml:=hm.len
    unfold newk
    cases e1:find m 34 with
    | some z1 =>
      cases e2:find m (n:Int) with
      | some z2=>simp [e1,e2];omega
      | none=>simp [e1,e2];rcases r2 with r | r;exact absurd e2 r;omega
    | none =>
      cases e2:find m (n:Int) with
      | some z2=>simp [e1,e2];rcases r1 with r | r;exact absurd e1 r;omega
      | none =>
        simp [e1,e2]
        have hnd:((34:Int) :: (n:Int) :: V.keys m).Nodup:=List.nodup_cons.2 ⟨fun hx=>by
            rcases List.mem_cons.1 hx with e | hx
            · omega
            · exact keys_none e1 hx,List.nodup_cons.2 ⟨keys_none e2,keys_nodup hm.rise⟩⟩
        have:=nodup_len hnd (L:=low++Tx.map fun i=>(f i:Int)) fun x hx=>by
          rcases List.mem_cons.1 hx with rfl | hx
          · exact List.mem_append_left _ h.m34
          · rcases List.mem_cons.1 hx with rfl | hx
            · exact List.mem_append_right _ (List.mem_map.2 ⟨ix,hix,by rw [he]⟩)
            · exact h.sub x hx
        simp [V.keys] at this
        omega
theorem view_two (X:Secs2) (m:List Wr) (a:List UInt8) (n:Nat) (b:List UInt8) (k:Nat):view X (insAll [(34,a),((n:Int),b)] m) k=if n=k then b else if 34=k then a else view X m k:=by
  show view X (ins (n:Int) b (ins ((34:Nat):Int) a m)) k=_
  rw [view_ins,view_ins]
structure Op (w0 w:World) (p d N q bf nn:Nat) (O:List Nat) (s:DS) (X:Secs2) (m:List Wr) (G:Nat→Prop) (y:D.Nn) (f:Nat→Nat) (C:Nat→UInt8) (low:List Int) (Tx:List Nat):Prop where
  sto:Sto w0 w p d O N s X q m
  fil:Fil w bf p nn y
  mid:Mid N G (view X m) y f
  con:Cont (view X m) f C
  bud:Bud low Tx m f
  bfO:bf∉O
  bfp:bf≠p
  bfq:bf≠q
  bf0:w0.heap.size≤bf
section
variable {w0 w w':World} {p d N q bf nn:Nat} {O:List Nat} {s:DS} {X:Secs2} {m:List Wr} {G:Nat→Prop} {y:D.Nn} {f:Nat→Nat} {C:Nat→UInt8} {low:List Int} {Tx:List Nat}
theorem Op.below (h:Op w0 w p d N q bf nn O s X m G y f C low Tx) (hb:Below w.heap.size w w'):Op w0 w' p d N q bf nn O s X m G y f C low Tx :=
  ⟨h.sto.below hb,h.fil.below hb,h.mid,h.con,h.bud,h.bfO,h.bfp,h.bfq,h.bf0⟩
theorem Op.get (h:Op w0 w p d N q bf nn O s X m G y f C low Tx) {i:Nat} (hi:i<86) (h0:f i≠0):Calls Tryz.prog 55 #[.pointer (some ⟨p,0,none⟩),.int .i64 (f i:Nat)] w (SGet w (view X m (f i))):=by
  have:=h.mid.rng i hi
  exact get_any h.sto (by omega) (by unfold inLog;omega)
set_option maxHeartbeats 1000000 in
theorem take_no (h:Sto w0 w p d O N s X q m) (hf:K.first (view X m 34) 43 (N - 43)=none) :
    Calls Tryz.prog 130 #[.pointer (some ⟨p,0,none⟩)] w fun e w'=>e=.returned (.tuple #[.int .i64 0,.int .i64 10])∧Below w.heap.size w w':=by
  have H:=Lib.hid h
  have HF:=Lib.hid hf
  have h64:=h.n64
  have hN1:=h.n1
  have HL:=Lib.hid (h.view_len (n:=34) (by omega) (by unfold inLog;omega))
  have hc0:=h.st.c0
  clear h hf
  go_enter Tryz.func130,Tryz.ntmps130
  go_wp2_with fail
  refine (get_any (n:=34) H.out (by omega) (by unfold inLog;omega)).mono ?_
  rintro e w1 ⟨b,rfl,hb1,hb2,hb3⟩
  have HB:=Lib.hid (kb hb2 HL.out)
  have H1:=Lib.hid (H.out.below hb3)
  have HB1:=Lib.hid hb3
  clear hb1 hb2 hb3 hc0
  have hc0:=H1.out.st.c0
  go_wp2_with fail
  refine (sectorsD H1.out.ons.sit.drv).mono ?_
  rintro e w2 ⟨rfl,rfl⟩
  go_wp2_with fail
  have HFI:=Lib.hid (K.first_yes 43 N HB.out (Nat.le_refl _) (by omega) hN1)
  rw [HF.out,show K.fn none=0 from rfl,show K.fe none=10 from rfl] at HFI
  refine HFI.out.mono ?_
  rintro e w2 ⟨rfl,hb⟩
  have HB2:=Lib.hid (HB1.out.trans (hb.mono HB1.out.size))
  clear hb hc0 HFI HB
  go_wp2_with fail
  go_ret2
  exact ⟨rfl,HB2.out⟩
end
end Go.Proofs.YtkganhafbjgndaaGreatRR.V
