/- The laws' common steps: a restart, a mount of what the laws know, 'begin', a node and a sector given. -/
import Derived.Test.YtijbgdihnjnllaaGreatSMath
import Derived.Test.YtijbgdihnjnllaaGreatSNil
namespace Go.Proofs.YtijbgdihnjnllaaGreat
open Go.RowKit
set_option linter.unusedVariables false
set_option maxRecDepth 20000
section
variable {w0 w : World} {p d N q : Nat} {O : List Nat} {s : DS} {X : Secs2} {m : List Wr} {ep g : Nat} {ns mk : List UInt8}
/-- The drive, still at rest. -/
def OnR (w0 w : World) (d : Nat) (O : List Nat) (N : Nat) (X : Secs2) (w' : World) : Prop := ∃ O' s', Ons w0 w' d O' N s' X ∧ Chg O w w' ∧ ∀ b ∈ O', b ∈ O ∨ w.heap.size ≤ b
theorem std_sup (h : Sto w0 w p d O N s X q []) (hs : Std N X ep g ns mk) (hok : U.ok N ep g = true) :
    Calls Tryz.prog 35 #[.pointer (some ⟨p, 0, none⟩)] w fun e w' => e = .returned (.agg #[.int .i64 N, .int .i64 ep, .int .i64 g]) ∧ Below w.heap.size w w' := by
  have hv : view X [] 0 = U.sec N ep g := hs.sup
  have ho := U.ok_iff.1 hok
  have := super_yes h (by rw [hv]; exact U.isSec_sec hok)
  rw [hv, U.num_sec0 N ep g (by omega), U.num_sec1 N ep g (by omega), U.num_sec2 N ep g (by omega)] at this
  exact this
theorem mount_std (h : Ons w0 w d O N s X) (hs : Std N X ep g ns mk) (hok : U.ok N ep g = true) (hep : ep < 1073741824) : Calls Tryz.prog 14 #[.pointer (some ⟨d, 0, none⟩)] w (MouOk w0 w d O N X ep g) := by
  have ho := U.ok_iff.1 hok
  refine mount_walk h (a := N) (b := ep) (c := g) (r := true) (fun w1 p q O1 hS => std_sup hS hs hok) (fun w1 p q O1 hS => seated_any hS ⟨fun _ i hi => ?_, fun _ => rfl⟩) (fun _ _ _ => U.ok_iff.2 (by omega)) (by omega) _ (fun hn => absurd rfl hn) (fun _ hr => by cases hr) (fun _ _ hb => by omega) (fun _ _ _ e w' hh => hh)
  rw [show view X [] (26 + i) = seat0 from hs.seat i hi]
  exact seat0_is
/-- What 'begin' leaves. -/
def Xb (N : Nat) : Secs2 := lay (X1 N) (toW [(0, U.sec N 1 0)])
theorem Xb_std (hN : 64 ≤ N) (hN1 : N ≤ 1024) : Std N (Xb N) 1 0 root0 (markL 43) := (Std.made hN hN1).mount (X1_len N) hN hN1 (U.ok_iff.2 (by omega))
def BegQ (N : Nat) (w : World) (e : Ending) (w' : World) : Prop := ∃ d p q O s, e = .returned (.pointer (some ⟨p, 0, none⟩)) ∧ Sto w w' p d O N s (Xb N) q []
set_option maxHeartbeats 1000000 in
theorem begin_any (N : Nat) (w : World) (h0 : 64 ≤ N) (h1 : N ≤ 1024) : Calls Tryz.prog 22 #[.int .i64 N] w (BegQ N w) := by
  have HN0 := Lib.hid h0
  have HN1 := Lib.hid h1
  clear h0 h1
  go_enter Tryz.func22, Tryz.ntmps22
  go_wp2_with fail
  refine (new_any N w HN0.out HN1.out).mono ?_
  rintro e w1 ⟨d, O, rfl, hd1, hf1, hb1⟩
  have HS : Hid (Sit w w1 d O N (newS N)) := ⟨hd1, hf1, hb1⟩
  clear hd1 hf1 hb1
  go_wp2_with fail
  refine (make_new HS.out HN0.out).mono ?_
  rintro e w2 ⟨rfl, O2, s2, h2, _, _⟩
  have H2 := Lib.hid h2
  clear h2
  go_wp2_with fail
  refine (mount_std H2.out (Std.made HN0.out HN1.out) (U.ok_iff.2 (by have := HN0.out; have := HN1.out; omega)) (by omega)).mono ?_
  rintro e w3 ⟨p, q, O3, s3, rfl, h3, _, _, _, _⟩
  have H3 := Lib.hid h3
  clear h3
  go_wp2_with fail
  go_ret
  exact ⟨d, p, q, O3, s3, rfl, H3.out⟩
/-- One node given. -/
def m1 (N ep g k : Nat) : List Wr := insAll [(0, U.sec N ep (g + 1)), (35, D.put root0 2 (nn k (g + 1)).img)] []
/-- And one sector. -/
def m2 (N ep g k : Nat) : List Wr := insAll [(34, markL 44), (43, zeros)] (m1 N ep g k)
theorem newk_le_len (m ws : List Wr) : newk m ws ≤ ws.length := by unfold newk; exact List.length_filter_le _ _
theorem new_std (h : Sto w0 w p d O N s X q []) (hs : Std N X ep g root0 mk) (hok : U.ok N ep g = true) (hg : g < 1073741824) {k : Nat} (hk : k = 1 ∨ k = 2) :
    Calls Tryz.prog 15 #[.pointer (some ⟨p, 0, none⟩), .int .i64 k] w (NewQ w0 w p d O N s X q (m1 N ep g k)) := by
  have h64 := h.n64
  have hN1 := h.n1
  have ho := U.ok_iff.1 hok
  have hnd : view X [] 35 = root0 := hs.nd
  have e1 : nodeB X [] 1 = rootN.img := by unfold nodeB; rw [show 35 + 1 / 4 = 35 from rfl, hnd]; exact root_piece1
  have e2 : nodeB X [] 2 = D.zeroN.img := by unfold nodeB; rw [show 35 + 2 / 4 = 35 from rfl, hnd]; exact root_piece2
  have ep2 : putN X [] 2 (nn k (g + 1)) = D.put root0 2 (nn k (g + 1)).img := by unfold putN; rw [show 35 + 2 / 4 = 35 from rfl, hnd]
  have hno := nn_ok hk (g := g + 1) (by omega)
  have := new_yes h (a := N) (b := ep) (c := g) hs.sup hok hg hk (y1 := rootN) (by rw [e1]; exact (D.good_img root_ok).1) (by rw [e1, (D.good_img root_ok).2]; decide) (by rw [e2]; exact (D.good_img zeroN_ok).1) (by rw [e2]; exact (D.good_img zeroN_ok).2) hno
    ⟨MOk.nil N, fun r hr => by
      rcases List.mem_cons.1 hr with rfl | hr
      · exact ⟨okn_of hN1 (n := 0) (by omega) (by unfold inLog; omega), by simp; omega, lt_sec (U.ok_iff.2 (by omega))⟩
      · rcases List.mem_cons.1 hr with rfl | hr
        · exact ⟨okn_of hN1 (n := 35) (by omega) (by unfold inLog; omega), by simp; omega, putN_len h (n := 2) (by omega) _⟩
        · exact absurd hr (by simp), by have := newk_le_len [] [(0, U.sec N ep (g + 1)), (35, putN X [] 2 (nn k (g + 1)))]; simp at this ⊢; omega⟩
  rw [ep2] at this
  exact this
theorem view_m1 (n : Nat) (k : Nat) : view X (m1 N ep g k) n = if n = 35 then D.put root0 2 (nn k (g + 1)).img else if n = 0 then U.sec N ep (g + 1) else X[n]?.getD [] := by
  show view X (ins ((35 : Nat) : Int) _ (ins ((0 : Nat) : Int) _ [])) n = _
  rw [view_ins', view_ins', view_nil]
  simp only [eq_comm (a := n)]
theorem m1_len (N ep g k : Nat) : (m1 N ep g k).length ≤ 2 := by
  have a := ins_le (m := []) 0 (U.sec N ep (g + 1))
  have b := ins_le (m := ins 0 (U.sec N ep (g + 1)) []) 35 (D.put root0 2 (nn k (g + 1)).img)
  show (ins 35 (D.put root0 2 (nn k (g + 1)).img) (ins 0 (U.sec N ep (g + 1)) [])).length ≤ 2
  simp at a
  omega
def ns2 (g k : Nat) : List UInt8 := D.put root0 2 (nn k (g + 1)).img
theorem piece_ns2 (g k : Nat) : D.piece (ns2 g k) 2 = (nn k (g + 1)).img :=
  D.piece_put (D.put_len zeros_len (by omega) rootN.img_len) (by omega) (nn k (g + 1)).img_len
end
end Go.Proofs.YtijbgdihnjnllaaGreat
