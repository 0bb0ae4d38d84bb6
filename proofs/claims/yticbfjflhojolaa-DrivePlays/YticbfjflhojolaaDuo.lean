/- A drive and the document's list, side by side. -/
import Derived.Test.YticbfjflhojolaaRefRestart
import Derived.Test.YticbfjflhojolaaTri
import Derived.Test.YticbfjflhojolaaSteps
namespace Go.Proofs.Yticbfjflhojolaa
open Go.RowKit
set_option linter.unusedVariables false

theorem Drv.nows {w : World} {d N : Nat} {O : List Nat} {s : DS} (h : Drv w d O N s) (j : Nat) (l : List UInt8) (hl : s.now[j]? = some l) : l.length = 128 := by
  obtain ⟨bn, cn, bl, cl, vs, rfl, h⟩ := h
  exact (h.now.all j l hl).1
structure Duo (W w : World) (d r N : Nat) (O P : List Nat) (s : DS) (q : RD) : Prop where
  drv : Drv w d O N s
  ref : RDrv w r P N q
  sep : ∀ b ∈ O, b ∉ P
  fo : ∀ b ∈ O, W.heap.size ≤ b
  fp : ∀ b ∈ P, W.heap.size ≤ b
  bel : Below W.heap.size W w
section
variable {W w w' : World} {d r N : Nat} {O P : List Nat} {s s' : DS} {q q' : RD}
theorem Duo.didD (h : Duo W w d r N O P s q) (k : Did w d O N s' w') : ∃ O', Duo W w' d r N O' P s' q := by
  obtain ⟨O', h1, h2, h3⟩ := k
  refine ⟨O', h1, h.ref.apart h2 fun b hb hm => h.sep b hm hb, fun b hb hm => ?_, fun b hb => ?_, h.fp, h.bel.trans (h2.below h.bel.size h.fo)⟩
  · rcases h3 b hb with g | g
    · exact h.sep b g hm
    · have := h.ref.lt b hm; omega
  · rcases h3 b hb with g | g
    · exact h.fo b g
    · have := h.bel.size; omega
theorem Duo.didR (h : Duo W w d r N O P s q) (k : RDid w r P N q' w') : ∃ P', Duo W w' d r N O P' s q' := by
  obtain ⟨P', h1, h2, h3⟩ := k
  refine ⟨P', h.drv.apart h2 fun b hb hm => h.sep b hb hm, h1, fun b hb hm => ?_, h.fo, fun b hb => ?_, h.bel.trans (h2.below h.bel.size h.fp)⟩
  · rcases h3 b hm with g | g
    · exact h.sep b hb g
    · have := h.drv.lt b hb; omega
  · rcases h3 b hb with g | g
    · exact h.fp b g
    · have := h.bel.size; omega
theorem Duo.below (h : Duo W w d r N O P s q) (hb : Below w.heap.size w w') : Duo W w' d r N O P s q :=
  ⟨h.drv.keep fun b hb' => hb.block b (h.drv.lt b hb'), h.ref.keep fun b hb' => hb.block b (h.ref.lt b hb'), h.sep, h.fo, h.fp, h.bel.trans (hb.mono h.bel.size)⟩
/-- Both, whatever they own, with not too much in the list. -/
def Both (W : World) (d r N L : Nat) (w : World) : Prop := ∃ O P s q, Duo W w d r N O P s q ∧ Sim N s q ∧ q.list.length ≤ L
theorem Both.below {L : Nat} (h : Both W d r N L w) (hb : Below w.heap.size w w') : Both W d r N L w' := by
  obtain ⟨O, P, s, q, h1, h2, h3⟩ := h
  exact ⟨O, P, s, q, h1.below hb, h2, h3⟩
theorem Both.more {L L' : Nat} (h : Both W d r N L w) (hL : L ≤ L') : Both W d r N L' w := by
  obtain ⟨O, P, s, q, h1, h2, h3⟩ := h
  exact ⟨O, P, s, q, h1, h2, by omega⟩
theorem Both.bel {L : Nat} (h : Both W d r N L w) : Below W.heap.size W w := by
  obtain ⟨O, P, s, q, h1, h2, h3⟩ := h
  exact h1.bel
theorem Sim.len (h : Sim N s q) : s.since.length ≤ q.list.length := by
  obtain ⟨A, h1, _⟩ := h.list
  rw [h1]
  simp
end
theorem rputGo_len : ∀ (l : List Wr) (q : RD), (q.putGo l).2.list.length ≤ q.list.length + l.length
  | [], q => by simp [RD.putGo]
  | x :: t, q => by
    rw [RD.putGo]
    split
    · have h := rputGo_len t (q.spark.add x.1.toNat x.2)
      have e : (q.spark.add x.1.toNat x.2).list.length = q.list.length + 1 := by
        simp only [RD.add, List.length_append, List.length_singleton]; rw [spark_list]
      rw [e] at h
      simp only [List.length_cons]
      omega
    · show q.spark.list.length ≤ _
      rw [spark_list]
      omega
theorem rput_len (q : RD) (N : Nat) (l : List Wr) : (q.put N l).2.list.length ≤ q.list.length + l.length := by
  unfold RD.put
  split
  · show q.list.length ≤ _; omega
  · split
    · exact rputGo_len _ _
    · show q.list.length ≤ _; omega
theorem rflush_len (q : RD) : q.flush.2.list.length ≤ q.list.length := by
  unfold RD.flush
  split
  · exact Nat.le_refl _
  · split
    · show (allSure q.list).length ≤ _; simp [allSure]
    · show q.spark.list.length ≤ _; rw [spark_list]; exact Nat.le_refl _
section
variable {W w w' : World} {d r N L : Nat} {O P : List Nat} {s : DS} {q : RD} {M : Nat → Prop}
/-- What a call has done to the drive; then what it does to the list; and that a block of neither is as it was. -/
def Half (W : World) (d r N : Nat) (P : List Nat) (s' : DS) (q : RD) (h : Nat) (o : Obj) (w' : World) : Prop := ∃ O', Duo W w' d r N O' P s' q ∧ w'.heap[h]? = some o ∧ h ∉ O' ∧ h ∉ P
def Full (W : World) (d r N : Nat) (s' : DS) (q' : RD) (w' : World) : Prop := ∃ O' P', Duo W w' d r N O' P' s' q'
theorem Duo.half {s' : DS} {h : Nat} {o : Obj} (k : Duo W w d r N O P s q) (hd : Did w d O N s' w') (hh : w.heap[h]? = some o) (h1 : h ∉ O) (h2 : h ∉ P) : Half W d r N P s' q h o w' := by
  have hlt : h < w.heap.size := (Array.getElem?_eq_some_iff.1 hh).1
  obtain ⟨O', a1, a2, a3⟩ := hd
  obtain ⟨O'', b⟩ := k.didD ⟨O', a1, a2, a3⟩
  have hb : Duo W w' d r N O' P s' q := by
    refine ⟨a1, b.ref, fun x hx hm => ?_, fun x hx => ?_, k.fp, b.bel⟩
    · rcases a3 x hx with g | g
      · exact k.sep x g hm
      · have := k.ref.lt x hm; omega
    · rcases a3 x hx with g | g
      · exact k.fo x g
      · have := k.bel.size; omega
  exact ⟨O', hb, (a2.block h hlt h1).trans hh, not_after a3 h1 hlt, h2⟩
theorem half_at {s' : DS} {h : Nat} {o : Obj} (k : Half W d r N P s' q h o w') : w'.heap[h]? = some o := by
  obtain ⟨_, _, k1, _⟩ := k
  exact k1
variable {h1 : Nat} {o1 : Obj}
theorem putD {A : Option Addr} {n c : Nat} {ws : List Wr} (h : Duo W w d r N O P s q) (hW : Wrs W (fun b => b < W.heap.size) A n c ws) (hs : s.since.length ≤ 100000) (hn : n ≤ 40) (hh : w.heap[h1]? = some o1) (g1 : h1 ∉ O) (g2 : h1 ∉ P) :
    Calls Try.prog 12 #[.pointer (some ⟨d, 0, none⟩), .slice A n c] w fun e w' => e = .returned (.int .i64 (s.put N ws).1) ∧ Half W d r N P (s.put N ws).2 q h1 o1 w' := by
  refine (put_any h.drv (hW.keep fun b hb => h.bel.block b hb) (fun b hb => ⟨Nat.lt_of_lt_of_le hb h.bel.size, fun e => by have := h.fo b e; omega⟩) (by omega)).mono ?_
  rintro e w' ⟨rfl, hd⟩
  exact ⟨rfl, h.half hd hh g1 g2⟩
theorem putR {A : Option Addr} {n c : Nat} {ws : List Wr} (h : Half W d r N P s q h1 o1 w) (hW : Wrs W (fun b => b < W.heap.size) A n c ws) (hs : q.list.length ≤ 100000) (hn : n ≤ 40) :
    Calls Try.prog 13 #[.pointer (some ⟨r, 0, none⟩), .slice A n c] w fun e w' => e = .returned (.int .i64 (q.put N ws).1) ∧ Full W d r N s (q.put N ws).2 w' ∧ w'.heap[h1]? = some o1 := by
  obtain ⟨O', h, k1, k2, k3⟩ := h
  have hlt : h1 < w.heap.size := (Array.getElem?_eq_some_iff.1 k1).1
  refine (rput_any h.ref (hW.keep fun b hb => h.bel.block b hb) (fun b hb => ⟨Nat.lt_of_lt_of_le hb h.bel.size, fun e => by have := h.fp b e; omega⟩) (by omega)).mono ?_
  rintro e w' ⟨rfl, hd⟩
  have hc := hd
  obtain ⟨P', a1, a2, a3⟩ := hc
  exact ⟨rfl, ⟨O', h.didR hd⟩, (a2.block h1 hlt k3).trans k1⟩
theorem flushDD (h : Duo W w d r N O P s q) (hh : w.heap[h1]? = some o1) (g1 : h1 ∉ O) (g2 : h1 ∉ P) : Calls Try.prog 14 #[.pointer (some ⟨d, 0, none⟩)] w fun e w' => e = .returned (.int .i64 s.flush.1) ∧ Half W d r N P s.flush.2 q h1 o1 w' := by
  refine (flush_any h.drv).mono ?_
  rintro e w' ⟨rfl, hd⟩
  exact ⟨rfl, h.half hd hh g1 g2⟩
theorem flushR (h : Half W d r N P s q h1 o1 w) : Calls Try.prog 15 #[.pointer (some ⟨r, 0, none⟩)] w fun e w' => e = .returned (.int .i64 q.flush.1) ∧ Full W d r N s q.flush.2 w' := by
  obtain ⟨O', h, _⟩ := h
  refine (rflush_any h.ref).mono ?_
  rintro e w' ⟨rfl, hd⟩
  exact ⟨rfl, O', h.didR hd⟩
theorem fuseDD (n : Int) (h : Duo W w d r N O P s q) (b1 : -9223372036854775808 ≤ n) (b2 : n ≤ 9223372036854775807) (hh : w.heap[h1]? = some o1) (g1 : h1 ∉ O) (g2 : h1 ∉ P) : Calls Try.prog 16 #[.pointer (some ⟨d, 0, none⟩), .int .i64 n] w fun e w' => e = .returned (.tuple #[]) ∧ Half W d r N P (s.fuse n) q h1 o1 w' := by
  refine (fuseD n h.drv b1 b2).mono ?_
  rintro e w' ⟨rfl, hd⟩
  exact ⟨rfl, h.half hd hh g1 g2⟩
theorem fuseR (n : Int) (h : Half W d r N P s q h1 o1 w) (h2 : n ≤ 9223372036854775807) : Calls Try.prog 17 #[.pointer (some ⟨r, 0, none⟩), .int .i64 n] w fun e w' => e = .returned (.tuple #[]) ∧ Full W d r N s (q.fuse_ n) w' := by
  obtain ⟨O', h, _⟩ := h
  refine (rfuse_any n h.ref h2).mono ?_
  rintro e w' ⟨rfl, hd⟩
  exact ⟨rfl, O', h.didR hd⟩
theorem restartDD {A : Option Addr} {n c : Nat} {keep : List Int} (h : Duo W w d r N O P s q) (hI : Ints W (fun b => b < W.heap.size) A n c keep) (hh : w.heap[h1]? = some o1) (g1 : h1 ∉ O) (g2 : h1 ∉ P) : Calls Try.prog 18 #[.pointer (some ⟨d, 0, none⟩), .slice A n c] w fun e w' => e = .returned (.tuple #[]) ∧ Half W d r N P (s.restart keep) q h1 o1 w' := by
  refine (restart_any h.drv (hI.keep fun b hb => h.bel.block b hb) (fun b hb => ⟨Nat.lt_of_lt_of_le hb h.bel.size, fun e => by have := h.fo b e; omega⟩)).mono ?_
  rintro e w' ⟨rfl, hd⟩
  exact ⟨rfl, h.half hd hh g1 g2⟩
theorem restartR {A : Option Addr} {n c : Nat} {keep : List Int} (h : Half W d r N P s q h1 o1 w) (hI : Ints W (fun b => b < W.heap.size) A n c keep) (hs : q.list.length ≤ 100000) : Calls Try.prog 19 #[.pointer (some ⟨r, 0, none⟩), .slice A n c] w fun e w' => e = .returned (.tuple #[]) ∧ Full W d r N s (q.restart keep) w' := by
  obtain ⟨O', h, _⟩ := h
  refine (rrestart_any h.ref (hI.keep fun b hb => h.bel.block b hb) (fun b hb => Nat.lt_of_lt_of_le hb h.bel.size) (by omega)).mono ?_
  rintro e w' ⟨rfl, hd⟩
  exact ⟨rfl, O', h.didR hd⟩
/-- What Get answers: the bytes, where they lie; and that the list says the same. -/
def GA (x : List UInt8) (A : Option Addr) (n c : Nat) (w' : World) : Prop := (convert 41 9 (.slice A n c)).run Try.prog w' = .ok (.string ⟨x.toArray⟩) w' ∧ ∀ w'', Below w'.heap.size w' w'' → (convert 41 9 (.slice A n c)).run Try.prog w'' = .ok (.string ⟨x.toArray⟩) w''
def GD (W : World) (d r N : Nat) (O P : List Nat) (s : DS) (q : RD) (n : Int) (e : Ending) (w' : World) : Prop :=
  ∃ A k c, e = .returned (.tuple #[.slice A k c, .int .i64 (rget q N n).2]) ∧ GA (rget q N n).1 A k c w' ∧ Duo W w' d r N O P s q
theorem str_nil (w : World) : (convert 41 9 (.slice none 0 0)).run Try.prog w = .ok (.string ⟨([] : List UInt8).toArray⟩) w := by
  rw [run_convert_bytes_string w 41 9 5 _ 0 0 Try.underlying41 Try.underlying5 Try.underlying9]
  simp [Conv.bytesToString]
  rfl
theorem getD (n : Int) (h : Duo W w d r N O P s q) (hs : Sim N s q) : Calls Try.prog 20 #[.pointer (some ⟨d, 0, none⟩), .int .i64 n] w (GD W d r N O P s q n) := by
  cases hd : s.down with
  | true =>
    have e : rget q N n = ([], 11) := by unfold rget; rw [hs.dead, hd]; rfl
    refine (get_down n h.drv hd).mono ?_
    rintro _ w' ⟨rfl, rfl⟩
    exact ⟨none, 0, 0, by rw [e], by rw [e]; exact ⟨str_nil _, fun _ _ => str_nil _⟩, h⟩
  | false =>
    cases hi : inR N n with
    | false =>
      have e : rget q N n = ([], 4) := by unfold rget; rw [hs.dead, hd, hi]; rfl
      refine (get_range n h.drv hd hi).mono ?_
      rintro _ w' ⟨rfl, rfl⟩
      exact ⟨none, 0, 0, by rw [e], by rw [e]; exact ⟨str_nil _, fun _ _ => str_nil _⟩, h⟩
    | true =>
      have hi' := hi
      simp only [inR, Bool.and_eq_true, decide_eq_true_eq] at hi'
      obtain ⟨m, rfl⟩ := Int.eq_ofNat_of_zero_le hi'.1
      have hm : m < N := by omega
      have e : rget q N (m : Int) = (q.find (m : Int) false, 0) := by
        unfold rget; rw [hs.dead, hd, hi]; rfl
      have hx := hs.now_find hm
      have hl : (q.find (m : Int) false).length = 128 := h.drv.nows m _ hx
      refine (get_ok m h.drv hd hx).mono ?_
      rintro _ w' ⟨b, rfl, h1, h2, h3⟩
      have ho : Own w' b (q.find (m : Int) false) := ⟨67, h2⟩
      exact ⟨some ⟨b, 0, none⟩, 128, 128, by rw [e], by rw [e]; exact ⟨ho.str hl, fun w'' hb => (ho.below hb).str hl⟩, h.below h3⟩
def GR (W : World) (d r N : Nat) (O P : List Nat) (s : DS) (q : RD) (n : Int) (w : World) (e : Ending) (w' : World) : Prop :=
  e = .returned (.tuple #[.string ⟨(rget q N n).1.toArray⟩, .int .i64 (rget q N n).2]) ∧ Duo W w' d r N O P s q ∧ Below w.heap.size w w'
theorem getR (n : Int) (h : Duo W w d r N O P s q) : Calls Try.prog 21 #[.pointer (some ⟨r, 0, none⟩), .int .i64 n] w (GR W d r N O P s q n w) := by
  refine (rget_any n h.ref).mono ?_
  rintro _ w' ⟨rfl, hb⟩
  exact ⟨rfl, h.below hb, hb⟩
end
end Go.Proofs.Yticbfjflhojolaa
