/- package verb: all that the laws ask of it, proved of the landed code. -/
import Derived.Test.YtfignanjelebaaaYAnsd
namespace Go.Proofs.Ytfignanjelebaaa
open Go.RowKit
set_option linter.unusedVariables false
theorem verbs : Verbs where
  good := fun v A n c w hn => good_any v A n c w hn
  chgs := fun k w => changes_any k w
  enc := fun v A n c B w h hB => encode_any v A n c B w h hB
  dec := fun A n c B b w h hB _ => decode_any A n c B b w h hB
  ans := fun r A X n c m d B w h hS hB => answer_any r A X n c m d B w h hS hB
  ansd := fun A n c B b w h hB _ => answered_any A n c B b w h hB
  cal := fun r w => call_any r w
  cald := fun A n c B b w h hB _ => called_any A n c B b w h hB
  shrt := fun r A X n c m d B w h hS hB => (short_q r A X n c m d B w h hS hB).mono fun e w' hq => by
    obtain ⟨hb, ⟨hg, A, n, c, hB, rfl⟩ | ⟨hg, A, n, c, hB, rfl⟩⟩ := hq
    · exact ⟨hb, A, n, c, by rw [if_pos hg]; exact hB, rfl⟩
    · exact ⟨hb, A, n, c, by rw [if_neg hg]; exact hB, rfl⟩
  lng := fun A n c B b w h hB _ => long_any A n c B b w h hB
end Go.Proofs.Ytfignanjelebaaa
