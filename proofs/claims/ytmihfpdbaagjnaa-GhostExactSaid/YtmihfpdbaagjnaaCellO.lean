/- Places whose words aren't 0. -/
import Derived.Test.YtmihfpdbaagjnaaPlc
namespace Go.Proofs.Ytmihfpdbaagjnaa

theorem pv_inj {x y : Plc} (h : pv x = pv y) : x = y := by
  obtain ⟨a, b, c⟩ := x
  obtain ⟨a', b', c'⟩ := y
  simp [pv] at h
  simp [h]
/-- ss are the places whose words aren't 0, each once. -/
def OpsF (f : Plc → Int) (ss : List Plc) : Prop := ss.Nodup ∧ ∀ x, x ∈ ss ↔ f x ≠ 0
end Go.Proofs.Ytmihfpdbaagjnaa
