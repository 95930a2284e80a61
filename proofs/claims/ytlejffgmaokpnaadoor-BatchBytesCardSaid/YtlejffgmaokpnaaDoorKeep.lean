/- What calls keep in a region that draws. -/
import Derived.Test.YtlejffgmaokpnaaDoorBase
import Derived.Deep.RegionWith
import Derived.Deep.RegionHeld3
namespace Go.Proofs.YtlejffgmaokpnaaDoor
open Go.RowKit
theorem keepB {F : Nat} {args : Array Value} {r : Value} {w : World} (S : World → Prop) (hk : ∀ a b, S a → Below a.heap.size a b → S b) (hc : Calls Tryd.prog F args w fun e w' => e = .returned r ∧ Below w.heap.size w w') (h : S w) :
    Calls Tryd.prog F args w fun e w' => e = .returned r ∧ S w' :=
  hc.mono fun _ _ ⟨he, hb⟩ => ⟨he, hk _ _ h hb⟩
theorem same_below {F : Nat} {args : Array Value} {r : Value} {w : World} (h : Calls Tryd.prog F args w fun e w' => e = .returned r ∧ w' = w) : Calls Tryd.prog F args w fun e w' => e = .returned r ∧ Below w.heap.size w w' :=
  h.mono fun _ _ hh => ⟨hh.1, by rw [hh.2]; exact Below.refl _ _⟩
theorem drew_below {F : Nat} {args : Array Value} {r : Value} {w : World} (h : Calls Tryd.prog F args w fun e w' => e = .returned r ∧ ∃ n, w' = w.drewN n) : Calls Tryd.prog F args w fun e w' => e = .returned r ∧ Below w.heap.size w w' :=
  h.mono fun _ _ hh => ⟨hh.1, by obtain ⟨n, e⟩ := hh.2; rw [e]; exact grow_draws _ _⟩
end Go.Proofs.YtlejffgmaokpnaaDoor
