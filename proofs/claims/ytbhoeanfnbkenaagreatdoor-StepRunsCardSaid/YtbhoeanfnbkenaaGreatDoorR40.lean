import Derived.Test.YtbhoeanfnbkenaaGreatDoorR39
import Derived.Test.YtbhoeanfnbkenaaGreatDoorR40p
import Derived.Test.YtbhoeanfnbkenaaGreatDoorR27
namespace Go.Proofs.YtbhoeanfnbkenaaGreatDoor
open Go.RowKit
set_option maxRecDepth 100000
set_option linter.unusedSimpArgs false
variable (Hy : World → Prop)
attribute [local irreducible] zU zY cwp z1 z6 lpQ z8 asQ bdQ bdY zab zac zad zaa
theorem FewI.sz {c : Ci} (h : FewI c) : CSz c := by
 have key : ∀ s ∈ zar c, s.size ≤ 60 := fun s hs => by
  unfold zar laT gtT at hs
  simp only [List.mem_append, List.mem_flatMap, List.mem_cons, List.not_mem_nil, or_false] at hs
  rcases hs with hs | hs | ⟨x, hx, rfl | rfl⟩ | ⟨g, hg, rfl | hs⟩
  ·exact h.ti s hs
  ·exact h.to s hs
  ·exact (h.tl x hx).1
  ·exact (h.tl x hx).2
  ·exact (h.tg g hg).1
  ·exact (h.tg g hg).2.1 s hs
 exact ⟨fun s hs => Nat.le_trans (key s hs) (by omega), fun g hg r hr => Nat.le_trans ((h.tg g hg).2.2.2.2 r hr) (by omega)⟩
end Go.Proofs.YtbhoeanfnbkenaaGreatDoor
