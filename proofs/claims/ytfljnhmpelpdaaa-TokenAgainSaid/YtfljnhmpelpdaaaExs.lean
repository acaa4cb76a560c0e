/- The document's examples: what is told of four texts. -/
import Derived.Test.YtfljnhmpelpdaaaSame2
import Derived.KernelRfl
namespace Go.Proofs.Ytfljnhmpelpdaaa

theorem ex1 : toksB ⟨#[97, 32, 35, 32, 98]⟩ = [⟨0, ⟨#[97]⟩, 0⟩, ⟨3, ⟨#[]⟩, 5⟩] := by kernel_rfl
theorem ex2 : toksN ⟨#[122, 32, 61, 32, 65, 78, 68, 40, 97, 44, 32, 98, 41, 32, 35, 32, 120]⟩ = .inl [⟨0, ⟨#[122]⟩, 0⟩, ⟨1, ⟨#[61]⟩, 2⟩, ⟨0, ⟨#[65, 78, 68]⟩, 4⟩, ⟨1, ⟨#[40]⟩, 7⟩, ⟨0, ⟨#[97]⟩, 8⟩, ⟨1, ⟨#[44]⟩, 9⟩, ⟨0, ⟨#[98]⟩, 11⟩, ⟨1, ⟨#[41]⟩, 12⟩] := by kernel_rfl
theorem ex3 : toksV ⟨#[97, 115, 115, 105, 103, 110, 32, 92, 97, 46, 98, 32, 61, 32, 126, 120, 59, 32, 47, 47, 32, 121]⟩ = .inl [⟨0, ⟨#[97, 115, 115, 105, 103, 110]⟩, 0⟩, ⟨2, ⟨#[97, 46, 98]⟩, 7⟩, ⟨1, ⟨#[61]⟩, 12⟩, ⟨1, ⟨#[126]⟩, 14⟩, ⟨0, ⟨#[120]⟩, 15⟩, ⟨1, ⟨#[59]⟩, 16⟩] := by kernel_rfl
theorem ex4 : toksV ⟨#[97, 32, 63, 32, 98]⟩ = .inr 2 := by kernel_rfl
end Go.Proofs.Ytfljnhmpelpdaaa
