/- What is known of the program's types. -/
import Derived.Test.YtfflfmpkjcomgaaProg
import Derived.Test.YtfflfmpkjcomgaaEng16
import Derived.KernelRfl
namespace Go.Proofs.Ytfflfmpkjcomgaa
open Go.RowKit
def tt : Tys
  | 3 => some ⟨1, 8, false, .int .i64, [(Value.int IntKind.i64 0)]⟩
  | 4 => some ⟨1, 1, false, .bool, [(Value.bool false)]⟩
  | 22 => some ⟨1, 24, false, .slice 31, [(Value.slice none 0 0)]⟩
  | 23 => some ⟨1, 24, false, .slice 3, [(Value.slice none 0 0)]⟩
  | 26 => some ⟨1, 8, false, .int .i64, [(Value.int IntKind.i64 0)]⟩
  | 31 => some ⟨1, 24, false, .slice 3, [(Value.slice none 0 0)]⟩
  | 39 => some ⟨1, 24, false, .slice 4, [(Value.slice none 0 0)]⟩
  | 47 => some ⟨1, 8, false, .other, [(Value.pointer none)]⟩
  | 50 => some ⟨1, 8, false, .map 3 23, [(Value.map none)]⟩
  | 51 => some ⟨1, 8, false, .map 3 88, [(Value.map none)]⟩
  | 53 => some ⟨7, 104, true, .struct [(0, 22), (1, 23), (2, 50), (3, 51), (4, 23), (5, 3), (6, 4)], [(Value.slice none 0 0), (Value.slice none 0 0), (Value.map none), (Value.map none), (Value.slice none 0 0), (Value.int IntKind.i64 0), (Value.bool false)]⟩
  | 56 => some ⟨1, 8, false, .other, [Value.nilFunc]⟩
  | 60 => some ⟨2, 32, true, .struct [(0, 23), (1, 4)], [(Value.slice none 0 0), (Value.bool false)]⟩
  | 71 => some ⟨1, 8, false, .other, [Value.nilFunc]⟩
  | 83 => some ⟨1, 24, false, .slice 22, [(Value.slice none 0 0)]⟩
  | 88 => some ⟨0, 0, true, .struct [], []⟩
  | _ => none
@[go_sem] theorem tt3 : tt 3 = some ⟨1, 8, false, .int .i64, [(Value.int IntKind.i64 0)]⟩ := rfl
@[go_sem] theorem tt4 : tt 4 = some ⟨1, 1, false, .bool, [(Value.bool false)]⟩ := rfl
@[go_sem] theorem tt22 : tt 22 = some ⟨1, 24, false, .slice 31, [(Value.slice none 0 0)]⟩ := rfl
@[go_sem] theorem tt23 : tt 23 = some ⟨1, 24, false, .slice 3, [(Value.slice none 0 0)]⟩ := rfl
@[go_sem] theorem tt26 : tt 26 = some ⟨1, 8, false, .int .i64, [(Value.int IntKind.i64 0)]⟩ := rfl
@[go_sem] theorem tt31 : tt 31 = some ⟨1, 24, false, .slice 3, [(Value.slice none 0 0)]⟩ := rfl
@[go_sem] theorem tt39 : tt 39 = some ⟨1, 24, false, .slice 4, [(Value.slice none 0 0)]⟩ := rfl
@[go_sem] theorem tt47 : tt 47 = some ⟨1, 8, false, .other, [(Value.pointer none)]⟩ := rfl
@[go_sem] theorem tt50 : tt 50 = some ⟨1, 8, false, .map 3 23, [(Value.map none)]⟩ := rfl
@[go_sem] theorem tt51 : tt 51 = some ⟨1, 8, false, .map 3 88, [(Value.map none)]⟩ := rfl
@[go_sem] theorem tt53 : tt 53 = some ⟨7, 104, true, .struct [(0, 22), (1, 23), (2, 50), (3, 51), (4, 23), (5, 3), (6, 4)], [(Value.slice none 0 0), (Value.slice none 0 0), (Value.map none), (Value.map none), (Value.slice none 0 0), (Value.int IntKind.i64 0), (Value.bool false)]⟩ := rfl
@[go_sem] theorem tt56 : tt 56 = some ⟨1, 8, false, .other, [Value.nilFunc]⟩ := rfl
@[go_sem] theorem tt60 : tt 60 = some ⟨2, 32, true, .struct [(0, 23), (1, 4)], [(Value.slice none 0 0), (Value.bool false)]⟩ := rfl
@[go_sem] theorem tt71 : tt 71 = some ⟨1, 8, false, .other, [Value.nilFunc]⟩ := rfl
@[go_sem] theorem tt83 : tt 83 = some ⟨1, 24, false, .slice 22, [(Value.slice none 0 0)]⟩ := rfl
@[go_sem] theorem tt88 : tt 88 = some ⟨0, 0, true, .struct [], []⟩ := rfl
theorem tt_ok : Tys.ok Try.prog tt := by
  intro t d h
  unfold tt at h
  split at h
  · cases h; exact ⟨⟨Try.t3, _, by kernel_rfl, rfl, rfl, rfl, rfl⟩, ⟨_, Try.underlying3, rfl, rfl⟩⟩
  · cases h; exact ⟨⟨Try.t4, _, by kernel_rfl, rfl, rfl, rfl, rfl⟩, ⟨_, Try.underlying4, rfl, rfl⟩⟩
  · cases h; exact ⟨⟨Try.t22, _, by kernel_rfl, rfl, rfl, rfl, rfl⟩, ⟨_, Try.underlying22, rfl, rfl⟩⟩
  · cases h; exact ⟨⟨Try.t23, _, by kernel_rfl, rfl, rfl, rfl, rfl⟩, ⟨_, Try.underlying23, rfl, rfl⟩⟩
  · cases h; exact ⟨⟨Try.t26, _, by kernel_rfl, rfl, rfl, rfl, rfl⟩, ⟨_, Try.underlying26, rfl, rfl⟩⟩
  · cases h; exact ⟨⟨Try.t31, _, by kernel_rfl, rfl, rfl, rfl, rfl⟩, ⟨_, Try.underlying31, rfl, rfl⟩⟩
  · cases h; exact ⟨⟨Try.t39, _, by kernel_rfl, rfl, rfl, rfl, rfl⟩, ⟨_, Try.underlying39, rfl, rfl⟩⟩
  · cases h; exact ⟨⟨Try.t47, _, by kernel_rfl, rfl, rfl, rfl, rfl⟩, ⟨_, Try.underlying47, trivial, rfl⟩⟩
  · cases h; exact ⟨⟨Try.t50, _, by kernel_rfl, rfl, rfl, rfl, rfl⟩, ⟨_, Try.underlying50, rfl, rfl⟩⟩
  · cases h; exact ⟨⟨Try.t51, _, by kernel_rfl, rfl, rfl, rfl, rfl⟩, ⟨_, Try.underlying51, rfl, rfl⟩⟩
  · cases h; exact ⟨⟨Try.t53, _, by kernel_rfl, rfl, rfl, rfl, rfl⟩, ⟨_, Try.underlying53, ⟨_, rfl, rfl⟩, rfl⟩⟩
  · cases h; exact ⟨⟨Try.t56, _, by kernel_rfl, rfl, rfl, rfl, rfl⟩, ⟨_, Try.underlying56, trivial, rfl⟩⟩
  · cases h; exact ⟨⟨Try.t60, _, by kernel_rfl, rfl, rfl, rfl, rfl⟩, ⟨_, Try.underlying60, ⟨_, rfl, rfl⟩, rfl⟩⟩
  · cases h; exact ⟨⟨Try.t71, _, by kernel_rfl, rfl, rfl, rfl, rfl⟩, ⟨_, Try.underlying71, trivial, rfl⟩⟩
  · cases h; exact ⟨⟨Try.t83, _, by kernel_rfl, rfl, rfl, rfl, rfl⟩, ⟨_, Try.underlying83, rfl, rfl⟩⟩
  · cases h; exact ⟨⟨Try.t88, _, by kernel_rfl, rfl, rfl, rfl, rfl⟩, ⟨_, Try.underlying88, ⟨_, rfl, rfl⟩, rfl⟩⟩
  · cases h
theorem follows_ : Try.prog.follows .mixedOrders = true := by kernel_rfl
end Go.Proofs.Ytfflfmpkjcomgaa
