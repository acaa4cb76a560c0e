/- What is known of the program's types. -/
import Derived.Test.YtpbfkpdfodmcaaaProg
import Derived.Test.YtpbfkpdfodmcaaaEng16
import Derived.KernelRfl
namespace Go.Proofs.Ytpbfkpdfodmcaaa
open Go.RowKit
def tt : Tys
  | 3 => some ⟨1, 8, false, .int .i64, [(Value.int IntKind.i64 0)]⟩
  | 4 => some ⟨1, 1, false, .bool, [(Value.bool false)]⟩
  | 5 => some ⟨1, 1, false, .int .u8, [(Value.int IntKind.u8 0)]⟩
  | 22 => some ⟨1, 24, false, .slice 3, [(Value.slice none 0 0)]⟩
  | 23 => some ⟨1, 24, false, .slice 77, [(Value.slice none 0 0)]⟩
  | 25 => some ⟨5, 104, true, .struct [(0, 3), (1, 22), (2, 22), (3, 23), (4, 22)], [(Value.int IntKind.i64 0), (Value.slice none 0 0), (Value.slice none 0 0), (Value.slice none 0 0), (Value.slice none 0 0)]⟩
  | 28 => some ⟨1, 8, false, .int .i64, [(Value.int IntKind.i64 0)]⟩
  | 33 => some ⟨1, 24, false, .slice 4, [(Value.slice none 0 0)]⟩
  | 45 => some ⟨1, 24, false, .slice 103, [(Value.slice none 0 0)]⟩
  | 46 => some ⟨1, 24, false, .slice 22, [(Value.slice none 0 0)]⟩
  | 48 => some ⟨3, 56, true, .struct [(0, 3), (1, 45), (2, 46)], [(Value.int IntKind.i64 0), (Value.slice none 0 0), (Value.slice none 0 0)]⟩
  | 55 => some ⟨3, 56, true, .struct [(0, 3), (1, 45), (2, 46)], [(Value.int IntKind.i64 0), (Value.slice none 0 0), (Value.slice none 0 0)]⟩
  | 61 => some ⟨1, 24, false, .slice 33, [(Value.slice none 0 0)]⟩
  | 74 => some ⟨1, 8, false, .other, [Value.nilFunc]⟩
  | 77 => some ⟨2, 16, true, .array 2 3, [(Value.int IntKind.i64 0), (Value.int IntKind.i64 0)]⟩
  | 78 => some ⟨1, 8, false, .other, [(Value.pointer none)]⟩
  | 82 => some ⟨1, 8, false, .other, [Value.nilFunc]⟩
  | 84 => some ⟨1, 8, false, .map 77 3, [(Value.map none)]⟩
  | 86 => some ⟨7, 136, true, .struct [(0, 25), (5, 84), (6, 22)], [(Value.int IntKind.i64 0), (Value.slice none 0 0), (Value.slice none 0 0), (Value.slice none 0 0), (Value.slice none 0 0), (Value.map none), (Value.slice none 0 0)]⟩
  | 89 => some ⟨2, 32, true, .struct [(0, 23), (1, 3)], [(Value.slice none 0 0), (Value.int IntKind.i64 0)]⟩
  | 96 => some ⟨1, 8, false, .other, [Value.nilFunc]⟩
  | 103 => some ⟨1, 24, false, .slice 3, [(Value.slice none 0 0)]⟩
  | 106 => some ⟨1, 24, false, .slice 3, [(Value.slice none 0 0)]⟩
  | 107 => some ⟨1, 8, false, .other, [Value.nilFunc]⟩
  | 111 => some ⟨1, 8, false, .other, [(Value.pointer none)]⟩
  | 114 => some ⟨8, 160, true, .struct [(0, 48), (3, 25)], [(Value.int IntKind.i64 0), (Value.slice none 0 0), (Value.slice none 0 0), (Value.int IntKind.i64 0), (Value.slice none 0 0), (Value.slice none 0 0), (Value.slice none 0 0), (Value.slice none 0 0)]⟩
  | 134 => some ⟨1, 8, false, .other, [Value.nilFunc]⟩
  | _ => none
@[go_sem] theorem tt3 : tt 3 = some ⟨1, 8, false, .int .i64, [(Value.int IntKind.i64 0)]⟩ := rfl
@[go_sem] theorem tt4 : tt 4 = some ⟨1, 1, false, .bool, [(Value.bool false)]⟩ := rfl
@[go_sem] theorem tt5 : tt 5 = some ⟨1, 1, false, .int .u8, [(Value.int IntKind.u8 0)]⟩ := rfl
@[go_sem] theorem tt22 : tt 22 = some ⟨1, 24, false, .slice 3, [(Value.slice none 0 0)]⟩ := rfl
@[go_sem] theorem tt23 : tt 23 = some ⟨1, 24, false, .slice 77, [(Value.slice none 0 0)]⟩ := rfl
@[go_sem] theorem tt25 : tt 25 = some ⟨5, 104, true, .struct [(0, 3), (1, 22), (2, 22), (3, 23), (4, 22)], [(Value.int IntKind.i64 0), (Value.slice none 0 0), (Value.slice none 0 0), (Value.slice none 0 0), (Value.slice none 0 0)]⟩ := rfl
@[go_sem] theorem tt28 : tt 28 = some ⟨1, 8, false, .int .i64, [(Value.int IntKind.i64 0)]⟩ := rfl
@[go_sem] theorem tt33 : tt 33 = some ⟨1, 24, false, .slice 4, [(Value.slice none 0 0)]⟩ := rfl
@[go_sem] theorem tt45 : tt 45 = some ⟨1, 24, false, .slice 103, [(Value.slice none 0 0)]⟩ := rfl
@[go_sem] theorem tt46 : tt 46 = some ⟨1, 24, false, .slice 22, [(Value.slice none 0 0)]⟩ := rfl
@[go_sem] theorem tt48 : tt 48 = some ⟨3, 56, true, .struct [(0, 3), (1, 45), (2, 46)], [(Value.int IntKind.i64 0), (Value.slice none 0 0), (Value.slice none 0 0)]⟩ := rfl
@[go_sem] theorem tt55 : tt 55 = some ⟨3, 56, true, .struct [(0, 3), (1, 45), (2, 46)], [(Value.int IntKind.i64 0), (Value.slice none 0 0), (Value.slice none 0 0)]⟩ := rfl
@[go_sem] theorem tt61 : tt 61 = some ⟨1, 24, false, .slice 33, [(Value.slice none 0 0)]⟩ := rfl
@[go_sem] theorem tt74 : tt 74 = some ⟨1, 8, false, .other, [Value.nilFunc]⟩ := rfl
@[go_sem] theorem tt77 : tt 77 = some ⟨2, 16, true, .array 2 3, [(Value.int IntKind.i64 0), (Value.int IntKind.i64 0)]⟩ := rfl
@[go_sem] theorem tt78 : tt 78 = some ⟨1, 8, false, .other, [(Value.pointer none)]⟩ := rfl
@[go_sem] theorem tt82 : tt 82 = some ⟨1, 8, false, .other, [Value.nilFunc]⟩ := rfl
@[go_sem] theorem tt84 : tt 84 = some ⟨1, 8, false, .map 77 3, [(Value.map none)]⟩ := rfl
@[go_sem] theorem tt86 : tt 86 = some ⟨7, 136, true, .struct [(0, 25), (5, 84), (6, 22)], [(Value.int IntKind.i64 0), (Value.slice none 0 0), (Value.slice none 0 0), (Value.slice none 0 0), (Value.slice none 0 0), (Value.map none), (Value.slice none 0 0)]⟩ := rfl
@[go_sem] theorem tt89 : tt 89 = some ⟨2, 32, true, .struct [(0, 23), (1, 3)], [(Value.slice none 0 0), (Value.int IntKind.i64 0)]⟩ := rfl
@[go_sem] theorem tt96 : tt 96 = some ⟨1, 8, false, .other, [Value.nilFunc]⟩ := rfl
@[go_sem] theorem tt103 : tt 103 = some ⟨1, 24, false, .slice 3, [(Value.slice none 0 0)]⟩ := rfl
@[go_sem] theorem tt106 : tt 106 = some ⟨1, 24, false, .slice 3, [(Value.slice none 0 0)]⟩ := rfl
@[go_sem] theorem tt107 : tt 107 = some ⟨1, 8, false, .other, [Value.nilFunc]⟩ := rfl
@[go_sem] theorem tt111 : tt 111 = some ⟨1, 8, false, .other, [(Value.pointer none)]⟩ := rfl
@[go_sem] theorem tt114 : tt 114 = some ⟨8, 160, true, .struct [(0, 48), (3, 25)], [(Value.int IntKind.i64 0), (Value.slice none 0 0), (Value.slice none 0 0), (Value.int IntKind.i64 0), (Value.slice none 0 0), (Value.slice none 0 0), (Value.slice none 0 0), (Value.slice none 0 0)]⟩ := rfl
@[go_sem] theorem tt134 : tt 134 = some ⟨1, 8, false, .other, [Value.nilFunc]⟩ := rfl
theorem tt_ok : Tys.ok Try.prog tt := by
  intro t d h
  unfold tt at h
  split at h
  · cases h; exact ⟨⟨Try.t3, _, by kernel_rfl, rfl, rfl, rfl, rfl⟩, ⟨_, Try.underlying3, rfl, rfl⟩⟩
  · cases h; exact ⟨⟨Try.t4, _, by kernel_rfl, rfl, rfl, rfl, rfl⟩, ⟨_, Try.underlying4, rfl, rfl⟩⟩
  · cases h; exact ⟨⟨Try.t5, _, by kernel_rfl, rfl, rfl, rfl, rfl⟩, ⟨_, Try.underlying5, rfl, rfl⟩⟩
  · cases h; exact ⟨⟨Try.t22, _, by kernel_rfl, rfl, rfl, rfl, rfl⟩, ⟨_, Try.underlying22, rfl, rfl⟩⟩
  · cases h; exact ⟨⟨Try.t23, _, by kernel_rfl, rfl, rfl, rfl, rfl⟩, ⟨_, Try.underlying23, rfl, rfl⟩⟩
  · cases h; exact ⟨⟨Try.t25, _, by kernel_rfl, rfl, rfl, rfl, rfl⟩, ⟨_, Try.underlying25, ⟨_, rfl, rfl⟩, rfl⟩⟩
  · cases h; exact ⟨⟨Try.t28, _, by kernel_rfl, rfl, rfl, rfl, rfl⟩, ⟨_, Try.underlying28, rfl, rfl⟩⟩
  · cases h; exact ⟨⟨Try.t33, _, by kernel_rfl, rfl, rfl, rfl, rfl⟩, ⟨_, Try.underlying33, rfl, rfl⟩⟩
  · cases h; exact ⟨⟨Try.t45, _, by kernel_rfl, rfl, rfl, rfl, rfl⟩, ⟨_, Try.underlying45, rfl, rfl⟩⟩
  · cases h; exact ⟨⟨Try.t46, _, by kernel_rfl, rfl, rfl, rfl, rfl⟩, ⟨_, Try.underlying46, rfl, rfl⟩⟩
  · cases h; exact ⟨⟨Try.t48, _, by kernel_rfl, rfl, rfl, rfl, rfl⟩, ⟨_, Try.underlying48, ⟨_, rfl, rfl⟩, rfl⟩⟩
  · cases h; exact ⟨⟨Try.t55, _, by kernel_rfl, rfl, rfl, rfl, rfl⟩, ⟨_, Try.underlying55, ⟨_, rfl, rfl⟩, rfl⟩⟩
  · cases h; exact ⟨⟨Try.t61, _, by kernel_rfl, rfl, rfl, rfl, rfl⟩, ⟨_, Try.underlying61, rfl, rfl⟩⟩
  · cases h; exact ⟨⟨Try.t74, _, by kernel_rfl, rfl, rfl, rfl, rfl⟩, ⟨_, Try.underlying74, trivial, rfl⟩⟩
  · cases h; exact ⟨⟨Try.t77, _, by kernel_rfl, rfl, rfl, rfl, rfl⟩, ⟨_, Try.underlying77, rfl, rfl⟩⟩
  · cases h; exact ⟨⟨Try.t78, _, by kernel_rfl, rfl, rfl, rfl, rfl⟩, ⟨_, Try.underlying78, trivial, rfl⟩⟩
  · cases h; exact ⟨⟨Try.t82, _, by kernel_rfl, rfl, rfl, rfl, rfl⟩, ⟨_, Try.underlying82, trivial, rfl⟩⟩
  · cases h; exact ⟨⟨Try.t84, _, by kernel_rfl, rfl, rfl, rfl, rfl⟩, ⟨_, Try.underlying84, rfl, rfl⟩⟩
  · cases h; exact ⟨⟨Try.t86, _, by kernel_rfl, rfl, rfl, rfl, rfl⟩, ⟨_, Try.underlying86, ⟨_, rfl, rfl⟩, rfl⟩⟩
  · cases h; exact ⟨⟨Try.t89, _, by kernel_rfl, rfl, rfl, rfl, rfl⟩, ⟨_, Try.underlying89, ⟨_, rfl, rfl⟩, rfl⟩⟩
  · cases h; exact ⟨⟨Try.t96, _, by kernel_rfl, rfl, rfl, rfl, rfl⟩, ⟨_, Try.underlying96, trivial, rfl⟩⟩
  · cases h; exact ⟨⟨Try.t103, _, by kernel_rfl, rfl, rfl, rfl, rfl⟩, ⟨_, Try.underlying103, rfl, rfl⟩⟩
  · cases h; exact ⟨⟨Try.t106, _, by kernel_rfl, rfl, rfl, rfl, rfl⟩, ⟨_, Try.underlying106, rfl, rfl⟩⟩
  · cases h; exact ⟨⟨Try.t107, _, by kernel_rfl, rfl, rfl, rfl, rfl⟩, ⟨_, Try.underlying107, trivial, rfl⟩⟩
  · cases h; exact ⟨⟨Try.t111, _, by kernel_rfl, rfl, rfl, rfl, rfl⟩, ⟨_, Try.underlying111, trivial, rfl⟩⟩
  · cases h; exact ⟨⟨Try.t114, _, by kernel_rfl, rfl, rfl, rfl, rfl⟩, ⟨_, Try.underlying114, ⟨_, rfl, rfl⟩, rfl⟩⟩
  · cases h; exact ⟨⟨Try.t134, _, by kernel_rfl, rfl, rfl, rfl, rfl⟩, ⟨_, Try.underlying134, trivial, rfl⟩⟩
  · cases h
theorem follows_ : Try.prog.follows .mixedOrders = true := by kernel_rfl
end Go.Proofs.Ytpbfkpdfodmcaaa
