/- What is known of the program's types. -/
import Derived.Test.YtfflfmpkjcomgaaDoorProg
import Derived.Test.YtfflfmpkjcomgaaDoorEng16
import Derived.KernelRfl
namespace Go.Proofs.YtfflfmpkjcomgaaDoor
open Go.RowKit
def tt : Tys
  | 3 => some ⟨1, 8, false, .int .i64, [(Value.int IntKind.i64 0)], false⟩
  | 4 => some ⟨1, 1, false, .bool, [(Value.bool false)], false⟩
  | 5 => some ⟨1, 1, false, .int .u8, [(Value.int IntKind.u8 0)], false⟩
  | 9 => some ⟨1, 16, false, .string, [(Value.string { data := #[] })], false⟩
  | 20 => some ⟨1, 16, false, .iface, [Value.nilIface], false⟩
  | 21 => some ⟨1, 4, false, .int .i32, [(Value.int IntKind.i32 0)], false⟩
  | 22 => some ⟨1, 24, false, .slice 9, [(Value.slice none 0 0)], false⟩
  | 25 => some ⟨1, 24, false, .slice 52, [(Value.slice none 0 0)], false⟩
  | 26 => some ⟨1, 8, false, .int .i64, [(Value.int IntKind.i64 0)], false⟩
  | 29 => some ⟨1, 24, false, .slice 58, [(Value.slice none 0 0)], false⟩
  | 36 => some ⟨1, 24, false, .slice 4, [(Value.slice none 0 0)], false⟩
  | 47 => some ⟨1, 8, false, .int .i64, [(Value.int IntKind.i64 0)], false⟩
  | 49 => some ⟨5, 80, true, .struct [(0, 9), (1, 47), (2, 22), (3, 22), (4, 4)], [(Value.string { data := #[] }), (Value.int IntKind.i64 0), (Value.slice none 0 0), (Value.slice none 0 0), (Value.bool false)], true⟩
  | 52 => some ⟨3, 24, true, .struct [(0, 3), (1, 3), (2, 3)], [(Value.int IntKind.i64 0), (Value.int IntKind.i64 0), (Value.int IntKind.i64 0)], true⟩
  | 58 => some ⟨3, 24, true, .struct [(0, 3), (1, 3), (2, 3)], [(Value.int IntKind.i64 0), (Value.int IntKind.i64 0), (Value.int IntKind.i64 0)], true⟩
  | 65 => some ⟨2, 32, true, .struct [(0, 25), (1, 3)], [(Value.slice none 0 0), (Value.int IntKind.i64 0)], true⟩
  | 67 => some ⟨1, 8, false, .other, [Value.nilFunc], false⟩
  | 68 => some ⟨1, 8, false, .other, [Value.nilFunc], false⟩
  | 70 => some ⟨2, 16, true, .struct [(0, 67), (1, 68)], [Value.nilFunc, Value.nilFunc], true⟩
  | 78 => some ⟨1, 8, false, .other, [(Value.pointer none)], false⟩
  | 81 => some ⟨1, 8, false, .other, [Value.nilFunc], false⟩
  | 82 => some ⟨1, 24, false, .slice 86, [(Value.slice none 0 0)], false⟩
  | 85 => some ⟨2, 16, true, .array 2 3, [(Value.int IntKind.i64 0), (Value.int IntKind.i64 0)], false⟩
  | 86 => some ⟨2, 16, true, .array 2 3, [(Value.int IntKind.i64 0), (Value.int IntKind.i64 0)], false⟩
  | 100 => some ⟨1, 8, false, .other, [(Value.pointer none)], false⟩
  | 102 => some ⟨1, 8, false, .map 47 85, [(Value.map none)], false⟩
  | 126 => some ⟨2, 2, true, .struct [(0, 5), (1, 5)], [(Value.int IntKind.u8 0), (Value.int IntKind.u8 0)], true⟩
  | 127 => some ⟨32, 32, true, .array 16 126, [(Value.int IntKind.u8 0), (Value.int IntKind.u8 0), (Value.int IntKind.u8 0), (Value.int IntKind.u8 0), (Value.int IntKind.u8 0), (Value.int IntKind.u8 0), (Value.int IntKind.u8 0), (Value.int IntKind.u8 0), (Value.int IntKind.u8 0), (Value.int IntKind.u8 0), (Value.int IntKind.u8 0), (Value.int IntKind.u8 0), (Value.int IntKind.u8 0), (Value.int IntKind.u8 0), (Value.int IntKind.u8 0), (Value.int IntKind.u8 0), (Value.int IntKind.u8 0), (Value.int IntKind.u8 0), (Value.int IntKind.u8 0), (Value.int IntKind.u8 0), (Value.int IntKind.u8 0), (Value.int IntKind.u8 0), (Value.int IntKind.u8 0), (Value.int IntKind.u8 0), (Value.int IntKind.u8 0), (Value.int IntKind.u8 0), (Value.int IntKind.u8 0), (Value.int IntKind.u8 0), (Value.int IntKind.u8 0), (Value.int IntKind.u8 0), (Value.int IntKind.u8 0), (Value.int IntKind.u8 0)], false⟩
  | 129 => some ⟨1, 4, false, .int .u32, [(Value.int IntKind.u32 0)], false⟩
  | _ => none
@[go_sem] theorem tt3 : tt 3 = some ⟨1, 8, false, .int .i64, [(Value.int IntKind.i64 0)], false⟩ := rfl
@[go_sem] theorem tt4 : tt 4 = some ⟨1, 1, false, .bool, [(Value.bool false)], false⟩ := rfl
@[go_sem] theorem tt5 : tt 5 = some ⟨1, 1, false, .int .u8, [(Value.int IntKind.u8 0)], false⟩ := rfl
@[go_sem] theorem tt9 : tt 9 = some ⟨1, 16, false, .string, [(Value.string { data := #[] })], false⟩ := rfl
@[go_sem] theorem tt20 : tt 20 = some ⟨1, 16, false, .iface, [Value.nilIface], false⟩ := rfl
@[go_sem] theorem tt21 : tt 21 = some ⟨1, 4, false, .int .i32, [(Value.int IntKind.i32 0)], false⟩ := rfl
@[go_sem] theorem tt22 : tt 22 = some ⟨1, 24, false, .slice 9, [(Value.slice none 0 0)], false⟩ := rfl
@[go_sem] theorem tt25 : tt 25 = some ⟨1, 24, false, .slice 52, [(Value.slice none 0 0)], false⟩ := rfl
@[go_sem] theorem tt26 : tt 26 = some ⟨1, 8, false, .int .i64, [(Value.int IntKind.i64 0)], false⟩ := rfl
@[go_sem] theorem tt29 : tt 29 = some ⟨1, 24, false, .slice 58, [(Value.slice none 0 0)], false⟩ := rfl
@[go_sem] theorem tt36 : tt 36 = some ⟨1, 24, false, .slice 4, [(Value.slice none 0 0)], false⟩ := rfl
@[go_sem] theorem tt47 : tt 47 = some ⟨1, 8, false, .int .i64, [(Value.int IntKind.i64 0)], false⟩ := rfl
@[go_sem] theorem tt49 : tt 49 = some ⟨5, 80, true, .struct [(0, 9), (1, 47), (2, 22), (3, 22), (4, 4)], [(Value.string { data := #[] }), (Value.int IntKind.i64 0), (Value.slice none 0 0), (Value.slice none 0 0), (Value.bool false)], true⟩ := rfl
@[go_sem] theorem tt52 : tt 52 = some ⟨3, 24, true, .struct [(0, 3), (1, 3), (2, 3)], [(Value.int IntKind.i64 0), (Value.int IntKind.i64 0), (Value.int IntKind.i64 0)], true⟩ := rfl
@[go_sem] theorem tt58 : tt 58 = some ⟨3, 24, true, .struct [(0, 3), (1, 3), (2, 3)], [(Value.int IntKind.i64 0), (Value.int IntKind.i64 0), (Value.int IntKind.i64 0)], true⟩ := rfl
@[go_sem] theorem tt65 : tt 65 = some ⟨2, 32, true, .struct [(0, 25), (1, 3)], [(Value.slice none 0 0), (Value.int IntKind.i64 0)], true⟩ := rfl
@[go_sem] theorem tt67 : tt 67 = some ⟨1, 8, false, .other, [Value.nilFunc], false⟩ := rfl
@[go_sem] theorem tt68 : tt 68 = some ⟨1, 8, false, .other, [Value.nilFunc], false⟩ := rfl
@[go_sem] theorem tt70 : tt 70 = some ⟨2, 16, true, .struct [(0, 67), (1, 68)], [Value.nilFunc, Value.nilFunc], true⟩ := rfl
@[go_sem] theorem tt78 : tt 78 = some ⟨1, 8, false, .other, [(Value.pointer none)], false⟩ := rfl
@[go_sem] theorem tt81 : tt 81 = some ⟨1, 8, false, .other, [Value.nilFunc], false⟩ := rfl
@[go_sem] theorem tt82 : tt 82 = some ⟨1, 24, false, .slice 86, [(Value.slice none 0 0)], false⟩ := rfl
@[go_sem] theorem tt85 : tt 85 = some ⟨2, 16, true, .array 2 3, [(Value.int IntKind.i64 0), (Value.int IntKind.i64 0)], false⟩ := rfl
@[go_sem] theorem tt86 : tt 86 = some ⟨2, 16, true, .array 2 3, [(Value.int IntKind.i64 0), (Value.int IntKind.i64 0)], false⟩ := rfl
@[go_sem] theorem tt100 : tt 100 = some ⟨1, 8, false, .other, [(Value.pointer none)], false⟩ := rfl
@[go_sem] theorem tt102 : tt 102 = some ⟨1, 8, false, .map 47 85, [(Value.map none)], false⟩ := rfl
@[go_sem] theorem tt126 : tt 126 = some ⟨2, 2, true, .struct [(0, 5), (1, 5)], [(Value.int IntKind.u8 0), (Value.int IntKind.u8 0)], true⟩ := rfl
@[go_sem] theorem tt127 : tt 127 = some ⟨32, 32, true, .array 16 126, [(Value.int IntKind.u8 0), (Value.int IntKind.u8 0), (Value.int IntKind.u8 0), (Value.int IntKind.u8 0), (Value.int IntKind.u8 0), (Value.int IntKind.u8 0), (Value.int IntKind.u8 0), (Value.int IntKind.u8 0), (Value.int IntKind.u8 0), (Value.int IntKind.u8 0), (Value.int IntKind.u8 0), (Value.int IntKind.u8 0), (Value.int IntKind.u8 0), (Value.int IntKind.u8 0), (Value.int IntKind.u8 0), (Value.int IntKind.u8 0), (Value.int IntKind.u8 0), (Value.int IntKind.u8 0), (Value.int IntKind.u8 0), (Value.int IntKind.u8 0), (Value.int IntKind.u8 0), (Value.int IntKind.u8 0), (Value.int IntKind.u8 0), (Value.int IntKind.u8 0), (Value.int IntKind.u8 0), (Value.int IntKind.u8 0), (Value.int IntKind.u8 0), (Value.int IntKind.u8 0), (Value.int IntKind.u8 0), (Value.int IntKind.u8 0), (Value.int IntKind.u8 0), (Value.int IntKind.u8 0)], false⟩ := rfl
@[go_sem] theorem tt129 : tt 129 = some ⟨1, 4, false, .int .u32, [(Value.int IntKind.u32 0)], false⟩ := rfl
theorem tt_ok : Tys.ok Tryd.prog tt := by
  intro t d h
  unfold tt at h
  split at h
  · cases h; exact ⟨⟨Tryd.t3, _, by kernel_rfl, rfl, rfl, rfl, rfl⟩, ⟨_, Tryd.underlying3, rfl, rfl⟩, fun h => (by cases h)⟩
  · cases h; exact ⟨⟨Tryd.t4, _, by kernel_rfl, rfl, rfl, rfl, rfl⟩, ⟨_, Tryd.underlying4, rfl, rfl⟩, fun h => (by cases h)⟩
  · cases h; exact ⟨⟨Tryd.t5, _, by kernel_rfl, rfl, rfl, rfl, rfl⟩, ⟨_, Tryd.underlying5, rfl, rfl⟩, fun h => (by cases h)⟩
  · cases h; exact ⟨⟨Tryd.t9, _, by kernel_rfl, rfl, rfl, rfl, rfl⟩, ⟨_, Tryd.underlying9, rfl, rfl⟩, fun h => (by cases h)⟩
  · cases h; exact ⟨⟨Tryd.t20, _, by kernel_rfl, rfl, rfl, rfl, rfl⟩, ⟨_, Tryd.underlying20, ⟨_, rfl⟩, rfl⟩, fun h => (by cases h)⟩
  · cases h; exact ⟨⟨Tryd.t21, _, by kernel_rfl, rfl, rfl, rfl, rfl⟩, ⟨_, Tryd.underlying21, rfl, rfl⟩, fun h => (by cases h)⟩
  · cases h; exact ⟨⟨Tryd.t22, _, by kernel_rfl, rfl, rfl, rfl, rfl⟩, ⟨_, Tryd.underlying22, rfl, rfl⟩, fun h => (by cases h)⟩
  · cases h; exact ⟨⟨Tryd.t25, _, by kernel_rfl, rfl, rfl, rfl, rfl⟩, ⟨_, Tryd.underlying25, rfl, rfl⟩, fun h => (by cases h)⟩
  · cases h; exact ⟨⟨Tryd.t26, _, by kernel_rfl, rfl, rfl, rfl, rfl⟩, ⟨_, Tryd.underlying26, rfl, rfl⟩, fun h => (by cases h)⟩
  · cases h; exact ⟨⟨Tryd.t29, _, by kernel_rfl, rfl, rfl, rfl, rfl⟩, ⟨_, Tryd.underlying29, rfl, rfl⟩, fun h => (by cases h)⟩
  · cases h; exact ⟨⟨Tryd.t36, _, by kernel_rfl, rfl, rfl, rfl, rfl⟩, ⟨_, Tryd.underlying36, rfl, rfl⟩, fun h => (by cases h)⟩
  · cases h; exact ⟨⟨Tryd.t47, _, by kernel_rfl, rfl, rfl, rfl, rfl⟩, ⟨_, Tryd.underlying47, rfl, rfl⟩, fun h => (by cases h)⟩
  · cases h; exact ⟨⟨Tryd.t49, _, by kernel_rfl, rfl, rfl, rfl, rfl⟩, ⟨_, Tryd.underlying49, ⟨_, rfl, rfl⟩, rfl⟩, fun _ => ⟨by kernel_rfl, fun F h => by
      rw [Tryd.underlying49] at h; cases h; decide⟩⟩
  · cases h; exact ⟨⟨Tryd.t52, _, by kernel_rfl, rfl, rfl, rfl, rfl⟩, ⟨_, Tryd.underlying52, ⟨_, rfl, rfl⟩, rfl⟩, fun _ => ⟨by kernel_rfl, fun F h => by
      rw [Tryd.underlying52] at h; cases h; decide⟩⟩
  · cases h; exact ⟨⟨Tryd.t58, _, by kernel_rfl, rfl, rfl, rfl, rfl⟩, ⟨_, Tryd.underlying58, ⟨_, rfl, rfl⟩, rfl⟩, fun _ => ⟨by kernel_rfl, fun F h => by
      rw [Tryd.underlying58] at h; cases h; decide⟩⟩
  · cases h; exact ⟨⟨Tryd.t65, _, by kernel_rfl, rfl, rfl, rfl, rfl⟩, ⟨_, Tryd.underlying65, ⟨_, rfl, rfl⟩, rfl⟩, fun _ => ⟨by kernel_rfl, fun F h => by
      rw [Tryd.underlying65] at h; cases h; decide⟩⟩
  · cases h; exact ⟨⟨Tryd.t67, _, by kernel_rfl, rfl, rfl, rfl, rfl⟩, ⟨_, Tryd.underlying67, trivial, rfl⟩, fun h => (by cases h)⟩
  · cases h; exact ⟨⟨Tryd.t68, _, by kernel_rfl, rfl, rfl, rfl, rfl⟩, ⟨_, Tryd.underlying68, trivial, rfl⟩, fun h => (by cases h)⟩
  · cases h; exact ⟨⟨Tryd.t70, _, by kernel_rfl, rfl, rfl, rfl, rfl⟩, ⟨_, Tryd.underlying70, ⟨_, rfl, rfl⟩, rfl⟩, fun _ => ⟨by kernel_rfl, fun F h => by
      rw [Tryd.underlying70] at h; cases h; decide⟩⟩
  · cases h; exact ⟨⟨Tryd.t78, _, by kernel_rfl, rfl, rfl, rfl, rfl⟩, ⟨_, Tryd.underlying78, trivial, rfl⟩, fun h => (by cases h)⟩
  · cases h; exact ⟨⟨Tryd.t81, _, by kernel_rfl, rfl, rfl, rfl, rfl⟩, ⟨_, Tryd.underlying81, trivial, rfl⟩, fun h => (by cases h)⟩
  · cases h; exact ⟨⟨Tryd.t82, _, by kernel_rfl, rfl, rfl, rfl, rfl⟩, ⟨_, Tryd.underlying82, rfl, rfl⟩, fun h => (by cases h)⟩
  · cases h; exact ⟨⟨Tryd.t85, _, by kernel_rfl, rfl, rfl, rfl, rfl⟩, ⟨_, Tryd.underlying85, rfl, rfl⟩, fun h => (by cases h)⟩
  · cases h; exact ⟨⟨Tryd.t86, _, by kernel_rfl, rfl, rfl, rfl, rfl⟩, ⟨_, Tryd.underlying86, rfl, rfl⟩, fun h => (by cases h)⟩
  · cases h; exact ⟨⟨Tryd.t100, _, by kernel_rfl, rfl, rfl, rfl, rfl⟩, ⟨_, Tryd.underlying100, trivial, rfl⟩, fun h => (by cases h)⟩
  · cases h; exact ⟨⟨Tryd.t102, _, by kernel_rfl, rfl, rfl, rfl, rfl⟩, ⟨_, Tryd.underlying102, rfl, rfl⟩, fun h => (by cases h)⟩
  · cases h; exact ⟨⟨Tryd.t126, _, by kernel_rfl, rfl, rfl, rfl, rfl⟩, ⟨_, Tryd.underlying126, ⟨_, rfl, rfl⟩, rfl⟩, fun _ => ⟨by kernel_rfl, fun F h => by
      rw [Tryd.underlying126] at h; cases h; decide⟩⟩
  · cases h; exact ⟨⟨Tryd.t127, _, by kernel_rfl, rfl, rfl, rfl, rfl⟩, ⟨_, Tryd.underlying127, rfl, rfl⟩, fun h => (by cases h)⟩
  · cases h; exact ⟨⟨Tryd.t129, _, by kernel_rfl, rfl, rfl, rfl, rfl⟩, ⟨_, Tryd.underlying129, rfl, rfl⟩, fun h => (by cases h)⟩
  · cases h
theorem follows_ : Tryd.prog.follows .mixedOrders = true := by kernel_rfl
end Go.Proofs.YtfflfmpkjcomgaaDoor
