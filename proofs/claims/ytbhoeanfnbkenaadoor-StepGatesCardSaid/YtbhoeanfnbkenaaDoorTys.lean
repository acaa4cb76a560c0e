import Derived.Test.YtbhoeanfnbkenaaDoorProg
import Derived.Test.YtbhoeanfnbkenaaDoorEng16
import Derived.KernelRfl
namespace Go.Proofs.YtbhoeanfnbkenaaDoor
open Go.RowKit
def tt : Tys
  | 3 => some ⟨1, 8, false, .int .i64, [(Value.int IntKind.i64 0)], false⟩
  | 4 => some ⟨1, 1, false, .bool, [(Value.bool false)], false⟩
  | 5 => some ⟨1, 1, false, .int .u8, [(Value.int IntKind.u8 0)], false⟩
  | 9 => some ⟨1, 16, false, .string, [(Value.string { data := #[] })], false⟩
  | 20 => some ⟨1, 16, false, .iface, [Value.nilIface], false⟩
  | 21 => some ⟨1, 4, false, .int .i32, [(Value.int IntKind.i32 0)], false⟩
  | 22 => some ⟨1, 24, false, .slice 9, [(Value.slice none 0 0)], false⟩
  | 23 => some ⟨1, 24, false, .slice 61, [(Value.slice none 0 0)], false⟩
  | 24 => some ⟨1, 24, false, .slice 45, [(Value.slice none 0 0)], false⟩
  | 26 => some ⟨4, 96, true, .struct [(0, 22), (1, 22), (2, 23), (3, 24)], [(Value.slice none 0 0), (Value.slice none 0 0), (Value.slice none 0 0), (Value.slice none 0 0)], true⟩
  | 29 => some ⟨1, 24, false, .slice 3, [(Value.slice none 0 0)], false⟩
  | 32 => some ⟨1, 8, false, .int .i64, [(Value.int IntKind.i64 0)], false⟩
  | 43 => some ⟨1, 8, false, .int .i64, [(Value.int IntKind.i64 0)], false⟩
  | 45 => some ⟨5, 80, true, .struct [(0, 9), (1, 43), (2, 22), (3, 22), (4, 4)], [(Value.string { data := #[] }), (Value.int IntKind.i64 0), (Value.slice none 0 0), (Value.slice none 0 0), (Value.bool false)], true⟩
  | 49 => some ⟨1, 24, false, .slice 4, [(Value.slice none 0 0)], false⟩
  | 54 => some ⟨1, 24, false, .slice 49, [(Value.slice none 0 0)], false⟩
  | 61 => some ⟨3, 40, true, .struct [(0, 9), (1, 9), (2, 3)], [(Value.string { data := #[] }), (Value.string { data := #[] }), (Value.int IntKind.i64 0)], true⟩
  | 71 => some ⟨1, 8, false, .map 9 3, [(Value.map none)], false⟩
  | 74 => some ⟨1, 8, false, .map 9 77, [(Value.map none)], false⟩
  | 77 => some ⟨0, 0, true, .struct [], [], true⟩
  | 80 => some ⟨1, 8, false, .other, [Value.nilFunc], false⟩
  | 83 => some ⟨2, 24, true, .struct [(0, 32), (1, 9)], [(Value.int IntKind.i64 0), (Value.string { data := #[] })], true⟩
  | 92 => some ⟨1, 8, false, .other, [Value.nilFunc], false⟩
  | 93 => some ⟨1, 8, false, .other, [Value.nilFunc], false⟩
  | 95 => some ⟨2, 16, true, .struct [(0, 92), (1, 93)], [Value.nilFunc, Value.nilFunc], true⟩
  | 104 => some ⟨6, 128, true, .struct [(0, 26), (4, 71), (5, 29)], [(Value.slice none 0 0), (Value.slice none 0 0), (Value.slice none 0 0), (Value.slice none 0 0), (Value.map none), (Value.slice none 0 0)], true⟩
  | 108 => some ⟨1, 8, false, .other, [(Value.pointer none)], false⟩
  | 110 => some ⟨1, 24, false, .slice 3, [(Value.slice none 0 0)], false⟩
  | 111 => some ⟨1, 8, false, .map 9 29, [(Value.map none)], false⟩
  | 113 => some ⟨3, 56, true, .struct [(0, 110), (1, 111), (2, 29)], [(Value.slice none 0 0), (Value.map none), (Value.slice none 0 0)], true⟩
  | 116 => some ⟨1, 8, false, .other, [(Value.pointer none)], false⟩
  | 118 => some ⟨1, 8, false, .other, [Value.nilFunc], false⟩
  | 121 => some ⟨1, 8, false, .map 9 22, [(Value.map none)], false⟩
  | 127 => some ⟨2, 16, true, .array 2 3, [(Value.int IntKind.i64 0), (Value.int IntKind.i64 0)], false⟩
  | 129 => some ⟨1, 8, false, .map 43 127, [(Value.map none)], false⟩
  | 138 => some ⟨1, 16, false, .iface, [Value.nilIface], false⟩
  | 145 => some ⟨1, 8, false, .int .u64, [(Value.int IntKind.u64 0)], false⟩
  | 155 => some ⟨1, 8, false, .other, [(Value.pointer none)], false⟩
  | 163 => some ⟨2, 2, true, .struct [(0, 5), (1, 5)], [(Value.int IntKind.u8 0), (Value.int IntKind.u8 0)], true⟩
  | 164 => some ⟨32, 32, true, .array 16 163, [(Value.int IntKind.u8 0), (Value.int IntKind.u8 0), (Value.int IntKind.u8 0), (Value.int IntKind.u8 0), (Value.int IntKind.u8 0), (Value.int IntKind.u8 0), (Value.int IntKind.u8 0), (Value.int IntKind.u8 0), (Value.int IntKind.u8 0), (Value.int IntKind.u8 0), (Value.int IntKind.u8 0), (Value.int IntKind.u8 0), (Value.int IntKind.u8 0), (Value.int IntKind.u8 0), (Value.int IntKind.u8 0), (Value.int IntKind.u8 0), (Value.int IntKind.u8 0), (Value.int IntKind.u8 0), (Value.int IntKind.u8 0), (Value.int IntKind.u8 0), (Value.int IntKind.u8 0), (Value.int IntKind.u8 0), (Value.int IntKind.u8 0), (Value.int IntKind.u8 0), (Value.int IntKind.u8 0), (Value.int IntKind.u8 0), (Value.int IntKind.u8 0), (Value.int IntKind.u8 0), (Value.int IntKind.u8 0), (Value.int IntKind.u8 0), (Value.int IntKind.u8 0), (Value.int IntKind.u8 0)], false⟩
  | _ => none
@[go_sem] theorem tt3 : tt 3 = some ⟨1, 8, false, .int .i64, [(Value.int IntKind.i64 0)], false⟩ := rfl
@[go_sem] theorem tt4 : tt 4 = some ⟨1, 1, false, .bool, [(Value.bool false)], false⟩ := rfl
@[go_sem] theorem tt5 : tt 5 = some ⟨1, 1, false, .int .u8, [(Value.int IntKind.u8 0)], false⟩ := rfl
@[go_sem] theorem tt9 : tt 9 = some ⟨1, 16, false, .string, [(Value.string { data := #[] })], false⟩ := rfl
@[go_sem] theorem tt20 : tt 20 = some ⟨1, 16, false, .iface, [Value.nilIface], false⟩ := rfl
@[go_sem] theorem tt21 : tt 21 = some ⟨1, 4, false, .int .i32, [(Value.int IntKind.i32 0)], false⟩ := rfl
@[go_sem] theorem tt22 : tt 22 = some ⟨1, 24, false, .slice 9, [(Value.slice none 0 0)], false⟩ := rfl
@[go_sem] theorem tt23 : tt 23 = some ⟨1, 24, false, .slice 61, [(Value.slice none 0 0)], false⟩ := rfl
@[go_sem] theorem tt24 : tt 24 = some ⟨1, 24, false, .slice 45, [(Value.slice none 0 0)], false⟩ := rfl
@[go_sem] theorem tt26 : tt 26 = some ⟨4, 96, true, .struct [(0, 22), (1, 22), (2, 23), (3, 24)], [(Value.slice none 0 0), (Value.slice none 0 0), (Value.slice none 0 0), (Value.slice none 0 0)], true⟩ := rfl
@[go_sem] theorem tt29 : tt 29 = some ⟨1, 24, false, .slice 3, [(Value.slice none 0 0)], false⟩ := rfl
@[go_sem] theorem tt32 : tt 32 = some ⟨1, 8, false, .int .i64, [(Value.int IntKind.i64 0)], false⟩ := rfl
@[go_sem] theorem tt43 : tt 43 = some ⟨1, 8, false, .int .i64, [(Value.int IntKind.i64 0)], false⟩ := rfl
@[go_sem] theorem tt45 : tt 45 = some ⟨5, 80, true, .struct [(0, 9), (1, 43), (2, 22), (3, 22), (4, 4)], [(Value.string { data := #[] }), (Value.int IntKind.i64 0), (Value.slice none 0 0), (Value.slice none 0 0), (Value.bool false)], true⟩ := rfl
@[go_sem] theorem tt49 : tt 49 = some ⟨1, 24, false, .slice 4, [(Value.slice none 0 0)], false⟩ := rfl
@[go_sem] theorem tt54 : tt 54 = some ⟨1, 24, false, .slice 49, [(Value.slice none 0 0)], false⟩ := rfl
@[go_sem] theorem tt61 : tt 61 = some ⟨3, 40, true, .struct [(0, 9), (1, 9), (2, 3)], [(Value.string { data := #[] }), (Value.string { data := #[] }), (Value.int IntKind.i64 0)], true⟩ := rfl
@[go_sem] theorem tt71 : tt 71 = some ⟨1, 8, false, .map 9 3, [(Value.map none)], false⟩ := rfl
@[go_sem] theorem tt74 : tt 74 = some ⟨1, 8, false, .map 9 77, [(Value.map none)], false⟩ := rfl
@[go_sem] theorem tt77 : tt 77 = some ⟨0, 0, true, .struct [], [], true⟩ := rfl
@[go_sem] theorem tt80 : tt 80 = some ⟨1, 8, false, .other, [Value.nilFunc], false⟩ := rfl
@[go_sem] theorem tt83 : tt 83 = some ⟨2, 24, true, .struct [(0, 32), (1, 9)], [(Value.int IntKind.i64 0), (Value.string { data := #[] })], true⟩ := rfl
@[go_sem] theorem tt92 : tt 92 = some ⟨1, 8, false, .other, [Value.nilFunc], false⟩ := rfl
@[go_sem] theorem tt93 : tt 93 = some ⟨1, 8, false, .other, [Value.nilFunc], false⟩ := rfl
@[go_sem] theorem tt95 : tt 95 = some ⟨2, 16, true, .struct [(0, 92), (1, 93)], [Value.nilFunc, Value.nilFunc], true⟩ := rfl
@[go_sem] theorem tt104 : tt 104 = some ⟨6, 128, true, .struct [(0, 26), (4, 71), (5, 29)], [(Value.slice none 0 0), (Value.slice none 0 0), (Value.slice none 0 0), (Value.slice none 0 0), (Value.map none), (Value.slice none 0 0)], true⟩ := rfl
@[go_sem] theorem tt108 : tt 108 = some ⟨1, 8, false, .other, [(Value.pointer none)], false⟩ := rfl
@[go_sem] theorem tt110 : tt 110 = some ⟨1, 24, false, .slice 3, [(Value.slice none 0 0)], false⟩ := rfl
@[go_sem] theorem tt111 : tt 111 = some ⟨1, 8, false, .map 9 29, [(Value.map none)], false⟩ := rfl
@[go_sem] theorem tt113 : tt 113 = some ⟨3, 56, true, .struct [(0, 110), (1, 111), (2, 29)], [(Value.slice none 0 0), (Value.map none), (Value.slice none 0 0)], true⟩ := rfl
@[go_sem] theorem tt116 : tt 116 = some ⟨1, 8, false, .other, [(Value.pointer none)], false⟩ := rfl
@[go_sem] theorem tt118 : tt 118 = some ⟨1, 8, false, .other, [Value.nilFunc], false⟩ := rfl
@[go_sem] theorem tt121 : tt 121 = some ⟨1, 8, false, .map 9 22, [(Value.map none)], false⟩ := rfl
@[go_sem] theorem tt127 : tt 127 = some ⟨2, 16, true, .array 2 3, [(Value.int IntKind.i64 0), (Value.int IntKind.i64 0)], false⟩ := rfl
@[go_sem] theorem tt129 : tt 129 = some ⟨1, 8, false, .map 43 127, [(Value.map none)], false⟩ := rfl
@[go_sem] theorem tt138 : tt 138 = some ⟨1, 16, false, .iface, [Value.nilIface], false⟩ := rfl
@[go_sem] theorem tt145 : tt 145 = some ⟨1, 8, false, .int .u64, [(Value.int IntKind.u64 0)], false⟩ := rfl
@[go_sem] theorem tt155 : tt 155 = some ⟨1, 8, false, .other, [(Value.pointer none)], false⟩ := rfl
@[go_sem] theorem tt163 : tt 163 = some ⟨2, 2, true, .struct [(0, 5), (1, 5)], [(Value.int IntKind.u8 0), (Value.int IntKind.u8 0)], true⟩ := rfl
@[go_sem] theorem tt164 : tt 164 = some ⟨32, 32, true, .array 16 163, [(Value.int IntKind.u8 0), (Value.int IntKind.u8 0), (Value.int IntKind.u8 0), (Value.int IntKind.u8 0), (Value.int IntKind.u8 0), (Value.int IntKind.u8 0), (Value.int IntKind.u8 0), (Value.int IntKind.u8 0), (Value.int IntKind.u8 0), (Value.int IntKind.u8 0), (Value.int IntKind.u8 0), (Value.int IntKind.u8 0), (Value.int IntKind.u8 0), (Value.int IntKind.u8 0), (Value.int IntKind.u8 0), (Value.int IntKind.u8 0), (Value.int IntKind.u8 0), (Value.int IntKind.u8 0), (Value.int IntKind.u8 0), (Value.int IntKind.u8 0), (Value.int IntKind.u8 0), (Value.int IntKind.u8 0), (Value.int IntKind.u8 0), (Value.int IntKind.u8 0), (Value.int IntKind.u8 0), (Value.int IntKind.u8 0), (Value.int IntKind.u8 0), (Value.int IntKind.u8 0), (Value.int IntKind.u8 0), (Value.int IntKind.u8 0), (Value.int IntKind.u8 0), (Value.int IntKind.u8 0)], false⟩ := rfl
theorem tt_ok : Tys.ok Tryd.prog tt := by
  intro t d h
  unfold tt at h
  split at h
  · cases h; exact ⟨⟨Tryd.t3, _, by kernel_rfl, rfl, rfl, rfl, rfl⟩, ⟨_, Tryd.underlying3, rfl, rfl⟩, fun h => (by cases h)⟩
  · cases h; exact ⟨⟨Tryd.t4, _, by kernel_rfl, rfl, rfl, rfl, rfl⟩, ⟨_, Tryd.underlying4, rfl, rfl⟩, fun h => (by cases h)⟩
  · cases h; exact ⟨⟨Tryd.t5, _, by kernel_rfl, rfl, rfl, rfl, rfl⟩, ⟨_, Tryd.underlying5, rfl, rfl⟩, fun h => (by cases h)⟩
  · cases h; exact ⟨⟨Tryd.t9, _, by kernel_rfl, rfl, rfl, rfl, rfl⟩, ⟨_, Tryd.underlying9, rfl, rfl⟩, fun h => (by cases h)⟩
  · cases h; exact ⟨⟨Tryd.t20, _, by kernel_rfl, rfl, rfl, rfl, rfl⟩, ⟨_, Tryd.underlying20, ⟨_, rfl⟩, rfl⟩, fun h => (by cases h)⟩
  · cases h; exact ⟨⟨Tryd.t21, _, by kernel_rfl, rfl, rfl, rfl, rfl⟩, ⟨_, Tryd.underlying21, rfl, rfl⟩, fun h => (by cases h)⟩
  · cases h; exact ⟨⟨Tryd.t22, _, by kernel_rfl, rfl, rfl, rfl, rfl⟩, ⟨_, Tryd.underlying22, rfl, rfl⟩, fun h => (by cases h)⟩
  · cases h; exact ⟨⟨Tryd.t23, _, by kernel_rfl, rfl, rfl, rfl, rfl⟩, ⟨_, Tryd.underlying23, rfl, rfl⟩, fun h => (by cases h)⟩
  · cases h; exact ⟨⟨Tryd.t24, _, by kernel_rfl, rfl, rfl, rfl, rfl⟩, ⟨_, Tryd.underlying24, rfl, rfl⟩, fun h => (by cases h)⟩
  · cases h; exact ⟨⟨Tryd.t26, _, by kernel_rfl, rfl, rfl, rfl, rfl⟩, ⟨_, Tryd.underlying26, ⟨_, rfl, rfl⟩, rfl⟩, fun _ => ⟨by kernel_rfl, fun F h => by
      rw [Tryd.underlying26] at h; cases h; decide⟩⟩
  · cases h; exact ⟨⟨Tryd.t29, _, by kernel_rfl, rfl, rfl, rfl, rfl⟩, ⟨_, Tryd.underlying29, rfl, rfl⟩, fun h => (by cases h)⟩
  · cases h; exact ⟨⟨Tryd.t32, _, by kernel_rfl, rfl, rfl, rfl, rfl⟩, ⟨_, Tryd.underlying32, rfl, rfl⟩, fun h => (by cases h)⟩
  · cases h; exact ⟨⟨Tryd.t43, _, by kernel_rfl, rfl, rfl, rfl, rfl⟩, ⟨_, Tryd.underlying43, rfl, rfl⟩, fun h => (by cases h)⟩
  · cases h; exact ⟨⟨Tryd.t45, _, by kernel_rfl, rfl, rfl, rfl, rfl⟩, ⟨_, Tryd.underlying45, ⟨_, rfl, rfl⟩, rfl⟩, fun _ => ⟨by kernel_rfl, fun F h => by
      rw [Tryd.underlying45] at h; cases h; decide⟩⟩
  · cases h; exact ⟨⟨Tryd.t49, _, by kernel_rfl, rfl, rfl, rfl, rfl⟩, ⟨_, Tryd.underlying49, rfl, rfl⟩, fun h => (by cases h)⟩
  · cases h; exact ⟨⟨Tryd.t54, _, by kernel_rfl, rfl, rfl, rfl, rfl⟩, ⟨_, Tryd.underlying54, rfl, rfl⟩, fun h => (by cases h)⟩
  · cases h; exact ⟨⟨Tryd.t61, _, by kernel_rfl, rfl, rfl, rfl, rfl⟩, ⟨_, Tryd.underlying61, ⟨_, rfl, rfl⟩, rfl⟩, fun _ => ⟨by kernel_rfl, fun F h => by
      rw [Tryd.underlying61] at h; cases h; decide⟩⟩
  · cases h; exact ⟨⟨Tryd.t71, _, by kernel_rfl, rfl, rfl, rfl, rfl⟩, ⟨_, Tryd.underlying71, rfl, rfl⟩, fun h => (by cases h)⟩
  · cases h; exact ⟨⟨Tryd.t74, _, by kernel_rfl, rfl, rfl, rfl, rfl⟩, ⟨_, Tryd.underlying74, rfl, rfl⟩, fun h => (by cases h)⟩
  · cases h; exact ⟨⟨Tryd.t77, _, by kernel_rfl, rfl, rfl, rfl, rfl⟩, ⟨_, Tryd.underlying77, ⟨_, rfl, rfl⟩, rfl⟩, fun _ => ⟨by kernel_rfl, fun F h => by
      rw [Tryd.underlying77] at h; cases h; decide⟩⟩
  · cases h; exact ⟨⟨Tryd.t80, _, by kernel_rfl, rfl, rfl, rfl, rfl⟩, ⟨_, Tryd.underlying80, trivial, rfl⟩, fun h => (by cases h)⟩
  · cases h; exact ⟨⟨Tryd.t83, _, by kernel_rfl, rfl, rfl, rfl, rfl⟩, ⟨_, Tryd.underlying83, ⟨_, rfl, rfl⟩, rfl⟩, fun _ => ⟨by kernel_rfl, fun F h => by
      rw [Tryd.underlying83] at h; cases h; decide⟩⟩
  · cases h; exact ⟨⟨Tryd.t92, _, by kernel_rfl, rfl, rfl, rfl, rfl⟩, ⟨_, Tryd.underlying92, trivial, rfl⟩, fun h => (by cases h)⟩
  · cases h; exact ⟨⟨Tryd.t93, _, by kernel_rfl, rfl, rfl, rfl, rfl⟩, ⟨_, Tryd.underlying93, trivial, rfl⟩, fun h => (by cases h)⟩
  · cases h; exact ⟨⟨Tryd.t95, _, by kernel_rfl, rfl, rfl, rfl, rfl⟩, ⟨_, Tryd.underlying95, ⟨_, rfl, rfl⟩, rfl⟩, fun _ => ⟨by kernel_rfl, fun F h => by
      rw [Tryd.underlying95] at h; cases h; decide⟩⟩
  · cases h; exact ⟨⟨Tryd.t104, _, by kernel_rfl, rfl, rfl, rfl, rfl⟩, ⟨_, Tryd.underlying104, ⟨_, rfl, rfl⟩, rfl⟩, fun _ => ⟨by kernel_rfl, fun F h => by
      rw [Tryd.underlying104] at h; cases h; decide⟩⟩
  · cases h; exact ⟨⟨Tryd.t108, _, by kernel_rfl, rfl, rfl, rfl, rfl⟩, ⟨_, Tryd.underlying108, trivial, rfl⟩, fun h => (by cases h)⟩
  · cases h; exact ⟨⟨Tryd.t110, _, by kernel_rfl, rfl, rfl, rfl, rfl⟩, ⟨_, Tryd.underlying110, rfl, rfl⟩, fun h => (by cases h)⟩
  · cases h; exact ⟨⟨Tryd.t111, _, by kernel_rfl, rfl, rfl, rfl, rfl⟩, ⟨_, Tryd.underlying111, rfl, rfl⟩, fun h => (by cases h)⟩
  · cases h; exact ⟨⟨Tryd.t113, _, by kernel_rfl, rfl, rfl, rfl, rfl⟩, ⟨_, Tryd.underlying113, ⟨_, rfl, rfl⟩, rfl⟩, fun _ => ⟨by kernel_rfl, fun F h => by
      rw [Tryd.underlying113] at h; cases h; decide⟩⟩
  · cases h; exact ⟨⟨Tryd.t116, _, by kernel_rfl, rfl, rfl, rfl, rfl⟩, ⟨_, Tryd.underlying116, trivial, rfl⟩, fun h => (by cases h)⟩
  · cases h; exact ⟨⟨Tryd.t118, _, by kernel_rfl, rfl, rfl, rfl, rfl⟩, ⟨_, Tryd.underlying118, trivial, rfl⟩, fun h => (by cases h)⟩
  · cases h; exact ⟨⟨Tryd.t121, _, by kernel_rfl, rfl, rfl, rfl, rfl⟩, ⟨_, Tryd.underlying121, rfl, rfl⟩, fun h => (by cases h)⟩
  · cases h; exact ⟨⟨Tryd.t127, _, by kernel_rfl, rfl, rfl, rfl, rfl⟩, ⟨_, Tryd.underlying127, rfl, rfl⟩, fun h => (by cases h)⟩
  · cases h; exact ⟨⟨Tryd.t129, _, by kernel_rfl, rfl, rfl, rfl, rfl⟩, ⟨_, Tryd.underlying129, rfl, rfl⟩, fun h => (by cases h)⟩
  · cases h; exact ⟨⟨Tryd.t138, _, by kernel_rfl, rfl, rfl, rfl, rfl⟩, ⟨_, Tryd.underlying138, ⟨_, rfl⟩, rfl⟩, fun h => (by cases h)⟩
  · cases h; exact ⟨⟨Tryd.t145, _, by kernel_rfl, rfl, rfl, rfl, rfl⟩, ⟨_, Tryd.underlying145, rfl, rfl⟩, fun h => (by cases h)⟩
  · cases h; exact ⟨⟨Tryd.t155, _, by kernel_rfl, rfl, rfl, rfl, rfl⟩, ⟨_, Tryd.underlying155, trivial, rfl⟩, fun h => (by cases h)⟩
  · cases h; exact ⟨⟨Tryd.t163, _, by kernel_rfl, rfl, rfl, rfl, rfl⟩, ⟨_, Tryd.underlying163, ⟨_, rfl, rfl⟩, rfl⟩, fun _ => ⟨by kernel_rfl, fun F h => by
      rw [Tryd.underlying163] at h; cases h; decide⟩⟩
  · cases h; exact ⟨⟨Tryd.t164, _, by kernel_rfl, rfl, rfl, rfl, rfl⟩, ⟨_, Tryd.underlying164, rfl, rfl⟩, fun h => (by cases h)⟩
  · cases h
theorem follows_ : Tryd.prog.follows .mixedOrders = true := by kernel_rfl
end Go.Proofs.YtbhoeanfnbkenaaDoor
