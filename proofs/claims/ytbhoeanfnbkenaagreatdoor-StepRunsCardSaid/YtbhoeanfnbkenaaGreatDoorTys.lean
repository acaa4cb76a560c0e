import Derived.Test.YtbhoeanfnbkenaaGreatDoorProg
import Derived.Test.YtbhoeanfnbkenaaGreatDoorEng16
import Derived.KernelRfl
namespace Go.Proofs.YtbhoeanfnbkenaaGreatDoor
open Go.RowKit
def tt : Tys
 | 3 => some ⟨1, 8, false, .int .i64, [(Value.int IntKind.i64 0)], false⟩
 | 4 => some ⟨1, 1, false, .bool, [(Value.bool false)], false⟩
 | 5 => some ⟨1, 1, false, .int .u8, [(Value.int IntKind.u8 0)], false⟩
 | 9 => some ⟨1, 16, false, .string, [(Value.string { data := #[] })], false⟩
 | 20 => some ⟨1, 16, false, .iface, [Value.nilIface], false⟩
 | 21 => some ⟨1, 4, false, .int .i32, [(Value.int IntKind.i32 0)], false⟩
 | 22 => some ⟨1, 24, false, .slice 9, [(Value.slice none 0 0)], false⟩
 | 23 => some ⟨1, 24, false, .slice 54, [(Value.slice none 0 0)], false⟩
 | 24 => some ⟨1, 24, false, .slice 47, [(Value.slice none 0 0)], false⟩
 | 26 => some ⟨4, 96, true, .struct [(0, 22), (1, 22), (2, 23), (3, 24)], [(Value.slice none 0 0), (Value.slice none 0 0), (Value.slice none 0 0), (Value.slice none 0 0)], true⟩
 | 27 => some ⟨1, 24, false, .slice 4, [(Value.slice none 0 0)], false⟩
 | 30 => some ⟨1, 8, false, .int .i64, [(Value.int IntKind.i64 0)], false⟩
 | 39 => some ⟨1, 24, false, .slice 27, [(Value.slice none 0 0)], false⟩
 | 45 => some ⟨1, 8, false, .int .i64, [(Value.int IntKind.i64 0)], false⟩
 | 47 => some ⟨5, 80, true, .struct [(0, 9), (1, 45), (2, 22), (3, 22), (4, 4)], [(Value.string { data := #[] }), (Value.int IntKind.i64 0), (Value.slice none 0 0), (Value.slice none 0 0), (Value.bool false)], true⟩
 | 54 => some ⟨3, 40, true, .struct [(0, 9), (1, 9), (2, 3)], [(Value.string { data := #[] }), (Value.string { data := #[] }), (Value.int IntKind.i64 0)], true⟩
 | 55 => some ⟨1, 8, false, .map 9 3, [(Value.map none)], false⟩
 | 56 => some ⟨1, 24, false, .slice 3, [(Value.slice none 0 0)], false⟩
 | 58 => some ⟨6, 128, true, .struct [(0, 26), (4, 55), (5, 56)], [(Value.slice none 0 0), (Value.slice none 0 0), (Value.slice none 0 0), (Value.slice none 0 0), (Value.map none), (Value.slice none 0 0)], true⟩
 | 71 => some ⟨1, 8, false, .other, [Value.nilFunc], false⟩
 | 72 => some ⟨1, 8, false, .other, [Value.nilFunc], false⟩
 | 74 => some ⟨2, 16, true, .struct [(0, 71), (1, 72)], [Value.nilFunc, Value.nilFunc], true⟩
 | 87 => some ⟨2, 16, true, .array 2 3, [(Value.int IntKind.i64 0), (Value.int IntKind.i64 0)], false⟩
 | 89 => some ⟨1, 8, false, .map 45 87, [(Value.map none)], false⟩
 | 93 => some ⟨1, 8, false, .other, [Value.nilFunc], false⟩
 | 108 => some ⟨2, 24, true, .struct [(0, 30), (1, 9)], [(Value.int IntKind.i64 0), (Value.string { data := #[] })], true⟩
 | 115 => some ⟨1, 8, false, .other, [(Value.pointer none)], false⟩
 | 117 => some ⟨1, 24, false, .slice 3, [(Value.slice none 0 0)], false⟩
 | 118 => some ⟨1, 8, false, .map 9 56, [(Value.map none)], false⟩
 | 120 => some ⟨3, 56, true, .struct [(0, 117), (1, 118), (2, 56)], [(Value.slice none 0 0), (Value.map none), (Value.slice none 0 0)], true⟩
 | 123 => some ⟨1, 8, false, .other, [(Value.pointer none)], false⟩
 | 125 => some ⟨1, 8, false, .int .u64, [(Value.int IntKind.u64 0)], false⟩
 | 132 => some ⟨1, 8, false, .other, [(Value.pointer none)], false⟩
 | 135 => some ⟨1, 8, false, .map 9 136, [(Value.map none)], false⟩
 | 136 => some ⟨0, 0, true, .struct [], [], true⟩
 | 142 => some ⟨1, 16, false, .iface, [Value.nilIface], false⟩
 | 153 => some ⟨1, 8, false, .other, [(Value.pointer none)], false⟩
 | 154 => some ⟨1, 24, false, .slice 5, [(Value.slice none 0 0)], false⟩
 | 156 => some ⟨2, 32, true, .struct [(0, 153), (1, 154)], [(Value.pointer none), (Value.slice none 0 0)], true⟩
 | 169 => some ⟨1, 4, false, .int .u32, [(Value.int IntKind.u32 0)], false⟩
 | 172 => some ⟨1, 8, false, .int .u64, [(Value.int IntKind.u64 0)], false⟩
 | 175 => some ⟨1, 8, false, .other, [(Value.pointer none)], false⟩
 | 180 => some ⟨2, 2, true, .struct [(0, 5), (1, 5)], [(Value.int IntKind.u8 0), (Value.int IntKind.u8 0)], true⟩
 | 181 => some ⟨32, 32, true, .array 16 180, [(Value.int IntKind.u8 0), (Value.int IntKind.u8 0), (Value.int IntKind.u8 0), (Value.int IntKind.u8 0), (Value.int IntKind.u8 0), (Value.int IntKind.u8 0), (Value.int IntKind.u8 0), (Value.int IntKind.u8 0), (Value.int IntKind.u8 0), (Value.int IntKind.u8 0), (Value.int IntKind.u8 0), (Value.int IntKind.u8 0), (Value.int IntKind.u8 0), (Value.int IntKind.u8 0), (Value.int IntKind.u8 0), (Value.int IntKind.u8 0), (Value.int IntKind.u8 0), (Value.int IntKind.u8 0), (Value.int IntKind.u8 0), (Value.int IntKind.u8 0), (Value.int IntKind.u8 0), (Value.int IntKind.u8 0), (Value.int IntKind.u8 0), (Value.int IntKind.u8 0), (Value.int IntKind.u8 0), (Value.int IntKind.u8 0), (Value.int IntKind.u8 0), (Value.int IntKind.u8 0), (Value.int IntKind.u8 0), (Value.int IntKind.u8 0), (Value.int IntKind.u8 0), (Value.int IntKind.u8 0)], false⟩
 | 186 => some ⟨1, 8, false, .other, [(Value.pointer none)], false⟩
 | _ => none
@[go_sem] theorem tt3 : tt 3 = some ⟨1, 8, false, .int .i64, [(Value.int IntKind.i64 0)], false⟩ := rfl
@[go_sem] theorem tt4 : tt 4 = some ⟨1, 1, false, .bool, [(Value.bool false)], false⟩ := rfl
@[go_sem] theorem tt5 : tt 5 = some ⟨1, 1, false, .int .u8, [(Value.int IntKind.u8 0)], false⟩ := rfl
@[go_sem] theorem tt9 : tt 9 = some ⟨1, 16, false, .string, [(Value.string { data := #[] })], false⟩ := rfl
@[go_sem] theorem znq : tt 20 = some ⟨1, 16, false, .iface, [Value.nilIface], false⟩ := rfl
@[go_sem] theorem znr : tt 21 = some ⟨1, 4, false, .int .i32, [(Value.int IntKind.i32 0)], false⟩ := rfl
@[go_sem] theorem zns : tt 22 = some ⟨1, 24, false, .slice 9, [(Value.slice none 0 0)], false⟩ := rfl
@[go_sem] theorem znt : tt 23 = some ⟨1, 24, false, .slice 54, [(Value.slice none 0 0)], false⟩ := rfl
@[go_sem] theorem znu : tt 24 = some ⟨1, 24, false, .slice 47, [(Value.slice none 0 0)], false⟩ := rfl
@[go_sem] theorem znv : tt 26 = some ⟨4, 96, true, .struct [(0, 22), (1, 22), (2, 23), (3, 24)], [(Value.slice none 0 0), (Value.slice none 0 0), (Value.slice none 0 0), (Value.slice none 0 0)], true⟩ := rfl
@[go_sem] theorem znw : tt 27 = some ⟨1, 24, false, .slice 4, [(Value.slice none 0 0)], false⟩ := rfl
@[go_sem] theorem znx : tt 30 = some ⟨1, 8, false, .int .i64, [(Value.int IntKind.i64 0)], false⟩ := rfl
@[go_sem] theorem zny : tt 39 = some ⟨1, 24, false, .slice 27, [(Value.slice none 0 0)], false⟩ := rfl
@[go_sem] theorem znz : tt 45 = some ⟨1, 8, false, .int .i64, [(Value.int IntKind.i64 0)], false⟩ := rfl
@[go_sem] theorem znA : tt 47 = some ⟨5, 80, true, .struct [(0, 9), (1, 45), (2, 22), (3, 22), (4, 4)], [(Value.string { data := #[] }), (Value.int IntKind.i64 0), (Value.slice none 0 0), (Value.slice none 0 0), (Value.bool false)], true⟩ := rfl
@[go_sem] theorem znB : tt 54 = some ⟨3, 40, true, .struct [(0, 9), (1, 9), (2, 3)], [(Value.string { data := #[] }), (Value.string { data := #[] }), (Value.int IntKind.i64 0)], true⟩ := rfl
@[go_sem] theorem znC : tt 55 = some ⟨1, 8, false, .map 9 3, [(Value.map none)], false⟩ := rfl
@[go_sem] theorem znD : tt 56 = some ⟨1, 24, false, .slice 3, [(Value.slice none 0 0)], false⟩ := rfl
@[go_sem] theorem znE : tt 58 = some ⟨6, 128, true, .struct [(0, 26), (4, 55), (5, 56)], [(Value.slice none 0 0), (Value.slice none 0 0), (Value.slice none 0 0), (Value.slice none 0 0), (Value.map none), (Value.slice none 0 0)], true⟩ := rfl
@[go_sem] theorem znF : tt 71 = some ⟨1, 8, false, .other, [Value.nilFunc], false⟩ := rfl
@[go_sem] theorem znG : tt 72 = some ⟨1, 8, false, .other, [Value.nilFunc], false⟩ := rfl
@[go_sem] theorem znH : tt 74 = some ⟨2, 16, true, .struct [(0, 71), (1, 72)], [Value.nilFunc, Value.nilFunc], true⟩ := rfl
@[go_sem] theorem znI : tt 87 = some ⟨2, 16, true, .array 2 3, [(Value.int IntKind.i64 0), (Value.int IntKind.i64 0)], false⟩ := rfl
@[go_sem] theorem znJ : tt 89 = some ⟨1, 8, false, .map 45 87, [(Value.map none)], false⟩ := rfl
@[go_sem] theorem znK : tt 93 = some ⟨1, 8, false, .other, [Value.nilFunc], false⟩ := rfl
@[go_sem] theorem znL : tt 108 = some ⟨2, 24, true, .struct [(0, 30), (1, 9)], [(Value.int IntKind.i64 0), (Value.string { data := #[] })], true⟩ := rfl
@[go_sem] theorem znM : tt 115 = some ⟨1, 8, false, .other, [(Value.pointer none)], false⟩ := rfl
@[go_sem] theorem znN : tt 117 = some ⟨1, 24, false, .slice 3, [(Value.slice none 0 0)], false⟩ := rfl
@[go_sem] theorem znO : tt 118 = some ⟨1, 8, false, .map 9 56, [(Value.map none)], false⟩ := rfl
@[go_sem] theorem znP : tt 120 = some ⟨3, 56, true, .struct [(0, 117), (1, 118), (2, 56)], [(Value.slice none 0 0), (Value.map none), (Value.slice none 0 0)], true⟩ := rfl
@[go_sem] theorem znQ : tt 123 = some ⟨1, 8, false, .other, [(Value.pointer none)], false⟩ := rfl
@[go_sem] theorem znR : tt 125 = some ⟨1, 8, false, .int .u64, [(Value.int IntKind.u64 0)], false⟩ := rfl
@[go_sem] theorem znS : tt 132 = some ⟨1, 8, false, .other, [(Value.pointer none)], false⟩ := rfl
@[go_sem] theorem znT : tt 135 = some ⟨1, 8, false, .map 9 136, [(Value.map none)], false⟩ := rfl
@[go_sem] theorem znU : tt 136 = some ⟨0, 0, true, .struct [], [], true⟩ := rfl
@[go_sem] theorem znV : tt 142 = some ⟨1, 16, false, .iface, [Value.nilIface], false⟩ := rfl
@[go_sem] theorem znW : tt 153 = some ⟨1, 8, false, .other, [(Value.pointer none)], false⟩ := rfl
@[go_sem] theorem znX : tt 154 = some ⟨1, 24, false, .slice 5, [(Value.slice none 0 0)], false⟩ := rfl
@[go_sem] theorem znY : tt 156 = some ⟨2, 32, true, .struct [(0, 153), (1, 154)], [(Value.pointer none), (Value.slice none 0 0)], true⟩ := rfl
@[go_sem] theorem znZ : tt 169 = some ⟨1, 4, false, .int .u32, [(Value.int IntKind.u32 0)], false⟩ := rfl
@[go_sem] theorem zn0 : tt 172 = some ⟨1, 8, false, .int .u64, [(Value.int IntKind.u64 0)], false⟩ := rfl
@[go_sem] theorem zn1 : tt 175 = some ⟨1, 8, false, .other, [(Value.pointer none)], false⟩ := rfl
@[go_sem] theorem zn2 : tt 180 = some ⟨2, 2, true, .struct [(0, 5), (1, 5)], [(Value.int IntKind.u8 0), (Value.int IntKind.u8 0)], true⟩ := rfl
@[go_sem] theorem zn3 : tt 181 = some ⟨32, 32, true, .array 16 180, [(Value.int IntKind.u8 0), (Value.int IntKind.u8 0), (Value.int IntKind.u8 0), (Value.int IntKind.u8 0), (Value.int IntKind.u8 0), (Value.int IntKind.u8 0), (Value.int IntKind.u8 0), (Value.int IntKind.u8 0), (Value.int IntKind.u8 0), (Value.int IntKind.u8 0), (Value.int IntKind.u8 0), (Value.int IntKind.u8 0), (Value.int IntKind.u8 0), (Value.int IntKind.u8 0), (Value.int IntKind.u8 0), (Value.int IntKind.u8 0), (Value.int IntKind.u8 0), (Value.int IntKind.u8 0), (Value.int IntKind.u8 0), (Value.int IntKind.u8 0), (Value.int IntKind.u8 0), (Value.int IntKind.u8 0), (Value.int IntKind.u8 0), (Value.int IntKind.u8 0), (Value.int IntKind.u8 0), (Value.int IntKind.u8 0), (Value.int IntKind.u8 0), (Value.int IntKind.u8 0), (Value.int IntKind.u8 0), (Value.int IntKind.u8 0), (Value.int IntKind.u8 0), (Value.int IntKind.u8 0)], false⟩ := rfl
@[go_sem] theorem zn4 : tt 186 = some ⟨1, 8, false, .other, [(Value.pointer none)], false⟩ := rfl
theorem zB : Tys.ok Tryz.prog tt := by
 intro t d h
 unfold tt at h
 split at h
 ·cases h; exact ⟨⟨Tryz.t3, _, by kernel_rfl, rfl, rfl, rfl, rfl⟩, ⟨_, Tryz.underlying3, rfl, rfl⟩, fun h => (by cases h)⟩
 ·cases h; exact ⟨⟨Tryz.t4, _, by kernel_rfl, rfl, rfl, rfl, rfl⟩, ⟨_, Tryz.underlying4, rfl, rfl⟩, fun h => (by cases h)⟩
 ·cases h; exact ⟨⟨Tryz.t5, _, by kernel_rfl, rfl, rfl, rfl, rfl⟩, ⟨_, Tryz.underlying5, rfl, rfl⟩, fun h => (by cases h)⟩
 ·cases h; exact ⟨⟨Tryz.t9, _, by kernel_rfl, rfl, rfl, rfl, rfl⟩, ⟨_, Tryz.underlying9, rfl, rfl⟩, fun h => (by cases h)⟩
 ·cases h; exact ⟨⟨Tryz.t20, _, by kernel_rfl, rfl, rfl, rfl, rfl⟩, ⟨_, Tryz.underlying20, ⟨_, rfl⟩, rfl⟩, fun h => (by cases h)⟩
 ·cases h; exact ⟨⟨Tryz.t21, _, by kernel_rfl, rfl, rfl, rfl, rfl⟩, ⟨_, Tryz.underlying21, rfl, rfl⟩, fun h => (by cases h)⟩
 ·cases h; exact ⟨⟨Tryz.t22, _, by kernel_rfl, rfl, rfl, rfl, rfl⟩, ⟨_, Tryz.underlying22, rfl, rfl⟩, fun h => (by cases h)⟩
 ·cases h; exact ⟨⟨Tryz.t23, _, by kernel_rfl, rfl, rfl, rfl, rfl⟩, ⟨_, Tryz.underlying23, rfl, rfl⟩, fun h => (by cases h)⟩
 ·cases h; exact ⟨⟨Tryz.t24, _, by kernel_rfl, rfl, rfl, rfl, rfl⟩, ⟨_, Tryz.underlying24, rfl, rfl⟩, fun h => (by cases h)⟩
 ·cases h; exact ⟨⟨Tryz.t26, _, by kernel_rfl, rfl, rfl, rfl, rfl⟩, ⟨_, Tryz.underlying26, ⟨_, rfl, rfl⟩, rfl⟩, fun _ => ⟨by kernel_rfl, fun F h => by
   rw [Tryz.underlying26] at h; cases h; decide⟩⟩
 ·cases h; exact ⟨⟨Tryz.t27, _, by kernel_rfl, rfl, rfl, rfl, rfl⟩, ⟨_, Tryz.underlying27, rfl, rfl⟩, fun h => (by cases h)⟩
 ·cases h; exact ⟨⟨Tryz.t30, _, by kernel_rfl, rfl, rfl, rfl, rfl⟩, ⟨_, Tryz.underlying30, rfl, rfl⟩, fun h => (by cases h)⟩
 ·cases h; exact ⟨⟨Tryz.t39, _, by kernel_rfl, rfl, rfl, rfl, rfl⟩, ⟨_, Tryz.underlying39, rfl, rfl⟩, fun h => (by cases h)⟩
 ·cases h; exact ⟨⟨Tryz.t45, _, by kernel_rfl, rfl, rfl, rfl, rfl⟩, ⟨_, Tryz.underlying45, rfl, rfl⟩, fun h => (by cases h)⟩
 ·cases h; exact ⟨⟨Tryz.t47, _, by kernel_rfl, rfl, rfl, rfl, rfl⟩, ⟨_, Tryz.underlying47, ⟨_, rfl, rfl⟩, rfl⟩, fun _ => ⟨by kernel_rfl, fun F h => by
   rw [Tryz.underlying47] at h; cases h; decide⟩⟩
 ·cases h; exact ⟨⟨Tryz.t54, _, by kernel_rfl, rfl, rfl, rfl, rfl⟩, ⟨_, Tryz.underlying54, ⟨_, rfl, rfl⟩, rfl⟩, fun _ => ⟨by kernel_rfl, fun F h => by
   rw [Tryz.underlying54] at h; cases h; decide⟩⟩
 ·cases h; exact ⟨⟨Tryz.t55, _, by kernel_rfl, rfl, rfl, rfl, rfl⟩, ⟨_, Tryz.underlying55, rfl, rfl⟩, fun h => (by cases h)⟩
 ·cases h; exact ⟨⟨Tryz.t56, _, by kernel_rfl, rfl, rfl, rfl, rfl⟩, ⟨_, Tryz.underlying56, rfl, rfl⟩, fun h => (by cases h)⟩
 ·cases h; exact ⟨⟨Tryz.t58, _, by kernel_rfl, rfl, rfl, rfl, rfl⟩, ⟨_, Tryz.underlying58, ⟨_, rfl, rfl⟩, rfl⟩, fun _ => ⟨by kernel_rfl, fun F h => by
   rw [Tryz.underlying58] at h; cases h; decide⟩⟩
 ·cases h; exact ⟨⟨Tryz.t71, _, by kernel_rfl, rfl, rfl, rfl, rfl⟩, ⟨_, Tryz.underlying71, trivial, rfl⟩, fun h => (by cases h)⟩
 ·cases h; exact ⟨⟨Tryz.t72, _, by kernel_rfl, rfl, rfl, rfl, rfl⟩, ⟨_, Tryz.underlying72, trivial, rfl⟩, fun h => (by cases h)⟩
 ·cases h; exact ⟨⟨Tryz.t74, _, by kernel_rfl, rfl, rfl, rfl, rfl⟩, ⟨_, Tryz.underlying74, ⟨_, rfl, rfl⟩, rfl⟩, fun _ => ⟨by kernel_rfl, fun F h => by
   rw [Tryz.underlying74] at h; cases h; decide⟩⟩
 ·cases h; exact ⟨⟨Tryz.t87, _, by kernel_rfl, rfl, rfl, rfl, rfl⟩, ⟨_, Tryz.underlying87, rfl, rfl⟩, fun h => (by cases h)⟩
 ·cases h; exact ⟨⟨Tryz.t89, _, by kernel_rfl, rfl, rfl, rfl, rfl⟩, ⟨_, Tryz.underlying89, rfl, rfl⟩, fun h => (by cases h)⟩
 ·cases h; exact ⟨⟨Tryz.t93, _, by kernel_rfl, rfl, rfl, rfl, rfl⟩, ⟨_, Tryz.underlying93, trivial, rfl⟩, fun h => (by cases h)⟩
 ·cases h; exact ⟨⟨Tryz.t108, _, by kernel_rfl, rfl, rfl, rfl, rfl⟩, ⟨_, Tryz.underlying108, ⟨_, rfl, rfl⟩, rfl⟩, fun _ => ⟨by kernel_rfl, fun F h => by
   rw [Tryz.underlying108] at h; cases h; decide⟩⟩
 ·cases h; exact ⟨⟨Tryz.t115, _, by kernel_rfl, rfl, rfl, rfl, rfl⟩, ⟨_, Tryz.underlying115, trivial, rfl⟩, fun h => (by cases h)⟩
 ·cases h; exact ⟨⟨Tryz.t117, _, by kernel_rfl, rfl, rfl, rfl, rfl⟩, ⟨_, Tryz.underlying117, rfl, rfl⟩, fun h => (by cases h)⟩
 ·cases h; exact ⟨⟨Tryz.t118, _, by kernel_rfl, rfl, rfl, rfl, rfl⟩, ⟨_, Tryz.underlying118, rfl, rfl⟩, fun h => (by cases h)⟩
 ·cases h; exact ⟨⟨Tryz.t120, _, by kernel_rfl, rfl, rfl, rfl, rfl⟩, ⟨_, Tryz.underlying120, ⟨_, rfl, rfl⟩, rfl⟩, fun _ => ⟨by kernel_rfl, fun F h => by
   rw [Tryz.underlying120] at h; cases h; decide⟩⟩
 ·cases h; exact ⟨⟨Tryz.t123, _, by kernel_rfl, rfl, rfl, rfl, rfl⟩, ⟨_, Tryz.underlying123, trivial, rfl⟩, fun h => (by cases h)⟩
 ·cases h; exact ⟨⟨Tryz.t125, _, by kernel_rfl, rfl, rfl, rfl, rfl⟩, ⟨_, Tryz.underlying125, rfl, rfl⟩, fun h => (by cases h)⟩
 ·cases h; exact ⟨⟨Tryz.t132, _, by kernel_rfl, rfl, rfl, rfl, rfl⟩, ⟨_, Tryz.underlying132, trivial, rfl⟩, fun h => (by cases h)⟩
 ·cases h; exact ⟨⟨Tryz.t135, _, by kernel_rfl, rfl, rfl, rfl, rfl⟩, ⟨_, Tryz.underlying135, rfl, rfl⟩, fun h => (by cases h)⟩
 ·cases h; exact ⟨⟨Tryz.t136, _, by kernel_rfl, rfl, rfl, rfl, rfl⟩, ⟨_, Tryz.underlying136, ⟨_, rfl, rfl⟩, rfl⟩, fun _ => ⟨by kernel_rfl, fun F h => by
   rw [Tryz.underlying136] at h; cases h; decide⟩⟩
 ·cases h; exact ⟨⟨Tryz.t142, _, by kernel_rfl, rfl, rfl, rfl, rfl⟩, ⟨_, Tryz.underlying142, ⟨_, rfl⟩, rfl⟩, fun h => (by cases h)⟩
 ·cases h; exact ⟨⟨Tryz.t153, _, by kernel_rfl, rfl, rfl, rfl, rfl⟩, ⟨_, Tryz.underlying153, trivial, rfl⟩, fun h => (by cases h)⟩
 ·cases h; exact ⟨⟨Tryz.t154, _, by kernel_rfl, rfl, rfl, rfl, rfl⟩, ⟨_, Tryz.underlying154, rfl, rfl⟩, fun h => (by cases h)⟩
 ·cases h; exact ⟨⟨Tryz.t156, _, by kernel_rfl, rfl, rfl, rfl, rfl⟩, ⟨_, Tryz.underlying156, ⟨_, rfl, rfl⟩, rfl⟩, fun _ => ⟨by kernel_rfl, fun F h => by
   rw [Tryz.underlying156] at h; cases h; decide⟩⟩
 ·cases h; exact ⟨⟨Tryz.t169, _, by kernel_rfl, rfl, rfl, rfl, rfl⟩, ⟨_, Tryz.underlying169, rfl, rfl⟩, fun h => (by cases h)⟩
 ·cases h; exact ⟨⟨Tryz.t172, _, by kernel_rfl, rfl, rfl, rfl, rfl⟩, ⟨_, Tryz.underlying172, rfl, rfl⟩, fun h => (by cases h)⟩
 ·cases h; exact ⟨⟨Tryz.t175, _, by kernel_rfl, rfl, rfl, rfl, rfl⟩, ⟨_, Tryz.underlying175, trivial, rfl⟩, fun h => (by cases h)⟩
 ·cases h; exact ⟨⟨Tryz.t180, _, by kernel_rfl, rfl, rfl, rfl, rfl⟩, ⟨_, Tryz.underlying180, ⟨_, rfl, rfl⟩, rfl⟩, fun _ => ⟨by kernel_rfl, fun F h => by
   rw [Tryz.underlying180] at h; cases h; decide⟩⟩
 ·cases h; exact ⟨⟨Tryz.t181, _, by kernel_rfl, rfl, rfl, rfl, rfl⟩, ⟨_, Tryz.underlying181, rfl, rfl⟩, fun h => (by cases h)⟩
 ·cases h; exact ⟨⟨Tryz.t186, _, by kernel_rfl, rfl, rfl, rfl, rfl⟩, ⟨_, Tryz.underlying186, trivial, rfl⟩, fun h => (by cases h)⟩
 ·cases h
theorem zD : Tryz.prog.follows .mixedOrders = true := by kernel_rfl
end Go.Proofs.YtbhoeanfnbkenaaGreatDoor
