/- Kinds of bytes whose function values lie in blocks from a number on: what lies below may be written. -/
import Derived.Test.YtfljnhmpelpdaaaDoorTkKinds
namespace Go.Proofs.YtfljnhmpelpdaaaDoor.Tok
set_option maxRecDepth 100000
open Go.RowKit

/-- from block lo on as it was -/
def SameFrom (lo : Nat) (w W : World) : Prop := ∀ k, lo ≤ k → k < w.heap.size → W.heap[k]? = w.heap[k]?
def KdL (lo : Nat) (w : World) (v : Value) (p : UInt8 → Bool) : Prop :=
  ∃ (g : Nat) (lb : Array Value), v = .func (.func g) #[] lb ∧ (∀ args w, (callFunc g args).run Tryd.prog w = .ok (.enter g args) w) ∧
    ∀ W, SameFrom lo w W → ∀ c : UInt8, Calls Tryd.prog g (#[.int .u8 (c.toNat : Int)] ++ lb) W fun e W' => e = .returned (.bool (p c)) ∧ W = W'
theorem SameFrom.of_below {lo : Nat} {w W : World} (h : Below w.heap.size w W) : SameFrom lo w W := fun k _ hk => h.block k hk
theorem KdL.kd {lo : Nat} {w : World} {v : Value} {p : UInt8 → Bool} (h : KdL lo w v p) : Kd w v p := by
  obtain ⟨g, lb, e, hg, hc⟩ := h
  exact ⟨g, lb, e, hg, fun W hb => hc W (.of_below hb)⟩
theorem KdL.below {lo : Nat} {w W : World} {v : Value} {p : UInt8 → Bool} (h : KdL lo w v p) (hb : Below w.heap.size w W) : KdL lo W v p := by
  obtain ⟨g, lb, e, hg, hc⟩ := h
  exact ⟨g, lb, e, hg, fun W' hs => hc W' fun k h1 h2 => (hs k h1 (Nat.lt_of_lt_of_le h2 hb.size)).trans (hb.block k h2)⟩
theorem KdL.set {lo : Nat} {w : World} {v : Value} {p : UInt8 → Bool} (h : KdL lo w v p) (a : Addr) (ha : a.block < lo) (u : Value) : KdL lo (w.setCell a u) v p := by
  obtain ⟨g, lb, e, hg, hc⟩ := h
  exact ⟨g, lb, e, hg, fun W' hs => hc W' fun k h1 h2 => (hs k h1 (by simpa using h2)).trans (Below.heap_setCell _ _ _ _ (by omega))⟩
theorem _root_.Go.Proofs.YtfljnhmpelpdaaaDoor.Blk.same {lo : Nat} {W W' : World} {B : Nat} {vs : Array Value} {t : TypeId} (h : Blk W B vs t) (hs : SameFrom lo W W') (hB : lo ≤ B) : Blk W' B vs t := (hs B hB h.lt).trans h
theorem SameFrom.alloc {lo : Nat} {w W : World} (o : Obj) (h : SameFrom lo (w.alloc o) W) : SameFrom lo w W := fun k h1 h2 => (h k h1 (by simp; omega)).trans (Below.heap_alloc _ _ _ h2)
theorem KdL.func {lo : Nat} {w : World} {v : Value} {p : UInt8 → Bool} (h : KdL lo w v p) : ∃ g lb, v = .func (.func g) #[] lb := by
  obtain ⟨g, lb, e, _⟩ := h
  exact ⟨g, lb, e⟩

theorem l_oneOf (lo : Nat) (set : ByteArray) (w : World) (hlo : lo ≤ w.heap.size) :
    Calls Tryd.prog 57 #[.string set] w fun e w' => ∃ v, e = .returned v ∧ KdL lo w' v (isOf set) ∧ Below w.heap.size w w' := by
  have hmf : ∀ (fn : Fn) (first cap : Array Value) (w : World), (Instr.makeFunc fn first cap).run Tryd.prog w = .ok (.func fn first cap) w := fun _ _ _ _ => rfl
  go_enter Tryd.func57, Tryd.ntmps57
  go_wp2
  go_ret
  refine ⟨_, rfl, ⟨71, _, rfl, enters_of Tryd.func71 (by kernel_rfl) rfl, fun W hs c => ?_⟩, (Below.refl _ _).alloc (Nat.le_refl _) _⟩
  exact oneOf1 set w.heap.size c W ((Blk.new w _ _).same hs hlo)

theorem l_not (lo : Nat) (v : Value) (p : UInt8 → Bool) (w : World) (hlo : lo ≤ w.heap.size) (hk : KdL lo w v p) :
    Calls Tryd.prog 56 #[v] w fun e w' => ∃ u, e = .returned u ∧ KdL lo w' u (fun c => !p c) ∧ Below w.heap.size w w' := by
  have hmf : ∀ (fn : Fn) (first cap : Array Value) (w : World), (Instr.makeFunc fn first cap).run Tryd.prog w = .ok (.func fn first cap) w := fun _ _ _ _ => rfl
  obtain ⟨g, lb, rfl, eg, hc⟩ := hk
  have HC := Lib.hid hc
  clear hc
  go_enter Tryd.func56, Tryd.ntmps56
  go_wp2
  go_ret
  refine ⟨_, rfl, ⟨70, _, rfl, enters_of Tryd.func70 (by kernel_rfl) rfl, fun W hs c => ?_⟩, (Below.refl _ _).alloc (Nat.le_refl _) _⟩
  exact not1 p g lb eg w.heap.size c W ((Blk.new w _ _).same hs hlo) (HC.out W hs.alloc c)

theorem l_both (lo : Nat) (v v' : Value) (p q : UInt8 → Bool) (w : World) (hlo : lo ≤ w.heap.size) (hk : KdL lo w v p) (hk' : KdL lo w v' q) :
    Calls Tryd.prog 58 #[v, v'] w fun e w' => ∃ u, e = .returned u ∧ KdL lo w' u (fun c => p c && q c) ∧ Below w.heap.size w w' := by
  have hmf : ∀ (fn : Fn) (first cap : Array Value) (w : World), (Instr.makeFunc fn first cap).run Tryd.prog w = .ok (.func fn first cap) w := fun _ _ _ _ => rfl
  obtain ⟨g, lb, rfl, eg, hc⟩ := hk
  obtain ⟨g', lb', rfl, eg', hc'⟩ := hk'
  have HC := Lib.hid hc
  have HC' := Lib.hid hc'
  clear hc hc'
  go_enter Tryd.func58, Tryd.ntmps58
  go_wp2
  go_ret
  have hB := ((Below.refl _ w).alloc (Nat.le_refl _) (.cells #[.func (.func g) #[] lb] 64)).alloc (by simp) (.cells #[.func (.func g') #[] lb'] 64)
  refine ⟨_, rfl, ⟨72, _, rfl, enters_of Tryd.func72 (by kernel_rfl) rfl, fun W hs c => ?_⟩, hB⟩
  have k1 := ((Blk.new w #[.func (.func g) #[] lb] 64).alloc (.cells #[.func (.func g') #[] lb'] 64)).same hs hlo
  have k2 := (Blk.new (w.alloc (.cells #[.func (.func g) #[] lb] 64)) #[.func (.func g') #[] lb'] 64).same hs (by simp; omega)
  rw [World.size_alloc] at k2
  exact both1 p q g g' lb lb' eg eg' w.heap.size (w.heap.size + 1) c W k1 k2 (HC.out W hs.alloc.alloc c) (HC'.out W hs.alloc.alloc c)
theorem l_either (lo : Nat) (v v' : Value) (p q : UInt8 → Bool) (w : World) (hlo : lo ≤ w.heap.size) (hk : KdL lo w v p) (hk' : KdL lo w v' q) :
    Calls Tryd.prog 60 #[v, v'] w fun e w' => ∃ u, e = .returned u ∧ KdL lo w' u (fun c => p c || q c) ∧ Below w.heap.size w w' := by
  have hmf : ∀ (fn : Fn) (first cap : Array Value) (w : World), (Instr.makeFunc fn first cap).run Tryd.prog w = .ok (.func fn first cap) w := fun _ _ _ _ => rfl
  obtain ⟨g, lb, rfl, eg, hc⟩ := hk
  obtain ⟨g', lb', rfl, eg', hc'⟩ := hk'
  have HC := Lib.hid hc
  have HC' := Lib.hid hc'
  clear hc hc'
  go_enter Tryd.func60, Tryd.ntmps60
  go_wp2
  go_ret
  have hB := ((Below.refl _ w).alloc (Nat.le_refl _) (.cells #[.func (.func g) #[] lb] 64)).alloc (by simp) (.cells #[.func (.func g') #[] lb'] 64)
  refine ⟨_, rfl, ⟨73, _, rfl, enters_of Tryd.func73 (by kernel_rfl) rfl, fun W hs c => ?_⟩, hB⟩
  have k1 := ((Blk.new w #[.func (.func g) #[] lb] 64).alloc (.cells #[.func (.func g') #[] lb'] 64)).same hs hlo
  have k2 := (Blk.new (w.alloc (.cells #[.func (.func g) #[] lb] 64)) #[.func (.func g') #[] lb'] 64).same hs (by simp; omega)
  rw [World.size_alloc] at k2
  exact either1 p q g g' lb lb' eg eg' w.heap.size (w.heap.size + 1) c W k1 k2 (HC.out W hs.alloc.alloc c) (HC'.out W hs.alloc.alloc c)
theorem l_between (lo : Nat) (x y : Int) (w : World) (hlo : lo ≤ w.heap.size) :
    Calls Tryd.prog 61 #[.int .u8 x, .int .u8 y] w fun e w' => ∃ u, e = .returned u ∧ KdL lo w' u (isIn x y) ∧ Below w.heap.size w w' := by
  have hmf : ∀ (fn : Fn) (first cap : Array Value) (w : World), (Instr.makeFunc fn first cap).run Tryd.prog w = .ok (.func fn first cap) w := fun _ _ _ _ => rfl
  go_enter Tryd.func61, Tryd.ntmps61
  go_wp2
  go_ret
  have hB := ((Below.refl _ w).alloc (Nat.le_refl _) (.cells #[.int .u8 x] 5)).alloc (by simp) (.cells #[.int .u8 y] 5)
  refine ⟨_, rfl, ⟨74, _, rfl, enters_of Tryd.func74 (by kernel_rfl) rfl, fun W hs c => ?_⟩, hB⟩
  have k1 := ((Blk.new w #[.int .u8 x] 5).alloc (.cells #[.int .u8 y] 5)).same hs hlo
  have k2 := (Blk.new (w.alloc (.cells #[.int .u8 x] 5)) #[.int .u8 y] 5).same hs (by simp; omega)
  rw [World.size_alloc] at k2
  exact between1 x y w.heap.size (w.heap.size + 1) c W k1 k2
theorem l_seen (lo : Nat) (w : World) : KdL lo w (.func (.func 59) #[] #[]) (isIn 33 126) :=
  ⟨59, #[], rfl, enters_of Tryd.func59 (by kernel_rfl) rfl, fun W _ c => seen33 c W⟩
end Go.Proofs.YtfljnhmpelpdaaaDoor.Tok
