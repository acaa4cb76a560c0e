/- Kinds of bytes: function values that tell of a byte whether it is of a kind. -/
import Derived.Test.YtfljnhmpelpdaaaDoorShelf
import Derived.Test.YtfljnhmpelpdaaaDoorBlk
import Derived.Test.YtfljnhmpelpdaaaDoorRows
import Derived.Lib.Bytealg
import Derived.Laws.Externs
import Derived.WalkSmall
import Derived.WalkKit
import Derived.OwnWalk
namespace Go.Proofs.YtfljnhmpelpdaaaDoor.Tok
set_option maxRecDepth 100000
open Go.RowKit

/-- a function value that tells of any byte, in this world and in any that is as it below, whether it is of the kind p -/
def Kd (w : World) (v : Value) (p : UInt8 → Bool) : Prop :=
  ∃ (g : Nat) (lb : Array Value), v = .func (.func g) #[] lb ∧ (∀ args w, (callFunc g args).run Tryd.prog w = .ok (.enter g args) w) ∧
    ∀ W, Below w.heap.size w W → ∀ c : UInt8, Calls Tryd.prog g (#[.int .u8 (c.toNat : Int)] ++ lb) W fun e W' => e = .returned (.bool (p c)) ∧ W = W'
theorem Kd.below {w W : World} {v : Value} {p : UInt8 → Bool} (h : Kd w v p) (hb : Below w.heap.size w W) : Kd W v p := by
  obtain ⟨g, lb, e, hg, hc⟩ := h
  exact ⟨g, lb, e, hg, fun W' hb' => hc W' (hb.trans (hb'.mono hb.size))⟩

theorem index44 (s : ByteArray) (c : Int) (w : World) :
    Calls Tryd.prog 77 #[.string s, .int .u8 c] w fun e w' => e = .returned (.int .i64 (Lib.indexByte s.data.toList c.toNat.toUInt8)) ∧ w' = w := by
  go_enter Tryd.func77, Tryd.ntmps77
  go_wp2
  rw [run_callFunc_extern Tryd.func86 (by kernel_rfl) (by kernel_rfl) (by kernel_rfl) (e := Extern.BytealgIndexByte.indexByte) (by kernel_rfl), Lib.run_indexByteString]
  simp only [Result.andThen]
  rw [Oper.upon_value]
  go_wp2
  go_ret
  exact ⟨rfl, rfl⟩
theorem index38 (s : ByteArray) (c : UInt8) (w : World) :
    Calls Tryd.prog 69 #[.string s, .int .u8 (c.toNat : Int)] w fun e w' => e = .returned (.int .i64 (Lib.indexByte s.data.toList c)) ∧ w' = w := by
  have h := index44 s (c.toNat : Int)
  rw [show ((c.toNat : Int)).toNat.toUInt8 = c from by simp] at h
  go_enter Tryd.func69, Tryd.ntmps69
  go_wp2_with (go_at_call 77; refine (h _).mono ?_; rintro e w' ⟨rfl, rfl⟩)
  go_ret
  exact ⟨rfl, rfl⟩

/-- is a byte one of some -/
def isOf (set : ByteArray) (c : UInt8) : Bool := decide (0 ≤ Lib.indexByte set.data.toList c)

theorem oneOf1 (set : ByteArray) (b : Nat) (c : UInt8) (w : World) (h : Blk w b #[.string set] 9) :
    Calls Tryd.prog 71 #[.int .u8 (c.toNat : Int), .pointer (some ⟨b, 0, none⟩)] w fun e w' => e = .returned (.bool (isOf set c)) ∧ w = w' := by
  have hc := h.cell 0
  simp at hc
  go_enter Tryd.func71, Tryd.ntmps71
  go_wp2_with (go_at_call 69; refine (index38 _ _ _).mono ?_; rintro e w' ⟨rfl, rfl⟩)
  go_ret
  exact ⟨rfl, rfl⟩

theorem kd_oneOf (set : ByteArray) (w : World) :
    Calls Tryd.prog 57 #[.string set] w fun e w' => ∃ v, e = .returned v ∧ Kd w' v (isOf set) ∧ Below w.heap.size w w' := by
  have hmf : ∀ (fn : Fn) (first cap : Array Value) (w : World), (Instr.makeFunc fn first cap).run Tryd.prog w = .ok (.func fn first cap) w := fun _ _ _ _ => rfl
  go_enter Tryd.func57, Tryd.ntmps57
  go_wp2
  go_ret
  refine ⟨_, rfl, ⟨71, _, rfl, enters_of Tryd.func71 (by kernel_rfl) rfl, fun W hb c => ?_⟩, (Below.refl _ _).alloc (Nat.le_refl _) _⟩
  exact oneOf1 set w.heap.size c W ((Blk.new w _ _).below hb (by simp))

theorem not1 (p : UInt8 → Bool) (g : Nat) (lb : Array Value) (eg : ∀ args w, (callFunc g args).run Tryd.prog w = .ok (.enter g args) w) (b : Nat) (c : UInt8) (w : World) (h : Blk w b #[.func (.func g) #[] lb] 64)
    (hp : Calls Tryd.prog g (#[.int .u8 (c.toNat : Int)] ++ lb) w fun e W' => e = .returned (.bool (p c)) ∧ w = W') :
    Calls Tryd.prog 70 #[.int .u8 (c.toNat : Int), .pointer (some ⟨b, 0, none⟩)] w fun e w' => e = .returned (.bool (!p c)) ∧ w = w' := by
  have hc := h.cell 0
  simp at hc
  go_enter Tryd.func70, Tryd.ntmps70
  go_wp2_with fail
  refine hp.mono ?_
  rintro e w' ⟨rfl, rfl⟩
  go_wp2
  go_ret
  exact ⟨rfl, rfl⟩

theorem kd_not (v : Value) (p : UInt8 → Bool) (w : World) (hk : Kd w v p) :
    Calls Tryd.prog 56 #[v] w fun e w' => ∃ u, e = .returned u ∧ Kd w' u (fun c => !p c) ∧ Below w.heap.size w w' := by
  have hmf : ∀ (fn : Fn) (first cap : Array Value) (w : World), (Instr.makeFunc fn first cap).run Tryd.prog w = .ok (.func fn first cap) w := fun _ _ _ _ => rfl
  obtain ⟨g, lb, rfl, eg, hc⟩ := hk
  have HC := Lib.hid hc
  clear hc
  go_enter Tryd.func56, Tryd.ntmps56
  go_wp2
  go_ret
  refine ⟨_, rfl, ⟨70, _, rfl, enters_of Tryd.func70 (by kernel_rfl) rfl, fun W hb c => ?_⟩, (Below.refl _ _).alloc (Nat.le_refl _) _⟩
  have hb0 : Below w.heap.size w W := ((Below.refl _ w).alloc (Nat.le_refl _) _).trans (hb.mono (by simp))
  exact not1 p g lb eg w.heap.size c W ((Blk.new w _ _).below hb (by simp)) (HC.out W hb0 c)

theorem both1 (p q : UInt8 → Bool) (g g' : Nat) (lb lb' : Array Value) (eg : ∀ args w, (callFunc g args).run Tryd.prog w = .ok (.enter g args) w) (eg' : ∀ args w, (callFunc g' args).run Tryd.prog w = .ok (.enter g' args) w)
    (b b' : Nat) (c : UInt8) (w : World) (h : Blk w b #[.func (.func g) #[] lb] 64) (h' : Blk w b' #[.func (.func g') #[] lb'] 64)
    (hp : Calls Tryd.prog g (#[.int .u8 (c.toNat : Int)] ++ lb) w fun e W' => e = .returned (.bool (p c)) ∧ w = W')
    (hp' : Calls Tryd.prog g' (#[.int .u8 (c.toNat : Int)] ++ lb') w fun e W' => e = .returned (.bool (q c)) ∧ w = W') :
    Calls Tryd.prog 72 #[.int .u8 (c.toNat : Int), .pointer (some ⟨b, 0, none⟩), .pointer (some ⟨b', 0, none⟩)] w fun e w' => e = .returned (.bool (p c && q c)) ∧ w = w' := by
  have hc := h.cell 0
  have hc' := h'.cell 0
  simp at hc hc'
  have HP := Lib.hid hp
  have HQ := Lib.hid hp'
  clear hp hp'
  cases hpc : p c
  · rw [hpc] at HP
    go_enter Tryd.func72, Tryd.ntmps72
    go_wp2_with fail
    refine HP.out.mono ?_
    rintro e w' ⟨rfl, rfl⟩
    go_wp2
    go_ret
    exact ⟨rfl, rfl⟩
  · rw [hpc] at HP
    go_enter Tryd.func72, Tryd.ntmps72
    go_wp2_with fail
    refine HP.out.mono ?_
    rintro e w' ⟨rfl, rfl⟩
    go_wp2_with fail
    refine HQ.out.mono ?_
    rintro e w' ⟨rfl, rfl⟩
    go_wp2
    go_ret
    exact ⟨rfl, rfl⟩
theorem either1 (p q : UInt8 → Bool) (g g' : Nat) (lb lb' : Array Value) (eg : ∀ args w, (callFunc g args).run Tryd.prog w = .ok (.enter g args) w) (eg' : ∀ args w, (callFunc g' args).run Tryd.prog w = .ok (.enter g' args) w)
    (b b' : Nat) (c : UInt8) (w : World) (h : Blk w b #[.func (.func g) #[] lb] 64) (h' : Blk w b' #[.func (.func g') #[] lb'] 64)
    (hp : Calls Tryd.prog g (#[.int .u8 (c.toNat : Int)] ++ lb) w fun e W' => e = .returned (.bool (p c)) ∧ w = W')
    (hp' : Calls Tryd.prog g' (#[.int .u8 (c.toNat : Int)] ++ lb') w fun e W' => e = .returned (.bool (q c)) ∧ w = W') :
    Calls Tryd.prog 73 #[.int .u8 (c.toNat : Int), .pointer (some ⟨b, 0, none⟩), .pointer (some ⟨b', 0, none⟩)] w fun e w' => e = .returned (.bool (p c || q c)) ∧ w = w' := by
  have hc := h.cell 0
  have hc' := h'.cell 0
  simp at hc hc'
  have HP := Lib.hid hp
  have HQ := Lib.hid hp'
  clear hp hp'
  cases hpc : p c
  · rw [hpc] at HP
    go_enter Tryd.func73, Tryd.ntmps73
    go_wp2_with fail
    refine HP.out.mono ?_
    rintro e w' ⟨rfl, rfl⟩
    go_wp2_with fail
    refine HQ.out.mono ?_
    rintro e w' ⟨rfl, rfl⟩
    go_wp2
    go_ret
    exact ⟨rfl, rfl⟩
  · rw [hpc] at HP
    go_enter Tryd.func73, Tryd.ntmps73
    go_wp2_with fail
    refine HP.out.mono ?_
    rintro e w' ⟨rfl, rfl⟩
    go_wp2
    go_ret
    exact ⟨rfl, rfl⟩
theorem kd_both (v v' : Value) (p q : UInt8 → Bool) (w : World) (hk : Kd w v p) (hk' : Kd w v' q) :
    Calls Tryd.prog 58 #[v, v'] w fun e w' => ∃ u, e = .returned u ∧ Kd w' u (fun c => p c && q c) ∧ Below w.heap.size w w' := by
  have hmf : ∀ (fn : Fn) (first cap : Array Value) (w : World), (Instr.makeFunc fn first cap).run Tryd.prog w = .ok (.func fn first cap) w := fun _ _ _ _ => rfl
  obtain ⟨g, lb, rfl, eg, hc⟩ := hk
  obtain ⟨g', lb', rfl, eg', hc'⟩ := hk'
  have HC := Lib.hid hc
  have HC' := Lib.hid hc'
  clear hc hc'
  go_enter Tryd.func58, Tryd.ntmps58
  go_wp2
  go_ret
  have hB := ((Below.refl _ w).alloc (Nat.le_refl _) (.cells #[.func (.func g) #[] lb] 64)).alloc (by simp) (.cells #[.func (.func g') #[] lb'] 64)
  refine ⟨_, rfl, ⟨72, _, rfl, enters_of Tryd.func72 (by kernel_rfl) rfl, fun W hb c => ?_⟩, hB⟩
  have hb0 : Below w.heap.size w W := hB.trans (hb.mono (by simp; omega))
  have k1 := ((Blk.new w #[.func (.func g) #[] lb] 64).alloc (.cells #[.func (.func g') #[] lb'] 64)).below hb (by simp; omega)
  have k2 := (Blk.new (w.alloc (.cells #[.func (.func g) #[] lb] 64)) #[.func (.func g') #[] lb'] 64).below hb (by simp)
  rw [World.size_alloc] at k2
  exact both1 p q g g' lb lb' eg eg' w.heap.size (w.heap.size + 1) c W k1 k2 (HC.out W hb0 c) (HC'.out W hb0 c)
theorem kd_either (v v' : Value) (p q : UInt8 → Bool) (w : World) (hk : Kd w v p) (hk' : Kd w v' q) :
    Calls Tryd.prog 60 #[v, v'] w fun e w' => ∃ u, e = .returned u ∧ Kd w' u (fun c => p c || q c) ∧ Below w.heap.size w w' := by
  have hmf : ∀ (fn : Fn) (first cap : Array Value) (w : World), (Instr.makeFunc fn first cap).run Tryd.prog w = .ok (.func fn first cap) w := fun _ _ _ _ => rfl
  obtain ⟨g, lb, rfl, eg, hc⟩ := hk
  obtain ⟨g', lb', rfl, eg', hc'⟩ := hk'
  have HC := Lib.hid hc
  have HC' := Lib.hid hc'
  clear hc hc'
  go_enter Tryd.func60, Tryd.ntmps60
  go_wp2
  go_ret
  have hB := ((Below.refl _ w).alloc (Nat.le_refl _) (.cells #[.func (.func g) #[] lb] 64)).alloc (by simp) (.cells #[.func (.func g') #[] lb'] 64)
  refine ⟨_, rfl, ⟨73, _, rfl, enters_of Tryd.func73 (by kernel_rfl) rfl, fun W hb c => ?_⟩, hB⟩
  have hb0 : Below w.heap.size w W := hB.trans (hb.mono (by simp; omega))
  have k1 := ((Blk.new w #[.func (.func g) #[] lb] 64).alloc (.cells #[.func (.func g') #[] lb'] 64)).below hb (by simp; omega)
  have k2 := (Blk.new (w.alloc (.cells #[.func (.func g) #[] lb] 64)) #[.func (.func g') #[] lb'] 64).below hb (by simp)
  rw [World.size_alloc] at k2
  exact either1 p q g g' lb lb' eg eg' w.heap.size (w.heap.size + 1) c W k1 k2 (HC.out W hb0 c) (HC'.out W hb0 c)

/-- from one byte to another one -/
def isIn (a b : Int) (c : UInt8) : Bool := decide (a ≤ (c.toNat : Int)) && decide ((c.toNat : Int) ≤ b)
theorem between1 (x y : Int) (b b' : Nat) (c : UInt8) (w : World) (h : Blk w b #[.int .u8 x] 5) (h' : Blk w b' #[.int .u8 y] 5) :
    Calls Tryd.prog 74 #[.int .u8 (c.toNat : Int), .pointer (some ⟨b, 0, none⟩), .pointer (some ⟨b', 0, none⟩)] w fun e w' => e = .returned (.bool (isIn x y c)) ∧ w = w' := by
  have hc := h.cell 0
  have hc' := h'.cell 0
  simp at hc hc'
  unfold isIn
  obtain ⟨z, hz⟩ : ∃ z : Int, (c.toNat : Int) = z := ⟨_, rfl⟩
  rw [hz]
  by_cases h1 : x ≤ z
  · rw [decide_eq_true h1]
    go_enter Tryd.func74, Tryd.ntmps74
    go_wp2
    go_ret
    exact ⟨rfl, rfl⟩
  · rw [decide_eq_false h1]
    have h1' : decide (x ≤ z) = false := decide_eq_false h1
    go_enter Tryd.func74, Tryd.ntmps74
    go_wp2
    go_ret
    exact ⟨rfl, rfl⟩
theorem kd_between (x y : Int) (w : World) :
    Calls Tryd.prog 61 #[.int .u8 x, .int .u8 y] w fun e w' => ∃ u, e = .returned u ∧ Kd w' u (isIn x y) ∧ Below w.heap.size w w' := by
  have hmf : ∀ (fn : Fn) (first cap : Array Value) (w : World), (Instr.makeFunc fn first cap).run Tryd.prog w = .ok (.func fn first cap) w := fun _ _ _ _ => rfl
  go_enter Tryd.func61, Tryd.ntmps61
  go_wp2
  go_ret
  have hB := ((Below.refl _ w).alloc (Nat.le_refl _) (.cells #[.int .u8 x] 5)).alloc (by simp) (.cells #[.int .u8 y] 5)
  refine ⟨_, rfl, ⟨74, _, rfl, enters_of Tryd.func74 (by kernel_rfl) rfl, fun W hb c => ?_⟩, hB⟩
  have k1 := ((Blk.new w #[.int .u8 x] 5).alloc (.cells #[.int .u8 y] 5)).below hb (by simp; omega)
  have k2 := (Blk.new (w.alloc (.cells #[.int .u8 x] 5)) #[.int .u8 y] 5).below hb (by simp)
  rw [World.size_alloc] at k2
  exact between1 x y w.heap.size (w.heap.size + 1) c W k1 k2

theorem seen33 (c : UInt8) (w : World) :
    Calls Tryd.prog 59 #[.int .u8 (c.toNat : Int)] w fun e w' => e = .returned (.bool (isIn 33 126 c)) ∧ w = w' := by
  unfold isIn
  obtain ⟨z, hz⟩ : ∃ z : Int, (c.toNat : Int) = z := ⟨_, rfl⟩
  rw [hz]
  by_cases h1 : 33 ≤ z
  · rw [decide_eq_true h1]
    go_enter Tryd.func59, Tryd.ntmps59
    go_wp2
    go_ret
    exact ⟨rfl, rfl⟩
  · rw [decide_eq_false h1]
    have h1' : decide (33 ≤ z) = false := decide_eq_false h1
    go_enter Tryd.func59, Tryd.ntmps59
    go_wp2
    go_ret
    exact ⟨rfl, rfl⟩
theorem kd_seen (w : World) : Kd w (.func (.func 59) #[] #[]) (isIn 33 126) :=
  ⟨59, #[], rfl, enters_of Tryd.func59 (by kernel_rfl) rfl, fun W _ c => seen33 c W⟩

/-- the first place, from a place on, that has no byte of the kind -/
def skip (p : UInt8 → Bool) (s : ByteArray) (a : Nat) : Nat := a + ((s.data.toList.drop a).takeWhile p).length
theorem skip_is (p : UInt8 → Bool) (s : ByteArray) (a b : Nat) (hab : a ≤ b) (hb : b ≤ s.size) (h1 : ∀ j, (h : j < s.size) → a ≤ j → j < b → p s[j] = true) (h2 : ∀ h : b < s.size, p s[b] = false) : skip p s a = b := by
  have hsp : s.data.toList.drop a = (s.data.toList.drop a).take (b - a) ++ s.data.toList.drop b := by
    rw [show s.data.toList.drop b = (s.data.toList.drop a).drop (b - a) from by rw [List.drop_drop]; congr 1; omega, List.take_append_drop]
  unfold skip
  rw [hsp, List.takeWhile_append_of_pos]
  · have : (s.data.toList.drop b).takeWhile p = [] := by
      by_cases hlt : b < s.size
      · rw [List.drop_eq_getElem_cons (by simpa using hlt)]
        have : s.data.toList[b]'(by simpa using hlt) = s[b] := rfl
        rw [this, List.takeWhile_cons, if_neg (by rw [h2 hlt]; simp)]
      · rw [List.drop_of_length_le (by simp; omega)]; rfl
    rw [this, List.append_nil, List.length_take, List.length_drop]
    simp; omega
  · intro c hc
    obtain ⟨j, hj, rfl⟩ := List.mem_iff_getElem.1 hc
    rw [List.getElem_take, List.getElem_drop]
    simp at hj
    exact h1 (a + j) (by omega) (by omega) (by omega)

set_option maxHeartbeats 1000000 in
theorem behind_any (v : Value) (p : UInt8 → Bool) (s : ByteArray) (a : Nat) (w : World) (hs : s.size ≤ 4294967280) (ha : a ≤ s.size) (hk : Kd w v p) :
    Calls Tryd.prog 113 #[v, .string s, .int .i64 (a : Int)] w fun e w' => e = .returned (.int .i64 (skip p s a : Int)) ∧ w = w' := by
  obtain ⟨g, lb, rfl, eg, hc⟩ := hk
  have HC := Lib.hid (hc w (Below.refl _ _))
  clear hc
  go_enter Tryd.func113, Tryd.ntmps113
  go_wp2
  go_loop [2] (fun i => ∃ b : Nat, a ≤ b ∧ b ≤ s.size ∧ i = .int .i64 (b : Int) ∧ Hid (∀ j, (h : j < s.size) → a ≤ j → j < b → p s[j] = true)) (fun i => s.size - (intOf i).toNat)
  case atStart => exact ⟨a, Nat.le_refl _, ha, rfl, Lib.hid fun j _ h1 h2 => absurd h1 (by omega)⟩
  case round =>
    obtain ⟨b, hab, hb, rfl, hall⟩ := hrel
    by_cases hlt : b < s.size
    · have hix : ∀ wx : World, (Instr.index 9 (.string s) (.int .i64 (b : Int))).run Tryd.prog wx = .ok (.int .u8 (s[b].toNat : Int)) wx := fun wx => by
        rw [run_index_string wx 9 s .i64 (b : Int) Tryd.underlying9]
        simp [hlt]
      have hlt' : (b : Int) < (s.size : Int) := by omega
      have hp := HC.out s[b]
      generalize hcc : s[b] = c at hix hp
      have HCC := Lib.hid hcc
      have HP := Lib.hid hp
      clear hp hcc
      cases hpc : p c
      · have hr : skip p s a = b := skip_is p s a b hab hb hall.out (fun _ => by rw [HCC.out]; exact hpc)
        have HR := Lib.hid hr
        rw [hpc] at HP
        clear hr hpc
        go_wp2_with fail
        refine HP.out.mono ?_
        rintro e w' ⟨rfl, rfl⟩
        go_wp2
        go_ret
        rw [HR.out]
        exact ⟨rfl, by first | rfl | trivial⟩
      · have hn : ∀ j, (h : j < s.size) → a ≤ j → j < b + 1 → p s[j] = true := by
          intro j h h1 h2
          by_cases hj : j < b
          · exact hall.out j h h1 hj
          · have : j = b := by omega
            subst this
            rw [HCC.out]; exact hpc
        have HN := Lib.hid hn
        rw [hpc] at HP
        clear hn hpc
        go_wp2_with fail
        refine HP.out.mono ?_
        rintro e w' ⟨rfl, rfl⟩
        go_wp2
        refine ⟨⟨b + 1, by omega, by omega, by go_num, HN⟩, ?_⟩
        simp [intOf]; omega
    · have hr : skip p s a = b := skip_is p s a b hab hb hall.out (fun h => absurd h hlt)
      have HR := Lib.hid hr
      have hge : (s.size : Int) ≤ (b : Int) := by omega
      clear hr
      go_wp2
      go_ret
      rw [HR.out]
      exact ⟨rfl, by first | rfl | trivial⟩
end Go.Proofs.YtfljnhmpelpdaaaDoor.Tok
