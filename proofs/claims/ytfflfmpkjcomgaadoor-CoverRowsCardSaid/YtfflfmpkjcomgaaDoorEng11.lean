/- The engine, 11: what an operation turns hangs on what it looks at. -/
import Derived.Test.YtfflfmpkjcomgaaDoorEng9
namespace Go.Proofs.YtfflfmpkjcomgaaDoor
open Go.RowKit

def A.id1 : A → List Nat
  | .ptr id _ _ => [id]
  | .row id _ => [id]
  | .rp id _ _ _ _ => [id]
  | _ => []
def A.id2 : A → List Nat
  | .ag l => l.flatMap A.id1
  | x => x.id1
def A.ids : A → List Nat
  | .ag l => l.flatMap A.id1
  | .fn _ l m => (l ++ m).flatMap A.id2
  | x => x.id1
theorem A.id2_sub {x : A} {i : Nat} (h : i ∈ x.id2) : i ∈ x.ids := by
  cases x <;> first | exact h | (simp [A.id2, A.id1] at h)
/-- the objects that these operands name -/
def S.ids (s : S) (l : List Operand) : List Nat := l.flatMap fun x => (s.ev x).ids

section
variable {P : Program} {tt : Tys} {Hy : World → Prop} {cls : Nat → Nat} {s : S}

structure Agr (l : List Operand) (s s2 : S) : Prop where
  ev : ∀ x ∈ l, s2.ev x = s.ev x
  o : ∀ id ∈ s.ids l, s2.o id = s.o id
theorem Agr.at_ {l : List Operand} {s2 : S} (h : Agr l s s2) {x : Operand} (hx : x ∈ l) {id : Nat} (hid : id ∈ (s.ev x).ids) : s2.o id = s.o id := h.o id (List.mem_flatMap.2 ⟨x, hx, hid⟩)

theorem bi_D {b : Builtin} {args : List Operand} {tys : List TypeId} {K : A → Prop} (hk : biK tt b (args.map s.ev) tys s K) : ∃ y, K y ∧ ∀ (s2 : S) (K2 : A → Prop), Agr args s s2 → K2 y → biK tt b (args.map s2.ev) tys s2 K2 := by
  have map2 : ∀ s2, Agr args s s2 → args.map s2.ev = args.map s.ev := fun s2 h => List.map_congr_left (fun x hx => h.ev x hx)
  unfold biK at hk
  split at hk
  · rename_i x t hargs
    obtain ⟨x0, rfl, rfl⟩ : ∃ x0, args = [x0] ∧ s.ev x0 = x := by
      match args, hargs with
      | [x0], e => exact ⟨x0, rfl, by simpa using e⟩
    obtain ⟨d, hd, hk⟩ := optK_get hk
    split at hk
    · rename_i e1 e2
      refine ⟨_, hk, fun s2 K2 hA h2 => ?_⟩
      rw [map2 s2 hA, List.map_cons, List.map_nil]
      simp only [biK, hd, optK, e1, e2]
      exact h2
    · rename_i e1 e2
      refine ⟨_, hk, fun s2 K2 hA h2 => ?_⟩
      rw [map2 s2 hA, List.map_cons, List.map_nil]
      simp only [biK, hd, optK, e1, e2]
      exact h2
    · rename_i e1 e2
      refine ⟨_, hk, fun s2 K2 hA h2 => ?_⟩
      rw [map2 s2 hA, List.map_cons, List.map_nil]
      simp only [biK, hd, optK, e1, e2]
      exact h2
    · rename_i id g e1 e2
      obtain ⟨hg, hk⟩ := hk
      have hid : ∀ s2, Agr [x0] s s2 → s2.o id = s.o id := fun s2 hA => hA.at_ (x := x0) (by simp) (by rw [e2]; simp [A.ids, A.id1])
      split at hk
      · rename_i ty' z l hkk
        refine ⟨_, hk, fun s2 K2 hA h2 => ?_⟩
        rw [map2 s2 hA, List.map_cons, List.map_nil]
        simp only [biK, hd, optK, e1, e2, hid s2 hA, hkk]
        exact ⟨hg, h2⟩
      · rename_i ty' z l hkk
        refine ⟨_, hk, fun s2 K2 hA h2 => ?_⟩
        rw [map2 s2 hA, List.map_cons, List.map_nil]
        simp only [biK, hd, optK, e1, e2, hid s2 hA, hkk]
        exact ⟨hg, h2⟩
      · rename_i l hkk
        refine ⟨_, hk, fun s2 K2 hA h2 => ?_⟩
        rw [map2 s2 hA, List.map_cons, List.map_nil]
        simp only [biK, hd, optK, e1, e2, hid s2 hA, hkk]
        exact ⟨hg, h2⟩
      · exact hk.elim
    · exact hk.elim
  · rename_i x t hargs
    obtain ⟨x0, rfl, rfl⟩ : ∃ x0, args = [x0] ∧ s.ev x0 = x := by
      match args, hargs with
      | [x0], e => exact ⟨x0, rfl, by simpa using e⟩
    obtain ⟨d, hd, hk⟩ := optK_get hk
    split at hk
    · rename_i e1 e2
      refine ⟨_, hk, fun s2 K2 hA h2 => ?_⟩
      rw [map2 s2 hA, List.map_cons, List.map_nil]
      simp only [biK, hd, optK, e1, e2]
      exact h2
    · exact hk.elim
  · rename_i x y hargs
    obtain ⟨x0, y0, rfl, rfl, rfl⟩ : ∃ x0 y0, args = [x0, y0] ∧ s.ev x0 = x ∧ s.ev y0 = y := by
      match args, hargs with
      | [x0, y0], e => exact ⟨x0, y0, rfl, by simpa using e⟩
    split at hk
    · rename_i e1 e2
      obtain ⟨rfl, hk⟩ := hk
      refine ⟨_, hk, fun s2 K2 hA h2 => ?_⟩
      rw [map2 s2 hA]
      simp only [List.map_cons, List.map_nil, biK, e1, e2]
      exact ⟨trivial, h2⟩
    · exact hk.elim
  · rename_i x y hargs
    obtain ⟨x0, y0, rfl, rfl, rfl⟩ : ∃ x0 y0, args = [x0, y0] ∧ s.ev x0 = x ∧ s.ev y0 = y := by
      match args, hargs with
      | [x0, y0], e => exact ⟨x0, y0, rfl, by simpa using e⟩
    split at hk
    · rename_i e1 e2
      obtain ⟨rfl, hk⟩ := hk
      refine ⟨_, hk, fun s2 K2 hA h2 => ?_⟩
      rw [map2 s2 hA]
      simp only [List.map_cons, List.map_nil, biK, e1, e2]
      exact ⟨trivial, h2⟩
    · exact hk.elim
  · exact hk.elim

theorem kyA_ag {x : A} {k : IntKind} {l : List Int} (h : kyA x = some (.a k l)) : (∃ m, x = .t (.ag m)) ∨ ∃ m, x = .ag m := by
  unfold kyA at h
  split at h
  · cases h
  · cases h
  · exact .inl ⟨_, rfl⟩
  · exact .inr ⟨_, rfl⟩
  · cases h
theorem arr_D {op : BinOp} {ty : TypeId} {x y : A} {K : A → Prop} (hk : arrK tt op ty x y K) : ∃ z, K z ∧ ∀ K2 : A → Prop, K2 z → binK tt op ty x y K2 := by
  obtain ⟨d, hd, hk⟩ := optK_get hk
  split at hk
  · rename_i n e he
    obtain ⟨de, hde, hk⟩ := optK_get hk
    split at hk
    · rename_i q hq
      obtain ⟨hs, hk1⟩ := hk
      obtain ⟨ka, hka, hk2⟩ := optK_get hk1
      obtain ⟨kb, hkb, hk3⟩ := optK_get hk2
      clear hk1 hk2
      have fin : ∀ (k : IntKind) (l : List Int), kyA x = some (.a k l) → ∀ K2 : A → Prop, arrK tt op ty x y K2 → binK tt op ty x y K2 := fun k l hx K2 h2 => by
        rcases kyA_ag hx with ⟨m, rfl⟩ | ⟨m, rfl⟩
        · exact h2
        · exact h2
      cases ka <;> first | exact hk3.elim | skip
      cases kb <;> first | exact hk3.elim | skip
      rename_i k l k' m
      obtain ⟨h1, hk4⟩ := hk3
      cases op
      case eql => exact ⟨_, hk4, fun K2 h2 => fin k l hka K2 (by simp only [arrK, hd, optK, he, hde, hq, hka, hkb]; exact ⟨hs, h1, h2⟩)⟩
      case neq => exact ⟨_, hk4, fun K2 h2 => fin k l hka K2 (by simp only [arrK, hd, optK, he, hde, hq, hka, hkb]; exact ⟨hs, h1, h2⟩)⟩
      all_goals exact hk4.elim
    · exact hk.elim
  · rename_i fs he
    obtain ⟨heq, hk⟩ := hk
    obtain ⟨l, hl, hk⟩ := optK_get hk
    obtain ⟨m, hm, hk⟩ := optK_get hk
    obtain ⟨b, hb, hk⟩ := optK_get hk
    have fin : ∀ K2 : A → Prop, arrK tt op ty x y K2 → binK tt op ty x y K2 := fun K2 h2 => by
      have : (∃ m, x = .t (.ag m)) ∨ ∃ m, x = .ag m := by
        unfold agA at hl
        split at hl
        · exact .inl ⟨_, rfl⟩
        · exact .inr ⟨_, rfl⟩
        · cases hl
      rcases this with ⟨m, rfl⟩ | ⟨m, rfl⟩
      · exact h2
      · exact h2
    cases op
    case eql => exact ⟨_, hk, fun K2 h2 => fin K2 (by simp only [arrK, hd, optK, he, hl, hm, hb]; exact ⟨heq, h2⟩)⟩
    case neq => exact ⟨_, hk, fun K2 h2 => fin K2 (by simp only [arrK, hd, optK, he, hl, hm, hb]; exact ⟨heq, h2⟩)⟩
    all_goals exact hk.elim
  · exact hk.elim
theorem nil_D {tt : Tys} {op : BinOp} {ty : TypeId} {x : A} {K : A → Prop} (hk : nilI tt op ty x K) : ∃ z, K z ∧ ∀ K2 : A → Prop, K2 z → nilI tt op ty x K2 := by
  unfold nilI at hk ⊢
  obtain ⟨d, hd, hk1⟩ := optK_get hk
  clear hk
  have hki : d.k = .iface := by
    revert hk1
    cases d.k <;> intro hk <;> first | rfl | exact False.elim hk
  rw [hki] at hk1
  simp only [hd, optK, hki]
  cases x with
  | t z =>
    cases z with
    | ifc ty y =>
      cases op <;> first | exact False.elim hk1 | skip
      · exact ⟨_, hk1, fun K2 h2 => h2⟩
      · exact ⟨_, hk1, fun K2 h2 => h2⟩
    | nif =>
      cases op <;> first | exact False.elim hk1 | skip
      · exact ⟨_, hk1, fun K2 h2 => h2⟩
      · exact ⟨_, hk1, fun K2 h2 => h2⟩
    | _ => exact False.elim hk1
  | _ => exact False.elim hk1
theorem bin_D {op : BinOp} {ty : TypeId} {x y : A} {K : A → Prop} (hk : binK tt op ty x y K) : ∃ z, K z ∧ ∀ K2 : A → Prop, K2 z → binK tt op ty x y K2 := by
  unfold binK at hk
  split at hk
  · rename_i k a k' b
    obtain ⟨rfl, hk⟩ := hk
    cases op
    case add => exact ⟨_, hk.2, fun K2 h2 => ⟨rfl, hk.1, h2⟩⟩
    case sub => exact ⟨_, hk.2, fun K2 h2 => ⟨rfl, hk.1, h2⟩⟩
    case mul => exact ⟨_, hk.2, fun K2 h2 => ⟨rfl, hk.1, h2⟩⟩
    case quo => exact ⟨_, hk.2.2, fun K2 h2 => ⟨rfl, hk.1, hk.2.1, h2⟩⟩
    case rem => exact ⟨_, hk.2, fun K2 h2 => ⟨rfl, hk.1, h2⟩⟩
    case eql => exact ⟨_, hk, fun K2 h2 => ⟨rfl, h2⟩⟩
    case neq => exact ⟨_, hk, fun K2 h2 => ⟨rfl, h2⟩⟩
    case lss => exact ⟨_, hk, fun K2 h2 => ⟨rfl, h2⟩⟩
    case leq => exact ⟨_, hk, fun K2 h2 => ⟨rfl, h2⟩⟩
    case gtr => exact ⟨_, hk, fun K2 h2 => ⟨rfl, h2⟩⟩
    case geq => exact ⟨_, hk, fun K2 h2 => ⟨rfl, h2⟩⟩
    case and => exact ⟨_, hk, fun K2 h2 => ⟨rfl, h2⟩⟩
    case or => exact ⟨_, hk, fun K2 h2 => ⟨rfl, h2⟩⟩
    case xor => exact ⟨_, hk, fun K2 h2 => ⟨rfl, h2⟩⟩
    case andNot => exact ⟨_, hk, fun K2 h2 => ⟨rfl, h2⟩⟩
    all_goals exact hk.elim
  · cases op
    case eql => exact ⟨_, hk, fun K2 h2 => h2⟩
    case neq => exact ⟨_, hk, fun K2 h2 => h2⟩
    case add => exact ⟨_, hk.2, fun K2 h2 => ⟨hk.1, h2⟩⟩
    case lss => exact ⟨_, hk, fun K2 h2 => h2⟩
    case leq => exact ⟨_, hk, fun K2 h2 => h2⟩
    case gtr => exact ⟨_, hk, fun K2 h2 => h2⟩
    case geq => exact ⟨_, hk, fun K2 h2 => h2⟩
    all_goals exact hk.elim
  · obtain ⟨d, hd, hdk, hk⟩ := optK_get hk
    have r : ∀ {q : Prop}, q → optK (tt ty) fun d => d.k = .bool ∧ q := fun {q} hq => by
      rw [hd]
      exact ⟨hdk, hq⟩
    cases op
    case eql => exact ⟨_, hk, fun K2 h2 => r h2⟩
    case neq => exact ⟨_, hk, fun K2 h2 => r h2⟩
    all_goals exact hk.elim
  · exact arr_D hk

theorem pure_D {op : Op} {K : A → Prop} (hk : Pk tt op s K) : ∃ y, K y ∧ ∀ (s2 : S) (K2 : A → Prop), Agr op.operands.toList s s2 → K2 y → Pk tt op s2 K2 := by
  cases op
  case move x => exact ⟨_, hk, fun s2 K2 hA h2 => by simp only [Pk]; rw [hA.ev x (by simp [Op.operands])]; exact h2⟩
  case assign x => exact ⟨_, hk, fun s2 K2 hA h2 => by simp only [Pk]; rw [hA.ev x (by simp [Op.operands])]; exact h2⟩
  case pick c x y =>
    simp only [Pk] at hk
    split at hk
    · rename_i q e
      cases q
      · refine ⟨_, hk.2 rfl, fun s2 K2 hA h2 => ?_⟩
        simp only [Pk]
        rw [hA.ev c (by simp [Op.operands]), hA.ev y (by simp [Op.operands]), e]
        exact ⟨fun h => (by cases h), fun _ => h2⟩
      · refine ⟨_, hk.1 rfl, fun s2 K2 hA h2 => ?_⟩
        simp only [Pk]
        rw [hA.ev c (by simp [Op.operands]), hA.ev x (by simp [Op.operands]), e]
        exact ⟨fun _ => h2, fun h => (by cases h)⟩
    · exact hk.elim
  case load ty x =>
    obtain ⟨d, hd, hk⟩ := optK_get hk
    have hx : x ∈ (Op.load ty x).operands.toList := by simp [Op.operands]
    split at hk
    · rename_i id g off e
      obtain ⟨hg, hk⟩ := hk
      have hid : ∀ s2, Agr (Op.load ty x).operands.toList s s2 → s2.o id = s.o id := fun s2 hA => hA.at_ hx (by rw [e]; simp [A.ids, A.id1])
      split at hk
      · rename_i ty' l hkk
        obtain ⟨y, hy, hk⟩ := optK_get hk
        refine ⟨y, hk, fun s2 K2 hA h2 => ?_⟩
        simp only [Pk, hd, optK, hA.ev x hx, e, hid s2 hA, hkk, hy]
        exact ⟨hg, h2⟩
      · exact hk.elim
    · rename_i l e
      obtain ⟨y, hy, hk⟩ := optK_get hk
      refine ⟨y, hk, fun s2 K2 hA h2 => ?_⟩
      simp only [Pk, hd, optK, hA.ev x hx, e, hy]
      exact h2
    · rename_i id g z i off e
      obtain ⟨hg, hk⟩ := hk
      have hid : ∀ s2, Agr (Op.load ty x).operands.toList s s2 → s2.o id = s.o id := fun s2 hA => hA.at_ hx (by rw [e]; simp [A.ids, A.id1])
      split at hk
      · rename_i ty' z' l hkk
        obtain ⟨hz, hk⟩ := hk
        obtain ⟨c, hc, hk⟩ := optK_get hk
        obtain ⟨y, hy, hk⟩ := optK_get hk
        refine ⟨y, hk, fun s2 K2 hA h2 => ?_⟩
        simp only [Pk, hd, optK, hA.ev x hx, e, hid s2 hA, hkk, hc, hy]
        exact ⟨hg, hz, h2⟩
      · rename_i ty' z' l hkk
        obtain ⟨hz, hk⟩ := hk
        obtain ⟨c, hc, hk⟩ := optK_get hk
        obtain ⟨y, hy, hk⟩ := optK_get hk
        refine ⟨y, hk, fun s2 K2 hA h2 => ?_⟩
        simp only [Pk, hd, optK, hA.ev x hx, e, hid s2 hA, hkk, hc, hy]
        exact ⟨hg, hz, h2⟩
      · exact hk.elim
    · exact hk.elim
  case fieldAddr st x f =>
    obtain ⟨d, hd, hk⟩ := optK_get hk
    have hx : x ∈ (Op.fieldAddr st x f).operands.toList := by simp [Op.operands]
    split at hk
    · rename_i fs e
      obtain ⟨p, hp, hk⟩ := optK_get hk
      obtain ⟨de, hde, hk⟩ := optK_get hk
      obtain ⟨hz, hk⟩ := hk
      split at hk
      · rename_i id g off e2
        obtain ⟨hg, hc, hk⟩ := hk
        refine ⟨_, hk, fun s2 K2 hA h2 => ?_⟩
        have hid : s2.o id = s.o id := hA.at_ hx (by rw [e2]; simp [A.ids, A.id1])
        simp only [Pk, hd, optK, e, hp, hde, hA.ev x hx, e2, hid]
        exact ⟨hz, hg, hc, h2⟩
      · rename_i l e2
        obtain ⟨hle, hk⟩ := hk
        refine ⟨_, hk, fun s2 K2 hA h2 => ?_⟩
        simp only [Pk, hd, optK, e, hp, hde, hA.ev x hx, e2]
        exact ⟨hz, hle, h2⟩
      · rename_i id g z i off e2
        obtain ⟨hg, hc, hk⟩ := hk
        refine ⟨_, hk, fun s2 K2 hA h2 => ?_⟩
        have hid : s2.o id = s.o id := hA.at_ hx (by rw [e2]; simp [A.ids, A.id1])
        simp only [Pk, hd, optK, e, hp, hde, hA.ev x hx, e2, hid]
        exact ⟨hz, hg, hc, h2⟩
      · exact hk.elim
    · exact hk.elim
  case field st x f =>
    obtain ⟨d, hd, hk⟩ := optK_get hk
    have hx : x ∈ (Op.field st x f).operands.toList := by simp [Op.operands]
    split at hk
    · rename_i fs e
      obtain ⟨p, hp, hk⟩ := optK_get hk
      obtain ⟨de, hde, hk⟩ := optK_get hk
      split at hk
      · rename_i l e2
        obtain ⟨y, hy, hk⟩ := optK_get hk
        refine ⟨y, hk, fun s2 K2 hA h2 => ?_⟩
        simp only [Pk, hd, optK, e, hp, hde, hA.ev x hx, e2, hy]
        exact h2
      · rename_i l e2
        obtain ⟨y, hy, hk⟩ := optK_get hk
        refine ⟨y, hk, fun s2 K2 hA h2 => ?_⟩
        simp only [Pk, hd, optK, e, hp, hde, hA.ev x hx, e2, hy]
        exact h2
      · exact hk.elim
    · exact hk.elim
  case unOp u ty x =>
    cases u
    case not =>
      simp only [Pk] at hk
      split at hk
      · rename_i q e
        refine ⟨_, hk, fun s2 K2 hA h2 => ?_⟩
        simp only [Pk, hA.ev x (by simp [Op.operands]), e]
        exact h2
      · exact hk.elim
    case neg =>
      simp only [Pk] at hk
      split at hk
      · rename_i k n e
        refine ⟨_, hk, fun s2 K2 hA h2 => ?_⟩
        simp only [Pk, hA.ev x (by simp [Op.operands]), e]
        exact h2
      · exact hk.elim
    all_goals exact hk.elim
  case extract x i =>
    simp only [Pk] at hk
    split at hk
    · rename_i l e
      obtain ⟨y, hy, hk⟩ := optK_get hk
      refine ⟨y, hk, fun s2 K2 hA h2 => ?_⟩
      simp only [Pk, hA.ev x (by simp [Op.operands]), e, hy, optK]
      exact h2
    · exact hk.elim
  case binOp op ty x y ty' =>
    simp only [Pk] at hk
    split at hk
    · rename_i e
      obtain ⟨z, hz, h3⟩ := nil_D hk
      refine ⟨z, hz, fun s2 K2 hA h2 => ?_⟩
      simp only [Pk, e]
      rw [hA.ev x (by simp [Op.operands])]
      exact h3 K2 h2
    · rename_i e
      obtain ⟨z, hz, h3⟩ := bin_D hk
      refine ⟨z, hz, fun s2 K2 hA h2 => ?_⟩
      simp only [Pk, e]
      rw [hA.ev x (by simp [Op.operands]), hA.ev y (by simp [Op.operands])]
      exact h3 K2 h2
  case makeInterface ty x =>
    simp only [Pk] at hk
    obtain ⟨d, hd, hc, hk⟩ := optK_get hk
    obtain ⟨y, hy, hk⟩ := optK_get hk
    refine ⟨_, hk, fun s2 K2 hA h2 => ?_⟩
    simp only [Pk, hd, optK, hA.ev x (by simp [Op.operands]), hy]
    exact ⟨hc, h2⟩
  case typeAssert x xT asserted ok =>
    simp only [Pk] at hk
    obtain ⟨d, hd, hc, hk1⟩ := optK_get hk
    clear hk
    cases ok with
    | true => exact False.elim hk1
    | false =>
      cases hxe : s.ev x with
      | t z =>
        rw [hxe] at hk1
        cases z with
        | ifc ty y =>
          obtain ⟨hty, hk2⟩ := hk1
          refine ⟨_, hk2, fun s2 K2 hA h2 => ?_⟩
          simp only [Pk, hd, optK, hA.ev x (by simp [Op.operands]), hxe]
          exact ⟨hc, hty, h2⟩
        | _ => exact False.elim hk1
      | _ => rw [hxe] at hk1; exact False.elim hk1
  case index ty x ix =>
    obtain ⟨d, hd, hk⟩ := optK_get hk
    split at hk
    · rename_i e
      split at hk
      · rename_i b k n e1 e2
        obtain ⟨h0, hk⟩ := hk
        obtain ⟨c, hc, hk⟩ := optK_get hk
        refine ⟨_, hk, fun s2 K2 hA h2 => ?_⟩
        simp only [Pk, hd, optK, e, hA.ev x (by simp [Op.operands]), hA.ev ix (by simp [Op.operands]), e1, e2, hc]
        exact ⟨h0, h2⟩
      · exact hk.elim
    · exact hk.elim
  case convert src dst x =>
    obtain ⟨d, hd, hk⟩ := optK_get hk
    obtain ⟨e, he, hk⟩ := optK_get hk
    split at hk
    · rename_i k0 k k' n e1 e2 e3
      obtain ⟨he0, hr, hk⟩ := hk
      refine ⟨_, hk, fun s2 K2 hA h2 => ?_⟩
      simp only [Pk, hd, he, optK, hA.ev x (by simp [Op.operands]), e1, e2, e3]
      exact ⟨he0, hr, h2⟩
    · exact hk.elim
  case slice ty x lo hi mx =>
    rcases lo with _ | lo <;> rcases hi with _ | hi <;> rcases mx with _ | mx <;> simp only [Pk] at hk
    obtain ⟨d, hd, hk⟩ := optK_get hk
    have hx : x ∈ (Op.slice ty x none (some hi) none).operands.toList := by simp [Op.operands]
    have hh : hi ∈ (Op.slice ty x none (some hi) none).operands.toList := by simp [Op.operands]
    split at hk
    · rename_i el e
      obtain ⟨de, hde, hk⟩ := optK_get hk
      split at hk
      · rename_i k n e2
        split at hk
        · rename_i l e3
          refine ⟨_, hk.2, fun s2 K2 hA h2 => ?_⟩
          simp only [Pk, hd, optK, e, hde, hA.ev x hx, hA.ev hi hh, e2, e3]
          exact ⟨hk.1, h2⟩
        · exact hk.elim
      · exact hk.elim
    · exact hk.elim
  case call c =>
    obtain ⟨callee, args, tys⟩ := c
    cases callee
    case builtin b =>
      simp only [Pk] at hk
      obtain ⟨y, h1, h2⟩ := bi_D hk
      refine ⟨y, h1, fun s2 K2 hA h3 => ?_⟩
      simp only [Pk]
      have he : (Op.call ⟨.builtin b, args, tys⟩).operands.toList = args.toList := by simp [Op.operands, Call.operands]
      rw [he] at hA
      exact h2 s2 K2 hA h3
    all_goals exact hk.elim
  case makeFunc f first cap =>
    simp only [Pk] at hk
    split at hk
    · rename_i f
      refine ⟨_, hk, fun s2 K2 hA h2 => ?_⟩
      simp only [Pk]
      have e1 : cap.toList.map s2.ev = cap.toList.map s.ev := List.map_congr_left (fun x hx => hA.ev x (by simp [Op.operands]; right; simpa using hx))
      have e2 : first.toList.map s2.ev = first.toList.map s.ev := List.map_congr_left (fun x hx => hA.ev x (by simp [Op.operands]; left; simpa using hx))
      rw [e1, e2]
      exact h2
    · exact hk.elim
  case nilCheck x =>
    simp only [Pk] at hk
    have hx : x ∈ (Op.nilCheck x).operands.toList := by simp [Op.operands]
    split at hk
    · rename_i id g off e
      obtain ⟨hg, hk⟩ := hk
      refine ⟨_, hk, fun s2 K2 hA h2 => ?_⟩
      simp only [Pk, hA.ev x hx, e, hA.at_ hx (show id ∈ (s.ev x).ids by rw [e]; simp [A.ids, A.id1])]
      exact ⟨hg, h2⟩
    · rename_i l e
      refine ⟨_, hk, fun s2 K2 hA h2 => ?_⟩
      simp only [Pk, hA.ev x hx, e]
      exact h2
    · rename_i id g z i off e
      obtain ⟨hg, hk⟩ := hk
      refine ⟨_, hk, fun s2 K2 hA h2 => ?_⟩
      simp only [Pk, hA.ev x hx, e, hA.at_ hx (show id ∈ (s.ev x).ids by rw [e]; simp [A.ids, A.id1])]
      exact ⟨hg, h2⟩
    · rename_i f l e
      refine ⟨_, hk, fun s2 K2 hA h2 => ?_⟩
      simp only [Pk, hA.ev x hx, e]
      exact h2
    · exact hk.elim
  case indexAddr ty x ix =>
    obtain ⟨d, hd, hk⟩ := optK_get hk
    have hx : x ∈ (Op.indexAddr ty x ix).operands.toList := by simp [Op.operands]
    have hix : ix ∈ (Op.indexAddr ty x ix).operands.toList := by simp [Op.operands]
    split at hk
    · rename_i et e
      obtain ⟨de, hde, hk⟩ := optK_get hk
      split at hk
      · rename_i k n e1
        obtain ⟨h0, hk⟩ := hk
        split at hk
        · rename_i l e2
          obtain ⟨c, hc, hk⟩ := optK_get hk
          obtain ⟨hcl, hk⟩ := hk
          refine ⟨_, hk, fun s2 K2 hA h2 => ?_⟩
          simp only [Pk, hd, optK, e, hde, hA.ev x hx, hA.ev ix hix, e1, e2, hc]
          exact ⟨h0, hcl, h2⟩
        · rename_i id g e2
          obtain ⟨hg, hk⟩ := hk
          have hid : ∀ s2, Agr (Op.indexAddr ty x ix).operands.toList s s2 → s2.o id = s.o id := fun s2 hA => hA.at_ hx (by rw [e2]; simp [A.ids, A.id1])
          split at hk
          · rename_i ty' z l hkk
            obtain ⟨hlt, hz, hk⟩ := hk
            refine ⟨_, hk, fun s2 K2 hA h2 => ?_⟩
            simp only [Pk, hd, optK, e, hde, hA.ev x hx, hA.ev ix hix, e1, e2, hid s2 hA, hkk]
            exact ⟨h0, hg, hlt, hz, h2⟩
          · rename_i ty' z l hkk
            obtain ⟨hlt, hz, hk⟩ := hk
            refine ⟨_, hk, fun s2 K2 hA h2 => ?_⟩
            simp only [Pk, hd, optK, e, hde, hA.ev x hx, hA.ev ix hix, e1, e2, hid s2 hA, hkk]
            exact ⟨h0, hg, hlt, hz, h2⟩
          · rename_i l hkk
            obtain ⟨c, hc, hk⟩ := optK_get hk
            obtain ⟨hcl, hk⟩ := hk
            refine ⟨_, hk, fun s2 K2 hA h2 => ?_⟩
            simp only [Pk, hd, optK, e, hde, hA.ev x hx, hA.ev ix hix, e1, e2, hid s2 hA, hkk, hc]
            exact ⟨h0, hg, hcl, h2⟩
          · exact hk.elim
        · exact hk.elim
      · exact hk.elim
    · rename_i m et e
      obtain ⟨de, hde, hk⟩ := optK_get hk
      split at hk
      · rename_i k n e1
        obtain ⟨h0, hk⟩ := hk
        split at hk
        · rename_i id g off e2
          obtain ⟨hg, hc, hk⟩ := hk
          refine ⟨_, hk, fun s2 K2 hA h2 => ?_⟩
          have hid : s2.o id = s.o id := hA.at_ hx (by rw [e2]; simp [A.ids, A.id1])
          simp only [Pk, hd, optK, e, hde, hA.ev x hx, hA.ev ix hix, e1, e2, hid]
          exact ⟨h0, hg, hc, h2⟩
        · rename_i l e2
          obtain ⟨hle, hk⟩ := hk
          refine ⟨_, hk, fun s2 K2 hA h2 => ?_⟩
          simp only [Pk, hd, optK, e, hde, hA.ev x hx, hA.ev ix hix, e1, e2]
          exact ⟨h0, hle, h2⟩
        · rename_i id g z i off e2
          obtain ⟨hg, hc, hk⟩ := hk
          refine ⟨_, hk, fun s2 K2 hA h2 => ?_⟩
          have hid : s2.o id = s.o id := hA.at_ hx (by rw [e2]; simp [A.ids, A.id1])
          simp only [Pk, hd, optK, e, hde, hA.ev x hx, hA.ev ix hix, e1, e2, hid]
          exact ⟨h0, hg, hc, h2⟩
        · exact hk.elim
      · exact hk.elim
    · exact hk.elim
  all_goals exact hk.elim
end
end Go.Proofs.YtfflfmpkjcomgaaDoor
