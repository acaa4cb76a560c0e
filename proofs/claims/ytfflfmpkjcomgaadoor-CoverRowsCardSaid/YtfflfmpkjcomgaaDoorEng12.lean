/- The engine, 12: the same of operations that make or write. -/
import Derived.Test.YtfflfmpkjcomgaaDoorEng11
namespace Go.Proofs.YtfflfmpkjcomgaaDoor
open Go.RowKit

def upd (s : S) (up : List (Nat × O)) (dst : Option Nat) (y : A) : S := (up.foldl (fun s p => s.ob p.1 p.2) s).put dst y
def wids (cls : Nat → Nat) (dst : Option Nat) (s : S) (l : List Operand) : List Nat := match dst with
  | some d => cls d :: s.ids l
  | none => s.ids l

section
variable {P : Program} {tt : Tys} {Hy : World → Prop} {cls : Nat → Nat} {s : S}

theorem frz1_D {x : A} {o : Nat → O} {K : T → Ups → Prop} (hk : frz1 (mask o) x K) : ∃ t up, K t up ∧ (∀ p ∈ up, p.1 ∈ x.id1) ∧ ∀ (o2 : Nat → O) (K2 : T → Ups → Prop), (∀ id ∈ x.id1, o2 id = o id) → K2 t up → frz1 (mask o2) x K2 := by
  unfold frz1 at hk
  split at hk
  · exact ⟨_, _, hk, fun _ h => (by cases h), fun o2 K2 _ h2 => h2⟩
  · exact ⟨_, _, hk, fun _ h => (by cases h), fun o2 K2 _ h2 => h2⟩
  · rename_i id g
    obtain ⟨hg, hk⟩ := hk
    have same : ∀ o2 : Nat → O, (∀ i ∈ (A.row id g).id1, o2 i = o i) → mask o2 id = mask o id := fun o2 h => by
      simp only [mask, h id (by simp [A.id1])]
    split at hk
    · rename_i ty z l hkk
      refine ⟨_, _, hk, fun p h => ?_, fun o2 K2 h h2 => ?_⟩
      · obtain rfl := List.mem_singleton.1 h
        simp [A.id1]
      · simp only [frz1, same o2 h, hkk]
        exact ⟨hg, h2⟩
    · rename_i l hkk
      refine ⟨_, _, hk, fun _ h => (by cases h), fun o2 K2 h h2 => ?_⟩
      simp only [frz1, same o2 h, hkk]
      exact ⟨hg, h2⟩
    · rename_i e
      exfalso
      simp only [mask] at e
      split at e
      · cases e
      · rename_i hn
        exact hn _ _ _ e
    · exact hk.elim
  · exact hk.elim
theorem frzC_D {o : Nat → O} : ∀ (l : List A) {K : List T → Ups → Prop}, frzC (mask o) l K → ∃ ts up, K ts up ∧ (∀ p ∈ up, p.1 ∈ l.flatMap A.id1) ∧ ∀ (o2 : Nat → O) (K2 : List T → Ups → Prop), (∀ id ∈ l.flatMap A.id1, o2 id = o id) → K2 ts up → frzC (mask o2) l K2
  | [], K, hk => ⟨_, _, hk, fun _ h => (by cases h), fun o2 K2 _ h2 => h2⟩
  | x :: l, K, hk => by
    obtain ⟨hl, hk⟩ := hk
    obtain ⟨t, i, hk, h1, h2⟩ := frz1_D hk
    obtain ⟨ts, is, hk, g1, g2⟩ := frzC_D l hk
    refine ⟨_, _, hk, fun id hid => ?_, fun o2 K2 h hK => ?_⟩
    · rw [List.flatMap_cons]
      rcases List.mem_append.1 hid with h | h
      · exact List.mem_append_left _ (h1 id h)
      · exact List.mem_append_right _ (g1 id h)
    · rw [List.flatMap_cons] at h
      exact ⟨hl, h2 o2 _ (fun id hid => h id (List.mem_append_left _ hid)) (g2 o2 _ (fun id hid => h id (List.mem_append_right _ hid)) hK)⟩
theorem frz_D {x : A} {o : Nat → O} {K : T → Ups → Prop} (hk : frz (mask o) x K) : ∃ t up, K t up ∧ (∀ p ∈ up, p.1 ∈ x.id2) ∧ ∀ (o2 : Nat → O) (K2 : T → Ups → Prop), (∀ id ∈ x.id2, o2 id = o id) → K2 t up → frz (mask o2) x K2 := by
  unfold frz at hk
  split at hk
  · rename_i l
    obtain ⟨ts, is, hk, g1, g2⟩ := frzC_D l hk
    exact ⟨_, _, hk, g1, fun o2 K2 h h2 => g2 o2 _ h h2⟩
  · exact ⟨_, _, hk, fun _ h => (by cases h), fun o2 K2 _ h2 => h2⟩
  · exact ⟨_, _, hk, fun _ h => (by cases h), fun o2 K2 _ h2 => h2⟩
  · obtain ⟨t, i, hk, h1, h2⟩ := frz1_D hk
    exact ⟨t, i, hk, h1, fun o2 K2 h h3 => h2 o2 _ h h3⟩
  · exact hk.elim
theorem frzL_D2 {o : Nat → O} : ∀ (l : List A) {K : List T → Ups → Prop}, frzL (mask o) l K → ∃ ts up, K ts up ∧ (∀ p ∈ up, p.1 ∈ l.flatMap A.id2) ∧ ∀ (o2 : Nat → O) (K2 : List T → Ups → Prop), (∀ id ∈ l.flatMap A.id2, o2 id = o id) → K2 ts up → frzL (mask o2) l K2
  | [], K, hk => ⟨_, _, hk, fun _ h => (by cases h), fun o2 K2 _ h2 => h2⟩
  | x :: l, K, hk => by
    obtain ⟨t, i, hk, h1, h2⟩ := frz_D hk
    obtain ⟨ts, is, hk, g1, g2⟩ := frzL_D2 l hk
    refine ⟨_, _, hk, fun id hid => ?_, fun o2 K2 h hK => ?_⟩
    · rw [List.flatMap_cons]
      rcases List.mem_append.1 hid with h | h
      · exact List.mem_append_left _ (h1 id h)
      · exact List.mem_append_right _ (g1 id h)
    · rw [List.flatMap_cons] at h
      exact h2 o2 _ (fun id hid => h id (List.mem_append_left _ hid)) (g2 o2 _ (fun id hid => h id (List.mem_append_right _ hid)) hK)

theorem frzL_D {o : Nat → O} (l : List A) {K : List T → Ups → Prop} (hk : frzL (mask o) l K) : ∃ ts up, K ts up ∧ (∀ p ∈ up, p.1 ∈ l.flatMap A.ids) ∧ ∀ (o2 : Nat → O) (K2 : List T → Ups → Prop), (∀ id ∈ l.flatMap A.ids, o2 id = o id) → K2 ts up → frzL (mask o2) l K2 := by
  obtain ⟨ts, up, h1, h2, h3⟩ := frzL_D2 l hk
  have sub : ∀ i, i ∈ l.flatMap A.id2 → i ∈ l.flatMap A.ids := fun i hi => by
    obtain ⟨x, hx, hi⟩ := List.mem_flatMap.1 hi
    exact List.mem_flatMap.2 ⟨x, hx, A.id2_sub hi⟩
  exact ⟨ts, up, h1, fun p hp => sub _ (h2 p hp), fun o2 K2 h hK => h3 o2 K2 (fun i hi => h i (sub i hi)) hK⟩
theorem frz_Ds {x : A} {o : Nat → O} {K : T → Ups → Prop} (hk : frz (mask o) x K) : ∃ t up, K t up ∧ (∀ p ∈ up, p.1 ∈ x.ids) ∧ ∀ (o2 : Nat → O) (K2 : T → Ups → Prop), (∀ id ∈ x.ids, o2 id = o id) → K2 t up → frz (mask o2) x K2 := by
  obtain ⟨t, up, h1, h2, h3⟩ := frz_D hk
  exact ⟨t, up, h1, fun p hp => A.id2_sub (h2 p hp), fun o2 K2 h hK => h3 o2 K2 (fun i hi => h i (A.id2_sub hi)) hK⟩
theorem callL_D {dst : Option Nat} {f : FuncId} {L : List A} {ids : List Nat} (hL : ∀ i ∈ L.flatMap A.id2, i ∈ ids) {K : S → Prop} (hk : callK P Hy dst f L s K) :
    ∃ up y, (∀ p ∈ up, p.1 ∈ ids) ∧ K (upd s up dst y) ∧ ∀ (s2 : S) (K2 : S → Prop), (∀ i ∈ ids, s2.o i = s.o i) → K2 (upd s2 up dst y) → callK P Hy dst f L s2 K2 := by
  obtain ⟨ts, up, ⟨r, hct, hk⟩, hi, hf⟩ := frzL_D2 _ hk
  by_cases hfl : r.all T.flat = true
  · rw [if_pos hfl] at hk
    refine ⟨[], _, fun p hp => (by cases hp), hk, fun s2 K2 hA hK => ?_⟩
    exact hf _ _ (fun id hid => hA id (hL id hid)) ⟨r, hct, by rw [if_pos hfl]; exact hK⟩
  · rw [if_neg hfl] at hk
    refine ⟨up, _, fun p hp => hL _ (hi p hp), hk, fun s2 K2 hA hK => ?_⟩
    refine hf _ _ (fun id hid => hA id (hL id hid)) ⟨r, hct, ?_⟩
    rw [if_neg hfl]
    exact hK

theorem src_D {x : A} {o : Nat → O} {z : Nat} {K : List (List T) → Prop} (hk : srcK o z x K) : ∃ l, K l ∧ ∀ (o2 : Nat → O) (K2 : List (List T) → Prop), (∀ id ∈ x.ids, o2 id = o id) → K2 l → srcK o2 z x K2 := by
  unfold srcK at hk
  split at hk
  · exact ⟨_, hk.2, fun o2 K2 _ h2 => ⟨hk.1, h2⟩⟩
  · exact ⟨_, hk, fun o2 K2 _ h2 => h2⟩
  · rename_i id g
    obtain ⟨hg, hk⟩ := hk
    split at hk
    · rename_i ty z' l hkk
      refine ⟨_, hk.2, fun o2 K2 h h2 => ?_⟩
      have := h id (by simp [A.ids, A.id1])
      simp only [srcK, this, hkk]
      exact ⟨hg, hk.1, h2⟩
    · rename_i l hkk
      refine ⟨_, hk.2, fun o2 K2 h h2 => ?_⟩
      have := h id (by simp [A.ids, A.id1])
      simp only [srcK, this, hkk]
      exact ⟨hg, hk.1, h2⟩
    · exact hk.elim
  · exact hk.elim

theorem isA_D {x : A} {o o2 : Nat → O} (h : ∀ id ∈ x.ids, o2 id = o id) : isA o2 x = isA o x := by
  unfold isA
  cases x <;> first | rfl | skip
  rename_i id g
  simp only [h id (by simp [A.ids, A.id1])]
theorem srcA_D {x : A} {o : Nat → O} {z : Nat} {K : List (List A) → Prop} (hk : srcA o z x K) : ∃ l, K l ∧ ∀ (o2 : Nat → O) (K2 : List (List A) → Prop), (∀ id ∈ x.ids, o2 id = o id) → K2 l → srcA o2 z x K2 := by
  unfold srcA at hk
  split at hk
  · rename_i hA
    split at hk
    · rename_i id g
      obtain ⟨hg, hk⟩ := hk
      split at hk
      · rename_i ty z' l hkk
        refine ⟨_, hk.2, fun o2 K2 h h2 => ?_⟩
        unfold srcA
        rw [isA_D h, hA]
        simp only [h id (by simp [A.ids, A.id1]), hkk]
        exact ⟨hg, hk.1, h2⟩
      · exact hk.elim
    · exact hk.elim
  · rename_i hA
    obtain ⟨l, hk, hs⟩ := src_D hk
    refine ⟨_, hk, fun o2 K2 h h2 => ?_⟩
    unfold srcA
    rw [isA_D h, hA]
    exact hs _ _ h h2

theorem slB_D {b : Option Operand} {d : Int} {K : Int → Prop} (hk : slB (b.map s.ev) d K) : ∃ n, K n ∧ ∀ (s2 : S) (K2 : Int → Prop), (∀ x, b = some x → s2.ev x = s.ev x) → K2 n → slB (b.map s2.ev) d K2 := by
  cases b with
  | none => exact ⟨d, hk, fun s2 K2 _ h2 => h2⟩
  | some x =>
    simp only [slB, Option.map_some] at hk
    split at hk
    · rename_i e
      cases e
    · rename_i k n e
      refine ⟨n, hk, fun s2 K2 h h2 => ?_⟩
      simp only [slB, Option.map_some, h x rfl, Option.some.inj e]
      exact h2
    · exact hk.elim

theorem eff_D {dst : Option Nat} {op : Op} {K : S → Prop} (hk : Ek P Hy tt cls dst op s K) : ∃ up y, (∀ p ∈ up, p.1 ∈ wids cls dst s op.operands.toList) ∧ K (upd s up dst y) ∧
    ∀ (s2 : S) (K2 : S → Prop), Agr op.operands.toList s s2 → (∀ id ∈ wids cls dst s op.operands.toList, s2.o id = s.o id) → K2 (upd s2 up dst y) → Ek P Hy tt cls dst op s2 K2 := by
  have wm : ∀ {l : List Operand} {id : Nat}, id ∈ s.ids l → id ∈ wids cls dst s l := fun {l id} h => by
    unfold wids
    split
    · exact List.mem_cons_of_mem _ h
    · exact h
  have wc : ∀ {l : List Operand} {d : Nat}, dst = some d → cls d ∈ wids cls dst s l := fun {l d} h => by
    subst h
    exact List.mem_cons_self
  cases op
  case box ty x =>
    obtain ⟨d, hd, hl, hk⟩ := optK_get hk
    refine ⟨[(cls d, _)], _, fun p hp => ?_, hk, fun s2 K2 hA hW h2 => ?_⟩
    · obtain rfl := List.mem_singleton.1 hp
      exact wc hd
    · have e1 := hA.ev x (by simp [Op.operands])
      have e2 := hW _ (wc (l := (Op.box ty x).operands.toList) hd)
      simp only [Ek, hd, optK, e1, e2]
      exact ⟨hl, by rw [← hd]; exact h2⟩
  case alloc ty =>
    obtain ⟨d, hd, hk⟩ := optK_get hk
    obtain ⟨td, htd, hl, hk⟩ := optK_get hk
    refine ⟨[(cls d, _)], _, fun p hp => ?_, hk, fun s2 K2 hA hW h2 => ?_⟩
    · obtain rfl := List.mem_singleton.1 hp
      exact wc hd
    · have e2 := hW _ (wc (l := (Op.alloc ty).operands.toList) hd)
      simp only [Ek, hd, optK, htd, e2]
      exact ⟨hl, by rw [← hd]; exact h2⟩
  case store ty x v =>
    obtain ⟨td, htd, hk⟩ := optK_get hk
    have hx : x ∈ (Op.store ty x v).operands.toList := by simp [Op.operands]
    have hv : v ∈ (Op.store ty x v).operands.toList := by simp [Op.operands]
    split at hk
    · rename_i id g off e
      obtain ⟨hg, hk⟩ := hk
      have hmem : id ∈ s.ids (Op.store ty x v).operands.toList := List.mem_flatMap.2 ⟨x, hx, by rw [e]; simp [A.ids, A.id1]⟩
      split at hk
      · rename_i ty' l hkk
        obtain ⟨h1, hk⟩ := hk
        refine ⟨[(id, _)], _, fun p hp => ?_, hk, fun s2 K2 hA hW h2 => ?_⟩
        · obtain rfl := List.mem_singleton.1 hp
          exact wm hmem
        · simp only [Ek, htd, optK, hA.ev x hx, hA.ev v hv, e, hA.o id hmem, hkk]
          exact ⟨hg, h1, h2⟩
      · exact hk.elim
    · rename_i id g z i off e
      obtain ⟨hg, hk⟩ := hk
      have hmem : id ∈ s.ids (Op.store ty x v).operands.toList := List.mem_flatMap.2 ⟨x, hx, by rw [e]; simp [A.ids, A.id1]⟩
      split at hk
      · rename_i ty' z' l hkk
        obtain ⟨hz, hk⟩ := hk
        obtain ⟨t, ids, ⟨h0, h1, h3, hk⟩, hi, hf⟩ := frz_Ds hk
        obtain ⟨c, hc, h4, hk⟩ := optK_get hk
        refine ⟨[(id, _)], _, fun p hp => ?_, hk, fun s2 K2 hA hW h2 => ?_⟩
        · obtain rfl := List.mem_singleton.1 hp
          exact wm hmem
        · simp only [Ek, htd, optK, hA.ev x hx, hA.ev v hv, e, hA.o id hmem, hkk]
          refine ⟨hg, hz, hf _ _ (fun id hid => hA.at_ hv hid) ⟨h0, h1, h3, ?_⟩⟩
          rw [hc]
          exact ⟨h4, h2⟩
      · rename_i ty' z' l hkk
        obtain ⟨hz, h1, hk⟩ := hk
        obtain ⟨c, hc, h4, hk⟩ := optK_get hk
        refine ⟨[(id, _)], _, fun p hp => ?_, hk, fun s2 K2 hA hW h2 => ?_⟩
        · obtain rfl := List.mem_singleton.1 hp
          exact wm hmem
        · simp only [Ek, htd, optK, hA.ev x hx, hA.ev v hv, e, hA.o id hmem, hkk]
          refine ⟨hg, hz, h1, ?_⟩
          rw [hc]
          exact ⟨h4, h2⟩
      · exact hk.elim
    · exact hk.elim
  case makeSlice ty n c =>
    obtain ⟨d, hd, hk⟩ := optK_get hk
    obtain ⟨td, htd, hk⟩ := optK_get hk
    have hn : n ∈ (Op.makeSlice ty n c).operands.toList := by simp [Op.operands]
    have hcc : c ∈ (Op.makeSlice ty n c).operands.toList := by simp [Op.operands]
    split at hk
    · rename_i e he
      obtain ⟨de, hde, hk⟩ := optK_get hk
      split at hk
      · rename_i k x k' m zv e1 e2 e3
        obtain ⟨h1, h2, h3, h4, h5, hk⟩ := hk
        split at hk
        · rename_i t ht
          refine ⟨[(cls d, _)], _, fun p hp => ?_, hk, fun s2 K2 hA hW hK => ?_⟩
          · obtain rfl := List.mem_singleton.1 hp
            exact wc hd
          · have e4 := hW _ (wc (l := (Op.makeSlice ty n c).operands.toList) hd)
            simp only [Ek, hd, optK, htd, he, hde, hA.ev n hn, hA.ev c hcc, e1, e2, e3, ht, e4]
            exact ⟨h1, h2, h3, h4, h5, by rw [← hd]; exact hK⟩
        · rename_i ht
          refine ⟨[(cls d, _)], _, fun p hp => ?_, hk, fun s2 K2 hA hW hK => ?_⟩
          · obtain rfl := List.mem_singleton.1 hp
            exact wc hd
          · have e4 := hW _ (wc (l := (Op.makeSlice ty n c).operands.toList) hd)
            simp only [Ek, hd, optK, htd, he, hde, hA.ev n hn, hA.ev c hcc, e1, e2, e3, ht, e4]
            exact ⟨h1, h2, h3, h4, h5, by rw [← hd]; exact hK⟩
        · exact hk.elim
      · exact hk.elim
    · exact hk.elim
  case buildSlice ty n parts =>
    obtain ⟨d, hd, hk⟩ := optK_get hk
    obtain ⟨td, htd, hk⟩ := optK_get hk
    have hop : (Op.buildSlice ty n parts).operands.toList = parts.toList.map (·.2) := by simp [Op.operands]
    split at hk
    · rename_i e he
      obtain ⟨de, hde, hk⟩ := optK_get hk
      by_cases hn0 : n = 0
      · rw [if_pos hn0] at hk
        obtain ⟨hp, hk⟩ := hk
        refine ⟨[(cls d, _)], _, fun p hp => ?_, hk, fun s2 K2 hA hW hK => ?_⟩
        · obtain rfl := List.mem_singleton.1 hp
          exact wc hd
        · have e2 := hW _ (wc (l := (Op.buildSlice ty n parts).operands.toList) hd)
          simp only [Ek, hd, optK, htd, he, hde]
          rw [if_pos hn0, e2, ← hd]
          exact ⟨hp, hK⟩
      rw [if_neg hn0] at hk
      obtain ⟨hc, hk⟩ := hk
      have e3 : ∀ s2, Agr (Op.buildSlice ty n parts).operands.toList s s2 → (parts.toList.map fun p => s2.ev p.2) = parts.toList.map fun p => s.ev p.2 := fun s2 hA => List.map_congr_left (fun p hp => hA.ev p.2 (by rw [hop]; exact List.mem_map.2 ⟨p, hp, rfl⟩))
      have e4 : ∀ s2, Agr (Op.buildSlice ty n parts).operands.toList s s2 → (parts.toList.map fun p => cellsA (s2.ev p.2)) = parts.toList.map fun p => cellsA (s.ev p.2) := fun s2 hA => List.map_congr_left (fun p hp => by rw [hA.ev p.2 (by rw [hop]; exact List.mem_map.2 ⟨p, hp, rfl⟩)])
      split at hk
      · rename_i hpl
        obtain ⟨ts, ids, ⟨h1, h2, hk⟩, hi, hf⟩ := frzL_D _ hk
        have hfl : (parts.toList.map fun p => s.ev p.2).flatMap A.ids = s.ids (Op.buildSlice ty n parts).operands.toList := by
          rw [hop]
          unfold S.ids
          rw [List.flatMap_map, List.flatMap_map]
        rw [hfl] at hi hf
        refine ⟨ids ++ [(cls d, ⟨(s.o (cls d)).gen + 1, .row e de.size (ts.map cellsT)⟩)], .row (cls d) ((s.o (cls d)).gen + 1), fun p hp => ?_, ?_, fun s2 K2 hA hW hK => ?_⟩
        · rcases List.mem_append.1 hp with hp | hp
          · exact wm (hi p hp)
          · obtain rfl := List.mem_singleton.1 hp
            exact wc hd
        · unfold upd
          rw [List.foldl_append, List.foldl_cons, List.foldl_nil]
          rw [frz_no ids (cls d) s h2] at hk
          exact hk
        · have e2 := hW _ (wc (l := (Op.buildSlice ty n parts).operands.toList) hd)
          simp only [Ek, hd, optK, htd, he, hde, e3 s2 hA, hpl]
          rw [if_neg hn0]
          refine ⟨hc, hf _ _ (fun id hid => hA.o id hid) ⟨h1, h2, ?_⟩⟩
          unfold upd at hK
          rw [List.foldl_append, List.foldl_cons, List.foldl_nil, ← e2] at hK
          rw [frz_no ids (cls d) s2 h2, ← hd]
          exact hK
      · rename_i hpl
        obtain ⟨h1, hk⟩ := hk
        refine ⟨[(cls d, _)], _, fun p hp => ?_, hk, fun s2 K2 hA hW hK => ?_⟩
        · obtain rfl := List.mem_singleton.1 hp
          exact wc hd
        · have e2 := hW _ (wc (l := (Op.buildSlice ty n parts).operands.toList) hd)
          simp only [Ek, hd, optK, htd, he, hde, e3 s2 hA, e4 s2 hA, hpl]
          rw [if_neg hn0]
          refine ⟨hc, h1, ?_⟩
          rw [e2, ← hd]
          exact hK
    · exact hk.elim
  case build ty parts =>
    obtain ⟨d, hd, hk⟩ := optK_get hk
    obtain ⟨td, htd, hk⟩ := optK_get hk
    have hop : (Op.build ty parts).operands.toList = parts.toList.map (·.2) := by simp [Op.operands]
    have hev : ∀ s2, Agr (Op.build ty parts).operands.toList s s2 → (parts.toList.map fun p => (p.1, s2.ev p.2)) = parts.toList.map fun p => (p.1, s.ev p.2) := fun s2 hA => List.map_congr_left (fun p hp => by rw [hA.ev p.2 (by rw [hop]; exact List.mem_map.2 ⟨p, hp, rfl⟩)])
    split at hk
    · rename_i fs e
      obtain ⟨pl, hpl, hk⟩ := optK_get hk
      obtain ⟨l, hl, hz, hk⟩ := optK_get hk
      refine ⟨[], _, fun p hp => (by cases hp), hk, fun s2 K2 hA hW hK => ?_⟩
      simp only [Ek, hd, optK, htd, e, hpl, hev s2 hA, hl]
      exact ⟨hz, by rw [← hd]; exact hK⟩
    · rename_i m e he
      obtain ⟨de, hde, hk⟩ := optK_get hk
      obtain ⟨l, hl, hz, hk⟩ := optK_get hk
      refine ⟨[], _, fun p hp => (by cases hp), hk, fun s2 K2 hA hW hK => ?_⟩
      simp only [Ek, hd, optK, htd, he, hde, hev s2 hA, hl]
      exact ⟨hz, by rw [← hd]; exact hK⟩
    · exact hk.elim
  case slice ty x lo hi mx =>
    have hin : ∀ y, y = x ∨ lo = some y ∨ hi = some y → y ∈ (Op.slice ty x lo hi mx).operands.toList := fun y hy => by
      rcases hy with rfl | rfl | rfl <;> simp [Op.operands]
    obtain ⟨hmx, hk⟩ := hk
    obtain ⟨d, hd, hk⟩ := optK_get hk
    obtain ⟨td, htd, hk⟩ := optK_get hk
    have lo2 : ∀ s2, Agr (Op.slice ty x lo hi mx).operands.toList s s2 → ∀ y, lo = some y → s2.ev y = s.ev y := fun s2 hA y hy => hA.ev y (hin y (.inr (.inl hy)))
    have hi2 : ∀ s2, Agr (Op.slice ty x lo hi mx).operands.toList s s2 → ∀ y, hi = some y → s2.ev y = s.ev y := fun s2 hA y hy => hA.ev y (hin y (.inr (.inr hy)))
    have x2 : ∀ s2, Agr (Op.slice ty x lo hi mx).operands.toList s s2 → s2.ev x = s.ev x := fun s2 hA => hA.ev x (hin x (.inl rfl))
    split at hk
    · rename_i b e1 e2
      obtain ⟨l, hk, hl⟩ := slB_D hk
      obtain ⟨r, ⟨hc, hk⟩, hr⟩ := slB_D hk
      refine ⟨[], _, fun p hp => (by cases hp), hk, fun s2 K2 hA hW hK => ?_⟩
      simp only [Ek, hmx, hd, optK, htd, e1, x2 s2 hA, e2]
      exact ⟨trivial, hl _ _ (lo2 s2 hA) (hr _ _ (hi2 s2 hA) ⟨hc, by rw [← hd]; exact hK⟩)⟩
    · rename_i e xs e1 e2
      obtain ⟨de, hde, hk⟩ := optK_get hk
      obtain ⟨l, hk, hl⟩ := slB_D hk
      obtain ⟨r, ⟨hc, hz, hk⟩, hr⟩ := slB_D hk
      refine ⟨[], _, fun p hp => (by cases hp), hk, fun s2 K2 hA hW hK => ?_⟩
      simp only [Ek, hmx, hd, optK, htd, e1, x2 s2 hA, e2, hde]
      exact ⟨trivial, hl _ _ (lo2 s2 hA) (hr _ _ (hi2 s2 hA) ⟨hc, hz, by rw [← hd]; exact hK⟩)⟩
    · rename_i e e1 e2
      obtain ⟨de, hde, hk⟩ := optK_get hk
      obtain ⟨l, hk, hl⟩ := slB_D hk
      obtain ⟨r, ⟨hc, hk⟩, hr⟩ := slB_D hk
      refine ⟨[], _, fun p hp => (by cases hp), hk, fun s2 K2 hA hW hK => ?_⟩
      simp only [Ek, hmx, hd, optK, htd, e1, x2 s2 hA, e2, hde]
      exact ⟨trivial, hl _ _ (lo2 s2 hA) (hr _ _ (hi2 s2 hA) ⟨hc, by rw [← hd]; exact hK⟩)⟩
    · rename_i e id g e1 e2
      obtain ⟨hg, hlo, hk⟩ := hk
      have hmem : id ∈ s.ids (Op.slice ty x lo hi mx).operands.toList := List.mem_flatMap.2 ⟨x, hin x (.inl rfl), by rw [e2]; simp [A.ids, A.id1]⟩
      cases hkk : (s.o id).k with
      | none => rw [hkk] at hk; exact hk.elim
      | cells ty l => rw [hkk] at hk; exact hk.elim
      | ro l => rw [hkk] at hk; exact hk.elim
      | rowA ty z l => rw [hkk] at hk; exact hk.elim
      | map ks l => rw [hkk] at hk; exact hk.elim
      | row e' z l =>
        rw [hkk] at hk
        obtain ⟨he, hz, hk⟩ := hk
        obtain ⟨r, ⟨hc, hk⟩, hr⟩ := slB_D hk
        refine ⟨[(id, _)], _, fun p hp => ?_, hk, fun s2 K2 hA hW hK => ?_⟩
        · obtain rfl := List.mem_singleton.1 hp
          exact wm hmem
        · simp only [Ek, hmx, hd, optK, htd, e1, x2 s2 hA, e2, hA.o id hmem, hkk]
          exact ⟨trivial, hg, hlo, he, hz, hr _ _ (hi2 s2 hA) ⟨hc, by rw [← hd]; exact hK⟩⟩
    · exact hk.elim
  case makeMap mt r =>
    cases r with
    | some r => exact hk.elim
    | none =>
      obtain ⟨d, hd, hk⟩ := optK_get hk
      obtain ⟨td, htd, hk⟩ := optK_get hk
      split at hk
      · rename_i kt et e1
        obtain ⟨M, hk⟩ := hk
        refine ⟨[(cls d, _)], _, fun p hp => ?_, hk, fun s2 K2 hA hW hK => ?_⟩
        · obtain rfl := List.mem_singleton.1 hp
          exact wc hd
        · have e4 := hW _ (wc (l := (Op.makeMap mt none).operands.toList) hd)
          simp only [Ek, mapK, hd, optK, htd, e1, e4]
          exact ⟨M, by rw [← hd]; exact hK⟩
      · exact hk.elim
  case mapUpdate mt m x v =>
    obtain ⟨td, htd, hk⟩ := optK_get hk
    have hm : m ∈ (Op.mapUpdate mt m x v).operands.toList := by simp [Op.operands]
    have hx : x ∈ (Op.mapUpdate mt m x v).operands.toList := by simp [Op.operands]
    have hv : v ∈ (Op.mapUpdate mt m x v).operands.toList := by simp [Op.operands]
    split at hk
    · rename_i kt et id g e1 e2
      obtain ⟨M, hg, hk⟩ := hk
      have hmem : id ∈ s.ids (Op.mapUpdate mt m x v).operands.toList := List.mem_flatMap.2 ⟨m, hm, by rw [e2]; simp [A.ids, A.id1]⟩
      split at hk
      · rename_i ks l hkk
        obtain ⟨hks, hk⟩ := hk
        obtain ⟨ky, hky, h1, hk⟩ := optK_get hk
        refine ⟨[(id, _)], _, fun p hp => ?_, hk, fun s2 K2 hA hW hK => ?_⟩
        · obtain rfl := List.mem_singleton.1 hp
          exact wm hmem
        · simp only [Ek, mapK, htd, optK, e1, hA.ev m hm, hA.ev x hx, hA.ev v hv, e2, hA.o id hmem, hkk]
          refine ⟨M, hg, hks, ?_⟩
          rw [hky]
          exact ⟨h1, hK⟩
      · exact hk.elim
    · exact hk.elim
  case lookup mt m x c =>
    obtain ⟨td, htd, hk⟩ := optK_get hk
    have hm : m ∈ (Op.lookup mt m x c).operands.toList := by simp [Op.operands]
    have hx : x ∈ (Op.lookup mt m x c).operands.toList := by simp [Op.operands]
    split at hk
    · rename_i kt et id g e1 e2
      obtain ⟨M, hg, hk⟩ := hk
      have hmem : id ∈ s.ids (Op.lookup mt m x c).operands.toList := List.mem_flatMap.2 ⟨m, hm, by rw [e2]; simp [A.ids, A.id1]⟩
      split at hk
      · rename_i ks l hkk
        obtain ⟨hks, hk⟩ := hk
        obtain ⟨ky, hky, h1, hk⟩ := optK_get hk
        cases hget : getM l ky with
        | some y =>
          rw [hget] at hk
          refine ⟨[], _, fun p hp => (by cases hp), hk, fun s2 K2 hA hW hK => ?_⟩
          simp only [Ek, mapK, htd, optK, e1, hA.ev m hm, hA.ev x hx, e2, hA.o id hmem, hkk]
          refine ⟨M, hg, hks, ?_⟩
          rw [hky]
          refine ⟨h1, ?_⟩
          rw [hget]
          exact hK
        | none =>
          rw [hget] at hk
          refine ⟨[], _, fun p hp => (by cases hp), hk, fun s2 K2 hA hW hK => ?_⟩
          simp only [Ek, mapK, htd, optK, e1, hA.ev m hm, hA.ev x hx, e2, hA.o id hmem, hkk]
          refine ⟨M, hg, hks, ?_⟩
          rw [hky]
          refine ⟨h1, ?_⟩
          rw [hget]
          exact hK
      · exact hk.elim
    · exact hk.elim
  case call c =>
    obtain ⟨callee, args, tys⟩ := c
    cases callee with
    | invoke r m => exact hk.elim
    | value f =>
      cases f <;> first | exact hk.elim | skip
      · rename_i t
        simp only [Ek] at hk
        split at hk
        · rename_i f l m e
          have hin : ∀ x ∈ args.toList, x ∈ (Op.call ⟨.value (.tmp t), args, tys⟩).operands.toList := fun x hx => by simp [Op.operands, Call.operands]; right; simpa using hx
          have htin : .tmp t ∈ (Op.call ⟨.value (.tmp t), args, tys⟩).operands.toList := by simp [Op.operands, Call.operands]
          have hmem : ∀ i ∈ (l ++ args.toList.map s.ev ++ m).flatMap A.id2, i ∈ s.ids (Op.call ⟨.value (.tmp t), args, tys⟩).operands.toList := fun i hi => by
            obtain ⟨x, hx, hi⟩ := List.mem_flatMap.1 hi
            have key : ∀ x, x ∈ l ++ m → i ∈ x.id2 → i ∈ s.ids (Op.call ⟨.value (.tmp t), args, tys⟩).operands.toList := fun x hx hi => List.mem_flatMap.2 ⟨_, htin, by rw [e]; exact List.mem_flatMap.2 ⟨x, hx, hi⟩⟩
            rcases List.mem_append.1 hx with hx | hx
            · rcases List.mem_append.1 hx with hx | hx
              · exact key x (List.mem_append_left _ hx) hi
              · obtain ⟨y, hy, rfl⟩ := List.mem_map.1 hx
                exact List.mem_flatMap.2 ⟨y, hin y hy, A.id2_sub hi⟩
            · exact key x (List.mem_append_right _ hx) hi
          obtain ⟨up, y, h1, h2, h3⟩ := callL_D hmem hk
          refine ⟨up, y, fun p hp => wm (h1 p hp), h2, fun s2 K2 hA hW hK => ?_⟩
          have hev : args.toList.map s2.ev = args.toList.map s.ev := List.map_congr_left (fun x hx => hA.ev x (hin x hx))
          simp only [Ek, hA.ev _ htin, e, hev]
          exact h3 s2 K2 (fun i hi => hA.o i hi) hK
        · exact hk.elim
      rename_i f
      have hin : ∀ x ∈ args.toList, x ∈ (Op.call ⟨.value (.func f), args, tys⟩).operands.toList := fun x hx => by simp [Op.operands, Call.operands]; right; simpa using hx
      have hmem : ∀ i ∈ (args.toList.map s.ev).flatMap A.id2, i ∈ s.ids (Op.call ⟨.value (.func f), args, tys⟩).operands.toList := fun i hi => by
        obtain ⟨x, hx, hi⟩ := List.mem_flatMap.1 hi
        obtain ⟨y, hy, rfl⟩ := List.mem_map.1 hx
        exact List.mem_flatMap.2 ⟨y, hin y hy, A.id2_sub hi⟩
      obtain ⟨up, y, h1, h2, h3⟩ := callL_D hmem hk
      refine ⟨up, y, fun p hp => wm (h1 p hp), h2, fun s2 K2 hA hW hK => ?_⟩
      have hev : args.toList.map s2.ev = args.toList.map s.ev := List.map_congr_left (fun x hx => hA.ev x (hin x hx))
      simp only [Ek, hev]
      exact h3 s2 K2 (fun i hi => hA.o i hi) hK
    | builtin b =>
      cases b <;> first | exact hk.elim | skip
      case delete =>
        simp only [Ek, delK] at hk
        split at hk
        · rename_i m x mt t2 ea eb
          obtain ⟨td, htd, hk⟩ := optK_get hk
          have e1 : args = #[m, x] := by rw [← Array.toArray_toList (xs := args), ea]
          have e2 : tys = #[mt, t2] := by rw [← Array.toArray_toList (xs := tys), eb]
          subst e1 e2
          have hm : m ∈ (Op.call ⟨.builtin .delete, #[m, x], #[mt, t2]⟩).operands.toList := by simp [Op.operands, Call.operands]
          have hx : x ∈ (Op.call ⟨.builtin .delete, #[m, x], #[mt, t2]⟩).operands.toList := by simp [Op.operands, Call.operands]
          split at hk
          · rename_i kt et id g e1 e2
            obtain ⟨M, hg, hk⟩ := hk
            have hmem : id ∈ s.ids (Op.call ⟨.builtin .delete, #[m, x], #[mt, t2]⟩).operands.toList := List.mem_flatMap.2 ⟨m, hm, by rw [e2]; simp [A.ids, A.id1]⟩
            split at hk
            · rename_i ks l hkk
              obtain ⟨hks, hk⟩ := hk
              obtain ⟨ky, hky, h1, hk⟩ := optK_get hk
              refine ⟨[(id, _)], _, fun p hp => ?_, hk, fun s2 K2 hA hW hK => ?_⟩
              · obtain rfl := List.mem_singleton.1 hp
                exact wm hmem
              · simp only [Ek, delK, htd, optK, e1, hA.ev m hm, hA.ev x hx, e2, hA.o id hmem, hkk]
                refine ⟨M, hg, hks, ?_⟩
                rw [hky]
                exact ⟨h1, hK⟩
            · exact hk.elim
          · exact hk.elim
        · exact hk.elim
      have hop : (Op.call ⟨.builtin .append, args, tys⟩).operands.toList = args.toList := by simp [Op.operands, Call.operands]
      rw [hop]
      have hk : apK tt cls dst (args.toList.map s.ev) tys.toList s K := hk
      suffices h : ∃ up y, (∀ p ∈ up, p.1 ∈ wids cls dst s args.toList) ∧ K (upd s up dst y) ∧ ∀ (s2 : S) (K2 : S → Prop), Agr args.toList s s2 → (∀ id ∈ wids cls dst s args.toList, s2.o id = s.o id) → K2 (upd s2 up dst y) → apK tt cls dst (args.toList.map s2.ev) tys.toList s2 K2 from h
      generalize args.toList = args at hk
      generalize tys.toList = tys at hk
      have hev : ∀ s2, Agr args s s2 → args.map s2.ev = args.map s.ev := fun s2 hA => List.map_congr_left (fun x hx => hA.ev x hx)
      unfold apK at hk
      split at hk
      · rename_i x y t t' hargs
        obtain ⟨x0, y0, rfl, rfl, rfl⟩ : ∃ x0 y0, args = [x0, y0] ∧ s.ev x0 = x ∧ s.ev y0 = y := by
          match args, hargs with
          | [x0, y0], e => exact ⟨x0, y0, rfl, by simpa using e⟩
        obtain ⟨d, hd, hk⟩ := optK_get hk
        obtain ⟨td, htd, hk⟩ := optK_get hk
        by_cases htt : t = t' ∨ isSl tt t' = true
        · simp only [if_pos htt] at hk
          split at hk
          · rename_i e he
            obtain ⟨de, hde, hz, hk⟩ := optK_get hk
            have hB : ∀ s2, Agr [x0, y0] s s2 → (isA s2.o (s.ev x0) || isA s2.o (s.ev y0)) = (isA s.o (s.ev x0) || isA s.o (s.ev y0)) := fun s2 hA => by
              rw [isA_D (fun id hid => hA.at_ (x := x0) (by simp) hid), isA_D (fun id hid => hA.at_ (x := y0) (by simp) hid)]
            split at hk
            · rename_i hAA
              obtain ⟨m, hk, hsrc⟩ := srcA_D hk
              split at hk
              · rename_i e1
                obtain ⟨hb, hk⟩ := hk
                refine ⟨[(cls d, _)], _, fun p hp => ?_, hk, fun s2 K2 hA hW hK => ?_⟩
                · obtain rfl := List.mem_singleton.1 hp
                  exact wc hd
                · have e4 := hW _ (wc (l := [x0, y0]) hd)
                  rw [hev s2 hA]
                  simp only [List.map_cons, List.map_nil, apK, hd, optK, htd, he, hde, if_pos htt]
                  rw [hB s2 hA, hAA]
                  simp only [e1]
                  refine ⟨hz, hsrc _ _ (fun id hid => hA.at_ (x := y0) (by simp) hid) ⟨hb, ?_⟩⟩
                  rw [e4, ← hd]
                  exact hK
              · rename_i id g e1
                obtain ⟨hg, hk⟩ := hk
                have hmem : id ∈ s.ids [x0, y0] := List.mem_flatMap.2 ⟨x0, by simp, by rw [e1]; simp [A.ids, A.id1]⟩
                split at hk
                · rename_i e' z l hkk
                  obtain ⟨h1, h2, hb, hk⟩ := hk
                  refine ⟨[(id, _)], _, fun p hp => ?_, hk, fun s2 K2 hA hW hK => ?_⟩
                  · obtain rfl := List.mem_singleton.1 hp
                    exact wm hmem
                  · rw [hev s2 hA]
                    simp only [List.map_cons, List.map_nil, apK, hd, optK, htd, he, hde, if_pos htt]
                    rw [hB s2 hA, hAA]
                    simp only [e1]
                    refine ⟨hz, hsrc _ _ (fun id hid => hA.at_ (x := y0) (by simp) hid) ⟨by rw [hA.o id hmem]; exact hg, ?_⟩⟩
                    rw [hA.o id hmem, hkk]
                    exact ⟨h1, h2, hb, by rw [← hd]; exact hK⟩
                · rename_i e' z l hkk
                  obtain ⟨h1, h2, hb, hk⟩ := hk
                  refine ⟨[(id, _)], _, fun p hp => ?_, hk, fun s2 K2 hA hW hK => ?_⟩
                  · obtain rfl := List.mem_singleton.1 hp
                    exact wm hmem
                  · rw [hev s2 hA]
                    simp only [List.map_cons, List.map_nil, apK, hd, optK, htd, he, hde, if_pos htt]
                    rw [hB s2 hA, hAA]
                    simp only [e1]
                    refine ⟨hz, hsrc _ _ (fun id hid => hA.at_ (x := y0) (by simp) hid) ⟨by rw [hA.o id hmem]; exact hg, ?_⟩⟩
                    rw [hA.o id hmem, hkk]
                    exact ⟨h1, h2, hb, by rw [← hd]; exact hK⟩
                · exact hk.elim
              · exact hk.elim
            · rename_i hAA
              obtain ⟨m, hk, hsrc⟩ := src_D hk
              split at hk
              · rename_i e1
                obtain ⟨hb, hk⟩ := hk
                refine ⟨[(cls d, _)], _, fun p hp => ?_, hk, fun s2 K2 hA hW hK => ?_⟩
                · obtain rfl := List.mem_singleton.1 hp
                  exact wc hd
                · have e4 := hW _ (wc (l := [x0, y0]) hd)
                  rw [hev s2 hA]
                  simp only [List.map_cons, List.map_nil, apK, hd, optK, htd, he, hde, if_pos htt]
                  rw [hB s2 hA, hAA]
                  simp only [e1]
                  refine ⟨hz, hsrc _ _ (fun id hid => hA.at_ (x := y0) (by simp) hid) ⟨hb, ?_⟩⟩
                  rw [e4, ← hd]
                  exact hK
              · rename_i id g e1
                obtain ⟨hg, hk⟩ := hk
                have hmem : id ∈ s.ids [x0, y0] := List.mem_flatMap.2 ⟨x0, by simp, by rw [e1]; simp [A.ids, A.id1]⟩
                split at hk
                · rename_i e' z l hkk
                  obtain ⟨h1, h2, hb, hk⟩ := hk
                  refine ⟨[(id, _)], _, fun p hp => ?_, hk, fun s2 K2 hA hW hK => ?_⟩
                  · obtain rfl := List.mem_singleton.1 hp
                    exact wm hmem
                  · rw [hev s2 hA]
                    simp only [List.map_cons, List.map_nil, apK, hd, optK, htd, he, hde, if_pos htt]
                    rw [hB s2 hA, hAA]
                    simp only [e1]
                    refine ⟨hz, hsrc _ _ (fun id hid => hA.at_ (x := y0) (by simp) hid) ⟨by rw [hA.o id hmem]; exact hg, ?_⟩⟩
                    rw [hA.o id hmem, hkk]
                    exact ⟨h1, h2, hb, by rw [← hd]; exact hK⟩
                · exact hk.elim
              · exact hk.elim
          · exact hk.elim
        · simp only [if_neg htt] at hk
          split at hk
          · rename_i e he
            obtain ⟨de, hde, hk⟩ := optK_get hk
            obtain ⟨dt, hdt, hz, hk⟩ := optK_get hk
            split at hk
            · rename_i k n zv e1 e2 e3
              obtain ⟨hb, hk⟩ := hk
              split at hk
              · rename_i u hu
                refine ⟨[(cls d, _)], _, fun p hp => ?_, hk, fun s2 K2 hA hW hK => ?_⟩
                · obtain rfl := List.mem_singleton.1 hp
                  exact wc hd
                · have e4 := hW _ (wc (l := [x0, y0]) hd)
                  rw [hev s2 hA]
                  simp only [List.map_cons, List.map_nil, apK, hd, optK, htd, he, if_neg htt, hde, hdt, e1, e2, e3, hu]
                  refine ⟨hz, hb, ?_⟩
                  rw [e4, ← hd]
                  exact hK
              · rename_i hu
                refine ⟨[(cls d, _)], _, fun p hp => ?_, hk, fun s2 K2 hA hW hK => ?_⟩
                · obtain rfl := List.mem_singleton.1 hp
                  exact wc hd
                · have e4 := hW _ (wc (l := [x0, y0]) hd)
                  rw [hev s2 hA]
                  simp only [List.map_cons, List.map_nil, apK, hd, optK, htd, he, if_neg htt, hde, hdt, e1, e2, e3, hu]
                  refine ⟨hz, hb, ?_⟩
                  rw [e4, ← hd]
                  exact hK
              · exact hk.elim
            · exact hk.elim
          · exact hk.elim
      · exact hk.elim
  all_goals exact hk.elim
end
end Go.Proofs.YtfflfmpkjcomgaaDoor
