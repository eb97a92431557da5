import PyProof.Rows.All
import HandS.ForMost
import HandS.Lambda
import HandS.IsInst
import HandS.Strs
import HandS.DictComp
import HandS.Iter
import HandS.SortInts
import HandS.Conv
import HandS.Flow
import KE.KFromBytes
import HandS.SortKw
import HandS.ExcValue
import KE.SortKeyHeap
import HandS.SetFor
import HandS.NoneIn
import PySem.Challenge.RW_bunkmates_k03_offers_in_any_order
import KE.KNestM
import HandS.EndTab
import OpenK.AllK
/-! Tables of offers: the mathematics of points 4 and 5. Core Lean only. -/
set_option linter.all false
namespace Bk

/-- the place of x on the list of p -/
abbrev rk (R : Nat → List Nat) (p x : Nat) : Nat := (R p).idxOf x

structure Lists (R : Nat → List Nat) : Prop where
  nd : ∀ i, (R i).Nodup
  mu : ∀ i j, j ∈ R i → i ∈ R j
  ir : ∀ i, i ∉ R i

structure Tab (R T : Nat → List Nat) : Prop where
  sub : ∀ i, (T i).Sublist (R i)
  mu : ∀ i j, j ∈ T i → i ∈ T j

/-- who went from one another's rows: the one holds somebody better, or the other one does -/
def Stop (R T : Nat → List Nat) : Prop := ∀ p b, b ∈ R p → b ∉ T p →
  (∃ q, (T b).getLast? = some q ∧ rk R b q < rk R b p) ∨ (∃ q, (T p).getLast? = some q ∧ rk R p q < rk R p b)
def Held (T : Nat → List Nat) : Prop := ∀ p b, (T p).head? = some b → (T b).getLast? = some p
structure Done (R T : Nat → List Nat) : Prop where
  tab : Tab R T
  stop : Stop R T
  held : Held T

/-! ### places -/
theorem idxOf_lt_of_mem {l : List Nat} {x : Nat} (h : x ∈ l) : l.idxOf x < l.length := List.idxOf_lt_length_iff.mpr h
theorem idxOf_inj {l : List Nat} {x y : Nat} (hx : x ∈ l) (e : l.idxOf x = l.idxOf y) : x = y := by
  have h1 := idxOf_lt_of_mem hx
  have h2 : l.idxOf y < l.length := by omega
  have a := List.getElem_idxOf h1
  have b := List.getElem_idxOf h2
  simp only [e] at a
  exact a.symm.trans b
theorem idx_ne {a x : Nat} (l : List Nat) (h : a ≠ x) : (a :: l).idxOf x = l.idxOf x + 1 := by
  rw [List.idxOf_cons, beq_eq_false_iff_ne.mpr h]; rfl
/-- a part of a list without repetition keeps the order -/
theorem sub_place : ∀ {s r : List Nat}, s.Sublist r → r.Nodup → ∀ {x y : Nat}, x ∈ s → y ∈ s → (s.idxOf x < s.idxOf y ↔ r.idxOf x < r.idxOf y)
  | _, _, .slnil, _, x, y, hx, _ => by simp at hx
  | s, _, .cons a h, hd, x, y, hx, hy => by
    have hd' := List.nodup_cons.mp hd
    have ha : a ≠ x := fun e => hd'.1 (e ▸ h.subset hx)
    have hb : a ≠ y := fun e => hd'.1 (e ▸ h.subset hy)
    rw [idx_ne _ ha, idx_ne _ hb, sub_place h hd'.2 hx hy]
    omega
  | _, _, .cons₂ a h, hd, x, y, hx, hy => by
    have hd' := List.nodup_cons.mp hd
    by_cases ha : a = x
    · subst ha
      by_cases hb : a = y
      · subst hb; simp
      · rw [List.idxOf_cons_self, List.idxOf_cons_self, idx_ne _ hb, idx_ne _ hb]
        omega
    · by_cases hb : a = y
      · subst hb
        rw [List.idxOf_cons_self, List.idxOf_cons_self]
        omega
      · have hx' : x ∈ _ := (List.mem_cons.mp hx).resolve_left (fun e => ha e.symm)
        have hy' : y ∈ _ := (List.mem_cons.mp hy).resolve_left (fun e => hb e.symm)
        rw [idx_ne _ ha, idx_ne _ hb, idx_ne _ ha, idx_ne _ hb]
        have := sub_place h hd'.2 hx' hy'
        omega
theorem head_mem {l : List Nat} {b : Nat} (h : l.head? = some b) : b ∈ l := by
  cases l with
  | nil => simp at h
  | cons a r => simp at h; simp [h]
theorem last_mem {l : List Nat} {b : Nat} (h : l.getLast? = some b) : b ∈ l := List.mem_of_getLast? h
theorem head_place {l : List Nat} {b : Nat} (h : l.head? = some b) : l.idxOf b = 0 := by
  cases l with
  | nil => simp at h
  | cons a r => simp at h; simp [h]
theorem last_place {l : List Nat} {b : Nat} (hd : l.Nodup) (h : l.getLast? = some b) {x : Nat} (hx : x ∈ l) : l.idxOf x ≤ l.idxOf b := by
  have e : l[l.length - 1]? = some b := by rw [← List.getLast?_eq_getElem?]; exact h
  obtain ⟨hl, e⟩ := List.getElem?_eq_some_iff.mp e
  have : l.idxOf b = l.length - 1 := by rw [← e]; exact hd.idxOf_getElem _ hl
  have := idxOf_lt_of_mem hx
  omega
theorem sub_head {s r : List Nat} (h : s.Sublist r) (hd : r.Nodup) {b x : Nat} (hb : s.head? = some b) (hx : x ∈ s) : r.idxOf b ≤ r.idxOf x := by
  by_cases e : x = b
  · subst e; omega
  · have h1 := head_place hb
    have h2 : s.idxOf x ≠ 0 := fun z => e (idxOf_inj hx (z.trans h1.symm))
    have := (sub_place h hd (head_mem hb) hx).mp (by omega)
    omega
theorem sub_last {s r : List Nat} (h : s.Sublist r) (hd : r.Nodup) {b x : Nat} (hb : s.getLast? = some b) (hx : x ∈ s) : r.idxOf x ≤ r.idxOf b := by
  by_cases e : r.idxOf x ≤ r.idxOf b
  · exact e
  · have h1 := last_place (hd.sublist h) hb hx
    have := (sub_place h hd (last_mem hb) hx).mpr (by omega)
    omega
theorem sub_eq : ∀ {s t r : List Nat}, s.Sublist r → t.Sublist r → r.Nodup → (∀ x, x ∈ s ↔ x ∈ t) → s = t
  | _, _, _, .slnil, h2, _, _ => (List.sublist_nil.mp h2).symm
  | s, t, _, .cons a h1, .cons _ h2, hd, e => sub_eq h1 h2 (List.nodup_cons.mp hd).2 e
  | s, _, _, .cons a h1, .cons₂ _ h2, hd, e => by
    have := (e a).mpr (by simp)
    exact absurd (h1.subset this) (List.nodup_cons.mp hd).1
  | _, t, _, .cons₂ a h1, .cons _ h2, hd, e => by
    have := (e a).mp (by simp)
    exact absurd (h2.subset this) (List.nodup_cons.mp hd).1
  | _, _, _, .cons₂ a h1, .cons₂ _ h2, hd, e => by
    have hd' := List.nodup_cons.mp hd
    rw [sub_eq h1 h2 hd'.2 fun x => ?_]
    constructor
    · intro hx
      have := (e x).mp (by simp [hx])
      rcases List.mem_cons.mp this with z | z
      · subst z; exact absurd (h1.subset hx) hd'.1
      · exact z
    · intro hx
      have := (e x).mpr (by simp [hx])
      rcases List.mem_cons.mp this with z | z
      · subst z; exact absurd (h2.subset hx) hd'.1
      · exact z

section
variable {R T T' C : Nat → List Nat}
theorem Tab.nd (L : Lists R) (t : Tab R T) (i : Nat) : (T i).Nodup := (L.nd i).sublist (t.sub i)
theorem Tab.ir (L : Lists R) (t : Tab R T) (i : Nat) : i ∉ T i := fun h => L.ir i ((t.sub i).subset h)
/-- one table, if both hold the same -/
theorem tab_eq (L : Lists R) (t : Tab R T) (t' : Tab R T') (h : ∀ i x, x ∈ T i ↔ x ∈ T' i) : T = T' := by
  funext i
  exact sub_eq (t.sub i) (t'.sub i) (L.nd i) (h i)

/-! ### the table behind all offers -/
structure Off (R T : Nat → List Nat) : Prop where
  dn : Done R T
  max : ∀ T', Done R T' → ∀ i x, x ∈ T' i → x ∈ T i
theorem off_one (L : Lists R) (a : Off R T) (b : Off R T') : T = T' :=
  tab_eq L a.dn.tab b.dn.tab fun i x => ⟨b.max T a.dn i x, a.max T' b.dn i x⟩

/-! ### a step -/
/-- all behind p go from the row of b, and b from theirs -/
def cut (C : Nat → List Nat) (b p : Nat) : Nat → List Nat := fun i =>
  if i = b then (C b).take ((C b).idxOf p + 1) else if i ∈ (C b).drop ((C b).idxOf p + 1) then (C i).erase b else C i
theorem mem_take_place {l : List Nat} (hd : l.Nodup) {k x : Nat} (h : x ∈ l) : x ∈ l.take k ↔ l.idxOf x < k := by
  induction l generalizing k with
  | nil => simp at h
  | cons a r ih =>
    cases k with
    | zero => simp
    | succ k =>
      by_cases e : a = x
      · subst e; simp
      · rw [idx_ne _ e, List.take_succ_cons, List.mem_cons]
        have hm := (List.mem_cons.mp h).resolve_left (fun z => e z.symm)
        have := ih (k := k) (List.nodup_cons.mp hd).2 hm
        constructor
        · rintro (z | z)
          · exact absurd z.symm e
          · have := this.mp z; omega
        · intro z; exact .inr (this.mpr (by omega))
theorem mem_drop_place {l : List Nat} (hd : l.Nodup) {k x : Nat} (h : x ∈ l) : x ∈ l.drop k ↔ k ≤ l.idxOf x := by
  have e : l.take k ++ l.drop k = l := List.take_append_drop k l
  have h1 := mem_take_place (k := k) hd h
  constructor
  · intro hx
    apply Classical.byContradiction
    intro hc
    have h2 : x ∈ l.take k := h1.mpr (by omega)
    rw [← e] at hd
    exact (List.nodup_append.mp hd).2.2 x h2 x hx rfl
  · intro hk
    rw [← e] at h
    rcases List.mem_append.mp h with z | z
    · have := h1.mp z; omega
    · exact z
theorem mem_cut (L : Lists R) (t : Tab R C) {b p i x : Nat} : x ∈ cut C b p i ↔ x ∈ C i ∧ ¬(i = b ∧ (C b).idxOf p < (C b).idxOf x) ∧ ¬(x = b ∧ (C b).idxOf p < (C b).idxOf i) := by
  have nd := t.nd L
  unfold cut
  by_cases hi : i = b
  · subst hi
    rw [if_pos rfl]
    constructor
    · intro h
      have hm := List.mem_of_mem_take h
      have := (mem_take_place (nd i) hm).mp h
      exact ⟨hm, fun z => by omega, fun z => by rw [z.1] at hm; exact t.ir L i hm⟩
    · rintro ⟨hm, h1, _⟩
      exact (mem_take_place (nd i) hm).mpr (by
        have : ¬ (C i).idxOf p < (C i).idxOf x := fun z => h1 ⟨rfl, z⟩
        omega)
  · rw [if_neg hi]
    by_cases hd : i ∈ (C b).drop ((C b).idxOf p + 1)
    · rw [if_pos hd, List.Nodup.mem_erase_iff (nd i)]
      have hm := List.mem_of_mem_drop hd
      have := (mem_drop_place (nd b) hm).mp hd
      constructor
      · rintro ⟨h1, h2⟩
        exact ⟨h2, fun z => hi z.1, fun z => h1 z.1⟩
      · rintro ⟨h1, _, h2⟩
        exact ⟨fun z => h2 ⟨z, by omega⟩, h1⟩
    · rw [if_neg hd]
      constructor
      · intro h
        refine ⟨h, fun z => hi z.1, fun z => ?_⟩
        obtain ⟨rfl, z⟩ := z
        have hm := t.mu _ _ h
        exact hd ((mem_drop_place (nd x) hm).mpr (by omega))
      · exact fun h => h.1
theorem cut_sub (C : Nat → List Nat) (b p i : Nat) : (cut C b p i).Sublist (C i) := by
  unfold cut
  split
  · rename_i e; subst e; exact List.take_sublist _ _
  · split
    · exact List.erase_sublist
    · exact List.Sublist.refl _
theorem cut_tab (L : Lists R) (t : Tab R C) (b p : Nat) : Tab R (cut C b p) := by
  refine ⟨fun i => (cut_sub C b p i).trans (t.sub i), fun i j h => ?_⟩
  rw [mem_cut L t] at h ⊢
  exact ⟨t.mu _ _ h.1, fun z => h.2.2 ⟨z.1, z.2⟩, fun z => h.2.1 ⟨z.1, z.2⟩⟩

/-- where the offers stand: the table, who is held by whom, who is still to offer -/
structure Stt (R C : Nat → List Nat) (h : Nat → Option Nat) (W : List Nat) : Prop where
  tab : Tab R C
  stop : ∀ p b, b ∈ R p → b ∉ C p → (∃ q, h b = some q ∧ rk R b q < rk R b p) ∨ (∃ q, h p = some q ∧ rk R p q < rk R p b)
  held : ∀ b p, h b = some p → (C p).head? = some b ∧ (C b).getLast? = some p
  wait : ∀ p b, (C p).head? = some b → p ∈ W ∨ h b = some p
  nd : W.Nodup
  disj : ∀ p ∈ W, ∀ b, h b ≠ some p
  max : ∀ T', Done R T' → ∀ i x, x ∈ T' i → x ∈ C i

theorem Stt.start (L : Lists R) {W : List Nat} (hn : W.Nodup) (hW : ∀ p, R p ≠ [] → p ∈ W) : Stt R R (fun _ => none) W where
  tab := ⟨fun i => List.Sublist.refl _, L.mu⟩
  stop := fun p b h1 h2 => absurd h1 h2
  held := fun b p e => by cases e
  wait := fun p b e => .inl (hW p fun z => by rw [z] at e; cases e)
  nd := hn
  disj := fun p _ b e => by cases e
  max := fun T' d i x hx => (d.tab.sub i).subset hx
theorem Stt.perm {h : Nat → Option Nat} {W W' : List Nat} (s : Stt R C h W) (hp : W'.Perm W) : Stt R C h W' :=
  ⟨s.tab, s.stop, s.held, fun p b e => (s.wait p b e).imp (fun z => hp.mem_iff.mpr z) id, hp.nodup_iff.mpr s.nd, fun p hp' => s.disj p (hp.mem_iff.mp hp'), s.max⟩
/-- nobody is left for the one who is to offer -/
theorem Stt.skip {h : Nat → Option Nat} {W : List Nat} {p : Nat} (s : Stt R C h (p :: W)) (e : C p = []) : Stt R C h W :=
  ⟨s.tab, s.stop, s.held, fun q b hq => (s.wait q b hq).imp (fun z => (List.mem_cons.mp z).resolve_left fun y => by rw [y, e] at hq; cases hq) id, (List.nodup_cons.mp s.nd).2, fun q hq => s.disj q (List.mem_cons_of_mem _ hq), s.max⟩
theorem Stt.fin {h : Nat → Option Nat} (s : Stt R C h []) : Off R C := by
  refine ⟨⟨s.tab, fun p b h1 h2 => ?_, fun p b e => ?_⟩, s.max⟩
  · rcases s.stop p b h1 h2 with ⟨q, e, l⟩ | ⟨q, e, l⟩
    · exact .inl ⟨q, (s.held _ _ e).2, l⟩
    · exact .inr ⟨q, (s.held _ _ e).2, l⟩
  · rcases s.wait p b e with z | z
    · cases z
    · exact (s.held _ _ z).2
end
theorem last_take {l : List Nat} {p : Nat} (h : p ∈ l) : (l.take (l.idxOf p + 1)).getLast? = some p := by
  have h1 := idxOf_lt_of_mem h
  rw [List.getLast?_eq_getElem?, List.length_take, Nat.min_eq_left (by omega), List.getElem?_take_of_lt (by omega)]
  rw [List.getElem?_eq_some_iff]
  exact ⟨by omega, by simp⟩
theorem head_take {l : List Nat} {k : Nat} : (l.take (k + 1)).head? = l.head? := by
  cases l <;> simp
theorem head_erase {l : List Nat} {x b : Nat} (h : l.head? = some x) (e : x ≠ b) : (l.erase b).head? = some x := by
  cases l with
  | nil => simp at h
  | cons a r =>
    simp at h
    subst h
    rw [List.erase_cons_tail (by simpa using e)]
    simp
theorem last_erase {l : List Nat} {w b : Nat} (h : l.getLast? = some w) (e : w ≠ b) : (l.erase b).getLast? = some w := by
  induction l with
  | nil => simp at h
  | cons a r ih =>
    by_cases ha : a = b
    · subst ha
      rw [List.erase_cons_head]
      cases r with
      | nil => simp at h; exact absurd h.symm e
      | cons c r => simpa [List.getLast?_cons_cons] using h
    · rw [List.erase_cons_tail (by simpa using ha)]
      cases r with
      | nil => simpa using h
      | cons c r =>
        have := ih (by simpa [List.getLast?_cons_cons] using h)
        cases hq : (c :: r).erase b with
        | nil => rw [hq] at this; simp at this
        | cons d r' => rw [hq] at this; rw [List.getLast?_cons_cons]; exact this

section
variable {R T T' C : Nat → List Nat} {h : Nat → Option Nat} {W : List Nat} {p b : Nat}
/-- who is offered to holds the one that offers, unless there is none -/
def hold (h : Nat → Option Nat) (b p : Nat) : Nat → Option Nat := fun i => if i = b then some p else h i
theorem cut_self (L : Lists R) (t : Tab R C) (hp : p ∈ C b) : cut C b p p = C p := by
  have ne : p ≠ b := fun e => t.ir L b (e ▸ hp)
  unfold cut
  rw [if_neg ne, if_neg]
  intro z
  have := (mem_drop_place (t.nd L b) hp).mp z
  omega
theorem Stt.ahead (L : Lists R) (s : Stt R C h (p :: W)) (hb : (C p).head? = some b) {p0 : Nat} (h0 : h b = some p0) : (C b).idxOf p < (C b).idxOf p0 ∧ rk R b p < rk R b p0 := by
  have hp : p ∈ C b := s.tab.mu _ _ (head_mem hb)
  have l0 := (s.held _ _ h0).2
  have ne : p ≠ p0 := fun e => s.disj p List.mem_cons_self b (e ▸ h0)
  have h1 := last_place (s.tab.nd L b) l0 hp
  have h2 : (C b).idxOf p ≠ (C b).idxOf p0 := fun z => ne (idxOf_inj hp z)
  have h3 : (C b).idxOf p < (C b).idxOf p0 := by omega
  exact ⟨h3, (sub_place (s.tab.sub b) (L.nd b) hp (last_mem l0)).mp h3⟩
theorem Stt.offer (L : Lists R) (s : Stt R C h (p :: W)) (hb : (C p).head? = some b) : Stt R (cut C b p) (hold h b p) ((h b).toList ++ W) := by
  have hbp : b ∈ C p := head_mem hb
  have hp : p ∈ C b := s.tab.mu _ _ hbp
  have nd := s.tab.nd L
  have nebp : p ≠ b := fun e => s.tab.ir L b (e ▸ hp)
  have hold_b : hold h b p b = some p := by unfold hold; rw [if_pos rfl]
  have hold_ne : ∀ {i}, i ≠ b → hold h b p i = h i := fun {i} e => by unfold hold; rw [if_neg e]
  have hd := List.nodup_cons.mp s.nd
  have headk : ∀ i w, i ≠ b → h i = some w → (cut C b p w).head? = some i := fun i w e hi => by
    have h1 := (s.held _ _ hi).1
    unfold cut
    split
    · rename_i e2; subst e2; rw [head_take]; exact h1
    · split
      · exact head_erase h1 e
      · exact h1
  refine ⟨cut_tab L s.tab b p, fun q x hx hn => ?_, fun i w hi => ?_, fun q x hq => ?_, ?_, fun q hq x hx => ?_, fun T' d i x hx => ?_⟩
  · by_cases hc : x ∈ C q
    · have hn' : ¬ (¬(q = b ∧ (C b).idxOf p < (C b).idxOf x) ∧ ¬(x = b ∧ (C b).idxOf p < (C b).idxOf q)) := fun z => hn ((mem_cut L s.tab).mpr ⟨hc, z⟩)
      by_cases h1 : q = b ∧ (C b).idxOf p < (C b).idxOf x
      · obtain ⟨rfl, h1⟩ := h1
        exact .inr ⟨p, hold_b, (sub_place (s.tab.sub q) (L.nd q) hp hc).mp h1⟩
      · have h2 : x = b ∧ (C b).idxOf p < (C b).idxOf q := by
          apply Classical.byContradiction
          exact fun z => hn' ⟨h1, z⟩
        obtain ⟨rfl, h2⟩ := h2
        exact .inl ⟨p, hold_b, (sub_place (s.tab.sub x) (L.nd x) hp (s.tab.mu _ _ hc)).mp h2⟩
    · rcases s.stop q x hx hc with ⟨w, e, l⟩ | ⟨w, e, l⟩
      · left
        by_cases hxb : x = b
        · subst hxb
          have := (s.ahead L hb e).2
          exact ⟨p, hold_b, by omega⟩
        · exact ⟨w, by rw [hold_ne hxb]; exact e, l⟩
      · right
        by_cases hqb : q = b
        · subst hqb
          have := (s.ahead L hb e).2
          exact ⟨p, hold_b, by omega⟩
        · exact ⟨w, by rw [hold_ne hqb]; exact e, l⟩
  · by_cases hib : i = b
    · subst hib
      rw [hold_b] at hi
      cases hi
      refine ⟨by rw [cut_self L s.tab hp]; exact hb, ?_⟩
      unfold cut
      rw [if_pos rfl]
      exact last_take hp
    · rw [hold_ne hib] at hi
      refine ⟨headk i w hib hi, ?_⟩
      have h1 := s.held _ _ hi
      unfold cut
      rw [if_neg hib]
      split
      · rename_i hdr
        refine last_erase h1.2 fun e => ?_
        subst e
        have h2 := head_place h1.1
        have := (mem_drop_place (nd w) (head_mem h1.1)).mp hdr
        omega
      · exact h1.2
  · by_cases hqp : q = p
    · subst hqp
      rw [cut_self L s.tab hp, hb] at hq
      cases hq
      exact .inr hold_b
    · have hm := head_mem hq
      have hm' := (cut_sub C b p q).subset hm
      obtain ⟨y, hy⟩ : ∃ y, (C q).head? = some y := by
        cases hc : C q with
        | nil => rw [hc] at hm'; simp at hm'
        | cons a r => exact ⟨a, rfl⟩
      rcases s.wait q y hy with z | z
      · exact .inl (List.mem_append_right _ ((List.mem_cons.mp z).resolve_left hqp))
      · by_cases hyb : y = b
        · subst hyb
          exact .inl (List.mem_append_left _ (by rw [z]; simp))
        · right
          have := headk y q hyb z
          rw [hq] at this
          cases this
          rw [hold_ne hyb]
          exact z
  · rw [List.nodup_append]
    refine ⟨by cases h b <;> simp, hd.2, fun x hx y hy e => ?_⟩
    subst e
    have hx' : h b = some x := by simpa using hx
    exact s.disj x (List.mem_cons_of_mem _ hy) b hx'
  · rcases List.mem_append.mp hq with z | z
    · have z' : h b = some q := by simpa using z
      by_cases hxb : x = b
      · subst hxb
        rw [hold_b] at hx
        cases hx
        exact s.disj p List.mem_cons_self x z'
      · rw [hold_ne hxb] at hx
        have h1 := (s.held _ _ hx).1
        rw [(s.held _ _ z').1] at h1
        exact hxb (Option.some.inj h1).symm
    · by_cases hxb : x = b
      · subst hxb
        rw [hold_b] at hx
        cases hx
        exact hd.1 z
      · rw [hold_ne hxb] at hx
        exact s.disj q (List.mem_cons_of_mem _ z) x hx
  · -- what a done table keeps is not cut
    have key : ∀ q, q ∈ T' b → ¬ (C b).idxOf p < (C b).idxOf q := fun q hq hlt => by
      have hqC := s.max T' d _ _ hq
      have hr : rk R b p < rk R b q := (sub_place (s.tab.sub b) (L.nd b) hp hqC).mp hlt
      have hbest : ∀ x, x ∈ T' p → rk R p b ≤ rk R p x := fun x hx => sub_head (s.tab.sub p) (L.nd p) hb (s.max T' d _ _ hx)
      by_cases hin : b ∈ T' p
      · obtain ⟨y, hy⟩ : ∃ y, (T' p).head? = some y := by
          cases hc : T' p with
          | nil => rw [hc] at hin; simp at hin
          | cons a r => exact ⟨a, rfl⟩
        have h1 := sub_head (d.tab.sub p) (L.nd p) hy hin
        have h2 := hbest y (head_mem hy)
        have e : y = b := idxOf_inj (l := R p) ((d.tab.sub p).subset (head_mem hy)) (by simp only [rk] at *; omega)
        subst e
        have h3 := sub_last (d.tab.sub y) (L.nd y) (d.held _ _ hy) hq
        simp only [rk] at *
        omega
      · rcases d.stop p b ((s.tab.sub p).subset hbp) hin with ⟨w, e, l⟩ | ⟨w, e, l⟩
        · have := sub_last (d.tab.sub b) (L.nd b) e hq
          simp only [rk] at *
          omega
        · have := hbest w (last_mem e)
          omega
    refine (mem_cut L s.tab).mpr ⟨s.max T' d _ _ hx, fun z => ?_, fun z => ?_⟩
    · obtain ⟨rfl, z⟩ := z
      exact key x hx z
    · obtain ⟨rfl, z⟩ := z
      exact key i (d.tab.mu _ _ hx) z

/-! ### the measure -/
/-- how many stand in the rows of the first n -/
def total (n : Nat) (C : Nat → List Nat) : Nat := ((List.range n).map fun i => (C i).length).sum
theorem sum_le : ∀ (l : List Nat) {f g : Nat → Nat}, (∀ i ∈ l, f i ≤ g i) → (l.map f).sum ≤ (l.map g).sum
  | [], _, _, _ => by simp
  | a :: l, f, g, h => by
    have := sum_le l (f := f) (g := g) fun i hi => h i (List.mem_cons_of_mem _ hi)
    have := h a List.mem_cons_self
    simp only [List.map_cons, List.sum_cons]
    omega
theorem sum_lt : ∀ (l : List Nat) {f g : Nat → Nat} {k : Nat}, (∀ i ∈ l, f i ≤ g i) → k ∈ l → f k < g k → (l.map f).sum < (l.map g).sum
  | [], _, _, _, _, hk, _ => by simp at hk
  | a :: l, f, g, k, h, hk, hlt => by
    have h1 := sum_le l (f := f) (g := g) fun i hi => h i (List.mem_cons_of_mem _ hi)
    have h2 := h a List.mem_cons_self
    simp only [List.map_cons, List.sum_cons]
    rcases List.mem_cons.mp hk with e | hk
    · subst e; omega
    · have := sum_lt l (f := f) (g := g) (fun i hi => h i (List.mem_cons_of_mem _ hi)) hk hlt
      omega
theorem total_cut_le (n : Nat) (C : Nat → List Nat) (b p : Nat) : total n (cut C b p) ≤ total n C := sum_le _ fun i _ => (cut_sub C b p i).length_le
theorem Stt.less (L : Lists R) (s : Stt R C h (p :: W)) (hb : (C p).head? = some b) {n : Nat} (hn : b < n) : total n (cut C b p) + ((h b).toList ++ W).length < total n C + (p :: W).length := by
  cases e : h b with
  | none =>
    have := total_cut_le n C b p
    simp
    omega
  | some p0 =>
    have h1 := (s.ahead L hb e).1
    have h2 := idxOf_lt_of_mem (last_mem (s.held _ _ e).2)
    have : total n (cut C b p) < total n C := sum_lt _ (k := b) (fun i _ => (cut_sub C b p i).length_le) (List.mem_range.mpr hn) (by
      unfold cut
      rw [if_pos rfl, List.length_take]
      omega)
    simp
    omega
end
/-! ### counting -/
theorem len_of_sub : ∀ {l1 l2 : List Nat}, l1.Nodup → (∀ x ∈ l1, x ∈ l2) → l1.length ≤ l2.length
  | [], _, _, _ => Nat.zero_le _
  | a :: l1, l2, hd, h => by
    have hd' := List.nodup_cons.mp hd
    have ha : a ∈ l2 := h a List.mem_cons_self
    have := len_of_sub (l1 := l1) (l2 := l2.erase a) hd'.2 fun x hx => (List.mem_erase_of_ne (show x ≠ a from fun e => hd'.1 (e ▸ hx))).mpr (h x (List.mem_cons_of_mem _ hx))
    rw [List.length_erase_of_mem ha] at this
    have := List.length_pos_of_mem ha
    rw [List.length_cons]
    omega
theorem onto_of {l1 l2 : List Nat} (hd : l1.Nodup) (h : ∀ x ∈ l1, x ∈ l2) (hl : l2.length ≤ l1.length) {y : Nat} (hy : y ∈ l2) : y ∈ l1 := by
  apply Classical.byContradiction
  intro hn
  have := len_of_sub (l1 := l1) (l2 := l2.erase y) hd fun x hx => (List.mem_erase_of_ne (show x ≠ y from fun e => hn (e ▸ hx))).mpr (h x hx)
  rw [List.length_erase_of_mem hy] at this
  have := List.length_pos_of_mem hy
  omega
theorem nodup_map_on {f : Nat → Nat} : ∀ {l : List Nat}, l.Nodup → (∀ x ∈ l, ∀ y ∈ l, f x = f y → x = y) → (l.map f).Nodup
  | [], _, _ => List.nodup_nil
  | a :: l, hd, h => by
    have hd' := List.nodup_cons.mp hd
    rw [List.map_cons, List.nodup_cons]
    refine ⟨fun z => ?_, nodup_map_on hd'.2 fun x hx y hy => h x (List.mem_cons_of_mem _ hx) y (List.mem_cons_of_mem _ hy)⟩
    obtain ⟨x, hx, e⟩ := List.mem_map.mp z
    have := h x (List.mem_cons_of_mem _ hx) a List.mem_cons_self e
    exact hd'.1 (this ▸ hx)
theorem onto_self {f : Nat → Nat} {l : List Nat} (hd : l.Nodup) (hin : ∀ x ∈ l, f x ∈ l) (inj : ∀ x ∈ l, ∀ y ∈ l, f x = f y → x = y) {y : Nat} (hy : y ∈ l) : ∃ x ∈ l, f x = y := by
  have := onto_of (l1 := l.map f) (l2 := l) (nodup_map_on hd inj) (fun x hx => by
    obtain ⟨z, hz, e⟩ := List.mem_map.mp hx
    exact e ▸ hin z hz) (by rw [List.length_map]; exact Nat.le_refl _) hy
  exact List.mem_map.mp this

section
variable {R T : Nat → List Nat} {n : Nat}
/-- who has somebody left -/
def some_left (n : Nat) (T : Nat → List Nat) : List Nat := (List.range n).filter fun i => !(T i).isEmpty
theorem mem_some_left {i : Nat} : i ∈ some_left n T ↔ i < n ∧ T i ≠ [] := by
  unfold some_left
  rw [List.mem_filter, List.mem_range]
  simp [List.isEmpty_iff]
theorem head_some {l : List Nat} (h : l ≠ []) : ∃ b, l.head? = some b := by
  cases l with
  | nil => exact absurd rfl h
  | cons a r => exact ⟨a, rfl⟩
theorem ne_of_mem {l : List Nat} {x : Nat} (h : x ∈ l) : l ≠ [] := fun e => by rw [e] at h; cases h
/-- one is the best left of a person just where the person is its worst -/
theorem Done.back (L : Lists R) (hn : ∀ i x, x ∈ R i → i < n) (d : Done R T) {b p : Nat} (hl : (T b).getLast? = some p) : (T p).head? = some b := by
  have hb : b ∈ some_left n T := mem_some_left.mpr ⟨hn b p ((d.tab.sub b).subset (last_mem hl)), ne_of_mem (last_mem hl)⟩
  obtain ⟨q, hq, e⟩ := onto_self (f := fun i => (T i).head?.getD 0) (l := some_left n T) (List.nodup_range.filter _) (fun x hx => by
    obtain ⟨h1, h2⟩ := mem_some_left.mp hx
    obtain ⟨y, hy⟩ := head_some h2
    simp only [hy, Option.getD_some]
    have hy' := d.tab.mu _ _ (head_mem hy)
    exact mem_some_left.mpr ⟨hn y x ((d.tab.sub y).subset hy'), ne_of_mem hy'⟩) (fun x hx y hy e => by
    obtain ⟨x', hx'⟩ := head_some (mem_some_left.mp hx).2
    obtain ⟨y', hy'⟩ := head_some (mem_some_left.mp hy).2
    simp only [hx', hy', Option.getD_some] at e
    subst e
    have h1 := d.held _ _ hx'
    rw [d.held _ _ hy'] at h1
    exact (Option.some.inj h1).symm) hb
  obtain ⟨y, hy⟩ := head_some (mem_some_left.mp hq).2
  simp only [hy, Option.getD_some] at e
  subst e
  have h1 := d.held _ _ hy
  rw [hl] at h1
  cases h1
  exact hy

/-! ### pairings -/
structure PairOk (R : Nat → List Nat) (m : Nat → Option Nat) : Prop where
  on : ∀ p q, m p = some q → q ∈ R p
  mu : ∀ p q, m p = some q → m q = some p
/-- one would rather have the other than its mate -/
def Wants (R : Nat → List Nat) (m : Nat → Option Nat) (p b : Nat) : Prop := ∀ y, m p = some y → rk R p b < rk R p y
def Spoil (R : Nat → List Nat) (m : Nat → Option Nat) (p b : Nat) : Prop := b ∈ R p ∧ Wants R m p b ∧ Wants R m b p
structure Good (R : Nat → List Nat) (m : Nat → Option Nat) : Prop where
  ok : PairOk R m
  no : ∀ p b, ¬ Spoil R m p b
def mt (m : Nat → Option Nat) : Nat → List Nat := fun i => (m i).toList
theorem mem_mt {m : Nat → Option Nat} {i x : Nat} : x ∈ mt m i ↔ m i = some x := by unfold mt; simp
theorem good_done (L : Lists R) {m : Nat → Option Nat} (g : Good R m) : Done R (mt m) := by
  have nw : ∀ p b, b ∈ R p → m p ≠ some b → ¬ Wants R m p b → ∃ q, (mt m p).getLast? = some q ∧ rk R p q < rk R p b := fun p b hb hne hw => by
    have : ∃ y, m p = some y ∧ ¬ rk R p b < rk R p y := by
      apply Classical.byContradiction
      intro hc
      exact hw fun y hy => Classical.byContradiction fun hz => hc ⟨y, hy, hz⟩
    obtain ⟨y, hy, hl⟩ := this
    refine ⟨y, by unfold mt; rw [hy]; rfl, ?_⟩
    have : rk R p y ≠ rk R p b := fun e => hne (by rw [hy, idxOf_inj (g.ok.on _ _ hy) e])
    omega
  refine ⟨⟨fun i => ?_, fun i j h => ?_⟩, fun p b hb hn => ?_, fun p b e => ?_⟩
  · unfold mt
    cases e : m i with
    | none => exact List.nil_sublist _
    | some q => exact List.singleton_sublist.mpr (g.ok.on _ _ e)
  · exact mem_mt.mpr (g.ok.mu _ _ (mem_mt.mp h))
  · have hne : m p ≠ some b := fun e => hn (mem_mt.mpr e)
    by_cases h1 : Wants R m p b
    · have h2 : ¬ Wants R m b p := fun z => g.no p b ⟨hb, h1, z⟩
      exact .inl (nw b p (L.mu _ _ hb) (fun e => hne (g.ok.mu _ _ e)) h2)
    · exact .inr (nw p b hb hne h1)
  · have h1 : m p = some b := mem_mt.mp (head_mem e)
    unfold mt
    rw [g.ok.mu _ _ h1]
    rfl
/-- all mates of a good pairing are left, and who has somebody left has a mate -/
theorem Off.good (L : Lists R) (hn : ∀ i x, x ∈ R i → i < n) (o : Off R T) {m : Nat → Option Nat} (g : Good R m) : (∀ p q, m p = some q → q ∈ T p) ∧ ∀ p, m p = none ↔ T p = [] := by
  have d := good_done L g
  have h1 : ∀ p q, m p = some q → q ∈ T p := fun p q e => o.max _ d p q (mem_mt.mpr e)
  refine ⟨h1, fun p => ⟨fun e => ?_, fun e => ?_⟩⟩
  · apply Classical.byContradiction
    intro hne
    -- whoever is the best one left of somebody has a mate
    obtain ⟨l, hl⟩ : ∃ l, (T p).getLast? = some l := by
      cases hc : T p with
      | nil => exact absurd hc hne
      | cons a r => exact ⟨_, List.getLast?_cons⟩
    have hh := o.dn.back L hn hl
    have hb : p ∈ R l := (o.dn.tab.sub l).subset (head_mem hh)
    have hnm : p ∉ mt m l := fun z => by
      have := g.ok.mu _ _ (mem_mt.mp z)
      rw [e] at this
      cases this
    rcases d.stop l p hb hnm with ⟨w, hw, _⟩ | ⟨w, hw, hlt⟩
    · have := mem_mt.mp (last_mem hw)
      rw [e] at this
      cases this
    · have h2 := h1 l w (mem_mt.mp (last_mem hw))
      have := sub_head (o.dn.tab.sub l) (L.nd l) hh h2
      simp only [rk] at *
      omega
  · cases hm : m p with
    | none => rfl
    | some q =>
      have := h1 p q hm
      rw [e] at this
      cases this
end
end Bk
set_option Elab.async false
set_option linter.all false
set_option maxRecDepth 100000
/-! Rows and tables of numbers in the layer's heap. -/
namespace Bk
open PySem PySem.Spec PyProof.Rows L2 LamX
abbrev nv (n : Nat) : V := .int (n : Int)
theorem nv_inj {a b : Nat} (h : nv a = nv b) : a = b := by
  have := V.int.inj h
  omega
theorem map_nv (r : List Nat) : r.map nv = (r.map Int.ofNat).map V.int := by
  rw [List.map_map]; rfl
/-- a row of numbers -/
abbrev RowAt (H : Hp) (a : Addr) (r : List Nat) : Prop := H a = some (.lst (r.map nv))
/-- a table: a list of rows, each an object of its own -/
structure Tbl (H : Hp) (t : Addr) (as : List Addr) (rows : List (List Nat)) : Prop where
  top : H t = some (.lst (as.map V.ref))
  len : as.length = rows.length
  nd : as.Nodup
  out : t ∉ as
  row : ∀ (i : Nat) (a : Addr) (r : List Nat), as[i]? = some a → rows[i]? = some r → RowAt H a r
abbrev fn (rows : List (List Nat)) : Nat → List Nat := fun i => rows.getD i []
theorem fn_of {rows : List (List Nat)} {i : Nat} {r : List Nat} (h : rows[i]? = some r) : fn rows i = r := by
  simp [fn, List.getD_eq_getElem?_getD, h]
theorem fn_at {rows : List (List Nat)} {i : Nat} (h : i < rows.length) : rows[i]? = some (fn rows i) := by
  simp [fn, List.getD_eq_getElem?_getD, h]
theorem fn_out {rows : List (List Nat)} {i : Nat} (h : rows.length ≤ i) : fn rows i = [] := by
  simp [fn, List.getD_eq_getElem?_getD, h]
section
variable {H H' : Hp} {t : Addr} {as : List Addr} {rows : List (List Nat)}
theorem Tbl.same (T : Tbl H t as rows) (e : Same H H') : Tbl H' t as rows := ⟨e _ _ T.top, T.len, T.nd, T.out, fun i a r h1 h2 => e _ _ (T.row i a r h1 h2)⟩
/-- all but the tables of code stay -/
theorem Tbl.extN (T : Tbl H t as rows) (e : ExtN H H') : Tbl H' t as rows := ⟨e _ _ T.top (fun _ z => by cases z), T.len, T.nd, T.out, fun i a r h1 h2 => e _ _ (T.row i a r h1 h2) (fun _ z => by cases z)⟩
theorem Tbl.upd_new (T : Tbl H t as rows) {p : Addr} {o : HO} (n : H p = none) : Tbl (upd H p o) t as rows := T.same fun b u e => by rw [upd_ne (ne_of_none e n)]; exact e
theorem Tbl.seq (K : PySem.W.Frag) (T : Tbl H t as rows) : SqL K H t (as.map V.ref) := SqL.of T.top
theorem Tbl.at (T : Tbl H t as rows) {i : Nat} (h : i < rows.length) : ∃ a, as[i]? = some a ∧ RowAt H a (fn rows i) ∧ a ≠ t ∧ a ∈ as := by
  have h' : i < as.length := by rw [T.len]; exact h
  refine ⟨as[i], List.getElem?_eq_getElem h', T.row i _ _ (List.getElem?_eq_getElem h') (fn_at h), fun e => T.out (by rw [← e]; exact List.getElem_mem h'), List.getElem_mem h'⟩
theorem Tbl.atI (T : Tbl H t as rows) {i : Nat} {a : Addr} (h : as[i]? = some a) : atI (as.map V.ref) (i : Int) = some (V.ref a) := atI_nat (by rw [List.getElem?_map, h]; rfl)
/-- a row is written -/
theorem Tbl.write (T : Tbl H t as rows) {i : Nat} {a : Addr} (h : as[i]? = some a) (r : List Nat) : Tbl (upd H a (.lst (r.map nv))) t as (rows.set i r) := by
  have hm := List.mem_of_getElem? h
  refine ⟨?_, by rw [List.length_set]; exact T.len, T.nd, T.out, fun j b q h1 h2 => ?_⟩
  · rw [upd_ne (fun e => T.out (by rw [e]; exact hm))]; exact T.top
  · by_cases e : j = i
    · subst e
      rw [h] at h1; cases h1
      have : j < rows.length := by
        have := (List.getElem?_eq_some_iff.mp h).1
        rw [T.len] at this; exact this
      rw [List.getElem?_set_self this] at h2
      cases h2
      exact upd_same
    · rw [List.getElem?_set_ne (Ne.symm e)] at h2
      have ne : b ≠ a := fun z => e (nd_ix T.nd (z ▸ h1) h)
      show upd H a _ b = _
      rw [upd_ne ne]
      exact T.row j b q h1 h2
/-- something else is written -/
theorem Tbl.other (T : Tbl H t as rows) {p : Addr} {o : HO} (h1 : p ≠ t) (h2 : p ∉ as) : Tbl (upd H p o) t as rows :=
  ⟨by rw [upd_ne (Ne.symm h1)]; exact T.top, T.len, T.nd, T.out, fun j b q e1 e2 => by
    show upd H p o b = _
    rw [upd_ne (show b ≠ p from fun z => h2 (by rw [← z]; exact List.mem_of_getElem? e1))]
    exact T.row j b q e1 e2⟩
/-- a table grows by a row -/
theorem Tbl.snoc (T : Tbl H t as rows) {a : Addr} {r : List Nat} (ha : RowAt H a r) (h1 : a ≠ t) (h2 : a ∉ as) : Tbl (upd H t (.lst ((as ++ [a]).map V.ref))) t (as ++ [a]) (rows ++ [r]) := by
  refine ⟨upd_same, by simp [T.len], ?_, ?_, fun i b q e1 e2 => ?_⟩
  · rw [List.nodup_append]
    exact ⟨T.nd, by simp, fun x hx y hy e => by simp at hy; subst hy; subst e; exact h2 hx⟩
  · rw [List.mem_append]
    rintro (z | z)
    · exact T.out z
    · simp at z; exact h1 z.symm
  · have nt : b ≠ t := by
      rintro rfl
      rcases List.mem_append.mp (List.mem_of_getElem? e1) with z | z
      · exact T.out z
      · simp at z; exact h1 z.symm
    show upd H t _ b = _
    rw [upd_ne nt]
    by_cases hi : i < as.length
    · rw [List.getElem?_append_left hi] at e1
      rw [List.getElem?_append_left (by rw [← T.len]; exact hi)] at e2
      exact T.row i b q e1 e2
    · rw [List.getElem?_append_right (by omega)] at e1
      rw [List.getElem?_append_right (by rw [← T.len]; omega)] at e2
      have : i - as.length = 0 := by
        have := (List.getElem?_eq_some_iff.mp e1).1
        simp at this
        omega
      rw [← T.len, this] at e2
      rw [this] at e1
      simp at e1 e2
      subst e1; subst e2
      exact ha
theorem Tbl.nil {D : Addr} (h : H D = some (.lst [])) : Tbl H D [] [] := ⟨h, rfl, List.nodup_nil, by simp, fun i a r e _ => by simp at e⟩
end
theorem same_upd {H : Hp} {p : Addr} {o : HO} (h : H p = none) : Same H (upd H p o) := fun b x e => by
  rw [upd_ne (ne_of_none e h)]
  exact e
theorem same_upd2 {H H' : Hp} {p : Addr} {o : HO} (s : Same H H') (h : H p = none) : Same H (upd H' p o) := fun b x e => by
  rw [upd_ne (ne_of_none e h)]
  exact s b x e
theorem small {n : Nat} (h : n ≤ 100000) : n < sizeLine := Nat.lt_of_le_of_lt h (by decide)
theorem eq_nv (a b : Nat) : decide (V.int (a : Int) = V.int (b : Int)) = decide (a = b) := by
  by_cases h : a = b
  · subst h; simp
  · rw [decide_eq_false h, decide_eq_false (fun z => h (nv_inj z))]
/-- is a number on a row -/
theorem inV_nv (r : List Nat) (x : Nat) : inV (nv x) (r.map nv) = decide (x ∈ r) := by
  unfold inV
  rw [List.any_map]
  have : ∀ y : Nat, eqV (nv y) (nv x) = decide (y = x) := fun y => by
    show decide ((y : Int) = (x : Int)) = _
    by_cases h : y = x
    · subst h; simp
    · rw [decide_eq_false h, decide_eq_false (by omega)]
  rw [show ((fun y => eqV y (nv x)) ∘ nv) = fun y => decide (y = x) from funext this]
  by_cases h : x ∈ r
  · rw [decide_eq_true h, List.any_eq_true]
    exact ⟨x, h, by simp⟩
  · rw [decide_eq_false h, List.any_eq_false]
    intro y hy e
    simp at e
    exact h (e ▸ hy)
theorem flat_nv (r : List Nat) : (r.map nv).all flatV = true := by
  rw [List.all_map, List.all_eq_true]
  intro x _
  rfl
/-! ### rows that may be lists of people -/
structure GL (rows : List (List Nat)) : Prop where
  ok : ∀ (i : Nat) (r : List Nat), rows[i]? = some r → r.Nodup ∧ ∀ x ∈ r, x < rows.length ∧ x ≠ i
theorem GL.nd {rows : List (List Nat)} (g : GL rows) (i : Nat) : (fn rows i).Nodup := by
  by_cases h : i < rows.length
  · exact (g.ok i _ (fn_at h)).1
  · rw [fn_out (by omega)]; exact List.nodup_nil
theorem GL.lt {rows : List (List Nat)} (g : GL rows) {i x : Nat} (h : x ∈ fn rows i) : i < rows.length ∧ x < rows.length ∧ x ≠ i := by
  by_cases hi : i < rows.length
  · exact ⟨hi, (g.ok i _ (fn_at hi)).2 x h⟩
  · rw [fn_out (by omega)] at h; cases h
/-- the mutual lists -/
def mutF (rows : List (List Nat)) (p : Nat) : List Nat := (fn rows p).filter fun o => decide (p ∈ fn rows o)
def mutL (rows : List (List Nat)) : List (List Nat) := (List.range rows.length).map (mutF rows)
theorem mutL_len (rows : List (List Nat)) : (mutL rows).length = rows.length := by simp [mutL]
theorem mutL_at {rows : List (List Nat)} {i : Nat} (h : i < rows.length) : (mutL rows)[i]? = some (mutF rows i) := by
  simp [mutL, h]
theorem fn_mutL (rows : List (List Nat)) (i : Nat) : fn (mutL rows) i = mutF rows i := by
  by_cases h : i < rows.length
  · exact fn_of (mutL_at h)
  · rw [fn_out (by rw [mutL_len]; omega)]
    unfold mutF
    rw [fn_out (by omega)]
    rfl
theorem mem_mutF {rows : List (List Nat)} {p o : Nat} : o ∈ mutF rows p ↔ o ∈ fn rows p ∧ p ∈ fn rows o := by
  unfold mutF
  rw [List.mem_filter]
  simp
theorem lists_mut {rows : List (List Nat)} (g : GL rows) : Lists (fn (mutL rows)) where
  nd := fun i => by rw [fn_mutL]; exact (g.nd i).filter _
  mu := fun i j h => by
    rw [fn_mutL] at h ⊢
    exact mem_mutF.mpr (mem_mutF.mp h).symm
  ir := fun i h => by
    rw [fn_mutL] at h
    exact (g.lt (mem_mutF.mp h).1).2.2 rfl
theorem mut_lt {rows : List (List Nat)} (g : GL rows) {i x : Nat} (h : x ∈ fn (mutL rows) i) : i < rows.length ∧ x < rows.length := by
  rw [fn_mutL] at h
  have := g.lt (mem_mutF.mp h).1
  exact ⟨this.1, this.2.1⟩
theorem gl_mut {rows : List (List Nat)} (g : GL rows) : GL (mutL rows) := ⟨fun i r h => by
  have e := fn_of h
  subst e
  refine ⟨(lists_mut g).nd i, fun x hx => ?_⟩
  have := mut_lt g hx
  exact ⟨by rw [mutL_len]; exact this.2, fun z => (lists_mut g).ir i (z ▸ hx)⟩⟩
theorem nodup_len {r : List Nat} {n : Nat} (hd : r.Nodup) (h : ∀ x ∈ r, x < n) : r.length ≤ n := by
  have := len_of_sub (l1 := r) (l2 := List.range n) hd fun x hx => List.mem_range.mpr (h x hx)
  simpa using this
theorem GL.len {rows : List (List Nat)} (g : GL rows) (i : Nat) : (fn rows i).length ≤ rows.length := nodup_len (g.nd i) fun x hx => (g.lt hx).2.1
theorem isi {K : PySem.W.Frag} {H : Hp} {v : V} {t n : String} {b : Bool} {Q : VK} (ty : TyX K H v (.type t)) (k : kitB t n = some b) (q : Q (.bl b) H) : rIsi K [v, .ty n] H Q :=
  ⟨v, .ty n, .type t, .type n, b, rfl, .ty n, ty, kit_ty k, q⟩
theorem cx_K {CX : CXT} {P : Program} {w : World} {K : PySem.W.Frag} {mg : Str → Option Value} {base : Heap} {N : List Str} {qual : Str} {scope : Scope} {f : Addr} {cd : Value} {A : Around} {outer : List Env} {s : Shared} {H : Hp} {E : XK} : (cxOf CX P w K mg base N qual scope f cd A outer s H E).K = K := rfl
theorem cx_w {CX : CXT} {P : Program} {w : World} {K : PySem.W.Frag} {mg : Str → Option Value} {base : Heap} {N : List Str} {qual : Str} {scope : Scope} {f : Addr} {cd : Value} {A : Around} {outer : List Env} {s : Shared} {H : Hp} {E : XK} : (cxOf CX P w K mg base N qual scope f cd A outer s H E).w = w := rfl
/-- over enumerate of a list that the body leaves as it is -/
theorem for_enum {K : PySem.W.Frag} {a : Addr} {xs : List V} {g : TG} {tb : TS} {D : Ends} {σ : L2.St} {H : Hp} (Pv : Nat → L2.St → Hp → Prop) (h0 : Pv 0 σ H) (hl : ∀ i σ H, i ≤ xs.length → Pv i σ H → SqL K H a xs)
    (hs : ∀ i x σ H T, xs[i]? = some x → H T = none → Pv i σ H → g (.ref T) σ (upd H T (.tup [.int (i : Nat), x])) fun σ2 H2 => tb { D with nx := Pv (i + 1), ct := Pv (i + 1), bk := D.nx } σ2 H2) (hd : ∀ σ H, Pv xs.length σ H → D.nx σ H) :
    ∃ W : Nat → Nat → L2.St → Hp → Prop, (∃ m, W 0 m σ H) ∧ ∀ i m σ H, W i m σ H →
      ((Ite K a).stop i H ∧ D.nx σ H) ∨ ((Ite K a).go i H ∧ ∃ N : L2.St → Hp → Prop, (∀ σ' H', N σ' H' → ∃ m', m' < m ∧ W (i + 1) m' σ' H') ∧ ∀ x H', (Ite K a).yld i H x H' → g x σ H' fun σ2 H2 => tb { D with nx := N, ct := N, bk := D.nx } σ2 H2) := by
  refine ⟨fun i m σ H => m = xs.length - i ∧ i ≤ xs.length ∧ Pv i σ H, ⟨xs.length, by simp, Nat.zero_le _, h0⟩, ?_⟩
  rintro i m σ H ⟨rfl, hi, p⟩
  have hq := hl i σ H hi p
  by_cases hlt : i < xs.length
  · refine .inr ⟨⟨xs, xs[i], hq, by simp [hlt]⟩, Pv (i + 1), fun σ' H' p' => ⟨xs.length - (i + 1), by omega, rfl, hlt, p'⟩, fun v H' hy => ?_⟩
    obtain ⟨T, x, rfl, hT, rfl, hx⟩ := hy
    exact hs i x σ H T (hx xs hq) hT p
  · have e : i = xs.length := by omega
    subst e
    exact .inl ⟨⟨xs, hq, Nat.le_refl _⟩, hd σ H p⟩
/-- a comprehension over enumerate -/
theorem lc_enum {K : PySem.W.Frag} {a : Addr} {xs : List V} {g : TG} {tt : TT} {te : TE} {vs : List Nat} {σ : L2.St} {H1 : Hp} {D : Addr} {Qd : Hp → Prop} (Pv : Nat → Hp → Prop) (h0 : Pv 0 (upd H1 D (.lst []))) (hl : ∀ i H, i ≤ xs.length → Pv i H → SqL K H a xs)
    (hs : ∀ i x H T, xs[i]? = some x → H T = none → Pv i H → g (.ref T) (wipe σ vs) (upd H T (.tup [.int (i : Nat), x])) fun σ2 H2 => wipe σ2 vs = wipe σ vs ∧ tt σ2 H2 fun b H3 =>
      if b = true then te σ2 H3 fun y H4 => ∃ acc, H4 D = some (.lst acc) ∧ acc.length < sizeLine ∧ Pv (i + 1) (upd H4 D (.lst (acc ++ [y]))) else Pv (i + 1) H3) (hd : ∀ H, Pv xs.length H → Qd H) :
    ∃ W : Nat → Nat → Hp → Prop, (∃ m, W 0 m (upd H1 D (.lst []))) ∧ ∀ i m H, W i m H →
      ((Ite K a).stop i H ∧ Qd H) ∨ ((Ite K a).go i H ∧ ∃ Nx : Hp → Prop, (∀ H', Nx H' → ∃ m', m' < m ∧ W (i + 1) m' H') ∧ ∀ x H', (Ite K a).yld i H x H' → g x (wipe σ vs) H' fun σ2 H2 => wipe σ2 vs = wipe σ vs ∧ tt σ2 H2 fun b H3 =>
        if b = true then te σ2 H3 fun y H4 => ∃ acc, H4 D = some (.lst acc) ∧ acc.length < sizeLine ∧ Nx (upd H4 D (.lst (acc ++ [y]))) else Nx H3) := by
  refine ⟨fun i m H => m = xs.length - i ∧ i ≤ xs.length ∧ Pv i H, ⟨xs.length, by simp, Nat.zero_le _, h0⟩, ?_⟩
  rintro i m H ⟨rfl, hi, p⟩
  have hq := hl i H hi p
  by_cases hlt : i < xs.length
  · refine .inr ⟨⟨xs, xs[i], hq, by simp [hlt]⟩, Pv (i + 1), fun H' p' => ⟨xs.length - (i + 1), by omega, rfl, hlt, p'⟩, fun v H' hy => ?_⟩
    obtain ⟨T, x, rfl, hT, rfl, hx⟩ := hy
    exact hs i x H T (hx xs hq) hT p
  · have e : i = xs.length := by omega
    subst e
    exact .inl ⟨⟨xs, hq, Nat.le_refl _⟩, hd H p⟩
/-- a dict comprehension over enumerate -/
theorem dc_enum {K : PySem.W.Frag} {a : Addr} {xs : List V} {g : TG} {tt : TT} {tk tv : TE} {vs : List Nat} {σ : L2.St} {H1 : Hp} {D : Addr} {Qd : Hp → Prop} (Pv : Nat → Hp → Prop) (h0 : Pv 0 (upd H1 D (.dK []))) (hl : ∀ i H, i ≤ xs.length → Pv i H → SqL K H a xs)
    (hs : ∀ i x H T, xs[i]? = some x → H T = none → Pv i H → g (.ref T) (wipe σ vs) (upd H T (.tup [.int (i : Nat), x])) fun σ2 H2 => wipe σ2 vs = wipe σ vs ∧ tt σ2 H2 fun b H3 =>
      if b = true then tk σ2 H3 fun y H4 => tv σ2 H4 fun z H5 => ∃ kvs k, y = kV k ∧ H5 D = some (.dK kvs) ∧ kvs.length < sizeLine ∧ Pv (i + 1) (upd H5 D (.dK (putK kvs k z))) else Pv (i + 1) H3) (hd : ∀ H, Pv xs.length H → Qd H) :
    ∃ W : Nat → Nat → Hp → Prop, (∃ m, W 0 m (upd H1 D (.dK []))) ∧ ∀ i m H, W i m H →
      ((Ite K a).stop i H ∧ Qd H) ∨ ((Ite K a).go i H ∧ ∃ Nx : Hp → Prop, (∀ H', Nx H' → ∃ m', m' < m ∧ W (i + 1) m' H') ∧ ∀ x H', (Ite K a).yld i H x H' → g x (wipe σ vs) H' fun σ2 H2 => wipe σ2 vs = wipe σ vs ∧ tt σ2 H2 fun b H3 =>
        if b = true then tk σ2 H3 fun y H4 => tv σ2 H4 fun z H5 => ∃ kvs k, y = kV k ∧ H5 D = some (.dK kvs) ∧ kvs.length < sizeLine ∧ Nx (upd H5 D (.dK (putK kvs k z))) else Nx H3) := by
  refine ⟨fun i m H => m = xs.length - i ∧ i ≤ xs.length ∧ Pv i H, ⟨xs.length, by simp, Nat.zero_le _, h0⟩, ?_⟩
  rintro i m H ⟨rfl, hi, p⟩
  have hq := hl i H hi p
  by_cases hlt : i < xs.length
  · refine .inr ⟨⟨xs, xs[i], hq, by simp [hlt]⟩, Pv (i + 1), fun H' p' => ⟨xs.length - (i + 1), by omega, rfl, hlt, p'⟩, fun v H' hy => ?_⟩
    obtain ⟨T, x, rfl, hT, rfl, hx⟩ := hy
    exact hs i x H T (hx xs hq) hT p
  · have e : i = xs.length := by omega
    subst e
    exact .inl ⟨⟨xs, hq, Nat.le_refl _⟩, hd H p⟩
end Bk
set_option Elab.async false
set_option linter.all false
namespace Bk
open PySem PySem.Spec PyProof.Rows L2 LamX
/-- the scope of a comprehension -/
def lcS : Expr → Scope
  | .ListComp _ _ sc _ => sc
  | .DictComp _ _ _ sc _ => sc
  | .SetComp _ _ sc _ => sc
  | _ => { kind := .function, names := [], isGenerator := false, isCoroutine := false }
/-- what the last statement of a def returns -/
def retE (s : Stmt) : Expr := match (defBody s).getLast? with
  | some (.Return (some e) _) => e
  | _ => .Constant .none 0 ⟨0, 0, 0, 0⟩
/-! the rules with the written part named -/
def rLn (K : PySem.W.Frag) : List V → Hp → VK → Prop := fun xs H Q => ∃ p ys, xs = [.ref p] ∧ (SqL K H p ys ∨ SqT K H p ys) ∧ Q (.int ys.length) H
def rLs (K : PySem.W.Frag) : List V → Hp → VK → Prop := fun xs H Q => ∃ p ys, xs = [.ref p] ∧ (SqL K H p ys ∨ SqT K H p ys) ∧ ∀ l, H l = none → Q (.ref l) (upd H l (.lst ys))
def rTs (K : PySem.W.Frag) : List V → Hp → VK → Prop := fun xs H Q => ∃ p ys, xs = [.ref p] ∧ ((SqL K H p ys ∧ ∀ l, H l = none → Q (.ref l) (upd H l (.tup ys))) ∨ (SqT K H p ys ∧ Q (.ref p) H))
section
variable {X : Cx} {K : PySem.W.Frag}
theorem kix_list (h : X.K = K := by rfl) : IxR X (rIxL K) := by subst h; exact ix_list
theorem kix_tup (h : X.K = K := by rfl) : IxR X (rIxT K) := by subst h; exact ix_tup
theorem ksl_list (h : X.K = K := by rfl) : SlR X (rSlL K) := by subst h; exact sl_list
theorem kin (h : X.K = K := by rfl) : OpR X (compareOp .In) (rIn K false) := by subst h; exact op_in_seq
theorem knotin (h : X.K = K := by rfl) : OpR X (compareOp .NotIn) (rIn K true) := by subst h; exact op_notIn_seq
theorem keqD (hu : X.A.units + 64 < cLine) (h : X.K = K := by rfl) : OpR X (compareOp .Eq) (rEqD K) := by subst h; exact op_eqD hu
theorem kneD (hu : X.A.units + 64 < cLine) (h : X.K = K := by rfl) : OpR X (compareOp .NotEq) (rNeD K) := by subst h; exact op_neD hu
theorem klen (h : X.K = K := by rfl) : CallR X (.builtin "len") (rLn K) := by subst h; exact call_len_seq
theorem klist_of (h : X.K = K := by rfl) : CallR X (.type "list") (rLs K) := by subst h; exact call_list_of
theorem ktuple_of (h : X.K = K := by rfl) : CallR X (.type "tuple") (rTs K) := by subst h; exact call_tuple_of
theorem kisi (h : X.K = K := by rfl) : CallR X (.builtin "isinstance") (rIsi K) := by subst h; exact call_isi
theorem kall (hc : X.calm = true) (h : X.K = K := by rfl) : CallR X (.builtin "all") (rAll K) := by subst h; exact cr_all hc
theorem ksortedI (h : X.K = K := by rfl) : CallR X (.builtin "sorted") (rSortedI K) := by subst h; exact cr_sortedI
theorem kpi_list {tg l : Expr} {tl : TE} (hl : PE X l tl) (h : X.K = K := by rfl) : PI X tg l (iList K tl) := by subst h; exact pi_list hl
theorem kpi_enum {e : Expr} {ta : TA} {p pos tpos : Pos} {elts : List Expr} {kk : Nat} (hg : Gl X "enumerate") (hm : X.mg "enumerate" = none) (ha : PA X [e] ta) (h : X.K = K := by rfl) (hs : starEach [e] X.env = [(false, eval e X.env)] := by rfl) :
    PI X (.Tuple elts kk tpos) (.Call (.Name "enumerate" p) [e] [] pos) (iEnum K ta) := by subst h; exact pi_enum hg hm ha hs
theorem kpg_tup {es : List Expr} {k : Nat} {t : TGs} {n : Nat} {pos : Pos} (hc : X.calm = true) (hp : PGs X es t) (h : X.K = K := by rfl) (hn : (assignEach es X.env).length = n := by rfl) (hst : (assignEach es X.env).findIdx? (·.1) = none := by rfl) :
    PG X (.Tuple es k pos) (gTup K n t) := by subst h; exact pg_tup hc hp hn hst
end
end Bk
set_option Elab.async false
set_option linter.all false
set_option maxRecDepth 100000
set_option maxHeartbeats 4000000
/-! del xs[a:]: a rule of our own over the layer. -/
namespace Bk
open PySem PySem.Spec PyProof.Rows L2
theorem keep_front (a n : Nat) (its : List Value) (hn : its.length = n) (sel : Nat → Bool) (hs : ∀ k, sel k = decide (a ≤ k ∧ k < n)) :
    (its.zipIdx.filterMap fun (x, k) => if sel k then none else some x) = its.take a := by
  have gen : ∀ (l : List Value) (o : Nat), o + l.length = n → (((l.zipIdx o).filterMap fun (x, k) => if sel k then none else some x) = l.take (a - o)) := by
    intro l
    induction l with
    | nil => intro o _; simp
    | cons x r ih =>
      intro o ho
      rw [List.length_cons] at ho
      rw [List.zipIdx_cons, List.filterMap_cons]
      have := ih (o + 1) (by omega)
      rw [this]
      by_cases h : a ≤ o
      · have e : sel o = true := by rw [hs]; exact decide_eq_true ⟨h, by omega⟩
        simp only [e, if_true]
        rw [show a - (o + 1) = 0 by omega, show a - o = 0 by omega]; simp
      · have e : sel o = false := by rw [hs]; exact decide_eq_false (by omega)
        simp only [e, Bool.false_eq_true, if_false]
        rw [show a - o = (a - (o + 1)) + 1 by omega, List.take_succ_cons]
  have := gen its 0 (by omega)
  simpa using this
theorem bounds_tail {a n : Nat} (ha : a ≤ n) : sliceBounds (some (a : Int)) none none n = ((a : Int), (n : Int), 1) := by
  simp only [sliceBounds, Option.getD_none]
  have h1 : ¬ ((a : Int) < 0) := by omega
  simp only [h1, if_false, show (1 : Int) > 0 by decide, if_true]
  congr 1
  omega
section
variable {prog : Program} {w : World} {A : Around} {E : Value → Shared → Prop} {s : Shared}
set_option maxRecDepth 100000 in
theorem delItem_tail {l sl : Addr} {its : List Value} {n : Nat} {vl vu : Value} {a : Nat} {Q : Unit → Shared → Prop}
    (e : s.heap.get? l = some { cls := .type "list", data := .seq its.toArray n }) (hs : s.heap.IsSliceOf sl vl vu .none) (pl : IsPart vl (some (a : Int))) (pu : IsPart vu none)
    (ha : a ≤ its.length) (hz : its.length ≤ sizeLine)
    (h : ∀ f : Array Value → Array Value, f its.toArray = (its.take a).toArray → Q () { s with heap := s.heap.update l (Obj.mapSeq f) }) :
    wpAny (model prog w) A (delItem (.ref l) (.ref sl)) Q E s := by
  have hl : s.heap.IsList l its.toArray := PySem.IsL.isList e
  obtain ⟨os, hos, hcs, hds⟩ := id hs
  have hTs : s.TypeIs (.ref sl) "slice" := ⟨os, hos, hcs⟩
  have nostep : ¬ ((rawPart none == rawInt 0) = true) := Bool.false_ne_true
  have hn : its.toArray.size = its.length := List.size_toArray
  refine wpAny_delItem_slot hl.typeIs (by decide) F.slot_list_delitem ?_
  refine wpAny_call_entry F.slot_list_delitem hl.typeIs F.entry_list_delitem ?_ (F.args_list_delitem_2 _ _)
  show wpAny _ _ (Builtin.List.listSubscript? (.ref sl) >>= _) _ _ s
  refine wpAny_bind ?_
  unfold Builtin.List.listSubscript?
  refine wpAny_bind (wpAny_specialOf hTs slice_no_index ?_)
  simp only [Option.isNone_none, if_true]
  refine wpAny_pure ?_
  show wpAny _ _ (typeOf (.ref sl) >>= _) _ _ s
  refine wpAny_bind (wpAny_typeOf hTs ?_)
  first
    | rw [if_neg (by decide)]
    | refine PySem.W.KFB.if_not (by decide) ?_
  rw [listSliceParts_eq]
  refine wpAny_bind (wpAny_bind (wpAny_field hos hds (x := .none) rfl (wpAny_bind (wpAny_listPart .none ?_))))
  rw [if_neg nostep]
  refine wpAny_bind (wpAny_field hos hds (x := vl) rfl (wpAny_bind (wpAny_listPart pl ?_)))
  refine wpAny_bind (wpAny_field hos hds (x := vu) rfl (wpAny_bind (wpAny_listPart pu (wpAny_pure ?_))))
  dsimp only
  unfold Builtin.List.listItems
  refine wpAny_bind (wpAny_bind (wpAny_seqItems e rfl (wpAny_pure ?_)))
  refine wpAny_bind (wpAny_of_eq ((sliceIndices_raw (some (a : Int)) none none its.toArray.size (by simp)).trans (congrArg (pure : Int × Int × Int → Sem (Int × Int × Int)) (bounds_tail (by omega)))) ?_)
  dsimp only
  refine wpAny_bind (wpAny_rule ?_)
  have hk : ∀ sel : Nat → Bool, (∀ k, sel k = decide (a ≤ k ∧ k < its.length)) → (List.filterMap (fun x : Value × Nat => if sel x.2 = true then none else some x.1) its.toArray.toList.zipIdx).toArray = (its.take a).toArray := fun sel hsel => by
    rw [← keep_front a its.length its rfl sel hsel]
  have hz3 : (its.take a).toArray.size ≤ sizeLine + 1 := by
    rw [List.size_toArray, List.length_take]
    omega
  refine wpAny_bind ?_
  show wpAny _ _ (updateSeq l _) _ _ s
  have hsel : ∀ k : Nat, (if (1 : Int) > 0 then decide ((a : Int) ≤ (k : Int)) && decide ((k : Int) < ((its.toArray.size : Nat) : Int)) && (((k : Int) - (a : Int)) % 1 == 0) else decide (((its.toArray.size : Nat) : Int) < (k : Int)) && decide ((k : Int) ≤ (a : Int)) && (((a : Int) - (k : Int)) % (-1) == 0)) = decide (a ≤ k ∧ k < its.length) := fun k => by
    rw [if_pos (by decide), Int.emod_one, hn]
    have e1 : decide ((a : Int) ≤ (k : Int)) = decide (a ≤ k) := by simp
    have e2 : decide ((k : Int) < (its.length : Int)) = decide (k < its.length) := by simp
    rw [e1, e2, Bool.decide_and]
    simp
  refine wpAny_updateSeq (hz := by rw [hn]; exact hz) (_hz' := ?hz2) e rfl ?_
  case hz2 =>
    refine Nat.le_trans (Nat.le_of_eq (congrArg Array.size ?_)) hz3
    exact hk _ hsel
  refine wpAny_bind (wpAny_letGo ?_)
  first
    | exact wpAny_bind (wpAny_pure (wpAny_pure ⟨.none, rfl, h _ (hk _ hsel)⟩))
    | exact wpAny_pure ⟨.none, rfl, h _ (hk _ hsel)⟩
end
section
variable {X : Cx}
/-- del xs[a:] of a list of ours -/
def tDelTail (to ti : TE) : TS := fun D σ H => to σ H fun x H1 => ti σ H1 fun y H2 => ∃ (l : Addr) (xs : List V) (a : Nat), x = .ref l ∧ y = .int a ∧ H2 l = some (.lst xs) ∧ a ≤ xs.length ∧ D.nx σ (upd H2 l (.lst (xs.take a)))
theorem ps_delTail {o i : Expr} {to ti : TE} {tpos ipos pos : Pos} (ho : PE X o to) (hi : PE X i ti) : PS X (.Delete [.Subscript o (.Slice (some i) none none ipos) tpos] pos) (tDelTail to ti) := by
  refine ⟨fun pins s σ H D I h => ?_⟩
  refine wpAny_Delete (wpAny_deleteEach_cons (wpAny_delete_Subscript (thn (ho.run pins s σ H _ I h) fun u s1 ⟨x, H1, I1, rx, q1⟩ => ?_)))
  refine wpAny_Slice ?_
  rw [evalPart_some, evalPart_none]
  refine thn (hi.run pins s1 σ H1 _ I1 q1) fun iv s2 ⟨y, H2, I2, ry, q2⟩ => ?_
  refine wpAny_pure (wpAny_pure ?_)
  obtain ⟨l, xs, a, ex, ey, hH, ha, q⟩ := q2
  subst ex
  subst ey
  cases (show u = Value.ref l from rx)
  obtain ⟨t, rfl⟩ := (show ∃ t, iv = Value.int a t from ry)
  have I3 : Inv X pins σ H2 { s2 with heap := s2.heap.push { cls := .type "slice", data := .fields #[.int a t, .none, .none] } } := I2.kept (t' := s2.toks) fun b ob q => Heap.get?_push_of_some _ q
  obtain ⟨z, its, n, r, hl, e⟩ := I3.lstM hH
  refine delItem_tail e (Heap.IsSliceOf.new ..) (.int _ _) .none (by omega) (by omega) fun f hf => wpAny_deleteEach_nil ⟨σ, _, ?_, q⟩
  refine I3.lset (its' := its.take a) (t' := s2.toks) hH e hf (r.take a) ?_
  rw [List.length_take]
  omega
end
end Bk
set_option Elab.async false
set_option linter.all false
set_option maxRecDepth 100000
set_option maxHeartbeats 4000000
/-! sorted(xs, key=lambda one: ..) where the lambda captures names: a rule of our own. -/
namespace Bk
open PySem PySem.Spec PyProof.Rows L2 LamX
abbrev keyArgs (p : Pos) : Arguments := { posonlyargs := [], args := [{ arg := "_law_one", annotation := none, pos := p }], vararg := none, kwonlyargs := [], kw_defaults := [], kwarg := none, defaults := [] }
abbrev keyBody (q1 q2 q3 q4 q5 q6 q7 q8 q9 q10 q11 q12 q13 : Pos) : Expr :=
  .BinOp (.BinOp (.BinOp (.Name "_law_one" q1) .Sub (.Name "_law_person" q2) q3) .Mult (.BinOp (.BinOp (.BinOp (.Name "_law_first" q4) .FloorDiv (.Constant (.int 300) 0 q5) q6) .Mod (.Constant (.int 7) 0 q7) q8) .Add (.Constant (.int 1) 0 q9) q10) q11) .Mod (.Constant (.int 61) 0 q12) q13
abbrev keyScope : Scope := { kind := .function, names := [(Str.ofString "_law_one", .local), (Str.ofString "_law_first", .free), (Str.ofString "_law_person", .free)], isGenerator := false, isCoroutine := false, more := [] }
/-- the key of one -/
def keyOf (first person one : Int) : Int := ((one - person) * (first / 300 % 7 + 1)) % 61
section
variable {prog : Program} {w : World} {A : Around} {E : Value → Shared → Prop} {s : Shared}
theorem key_body {env : Env} {first person one : Int} {t1 t2 t3 : Tok} {c1 c2 : Addr} {m : Str → Option Value} {q1 q2 q3 q4 q5 q6 q7 q8 q9 q10 q11 q12 q13 : Pos} {Q : Value → Shared → Prop}
    (hs : env.scope = keyScope) (hn : s.heap.Ns env.locals m) (ho : m "_law_one" = some (.int one t1))
    (l1 : env.cells.lookup (Str.ofString "_law_first") = some c1) (h1 : s.heap.IsCell c1 (some (.int first t2))) (l2 : env.cells.lookup (Str.ofString "_law_person") = some c2) (h2 : s.heap.IsCell c2 (some (.int person t3)))
    (hf : 0 ≤ first ∧ first < 2147483648)
    (h : ∀ tk t, Q (.int (keyOf first person one) t) { s with toks := tk }) :
    wpAny (model prog w) A (eval (keyBody q1 q2 q3 q4 q5 q6 q7 q8 q9 q10 q11 q12 q13) env) Q E s := by
  have hk : env.scope.kind = .function := by rw [hs]
  have k0 : env.kindOf "_law_one" = some .local := by unfold Env.kindOf; rw [hs]; rfl
  have k1 : env.kindOf "_law_first" = some .free := by unfold Env.kindOf; rw [hs]; rfl
  have k2 : env.kindOf "_law_person" = some .free := by unfold Env.kindOf; rw [hs]; rfl
  obtain ⟨hp, g, d, tk, os⟩ := s
  refine wpAny_BinOp (wpAny_BinOp (wpAny_BinOp (wpAny_Name (wpAny_loadName_local hk k0 hn ho ?_) (by decide))))
  refine wpAny_Name (wpAny_loadName_free hk k2 l2 h2 ?_ (by decide)) (by decide)
  refine sub_int ?_
  refine wpAny_BinOp (wpAny_BinOp (wpAny_BinOp (wpAny_Name (wpAny_loadName_free hk k1 l1 h1 ?_ (by decide)) (by decide))))
  refine wpAny_Constant_int ?_
  refine floordiv_int (by decide) ?_ (.inl (PyProof.noPylong_small (by decide)))
  rw [Int.fdiv_eq_ediv_of_nonneg first (by decide)]
  refine wpAny_Constant_int ?_
  refine mod_int' (by decide) ?_
  rw [Int.fmod_eq_emod_of_nonneg _ (by decide)]
  refine wpAny_Constant_int ?_
  refine add_int ?_
  have a1 := Int.emod_nonneg (first / 300) (show (7 : Int) ≠ 0 by decide)
  have a2 := Int.emod_lt_of_pos (first / 300) (show (0 : Int) < 7 by decide)
  refine mul_int ?_ (.of_right (intBits_le_64 (by omega) (by omega)))
  refine wpAny_Constant_int ?_
  refine mod_int' (by decide) ?_
  rw [Int.fmod_eq_emod_of_nonneg _ (by decide)]
  exact h _ _
end
theorem each_ints : ∀ {us : List Value} {ns : List Int}, IntsAre us ns → PySem.W.EachIs (fun v (n : Int) => ∃ t, v = Value.int n t) us ns
  | _, _, .nil => .nil
  | _, _, .cons n t h => .cons ⟨t, rfl⟩ (each_ints h)
theorem ints_each : ∀ {us : List Value} {ns : List Int}, PySem.W.EachIs (fun v (n : Int) => ∃ t, v = Value.int n t) us ns → Vals (ns.map V.int) us
  | _, _, .nil => .nil
  | _, _, .cons h r => .cons h (ints_each r)
section
variable {X : Cx} {T : List (Addr × Str)} {c P : Addr}
def tSortLam (K : PySem.W.Frag) (T : List (Addr × Str)) (i1 i2 : Nat) (te : TE) : TE := fun σ H Q => te σ H fun x H1 => ∃ (a : Addr) (ns : List Int) (first person : Int),
  x = .ref a ∧ SqL K H1 a (ns.map V.int) ∧ σ[i1]? = some (some (.int first)) ∧ σ[i2]? = some (some (.int person)) ∧ 0 ≤ first ∧ first < 2147483648 ∧ Tabs T H1 ∧
  ∀ (ns' : List Int) (H2 : Hp) (p : Addr), ns'.Perm ns → ExtN H1 H2 → Tabs T H2 → H2 p = none → Q (.ref p) (upd H2 p (.lst (ns'.map V.int)))
theorem pe_sortLam {i1 i2 : Nat} {e : Expr} {te : TE} {p1 p2 p3 lpos pos q1 q2 q3 q4 q5 q6 q7 q8 q9 q10 q11 q12 q13 : Pos}
    (hg : Gl X "sorted") (hm : X.mg "sorted" = none) (he : PE X e te) (TB : TabB X.base X.mg c P) (hcode : X.env.code = .ref c)
    (hT : (P, X.env.qual ++ "<lambda>") ∈ T) (hu : ∀ p ∈ T, p.1 = P → p.2 = X.env.qual ++ "<lambda>") (hr : Room 3 X.A)
    (n1 : X.N[i1]? = some (Str.ofString "_law_first")) (n2 : X.N[i2]? = some (Str.ofString "_law_person"))
    (k1 : X.env.scope.names.lookup (Str.ofString "_law_first") = some .cell) (k2 : X.env.scope.names.lookup (Str.ofString "_law_person") = some .cell)
    (hs : backTo pos (starEach [e] X.env) = (false, eval e X.env) :: backTo pos (starEach [] X.env) := by rfl) :
    PE X (.Call (.Name "sorted" p1) [e] [⟨some "key", .Lambda (keyArgs p2) (keyBody q1 q2 q3 q4 q5 q6 q7 q8 q9 q10 q11 q12 q13) keyScope lpos, p3⟩] pos) (tSortLam X.K T i1 i2 te) := by
  refine ⟨fun pins s σ H Q I h => ?_⟩
  refine wpAny_Call_Name_kw (ld_blt (u := .builtin "sorted") I hg hm (by decide +kernel) ?_ (by decide) (by decide))
  refine PyProof.Rows.callWith_kw ?_ hs (by rw [hs]; rfl) (by rfl) (by rfl)
  rw [hs]
  refine Calls.spliced_cons (thn (he.run pins s σ H _ I h) fun u s1 ⟨x, H1, I1, r1, q⟩ => ?_)
  refine Calls.spliced_nil ?_
  obtain ⟨a, ns, first, person, rfl, hS, e1, e2, f0, f1, hTT, q⟩ := q
  obtain rfl : u = Value.ref a := r1
  show wpAny _ _ (evalAll ((do let v ← eval (.Lambda (keyArgs p2) (keyBody q1 q2 q3 q4 q5 q6 q7 q8 q9 q10 q11 q12 q13) keyScope lpos) X.env; standAt pos; pure v) :: [])) _ _ s1
  have has : ∀ y ∈ keyScope.names, y.2 = .free → ∃ c, X.env.cells.lookup y.1 = some c := fun y hy e => by
    have : y = (Str.ofString "_law_one", .local) ∨ y = (Str.ofString "_law_first", .free) ∨ y = (Str.ofString "_law_person", .free) := by simpa using hy
    rcases this with z | z | z <;> subst z
    · cases e
    · exact I.ok.has _ (.inl k1)
    · exact I.ok.has _ (.inl k2)
  refine wpAny_evalAll_cons (wpAny_bind (lam_make2 I1 TB hcode hT hu hTT (by rfl) has fun f c' pm ctv H2 s2 I2 xt T2 hf hfn hfr hc' => wpAny_bind (wpAny_standAt (wpAny_pure ?_))))
  refine wpAny_evalAll_nil ?_
  show wpAny _ _ (call (.builtin "sorted") [.ref a] [(Str.ofString "key", .ref f)]) _ _ s2
  have hS2 : SqL X.K H2 a (ns.map V.int) := by
    rcases hS with (z | ⟨o, z⟩) | z
    · exact .inl (.inl (xt _ _ z (fun ps w => by cases w)))
    · exact .inl (.inr ⟨o, xt _ _ z (fun ps w => by cases w)⟩)
    · exact .inr z
  obtain ⟨its, rv, hl, hz⟩ := I2.list hS2
  have hi := rv.ints
  rw [List.length_map] at hz
  have each := each_ints hi
  have slot : ∀ {i : Nat} {y : Str} {z : Int}, X.N[i]? = some y → σ[i]? = some (some (.int z)) → X.env.scope.names.lookup y = some .cell → ∃ c t, X.env.cells.lookup y = some c ∧ s2.heap.IsCell c (some (.int z t)) := fun {i y z} a1 a2 a3 => by
    obtain ⟨m, _, hm⟩ := I2.loc
    obtain ⟨w, ⟨t, rfl⟩, l⟩ := hm i y _ a1 a2 (.inr (.inl a3))
    rcases l with ⟨l, _⟩ | ⟨_, c, l1, l2⟩
    · have l : X.env.scope.names.lookup y = some .local := l
      rw [a3] at l
      cases l
    · exact ⟨c, t, l1, l2⟩
  obtain ⟨d1, t1, g1, g2⟩ := slot n1 e1 k1
  obtain ⟨d2, t2, g3, g4⟩ := slot n2 e2 k2
  obtain ⟨⟨oc, vs, tq, hoc, hdc, hvc⟩, _, _⟩ := I2.hok c' _ hc'
  refine PySem.W.sorted_key_data (b := false) (fun n : Int => PyData.int (keyOf first person n)) hl.isList each (PySem.W.AllAlike.of fun _ _ => by simp [PySem.W.alike]) (PySem.W.Sortable.others fun n => ⟨fun z => (nomatch z), fun xs z => (nomatch z)⟩) hz (fun n _ => ?_)
    (ksk_s1 _ _) (fun _ => ksk_l1 _ _) (fun _ => ksk_t1 _ _) (fun v n ⟨t, ev⟩ _ h tk kp => ?_) fun out cc h' tk kp fresh hD hlen eo => ?_
  · have := hr.un
    have hd : (PyData.int (keyOf first person n)).depth = 0 := by simp [PyData.depth]
    omega
  · subst ev
    refine wpAny_call (PySem.W.kla_callFunE hr.depth (kp _ _ hf) rfl rfl rfl rfl ⟨c', oc, vs, tq, rfl, kp _ _ hoc, hdc, hvc⟩ ?_)
    rw [show bindArgs (PySem.W.kla_fn "<lambda>" (X.env.qual ++ "<lambda>") (keyArgs p2) (keyBody q1 q2 q3 q4 q5 q6 q7 q8 q9 q10 q11 q12 q13) keyScope (cloFrom X.env.cells keyScope.names []) pm (.ref c') ctv) ⟨[.int n t], []⟩ = pure [(Str.ofString "_law_one", Value.int n t)] from rfl]
    refine wpAny_pure (wpAny_newFunctionEnv (fun y hy => ?_) (fun y hy => ?_) (fun h₁ hns hsb => ⟨(I2.nolimit.keeps kp).fresh _ hsb, ?_⟩) rfl)
    · have : y = (Str.ofString "_law_one", .local) ∨ y = (Str.ofString "_law_first", .free) ∨ y = (Str.ofString "_law_person", .free) := by simpa using hy
      rcases this with z | z | z <;> subst z <;> (intro z; cases z)
    · have : y = (Str.ofString "_law_one", Value.int n t) := by simpa using hy
      subst this
      rfl
    · show codeAny _ _ (.expr (keyBody q1 q2 q3 q4 q5 q6 q7 q8 q9 q10 q11 q12 q13) (PySem.W.envX (X.env.qual ++ "<lambda>") keyScope h.objs.size f (.ref c') (cloFrom X.env.cells keyScope.names []))) _ _
      have hk1 : ∀ b o, h.get? b = some o → h₁.get? b = some o := fun b o e => hsb.extBut b o (Nat.ne_of_lt (Heap.lt_size e)) (Heap.get?_push_of_some _ e)
      have cellK : ∀ {c : Addr} {v : Value}, s2.heap.IsCell c (some v) → h₁.IsCell c (some v) := fun {c v} ⟨o, ho, hd⟩ => ⟨o, hk1 _ _ (kp _ _ ho), hd⟩
      refine PySem.W.kla_codeExpr (key_body (s := { s2 with heap := h₁, toks := tk + ([(Str.ofString "_law_one", Value.int n t)] : List (Str × Value)).length }) (c1 := d1) (c2 := d2) (one := n) (t1 := t) (t2 := t1) (t3 := t2) rfl hns rfl ?_ (cellK g2) ?_ (cellK g4) ⟨f0, f1⟩ fun tk' t' => ?_)
      · show List.lookup (Str.ofString "_law_first") (cloFrom X.env.cells keyScope.names []) = some d1
        rw [show List.lookup (Str.ofString "_law_first") (cloFrom X.env.cells keyScope.names []) = some ((X.env.cells.lookup (Str.ofString "_law_first")).getD 0) from rfl, g1]
        rfl
      · show List.lookup (Str.ofString "_law_person") (cloFrom X.env.cells keyScope.names []) = some d2
        rw [show List.lookup (Str.ofString "_law_person") (cloFrom X.env.cells keyScope.names []) = some ((X.env.cells.lookup (Str.ofString "_law_person")).getD 0) from rfl, g3]
        rfl
      · exact ⟨h₁, tk', rfl, hk1, .int _ _⟩
  · have perm := List.mergeSort_perm ns (PySem.W.dataLe false fun n : Int => PyData.int (keyOf first person n))
    have hn : H2 (s2.heap.objs.size + 1) = none := I2.hok.fresh (Nat.le_succ _)
    refine ⟨.ref (s2.heap.objs.size + 1), upd H2 (s2.heap.objs.size + 1) (.lst ((ns.mergeSort (PySem.W.dataLe false fun n : Int => PyData.int (keyOf first person n))).map V.int)), I2.laidN (t' := tk) kp fresh hn ⟨?_, out, cc, ints_each eo, hD⟩, rfl, q _ _ _ perm xt T2 hn⟩
    rw [List.length_map, perm.length_eq]
    exact hz
end
end Bk
set_option Elab.async false
set_option linter.all false
namespace Bk
open PySem PySem.Spec PyProof.Rows L2 LamX
theorem wipe1_set (σ : L2.St) (k : Nat) (v : Option V) (hk : k < σ.length) : wipe ((wipe σ [k]).set k v) [k] = wipe σ [k] := by
  show ((σ.set k none).set k v).set k none = σ.set k none
  rw [List.set_set, List.set_set]
/-- [x for x in row if keep x], over numbers -/
theorem lc_keep {K : PySem.W.Frag} {a D : Addr} {k : Nat} {σ : L2.St} {H1 : Hp} {tt : TT} {Qd : Hp → Prop} {r : List Nat} (keep : Nat → Bool) (hD : H1 D = none) (src : SqL K H1 a (r.map nv)) (hk : k < σ.length) (hl : r.length ≤ 100000)
    (ht : ∀ x ∈ r, ∀ H Qt, Same H1 H → Qt (keep x) H → tt ((wipe σ [k]).set k (some (nv x))) H Qt) (hd : Qd (upd H1 D (.lst ((r.filter keep).map nv)))) :
    ∃ W : Nat → Nat → Hp → Prop, (∃ m, W 0 m (upd H1 D (.lst []))) ∧ ∀ i m H, W i m H →
      ((Itl K a).stop i H ∧ Qd H) ∨ ((Itl K a).go i H ∧ ∃ Nx : Hp → Prop, (∀ H', Nx H' → ∃ m', m' < m ∧ W (i + 1) m' H') ∧ ∀ x H', (Itl K a).yld i H x H' → gName k x (wipe σ [k]) H' fun σ2 H2 => wipe σ2 [k] = wipe σ [k] ∧ tt σ2 H2 fun b H3 =>
        if b = true then tVar k σ2 H3 fun y H4 => ∃ acc, H4 D = some (.lst acc) ∧ acc.length < sizeLine ∧ Nx (upd H4 D (.lst (acc ++ [y]))) else Nx H3) := by
  refine lc_list (K := K) (a := a) (xs := r.map nv) (fun i H => H = upd H1 D (.lst (((r.take i).filter keep).map nv))) rfl (fun i H _ e => ?_) (fun i x H hx e => ?_) (fun H e => ?_)
  · subst e; exact (same_upd hD).seq src
  · subst e
    rw [List.getElem?_map] at hx
    obtain ⟨z, hz, rfl⟩ := Option.map_eq_some_iff.mp hx
    have hm := List.mem_of_getElem? hz
    refine ⟨wipe1_set σ k _ hk, ht z hm _ _ (same_upd hD) ?_⟩
    have et : r.take (i + 1) = r.take i ++ [z] := by rw [List.take_add_one, hz]; rfl
    cases hkz : keep z with
    | true =>
      refine iteT ⟨nv z, ?_, _, upd_same, ?_, ?_⟩
      · rw [List.getElem?_set_self (by rw [wipe_length]; exact hk)]
      · rw [List.length_map]
        refine small (Nat.le_trans (List.length_filter_le _ _) ?_)
        rw [List.length_take]; omega
      · rw [upd_upd, et, List.filter_append, List.map_append]
        simp [hkz]
    | false =>
      refine iteF ?_
      rw [et, List.filter_append]
      simp [hkz]
  · subst e
    rw [List.length_map, List.take_length]
    exact hd
theorem for_rng {lo : Int} {n : Nat} (m : Nat) (e : n = m) {g : TG} {tb : TS} {D : Ends} {σ : L2.St} {H : Hp} (Pv : Nat → L2.St → Hp → Prop) (h0 : Pv 0 σ H)
    (hs : ∀ i σ H, i < m → Pv i σ H → g (.int (lo + i)) σ H fun σ2 H2 => tb { D with nx := Pv (i + 1), ct := Pv (i + 1), bk := D.nx } σ2 H2) (hd : ∀ σ H, Pv m σ H → D.nx σ H) :
    ∃ W : Nat → Nat → L2.St → Hp → Prop, (∃ m, W 0 m σ H) ∧ ∀ i m σ H, W i m σ H →
      ((Itr lo n).stop i H ∧ D.nx σ H) ∨ ((Itr lo n).go i H ∧ ∃ N : L2.St → Hp → Prop, (∀ σ' H', N σ' H' → ∃ m', m' < m ∧ W (i + 1) m' σ' H') ∧ ∀ x H', (Itr lo n).yld i H x H' → g x σ H' fun σ2 H2 => tb { D with nx := N, ct := N, bk := D.nx } σ2 H2) := by
  subst e
  exact for_range Pv h0 hs hd
theorem lc_rng {lo : Int} {n : Nat} (m : Nat) (e : n = m) {g : TG} {tt : TT} {te : TE} {vs : List Nat} {σ : L2.St} {H1 : Hp} {D : Addr} {Qd : Hp → Prop} (Pv : Nat → Hp → Prop) (h0 : Pv 0 (upd H1 D (.lst [])))
    (hs : ∀ i H, i < m → Pv i H → g (.int (lo + i)) (wipe σ vs) H fun σ2 H2 => wipe σ2 vs = wipe σ vs ∧ tt σ2 H2 fun b H3 =>
      if b = true then te σ2 H3 fun y H4 => ∃ acc, H4 D = some (.lst acc) ∧ acc.length < sizeLine ∧ Pv (i + 1) (upd H4 D (.lst (acc ++ [y]))) else Pv (i + 1) H3) (hd : ∀ H, Pv m H → Qd H) :
    ∃ W : Nat → Nat → Hp → Prop, (∃ m, W 0 m (upd H1 D (.lst []))) ∧ ∀ i m H, W i m H →
      ((Itr lo n).stop i H ∧ Qd H) ∨ ((Itr lo n).go i H ∧ ∃ Nx : Hp → Prop, (∀ H', Nx H' → ∃ m', m' < m ∧ W (i + 1) m' H') ∧ ∀ x H', (Itr lo n).yld i H x H' → g x (wipe σ vs) H' fun σ2 H2 => wipe σ2 vs = wipe σ vs ∧ tt σ2 H2 fun b H3 =>
        if b = true then te σ2 H3 fun y H4 => ∃ acc, H4 D = some (.lst acc) ∧ acc.length < sizeLine ∧ Nx (upd H4 D (.lst (acc ++ [y]))) else Nx H3) := by
  subst e
  exact lc_range Pv h0 hs hd
theorem toNat_len {α : Type} (l : List α) : ((l.length : Nat) : Int).toNat = l.length := rfl
theorem z62 {n : Nat} (h : n ≤ 100000) : -(2 ^ 62) ≤ (n : Int) ∧ (n : Int) < 2 ^ 62 := by omega
theorem Tbl.fresh {H : Hp} {t : Addr} {as : List Addr} {rows : List (List Nat)} (T : Tbl H t as rows) {D : Addr} (hD : H D = none) : D ∉ as ∧ D ≠ t := by
  refine ⟨fun z => ?_, fun z => ?_⟩
  · obtain ⟨j, hj, ej⟩ := List.getElem_of_mem z
    have hj2 : j < rows.length := by rw [← T.len]; exact hj
    have : H D = _ := T.row j D _ (by rw [List.getElem?_eq_getElem hj, ej]) (List.getElem?_eq_getElem hj2)
    rw [hD] at this
    cases this
  · have := T.top
    rw [← z, hD] at this
    cases this
theorem yesI {σ : L2.St} {H : Hp} {f g : Hp → Prop} (h : f H) : tYes σ H (fun b H3 => if b = true then f H3 else g H3) := by
  show (if true = true then f H else g H)
  exact iteT h
end Bk
set_option Elab.async false
set_option linter.all false
namespace Bk
open PySem PySem.Spec PyProof.Rows L2 LamX
/-! ### rows by a function -/
def mkL (n : Nat) (f : Nat → List Nat) : List (List Nat) := (List.range n).map f
theorem mkL_len (n : Nat) (f : Nat → List Nat) : (mkL n f).length = n := by simp [mkL]
theorem mkL_at {n i : Nat} {f : Nat → List Nat} (h : i < n) : (mkL n f)[i]? = some (f i) := by simp [mkL, h]
theorem fn_mkL {n i : Nat} {f : Nat → List Nat} (h : i < n) : fn (mkL n f) i = f i := fn_of (mkL_at h)
theorem mkL_set {n i : Nat} (f : Nat → List Nat) (v : List Nat) : (mkL n f).set i v = mkL n (fun j => if j = i then v else f j) := by
  apply List.ext_getElem?
  intro j
  by_cases hj : j < n
  · rw [mkL_at hj]
    by_cases e : j = i
    · subst e
      rw [List.getElem?_set_self (by rw [mkL_len]; exact hj), if_pos rfl]
    · rw [List.getElem?_set_ne (Ne.symm e), mkL_at hj, if_neg e]
  · rw [List.getElem?_eq_none (by rw [List.length_set, mkL_len]; omega), List.getElem?_eq_none (by rw [mkL_len]; omega)]
theorem mkL_congr {n : Nat} {f g : Nat → List Nat} (h : ∀ i, i < n → f i = g i) : mkL n f = mkL n g := by
  unfold mkL
  exact List.map_congr_left fun i hi => h i (List.mem_range.mp hi)
theorem mkL_fn (rows : List (List Nat)) : mkL rows.length (fn rows) = rows := by
  apply List.ext_getElem?
  intro j
  by_cases hj : j < rows.length
  · rw [mkL_at hj, fn_at hj]
  · rw [List.getElem?_eq_none (by rw [mkL_len]; omega), List.getElem?_eq_none (by omega)]
theorem mutL_mkL (rows : List (List Nat)) : mutL rows = mkL rows.length (mutF rows) := rfl
theorem cutV_drop (xs : List V) (k : Nat) : cutV xs (some (k : Int)) none = xs.drop k := by
  unfold cutV
  rw [HT.sIx_nat, HT.sIx_none]
  by_cases h : k ≤ xs.length
  · rw [Nat.min_eq_left h]
    exact List.take_of_length_le (by rw [List.length_drop]; exact Nat.le_refl _)
  · rw [Nat.min_eq_right (by omega), List.drop_of_length_le (Nat.le_refl _), List.drop_of_length_le (by omega)]
    simp
theorem cutV_take (xs : List V) (k : Nat) : cutV xs none (some (k : Int)) = xs.take k := by
  unfold cutV
  rw [HT.sIx_nat, HT.sIx_none]
  rw [List.drop_zero, Nat.sub_zero]
  by_cases h : k ≤ xs.length
  · rw [Nat.min_eq_left h]
  · rw [Nat.min_eq_right (by omega), List.take_of_length_le (Nat.le_refl _), List.take_of_length_le (by omega)]
theorem before_idx : ∀ {r : List Nat} {m x : Nat}, m < r.idxOf x → r[m]? ≠ some x
  | [], m, x, h => by simp
  | y :: r, 0, x, h => by
    intro e
    simp at e
    subst e
    simp at h
  | y :: r, m + 1, x, h => by
    by_cases e : y = x
    · subst e; simp at h
    · rw [idx_ne _ e] at h
      rw [List.getElem?_cons_succ]
      exact before_idx (by omega)
theorem erase_idx : ∀ {r : List Nat} {x : Nat}, x ∈ r → r.eraseIdx (r.idxOf x) = r.erase x
  | [], x, h => by simp at h
  | y :: r, x, h => by
    by_cases e : y = x
    · subst e; simp
    · rw [idx_ne _ e, List.erase_cons_tail (by simpa using e), List.eraseIdx_cons_succ, erase_idx ((List.mem_cons.mp h).resolve_left (Ne.symm e))]
/-- what list.index is asked, of numbers -/
theorem index_nv {K : PySem.W.Frag} {H : Hp} {a : Addr} {r : List Nat} {x : Nat} {Q : VK} (ha : SqL K H a (r.map nv)) (hx : x ∈ r) (q : Q (nv (r.idxOf x)) H) : rIndex K (.ref a) [nv x] H Q := by
  have hl := idxOf_lt_of_mem hx
  refine ⟨a, r.map nv, nv x, r.idxOf x, nv x, rfl, rfl, ha, rfl, flat_nv _, ?_, ?_, fun m z hm hz => ?_, q⟩
  · rw [List.getElem?_map, List.getElem?_eq_getElem hl, List.getElem_idxOf]; rfl
  · show decide ((x : Int) = (x : Int)) = true; simp
  · rw [List.getElem?_map] at hz
    obtain ⟨y, hy, rfl⟩ := Option.map_eq_some_iff.mp hz
    obtain ⟨hm2, ey⟩ := List.getElem?_eq_some_iff.mp hy
    have : y ≠ x := fun e => before_idx hm (by rw [hy, e])
    show decide ((y : Int) = (x : Int)) = false
    exact decide_eq_false (by omega)
/-- what list.remove is asked, of numbers -/
theorem remove_nv {H : Hp} {a : Addr} {r : List Nat} {x : Nat} {Q : VK} (ha : RowAt H a r) (hx : x ∈ r) (q : Q .non (upd H a (.lst ((r.erase x).map nv)))) : rRemI (.ref a) [nv x] H Q := by
  have hl := idxOf_lt_of_mem hx
  have hmap : ∀ l : List Nat, (l.map Int.ofNat).map V.int = l.map nv := fun l => by rw [List.map_map]; rfl
  refine ⟨a, r.map Int.ofNat, (x : Int), r.idxOf x, rfl, rfl, by rw [hmap]; exact ha, ?_, fun m hm hz => ?_, ?_⟩
  · rw [List.getElem?_map, List.getElem?_eq_getElem hl, List.getElem_idxOf]; rfl
  · rw [List.getElem?_map] at hz
    obtain ⟨y, hy, ey⟩ := Option.map_eq_some_iff.mp hz
    have : y = x := Int.ofNat.inj ey
    exact before_idx hm (by rw [hy, this])
  · have e : (r.map Int.ofNat).eraseIdx (r.idxOf x) = (r.erase x).map Int.ofNat := by
      rw [← erase_idx hx]
      apply List.ext_getElem?
      intro j
      rw [List.getElem?_map, List.getElem?_eraseIdx, List.getElem?_eraseIdx]
      split <;> rw [List.getElem?_map]
    rw [e, hmap]
    exact q
/-! ### somebody or nobody -/
def ov : Option Nat → V
  | none => .non
  | some n => nv n
/-- who holds whom, as a list -/
def hL (n : Nat) (h : Nat → Option Nat) : List V := (List.range n).map fun i => ov (h i)
theorem hL_len (n : Nat) (h : Nat → Option Nat) : (hL n h).length = n := by simp [hL]
theorem hL_at {n i : Nat} {h : Nat → Option Nat} (hi : i < n) : (hL n h)[i]? = some (ov (h i)) := by simp [hL, hi]
theorem hL_set {n b p : Nat} (h : Nat → Option Nat) (hb : b < n) : (hL n h).set b (nv p) = hL n (hold h b p) := by
  apply List.ext_getElem?
  intro j
  by_cases hj : j < n
  · rw [hL_at hj]
    unfold hold
    by_cases e : j = b
    · subst e
      rw [List.getElem?_set_self (by rw [hL_len]; exact hj), if_pos rfl]
      rfl
    · rw [List.getElem?_set_ne (Ne.symm e), hL_at hj, if_neg e]
  · rw [List.getElem?_eq_none (by rw [List.length_set, hL_len]; omega), List.getElem?_eq_none (by rw [hL_len]; omega)]
theorem hL_none (n : Nat) : (List.replicate n [V.non]).flatten = hL n fun _ => none := by
  induction n with
  | zero => rfl
  | succ n ih =>
    have e : hL (n + 1) (fun _ => none) = hL n (fun _ => none) ++ [V.non] := by
      simp only [hL, List.range_succ, List.map_append]
      rfl
    rw [e, ← ih, List.replicate_succ', List.flatten_append]
    rfl
theorem rgV_nv (n : Nat) : rgV 0 (n : Int) = (List.range n).map nv := by
  unfold rgV
  rw [show ((n : Int) - 0).toNat = n by omega]
  apply List.map_congr_left
  intro i _
  show V.int (0 + (i : Int)) = nv i
  rw [Int.zero_add]
theorem ixN_nat {n b : Nat} (h : b < n) : ixN n (b : Int) = some b := by
  unfold ixN
  rw [if_pos (by omega), if_pos (by omega)]
  simp
theorem isNon_ov (o : Option Nat) : decide (ov o = V.non) = o.isNone := by cases o <;> rfl
/-! ### truth -/
def tTru (K : PySem.W.Frag) (ta : TE) : TT := fun σ H Q => ta σ H fun x H' => ∃ k, TruV K x H' k ∧ Q k H'
section
variable {X : Cx} {K : PySem.W.Frag} {a : Expr} {ta : TE}
theorem kpt_tru (ha : PE X a ta) (he : ∀ whole, PySem.isTrue a X.env whole = (do let v ← whole; standAt a.pos; holding [v] (truthy v)) := by intro _; rfl) (h : X.K = K := by rfl) : PT X a (tTru K ta) := by
  subst h
  exact pt_truth ha he
end
theorem tru_list {K : PySem.W.Frag} {H : Hp} {a : Addr} {xs : List V} {Q : Bool → Hp → Prop} (h : SqL K H a xs) (q : Q (!xs.isEmpty) H) : ∃ k, TruV K (.ref a) H k ∧ Q k H := ⟨_, .inl ⟨xs, h, rfl⟩, q⟩
/-! ### a def whose code object is known -/
structure FunC (K : PySem.W.Frag) (x : Str) (st : Stmt) (f : Addr) (fd : FuncData) (c : Addr) : Prop where
  ex : ∃ (oc : Value) (od : Option Addr) (kV doc pm : Value) (an : Option Addr) (ct : Value) (osl : Array (Option Value)),
    fd = PySem.W.fnOf x x (defArgs st) (defBody st) (defScope st) .none kV doc pm an (.ref c) ct ∧ K.lookup f = some ⟨oc, od, .func fd, osl⟩ ∧ PySem.W.codeIn K (.ref c) x = true
theorem FunC.ok {P : Program} {w : World} {K : PySem.W.Frag} {mg : Str → Option Value} {base : Heap} {x : Str} {st : Stmt} {f c : Addr} {fd : FuncData} {N ps : List Str} {k : Nat} {sp : Sp} (F : FunC K x st f fd c) (S : FnScope N ps (defScope st)) (len : ∀ vs H Q E, sp vs H Q E → vs.length = ps.length)
    (hbody : ∀ (A : Around) (outer : List Env) (s : Shared) (H : Hp) (vs : List V) (Q : VK) (E : XK), Room k (A.deeper (envOfC x (defScope st) s.heap.objs.size f (.ref c))) → sp vs H Q E →
      ∃ t, PSs (cxOf CX0 P w K mg base N x (defScope st) f (.ref c) A outer s H E).nox (defBody st) t ∧ t { nx := fun _ H' => Q .non H', rt := Q } (L2.start N vs) H) : FnOk P w K mg base CX0 (k + 1) f fd ps sp := by
  obtain ⟨oc, od, kV, doc, pm, an, ct, osl, rfl, lk, hcd⟩ := F.ex
  refine L2.fn_of lk hcd S len fun A outer s H vs Q E hr hsp => ?_
  obtain ⟨t, h, q⟩ := hbody A outer s H vs Q E hr hsp
  exact ⟨t, h.nox, q⟩
end Bk
set_option Elab.async false
set_option linter.all false
namespace Bk
open PySem PySem.Spec PyProof.Rows L2 LamX
/-! ### numbers, rows and tables compared -/
theorem dp_ints {K : PySem.W.Frag} {H : Hp} : ∀ ns : List Int, DpAll K H (ns.map V.int) (ns.map PyData.int)
  | [] => .nil
  | n :: r => .cons (.int n) (dp_ints r)
theorem lay_ints : ∀ ns : List Int, PyData.canLayAll0 (ns.map PyData.int) = true ∧ PyData.depthAll (ns.map PyData.int) = 0
  | [] => by simp [PyData.canLayAll0, PyData.depthAll]
  | n :: r => by
    have := lay_ints r
    simp only [List.map_cons, PyData.canLayAll0, PyData.canLay0, PyData.depthAll, PyData.depth, this.1, this.2]
    decide
theorem eqv_ints : ∀ ns ms : List Int, PyData.eqvAll (ns.map PyData.int) (ms.map PyData.int) = decide (ns = ms)
  | [], [] => by simp [PyData.eqvAll]
  | [], _ :: _ => by simp [PyData.eqvAll]
  | _ :: _, [] => by simp [PyData.eqvAll]
  | n :: r, m :: q => by
    simp only [List.map_cons, PyData.eqvAll, PyData.eqv, eqv_ints r q]
    by_cases h : n = m <;> simp [h]
/-- somebody or nobody, as data -/
def dO : Option Nat → PyData
  | none => .none
  | some n => .int n
def dRow (r : List Nat) : PyData := .list ((r.map Int.ofNat).map PyData.int)
def dTbl (rows : List (List Nat)) : PyData := .list (rows.map dRow)
def dPair (m : List (Option Nat)) : PyData := .list (m.map dO)
theorem shaped_row (r : List Nat) : SeqAt.shaped (dRow r) = true := by
  have := lay_ints (r.map Int.ofNat)
  unfold SeqAt.shaped dRow
  simp only [PyData.canLay0, PyData.depth, this.1, this.2]
  decide
theorem shaped_tbl (rows : List (List Nat)) : SeqAt.shaped (dTbl rows) = true := by
  have h : ∀ rs : List (List Nat), PyData.canLayAll0 (rs.map dRow) = true ∧ PyData.depthAll (rs.map dRow) ≤ 1 := fun rs => by
    induction rs with
    | nil => simp [PyData.canLayAll0, PyData.depthAll]
    | cons r rs ih =>
      have := lay_ints (r.map Int.ofNat)
      simp only [List.map_cons, PyData.canLayAll0, PyData.depthAll, dRow, PyData.canLay0, PyData.depth, this.1, this.2, ih.1]
      exact ⟨rfl, by omega⟩
  have := h rows
  unfold SeqAt.shaped dTbl
  simp only [PyData.canLay0, PyData.depth, this.1, Bool.true_and]
  exact decide_eq_true (by omega)
theorem shaped_pair (m : List (Option Nat)) : SeqAt.shaped (dPair m) = true := by
  have h : ∀ rs : List (Option Nat), PyData.canLayAll0 (rs.map dO) = true ∧ PyData.depthAll (rs.map dO) = 0 := fun rs => by
    induction rs with
    | nil => simp [PyData.canLayAll0, PyData.depthAll]
    | cons r rs ih => cases r <;> simp [PyData.canLayAll0, PyData.depthAll, dO, PyData.canLay0, PyData.depth, ih.1, ih.2]
  have := h m
  unfold SeqAt.shaped dPair
  simp only [PyData.canLay0, PyData.depth, this.1, this.2]
  decide
theorem eqv_row (r q : List Nat) : PyData.eqv (dRow r) (dRow q) = decide (r = q) := by
  unfold dRow
  simp only [PyData.eqv, eqv_ints]
  by_cases h : r = q
  · subst h; simp
  · rw [decide_eq_false h]
    refine decide_eq_false fun z => h ?_
    exact List.map_inj_right (fun x y e => Int.ofNat.inj e) |>.mp z
theorem eqv_tbl (rows cols : List (List Nat)) : PyData.eqv (dTbl rows) (dTbl cols) = decide (rows = cols) := by
  have h : ∀ rs qs : List (List Nat), PyData.eqvAll (rs.map dRow) (qs.map dRow) = decide (rs = qs) := fun rs => by
    induction rs with
    | nil => intro qs; cases qs <;> simp [PyData.eqvAll]
    | cons r rs ih =>
      intro qs
      cases qs with
      | nil => simp [PyData.eqvAll]
      | cons q qs =>
        simp only [List.map_cons, PyData.eqvAll, eqv_row, ih]
        by_cases h : r = q <;> simp [h]
  unfold dTbl
  simp only [PyData.eqv, h]
theorem eqv_pair (m k : List (Option Nat)) : PyData.eqv (dPair m) (dPair k) = decide (m = k) := by
  have h : ∀ rs qs : List (Option Nat), PyData.eqvAll (rs.map dO) (qs.map dO) = decide (rs = qs) := fun rs => by
    induction rs with
    | nil => intro qs; cases qs <;> simp [PyData.eqvAll]
    | cons r rs ih =>
      intro qs
      cases qs with
      | nil => simp [PyData.eqvAll]
      | cons q qs =>
        simp only [List.map_cons, PyData.eqvAll, ih]
        cases r with
        | none => cases q <;> simp [dO, PyData.eqv]
        | some a =>
          cases q with
          | none => simp [dO, PyData.eqv]
          | some b =>
            simp only [dO, PyData.eqv]
            by_cases e : a = b
            · subst e; simp
            · have : ¬ (a : Int) = (b : Int) := by omega
              simp [e, this]
  unfold dPair
  simp only [PyData.eqv, h]
section
variable {K : PySem.W.Frag} {H : Hp}
theorem dp_row {a : Addr} {r : List Nat} (h : SqL K H a (r.map nv)) : Dp K H (.ref a) (dRow r) := by
  refine .lst h ?_
  rw [map_nv]
  exact dp_ints _
theorem dp_tbl {t : Addr} {as : List Addr} {rows : List (List Nat)} (T : Tbl H t as rows) : Dp K H (.ref t) (dTbl rows) := by
  refine .lst (SqL.of T.top) ?_
  have h : ∀ (l : List Addr) (rs : List (List Nat)), l.length = rs.length → (∀ (i : Nat) (a : Addr) (r : List Nat), l[i]? = some a → rs[i]? = some r → RowAt H a r) → DpAll K H (l.map V.ref) (rs.map dRow) := fun l => by
    induction l with
    | nil => intro rs e _; cases rs with
      | nil => exact .nil
      | cons _ _ => simp at e
    | cons a l ih =>
      intro rs e hr
      cases rs with
      | nil => simp at e
      | cons r rs =>
        refine .cons (dp_row (SqL.of (hr 0 a r rfl rfl))) (ih rs (by simpa using e) fun i b q h1 h2 => hr (i + 1) b q (by simpa using h1) (by simpa using h2))
  exact h as rows T.len T.row
theorem dp_pair {a : Addr} {m : List (Option Nat)} (h : SqL K H a (m.map ov)) : Dp K H (.ref a) (dPair m) := by
  refine .lst h ?_
  have h : ∀ l : List (Option Nat), DpAll K H (l.map ov) (l.map dO) := fun l => by
    induction l with
    | nil => exact .nil
    | cons x l ih => cases x <;> exact .cons (by first | exact .non | exact .int _) ih
  exact h m
theorem ne_ints {a p : Addr} {ns : List Int} {Q : VK} (h : SqL K H a (ns.map V.int)) (hp : H p = some (.lst [])) (q : Q (.bl (!decide (ns = []))) H) : rNeD K (.ref a) (.ref p) H Q := by
  refine ⟨.list (ns.map PyData.int), .list [], .lst h (dp_ints ns), .lst (SqL.of hp) .nil, ?_, by decide, ?_⟩
  · have := lay_ints ns
    unfold SeqAt.shaped
    simp only [PyData.canLay0, PyData.depth, this.1, this.2]
    decide
  · have : PyData.eqv (.list (ns.map PyData.int)) (.list []) = decide (ns = []) := by
      have := eqv_ints ns []
      simp only [PyData.eqv]
      exact this
    rw [this]
    exact q
theorem ne_row {a b : Addr} {r s : List Nat} {Q : VK} (h : SqL K H a (r.map nv)) (h' : SqL K H b (s.map nv)) (q : Q (.bl (!decide (r = s))) H) : rNeD K (.ref a) (.ref b) H Q :=
  ⟨dRow r, dRow s, dp_row h, dp_row h', shaped_row r, shaped_row s, by rw [eqv_row]; exact q⟩
theorem eq_row {a b : Addr} {r s : List Nat} {Q : VK} (h : SqL K H a (r.map nv)) (h' : SqL K H b (s.map nv)) (q : Q (.bl (decide (r = s))) H) : rEqD K (.ref a) (.ref b) H Q :=
  ⟨dRow r, dRow s, dp_row h, dp_row h', shaped_row r, shaped_row s, by rw [eqv_row]; exact q⟩
theorem ne_tbl {a b : Addr} {as bs : List Addr} {r s : List (List Nat)} {Q : VK} (h : Tbl H a as r) (h' : Tbl H b bs s) (q : Q (.bl (!decide (r = s))) H) : rNeD K (.ref a) (.ref b) H Q :=
  ⟨dTbl r, dTbl s, dp_tbl h, dp_tbl h', shaped_tbl r, shaped_tbl s, by rw [eqv_tbl]; exact q⟩
theorem eq_tbl {a b : Addr} {as bs : List Addr} {r s : List (List Nat)} {Q : VK} (h : Tbl H a as r) (h' : Tbl H b bs s) (q : Q (.bl (decide (r = s))) H) : rEqD K (.ref a) (.ref b) H Q :=
  ⟨dTbl r, dTbl s, dp_tbl h, dp_tbl h', shaped_tbl r, shaped_tbl s, by rw [eqv_tbl]; exact q⟩
end
end Bk
set_option Elab.async false
set_option linter.all false
namespace Bk
open PySem PySem.Spec PyProof.Rows L2 LamX
theorem nodup_set {as : List Addr} (hd : as.Nodup) {D : Addr} (hD : D ∉ as) : ∀ (i : Nat), (as.set i D).Nodup := fun i => by
  induction as generalizing i with
  | nil => simp
  | cons b r ih =>
    have hd' := List.nodup_cons.mp hd
    cases i with
    | zero =>
      rw [List.set_cons_zero, List.nodup_cons]
      exact ⟨fun z => hD (List.mem_cons_of_mem _ z), hd'.2⟩
    | succ i =>
      rw [List.set_cons_succ, List.nodup_cons]
      refine ⟨fun z => ?_, ih hd'.2 (fun z => hD (List.mem_cons_of_mem _ z)) i⟩
      rcases List.mem_or_eq_of_mem_set z with z | z
      · exact hd'.1 z
      · exact hD (by rw [← z]; exact List.mem_cons_self)
/-- another object in the place of a row -/
theorem Tbl.replace {H : Hp} {t : Addr} {as : List Addr} {rows : List (List Nat)} (T : Tbl H t as rows) {one : Nat} {D : Addr} {r : List Nat} (h1 : one < rows.length) (f1 : D ∉ as) (f2 : D ≠ t) (hr : RowAt H D r) :
    Tbl (upd H t (.lst ((as.map V.ref).set one (.ref D)))) t (as.set one D) (rows.set one r) := by
  have hol : one < as.length := by rw [T.len]; exact h1
  refine ⟨?_, by simp [T.len], nodup_set T.nd f1 one, ?_, fun i b q e1 e3 => ?_⟩
  · rw [upd_same, List.map_set]
  · intro z
    rcases List.mem_or_eq_of_mem_set z with z | z
    · exact T.out z
    · exact f2 z.symm
  · have nb : b ≠ t := by
      rintro rfl
      rcases List.mem_or_eq_of_mem_set (List.mem_of_getElem? e1) with z | z
      · exact T.out z
      · exact f2 z.symm
    show upd H t _ b = _
    rw [upd_ne nb]
    by_cases e : i = one
    · subst e
      rw [List.getElem?_set_self hol] at e1
      rw [List.getElem?_set_self h1] at e3
      cases e1; cases e3
      exact hr
    · rw [List.getElem?_set_ne (Ne.symm e)] at e1 e3
      exact T.row i b q e1 e3
theorem gl_set {rows : List (List Nat)} (g : GL rows) {one : Nat} {r : List Nat} (hd : r.Nodup) (hin : ∀ x ∈ r, x < rows.length ∧ x ≠ one) : GL (rows.set one r) := ⟨fun i q h => by
  rw [List.length_set]
  by_cases e : i = one
  · subst e
    have hi : i < rows.length := by
      have := (List.getElem?_eq_some_iff.mp h).1
      rwa [List.length_set] at this
    rw [List.getElem?_set_self hi] at h
    cases h
    exact ⟨hd, hin⟩
  · rw [List.getElem?_set_ne (Ne.symm e)] at h
    exact g.ok i q h⟩
/-- all others by turns -/
def turns (n i : Nat) : List Nat := (List.range (n - 1)).map fun k => (i + 1 + k) % n
theorem turns_ok {n i : Nat} (hi : i < n) : (turns n i).Nodup ∧ ∀ x ∈ turns n i, x < n ∧ x ≠ i := by
  have md : ∀ k, k < n - 1 → ((i + 1 + k) % n = i + 1 + k ∧ i + 1 + k < n) ∨ ((i + 1 + k) % n + n = i + 1 + k ∧ (i + 1 + k) % n < i) := fun k hk => by
    by_cases h : i + 1 + k < n
    · exact .inl ⟨Nat.mod_eq_of_lt h, h⟩
    · have e : (i + 1 + k) % n = i + 1 + k - n := by
        rw [Nat.mod_eq_sub_mod (by omega), Nat.mod_eq_of_lt (by omega)]
      exact .inr (by omega)
  refine ⟨nodup_map_on List.nodup_range fun x hx y hy e => ?_, fun x hx => ?_⟩
  · have hx := List.mem_range.mp hx
    have hy := List.mem_range.mp hy
    have a := md x hx
    have b := md y hy
    omega
  · obtain ⟨k, hk, rfl⟩ := List.mem_map.mp hx
    have a := md k (List.mem_range.mp hk)
    have := Nat.mod_lt (i + 1 + k) (show 0 < n by omega)
    omega
theorem perm_nat {ns : List Int} {r : List Nat} (h : ns.Perm (r.map Int.ofNat)) : ∃ q : List Nat, ns = q.map Int.ofNat ∧ q.Perm r := by
  refine ⟨ns.map Int.toNat, ?_, ?_⟩
  · rw [List.map_map]
    have : ∀ z ∈ ns, z = (Int.ofNat ∘ Int.toNat) z := fun z hz => by
      obtain ⟨k, _, e⟩ := List.mem_map.mp (h.mem_iff.mp hz)
      subst e
      rfl
    conv => lhs; rw [← List.map_id ns]
    exact List.map_congr_left this
  · have := h.map Int.toNat
    rw [List.map_map] at this
    have e : r.map (Int.toNat ∘ Int.ofNat) = r := by
      conv => rhs; rw [← List.map_id r]
      exact List.map_congr_left fun _ _ => rfl
    rwa [e] at this
theorem map_nv' (r : List Nat) : (r.map Int.ofNat).map V.int = r.map nv := (map_nv r).symm
theorem SqL.extN {K : PySem.W.Frag} {H H' : Hp} {a : Addr} {xs : List V} (e : ExtN H H') (h : SqL K H a xs) : SqL K H' a xs := by
  rcases h with (z | ⟨o, z⟩) | z
  · exact .inl (.inl (e _ _ z (fun ps w => by cases w)))
  · exact .inl (.inr ⟨o, e _ _ z (fun ps w => by cases w)⟩)
  · exact .inr z
theorem Tabs.write {T : List (Addr × Str)} {H : Hp} {t : Addr} {xs ys : List V} (h : Tabs T H) (ht : H t = some (.lst xs)) : Tabs T (upd H t (.lst ys)) := fun p hp => by
  obtain ⟨ps, h1, h2, h3⟩ := h p hp
  refine ⟨ps, by rw [upd_ne (ne_of h1 ht (by intro z; cases z))]; exact h1, h2, fun pos cv hc => ?_⟩
  obtain ⟨c, e1, e2⟩ := h3 pos cv hc
  refine ⟨c, e1, ?_⟩
  rw [upd_ne (ne_of e2 ht (by intro z; unfold CodeO at z; cases z))]
  exact e2
theorem draw2 {m : Int} {n : Nat} (h0 : 0 ≤ m) (hn : 1 < n) : ∃ o1 o2 : Nat, m % (n : Int) = (o1 : Int) ∧ ((o1 : Int) + 1 + m / (n : Int) % ((n : Int) - 1)) % (n : Int) = (o2 : Int) ∧ o1 < n ∧ o2 < n ∧ o2 ≠ o1 := by
  have a1 := Int.emod_nonneg m (show (n : Int) ≠ 0 by omega)
  have a2 := Int.emod_lt_of_pos m (show 0 < (n : Int) by omega)
  have b1 := Int.emod_nonneg (m / (n : Int)) (show (n : Int) - 1 ≠ 0 by omega)
  have b2 := Int.emod_lt_of_pos (m / (n : Int)) (show 0 < (n : Int) - 1 by omega)
  generalize m / (n : Int) % ((n : Int) - 1) = q at *
  obtain ⟨o1, e1⟩ := Int.eq_ofNat_of_zero_le a1
  rw [e1] at a2 ⊢
  have c1 := Int.emod_nonneg ((o1 : Int) + 1 + q) (show (n : Int) ≠ 0 by omega)
  have c2 := Int.emod_lt_of_pos ((o1 : Int) + 1 + q) (show 0 < (n : Int) by omega)
  have c3 : ((o1 : Int) + 1 + q) % (n : Int) = (o1 : Int) + 1 + q ∨ ((o1 : Int) + 1 + q) % (n : Int) = (o1 : Int) + 1 + q - n := by
    by_cases h : (o1 : Int) + 1 + q < n
    · exact .inl (Int.emod_eq_of_lt (by omega) h)
    · right
      rw [← Int.sub_emod_right ((o1 : Int) + 1 + q) (n : Int)]
      exact Int.emod_eq_of_lt (by omega) (by omega)
  obtain ⟨o2, e2⟩ := Int.eq_ofNat_of_zero_le c1
  exact ⟨o1, o2, rfl, e2, by omega, by omega, by omega⟩
theorem Tabs.but {T : List (Addr × Str)} {H H' : Hp} {t : Addr} {xs : List V} (h : Tabs T H) (ht : H t = some (.lst xs)) (f : ∀ x o, x ≠ t → H x = some o → H' x = some o) : Tabs T H' := fun p hp => by
  obtain ⟨ps, h1, h2, h3⟩ := h p hp
  refine ⟨ps, f _ _ (ne_of h1 ht (by intro z; cases z)) h1, h2, fun pos cv hc => ?_⟩
  obtain ⟨c, e1, e2⟩ := h3 pos cv hc
  exact ⟨c, e1, f _ _ (ne_of e2 ht (by intro z; unfold CodeO at z; cases z)) e2⟩
end Bk
set_option Elab.async false
set_option linter.all false
set_option maxRecDepth 100000
namespace K3
open PySem PySem.Spec PyProof.Rows L2 LamX Bk
def topS (i : Nat) : Stmt := PySem.Challenge.pw_bunkmates_k03_offers_in_any_order.main.body.getD i (.Pass ⟨0, 0, 0, 0⟩)
abbrev s_is_number : Stmt := topS 5
theorem sc_is_number : FnScope ["value"] ["value"] (defScope s_is_number) := ⟨rfl, rfl, rfl, by decide +kernel, rfl, by decide +kernel, by decide +kernel⟩
abbrev s_is_row : Stmt := topS 6
theorem sc_is_row : FnScope ["row", "person", "many", "seen", "other"] ["row", "person", "many"] (defScope s_is_row) := ⟨rfl, rfl, rfl, by decide +kernel, rfl, by decide +kernel, by decide +kernel⟩
abbrev s_check_lists : Stmt := topS 7
theorem sc_check_lists : FnScope ["lists", "person", "row"] ["lists"] (defScope s_check_lists) := ⟨rfl, rfl, rfl, by decide +kernel, rfl, by decide +kernel, by decide +kernel⟩
abbrev s_places_in : Stmt := topS 8
theorem sc_places_in : FnScope ["rows", "place", "other", "row"] ["rows"] (defScope s_places_in) := ⟨rfl, rfl, rfl, by decide +kernel, rfl, by decide +kernel, by decide +kernel⟩
abbrev s_mutual : Stmt := topS 9
theorem sc_mutual : FnScope ["lists", "places", "other", "person", "row"] ["lists"] (defScope s_mutual) := ⟨rfl, rfl, rfl, by decide +kernel, rfl, by decide +kernel, by decide +kernel⟩
abbrev s_cut_behind : Stmt := topS 11
theorem sc_cut_behind : FnScope ["rows", "person", "kept", "row", "left", "gone", "other"] ["rows", "person", "kept"] (defScope s_cut_behind) := ⟨rfl, rfl, rfl, by decide +kernel, rfl, by decide +kernel, by decide +kernel⟩
abbrev s_offered : Stmt := topS 12
theorem sc_offered : FnScope ["lists", "rows", "held", "waiting", "person", "best"] ["lists"] (defScope s_offered) := ⟨rfl, rfl, rfl, by decide +kernel, rfl, by decide +kernel, by decide +kernel⟩
abbrev s__law_mixed : Stmt := topS 14
theorem sc__law_mixed : FnScope ["_law_number", "_law_k"] ["_law_number", "_law_k"] (defScope s__law_mixed) := ⟨rfl, rfl, rfl, by decide +kernel, rfl, by decide +kernel, by decide +kernel⟩
abbrev s__law_lists : Stmt := topS 15
theorem sc__law_lists : FnScope ["_law_script", "_law_most", "_law_first", "_law_many", "_law_rows", "_law_person", "_law_others", "_law_k", "_law_cell", "_law_number", "_law_one", "_law_other"] ["_law_script", "_law_most"] (defScope s__law_lists) := ⟨rfl, rfl, rfl, by decide +kernel, rfl, by decide +kernel, by decide +kernel⟩
abbrev s__law_set : Stmt := topS 16
theorem sc__law_set : FnScope ["_law_rows", "_law_one", "_law_other", "_law_number", "_law_row", "_law_person", "_law_at"] ["_law_rows", "_law_one", "_law_other", "_law_number"] (defScope s__law_set) := ⟨rfl, rfl, rfl, by decide +kernel, rfl, by decide +kernel, by decide +kernel⟩
abbrev s__law_mutual : Stmt := topS 17
theorem sc__law_mutual : FnScope ["_law_rows", "_law_found", "_law_person", "_law_one"] ["_law_rows"] (defScope s__law_mutual) := ⟨rfl, rfl, rfl, by decide +kernel, rfl, by decide +kernel, by decide +kernel⟩
abbrev s__law_better : Stmt := topS 18
theorem sc__law_better : FnScope ["_law_row", "_law_one", "_law_other", "_law_person"] ["_law_row", "_law_one", "_law_other"] (defScope s__law_better) := ⟨rfl, rfl, rfl, by decide +kernel, rfl, by decide +kernel, by decide +kernel⟩
abbrev s__law_spoilers : Stmt := topS 19
theorem sc__law_spoilers : FnScope ["_law_rows", "_law_pairing", "_law_found", "_law_one", "_law_other"] ["_law_rows", "_law_pairing"] (defScope s__law_spoilers) := ⟨rfl, rfl, rfl, by decide +kernel, rfl, by decide +kernel, by decide +kernel⟩
abbrev s__law_pairings : Stmt := topS 20
theorem sc__law_pairings : FnScope ["_law_rows", "_law_done", "_law_person", "_law_found", "_law_mate"] ["_law_rows", "_law_done"] (defScope s__law_pairings) := ⟨rfl, rfl, rfl, by decide +kernel, rfl, by decide +kernel, by decide +kernel⟩
abbrev s__law_offered : Stmt := topS 21
theorem sc__law_offered : FnScope ["_law_rows", "_law_number", "_law_row", "_law_holder", "_law_free", "_law_person", "_law_best", "_law_before", "_law_worse"] ["_law_rows", "_law_number"] (defScope s__law_offered) := ⟨rfl, rfl, rfl, by decide +kernel, rfl, by decide +kernel, by decide +kernel⟩
abbrev s__law_holds : Stmt := topS 22
theorem sc__law_holds : FnScope ["_law_rows", "_law_person", "_law_one"] ["_law_rows"] (defScope s__law_holds) := ⟨rfl, rfl, rfl, by decide +kernel, rfl, by decide +kernel, by decide +kernel⟩
abbrev s__law_all_inside : Stmt := topS 23
theorem sc__law_all_inside : FnScope ["_law_rows", "_law_table", "_law_pairing", "_law_person"] ["_law_rows", "_law_table"] (defScope s__law_all_inside) := ⟨rfl, rfl, rfl, by decide +kernel, rfl, by decide +kernel, by decide +kernel⟩
abbrev s_law : Stmt := topS 24
theorem sc_law : FnScope ["_law_script", "_law_lists_here", "_law_rows", "_law_handed", "_law_row", "_law_due", "_law_found"] ["_law_script"] (defScope s_law) := ⟨rfl, rfl, rfl, by decide +kernel, rfl, by decide +kernel, by decide +kernel⟩
/-- what the top has left -/
structure Txt (K : PySem.W.Frag) (mg : Str → Option Value) where
  a_is_number : Addr
  fd_is_number : FuncData
  F_is_number : Fun K "is_number" "is_number" s_is_number a_is_number fd_is_number
  b_is_number : Binds K fd_is_number ["value"] []
  g_is_number : mg "is_number" = some (.ref a_is_number)
  a_is_row : Addr
  fd_is_row : FuncData
  F_is_row : Fun K "is_row" "is_row" s_is_row a_is_row fd_is_row
  b_is_row : Binds K fd_is_row ["row", "person", "many"] []
  g_is_row : mg "is_row" = some (.ref a_is_row)
  a_check_lists : Addr
  fd_check_lists : FuncData
  F_check_lists : Fun K "check_lists" "check_lists" s_check_lists a_check_lists fd_check_lists
  b_check_lists : Binds K fd_check_lists ["lists"] []
  g_check_lists : mg "check_lists" = some (.ref a_check_lists)
  a_places_in : Addr
  fd_places_in : FuncData
  F_places_in : Fun K "places_in" "places_in" s_places_in a_places_in fd_places_in
  b_places_in : Binds K fd_places_in ["rows"] []
  g_places_in : mg "places_in" = some (.ref a_places_in)
  a_mutual : Addr
  fd_mutual : FuncData
  F_mutual : Fun K "mutual" "mutual" s_mutual a_mutual fd_mutual
  b_mutual : Binds K fd_mutual ["lists"] []
  g_mutual : mg "mutual" = some (.ref a_mutual)
  a_cut_behind : Addr
  fd_cut_behind : FuncData
  F_cut_behind : Fun K "cut_behind" "cut_behind" s_cut_behind a_cut_behind fd_cut_behind
  b_cut_behind : Binds K fd_cut_behind ["rows", "person", "kept"] []
  g_cut_behind : mg "cut_behind" = some (.ref a_cut_behind)
  a_offered : Addr
  fd_offered : FuncData
  F_offered : Fun K "offered" "offered" s_offered a_offered fd_offered
  b_offered : Binds K fd_offered ["lists"] []
  g_offered : mg "offered" = some (.ref a_offered)
  a__law_mixed : Addr
  fd__law_mixed : FuncData
  F__law_mixed : Fun K "_law_mixed" "_law_mixed" s__law_mixed a__law_mixed fd__law_mixed
  b__law_mixed : Binds K fd__law_mixed ["_law_number", "_law_k"] []
  g__law_mixed : mg "_law_mixed" = some (.ref a__law_mixed)
  a__law_lists : Addr
  fd__law_lists : FuncData
  F__law_lists : Fun K "_law_lists" "_law_lists" s__law_lists a__law_lists fd__law_lists
  b__law_lists : Binds K fd__law_lists ["_law_script", "_law_most"] []
  g__law_lists : mg "_law_lists" = some (.ref a__law_lists)
  a__law_set : Addr
  fd__law_set : FuncData
  F__law_set : Fun K "_law_set" "_law_set" s__law_set a__law_set fd__law_set
  b__law_set : Binds K fd__law_set ["_law_rows", "_law_one", "_law_other", "_law_number"] []
  g__law_set : mg "_law_set" = some (.ref a__law_set)
  a__law_mutual : Addr
  fd__law_mutual : FuncData
  F__law_mutual : Fun K "_law_mutual" "_law_mutual" s__law_mutual a__law_mutual fd__law_mutual
  b__law_mutual : Binds K fd__law_mutual ["_law_rows"] []
  g__law_mutual : mg "_law_mutual" = some (.ref a__law_mutual)
  a__law_better : Addr
  fd__law_better : FuncData
  F__law_better : Fun K "_law_better" "_law_better" s__law_better a__law_better fd__law_better
  b__law_better : Binds K fd__law_better ["_law_row", "_law_one", "_law_other"] []
  g__law_better : mg "_law_better" = some (.ref a__law_better)
  a__law_spoilers : Addr
  fd__law_spoilers : FuncData
  F__law_spoilers : Fun K "_law_spoilers" "_law_spoilers" s__law_spoilers a__law_spoilers fd__law_spoilers
  b__law_spoilers : Binds K fd__law_spoilers ["_law_rows", "_law_pairing"] []
  g__law_spoilers : mg "_law_spoilers" = some (.ref a__law_spoilers)
  a__law_pairings : Addr
  fd__law_pairings : FuncData
  F__law_pairings : Fun K "_law_pairings" "_law_pairings" s__law_pairings a__law_pairings fd__law_pairings
  b__law_pairings : Binds K fd__law_pairings ["_law_rows", "_law_done"] []
  g__law_pairings : mg "_law_pairings" = some (.ref a__law_pairings)
  a__law_offered : Addr
  fd__law_offered : FuncData
  F__law_offered : Fun K "_law_offered" "_law_offered" s__law_offered a__law_offered fd__law_offered
  b__law_offered : Binds K fd__law_offered ["_law_rows", "_law_number"] []
  g__law_offered : mg "_law_offered" = some (.ref a__law_offered)
  a__law_holds : Addr
  fd__law_holds : FuncData
  F__law_holds : Fun K "_law_holds" "_law_holds" s__law_holds a__law_holds fd__law_holds
  b__law_holds : Binds K fd__law_holds ["_law_rows"] []
  g__law_holds : mg "_law_holds" = some (.ref a__law_holds)
  a__law_all_inside : Addr
  fd__law_all_inside : FuncData
  F__law_all_inside : Fun K "_law_all_inside" "_law_all_inside" s__law_all_inside a__law_all_inside fd__law_all_inside
  b__law_all_inside : Binds K fd__law_all_inside ["_law_rows", "_law_table"] []
  g__law_all_inside : mg "_law_all_inside" = some (.ref a__law_all_inside)
  a_law : Addr
  fd_law : FuncData
  F_law : Fun K "law" "law" s_law a_law fd_law
  b_law : Binds K fd_law ["_law_script"] []
  g_law : mg "law" = some (.ref a_law)
  m_ValueError : mg "ValueError" = none
  m_bool : mg "bool" = none
  m_enumerate : mg "enumerate" = none
  m_int : mg "int" = none
  m_isinstance : mg "isinstance" = none
  m_len : mg "len" = none
  m_list : mg "list" = none
  m_range : mg "range" = none
  m_set : mg "set" = none
  m_sorted : mg "sorted" = none
  mostT : Tok
  mostG : mg "MOST_PEOPLE" = some (.int 60 mostT)
end K3
set_option linter.all false
/-! Pairings as the laws draw and judge them. Core Lean. -/
namespace Bk
/-- whether one stands on a row, ahead of another one (or where that one is none) -/
def betterF (r : List Nat) (one : Nat) (other : Option Nat) : Bool := match r with
  | [] => false
  | x :: r => if x = one then true else if some x = other then false else betterF r one other
theorem better_iff : ∀ (r : List Nat) (one : Nat) (other : Option Nat), betterF r one other = true ↔ one ∈ r ∧ ∀ o, other = some o → r.idxOf one ≤ r.idxOf o
  | [], one, other => by simp [betterF]
  | x :: r, one, other => by
    unfold betterF
    by_cases h1 : x = one
    · subst h1
      simp
    · rw [if_neg h1]
      by_cases h2 : some x = other
      · rw [if_pos h2]
        subst h2
        simp only [Bool.false_eq_true, false_iff]
        rintro ⟨_, h⟩
        have := h x rfl
        rw [idx_ne _ h1] at this
        simp at this
      · rw [if_neg h2, better_iff r one other]
        constructor
        · rintro ⟨a, b⟩
          refine ⟨List.mem_cons_of_mem _ a, fun o ho => ?_⟩
          have ne : x ≠ o := fun e => h2 (by rw [ho, e])
          rw [idx_ne _ h1, idx_ne _ ne]
          have := b o ho
          omega
        · rintro ⟨a, b⟩
          refine ⟨(List.mem_cons.mp a).resolve_left (Ne.symm h1), fun o ho => ?_⟩
          have ne : x ≠ o := fun e => h2 (by rw [ho, e])
          have := b o ho
          rw [idx_ne _ h1, idx_ne _ ne] at this
          omega
/-- the mate told at a place -/
abbrev mO (m : List (Option Nat)) (i : Nat) : Option Nat := m.getD i none
theorem mO_of {m : List (Option Nat)} {i : Nat} {x : Option Nat} (h : m[i]? = some x) : mO m i = x := by
  simp [mO, List.getD_eq_getElem?_getD, h]
theorem mO_at {m : List (Option Nat)} {i : Nat} (h : i < m.length) : m[i]? = some (mO m i) := by
  simp [mO, List.getD_eq_getElem?_getD, h]
theorem mO_out {m : List (Option Nat)} {i : Nat} (h : m.length ≤ i) : mO m i = none := by
  simp [mO, List.getD_eq_getElem?_getD, h]
/-- whether two spoil a pairing, by the law's look -/
def spB (R : Nat → List Nat) (m : List (Option Nat)) (i j : Nat) : Bool := betterF (R i) j (mO m i) && (betterF (R j) i (mO m j) && !decide (mO m i = some j))
/-- the pairs that spoil it, rising -/
def spRow (R : Nat → List Nat) (m : List (Option Nat)) (i lo k : Nat) : List (Nat × Nat) := (((List.range k).map (lo + ·)).filter (spB R m i)).map fun j => (i, j)
def spL (n : Nat) (R : Nat → List Nat) (m : List (Option Nat)) (k : Nat) : List (Nat × Nat) := (List.range k).flatMap fun i => spRow R m i (i + 1) (n - (i + 1))
theorem spL_nil {n : Nat} {R : Nat → List Nat} {m : List (Option Nat)} (h : spL n R m n = []) {i j : Nat} (hij : i < j) (hj : j < n) : spB R m i j = false := by
  unfold spL at h
  rw [List.flatMap_eq_nil_iff] at h
  have h1 := h i (List.mem_range.mpr (by omega))
  unfold spRow at h1
  rw [List.map_eq_nil_iff, List.filter_eq_nil_iff] at h1
  have := h1 j (List.mem_map.mpr ⟨j - (i + 1), List.mem_range.mpr (by omega), by omega⟩)
  simpa using this
/-! ### the first ones are paired -/
structure VP (R : Nat → List Nat) (done : List (Option Nat)) : Prop where
  on : ∀ i j : Nat, done[i]? = some (some j) → j ∈ R i
  back : ∀ i j : Nat, done[i]? = some (some j) → j < done.length → done[j]? = some (some i)
  one : ∀ i i' j : Nat, done[i]? = some (some j) → done[i']? = some (some j) → i = i'
section
variable {R : Nat → List Nat} {done : List (Option Nat)}
theorem VP.nil : VP R [] := ⟨fun i j h => by simp at h, fun i j h => by simp at h, fun i i' j h => by simp at h⟩
theorem at_snoc {x : Option Nat} {i : Nat} {y : Option Nat} (h : (done ++ [x])[i]? = some y) : (i < done.length ∧ done[i]? = some y) ∨ (i = done.length ∧ x = y) := by
  by_cases hi : i < done.length
  · rw [List.getElem?_append_left hi] at h
    exact .inl ⟨hi, h⟩
  · rw [List.getElem?_append_right (by omega)] at h
    have : i - done.length = 0 := by
      have := (List.getElem?_eq_some_iff.mp h).1
      simp at this
      omega
    rw [this] at h
    simp at h
    exact .inr ⟨by omega, h⟩
theorem snoc_left {x : Option Nat} {i : Nat} (h : i < done.length) : (done ++ [x])[i]? = done[i]? := List.getElem?_append_left h
theorem snoc_last {x : Option Nat} : (done ++ [x])[done.length]? = some x := by simp
theorem lt_of_at {α : Type} {l : List α} {i : Nat} {y : α} (h : l[i]? = some y) : i < l.length := (List.getElem?_eq_some_iff.mp h).1
/-- the next one was chosen already -/
theorem VP.chosen (mu : ∀ i j, j ∈ R i → i ∈ R j) (v : VP R done) {i : Nat} (h : done[i]? = some (some done.length)) : VP R (done ++ [some i]) := by
  refine ⟨fun a b ha => ?_, fun a b ha hb => ?_, fun a a' b ha ha' => ?_⟩
  · rcases at_snoc ha with ⟨_, h1⟩ | ⟨rfl, e⟩
    · exact v.on a b h1
    · cases e
      exact mu _ _ (v.on i _ h)
  · rw [List.length_append, List.length_singleton] at hb
    rcases at_snoc ha with ⟨hl, h1⟩ | ⟨rfl, e⟩
    · by_cases hbl : b < done.length
      · rw [snoc_left hbl]
        exact v.back a b h1 hbl
      · have : b = done.length := by omega
        subst this
        rw [snoc_last, v.one a i _ h1 h]
    · cases e
      rw [snoc_left (lt_of_at h)]
      exact h
  · have key : ∀ a : Nat, done[a]? = some (some i) → False := fun a ha => by
      have := v.back a i ha (lt_of_at h)
      rw [h] at this
      have e : done.length = a := by simpa using this
      have := lt_of_at ha
      omega
    rcases at_snoc ha with ⟨_, h1⟩ | ⟨rfl, e⟩ <;> rcases at_snoc ha' with ⟨_, h2⟩ | ⟨rfl, e'⟩
    · exact v.one a a' b h1 h2
    · cases e'; exact (key a h1).elim
    · cases e; exact (key a' h2).elim
    · rfl
/-- the next one takes a later one who is free, or nobody -/
theorem VP.take (v : VP R done) (hn : ∀ i : Nat, done[i]? ≠ some (some done.length)) {x : Option Nat} (hx : ∀ j, x = some j → j ∈ R done.length ∧ done.length < j ∧ ∀ i : Nat, done[i]? ≠ some (some j)) : VP R (done ++ [x]) := by
  refine ⟨fun a b ha => ?_, fun a b ha hb => ?_, fun a a' b ha ha' => ?_⟩
  · rcases at_snoc ha with ⟨_, h1⟩ | ⟨rfl, e⟩
    · exact v.on a b h1
    · exact (hx b e).1
  · rw [List.length_append, List.length_singleton] at hb
    rcases at_snoc ha with ⟨hl, h1⟩ | ⟨rfl, e⟩
    · by_cases hbl : b < done.length
      · rw [snoc_left hbl]
        exact v.back a b h1 hbl
      · have : b = done.length := by omega
        subst this
        exact (hn a h1).elim
    · have := (hx b e).2.1
      omega
  · rcases at_snoc ha with ⟨_, h1⟩ | ⟨rfl, e⟩ <;> rcases at_snoc ha' with ⟨_, h2⟩ | ⟨rfl, e'⟩
    · exact v.one a a' b h1 h2
    · exact ((hx b e').2.2 a h1).elim
    · exact ((hx b e).2.2 a' h2).elim
    · rfl
theorem VP.pair {n : Nat} (v : VP R done) (hl : done.length = n) (hn : ∀ i x, x ∈ R i → x < n) : PairOk R (mO done) := by
  have at_ : ∀ p q, mO done p = some q → done[p]? = some (some q) := fun p q e => by
    by_cases hp : p < done.length
    · rw [mO_at hp, e]
    · rw [mO_out (by omega)] at e; cases e
  refine ⟨fun p q e => v.on p q (at_ p q e), fun p q e => ?_⟩
  have h1 := at_ p q e
  exact mO_of (v.back p q h1 (by rw [hl]; exact hn p q (v.on p q h1)))
theorem good_of {n : Nat} (L : Lists R) (hR : ∀ i x, x ∈ R i → i < n ∧ x < n) {m : List (Option Nat)} (pk : PairOk R (mO m)) (hs : spL n R m n = []) : Good R (mO m) := by
  refine ⟨pk, fun p b ⟨h1, h2, h3⟩ => ?_⟩
  have key : ∀ p b, p < b → b ∈ R p → Wants R (mO m) p b → Wants R (mO m) b p → False := fun p b hlt h1 h2 h3 => by
    have := spL_nil hs hlt (hR p b h1).2
    have e1 : betterF (R p) b (mO m p) = true := (better_iff _ _ _).mpr ⟨h1, fun o ho => Nat.le_of_lt (h2 o ho)⟩
    have e2 : betterF (R b) p (mO m b) = true := (better_iff _ _ _).mpr ⟨L.mu _ _ h1, fun o ho => Nat.le_of_lt (h3 o ho)⟩
    have e3 : mO m p ≠ some b := fun e => Nat.lt_irrefl _ (h2 b e)
    unfold spB at this
    rw [e1, e2, decide_eq_false e3] at this
    cases this
  by_cases h : p < b
  · exact key p b h h1 h2 h3
  · by_cases h' : b < p
    · exact key b p h' (L.mu _ _ h1) h3 h2
    · have : p = b := by omega
      subst this
      exact L.ir p h1
end
end Bk
set_option Elab.async false
set_option linter.all false
set_option maxRecDepth 100000
set_option maxHeartbeats 4000000
namespace K3
open PySem PySem.Spec PyProof.Rows L2 LamX Bk
section
variable {P : Program} {w : World} {K : PySem.W.Frag} {mg : Str → Option Value} {base : Heap}

def sp_better (K : PySem.W.Frag) : Sp := fun vs H Q _ => ∃ (a : Addr) (r : List Nat) (one : Nat) (other : Option Nat), vs = [.ref a, nv one, ov other] ∧ RowAt H a r ∧ Q (.bl (betterF r one other)) H
theorem ok_better (T : Txt K mg) : FnOk P w K mg base CX0 1 T.a__law_better T.fd__law_better ["_law_row", "_law_one", "_law_other"] (sp_better K) := by
  refine T.F__law_better.ok sc__law_better (fun vs H Q E h => ?_) (fun cdv A outer s H vs Q E hr h => ?_)
  · obtain ⟨a, r, one, other, rfl, _⟩ := h
    rfl
  · obtain ⟨a, r, one, other, rfl, hr, q⟩ := h
    refine ⟨_, (C8.pss_cut (ps_for PassesOwn.never rfl (kpi_list (K := K) (pv 0)) (pg_name (i := 3) sc__law_better.nd rfl (.inl rfl)) (pss_cons (ps_if (pt_cmpR op_eq (pv 3) (pv 1) (nomark _)) (pss_one (ps_ret pe_bl)) pss_nil)
      (pss_one (ps_if (pt_cmpR op_eq (pv 3) (pv 2) (nomark _)) (pss_one (ps_ret pe_bl)) pss_nil))))
      (pss_one (ps_ret pe_bl))), ?_⟩
    refine ⟨fun σ H' => H' = H ∧ betterF r one other = false, ?_, fun σ H' ⟨e1, e2⟩ => ?_⟩
    · refine ⟨_, rfl, a, rfl, ⟨_, SqL.of hr⟩, for_list (K := K) (xs := r.map nv) (fun i σ H' => ∃ y, σ = [some (.ref a), some (nv one), some (ov other), y] ∧ H' = H ∧ betterF r one other = betterF (r.drop i) one other) ⟨none, rfl, rfl, rfl⟩ (fun i σ H' _ h => ?_) (fun i x σ H' hx h => ?_) (fun σ H' h => ?_)⟩
      · obtain ⟨_, _, rfl, _⟩ := h
        exact SqL.of hr
      · obtain ⟨y, rfl, rfl, e⟩ := h
        rw [List.getElem?_map] at hx
        obtain ⟨z, hz, rfl⟩ := Option.map_eq_some_iff.mp hx
        obtain ⟨hi, e2⟩ := List.getElem?_eq_some_iff.mp hz
        have hd : r.drop i = z :: r.drop (i + 1) := by rw [List.drop_eq_getElem_cons hi, e2]
        rw [hd] at e
        simp only [betterF] at e
        simp only [cx_K, cx_w, wipe, Int.zero_add, Bool.false_eq_true, if_false, if_true, Bool.not_true, Bool.not_false, tSeq, tAsg, tOp, tVar, tC, tRet, tRetN, tNext, tDrop, tIfS, tB, tTest, tIf, tAnd, tOr, tNot, tAndV, tOrV, tNotV, tUn, tCons, tNil, tCall, tCB, tBM, tBM0, tNoPart, tPart, tSl, tCont, tNever, tTup, tLst, gName, gNil, gCons, gTup, gSub, rI, rI0, rU, rEq, rNe, rIxL, rSlL, rSetL, rLn, rLs, rTs, rIn, rSet0, tSAdd, rSAdd, rSIn, rSNotIn, rRep, rCat, rAppend, rPop, rPopAt, iList, iRng1, iRng2, iEnum, gTup, tIsN, tNotN, tTru, tLstRg, tRg1, tRg2, L2.start, List.map_cons, List.map_nil, List.length_cons, List.length_nil, List.replicate, List.cons_append, List.nil_append, List.getElem?_cons_zero, List.getElem?_cons_succ, List.set_cons_zero, List.set_cons_succ, Option.some.injEq, exists_eq_left', V.int.injEq, V.ref.injEq, V.bl.injEq, List.cons.injEq, exists_and_left, exists_and_right, and_true, true_and, exists_eq_left, exists_eq, Nat.reduceAdd, Nat.reduceSub]
        refine ⟨rfl, ?_⟩
        by_cases h1 : z = one
        · subst h1
          rw [if_pos rfl] at e
          simp
          rw [e] at q; exact q
        · rw [if_neg h1] at e
          have d1 : ¬ ((z : Int) = (one : Int)) := by omega
          simp only [d1, decide_false, if_false, Bool.false_eq_true]
          cases other with
          | none =>
            refine ⟨rfl, ?_⟩
            simp [ov]
            simpa using e
          | some o =>
            refine ⟨rfl, ?_⟩
            by_cases h2 : z = o
            · subst h2
              rw [if_pos rfl] at e
              simp [ov]
              rw [e] at q; exact q
            · rw [if_neg (by simpa using h2)] at e
              have d2 : ¬ ((z : Int) = (o : Int)) := by omega
              simp [ov, d2]
              exact e
      · obtain ⟨y, rfl, rfl, e⟩ := h
        refine ⟨rfl, ?_⟩
        rw [e]
        simp [betterF]
    · subst e1
      rw [e2] at q
      exact q
end
end K3

set_option Elab.async false
set_option linter.all false
namespace Bk
open PySem PySem.Spec PyProof.Rows L2 LamX
/-- a list of pairs -/
structure PairsAt (H : Hp) (D : Addr) (ps : List (Nat × Nat)) : Prop where
  ex : ∃ as : List Addr, H D = some (.lst (as.map V.ref)) ∧ as.length = ps.length ∧ ∀ (i : Nat) (a : Addr) (p : Nat × Nat), as[i]? = some a → ps[i]? = some p → H a = some (.tup [nv p.1, nv p.2])
theorem PairsAt.same {H H' : Hp} {D : Addr} {ps : List (Nat × Nat)} (h : PairsAt H D ps) (e : Same H H') : PairsAt H' D ps := by
  obtain ⟨as, h1, h2, h3⟩ := h.ex
  exact ⟨as, e _ _ h1, h2, fun i a p e1 e2 => e _ _ (h3 i a p e1 e2)⟩
theorem PairsAt.nil {H : Hp} {D : Addr} (h : H D = some (.lst [])) : PairsAt H D [] := ⟨[], h, rfl, fun i a p e _ => by simp at e⟩
theorem pairs_snoc {H : Hp} {D T : Addr} {ps : List (Nat × Nat)} {i j : Nat} {as : List Addr} (h1 : H D = some (.lst (as.map V.ref))) (h2 : as.length = ps.length) (h3 : ∀ (i : Nat) (a : Addr) (p : Nat × Nat), as[i]? = some a → ps[i]? = some p → H a = some (.tup [nv p.1, nv p.2])) (hT : H T = none) :
    PairsAt (upd (upd H T (.tup [nv i, nv j])) D (.lst (as.map V.ref ++ [.ref T]))) D (ps ++ [(i, j)]) := by
  have hDT : T ≠ D := fun z => by rw [z, h1] at hT; cases hT
  refine ⟨as ++ [T], by rw [upd_same, List.map_append]; rfl, by simp [h2], fun k a p e1 e2 => ?_⟩
  by_cases hk : k < as.length
  · rw [List.getElem?_append_left hk] at e1
    rw [List.getElem?_append_left (by omega)] at e2
    have := h3 k a p e1 e2
    have n1 : a ≠ D := fun z => by rw [z, h1] at this; cases this
    have n2 : a ≠ T := fun z => by rw [z, hT] at this; cases this
    rw [upd_ne n1, upd_ne n2]
    exact this
  · have hk' := (List.getElem?_eq_some_iff.mp e1).1
    rw [List.length_append, List.length_singleton] at hk'
    have : k = as.length := by omega
    subst this
    rw [List.getElem?_append_right (Nat.le_refl _), Nat.sub_self] at e1
    rw [h2, List.getElem?_append_right (Nat.le_refl _), Nat.sub_self] at e2
    simp at e1 e2
    subst e1; subst e2
    rw [upd_ne hDT, upd_same]
theorem scal_ov (o : Option Nat) (z : Nat) : scal (ov o) (nv z) = true := by cases o <;> rfl
theorem ov_eq (o : Option Nat) (z : Nat) : decide (ov o = nv z) = decide (o = some z) := by
  cases o with
  | none => simp [ov]
  | some a =>
    by_cases h : a = z
    · subst h; simp [ov]
    · rw [decide_eq_false (show ¬ some a = some z by simpa using h), decide_eq_false]
      intro e
      exact h (nv_inj e)
theorem flat_ov (m : List (Option Nat)) : (m.map ov).all flatV = true := by
  rw [List.all_map, List.all_eq_true]
  intro x _
  cases x <;> rfl
theorem eqV_ov (y : Option Nat) (x : Nat) : eqV (ov y) (nv x) = decide (y = some x) := by
  cases y with
  | none => rfl
  | some a =>
    show decide ((a : Int) = (x : Int)) = _
    by_cases h : a = x
    · subst h; simp
    · rw [decide_eq_false (show ¬ some a = some x by simpa using h), decide_eq_false (by omega)]
theorem inV_ov (m : List (Option Nat)) (x : Nat) : inV (nv x) (m.map ov) = decide (some x ∈ m) := by
  unfold inV
  rw [List.any_map]
  rw [show ((fun y => eqV y (nv x)) ∘ ov) = fun y => decide (y = some x) from funext fun y => eqV_ov y x]
  by_cases h : some x ∈ m
  · rw [decide_eq_true h, List.any_eq_true]
    exact ⟨_, h, by simp⟩
  · rw [decide_eq_false h, List.any_eq_false]
    intro y hy e
    simp at e
    exact h (e ▸ hy)
theorem index_ov {K : PySem.W.Frag} {H : Hp} {a : Addr} {m : List (Option Nat)} {x j : Nat} {Q : VK} (ha : SqL K H a (m.map ov)) (hx : m[j]? = some (some x)) (h1 : ∀ i : Nat, m[i]? = some (some x) → i = j) (q : Q (nv j) H) : rIndex K (.ref a) [nv x] H Q := by
  refine ⟨a, m.map ov, nv x, j, nv x, rfl, rfl, ha, rfl, flat_ov _, ?_, ?_, fun i z hi hz => ?_, q⟩
  · rw [List.getElem?_map, hx]; rfl
  · show decide ((x : Int) = (x : Int)) = true; simp
  · rw [List.getElem?_map] at hz
    obtain ⟨y, hy, rfl⟩ := Option.map_eq_some_iff.mp hz
    rw [eqV_ov, decide_eq_false]
    rintro rfl
    have := h1 i hy
    omega
def dPairs (ps : List (Nat × Nat)) : PyData := .list (ps.map fun p => .tuple [.int p.1, .int p.2])
theorem dp_pairs {K : PySem.W.Frag} {H : Hp} {D : Addr} {ps : List (Nat × Nat)} (h : PairsAt H D ps) : Dp K H (.ref D) (dPairs ps) := by
  obtain ⟨as, h1, h2, h3⟩ := h.ex
  refine .lst (SqL.of h1) ?_
  have g : ∀ (l : List Addr) (rs : List (Nat × Nat)), l.length = rs.length → (∀ (i : Nat) (a : Addr) (p : Nat × Nat), l[i]? = some a → rs[i]? = some p → H a = some (.tup [nv p.1, nv p.2])) → DpAll K H (l.map V.ref) (rs.map fun p => .tuple [.int p.1, .int p.2]) := fun l => by
    induction l with
    | nil => intro rs e _; cases rs with
      | nil => exact .nil
      | cons _ _ => simp at e
    | cons a l ih =>
      intro rs e hr
      cases rs with
      | nil => simp at e
      | cons r rs =>
        exact .cons (.tup (SqT.of (hr 0 a r rfl rfl)) (.cons (.int _) (.cons (.int _) .nil))) (ih rs (by simpa using e) fun i b q h1 h2 => hr (i + 1) b q (by simpa using h1) (by simpa using h2))
  exact g as ps h2 h3
theorem shaped_pairs (ps : List (Nat × Nat)) : SeqAt.shaped (dPairs ps) = true := by
  have h : PyData.canLayAll0 (ps.map fun p => .tuple [.int p.1, .int p.2]) = true ∧ PyData.depthAll (ps.map fun p => .tuple [.int p.1, .int p.2]) ≤ 1 := by
    induction ps with
    | nil => simp [PyData.canLayAll0, PyData.depthAll]
    | cons r rs ih =>
      simp only [List.map_cons, PyData.canLayAll0, PyData.depthAll, PyData.canLay0, PyData.depth, ih.1]
      refine ⟨by simp, by have := ih.2; omega⟩
  unfold SeqAt.shaped dPairs
  simp only [PyData.canLay0, PyData.depth, h.1, Bool.true_and]
  exact decide_eq_true (by have := h.2; omega)
theorem eqv_pairs (ps qs : List (Nat × Nat)) : PyData.eqv (dPairs ps) (dPairs qs) = decide (ps = qs) := by
  unfold dPairs
  simp only [PyData.eqv]
  induction ps generalizing qs with
  | nil => cases qs <;> simp [PyData.eqvAll]
  | cons p ps ih =>
    cases qs with
    | nil => simp [PyData.eqvAll]
    | cons q qs =>
      obtain ⟨p1, p2⟩ := p
      obtain ⟨q1, q2⟩ := q
      simp only [List.map_cons, PyData.eqvAll, ih, PyData.eqv, List.cons.injEq, Prod.mk.injEq, Bool.and_true, Bool.decide_and]
      have e : ∀ a b : Nat, ((a : Int) == (b : Int)) = decide (a = b) := fun a b => by
        by_cases h : a = b
        · subst h; simp
        · rw [decide_eq_false h]
          exact beq_false_of_ne (by omega)
      rw [e, e]
theorem eq_pairs {K : PySem.W.Frag} {H : Hp} {a b : Addr} {r s : List (Nat × Nat)} {Q : VK} (h : PairsAt H a r) (h' : PairsAt H b s) (q : Q (.bl (decide (r = s))) H) : rEqD K (.ref a) (.ref b) H Q :=
  ⟨dPairs r, dPairs s, dp_pairs h, dp_pairs h', shaped_pairs r, shaped_pairs s, by rw [eqv_pairs]; exact q⟩
theorem ne_pairs {K : PySem.W.Frag} {H : Hp} {a b : Addr} {r s : List (Nat × Nat)} {Q : VK} (h : PairsAt H a r) (h' : PairsAt H b s) (q : Q (.bl (!decide (r = s))) H) : rNeD K (.ref a) (.ref b) H Q :=
  ⟨dPairs r, dPairs s, dp_pairs h, dp_pairs h', shaped_pairs r, shaped_pairs s, by rw [eqv_pairs]; exact q⟩
theorem spRow_succ (R : Nat → List Nat) (m : List (Option Nat)) (i lo k : Nat) : spRow R m i lo (k + 1) = if spB R m i (lo + k) = true then spRow R m i lo k ++ [(i, lo + k)] else spRow R m i lo k := by
  unfold spRow
  rw [List.range_succ, List.map_append, List.filter_append, List.map_append]
  by_cases h : spB R m i (lo + k) = true
  · rw [if_pos h]
    simp [h]
  · rw [if_neg h]
    simp [h]
theorem spRow_len (R : Nat → List Nat) (m : List (Option Nat)) (i lo k : Nat) : (spRow R m i lo k).length ≤ k := by
  unfold spRow
  rw [List.length_map]
  refine Nat.le_trans (List.length_filter_le _ _) ?_
  simp
theorem spL_succ (n : Nat) (R : Nat → List Nat) (m : List (Option Nat)) (k : Nat) : spL n R m (k + 1) = spL n R m k ++ spRow R m k (k + 1) (n - (k + 1)) := by
  unfold spL
  rw [List.range_succ, List.flatMap_append]
  simp
theorem spL_len (n : Nat) (R : Nat → List Nat) (m : List (Option Nat)) (k : Nat) : (spL n R m k).length ≤ k * n := by
  induction k with
  | zero => simp [spL]
  | succ k ih =>
    rw [spL_succ, List.length_append]
    have := spRow_len R m k (k + 1) (n - (k + 1))
    rw [Nat.succ_mul]
    omega
theorem Tbl.but {H H' : Hp} {t : Addr} {as fs : List Addr} {rows : List (List Nat)} (T : Tbl H t as rows) (k : ∀ b o, b ∉ fs → H b = some o → H' b = some o) (h1 : t ∉ fs) (h2 : ∀ a ∈ as, a ∉ fs) : Tbl H' t as rows :=
  ⟨k _ _ h1 T.top, T.len, T.nd, T.out, fun i a r e1 e2 => k _ _ (h2 a (List.mem_of_getElem? e1)) (T.row i a r e1 e2)⟩
/-- what stands in a table is not new -/
theorem Tbl.apart {H : Hp} {t : Addr} {as fs : List Addr} {rows : List (List Nat)} (T : Tbl H t as rows) (hf : ∀ a ∈ fs, H a = none) : t ∉ fs ∧ ∀ a ∈ as, a ∉ fs := by
  refine ⟨fun z => ?_, fun a ha z => (T.fresh (hf a z)).1 ha⟩
  have := hf t z
  rw [T.top] at this
  cases this
end Bk
set_option Elab.async false
set_option linter.all false
set_option maxRecDepth 100000
set_option maxHeartbeats 4000000
namespace K3
open PySem PySem.Spec PyProof.Rows L2 LamX Bk
section
variable {P : Program} {w : World} {K : PySem.W.Frag} {mg : Str → Option Value} {base : Heap}

/-- the pairings that a list tells -/
def PsAt (H : Hp) (n : Nat) (R : Nat → List Nat) (p : Addr) (c : Nat) : Prop := ∃ bs : List Addr, H p = some (.lst (bs.map V.ref)) ∧ bs.length ≤ c ∧ ∀ b ∈ bs, ∃ m : List (Option Nat), H b = some (.lst (m.map ov)) ∧ VP R m ∧ m.length = n
theorem PsAt.same {H H' : Hp} {n : Nat} {R : Nat → List Nat} {p : Addr} {c : Nat} (h : PsAt H n R p c) (e : Same H H') : PsAt H' n R p c := by
  obtain ⟨bs, h1, h2, h3⟩ := h
  exact ⟨bs, e _ _ h1, h2, fun b hb => by obtain ⟨m, e1, e2⟩ := h3 b hb; exact ⟨m, e _ _ e1, e2⟩⟩
theorem PsAt.mono {H : Hp} {n : Nat} {R : Nat → List Nat} {p : Addr} {c d : Nat} (h : PsAt H n R p c) (hc : c ≤ d) : PsAt H n R p d := by
  obtain ⟨bs, h1, h2, h3⟩ := h
  exact ⟨bs, h1, Nat.le_trans h2 hc, h3⟩
theorem PsAt.at {H : Hp} {n : Nat} {R : Nat → List Nat} {p : Addr} {c : Nat} (h : PsAt H n R p c) : ∃ bs : List Addr, H p = some (.lst (bs.map V.ref)) ∧ bs.length ≤ c := by
  obtain ⟨bs, h1, h2, h3⟩ := h
  exact ⟨bs, h1, h2⟩
theorem PsAt.cat {H : Hp} {n : Nat} {R : Nat → List Nat} {a b p : Addr} {c d : Nat} {xs ys : List V} (h : PsAt H n R a c) (h' : PsAt H n R b d) (hp : H p = none) (ha : H a = some (.lst xs)) (hb : H b = some (.lst ys)) : PsAt (upd H p (.lst (xs ++ ys))) n R p (c + d) := by
  obtain ⟨bs, h1, h2, h3⟩ := h
  obtain ⟨cs, g1, g2, g3⟩ := h'
  rw [h1] at ha; cases ha
  rw [g1] at hb; cases hb
  refine ⟨bs ++ cs, by rw [upd_same, List.map_append], by rw [List.length_append]; omega, fun x hx => ?_⟩
  obtain ⟨m, e1, e2⟩ : ∃ m : List (Option Nat), H x = some (.lst (m.map ov)) ∧ VP R m ∧ m.length = n := by
    rcases List.mem_append.mp hx with z | z
    · exact h3 x z
    · exact g3 x z
  exact ⟨m, by rw [upd_ne (ne_of_none e1 hp)]; exact e1, e2⟩
def sp_lpair (K : PySem.W.Frag) (e : Nat) : Sp := fun vs H Q _ => ∃ (t da : Addr) (as : List Addr) (n : Nat) (R : Nat → List Nat) (m : List (Option Nat)), vs = [.ref t, .ref da] ∧ Tbl H t as (mkL n R) ∧ H da = some (.lst (m.map ov)) ∧
  VP R m ∧ (∀ i j, j ∈ R i → i ∈ R j) ∧ (∀ i, (R i).Nodup) ∧ (∀ i j, j ∈ R i → j < n) ∧ n ≤ 6 ∧ m.length ≤ n ∧ m.length + e = n + 1 ∧
  ∀ H' p, Same H H' → PsAt H' n R p (7 ^ (n - m.length)) → Q (.ref p) H'
theorem ok_lpair (T : Txt K mg) : ∀ e, FnOk P w K mg base CX0 e T.a__law_pairings T.fd__law_pairings ["_law_rows", "_law_done"] (sp_lpair K e)
  | 0 => by
    refine ⟨fun vs H Q E h => ?_, fun A outer s H args us vs Q E hr _ _ _ h => ?_⟩ <;> obtain ⟨t, da, as, n, R, m, _, _, _, _, _, _, _, _, h1, h2, _⟩ := h <;> omega
  | e + 1 => by
    have G__law_pairings : FnOk P w K mg base CX0 e T.a__law_pairings T.fd__law_pairings ["_law_rows", "_law_done"] (sp_lpair K e) := ok_lpair T e
    refine T.F__law_pairings.ok sc__law_pairings (fun vs H Q E h => ?_) (fun cdv A outer s H vs Q E hr h => ?_)
    · obtain ⟨t, da, as, n, R, m, rfl, _⟩ := h
      rfl
    · obtain ⟨t, da, as, n, R, m, rfl, TB, hda, vp, mu, nd, lt, hn, hm, he, q⟩ := h
      refine ⟨_, (pss_cons (ps_set (i := 2) sc__law_pairings.nd rfl (.inl rfl) (pe_callB (klen (K := K)) (by rfl) T.m_len (by decide +kernel) (pa_cons (pv 1) pa_nil)))
      (pss_cons (ps_if (pt_cmpR op_eq (pv 2) (pe_callB (klen (K := K)) (by rfl) T.m_len (by decide +kernel) (pa_cons (pv 0) pa_nil)) (nomark _)) (pss_one (ps_ret (pe_lst (pa_cons (pv 1) pa_nil)))) pss_nil)
      (pss_cons (ps_if (pt_cmpR (kin (K := K)) (pv 2) (pv 1) rfl) (pss_one (ps_ret (pe_call G__law_pairings hr (by rfl) T.g__law_pairings T.F__law_pairings.kp T.b__law_pairings .nil pass0 (pa_cons (pv 0) (pa_cons (pe_op op_cat (pv 1) (pe_lst (pa_cons (pe_bm PySem.F.plainAttrs_list PySem.F.slot_list_index PySem.F.type_list_index mt_index (pv 1) (pa_cons (pv 2) pa_nil)) pa_nil))) pa_nil))))) pss_nil)
      (C8.pss_cut (ps_set (i := 3) sc__law_pairings.nd rfl (.inl rfl) (pe_lst pa_nil))
      (C8.pss_cut (ps_for PassesOwn.never rfl (kpi_list (K := K) (pe_ix (kix_list (K := K)) (pv 0) (pv 2) (fun _ _ => rfl))) (pg_name (i := 4) sc__law_pairings.nd rfl (.inl rfl)) (pss_one (ps_if (PW.pt (pw_and (pt_cmpR op_gt (pv 4) (pv 2) (nomark _)) (pw_and1 (pt_cmpR (knotin (K := K)) (pv 4) (pv 1) rfl)))) (pss_one (ps_set (i := 3) sc__law_pairings.nd rfl (.inl rfl) (pe_op op_cat (pv 3) (pe_call G__law_pairings hr (by rfl) T.g__law_pairings T.F__law_pairings.kp T.b__law_pairings .nil pass0 (pa_cons (pv 0) (pa_cons (pe_op op_cat (pv 1) (pe_lst (pa_cons (pv 4) pa_nil))) pa_nil)))))) pss_nil)))
      (pss_one (ps_ret (pe_op op_cat (pv 3) (pe_call G__law_pairings hr (by rfl) T.g__law_pairings T.F__law_pairings.kp T.b__law_pairings .nil pass0 (pa_cons (pv 0) (pa_cons (pe_op op_cat (pv 1) (pe_lst (pa_cons pe_non pa_nil))) pa_nil))))))))))), ?_⟩
      refine ⟨.ref da, rfl, da, _, rfl, .inl (SqL.of hda), ?_⟩
      rw [List.length_map]
      simp only [cx_K, cx_w, wipe, Int.zero_add, Bool.false_eq_true, if_false, if_true, Bool.not_true, Bool.not_false, tSeq, tAsg, tOp, tVar, tC, tRet, tRetN, tNext, tDrop, tIfS, tB, tTest, tIf, tAnd, tOr, tNot, tAndV, tOrV, tNotV, tUn, tCons, tNil, tCall, tCB, tBM, tBM0, tNoPart, tPart, tSl, tCont, tNever, tTup, tLst, gName, gNil, gCons, gTup, gSub, rI, rI0, rU, rEq, rNe, rIxL, rSlL, rSetL, rLn, rLs, rTs, rIn, rSet0, tSAdd, rSAdd, rSIn, rSNotIn, rRep, rCat, rAppend, rPop, rPopAt, iList, iRng1, iRng2, iEnum, gTup, tIsN, tNotN, tTru, tLstRg, tRg1, tRg2, L2.start, List.map_cons, List.map_nil, List.length_cons, List.length_nil, List.replicate, List.cons_append, List.nil_append, List.getElem?_cons_zero, List.getElem?_cons_succ, List.set_cons_zero, List.set_cons_succ, Option.some.injEq, exists_eq_left', V.int.injEq, V.ref.injEq, V.bl.injEq, List.cons.injEq, exists_and_left, exists_and_right, and_true, true_and, exists_eq_left, exists_eq, Nat.reduceAdd, Nat.reduceSub]
      have hrec : ∀ (H1 : Hp) (d1 : Addr) (x : Option Nat) (Q1 : VK) (E1 : XK), Same H H1 → m.length < n → H1 d1 = some (.lst ((m ++ [x]).map ov)) → VP R (m ++ [x]) → (∀ H2 p, Same H1 H2 → PsAt H2 n R p (7 ^ (n - m.length - 1)) → Q1 (.ref p) H2) → sp_lpair K e [.ref t, .ref d1] H1 Q1 E1 :=
        fun H1 d1 x Q1 E1 e1 hlt hd v k => by
          refine ⟨t, d1, as, n, R, m ++ [x], rfl, TB.same e1, hd, v, mu, nd, lt, hn, by rw [List.length_append, List.length_singleton]; omega, by rw [List.length_append, List.length_singleton]; omega, fun H2 p e2 hP => k H2 p e2 ?_⟩
          rw [List.length_append, List.length_singleton, show n - (m.length + 1) = n - m.length - 1 by omega] at hP
          exact hP
      have hcat : ∀ x : Option Nat, m.map ov ++ [ov x] = (m ++ [x]).map ov := fun x => by simp
      refine ⟨_, .inl (SqL.of TB.top), rfl, ?_⟩
      by_cases h1 : m.length = n
      · have : (m.length : Int) = ((as.map V.ref).length : Int) := by rw [List.length_map, TB.len, mkL_len, h1]
        rw [decide_eq_true this]
        refine iteT ⟨by decide, fun p hp => q _ _ (same_upd hp) ?_⟩
        rw [h1, Nat.sub_self]
        refine ⟨[da], upd_same, by simp, fun b hb => ?_⟩
        have : b = da := by simpa using hb
        subst this
        exact ⟨m, by rw [upd_ne (ne_of_none hda hp)]; exact hda, vp, h1⟩
      have hlt : m.length < n := by omega
      have hpow : 7 ^ (n - m.length) = 6 * 7 ^ (n - m.length - 1) + 7 ^ (n - m.length - 1) := by
        rw [show n - m.length = (n - m.length - 1) + 1 by omega, Nat.pow_succ, Nat.add_sub_cancel]
        omega
      have hbig : 7 ^ (n - m.length - 1) ≤ 7 ^ 6 := Nat.pow_le_pow_right (by decide) (by omega)
      generalize 7 ^ (n - m.length - 1) = c1 at *
      have : ¬ (m.length : Int) = ((as.map V.ref).length : Int) := by rw [List.length_map, TB.len, mkL_len]; omega
      rw [decide_eq_false this]
      refine iteF ⟨_, .inl (SqL.of hda), rfl, flat_ov _, ?_⟩
      rw [show V.int (m.length : Int) = nv m.length from rfl, inV_ov]
      by_cases h2 : some m.length ∈ m
      · rw [decide_eq_true h2]
        obtain ⟨j, hj⟩ := List.mem_iff_getElem?.mp h2
        refine iteT ⟨.inl ⟨rfl, _, SqL.of hda⟩, index_ov (SqL.of hda) hj (fun i hi => vp.one i j _ hi hj) ⟨by decide, fun p hp => ⟨_, by rw [upd_ne (ne_of_none hda hp)]; exact hda, _, upd_same, ?_, fun p1 hp1 => ?_⟩⟩⟩
        · have : (m.map ov).length ≤ 6 := by rw [List.length_map]; omega
          have : ([nv j] : List V).length = 1 := rfl
          have : 7 ≤ sizeLine := by decide
          omega
        · have e1 : Same H (upd (upd H p (.lst [nv j])) p1 (.lst (m.map ov ++ [nv j]))) := same_upd2 (same_upd hp) (by by_cases z : p1 = p; (subst z; exact hp); (rw [upd_ne z] at hp1; exact hp1))
          refine hrec _ _ (some j) _ _ e1 hlt (by rw [upd_same]; exact congrArg _ (congrArg _ (hcat (some j)))) (vp.chosen mu hj) fun H2 p2 e2 hP => q _ _ (e1.trans e2) (hP.mono (by omega))
      · rw [decide_eq_false h2]
        refine iteF ?_
        have hfree : ∀ i : Nat, m[i]? ≠ some (some m.length) := fun i hi => h2 (List.mem_of_getElem? hi)
        have TB0 := TB
        obtain ⟨a, ha, hra, _, _⟩ := TB0.at (show m.length < (mkL n R).length by rw [mkL_len]; exact hlt)
        rw [fn_mkL hlt] at hra
        have hstep : ∀ (H' : Hp) (f : Addr) (c : Nat) (x : Option Nat) (Q1 : Addr → Hp → Prop), Same H H' → PsAt H' n R f c → c ≤ 6 * c1 → VP R (m ++ [x]) → (∀ p H2, Same H H2 → PsAt H2 n R p (c + c1) → Q1 p H2) →
            1 ≤ sizeLine ∧ ∀ p, H' p = none → ∃ xs, upd H' p (.lst [ov x]) da = some (.lst xs) ∧ ∃ ys, upd H' p (.lst [ov x]) p = some (.lst ys) ∧ xs.length + ys.length ≤ sizeLine ∧ ∀ p1, upd H' p (.lst [ov x]) p1 = none →
              sp_lpair K e [.ref t, .ref p1] (upd (upd H' p (.lst [ov x])) p1 (.lst (xs ++ ys))) (fun y H2 => ∃ g, y = V.ref g ∧ ∃ x2, H2 f = some (.lst x2) ∧ ∃ x3, H2 g = some (.lst x3) ∧ x2.length + x3.length ≤ sizeLine ∧ ∀ p, H2 p = none → Q1 p (upd H2 p (.lst (x2 ++ x3)))) E0 := by
          intro H' f c x Q1 e2 hP hc v k
          refine ⟨by decide, fun p hp => ⟨_, by rw [upd_ne (ne_of_none (e2 _ _ hda) hp)]; exact e2 _ _ hda, _, upd_same, ?_, fun p1 hp1 => ?_⟩⟩
          · have : (m.map ov).length ≤ 6 := by rw [List.length_map]; omega
            have : ([ov x] : List V).length = 1 := rfl
            have : 7 ≤ sizeLine := by decide
            omega
          · have hp1' : H' p1 = none := by by_cases z : p1 = p; (subst z; exact hp); (rw [upd_ne z] at hp1; exact hp1)
            have e3 : Same H' (upd (upd H' p (.lst [ov x])) p1 (.lst (m.map ov ++ [ov x]))) := same_upd2 (same_upd hp) hp1'
            refine hrec _ _ x _ _ (e2.trans e3) hlt (by rw [upd_same]; exact congrArg _ (congrArg _ (hcat x))) v fun H2 g e4 hG => ?_
            have hF := hP.same (e3.trans e4)
            obtain ⟨bs, hb1, hb2⟩ := hF.at
            obtain ⟨cs, hc1, hc2⟩ := hG.at
            refine ⟨g, rfl, _, hb1, _, hc1, ?_, fun p2 hp2 => k p2 _ (same_upd2 (e2.trans (e3.trans e4)) ((e2.trans (e3.trans e4)).free hp2)) (PsAt.cat hF hG hp2 hb1 hc1)⟩
            rw [List.length_map, List.length_map]
            have : 7 * 7 ^ 6 ≤ sizeLine := by decide
            omega
        obtain ⟨M1, hM1⟩ : ∃ M1 : L2.St → Hp → Prop, M1 = (fun σ H' => ∃ f, σ = [some (.ref t), some (.ref da), some (nv m.length), some (.ref f), none] ∧ Same H H' ∧ H' f = some (.lst [])) := ⟨_, rfl⟩
        refine ⟨M1, ?_, fun σ H' hM => ?_⟩
        · simp only [cx_K, cx_w, wipe, Int.zero_add, Bool.false_eq_true, if_false, if_true, Bool.not_true, Bool.not_false, tSeq, tAsg, tOp, tVar, tC, tRet, tRetN, tNext, tDrop, tIfS, tB, tTest, tIf, tAnd, tOr, tNot, tAndV, tOrV, tNotV, tUn, tCons, tNil, tCall, tCB, tBM, tBM0, tNoPart, tPart, tSl, tCont, tNever, tTup, tLst, gName, gNil, gCons, gTup, gSub, rI, rI0, rU, rEq, rNe, rIxL, rSlL, rSetL, rLn, rLs, rTs, rIn, rSet0, tSAdd, rSAdd, rSIn, rSNotIn, rRep, rCat, rAppend, rPop, rPopAt, iList, iRng1, iRng2, iEnum, gTup, tIsN, tNotN, tTru, tLstRg, tRg1, tRg2, L2.start, List.map_cons, List.map_nil, List.length_cons, List.length_nil, List.replicate, List.cons_append, List.nil_append, List.getElem?_cons_zero, List.getElem?_cons_succ, List.set_cons_zero, List.set_cons_succ, Option.some.injEq, exists_eq_left', V.int.injEq, V.ref.injEq, V.bl.injEq, List.cons.injEq, exists_and_left, exists_and_right, and_true, true_and, exists_eq_left, exists_eq, Nat.reduceAdd, Nat.reduceSub]
          exact ⟨by decide, fun f hf => by rw [hM1]; exact ⟨f, rfl, same_upd hf, upd_same⟩⟩
        rw [hM1] at hM
        obtain ⟨f, rfl, e1, hf⟩ := hM
        obtain ⟨M2, hM2⟩ : ∃ M2 : L2.St → Hp → Prop, M2 = (fun σ H' => ∃ f y, σ = [some (.ref t), some (.ref da), some (nv m.length), some (.ref f), y] ∧ Same H H' ∧ PsAt H' n R f (6 * c1)) := ⟨_, rfl⟩
        have hlen6 : (R m.length).length ≤ 6 := Nat.le_trans (nodup_len (nd _) (fun x hx => lt _ x hx)) hn
        refine ⟨M2, ?_, fun σ H' hM => ?_⟩
        · refine ⟨.ref t, rfl, nv m.length, rfl, t, _, _, .ref a, rfl, rfl, SqL.of (e1 _ _ TB.top), TB.atI ha, a, rfl, ⟨_, SqL.of (e1 _ _ hra)⟩, for_list (K := K) (xs := (R m.length).map nv)
            (fun i σ H' => ∃ f y, σ = [some (.ref t), some (.ref da), some (nv m.length), some (.ref f), y] ∧ Same H H' ∧ PsAt H' n R f (i * c1)) ⟨f, none, rfl, e1, ⟨[], hf, by simp, fun b hb => by simp at hb⟩⟩ (fun i σ H' _ h => ?_) (fun i x σ H' hx h => ?_) (fun σ H' h => ?_)⟩
          · obtain ⟨_, _, _, e2, _⟩ := h
            exact SqL.of (e2 _ _ hra)
          · obtain ⟨f, y, rfl, e2, hP⟩ := h
            rw [List.getElem?_map] at hx
            obtain ⟨z, hz, rfl⟩ := Option.map_eq_some_iff.mp hx
            have hzm := List.mem_of_getElem? hz
            obtain ⟨M3, hM3⟩ : ∃ M3 : L2.St → Hp → Prop, M3 = (fun σ H' => ∃ f y, σ = [some (V.ref t), some (V.ref da), some (nv m.length), some (V.ref f), y] ∧ Same H H' ∧ PsAt H' n R f ((i + 1) * c1)) := ⟨_, rfl⟩
            rw [← hM3]
            have hno : M3 [some (V.ref t), some (V.ref da), some (nv m.length), some (V.ref f), some (nv z)] H' := by
              rw [hM3]
              exact ⟨f, _, rfl, e2, hP.mono (Nat.mul_le_mul_right _ (by omega))⟩
            simp only [cx_K, cx_w, wipe, Int.zero_add, Bool.false_eq_true, if_false, if_true, Bool.not_true, Bool.not_false, tSeq, tAsg, tOp, tVar, tC, tRet, tRetN, tNext, tDrop, tIfS, tB, tTest, tIf, tAnd, tOr, tNot, tAndV, tOrV, tNotV, tUn, tCons, tNil, tCall, tCB, tBM, tBM0, tNoPart, tPart, tSl, tCont, tNever, tTup, tLst, gName, gNil, gCons, gTup, gSub, rI, rI0, rU, rEq, rNe, rIxL, rSlL, rSetL, rLn, rLs, rTs, rIn, rSet0, tSAdd, rSAdd, rSIn, rSNotIn, rRep, rCat, rAppend, rPop, rPopAt, iList, iRng1, iRng2, iEnum, gTup, tIsN, tNotN, tTru, tLstRg, tRg1, tRg2, L2.start, List.map_cons, List.map_nil, List.length_cons, List.length_nil, List.replicate, List.cons_append, List.nil_append, List.getElem?_cons_zero, List.getElem?_cons_succ, List.set_cons_zero, List.set_cons_succ, Option.some.injEq, exists_eq_left', V.int.injEq, V.ref.injEq, V.bl.injEq, List.cons.injEq, exists_and_left, exists_and_right, and_true, true_and, exists_eq_left, exists_eq, Nat.reduceAdd, Nat.reduceSub]
            by_cases h3 : m.length < z
            · rw [decide_eq_true (show (m.length : Int) < (z : Int) by omega)]
              refine iteT ⟨_, .inl (SqL.of (e2 _ _ hda)), rfl, flat_ov _, ?_⟩
              rw [inV_ov]
              by_cases h4 : some z ∈ m
              · rw [decide_eq_true h4]
                exact iteF hno
              · rw [decide_eq_false h4]
                have hil : i < (R m.length).length := (List.getElem?_eq_some_iff.mp hz).1
                refine iteT (hstep H' f (i * c1) (some z) (fun p H2 => M3 [some (V.ref t), some (V.ref da), some (nv m.length), some (V.ref p), some (nv z)] H2) e2 hP (Nat.mul_le_mul_right _ (by omega)) (vp.take hfree fun j hj => ?_) fun p H2 e5 hP5 => ?_)
                · cases hj
                  exact ⟨hzm, h3, fun i hi => h4 (List.mem_of_getElem? hi)⟩
                · show M3 _ _
                  rw [hM3]
                  exact ⟨p, _, rfl, e5, by rw [Nat.succ_mul]; exact hP5⟩
            · rw [decide_eq_false (show ¬ (m.length : Int) < (z : Int) by omega)]
              exact iteF hno
          · obtain ⟨f, y, rfl, e2, hP⟩ := h
            show M2 _ _
            rw [hM2]
            refine ⟨f, y, rfl, e2, hP.mono (Nat.mul_le_mul_right _ ?_)⟩
            rw [List.length_map]
            exact hlen6
        · rw [hM2] at hM
          obtain ⟨f, y, rfl, e2, hP⟩ := hM
          simp only [cx_K, cx_w, wipe, Int.zero_add, Bool.false_eq_true, if_false, if_true, Bool.not_true, Bool.not_false, tSeq, tAsg, tOp, tVar, tC, tRet, tRetN, tNext, tDrop, tIfS, tB, tTest, tIf, tAnd, tOr, tNot, tAndV, tOrV, tNotV, tUn, tCons, tNil, tCall, tCB, tBM, tBM0, tNoPart, tPart, tSl, tCont, tNever, tTup, tLst, gName, gNil, gCons, gTup, gSub, rI, rI0, rU, rEq, rNe, rIxL, rSlL, rSetL, rLn, rLs, rTs, rIn, rSet0, tSAdd, rSAdd, rSIn, rSNotIn, rRep, rCat, rAppend, rPop, rPopAt, iList, iRng1, iRng2, iEnum, gTup, tIsN, tNotN, tTru, tLstRg, tRg1, tRg2, L2.start, List.map_cons, List.map_nil, List.length_cons, List.length_nil, List.replicate, List.cons_append, List.nil_append, List.getElem?_cons_zero, List.getElem?_cons_succ, List.set_cons_zero, List.set_cons_succ, Option.some.injEq, exists_eq_left', V.int.injEq, V.ref.injEq, V.bl.injEq, List.cons.injEq, exists_and_left, exists_and_right, and_true, true_and, exists_eq_left, exists_eq, Nat.reduceAdd, Nat.reduceSub]
          exact hstep H' f (6 * c1) none (fun p H2 => Q (.ref p) H2) e2 hP (Nat.le_refl _) (vp.take hfree fun j hj => by cases hj) fun p H2 e5 hP5 => q _ _ e5 (by rw [hpow]; exact hP5)
end
end K3

set_option Elab.async false
set_option linter.all false
set_option maxRecDepth 100000
set_option maxHeartbeats 4000000
namespace K3
open PySem PySem.Spec PyProof.Rows L2 LamX Bk
section
variable {P : Program} {w : World} {K : PySem.W.Frag} {mg : Str → Option Value} {base : Heap}

def sp_lspoil (K : PySem.W.Frag) : Sp := fun vs H Q _ => ∃ (t pa : Addr) (as : List Addr) (n : Nat) (R : Nat → List Nat) (m : List (Option Nat)), vs = [.ref t, .ref pa] ∧ Tbl H t as (mkL n R) ∧ H pa = some (.lst (m.map ov)) ∧ m.length = n ∧ n ≤ 100 ∧
  ∀ H' D, Same H H' → H D = none → PairsAt H' D (spL n R m n) → Q (.ref D) H'
theorem ok_lspoil (T : Txt K mg) : FnOk P w K mg base CX0 2 T.a__law_spoilers T.fd__law_spoilers ["_law_rows", "_law_pairing"] (sp_lspoil K) := by
  have G__law_better : FnOk P w K mg base CX0 1 T.a__law_better T.fd__law_better ["_law_row", "_law_one", "_law_other"] (sp_better K) := ok_better T
  refine T.F__law_spoilers.ok sc__law_spoilers (fun vs H Q E h => ?_) (fun cdv A outer s H vs Q E hr h => ?_)
  · obtain ⟨t, pa, as, n, R, m, rfl, _⟩ := h
    rfl
  · obtain ⟨t, pa, as, n, R, m, rfl, TB, hpa, hm, hn, q⟩ := h
    refine ⟨_, (C8.pss_cut (ps_set (i := 2) sc__law_spoilers.nd rfl (.inl rfl) (pe_lst pa_nil))
      (C8.pss_cut (ps_for PassesOwn.never rfl (pi_range1 (by rfl) T.m_range (pa_cons (pe_callB (klen (K := K)) (by rfl) T.m_len (by decide +kernel) (pa_cons (pv 0) pa_nil)) pa_nil)) (pg_name (i := 3) sc__law_spoilers.nd rfl (.inl rfl)) (pss_one (ps_for PassesOwn.never rfl (pi_range2 (by rfl) T.m_range (pa_cons (pe_op op_add (pv 3) pe_int) (pa_cons (pe_callB (klen (K := K)) (by rfl) T.m_len (by decide +kernel) (pa_cons (pv 0) pa_nil)) pa_nil))) (pg_name (i := 4) sc__law_spoilers.nd rfl (.inl rfl)) (pss_one (ps_if (PW.pt (pw_and (pt_val (pe_call G__law_better (hr.mono (by decide)) (by rfl) T.g__law_better T.F__law_better.kp T.b__law_better .nil pass0 (pa_cons (pe_ix (kix_list (K := K)) (pv 0) (pv 3) (fun _ _ => rfl)) (pa_cons (pv 4) (pa_cons (pe_ix (kix_list (K := K)) (pv 1) (pv 3) (fun _ _ => rfl)) pa_nil))))) (pw_and1 (pt_val (pe_call G__law_better (hr.mono (by decide)) (by rfl) T.g__law_better T.F__law_better.kp T.b__law_better .nil pass0 (pa_cons (pe_ix (kix_list (K := K)) (pv 0) (pv 4) (fun _ _ => rfl)) (pa_cons (pv 3) (pa_cons (pe_ix (kix_list (K := K)) (pv 1) (pv 4) (fun _ _ => rfl)) pa_nil)))))))) (pss_one (ps_if (pt_cmpR op_ne (pe_ix (kix_list (K := K)) (pv 1) (pv 3) (fun _ _ => rfl)) (pv 4) (nomark _)) (pss_one (ps_expr (pe_bm PySem.F.plainAttrs_list PySem.F.slot_list_append PySem.F.type_list_append mt_append (pv 2) (pa_cons (pe_tup (pa_cons (pv 3) (pa_cons (pv 4) pa_nil))) pa_nil)))) pss_nil)) pss_nil)))))
      (pss_one (ps_ret (pv 2))))), ?_⟩
    refine ⟨fun σ H' => ∃ D, H D = none ∧ H' = upd H D (.lst []) ∧ σ = [some (.ref t), some (.ref pa), some (.ref D), none, none], ?_, fun σ H' hM => ?_⟩
    · simp only [cx_K, cx_w, wipe, Int.zero_add, Bool.false_eq_true, if_false, if_true, Bool.not_true, Bool.not_false, tSeq, tAsg, tOp, tVar, tC, tRet, tRetN, tNext, tDrop, tIfS, tB, tTest, tIf, tAnd, tOr, tNot, tAndV, tOrV, tNotV, tUn, tCons, tNil, tCall, tCB, tBM, tBM0, tNoPart, tPart, tSl, tCont, tNever, tTup, tLst, gName, gNil, gCons, gTup, gSub, rI, rI0, rU, rEq, rNe, rIxL, rSlL, rSetL, rLn, rLs, rTs, rIn, rSet0, tSAdd, rSAdd, rSIn, rSNotIn, rRep, rCat, rAppend, rPop, rPopAt, iList, iRng1, iRng2, iEnum, gTup, tIsN, tNotN, tTru, tLstRg, tRg1, tRg2, L2.start, List.map_cons, List.map_nil, List.length_cons, List.length_nil, List.replicate, List.cons_append, List.nil_append, List.getElem?_cons_zero, List.getElem?_cons_succ, List.set_cons_zero, List.set_cons_succ, Option.some.injEq, exists_eq_left', V.int.injEq, V.ref.injEq, V.bl.injEq, List.cons.injEq, exists_and_left, exists_and_right, and_true, true_and, exists_eq_left, exists_eq, Nat.reduceAdd, Nat.reduceSub]
      exact ⟨Nat.zero_le _, fun f hf => ⟨f, hf, rfl, rfl⟩⟩
    obtain ⟨D, hD, rfl, rfl⟩ := hM
    obtain ⟨M, hMd⟩ : ∃ M : L2.St → Hp → Prop, M = (fun σ H2 => Same H H2 ∧ PairsAt H2 D (spL n R m n) ∧ σ[2]? = some (some (.ref D))) := ⟨_, rfl⟩
    refine ⟨M, ?_, fun σ H' hM => ?_⟩
    · refine ⟨_, rfl, t, _, rfl, .inl (SqL.of (same_upd hD _ _ TB.top)), _, rfl, (z62 (by rw [List.length_map, TB.len, mkL_len]; omega)).1, (z62 (by rw [List.length_map, TB.len, mkL_len]; omega)).2,
        for_rng n (by rw [toNat_len, List.length_map, TB.len, mkL_len]) (fun i σ H' => ∃ y1 y2, σ = [some (.ref t), some (.ref pa), some (.ref D), y1, y2] ∧ Same H H' ∧ PairsAt H' D (spL n R m i)) ⟨none, none, rfl, same_upd hD, .nil upd_same⟩ (fun i σ H' hi h => ?_) (fun σ H' h => ?_)⟩
      · obtain ⟨y1, y2, rfl, e, hP⟩ := h
        obtain ⟨M2, hM2⟩ : ∃ M2 : L2.St → Hp → Prop, M2 = (fun σ H' => ∃ y1 y2, σ = [some (V.ref t), some (V.ref pa), some (V.ref D), y1, y2] ∧ Same H H' ∧ PairsAt H' D (spL n R m (i + 1))) := ⟨_, rfl⟩
        rw [← hM2]
        have hl : ((as.map V.ref).length : Int) = (n : Int) := by rw [List.length_map, TB.len, mkL_len]
        refine ⟨.int (0 + (i : Int)), rfl, 0 + (i : Int), 1, rfl, rfl, .ref t, rfl, t, _, rfl, .inl (SqL.of (e _ _ TB.top)), _, _, rfl, ⟨by omega, by omega, by omega, by omega⟩,
          for_rng (n - (i + 1)) (by omega) (fun j σ H' => ∃ y2, σ = [some (.ref t), some (.ref pa), some (.ref D), some (nv i), y2] ∧ Same H H' ∧ PairsAt H' D (spL n R m i ++ spRow R m i (i + 1) j)) ⟨y2, by show [_, _, _, some (V.int (0 + (i : Int))), _] = _; rw [Int.zero_add], e, by rw [show spRow R m i (i + 1) 0 = [] from rfl, List.append_nil]; exact hP⟩ (fun j σ H' hj h => ?_) (fun σ H' h => ?_)⟩
        · clear e hP
          obtain ⟨y2, rfl, e, hP⟩ := h
          have ej : (0 : Int) + (i : Int) + 1 + (j : Int) = ((i + 1 + j : Nat) : Int) := by omega
          rw [ej]
          obtain ⟨z, hz⟩ : ∃ z, z = i + 1 + j := ⟨_, rfl⟩
          rw [← hz]
          have hzn : z < n := by omega
          obtain ⟨a, ha, hra, _, _⟩ := (TB.same e).at (show i < (mkL n R).length by rw [mkL_len]; exact hi)
          obtain ⟨b, hb, hrb, _, _⟩ := (TB.same e).at (show z < (mkL n R).length by rw [mkL_len]; exact hzn)
          rw [fn_mkL hi] at hra
          rw [fn_mkL hzn] at hrb
          obtain ⟨M3, hM3⟩ : ∃ M3 : L2.St → Hp → Prop, M3 = (fun σ H' => ∃ y2, σ = [some (V.ref t), some (V.ref pa), some (V.ref D), some (nv i), y2] ∧ Same H H' ∧ PairsAt H' D (spL n R m i ++ spRow R m i (i + 1) (j + 1))) := ⟨_, rfl⟩
          rw [← hM3]
          simp only [cx_K, cx_w, wipe, Int.zero_add, Bool.false_eq_true, if_false, if_true, Bool.not_true, Bool.not_false, tSeq, tAsg, tOp, tVar, tC, tRet, tRetN, tNext, tDrop, tIfS, tB, tTest, tIf, tAnd, tOr, tNot, tAndV, tOrV, tNotV, tUn, tCons, tNil, tCall, tCB, tBM, tBM0, tNoPart, tPart, tSl, tCont, tNever, tTup, tLst, gName, gNil, gCons, gTup, gSub, rI, rI0, rU, rEq, rNe, rIxL, rSlL, rSetL, rLn, rLs, rTs, rIn, rSet0, tSAdd, rSAdd, rSIn, rSNotIn, rRep, rCat, rAppend, rPop, rPopAt, iList, iRng1, iRng2, iEnum, gTup, tIsN, tNotN, tTru, tLstRg, tRg1, tRg2, L2.start, List.map_cons, List.map_nil, List.length_cons, List.length_nil, List.replicate, List.cons_append, List.nil_append, List.getElem?_cons_zero, List.getElem?_cons_succ, List.set_cons_zero, List.set_cons_succ, Option.some.injEq, exists_eq_left', V.int.injEq, V.ref.injEq, V.bl.injEq, List.cons.injEq, exists_and_left, exists_and_right, and_true, true_and, exists_eq_left, exists_eq, Nat.reduceAdd, Nat.reduceSub]
          have Sp : SqL K H' pa (m.map ov) := SqL.of (e _ _ hpa)
          have at_i : atI (m.map ov) (i : Int) = some (ov (mO m i)) := atI_nat (by rw [List.getElem?_map, mO_at (by omega)]; rfl)
          have at_z : atI (m.map ov) (z : Int) = some (ov (mO m z)) := atI_nat (by rw [List.getElem?_map, mO_at (by omega)]; rfl)
          have hno : spB R m i z = false → M3 [some (.ref t), some (.ref pa), some (.ref D), some (nv i), some (nv z)] H' := fun hb => by
            rw [hM3]
            refine ⟨_, rfl, e, ?_⟩
            rw [spRow_succ, ← hz, hb]
            exact hP
          refine ⟨_, SqL.of (e _ _ TB.top), _, Tbl.atI TB ha, _, Sp, _, at_i, a, R i, z, mO m i, rfl, hra, _, rfl, ?_⟩
          cases hb1 : betterF (R i) z (mO m i) with
          | false => exact iteF (hno (by unfold spB; rw [hb1]; rfl))
          | true =>
            refine iteT ⟨_, SqL.of (e _ _ TB.top), _, Tbl.atI TB hb, _, Sp, _, at_z, b, R z, i, mO m z, rfl, hrb, _, rfl, ?_⟩
            cases hb2 : betterF (R z) i (mO m z) with
            | false => exact iteF (hno (by unfold spB; rw [hb1, hb2]; rfl))
            | true =>
              refine iteT ⟨_, Sp, _, at_i, scal_ov _ _, ?_⟩
              by_cases hb3 : mO m i = some z
              · rw [ov_eq, decide_eq_true hb3]
                exact iteF (hno (by unfold spB; rw [hb1, hb2, decide_eq_true hb3]; rfl))
              · rw [ov_eq, decide_eq_false hb3]
                have hyes : spB R m i z = true := by unfold spB; rw [hb1, hb2, decide_eq_false hb3]; rfl
                obtain ⟨ps, hps, hl2, h3⟩ := hP.ex
                refine iteT ⟨.inl ⟨rfl, _, SqL.of hps⟩, (by decide), fun T hT => ⟨ps.map V.ref, ?_⟩⟩
                refine ⟨by rw [upd_ne (ne_of_none hps hT)]; exact hps, ?_, ?_⟩
                · rw [List.length_map, hl2, List.length_append]
                  have g1 := spL_len n R m i
                  have g2 := spRow_len R m i (i + 1) j
                  have g3 : i * n ≤ 100 * 100 := Nat.mul_le_mul (by omega) hn
                  exact small (by omega)
                · rw [hM3]
                  refine ⟨_, rfl, fun b o ho => ?_, ?_⟩
                  · rw [upd_ne (ne_of_none ho hD), upd_ne (ne_of_none (e _ _ ho) hT)]
                    exact e b o ho
                  · rw [spRow_succ, ← hz, hyes, if_pos rfl, ← List.append_assoc]
                    exact pairs_snoc hps hl2 h3 hT
        · obtain ⟨y2, rfl, e, hP⟩ := h
          show M2 _ _
          rw [hM2]
          exact ⟨_, _, rfl, e, by rw [spL_succ]; exact hP⟩
      · obtain ⟨y1, y2, rfl, e, hP⟩ := h
        rw [hMd]
        exact ⟨e, hP, rfl⟩
    · rw [hMd] at hM
      obtain ⟨e, hP, hσ⟩ := hM
      exact ⟨_, hσ, q H' D e hD hP⟩
end
end K3

set_option Elab.async false
set_option linter.all false
set_option maxRecDepth 100000
set_option maxHeartbeats 4000000
namespace K3
open PySem PySem.Spec PyProof.Rows L2 LamX Bk
section
variable {P : Program} {w : World} {K : PySem.W.Frag} {mg : Str → Option Value} {base : Heap}

theorem ok_lpair7 (T : Txt K mg) : FnOk P w K mg base CX0 7 T.a__law_pairings T.fd__law_pairings ["_law_rows", "_law_done"] (fun vs H Q E => ∃ e, e ≤ 7 ∧ sp_lpair K e vs H Q E) :=
  ⟨fun vs H Q E h => by obtain ⟨e, he, h⟩ := h; exact (ok_lpair (P := P) (w := w) (base := base) T e).len vs H Q E h, fun A outer s H args us vs Q E hr h1 h2 h3 h => by obtain ⟨e, he, h⟩ := h; exact ((ok_lpair T e).mono he).run A outer s H args us vs Q E hr h1 h2 h3 h⟩
def sp_inside (K : PySem.W.Frag) : Sp := fun vs H Q _ => ∃ (t d : Addr) (as ds : List Addr) (n : Nat) (C F : Nat → List Nat), vs = [.ref t, .ref d] ∧ Tbl H t as (mkL n C) ∧ Tbl H d ds (mkL n F) ∧ Lists C ∧ (∀ i x, x ∈ C i → i < n ∧ x < n) ∧ n ≤ 6 ∧
  (∀ m, Good C m → ∀ i, i < n → (m i = none ↔ F i = []) ∧ ∀ j, m i = some j → j ∈ F i) ∧ ∀ H', Same H H' → Q (.bl true) H'
theorem ok_inside (T : Txt K mg) : FnOk P w K mg base CX0 8 T.a__law_all_inside T.fd__law_all_inside ["_law_rows", "_law_table"] (sp_inside K) := by
  have G__law_pairings : FnOk P w K mg base CX0 7 T.a__law_pairings T.fd__law_pairings ["_law_rows", "_law_done"] (fun vs H Q E => ∃ e, e ≤ 7 ∧ sp_lpair K e vs H Q E) := ok_lpair7 T
  have G__law_spoilers : FnOk P w K mg base CX0 2 T.a__law_spoilers T.fd__law_spoilers ["_law_rows", "_law_pairing"] (sp_lspoil K) := ok_lspoil T
  refine T.F__law_all_inside.ok sc__law_all_inside (fun vs H Q E h => ?_) (fun cdv A outer s H vs Q E hr h => ?_)
  · obtain ⟨t, d, as, ds, n, C, F, rfl, _⟩ := h
    rfl
  · obtain ⟨t, d, as, ds, n, C, F, rfl, TB, TD, L, lt, hn, good, q⟩ := h
    refine ⟨_, (C8.pss_cut (ps_for PassesOwn.never rfl (kpi_list (K := K) (pe_call G__law_pairings (hr.mono (by decide)) (by rfl) T.g__law_pairings T.F__law_pairings.kp T.b__law_pairings .nil pass0 (pa_cons (pv 0) (pa_cons (pe_lst pa_nil) pa_nil)))) (pg_name (i := 2) sc__law_all_inside.nd rfl (.inl rfl)) (pss_one (ps_if (pt_cmpR (keqD (K := K) hr.units) (pe_call G__law_spoilers (hr.mono (by decide)) (by rfl) T.g__law_spoilers T.F__law_spoilers.kp T.b__law_spoilers .nil pass0 (pa_cons (pv 0) (pa_cons (pv 2) pa_nil))) (pe_lst pa_nil) (nomark _)) (pss_one (ps_for PassesOwn.never rfl (pi_range1 (by rfl) T.m_range (pa_cons (pe_callB (klen (K := K)) (by rfl) T.m_len (by decide +kernel) (pa_cons (pv 0) pa_nil)) pa_nil)) (pg_name (i := 3) sc__law_all_inside.nd rfl (.inl rfl)) (pss_cons (ps_if (pt_cmpR op_ne (pe_cmp (pc_isN (pe_ix (kix_list (K := K)) (pv 2) (pv 3) (fun _ _ => rfl)))) (pe_cmpR (keqD (K := K) hr.units) (pe_ix (kix_list (K := K)) (pv 1) (pv 3) (fun _ _ => rfl)) (pe_lst pa_nil) (nomark _)) (nomark _)) (pss_one (ps_ret pe_bl)) pss_nil)
      (pss_one (ps_if (PW.pt (pw_and (pt_cmp (pc_notN (pe_ix (kix_list (K := K)) (pv 2) (pv 3) (fun _ _ => rfl)))) (pw_and1 (pt_cmpR (knotin (K := K)) (pe_ix (kix_list (K := K)) (pv 2) (pv 3) (fun _ _ => rfl)) (pe_ix (kix_list (K := K)) (pv 1) (pv 3) (fun _ _ => rfl)) rfl)))) (pss_one (ps_ret pe_bl)) pss_nil))))) pss_nil)))
      (pss_one (ps_ret pe_bl))), ?_⟩
    obtain ⟨M1, hM1⟩ : ∃ M1 : L2.St → Hp → Prop, M1 = (fun σ H' => Same H H') := ⟨_, rfl⟩
    refine ⟨M1, ?_, fun σ H' hM => by rw [hM1] at hM; exact q H' hM⟩
    refine ⟨.ref t, rfl, by decide, fun x hx => ?_⟩
    have e0 : Same H (upd H x (.lst [])) := same_upd hx
    refine ⟨n + 1, by omega, t, x, as, n, C, [], rfl, TB.same e0, upd_same, VP.nil, fun i j h => L.mu i j h, L.nd, fun i j h => (lt i j h).2, hn, Nat.zero_le _, by simp, fun H1 p e1 hP => ?_⟩
    obtain ⟨bs, hp, hbs, hall⟩ := hP
    have e2 : Same H H1 := e0.trans e1
    refine ⟨p, rfl, ⟨_, SqL.of hp⟩, for_list (K := K) (xs := bs.map V.ref) (fun i σ H' => Same H1 H' ∧ ∃ y1 y2, σ = [some (.ref t), some (.ref d), y1, y2]) ⟨.refl _, none, none, rfl⟩ (fun i σ H' _ h => SqL.of (h.1 _ _ hp)) (fun i x σ H' hx h => ?_) (fun σ H' h => ?_)⟩
    · obtain ⟨e3, y1, y2, rfl⟩ := h
      rw [List.getElem?_map] at hx
      obtain ⟨b, hb, rfl⟩ := Option.map_eq_some_iff.mp hx
      obtain ⟨m, hm, vp, hml⟩ := hall b (List.mem_of_getElem? hb)
      have e4 : Same H H' := e2.trans e3
      obtain ⟨M2, hM2⟩ : ∃ M2 : L2.St → Hp → Prop, M2 = (fun σ H' => Same H1 H' ∧ ∃ y1 y2, σ = [some (V.ref t), some (V.ref d), y1, y2]) := ⟨_, rfl⟩
      rw [← hM2]
      refine ⟨.ref t, rfl, .ref b, rfl, t, b, as, n, C, m, rfl, TB.same e4, e3 _ _ hm, hml, by omega, fun H3 D e5 hD hPr => ?_⟩
      refine ⟨by decide, fun z hz => eq_pairs (hPr.same (same_upd hz)) (.nil upd_same) ⟨_, rfl, ?_⟩⟩
      have e6 : Same H' (upd H3 z (.lst [])) := same_upd2 e5 (e5.free hz)
      have e7 : Same H (upd H3 z (.lst [])) := e4.trans e6
      have hno : M2 [some (.ref t), some (.ref d), some (.ref b), y2] (upd H3 z (.lst [])) := by
        rw [hM2]
        exact ⟨e3.trans e6, _, _, rfl⟩
      by_cases hs : spL n C m n = []
      · rw [decide_eq_true hs]
        have gd := good (mO m) (good_of L lt (vp.pair hml fun i x h => (lt i x h).2) hs)
        generalize upd H3 z (.lst []) = H4 at *
        refine iteT ?_
        have hl : ((as.map V.ref).length : Int) = (n : Int) := by rw [List.length_map, TB.len, mkL_len]
        refine ⟨.ref t, rfl, t, _, rfl, .inl (SqL.of (e7 _ _ TB.top)), _, rfl, by omega, by omega, for_rng n (by rw [toNat_len, List.length_map, TB.len, mkL_len]) (fun j σ H' => Same H4 H' ∧ ∃ y2, σ = [some (.ref t), some (.ref d), some (.ref b), y2]) ⟨.refl _, y2, rfl⟩ (fun j σ H' hj h => ?_) (fun σ H' h => ?_)⟩
        · obtain ⟨e8, y2, rfl⟩ := h
          have TD' := TD.same (e7.trans e8)
          obtain ⟨c, hc, hrc, _, _⟩ := TD'.at (show j < (mkL n F).length by rw [mkL_len]; exact hj)
          rw [fn_mkL hj] at hrc
          have hb' : H' b = some (.lst (m.map ov)) := e8 _ _ (e6 _ _ (e3 _ _ hm))
          obtain ⟨M3, hM3⟩ : ∃ M3 : L2.St → Hp → Prop, M3 = (fun σ H' => Same H4 H' ∧ ∃ y2, σ = [some (V.ref t), some (V.ref d), some (V.ref b), y2]) := ⟨_, rfl⟩
          rw [← hM3]
          simp only [cx_K, cx_w, wipe, Int.zero_add, Bool.false_eq_true, if_false, if_true, Bool.not_true, Bool.not_false, tSeq, tAsg, tOp, tVar, tC, tRet, tRetN, tNext, tDrop, tIfS, tB, tTest, tIf, tAnd, tOr, tNot, tAndV, tOrV, tNotV, tUn, tCons, tNil, tCall, tCB, tBM, tBM0, tNoPart, tPart, tSl, tCont, tNever, tTup, tLst, gName, gNil, gCons, gTup, gSub, rI, rI0, rU, rEq, rNe, rIxL, rSlL, rSetL, rLn, rLs, rTs, rIn, rSet0, tSAdd, rSAdd, rSIn, rSNotIn, rRep, rCat, rAppend, rPop, rPopAt, iList, iRng1, iRng2, iEnum, gTup, tIsN, tNotN, tTru, tLstRg, tRg1, tRg2, L2.start, List.map_cons, List.map_nil, List.length_cons, List.length_nil, List.replicate, List.cons_append, List.nil_append, List.getElem?_cons_zero, List.getElem?_cons_succ, List.set_cons_zero, List.set_cons_succ, Option.some.injEq, exists_eq_left', V.int.injEq, V.ref.injEq, V.bl.injEq, List.cons.injEq, exists_and_left, exists_and_right, and_true, true_and, exists_eq_left, exists_eq, Nat.reduceAdd, Nat.reduceSub]
          obtain ⟨g1, g2⟩ := gd j hj
          have at_j : atI (m.map ov) (j : Int) = some (ov (mO m j)) := atI_nat (by rw [List.getElem?_map, mO_at (by omega)]; rfl)
          refine ⟨_, SqL.of hb', _, at_j, _, SqL.of TD'.top, _, TD'.atI hc, Nat.zero_le _, fun z2 hz2 => ?_⟩
          refine eq_row (s := []) (SqL.of (by rw [upd_ne (ne_of_none hrc hz2)]; exact hrc)) (SqL.of upd_same) ⟨rfl, ?_⟩
          have e9 : Same H4 (upd H' z2 (.lst [])) := same_upd2 e8 (e8.free hz2)
          have hb9 : upd H' z2 (.lst []) b = some (.lst (m.map ov)) := by rw [upd_ne (ne_of_none hb' hz2)]; exact hb'
          have TD9 := TD'.upd_new (o := .lst []) hz2
          have hrc9 : upd H' z2 (.lst []) c = some (.lst ((F j).map nv)) := by rw [upd_ne (ne_of_none hrc hz2)]; exact hrc
          generalize upd H' z2 (.lst []) = H9 at *
          have hM : M3 [some (.ref t), some (.ref d), some (.ref b), some (nv j)] H9 := by rw [hM3]; exact ⟨e9, _, rfl⟩
          rw [isNon_ov]
          have hsame : (mO m j).isNone = decide (F j = []) := by
            rw [Bool.eq_iff_iff, decide_eq_true_iff, Option.isNone_iff_eq_none]
            exact g1
          rw [hsame, decide_eq_true rfl]
          refine iteF ⟨_, SqL.of hb9, _, at_j, ?_⟩
          rw [isNon_ov]
          cases hmj : mO m j with
          | none => exact iteF hM
          | some y =>
            refine iteT ⟨_, SqL.of hb9, _, at_j, _, SqL.of TD9.top, _, TD9.atI hc, c, rfl, _, .inl (SqL.of hrc9), ?_, flat_nv _, ?_⟩
            · rw [hmj]; rfl
            · rw [hmj, show ov (some y) = nv y from rfl, inV_nv, decide_eq_true (g2 y hmj)]
              exact iteF hM
        · obtain ⟨e8, y2, rfl⟩ := h
          show M2 _ _
          rw [hM2]
          exact ⟨e3.trans (e6.trans e8), _, _, rfl⟩
      · rw [decide_eq_false hs]
        exact iteF hno
    · obtain ⟨e3, _⟩ := h
      show M1 _ _
      rw [hM1]
      exact e2.trans e3
end
end K3

set_option Elab.async false
set_option linter.all false
set_option maxRecDepth 100000
set_option maxHeartbeats 4000000
namespace K3
open PySem PySem.Spec PyProof.Rows L2 LamX Bk
section
variable {P : Program} {w : World} {K : PySem.W.Frag} {mg : Str → Option Value} {base : Heap}

def mixed (x k : Int) : Int := ((x % 2147483647 + 7919 * k * k + 31 * k) * 48271 % 2147483647) * (69621 + 2 * k) % 2147483629
theorem mixed_bd (x k : Int) : 0 ≤ mixed x k ∧ mixed x k < 2147483629 := ⟨Int.emod_nonneg _ (by decide), Int.emod_lt_of_pos _ (by decide)⟩
def sp_mixed : Sp := fun vs H Q _ => ∃ (x k : Int), vs = [.int x, .int k] ∧ 0 ≤ k ∧ k < 1000 ∧ Q (.int (mixed x k)) H
theorem ok_mixed (T : Txt K mg) : FnOk P w K mg base CX0 1 T.a__law_mixed T.fd__law_mixed ["_law_number", "_law_k"] sp_mixed := by
  refine T.F__law_mixed.ok sc__law_mixed (fun vs H Q E h => ?_) (fun cdv A outer s H vs Q E hr h => ?_)
  · obtain ⟨x, k, rfl, _⟩ := h
    rfl
  · obtain ⟨x, k, rfl, h0, h1, q⟩ := h
    refine ⟨_, (pss_cons (ps_set (i := 0) sc__law_mixed.nd rfl (.inl rfl) (pe_op op_mod (pe_op op_mul (pe_op op_add (pe_op op_add (pe_op op_mod (pv 0) pe_int) (pe_op op_mul (pe_op op_mul pe_int (pv 1)) (pv 1))) (pe_op op_mul pe_int (pv 1))) pe_int) pe_int))
      (pss_one (ps_ret (pe_op op_mod (pe_op op_mul (pv 0) (pe_op op_add pe_int (pe_op op_mul pe_int (pv 1)))) pe_int)))), ?_⟩
    have e1 := Int.emod_nonneg x (show (2147483647 : Int) ≠ 0 by decide)
    have e2 := Int.emod_lt_of_pos x (show (0 : Int) < 2147483647 by decide)
    have e3 := Int.emod_nonneg ((x % 2147483647 + 7919 * k * k + 31 * k) * 48271) (show (2147483647 : Int) ≠ 0 by decide)
    have e4 := Int.emod_lt_of_pos ((x % 2147483647 + 7919 * k * k + 31 * k) * 48271) (show (0 : Int) < 2147483647 by decide)
    have b1 : 0 ≤ k * k := Int.mul_nonneg h0 h0
    have b2 : k * k ≤ 1000 * 1000 := Int.mul_le_mul (by omega) (by omega) h0 (by decide)
    have b3 : 7919 * k * k = 7919 * (k * k) := by rw [Int.mul_assoc]
    simp only [cx_K, cx_w, wipe, Int.zero_add, Bool.false_eq_true, if_false, if_true, Bool.not_true, Bool.not_false, tSeq, tAsg, tOp, tVar, tC, tRet, tRetN, tNext, tDrop, tIfS, tB, tTest, tIf, tAnd, tOr, tNot, tAndV, tOrV, tNotV, tUn, tCons, tNil, tCall, tCB, tBM, tBM0, tNoPart, tPart, tSl, tCont, tNever, tTup, tLst, gName, gNil, gCons, gTup, gSub, rI, rI0, rU, rEq, rNe, rIxL, rSlL, rSetL, rLn, rLs, rTs, rIn, rSet0, tSAdd, rSAdd, rSIn, rSNotIn, rRep, rCat, rAppend, rPop, rPopAt, iList, iRng1, iRng2, iEnum, gTup, tIsN, tNotN, tTru, tLstRg, tRg1, tRg2, L2.start, List.map_cons, List.map_nil, List.length_cons, List.length_nil, List.replicate, List.cons_append, List.nil_append, List.getElem?_cons_zero, List.getElem?_cons_succ, List.set_cons_zero, List.set_cons_succ, Option.some.injEq, exists_eq_left', V.int.injEq, V.ref.injEq, V.bl.injEq, List.cons.injEq, exists_and_left, exists_and_right, and_true, true_and, exists_eq_left, exists_eq, Nat.reduceAdd, Nat.reduceSub]
    refine ⟨by decide, .inl (by decide), .inr (by omega), .inl (by decide), .inr (by omega), by decide, .inl (by decide), .inl (by omega), by decide, q⟩
end
end K3

set_option Elab.async false
set_option linter.all false
set_option maxRecDepth 100000
set_option maxHeartbeats 4000000
namespace K3
open PySem PySem.Spec PyProof.Rows L2 LamX Bk
section
variable {P : Program} {w : World} {K : PySem.W.Frag} {mg : Str → Option Value} {base : Heap}

def sp_lset (K : PySem.W.Frag) : Sp := fun vs H Q _ => ∃ (t : Addr) (as : List Addr) (rows : List (List Nat)) (one other : Nat) (num : Int), vs = [.ref t, nv one, nv other, .int num] ∧ Tbl H t as rows ∧ GL rows ∧ one < rows.length ∧ other < rows.length ∧ other ≠ one ∧ 0 ≤ num ∧ rows.length ≤ 100 ∧
  ∀ H' as' rows', Tbl H' t as' rows' → rows'.length = rows.length → GL rows' → (∀ x o, x ≠ t → H x = some o → H' x = some o) → (∀ a ∈ as', a ∈ as ∨ H a = none) → Q .non H'
/-- a row with one more put in -/
theorem put_in {r : List Nat} (hd : r.Nodup) {x : Nat} (hx : x ∉ r) (k : Nat) : (r.take k ++ [x] ++ r.drop k).Nodup ∧ ∀ y, y ∈ r.take k ++ [x] ++ r.drop k ↔ y = x ∨ y ∈ r := by
  have hp : (r.take k ++ [x] ++ r.drop k).Perm (x :: r) := by
    have h1 : (r.take k ++ [x] ++ r.drop k).Perm (x :: (r.take k ++ r.drop k)) := by
      rw [List.append_assoc]
      exact List.perm_middle
    rwa [List.take_append_drop] at h1
  exact ⟨hp.nodup_iff.mpr (List.nodup_cons.mpr ⟨hx, hd⟩), fun y => by rw [hp.mem_iff, List.mem_cons]⟩
theorem pick3 {num : Int} (l : Nat) (h0 : 0 ≤ num) : ∃ k : Nat, k ≤ l ∧ atI [V.int 0, V.int (num / 8 % ((l : Int) + 1)), V.int (l : Int)] (num % 3) = some (nv k) := by
  have h1 := Int.emod_nonneg num (show (3 : Int) ≠ 0 by decide)
  have h2 := Int.emod_lt_of_pos num (show (0 : Int) < 3 by decide)
  have h3 := Int.emod_nonneg (num / 8) (show (l : Int) + 1 ≠ 0 by omega)
  have h4 := Int.emod_lt_of_pos (num / 8) (show 0 < (l : Int) + 1 by omega)
  have h : num % 3 = 0 ∨ num % 3 = 1 ∨ num % 3 = 2 := by omega
  rcases h with e | e | e <;> rw [e]
  · exact ⟨0, Nat.zero_le _, rfl⟩
  · refine ⟨(num / 8 % ((l : Int) + 1)).toNat, by omega, ?_⟩
    show some (V.int (num / 8 % ((l : Int) + 1))) = some (V.int (((num / 8 % ((l : Int) + 1)).toNat : Nat) : Int))
    rw [Int.toNat_of_nonneg h3]
  · exact ⟨l, Nat.le_refl _, rfl⟩
theorem ok_lset (T : Txt K mg) : FnOk P w K mg base CX0 1 T.a__law_set T.fd__law_set ["_law_rows", "_law_one", "_law_other", "_law_number"] (sp_lset K) := by
  refine T.F__law_set.ok sc__law_set (fun vs H Q E h => ?_) (fun cdv A outer s H vs Q E hr h => ?_)
  · obtain ⟨t, as, rows, one, other, num, rfl, _⟩ := h
    rfl
  · obtain ⟨t, as, rows, one, other, num, rfl, TB, g, h1, h2, hne, hnum, hlen, q⟩ := h
    refine ⟨_, (pss_cons (ps_setLc (i := 4) (own := [("_law_person", 5)]) rfl sc__law_set.nd rfl rfl (sw_true rfl rfl rfl (by decide +kernel)) (kpi_list (K := K) (pe_ix (kix_list (K := K)) (pv 0) (pv 1) (fun _ _ => rfl))) (blkOk_by (own := [("_law_person", 5)]) (N := ["_law_rows", "_law_one", "_law_other", "_law_number", "_law_row", "_law_person", "_law_at"]) (sc := (defScope s__law_set)) (by decide +kernel)) (fun _ _ _ _ _ => (pg_name (i := 5) sc__law_set.nd rfl (by first | exact .inl rfl | exact .inr rfl))) (fun _ _ _ _ _ => (pts_one (pt_cmpR op_ne (pv 5) (pv 2) (nomark _)))) (fun _ _ _ _ _ => (pv 5)))
      (pss_cons (ps_if (pt_cmpR op_gt (pe_op op_mod (pv 3) pe_int) pe_int (nomark _)) (pss_cons (ps_set (i := 6) sc__law_set.nd rfl (.inl rfl) (pe_ix (kix_list (K := K)) (pe_lst (pa_cons pe_int (pa_cons (pe_op op_mod (pe_op op_fdiv (pv 3) pe_int) (pe_op op_add (pe_callB (klen (K := K)) (by rfl) T.m_len (by decide +kernel) (pa_cons (pv 4) pa_nil)) pe_int)) (pa_cons (pe_callB (klen (K := K)) (by rfl) T.m_len (by decide +kernel) (pa_cons (pv 4) pa_nil)) pa_nil)))) (pe_op op_mod (pv 3) pe_int) (fun _ _ => rfl)))
      (pss_one (ps_set (i := 4) sc__law_set.nd rfl (.inl rfl) (pe_op op_cat (pe_op op_cat (pe_slice (ksl_list (K := K)) (pv 4) po_none (po_some (pv 6))) (pe_lst (pa_cons (pv 2) pa_nil))) (pe_slice (ksl_list (K := K)) (pv 4) (po_some (pv 6)) po_none))))) pss_nil)
      (pss_one (ps_asg (pv 4) (pg_sub (pv 0) (pv 1) set_list))))), ?_⟩
    obtain ⟨a, ha, hra, hat, ham⟩ := TB.at h1
    have r1d : ((fn rows one).filter fun x => !decide (x = other)).Nodup := (g.nd one).filter _
    have r1m : ∀ x, x ∈ ((fn rows one).filter fun x => !decide (x = other)) ↔ x ∈ fn rows one ∧ x ≠ other := fun x => by simp [List.mem_filter]
    have r1l : ((fn rows one).filter fun x => !decide (x = other)).length ≤ 100 := Nat.le_trans (List.length_filter_le _ _) (by have := g.len one; omega)
    refine ⟨_, rfl, nv one, rfl, t, _, one, .ref a, rfl, rfl, SqL.of TB.top, TB.atI ha, a, rfl, ⟨_, SqL.of hra⟩, fun D hD => lc_keep (r := fn rows one) (fun x => !decide (x = other)) hD (SqL.of hra) (by simp [L2.start]) (by have := g.len one; omega) (fun x hx H5 Qt e5 hq => ?_) ?_⟩
    · refine ⟨_, rfl, _, rfl, rfl, _, rfl, ?_⟩
      rw [eq_nv]
      exact hq
    generalize hr1 : ((fn rows one).filter fun x => !decide (x = other)) = r1 at *
    -- the end: a row r2 at D2
    have fin : ∀ (r2 : List Nat) (D2 : Addr) (H2 : Hp) (Qn : Hp → Prop), H D2 = none → Same H H2 → RowAt H2 D2 r2 → r2.Nodup → (∀ x ∈ r2, x < rows.length ∧ x ≠ one) → (∀ H', Tbl H' t (as.set one D2) (rows.set one r2) → (∀ x o, x ≠ t → H x = some o → H' x = some o) → Qn H') →
        ∃ j, ixN (as.map V.ref).length (one : Int) = some j ∧ Qn (upd H2 t (.lst ((as.map V.ref).set j (.ref D2)))) := fun r2 D2 H2 Qn n2 e2 hr2 d2 m2 hQ => by
      have hol : one < as.length := by rw [TB.len]; exact h1
      refine ⟨one, by rw [List.length_map]; exact ixN_nat hol, hQ _ ?_ fun x o hx ho => by rw [upd_ne hx]; exact e2 x o ho⟩
      have fr := TB.fresh n2
      exact (TB.same e2).replace h1 fr.1 fr.2 hr2
    have e1 : Same H (upd H D (.lst (r1.map nv))) := same_upd hD
    simp only [cx_K, cx_w, wipe, Int.zero_add, Bool.false_eq_true, if_false, if_true, Bool.not_true, Bool.not_false, tSeq, tAsg, tOp, tVar, tC, tRet, tRetN, tNext, tDrop, tIfS, tB, tTest, tIf, tAnd, tOr, tNot, tAndV, tOrV, tNotV, tUn, tCons, tNil, tCall, tCB, tBM, tBM0, tNoPart, tPart, tSl, tCont, tNever, tTup, tLst, gName, gNil, gCons, gTup, gSub, rI, rI0, rU, rEq, rNe, rIxL, rSlL, rSetL, rLn, rLs, rTs, rIn, rSet0, tSAdd, rSAdd, rSIn, rSNotIn, rRep, rCat, rAppend, rPop, rPopAt, iList, iRng1, iRng2, iEnum, gTup, tIsN, tNotN, tTru, tLstRg, tRg1, tRg2, L2.start, List.map_cons, List.map_nil, List.length_cons, List.length_nil, List.replicate, List.cons_append, List.nil_append, List.getElem?_cons_zero, List.getElem?_cons_succ, List.set_cons_zero, List.set_cons_succ, Option.some.injEq, exists_eq_left', V.int.injEq, V.ref.injEq, V.bl.injEq, List.cons.injEq, exists_and_left, exists_and_right, and_true, true_and, exists_eq_left, exists_eq, Nat.reduceAdd, Nat.reduceSub]
    refine ⟨by decide, ?_⟩
    by_cases hm : 0 < num % 8
    · rw [decide_eq_true hm]
      refine iteT ⟨⟨by decide, by decide⟩, _, .inl (SqL.of upd_same), by omega, _, .inl (SqL.of upd_same), by decide, fun p hp => ⟨by decide, _, SqL.of upd_same, ?_⟩⟩
      rw [List.length_map]
      obtain ⟨k, hkl, hka⟩ := pick3 r1.length hnum
      refine ⟨_, hka, _, rfl, ?_⟩
      have e2 := e1.trans (same_upd (o := .lst [V.int 0, V.int (num / 8 % ((r1.length : Int) + 1)), V.int (r1.length : Int)]) hp)
      have hD2 : upd (upd H D (.lst (r1.map nv))) p (.lst [V.int 0, V.int (num / 8 % ((r1.length : Int) + 1)), V.int (r1.length : Int)]) D = some (.lst (r1.map nv)) := by rw [upd_ne (ne_of_none upd_same hp), upd_same]
      generalize upd (upd H D (.lst (r1.map nv))) p (.lst [V.int 0, V.int (num / 8 % ((r1.length : Int) + 1)), V.int (r1.length : Int)]) = H2 at e2 hD2 ⊢
      refine ⟨_, SqL.of hD2, fun p1 hp1 => ⟨by decide, fun p2 hp2 => ?_⟩⟩
      have e3 := e2.trans (same_upd (o := .lst (cutV (r1.map nv) none (some (k : Int)))) hp1)
      have hD3 : upd H2 p1 (.lst (cutV (r1.map nv) none (some (k : Int)))) D = some (.lst (r1.map nv)) := by rw [upd_ne (ne_of_none hD2 hp1)]; exact hD2
      have h31 : upd H2 p1 (.lst (cutV (r1.map nv) none (some (k : Int)))) p1 = some (.lst ((r1.take k).map nv)) := by rw [upd_same, cutV_take, List.map_take]
      generalize upd H2 p1 (.lst (cutV (r1.map nv) none (some (k : Int)))) = H3 at e3 hD3 h31 hp2 ⊢
      have e4 := e3.trans (same_upd (o := .lst [nv other]) hp2)
      have hD4 : upd H3 p2 (.lst [nv other]) D = some (.lst (r1.map nv)) := by rw [upd_ne (ne_of_none hD3 hp2)]; exact hD3
      have h41 : upd H3 p2 (.lst [nv other]) p1 = some (.lst ((r1.take k).map nv)) := by rw [upd_ne (ne_of_none h31 hp2)]; exact h31
      have h42 : upd H3 p2 (.lst [nv other]) p2 = some (.lst [nv other]) := upd_same
      generalize upd H3 p2 (.lst [nv other]) = H4 at e4 hD4 h41 h42 ⊢
      refine ⟨_, h41, _, h42, by simp [sizeLine_eq]; omega, fun p3 hp3 => ⟨(k : Int), rfl, ?_⟩⟩
      have e5 := e4.trans (same_upd (o := .lst ((r1.take k).map nv ++ [nv other])) hp3)
      have hD5 : upd H4 p3 (.lst ((r1.take k).map nv ++ [nv other])) D = some (.lst (r1.map nv)) := by rw [upd_ne (ne_of_none hD4 hp3)]; exact hD4
      have h53 : upd H4 p3 (.lst ((r1.take k).map nv ++ [nv other])) p3 = some (.lst ((r1.take k).map nv ++ [nv other])) := upd_same
      generalize upd H4 p3 (.lst ((r1.take k).map nv ++ [nv other])) = H5 at e5 hD5 h53 ⊢
      refine ⟨_, SqL.of hD5, fun p4 hp4 => ?_⟩
      have e6 := e5.trans (same_upd (o := .lst (cutV (r1.map nv) (some (k : Int)) none)) hp4)
      have h63 : upd H5 p4 (.lst (cutV (r1.map nv) (some (k : Int)) none)) p3 = some (.lst ((r1.take k).map nv ++ [nv other])) := by rw [upd_ne (ne_of_none h53 hp4)]; exact h53
      have h64 : upd H5 p4 (.lst (cutV (r1.map nv) (some (k : Int)) none)) p4 = some (.lst ((r1.drop k).map nv)) := by rw [upd_same, cutV_drop, List.map_drop]
      generalize upd H5 p4 (.lst (cutV (r1.map nv) (some (k : Int)) none)) = H6 at e6 h63 h64 ⊢
      refine ⟨_, h63, _, h64, by simp [sizeLine_eq]; omega, fun p5 hp5 => ?_⟩
      have hx1 : other ∉ r1 := fun z => ((r1m other).mp z).2 rfl
      obtain ⟨d2, m2⟩ := put_in r1d hx1 k
      have e7 := e6.trans (same_upd (o := .lst ((r1.take k).map nv ++ [nv other] ++ (r1.drop k).map nv)) hp5)
      refine ⟨_, e7 _ _ TB.top, fin (r1.take k ++ [other] ++ r1.drop k) p5 _ (Q .non) (e6.free hp5) e7 ?_ d2 (fun x hx => ?_) fun H' TB' fr' => ?_⟩
      · show upd H6 p5 _ p5 = _
        rw [upd_same, List.map_append, List.map_append]; rfl
      · rcases (m2 x).mp hx with z | z
        · subst z; exact ⟨h2, hne⟩
        · have := g.lt ((r1m x).mp z).1
          exact ⟨this.2.1, this.2.2⟩
      · refine q H' _ _ TB' (by rw [List.length_set]) (gl_set g d2 fun x hx => ?_) fr' fun b hb => ?_
        · rcases (m2 x).mp hx with z | z
          · subst z; exact ⟨h2, hne⟩
          · have := g.lt ((r1m x).mp z).1
            exact ⟨this.2.1, this.2.2⟩
        · rcases List.mem_or_eq_of_mem_set hb with z | z
          · exact .inl z
          · exact .inr (by rw [z]; exact e6.free hp5)
    · rw [decide_eq_false hm]
      have hin : ∀ x ∈ r1, x < rows.length ∧ x ≠ one := fun x hx => by
        have := g.lt ((r1m x).mp hx).1
        exact ⟨this.2.1, this.2.2⟩
      refine iteF ⟨_, e1 _ _ TB.top, fin r1 D _ (Q .non) hD e1 upd_same r1d hin fun H' TB' fr' => ?_⟩
      refine q H' _ _ TB' (by rw [List.length_set]) (gl_set g r1d hin) fr' fun b hb => ?_
      rcases List.mem_or_eq_of_mem_set hb with z | z
      · exact .inl z
      · exact .inr (by rw [z]; exact hD)
end
end K3

set_option Elab.async false
set_option linter.all false
set_option maxRecDepth 100000
set_option maxHeartbeats 4000000
namespace K3
open PySem PySem.Spec PyProof.Rows L2 LamX Bk
section
variable {P : Program} {w : World} {K : PySem.W.Frag} {mg : Str → Option Value} {base : Heap}

/-- free, or a table of code -/
def Fr (H : Hp) (b : Addr) : Prop := ∀ o, H b = some o → ∃ ps, o = .tbl ps
theorem Fr.of {H : Hp} {b : Addr} (h : H b = none) : Fr H b := fun o e => by rw [h] at e; cases e
theorem Fr.ext {H H' : Hp} {b : Addr} (x : ExtN H H') (h : H' b = none) : Fr H b := fun o e => by
  apply Classical.byContradiction
  intro hn
  have := x b o e (fun ps z => hn ⟨ps, z⟩)
  rw [h] at this
  cases this
theorem Fr.ne {H : Hp} {b p : Addr} {o : HO} (h : Fr H p) (e : H b = some o) (hn : ∀ ps, o ≠ .tbl ps) : b ≠ p := fun z => by
  subst z
  obtain ⟨ps, z⟩ := h o e
  exact hn ps z
abbrev TT (P0 : Addr) : List (Addr × Str) := [(P0, ("_law_lists.<locals>.<lambda>" : Str))]
def sp_llists (K : PySem.W.Frag) (P0 : Addr) : Sp := fun vs H Q _ => ∃ (a : Addr) (ns : List Int) (most : Nat), vs = [.ref a, nv most] ∧ SqL K H a (ns.map V.int) ∧ ns.length ≤ 63 ∧ most ≤ 60 ∧ Tabs (TT P0) H ∧
  ∀ H' t as rows, ExtN H H' → Tabs (TT P0) H' → Tbl H' t as rows → GL rows → rows.length ≤ most → Q (.ref t) H'
/-- the loops' word: the rows so far -/
def LW (a t P0 : Addr) (most n : Nat) (first : Int) (H : Hp) (σ : L2.St) (H3 : Hp) : Prop := ∃ (as : List Addr) (rows : List (List Nat)) (y5 y6 y8 y9 y10 y11 : Option V),
  ExtN H H3 ∧ Tabs (TT P0) H3 ∧ (∀ b ∈ as, Fr H b) ∧ Tbl H3 t as rows ∧ rows.length = n ∧ GL rows ∧ σ = [some (.ref a), some (nv most), some (.int first), some (nv n), some (.ref t), y5, y6, none, y8, y9, y10, y11]
theorem ok_llists (T : Txt K mg) {c P0 : Addr} (FC : FunC K "_law_lists" s__law_lists T.a__law_lists T.fd__law_lists c) (TB : TabB base mg c P0) : FnOk P w K mg base CX0 4 T.a__law_lists T.fd__law_lists ["_law_script", "_law_most"] (sp_llists K P0) := by
  have G__law_mixed : FnOk P w K mg base CX0 1 T.a__law_mixed T.fd__law_mixed ["_law_number", "_law_k"] sp_mixed := ok_mixed T
  have G__law_set : FnOk P w K mg base CX0 1 T.a__law_set T.fd__law_set ["_law_rows", "_law_one", "_law_other", "_law_number"] (sp_lset K) := ok_lset T
  refine FC.ok sc__law_lists (fun vs H Q E h => ?_) (fun A outer s H vs Q E hr h => ?_)
  · obtain ⟨t, ns, m, rfl, _⟩ := h
    rfl
  · obtain ⟨a, ns, most, rfl, hS, hlen, hmost, hTT, q⟩ := h
    have hr3 : Room 3 (A.deeper (envOfC "_law_lists" (defScope s__law_lists) s.heap.objs.size T.a__law_lists (.ref c))) := hr
    have hcode : (cxOf CX0 P w K mg base ["_law_script", "_law_most", "_law_first", "_law_many", "_law_rows", "_law_person", "_law_others", "_law_k", "_law_cell", "_law_number", "_law_one", "_law_other"] "_law_lists" (defScope s__law_lists) T.a__law_lists (.ref c) A outer s H E).nox.env.code = .ref c := rfl
    have hTm : (P0, (cxOf CX0 P w K mg base ["_law_script", "_law_most", "_law_first", "_law_many", "_law_rows", "_law_person", "_law_others", "_law_k", "_law_cell", "_law_number", "_law_one", "_law_other"] "_law_lists" (defScope s__law_lists) T.a__law_lists (.ref c) A outer s H E).nox.env.qual ++ ("<lambda>" : Str)) ∈ TT P0 := List.mem_singleton.mpr rfl
    have hTu : ∀ p ∈ TT P0, p.1 = P0 → p.2 = (cxOf CX0 P w K mg base ["_law_script", "_law_most", "_law_first", "_law_many", "_law_rows", "_law_person", "_law_others", "_law_k", "_law_cell", "_law_number", "_law_one", "_law_other"] "_law_lists" (defScope s__law_lists) T.a__law_lists (.ref c) A outer s H E).nox.env.qual ++ ("<lambda>" : Str) := fun p hp _ => by
      have := List.mem_singleton.mp hp
      subst this
      rfl
    refine ⟨_, (C8.pss_cut (ps_set (i := 2) sc__law_lists.nd rfl (.inr rfl) (pe_call G__law_mixed (hr.mono (by decide)) (by rfl) T.g__law_mixed T.F__law_mixed.kp T.b__law_mixed .nil pass0 (pa_cons (pe_ifExp (pt_cmpR (kneD (K := K) hr.units) (pv 0) (pe_lst pa_nil) (nomark _)) (pe_ix (kix_list (K := K)) (pv 0) pe_int (fun _ _ => rfl)) pe_int) (pa_cons pe_int pa_nil))))
      (C8.pss_cut (ps_set (i := 3) sc__law_lists.nd rfl (.inr rfl) (pe_op op_mod (pv 2) (pe_op op_add (pv 1) pe_int)))
      (C8.pss_cut (ps_setLc (i := 4) (own := [("_law_person", 5)]) rfl sc__law_lists.nd rfl rfl (sw_true rfl rfl rfl (by decide +kernel)) (pi_range1 (by rfl) T.m_range (pa_cons (pv 3) pa_nil)) (blkOk_by (own := [("_law_person", 5)]) (N := ["_law_script", "_law_most", "_law_first", "_law_many", "_law_rows", "_law_person", "_law_others", "_law_k", "_law_cell", "_law_number", "_law_one", "_law_other"]) (sc := (defScope s__law_lists)) (by decide +kernel)) (fun _ _ _ _ _ => (pg_name (i := 5) sc__law_lists.nd rfl (by first | exact .inl rfl | exact .inr rfl))) (fun _ _ _ _ _ => pts_nil) (fun _ _ _ _ _ => (pe_lst pa_nil)))
      (C8.pss_cut (ps_if (pt_cmpR op_gt (pe_op op_mod (pe_op op_fdiv (pv 2) pe_int) pe_int) pe_int (nomark _)) (pss_one (ps_for PassesOwn.never rfl (pi_range1 (by rfl) T.m_range (pa_cons (pv 3) pa_nil)) (pg_name (i := 5) sc__law_lists.nd rfl (.inr rfl)) (pss_cons (ps_setLc (i := 6) (own := [("_law_k", 7)]) rfl sc__law_lists.nd rfl rfl (sw_true rfl rfl rfl (by decide +kernel)) (pi_range1 (by rfl) T.m_range (pa_cons (pe_op op_sub (pv 3) pe_int) pa_nil)) (blkOk_by (own := [("_law_k", 7)]) (N := ["_law_script", "_law_most", "_law_first", "_law_many", "_law_rows", "_law_person", "_law_others", "_law_k", "_law_cell", "_law_number", "_law_one", "_law_other"]) (sc := (defScope s__law_lists)) (by decide +kernel)) (fun _ _ _ _ _ => (pg_name (i := 7) sc__law_lists.nd rfl (by first | exact .inl rfl | exact .inr rfl))) (fun _ _ _ _ _ => pts_nil) (fun _ _ _ _ _ => (pe_op op_mod (pe_op op_add (pe_op op_add (pv 5) pe_int) (pv 7)) (pv 3))))
      (pss_one (ps_asg (pe_sortLam (i1 := 2) (i2 := 5) (by rfl) T.m_sorted (pv 6) TB hcode hTm hTu hr3 (by rfl) (by rfl) (by rfl) (by rfl)) (pg_sub (pv 4) (pv 5) set_list)))))) pss_nil)
      (C8.pss_cut (ps_for PassesOwn.never rfl (kpi_list (K := K) (pv 0)) (pg_name (i := 8) sc__law_lists.nd rfl (.inl rfl)) (pss_cons (ps_set (i := 9) sc__law_lists.nd rfl (.inl rfl) (pe_call G__law_mixed (hr.mono (by decide)) (by rfl) T.g__law_mixed T.F__law_mixed.kp T.b__law_mixed .nil pass0 (pa_cons (pv 8) (pa_cons pe_int pa_nil))))
      (pss_one (ps_if (pt_cmpR op_gt (pv 3) pe_int (nomark _)) (pss_cons (ps_set (i := 10) sc__law_lists.nd rfl (.inl rfl) (pe_op op_mod (pv 9) (pv 3)))
      (pss_cons (ps_set (i := 11) sc__law_lists.nd rfl (.inl rfl) (pe_op op_mod (pe_op op_add (pe_op op_add (pv 10) pe_int) (pe_op op_mod (pe_op op_fdiv (pv 9) (pv 3)) (pe_op op_sub (pv 3) pe_int))) (pv 3)))
      (pss_cons (ps_expr (pe_call G__law_set (hr.mono (by decide)) (by rfl) T.g__law_set T.F__law_set.kp T.b__law_set .nil pass0 (pa_cons (pv 4) (pa_cons (pv 10) (pa_cons (pv 11) (pa_cons (pe_op op_fdiv (pv 9) pe_int) pa_nil))))))
      (pss_one (ps_if (pt_cmpR op_gt (pe_op op_mod (pe_op op_fdiv (pv 9) pe_int) pe_int) pe_int (nomark _)) (pss_one (ps_expr (pe_call G__law_set (hr.mono (by decide)) (by rfl) T.g__law_set T.F__law_set.kp T.b__law_set .nil pass0 (pa_cons (pv 4) (pa_cons (pv 11) (pa_cons (pv 10) (pa_cons (pe_call G__law_mixed (hr.mono (by decide)) (by rfl) T.g__law_mixed T.F__law_mixed.kp T.b__law_mixed .nil pass0 (pa_cons (pv 9) (pa_cons pe_int pa_nil))) pa_nil))))))) pss_nil))))) pss_nil))))
      (pss_one (ps_ret (pv 4)))))))), ?_⟩
    -- the first number
    refine ⟨fun σ H1 => ∃ first : Int, 0 ≤ first ∧ first < 2147483629 ∧ Same H H1 ∧ σ = [some (.ref a), some (nv most), some (.int first), none, none, none, none, none, none, none, none, none], ?_, fun σ H1 hM => ?_⟩
    · simp only [cx_K, cx_w, wipe, Int.zero_add, Bool.false_eq_true, if_false, if_true, Bool.not_true, Bool.not_false, tSeq, tAsg, tOp, tVar, tC, tRet, tRetN, tNext, tDrop, tIfS, tB, tTest, tIf, tAnd, tOr, tNot, tAndV, tOrV, tNotV, tUn, tCons, tNil, tCall, tCB, tBM, tBM0, tNoPart, tPart, tSl, tCont, tNever, tTup, tLst, gName, gNil, gCons, gTup, gSub, rI, rI0, rU, rEq, rNe, rIxL, rSlL, rSetL, rLn, rLs, rTs, rIn, rSet0, tSAdd, rSAdd, rSIn, rSNotIn, rRep, rCat, rAppend, rPop, rPopAt, iList, iRng1, iRng2, iEnum, gTup, tIsN, tNotN, tTru, tLstRg, tRg1, tRg2, L2.start, List.map_cons, List.map_nil, List.length_cons, List.length_nil, List.replicate, List.cons_append, List.nil_append, List.getElem?_cons_zero, List.getElem?_cons_succ, List.set_cons_zero, List.set_cons_succ, Option.some.injEq, exists_eq_left', V.int.injEq, V.ref.injEq, V.bl.injEq, List.cons.injEq, exists_and_left, exists_and_right, and_true, true_and, exists_eq_left, exists_eq, Nat.reduceAdd, Nat.reduceSub]
      refine ⟨Nat.zero_le _, fun p hp => ?_⟩
      have e1 : Same H (upd H p (.lst [])) := same_upd hp
      refine ne_ints (e1.seq hS) upd_same ⟨_, rfl, ?_⟩
      by_cases hn : ns = []
      · rw [decide_eq_true hn]
        refine iteF ⟨5, 1, rfl, by decide, by decide, _, (mixed_bd _ _).1, (mixed_bd _ _).2, e1, rfl⟩
      · rw [decide_eq_false hn]
        obtain ⟨x, r, rfl⟩ : ∃ x r, ns = x :: r := by
          cases ns with
          | nil => exact absurd rfl hn
          | cons x r => exact ⟨x, r, rfl⟩
        refine iteT ⟨_, e1.seq hS, .int x, atI_nat (j := 0) rfl, x, 1, rfl, by decide, by decide, _, (mixed_bd _ _).1, (mixed_bd _ _).2, e1, rfl⟩
    obtain ⟨first, hf0, hf1, e1, rfl⟩ := hM
    -- how many
    refine ⟨fun σ H2 => ∃ n : Nat, n ≤ most ∧ H2 = H1 ∧ σ = [some (.ref a), some (nv most), some (.int first), some (nv n), none, none, none, none, none, none, none, none], ?_, fun σ H2 hM => ?_⟩
    · simp only [cx_K, cx_w, wipe, Int.zero_add, Bool.false_eq_true, if_false, if_true, Bool.not_true, Bool.not_false, tSeq, tAsg, tOp, tVar, tC, tRet, tRetN, tNext, tDrop, tIfS, tB, tTest, tIf, tAnd, tOr, tNot, tAndV, tOrV, tNotV, tUn, tCons, tNil, tCall, tCB, tBM, tBM0, tNoPart, tPart, tSl, tCont, tNever, tTup, tLst, gName, gNil, gCons, gTup, gSub, rI, rI0, rU, rEq, rNe, rIxL, rSlL, rSetL, rLn, rLs, rTs, rIn, rSet0, tSAdd, rSAdd, rSIn, rSNotIn, rRep, rCat, rAppend, rPop, rPopAt, iList, iRng1, iRng2, iEnum, gTup, tIsN, tNotN, tTru, tLstRg, tRg1, tRg2, L2.start, List.map_cons, List.map_nil, List.length_cons, List.length_nil, List.replicate, List.cons_append, List.nil_append, List.getElem?_cons_zero, List.getElem?_cons_succ, List.set_cons_zero, List.set_cons_succ, Option.some.injEq, exists_eq_left', V.int.injEq, V.ref.injEq, V.bl.injEq, List.cons.injEq, exists_and_left, exists_and_right, and_true, true_and, exists_eq_left, exists_eq, Nat.reduceAdd, Nat.reduceSub]
      refine ⟨by omega, (first % ((most : Int) + 1)).toNat, ?_, ?_⟩
      · have := Int.emod_lt_of_pos first (show 0 < (most : Int) + 1 by omega)
        have := Int.emod_nonneg first (show (most : Int) + 1 ≠ 0 by omega)
        omega
      · have := Int.emod_nonneg first (show (most : Int) + 1 ≠ 0 by omega)
        exact (Int.toNat_of_nonneg this).symm
    obtain ⟨n, hn, rfl, rfl⟩ := hM
    -- empty rows
    refine ⟨fun σ H2 => ∃ t as, H t = none ∧ (∀ b ∈ as, H b = none) ∧ Same H H2 ∧ Tbl H2 t as (mkL n fun _ => []) ∧ σ = [some (.ref a), some (nv most), some (.int first), some (nv n), some (.ref t), none, none, none, none, none, none, none], ?_, fun σ H2 hM => ?_⟩
    · refine ⟨nv n, rfl, _, rfl, by omega, by omega, fun D hD => lc_rng n (by omega) (fun i H2 => ∃ as, (∀ b ∈ as, H b = none) ∧ Same H H2 ∧ Tbl H2 D as (mkL i fun _ => [])) ⟨[], by simp, same_upd2 e1 (e1.free hD), Tbl.nil upd_same⟩ (fun i H2 hi h => ?_) (fun H2 h => ?_)⟩
      · obtain ⟨as, hn0, e2, T2⟩ := h
        refine ⟨rfl, yesI ⟨Nat.zero_le _, fun d hd => ?_⟩⟩
        have T3 := T2.upd_new (o := .lst []) hd
        have nD : d ≠ D := (T2.fresh hd).2
        refine ⟨as.map V.ref, T3.top, ?_, as ++ [d], fun b hb => ?_, ?_, ?_⟩
        · rw [List.length_map, T2.len, mkL_len]; exact small (by omega)
        · rcases List.mem_append.mp hb with z | z
          · exact hn0 b z
          · have : b = d := by simpa using z
            subst this; exact e2.free hd
        · intro b o ho
          rw [upd_ne (ne_of_none ho (e1.free hD)), upd_ne (ne_of_none ho (e2.free hd))]
          exact e2 b o ho
        · have := T3.snoc (a := d) (r := []) (by show upd H2 d _ d = _; rw [upd_same]; rfl) nD (T2.fresh hd).1
          rw [List.map_append] at this
          have e : mkL (i + 1) (fun _ => ([] : List Nat)) = mkL i (fun _ => []) ++ [[]] := by simp [mkL, List.range_succ]
          rw [e]
          exact this
      · obtain ⟨as, hn0, e2, T2⟩ := h
        exact ⟨D, as, e1.free hD, hn0, e2, T2, rfl⟩
    obtain ⟨t, as, ht, has, e2, T2, rfl⟩ := hM
    have hTT2 : Tabs (TT P0) H2 := hTT.ext e2
    have s0 : ∀ {b o}, H b = some o → b ≠ t := fun {b o} ho => ne_of_none ho ht
    -- all by turns, in some order
    refine ⟨LW a t P0 most n first H, ?_, fun σ H3 hM => ?_⟩
    · have g0 : GL (mkL n fun _ => []) := ⟨fun i r h => by
        have hi : i < n := by have := (List.getElem?_eq_some_iff.mp h).1; rwa [mkL_len] at this
        rw [mkL_at hi] at h
        cases h
        exact ⟨List.nodup_nil, by simp⟩⟩
      simp only [cx_K, cx_w, wipe, Int.zero_add, Bool.false_eq_true, if_false, if_true, Bool.not_true, Bool.not_false, tSeq, tAsg, tOp, tVar, tC, tRet, tRetN, tNext, tDrop, tIfS, tB, tTest, tIf, tAnd, tOr, tNot, tAndV, tOrV, tNotV, tUn, tCons, tNil, tCall, tCB, tBM, tBM0, tNoPart, tPart, tSl, tCont, tNever, tTup, tLst, gName, gNil, gCons, gTup, gSub, rI, rI0, rU, rEq, rNe, rIxL, rSlL, rSetL, rLn, rLs, rTs, rIn, rSet0, tSAdd, rSAdd, rSIn, rSNotIn, rRep, rCat, rAppend, rPop, rPopAt, iList, iRng1, iRng2, iEnum, gTup, tIsN, tNotN, tTru, tLstRg, tRg1, tRg2, L2.start, List.map_cons, List.map_nil, List.length_cons, List.length_nil, List.replicate, List.cons_append, List.nil_append, List.getElem?_cons_zero, List.getElem?_cons_succ, List.set_cons_zero, List.set_cons_succ, Option.some.injEq, exists_eq_left', V.int.injEq, V.ref.injEq, V.bl.injEq, List.cons.injEq, exists_and_left, exists_and_right, and_true, true_and, exists_eq_left, exists_eq, Nat.reduceAdd, Nat.reduceSub]
      refine ⟨⟨by decide, by decide⟩, by decide, ?_⟩
      have w0 : LW a t P0 most n first H [some (.ref a), some (nv most), some (.int first), some (nv n), some (.ref t), none, none, none, none, none, none, none] H2 :=
        ⟨as, mkL n fun _ => [], none, none, none, none, none, none, ExtN.of e2, hTT2, fun b hb => Fr.of (has b hb), T2, mkL_len _ _, g0, rfl⟩
      refine ite2 (fun _ => ?_) (fun _ => w0)
      refine ⟨nv n, rfl, _, rfl, by omega, by omega, for_rng n (by omega) (fun i => LW a t P0 most n first H) w0 (fun i σ H3 hi h => ?_) (fun σ H3 h => h)⟩
      obtain ⟨as3, rows3, y5, y6, y8, y9, y10, y11, x3, t3, has3, T3, l3, g3, rfl⟩ := h
      have hto := turns_ok hi
      refine ⟨nv n, rfl, _, _, rfl, rfl, _, rfl, by omega, by omega, fun D hD => lc_rng (n - 1) (by omega) (fun j H4 => H4 = upd H3 D (.lst (((turns n i).take j).map nv))) rfl (fun j H4 hj h => ?_) (fun H4 h => ?_)⟩
      · subst h
        refine ⟨rfl, yesI ?_⟩
        simp only [cx_K, cx_w, wipe, Int.zero_add, Bool.false_eq_true, if_false, if_true, Bool.not_true, Bool.not_false, tSeq, tAsg, tOp, tVar, tC, tRet, tRetN, tNext, tDrop, tIfS, tB, tTest, tIf, tAnd, tOr, tNot, tAndV, tOrV, tNotV, tUn, tCons, tNil, tCall, tCB, tBM, tBM0, tNoPart, tPart, tSl, tCont, tNever, tTup, tLst, gName, gNil, gCons, gTup, gSub, rI, rI0, rU, rEq, rNe, rIxL, rSlL, rSetL, rLn, rLs, rTs, rIn, rSet0, tSAdd, rSAdd, rSIn, rSNotIn, rRep, rCat, rAppend, rPop, rPopAt, iList, iRng1, iRng2, iEnum, gTup, tIsN, tNotN, tTru, tLstRg, tRg1, tRg2, L2.start, List.map_cons, List.map_nil, List.length_cons, List.length_nil, List.replicate, List.cons_append, List.nil_append, List.getElem?_cons_zero, List.getElem?_cons_succ, List.set_cons_zero, List.set_cons_succ, Option.some.injEq, exists_eq_left', V.int.injEq, V.ref.injEq, V.bl.injEq, List.cons.injEq, exists_and_left, exists_and_right, and_true, true_and, exists_eq_left, exists_eq, Nat.reduceAdd, Nat.reduceSub]
        refine ⟨by omega, _, upd_same, ?_, ?_⟩
        · rw [List.length_map, List.length_take]; exact small (by omega)
        · rw [upd_upd]
          have e : (turns n i).take (j + 1) = (turns n i).take j ++ [(i + 1 + j) % n] := by
            rw [List.take_add_one]
            congr 1
            simp [turns, hj]
          rw [e, List.map_append]
          congr 3
      · subst h
        have lt : (turns n i).length = n - 1 := by simp [turns]
        rw [List.take_of_length_le (by omega)]
        have s4 : Same H3 (upd H3 D (.lst ((turns n i).map nv))) := same_upd hD
        refine ⟨.ref D, rfl, D, (turns n i).map Int.ofNat, first, (i : Int), rfl, SqL.of (by rw [map_nv', upd_same]), rfl, by show some (some (V.int (0 + (i : Int)))) = _; rw [Int.zero_add], hf0, by omega, t3.ext s4, fun ns' H5 p hperm x5 t5 hp => ?_⟩
        obtain ⟨r, rfl, hr⟩ := perm_nat hperm
        have x35 : ExtN H3 H5 := (ExtN.of s4).trans x5
        have T5 := T3.extN x35
        have fr := T5.fresh hp
        have T6 : Tbl (upd H5 p (.lst ((r.map Int.ofNat).map V.int))) t as3 rows3 := T5.upd_new hp
        have hin : ∀ x ∈ r, x < rows3.length ∧ x ≠ i := fun x hx => by rw [l3]; exact hto.2 x (hr.mem_iff.mp hx)
        have T7 := T6.replace (one := i) (D := p) (r := r) (by rw [l3]; exact hi) fr.1 fr.2 (by show upd H5 p _ p = _; rw [upd_same, map_nv'])
        have hHp : Fr H p := Fr.ext (x3.trans x35) hp
        have t6 : Tabs (TT P0) (upd H5 p (.lst ((r.map Int.ofNat).map V.int))) := t5.ext (same_upd hp)
        refine ⟨.ref t, rfl, .int (0 + (i : Int)), rfl, t, _, (i : Int), i, rfl, by rw [Int.zero_add], T6.top, by rw [List.length_map, T3.len, l3]; exact ixN_nat hi, ?_⟩
        refine ⟨as3.set i p, rows3.set i r, _, _, _, _, _, _, fun b o ho hnt => ?_, Tabs.write t6 T6.top, fun b hb => ?_, T7, by rw [List.length_set]; exact l3, gl_set g3 (hr.nodup_iff.mpr hto.1) hin, rfl⟩
        · rw [upd_ne (s0 ho), upd_ne (hHp.ne ho hnt)]
          exact x35 b o (x3 b o ho hnt) hnt
        · rcases List.mem_or_eq_of_mem_set hb with z | z
          · exact has3 b z
          · rw [z]; exact hHp
    · -- the cells
      refine ⟨LW a t P0 most n first H, ?_, fun σ H4 hM4 => ?_⟩
      · have hM' := hM
        obtain ⟨as3, rows3, y5, y6, y8, y9, y10, y11, x3, t3, has3, T3, l3, g3, rfl⟩ := hM'
        refine ⟨.ref a, rfl, a, rfl, ⟨_, SqL.extN x3 hS⟩, for_list (K := K) (xs := ns.map V.int) (fun i => LW a t P0 most n first H) hM (fun i σ H4 _ h => ?_) (fun i x σ H4 hx h => ?_) (fun σ H4 h => h)⟩
        · obtain ⟨as3, rows3, y5, y6, y8, y9, y10, y11, x3, t3, has3, T3, l3, g3, rfl⟩ := h
          exact SqL.extN x3 hS
        · obtain ⟨as3, rows3, y5, y6, y8, y9, y10, y11, x3, t3, has3, T3, l3, g3, rfl⟩ := h
          rw [List.getElem?_map] at hx
          obtain ⟨z, hz, rfl⟩ := Option.map_eq_some_iff.mp hx
          simp only [cx_K, cx_w, wipe, Int.zero_add, Bool.false_eq_true, if_false, if_true, Bool.not_true, Bool.not_false, tSeq, tAsg, tOp, tVar, tC, tRet, tRetN, tNext, tDrop, tIfS, tB, tTest, tIf, tAnd, tOr, tNot, tAndV, tOrV, tNotV, tUn, tCons, tNil, tCall, tCB, tBM, tBM0, tNoPart, tPart, tSl, tCont, tNever, tTup, tLst, gName, gNil, gCons, gTup, gSub, rI, rI0, rU, rEq, rNe, rIxL, rSlL, rSetL, rLn, rLs, rTs, rIn, rSet0, tSAdd, rSAdd, rSIn, rSNotIn, rRep, rCat, rAppend, rPop, rPopAt, iList, iRng1, iRng2, iEnum, gTup, tIsN, tNotN, tTru, tLstRg, tRg1, tRg2, L2.start, List.map_cons, List.map_nil, List.length_cons, List.length_nil, List.replicate, List.cons_append, List.nil_append, List.getElem?_cons_zero, List.getElem?_cons_succ, List.set_cons_zero, List.set_cons_succ, Option.some.injEq, exists_eq_left', V.int.injEq, V.ref.injEq, V.bl.injEq, List.cons.injEq, exists_and_left, exists_and_right, and_true, true_and, exists_eq_left, exists_eq, Nat.reduceAdd, Nat.reduceSub]
          refine ⟨z, 2, rfl, by decide, by decide, ?_⟩
          have m0 := mixed_bd z 2
          generalize mixed z 2 = m at m0 ⊢
          by_cases h1 : 1 < n
          · show (if decide (1 < (n : Int)) = true then _ else _)
            rw [decide_eq_true (by omega)]
            obtain ⟨o1, o2, d1, d2, d3, d4, d5⟩ := draw2 m0.1 h1
            have dv : ∀ k : Int, 0 < k → 0 ≤ m / k := fun k hk => Int.ediv_nonneg m0.1 (by omega)
            refine iteT ⟨m, rfl, by omega, m, rfl, ⟨by omega, by omega⟩, by omega, by omega, m, rfl, ⟨by decide, by decide⟩, ?_⟩
            rw [d1, d2]
            -- one call of the def that puts one on the list of another
            have call : ∀ (H5 : Hp) (as5 : List Addr) (rows5 : List (List Nat)) (p1 p2 : Nat) (num : Int) (Qc : VK), ExtN H H5 → Tabs (TT P0) H5 → (∀ b ∈ as5, Fr H b) → Tbl H5 t as5 rows5 → rows5.length = n → GL rows5 → p1 < n → p2 < n → p2 ≠ p1 → 0 ≤ num →
                (∀ H6 as6 rows6, ExtN H H6 → Tabs (TT P0) H6 → (∀ b ∈ as6, Fr H b) → Tbl H6 t as6 rows6 → rows6.length = n → GL rows6 → Qc .non H6) → sp_lset K [.ref t, nv p1, nv p2, .int num] H5 Qc E0 := fun H5 as5 rows5 p1 p2 num Qc x5 t5 h5 T5 l5 g5 q1 q2 q3 q4 hq => by
              refine ⟨t, as5, rows5, p1, p2, num, rfl, T5, g5, by omega, by omega, q3, q4, by omega, fun H6 as6 rows6 T6 l6 g6 f6 h6 => ?_⟩
              refine hq H6 as6 rows6 (fun b o ho hnt => f6 b o (s0 ho) (x5 b o ho hnt)) (Tabs.but t5 T5.top f6) (fun b hb => ?_) T6 (by omega) g6
              rcases h6 b hb with zz | zz
              · exact h5 b zz
              · exact Fr.ext x5 zz
            refine call H4 as3 rows3 o1 o2 (m / 997) _ x3 t3 has3 T3 l3 g3 d3 d4 d5 (dv 997 (by decide)) fun H5 as5 rows5 x5 t5 h5 T5 l5 g5 => ?_
            refine ⟨m, rfl, ⟨by decide, by decide⟩, by decide, ite2 (fun _ => ?_) (fun _ => ⟨as5, rows5, _, _, _, _, _, _, x5, t5, h5, T5, l5, g5, rfl⟩)⟩
            refine ⟨m, 3, rfl, by decide, by decide, ?_⟩
            exact call H5 as5 rows5 o2 o1 _ _ x5 t5 h5 T5 l5 g5 d4 d3 (Ne.symm d5) (mixed_bd m 3).1 fun H6 as6 rows6 x6 t6 h6 T6 l6 g6 => ⟨as6, rows6, _, _, _, _, _, _, x6, t6, h6, T6, l6, g6, rfl⟩
          · show (if decide (1 < (n : Int)) = true then _ else _)
            rw [decide_eq_false (by omega)]
            exact iteF ⟨as3, rows3, _, _, _, _, _, _, x3, t3, has3, T3, l3, g3, rfl⟩
      · obtain ⟨as3, rows3, y5, y6, y8, y9, y10, y11, x3, t3, has3, T3, l3, g3, rfl⟩ := hM4
        exact ⟨.ref t, rfl, q H4 t as3 rows3 x3 t3 T3 g3 (by omega)⟩
end
end K3

set_option Elab.async false
set_option linter.all false
set_option maxRecDepth 100000
set_option maxHeartbeats 4000000
namespace K3
open PySem PySem.Spec PyProof.Rows L2 LamX Bk
section
variable {P : Program} {w : World} {K : PySem.W.Frag} {mg : Str → Option Value} {base : Heap}

def sp_lmut (K : PySem.W.Frag) : Sp := fun vs H Q _ => ∃ (t : Addr) (as : List Addr) (rows : List (List Nat)), vs = [.ref t] ∧ Tbl H t as rows ∧ GL rows ∧ rows.length ≤ 100 ∧
  ∀ H' p as', Same H H' → H p = none → (∀ a ∈ as', H a = none) → Tbl H' p as' (mutL rows) → Q (.ref p) H'
theorem ok_lmut (T : Txt K mg) : FnOk P w K mg base CX0 1 T.a__law_mutual T.fd__law_mutual ["_law_rows"] (sp_lmut K) := by
  refine T.F__law_mutual.ok sc__law_mutual (fun vs H Q E h => ?_) (fun cdv A outer s H vs Q E hr h => ?_)
  · obtain ⟨t, as, rows, rfl, _⟩ := h
    rfl
  · obtain ⟨t, as, rows, rfl, TB, g, hlen, q⟩ := h
    refine ⟨_, (C8.pss_cut (ps_set (i := 1) sc__law_mutual.nd rfl (.inl rfl) (pe_lst pa_nil))
      (C8.pss_cut (ps_for PassesOwn.never rfl (pi_range1 (by rfl) T.m_range (pa_cons (pe_callB (klen (K := K)) (by rfl) T.m_len (by decide +kernel) (pa_cons (pv 0) pa_nil)) pa_nil)) (pg_name (i := 2) sc__law_mutual.nd rfl (.inr rfl)) (pss_one (ps_expr (pe_bm PySem.F.plainAttrs_list PySem.F.slot_list_append PySem.F.type_list_append mt_append (pv 1) (pa_cons (pe_lc (own := [("_law_one", 3)]) rfl sc__law_mutual.nd (kpi_list (K := K) (pe_ix (kix_list (K := K)) (pv 0) (pv 2) (fun _ _ => rfl))) (blkOk_by (own := [("_law_one", 3)]) (N := ["_law_rows", "_law_found", "_law_person", "_law_one"]) (sc := (defScope s__law_mutual)) (by decide +kernel)) (fun _ _ _ _ _ => (pg_name (i := 3) sc__law_mutual.nd rfl (by first | exact .inl rfl | exact .inr rfl))) (fun _ _ _ _ _ => (pts_one (pt_cmpR (kin (K := K)) (pv 2) (pe_ix (kix_list (K := K)) (pv 0) (pv 3) (fun _ _ => rfl)) rfl))) (fun _ _ _ _ _ => (pv 3))) pa_nil)))))
      (pss_one (ps_ret (pv 1))))), ?_⟩
    simp only [cx_K, cx_w, wipe, Int.zero_add, Bool.false_eq_true, if_false, if_true, Bool.not_true, Bool.not_false, tSeq, tAsg, tOp, tVar, tC, tRet, tRetN, tNext, tDrop, tIfS, tB, tTest, tIf, tAnd, tOr, tNot, tAndV, tOrV, tNotV, tUn, tCons, tNil, tCall, tCB, tBM, tBM0, tNoPart, tPart, tSl, tCont, tNever, tTup, tLst, gName, gNil, gCons, gTup, gSub, rI, rI0, rU, rEq, rNe, rIxL, rSlL, rSetL, rLn, rLs, rTs, rIn, rSet0, tSAdd, rSAdd, rSIn, rSNotIn, rRep, rCat, rAppend, rPop, rPopAt, iList, iRng1, iRng2, iEnum, gTup, tIsN, tNotN, tTru, tLstRg, tRg1, tRg2, L2.start, List.map_cons, List.map_nil, List.length_cons, List.length_nil, List.replicate, List.cons_append, List.nil_append, List.getElem?_cons_zero, List.getElem?_cons_succ, List.set_cons_zero, List.set_cons_succ, Option.some.injEq, exists_eq_left', V.int.injEq, V.ref.injEq, V.bl.injEq, List.cons.injEq, exists_and_left, exists_and_right, and_true, true_and, exists_eq_left, exists_eq, Nat.reduceAdd, Nat.reduceSub]
    refine ⟨fun σ H' => ∃ f, H f = none ∧ H' = upd H f (.lst []) ∧ σ = [some (.ref t), some (.ref f), none, none], ?_, fun σ H' hM => ?_⟩
    · simp only [cx_K, cx_w, wipe, Int.zero_add, Bool.false_eq_true, if_false, if_true, Bool.not_true, Bool.not_false, tSeq, tAsg, tOp, tVar, tC, tRet, tRetN, tNext, tDrop, tIfS, tB, tTest, tIf, tAnd, tOr, tNot, tAndV, tOrV, tNotV, tUn, tCons, tNil, tCall, tCB, tBM, tBM0, tNoPart, tPart, tSl, tCont, tNever, tTup, tLst, gName, gNil, gCons, gTup, gSub, rI, rI0, rU, rEq, rNe, rIxL, rSlL, rSetL, rLn, rLs, rTs, rIn, rSet0, tSAdd, rSAdd, rSIn, rSNotIn, rRep, rCat, rAppend, rPop, rPopAt, iList, iRng1, iRng2, iEnum, gTup, tIsN, tNotN, tTru, tLstRg, tRg1, tRg2, L2.start, List.map_cons, List.map_nil, List.length_cons, List.length_nil, List.replicate, List.cons_append, List.nil_append, List.getElem?_cons_zero, List.getElem?_cons_succ, List.set_cons_zero, List.set_cons_succ, Option.some.injEq, exists_eq_left', V.int.injEq, V.ref.injEq, V.bl.injEq, List.cons.injEq, exists_and_left, exists_and_right, and_true, true_and, exists_eq_left, exists_eq, Nat.reduceAdd, Nat.reduceSub]
      exact ⟨Nat.zero_le _, fun f hf => ⟨f, hf, rfl, rfl⟩⟩
    obtain ⟨f, hf, rfl, rfl⟩ := hM
    have s0 : Same H (upd H f (.lst [])) := same_upd hf
    refine ⟨fun σ H' => ∃ as', σ[1]? = some (some (.ref f)) ∧ Same H H' ∧ (∀ a ∈ as', H a = none) ∧ Tbl H' f as' (mutL rows), ?_, fun σ H' hM => ?_⟩
    · refine ⟨_, rfl, t, _, rfl, .inl (SqL.of (s0 _ _ TB.top)), _, rfl, (z62 (by rw [List.length_map, TB.len]; omega)).1, (z62 (by rw [List.length_map, TB.len]; omega)).2,
        for_rng rows.length (by rw [toNat_len, List.length_map, TB.len]) (fun i σ H' => ∃ y as', σ = [some (.ref t), some (.ref f), y, none] ∧ Same H H' ∧ (∀ a ∈ as', H a = none) ∧ Tbl H' f as' ((mutL rows).take i))
          ⟨none, [], rfl, s0, (fun a ha => by simp at ha), by rw [List.take_zero]; exact Tbl.nil upd_same⟩ (fun i σ H' hi h => ?_) (fun σ H' h => ?_)⟩
      · obtain ⟨y, as', rfl, e, hn, TF⟩ := h
        obtain ⟨a, ha, hrow, hat, ham⟩ := (TB.same e).at hi
        simp only [cx_K, cx_w, wipe, Int.zero_add, Bool.false_eq_true, if_false, if_true, Bool.not_true, Bool.not_false, tSeq, tAsg, tOp, tVar, tC, tRet, tRetN, tNext, tDrop, tIfS, tB, tTest, tIf, tAnd, tOr, tNot, tAndV, tOrV, tNotV, tUn, tCons, tNil, tCall, tCB, tBM, tBM0, tNoPart, tPart, tSl, tCont, tNever, tTup, tLst, gName, gNil, gCons, gTup, gSub, rI, rI0, rU, rEq, rNe, rIxL, rSlL, rSetL, rLn, rLs, rTs, rIn, rSet0, tSAdd, rSAdd, rSIn, rSNotIn, rRep, rCat, rAppend, rPop, rPopAt, iList, iRng1, iRng2, iEnum, gTup, tIsN, tNotN, tTru, tLstRg, tRg1, tRg2, L2.start, List.map_cons, List.map_nil, List.length_cons, List.length_nil, List.replicate, List.cons_append, List.nil_append, List.getElem?_cons_zero, List.getElem?_cons_succ, List.set_cons_zero, List.set_cons_succ, Option.some.injEq, exists_eq_left', V.int.injEq, V.ref.injEq, V.bl.injEq, List.cons.injEq, exists_and_left, exists_and_right, and_true, true_and, exists_eq_left, exists_eq, Nat.reduceAdd, Nat.reduceSub]
        refine ⟨.inl ⟨rfl, _, .inl (.inl TF.top)⟩, ?_⟩
        refine ⟨_, rfl, _, rfl, t, _, _, _, rfl, rfl, SqL.of (e _ _ TB.top), Tbl.atI TB ha, a, rfl, ⟨_, SqL.of hrow⟩, fun D hD => lc_keep (r := fn rows i) (fun o => decide (i ∈ fn rows o)) hD (SqL.of hrow) (by simp) (by have := g.len i; omega) (fun x hx H3 Qt e3 hq => ?_) ?_⟩
        · obtain ⟨b, hb, hrb, _, _⟩ := ((TB.same e).same e3).at (g.lt hx).2.1
          simp only [cx_K, cx_w, wipe, Int.zero_add, Bool.false_eq_true, if_false, if_true, Bool.not_true, Bool.not_false, tSeq, tAsg, tOp, tVar, tC, tRet, tRetN, tNext, tDrop, tIfS, tB, tTest, tIf, tAnd, tOr, tNot, tAndV, tOrV, tNotV, tUn, tCons, tNil, tCall, tCB, tBM, tBM0, tNoPart, tPart, tSl, tCont, tNever, tTup, tLst, gName, gNil, gCons, gTup, gSub, rI, rI0, rU, rEq, rNe, rIxL, rSlL, rSetL, rLn, rLs, rTs, rIn, rSet0, tSAdd, rSAdd, rSIn, rSNotIn, rRep, rCat, rAppend, rPop, rPopAt, iList, iRng1, iRng2, iEnum, gTup, tIsN, tNotN, tTru, tLstRg, tRg1, tRg2, L2.start, List.map_cons, List.map_nil, List.length_cons, List.length_nil, List.replicate, List.cons_append, List.nil_append, List.getElem?_cons_zero, List.getElem?_cons_succ, List.set_cons_zero, List.set_cons_succ, Option.some.injEq, exists_eq_left', V.int.injEq, V.ref.injEq, V.bl.injEq, List.cons.injEq, exists_and_left, exists_and_right, and_true, true_and, exists_eq_left, exists_eq, Nat.reduceAdd, Nat.reduceSub]
          refine ⟨_, SqL.of (e3 _ _ (e _ _ TB.top)), _, Tbl.atI TB hb, _, rfl, _, .inl (SqL.of hrb), rfl, flat_nv _, ?_⟩
          rw [inV_nv]
          exact hq
        · have nfD : f ≠ D := ne_of_none TF.top hD
          have hDa := (TF.fresh hD).1
          refine ⟨as'.map V.ref, by rw [upd_ne nfD]; exact TF.top, ?_, ?_, as' ++ [D], fun a ha => ?_, ?_⟩
          · rw [List.length_map, TF.len]
            exact small (by rw [List.length_take]; omega)
          · intro b o ho
            rw [upd_ne (ne_of_none ho hf), upd_ne (ne_of_none ho (e.free hD))]
            exact e b o ho
          · rcases List.mem_append.mp ha with z | z
            · exact hn a z
            · have : a = D := by simpa using z
              subst this
              exact e.free hD
          · have et : (mutL rows).take (i + 1) = (mutL rows).take i ++ [mutF rows i] := by rw [List.take_add_one, mutL_at hi]; rfl
            rw [et]
            have := (TF.upd_new (o := .lst ((mutF rows i).map nv)) hD).snoc (a := D) (r := mutF rows i) upd_same (Ne.symm nfD) hDa
            rw [List.map_append] at this
            exact this
      · obtain ⟨y, as', rfl, e, hn, TF⟩ := h
        rw [List.take_of_length_le (by rw [mutL_len]; exact Nat.le_refl _)] at TF
        exact ⟨as', rfl, e, hn, TF⟩
    · obtain ⟨as', e1, e, hn, TF⟩ := hM
      exact ⟨_, e1, q H' f as' e hf hn TF⟩
end
end K3

set_option Elab.async false
set_option linter.all false
set_option maxRecDepth 100000
set_option maxHeartbeats 4000000
namespace K3
open PySem PySem.Spec PyProof.Rows L2 LamX Bk
section
variable {P : Program} {w : World} {K : PySem.W.Frag} {mg : Str → Option Value} {base : Heap}

def sp_loff (K : PySem.W.Frag) : Sp := fun vs H Q _ => ∃ (t : Addr) (as : List Addr) (n : Nat) (C0 : Nat → List Nat) (num : Int), vs = [.ref t, .int num] ∧ Tbl H t as (mkL n C0) ∧ Lists C0 ∧ (∀ i x, x ∈ C0 i → i < n ∧ x < n) ∧ n ≤ 60 ∧ 0 ≤ num ∧
  ∀ H' p as' C, Same H H' → H p = none → (∀ a ∈ as', H a = none) → Tbl H' p as' (mkL n C) → Off C0 C → Q (.ref p) H'
/-- the loop's word -/
structure LO (R : Nat → List Nat) (n : Nat) (num : Int) (H0 : Hp) (T hA wA : Addr) (m : Nat) (σ : L2.St) (H : Hp) : Prop where
  ex : ∃ (as' : List Addr) (C : Nat → List Nat) (h : Nat → Option Nat) (ws : List Nat) (y5 y6 y7 y8 : Option V), σ = [some (.ref T), some (.int num), none, some (.ref hA), some (.ref wA), y5, y6, y7, y8] ∧
    Tbl H T as' (mkL n C) ∧ (∀ a ∈ as', H0 a = none) ∧ hA ∉ as' ∧ wA ∉ as' ∧ H hA = some (.lst (hL n h)) ∧ H wA = some (.lst (ws.map nv)) ∧ Stt R C h ws ∧ Same H0 H ∧ m = total n C + ws.length ∧ (∀ q ∈ ws, q < n)
theorem index_t {K : PySem.W.Frag} {σ : L2.St} {H : Hp} {a : Addr} {r : List Nat} {x : Nat} {Q : VK} (ha : SqL K H a (r.map nv)) (hx : x ∈ r) (q : Q (nv (r.idxOf x)) H) : tNil σ H (fun xs H2 => rIndex K (.ref a) (nv x :: xs) H2 Q) := index_nv ha hx q
theorem seqIx {k n : Nat} (h : k < n) : seqIndex? (k : Int) n = some k := by
  have h0 : ¬ ((k : Int) < 0) := by omega
  simp [seqIndex?, h0, h]
theorem eraseIdx_map' {α β : Type} (f : α → β) (l : List α) (k : Nat) : (l.map f).eraseIdx k = (l.eraseIdx k).map f := by
  apply List.ext_getElem?
  intro j
  rw [List.getElem?_map, List.getElem?_eraseIdx, List.getElem?_eraseIdx]
  split <;> rw [List.getElem?_map]
theorem perm_at : ∀ {l : List Nat} {k : Nat} (h : k < l.length), l.Perm (l[k] :: l.eraseIdx k)
  | x :: l, 0, h => List.Perm.refl _
  | x :: l, k + 1, h => by
    have := perm_at (l := l) (k := k) (by simpa using h)
    rw [List.eraseIdx_cons_succ, List.getElem_cons_succ]
    exact (this.cons x).trans (List.Perm.swap _ _ _)
theorem ok_loff (T : Txt K mg) : FnOk P w K mg base CX0 1 T.a__law_offered T.fd__law_offered ["_law_rows", "_law_number"] (sp_loff K) := by
  refine T.F__law_offered.ok sc__law_offered (fun vs H Q E h => ?_) (fun cdv A outer s H vs Q E hr h => ?_)
  · obtain ⟨t, as, n, C0, num, rfl, _⟩ := h
    rfl
  · obtain ⟨t, as, n, C0, num, rfl, TB, L, Rlt, hlen, hnum, q⟩ := h
    refine ⟨_, (C8.pss_cut (ps_set (i := 0) sc__law_offered.nd rfl (.inr rfl) (pe_lc (own := [("_law_row", 2)]) rfl sc__law_offered.nd (kpi_list (K := K) (pv 0)) (blkOk_by (own := [("_law_row", 2)]) (N := ["_law_rows", "_law_number", "_law_row", "_law_holder", "_law_free", "_law_person", "_law_best", "_law_before", "_law_worse"]) (sc := (defScope s__law_offered)) (by decide +kernel)) (fun _ _ _ _ _ => (pg_name (i := 2) sc__law_offered.nd rfl (by first | exact .inl rfl | exact .inr rfl))) (fun _ _ _ _ _ => pts_nil) (fun _ _ _ _ _ => (pe_callTy (klist_of (K := K)) (by rfl) T.m_list (by decide +kernel) (pa_cons (pv 2) pa_nil)))))
      (C8.pss_cut (ps_set (i := 3) sc__law_offered.nd rfl (.inl rfl) (pe_op op_rep (pe_lst (pa_cons pe_non pa_nil)) (pe_callB (klen (K := K)) (by rfl) T.m_len (by decide +kernel) (pa_cons (pv 0) pa_nil))))
      (C8.pss_cut (ps_setLc (i := 4) (own := [("_law_person", 5)]) rfl sc__law_offered.nd rfl rfl (sw_true rfl rfl rfl (by decide +kernel)) (pi_range1 (by rfl) T.m_range (pa_cons (pe_callB (klen (K := K)) (by rfl) T.m_len (by decide +kernel) (pa_cons (pv 0) pa_nil)) pa_nil)) (blkOk_by (own := [("_law_person", 5)]) (N := ["_law_rows", "_law_number", "_law_row", "_law_holder", "_law_free", "_law_person", "_law_best", "_law_before", "_law_worse"]) (sc := (defScope s__law_offered)) (by decide +kernel)) (fun _ _ _ _ _ => (pg_name (i := 5) sc__law_offered.nd rfl (by first | exact .inl rfl | exact .inr rfl))) (fun _ _ _ _ _ => (pts_one (pt_cmpR (kneD (K := K) hr.units) (pe_ix (kix_list (K := K)) (pv 0) (pv 5) (fun _ _ => rfl)) (pe_lst pa_nil) (nomark _)))) (fun _ _ _ _ _ => (pv 5)))
      (C8.pss_cut (ps_while PassesOwn.never (pt_cmpR (kneD (K := K) hr.units) (pv 4) (pe_lst pa_nil) (nomark _)) (C8.pss_cut (ps_set (i := 5) sc__law_offered.nd rfl (.inl rfl) (pe_bm PySem.F.plainAttrs_list PySem.F.slot_list_pop PySem.F.type_list_pop mt_popAt (pv 4) (pa_cons (pe_op op_mod (pv 1) (pe_callB (klen (K := K)) (by rfl) T.m_len (by decide +kernel) (pa_cons (pv 4) pa_nil))) pa_nil)))
      (pss_one (ps_if (pt_cmpR (kneD (K := K) hr.units) (pe_ix (kix_list (K := K)) (pv 0) (pv 5) (fun _ _ => rfl)) (pe_lst pa_nil) (nomark _)) (pss_cons (ps_set (i := 6) sc__law_offered.nd rfl (.inl rfl) (pe_ix (kix_list (K := K)) (pe_ix (kix_list (K := K)) (pv 0) (pv 5) (fun _ _ => rfl)) pe_int (fun _ _ => rfl)))
      (pss_cons (ps_set (i := 7) sc__law_offered.nd rfl (.inl rfl) (pe_ix (kix_list (K := K)) (pv 3) (pv 6) (fun _ _ => rfl)))
      (C8.pss_cut (ps_asg (pv 5) (pg_sub (pv 3) (pv 6) set_list))
      (C8.pss_cut (ps_for PassesOwn.never rfl (kpi_list (K := K) (pe_slice (ksl_list (K := K)) (pe_ix (kix_list (K := K)) (pv 0) (pv 6) (fun _ _ => rfl)) (po_some (pe_op op_add (pe_bm PySem.F.plainAttrs_list PySem.F.slot_list_index PySem.F.type_list_index mt_index (pe_ix (kix_list (K := K)) (pv 0) (pv 6) (fun _ _ => rfl)) (pa_cons (pv 5) pa_nil)) pe_int)) po_none)) (pg_name (i := 8) sc__law_offered.nd rfl (.inl rfl)) (pss_one (ps_expr (pe_bm PySem.F.plainAttrs_list PySem.F.slot_list_remove PySem.F.type_list_remove mt_remove (pe_ix (kix_list (K := K)) (pv 0) (pv 8) (fun _ _ => rfl)) (pa_cons (pv 6) pa_nil)))))
      (pss_cons (ps_asg (pe_slice (ksl_list (K := K)) (pe_ix (kix_list (K := K)) (pv 0) (pv 6) (fun _ _ => rfl)) po_none (po_some (pe_op op_add (pe_bm PySem.F.plainAttrs_list PySem.F.slot_list_index PySem.F.type_list_index mt_index (pe_ix (kix_list (K := K)) (pv 0) (pv 6) (fun _ _ => rfl)) (pa_cons (pv 5) pa_nil)) pe_int))) (pg_sub (pv 0) (pv 6) set_list))
      (pss_one (ps_if (pt_cmp (pc_notN (pv 7))) (pss_one (ps_expr (pe_bm PySem.F.plainAttrs_list PySem.F.slot_list_append PySem.F.type_list_append mt_append (pv 4) (pa_cons (pv 7) pa_nil)))) pss_nil))))))) pss_nil))))
      (pss_one (ps_ret (pv 0))))))), ?_⟩
    -- the copy
    refine ⟨fun σ H1 => ∃ p as', H p = none ∧ (∀ a ∈ as', H a = none) ∧ Same H H1 ∧ Tbl H1 p as' (mkL n C0) ∧ σ = [some (.ref p), some (.int num), none, none, none, none, none, none, none], ?_, fun σ H1 hM => ?_⟩
    · refine ⟨_, rfl, t, rfl, ⟨_, SqL.of TB.top⟩, fun D hD => lc_list (K := K) (xs := as.map V.ref) (fun i H1 => Same H H1 ∧ ∃ as', (∀ a ∈ as', H a = none) ∧ Tbl H1 D as' (mkL i C0))
        ⟨same_upd hD, [], (fun a ha => by simp at ha), Tbl.nil upd_same⟩ (fun i H1 _ h => h.1.seq (SqL.of TB.top)) (fun i x H1 hx h => ?_) (fun H1 h => ?_)⟩
      · obtain ⟨e, as', hn, T1⟩ := h
        rw [List.getElem?_map] at hx
        obtain ⟨a, ha, rfl⟩ := Option.map_eq_some_iff.mp hx
        have hi : i < n := by
          have := (List.getElem?_eq_some_iff.mp ha).1
          rw [TB.len, mkL_len] at this; exact this
        have hra : H1 a = some (.lst ((C0 i).map nv)) := e _ _ (TB.row i a _ ha (mkL_at hi))
        refine ⟨rfl, yesI ⟨_, rfl, a, _, rfl, .inl (SqL.of hra), fun d hd => ?_⟩⟩
        have T2 := T1.upd_new (o := .lst ((C0 i).map nv)) hd
        have fr := T1.fresh hd
        refine ⟨as'.map V.ref, T2.top, ?_, ?_, as' ++ [d], fun b hb => ?_, ?_⟩
        · rw [List.length_map, T1.len, mkL_len]; exact small (by omega)
        · intro b o ho
          rw [upd_ne (ne_of_none ho hD), upd_ne (ne_of_none ho (e.free hd))]
          exact e b o ho
        · rcases List.mem_append.mp hb with z | z
          · exact hn b z
          · have : b = d := by simpa using z
            subst this; exact e.free hd
        · have := T2.snoc (a := d) (r := C0 i) upd_same fr.2 fr.1
          rw [List.map_append] at this
          have e : mkL (i + 1) C0 = mkL i C0 ++ [C0 i] := by simp [mkL, List.range_succ]
          rw [e]
          exact this
      · obtain ⟨e, as', hn, T1⟩ := h
        rw [List.length_map, TB.len, mkL_len] at T1
        exact ⟨D, as', hD, hn, e, T1, rfl⟩
    obtain ⟨p, as', hp, has, e1, T1, rfl⟩ := hM
    -- nobody is held
    refine ⟨fun σ H2 => ∃ hA, H hA = none ∧ hA ∉ as' ∧ hA ≠ p ∧ Same H1 H2 ∧ H2 hA = some (.lst (hL n fun _ => none)) ∧ σ = [some (.ref p), some (.int num), none, some (.ref hA), none, none, none, none, none], ?_, fun σ H2 hM => ?_⟩
    · simp only [cx_K, cx_w, wipe, Int.zero_add, Bool.false_eq_true, if_false, if_true, Bool.not_true, Bool.not_false, tSeq, tAsg, tOp, tVar, tC, tRet, tRetN, tNext, tDrop, tIfS, tB, tTest, tIf, tAnd, tOr, tNot, tAndV, tOrV, tNotV, tUn, tCons, tNil, tCall, tCB, tBM, tBM0, tNoPart, tPart, tSl, tCont, tNever, tTup, tLst, gName, gNil, gCons, gTup, gSub, rI, rI0, rU, rEq, rNe, rIxL, rSlL, rSetL, rLn, rLs, rTs, rIn, rSet0, tSAdd, rSAdd, rSIn, rSNotIn, rRep, rCat, rAppend, rPop, rPopAt, iList, iRng1, iRng2, iEnum, gTup, tIsN, tNotN, tTru, tLstRg, tRg1, tRg2, L2.start, List.map_cons, List.map_nil, List.length_cons, List.length_nil, List.replicate, List.cons_append, List.nil_append, List.getElem?_cons_zero, List.getElem?_cons_succ, List.set_cons_zero, List.set_cons_succ, Option.some.injEq, exists_eq_left', V.int.injEq, V.ref.injEq, V.bl.injEq, List.cons.injEq, exists_and_left, exists_and_right, and_true, true_and, exists_eq_left, exists_eq, Nat.reduceAdd, Nat.reduceSub]
      refine ⟨by decide, fun l hl => ?_⟩
      have T2 := T1.upd_new (o := .lst [.non]) hl
      refine ⟨_, .inl (SqL.of T2.top), _, upd_same, ?_⟩
      rw [List.length_map, T1.len, mkL_len]
      refine ⟨by omega, by omega, by simp [sizeLine_eq]; omega, fun hA hhA => ?_⟩
      rw [Int.toNat_natCast, hL_none]
      have fr := T2.fresh hhA
      have s1 : Same H1 (upd H1 l (.lst [.non])) := same_upd hl
      exact ⟨hA, e1.free (s1.free hhA), fr.1, fr.2, same_upd2 s1 (s1.free hhA), upd_same, rfl⟩
    obtain ⟨hA, hHA, fA1, fA2, e2, hh2, rfl⟩ := hM
    have T2 := T1.same e2
    have e02 : Same H H2 := e1.trans e2
    -- those who have a row
    refine ⟨fun σ H3 => ∃ wA, H wA = none ∧ wA ∉ as' ∧ wA ≠ p ∧ wA ≠ hA ∧ Same H2 H3 ∧ H3 wA = some (.lst (((List.range n).filter fun i => !decide (C0 i = [])).map nv)) ∧ σ = [some (.ref p), some (.int num), none, some (.ref hA), some (.ref wA), none, none, none, none], ?_, fun σ H3 hM => ?_⟩
    · refine ⟨_, rfl, p, _, rfl, .inl (SqL.of T2.top), _, rfl, ?_, ?_, fun D hD => lc_rng n (by rw [toNat_len, List.length_map, T1.len, mkL_len]) (fun i H3 => Same H2 H3 ∧ H3 D = some (.lst ((((List.range i).filter fun i => !decide (C0 i = [])).map nv))))
        ⟨same_upd hD, upd_same⟩ (fun i H3 hi h => ?_) (fun H3 h => ?_)⟩
      · rw [List.length_map, T1.len, mkL_len]; omega
      · rw [List.length_map, T1.len, mkL_len]; omega
      · obtain ⟨e3, hD3⟩ := h
        have T3 := T2.same e3
        obtain ⟨a, ha, hra, _, _⟩ := T3.at (show i < (mkL n C0).length by rw [mkL_len]; exact hi)
        rw [fn_mkL hi] at hra
        refine ⟨rfl, _, rfl, .int (0 + (i : Int)), rfl, p, _, _, .ref a, rfl, rfl, SqL.of T3.top, by rw [Int.zero_add]; exact T3.atI ha, Nat.zero_le _, fun z hz => ?_⟩
        refine ne_row (s := []) (SqL.of (by rw [upd_ne (ne_of_none hra hz)]; exact hra)) (SqL.of upd_same) ⟨_, rfl, ?_⟩
        have hD4 : upd H3 z (.lst []) D = some (.lst ((((List.range i).filter fun i => !decide (C0 i = [])).map nv))) := by rw [upd_ne (ne_of_none hD3 hz)]; exact hD3
        have e4 : Same H2 (upd H3 z (.lst [])) := same_upd2 e3 (e3.free hz)
        have er : (List.range (i + 1)).filter (fun i => !decide (C0 i = [])) = (List.range i).filter (fun i => !decide (C0 i = [])) ++ (if !decide (C0 i = []) then [i] else []) := by
          rw [List.range_succ, List.filter_append]
          congr 1
          by_cases hc : C0 i = [] <;> simp [hc]
        rw [er]
        by_cases hc : C0 i = []
        · rw [decide_eq_true hc]
          refine iteF ⟨e4, ?_⟩
          rw [hD4]; simp
        · rw [decide_eq_false hc]
          refine iteT ⟨_, rfl, _, hD4, ?_, ?_, ?_⟩
          · rw [List.length_map]
            exact small (Nat.le_trans (List.length_filter_le _ _) (by rw [List.length_range]; omega))
          · intro b o ho
            rw [upd_ne (ne_of_none ho hD)]
            exact e4 b o ho
          · rw [upd_same]
            simp
      · obtain ⟨e3, hD3⟩ := h
        have fr := T2.fresh hD
        exact ⟨D, e02.free hD, fr.1, fr.2, (fun z => by rw [z, hh2] at hD; cases hD), e3, hD3, rfl⟩
    obtain ⟨wA, hWA, fW1, fW2, nWA, e3, hw3, rfl⟩ := hM
    have e03 : Same H H3 := e02.trans e3
    have out0 : ∀ i, n ≤ i → C0 i = [] := fun i hi => by
      cases hc : C0 i with
      | nil => rfl
      | cons x r => have := (Rlt i x (by rw [hc]; simp)).1; omega
    refine ⟨fun σ H4 => ∃ as' C, σ[0]? = some (some (.ref p)) ∧ (∀ a ∈ as', H a = none) ∧ Tbl H4 p as' (mkL n C) ∧ Off C0 C ∧ Same H H4, ?_, fun σ H4 hM => ?_⟩
    · refine ⟨fun m σ H4 => LO C0 n num H p hA wA m σ H4, ⟨total n C0 + ((List.range n).filter fun i => !decide (C0 i = [])).length, ⟨as', C0, fun _ => none, (List.range n).filter fun i => !decide (C0 i = []), none, none, none, none, rfl, T2.same e3, has, fA1, fW1, e3 _ _ hh2, hw3, ?_, e03, rfl, fun q hq => ?_⟩⟩, fun m σ H4 hW => ?_⟩
      · exact Stt.start L (List.nodup_range.filter _) fun q hq => List.mem_filter.mpr ⟨List.mem_range.mpr (Nat.lt_of_not_le fun hle => hq (out0 q hle)), by simp [hq]⟩
      · exact List.mem_range.mp (List.mem_filter.mp hq).1
      · obtain ⟨as4, C, h, ws, y5, y6, y7, y8, rfl, tb, has4, fA, fW, hh, hw, st, fr, rfl, hlt⟩ := hW
        simp only [cx_K, cx_w, wipe, Int.zero_add, Bool.false_eq_true, if_false, if_true, Bool.not_true, Bool.not_false, tSeq, tAsg, tOp, tVar, tC, tRet, tRetN, tNext, tDrop, tIfS, tB, tTest, tIf, tAnd, tOr, tNot, tAndV, tOrV, tNotV, tUn, tCons, tNil, tCall, tCB, tBM, tBM0, tNoPart, tPart, tSl, tCont, tNever, tTup, tLst, gName, gNil, gCons, gTup, gSub, rI, rI0, rU, rEq, rNe, rIxL, rSlL, rSetL, rLn, rLs, rTs, rIn, rSet0, tSAdd, rSAdd, rSIn, rSNotIn, rRep, rCat, rAppend, rPop, rPopAt, iList, iRng1, iRng2, iEnum, gTup, tIsN, tNotN, tTru, tLstRg, tRg1, tRg2, L2.start, List.map_cons, List.map_nil, List.length_cons, List.length_nil, List.replicate, List.cons_append, List.nil_append, List.getElem?_cons_zero, List.getElem?_cons_succ, List.set_cons_zero, List.set_cons_succ, Option.some.injEq, exists_eq_left', V.int.injEq, V.ref.injEq, V.bl.injEq, List.cons.injEq, exists_and_left, exists_and_right, and_true, true_and, exists_eq_left, exists_eq, Nat.reduceAdd, Nat.reduceSub]
        refine ⟨Nat.zero_le _, fun z hz => ?_⟩
        refine ne_row (s := []) (SqL.of (by rw [upd_ne (ne_of_none hw hz)]; exact hw)) (SqL.of upd_same) ⟨_, rfl, ?_⟩
        have hz0 : H z = none := fr.free hz
        have fr5 : Same H (upd H4 z (.lst [])) := same_upd2 fr hz0
        have tb5 := tb.upd_new (o := .lst []) hz
        have hh5 : upd H4 z (.lst []) hA = some (.lst (hL n h)) := by rw [upd_ne (ne_of_none hh hz)]; exact hh
        have hw5 : upd H4 z (.lst []) wA = some (.lst (ws.map nv)) := by rw [upd_ne (ne_of_none hw hz)]; exact hw
        generalize upd H4 z (.lst []) = H5 at fr5 tb5 hh5 hw5 ⊢
        by_cases hws : ws = []
        · subst hws
          exact iteF ⟨as4, has4, C, tb5, st.fin, fr5⟩
        · rw [decide_eq_false hws]
          refine iteT ⟨fun σ' H' => ∃ m', m' < total n C + ws.length ∧ LO C0 n num H p hA wA m' σ' H', fun σ' H' zz => zz, ?_⟩
          have hpos : 0 < ws.length := List.length_pos_iff.mpr hws
          obtain ⟨k, hk⟩ := Int.eq_ofNat_of_zero_le (Int.emod_nonneg num (show (ws.length : Int) ≠ 0 by omega))
          have hkl : k < ws.length := by
            have := Int.emod_lt_of_pos num (show 0 < (ws.length : Int) by omega)
            omega
          have hperm : ws.Perm (ws[k] :: ws.eraseIdx k) := perm_at hkl
          obtain ⟨M, hMd⟩ : ∃ M : L2.St → Hp → Prop, M = (fun σ H6 => ∃ y6 y7 y8, σ = [some (.ref p), some (.int num), none, some (.ref hA), some (.ref wA), some (nv ws[k]), y6, y7, y8] ∧ H6 = upd H5 wA (.lst ((ws.eraseIdx k).map nv))) := ⟨_, rfl⟩
          refine ⟨M, ?_, fun σ H6 hM6 => ?_⟩
          · simp only [cx_K, cx_w, wipe, Int.zero_add, Bool.false_eq_true, if_false, if_true, Bool.not_true, Bool.not_false, tSeq, tAsg, tOp, tVar, tC, tRet, tRetN, tNext, tDrop, tIfS, tB, tTest, tIf, tAnd, tOr, tNot, tAndV, tOrV, tNotV, tUn, tCons, tNil, tCall, tCB, tBM, tBM0, tNoPart, tPart, tSl, tCont, tNever, tTup, tLst, gName, gNil, gCons, gTup, gSub, rI, rI0, rU, rEq, rNe, rIxL, rSlL, rSetL, rLn, rLs, rTs, rIn, rSet0, tSAdd, rSAdd, rSIn, rSNotIn, rRep, rCat, rAppend, rPop, rPopAt, iList, iRng1, iRng2, iEnum, gTup, tIsN, tNotN, tTru, tLstRg, tRg1, tRg2, L2.start, List.map_cons, List.map_nil, List.length_cons, List.length_nil, List.replicate, List.cons_append, List.nil_append, List.getElem?_cons_zero, List.getElem?_cons_succ, List.set_cons_zero, List.set_cons_succ, Option.some.injEq, exists_eq_left', V.int.injEq, V.ref.injEq, V.bl.injEq, List.cons.injEq, exists_and_left, exists_and_right, and_true, true_and, exists_eq_left, exists_eq, Nat.reduceAdd, Nat.reduceSub]
            refine ⟨.inl ⟨rfl, _, SqL.of hw5⟩, _, .inl (SqL.of hw5), ?_⟩
            rw [List.length_map, hk]
            have hwl : ws.length ≤ n := nodup_len st.nd hlt
            refine ⟨by omega, _, hw5, by omega, by omega, k, ?_, nv ws[k], ?_, ?_⟩
            · rw [List.length_map]; exact seqIx hkl
            · rw [List.getElem?_map, List.getElem?_eq_getElem hkl]; rfl
            · rw [hMd]
              refine ⟨y6, y7, y8, rfl, ?_⟩
              rw [eraseIdx_map']
          rw [hMd] at hM6
          obtain ⟨y6, y7, y8, rfl, rfl⟩ := hM6
          generalize ws[k] = x at hperm
          generalize ws.eraseIdx k = ws' at hperm
          have hlen5 : ws.length = ws'.length + 1 := hperm.length_eq
          have hx : x < n := hlt x (hperm.mem_iff.mpr (by simp))
          have hlt' : ∀ q ∈ ws', q < n := fun q hq => hlt q (hperm.mem_iff.mpr (by simp [hq]))
          have st' : Stt C0 C h (x :: ws') := st.perm hperm.symm
          have nd := st'.tab.nd L
          have fr6 : Same H (upd H5 wA (.lst (ws'.map nv))) := fun b o ho => by rw [upd_ne (ne_of_none ho hWA)]; exact fr5 b o ho
          have tb6 : Tbl (upd H5 wA (.lst (ws'.map nv))) p as4 (mkL n C) := tb5.other fW2 fW
          have hh6 : upd H5 wA (.lst (ws'.map nv)) hA = some (.lst (hL n h)) := by rw [upd_ne (Ne.symm nWA)]; exact hh5
          have hw6 : upd H5 wA (.lst (ws'.map nv)) wA = some (.lst (ws'.map nv)) := upd_same
          generalize upd H5 wA (.lst (ws'.map nv)) = H6 at fr6 tb6 hh6 hw6 ⊢
          obtain ⟨a, ha, hra, hap, ham⟩ := tb6.at (show x < (mkL n C).length by rw [mkL_len]; exact hx)
          rw [fn_mkL hx] at hra
          simp only [cx_K, cx_w, wipe, Int.zero_add, Bool.false_eq_true, if_false, if_true, Bool.not_true, Bool.not_false, tSeq, tAsg, tOp, tVar, tC, tRet, tRetN, tNext, tDrop, tIfS, tB, tTest, tIf, tAnd, tOr, tNot, tAndV, tOrV, tNotV, tUn, tCons, tNil, tCall, tCB, tBM, tBM0, tNoPart, tPart, tSl, tCont, tNever, tTup, tLst, gName, gNil, gCons, gTup, gSub, rI, rI0, rU, rEq, rNe, rIxL, rSlL, rSetL, rLn, rLs, rTs, rIn, rSet0, tSAdd, rSAdd, rSIn, rSNotIn, rRep, rCat, rAppend, rPop, rPopAt, iList, iRng1, iRng2, iEnum, gTup, tIsN, tNotN, tTru, tLstRg, tRg1, tRg2, L2.start, List.map_cons, List.map_nil, List.length_cons, List.length_nil, List.replicate, List.cons_append, List.nil_append, List.getElem?_cons_zero, List.getElem?_cons_succ, List.set_cons_zero, List.set_cons_succ, Option.some.injEq, exists_eq_left', V.int.injEq, V.ref.injEq, V.bl.injEq, List.cons.injEq, exists_and_left, exists_and_right, and_true, true_and, exists_eq_left, exists_eq, Nat.reduceAdd, Nat.reduceSub]
          refine ⟨_, SqL.of tb6.top, _, tb6.atI ha, Nat.zero_le _, fun z2 hz2 => ?_⟩
          refine ne_row (s := []) (SqL.of (by rw [upd_ne (ne_of_none hra hz2)]; exact hra)) (SqL.of upd_same) ⟨_, rfl, ?_⟩
          have fr7 : Same H (upd H6 z2 (.lst [])) := same_upd2 fr6 (fr6.free hz2)
          have tb7 := tb6.upd_new (o := .lst []) hz2
          have hh7 : upd H6 z2 (.lst []) hA = some (.lst (hL n h)) := by rw [upd_ne (ne_of_none hh6 hz2)]; exact hh6
          have hw7 : upd H6 z2 (.lst []) wA = some (.lst (ws'.map nv)) := by rw [upd_ne (ne_of_none hw6 hz2)]; exact hw6
          have hra7 : upd H6 z2 (.lst []) a = some (.lst ((C x).map nv)) := by rw [upd_ne (ne_of_none hra hz2)]; exact hra
          generalize upd H6 z2 (.lst []) = H7 at fr7 tb7 hh7 hw7 hra7 ⊢
          cases hC : C x with
          | nil =>
            rw [decide_eq_true (show ([] : List Nat) = [] from rfl)]
            refine iteF ⟨total n C + ws'.length, by omega, as4, C, h, ws', _, _, _, _, rfl, tb7, has4, fA, fW, hh7, hw7, st'.skip hC, fr7, rfl, hlt'⟩
          | cons b tl =>
            rw [decide_eq_false (show ¬ (b :: tl) = [] from fun e => by cases e)]
            have hbx : (C x).head? = some b := by rw [hC]; rfl
            have hbm : b ∈ C x := head_mem hbx
            have hb : b < n := (Rlt x b ((st'.tab.sub x).subset hbm)).2
            have hxb : x ∈ C b := st'.tab.mu _ _ hbm
            refine iteT ⟨_, SqL.of tb7.top, _, tb7.atI ha, a, rfl, _, SqL.of hra7, nv b, by rw [hC]; exact atI_nat (j := 0) rfl, _, _, rfl, SqL.of hh7, ov (h b), atI_nat (hL_at hb), ?_⟩
            -- the best one holds this one
            obtain ⟨M, hMd⟩ : ∃ M : L2.St → Hp → Prop, M = (fun σ H8 => H8 = upd H7 hA (.lst (hL n (hold h b x))) ∧ σ = [some (.ref p), some (.int num), none, some (.ref hA), some (.ref wA), some (nv x), some (nv b), some (ov (h b)), y8]) := ⟨_, rfl⟩
            refine ⟨M, ?_, fun σ H8 hM8 => ?_⟩
            · simp only [cx_K, cx_w, wipe, Int.zero_add, Bool.false_eq_true, if_false, if_true, Bool.not_true, Bool.not_false, tSeq, tAsg, tOp, tVar, tC, tRet, tRetN, tNext, tDrop, tIfS, tB, tTest, tIf, tAnd, tOr, tNot, tAndV, tOrV, tNotV, tUn, tCons, tNil, tCall, tCB, tBM, tBM0, tNoPart, tPart, tSl, tCont, tNever, tTup, tLst, gName, gNil, gCons, gTup, gSub, rI, rI0, rU, rEq, rNe, rIxL, rSlL, rSetL, rLn, rLs, rTs, rIn, rSet0, tSAdd, rSAdd, rSIn, rSNotIn, rRep, rCat, rAppend, rPop, rPopAt, iList, iRng1, iRng2, iEnum, gTup, tIsN, tNotN, tTru, tLstRg, tRg1, tRg2, L2.start, List.map_cons, List.map_nil, List.length_cons, List.length_nil, List.replicate, List.cons_append, List.nil_append, List.getElem?_cons_zero, List.getElem?_cons_succ, List.set_cons_zero, List.set_cons_succ, Option.some.injEq, exists_eq_left', V.int.injEq, V.ref.injEq, V.bl.injEq, List.cons.injEq, exists_and_left, exists_and_right, and_true, true_and, exists_eq_left, exists_eq, Nat.reduceAdd, Nat.reduceSub]
              refine ⟨_, hh7, b, by rw [hL_len]; exact ixN_nat hb, ?_⟩
              rw [hMd, hL_set h hb]
              exact ⟨rfl, rfl⟩
            rw [hMd] at hM8
            obtain ⟨rfl, rfl⟩ := hM8
            have fr8 : Same H (upd H7 hA (.lst (hL n (hold h b x)))) := fun c o ho => by rw [upd_ne (ne_of_none ho hHA)]; exact fr7 c o ho
            have tb8 : Tbl (upd H7 hA (.lst (hL n (hold h b x)))) p as4 (mkL n C) := tb7.other fA2 fA
            have hh8 : upd H7 hA (.lst (hL n (hold h b x))) hA = some (.lst (hL n (hold h b x))) := upd_same
            have hw8 : upd H7 hA (.lst (hL n (hold h b x))) wA = some (.lst (ws'.map nv)) := by rw [upd_ne nWA]; exact hw7
            generalize upd H7 hA (.lst (hL n (hold h b x))) = H8 at fr8 tb8 hh8 hw8 ⊢
            obtain ⟨c, hc, hrc, hcp, hcm⟩ := tb8.at (show b < (mkL n C).length by rw [mkL_len]; exact hb)
            rw [fn_mkL hb] at hrc
            have hk := idxOf_lt_of_mem hxb
            have ndd : ((C b).drop ((C b).idxOf x + 1)).Nodup := (nd b).sublist (List.drop_sublist _ _)
            -- all behind it let the best one go
            obtain ⟨M, hMd⟩ : ∃ M : L2.St → Hp → Prop, M = (fun σ H9 => ∃ y8, σ = [some (.ref p), some (.int num), none, some (.ref hA), some (.ref wA), some (nv x), some (nv b), some (ov (h b)), y8] ∧
              Tbl H9 p as4 (mkL n fun j => if j ∈ (C b).drop ((C b).idxOf x + 1) then (C j).erase b else C j) ∧ (∀ z o, z ∉ as4 → H8 z = some o → H9 z = some o)) := ⟨_, rfl⟩
            refine ⟨M, ?_, fun σ H9 hM9 => ?_⟩
            · refine ⟨.ref p, rfl, nv b, rfl, p, _, (b : Int), .ref c, rfl, rfl, SqL.of tb8.top, tb8.atI hc, .ref p, rfl, nv b, rfl, p, _, (b : Int), .ref c, rfl, rfl, SqL.of tb8.top, tb8.atI hc, .inl ⟨rfl, _, SqL.of hrc⟩, nv x, rfl, ?_⟩
              refine index_t (SqL.of hrc) hxb ⟨_, _, rfl, rfl, _, rfl, c, (C b).map nv, rfl, SqL.of hrc, fun g hg => ?_⟩
              have ek : ((C b).idxOf x : Int) + 1 = (((C b).idxOf x + 1 : Nat) : Int) := rfl
              rw [ek, cutV_drop, ← List.map_drop]
              have ngc : c ≠ g := ne_of_none hrc hg
              have frg := tb8.fresh hg
              refine ⟨g, rfl, ⟨_, SqL.of upd_same⟩, for_list (K := K) (xs := ((C b).drop ((C b).idxOf x + 1)).map nv)
                (fun i σ H9 => ∃ y8, σ = [some (.ref p), some (.int num), none, some (.ref hA), some (.ref wA), some (nv x), some (nv b), some (ov (h b)), y8] ∧ H9 g = some (.lst (((C b).drop ((C b).idxOf x + 1)).map nv)) ∧
                  Tbl H9 p as4 (mkL n fun j => if j ∈ ((C b).drop ((C b).idxOf x + 1)).take i then (C j).erase b else C j) ∧ (∀ z o, z ∉ as4 → H8 z = some o → H9 z = some o))
                ⟨y8, rfl, upd_same, by simpa using tb8.upd_new (o := .lst (((C b).drop ((C b).idxOf x + 1)).map nv)) hg, fun z o hz ho => by rw [upd_ne (ne_of_none ho hg)]; exact ho⟩ (fun i σ H9 _ hh => ?_) (fun i v σ H9 hv hh => ?_) (fun σ H9 hh => ?_)⟩
              · obtain ⟨_, _, e, _⟩ := hh
                exact SqL.of e
              · obtain ⟨y8, rfl, hgl, TC, hfr⟩ := hh
                rw [List.getElem?_map] at hv
                obtain ⟨z, hz, rfl⟩ := Option.map_eq_some_iff.mp hv
                obtain ⟨hi, ez⟩ := List.getElem?_eq_some_iff.mp hz
                have hzb := List.mem_of_mem_drop (List.mem_of_getElem? hz)
                have m1 := st'.tab.mu _ _ hzb
                have m2 : z < n := (Rlt b z ((st'.tab.sub b).subset hzb)).2
                have hnew : z ∉ ((C b).drop ((C b).idxOf x + 1)).take i := fun hmm => by
                  obtain ⟨j, hj, ej⟩ := List.getElem_of_mem hmm
                  rw [List.getElem_take] at ej
                  rw [List.length_take] at hj
                  have := (List.getElem_inj (h₁ := hi) (h₀ := (by omega : j < _)) ndd).mp (by rw [ej, ez])
                  omega
                obtain ⟨d, hd, hrd, hdp, hdm⟩ := TC.at (show z < (mkL n _).length by rw [mkL_len]; exact m2)
                rw [fn_mkL m2, if_neg hnew] at hrd
                simp only [cx_K, cx_w, wipe, Int.zero_add, Bool.false_eq_true, if_false, if_true, Bool.not_true, Bool.not_false, tSeq, tAsg, tOp, tVar, tC, tRet, tRetN, tNext, tDrop, tIfS, tB, tTest, tIf, tAnd, tOr, tNot, tAndV, tOrV, tNotV, tUn, tCons, tNil, tCall, tCB, tBM, tBM0, tNoPart, tPart, tSl, tCont, tNever, tTup, tLst, gName, gNil, gCons, gTup, gSub, rI, rI0, rU, rEq, rNe, rIxL, rSlL, rSetL, rLn, rLs, rTs, rIn, rSet0, tSAdd, rSAdd, rSIn, rSNotIn, rRep, rCat, rAppend, rPop, rPopAt, iList, iRng1, iRng2, iEnum, gTup, tIsN, tNotN, tTru, tLstRg, tRg1, tRg2, L2.start, List.map_cons, List.map_nil, List.length_cons, List.length_nil, List.replicate, List.cons_append, List.nil_append, List.getElem?_cons_zero, List.getElem?_cons_succ, List.set_cons_zero, List.set_cons_succ, Option.some.injEq, exists_eq_left', V.int.injEq, V.ref.injEq, V.bl.injEq, List.cons.injEq, exists_and_left, exists_and_right, and_true, true_and, exists_eq_left, exists_eq, Nat.reduceAdd, Nat.reduceSub]
                refine ⟨_, SqL.of TC.top, _, TC.atI hd, .inl ⟨rfl, _, SqL.of hrd⟩, ?_⟩
                refine remove_nv hrd m1 ⟨?_, ?_, fun y o hy ho => ?_⟩
                · rw [upd_ne (fun e => frg.1 (by rw [e]; exact hdm))]; exact hgl
                · have := TC.write hd ((C z).erase b)
                  rw [mkL_set] at this
                  have e : mkL n (fun j => if j = z then (C z).erase b else if j ∈ ((C b).drop ((C b).idxOf x + 1)).take i then (C j).erase b else C j) =
                      mkL n (fun j => if j ∈ ((C b).drop ((C b).idxOf x + 1)).take (i + 1) then (C j).erase b else C j) := mkL_congr fun j _ => by
                    have et : ((C b).drop ((C b).idxOf x + 1)).take (i + 1) = ((C b).drop ((C b).idxOf x + 1)).take i ++ [z] := by rw [List.take_add_one, hz]; rfl
                    rw [et]
                    by_cases e1 : j = z
                    · subst e1
                      rw [if_pos rfl, if_pos (by simp)]
                    · have : (j ∈ ((C b).drop ((C b).idxOf x + 1)).take i ++ [z]) = (j ∈ ((C b).drop ((C b).idxOf x + 1)).take i) := by simp [e1]
                      rw [if_neg e1]
                      simp only [this]
                  rw [← e]
                  exact this
                · rw [upd_ne (fun e => hy (by rw [e]; exact hdm))]
                  exact hfr y o hy ho
              · obtain ⟨y8, rfl, hgl, TC, hfr⟩ := hh
                rw [List.length_map, List.take_length] at TC
                rw [hMd]
                exact ⟨y8, rfl, TC, hfr⟩
            rw [hMd] at hM9
            obtain ⟨y8, rfl, TC, hfr⟩ := hM9
            have hbd : b ∉ (C b).drop ((C b).idxOf x + 1) := fun z => st'.tab.ir L b (List.mem_of_mem_drop z)
            have fr9 : Same H H9 := fun d o ho => hfr d o (fun z => by rw [has4 d z] at ho; cases ho) (fr8 d o ho)
            have hh9 : H9 hA = some (.lst (hL n (hold h b x))) := hfr _ _ fA hh8
            have hw9 : H9 wA = some (.lst (ws'.map nv)) := hfr _ _ fW hw8
            obtain ⟨c2, hc2, hrc2, hcp2, hcm2⟩ := TC.at (show b < (mkL n _).length by rw [mkL_len]; exact hb)
            rw [fn_mkL hb, if_neg hbd] at hrc2
            simp only [cx_K, cx_w, wipe, Int.zero_add, Bool.false_eq_true, if_false, if_true, Bool.not_true, Bool.not_false, tSeq, tAsg, tOp, tVar, tC, tRet, tRetN, tNext, tDrop, tIfS, tB, tTest, tIf, tAnd, tOr, tNot, tAndV, tOrV, tNotV, tUn, tCons, tNil, tCall, tCB, tBM, tBM0, tNoPart, tPart, tSl, tCont, tNever, tTup, tLst, gName, gNil, gCons, gTup, gSub, rI, rI0, rU, rEq, rNe, rIxL, rSlL, rSetL, rLn, rLs, rTs, rIn, rSet0, tSAdd, rSAdd, rSIn, rSNotIn, rRep, rCat, rAppend, rPop, rPopAt, iList, iRng1, iRng2, iEnum, gTup, tIsN, tNotN, tTru, tLstRg, tRg1, tRg2, L2.start, List.map_cons, List.map_nil, List.length_cons, List.length_nil, List.replicate, List.cons_append, List.nil_append, List.getElem?_cons_zero, List.getElem?_cons_succ, List.set_cons_zero, List.set_cons_succ, Option.some.injEq, exists_eq_left', V.int.injEq, V.ref.injEq, V.bl.injEq, List.cons.injEq, exists_and_left, exists_and_right, and_true, true_and, exists_eq_left, exists_eq, Nat.reduceAdd, Nat.reduceSub]
            refine ⟨_, SqL.of TC.top, _, TC.atI hc2, _, SqL.of TC.top, _, TC.atI hc2, .inl ⟨rfl, _, SqL.of hrc2⟩, ?_⟩
            refine index_nv (SqL.of hrc2) hxb ⟨_, rfl, c2, rfl, _, SqL.of hrc2, fun e he => ?_⟩
            have ek : ((C b).idxOf x : Int) + 1 = (((C b).idxOf x + 1 : Nat) : Int) := rfl
            rw [ek, cutV_take, ← List.map_take]
            have fre := TC.fresh he
            have TD := TC.upd_new (o := .lst (((C b).take ((C b).idxOf x + 1)).map nv)) he
            have TE := TD.replace (one := b) (D := e) (r := (C b).take ((C b).idxOf x + 1)) (by rw [mkL_len]; exact hb) fre.1 fre.2 upd_same
            rw [mkL_set] at TE
            have ecut : mkL n (fun j => if j = b then (C b).take ((C b).idxOf x + 1) else if j ∈ (C b).drop ((C b).idxOf x + 1) then (C j).erase b else C j) = mkL n (cut C b x) := rfl
            rw [ecut] at TE
            have He0 : H e = none := fr9.free he
            have nhe : hA ≠ e := ne_of_none hh9 he
            have nwe : wA ≠ e := ne_of_none hw9 he
            refine ⟨_, TD.top, b, by rw [List.length_map, TC.len, mkL_len]; exact ixN_nat hb, ?_⟩
            have frA : Same H (upd (upd H9 e (.lst (((C b).take ((C b).idxOf x + 1)).map nv))) p (.lst ((as4.map V.ref).set b (.ref e)))) := fun d o ho => by
              rw [upd_ne (ne_of_none ho hp), upd_ne (ne_of_none ho He0)]
              exact fr9 d o ho
            have hhA : upd (upd H9 e (.lst (((C b).take ((C b).idxOf x + 1)).map nv))) p (.lst ((as4.map V.ref).set b (.ref e))) hA = some (.lst (hL n (hold h b x))) := by rw [upd_ne fA2, upd_ne nhe]; exact hh9
            have hwA : upd (upd H9 e (.lst (((C b).take ((C b).idxOf x + 1)).map nv))) p (.lst ((as4.map V.ref).set b (.ref e))) wA = some (.lst (ws'.map nv)) := by rw [upd_ne fW2, upd_ne nwe]; exact hw9
            generalize upd (upd H9 e (.lst (((C b).take ((C b).idxOf x + 1)).map nv))) p (.lst ((as4.map V.ref).set b (.ref e))) = HA at frA hhA hwA TE ⊢
            have asn : ∀ d ∈ as4.set b e, H d = none := fun d hd => by
              rcases List.mem_or_eq_of_mem_set hd with z | z
              · exact has4 d z
              · rw [z]; exact He0
            have fAe : hA ∉ as4.set b e := fun z => by
              rcases List.mem_or_eq_of_mem_set z with z | z
              · exact fA z
              · exact nhe z
            have fWe : wA ∉ as4.set b e := fun z => by
              rcases List.mem_or_eq_of_mem_set z with z | z
              · exact fW z
              · exact nwe z
            have less := st'.less L hbx hb
            have offer := st'.offer L hbx
            rw [isNon_ov]
            cases hhb : h b with
            | none =>
              rw [hhb] at less offer
              refine iteF ⟨total n (cut C b x) + ws'.length, by simp at less ⊢; omega, as4.set b e, cut C b x, hold h b x, ws', _, _, _, _, rfl, TE, asn, fAe, fWe, hhA, hwA, offer, frA, rfl, hlt'⟩
            | some p0 =>
              rw [hhb] at less offer
              have hp0 : p0 < n := by
                have := head_mem (st'.held _ _ hhb).1
                exact (Rlt p0 b ((st'.tab.sub p0).subset this)).1
              have hwl : ws'.length ≤ n := nodup_len (List.nodup_cons.mp st'.nd).2 hlt'
              have e5 : ws'.map nv ++ [ov (some p0)] = (ws' ++ [p0]).map nv := by rw [List.map_append]; rfl
              refine iteT ⟨.inl ⟨rfl, _, SqL.of hwA⟩, _, hwA, by rw [List.length_map]; exact small (by omega), ?_⟩
              rw [e5]
              refine ⟨total n (cut C b x) + (ws' ++ [p0]).length, by simp at less ⊢; omega, as4.set b e, cut C b x, hold h b x, ws' ++ [p0], _, _, _, _, rfl, TE.other fW2 fWe, asn, fAe, fWe, by rw [upd_ne (Ne.symm nWA)]; exact hhA, upd_same, offer.perm (List.perm_append_singleton _ _), fun d o ho => ?_, rfl, fun q hq => ?_⟩
              · rw [upd_ne (ne_of_none ho hWA)]; exact frA d o ho
              · rcases List.mem_append.mp hq with z | z
                · exact hlt' q z
                · have : q = p0 := by simpa using z
                  rw [this]; exact hp0
    · obtain ⟨as4, C, e0, has4, TC, hOff, fr⟩ := hM
      exact ⟨_, e0, q H4 p as4 C fr hp has4 TC hOff⟩
end
end K3

set_option Elab.async false
set_option linter.all false
set_option maxRecDepth 100000
set_option maxHeartbeats 4000000
namespace K3
open PySem PySem.Spec PyProof.Rows L2 LamX Bk
section
variable {P : Program} {w : World} {K : PySem.W.Frag} {mg : Str → Option Value} {base : Heap}

def sp_is_number (K : PySem.W.Frag) : Sp := fun vs H Q _ => ∃ (i : Int), vs = [.int i] ∧ Q (.bl true) H
theorem ok_is_number (T : Txt K mg) : FnOk P w K mg base CX0 1 T.a_is_number T.fd_is_number ["value"] (sp_is_number K) := by
  refine T.F_is_number.ok sc_is_number (fun vs H Q E h => ?_) (fun cdv A outer s H vs Q E hr h => ?_)
  · obtain ⟨x, rfl, _⟩ := h
    rfl
  · obtain ⟨x, rfl, q⟩ := h
    refine ⟨_, (pss_one (ps_ret (pe_and (pe_callB (kisi (K := K)) (by rfl) T.m_isinstance (by decide +kernel) (pa_cons (pv 0) (pa_cons (pe_bltn (v := .ty "int") (by rfl) T.m_int (by decide +kernel) rfl) pa_nil))) (pe_one (pe_not (pe_callB (kisi (K := K)) (by rfl) T.m_isinstance (by decide +kernel) (pa_cons (pv 0) (pa_cons (pe_bltn (v := .ty "bool") (by rfl) T.m_bool (by decide +kernel) rfl) pa_nil)))))))), ?_⟩
    simp only [cx_K, cx_w, wipe, Int.zero_add, Bool.false_eq_true, if_false, if_true, Bool.not_true, Bool.not_false, tSeq, tAsg, tOp, tVar, tC, tRet, tRetN, tNext, tDrop, tIfS, tB, tTest, tIf, tAnd, tOr, tNot, tAndV, tOrV, tNotV, tUn, tCons, tNil, tCall, tCB, tBM, tBM0, tNoPart, tPart, tSl, tCont, tNever, tTup, tLst, gName, gNil, gCons, gTup, gSub, rI, rI0, rU, rEq, rNe, rIxL, rSlL, rSetL, rLn, rLs, rTs, rIn, rSet0, tSAdd, rSAdd, rSIn, rSNotIn, rRep, rCat, rAppend, rPop, rPopAt, iList, iRng1, iRng2, iEnum, gTup, tIsN, tNotN, tTru, tLstRg, tRg1, tRg2, L2.start, List.map_cons, List.map_nil, List.length_cons, List.length_nil, List.replicate, List.cons_append, List.nil_append, List.getElem?_cons_zero, List.getElem?_cons_succ, List.set_cons_zero, List.set_cons_succ, Option.some.injEq, exists_eq_left', V.int.injEq, V.ref.injEq, V.bl.injEq, List.cons.injEq, exists_and_left, exists_and_right, and_true, true_and, exists_eq_left, exists_eq, Nat.reduceAdd, Nat.reduceSub]
    refine isi (.base (.int x)) (b := true) (by decide +kernel) ⟨true, rfl, ?_⟩
    rw [if_pos rfl]
    exact isi (.base (.int x)) (b := false) (by decide +kernel) ⟨_, rfl, q⟩
/-- a row that is one -/
def sp_is_row (K : PySem.W.Frag) : Sp := fun vs H Q _ => ∃ (a : Addr) (r : List Nat) (p m : Nat), vs = [.ref a, nv p, nv m] ∧ RowAt H a r ∧ r.Nodup ∧ (∀ x ∈ r, x < m ∧ x ≠ p) ∧ r.length ≤ 100 ∧ ∀ H', Same H H' → Q (.bl true) H'
theorem ok_is_row (T : Txt K mg) : FnOk P w K mg base CX0 2 T.a_is_row T.fd_is_row ["row", "person", "many"] (sp_is_row K) := by
  have G_is_number : FnOk P w K mg base CX0 1 T.a_is_number T.fd_is_number ["value"] (sp_is_number K) := ok_is_number T
  refine T.F_is_row.ok sc_is_row (fun vs H Q E h => ?_) (fun cdv A outer s H vs Q E hr h => ?_)
  · obtain ⟨a, r, p, m, rfl, _⟩ := h
    rfl
  · obtain ⟨a, r, p, m, rfl, ha, hd, hin, hlen, q⟩ := h
    refine ⟨_, (pss_cons (ps_if (pt_not (pt_val (pe_callB (kisi (K := K)) (by rfl) T.m_isinstance (by decide +kernel) (pa_cons (pv 0) (pa_cons (pe_bltn (v := .ty "list") (by rfl) T.m_list (by decide +kernel) rfl) pa_nil))))) (pss_one (ps_ret pe_bl)) pss_nil)
      (C8.pss_cut (ps_set (i := 3) sc_is_row.nd rfl (.inl rfl) (pe_callTy0 cr_set0 (by rfl) T.m_set (by decide +kernel)))
      (C8.pss_cut (ps_for PassesOwn.never rfl (kpi_list (K := K) (pv 0)) (pg_name (i := 4) sc_is_row.nd rfl (.inl rfl)) (pss_cons (ps_if (PW.pt (pw_or (pt_not (pt_val (pe_call G_is_number (hr.mono (by decide)) (by rfl) T.g_is_number T.F_is_number.kp T.b_is_number .nil pass0 (pa_cons (pv 4) pa_nil)))) (pw_or (pt_cmpR op_lt (pv 4) pe_int (nomark _)) (pw_or1 (pt_cmpR op_ge (pv 4) (pv 2) (nomark _)))))) (pss_one (ps_ret pe_bl)) pss_nil)
      (pss_cons (ps_if (PW.pt (pw_or (pt_cmpR op_eq (pv 4) (pv 1) (nomark _)) (pw_or1 (pt_cmpR or_sin (pv 4) (pv 3) rfl)))) (pss_one (ps_ret pe_bl)) pss_nil)
      (pss_one (ps_expr (pe_sadd (pv 3) (pa_cons (pv 4) pa_nil)))))))
      (pss_one (ps_ret pe_bl))))), ?_⟩
    simp only [cx_K, cx_w, wipe, Int.zero_add, Bool.false_eq_true, if_false, if_true, Bool.not_true, Bool.not_false, tSeq, tAsg, tOp, tVar, tC, tRet, tRetN, tNext, tDrop, tIfS, tB, tTest, tIf, tAnd, tOr, tNot, tAndV, tOrV, tNotV, tUn, tCons, tNil, tCall, tCB, tBM, tBM0, tNoPart, tPart, tSl, tCont, tNever, tTup, tLst, gName, gNil, gCons, gTup, gSub, rI, rI0, rU, rEq, rNe, rIxL, rSlL, rSetL, rLn, rLs, rTs, rIn, rSet0, tSAdd, rSAdd, rSIn, rSNotIn, rRep, rCat, rAppend, rPop, rPopAt, iList, iRng1, iRng2, iEnum, gTup, tIsN, tNotN, tTru, tLstRg, tRg1, tRg2, L2.start, List.map_cons, List.map_nil, List.length_cons, List.length_nil, List.replicate, List.cons_append, List.nil_append, List.getElem?_cons_zero, List.getElem?_cons_succ, List.set_cons_zero, List.set_cons_succ, Option.some.injEq, exists_eq_left', V.int.injEq, V.ref.injEq, V.bl.injEq, List.cons.injEq, exists_and_left, exists_and_right, and_true, true_and, exists_eq_left, exists_eq, Nat.reduceAdd, Nat.reduceSub]
    refine isi (.base (.lst ha)) (b := true) (by decide +kernel) ⟨true, rfl, ?_⟩
    refine iteF ⟨fun σ H' => ∃ d, H' = upd H d (SetO w d (fun _ => false) 0) ∧ H d = none ∧ σ = [some (.ref a), some (nv p), some (nv m), some (.ref d), none], ?_, fun σ H' hM => ?_⟩
    · simp only [cx_K, cx_w, wipe, Int.zero_add, Bool.false_eq_true, if_false, if_true, Bool.not_true, Bool.not_false, tSeq, tAsg, tOp, tVar, tC, tRet, tRetN, tNext, tDrop, tIfS, tB, tTest, tIf, tAnd, tOr, tNot, tAndV, tOrV, tNotV, tUn, tCons, tNil, tCall, tCB, tBM, tBM0, tNoPart, tPart, tSl, tCont, tNever, tTup, tLst, gName, gNil, gCons, gTup, gSub, rI, rI0, rU, rEq, rNe, rIxL, rSlL, rSetL, rLn, rLs, rTs, rIn, rSet0, tSAdd, rSAdd, rSIn, rSNotIn, rRep, rCat, rAppend, rPop, rPopAt, iList, iRng1, iRng2, iEnum, gTup, tIsN, tNotN, tTru, tLstRg, tRg1, tRg2, L2.start, List.map_cons, List.map_nil, List.length_cons, List.length_nil, List.replicate, List.cons_append, List.nil_append, List.getElem?_cons_zero, List.getElem?_cons_succ, List.set_cons_zero, List.set_cons_succ, Option.some.injEq, exists_eq_left', V.int.injEq, V.ref.injEq, V.bl.injEq, List.cons.injEq, exists_and_left, exists_and_right, and_true, true_and, exists_eq_left, exists_eq, Nat.reduceAdd, Nat.reduceSub]
      exact fun d hd0 => ⟨d, rfl, hd0, rfl⟩
    obtain ⟨d, rfl, hd0, rfl⟩ := hM
    have s0 : Same H (upd H d (SetO w d (fun _ => false) 0)) := same_upd hd0
    refine ⟨fun σ H' => Same H H', ?_, fun σ H' e => q H' e⟩
    refine ⟨_, rfl, a, rfl, ⟨_, SqL.of (s0 _ _ ha)⟩, for_list (K := K) (xs := r.map nv)
      (fun i σ H' => ∃ y, σ = [some (.ref a), some (nv p), some (nv m), some (.ref d), y] ∧ Same H H' ∧ H' d = some (SetO w d (fun k => decide (k ∈ (r.take i).map Int.ofNat)) i))
      ⟨none, rfl, s0, ?_⟩ (fun i σ H' _ h => ?_) (fun i x σ H' hx h => ?_) (fun σ H' h => ?_)⟩
    · rw [upd_same]
      congr 1
    · obtain ⟨_, _, e, _⟩ := h
      exact SqL.of (e _ _ ha)
    · obtain ⟨y, rfl, e, hs⟩ := h
      rw [List.getElem?_map] at hx
      obtain ⟨z, hz, rfl⟩ := Option.map_eq_some_iff.mp hx
      obtain ⟨hi, e2⟩ := List.getElem?_eq_some_iff.mp hz
      obtain ⟨h1, h2⟩ := hin z (List.mem_of_getElem? hz)
      simp only [cx_K, cx_w, wipe, Int.zero_add, Bool.false_eq_true, if_false, if_true, Bool.not_true, Bool.not_false, tSeq, tAsg, tOp, tVar, tC, tRet, tRetN, tNext, tDrop, tIfS, tB, tTest, tIf, tAnd, tOr, tNot, tAndV, tOrV, tNotV, tUn, tCons, tNil, tCall, tCB, tBM, tBM0, tNoPart, tPart, tSl, tCont, tNever, tTup, tLst, gName, gNil, gCons, gTup, gSub, rI, rI0, rU, rEq, rNe, rIxL, rSlL, rSetL, rLn, rLs, rTs, rIn, rSet0, tSAdd, rSAdd, rSIn, rSNotIn, rRep, rCat, rAppend, rPop, rPopAt, iList, iRng1, iRng2, iEnum, gTup, tIsN, tNotN, tTru, tLstRg, tRg1, tRg2, L2.start, List.map_cons, List.map_nil, List.length_cons, List.length_nil, List.replicate, List.cons_append, List.nil_append, List.getElem?_cons_zero, List.getElem?_cons_succ, List.set_cons_zero, List.set_cons_succ, Option.some.injEq, exists_eq_left', V.int.injEq, V.ref.injEq, V.bl.injEq, List.cons.injEq, exists_and_left, exists_and_right, and_true, true_and, exists_eq_left, exists_eq, Nat.reduceAdd, Nat.reduceSub]
      refine ⟨z, rfl, true, rfl, iteF ?_⟩
      have hnew : z ∉ r.take i := fun hm => by
        obtain ⟨j, hj, ej⟩ := List.getElem_of_mem hm
        rw [List.getElem_take] at ej
        rw [List.length_take] at hj
        have := (List.getElem_inj (h₁ := hi) (h₀ := (by omega : j < r.length)) hd).mp (by rw [ej, e2])
        omega
      rw [decide_eq_false (by omega)]
      refine iteF ?_
      rw [decide_eq_false (by omega)]
      refine iteF ⟨rfl, ?_⟩
      rw [decide_eq_false (by omega)]
      refine iteF ⟨_, ⟨_, hs⟩, ?_⟩
      have hnew' : ¬ ((z : Int) ∈ (r.take i).map Int.ofNat) := fun hm => by
        obtain ⟨v, hv, ev⟩ := List.mem_map.mp hm
        have : v = z := Int.ofNat.inj ev
        exact hnew (this ▸ hv)
      rw [if_neg (by simpa using hnew')]
      refine ⟨⟨_, _, hs⟩, _, _, hs, ?_, ?_, ?_⟩
      · exact Nat.lt_of_le_of_lt (by omega : i + 1 ≤ 1000) (by decide)
      · intro b o ho
        rw [upd_ne (ne_of_none ho hd0)]
        exact e b o ho
      · rw [upd_same, decide_eq_false hnew']
        simp only [Bool.false_eq_true, if_false]
        congr 2
        funext k
        rw [← Bool.decide_or]
        congr 1
        rw [List.take_add_one, hz, List.map_append]
        simp
    · obtain ⟨y, rfl, e, hs⟩ := h
      exact e
end
end K3

set_option Elab.async false
set_option linter.all false
set_option maxRecDepth 100000
set_option maxHeartbeats 4000000
namespace K3
open PySem PySem.Spec PyProof.Rows L2 LamX Bk
section
variable {P : Program} {w : World} {K : PySem.W.Frag} {mg : Str → Option Value} {base : Heap}

/-- lists that are ones -/
def sp_check_lists (K : PySem.W.Frag) : Sp := fun vs H Q _ => ∃ (t : Addr) (as : List Addr) (rows : List (List Nat)), vs = [.ref t] ∧ Tbl H t as rows ∧ GL rows ∧ rows.length ≤ 60 ∧ ∀ H', Same H H' → Q .non H'
theorem ok_check_lists (T : Txt K mg) : FnOk P w K mg base CX0 3 T.a_check_lists T.fd_check_lists ["lists"] (sp_check_lists K) := by
  have G_is_row : FnOk P w K mg base CX0 2 T.a_is_row T.fd_is_row ["row", "person", "many"] (sp_is_row K) := ok_is_row T
  refine T.F_check_lists.ok sc_check_lists (fun vs H Q E h => ?_) (fun cdv A outer s H vs Q E hr h => ?_)
  · obtain ⟨t, as, rows, rfl, _⟩ := h
    rfl
  · obtain ⟨t, as, rows, rfl, TB, g, hlen, q⟩ := h
    refine ⟨_, (C8.pss_cut (ps_if (PW.pt (pw_or (pt_not (pt_val (pe_callB (kisi (K := K)) (by rfl) T.m_isinstance (by decide +kernel) (pa_cons (pv 0) (pa_cons (pe_bltn (v := .ty "list") (by rfl) T.m_list (by decide +kernel) rfl) pa_nil))))) (pw_or1 (pt_cmpR op_gt (pe_callB (klen (K := K)) (by rfl) T.m_len (by decide +kernel) (pa_cons (pv 0) pa_nil)) (pe_glob (v := .int 60) rfl T.mostG ⟨_, rfl⟩) (nomark _))))) (pss_one ps_never) pss_nil)
      (pss_one (ps_for PassesOwn.never rfl (kpi_enum (K := K) (by rfl) T.m_enumerate (pa_cons (pv 0) pa_nil)) (kpg_tup (K := K) (n := 2) rfl (pgs_cons (pg_name (i := 1) sc_check_lists.nd rfl (.inl rfl)) (pgs_cons (pg_name (i := 2) sc_check_lists.nd rfl (.inl rfl)) pgs_nil))) (pss_one (ps_if (pt_not (pt_val (pe_call G_is_row (hr.mono (by decide)) (by rfl) T.g_is_row T.F_is_row.kp T.b_is_row .nil pass0 (pa_cons (pv 2) (pa_cons (pv 1) (pa_cons (pe_callB (klen (K := K)) (by rfl) T.m_len (by decide +kernel) (pa_cons (pv 0) pa_nil)) pa_nil)))))) (pss_one ps_never) pss_nil))))), ?_⟩
    simp only [cx_K, cx_w, wipe, Int.zero_add, Bool.false_eq_true, if_false, if_true, Bool.not_true, Bool.not_false, tSeq, tAsg, tOp, tVar, tC, tRet, tRetN, tNext, tDrop, tIfS, tB, tTest, tIf, tAnd, tOr, tNot, tAndV, tOrV, tNotV, tUn, tCons, tNil, tCall, tCB, tBM, tBM0, tNoPart, tPart, tSl, tCont, tNever, tTup, tLst, gName, gNil, gCons, gTup, gSub, rI, rI0, rU, rEq, rNe, rIxL, rSlL, rSetL, rLn, rLs, rTs, rIn, rSet0, tSAdd, rSAdd, rSIn, rSNotIn, rRep, rCat, rAppend, rPop, rPopAt, iList, iRng1, iRng2, iEnum, gTup, tIsN, tNotN, tTru, tLstRg, tRg1, tRg2, L2.start, List.map_cons, List.map_nil, List.length_cons, List.length_nil, List.replicate, List.cons_append, List.nil_append, List.getElem?_cons_zero, List.getElem?_cons_succ, List.set_cons_zero, List.set_cons_succ, Option.some.injEq, exists_eq_left', V.int.injEq, V.ref.injEq, V.bl.injEq, List.cons.injEq, exists_and_left, exists_and_right, and_true, true_and, exists_eq_left, exists_eq, Nat.reduceAdd, Nat.reduceSub]
    refine ⟨fun σ H' => H' = H ∧ σ = [some (.ref t), none, none], ?_, fun σ H' hM => ?_⟩
    · simp only [cx_K, cx_w, wipe, Int.zero_add, Bool.false_eq_true, if_false, if_true, Bool.not_true, Bool.not_false, tSeq, tAsg, tOp, tVar, tC, tRet, tRetN, tNext, tDrop, tIfS, tB, tTest, tIf, tAnd, tOr, tNot, tAndV, tOrV, tNotV, tUn, tCons, tNil, tCall, tCB, tBM, tBM0, tNoPart, tPart, tSl, tCont, tNever, tTup, tLst, gName, gNil, gCons, gTup, gSub, rI, rI0, rU, rEq, rNe, rIxL, rSlL, rSetL, rLn, rLs, rTs, rIn, rSet0, tSAdd, rSAdd, rSIn, rSNotIn, rRep, rCat, rAppend, rPop, rPopAt, iList, iRng1, iRng2, iEnum, gTup, tIsN, tNotN, tTru, tLstRg, tRg1, tRg2, L2.start, List.map_cons, List.map_nil, List.length_cons, List.length_nil, List.replicate, List.cons_append, List.nil_append, List.getElem?_cons_zero, List.getElem?_cons_succ, List.set_cons_zero, List.set_cons_succ, Option.some.injEq, exists_eq_left', V.int.injEq, V.ref.injEq, V.bl.injEq, List.cons.injEq, exists_and_left, exists_and_right, and_true, true_and, exists_eq_left, exists_eq, Nat.reduceAdd, Nat.reduceSub]
      refine isi (.base (.lst TB.top)) (b := true) (by decide +kernel) ⟨true, rfl, iteF ⟨_, .inl (SqL.of TB.top), ?_⟩⟩
      rw [if_neg (by simp [TB.len]; omega)]
    · obtain ⟨rfl, rfl⟩ := hM
      refine ⟨.ref t, rfl, t, _, rfl, SqL.of TB.top, for_enum (K := K) (xs := as.map V.ref) (fun i σ H2 => ∃ y1 y2, σ = [some (.ref t), y1, y2] ∧ Same H' H2) ⟨none, none, rfl, Same.refl _⟩
        (fun i σ H2 _ h => ?_) (fun i x σ H2 T hx hT h => ?_) (fun σ H2 h => ?_)⟩
      · obtain ⟨_, _, _, e⟩ := h
        exact SqL.of (e _ _ TB.top)
      · obtain ⟨y1, y2, rfl, e⟩ := h
        rw [List.getElem?_map] at hx
        obtain ⟨a, ha, rfl⟩ := Option.map_eq_some_iff.mp hx
        have hi : i < rows.length := by
          have := (List.getElem?_eq_some_iff.mp ha).1
          rw [TB.len] at this; exact this
        have e2 : Same H' (upd H2 T (.tup [.int (i : Nat), .ref a])) := same_upd2 e (e.free hT)
        simp only [cx_K, cx_w, wipe, Int.zero_add, Bool.false_eq_true, if_false, if_true, Bool.not_true, Bool.not_false, tSeq, tAsg, tOp, tVar, tC, tRet, tRetN, tNext, tDrop, tIfS, tB, tTest, tIf, tAnd, tOr, tNot, tAndV, tOrV, tNotV, tUn, tCons, tNil, tCall, tCB, tBM, tBM0, tNoPart, tPart, tSl, tCont, tNever, tTup, tLst, gName, gNil, gCons, gTup, gSub, rI, rI0, rU, rEq, rNe, rIxL, rSlL, rSetL, rLn, rLs, rTs, rIn, rSet0, tSAdd, rSAdd, rSIn, rSNotIn, rRep, rCat, rAppend, rPop, rPopAt, iList, iRng1, iRng2, iEnum, gTup, tIsN, tNotN, tTru, tLstRg, tRg1, tRg2, L2.start, List.map_cons, List.map_nil, List.length_cons, List.length_nil, List.replicate, List.cons_append, List.nil_append, List.getElem?_cons_zero, List.getElem?_cons_succ, List.set_cons_zero, List.set_cons_succ, Option.some.injEq, exists_eq_left', V.int.injEq, V.ref.injEq, V.bl.injEq, List.cons.injEq, exists_and_left, exists_and_right, and_true, true_and, exists_eq_left, exists_eq, Nat.reduceAdd, Nat.reduceSub]
        refine ⟨_, SqT.of upd_same, rfl, _, _, rfl, _, _, rfl, rfl, _, .inl (SqL.of (e2 _ _ TB.top)), ?_⟩
        refine ⟨a, fn rows i, i, rows.length, by rw [List.length_map, TB.len], e2 _ _ (TB.row i a _ ha (fn_at hi)), g.nd i, fun x hx => (g.lt hx).2, by have := g.len i; omega, fun H3 e3 => ⟨true, rfl, iteF ⟨⟨_, rfl⟩, e2.trans e3⟩⟩⟩
      · obtain ⟨_, _, _, e⟩ := h
        exact q _ e
end
end K3

set_option Elab.async false
set_option linter.all false
set_option maxRecDepth 100000
set_option maxHeartbeats 4000000
namespace K3
open PySem PySem.Spec PyProof.Rows L2 LamX Bk
section
variable {P : Program} {w : World} {K : PySem.W.Frag} {mg : Str → Option Value} {base : Heap}

/-- what a dict of places tells -/
def PlaceD (kvs : List (L2.Key × V)) (r : List Nat) : Prop := ∀ x : Nat, valV kvs (Sum.inl (x : Int)) = if x ∈ r then some (nv (r.idxOf x)) else none
/-- the places of each one on each row -/
def PlacesAt (H : Hp) (p : Addr) (ds : List Addr) (rows : List (List Nat)) : Prop :=
  H p = some (.lst (ds.map V.ref)) ∧ ds.length = rows.length ∧ ∀ (i : Nat) (d : Addr), ds[i]? = some d → ∃ kvs, H d = some (.dK kvs) ∧ PlaceD kvs (fn rows i)
def sp_places_in (K : PySem.W.Frag) : Sp := fun vs H Q _ => ∃ (t : Addr) (as : List Addr) (rows : List (List Nat)), vs = [.ref t] ∧ Tbl H t as rows ∧ (∀ i, (fn rows i).Nodup) ∧ (∀ i, (fn rows i).length ≤ 100) ∧ rows.length ≤ 100 ∧
  ∀ H' p ds, Same H H' → PlacesAt H' p ds rows → Q (.ref p) H'
theorem place_step {r : List Nat} (hd : r.Nodup) {j z : Nat} (hz : r[j]? = some z) {kvs : List (L2.Key × V)} (h : ∀ x : Nat, valV kvs (Sum.inl (x : Int)) = if x ∈ r.take j then some (nv (r.idxOf x)) else none) :
    ∀ x : Nat, valV (putK kvs (Sum.inl (z : Int)) (nv j)) (Sum.inl (x : Int)) = if x ∈ r.take (j + 1) then some (nv (r.idxOf x)) else none := fun x => by
  rw [valV_put, h x]
  have et : r.take (j + 1) = r.take j ++ [z] := by rw [List.take_add_one, hz]; rfl
  obtain ⟨hj, ej⟩ := List.getElem?_eq_some_iff.mp hz
  by_cases e : x = z
  · subst e
    rw [if_pos rfl, if_pos (by rw [et]; simp)]
    rw [show r.idxOf x = j by rw [← ej]; exact hd.idxOf_getElem _ hj]
  · rw [if_neg (fun q => e (by have := Sum.inl.inj q; omega))]
    have : (x ∈ r.take (j + 1)) = (x ∈ r.take j) := by rw [et]; simp [e]
    simp only [this]
theorem ok_places_in (T : Txt K mg) : FnOk P w K mg base CX0 1 T.a_places_in T.fd_places_in ["rows"] (sp_places_in K) := by
  refine T.F_places_in.ok sc_places_in (fun vs H Q E h => ?_) (fun cdv A outer s H vs Q E hr h => ?_)
  · obtain ⟨t, as, rows, rfl, _⟩ := h
    rfl
  · obtain ⟨t, as, rows, rfl, TB, gnd, glen, hlen, q⟩ := h
    refine ⟨_, (pss_one (ps_ret (pe_lc (own := [("row", 3)]) rfl sc_places_in.nd (kpi_list (K := K) (pv 0)) (blkOk_by (own := [("row", 3)]) (N := ["rows", "place", "other", "row"]) (sc := (defScope s_places_in)) (by decide +kernel)) (fun _ _ _ _ _ => (pg_name (i := 3) sc_places_in.nd rfl (by first | exact .inl rfl | exact .inr rfl))) (fun _ _ _ _ _ => pts_nil) (fun _ _ _ _ _ => (pe_dc (own := [("place", 1), ("other", 2)]) rfl sc_places_in.nd (kpi_enum (K := K) (by rfl) T.m_enumerate (pa_cons (pv 3) pa_nil)) (blkOk_by (own := [("place", 1), ("other", 2)]) (N := ["rows", "place", "other", "row"]) (sc := (relS (lcS (retE s_places_in)) (defScope s_places_in))) (by decide +kernel)) (fun _ _ _ _ _ => (kpg_tup (K := K) (n := 2) rfl (pgs_cons (pg_name (i := 1) sc_places_in.nd rfl (by first | exact .inl rfl | exact .inr rfl)) (pgs_cons (pg_name (i := 2) sc_places_in.nd rfl (by first | exact .inl rfl | exact .inr rfl)) pgs_nil)))) (fun _ _ _ _ _ => pts_nil) (fun _ _ _ _ _ => (pv 2)) (fun _ _ _ _ _ => (pv 1))))))), ?_⟩
    refine ⟨_, rfl, t, rfl, ⟨_, SqL.of TB.top⟩, fun D hD => lc_list (K := K) (xs := as.map V.ref)
      (fun i H2 => Same H H2 ∧ ∃ ds, H2 D = some (.lst (ds.map V.ref)) ∧ ds.length = i ∧ ∀ (j : Nat) (d : Addr), ds[j]? = some d → ∃ kvs, H2 d = some (.dK kvs) ∧ PlaceD kvs (fn rows j))
      ⟨same_upd hD, [], upd_same, rfl, fun j d e => by simp at e⟩ (fun i H2 _ h => h.1.seq (SqL.of TB.top)) (fun i x H2 hx h => ?_) (fun H2 h => ?_)⟩
    · obtain ⟨e, ds, hds, hlen2, hall⟩ := h
      rw [List.getElem?_map] at hx
      obtain ⟨a, ha, rfl⟩ := Option.map_eq_some_iff.mp hx
      have hi : i < rows.length := by
        have := (List.getElem?_eq_some_iff.mp ha).1
        rw [TB.len] at this; exact this
      have hra : H2 a = some (.lst ((fn rows i).map nv)) := e _ _ (TB.row i a _ ha (fn_at hi))
      refine ⟨rfl, ?_⟩
      refine yesI ⟨_, rfl, a, _, rfl, SqL.of hra, fun d hd => dc_enum (K := K) (xs := (fn rows i).map nv)
        (fun j H3 => Same H2 H3 ∧ ∃ kvs, H3 d = some (.dK kvs) ∧ kvs.length ≤ j ∧ ∀ x : Nat, valV kvs (Sum.inl (x : Int)) = if x ∈ (fn rows i).take j then some (nv ((fn rows i).idxOf x)) else none)
        ⟨same_upd hd, [], upd_same, Nat.le_refl _, fun x => by simp [valV_nil]⟩ (fun j H3 _ h => h.1.seq (SqL.of hra)) (fun j x H3 T3 hx hT h => ?_) (fun H3 h => ?_)⟩
      · obtain ⟨e3, kvs, hk, hkl, hv⟩ := h
        rw [List.getElem?_map] at hx
        obtain ⟨z, hz, rfl⟩ := Option.map_eq_some_iff.mp hx
        have hj := (List.getElem?_eq_some_iff.mp hz).1
        refine ⟨T3, _, rfl, SqT.of upd_same, rfl, _, _, rfl, _, _, rfl, rfl, rfl, ?_⟩
        refine yesI ⟨_, rfl, _, rfl, kvs, Sum.inl (z : Int), rfl, ?_, ?_, ?_⟩
        · rw [upd_ne (ne_of_none hk hT)]; exact hk
        · exact small (by have := glen i; omega)
        · refine ⟨fun b o ho => ?_, _, upd_same, ?_, ?_⟩
          · rw [upd_ne (ne_of_none ho hd), upd_ne (ne_of_none (e3 _ _ ho) hT)]
            exact e3 _ _ ho
          · exact Nat.le_trans (length_putK _ _ _) (by omega)
          · exact place_step (gnd i) hz hv
      · obtain ⟨e3, kvs, hk, hkl, hv⟩ := h
        have nDd : D ≠ d := ne_of_none hds hd
        refine ⟨ds.map V.ref, e3 _ _ hds, ?_, fun b o ho => ?_, ds ++ [d], ?_, ?_, fun j d' hj => ?_⟩
        · rw [List.length_map, hlen2]; exact small (by omega)
        · rw [upd_ne (ne_of_none ho hD)]
          exact e3 _ _ (e _ _ ho)
        · rw [upd_same]; simp
        · simp [hlen2]
        · by_cases hlt : j < ds.length
          · rw [List.getElem?_append_left hlt] at hj
            obtain ⟨kv, h1, h2⟩ := hall j d' hj
            refine ⟨kv, ?_, h2⟩
            rw [upd_ne (ne_of (e3 _ _ h1) (e3 _ _ hds) (by intro z; cases z))]
            exact e3 _ _ h1
          · rw [List.getElem?_append_right (by omega)] at hj
            have hj0 : j - ds.length = 0 := by
              have := (List.getElem?_eq_some_iff.mp hj).1
              simp at this; omega
            rw [hj0] at hj
            have : d = d' := by simpa using hj
            subst this
            refine ⟨kvs, by rw [upd_ne (Ne.symm nDd)]; exact hk, fun x => ?_⟩
            have : j = i := by omega
            subst this
            have := hv x
            rw [List.length_map, List.take_length] at this
            exact this
    · obtain ⟨e, ds, hds, hlen2, hall⟩ := h
      refine q H2 D ds e ⟨hds, ?_, hall⟩
      rw [hlen2, List.length_map, TB.len]
end
end K3

set_option Elab.async false
set_option linter.all false
set_option maxRecDepth 100000
set_option maxHeartbeats 4000000
namespace K3
open PySem PySem.Spec PyProof.Rows L2 LamX Bk
section
variable {P : Program} {w : World} {K : PySem.W.Frag} {mg : Str → Option Value} {base : Heap}

def sp_mutual (K : PySem.W.Frag) : Sp := fun vs H Q _ => ∃ (t : Addr) (as : List Addr) (rows : List (List Nat)), vs = [.ref t] ∧ Tbl H t as rows ∧ GL rows ∧ rows.length ≤ 60 ∧
  ∀ H' p as', Same H H' → H p = none → (∀ a ∈ as', H a = none) → Tbl H' p as' (mutL rows) → Q (.ref p) H'
theorem ok_mutual (T : Txt K mg) : FnOk P w K mg base CX0 4 T.a_mutual T.fd_mutual ["lists"] (sp_mutual K) := by
  have G_check_lists : FnOk P w K mg base CX0 3 T.a_check_lists T.fd_check_lists ["lists"] (sp_check_lists K) := ok_check_lists T
  have G_places_in : FnOk P w K mg base CX0 1 T.a_places_in T.fd_places_in ["rows"] (sp_places_in K) := ok_places_in T
  refine T.F_mutual.ok sc_mutual (fun vs H Q E h => ?_) (fun cdv A outer s H vs Q E hr h => ?_)
  · obtain ⟨t, as, rows, rfl, _⟩ := h
    rfl
  · obtain ⟨t, as, rows, rfl, TB, g, hlen, q⟩ := h
    refine ⟨_, (pss_cons (ps_expr (pe_call G_check_lists (hr.mono (by decide)) (by rfl) T.g_check_lists T.F_check_lists.kp T.b_check_lists .nil pass0 (pa_cons (pv 0) pa_nil)))
      (pss_cons (ps_set (i := 1) sc_mutual.nd rfl (.inr rfl) (pe_call G_places_in (hr.mono (by decide)) (by rfl) T.g_places_in T.F_places_in.kp T.b_places_in .nil pass0 (pa_cons (pv 0) pa_nil)))
      (pss_one (ps_ret (pe_lc (own := [("person", 3), ("row", 4)]) rfl sc_mutual.nd (kpi_enum (K := K) (by rfl) T.m_enumerate (pa_cons (pv 0) pa_nil)) (blkOk_by (own := [("person", 3), ("row", 4)]) (N := ["lists", "places", "other", "person", "row"]) (sc := (defScope s_mutual)) (by decide +kernel)) (fun _ _ _ _ _ => (kpg_tup (K := K) (n := 2) rfl (pgs_cons (pg_name (i := 3) sc_mutual.nd rfl (by first | exact .inl rfl | exact .inr rfl)) (pgs_cons (pg_name (i := 4) sc_mutual.nd rfl (by first | exact .inl rfl | exact .inr rfl)) pgs_nil)))) (fun _ _ _ _ _ => pts_nil) (fun _ _ _ _ _ => (pe_lc (own := [("other", 2)]) rfl sc_mutual.nd (kpi_list (K := K) (pv 4)) (blkOk_by (own := [("other", 2)]) (N := ["lists", "places", "other", "person", "row"]) (sc := (relS (lcS (retE s_mutual)) (defScope s_mutual))) (by decide +kernel)) (fun _ _ _ _ _ => (pg_name (i := 2) sc_mutual.nd rfl (by first | exact .inl rfl | exact .inr rfl))) (fun _ _ _ _ _ => (pts_one (pt_cmp (pc_din (hu_of hr) (pv 3) (pe_ix (kix_list (K := K)) (pv 1) (pv 2) (fun _ _ => rfl)))))) (fun _ _ _ _ _ => (pv 2))))))))), ?_⟩
    refine ⟨_, rfl, t, as, rows, rfl, TB, g, hlen, fun H1 e1 => ?_⟩
    refine ⟨_, rfl, t, as, rows, rfl, TB.same e1, g.nd, fun i => by have := g.len i; omega, by omega, fun H2 pl ds e2 hP => ?_⟩
    have e : Same H H2 := e1.trans e2
    obtain ⟨hp1, hp2, hp3⟩ := hP
    refine ⟨_, rfl, t, _, rfl, SqL.of (e _ _ TB.top), fun D hD => lc_enum (K := K) (xs := as.map V.ref)
      (fun i H3 => Same H2 H3 ∧ ∃ as', (∀ a ∈ as', H a = none) ∧ Tbl H3 D as' ((mutL rows).take i))
      ⟨same_upd hD, [], (fun a ha => by simp at ha), by rw [List.take_zero]; exact Tbl.nil upd_same⟩ (fun i H3 _ h => h.1.seq (SqL.of (e _ _ TB.top))) (fun i x H3 T3 hx hT h => ?_) (fun H3 h => ?_)⟩
    · obtain ⟨e3, as', hn, TF⟩ := h
      rw [List.getElem?_map] at hx
      obtain ⟨a, ha, rfl⟩ := Option.map_eq_some_iff.mp hx
      have hi : i < rows.length := by
        have := (List.getElem?_eq_some_iff.mp ha).1
        rw [TB.len] at this; exact this
      have e4 : Same H2 (upd H3 T3 (.tup [.int (i : Nat), .ref a])) := same_upd2 e3 (e3.free hT)
      have hra : upd H3 T3 (.tup [.int (i : Nat), .ref a]) a = some (.lst ((fn rows i).map nv)) := e4 _ _ (e _ _ (TB.row i a _ ha (fn_at hi)))
      refine ⟨T3, _, rfl, SqT.of upd_same, rfl, _, _, rfl, _, _, rfl, rfl, rfl, ?_⟩
      refine yesI ⟨_, rfl, a, rfl, ⟨_, SqL.of hra⟩, fun D2 hD2 => lc_keep (r := fn rows i) (fun o => decide (i ∈ fn rows o)) hD2 (SqL.of hra) (by simp [wipe_length, L2.start]) (by have := g.len i; omega) (fun x hx H5 Qt e5 hq => ?_) ?_⟩
      · have hxl := (g.lt hx).2.1
        have hxd : x < ds.length := by rw [hp2]; exact hxl
        obtain ⟨kvs, hk, hpd⟩ := hp3 x ds[x] (List.getElem?_eq_getElem hxd)
        refine ⟨_, rfl, _, rfl, _, rfl, pl, _, _, .ref ds[x], rfl, rfl, SqL.of (e5 _ _ (e4 _ _ hp1)), ?_, ds[x], _, rfl, DGet.k (k := Sum.inl (i : Int)) (e5 _ _ (e4 _ _ hk)), _, rfl, ?_⟩
        · exact atI_nat (by rw [List.getElem?_map, List.getElem?_eq_getElem hxd]; rfl)
        · rw [hpd i]
          by_cases hm : i ∈ fn rows x
          · rw [if_pos hm]
            rw [decide_eq_true hm] at hq
            exact hq
          · rw [if_neg hm]
            rw [decide_eq_false hm] at hq
            exact hq
      · have TF4 : Tbl (upd H3 T3 (.tup [.int (i : Nat), .ref a])) D as' ((mutL rows).take i) := TF.upd_new hT
        have nD : D ≠ D2 := ne_of_none TF4.top hD2
        refine ⟨as'.map V.ref, by rw [upd_ne nD]; exact TF4.top, ?_, ?_, as' ++ [D2], fun b hb => ?_, ?_⟩
        · rw [List.length_map, TF.len]
          exact small (by rw [List.length_take]; omega)
        · intro b o ho
          rw [upd_ne (ne_of_none ho hD), upd_ne (ne_of_none (e4 _ _ ho) hD2)]
          exact e4 b o ho
        · rcases List.mem_append.mp hb with z | z
          · exact hn b z
          · have : b = D2 := by simpa using z
            subst this
            exact e.free (e4.free hD2)
        · have et : (mutL rows).take (i + 1) = (mutL rows).take i ++ [mutF rows i] := by rw [List.take_add_one, mutL_at hi]; rfl
          rw [et]
          have := (TF4.upd_new (o := .lst ((mutF rows i).map nv)) hD2).snoc (a := D2) (r := mutF rows i) upd_same (Ne.symm nD) (TF4.fresh hD2).1
          rw [List.map_append] at this
          exact this
    · obtain ⟨e3, as', hn, TF⟩ := h
      rw [List.length_map, TB.len, List.take_of_length_le (by rw [mutL_len]; exact Nat.le_refl _)] at TF
      exact q H3 D as' (e.trans e3) (e.free hD) hn TF
end
end K3

set_option Elab.async false
set_option linter.all false
set_option maxRecDepth 100000
set_option maxHeartbeats 4000000
namespace K3
open PySem PySem.Spec PyProof.Rows L2 LamX Bk
section
variable {P : Program} {w : World} {K : PySem.W.Frag} {mg : Str → Option Value} {base : Heap}

def sp_cut (K : PySem.W.Frag) : Sp := fun vs H Q _ => ∃ (t : Addr) (as : List Addr) (n b p : Nat) (C : Nat → List Nat), vs = [.ref t, nv b, nv p] ∧ Tbl H t as (mkL n C) ∧ b < n ∧ p ∈ C b ∧ (∀ i, (C i).Nodup) ∧ (∀ q ∈ C b, b ∈ C q ∧ q < n ∧ q ≠ b) ∧ (C b).length ≤ 100 ∧
  ∀ H', Tbl H' t as (mkL n (cut C b p)) → (∀ x o, x ∉ as → H x = some o → H' x = some o) → Q .non H'
theorem ok_cut (T : Txt K mg) : FnOk P w K mg base CX0 1 T.a_cut_behind T.fd_cut_behind ["rows", "person", "kept"] (sp_cut K) := by
  refine T.F_cut_behind.ok sc_cut_behind (fun vs H Q E h => ?_) (fun cdv A outer s H vs Q E hr h => ?_)
  · obtain ⟨t, as, n, b, p, C, rfl, _⟩ := h
    rfl
  · obtain ⟨t, as, n, b, p, C, rfl, TB, hb, hp, nd, hm, hlen, q⟩ := h
    refine ⟨_, (pss_cons (ps_set (i := 3) sc_cut_behind.nd rfl (.inl rfl) (pe_ix (kix_list (K := K)) (pv 0) (pv 1) (fun _ _ => rfl)))
      (pss_cons (ps_set (i := 4) sc_cut_behind.nd rfl (.inl rfl) (pe_op op_add (pe_bm PySem.F.plainAttrs_list PySem.F.slot_list_index PySem.F.type_list_index mt_index (pv 3) (pa_cons (pv 2) pa_nil)) pe_int))
      (pss_cons (ps_set (i := 5) sc_cut_behind.nd rfl (.inl rfl) (pe_slice (ksl_list (K := K)) (pv 3) (po_some (pv 4)) po_none))
      (C8.pss_cut (ps_delTail (pv 3) (pv 4))
      (pss_one (ps_for PassesOwn.never rfl (kpi_list (K := K) (pv 5)) (pg_name (i := 6) sc_cut_behind.nd rfl (.inl rfl)) (pss_one (ps_expr (pe_bm PySem.F.plainAttrs_list PySem.F.slot_list_remove PySem.F.type_list_remove mt_remove (pe_ix (kix_list (K := K)) (pv 0) (pv 6) (fun _ _ => rfl)) (pa_cons (pv 1) pa_nil)))))))))), ?_⟩
    obtain ⟨a, ha, hra, hat, ham⟩ := TB.at (show b < (mkL n C).length by rw [mkL_len]; exact hb)
    rw [fn_mkL hb] at hra
    have hk := idxOf_lt_of_mem hp
    simp only [cx_K, cx_w, wipe, Int.zero_add, Bool.false_eq_true, if_false, if_true, Bool.not_true, Bool.not_false, tSeq, tAsg, tOp, tVar, tC, tRet, tRetN, tNext, tDrop, tIfS, tB, tTest, tIf, tAnd, tOr, tNot, tAndV, tOrV, tNotV, tUn, tCons, tNil, tCall, tCB, tBM, tBM0, tNoPart, tPart, tSl, tCont, tNever, tTup, tLst, gName, gNil, gCons, gTup, gSub, rI, rI0, rU, rEq, rNe, rIxL, rSlL, rSetL, rLn, rLs, rTs, rIn, rSet0, tSAdd, rSAdd, rSIn, rSNotIn, rRep, rCat, rAppend, rPop, rPopAt, iList, iRng1, iRng2, iEnum, gTup, tIsN, tNotN, tTru, tLstRg, tRg1, tRg2, L2.start, List.map_cons, List.map_nil, List.length_cons, List.length_nil, List.replicate, List.cons_append, List.nil_append, List.getElem?_cons_zero, List.getElem?_cons_succ, List.set_cons_zero, List.set_cons_succ, Option.some.injEq, exists_eq_left', V.int.injEq, V.ref.injEq, V.bl.injEq, List.cons.injEq, exists_and_left, exists_and_right, and_true, true_and, exists_eq_left, exists_eq, Nat.reduceAdd, Nat.reduceSub]
    refine ⟨_, SqL.of TB.top, _, TB.atI ha, .inl ⟨rfl, _, SqL.of hra⟩, index_nv (SqL.of hra) hp ⟨_, rfl, ?_⟩⟩
    refine ⟨a, rfl, _, SqL.of hra, fun g hg => ?_⟩
    have ek : ((C b).idxOf p : Int) + 1 = (((C b).idxOf p + 1 : Nat) : Int) := rfl
    rw [ek, cutV_drop, ← List.map_drop]
    have nga : a ≠ g := ne_of_none hra hg
    have ngt : t ≠ g := ne_of_none TB.top hg
    refine ⟨fun σ H' => σ = [some (.ref t), some (nv b), some (nv p), some (.ref a), some (nv ((C b).idxOf p + 1)), some (.ref g), none] ∧ H' = upd (upd H g (.lst (((C b).drop ((C b).idxOf p + 1)).map nv))) a (.lst (((C b).take ((C b).idxOf p + 1)).map nv)), ?_, fun σ H' hM => ?_⟩
    · refine ⟨.ref a, rfl, nv ((C b).idxOf p + 1), rfl, a, (C b).map nv, (C b).idxOf p + 1, rfl, rfl, by rw [upd_ne nga]; exact hra, by rw [List.length_map]; omega, rfl, ?_⟩
      rw [← List.map_take]
    obtain ⟨rfl, rfl⟩ := hM
    have TB1 : Tbl (upd H g (.lst (((C b).drop ((C b).idxOf p + 1)).map nv))) t as (mkL n C) := TB.upd_new hg
    have TB2 := TB1.write ha ((C b).take ((C b).idxOf p + 1))
    rw [mkL_set] at TB2
    have hga : g ∉ as := (TB.fresh hg).1
    -- the rows behind i turns
    refine ⟨_, rfl, g, rfl, ⟨_, SqL.of (by rw [upd_ne (Ne.symm nga), upd_same])⟩, for_list (K := K) (xs := ((C b).drop ((C b).idxOf p + 1)).map nv)
      (fun i σ H' => ∃ y, σ = [some (.ref t), some (nv b), some (nv p), some (.ref a), some (nv ((C b).idxOf p + 1)), some (.ref g), y] ∧ H' g = some (.lst (((C b).drop ((C b).idxOf p + 1)).map nv)) ∧
        Tbl H' t as (mkL n fun j => if j = b then (C b).take ((C b).idxOf p + 1) else if j ∈ ((C b).drop ((C b).idxOf p + 1)).take i then (C j).erase b else C j) ∧ (∀ x o, x ∉ as → H x = some o → H' x = some o))
      ⟨none, rfl, by rw [upd_ne (Ne.symm nga), upd_same], by simpa using TB2, fun x o hx ho => ?_⟩ (fun i σ H' _ h => ?_) (fun i x σ H' hx h => ?_) (fun σ H' h => ?_)⟩
    · rw [upd_ne (fun e => hx (by rw [e]; exact ham)), upd_ne (ne_of_none ho hg)]
      exact ho
    · obtain ⟨_, _, e, _⟩ := h
      exact SqL.of e
    · obtain ⟨y, rfl, hgl, TC, hfr⟩ := h
      rw [List.getElem?_map] at hx
      obtain ⟨z, hz, rfl⟩ := Option.map_eq_some_iff.mp hx
      obtain ⟨hi, ez⟩ := List.getElem?_eq_some_iff.mp hz
      have hzd : z ∈ (C b).drop ((C b).idxOf p + 1) := List.mem_of_getElem? hz
      have hzb := List.mem_of_mem_drop hzd
      obtain ⟨m1, m2, m3⟩ := hm z hzb
      have ndd : ((C b).drop ((C b).idxOf p + 1)).Nodup := (nd b).sublist (List.drop_sublist _ _)
      have hnew : z ∉ ((C b).drop ((C b).idxOf p + 1)).take i := fun hmm => by
        obtain ⟨j, hj, ej⟩ := List.getElem_of_mem hmm
        rw [List.getElem_take] at ej
        rw [List.length_take] at hj
        have := (List.getElem_inj (h₁ := hi) (h₀ := (by omega : j < _)) ndd).mp (by rw [ej, ez])
        omega
      obtain ⟨c, hc, hrc, hct, hcm⟩ := TC.at (show z < (mkL n _).length by rw [mkL_len]; exact m2)
      rw [fn_mkL m2, if_neg m3, if_neg hnew] at hrc
      simp only [cx_K, cx_w, wipe, Int.zero_add, Bool.false_eq_true, if_false, if_true, Bool.not_true, Bool.not_false, tSeq, tAsg, tOp, tVar, tC, tRet, tRetN, tNext, tDrop, tIfS, tB, tTest, tIf, tAnd, tOr, tNot, tAndV, tOrV, tNotV, tUn, tCons, tNil, tCall, tCB, tBM, tBM0, tNoPart, tPart, tSl, tCont, tNever, tTup, tLst, gName, gNil, gCons, gTup, gSub, rI, rI0, rU, rEq, rNe, rIxL, rSlL, rSetL, rLn, rLs, rTs, rIn, rSet0, tSAdd, rSAdd, rSIn, rSNotIn, rRep, rCat, rAppend, rPop, rPopAt, iList, iRng1, iRng2, iEnum, gTup, tIsN, tNotN, tTru, tLstRg, tRg1, tRg2, L2.start, List.map_cons, List.map_nil, List.length_cons, List.length_nil, List.replicate, List.cons_append, List.nil_append, List.getElem?_cons_zero, List.getElem?_cons_succ, List.set_cons_zero, List.set_cons_succ, Option.some.injEq, exists_eq_left', V.int.injEq, V.ref.injEq, V.bl.injEq, List.cons.injEq, exists_and_left, exists_and_right, and_true, true_and, exists_eq_left, exists_eq, Nat.reduceAdd, Nat.reduceSub]
      refine ⟨_, SqL.of TC.top, _, TC.atI hc, .inl ⟨rfl, _, SqL.of hrc⟩, ?_⟩
      refine remove_nv hrc m1 ⟨?_, ?_, fun x o hx ho => ?_⟩
      · rw [upd_ne (fun e => hga (by rw [e]; exact hcm))]; exact hgl
      · have := TC.write hc ((C z).erase b)
        rw [mkL_set] at this
        have e : mkL n (fun j => if j = z then (C z).erase b else if j = b then (C b).take ((C b).idxOf p + 1) else if j ∈ ((C b).drop ((C b).idxOf p + 1)).take i then (C j).erase b else C j) =
            mkL n (fun j => if j = b then (C b).take ((C b).idxOf p + 1) else if j ∈ ((C b).drop ((C b).idxOf p + 1)).take (i + 1) then (C j).erase b else C j) := mkL_congr fun j _ => by
          have et : ((C b).drop ((C b).idxOf p + 1)).take (i + 1) = ((C b).drop ((C b).idxOf p + 1)).take i ++ [z] := by rw [List.take_add_one, hz]; rfl
          rw [et]
          by_cases e1 : j = z
          · subst e1
            rw [if_pos rfl, if_neg m3, if_pos (by simp)]
          · have : (j ∈ ((C b).drop ((C b).idxOf p + 1)).take i ++ [z]) = (j ∈ ((C b).drop ((C b).idxOf p + 1)).take i) := by simp [e1]
            rw [if_neg e1]
            simp only [this]
        rw [← e]
        exact this
      · rw [upd_ne (fun e => hx (by rw [e]; exact hcm))]
        exact hfr x o hx ho
    · obtain ⟨y, rfl, hgl, TC, hfr⟩ := h
      refine q H' ?_ hfr
      rw [List.length_map, List.take_length] at TC
      exact TC
end
end K3

set_option Elab.async false
set_option linter.all false
set_option maxRecDepth 100000
set_option maxHeartbeats 4000000
namespace K3
open PySem PySem.Spec PyProof.Rows L2 LamX Bk
section
variable {P : Program} {w : World} {K : PySem.W.Frag} {mg : Str → Option Value} {base : Heap}

def sp_offered (K : PySem.W.Frag) : Sp := fun vs H Q _ => ∃ (t : Addr) (as : List Addr) (rows : List (List Nat)), vs = [.ref t] ∧ Tbl H t as rows ∧ GL rows ∧ rows.length ≤ 60 ∧
  ∀ H' p as' C, Same H H' → H p = none → (∀ a ∈ as', H a = none) → Tbl H' p as' (mkL rows.length C) → Off (fn (mutL rows)) C → Q (.ref p) H'
/-- the loop's word -/
structure OW (R : Nat → List Nat) (n : Nat) (H0 : Hp) (t T : Addr) (as' : List Addr) (hA wA : Addr) (m : Nat) (σ : L2.St) (H : Hp) (C : Nat → List Nat) (h : Nat → Option Nat) (ws : List Nat) : Prop where
  σ : ∃ y1 y2, σ = [some (.ref t), some (.ref T), some (.ref hA), some (.ref wA), y1, y2]
  tb : Tbl H T as' (mkL n C)
  hh : H hA = some (.lst (hL n h))
  hw : H wA = some (.lst (ws.map nv))
  st : Stt R C h ws
  fr : Same H0 H
  m : m = total n C + ws.length
  lt : ∀ q ∈ ws, q < n
theorem ok_offered (T : Txt K mg) : FnOk P w K mg base CX0 5 T.a_offered T.fd_offered ["lists"] (sp_offered K) := by
  have G_mutual : FnOk P w K mg base CX0 4 T.a_mutual T.fd_mutual ["lists"] (sp_mutual K) := ok_mutual T
  have G_cut_behind : FnOk P w K mg base CX0 1 T.a_cut_behind T.fd_cut_behind ["rows", "person", "kept"] (sp_cut K) := ok_cut T
  refine T.F_offered.ok sc_offered (fun vs H Q E h => ?_) (fun cdv A outer s H vs Q E hr h => ?_)
  · obtain ⟨t, as, rows, rfl, _⟩ := h
    rfl
  · obtain ⟨t, as, rows, rfl, TB, g, hlen, q⟩ := h
    refine ⟨_, (pss_cons (ps_set (i := 1) sc_offered.nd rfl (.inl rfl) (pe_call G_mutual (hr.mono (by decide)) (by rfl) T.g_mutual T.F_mutual.kp T.b_mutual .nil pass0 (pa_cons (pv 0) pa_nil)))
      (pss_cons (ps_set (i := 2) sc_offered.nd rfl (.inl rfl) (pe_op op_rep (pe_lst (pa_cons pe_non pa_nil)) (pe_callB (klen (K := K)) (by rfl) T.m_len (by decide +kernel) (pa_cons (pv 1) pa_nil))))
      (C8.pss_cut (ps_set (i := 3) sc_offered.nd rfl (.inl rfl) (pe_listRg rfl (by rfl) T.m_list (prg_1 (by rfl) T.m_range (pe_callB (klen (K := K)) (by rfl) T.m_len (by decide +kernel) (pa_cons (pv 1) pa_nil)))))
      (C8.pss_cut (ps_while PassesOwn.never (kpt_tru (K := K) (pv 3)) (pss_cons (ps_set (i := 4) sc_offered.nd rfl (.inl rfl) (pe_bm0 PySem.F.plainAttrs_list PySem.F.slot_list_pop PySem.F.type_list_pop mt_pop (pv 3)))
      (pss_cons (ps_if (pt_not (kpt_tru (K := K) (pe_ix (kix_list (K := K)) (pv 1) (pv 4) (fun _ _ => rfl)))) (pss_one ps_continue) pss_nil)
      (pss_cons (ps_set (i := 5) sc_offered.nd rfl (.inl rfl) (pe_ix (kix_list (K := K)) (pe_ix (kix_list (K := K)) (pv 1) (pv 4) (fun _ _ => rfl)) pe_int (fun _ _ => rfl)))
      (pss_cons (ps_if (pt_cmp (pc_notN (pe_ix (kix_list (K := K)) (pv 2) (pv 5) (fun _ _ => rfl)))) (pss_one (ps_expr (pe_bm PySem.F.plainAttrs_list PySem.F.slot_list_append PySem.F.type_list_append mt_append (pv 3) (pa_cons (pe_ix (kix_list (K := K)) (pv 2) (pv 5) (fun _ _ => rfl)) pa_nil)))) pss_nil)
      (pss_cons (ps_asg (pv 4) (pg_sub (pv 2) (pv 5) set_list))
      (pss_one (ps_expr (pe_call G_cut_behind (hr.mono (by decide)) (by rfl) T.g_cut_behind T.F_cut_behind.kp T.b_cut_behind .nil pass0 (pa_cons (pv 1) (pa_cons (pv 5) (pa_cons (pv 4) pa_nil))))))))))))
      (pss_one (ps_ret (pv 1))))))), ?_⟩
    have L := lists_mut g
    refine ⟨_, rfl, t, as, rows, rfl, TB, g, hlen, fun H1 p as' e1 hp has TP => ?_⟩
    rw [mutL_mkL] at TP
    generalize hn : rows.length = n at *
    simp only [cx_K, cx_w, wipe, Int.zero_add, Bool.false_eq_true, if_false, if_true, Bool.not_true, Bool.not_false, tSeq, tAsg, tOp, tVar, tC, tRet, tRetN, tNext, tDrop, tIfS, tB, tTest, tIf, tAnd, tOr, tNot, tAndV, tOrV, tNotV, tUn, tCons, tNil, tCall, tCB, tBM, tBM0, tNoPart, tPart, tSl, tCont, tNever, tTup, tLst, gName, gNil, gCons, gTup, gSub, rI, rI0, rU, rEq, rNe, rIxL, rSlL, rSetL, rLn, rLs, rTs, rIn, rSet0, tSAdd, rSAdd, rSIn, rSNotIn, rRep, rCat, rAppend, rPop, rPopAt, iList, iRng1, iRng2, iEnum, gTup, tIsN, tNotN, tTru, tLstRg, tRg1, tRg2, L2.start, List.map_cons, List.map_nil, List.length_cons, List.length_nil, List.replicate, List.cons_append, List.nil_append, List.getElem?_cons_zero, List.getElem?_cons_succ, List.set_cons_zero, List.set_cons_succ, Option.some.injEq, exists_eq_left', V.int.injEq, V.ref.injEq, V.bl.injEq, List.cons.injEq, exists_and_left, exists_and_right, and_true, true_and, exists_eq_left, exists_eq, Nat.reduceAdd, Nat.reduceSub]
    refine ⟨by decide, fun l hl => ?_⟩
    have TP1 : Tbl (upd H1 l (.lst [.non])) p as' (mkL n (mutF rows)) := TP.upd_new hl
    refine ⟨_, .inl (SqL.of TP1.top), _, upd_same, ?_⟩
    rw [List.length_map, TP.len, mkL_len]
    refine ⟨by omega, by omega, by simp [sizeLine_eq]; omega, fun hA hhA => ?_⟩
    rw [Int.toNat_natCast, hL_none]
    have TP2 := TP1.upd_new (o := .lst (hL n fun _ => none)) hhA
    refine ⟨fun σ H2 => ∃ wA, upd (upd H1 l (.lst [.non])) hA (.lst (hL n fun _ => none)) wA = none ∧ H2 = upd (upd (upd H1 l (.lst [.non])) hA (.lst (hL n fun _ => none))) wA (.lst ((List.range n).map nv)) ∧ σ = [some (.ref t), some (.ref p), some (.ref hA), some (.ref wA), none, none], ?_, fun σ H2 hM => ?_⟩
    · simp only [cx_K, cx_w, wipe, Int.zero_add, Bool.false_eq_true, if_false, if_true, Bool.not_true, Bool.not_false, tSeq, tAsg, tOp, tVar, tC, tRet, tRetN, tNext, tDrop, tIfS, tB, tTest, tIf, tAnd, tOr, tNot, tAndV, tOrV, tNotV, tUn, tCons, tNil, tCall, tCB, tBM, tBM0, tNoPart, tPart, tSl, tCont, tNever, tTup, tLst, gName, gNil, gCons, gTup, gSub, rI, rI0, rU, rEq, rNe, rIxL, rSlL, rSetL, rLn, rLs, rTs, rIn, rSet0, tSAdd, rSAdd, rSIn, rSNotIn, rRep, rCat, rAppend, rPop, rPopAt, iList, iRng1, iRng2, iEnum, gTup, tIsN, tNotN, tTru, tLstRg, tRg1, tRg2, L2.start, List.map_cons, List.map_nil, List.length_cons, List.length_nil, List.replicate, List.cons_append, List.nil_append, List.getElem?_cons_zero, List.getElem?_cons_succ, List.set_cons_zero, List.set_cons_succ, Option.some.injEq, exists_eq_left', V.int.injEq, V.ref.injEq, V.bl.injEq, List.cons.injEq, exists_and_left, exists_and_right, and_true, true_and, exists_eq_left, exists_eq, Nat.reduceAdd, Nat.reduceSub]
      refine ⟨_, .inl (SqL.of TP2.top), ?_, fun wA hwA => ⟨wA, hwA, ?_, rfl⟩⟩
      · rw [List.length_map, TP.len, mkL_len]; exact ⟨by omega, by omega, by omega, by omega, by omega⟩
      · rw [List.length_map, TP.len, mkL_len, rgV_nv]
    obtain ⟨wA, hwA, rfl, rfl⟩ := hM
    have s1 : Same H1 (upd H1 l (.lst [.non])) := same_upd hl
    have s2 : Same H1 (upd (upd H1 l (.lst [.non])) hA (.lst (hL n fun _ => none))) := same_upd2 s1 (s1.free hhA)
    have s3 : Same H1 (upd (upd (upd H1 l (.lst [.non])) hA (.lst (hL n fun _ => none))) wA (.lst ((List.range n).map nv))) := same_upd2 s2 (s2.free hwA)
    -- the places of the four things
    have fA : hA ∉ as' ∧ hA ≠ p := TP1.fresh hhA
    have fW : wA ∉ as' ∧ wA ≠ p := TP2.fresh hwA
    have nWA : wA ≠ hA := fun e => by rw [e, upd_same] at hwA; cases hwA
    have hR : fn (mutL rows) = mutF rows := funext fun i => fn_mutL rows i
    have Rlt : ∀ i x, x ∈ fn (mutL rows) i → i < n ∧ x < n := fun i x hx => by rw [← hn]; exact mut_lt g hx
    have out0 : ∀ i, n ≤ i → fn (mutL rows) i = [] := fun i hi => by
      cases hc : fn (mutL rows) i with
      | nil => rfl
      | cons x r => have := (Rlt i x (by rw [hc]; simp)).1; omega
    have H0l : H l = none := e1.free hl
    have H0A : H hA = none := e1.free (s1.free hhA)
    have H0W : H wA = none := e1.free (s2.free hwA)
    refine ⟨fun σ H3 => ∃ C, σ[1]? = some (some (.ref p)) ∧ Tbl H3 p as' (mkL n C) ∧ Off (fn (mutL rows)) C ∧ Same H H3, ?_, fun σ H3 hM => ?_⟩
    · refine ⟨fun m σ H3 => ∃ C h ws, OW (fn (mutL rows)) n H t p as' hA wA m σ H3 C h ws, ⟨total n (mutF rows) + (List.range n).length, mutF rows, fun _ => none, List.range n, ?_⟩, fun m σ H3 hW => ?_⟩
      · refine ⟨⟨none, none, rfl⟩, TP2.upd_new hwA, by rw [upd_ne (Ne.symm nWA), upd_same], upd_same, ?_, e1.trans s3, rfl, fun q hq => List.mem_range.mp hq⟩
        rw [hR]
        have := Stt.start (R := mutF rows) (hR ▸ L) (W := List.range n) List.nodup_range fun q hq => List.mem_range.mpr (Nat.lt_of_not_le fun hle => hq (by rw [← hR]; exact out0 q hle))
        exact this
      · obtain ⟨C, h, ws, OW1⟩ := hW
        obtain ⟨⟨y1, y2, rfl⟩, tb, hh, hw, st, fr, rfl, hlt⟩ := OW1
        refine ⟨_, rfl, _, .inl ⟨_, SqL.of hw, rfl⟩, ?_⟩
        have hsplit : ws = [] ∨ ∃ init x, ws = init ++ [x] := by
          rcases List.eq_nil_or_concat ws with e | ⟨i, x, e⟩
          · exact .inl e
          · exact .inr ⟨i, x, by simpa using e⟩
        rcases hsplit with rfl | ⟨init, x, rfl⟩
        · refine iteF ⟨C, rfl, tb, st.fin, fr⟩
        · rw [show (!((init ++ [x]).map nv).isEmpty) = true by simp]
          refine iteT ⟨fun σ' H' => ∃ m', m' < total n C + (init ++ [x]).length ∧ ∃ C h ws, OW (fn (mutL rows)) n H t p as' hA wA m' σ' H' C h ws, fun σ' H' z => z, ?_⟩
          have st' : Stt (fn (mutL rows)) C h (x :: init) := st.perm (by
            have : (x :: init).Perm (init ++ [x]) := (List.perm_append_singleton x init).symm
            exact this)
          simp only [cx_K, cx_w, wipe, Int.zero_add, Bool.false_eq_true, if_false, if_true, Bool.not_true, Bool.not_false, tSeq, tAsg, tOp, tVar, tC, tRet, tRetN, tNext, tDrop, tIfS, tB, tTest, tIf, tAnd, tOr, tNot, tAndV, tOrV, tNotV, tUn, tCons, tNil, tCall, tCB, tBM, tBM0, tNoPart, tPart, tSl, tCont, tNever, tTup, tLst, gName, gNil, gCons, gTup, gSub, rI, rI0, rU, rEq, rNe, rIxL, rSlL, rSetL, rLn, rLs, rTs, rIn, rSet0, tSAdd, rSAdd, rSIn, rSNotIn, rRep, rCat, rAppend, rPop, rPopAt, iList, iRng1, iRng2, iEnum, gTup, tIsN, tNotN, tTru, tLstRg, tRg1, tRg2, L2.start, List.map_cons, List.map_nil, List.length_cons, List.length_nil, List.replicate, List.cons_append, List.nil_append, List.getElem?_cons_zero, List.getElem?_cons_succ, List.set_cons_zero, List.set_cons_succ, Option.some.injEq, exists_eq_left', V.int.injEq, V.ref.injEq, V.bl.injEq, List.cons.injEq, exists_and_left, exists_and_right, and_true, true_and, exists_eq_left, exists_eq, Nat.reduceAdd, Nat.reduceSub]
          have hx : x < n := hlt x (by simp)
          have hdl : ((init ++ [x]).map nv).dropLast = init.map nv := by rw [List.map_append]; simp
          have hla : ((init ++ [x]).map nv)[((init ++ [x]).map nv).length - 1]? = some (nv x) := by simp
          have fr4 : Same H (upd H3 wA (.lst (init.map nv))) := fun b o ho => by
            rw [upd_ne (ne_of_none ho H0W)]; exact fr b o ho
          have tb4 : Tbl (upd H3 wA (.lst (init.map nv))) p as' (mkL n C) := tb.other fW.2 fW.1
          have hh4 : upd H3 wA (.lst (init.map nv)) hA = some (.lst (hL n h)) := by rw [upd_ne (Ne.symm nWA)]; exact hh
          obtain ⟨a, ha, hra, hap, ham⟩ := tb4.at (show x < (mkL n C).length by rw [mkL_len]; exact hx)
          rw [fn_mkL hx] at hra
          have nd := st'.tab.nd L
          refine ⟨.inl ⟨rfl, _, SqL.of hw⟩, _, hw, _, hla, ?_⟩
          rw [hdl]
          refine ⟨_, _, rfl, SqL.of tb4.top, _, tb4.atI ha, _, .inl ⟨_, SqL.of hra, rfl⟩, ?_⟩
          cases hC : C x with
          | nil =>
            refine iteT ⟨total n C + init.length, by simp, C, h, init, ⟨⟨_, _, rfl⟩, tb4, hh4, upd_same, st'.skip hC, fr4, rfl, fun q hq => hlt q (by simp [hq])⟩⟩
          | cons b tl =>
            have hbx : (C x).head? = some b := by rw [hC]; rfl
            have hbm : b ∈ C x := head_mem hbx
            have hb : b < n := (Rlt x b ((st'.tab.sub x).subset hbm)).2
            refine iteF ⟨_, _, rfl, SqL.of tb4.top, _, tb4.atI ha, a, rfl, _, SqL.of hra, nv b, by rw [hC]; exact atI_nat (j := 0) rfl, _, _, rfl, SqL.of hh4, ov (h b), atI_nat (hL_at hb), ?_⟩
            rw [isNon_ov]
            -- behind the choice: from a heap in which the waiting ones are ws'
            have fin : ∀ (ws' : List Nat) (H5 : Hp), ws'.Perm ((h b).toList ++ init) → Tbl H5 p as' (mkL n C) → H5 hA = some (.lst (hL n h)) → H5 wA = some (.lst (ws'.map nv)) → Same H H5 →
                ∀ y, H5 = y → sp_cut K [.ref p, nv b, nv x] (upd H5 hA (.lst ((hL n h).set b (nv x)))) (fun _ H6 => ∃ m', m' < total n C + (init ++ [x]).length ∧ ∃ C h ws, OW (fn (mutL rows)) n H t p as' hA wA m' [some (.ref t), some (.ref p), some (.ref hA), some (.ref wA), some (nv x), some (nv b)] H6 C h ws) E0 := fun ws' H5 hp5 tb5 hh5 hw5 fr5 _ _ => by
              have tb6 : Tbl (upd H5 hA (.lst ((hL n h).set b (nv x)))) p as' (mkL n C) := tb5.other fA.2 fA.1
              refine ⟨p, as', n, b, x, C, rfl, tb6, hb, st'.tab.mu _ _ hbm, nd, fun q hq => ⟨st'.tab.mu _ _ hq, (Rlt b q ((st'.tab.sub b).subset hq)).2, fun e => st'.tab.ir L b (e ▸ hq)⟩, ?_, fun H6 tb7 fr7 => ?_⟩
              · have := nodup_len (n := n) (nd b) fun q hq => (Rlt b q ((st'.tab.sub b).subset hq)).2
                omega
              · refine ⟨total n (cut C b x) + ws'.length, ?_, cut C b x, hold h b x, ws', ⟨⟨_, _, rfl⟩, tb7, ?_, ?_, (st'.offer L hbx).perm hp5, ?_, rfl, fun q hq => ?_⟩⟩
                · have := st'.less L hbx hb
                  rw [hp5.length_eq]
                  simp at this ⊢
                  omega
                · exact fr7 hA _ fA.1 (by rw [upd_same, hL_set h hb])
                · exact fr7 wA _ fW.1 (by rw [upd_ne nWA]; exact hw5)
                · intro c o ho
                  have hc : c ∉ as' := fun z => by rw [has c z] at ho; cases ho
                  exact fr7 c o hc (by rw [upd_ne (ne_of_none ho H0A)]; exact fr5 c o ho)
                · rcases List.mem_append.mp (hp5.mem_iff.mp hq) with z | z
                  · have z' : h b = some q := by simpa using z
                    have := head_mem (st'.held _ _ z').1
                    exact (Rlt q b ((st'.tab.sub q).subset this)).1
                  · exact hlt q (by simp [z])
            cases hhb : h b with
            | none =>
              refine iteF ⟨_, _, rfl, hh4, b, ?_, ?_⟩
              · rw [hL_len]; exact ixN_nat hb
              · exact fin init _ (by rw [hhb]; exact List.Perm.refl _) tb4 hh4 upd_same fr4 _ rfl
            | some p0 =>
              have nlen : init.length ≤ n := nodup_len (List.nodup_cons.mp st'.nd).2 fun q hq => hlt q (by simp [hq])
              refine iteT ⟨.inl ⟨rfl, _, SqL.of upd_same⟩, _, _, rfl, SqL.of hh4, ov (h b), atI_nat (hL_at hb), _, upd_same, by rw [List.length_map]; exact small (by omega), _, _, rfl, by rw [upd_ne (Ne.symm nWA)]; exact hh4, b, ?_, ?_⟩
              · rw [hL_len]; exact ixN_nat hb
              · rw [upd_upd, hhb]
                have e5 : init.map nv ++ [ov (some p0)] = (init ++ [p0]).map nv := by rw [List.map_append]; rfl
                rw [e5]
                refine fin (init ++ [p0]) _ (by rw [hhb]; exact List.perm_append_singleton _ _) (tb.other fW.2 fW.1) (by rw [upd_ne (Ne.symm nWA)]; exact hh) upd_same (fun c o ho => ?_) _ rfl
                rw [upd_ne (ne_of_none ho H0W)]; exact fr c o ho
    · obtain ⟨C, e1', TC, hOff, fr⟩ := hM
      exact ⟨_, e1', q H3 p as' C fr hp has TC hOff⟩
end
end K3

set_option Elab.async false
set_option linter.all false
set_option maxRecDepth 100000
set_option maxHeartbeats 4000000
namespace K3
open PySem PySem.Spec PyProof.Rows L2 LamX Bk
section
variable {P : Program} {w : World} {K : PySem.W.Frag} {mg : Str → Option Value} {base : Heap}

/-- a table that holds -/
def sp_holds (K : PySem.W.Frag) : Sp := fun vs H Q _ => ∃ (t : Addr) (as : List Addr) (n : Nat) (C : Nat → List Nat), vs = [.ref t] ∧ Tbl H t as (mkL n C) ∧ n ≤ 60 ∧ (∀ i x, x ∈ C i → i ∈ C x) ∧ (∀ i x, x ∈ C i → x < n) ∧ Held C ∧ ∀ H', Same H H' → Q (.bl true) H'
theorem ok_holds (T : Txt K mg) : FnOk P w K mg base CX0 1 T.a__law_holds T.fd__law_holds ["_law_rows"] (sp_holds K) := by
  refine T.F__law_holds.ok sc__law_holds (fun vs H Q E h => ?_) (fun cdv A outer s H vs Q E hr h => ?_)
  · obtain ⟨t, as, n, C, rfl, _⟩ := h
    rfl
  · obtain ⟨t, as, n, C, rfl, TB, hlen, mu, lt, hd, q⟩ := h
    refine ⟨_, (C8.pss_cut (ps_for PassesOwn.never rfl (pi_range1 (by rfl) T.m_range (pa_cons (pe_callB (klen (K := K)) (by rfl) T.m_len (by decide +kernel) (pa_cons (pv 0) pa_nil)) pa_nil)) (pg_name (i := 1) sc__law_holds.nd rfl (.inl rfl)) (C8.pss_cut (ps_for PassesOwn.never rfl (kpi_list (K := K) (pe_ix (kix_list (K := K)) (pv 0) (pv 1) (fun _ _ => rfl))) (pg_name (i := 2) sc__law_holds.nd rfl (.inl rfl)) (pss_one (ps_if (pt_cmpR (knotin (K := K)) (pv 1) (pe_ix (kix_list (K := K)) (pv 0) (pv 2) (fun _ _ => rfl)) rfl) (pss_one (ps_ret pe_bl)) pss_nil)))
      (pss_one (ps_if (PW.pt (pw_and (pt_cmpR (kneD (K := K) hr.units) (pe_ix (kix_list (K := K)) (pv 0) (pv 1) (fun _ _ => rfl)) (pe_lst pa_nil) (nomark _)) (pw_and1 (pt_cmpR op_ne (pe_ix (kix_list (K := K)) (pe_ix (kix_list (K := K)) (pv 0) (pe_ix (kix_list (K := K)) (pe_ix (kix_list (K := K)) (pv 0) (pv 1) (fun _ _ => rfl)) pe_int (fun _ _ => rfl)) (fun _ _ => rfl)) (pe_un un_neg pe_int) (fun _ _ => rfl)) (pv 1) (nomark _))))) (pss_one (ps_ret pe_bl)) pss_nil))))
      (pss_one (ps_ret pe_bl))), ?_⟩
    refine ⟨fun σ H' => Same H H', ?_, fun σ H' e => q H' e⟩
    refine ⟨_, rfl, t, _, rfl, .inl (SqL.of TB.top), _, rfl, by rw [List.length_map, TB.len, mkL_len]; omega, by rw [List.length_map, TB.len, mkL_len]; omega,
      for_rng n (by rw [toNat_len, List.length_map, TB.len, mkL_len]) (fun i σ H' => Same H H' ∧ ∃ y1 y2, σ = [some (.ref t), y1, y2]) ⟨Same.refl _, none, none, rfl⟩ (fun i σ H' hi h => ?_) (fun σ H' h => h.1)⟩
    obtain ⟨e, y1, y2, rfl⟩ := h
    have T1 := TB.same e
    obtain ⟨a, ha, hra, _, _⟩ := T1.at (show i < (mkL n C).length by rw [mkL_len]; exact hi)
    rw [fn_mkL hi] at hra
    obtain ⟨M, hMd⟩ : ∃ M : L2.St → Hp → Prop, M = (fun σ H2 => Same H H2 ∧ ∃ y2, σ = [some (.ref t), some (nv i), y2]) := ⟨_, rfl⟩
    refine ⟨M, ?_, fun σ H2 hM => ?_⟩
    · refine ⟨.ref t, rfl, .int (0 + (i : Int)), rfl, t, _, _, .ref a, rfl, rfl, SqL.of T1.top, by rw [Int.zero_add]; exact T1.atI ha, a, rfl, ⟨_, SqL.of hra⟩, for_list (K := K) (xs := (C i).map nv) (fun j σ H2 => H2 = H' ∧ ∃ y2, σ = [some (.ref t), some (nv i), y2]) ⟨rfl, y2, by show [_, some (V.int (0 + (i : Int))), _] = _; rw [Int.zero_add]⟩ (fun j σ H2 _ h => by rw [h.1]; exact SqL.of hra) (fun j x σ H2 hx h => ?_) (fun σ H2 h => ?_)⟩
      · obtain ⟨rfl, y2, rfl⟩ := h
        rw [List.getElem?_map] at hx
        obtain ⟨z, hz, rfl⟩ := Option.map_eq_some_iff.mp hx
        have hzm := List.mem_of_getElem? hz
        have hzn := lt i z hzm
        obtain ⟨b, hb, hrb, _, _⟩ := T1.at (show z < (mkL n C).length by rw [mkL_len]; exact hzn)
        rw [fn_mkL hzn] at hrb
        simp only [cx_K, cx_w, wipe, Int.zero_add, Bool.false_eq_true, if_false, if_true, Bool.not_true, Bool.not_false, tSeq, tAsg, tOp, tVar, tC, tRet, tRetN, tNext, tDrop, tIfS, tB, tTest, tIf, tAnd, tOr, tNot, tAndV, tOrV, tNotV, tUn, tCons, tNil, tCall, tCB, tBM, tBM0, tNoPart, tPart, tSl, tCont, tNever, tTup, tLst, gName, gNil, gCons, gTup, gSub, rI, rI0, rU, rEq, rNe, rIxL, rSlL, rSetL, rLn, rLs, rTs, rIn, rSet0, tSAdd, rSAdd, rSIn, rSNotIn, rRep, rCat, rAppend, rPop, rPopAt, iList, iRng1, iRng2, iEnum, gTup, tIsN, tNotN, tTru, tLstRg, tRg1, tRg2, L2.start, List.map_cons, List.map_nil, List.length_cons, List.length_nil, List.replicate, List.cons_append, List.nil_append, List.getElem?_cons_zero, List.getElem?_cons_succ, List.set_cons_zero, List.set_cons_succ, Option.some.injEq, exists_eq_left', V.int.injEq, V.ref.injEq, V.bl.injEq, List.cons.injEq, exists_and_left, exists_and_right, and_true, true_and, exists_eq_left, exists_eq, Nat.reduceAdd, Nat.reduceSub]
        refine ⟨_, SqL.of T1.top, _, T1.atI hb, b, rfl, _, .inl (SqL.of hrb), rfl, flat_nv _, ?_⟩
        rw [inV_nv, decide_eq_true (mu i z hzm)]
        exact iteF ⟨_, rfl⟩
      · obtain ⟨rfl, y2, rfl⟩ := h
        rw [hMd]
        exact ⟨e, y2, rfl⟩
    · rw [hMd] at hM
      obtain ⟨e2, y2, rfl⟩ := hM
      have T2 := TB.same e2
      obtain ⟨a, ha, hra, _, _⟩ := T2.at (show i < (mkL n C).length by rw [mkL_len]; exact hi)
      rw [fn_mkL hi] at hra
      simp only [cx_K, cx_w, wipe, Int.zero_add, Bool.false_eq_true, if_false, if_true, Bool.not_true, Bool.not_false, tSeq, tAsg, tOp, tVar, tC, tRet, tRetN, tNext, tDrop, tIfS, tB, tTest, tIf, tAnd, tOr, tNot, tAndV, tOrV, tNotV, tUn, tCons, tNil, tCall, tCB, tBM, tBM0, tNoPart, tPart, tSl, tCont, tNever, tTup, tLst, gName, gNil, gCons, gTup, gSub, rI, rI0, rU, rEq, rNe, rIxL, rSlL, rSetL, rLn, rLs, rTs, rIn, rSet0, tSAdd, rSAdd, rSIn, rSNotIn, rRep, rCat, rAppend, rPop, rPopAt, iList, iRng1, iRng2, iEnum, gTup, tIsN, tNotN, tTru, tLstRg, tRg1, tRg2, L2.start, List.map_cons, List.map_nil, List.length_cons, List.length_nil, List.replicate, List.cons_append, List.nil_append, List.getElem?_cons_zero, List.getElem?_cons_succ, List.set_cons_zero, List.set_cons_succ, Option.some.injEq, exists_eq_left', V.int.injEq, V.ref.injEq, V.bl.injEq, List.cons.injEq, exists_and_left, exists_and_right, and_true, true_and, exists_eq_left, exists_eq, Nat.reduceAdd, Nat.reduceSub]
      refine ⟨_, SqL.of T2.top, _, T2.atI ha, Nat.zero_le _, fun z hz => ?_⟩
      refine ne_row (s := []) (SqL.of (by rw [upd_ne (ne_of_none hra hz)]; exact hra)) (SqL.of upd_same) ⟨_, rfl, ?_⟩
      have e3 : Same H (upd H2 z (.lst [])) := same_upd2 e2 (e2.free hz)
      have T3 := T2.upd_new (o := .lst []) hz
      by_cases hc : C i = []
      · rw [decide_eq_true hc]
        exact iteF ⟨e3, ⟨_, rfl⟩⟩
      · rw [decide_eq_false hc]
        obtain ⟨b, hb⟩ := head_some hc
        have hbn := lt i b (head_mem hb)
        have hl := hd i b hb
        obtain ⟨c, hc2, hrc, _, _⟩ := T3.at (show b < (mkL n C).length by rw [mkL_len]; exact hbn)
        rw [fn_mkL hbn] at hrc
        have hra3 : upd H2 z (.lst []) a = some (.lst ((C i).map nv)) := by rw [upd_ne (ne_of_none hra hz)]; exact hra
        have h0 : atI ((C i).map nv) 0 = some (nv b) := by
          refine atI_nat (j := 0) ?_
          rw [List.getElem?_map, ← List.head?_eq_getElem?, hb]; rfl
        have h1 : atI ((C b).map nv) (-1) = some (nv i) := by
          obtain ⟨l, x, hlx⟩ : ∃ l x, C b = l ++ [x] := ⟨(C b).dropLast, (C b).getLast (ne_of_mem (last_mem hl)), (List.dropLast_concat_getLast _).symm⟩
          rw [hlx, List.getLast?_concat] at hl
          cases hl
          rw [hlx, List.map_append]
          exact atI_last _ _
        refine iteT ⟨_, SqL.of T3.top, _, T3.atI ha, a, rfl, _, SqL.of hra3, _, h0, _, _, rfl, SqL.of T3.top, _, T3.atI hc2, c, rfl, _, SqL.of hrc, _, h1, rfl, ?_⟩
        rw [decide_eq_true (show nv i = nv i from rfl)]
        exact iteF ⟨e3, ⟨_, rfl⟩⟩
end
end K3

set_option Elab.async false
set_option linter.all false
set_option maxRecDepth 100000
set_option maxHeartbeats 4000000
namespace K3
open PySem PySem.Spec PyProof.Rows L2 LamX Bk
section
variable {P : Program} {w : World} {K : PySem.W.Frag} {mg : Str → Option Value} {base : Heap}

def sp_law (K : PySem.W.Frag) (P0 : Addr) : Sp := fun vs H Q _ => ∃ (a : Addr) (ns : List Int), vs = [.ref a] ∧ SqL K H a (ns.map V.int) ∧ ns.length ≤ 63 ∧ Tabs (TT P0) H ∧ ∀ H', Q (.bl true) H'
theorem ok_law (T : Txt K mg) {c P0 : Addr} (FC : FunC K "_law_lists" s__law_lists T.a__law_lists T.fd__law_lists c) (TB : TabB base mg c P0) : FnOk P w K mg base CX0 9 T.a_law T.fd_law ["_law_script"] (sp_law K P0) := by
  have G__law_lists : FnOk P w K mg base CX0 4 T.a__law_lists T.fd__law_lists ["_law_script", "_law_most"] (sp_llists K P0) := ok_llists T FC TB
  have G__law_mutual : FnOk P w K mg base CX0 1 T.a__law_mutual T.fd__law_mutual ["_law_rows"] (sp_lmut K) := ok_lmut T
  have G__law_mixed : FnOk P w K mg base CX0 1 T.a__law_mixed T.fd__law_mixed ["_law_number", "_law_k"] sp_mixed := ok_mixed T
  have G__law_offered : FnOk P w K mg base CX0 1 T.a__law_offered T.fd__law_offered ["_law_rows", "_law_number"] (sp_loff K) := ok_loff T
  have G_offered : FnOk P w K mg base CX0 5 T.a_offered T.fd_offered ["lists"] (sp_offered K) := ok_offered T
  have G__law_holds : FnOk P w K mg base CX0 1 T.a__law_holds T.fd__law_holds ["_law_rows"] (sp_holds K) := ok_holds T
  have G__law_all_inside : FnOk P w K mg base CX0 8 T.a__law_all_inside T.fd__law_all_inside ["_law_rows", "_law_table"] (sp_inside K) := ok_inside T
  refine T.F_law.ok sc_law (fun vs H Q E h => ?_) (fun cdv A outer s H vs Q E hr h => ?_)
  · obtain ⟨a, ns, rfl, _⟩ := h
    rfl
  · obtain ⟨a, ns, rfl, hS, hlen, tt, q⟩ := h
    refine ⟨_, (C8.pss_cut (ps_set (i := 1) sc_law.nd rfl (.inl rfl) (pe_call G__law_lists (hr.mono (by decide)) (by rfl) T.g__law_lists T.F__law_lists.kp T.b__law_lists .nil pass0 (pa_cons (pv 0) (pa_cons (pe_ix (kix_list (K := K)) (pe_lst (pa_cons pe_int (pa_cons pe_int pa_nil))) (pe_op op_mod (pe_callB (klen (K := K)) (by rfl) T.m_len (by decide +kernel) (pa_cons (pv 0) pa_nil)) pe_int) (fun _ _ => rfl)) pa_nil))))
      (C8.pss_cut (ps_set (i := 2) sc_law.nd rfl (.inl rfl) (pe_call G__law_mutual (hr.mono (by decide)) (by rfl) T.g__law_mutual T.F__law_mutual.kp T.b__law_mutual .nil pass0 (pa_cons (pv 1) pa_nil)))
      (C8.pss_cut (ps_setLc (i := 3) (own := [("_law_row", 4)]) rfl sc_law.nd rfl rfl (sw_true rfl rfl rfl (by decide +kernel)) (kpi_list (K := K) (pv 1)) (blkOk_by (own := [("_law_row", 4)]) (N := ["_law_script", "_law_lists_here", "_law_rows", "_law_handed", "_law_row", "_law_due", "_law_found"]) (sc := (defScope s_law)) (by decide +kernel)) (fun _ _ _ _ _ => (pg_name (i := 4) sc_law.nd rfl (by first | exact .inl rfl | exact .inr rfl))) (fun _ _ _ _ _ => pts_nil) (fun _ _ _ _ _ => (pe_callTy (klist_of (K := K)) (by rfl) T.m_list (by decide +kernel) (pa_cons (pv 4) pa_nil))))
      (C8.pss_cut (ps_set (i := 5) sc_law.nd rfl (.inl rfl) (pe_call G__law_offered (hr.mono (by decide)) (by rfl) T.g__law_offered T.F__law_offered.kp T.b__law_offered .nil pass0 (pa_cons (pv 2) (pa_cons (pe_call G__law_mixed (hr.mono (by decide)) (by rfl) T.g__law_mixed T.F__law_mixed.kp T.b__law_mixed .nil pass0 (pa_cons (pe_callB (klen (K := K)) (by rfl) T.m_len (by decide +kernel) (pa_cons (pv 0) pa_nil)) (pa_cons pe_int pa_nil))) pa_nil))))
      (C8.pss_cut (ps_set (i := 6) sc_law.nd rfl (.inl rfl) (pe_call G_offered (hr.mono (by decide)) (by rfl) T.g_offered T.F_offered.kp T.b_offered .nil pass0 (pa_cons (pv 3) pa_nil)))
      (C8.pss_cut (ps_if (PW.pt (pw_or (pt_not (pt_val (pe_callB (kisi (K := K)) (by rfl) T.m_isinstance (by decide +kernel) (pa_cons (pv 6) (pa_cons (pe_bltn (v := .ty "list") (by rfl) T.m_list (by decide +kernel) rfl) pa_nil))))) (pw_or (pt_cmpR (kneD (K := K) hr.units) (pv 6) (pv 5) (nomark _)) (pw_or (pt_not (pt_val (pe_call G__law_holds (hr.mono (by decide)) (by rfl) T.g__law_holds T.F__law_holds.kp T.b__law_holds .nil pass0 (pa_cons (pv 6) pa_nil)))) (pw_or1 (pt_cmpR (kneD (K := K) hr.units) (pv 3) (pv 1) (nomark _))))))) (pss_one (ps_ret pe_bl)) pss_nil)
      (C8.pss_cut (ps_for PassesOwn.never rfl (kpi_list (K := K) (pv 6)) (pg_name (i := 4) sc_law.nd rfl (.inl rfl)) (pss_one (ps_expr (pe_bm PySem.F.plainAttrs_list PySem.F.slot_list_append PySem.F.type_list_append mt_append (pv 4) (pa_cons pe_int pa_nil)))))
      (C8.pss_cut (ps_if (PW.pt (pw_or (pt_cmpR (kneD (K := K) hr.units) (pe_call G_offered (hr.mono (by decide)) (by rfl) T.g_offered T.F_offered.kp T.b_offered .nil pass0 (pa_cons (pv 1) pa_nil)) (pv 5) (nomark _)) (pw_or1 (pt_cmpR (kneD (K := K) hr.units) (pe_call G__law_offered (hr.mono (by decide)) (by rfl) T.g__law_offered T.F__law_offered.kp T.b__law_offered .nil pass0 (pa_cons (pv 2) (pa_cons (pe_call G__law_mixed (hr.mono (by decide)) (by rfl) T.g__law_mixed T.F__law_mixed.kp T.b__law_mixed .nil pass0 (pa_cons (pe_callB (klen (K := K)) (by rfl) T.m_len (by decide +kernel) (pa_cons (pv 0) pa_nil)) (pa_cons pe_int pa_nil))) pa_nil))) (pv 5) (nomark _))))) (pss_one (ps_ret pe_bl)) pss_nil)
      (pss_one (ps_ret (pe_or (pe_cmpR op_gt (pe_callB (klen (K := K)) (by rfl) T.m_len (by decide +kernel) (pa_cons (pv 2) pa_nil)) pe_int (nomark _)) (pe_one (pe_call G__law_all_inside (hr.mono (by decide)) (by rfl) T.g__law_all_inside T.F__law_all_inside.kp T.b__law_all_inside .nil pass0 (pa_cons (pv 2) (pa_cons (pv 5) pa_nil))))))))))))))), ?_⟩
    -- the lists
    obtain ⟨M, hM⟩ : ∃ M : L2.St → Hp → Prop, M = (fun σ H1 => ∃ t as rows, σ = [some (.ref a), some (.ref t), none, none, none, none, none] ∧ SqL K H1 a (ns.map V.int) ∧ Tbl H1 t as rows ∧ GL rows ∧ rows.length ≤ 30) := ⟨_, rfl⟩
    refine ⟨M, ?_, fun σ H1 h => ?_⟩
    · simp only [cx_K, cx_w, wipe, Int.zero_add, Bool.false_eq_true, if_false, if_true, Bool.not_true, Bool.not_false, tSeq, tAsg, tOp, tVar, tC, tRet, tRetN, tNext, tDrop, tIfS, tB, tTest, tIf, tAnd, tOr, tNot, tAndV, tOrV, tNotV, tUn, tCons, tNil, tCall, tCB, tBM, tBM0, tNoPart, tPart, tSl, tCont, tNever, tTup, tLst, gName, gNil, gCons, gTup, gSub, rI, rI0, rU, rEq, rNe, rIxL, rSlL, rSetL, rLn, rLs, rTs, rIn, rSet0, tSAdd, rSAdd, rSIn, rSNotIn, rRep, rCat, rAppend, rPop, rPopAt, iList, iRng1, iRng2, iEnum, gTup, tIsN, tNotN, tTru, tLstRg, tRg1, tRg2, L2.start, List.map_cons, List.map_nil, List.length_cons, List.length_nil, List.replicate, List.cons_append, List.nil_append, List.getElem?_cons_zero, List.getElem?_cons_succ, List.set_cons_zero, List.set_cons_succ, Option.some.injEq, exists_eq_left', V.int.injEq, V.ref.injEq, V.bl.injEq, List.cons.injEq, exists_and_left, exists_and_right, and_true, true_and, exists_eq_left, exists_eq, Nat.reduceAdd, Nat.reduceSub]
      refine ⟨by decide, fun p hp => ⟨_, .inl ((same_upd hp).seq hS), by decide, _, SqL.of upd_same, ?_⟩⟩
      rw [List.length_map]
      have fin : ∀ most : Nat, most ≤ 30 → sp_llists K P0 [.ref a, nv most] (upd H p (.lst [.int 30, .int 6])) (fun x H1 => M [some (.ref a), some x, none, none, none, none, none] H1) E0 := fun most hm =>
        ⟨a, ns, most, rfl, (same_upd hp).seq hS, hlen, by omega, tt.ext (same_upd hp), fun H1 t as rows x1 t1 T1 g1 l1 => by
          rw [hM]
          exact ⟨t, as, rows, rfl, SqL.extN x1 ((same_upd hp).seq hS), T1, g1, by omega⟩⟩
      rcases (show ns.length % 2 = 0 ∨ ns.length % 2 = 1 by omega) with h | h
      · have : (ns.length : Int) % 2 = 0 := by omega
        rw [this]
        exact ⟨.int 30, rfl, fin 30 (by decide)⟩
      · have : (ns.length : Int) % 2 = 1 := by omega
        rw [this]
        exact ⟨.int 6, rfl, fin 6 (by decide)⟩
    rw [hM] at h
    clear hM M
    obtain ⟨t, as, rows, rfl, hS1, T1, g, hrl⟩ := h
    obtain ⟨n, hn⟩ : ∃ n, n = rows.length := ⟨_, rfl⟩
    rw [← hn] at hrl
    obtain ⟨R, hR⟩ : ∃ R, R = fn (mutL rows) := ⟨_, rfl⟩
    have L : Lists R := by rw [hR]; exact lists_mut g
    have Rlt : ∀ i x, x ∈ R i → i < n ∧ x < n := fun i x hx => by rw [hR] at hx; rw [hn]; exact mut_lt g hx
    have hmR : mutL rows = mkL n R := by
      have := mkL_fn (mutL rows)
      rw [mutL_len] at this
      rw [hn, hR]
      exact this.symm
    -- the mutual lists
    obtain ⟨M, hM⟩ : ∃ M : L2.St → Hp → Prop, M = (fun σ H2 => ∃ r rs, σ = [some (.ref a), some (.ref t), some (.ref r), none, none, none, none] ∧ Same H1 H2 ∧ Tbl H2 r rs (mkL n R)) := ⟨_, rfl⟩
    refine ⟨M, ?_, fun σ H2 h => ?_⟩
    · simp only [cx_K, cx_w, wipe, Int.zero_add, Bool.false_eq_true, if_false, if_true, Bool.not_true, Bool.not_false, tSeq, tAsg, tOp, tVar, tC, tRet, tRetN, tNext, tDrop, tIfS, tB, tTest, tIf, tAnd, tOr, tNot, tAndV, tOrV, tNotV, tUn, tCons, tNil, tCall, tCB, tBM, tBM0, tNoPart, tPart, tSl, tCont, tNever, tTup, tLst, gName, gNil, gCons, gTup, gSub, rI, rI0, rU, rEq, rNe, rIxL, rSlL, rSetL, rLn, rLs, rTs, rIn, rSet0, tSAdd, rSAdd, rSIn, rSNotIn, rRep, rCat, rAppend, rPop, rPopAt, iList, iRng1, iRng2, iEnum, gTup, tIsN, tNotN, tTru, tLstRg, tRg1, tRg2, L2.start, List.map_cons, List.map_nil, List.length_cons, List.length_nil, List.replicate, List.cons_append, List.nil_append, List.getElem?_cons_zero, List.getElem?_cons_succ, List.set_cons_zero, List.set_cons_succ, Option.some.injEq, exists_eq_left', V.int.injEq, V.ref.injEq, V.bl.injEq, List.cons.injEq, exists_and_left, exists_and_right, and_true, true_and, exists_eq_left, exists_eq, Nat.reduceAdd, Nat.reduceSub]
      refine ⟨t, as, rows, rfl, T1, g, by omega, fun H2 r rs e _ _ TR => ?_⟩
      rw [hM]
      exact ⟨r, rs, rfl, e, by rw [← hmR]; exact TR⟩
    rw [hM] at h
    clear hM M
    obtain ⟨r, rs, rfl, e2, TR⟩ := h
    -- the copy
    obtain ⟨M, hM⟩ : ∃ M : L2.St → Hp → Prop, M = (fun σ H3 => ∃ hd hs, σ = [some (.ref a), some (.ref t), some (.ref r), some (.ref hd), none, none, none] ∧ Same H2 H3 ∧ Tbl H3 hd hs rows) := ⟨_, rfl⟩
    refine ⟨M, ?_, fun σ H3 h => ?_⟩
    · have T2 := T1.same e2
      refine ⟨_, rfl, t, rfl, ⟨_, SqL.of T2.top⟩, fun D hD => lc_list (K := K) (xs := as.map V.ref) (fun i H3 => Same H2 H3 ∧ ∃ as', Tbl H3 D as' (rows.take i))
        ⟨same_upd hD, [], Tbl.nil upd_same⟩ (fun i H1 _ h => h.1.seq (SqL.of T2.top)) (fun i x H3 hx h => ?_) (fun H1 h => ?_)⟩
      · obtain ⟨e, as', T3⟩ := h
        rw [List.getElem?_map] at hx
        obtain ⟨b, hb, rfl⟩ := Option.map_eq_some_iff.mp hx
        have hi : i < rows.length := by
          have := (List.getElem?_eq_some_iff.mp hb).1
          rw [T2.len] at this; exact this
        have hra : H3 b = some (.lst ((fn rows i).map nv)) := e _ _ (T2.row i b _ hb (fn_at hi))
        refine ⟨rfl, yesI ⟨_, rfl, b, _, rfl, .inl (SqL.of hra), fun d hd => ?_⟩⟩
        have T4 := T3.upd_new (o := .lst ((fn rows i).map nv)) hd
        have fr := T3.fresh hd
        refine ⟨as'.map V.ref, T4.top, ?_, ?_, as' ++ [d], ?_⟩
        · rw [List.length_map, T3.len, List.length_take]; exact small (by omega)
        · intro b o ho
          rw [upd_ne (ne_of_none ho hD), upd_ne (ne_of_none ho (e.free hd))]
          exact e b o ho
        · have := T4.snoc (a := d) (r := fn rows i) upd_same fr.2 fr.1
          rw [List.map_append] at this
          rw [List.take_add_one, fn_at hi]
          exact this
      · obtain ⟨e, as', T3⟩ := h
        rw [List.length_map, T2.len, List.take_length] at T3
        show M _ _
        rw [hM]
        exact ⟨D, as', rfl, e, T3⟩
    rw [hM] at h
    clear hM M
    obtain ⟨hd, hs, rfl, e3, TH⟩ := h
    -- the law's own table
    have hS3 : SqL K H3 a (ns.map V.int) := (e2.trans e3).seq hS1
    obtain ⟨M, hM⟩ : ∃ M : L2.St → Hp → Prop, M = (fun σ H4 => ∃ du us C, σ = [some (.ref a), some (.ref t), some (.ref r), some (.ref hd), none, some (.ref du), none] ∧ Same H3 H4 ∧ Tbl H4 du us (mkL n C) ∧ Off R C) := ⟨_, rfl⟩
    refine ⟨M, ?_, fun σ H4 h => ?_⟩
    · simp only [cx_K, cx_w, wipe, Int.zero_add, Bool.false_eq_true, if_false, if_true, Bool.not_true, Bool.not_false, tSeq, tAsg, tOp, tVar, tC, tRet, tRetN, tNext, tDrop, tIfS, tB, tTest, tIf, tAnd, tOr, tNot, tAndV, tOrV, tNotV, tUn, tCons, tNil, tCall, tCB, tBM, tBM0, tNoPart, tPart, tSl, tCont, tNever, tTup, tLst, gName, gNil, gCons, gTup, gSub, rI, rI0, rU, rEq, rNe, rIxL, rSlL, rSetL, rLn, rLs, rTs, rIn, rSet0, tSAdd, rSAdd, rSIn, rSNotIn, rRep, rCat, rAppend, rPop, rPopAt, iList, iRng1, iRng2, iEnum, gTup, tIsN, tNotN, tTru, tLstRg, tRg1, tRg2, L2.start, List.map_cons, List.map_nil, List.length_cons, List.length_nil, List.replicate, List.cons_append, List.nil_append, List.getElem?_cons_zero, List.getElem?_cons_succ, List.set_cons_zero, List.set_cons_succ, Option.some.injEq, exists_eq_left', V.int.injEq, V.ref.injEq, V.bl.injEq, List.cons.injEq, exists_and_left, exists_and_right, and_true, true_and, exists_eq_left, exists_eq, Nat.reduceAdd, Nat.reduceSub]
      refine ⟨_, .inl hS3, _, 8, rfl, by decide, by decide, r, rs, n, R, _, rfl, TR.same e3, L, Rlt, by omega, (mixed_bd _ _).1, fun H4 p us C e _ _ TU off => ?_⟩
      rw [hM]
      exact ⟨p, us, C, rfl, e, TU, off⟩
    rw [hM] at h
    clear hM M
    obtain ⟨du, us, C, rfl, e4, TU, off⟩ := h
    -- the program's
    obtain ⟨M, hM⟩ : ∃ M : L2.St → Hp → Prop, M = (fun σ H5 => ∃ f fs, σ = [some (.ref a), some (.ref t), some (.ref r), some (.ref hd), none, some (.ref du), some (.ref f)] ∧ Same H4 H5 ∧ H4 f = none ∧ (∀ b ∈ fs, H4 b = none) ∧ Tbl H5 f fs (mkL n C)) := ⟨_, rfl⟩
    refine ⟨M, ?_, fun σ H5 h => ?_⟩
    · simp only [cx_K, cx_w, wipe, Int.zero_add, Bool.false_eq_true, if_false, if_true, Bool.not_true, Bool.not_false, tSeq, tAsg, tOp, tVar, tC, tRet, tRetN, tNext, tDrop, tIfS, tB, tTest, tIf, tAnd, tOr, tNot, tAndV, tOrV, tNotV, tUn, tCons, tNil, tCall, tCB, tBM, tBM0, tNoPart, tPart, tSl, tCont, tNever, tTup, tLst, gName, gNil, gCons, gTup, gSub, rI, rI0, rU, rEq, rNe, rIxL, rSlL, rSetL, rLn, rLs, rTs, rIn, rSet0, tSAdd, rSAdd, rSIn, rSNotIn, rRep, rCat, rAppend, rPop, rPopAt, iList, iRng1, iRng2, iEnum, gTup, tIsN, tNotN, tTru, tLstRg, tRg1, tRg2, L2.start, List.map_cons, List.map_nil, List.length_cons, List.length_nil, List.replicate, List.cons_append, List.nil_append, List.getElem?_cons_zero, List.getElem?_cons_succ, List.set_cons_zero, List.set_cons_succ, Option.some.injEq, exists_eq_left', V.int.injEq, V.ref.injEq, V.bl.injEq, List.cons.injEq, exists_and_left, exists_and_right, and_true, true_and, exists_eq_left, exists_eq, Nat.reduceAdd, Nat.reduceSub]
      refine ⟨hd, hs, rows, rfl, TH.same e4, g, by omega, fun H5 p fs C' e hp hps TF off' => ?_⟩
      rw [hM]
      rw [← hR] at off'
      have := off_one L off off'
      subst this
      exact ⟨p, fs, rfl, e, hp, hps, by rw [hn]; exact TF⟩
    rw [hM] at h
    clear hM M
    obtain ⟨f, fs, rfl, e5, hf, hfs, TF⟩ := h
    have TT5 : Tbl H5 t as rows := T1.same (e2.trans (e3.trans (e4.trans e5)))
    have TR5 : Tbl H5 r rs (mkL n R) := TR.same (e3.trans (e4.trans e5))
    have TH5 : Tbl H5 hd hs rows := TH.same (e4.trans e5)
    have TU5 : Tbl H5 du us (mkL n C) := TU.same e5
    have hS5 : SqL K H5 a (ns.map V.int) := (e4.trans e5).seq hS3
    -- what is told
    obtain ⟨M, hM⟩ : ∃ M : L2.St → Hp → Prop, M = (fun σ H6 => σ = [some (.ref a), some (.ref t), some (.ref r), some (.ref hd), none, some (.ref du), some (.ref f)] ∧ Same H5 H6) := ⟨_, rfl⟩
    refine ⟨M, ?_, fun σ H6 h => ?_⟩
    · simp only [cx_K, cx_w, wipe, Int.zero_add, Bool.false_eq_true, if_false, if_true, Bool.not_true, Bool.not_false, tSeq, tAsg, tOp, tVar, tC, tRet, tRetN, tNext, tDrop, tIfS, tB, tTest, tIf, tAnd, tOr, tNot, tAndV, tOrV, tNotV, tUn, tCons, tNil, tCall, tCB, tBM, tBM0, tNoPart, tPart, tSl, tCont, tNever, tTup, tLst, gName, gNil, gCons, gTup, gSub, rI, rI0, rU, rEq, rNe, rIxL, rSlL, rSetL, rLn, rLs, rTs, rIn, rSet0, tSAdd, rSAdd, rSIn, rSNotIn, rRep, rCat, rAppend, rPop, rPopAt, iList, iRng1, iRng2, iEnum, gTup, tIsN, tNotN, tTru, tLstRg, tRg1, tRg2, L2.start, List.map_cons, List.map_nil, List.length_cons, List.length_nil, List.replicate, List.cons_append, List.nil_append, List.getElem?_cons_zero, List.getElem?_cons_succ, List.set_cons_zero, List.set_cons_succ, Option.some.injEq, exists_eq_left', V.int.injEq, V.ref.injEq, V.bl.injEq, List.cons.injEq, exists_and_left, exists_and_right, and_true, true_and, exists_eq_left, exists_eq, Nat.reduceAdd, Nat.reduceSub]
      refine isi (.base (.lst TF.top)) (b := true) (by decide +kernel) ⟨true, rfl, iteF (ne_tbl TF TU5 ⟨_, rfl, ?_⟩)⟩
      rw [decide_eq_true rfl]
      refine iteF ⟨f, fs, n, C, rfl, TF, by omega, off.dn.tab.mu, fun i x hx => (Rlt i x ((off.dn.tab.sub i).subset hx)).2, off.dn.held, fun H6 e => ⟨true, rfl, iteF (ne_tbl (TH5.same e) (TT5.same e) ⟨_, rfl, ?_⟩)⟩⟩
      rw [decide_eq_true rfl]
      refine iteF ?_
      rw [hM]
      exact ⟨rfl, e⟩
    rw [hM] at h
    clear hM M
    obtain ⟨rfl, e6⟩ := h
    -- what is told is changed
    have ap := fun {t : Addr} {as : List Addr} {rows : List (List Nat)} (T : Tbl H4 t as rows) => T.apart hfs
    obtain ⟨M, hM⟩ : ∃ M : L2.St → Hp → Prop, M = (fun σ H7 => (∃ y, σ = [some (.ref a), some (.ref t), some (.ref r), some (.ref hd), y, some (.ref du), some (.ref f)]) ∧ ∀ b o, b ∉ fs → H6 b = some o → H7 b = some o) := ⟨_, rfl⟩
    refine ⟨M, ?_, fun σ H7 h => ?_⟩
    · have TF6 := TF.same e6
      have ff : f ∉ fs := TF6.out
      refine ⟨.ref f, rfl, f, rfl, ⟨_, SqL.of TF6.top⟩, for_list (K := K) (xs := fs.map V.ref) (fun i σ H7 => (∃ y, σ = [some (.ref a), some (.ref t), some (.ref r), some (.ref hd), y, some (.ref du), some (.ref f)]) ∧ (∀ b o, b ∉ fs → H6 b = some o → H7 b = some o) ∧ ∀ b ∈ fs, ∃ xs, H7 b = some (.lst xs) ∧ xs.length ≤ 100 + i)
        ⟨⟨none, rfl⟩, fun _ _ _ h => h, fun b hb => ?_⟩ (fun i σ H7 _ h => SqL.of (h.2.1 _ _ ff TF6.top)) (fun i x σ H7 hx h => ?_) (fun σ H7 h => by show M _ _; rw [hM]; exact ⟨h.1, h.2.1⟩)⟩
      · obtain ⟨j, hj⟩ := List.mem_iff_getElem?.mp hb
        have hjn : j < n := by
          have := (List.getElem?_eq_some_iff.mp hj).1
          rw [TF6.len, mkL_len] at this; exact this
        refine ⟨_, TF6.row j b _ hj (mkL_at hjn), ?_⟩
        rw [List.length_map]
        have : (C j).length ≤ n := nodup_len (off.dn.tab.nd L j) fun x hx => (Rlt j x ((off.dn.tab.sub j).subset hx)).2
        omega
      · obtain ⟨⟨y, rfl⟩, k1, k2⟩ := h
        rw [List.getElem?_map] at hx
        obtain ⟨b, hb, rfl⟩ := Option.map_eq_some_iff.mp hx
        have hbm := List.mem_of_getElem? hb
        obtain ⟨xs, hxs, hl⟩ := k2 b hbm
        have hin : i < n := by
          have := (List.getElem?_eq_some_iff.mp hb).1
          rw [TF6.len, mkL_len] at this; exact this
        simp only [cx_K, cx_w, wipe, Int.zero_add, Bool.false_eq_true, if_false, if_true, Bool.not_true, Bool.not_false, tSeq, tAsg, tOp, tVar, tC, tRet, tRetN, tNext, tDrop, tIfS, tB, tTest, tIf, tAnd, tOr, tNot, tAndV, tOrV, tNotV, tUn, tCons, tNil, tCall, tCB, tBM, tBM0, tNoPart, tPart, tSl, tCont, tNever, tTup, tLst, gName, gNil, gCons, gTup, gSub, rI, rI0, rU, rEq, rNe, rIxL, rSlL, rSetL, rLn, rLs, rTs, rIn, rSet0, tSAdd, rSAdd, rSIn, rSNotIn, rRep, rCat, rAppend, rPop, rPopAt, iList, iRng1, iRng2, iEnum, gTup, tIsN, tNotN, tTru, tLstRg, tRg1, tRg2, L2.start, List.map_cons, List.map_nil, List.length_cons, List.length_nil, List.replicate, List.cons_append, List.nil_append, List.getElem?_cons_zero, List.getElem?_cons_succ, List.set_cons_zero, List.set_cons_succ, Option.some.injEq, exists_eq_left', V.int.injEq, V.ref.injEq, V.bl.injEq, List.cons.injEq, exists_and_left, exists_and_right, and_true, true_and, exists_eq_left, exists_eq, Nat.reduceAdd, Nat.reduceSub]
        refine ⟨.inl ⟨rfl, _, SqL.of hxs⟩, xs, hxs, small (by omega), ⟨_, rfl⟩, fun b' o nb hb' => ?_, fun b' hb' => ?_⟩
        · rw [upd_ne (show b' ≠ b from fun z => nb (by rw [z]; exact hbm))]
          exact k1 b' o nb hb'
        · by_cases z : b' = b
          · subst z
            exact ⟨_, upd_same, by rw [List.length_append, List.length_singleton]; omega⟩
          · obtain ⟨xs', h1, h2⟩ := k2 b' hb'
            exact ⟨xs', by rw [upd_ne z]; exact h1, by omega⟩
    rw [hM] at h
    clear hM M
    obtain ⟨⟨y4, rfl⟩, k⟩ := h
    have TT7 : Tbl H7 t as rows := (TT5.same e6).but k (ap (T1.same (e2.trans (e3.trans e4)))).1 (ap (T1.same (e2.trans (e3.trans e4)))).2
    have TR7 : Tbl H7 r rs (mkL n R) := (TR5.same e6).but k (ap (TR.same (e3.trans e4))).1 (ap (TR.same (e3.trans e4))).2
    have TU7 : Tbl H7 du us (mkL n C) := (TU5.same e6).but k (ap TU).1 (ap TU).2
    have hS7 : SqL K H7 a (ns.map V.int) := by
      rcases e4.seq hS3 with (z | ⟨o, z⟩) | z
      · exact .inl (.inl (k _ _ (fun m => by rw [hfs a m] at z; cases z) ((e5.trans e6) _ _ z)))
      · exact .inl (.inr ⟨o, k _ _ (fun m => by rw [hfs a m] at z; cases z) ((e5.trans e6) _ _ z)⟩)
      · exact .inr z
    -- asked again
    obtain ⟨M, hM⟩ : ∃ M : L2.St → Hp → Prop, M = (fun σ H8 => (∃ y, σ = [some (.ref a), some (.ref t), some (.ref r), some (.ref hd), y, some (.ref du), some (.ref f)]) ∧ Same H7 H8) := ⟨_, rfl⟩
    refine ⟨M, ?_, fun σ H8 h => ?_⟩
    · simp only [cx_K, cx_w, wipe, Int.zero_add, Bool.false_eq_true, if_false, if_true, Bool.not_true, Bool.not_false, tSeq, tAsg, tOp, tVar, tC, tRet, tRetN, tNext, tDrop, tIfS, tB, tTest, tIf, tAnd, tOr, tNot, tAndV, tOrV, tNotV, tUn, tCons, tNil, tCall, tCB, tBM, tBM0, tNoPart, tPart, tSl, tCont, tNever, tTup, tLst, gName, gNil, gCons, gTup, gSub, rI, rI0, rU, rEq, rNe, rIxL, rSlL, rSetL, rLn, rLs, rTs, rIn, rSet0, tSAdd, rSAdd, rSIn, rSNotIn, rRep, rCat, rAppend, rPop, rPopAt, iList, iRng1, iRng2, iEnum, gTup, tIsN, tNotN, tTru, tLstRg, tRg1, tRg2, L2.start, List.map_cons, List.map_nil, List.length_cons, List.length_nil, List.replicate, List.cons_append, List.nil_append, List.getElem?_cons_zero, List.getElem?_cons_succ, List.set_cons_zero, List.set_cons_succ, Option.some.injEq, exists_eq_left', V.int.injEq, V.ref.injEq, V.bl.injEq, List.cons.injEq, exists_and_left, exists_and_right, and_true, true_and, exists_eq_left, exists_eq, Nat.reduceAdd, Nat.reduceSub]
      refine ⟨t, as, rows, rfl, TT7, g, by omega, fun H8 p ps C' e8 _ _ TP off' => ?_⟩
      rw [← hR, ] at off'
      have := off_one L off off'
      subst this
      rw [← hn] at TP
      refine ne_tbl TP (TU7.same e8) ⟨_, rfl, ?_⟩
      rw [decide_eq_true rfl]
      refine iteF ⟨_, .inl (e8.seq hS7), _, 9, rfl, by decide, by decide, r, rs, n, R, _, rfl, TR7.same e8, L, Rlt, by omega, (mixed_bd _ _).1, fun H9 p2 us2 C2 e9 _ _ TP2 off2 => ?_⟩
      have := off_one L off off2
      subst this
      refine ne_tbl TP2 (TU7.same (e8.trans e9)) ⟨_, rfl, ?_⟩
      rw [decide_eq_true rfl]
      refine iteF ?_
      rw [hM]
      exact ⟨⟨_, rfl⟩, e8.trans e9⟩
    rw [hM] at h
    clear hM M
    obtain ⟨⟨y, rfl⟩, e8⟩ := h
    have TR8 := TR7.same e8
    simp only [cx_K, cx_w, wipe, Int.zero_add, Bool.false_eq_true, if_false, if_true, Bool.not_true, Bool.not_false, tSeq, tAsg, tOp, tVar, tC, tRet, tRetN, tNext, tDrop, tIfS, tB, tTest, tIf, tAnd, tOr, tNot, tAndV, tOrV, tNotV, tUn, tCons, tNil, tCall, tCB, tBM, tBM0, tNoPart, tPart, tSl, tCont, tNever, tTup, tLst, gName, gNil, gCons, gTup, gSub, rI, rI0, rU, rEq, rNe, rIxL, rSlL, rSetL, rLn, rLs, rTs, rIn, rSet0, tSAdd, rSAdd, rSIn, rSNotIn, rRep, rCat, rAppend, rPop, rPopAt, iList, iRng1, iRng2, iEnum, gTup, tIsN, tNotN, tTru, tLstRg, tRg1, tRg2, L2.start, List.map_cons, List.map_nil, List.length_cons, List.length_nil, List.replicate, List.cons_append, List.nil_append, List.getElem?_cons_zero, List.getElem?_cons_succ, List.set_cons_zero, List.set_cons_succ, Option.some.injEq, exists_eq_left', V.int.injEq, V.ref.injEq, V.bl.injEq, List.cons.injEq, exists_and_left, exists_and_right, and_true, true_and, exists_eq_left, exists_eq, Nat.reduceAdd, Nat.reduceSub]
    refine ⟨_, .inl (SqL.of TR8.top), ?_⟩
    rw [List.length_map, TR8.len, mkL_len]
    by_cases h6 : 6 < n
    · rw [decide_eq_true (show (6 : Int) < (n : Int) by omega)]
      exact iteT (q _)
    · rw [decide_eq_false (show ¬ (6 : Int) < (n : Int) by omega)]
      refine iteF ⟨r, du, rs, us, n, R, C, rfl, TR8, TU7.same e8, L, Rlt, by omega, fun m gd i hi => ?_, fun H9 _ => q H9⟩
      obtain ⟨h1, h2⟩ := off.good L (fun i x hx => (Rlt i x hx).1) gd
      exact ⟨h2 i, fun j hj => h1 i j hj⟩
end
end K3

set_option Elab.async false
set_option linter.all false
set_option maxRecDepth 100000
set_option maxHeartbeats 4000000
namespace K3
open PySem PySem.Spec PyProof.Rows L2 LamX Bk
theorem tab_nil {H : Hp} {P0 : Addr} {q : Str} (h : H P0 = some (.tbl #[])) : TabS H P0 q := ⟨#[], h, trivial, fun pos cv hc => by cases hc⟩
theorem all_mk {l : PySem.W.OpenLaw} {w : World} {K : PySem.W.Frag} {h : Heap} {mg : Str → Option Value} {fa : Addr} (X : K.In h) (G : h.Ns mainGlobals mg) (hfa : mg "law" = some (.ref fa)) {P0 c : Addr} {tm : Tok} (hP : h.get? P0 = some { cls := .none, data := .fields #[] })
    {od0 an0 : Option Addr} {sl0 : Array (Option Value)} {oc0 kV0 dc0 pm0 cd0 ct0 : Value} {f0 : Addr}
    {od1 an1 : Option Addr} {sl1 : Array (Option Value)} {oc1 kV1 dc1 pm1 cd1 ct1 : Value} {f1 : Addr}
    {od2 an2 : Option Addr} {sl2 : Array (Option Value)} {oc2 kV2 dc2 pm2 cd2 ct2 : Value} {f2 : Addr}
    {od3 an3 : Option Addr} {sl3 : Array (Option Value)} {oc3 kV3 dc3 pm3 cd3 ct3 : Value} {f3 : Addr}
    {od4 an4 : Option Addr} {sl4 : Array (Option Value)} {oc4 kV4 dc4 pm4 cd4 ct4 : Value} {f4 : Addr}
    {od5 an5 : Option Addr} {sl5 : Array (Option Value)} {oc5 kV5 dc5 pm5 cd5 ct5 : Value} {f5 : Addr}
    {od6 an6 : Option Addr} {sl6 : Array (Option Value)} {oc6 kV6 dc6 pm6 cd6 ct6 : Value} {f6 : Addr}
    {od7 an7 : Option Addr} {sl7 : Array (Option Value)} {oc7 kV7 dc7 pm7 cd7 ct7 : Value} {f7 : Addr}
    {od8 an8 : Option Addr} {sl8 : Array (Option Value)} {oc8 kV8 dc8 pm8 ct8 : Value} {f8 : Addr}
    {od9 an9 : Option Addr} {sl9 : Array (Option Value)} {oc9 kV9 dc9 pm9 cd9 ct9 : Value} {f9 : Addr}
    {od10 an10 : Option Addr} {sl10 : Array (Option Value)} {oc10 kV10 dc10 pm10 cd10 ct10 : Value} {f10 : Addr}
    {od11 an11 : Option Addr} {sl11 : Array (Option Value)} {oc11 kV11 dc11 pm11 cd11 ct11 : Value} {f11 : Addr}
    {od12 an12 : Option Addr} {sl12 : Array (Option Value)} {oc12 kV12 dc12 pm12 cd12 ct12 : Value} {f12 : Addr}
    {od13 an13 : Option Addr} {sl13 : Array (Option Value)} {oc13 kV13 dc13 pm13 cd13 ct13 : Value} {f13 : Addr}
    {od14 an14 : Option Addr} {sl14 : Array (Option Value)} {oc14 kV14 dc14 pm14 cd14 ct14 : Value} {f14 : Addr}
    {od15 an15 : Option Addr} {sl15 : Array (Option Value)} {oc15 kV15 dc15 pm15 cd15 ct15 : Value} {f15 : Addr}
    {od16 an16 : Option Addr} {sl16 : Array (Option Value)} {oc16 kV16 dc16 pm16 cd16 ct16 : Value} {f16 : Addr}
    {od17 an17 : Option Addr} {sl17 : Array (Option Value)} {oc17 kV17 dc17 pm17 cd17 ct17 : Value} {f17 : Addr}
    (a0 : PySem.W.nsIn K mainGlobals "is_number" = some (some (.ref f0))) (l0 : K.lookup f0 = some ⟨oc0, od0, .func (PySem.W.fnOf "is_number" "is_number" (defArgs s_is_number) (defBody s_is_number) (defScope s_is_number) .none kV0 dc0 pm0 an0 cd0 ct0), sl0⟩) (c0 : PySem.W.codeIn K cd0 "is_number" = true) (k0 : PySem.W.keepIn K (.ref f0) = true)
    (a1 : PySem.W.nsIn K mainGlobals "is_row" = some (some (.ref f1))) (l1 : K.lookup f1 = some ⟨oc1, od1, .func (PySem.W.fnOf "is_row" "is_row" (defArgs s_is_row) (defBody s_is_row) (defScope s_is_row) .none kV1 dc1 pm1 an1 cd1 ct1), sl1⟩) (c1 : PySem.W.codeIn K cd1 "is_row" = true) (k1 : PySem.W.keepIn K (.ref f1) = true)
    (a2 : PySem.W.nsIn K mainGlobals "check_lists" = some (some (.ref f2))) (l2 : K.lookup f2 = some ⟨oc2, od2, .func (PySem.W.fnOf "check_lists" "check_lists" (defArgs s_check_lists) (defBody s_check_lists) (defScope s_check_lists) .none kV2 dc2 pm2 an2 cd2 ct2), sl2⟩) (c2 : PySem.W.codeIn K cd2 "check_lists" = true) (k2 : PySem.W.keepIn K (.ref f2) = true)
    (a3 : PySem.W.nsIn K mainGlobals "places_in" = some (some (.ref f3))) (l3 : K.lookup f3 = some ⟨oc3, od3, .func (PySem.W.fnOf "places_in" "places_in" (defArgs s_places_in) (defBody s_places_in) (defScope s_places_in) .none kV3 dc3 pm3 an3 cd3 ct3), sl3⟩) (c3 : PySem.W.codeIn K cd3 "places_in" = true) (k3 : PySem.W.keepIn K (.ref f3) = true)
    (a4 : PySem.W.nsIn K mainGlobals "mutual" = some (some (.ref f4))) (l4 : K.lookup f4 = some ⟨oc4, od4, .func (PySem.W.fnOf "mutual" "mutual" (defArgs s_mutual) (defBody s_mutual) (defScope s_mutual) .none kV4 dc4 pm4 an4 cd4 ct4), sl4⟩) (c4 : PySem.W.codeIn K cd4 "mutual" = true) (k4 : PySem.W.keepIn K (.ref f4) = true)
    (a5 : PySem.W.nsIn K mainGlobals "cut_behind" = some (some (.ref f5))) (l5 : K.lookup f5 = some ⟨oc5, od5, .func (PySem.W.fnOf "cut_behind" "cut_behind" (defArgs s_cut_behind) (defBody s_cut_behind) (defScope s_cut_behind) .none kV5 dc5 pm5 an5 cd5 ct5), sl5⟩) (c5 : PySem.W.codeIn K cd5 "cut_behind" = true) (k5 : PySem.W.keepIn K (.ref f5) = true)
    (a6 : PySem.W.nsIn K mainGlobals "offered" = some (some (.ref f6))) (l6 : K.lookup f6 = some ⟨oc6, od6, .func (PySem.W.fnOf "offered" "offered" (defArgs s_offered) (defBody s_offered) (defScope s_offered) .none kV6 dc6 pm6 an6 cd6 ct6), sl6⟩) (c6 : PySem.W.codeIn K cd6 "offered" = true) (k6 : PySem.W.keepIn K (.ref f6) = true)
    (a7 : PySem.W.nsIn K mainGlobals "_law_mixed" = some (some (.ref f7))) (l7 : K.lookup f7 = some ⟨oc7, od7, .func (PySem.W.fnOf "_law_mixed" "_law_mixed" (defArgs s__law_mixed) (defBody s__law_mixed) (defScope s__law_mixed) .none kV7 dc7 pm7 an7 cd7 ct7), sl7⟩) (c7 : PySem.W.codeIn K cd7 "_law_mixed" = true) (k7 : PySem.W.keepIn K (.ref f7) = true)
    (a8 : PySem.W.nsIn K mainGlobals "_law_lists" = some (some (.ref f8))) (l8 : K.lookup f8 = some ⟨oc8, od8, .func (PySem.W.fnOf "_law_lists" "_law_lists" (defArgs s__law_lists) (defBody s__law_lists) (defScope s__law_lists) .none kV8 dc8 pm8 an8 (.ref c) ct8), sl8⟩) (c8 : PySem.W.codeIn K (.ref c) "_law_lists" = true) (k8 : PySem.W.keepIn K (.ref f8) = true)
    (a9 : PySem.W.nsIn K mainGlobals "_law_set" = some (some (.ref f9))) (l9 : K.lookup f9 = some ⟨oc9, od9, .func (PySem.W.fnOf "_law_set" "_law_set" (defArgs s__law_set) (defBody s__law_set) (defScope s__law_set) .none kV9 dc9 pm9 an9 cd9 ct9), sl9⟩) (c9 : PySem.W.codeIn K cd9 "_law_set" = true) (k9 : PySem.W.keepIn K (.ref f9) = true)
    (a10 : PySem.W.nsIn K mainGlobals "_law_mutual" = some (some (.ref f10))) (l10 : K.lookup f10 = some ⟨oc10, od10, .func (PySem.W.fnOf "_law_mutual" "_law_mutual" (defArgs s__law_mutual) (defBody s__law_mutual) (defScope s__law_mutual) .none kV10 dc10 pm10 an10 cd10 ct10), sl10⟩) (c10 : PySem.W.codeIn K cd10 "_law_mutual" = true) (k10 : PySem.W.keepIn K (.ref f10) = true)
    (a11 : PySem.W.nsIn K mainGlobals "_law_better" = some (some (.ref f11))) (l11 : K.lookup f11 = some ⟨oc11, od11, .func (PySem.W.fnOf "_law_better" "_law_better" (defArgs s__law_better) (defBody s__law_better) (defScope s__law_better) .none kV11 dc11 pm11 an11 cd11 ct11), sl11⟩) (c11 : PySem.W.codeIn K cd11 "_law_better" = true) (k11 : PySem.W.keepIn K (.ref f11) = true)
    (a12 : PySem.W.nsIn K mainGlobals "_law_spoilers" = some (some (.ref f12))) (l12 : K.lookup f12 = some ⟨oc12, od12, .func (PySem.W.fnOf "_law_spoilers" "_law_spoilers" (defArgs s__law_spoilers) (defBody s__law_spoilers) (defScope s__law_spoilers) .none kV12 dc12 pm12 an12 cd12 ct12), sl12⟩) (c12 : PySem.W.codeIn K cd12 "_law_spoilers" = true) (k12 : PySem.W.keepIn K (.ref f12) = true)
    (a13 : PySem.W.nsIn K mainGlobals "_law_pairings" = some (some (.ref f13))) (l13 : K.lookup f13 = some ⟨oc13, od13, .func (PySem.W.fnOf "_law_pairings" "_law_pairings" (defArgs s__law_pairings) (defBody s__law_pairings) (defScope s__law_pairings) .none kV13 dc13 pm13 an13 cd13 ct13), sl13⟩) (c13 : PySem.W.codeIn K cd13 "_law_pairings" = true) (k13 : PySem.W.keepIn K (.ref f13) = true)
    (a14 : PySem.W.nsIn K mainGlobals "_law_offered" = some (some (.ref f14))) (l14 : K.lookup f14 = some ⟨oc14, od14, .func (PySem.W.fnOf "_law_offered" "_law_offered" (defArgs s__law_offered) (defBody s__law_offered) (defScope s__law_offered) .none kV14 dc14 pm14 an14 cd14 ct14), sl14⟩) (c14 : PySem.W.codeIn K cd14 "_law_offered" = true) (k14 : PySem.W.keepIn K (.ref f14) = true)
    (a15 : PySem.W.nsIn K mainGlobals "_law_holds" = some (some (.ref f15))) (l15 : K.lookup f15 = some ⟨oc15, od15, .func (PySem.W.fnOf "_law_holds" "_law_holds" (defArgs s__law_holds) (defBody s__law_holds) (defScope s__law_holds) .none kV15 dc15 pm15 an15 cd15 ct15), sl15⟩) (c15 : PySem.W.codeIn K cd15 "_law_holds" = true) (k15 : PySem.W.keepIn K (.ref f15) = true)
    (a16 : PySem.W.nsIn K mainGlobals "_law_all_inside" = some (some (.ref f16))) (l16 : K.lookup f16 = some ⟨oc16, od16, .func (PySem.W.fnOf "_law_all_inside" "_law_all_inside" (defArgs s__law_all_inside) (defBody s__law_all_inside) (defScope s__law_all_inside) .none kV16 dc16 pm16 an16 cd16 ct16), sl16⟩) (c16 : PySem.W.codeIn K cd16 "_law_all_inside" = true) (k16 : PySem.W.keepIn K (.ref f16) = true)
    (a17 : PySem.W.nsIn K mainGlobals "law" = some (some (.ref f17))) (l17 : K.lookup f17 = some ⟨oc17, od17, .func (PySem.W.fnOf "law" "law" (defArgs s_law) (defBody s_law) (defScope s_law) .none kV17 dc17 pm17 an17 cd17 ct17), sl17⟩) (c17 : PySem.W.codeIn K cd17 "law" = true) (k17 : PySem.W.keepIn K (.ref f17) = true)
    (z0 : PySem.W.nsIn K mainGlobals "ValueError" = some none)
    (z1 : PySem.W.nsIn K mainGlobals "bool" = some none)
    (z2 : PySem.W.nsIn K mainGlobals "enumerate" = some none)
    (z3 : PySem.W.nsIn K mainGlobals "int" = some none)
    (z4 : PySem.W.nsIn K mainGlobals "isinstance" = some none)
    (z5 : PySem.W.nsIn K mainGlobals "len" = some none)
    (z6 : PySem.W.nsIn K mainGlobals "list" = some none)
    (z7 : PySem.W.nsIn K mainGlobals "range" = some none)
    (z8 : PySem.W.nsIn K mainGlobals "set" = some none)
    (z9 : PySem.W.nsIn K mainGlobals "sorted" = some none)
    (gm : PySem.W.nsIn K mainGlobals "MOST_PEOPLE" = some (some (.int 60 tm)))
    (nP : K.lookup P0 = none) (cP : PySem.W.codeHdIn K c P0 = true) :
    LamX.LawAtS l w K CX0 9 63 "_law_script" mg fa h := by
  have e := hfa.symm.trans (PySem.W.mg_of X G a17)
  cases e
  have F0 := fun_mk (st := s_is_number) l0 c0 k0
  have F1 := fun_mk (st := s_is_row) l1 c1 k1
  have F2 := fun_mk (st := s_check_lists) l2 c2 k2
  have F3 := fun_mk (st := s_places_in) l3 c3 k3
  have F4 := fun_mk (st := s_mutual) l4 c4 k4
  have F5 := fun_mk (st := s_cut_behind) l5 c5 k5
  have F6 := fun_mk (st := s_offered) l6 c6 k6
  have F7 := fun_mk (st := s__law_mixed) l7 c7 k7
  have F8 := fun_mk (st := s__law_lists) l8 c8 k8
  have F9 := fun_mk (st := s__law_set) l9 c9 k9
  have F10 := fun_mk (st := s__law_mutual) l10 c10 k10
  have F11 := fun_mk (st := s__law_better) l11 c11 k11
  have F12 := fun_mk (st := s__law_spoilers) l12 c12 k12
  have F13 := fun_mk (st := s__law_pairings) l13 c13 k13
  have F14 := fun_mk (st := s__law_offered) l14 c14 k14
  have F15 := fun_mk (st := s__law_holds) l15 c15 k15
  have F16 := fun_mk (st := s__law_all_inside) l16 c16 k16
  have F17 := fun_mk (st := s_law) l17 c17 k17
  let T : Txt K mg := { a_is_number := f0, fd_is_number := _, F_is_number := F0, b_is_number := F0.binds (ps := ["value"]) (fun _ _ _ _ _ _ us hl => match us, hl with | [_], _ => rfl), g_is_number := PySem.W.mg_of X G a0, a_is_row := f1, fd_is_row := _, F_is_row := F1, b_is_row := F1.binds (ps := ["row", "person", "many"]) (fun _ _ _ _ _ _ us hl => match us, hl with | [_, _, _], _ => rfl), g_is_row := PySem.W.mg_of X G a1, a_check_lists := f2, fd_check_lists := _, F_check_lists := F2, b_check_lists := F2.binds (ps := ["lists"]) (fun _ _ _ _ _ _ us hl => match us, hl with | [_], _ => rfl), g_check_lists := PySem.W.mg_of X G a2, a_places_in := f3, fd_places_in := _, F_places_in := F3, b_places_in := F3.binds (ps := ["rows"]) (fun _ _ _ _ _ _ us hl => match us, hl with | [_], _ => rfl), g_places_in := PySem.W.mg_of X G a3, a_mutual := f4, fd_mutual := _, F_mutual := F4, b_mutual := F4.binds (ps := ["lists"]) (fun _ _ _ _ _ _ us hl => match us, hl with | [_], _ => rfl), g_mutual := PySem.W.mg_of X G a4, a_cut_behind := f5, fd_cut_behind := _, F_cut_behind := F5, b_cut_behind := F5.binds (ps := ["rows", "person", "kept"]) (fun _ _ _ _ _ _ us hl => match us, hl with | [_, _, _], _ => rfl), g_cut_behind := PySem.W.mg_of X G a5, a_offered := f6, fd_offered := _, F_offered := F6, b_offered := F6.binds (ps := ["lists"]) (fun _ _ _ _ _ _ us hl => match us, hl with | [_], _ => rfl), g_offered := PySem.W.mg_of X G a6, a__law_mixed := f7, fd__law_mixed := _, F__law_mixed := F7, b__law_mixed := F7.binds (ps := ["_law_number", "_law_k"]) (fun _ _ _ _ _ _ us hl => match us, hl with | [_, _], _ => rfl), g__law_mixed := PySem.W.mg_of X G a7, a__law_lists := f8, fd__law_lists := _, F__law_lists := F8, b__law_lists := F8.binds (ps := ["_law_script", "_law_most"]) (fun _ _ _ _ _ _ us hl => match us, hl with | [_, _], _ => rfl), g__law_lists := PySem.W.mg_of X G a8, a__law_set := f9, fd__law_set := _, F__law_set := F9, b__law_set := F9.binds (ps := ["_law_rows", "_law_one", "_law_other", "_law_number"]) (fun _ _ _ _ _ _ us hl => match us, hl with | [_, _, _, _], _ => rfl), g__law_set := PySem.W.mg_of X G a9, a__law_mutual := f10, fd__law_mutual := _, F__law_mutual := F10, b__law_mutual := F10.binds (ps := ["_law_rows"]) (fun _ _ _ _ _ _ us hl => match us, hl with | [_], _ => rfl), g__law_mutual := PySem.W.mg_of X G a10, a__law_better := f11, fd__law_better := _, F__law_better := F11, b__law_better := F11.binds (ps := ["_law_row", "_law_one", "_law_other"]) (fun _ _ _ _ _ _ us hl => match us, hl with | [_, _, _], _ => rfl), g__law_better := PySem.W.mg_of X G a11, a__law_spoilers := f12, fd__law_spoilers := _, F__law_spoilers := F12, b__law_spoilers := F12.binds (ps := ["_law_rows", "_law_pairing"]) (fun _ _ _ _ _ _ us hl => match us, hl with | [_, _], _ => rfl), g__law_spoilers := PySem.W.mg_of X G a12, a__law_pairings := f13, fd__law_pairings := _, F__law_pairings := F13, b__law_pairings := F13.binds (ps := ["_law_rows", "_law_done"]) (fun _ _ _ _ _ _ us hl => match us, hl with | [_, _], _ => rfl), g__law_pairings := PySem.W.mg_of X G a13, a__law_offered := f14, fd__law_offered := _, F__law_offered := F14, b__law_offered := F14.binds (ps := ["_law_rows", "_law_number"]) (fun _ _ _ _ _ _ us hl => match us, hl with | [_, _], _ => rfl), g__law_offered := PySem.W.mg_of X G a14, a__law_holds := f15, fd__law_holds := _, F__law_holds := F15, b__law_holds := F15.binds (ps := ["_law_rows"]) (fun _ _ _ _ _ _ us hl => match us, hl with | [_], _ => rfl), g__law_holds := PySem.W.mg_of X G a15, a__law_all_inside := f16, fd__law_all_inside := _, F__law_all_inside := F16, b__law_all_inside := F16.binds (ps := ["_law_rows", "_law_table"]) (fun _ _ _ _ _ _ us hl => match us, hl with | [_, _], _ => rfl), g__law_all_inside := PySem.W.mg_of X G a16, a_law := fa, fd_law := _, F_law := F17, b_law := F17.binds (ps := ["_law_script"]) (fun _ _ _ _ _ _ us hl => match us, hl with | [_], _ => rfl), g_law := PySem.W.mg_of X G a17, m_ValueError := PySem.W.mg_none_of X G z0, m_bool := PySem.W.mg_none_of X G z1, m_enumerate := PySem.W.mg_none_of X G z2, m_int := PySem.W.mg_none_of X G z3, m_isinstance := PySem.W.mg_none_of X G z4, m_len := PySem.W.mg_none_of X G z5, m_list := PySem.W.mg_none_of X G z6, m_range := PySem.W.mg_none_of X G z7, m_set := PySem.W.mg_none_of X G z8, m_sorted := PySem.W.mg_none_of X G z9, mostT := tm, mostG := PySem.W.mg_of X G gm }
  refine ⟨PySem.W.fnOf "law" "law" (defArgs s_law) (defBody s_law) (defScope s_law) .none kV17 dc17 pm17 an17 cd17 ct17, [(c, P0)], sp_law K P0, ?_, ?_, ?_, fun s v => .of_eq rfl, ?_, fun base hK hN hT => ok_law (P := l.prog) (w := w) (base := base) T (FC := ⟨⟨_, _, _, _, _, _, _, _, rfl, l8, c8⟩⟩) (TB := hT (c, P0) (List.mem_singleton.mpr rfl))⟩
  · intro p hp; obtain rfl := List.mem_singleton.mp hp; exact hP
  · intro p hp; obtain rfl := List.mem_singleton.mp hp; exact nP
  · intro p hp; obtain rfl := List.mem_singleton.mp hp; exact PySem.W.codeHd_of_K X cP
  · intro H a ns hl _ ht hs
    refine ⟨a, ns, rfl, hs, hl, fun p hp => ?_, fun _ => rfl⟩
    obtain rfl := List.mem_singleton.mp hp
    exact tab_nil (ht (c, P0) (List.mem_singleton.mpr rfl))
end K3
open PySem PySem.W PyProof.Rows
set_option maxHeartbeats 0 in
theorem PySem.Challenge.cw_bunkmates_k03_offers_in_any_order_holds : PySem.Challenge.rw_bunkmates_k03_offers_in_any_order.Holds := by
  w_on; o_law; k_head; (case hw => w_witness2)
  k_fill
  refine LamX.walk_ofTs (l := PySem.Challenge.rw_bunkmates_k03_offers_in_any_order) (n := 63) (k := 9) (x := "_law_script") (CX := fun _ => L2.CX0) rfl (by decide) rfl ⟨rfl, by decide, by decide⟩ (fun w h Y => PySem.W.km_in_of Y) ?F (fun _ _ _ _ _ h => h)
  case F =>
    intro w mg fa h Y KX G hmg
    have hT8 := PySem.W.km_tabs_of Y
    refine' K3.all_mk KX G hmg (hT8 _ (List.mem_singleton.mpr rfl)) ?a0 ?l0 ?c0 ?k0 ?a1 ?l1 ?c1 ?k1 ?a2 ?l2 ?c2 ?k2 ?a3 ?l3 ?c3 ?k3 ?a4 ?l4 ?c4 ?k4 ?a5 ?l5 ?c5 ?k5 ?a6 ?l6 ?c6 ?k6 ?a7 ?l7 ?c7 ?k7 ?a8 ?l8 ?c8 ?k8 ?a9 ?l9 ?c9 ?k9 ?a10 ?l10 ?c10 ?k10 ?a11 ?l11 ?c11 ?k11 ?a12 ?l12 ?c12 ?k12 ?a13 ?l13 ?c13 ?k13 ?a14 ?l14 ?c14 ?k14 ?a15 ?l15 ?c15 ?k15 ?a16 ?l16 ?c16 ?k16 ?a17 ?l17 ?c17 ?k17 ?z0 ?z1 ?z2 ?z3 ?z4 ?z5 ?z6 ?z7 ?z8 ?z9 ?gm ?nP ?cP
    (case a0 => k_is); (case l0 => k_is); (case c0 => k_is); (case k0 => k_is); (case a1 => k_is); (case l1 => k_is); (case c1 => k_is); (case k1 => k_is); (case a2 => k_is); (case l2 => k_is); (case c2 => k_is); (case k2 => k_is); (case a3 => k_is); (case l3 => k_is); (case c3 => k_is); (case k3 => k_is); (case a4 => k_is); (case l4 => k_is); (case c4 => k_is); (case k4 => k_is); (case a5 => k_is); (case l5 => k_is); (case c5 => k_is); (case k5 => k_is); (case a6 => k_is); (case l6 => k_is); (case c6 => k_is); (case k6 => k_is); (case a7 => k_is); (case l7 => k_is); (case c7 => k_is); (case k7 => k_is); (case a8 => k_is); (case l8 => k_is); (case c8 => k_is); (case k8 => k_is); (case a9 => k_is); (case l9 => k_is); (case c9 => k_is); (case k9 => k_is); (case a10 => k_is); (case l10 => k_is); (case c10 => k_is); (case k10 => k_is); (case a11 => k_is); (case l11 => k_is); (case c11 => k_is); (case k11 => k_is); (case a12 => k_is); (case l12 => k_is); (case c12 => k_is); (case k12 => k_is); (case a13 => k_is); (case l13 => k_is); (case c13 => k_is); (case k13 => k_is); (case a14 => k_is); (case l14 => k_is); (case c14 => k_is); (case k14 => k_is); (case a15 => k_is); (case l15 => k_is); (case c15 => k_is); (case k15 => k_is); (case a16 => k_is); (case l16 => k_is); (case c16 => k_is); (case k16 => k_is); (case a17 => k_is); (case l17 => k_is); (case c17 => k_is); (case k17 => k_is); (case z0 => k_is); (case z1 => k_is); (case z2 => k_is); (case z3 => k_is); (case z4 => k_is); (case z5 => k_is); (case z6 => k_is); (case z7 => k_is); (case z8 => k_is); (case z9 => k_is); (case gm => k_is)
    (case nP => kernel_rfl); (case cP => kernel_rfl)
