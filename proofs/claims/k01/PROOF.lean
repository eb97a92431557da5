import PyProof.Rows.All
import HandS.ForMost
import HandS.Lambda
import HandS.IsInst
import HandS.Strs
import HandS.DictComp
import HandS.Iter
import HandS.SortInts
import HandS.Conv
import HandS.Flow
import HandS.SetFor
import KE.KFromBytes
import HandS.SortKw
import HandS.ExcValue
import KE.SortKeyHeap
import HandS.ForExc
import KE.KExcSuper
import PyProof.FString2
import HandS.ExcIs
import HandS.ExcField
import KE.KExcIs
import HandS.NoneIn
import HandS.Defaults
import HandS.Dict
import HandS.TupSets
import HandS.List
import PySem.Challenge.RW_bunkmates_k01_mutual_lists
import KE.KNestM
import HandS.EndTab
import OpenK.AllK
/-! Tables of offers: the mathematics of points 4 and 5. Core Lean only. -/
set_option linter.all false
namespace Bk

/-- the place of x on the list of p -/
abbrev rk (R : Nat → List Nat) (p x : Nat) : Nat := (R p).idxOf x

structure Lists (R : Nat → List Nat) : Prop where
  nd : ∀ i, (R i).Nodup
  mu : ∀ i j, j ∈ R i → i ∈ R j
  ir : ∀ i, i ∉ R i

structure Tab (R T : Nat → List Nat) : Prop where
  sub : ∀ i, (T i).Sublist (R i)
  mu : ∀ i j, j ∈ T i → i ∈ T j

/-- who went from one another's rows: the one holds somebody better, or the other one does -/
def Stop (R T : Nat → List Nat) : Prop := ∀ p b, b ∈ R p → b ∉ T p →
  (∃ q, (T b).getLast? = some q ∧ rk R b q < rk R b p) ∨ (∃ q, (T p).getLast? = some q ∧ rk R p q < rk R p b)
def Held (T : Nat → List Nat) : Prop := ∀ p b, (T p).head? = some b → (T b).getLast? = some p
structure Done (R T : Nat → List Nat) : Prop where
  tab : Tab R T
  stop : Stop R T
  held : Held T

/-! ### places -/
theorem idxOf_lt_of_mem {l : List Nat} {x : Nat} (h : x ∈ l) : l.idxOf x < l.length := List.idxOf_lt_length_iff.mpr h
theorem idxOf_inj {l : List Nat} {x y : Nat} (hx : x ∈ l) (e : l.idxOf x = l.idxOf y) : x = y := by
  have h1 := idxOf_lt_of_mem hx
  have h2 : l.idxOf y < l.length := by omega
  have a := List.getElem_idxOf h1
  have b := List.getElem_idxOf h2
  simp only [e] at a
  exact a.symm.trans b
theorem idx_ne {a x : Nat} (l : List Nat) (h : a ≠ x) : (a :: l).idxOf x = l.idxOf x + 1 := by
  rw [List.idxOf_cons, beq_eq_false_iff_ne.mpr h]; rfl
/-- a part of a list without repetition keeps the order -/
theorem sub_place : ∀ {s r : List Nat}, s.Sublist r → r.Nodup → ∀ {x y : Nat}, x ∈ s → y ∈ s → (s.idxOf x < s.idxOf y ↔ r.idxOf x < r.idxOf y)
  | _, _, .slnil, _, x, y, hx, _ => by simp at hx
  | s, _, .cons a h, hd, x, y, hx, hy => by
    have hd' := List.nodup_cons.mp hd
    have ha : a ≠ x := fun e => hd'.1 (e ▸ h.subset hx)
    have hb : a ≠ y := fun e => hd'.1 (e ▸ h.subset hy)
    rw [idx_ne _ ha, idx_ne _ hb, sub_place h hd'.2 hx hy]
    omega
  | _, _, .cons₂ a h, hd, x, y, hx, hy => by
    have hd' := List.nodup_cons.mp hd
    by_cases ha : a = x
    · subst ha
      by_cases hb : a = y
      · subst hb; simp
      · rw [List.idxOf_cons_self, List.idxOf_cons_self, idx_ne _ hb, idx_ne _ hb]
        omega
    · by_cases hb : a = y
      · subst hb
        rw [List.idxOf_cons_self, List.idxOf_cons_self]
        omega
      · have hx' : x ∈ _ := (List.mem_cons.mp hx).resolve_left (fun e => ha e.symm)
        have hy' : y ∈ _ := (List.mem_cons.mp hy).resolve_left (fun e => hb e.symm)
        rw [idx_ne _ ha, idx_ne _ hb, idx_ne _ ha, idx_ne _ hb]
        have := sub_place h hd'.2 hx' hy'
        omega
theorem head_mem {l : List Nat} {b : Nat} (h : l.head? = some b) : b ∈ l := by
  cases l with
  | nil => simp at h
  | cons a r => simp at h; simp [h]
theorem last_mem {l : List Nat} {b : Nat} (h : l.getLast? = some b) : b ∈ l := List.mem_of_getLast? h
theorem head_place {l : List Nat} {b : Nat} (h : l.head? = some b) : l.idxOf b = 0 := by
  cases l with
  | nil => simp at h
  | cons a r => simp at h; simp [h]
theorem last_place {l : List Nat} {b : Nat} (hd : l.Nodup) (h : l.getLast? = some b) {x : Nat} (hx : x ∈ l) : l.idxOf x ≤ l.idxOf b := by
  have e : l[l.length - 1]? = some b := by rw [← List.getLast?_eq_getElem?]; exact h
  obtain ⟨hl, e⟩ := List.getElem?_eq_some_iff.mp e
  have : l.idxOf b = l.length - 1 := by rw [← e]; exact hd.idxOf_getElem _ hl
  have := idxOf_lt_of_mem hx
  omega
theorem sub_head {s r : List Nat} (h : s.Sublist r) (hd : r.Nodup) {b x : Nat} (hb : s.head? = some b) (hx : x ∈ s) : r.idxOf b ≤ r.idxOf x := by
  by_cases e : x = b
  · subst e; omega
  · have h1 := head_place hb
    have h2 : s.idxOf x ≠ 0 := fun z => e (idxOf_inj hx (z.trans h1.symm))
    have := (sub_place h hd (head_mem hb) hx).mp (by omega)
    omega
theorem sub_last {s r : List Nat} (h : s.Sublist r) (hd : r.Nodup) {b x : Nat} (hb : s.getLast? = some b) (hx : x ∈ s) : r.idxOf x ≤ r.idxOf b := by
  by_cases e : r.idxOf x ≤ r.idxOf b
  · exact e
  · have h1 := last_place (hd.sublist h) hb hx
    have := (sub_place h hd (last_mem hb) hx).mpr (by omega)
    omega
theorem sub_eq : ∀ {s t r : List Nat}, s.Sublist r → t.Sublist r → r.Nodup → (∀ x, x ∈ s ↔ x ∈ t) → s = t
  | _, _, _, .slnil, h2, _, _ => (List.sublist_nil.mp h2).symm
  | s, t, _, .cons a h1, .cons _ h2, hd, e => sub_eq h1 h2 (List.nodup_cons.mp hd).2 e
  | s, _, _, .cons a h1, .cons₂ _ h2, hd, e => by
    have := (e a).mpr (by simp)
    exact absurd (h1.subset this) (List.nodup_cons.mp hd).1
  | _, t, _, .cons₂ a h1, .cons _ h2, hd, e => by
    have := (e a).mp (by simp)
    exact absurd (h2.subset this) (List.nodup_cons.mp hd).1
  | _, _, _, .cons₂ a h1, .cons₂ _ h2, hd, e => by
    have hd' := List.nodup_cons.mp hd
    rw [sub_eq h1 h2 hd'.2 fun x => ?_]
    constructor
    · intro hx
      have := (e x).mp (by simp [hx])
      rcases List.mem_cons.mp this with z | z
      · subst z; exact absurd (h1.subset hx) hd'.1
      · exact z
    · intro hx
      have := (e x).mpr (by simp [hx])
      rcases List.mem_cons.mp this with z | z
      · subst z; exact absurd (h2.subset hx) hd'.1
      · exact z

section
variable {R T T' C : Nat → List Nat}
theorem Tab.nd (L : Lists R) (t : Tab R T) (i : Nat) : (T i).Nodup := (L.nd i).sublist (t.sub i)
theorem Tab.ir (L : Lists R) (t : Tab R T) (i : Nat) : i ∉ T i := fun h => L.ir i ((t.sub i).subset h)
/-- one table, if both hold the same -/
theorem tab_eq (L : Lists R) (t : Tab R T) (t' : Tab R T') (h : ∀ i x, x ∈ T i ↔ x ∈ T' i) : T = T' := by
  funext i
  exact sub_eq (t.sub i) (t'.sub i) (L.nd i) (h i)

/-! ### the table behind all offers -/
structure Off (R T : Nat → List Nat) : Prop where
  dn : Done R T
  max : ∀ T', Done R T' → ∀ i x, x ∈ T' i → x ∈ T i
theorem off_one (L : Lists R) (a : Off R T) (b : Off R T') : T = T' :=
  tab_eq L a.dn.tab b.dn.tab fun i x => ⟨b.max T a.dn i x, a.max T' b.dn i x⟩

/-! ### a step -/
/-- all behind p go from the row of b, and b from theirs -/
def cut (C : Nat → List Nat) (b p : Nat) : Nat → List Nat := fun i =>
  if i = b then (C b).take ((C b).idxOf p + 1) else if i ∈ (C b).drop ((C b).idxOf p + 1) then (C i).erase b else C i
theorem mem_take_place {l : List Nat} (hd : l.Nodup) {k x : Nat} (h : x ∈ l) : x ∈ l.take k ↔ l.idxOf x < k := by
  induction l generalizing k with
  | nil => simp at h
  | cons a r ih =>
    cases k with
    | zero => simp
    | succ k =>
      by_cases e : a = x
      · subst e; simp
      · rw [idx_ne _ e, List.take_succ_cons, List.mem_cons]
        have hm := (List.mem_cons.mp h).resolve_left (fun z => e z.symm)
        have := ih (k := k) (List.nodup_cons.mp hd).2 hm
        constructor
        · rintro (z | z)
          · exact absurd z.symm e
          · have := this.mp z; omega
        · intro z; exact .inr (this.mpr (by omega))
theorem mem_drop_place {l : List Nat} (hd : l.Nodup) {k x : Nat} (h : x ∈ l) : x ∈ l.drop k ↔ k ≤ l.idxOf x := by
  have e : l.take k ++ l.drop k = l := List.take_append_drop k l
  have h1 := mem_take_place (k := k) hd h
  constructor
  · intro hx
    apply Classical.byContradiction
    intro hc
    have h2 : x ∈ l.take k := h1.mpr (by omega)
    rw [← e] at hd
    exact (List.nodup_append.mp hd).2.2 x h2 x hx rfl
  · intro hk
    rw [← e] at h
    rcases List.mem_append.mp h with z | z
    · have := h1.mp z; omega
    · exact z
theorem mem_cut (L : Lists R) (t : Tab R C) {b p i x : Nat} : x ∈ cut C b p i ↔ x ∈ C i ∧ ¬(i = b ∧ (C b).idxOf p < (C b).idxOf x) ∧ ¬(x = b ∧ (C b).idxOf p < (C b).idxOf i) := by
  have nd := t.nd L
  unfold cut
  by_cases hi : i = b
  · subst hi
    rw [if_pos rfl]
    constructor
    · intro h
      have hm := List.mem_of_mem_take h
      have := (mem_take_place (nd i) hm).mp h
      exact ⟨hm, fun z => by omega, fun z => by rw [z.1] at hm; exact t.ir L i hm⟩
    · rintro ⟨hm, h1, _⟩
      exact (mem_take_place (nd i) hm).mpr (by
        have : ¬ (C i).idxOf p < (C i).idxOf x := fun z => h1 ⟨rfl, z⟩
        omega)
  · rw [if_neg hi]
    by_cases hd : i ∈ (C b).drop ((C b).idxOf p + 1)
    · rw [if_pos hd, List.Nodup.mem_erase_iff (nd i)]
      have hm := List.mem_of_mem_drop hd
      have := (mem_drop_place (nd b) hm).mp hd
      constructor
      · rintro ⟨h1, h2⟩
        exact ⟨h2, fun z => hi z.1, fun z => h1 z.1⟩
      · rintro ⟨h1, _, h2⟩
        exact ⟨fun z => h2 ⟨z, by omega⟩, h1⟩
    · rw [if_neg hd]
      constructor
      · intro h
        refine ⟨h, fun z => hi z.1, fun z => ?_⟩
        obtain ⟨rfl, z⟩ := z
        have hm := t.mu _ _ h
        exact hd ((mem_drop_place (nd x) hm).mpr (by omega))
      · exact fun h => h.1
theorem cut_sub (C : Nat → List Nat) (b p i : Nat) : (cut C b p i).Sublist (C i) := by
  unfold cut
  split
  · rename_i e; subst e; exact List.take_sublist _ _
  · split
    · exact List.erase_sublist
    · exact List.Sublist.refl _
theorem cut_tab (L : Lists R) (t : Tab R C) (b p : Nat) : Tab R (cut C b p) := by
  refine ⟨fun i => (cut_sub C b p i).trans (t.sub i), fun i j h => ?_⟩
  rw [mem_cut L t] at h ⊢
  exact ⟨t.mu _ _ h.1, fun z => h.2.2 ⟨z.1, z.2⟩, fun z => h.2.1 ⟨z.1, z.2⟩⟩

/-- where the offers stand: the table, who is held by whom, who is still to offer -/
structure Stt (R C : Nat → List Nat) (h : Nat → Option Nat) (W : List Nat) : Prop where
  tab : Tab R C
  stop : ∀ p b, b ∈ R p → b ∉ C p → (∃ q, h b = some q ∧ rk R b q < rk R b p) ∨ (∃ q, h p = some q ∧ rk R p q < rk R p b)
  held : ∀ b p, h b = some p → (C p).head? = some b ∧ (C b).getLast? = some p
  wait : ∀ p b, (C p).head? = some b → p ∈ W ∨ h b = some p
  nd : W.Nodup
  disj : ∀ p ∈ W, ∀ b, h b ≠ some p
  max : ∀ T', Done R T' → ∀ i x, x ∈ T' i → x ∈ C i

theorem Stt.start (L : Lists R) {W : List Nat} (hn : W.Nodup) (hW : ∀ p, R p ≠ [] → p ∈ W) : Stt R R (fun _ => none) W where
  tab := ⟨fun i => List.Sublist.refl _, L.mu⟩
  stop := fun p b h1 h2 => absurd h1 h2
  held := fun b p e => by cases e
  wait := fun p b e => .inl (hW p fun z => by rw [z] at e; cases e)
  nd := hn
  disj := fun p _ b e => by cases e
  max := fun T' d i x hx => (d.tab.sub i).subset hx
theorem Stt.perm {h : Nat → Option Nat} {W W' : List Nat} (s : Stt R C h W) (hp : W'.Perm W) : Stt R C h W' :=
  ⟨s.tab, s.stop, s.held, fun p b e => (s.wait p b e).imp (fun z => hp.mem_iff.mpr z) id, hp.nodup_iff.mpr s.nd, fun p hp' => s.disj p (hp.mem_iff.mp hp'), s.max⟩
/-- nobody is left for the one who is to offer -/
theorem Stt.skip {h : Nat → Option Nat} {W : List Nat} {p : Nat} (s : Stt R C h (p :: W)) (e : C p = []) : Stt R C h W :=
  ⟨s.tab, s.stop, s.held, fun q b hq => (s.wait q b hq).imp (fun z => (List.mem_cons.mp z).resolve_left fun y => by rw [y, e] at hq; cases hq) id, (List.nodup_cons.mp s.nd).2, fun q hq => s.disj q (List.mem_cons_of_mem _ hq), s.max⟩
theorem Stt.fin {h : Nat → Option Nat} (s : Stt R C h []) : Off R C := by
  refine ⟨⟨s.tab, fun p b h1 h2 => ?_, fun p b e => ?_⟩, s.max⟩
  · rcases s.stop p b h1 h2 with ⟨q, e, l⟩ | ⟨q, e, l⟩
    · exact .inl ⟨q, (s.held _ _ e).2, l⟩
    · exact .inr ⟨q, (s.held _ _ e).2, l⟩
  · rcases s.wait p b e with z | z
    · cases z
    · exact (s.held _ _ z).2
end
theorem last_take {l : List Nat} {p : Nat} (h : p ∈ l) : (l.take (l.idxOf p + 1)).getLast? = some p := by
  have h1 := idxOf_lt_of_mem h
  rw [List.getLast?_eq_getElem?, List.length_take, Nat.min_eq_left (by omega), List.getElem?_take_of_lt (by omega)]
  rw [List.getElem?_eq_some_iff]
  exact ⟨by omega, by simp⟩
theorem head_take {l : List Nat} {k : Nat} : (l.take (k + 1)).head? = l.head? := by
  cases l <;> simp
theorem head_erase {l : List Nat} {x b : Nat} (h : l.head? = some x) (e : x ≠ b) : (l.erase b).head? = some x := by
  cases l with
  | nil => simp at h
  | cons a r =>
    simp at h
    subst h
    rw [List.erase_cons_tail (by simpa using e)]
    simp
theorem last_erase {l : List Nat} {w b : Nat} (h : l.getLast? = some w) (e : w ≠ b) : (l.erase b).getLast? = some w := by
  induction l with
  | nil => simp at h
  | cons a r ih =>
    by_cases ha : a = b
    · subst ha
      rw [List.erase_cons_head]
      cases r with
      | nil => simp at h; exact absurd h.symm e
      | cons c r => simpa [List.getLast?_cons_cons] using h
    · rw [List.erase_cons_tail (by simpa using ha)]
      cases r with
      | nil => simpa using h
      | cons c r =>
        have := ih (by simpa [List.getLast?_cons_cons] using h)
        cases hq : (c :: r).erase b with
        | nil => rw [hq] at this; simp at this
        | cons d r' => rw [hq] at this; rw [List.getLast?_cons_cons]; exact this

section
variable {R T T' C : Nat → List Nat} {h : Nat → Option Nat} {W : List Nat} {p b : Nat}
/-- who is offered to holds the one that offers, unless there is none -/
def hold (h : Nat → Option Nat) (b p : Nat) : Nat → Option Nat := fun i => if i = b then some p else h i
theorem cut_self (L : Lists R) (t : Tab R C) (hp : p ∈ C b) : cut C b p p = C p := by
  have ne : p ≠ b := fun e => t.ir L b (e ▸ hp)
  unfold cut
  rw [if_neg ne, if_neg]
  intro z
  have := (mem_drop_place (t.nd L b) hp).mp z
  omega
theorem Stt.ahead (L : Lists R) (s : Stt R C h (p :: W)) (hb : (C p).head? = some b) {p0 : Nat} (h0 : h b = some p0) : (C b).idxOf p < (C b).idxOf p0 ∧ rk R b p < rk R b p0 := by
  have hp : p ∈ C b := s.tab.mu _ _ (head_mem hb)
  have l0 := (s.held _ _ h0).2
  have ne : p ≠ p0 := fun e => s.disj p List.mem_cons_self b (e ▸ h0)
  have h1 := last_place (s.tab.nd L b) l0 hp
  have h2 : (C b).idxOf p ≠ (C b).idxOf p0 := fun z => ne (idxOf_inj hp z)
  have h3 : (C b).idxOf p < (C b).idxOf p0 := by omega
  exact ⟨h3, (sub_place (s.tab.sub b) (L.nd b) hp (last_mem l0)).mp h3⟩
theorem Stt.offer (L : Lists R) (s : Stt R C h (p :: W)) (hb : (C p).head? = some b) : Stt R (cut C b p) (hold h b p) ((h b).toList ++ W) := by
  have hbp : b ∈ C p := head_mem hb
  have hp : p ∈ C b := s.tab.mu _ _ hbp
  have nd := s.tab.nd L
  have nebp : p ≠ b := fun e => s.tab.ir L b (e ▸ hp)
  have hold_b : hold h b p b = some p := by unfold hold; rw [if_pos rfl]
  have hold_ne : ∀ {i}, i ≠ b → hold h b p i = h i := fun {i} e => by unfold hold; rw [if_neg e]
  have hd := List.nodup_cons.mp s.nd
  have headk : ∀ i w, i ≠ b → h i = some w → (cut C b p w).head? = some i := fun i w e hi => by
    have h1 := (s.held _ _ hi).1
    unfold cut
    split
    · rename_i e2; subst e2; rw [head_take]; exact h1
    · split
      · exact head_erase h1 e
      · exact h1
  refine ⟨cut_tab L s.tab b p, fun q x hx hn => ?_, fun i w hi => ?_, fun q x hq => ?_, ?_, fun q hq x hx => ?_, fun T' d i x hx => ?_⟩
  · by_cases hc : x ∈ C q
    · have hn' : ¬ (¬(q = b ∧ (C b).idxOf p < (C b).idxOf x) ∧ ¬(x = b ∧ (C b).idxOf p < (C b).idxOf q)) := fun z => hn ((mem_cut L s.tab).mpr ⟨hc, z⟩)
      by_cases h1 : q = b ∧ (C b).idxOf p < (C b).idxOf x
      · obtain ⟨rfl, h1⟩ := h1
        exact .inr ⟨p, hold_b, (sub_place (s.tab.sub q) (L.nd q) hp hc).mp h1⟩
      · have h2 : x = b ∧ (C b).idxOf p < (C b).idxOf q := by
          apply Classical.byContradiction
          exact fun z => hn' ⟨h1, z⟩
        obtain ⟨rfl, h2⟩ := h2
        exact .inl ⟨p, hold_b, (sub_place (s.tab.sub x) (L.nd x) hp (s.tab.mu _ _ hc)).mp h2⟩
    · rcases s.stop q x hx hc with ⟨w, e, l⟩ | ⟨w, e, l⟩
      · left
        by_cases hxb : x = b
        · subst hxb
          have := (s.ahead L hb e).2
          exact ⟨p, hold_b, by omega⟩
        · exact ⟨w, by rw [hold_ne hxb]; exact e, l⟩
      · right
        by_cases hqb : q = b
        · subst hqb
          have := (s.ahead L hb e).2
          exact ⟨p, hold_b, by omega⟩
        · exact ⟨w, by rw [hold_ne hqb]; exact e, l⟩
  · by_cases hib : i = b
    · subst hib
      rw [hold_b] at hi
      cases hi
      refine ⟨by rw [cut_self L s.tab hp]; exact hb, ?_⟩
      unfold cut
      rw [if_pos rfl]
      exact last_take hp
    · rw [hold_ne hib] at hi
      refine ⟨headk i w hib hi, ?_⟩
      have h1 := s.held _ _ hi
      unfold cut
      rw [if_neg hib]
      split
      · rename_i hdr
        refine last_erase h1.2 fun e => ?_
        subst e
        have h2 := head_place h1.1
        have := (mem_drop_place (nd w) (head_mem h1.1)).mp hdr
        omega
      · exact h1.2
  · by_cases hqp : q = p
    · subst hqp
      rw [cut_self L s.tab hp, hb] at hq
      cases hq
      exact .inr hold_b
    · have hm := head_mem hq
      have hm' := (cut_sub C b p q).subset hm
      obtain ⟨y, hy⟩ : ∃ y, (C q).head? = some y := by
        cases hc : C q with
        | nil => rw [hc] at hm'; simp at hm'
        | cons a r => exact ⟨a, rfl⟩
      rcases s.wait q y hy with z | z
      · exact .inl (List.mem_append_right _ ((List.mem_cons.mp z).resolve_left hqp))
      · by_cases hyb : y = b
        · subst hyb
          exact .inl (List.mem_append_left _ (by rw [z]; simp))
        · right
          have := headk y q hyb z
          rw [hq] at this
          cases this
          rw [hold_ne hyb]
          exact z
  · rw [List.nodup_append]
    refine ⟨by cases h b <;> simp, hd.2, fun x hx y hy e => ?_⟩
    subst e
    have hx' : h b = some x := by simpa using hx
    exact s.disj x (List.mem_cons_of_mem _ hy) b hx'
  · rcases List.mem_append.mp hq with z | z
    · have z' : h b = some q := by simpa using z
      by_cases hxb : x = b
      · subst hxb
        rw [hold_b] at hx
        cases hx
        exact s.disj p List.mem_cons_self x z'
      · rw [hold_ne hxb] at hx
        have h1 := (s.held _ _ hx).1
        rw [(s.held _ _ z').1] at h1
        exact hxb (Option.some.inj h1).symm
    · by_cases hxb : x = b
      · subst hxb
        rw [hold_b] at hx
        cases hx
        exact hd.1 z
      · rw [hold_ne hxb] at hx
        exact s.disj q (List.mem_cons_of_mem _ z) x hx
  · -- what a done table keeps is not cut
    have key : ∀ q, q ∈ T' b → ¬ (C b).idxOf p < (C b).idxOf q := fun q hq hlt => by
      have hqC := s.max T' d _ _ hq
      have hr : rk R b p < rk R b q := (sub_place (s.tab.sub b) (L.nd b) hp hqC).mp hlt
      have hbest : ∀ x, x ∈ T' p → rk R p b ≤ rk R p x := fun x hx => sub_head (s.tab.sub p) (L.nd p) hb (s.max T' d _ _ hx)
      by_cases hin : b ∈ T' p
      · obtain ⟨y, hy⟩ : ∃ y, (T' p).head? = some y := by
          cases hc : T' p with
          | nil => rw [hc] at hin; simp at hin
          | cons a r => exact ⟨a, rfl⟩
        have h1 := sub_head (d.tab.sub p) (L.nd p) hy hin
        have h2 := hbest y (head_mem hy)
        have e : y = b := idxOf_inj (l := R p) ((d.tab.sub p).subset (head_mem hy)) (by simp only [rk] at *; omega)
        subst e
        have h3 := sub_last (d.tab.sub y) (L.nd y) (d.held _ _ hy) hq
        simp only [rk] at *
        omega
      · rcases d.stop p b ((s.tab.sub p).subset hbp) hin with ⟨w, e, l⟩ | ⟨w, e, l⟩
        · have := sub_last (d.tab.sub b) (L.nd b) e hq
          simp only [rk] at *
          omega
        · have := hbest w (last_mem e)
          omega
    refine (mem_cut L s.tab).mpr ⟨s.max T' d _ _ hx, fun z => ?_, fun z => ?_⟩
    · obtain ⟨rfl, z⟩ := z
      exact key x hx z
    · obtain ⟨rfl, z⟩ := z
      exact key i (d.tab.mu _ _ hx) z

/-! ### the measure -/
/-- how many stand in the rows of the first n -/
def total (n : Nat) (C : Nat → List Nat) : Nat := ((List.range n).map fun i => (C i).length).sum
theorem sum_le : ∀ (l : List Nat) {f g : Nat → Nat}, (∀ i ∈ l, f i ≤ g i) → (l.map f).sum ≤ (l.map g).sum
  | [], _, _, _ => by simp
  | a :: l, f, g, h => by
    have := sum_le l (f := f) (g := g) fun i hi => h i (List.mem_cons_of_mem _ hi)
    have := h a List.mem_cons_self
    simp only [List.map_cons, List.sum_cons]
    omega
theorem sum_lt : ∀ (l : List Nat) {f g : Nat → Nat} {k : Nat}, (∀ i ∈ l, f i ≤ g i) → k ∈ l → f k < g k → (l.map f).sum < (l.map g).sum
  | [], _, _, _, _, hk, _ => by simp at hk
  | a :: l, f, g, k, h, hk, hlt => by
    have h1 := sum_le l (f := f) (g := g) fun i hi => h i (List.mem_cons_of_mem _ hi)
    have h2 := h a List.mem_cons_self
    simp only [List.map_cons, List.sum_cons]
    rcases List.mem_cons.mp hk with e | hk
    · subst e; omega
    · have := sum_lt l (f := f) (g := g) (fun i hi => h i (List.mem_cons_of_mem _ hi)) hk hlt
      omega
theorem total_cut_le (n : Nat) (C : Nat → List Nat) (b p : Nat) : total n (cut C b p) ≤ total n C := sum_le _ fun i _ => (cut_sub C b p i).length_le
theorem Stt.less (L : Lists R) (s : Stt R C h (p :: W)) (hb : (C p).head? = some b) {n : Nat} (hn : b < n) : total n (cut C b p) + ((h b).toList ++ W).length < total n C + (p :: W).length := by
  cases e : h b with
  | none =>
    have := total_cut_le n C b p
    simp
    omega
  | some p0 =>
    have h1 := (s.ahead L hb e).1
    have h2 := idxOf_lt_of_mem (last_mem (s.held _ _ e).2)
    have : total n (cut C b p) < total n C := sum_lt _ (k := b) (fun i _ => (cut_sub C b p i).length_le) (List.mem_range.mpr hn) (by
      unfold cut
      rw [if_pos rfl, List.length_take]
      omega)
    simp
    omega
end
/-! ### counting -/
theorem len_of_sub : ∀ {l1 l2 : List Nat}, l1.Nodup → (∀ x ∈ l1, x ∈ l2) → l1.length ≤ l2.length
  | [], _, _, _ => Nat.zero_le _
  | a :: l1, l2, hd, h => by
    have hd' := List.nodup_cons.mp hd
    have ha : a ∈ l2 := h a List.mem_cons_self
    have := len_of_sub (l1 := l1) (l2 := l2.erase a) hd'.2 fun x hx => (List.mem_erase_of_ne (show x ≠ a from fun e => hd'.1 (e ▸ hx))).mpr (h x (List.mem_cons_of_mem _ hx))
    rw [List.length_erase_of_mem ha] at this
    have := List.length_pos_of_mem ha
    rw [List.length_cons]
    omega
theorem onto_of {l1 l2 : List Nat} (hd : l1.Nodup) (h : ∀ x ∈ l1, x ∈ l2) (hl : l2.length ≤ l1.length) {y : Nat} (hy : y ∈ l2) : y ∈ l1 := by
  apply Classical.byContradiction
  intro hn
  have := len_of_sub (l1 := l1) (l2 := l2.erase y) hd fun x hx => (List.mem_erase_of_ne (show x ≠ y from fun e => hn (e ▸ hx))).mpr (h x hx)
  rw [List.length_erase_of_mem hy] at this
  have := List.length_pos_of_mem hy
  omega
theorem nodup_map_on {f : Nat → Nat} : ∀ {l : List Nat}, l.Nodup → (∀ x ∈ l, ∀ y ∈ l, f x = f y → x = y) → (l.map f).Nodup
  | [], _, _ => List.nodup_nil
  | a :: l, hd, h => by
    have hd' := List.nodup_cons.mp hd
    rw [List.map_cons, List.nodup_cons]
    refine ⟨fun z => ?_, nodup_map_on hd'.2 fun x hx y hy => h x (List.mem_cons_of_mem _ hx) y (List.mem_cons_of_mem _ hy)⟩
    obtain ⟨x, hx, e⟩ := List.mem_map.mp z
    have := h x (List.mem_cons_of_mem _ hx) a List.mem_cons_self e
    exact hd'.1 (this ▸ hx)
theorem onto_self {f : Nat → Nat} {l : List Nat} (hd : l.Nodup) (hin : ∀ x ∈ l, f x ∈ l) (inj : ∀ x ∈ l, ∀ y ∈ l, f x = f y → x = y) {y : Nat} (hy : y ∈ l) : ∃ x ∈ l, f x = y := by
  have := onto_of (l1 := l.map f) (l2 := l) (nodup_map_on hd inj) (fun x hx => by
    obtain ⟨z, hz, e⟩ := List.mem_map.mp hx
    exact e ▸ hin z hz) (by rw [List.length_map]; exact Nat.le_refl _) hy
  exact List.mem_map.mp this

section
variable {R T : Nat → List Nat} {n : Nat}
/-- who has somebody left -/
def some_left (n : Nat) (T : Nat → List Nat) : List Nat := (List.range n).filter fun i => !(T i).isEmpty
theorem mem_some_left {i : Nat} : i ∈ some_left n T ↔ i < n ∧ T i ≠ [] := by
  unfold some_left
  rw [List.mem_filter, List.mem_range]
  simp [List.isEmpty_iff]
theorem head_some {l : List Nat} (h : l ≠ []) : ∃ b, l.head? = some b := by
  cases l with
  | nil => exact absurd rfl h
  | cons a r => exact ⟨a, rfl⟩
theorem ne_of_mem {l : List Nat} {x : Nat} (h : x ∈ l) : l ≠ [] := fun e => by rw [e] at h; cases h
/-- one is the best left of a person just where the person is its worst -/
theorem Done.back (L : Lists R) (hn : ∀ i x, x ∈ R i → i < n) (d : Done R T) {b p : Nat} (hl : (T b).getLast? = some p) : (T p).head? = some b := by
  have hb : b ∈ some_left n T := mem_some_left.mpr ⟨hn b p ((d.tab.sub b).subset (last_mem hl)), ne_of_mem (last_mem hl)⟩
  obtain ⟨q, hq, e⟩ := onto_self (f := fun i => (T i).head?.getD 0) (l := some_left n T) (List.nodup_range.filter _) (fun x hx => by
    obtain ⟨h1, h2⟩ := mem_some_left.mp hx
    obtain ⟨y, hy⟩ := head_some h2
    simp only [hy, Option.getD_some]
    have hy' := d.tab.mu _ _ (head_mem hy)
    exact mem_some_left.mpr ⟨hn y x ((d.tab.sub y).subset hy'), ne_of_mem hy'⟩) (fun x hx y hy e => by
    obtain ⟨x', hx'⟩ := head_some (mem_some_left.mp hx).2
    obtain ⟨y', hy'⟩ := head_some (mem_some_left.mp hy).2
    simp only [hx', hy', Option.getD_some] at e
    subst e
    have h1 := d.held _ _ hx'
    rw [d.held _ _ hy'] at h1
    exact (Option.some.inj h1).symm) hb
  obtain ⟨y, hy⟩ := head_some (mem_some_left.mp hq).2
  simp only [hy, Option.getD_some] at e
  subst e
  have h1 := d.held _ _ hy
  rw [hl] at h1
  cases h1
  exact hy

/-! ### pairings -/
structure PairOk (R : Nat → List Nat) (m : Nat → Option Nat) : Prop where
  on : ∀ p q, m p = some q → q ∈ R p
  mu : ∀ p q, m p = some q → m q = some p
/-- one would rather have the other than its mate -/
def Wants (R : Nat → List Nat) (m : Nat → Option Nat) (p b : Nat) : Prop := ∀ y, m p = some y → rk R p b < rk R p y
def Spoil (R : Nat → List Nat) (m : Nat → Option Nat) (p b : Nat) : Prop := b ∈ R p ∧ Wants R m p b ∧ Wants R m b p
structure Good (R : Nat → List Nat) (m : Nat → Option Nat) : Prop where
  ok : PairOk R m
  no : ∀ p b, ¬ Spoil R m p b
def mt (m : Nat → Option Nat) : Nat → List Nat := fun i => (m i).toList
theorem mem_mt {m : Nat → Option Nat} {i x : Nat} : x ∈ mt m i ↔ m i = some x := by unfold mt; simp
theorem good_done (L : Lists R) {m : Nat → Option Nat} (g : Good R m) : Done R (mt m) := by
  have nw : ∀ p b, b ∈ R p → m p ≠ some b → ¬ Wants R m p b → ∃ q, (mt m p).getLast? = some q ∧ rk R p q < rk R p b := fun p b hb hne hw => by
    have : ∃ y, m p = some y ∧ ¬ rk R p b < rk R p y := by
      apply Classical.byContradiction
      intro hc
      exact hw fun y hy => Classical.byContradiction fun hz => hc ⟨y, hy, hz⟩
    obtain ⟨y, hy, hl⟩ := this
    refine ⟨y, by unfold mt; rw [hy]; rfl, ?_⟩
    have : rk R p y ≠ rk R p b := fun e => hne (by rw [hy, idxOf_inj (g.ok.on _ _ hy) e])
    omega
  refine ⟨⟨fun i => ?_, fun i j h => ?_⟩, fun p b hb hn => ?_, fun p b e => ?_⟩
  · unfold mt
    cases e : m i with
    | none => exact List.nil_sublist _
    | some q => exact List.singleton_sublist.mpr (g.ok.on _ _ e)
  · exact mem_mt.mpr (g.ok.mu _ _ (mem_mt.mp h))
  · have hne : m p ≠ some b := fun e => hn (mem_mt.mpr e)
    by_cases h1 : Wants R m p b
    · have h2 : ¬ Wants R m b p := fun z => g.no p b ⟨hb, h1, z⟩
      exact .inl (nw b p (L.mu _ _ hb) (fun e => hne (g.ok.mu _ _ e)) h2)
    · exact .inr (nw p b hb hne h1)
  · have h1 : m p = some b := mem_mt.mp (head_mem e)
    unfold mt
    rw [g.ok.mu _ _ h1]
    rfl
/-- all mates of a good pairing are left, and who has somebody left has a mate -/
theorem Off.good (L : Lists R) (hn : ∀ i x, x ∈ R i → i < n) (o : Off R T) {m : Nat → Option Nat} (g : Good R m) : (∀ p q, m p = some q → q ∈ T p) ∧ ∀ p, m p = none ↔ T p = [] := by
  have d := good_done L g
  have h1 : ∀ p q, m p = some q → q ∈ T p := fun p q e => o.max _ d p q (mem_mt.mpr e)
  refine ⟨h1, fun p => ⟨fun e => ?_, fun e => ?_⟩⟩
  · apply Classical.byContradiction
    intro hne
    -- whoever is the best one left of somebody has a mate
    obtain ⟨l, hl⟩ : ∃ l, (T p).getLast? = some l := by
      cases hc : T p with
      | nil => exact absurd hc hne
      | cons a r => exact ⟨_, List.getLast?_cons⟩
    have hh := o.dn.back L hn hl
    have hb : p ∈ R l := (o.dn.tab.sub l).subset (head_mem hh)
    have hnm : p ∉ mt m l := fun z => by
      have := g.ok.mu _ _ (mem_mt.mp z)
      rw [e] at this
      cases this
    rcases d.stop l p hb hnm with ⟨w, hw, _⟩ | ⟨w, hw, hlt⟩
    · have := mem_mt.mp (last_mem hw)
      rw [e] at this
      cases this
    · have h2 := h1 l w (mem_mt.mp (last_mem hw))
      have := sub_head (o.dn.tab.sub l) (L.nd l) hh h2
      simp only [rk] at *
      omega
  · cases hm : m p with
    | none => rfl
    | some q =>
      have := h1 p q hm
      rw [e] at this
      cases this
end
end Bk
set_option Elab.async false
set_option linter.all false
set_option maxRecDepth 100000
/-! Rows and tables of numbers in the layer's heap. -/
namespace Bk
open PySem PySem.Spec PyProof.Rows L2 LamX
abbrev nv (n : Nat) : V := .int (n : Int)
theorem nv_inj {a b : Nat} (h : nv a = nv b) : a = b := by
  have := V.int.inj h
  omega
theorem map_nv (r : List Nat) : r.map nv = (r.map Int.ofNat).map V.int := by
  rw [List.map_map]; rfl
/-- a row of numbers -/
abbrev RowAt (H : Hp) (a : Addr) (r : List Nat) : Prop := H a = some (.lst (r.map nv))
/-- a table: a list of rows, each an object of its own -/
structure Tbl (H : Hp) (t : Addr) (as : List Addr) (rows : List (List Nat)) : Prop where
  top : H t = some (.lst (as.map V.ref))
  len : as.length = rows.length
  nd : as.Nodup
  out : t ∉ as
  row : ∀ (i : Nat) (a : Addr) (r : List Nat), as[i]? = some a → rows[i]? = some r → RowAt H a r
abbrev fn (rows : List (List Nat)) : Nat → List Nat := fun i => rows.getD i []
theorem fn_of {rows : List (List Nat)} {i : Nat} {r : List Nat} (h : rows[i]? = some r) : fn rows i = r := by
  simp [fn, List.getD_eq_getElem?_getD, h]
theorem fn_at {rows : List (List Nat)} {i : Nat} (h : i < rows.length) : rows[i]? = some (fn rows i) := by
  simp [fn, List.getD_eq_getElem?_getD, h]
theorem fn_out {rows : List (List Nat)} {i : Nat} (h : rows.length ≤ i) : fn rows i = [] := by
  simp [fn, List.getD_eq_getElem?_getD, h]
section
variable {H H' : Hp} {t : Addr} {as : List Addr} {rows : List (List Nat)}
theorem Tbl.same (T : Tbl H t as rows) (e : Same H H') : Tbl H' t as rows := ⟨e _ _ T.top, T.len, T.nd, T.out, fun i a r h1 h2 => e _ _ (T.row i a r h1 h2)⟩
/-- all but the tables of code stay -/
theorem Tbl.extN (T : Tbl H t as rows) (e : ExtN H H') : Tbl H' t as rows := ⟨e _ _ T.top (fun _ z => by cases z), T.len, T.nd, T.out, fun i a r h1 h2 => e _ _ (T.row i a r h1 h2) (fun _ z => by cases z)⟩
theorem Tbl.upd_new (T : Tbl H t as rows) {p : Addr} {o : HO} (n : H p = none) : Tbl (upd H p o) t as rows := T.same fun b u e => by rw [upd_ne (ne_of_none e n)]; exact e
theorem Tbl.seq (K : PySem.W.Frag) (T : Tbl H t as rows) : SqL K H t (as.map V.ref) := SqL.of T.top
theorem Tbl.at (T : Tbl H t as rows) {i : Nat} (h : i < rows.length) : ∃ a, as[i]? = some a ∧ RowAt H a (fn rows i) ∧ a ≠ t ∧ a ∈ as := by
  have h' : i < as.length := by rw [T.len]; exact h
  refine ⟨as[i], List.getElem?_eq_getElem h', T.row i _ _ (List.getElem?_eq_getElem h') (fn_at h), fun e => T.out (by rw [← e]; exact List.getElem_mem h'), List.getElem_mem h'⟩
theorem Tbl.atI (T : Tbl H t as rows) {i : Nat} {a : Addr} (h : as[i]? = some a) : atI (as.map V.ref) (i : Int) = some (V.ref a) := atI_nat (by rw [List.getElem?_map, h]; rfl)
/-- a row is written -/
theorem Tbl.write (T : Tbl H t as rows) {i : Nat} {a : Addr} (h : as[i]? = some a) (r : List Nat) : Tbl (upd H a (.lst (r.map nv))) t as (rows.set i r) := by
  have hm := List.mem_of_getElem? h
  refine ⟨?_, by rw [List.length_set]; exact T.len, T.nd, T.out, fun j b q h1 h2 => ?_⟩
  · rw [upd_ne (fun e => T.out (by rw [e]; exact hm))]; exact T.top
  · by_cases e : j = i
    · subst e
      rw [h] at h1; cases h1
      have : j < rows.length := by
        have := (List.getElem?_eq_some_iff.mp h).1
        rw [T.len] at this; exact this
      rw [List.getElem?_set_self this] at h2
      cases h2
      exact upd_same
    · rw [List.getElem?_set_ne (Ne.symm e)] at h2
      have ne : b ≠ a := fun z => e (nd_ix T.nd (z ▸ h1) h)
      show upd H a _ b = _
      rw [upd_ne ne]
      exact T.row j b q h1 h2
/-- something else is written -/
theorem Tbl.other (T : Tbl H t as rows) {p : Addr} {o : HO} (h1 : p ≠ t) (h2 : p ∉ as) : Tbl (upd H p o) t as rows :=
  ⟨by rw [upd_ne (Ne.symm h1)]; exact T.top, T.len, T.nd, T.out, fun j b q e1 e2 => by
    show upd H p o b = _
    rw [upd_ne (show b ≠ p from fun z => h2 (by rw [← z]; exact List.mem_of_getElem? e1))]
    exact T.row j b q e1 e2⟩
/-- a table grows by a row -/
theorem Tbl.snoc (T : Tbl H t as rows) {a : Addr} {r : List Nat} (ha : RowAt H a r) (h1 : a ≠ t) (h2 : a ∉ as) : Tbl (upd H t (.lst ((as ++ [a]).map V.ref))) t (as ++ [a]) (rows ++ [r]) := by
  refine ⟨upd_same, by simp [T.len], ?_, ?_, fun i b q e1 e2 => ?_⟩
  · rw [List.nodup_append]
    exact ⟨T.nd, by simp, fun x hx y hy e => by simp at hy; subst hy; subst e; exact h2 hx⟩
  · rw [List.mem_append]
    rintro (z | z)
    · exact T.out z
    · simp at z; exact h1 z.symm
  · have nt : b ≠ t := by
      rintro rfl
      rcases List.mem_append.mp (List.mem_of_getElem? e1) with z | z
      · exact T.out z
      · simp at z; exact h1 z.symm
    show upd H t _ b = _
    rw [upd_ne nt]
    by_cases hi : i < as.length
    · rw [List.getElem?_append_left hi] at e1
      rw [List.getElem?_append_left (by rw [← T.len]; exact hi)] at e2
      exact T.row i b q e1 e2
    · rw [List.getElem?_append_right (by omega)] at e1
      rw [List.getElem?_append_right (by rw [← T.len]; omega)] at e2
      have : i - as.length = 0 := by
        have := (List.getElem?_eq_some_iff.mp e1).1
        simp at this
        omega
      rw [← T.len, this] at e2
      rw [this] at e1
      simp at e1 e2
      subst e1; subst e2
      exact ha
theorem Tbl.nil {D : Addr} (h : H D = some (.lst [])) : Tbl H D [] [] := ⟨h, rfl, List.nodup_nil, by simp, fun i a r e _ => by simp at e⟩
end
theorem same_upd {H : Hp} {p : Addr} {o : HO} (h : H p = none) : Same H (upd H p o) := fun b x e => by
  rw [upd_ne (ne_of_none e h)]
  exact e
theorem same_upd2 {H H' : Hp} {p : Addr} {o : HO} (s : Same H H') (h : H p = none) : Same H (upd H' p o) := fun b x e => by
  rw [upd_ne (ne_of_none e h)]
  exact s b x e
theorem small {n : Nat} (h : n ≤ 100000) : n < sizeLine := Nat.lt_of_le_of_lt h (by decide)
theorem eq_nv (a b : Nat) : decide (V.int (a : Int) = V.int (b : Int)) = decide (a = b) := by
  by_cases h : a = b
  · subst h; simp
  · rw [decide_eq_false h, decide_eq_false (fun z => h (nv_inj z))]
/-- is a number on a row -/
theorem inV_nv (r : List Nat) (x : Nat) : inV (nv x) (r.map nv) = decide (x ∈ r) := by
  unfold inV
  rw [List.any_map]
  have : ∀ y : Nat, eqV (nv y) (nv x) = decide (y = x) := fun y => by
    show decide ((y : Int) = (x : Int)) = _
    by_cases h : y = x
    · subst h; simp
    · rw [decide_eq_false h, decide_eq_false (by omega)]
  rw [show ((fun y => eqV y (nv x)) ∘ nv) = fun y => decide (y = x) from funext this]
  by_cases h : x ∈ r
  · rw [decide_eq_true h, List.any_eq_true]
    exact ⟨x, h, by simp⟩
  · rw [decide_eq_false h, List.any_eq_false]
    intro y hy e
    simp at e
    exact h (e ▸ hy)
theorem flat_nv (r : List Nat) : (r.map nv).all flatV = true := by
  rw [List.all_map, List.all_eq_true]
  intro x _
  rfl
/-! ### rows that may be lists of people -/
structure GL (rows : List (List Nat)) : Prop where
  ok : ∀ (i : Nat) (r : List Nat), rows[i]? = some r → r.Nodup ∧ ∀ x ∈ r, x < rows.length ∧ x ≠ i
theorem GL.nd {rows : List (List Nat)} (g : GL rows) (i : Nat) : (fn rows i).Nodup := by
  by_cases h : i < rows.length
  · exact (g.ok i _ (fn_at h)).1
  · rw [fn_out (by omega)]; exact List.nodup_nil
theorem GL.lt {rows : List (List Nat)} (g : GL rows) {i x : Nat} (h : x ∈ fn rows i) : i < rows.length ∧ x < rows.length ∧ x ≠ i := by
  by_cases hi : i < rows.length
  · exact ⟨hi, (g.ok i _ (fn_at hi)).2 x h⟩
  · rw [fn_out (by omega)] at h; cases h
/-- the mutual lists -/
def mutF (rows : List (List Nat)) (p : Nat) : List Nat := (fn rows p).filter fun o => decide (p ∈ fn rows o)
def mutL (rows : List (List Nat)) : List (List Nat) := (List.range rows.length).map (mutF rows)
theorem mutL_len (rows : List (List Nat)) : (mutL rows).length = rows.length := by simp [mutL]
theorem mutL_at {rows : List (List Nat)} {i : Nat} (h : i < rows.length) : (mutL rows)[i]? = some (mutF rows i) := by
  simp [mutL, h]
theorem fn_mutL (rows : List (List Nat)) (i : Nat) : fn (mutL rows) i = mutF rows i := by
  by_cases h : i < rows.length
  · exact fn_of (mutL_at h)
  · rw [fn_out (by rw [mutL_len]; omega)]
    unfold mutF
    rw [fn_out (by omega)]
    rfl
theorem mem_mutF {rows : List (List Nat)} {p o : Nat} : o ∈ mutF rows p ↔ o ∈ fn rows p ∧ p ∈ fn rows o := by
  unfold mutF
  rw [List.mem_filter]
  simp
theorem lists_mut {rows : List (List Nat)} (g : GL rows) : Lists (fn (mutL rows)) where
  nd := fun i => by rw [fn_mutL]; exact (g.nd i).filter _
  mu := fun i j h => by
    rw [fn_mutL] at h ⊢
    exact mem_mutF.mpr (mem_mutF.mp h).symm
  ir := fun i h => by
    rw [fn_mutL] at h
    exact (g.lt (mem_mutF.mp h).1).2.2 rfl
theorem mut_lt {rows : List (List Nat)} (g : GL rows) {i x : Nat} (h : x ∈ fn (mutL rows) i) : i < rows.length ∧ x < rows.length := by
  rw [fn_mutL] at h
  have := g.lt (mem_mutF.mp h).1
  exact ⟨this.1, this.2.1⟩
theorem gl_mut {rows : List (List Nat)} (g : GL rows) : GL (mutL rows) := ⟨fun i r h => by
  have e := fn_of h
  subst e
  refine ⟨(lists_mut g).nd i, fun x hx => ?_⟩
  have := mut_lt g hx
  exact ⟨by rw [mutL_len]; exact this.2, fun z => (lists_mut g).ir i (z ▸ hx)⟩⟩
theorem nodup_len {r : List Nat} {n : Nat} (hd : r.Nodup) (h : ∀ x ∈ r, x < n) : r.length ≤ n := by
  have := len_of_sub (l1 := r) (l2 := List.range n) hd fun x hx => List.mem_range.mpr (h x hx)
  simpa using this
theorem GL.len {rows : List (List Nat)} (g : GL rows) (i : Nat) : (fn rows i).length ≤ rows.length := nodup_len (g.nd i) fun x hx => (g.lt hx).2.1
theorem isi {K : PySem.W.Frag} {H : Hp} {v : V} {t n : String} {b : Bool} {Q : VK} (ty : TyX K H v (.type t)) (k : kitB t n = some b) (q : Q (.bl b) H) : rIsi K [v, .ty n] H Q :=
  ⟨v, .ty n, .type t, .type n, b, rfl, .ty n, ty, kit_ty k, q⟩
theorem cx_K {CX : CXT} {P : Program} {w : World} {K : PySem.W.Frag} {mg : Str → Option Value} {base : Heap} {N : List Str} {qual : Str} {scope : Scope} {f : Addr} {cd : Value} {A : Around} {outer : List Env} {s : Shared} {H : Hp} {E : XK} : (cxOf CX P w K mg base N qual scope f cd A outer s H E).K = K := rfl
theorem cx_w {CX : CXT} {P : Program} {w : World} {K : PySem.W.Frag} {mg : Str → Option Value} {base : Heap} {N : List Str} {qual : Str} {scope : Scope} {f : Addr} {cd : Value} {A : Around} {outer : List Env} {s : Shared} {H : Hp} {E : XK} : (cxOf CX P w K mg base N qual scope f cd A outer s H E).w = w := rfl
/-- over enumerate of a list that the body leaves as it is -/
theorem for_enum {K : PySem.W.Frag} {a : Addr} {xs : List V} {g : TG} {tb : TS} {D : Ends} {σ : L2.St} {H : Hp} (Pv : Nat → L2.St → Hp → Prop) (h0 : Pv 0 σ H) (hl : ∀ i σ H, i ≤ xs.length → Pv i σ H → SqL K H a xs)
    (hs : ∀ i x σ H T, xs[i]? = some x → H T = none → Pv i σ H → g (.ref T) σ (upd H T (.tup [.int (i : Nat), x])) fun σ2 H2 => tb { D with nx := Pv (i + 1), ct := Pv (i + 1), bk := D.nx } σ2 H2) (hd : ∀ σ H, Pv xs.length σ H → D.nx σ H) :
    ∃ W : Nat → Nat → L2.St → Hp → Prop, (∃ m, W 0 m σ H) ∧ ∀ i m σ H, W i m σ H →
      ((Ite K a).stop i H ∧ D.nx σ H) ∨ ((Ite K a).go i H ∧ ∃ N : L2.St → Hp → Prop, (∀ σ' H', N σ' H' → ∃ m', m' < m ∧ W (i + 1) m' σ' H') ∧ ∀ x H', (Ite K a).yld i H x H' → g x σ H' fun σ2 H2 => tb { D with nx := N, ct := N, bk := D.nx } σ2 H2) := by
  refine ⟨fun i m σ H => m = xs.length - i ∧ i ≤ xs.length ∧ Pv i σ H, ⟨xs.length, by simp, Nat.zero_le _, h0⟩, ?_⟩
  rintro i m σ H ⟨rfl, hi, p⟩
  have hq := hl i σ H hi p
  by_cases hlt : i < xs.length
  · refine .inr ⟨⟨xs, xs[i], hq, by simp [hlt]⟩, Pv (i + 1), fun σ' H' p' => ⟨xs.length - (i + 1), by omega, rfl, hlt, p'⟩, fun v H' hy => ?_⟩
    obtain ⟨T, x, rfl, hT, rfl, hx⟩ := hy
    exact hs i x σ H T (hx xs hq) hT p
  · have e : i = xs.length := by omega
    subst e
    exact .inl ⟨⟨xs, hq, Nat.le_refl _⟩, hd σ H p⟩
/-- a comprehension over enumerate -/
theorem lc_enum {K : PySem.W.Frag} {a : Addr} {xs : List V} {g : TG} {tt : TT} {te : TE} {vs : List Nat} {σ : L2.St} {H1 : Hp} {D : Addr} {Qd : Hp → Prop} (Pv : Nat → Hp → Prop) (h0 : Pv 0 (upd H1 D (.lst []))) (hl : ∀ i H, i ≤ xs.length → Pv i H → SqL K H a xs)
    (hs : ∀ i x H T, xs[i]? = some x → H T = none → Pv i H → g (.ref T) (wipe σ vs) (upd H T (.tup [.int (i : Nat), x])) fun σ2 H2 => wipe σ2 vs = wipe σ vs ∧ tt σ2 H2 fun b H3 =>
      if b = true then te σ2 H3 fun y H4 => ∃ acc, H4 D = some (.lst acc) ∧ acc.length < sizeLine ∧ Pv (i + 1) (upd H4 D (.lst (acc ++ [y]))) else Pv (i + 1) H3) (hd : ∀ H, Pv xs.length H → Qd H) :
    ∃ W : Nat → Nat → Hp → Prop, (∃ m, W 0 m (upd H1 D (.lst []))) ∧ ∀ i m H, W i m H →
      ((Ite K a).stop i H ∧ Qd H) ∨ ((Ite K a).go i H ∧ ∃ Nx : Hp → Prop, (∀ H', Nx H' → ∃ m', m' < m ∧ W (i + 1) m' H') ∧ ∀ x H', (Ite K a).yld i H x H' → g x (wipe σ vs) H' fun σ2 H2 => wipe σ2 vs = wipe σ vs ∧ tt σ2 H2 fun b H3 =>
        if b = true then te σ2 H3 fun y H4 => ∃ acc, H4 D = some (.lst acc) ∧ acc.length < sizeLine ∧ Nx (upd H4 D (.lst (acc ++ [y]))) else Nx H3) := by
  refine ⟨fun i m H => m = xs.length - i ∧ i ≤ xs.length ∧ Pv i H, ⟨xs.length, by simp, Nat.zero_le _, h0⟩, ?_⟩
  rintro i m H ⟨rfl, hi, p⟩
  have hq := hl i H hi p
  by_cases hlt : i < xs.length
  · refine .inr ⟨⟨xs, xs[i], hq, by simp [hlt]⟩, Pv (i + 1), fun H' p' => ⟨xs.length - (i + 1), by omega, rfl, hlt, p'⟩, fun v H' hy => ?_⟩
    obtain ⟨T, x, rfl, hT, rfl, hx⟩ := hy
    exact hs i x H T (hx xs hq) hT p
  · have e : i = xs.length := by omega
    subst e
    exact .inl ⟨⟨xs, hq, Nat.le_refl _⟩, hd H p⟩
/-- a dict comprehension over enumerate -/
theorem dc_enum {K : PySem.W.Frag} {a : Addr} {xs : List V} {g : TG} {tt : TT} {tk tv : TE} {vs : List Nat} {σ : L2.St} {H1 : Hp} {D : Addr} {Qd : Hp → Prop} (Pv : Nat → Hp → Prop) (h0 : Pv 0 (upd H1 D (.dK []))) (hl : ∀ i H, i ≤ xs.length → Pv i H → SqL K H a xs)
    (hs : ∀ i x H T, xs[i]? = some x → H T = none → Pv i H → g (.ref T) (wipe σ vs) (upd H T (.tup [.int (i : Nat), x])) fun σ2 H2 => wipe σ2 vs = wipe σ vs ∧ tt σ2 H2 fun b H3 =>
      if b = true then tk σ2 H3 fun y H4 => tv σ2 H4 fun z H5 => ∃ kvs k, y = kV k ∧ H5 D = some (.dK kvs) ∧ kvs.length < sizeLine ∧ Pv (i + 1) (upd H5 D (.dK (putK kvs k z))) else Pv (i + 1) H3) (hd : ∀ H, Pv xs.length H → Qd H) :
    ∃ W : Nat → Nat → Hp → Prop, (∃ m, W 0 m (upd H1 D (.dK []))) ∧ ∀ i m H, W i m H →
      ((Ite K a).stop i H ∧ Qd H) ∨ ((Ite K a).go i H ∧ ∃ Nx : Hp → Prop, (∀ H', Nx H' → ∃ m', m' < m ∧ W (i + 1) m' H') ∧ ∀ x H', (Ite K a).yld i H x H' → g x (wipe σ vs) H' fun σ2 H2 => wipe σ2 vs = wipe σ vs ∧ tt σ2 H2 fun b H3 =>
        if b = true then tk σ2 H3 fun y H4 => tv σ2 H4 fun z H5 => ∃ kvs k, y = kV k ∧ H5 D = some (.dK kvs) ∧ kvs.length < sizeLine ∧ Nx (upd H5 D (.dK (putK kvs k z))) else Nx H3) := by
  refine ⟨fun i m H => m = xs.length - i ∧ i ≤ xs.length ∧ Pv i H, ⟨xs.length, by simp, Nat.zero_le _, h0⟩, ?_⟩
  rintro i m H ⟨rfl, hi, p⟩
  have hq := hl i H hi p
  by_cases hlt : i < xs.length
  · refine .inr ⟨⟨xs, xs[i], hq, by simp [hlt]⟩, Pv (i + 1), fun H' p' => ⟨xs.length - (i + 1), by omega, rfl, hlt, p'⟩, fun v H' hy => ?_⟩
    obtain ⟨T, x, rfl, hT, rfl, hx⟩ := hy
    exact hs i x H T (hx xs hq) hT p
  · have e : i = xs.length := by omega
    subst e
    exact .inl ⟨⟨xs, hq, Nat.le_refl _⟩, hd H p⟩
end Bk
set_option Elab.async false
set_option linter.all false
namespace Bk
open PySem PySem.Spec PyProof.Rows L2 LamX
/-- the scope of a comprehension -/
def lcS : Expr → Scope
  | .ListComp _ _ sc _ => sc
  | .DictComp _ _ _ sc _ => sc
  | .SetComp _ _ sc _ => sc
  | _ => { kind := .function, names := [], isGenerator := false, isCoroutine := false }
/-- what the last statement of a def returns -/
def retE (s : Stmt) : Expr := match (defBody s).getLast? with
  | some (.Return (some e) _) => e
  | _ => .Constant .none 0 ⟨0, 0, 0, 0⟩
/-! the rules with the written part named -/
def rLn (K : PySem.W.Frag) : List V → Hp → VK → Prop := fun xs H Q => ∃ p ys, xs = [.ref p] ∧ (SqL K H p ys ∨ SqT K H p ys) ∧ Q (.int ys.length) H
def rLs (K : PySem.W.Frag) : List V → Hp → VK → Prop := fun xs H Q => ∃ p ys, xs = [.ref p] ∧ (SqL K H p ys ∨ SqT K H p ys) ∧ ∀ l, H l = none → Q (.ref l) (upd H l (.lst ys))
def rTs (K : PySem.W.Frag) : List V → Hp → VK → Prop := fun xs H Q => ∃ p ys, xs = [.ref p] ∧ ((SqL K H p ys ∧ ∀ l, H l = none → Q (.ref l) (upd H l (.tup ys))) ∨ (SqT K H p ys ∧ Q (.ref p) H))
section
variable {X : Cx} {K : PySem.W.Frag}
theorem kix_list (h : X.K = K := by rfl) : IxR X (rIxL K) := by subst h; exact ix_list
theorem kix_tup (h : X.K = K := by rfl) : IxR X (rIxT K) := by subst h; exact ix_tup
theorem ksl_list (h : X.K = K := by rfl) : SlR X (rSlL K) := by subst h; exact sl_list
theorem kin (h : X.K = K := by rfl) : OpR X (compareOp .In) (rIn K false) := by subst h; exact op_in_seq
theorem knotin (h : X.K = K := by rfl) : OpR X (compareOp .NotIn) (rIn K true) := by subst h; exact op_notIn_seq
theorem keqD (hu : X.A.units + 64 < cLine) (h : X.K = K := by rfl) : OpR X (compareOp .Eq) (rEqD K) := by subst h; exact op_eqD hu
theorem kneD (hu : X.A.units + 64 < cLine) (h : X.K = K := by rfl) : OpR X (compareOp .NotEq) (rNeD K) := by subst h; exact op_neD hu
theorem klen (h : X.K = K := by rfl) : CallR X (.builtin "len") (rLn K) := by subst h; exact call_len_seq
theorem klist_of (h : X.K = K := by rfl) : CallR X (.type "list") (rLs K) := by subst h; exact call_list_of
theorem ktuple_of (h : X.K = K := by rfl) : CallR X (.type "tuple") (rTs K) := by subst h; exact call_tuple_of
theorem kisi (h : X.K = K := by rfl) : CallR X (.builtin "isinstance") (rIsi K) := by subst h; exact call_isi
theorem kall (hc : X.calm = true) (h : X.K = K := by rfl) : CallR X (.builtin "all") (rAll K) := by subst h; exact cr_all hc
theorem ksortedI (h : X.K = K := by rfl) : CallR X (.builtin "sorted") (rSortedI K) := by subst h; exact cr_sortedI
theorem kpi_list {tg l : Expr} {tl : TE} (hl : PE X l tl) (h : X.K = K := by rfl) : PI X tg l (iList K tl) := by subst h; exact pi_list hl
theorem kpi_enum {e : Expr} {ta : TA} {p pos tpos : Pos} {elts : List Expr} {kk : Nat} (hg : Gl X "enumerate") (hm : X.mg "enumerate" = none) (ha : PA X [e] ta) (h : X.K = K := by rfl) (hs : starEach [e] X.env = [(false, eval e X.env)] := by rfl) :
    PI X (.Tuple elts kk tpos) (.Call (.Name "enumerate" p) [e] [] pos) (iEnum K ta) := by subst h; exact pi_enum hg hm ha hs
theorem kpg_tup {es : List Expr} {k : Nat} {t : TGs} {n : Nat} {pos : Pos} (hc : X.calm = true) (hp : PGs X es t) (h : X.K = K := by rfl) (hn : (assignEach es X.env).length = n := by rfl) (hst : (assignEach es X.env).findIdx? (·.1) = none := by rfl) :
    PG X (.Tuple es k pos) (gTup K n t) := by subst h; exact pg_tup hc hp hn hst
end
end Bk
set_option Elab.async false
set_option linter.all false
namespace Bk
open PySem PySem.Spec PyProof.Rows L2 LamX
theorem wipe1_set (σ : L2.St) (k : Nat) (v : Option V) (hk : k < σ.length) : wipe ((wipe σ [k]).set k v) [k] = wipe σ [k] := by
  show ((σ.set k none).set k v).set k none = σ.set k none
  rw [List.set_set, List.set_set]
/-- [x for x in row if keep x], over numbers -/
theorem lc_keep {K : PySem.W.Frag} {a D : Addr} {k : Nat} {σ : L2.St} {H1 : Hp} {tt : TT} {Qd : Hp → Prop} {r : List Nat} (keep : Nat → Bool) (hD : H1 D = none) (src : SqL K H1 a (r.map nv)) (hk : k < σ.length) (hl : r.length ≤ 100000)
    (ht : ∀ x ∈ r, ∀ H Qt, Same H1 H → Qt (keep x) H → tt ((wipe σ [k]).set k (some (nv x))) H Qt) (hd : Qd (upd H1 D (.lst ((r.filter keep).map nv)))) :
    ∃ W : Nat → Nat → Hp → Prop, (∃ m, W 0 m (upd H1 D (.lst []))) ∧ ∀ i m H, W i m H →
      ((Itl K a).stop i H ∧ Qd H) ∨ ((Itl K a).go i H ∧ ∃ Nx : Hp → Prop, (∀ H', Nx H' → ∃ m', m' < m ∧ W (i + 1) m' H') ∧ ∀ x H', (Itl K a).yld i H x H' → gName k x (wipe σ [k]) H' fun σ2 H2 => wipe σ2 [k] = wipe σ [k] ∧ tt σ2 H2 fun b H3 =>
        if b = true then tVar k σ2 H3 fun y H4 => ∃ acc, H4 D = some (.lst acc) ∧ acc.length < sizeLine ∧ Nx (upd H4 D (.lst (acc ++ [y]))) else Nx H3) := by
  refine lc_list (K := K) (a := a) (xs := r.map nv) (fun i H => H = upd H1 D (.lst (((r.take i).filter keep).map nv))) rfl (fun i H _ e => ?_) (fun i x H hx e => ?_) (fun H e => ?_)
  · subst e; exact (same_upd hD).seq src
  · subst e
    rw [List.getElem?_map] at hx
    obtain ⟨z, hz, rfl⟩ := Option.map_eq_some_iff.mp hx
    have hm := List.mem_of_getElem? hz
    refine ⟨wipe1_set σ k _ hk, ht z hm _ _ (same_upd hD) ?_⟩
    have et : r.take (i + 1) = r.take i ++ [z] := by rw [List.take_add_one, hz]; rfl
    cases hkz : keep z with
    | true =>
      refine iteT ⟨nv z, ?_, _, upd_same, ?_, ?_⟩
      · rw [List.getElem?_set_self (by rw [wipe_length]; exact hk)]
      · rw [List.length_map]
        refine small (Nat.le_trans (List.length_filter_le _ _) ?_)
        rw [List.length_take]; omega
      · rw [upd_upd, et, List.filter_append, List.map_append]
        simp [hkz]
    | false =>
      refine iteF ?_
      rw [et, List.filter_append]
      simp [hkz]
  · subst e
    rw [List.length_map, List.take_length]
    exact hd
theorem for_rng {lo : Int} {n : Nat} (m : Nat) (e : n = m) {g : TG} {tb : TS} {D : Ends} {σ : L2.St} {H : Hp} (Pv : Nat → L2.St → Hp → Prop) (h0 : Pv 0 σ H)
    (hs : ∀ i σ H, i < m → Pv i σ H → g (.int (lo + i)) σ H fun σ2 H2 => tb { D with nx := Pv (i + 1), ct := Pv (i + 1), bk := D.nx } σ2 H2) (hd : ∀ σ H, Pv m σ H → D.nx σ H) :
    ∃ W : Nat → Nat → L2.St → Hp → Prop, (∃ m, W 0 m σ H) ∧ ∀ i m σ H, W i m σ H →
      ((Itr lo n).stop i H ∧ D.nx σ H) ∨ ((Itr lo n).go i H ∧ ∃ N : L2.St → Hp → Prop, (∀ σ' H', N σ' H' → ∃ m', m' < m ∧ W (i + 1) m' σ' H') ∧ ∀ x H', (Itr lo n).yld i H x H' → g x σ H' fun σ2 H2 => tb { D with nx := N, ct := N, bk := D.nx } σ2 H2) := by
  subst e
  exact for_range Pv h0 hs hd
theorem lc_rng {lo : Int} {n : Nat} (m : Nat) (e : n = m) {g : TG} {tt : TT} {te : TE} {vs : List Nat} {σ : L2.St} {H1 : Hp} {D : Addr} {Qd : Hp → Prop} (Pv : Nat → Hp → Prop) (h0 : Pv 0 (upd H1 D (.lst [])))
    (hs : ∀ i H, i < m → Pv i H → g (.int (lo + i)) (wipe σ vs) H fun σ2 H2 => wipe σ2 vs = wipe σ vs ∧ tt σ2 H2 fun b H3 =>
      if b = true then te σ2 H3 fun y H4 => ∃ acc, H4 D = some (.lst acc) ∧ acc.length < sizeLine ∧ Pv (i + 1) (upd H4 D (.lst (acc ++ [y]))) else Pv (i + 1) H3) (hd : ∀ H, Pv m H → Qd H) :
    ∃ W : Nat → Nat → Hp → Prop, (∃ m, W 0 m (upd H1 D (.lst []))) ∧ ∀ i m H, W i m H →
      ((Itr lo n).stop i H ∧ Qd H) ∨ ((Itr lo n).go i H ∧ ∃ Nx : Hp → Prop, (∀ H', Nx H' → ∃ m', m' < m ∧ W (i + 1) m' H') ∧ ∀ x H', (Itr lo n).yld i H x H' → g x (wipe σ vs) H' fun σ2 H2 => wipe σ2 vs = wipe σ vs ∧ tt σ2 H2 fun b H3 =>
        if b = true then te σ2 H3 fun y H4 => ∃ acc, H4 D = some (.lst acc) ∧ acc.length < sizeLine ∧ Nx (upd H4 D (.lst (acc ++ [y]))) else Nx H3) := by
  subst e
  exact lc_range Pv h0 hs hd
theorem toNat_len {α : Type} (l : List α) : ((l.length : Nat) : Int).toNat = l.length := rfl
theorem z62 {n : Nat} (h : n ≤ 100000) : -(2 ^ 62) ≤ (n : Int) ∧ (n : Int) < 2 ^ 62 := by omega
theorem Tbl.fresh {H : Hp} {t : Addr} {as : List Addr} {rows : List (List Nat)} (T : Tbl H t as rows) {D : Addr} (hD : H D = none) : D ∉ as ∧ D ≠ t := by
  refine ⟨fun z => ?_, fun z => ?_⟩
  · obtain ⟨j, hj, ej⟩ := List.getElem_of_mem z
    have hj2 : j < rows.length := by rw [← T.len]; exact hj
    have : H D = _ := T.row j D _ (by rw [List.getElem?_eq_getElem hj, ej]) (List.getElem?_eq_getElem hj2)
    rw [hD] at this
    cases this
  · have := T.top
    rw [← z, hD] at this
    cases this
theorem yesI {σ : L2.St} {H : Hp} {f g : Hp → Prop} (h : f H) : tYes σ H (fun b H3 => if b = true then f H3 else g H3) := by
  show (if true = true then f H else g H)
  exact iteT h
end Bk
set_option Elab.async false
set_option linter.all false
namespace Bk
open PySem PySem.Spec PyProof.Rows L2 LamX
/-! ### rows by a function -/
def mkL (n : Nat) (f : Nat → List Nat) : List (List Nat) := (List.range n).map f
theorem mkL_len (n : Nat) (f : Nat → List Nat) : (mkL n f).length = n := by simp [mkL]
theorem mkL_at {n i : Nat} {f : Nat → List Nat} (h : i < n) : (mkL n f)[i]? = some (f i) := by simp [mkL, h]
theorem fn_mkL {n i : Nat} {f : Nat → List Nat} (h : i < n) : fn (mkL n f) i = f i := fn_of (mkL_at h)
theorem mkL_set {n i : Nat} (f : Nat → List Nat) (v : List Nat) : (mkL n f).set i v = mkL n (fun j => if j = i then v else f j) := by
  apply List.ext_getElem?
  intro j
  by_cases hj : j < n
  · rw [mkL_at hj]
    by_cases e : j = i
    · subst e
      rw [List.getElem?_set_self (by rw [mkL_len]; exact hj), if_pos rfl]
    · rw [List.getElem?_set_ne (Ne.symm e), mkL_at hj, if_neg e]
  · rw [List.getElem?_eq_none (by rw [List.length_set, mkL_len]; omega), List.getElem?_eq_none (by rw [mkL_len]; omega)]
theorem mkL_congr {n : Nat} {f g : Nat → List Nat} (h : ∀ i, i < n → f i = g i) : mkL n f = mkL n g := by
  unfold mkL
  exact List.map_congr_left fun i hi => h i (List.mem_range.mp hi)
theorem mkL_fn (rows : List (List Nat)) : mkL rows.length (fn rows) = rows := by
  apply List.ext_getElem?
  intro j
  by_cases hj : j < rows.length
  · rw [mkL_at hj, fn_at hj]
  · rw [List.getElem?_eq_none (by rw [mkL_len]; omega), List.getElem?_eq_none (by omega)]
theorem mutL_mkL (rows : List (List Nat)) : mutL rows = mkL rows.length (mutF rows) := rfl
theorem cutV_drop (xs : List V) (k : Nat) : cutV xs (some (k : Int)) none = xs.drop k := by
  unfold cutV
  rw [HT.sIx_nat, HT.sIx_none]
  by_cases h : k ≤ xs.length
  · rw [Nat.min_eq_left h]
    exact List.take_of_length_le (by rw [List.length_drop]; exact Nat.le_refl _)
  · rw [Nat.min_eq_right (by omega), List.drop_of_length_le (Nat.le_refl _), List.drop_of_length_le (by omega)]
    simp
theorem cutV_take (xs : List V) (k : Nat) : cutV xs none (some (k : Int)) = xs.take k := by
  unfold cutV
  rw [HT.sIx_nat, HT.sIx_none]
  rw [List.drop_zero, Nat.sub_zero]
  by_cases h : k ≤ xs.length
  · rw [Nat.min_eq_left h]
  · rw [Nat.min_eq_right (by omega), List.take_of_length_le (Nat.le_refl _), List.take_of_length_le (by omega)]
theorem before_idx : ∀ {r : List Nat} {m x : Nat}, m < r.idxOf x → r[m]? ≠ some x
  | [], m, x, h => by simp
  | y :: r, 0, x, h => by
    intro e
    simp at e
    subst e
    simp at h
  | y :: r, m + 1, x, h => by
    by_cases e : y = x
    · subst e; simp at h
    · rw [idx_ne _ e] at h
      rw [List.getElem?_cons_succ]
      exact before_idx (by omega)
theorem erase_idx : ∀ {r : List Nat} {x : Nat}, x ∈ r → r.eraseIdx (r.idxOf x) = r.erase x
  | [], x, h => by simp at h
  | y :: r, x, h => by
    by_cases e : y = x
    · subst e; simp
    · rw [idx_ne _ e, List.erase_cons_tail (by simpa using e), List.eraseIdx_cons_succ, erase_idx ((List.mem_cons.mp h).resolve_left (Ne.symm e))]
/-- what list.index is asked, of numbers -/
theorem index_nv {K : PySem.W.Frag} {H : Hp} {a : Addr} {r : List Nat} {x : Nat} {Q : VK} (ha : SqL K H a (r.map nv)) (hx : x ∈ r) (q : Q (nv (r.idxOf x)) H) : rIndex K (.ref a) [nv x] H Q := by
  have hl := idxOf_lt_of_mem hx
  refine ⟨a, r.map nv, nv x, r.idxOf x, nv x, rfl, rfl, ha, rfl, flat_nv _, ?_, ?_, fun m z hm hz => ?_, q⟩
  · rw [List.getElem?_map, List.getElem?_eq_getElem hl, List.getElem_idxOf]; rfl
  · show decide ((x : Int) = (x : Int)) = true; simp
  · rw [List.getElem?_map] at hz
    obtain ⟨y, hy, rfl⟩ := Option.map_eq_some_iff.mp hz
    obtain ⟨hm2, ey⟩ := List.getElem?_eq_some_iff.mp hy
    have : y ≠ x := fun e => before_idx hm (by rw [hy, e])
    show decide ((y : Int) = (x : Int)) = false
    exact decide_eq_false (by omega)
/-- what list.remove is asked, of numbers -/
theorem remove_nv {H : Hp} {a : Addr} {r : List Nat} {x : Nat} {Q : VK} (ha : RowAt H a r) (hx : x ∈ r) (q : Q .non (upd H a (.lst ((r.erase x).map nv)))) : rRemI (.ref a) [nv x] H Q := by
  have hl := idxOf_lt_of_mem hx
  have hmap : ∀ l : List Nat, (l.map Int.ofNat).map V.int = l.map nv := fun l => by rw [List.map_map]; rfl
  refine ⟨a, r.map Int.ofNat, (x : Int), r.idxOf x, rfl, rfl, by rw [hmap]; exact ha, ?_, fun m hm hz => ?_, ?_⟩
  · rw [List.getElem?_map, List.getElem?_eq_getElem hl, List.getElem_idxOf]; rfl
  · rw [List.getElem?_map] at hz
    obtain ⟨y, hy, ey⟩ := Option.map_eq_some_iff.mp hz
    have : y = x := Int.ofNat.inj ey
    exact before_idx hm (by rw [hy, this])
  · have e : (r.map Int.ofNat).eraseIdx (r.idxOf x) = (r.erase x).map Int.ofNat := by
      rw [← erase_idx hx]
      apply List.ext_getElem?
      intro j
      rw [List.getElem?_map, List.getElem?_eraseIdx, List.getElem?_eraseIdx]
      split <;> rw [List.getElem?_map]
    rw [e, hmap]
    exact q
/-! ### somebody or nobody -/
def ov : Option Nat → V
  | none => .non
  | some n => nv n
/-- who holds whom, as a list -/
def hL (n : Nat) (h : Nat → Option Nat) : List V := (List.range n).map fun i => ov (h i)
theorem hL_len (n : Nat) (h : Nat → Option Nat) : (hL n h).length = n := by simp [hL]
theorem hL_at {n i : Nat} {h : Nat → Option Nat} (hi : i < n) : (hL n h)[i]? = some (ov (h i)) := by simp [hL, hi]
theorem hL_set {n b p : Nat} (h : Nat → Option Nat) (hb : b < n) : (hL n h).set b (nv p) = hL n (hold h b p) := by
  apply List.ext_getElem?
  intro j
  by_cases hj : j < n
  · rw [hL_at hj]
    unfold hold
    by_cases e : j = b
    · subst e
      rw [List.getElem?_set_self (by rw [hL_len]; exact hj), if_pos rfl]
      rfl
    · rw [List.getElem?_set_ne (Ne.symm e), hL_at hj, if_neg e]
  · rw [List.getElem?_eq_none (by rw [List.length_set, hL_len]; omega), List.getElem?_eq_none (by rw [hL_len]; omega)]
theorem hL_none (n : Nat) : (List.replicate n [V.non]).flatten = hL n fun _ => none := by
  induction n with
  | zero => rfl
  | succ n ih =>
    have e : hL (n + 1) (fun _ => none) = hL n (fun _ => none) ++ [V.non] := by
      simp only [hL, List.range_succ, List.map_append]
      rfl
    rw [e, ← ih, List.replicate_succ', List.flatten_append]
    rfl
theorem rgV_nv (n : Nat) : rgV 0 (n : Int) = (List.range n).map nv := by
  unfold rgV
  rw [show ((n : Int) - 0).toNat = n by omega]
  apply List.map_congr_left
  intro i _
  show V.int (0 + (i : Int)) = nv i
  rw [Int.zero_add]
theorem ixN_nat {n b : Nat} (h : b < n) : ixN n (b : Int) = some b := by
  unfold ixN
  rw [if_pos (by omega), if_pos (by omega)]
  simp
theorem isNon_ov (o : Option Nat) : decide (ov o = V.non) = o.isNone := by cases o <;> rfl
/-! ### truth -/
def tTru (K : PySem.W.Frag) (ta : TE) : TT := fun σ H Q => ta σ H fun x H' => ∃ k, TruV K x H' k ∧ Q k H'
section
variable {X : Cx} {K : PySem.W.Frag} {a : Expr} {ta : TE}
theorem kpt_tru (ha : PE X a ta) (he : ∀ whole, PySem.isTrue a X.env whole = (do let v ← whole; standAt a.pos; holding [v] (truthy v)) := by intro _; rfl) (h : X.K = K := by rfl) : PT X a (tTru K ta) := by
  subst h
  exact pt_truth ha he
end
theorem tru_list {K : PySem.W.Frag} {H : Hp} {a : Addr} {xs : List V} {Q : Bool → Hp → Prop} (h : SqL K H a xs) (q : Q (!xs.isEmpty) H) : ∃ k, TruV K (.ref a) H k ∧ Q k H := ⟨_, .inl ⟨xs, h, rfl⟩, q⟩
/-! ### a def whose code object is known -/
structure FunC (K : PySem.W.Frag) (x : Str) (st : Stmt) (f : Addr) (fd : FuncData) (c : Addr) : Prop where
  ex : ∃ (oc : Value) (od : Option Addr) (kV doc pm : Value) (an : Option Addr) (ct : Value) (osl : Array (Option Value)),
    fd = PySem.W.fnOf x x (defArgs st) (defBody st) (defScope st) .none kV doc pm an (.ref c) ct ∧ K.lookup f = some ⟨oc, od, .func fd, osl⟩ ∧ PySem.W.codeIn K (.ref c) x = true
theorem FunC.ok {P : Program} {w : World} {K : PySem.W.Frag} {mg : Str → Option Value} {base : Heap} {x : Str} {st : Stmt} {f c : Addr} {fd : FuncData} {N ps : List Str} {k : Nat} {sp : Sp} (F : FunC K x st f fd c) (S : FnScope N ps (defScope st)) (len : ∀ vs H Q E, sp vs H Q E → vs.length = ps.length)
    (hbody : ∀ (A : Around) (outer : List Env) (s : Shared) (H : Hp) (vs : List V) (Q : VK) (E : XK), Room k (A.deeper (envOfC x (defScope st) s.heap.objs.size f (.ref c))) → sp vs H Q E →
      ∃ t, PSs (cxOf CX0 P w K mg base N x (defScope st) f (.ref c) A outer s H E).nox (defBody st) t ∧ t { nx := fun _ H' => Q .non H', rt := Q } (L2.start N vs) H) : FnOk P w K mg base CX0 (k + 1) f fd ps sp := by
  obtain ⟨oc, od, kV, doc, pm, an, ct, osl, rfl, lk, hcd⟩ := F.ex
  refine L2.fn_of lk hcd S len fun A outer s H vs Q E hr hsp => ?_
  obtain ⟨t, h, q⟩ := hbody A outer s H vs Q E hr hsp
  exact ⟨t, h.nox, q⟩
end Bk
set_option Elab.async false
set_option linter.all false
namespace Bk
open PySem PySem.Spec PyProof.Rows L2 LamX
/-! ### numbers, rows and tables compared -/
theorem dp_ints {K : PySem.W.Frag} {H : Hp} : ∀ ns : List Int, DpAll K H (ns.map V.int) (ns.map PyData.int)
  | [] => .nil
  | n :: r => .cons (.int n) (dp_ints r)
theorem lay_ints : ∀ ns : List Int, PyData.canLayAll0 (ns.map PyData.int) = true ∧ PyData.depthAll (ns.map PyData.int) = 0
  | [] => by simp [PyData.canLayAll0, PyData.depthAll]
  | n :: r => by
    have := lay_ints r
    simp only [List.map_cons, PyData.canLayAll0, PyData.canLay0, PyData.depthAll, PyData.depth, this.1, this.2]
    decide
theorem eqv_ints : ∀ ns ms : List Int, PyData.eqvAll (ns.map PyData.int) (ms.map PyData.int) = decide (ns = ms)
  | [], [] => by simp [PyData.eqvAll]
  | [], _ :: _ => by simp [PyData.eqvAll]
  | _ :: _, [] => by simp [PyData.eqvAll]
  | n :: r, m :: q => by
    simp only [List.map_cons, PyData.eqvAll, PyData.eqv, eqv_ints r q]
    by_cases h : n = m <;> simp [h]
/-- somebody or nobody, as data -/
def dO : Option Nat → PyData
  | none => .none
  | some n => .int n
def dRow (r : List Nat) : PyData := .list ((r.map Int.ofNat).map PyData.int)
def dTbl (rows : List (List Nat)) : PyData := .list (rows.map dRow)
def dPair (m : List (Option Nat)) : PyData := .list (m.map dO)
theorem shaped_row (r : List Nat) : SeqAt.shaped (dRow r) = true := by
  have := lay_ints (r.map Int.ofNat)
  unfold SeqAt.shaped dRow
  simp only [PyData.canLay0, PyData.depth, this.1, this.2]
  decide
theorem shaped_tbl (rows : List (List Nat)) : SeqAt.shaped (dTbl rows) = true := by
  have h : ∀ rs : List (List Nat), PyData.canLayAll0 (rs.map dRow) = true ∧ PyData.depthAll (rs.map dRow) ≤ 1 := fun rs => by
    induction rs with
    | nil => simp [PyData.canLayAll0, PyData.depthAll]
    | cons r rs ih =>
      have := lay_ints (r.map Int.ofNat)
      simp only [List.map_cons, PyData.canLayAll0, PyData.depthAll, dRow, PyData.canLay0, PyData.depth, this.1, this.2, ih.1]
      exact ⟨rfl, by omega⟩
  have := h rows
  unfold SeqAt.shaped dTbl
  simp only [PyData.canLay0, PyData.depth, this.1, Bool.true_and]
  exact decide_eq_true (by omega)
theorem shaped_pair (m : List (Option Nat)) : SeqAt.shaped (dPair m) = true := by
  have h : ∀ rs : List (Option Nat), PyData.canLayAll0 (rs.map dO) = true ∧ PyData.depthAll (rs.map dO) = 0 := fun rs => by
    induction rs with
    | nil => simp [PyData.canLayAll0, PyData.depthAll]
    | cons r rs ih => cases r <;> simp [PyData.canLayAll0, PyData.depthAll, dO, PyData.canLay0, PyData.depth, ih.1, ih.2]
  have := h m
  unfold SeqAt.shaped dPair
  simp only [PyData.canLay0, PyData.depth, this.1, this.2]
  decide
theorem eqv_row (r q : List Nat) : PyData.eqv (dRow r) (dRow q) = decide (r = q) := by
  unfold dRow
  simp only [PyData.eqv, eqv_ints]
  by_cases h : r = q
  · subst h; simp
  · rw [decide_eq_false h]
    refine decide_eq_false fun z => h ?_
    exact List.map_inj_right (fun x y e => Int.ofNat.inj e) |>.mp z
theorem eqv_tbl (rows cols : List (List Nat)) : PyData.eqv (dTbl rows) (dTbl cols) = decide (rows = cols) := by
  have h : ∀ rs qs : List (List Nat), PyData.eqvAll (rs.map dRow) (qs.map dRow) = decide (rs = qs) := fun rs => by
    induction rs with
    | nil => intro qs; cases qs <;> simp [PyData.eqvAll]
    | cons r rs ih =>
      intro qs
      cases qs with
      | nil => simp [PyData.eqvAll]
      | cons q qs =>
        simp only [List.map_cons, PyData.eqvAll, eqv_row, ih]
        by_cases h : r = q <;> simp [h]
  unfold dTbl
  simp only [PyData.eqv, h]
theorem eqv_pair (m k : List (Option Nat)) : PyData.eqv (dPair m) (dPair k) = decide (m = k) := by
  have h : ∀ rs qs : List (Option Nat), PyData.eqvAll (rs.map dO) (qs.map dO) = decide (rs = qs) := fun rs => by
    induction rs with
    | nil => intro qs; cases qs <;> simp [PyData.eqvAll]
    | cons r rs ih =>
      intro qs
      cases qs with
      | nil => simp [PyData.eqvAll]
      | cons q qs =>
        simp only [List.map_cons, PyData.eqvAll, ih]
        cases r with
        | none => cases q <;> simp [dO, PyData.eqv]
        | some a =>
          cases q with
          | none => simp [dO, PyData.eqv]
          | some b =>
            simp only [dO, PyData.eqv]
            by_cases e : a = b
            · subst e; simp
            · have : ¬ (a : Int) = (b : Int) := by omega
              simp [e, this]
  unfold dPair
  simp only [PyData.eqv, h]
section
variable {K : PySem.W.Frag} {H : Hp}
theorem dp_row {a : Addr} {r : List Nat} (h : SqL K H a (r.map nv)) : Dp K H (.ref a) (dRow r) := by
  refine .lst h ?_
  rw [map_nv]
  exact dp_ints _
theorem dp_tbl {t : Addr} {as : List Addr} {rows : List (List Nat)} (T : Tbl H t as rows) : Dp K H (.ref t) (dTbl rows) := by
  refine .lst (SqL.of T.top) ?_
  have h : ∀ (l : List Addr) (rs : List (List Nat)), l.length = rs.length → (∀ (i : Nat) (a : Addr) (r : List Nat), l[i]? = some a → rs[i]? = some r → RowAt H a r) → DpAll K H (l.map V.ref) (rs.map dRow) := fun l => by
    induction l with
    | nil => intro rs e _; cases rs with
      | nil => exact .nil
      | cons _ _ => simp at e
    | cons a l ih =>
      intro rs e hr
      cases rs with
      | nil => simp at e
      | cons r rs =>
        refine .cons (dp_row (SqL.of (hr 0 a r rfl rfl))) (ih rs (by simpa using e) fun i b q h1 h2 => hr (i + 1) b q (by simpa using h1) (by simpa using h2))
  exact h as rows T.len T.row
theorem dp_pair {a : Addr} {m : List (Option Nat)} (h : SqL K H a (m.map ov)) : Dp K H (.ref a) (dPair m) := by
  refine .lst h ?_
  have h : ∀ l : List (Option Nat), DpAll K H (l.map ov) (l.map dO) := fun l => by
    induction l with
    | nil => exact .nil
    | cons x l ih => cases x <;> exact .cons (by first | exact .non | exact .int _) ih
  exact h m
theorem ne_ints {a p : Addr} {ns : List Int} {Q : VK} (h : SqL K H a (ns.map V.int)) (hp : H p = some (.lst [])) (q : Q (.bl (!decide (ns = []))) H) : rNeD K (.ref a) (.ref p) H Q := by
  refine ⟨.list (ns.map PyData.int), .list [], .lst h (dp_ints ns), .lst (SqL.of hp) .nil, ?_, by decide, ?_⟩
  · have := lay_ints ns
    unfold SeqAt.shaped
    simp only [PyData.canLay0, PyData.depth, this.1, this.2]
    decide
  · have : PyData.eqv (.list (ns.map PyData.int)) (.list []) = decide (ns = []) := by
      have := eqv_ints ns []
      simp only [PyData.eqv]
      exact this
    rw [this]
    exact q
theorem ne_row {a b : Addr} {r s : List Nat} {Q : VK} (h : SqL K H a (r.map nv)) (h' : SqL K H b (s.map nv)) (q : Q (.bl (!decide (r = s))) H) : rNeD K (.ref a) (.ref b) H Q :=
  ⟨dRow r, dRow s, dp_row h, dp_row h', shaped_row r, shaped_row s, by rw [eqv_row]; exact q⟩
theorem eq_row {a b : Addr} {r s : List Nat} {Q : VK} (h : SqL K H a (r.map nv)) (h' : SqL K H b (s.map nv)) (q : Q (.bl (decide (r = s))) H) : rEqD K (.ref a) (.ref b) H Q :=
  ⟨dRow r, dRow s, dp_row h, dp_row h', shaped_row r, shaped_row s, by rw [eqv_row]; exact q⟩
theorem ne_tbl {a b : Addr} {as bs : List Addr} {r s : List (List Nat)} {Q : VK} (h : Tbl H a as r) (h' : Tbl H b bs s) (q : Q (.bl (!decide (r = s))) H) : rNeD K (.ref a) (.ref b) H Q :=
  ⟨dTbl r, dTbl s, dp_tbl h, dp_tbl h', shaped_tbl r, shaped_tbl s, by rw [eqv_tbl]; exact q⟩
theorem eq_tbl {a b : Addr} {as bs : List Addr} {r s : List (List Nat)} {Q : VK} (h : Tbl H a as r) (h' : Tbl H b bs s) (q : Q (.bl (decide (r = s))) H) : rEqD K (.ref a) (.ref b) H Q :=
  ⟨dTbl r, dTbl s, dp_tbl h, dp_tbl h', shaped_tbl r, shaped_tbl s, by rw [eqv_tbl]; exact q⟩
end
end Bk
set_option Elab.async false
set_option linter.all false
namespace Bk
open PySem PySem.Spec PyProof.Rows L2 LamX
theorem nodup_set {as : List Addr} (hd : as.Nodup) {D : Addr} (hD : D ∉ as) : ∀ (i : Nat), (as.set i D).Nodup := fun i => by
  induction as generalizing i with
  | nil => simp
  | cons b r ih =>
    have hd' := List.nodup_cons.mp hd
    cases i with
    | zero =>
      rw [List.set_cons_zero, List.nodup_cons]
      exact ⟨fun z => hD (List.mem_cons_of_mem _ z), hd'.2⟩
    | succ i =>
      rw [List.set_cons_succ, List.nodup_cons]
      refine ⟨fun z => ?_, ih hd'.2 (fun z => hD (List.mem_cons_of_mem _ z)) i⟩
      rcases List.mem_or_eq_of_mem_set z with z | z
      · exact hd'.1 z
      · exact hD (by rw [← z]; exact List.mem_cons_self)
/-- another object in the place of a row -/
theorem Tbl.replace {H : Hp} {t : Addr} {as : List Addr} {rows : List (List Nat)} (T : Tbl H t as rows) {one : Nat} {D : Addr} {r : List Nat} (h1 : one < rows.length) (f1 : D ∉ as) (f2 : D ≠ t) (hr : RowAt H D r) :
    Tbl (upd H t (.lst ((as.map V.ref).set one (.ref D)))) t (as.set one D) (rows.set one r) := by
  have hol : one < as.length := by rw [T.len]; exact h1
  refine ⟨?_, by simp [T.len], nodup_set T.nd f1 one, ?_, fun i b q e1 e3 => ?_⟩
  · rw [upd_same, List.map_set]
  · intro z
    rcases List.mem_or_eq_of_mem_set z with z | z
    · exact T.out z
    · exact f2 z.symm
  · have nb : b ≠ t := by
      rintro rfl
      rcases List.mem_or_eq_of_mem_set (List.mem_of_getElem? e1) with z | z
      · exact T.out z
      · exact f2 z.symm
    show upd H t _ b = _
    rw [upd_ne nb]
    by_cases e : i = one
    · subst e
      rw [List.getElem?_set_self hol] at e1
      rw [List.getElem?_set_self h1] at e3
      cases e1; cases e3
      exact hr
    · rw [List.getElem?_set_ne (Ne.symm e)] at e1 e3
      exact T.row i b q e1 e3
theorem gl_set {rows : List (List Nat)} (g : GL rows) {one : Nat} {r : List Nat} (hd : r.Nodup) (hin : ∀ x ∈ r, x < rows.length ∧ x ≠ one) : GL (rows.set one r) := ⟨fun i q h => by
  rw [List.length_set]
  by_cases e : i = one
  · subst e
    have hi : i < rows.length := by
      have := (List.getElem?_eq_some_iff.mp h).1
      rwa [List.length_set] at this
    rw [List.getElem?_set_self hi] at h
    cases h
    exact ⟨hd, hin⟩
  · rw [List.getElem?_set_ne (Ne.symm e)] at h
    exact g.ok i q h⟩
/-- all others by turns -/
def turns (n i : Nat) : List Nat := (List.range (n - 1)).map fun k => (i + 1 + k) % n
theorem turns_ok {n i : Nat} (hi : i < n) : (turns n i).Nodup ∧ ∀ x ∈ turns n i, x < n ∧ x ≠ i := by
  have md : ∀ k, k < n - 1 → ((i + 1 + k) % n = i + 1 + k ∧ i + 1 + k < n) ∨ ((i + 1 + k) % n + n = i + 1 + k ∧ (i + 1 + k) % n < i) := fun k hk => by
    by_cases h : i + 1 + k < n
    · exact .inl ⟨Nat.mod_eq_of_lt h, h⟩
    · have e : (i + 1 + k) % n = i + 1 + k - n := by
        rw [Nat.mod_eq_sub_mod (by omega), Nat.mod_eq_of_lt (by omega)]
      exact .inr (by omega)
  refine ⟨nodup_map_on List.nodup_range fun x hx y hy e => ?_, fun x hx => ?_⟩
  · have hx := List.mem_range.mp hx
    have hy := List.mem_range.mp hy
    have a := md x hx
    have b := md y hy
    omega
  · obtain ⟨k, hk, rfl⟩ := List.mem_map.mp hx
    have a := md k (List.mem_range.mp hk)
    have := Nat.mod_lt (i + 1 + k) (show 0 < n by omega)
    omega
theorem perm_nat {ns : List Int} {r : List Nat} (h : ns.Perm (r.map Int.ofNat)) : ∃ q : List Nat, ns = q.map Int.ofNat ∧ q.Perm r := by
  refine ⟨ns.map Int.toNat, ?_, ?_⟩
  · rw [List.map_map]
    have : ∀ z ∈ ns, z = (Int.ofNat ∘ Int.toNat) z := fun z hz => by
      obtain ⟨k, _, e⟩ := List.mem_map.mp (h.mem_iff.mp hz)
      subst e
      rfl
    conv => lhs; rw [← List.map_id ns]
    exact List.map_congr_left this
  · have := h.map Int.toNat
    rw [List.map_map] at this
    have e : r.map (Int.toNat ∘ Int.ofNat) = r := by
      conv => rhs; rw [← List.map_id r]
      exact List.map_congr_left fun _ _ => rfl
    rwa [e] at this
theorem map_nv' (r : List Nat) : (r.map Int.ofNat).map V.int = r.map nv := (map_nv r).symm
theorem SqL.extN {K : PySem.W.Frag} {H H' : Hp} {a : Addr} {xs : List V} (e : ExtN H H') (h : SqL K H a xs) : SqL K H' a xs := by
  rcases h with (z | ⟨o, z⟩) | z
  · exact .inl (.inl (e _ _ z (fun ps w => by cases w)))
  · exact .inl (.inr ⟨o, e _ _ z (fun ps w => by cases w)⟩)
  · exact .inr z
theorem Tabs.write {T : List (Addr × Str)} {H : Hp} {t : Addr} {xs ys : List V} (h : Tabs T H) (ht : H t = some (.lst xs)) : Tabs T (upd H t (.lst ys)) := fun p hp => by
  obtain ⟨ps, h1, h2, h3⟩ := h p hp
  refine ⟨ps, by rw [upd_ne (ne_of h1 ht (by intro z; cases z))]; exact h1, h2, fun pos cv hc => ?_⟩
  obtain ⟨c, e1, e2⟩ := h3 pos cv hc
  refine ⟨c, e1, ?_⟩
  rw [upd_ne (ne_of e2 ht (by intro z; unfold CodeO at z; cases z))]
  exact e2
theorem draw2 {m : Int} {n : Nat} (h0 : 0 ≤ m) (hn : 1 < n) : ∃ o1 o2 : Nat, m % (n : Int) = (o1 : Int) ∧ ((o1 : Int) + 1 + m / (n : Int) % ((n : Int) - 1)) % (n : Int) = (o2 : Int) ∧ o1 < n ∧ o2 < n ∧ o2 ≠ o1 := by
  have a1 := Int.emod_nonneg m (show (n : Int) ≠ 0 by omega)
  have a2 := Int.emod_lt_of_pos m (show 0 < (n : Int) by omega)
  have b1 := Int.emod_nonneg (m / (n : Int)) (show (n : Int) - 1 ≠ 0 by omega)
  have b2 := Int.emod_lt_of_pos (m / (n : Int)) (show 0 < (n : Int) - 1 by omega)
  generalize m / (n : Int) % ((n : Int) - 1) = q at *
  obtain ⟨o1, e1⟩ := Int.eq_ofNat_of_zero_le a1
  rw [e1] at a2 ⊢
  have c1 := Int.emod_nonneg ((o1 : Int) + 1 + q) (show (n : Int) ≠ 0 by omega)
  have c2 := Int.emod_lt_of_pos ((o1 : Int) + 1 + q) (show 0 < (n : Int) by omega)
  have c3 : ((o1 : Int) + 1 + q) % (n : Int) = (o1 : Int) + 1 + q ∨ ((o1 : Int) + 1 + q) % (n : Int) = (o1 : Int) + 1 + q - n := by
    by_cases h : (o1 : Int) + 1 + q < n
    · exact .inl (Int.emod_eq_of_lt (by omega) h)
    · right
      rw [← Int.sub_emod_right ((o1 : Int) + 1 + q) (n : Int)]
      exact Int.emod_eq_of_lt (by omega) (by omega)
  obtain ⟨o2, e2⟩ := Int.eq_ofNat_of_zero_le c1
  exact ⟨o1, o2, rfl, e2, by omega, by omega, by omega⟩
theorem Tabs.but {T : List (Addr × Str)} {H H' : Hp} {t : Addr} {xs : List V} (h : Tabs T H) (ht : H t = some (.lst xs)) (f : ∀ x o, x ≠ t → H x = some o → H' x = some o) : Tabs T H' := fun p hp => by
  obtain ⟨ps, h1, h2, h3⟩ := h p hp
  refine ⟨ps, f _ _ (ne_of h1 ht (by intro z; cases z)) h1, h2, fun pos cv hc => ?_⟩
  obtain ⟨c, e1, e2⟩ := h3 pos cv hc
  exact ⟨c, e1, f _ _ (ne_of e2 ht (by intro z; unfold CodeO at z; cases z)) e2⟩
end Bk
set_option Elab.async false
set_option linter.all false
set_option maxRecDepth 100000
set_option maxHeartbeats 4000000
/-! del xs[a:]: a rule of our own over the layer. -/
namespace Bk
open PySem PySem.Spec PyProof.Rows L2
theorem keep_front (a n : Nat) (its : List Value) (hn : its.length = n) (sel : Nat → Bool) (hs : ∀ k, sel k = decide (a ≤ k ∧ k < n)) :
    (its.zipIdx.filterMap fun (x, k) => if sel k then none else some x) = its.take a := by
  have gen : ∀ (l : List Value) (o : Nat), o + l.length = n → (((l.zipIdx o).filterMap fun (x, k) => if sel k then none else some x) = l.take (a - o)) := by
    intro l
    induction l with
    | nil => intro o _; simp
    | cons x r ih =>
      intro o ho
      rw [List.length_cons] at ho
      rw [List.zipIdx_cons, List.filterMap_cons]
      have := ih (o + 1) (by omega)
      rw [this]
      by_cases h : a ≤ o
      · have e : sel o = true := by rw [hs]; exact decide_eq_true ⟨h, by omega⟩
        simp only [e, if_true]
        rw [show a - (o + 1) = 0 by omega, show a - o = 0 by omega]; simp
      · have e : sel o = false := by rw [hs]; exact decide_eq_false (by omega)
        simp only [e, Bool.false_eq_true, if_false]
        rw [show a - o = (a - (o + 1)) + 1 by omega, List.take_succ_cons]
  have := gen its 0 (by omega)
  simpa using this
theorem bounds_tail {a n : Nat} (ha : a ≤ n) : sliceBounds (some (a : Int)) none none n = ((a : Int), (n : Int), 1) := by
  simp only [sliceBounds, Option.getD_none]
  have h1 : ¬ ((a : Int) < 0) := by omega
  simp only [h1, if_false, show (1 : Int) > 0 by decide, if_true]
  congr 1
  omega
section
variable {prog : Program} {w : World} {A : Around} {E : Value → Shared → Prop} {s : Shared}
set_option maxRecDepth 100000 in
theorem delItem_tail {l sl : Addr} {its : List Value} {n : Nat} {vl vu : Value} {a : Nat} {Q : Unit → Shared → Prop}
    (e : s.heap.get? l = some { cls := .type "list", data := .seq its.toArray n }) (hs : s.heap.IsSliceOf sl vl vu .none) (pl : IsPart vl (some (a : Int))) (pu : IsPart vu none)
    (ha : a ≤ its.length) (hz : its.length ≤ sizeLine)
    (h : ∀ f : Array Value → Array Value, f its.toArray = (its.take a).toArray → Q () { s with heap := s.heap.update l (Obj.mapSeq f) }) :
    wpAny (model prog w) A (delItem (.ref l) (.ref sl)) Q E s := by
  have hl : s.heap.IsList l its.toArray := PySem.IsL.isList e
  obtain ⟨os, hos, hcs, hds⟩ := id hs
  have hTs : s.TypeIs (.ref sl) "slice" := ⟨os, hos, hcs⟩
  have nostep : ¬ ((rawPart none == rawInt 0) = true) := Bool.false_ne_true
  have hn : its.toArray.size = its.length := List.size_toArray
  refine wpAny_delItem_slot hl.typeIs (by decide) F.slot_list_delitem ?_
  refine wpAny_call_entry F.slot_list_delitem hl.typeIs F.entry_list_delitem ?_ (F.args_list_delitem_2 _ _)
  show wpAny _ _ (Builtin.List.listSubscript? (.ref sl) >>= _) _ _ s
  refine wpAny_bind ?_
  unfold Builtin.List.listSubscript?
  refine wpAny_bind (wpAny_specialOf hTs slice_no_index ?_)
  simp only [Option.isNone_none, if_true]
  refine wpAny_pure ?_
  show wpAny _ _ (typeOf (.ref sl) >>= _) _ _ s
  refine wpAny_bind (wpAny_typeOf hTs ?_)
  first
    | rw [if_neg (by decide)]
    | refine PySem.W.KFB.if_not (by decide) ?_
  rw [listSliceParts_eq]
  refine wpAny_bind (wpAny_bind (wpAny_field hos hds (x := .none) rfl (wpAny_bind (wpAny_listPart .none ?_))))
  rw [if_neg nostep]
  refine wpAny_bind (wpAny_field hos hds (x := vl) rfl (wpAny_bind (wpAny_listPart pl ?_)))
  refine wpAny_bind (wpAny_field hos hds (x := vu) rfl (wpAny_bind (wpAny_listPart pu (wpAny_pure ?_))))
  dsimp only
  unfold Builtin.List.listItems
  refine wpAny_bind (wpAny_bind (wpAny_seqItems e rfl (wpAny_pure ?_)))
  refine wpAny_bind (wpAny_of_eq ((sliceIndices_raw (some (a : Int)) none none its.toArray.size (by simp)).trans (congrArg (pure : Int × Int × Int → Sem (Int × Int × Int)) (bounds_tail (by omega)))) ?_)
  dsimp only
  refine wpAny_bind (wpAny_rule ?_)
  have hk : ∀ sel : Nat → Bool, (∀ k, sel k = decide (a ≤ k ∧ k < its.length)) → (List.filterMap (fun x : Value × Nat => if sel x.2 = true then none else some x.1) its.toArray.toList.zipIdx).toArray = (its.take a).toArray := fun sel hsel => by
    rw [← keep_front a its.length its rfl sel hsel]
  have hz3 : (its.take a).toArray.size ≤ sizeLine + 1 := by
    rw [List.size_toArray, List.length_take]
    omega
  refine wpAny_bind ?_
  show wpAny _ _ (updateSeq l _) _ _ s
  have hsel : ∀ k : Nat, (if (1 : Int) > 0 then decide ((a : Int) ≤ (k : Int)) && decide ((k : Int) < ((its.toArray.size : Nat) : Int)) && (((k : Int) - (a : Int)) % 1 == 0) else decide (((its.toArray.size : Nat) : Int) < (k : Int)) && decide ((k : Int) ≤ (a : Int)) && (((a : Int) - (k : Int)) % (-1) == 0)) = decide (a ≤ k ∧ k < its.length) := fun k => by
    rw [if_pos (by decide), Int.emod_one, hn]
    have e1 : decide ((a : Int) ≤ (k : Int)) = decide (a ≤ k) := by simp
    have e2 : decide ((k : Int) < (its.length : Int)) = decide (k < its.length) := by simp
    rw [e1, e2, Bool.decide_and]
    simp
  refine wpAny_updateSeq (hz := by rw [hn]; exact hz) (_hz' := ?hz2) e rfl ?_
  case hz2 =>
    refine Nat.le_trans (Nat.le_of_eq (congrArg Array.size ?_)) hz3
    exact hk _ hsel
  refine wpAny_bind (wpAny_letGo ?_)
  first
    | exact wpAny_bind (wpAny_pure (wpAny_pure ⟨.none, rfl, h _ (hk _ hsel)⟩))
    | exact wpAny_pure ⟨.none, rfl, h _ (hk _ hsel)⟩
end
section
variable {X : Cx}
/-- del xs[a:] of a list of ours -/
def tDelTail (to ti : TE) : TS := fun D σ H => to σ H fun x H1 => ti σ H1 fun y H2 => ∃ (l : Addr) (xs : List V) (a : Nat), x = .ref l ∧ y = .int a ∧ H2 l = some (.lst xs) ∧ a ≤ xs.length ∧ D.nx σ (upd H2 l (.lst (xs.take a)))
theorem ps_delTail {o i : Expr} {to ti : TE} {tpos ipos pos : Pos} (ho : PE X o to) (hi : PE X i ti) : PS X (.Delete [.Subscript o (.Slice (some i) none none ipos) tpos] pos) (tDelTail to ti) := by
  refine ⟨fun pins s σ H D I h => ?_⟩
  refine wpAny_Delete (wpAny_deleteEach_cons (wpAny_delete_Subscript (thn (ho.run pins s σ H _ I h) fun u s1 ⟨x, H1, I1, rx, q1⟩ => ?_)))
  refine wpAny_Slice ?_
  rw [evalPart_some, evalPart_none]
  refine thn (hi.run pins s1 σ H1 _ I1 q1) fun iv s2 ⟨y, H2, I2, ry, q2⟩ => ?_
  refine wpAny_pure (wpAny_pure ?_)
  obtain ⟨l, xs, a, ex, ey, hH, ha, q⟩ := q2
  subst ex
  subst ey
  cases (show u = Value.ref l from rx)
  obtain ⟨t, rfl⟩ := (show ∃ t, iv = Value.int a t from ry)
  have I3 : Inv X pins σ H2 { s2 with heap := s2.heap.push { cls := .type "slice", data := .fields #[.int a t, .none, .none] } } := I2.kept (t' := s2.toks) fun b ob q => Heap.get?_push_of_some _ q
  obtain ⟨z, its, n, r, hl, e⟩ := I3.lstM hH
  refine delItem_tail e (Heap.IsSliceOf.new ..) (.int _ _) .none (by omega) (by omega) fun f hf => wpAny_deleteEach_nil ⟨σ, _, ?_, q⟩
  refine I3.lset (its' := its.take a) (t' := s2.toks) hH e hf (r.take a) ?_
  rw [List.length_take]
  omega
end
end Bk
set_option Elab.async false
set_option linter.all false
set_option maxRecDepth 100000
set_option maxHeartbeats 4000000
/-! sorted(xs, key=lambda one: ..) where the lambda captures names: a rule of our own. -/
namespace Bk
open PySem PySem.Spec PyProof.Rows L2 LamX
abbrev keyArgs (p : Pos) : Arguments := { posonlyargs := [], args := [{ arg := "_law_one", annotation := none, pos := p }], vararg := none, kwonlyargs := [], kw_defaults := [], kwarg := none, defaults := [] }
abbrev keyBody (q1 q2 q3 q4 q5 q6 q7 q8 q9 q10 q11 q12 q13 : Pos) : Expr :=
  .BinOp (.BinOp (.BinOp (.Name "_law_one" q1) .Sub (.Name "_law_person" q2) q3) .Mult (.BinOp (.BinOp (.BinOp (.Name "_law_first" q4) .FloorDiv (.Constant (.int 300) 0 q5) q6) .Mod (.Constant (.int 7) 0 q7) q8) .Add (.Constant (.int 1) 0 q9) q10) q11) .Mod (.Constant (.int 61) 0 q12) q13
abbrev keyScope : Scope := { kind := .function, names := [(Str.ofString "_law_one", .local), (Str.ofString "_law_first", .free), (Str.ofString "_law_person", .free)], isGenerator := false, isCoroutine := false, more := [] }
/-- the key of one -/
def keyOf (first person one : Int) : Int := ((one - person) * (first / 300 % 7 + 1)) % 61
section
variable {prog : Program} {w : World} {A : Around} {E : Value → Shared → Prop} {s : Shared}
theorem key_body {env : Env} {first person one : Int} {t1 t2 t3 : Tok} {c1 c2 : Addr} {m : Str → Option Value} {q1 q2 q3 q4 q5 q6 q7 q8 q9 q10 q11 q12 q13 : Pos} {Q : Value → Shared → Prop}
    (hs : env.scope = keyScope) (hn : s.heap.Ns env.locals m) (ho : m "_law_one" = some (.int one t1))
    (l1 : env.cells.lookup (Str.ofString "_law_first") = some c1) (h1 : s.heap.IsCell c1 (some (.int first t2))) (l2 : env.cells.lookup (Str.ofString "_law_person") = some c2) (h2 : s.heap.IsCell c2 (some (.int person t3)))
    (hf : 0 ≤ first ∧ first < 2147483648)
    (h : ∀ tk t, Q (.int (keyOf first person one) t) { s with toks := tk }) :
    wpAny (model prog w) A (eval (keyBody q1 q2 q3 q4 q5 q6 q7 q8 q9 q10 q11 q12 q13) env) Q E s := by
  have hk : env.scope.kind = .function := by rw [hs]
  have k0 : env.kindOf "_law_one" = some .local := by unfold Env.kindOf; rw [hs]; rfl
  have k1 : env.kindOf "_law_first" = some .free := by unfold Env.kindOf; rw [hs]; rfl
  have k2 : env.kindOf "_law_person" = some .free := by unfold Env.kindOf; rw [hs]; rfl
  obtain ⟨hp, g, d, tk, os⟩ := s
  refine wpAny_BinOp (wpAny_BinOp (wpAny_BinOp (wpAny_Name (wpAny_loadName_local hk k0 hn ho ?_) (by decide))))
  refine wpAny_Name (wpAny_loadName_free hk k2 l2 h2 ?_ (by decide)) (by decide)
  refine sub_int ?_
  refine wpAny_BinOp (wpAny_BinOp (wpAny_BinOp (wpAny_Name (wpAny_loadName_free hk k1 l1 h1 ?_ (by decide)) (by decide))))
  refine wpAny_Constant_int ?_
  refine floordiv_int (by decide) ?_ (.inl (PyProof.noPylong_small (by decide)))
  rw [Int.fdiv_eq_ediv_of_nonneg first (by decide)]
  refine wpAny_Constant_int ?_
  refine mod_int' (by decide) ?_
  rw [Int.fmod_eq_emod_of_nonneg _ (by decide)]
  refine wpAny_Constant_int ?_
  refine add_int ?_
  have a1 := Int.emod_nonneg (first / 300) (show (7 : Int) ≠ 0 by decide)
  have a2 := Int.emod_lt_of_pos (first / 300) (show (0 : Int) < 7 by decide)
  refine mul_int ?_ (.of_right (intBits_le_64 (by omega) (by omega)))
  refine wpAny_Constant_int ?_
  refine mod_int' (by decide) ?_
  rw [Int.fmod_eq_emod_of_nonneg _ (by decide)]
  exact h _ _
end
theorem each_ints : ∀ {us : List Value} {ns : List Int}, IntsAre us ns → PySem.W.EachIs (fun v (n : Int) => ∃ t, v = Value.int n t) us ns
  | _, _, .nil => .nil
  | _, _, .cons n t h => .cons ⟨t, rfl⟩ (each_ints h)
theorem ints_each : ∀ {us : List Value} {ns : List Int}, PySem.W.EachIs (fun v (n : Int) => ∃ t, v = Value.int n t) us ns → Vals (ns.map V.int) us
  | _, _, .nil => .nil
  | _, _, .cons h r => .cons h (ints_each r)
section
variable {X : Cx} {T : List (Addr × Str)} {c P : Addr}
def tSortLam (K : PySem.W.Frag) (T : List (Addr × Str)) (i1 i2 : Nat) (te : TE) : TE := fun σ H Q => te σ H fun x H1 => ∃ (a : Addr) (ns : List Int) (first person : Int),
  x = .ref a ∧ SqL K H1 a (ns.map V.int) ∧ σ[i1]? = some (some (.int first)) ∧ σ[i2]? = some (some (.int person)) ∧ 0 ≤ first ∧ first < 2147483648 ∧ Tabs T H1 ∧
  ∀ (ns' : List Int) (H2 : Hp) (p : Addr), ns'.Perm ns → ExtN H1 H2 → Tabs T H2 → H2 p = none → Q (.ref p) (upd H2 p (.lst (ns'.map V.int)))
theorem pe_sortLam {i1 i2 : Nat} {e : Expr} {te : TE} {p1 p2 p3 lpos pos q1 q2 q3 q4 q5 q6 q7 q8 q9 q10 q11 q12 q13 : Pos}
    (hg : Gl X "sorted") (hm : X.mg "sorted" = none) (he : PE X e te) (TB : TabB X.base X.mg c P) (hcode : X.env.code = .ref c)
    (hT : (P, X.env.qual ++ "<lambda>") ∈ T) (hu : ∀ p ∈ T, p.1 = P → p.2 = X.env.qual ++ "<lambda>") (hr : Room 3 X.A)
    (n1 : X.N[i1]? = some (Str.ofString "_law_first")) (n2 : X.N[i2]? = some (Str.ofString "_law_person"))
    (k1 : X.env.scope.names.lookup (Str.ofString "_law_first") = some .cell) (k2 : X.env.scope.names.lookup (Str.ofString "_law_person") = some .cell)
    (hs : backTo pos (starEach [e] X.env) = (false, eval e X.env) :: backTo pos (starEach [] X.env) := by rfl) :
    PE X (.Call (.Name "sorted" p1) [e] [⟨some "key", .Lambda (keyArgs p2) (keyBody q1 q2 q3 q4 q5 q6 q7 q8 q9 q10 q11 q12 q13) keyScope lpos, p3⟩] pos) (tSortLam X.K T i1 i2 te) := by
  refine ⟨fun pins s σ H Q I h => ?_⟩
  refine wpAny_Call_Name_kw (ld_blt (u := .builtin "sorted") I hg hm (by decide +kernel) ?_ (by decide) (by decide))
  refine PyProof.Rows.callWith_kw ?_ hs (by rw [hs]; rfl) (by rfl) (by rfl)
  rw [hs]
  refine Calls.spliced_cons (thn (he.run pins s σ H _ I h) fun u s1 ⟨x, H1, I1, r1, q⟩ => ?_)
  refine Calls.spliced_nil ?_
  obtain ⟨a, ns, first, person, rfl, hS, e1, e2, f0, f1, hTT, q⟩ := q
  obtain rfl : u = Value.ref a := r1
  show wpAny _ _ (evalAll ((do let v ← eval (.Lambda (keyArgs p2) (keyBody q1 q2 q3 q4 q5 q6 q7 q8 q9 q10 q11 q12 q13) keyScope lpos) X.env; standAt pos; pure v) :: [])) _ _ s1
  have has : ∀ y ∈ keyScope.names, y.2 = .free → ∃ c, X.env.cells.lookup y.1 = some c := fun y hy e => by
    have : y = (Str.ofString "_law_one", .local) ∨ y = (Str.ofString "_law_first", .free) ∨ y = (Str.ofString "_law_person", .free) := by simpa using hy
    rcases this with z | z | z <;> subst z
    · cases e
    · exact I.ok.has _ (.inl k1)
    · exact I.ok.has _ (.inl k2)
  refine wpAny_evalAll_cons (wpAny_bind (lam_make2 I1 TB hcode hT hu hTT (by rfl) has fun f c' pm ctv H2 s2 I2 xt T2 hf hfn hfr hc' => wpAny_bind (wpAny_standAt (wpAny_pure ?_))))
  refine wpAny_evalAll_nil ?_
  show wpAny _ _ (call (.builtin "sorted") [.ref a] [(Str.ofString "key", .ref f)]) _ _ s2
  have hS2 : SqL X.K H2 a (ns.map V.int) := by
    rcases hS with (z | ⟨o, z⟩) | z
    · exact .inl (.inl (xt _ _ z (fun ps w => by cases w)))
    · exact .inl (.inr ⟨o, xt _ _ z (fun ps w => by cases w)⟩)
    · exact .inr z
  obtain ⟨its, rv, hl, hz⟩ := I2.list hS2
  have hi := rv.ints
  rw [List.length_map] at hz
  have each := each_ints hi
  have slot : ∀ {i : Nat} {y : Str} {z : Int}, X.N[i]? = some y → σ[i]? = some (some (.int z)) → X.env.scope.names.lookup y = some .cell → ∃ c t, X.env.cells.lookup y = some c ∧ s2.heap.IsCell c (some (.int z t)) := fun {i y z} a1 a2 a3 => by
    obtain ⟨m, _, hm⟩ := I2.loc
    obtain ⟨w, ⟨t, rfl⟩, l⟩ := hm i y _ a1 a2 (.inr (.inl a3))
    rcases l with ⟨l, _⟩ | ⟨_, c, l1, l2⟩
    · have l : X.env.scope.names.lookup y = some .local := l
      rw [a3] at l
      cases l
    · exact ⟨c, t, l1, l2⟩
  obtain ⟨d1, t1, g1, g2⟩ := slot n1 e1 k1
  obtain ⟨d2, t2, g3, g4⟩ := slot n2 e2 k2
  obtain ⟨⟨oc, vs, tq, hoc, hdc, hvc⟩, _, _⟩ := I2.hok c' _ hc'
  refine PySem.W.sorted_key_data (b := false) (fun n : Int => PyData.int (keyOf first person n)) hl.isList each (PySem.W.AllAlike.of fun _ _ => by simp [PySem.W.alike]) (PySem.W.Sortable.others fun n => ⟨fun z => (nomatch z), fun xs z => (nomatch z)⟩) hz (fun n _ => ?_)
    (ksk_s1 _ _) (fun _ => ksk_l1 _ _) (fun _ => ksk_t1 _ _) (fun v n ⟨t, ev⟩ _ h tk kp => ?_) fun out cc h' tk kp fresh hD hlen eo => ?_
  · have := hr.un
    have hd : (PyData.int (keyOf first person n)).depth = 0 := by simp [PyData.depth]
    omega
  · subst ev
    refine wpAny_call (PySem.W.kla_callFunE hr.depth (kp _ _ hf) rfl rfl rfl rfl ⟨c', oc, vs, tq, rfl, kp _ _ hoc, hdc, hvc⟩ ?_)
    rw [show bindArgs (PySem.W.kla_fn "<lambda>" (X.env.qual ++ "<lambda>") (keyArgs p2) (keyBody q1 q2 q3 q4 q5 q6 q7 q8 q9 q10 q11 q12 q13) keyScope (cloFrom X.env.cells keyScope.names []) pm (.ref c') ctv) ⟨[.int n t], []⟩ = pure [(Str.ofString "_law_one", Value.int n t)] from rfl]
    refine wpAny_pure (wpAny_newFunctionEnv (fun y hy => ?_) (fun y hy => ?_) (fun h₁ hns hsb => ⟨(I2.nolimit.keeps kp).fresh _ hsb, ?_⟩) rfl)
    · have : y = (Str.ofString "_law_one", .local) ∨ y = (Str.ofString "_law_first", .free) ∨ y = (Str.ofString "_law_person", .free) := by simpa using hy
      rcases this with z | z | z <;> subst z <;> (intro z; cases z)
    · have : y = (Str.ofString "_law_one", Value.int n t) := by simpa using hy
      subst this
      rfl
    · show codeAny _ _ (.expr (keyBody q1 q2 q3 q4 q5 q6 q7 q8 q9 q10 q11 q12 q13) (PySem.W.envX (X.env.qual ++ "<lambda>") keyScope h.objs.size f (.ref c') (cloFrom X.env.cells keyScope.names []))) _ _
      have hk1 : ∀ b o, h.get? b = some o → h₁.get? b = some o := fun b o e => hsb.extBut b o (Nat.ne_of_lt (Heap.lt_size e)) (Heap.get?_push_of_some _ e)
      have cellK : ∀ {c : Addr} {v : Value}, s2.heap.IsCell c (some v) → h₁.IsCell c (some v) := fun {c v} ⟨o, ho, hd⟩ => ⟨o, hk1 _ _ (kp _ _ ho), hd⟩
      refine PySem.W.kla_codeExpr (key_body (s := { s2 with heap := h₁, toks := tk + ([(Str.ofString "_law_one", Value.int n t)] : List (Str × Value)).length }) (c1 := d1) (c2 := d2) (one := n) (t1 := t) (t2 := t1) (t3 := t2) rfl hns rfl ?_ (cellK g2) ?_ (cellK g4) ⟨f0, f1⟩ fun tk' t' => ?_)
      · show List.lookup (Str.ofString "_law_first") (cloFrom X.env.cells keyScope.names []) = some d1
        rw [show List.lookup (Str.ofString "_law_first") (cloFrom X.env.cells keyScope.names []) = some ((X.env.cells.lookup (Str.ofString "_law_first")).getD 0) from rfl, g1]
        rfl
      · show List.lookup (Str.ofString "_law_person") (cloFrom X.env.cells keyScope.names []) = some d2
        rw [show List.lookup (Str.ofString "_law_person") (cloFrom X.env.cells keyScope.names []) = some ((X.env.cells.lookup (Str.ofString "_law_person")).getD 0) from rfl, g3]
        rfl
      · exact ⟨h₁, tk', rfl, hk1, .int _ _⟩
  · have perm := List.mergeSort_perm ns (PySem.W.dataLe false fun n : Int => PyData.int (keyOf first person n))
    have hn : H2 (s2.heap.objs.size + 1) = none := I2.hok.fresh (Nat.le_succ _)
    refine ⟨.ref (s2.heap.objs.size + 1), upd H2 (s2.heap.objs.size + 1) (.lst ((ns.mergeSort (PySem.W.dataLe false fun n : Int => PyData.int (keyOf first person n))).map V.int)), I2.laidN (t' := tk) kp fresh hn ⟨?_, out, cc, ints_each eo, hD⟩, rfl, q _ _ _ perm xt T2 hn⟩
    rw [List.length_map, perm.length_eq]
    exact hz
end
end Bk
set_option linter.all false
/-! Pairings as the laws draw and judge them. Core Lean. -/
namespace Bk
/-- whether one stands on a row, ahead of another one (or where that one is none) -/
def betterF (r : List Nat) (one : Nat) (other : Option Nat) : Bool := match r with
  | [] => false
  | x :: r => if x = one then true else if some x = other then false else betterF r one other
theorem better_iff : ∀ (r : List Nat) (one : Nat) (other : Option Nat), betterF r one other = true ↔ one ∈ r ∧ ∀ o, other = some o → r.idxOf one ≤ r.idxOf o
  | [], one, other => by simp [betterF]
  | x :: r, one, other => by
    unfold betterF
    by_cases h1 : x = one
    · subst h1
      simp
    · rw [if_neg h1]
      by_cases h2 : some x = other
      · rw [if_pos h2]
        subst h2
        simp only [Bool.false_eq_true, false_iff]
        rintro ⟨_, h⟩
        have := h x rfl
        rw [idx_ne _ h1] at this
        simp at this
      · rw [if_neg h2, better_iff r one other]
        constructor
        · rintro ⟨a, b⟩
          refine ⟨List.mem_cons_of_mem _ a, fun o ho => ?_⟩
          have ne : x ≠ o := fun e => h2 (by rw [ho, e])
          rw [idx_ne _ h1, idx_ne _ ne]
          have := b o ho
          omega
        · rintro ⟨a, b⟩
          refine ⟨(List.mem_cons.mp a).resolve_left (Ne.symm h1), fun o ho => ?_⟩
          have ne : x ≠ o := fun e => h2 (by rw [ho, e])
          have := b o ho
          rw [idx_ne _ h1, idx_ne _ ne] at this
          omega
/-- the mate told at a place -/
abbrev mO (m : List (Option Nat)) (i : Nat) : Option Nat := m.getD i none
theorem mO_of {m : List (Option Nat)} {i : Nat} {x : Option Nat} (h : m[i]? = some x) : mO m i = x := by
  simp [mO, List.getD_eq_getElem?_getD, h]
theorem mO_at {m : List (Option Nat)} {i : Nat} (h : i < m.length) : m[i]? = some (mO m i) := by
  simp [mO, List.getD_eq_getElem?_getD, h]
theorem mO_out {m : List (Option Nat)} {i : Nat} (h : m.length ≤ i) : mO m i = none := by
  simp [mO, List.getD_eq_getElem?_getD, h]
/-- whether two spoil a pairing, by the law's look -/
def spB (R : Nat → List Nat) (m : List (Option Nat)) (i j : Nat) : Bool := betterF (R i) j (mO m i) && (betterF (R j) i (mO m j) && !decide (mO m i = some j))
/-- the pairs that spoil it, rising -/
def spRow (R : Nat → List Nat) (m : List (Option Nat)) (i lo k : Nat) : List (Nat × Nat) := (((List.range k).map (lo + ·)).filter (spB R m i)).map fun j => (i, j)
def spL (n : Nat) (R : Nat → List Nat) (m : List (Option Nat)) (k : Nat) : List (Nat × Nat) := (List.range k).flatMap fun i => spRow R m i (i + 1) (n - (i + 1))
theorem spL_nil {n : Nat} {R : Nat → List Nat} {m : List (Option Nat)} (h : spL n R m n = []) {i j : Nat} (hij : i < j) (hj : j < n) : spB R m i j = false := by
  unfold spL at h
  rw [List.flatMap_eq_nil_iff] at h
  have h1 := h i (List.mem_range.mpr (by omega))
  unfold spRow at h1
  rw [List.map_eq_nil_iff, List.filter_eq_nil_iff] at h1
  have := h1 j (List.mem_map.mpr ⟨j - (i + 1), List.mem_range.mpr (by omega), by omega⟩)
  simpa using this
/-! ### the first ones are paired -/
structure VP (R : Nat → List Nat) (done : List (Option Nat)) : Prop where
  on : ∀ i j : Nat, done[i]? = some (some j) → j ∈ R i
  back : ∀ i j : Nat, done[i]? = some (some j) → j < done.length → done[j]? = some (some i)
  one : ∀ i i' j : Nat, done[i]? = some (some j) → done[i']? = some (some j) → i = i'
section
variable {R : Nat → List Nat} {done : List (Option Nat)}
theorem VP.nil : VP R [] := ⟨fun i j h => by simp at h, fun i j h => by simp at h, fun i i' j h => by simp at h⟩
theorem at_snoc {x : Option Nat} {i : Nat} {y : Option Nat} (h : (done ++ [x])[i]? = some y) : (i < done.length ∧ done[i]? = some y) ∨ (i = done.length ∧ x = y) := by
  by_cases hi : i < done.length
  · rw [List.getElem?_append_left hi] at h
    exact .inl ⟨hi, h⟩
  · rw [List.getElem?_append_right (by omega)] at h
    have : i - done.length = 0 := by
      have := (List.getElem?_eq_some_iff.mp h).1
      simp at this
      omega
    rw [this] at h
    simp at h
    exact .inr ⟨by omega, h⟩
theorem snoc_left {x : Option Nat} {i : Nat} (h : i < done.length) : (done ++ [x])[i]? = done[i]? := List.getElem?_append_left h
theorem snoc_last {x : Option Nat} : (done ++ [x])[done.length]? = some x := by simp
theorem lt_of_at {α : Type} {l : List α} {i : Nat} {y : α} (h : l[i]? = some y) : i < l.length := (List.getElem?_eq_some_iff.mp h).1
/-- the next one was chosen already -/
theorem VP.chosen (mu : ∀ i j, j ∈ R i → i ∈ R j) (v : VP R done) {i : Nat} (h : done[i]? = some (some done.length)) : VP R (done ++ [some i]) := by
  refine ⟨fun a b ha => ?_, fun a b ha hb => ?_, fun a a' b ha ha' => ?_⟩
  · rcases at_snoc ha with ⟨_, h1⟩ | ⟨rfl, e⟩
    · exact v.on a b h1
    · cases e
      exact mu _ _ (v.on i _ h)
  · rw [List.length_append, List.length_singleton] at hb
    rcases at_snoc ha with ⟨hl, h1⟩ | ⟨rfl, e⟩
    · by_cases hbl : b < done.length
      · rw [snoc_left hbl]
        exact v.back a b h1 hbl
      · have : b = done.length := by omega
        subst this
        rw [snoc_last, v.one a i _ h1 h]
    · cases e
      rw [snoc_left (lt_of_at h)]
      exact h
  · have key : ∀ a : Nat, done[a]? = some (some i) → False := fun a ha => by
      have := v.back a i ha (lt_of_at h)
      rw [h] at this
      have e : done.length = a := by simpa using this
      have := lt_of_at ha
      omega
    rcases at_snoc ha with ⟨_, h1⟩ | ⟨rfl, e⟩ <;> rcases at_snoc ha' with ⟨_, h2⟩ | ⟨rfl, e'⟩
    · exact v.one a a' b h1 h2
    · cases e'; exact (key a h1).elim
    · cases e; exact (key a' h2).elim
    · rfl
/-- the next one takes a later one who is free, or nobody -/
theorem VP.take (v : VP R done) (hn : ∀ i : Nat, done[i]? ≠ some (some done.length)) {x : Option Nat} (hx : ∀ j, x = some j → j ∈ R done.length ∧ done.length < j ∧ ∀ i : Nat, done[i]? ≠ some (some j)) : VP R (done ++ [x]) := by
  refine ⟨fun a b ha => ?_, fun a b ha hb => ?_, fun a a' b ha ha' => ?_⟩
  · rcases at_snoc ha with ⟨_, h1⟩ | ⟨rfl, e⟩
    · exact v.on a b h1
    · exact (hx b e).1
  · rw [List.length_append, List.length_singleton] at hb
    rcases at_snoc ha with ⟨hl, h1⟩ | ⟨rfl, e⟩
    · by_cases hbl : b < done.length
      · rw [snoc_left hbl]
        exact v.back a b h1 hbl
      · have : b = done.length := by omega
        subst this
        exact (hn a h1).elim
    · have := (hx b e).2.1
      omega
  · rcases at_snoc ha with ⟨_, h1⟩ | ⟨rfl, e⟩ <;> rcases at_snoc ha' with ⟨_, h2⟩ | ⟨rfl, e'⟩
    · exact v.one a a' b h1 h2
    · exact ((hx b e').2.2 a h1).elim
    · exact ((hx b e).2.2 a' h2).elim
    · rfl
theorem VP.pair {n : Nat} (v : VP R done) (hl : done.length = n) (hn : ∀ i x, x ∈ R i → x < n) : PairOk R (mO done) := by
  have at_ : ∀ p q, mO done p = some q → done[p]? = some (some q) := fun p q e => by
    by_cases hp : p < done.length
    · rw [mO_at hp, e]
    · rw [mO_out (by omega)] at e; cases e
  refine ⟨fun p q e => v.on p q (at_ p q e), fun p q e => ?_⟩
  have h1 := at_ p q e
  exact mO_of (v.back p q h1 (by rw [hl]; exact hn p q (v.on p q h1)))
theorem good_of {n : Nat} (L : Lists R) (hR : ∀ i x, x ∈ R i → i < n ∧ x < n) {m : List (Option Nat)} (pk : PairOk R (mO m)) (hs : spL n R m n = []) : Good R (mO m) := by
  refine ⟨pk, fun p b ⟨h1, h2, h3⟩ => ?_⟩
  have key : ∀ p b, p < b → b ∈ R p → Wants R (mO m) p b → Wants R (mO m) b p → False := fun p b hlt h1 h2 h3 => by
    have := spL_nil hs hlt (hR p b h1).2
    have e1 : betterF (R p) b (mO m p) = true := (better_iff _ _ _).mpr ⟨h1, fun o ho => Nat.le_of_lt (h2 o ho)⟩
    have e2 : betterF (R b) p (mO m b) = true := (better_iff _ _ _).mpr ⟨L.mu _ _ h1, fun o ho => Nat.le_of_lt (h3 o ho)⟩
    have e3 : mO m p ≠ some b := fun e => Nat.lt_irrefl _ (h2 b e)
    unfold spB at this
    rw [e1, e2, decide_eq_false e3] at this
    cases this
  by_cases h : p < b
  · exact key p b h h1 h2 h3
  · by_cases h' : b < p
    · exact key b p h' (L.mu _ _ h1) h3 h2
    · have : p = b := by omega
      subst this
      exact L.ir p h1
end
end Bk
set_option Elab.async false
set_option linter.all false
namespace Bk
open PySem PySem.Spec PyProof.Rows L2 LamX
/-- a list of pairs -/
structure PairsAt (H : Hp) (D : Addr) (ps : List (Nat × Nat)) : Prop where
  ex : ∃ as : List Addr, H D = some (.lst (as.map V.ref)) ∧ as.length = ps.length ∧ ∀ (i : Nat) (a : Addr) (p : Nat × Nat), as[i]? = some a → ps[i]? = some p → H a = some (.tup [nv p.1, nv p.2])
theorem PairsAt.same {H H' : Hp} {D : Addr} {ps : List (Nat × Nat)} (h : PairsAt H D ps) (e : Same H H') : PairsAt H' D ps := by
  obtain ⟨as, h1, h2, h3⟩ := h.ex
  exact ⟨as, e _ _ h1, h2, fun i a p e1 e2 => e _ _ (h3 i a p e1 e2)⟩
theorem PairsAt.nil {H : Hp} {D : Addr} (h : H D = some (.lst [])) : PairsAt H D [] := ⟨[], h, rfl, fun i a p e _ => by simp at e⟩
theorem pairs_snoc {H : Hp} {D T : Addr} {ps : List (Nat × Nat)} {i j : Nat} {as : List Addr} (h1 : H D = some (.lst (as.map V.ref))) (h2 : as.length = ps.length) (h3 : ∀ (i : Nat) (a : Addr) (p : Nat × Nat), as[i]? = some a → ps[i]? = some p → H a = some (.tup [nv p.1, nv p.2])) (hT : H T = none) :
    PairsAt (upd (upd H T (.tup [nv i, nv j])) D (.lst (as.map V.ref ++ [.ref T]))) D (ps ++ [(i, j)]) := by
  have hDT : T ≠ D := fun z => by rw [z, h1] at hT; cases hT
  refine ⟨as ++ [T], by rw [upd_same, List.map_append]; rfl, by simp [h2], fun k a p e1 e2 => ?_⟩
  by_cases hk : k < as.length
  · rw [List.getElem?_append_left hk] at e1
    rw [List.getElem?_append_left (by omega)] at e2
    have := h3 k a p e1 e2
    have n1 : a ≠ D := fun z => by rw [z, h1] at this; cases this
    have n2 : a ≠ T := fun z => by rw [z, hT] at this; cases this
    rw [upd_ne n1, upd_ne n2]
    exact this
  · have hk' := (List.getElem?_eq_some_iff.mp e1).1
    rw [List.length_append, List.length_singleton] at hk'
    have : k = as.length := by omega
    subst this
    rw [List.getElem?_append_right (Nat.le_refl _), Nat.sub_self] at e1
    rw [h2, List.getElem?_append_right (Nat.le_refl _), Nat.sub_self] at e2
    simp at e1 e2
    subst e1; subst e2
    rw [upd_ne hDT, upd_same]
theorem scal_ov (o : Option Nat) (z : Nat) : scal (ov o) (nv z) = true := by cases o <;> rfl
theorem ov_eq (o : Option Nat) (z : Nat) : decide (ov o = nv z) = decide (o = some z) := by
  cases o with
  | none => simp [ov]
  | some a =>
    by_cases h : a = z
    · subst h; simp [ov]
    · rw [decide_eq_false (show ¬ some a = some z by simpa using h), decide_eq_false]
      intro e
      exact h (nv_inj e)
theorem flat_ov (m : List (Option Nat)) : (m.map ov).all flatV = true := by
  rw [List.all_map, List.all_eq_true]
  intro x _
  cases x <;> rfl
theorem eqV_ov (y : Option Nat) (x : Nat) : eqV (ov y) (nv x) = decide (y = some x) := by
  cases y with
  | none => rfl
  | some a =>
    show decide ((a : Int) = (x : Int)) = _
    by_cases h : a = x
    · subst h; simp
    · rw [decide_eq_false (show ¬ some a = some x by simpa using h), decide_eq_false (by omega)]
theorem inV_ov (m : List (Option Nat)) (x : Nat) : inV (nv x) (m.map ov) = decide (some x ∈ m) := by
  unfold inV
  rw [List.any_map]
  rw [show ((fun y => eqV y (nv x)) ∘ ov) = fun y => decide (y = some x) from funext fun y => eqV_ov y x]
  by_cases h : some x ∈ m
  · rw [decide_eq_true h, List.any_eq_true]
    exact ⟨_, h, by simp⟩
  · rw [decide_eq_false h, List.any_eq_false]
    intro y hy e
    simp at e
    exact h (e ▸ hy)
theorem index_ov {K : PySem.W.Frag} {H : Hp} {a : Addr} {m : List (Option Nat)} {x j : Nat} {Q : VK} (ha : SqL K H a (m.map ov)) (hx : m[j]? = some (some x)) (h1 : ∀ i : Nat, m[i]? = some (some x) → i = j) (q : Q (nv j) H) : rIndex K (.ref a) [nv x] H Q := by
  refine ⟨a, m.map ov, nv x, j, nv x, rfl, rfl, ha, rfl, flat_ov _, ?_, ?_, fun i z hi hz => ?_, q⟩
  · rw [List.getElem?_map, hx]; rfl
  · show decide ((x : Int) = (x : Int)) = true; simp
  · rw [List.getElem?_map] at hz
    obtain ⟨y, hy, rfl⟩ := Option.map_eq_some_iff.mp hz
    rw [eqV_ov, decide_eq_false]
    rintro rfl
    have := h1 i hy
    omega
def dPairs (ps : List (Nat × Nat)) : PyData := .list (ps.map fun p => .tuple [.int p.1, .int p.2])
theorem dp_pairs {K : PySem.W.Frag} {H : Hp} {D : Addr} {ps : List (Nat × Nat)} (h : PairsAt H D ps) : Dp K H (.ref D) (dPairs ps) := by
  obtain ⟨as, h1, h2, h3⟩ := h.ex
  refine .lst (SqL.of h1) ?_
  have g : ∀ (l : List Addr) (rs : List (Nat × Nat)), l.length = rs.length → (∀ (i : Nat) (a : Addr) (p : Nat × Nat), l[i]? = some a → rs[i]? = some p → H a = some (.tup [nv p.1, nv p.2])) → DpAll K H (l.map V.ref) (rs.map fun p => .tuple [.int p.1, .int p.2]) := fun l => by
    induction l with
    | nil => intro rs e _; cases rs with
      | nil => exact .nil
      | cons _ _ => simp at e
    | cons a l ih =>
      intro rs e hr
      cases rs with
      | nil => simp at e
      | cons r rs =>
        exact .cons (.tup (SqT.of (hr 0 a r rfl rfl)) (.cons (.int _) (.cons (.int _) .nil))) (ih rs (by simpa using e) fun i b q h1 h2 => hr (i + 1) b q (by simpa using h1) (by simpa using h2))
  exact g as ps h2 h3
theorem shaped_pairs (ps : List (Nat × Nat)) : SeqAt.shaped (dPairs ps) = true := by
  have h : PyData.canLayAll0 (ps.map fun p => .tuple [.int p.1, .int p.2]) = true ∧ PyData.depthAll (ps.map fun p => .tuple [.int p.1, .int p.2]) ≤ 1 := by
    induction ps with
    | nil => simp [PyData.canLayAll0, PyData.depthAll]
    | cons r rs ih =>
      simp only [List.map_cons, PyData.canLayAll0, PyData.depthAll, PyData.canLay0, PyData.depth, ih.1]
      refine ⟨by simp, by have := ih.2; omega⟩
  unfold SeqAt.shaped dPairs
  simp only [PyData.canLay0, PyData.depth, h.1, Bool.true_and]
  exact decide_eq_true (by have := h.2; omega)
theorem eqv_pairs (ps qs : List (Nat × Nat)) : PyData.eqv (dPairs ps) (dPairs qs) = decide (ps = qs) := by
  unfold dPairs
  simp only [PyData.eqv]
  induction ps generalizing qs with
  | nil => cases qs <;> simp [PyData.eqvAll]
  | cons p ps ih =>
    cases qs with
    | nil => simp [PyData.eqvAll]
    | cons q qs =>
      obtain ⟨p1, p2⟩ := p
      obtain ⟨q1, q2⟩ := q
      simp only [List.map_cons, PyData.eqvAll, ih, PyData.eqv, List.cons.injEq, Prod.mk.injEq, Bool.and_true, Bool.decide_and]
      have e : ∀ a b : Nat, ((a : Int) == (b : Int)) = decide (a = b) := fun a b => by
        by_cases h : a = b
        · subst h; simp
        · rw [decide_eq_false h]
          exact beq_false_of_ne (by omega)
      rw [e, e]
theorem eq_pairs {K : PySem.W.Frag} {H : Hp} {a b : Addr} {r s : List (Nat × Nat)} {Q : VK} (h : PairsAt H a r) (h' : PairsAt H b s) (q : Q (.bl (decide (r = s))) H) : rEqD K (.ref a) (.ref b) H Q :=
  ⟨dPairs r, dPairs s, dp_pairs h, dp_pairs h', shaped_pairs r, shaped_pairs s, by rw [eqv_pairs]; exact q⟩
theorem ne_pairs {K : PySem.W.Frag} {H : Hp} {a b : Addr} {r s : List (Nat × Nat)} {Q : VK} (h : PairsAt H a r) (h' : PairsAt H b s) (q : Q (.bl (!decide (r = s))) H) : rNeD K (.ref a) (.ref b) H Q :=
  ⟨dPairs r, dPairs s, dp_pairs h, dp_pairs h', shaped_pairs r, shaped_pairs s, by rw [eqv_pairs]; exact q⟩
theorem spRow_succ (R : Nat → List Nat) (m : List (Option Nat)) (i lo k : Nat) : spRow R m i lo (k + 1) = if spB R m i (lo + k) = true then spRow R m i lo k ++ [(i, lo + k)] else spRow R m i lo k := by
  unfold spRow
  rw [List.range_succ, List.map_append, List.filter_append, List.map_append]
  by_cases h : spB R m i (lo + k) = true
  · rw [if_pos h]
    simp [h]
  · rw [if_neg h]
    simp [h]
theorem spRow_len (R : Nat → List Nat) (m : List (Option Nat)) (i lo k : Nat) : (spRow R m i lo k).length ≤ k := by
  unfold spRow
  rw [List.length_map]
  refine Nat.le_trans (List.length_filter_le _ _) ?_
  simp
theorem spL_succ (n : Nat) (R : Nat → List Nat) (m : List (Option Nat)) (k : Nat) : spL n R m (k + 1) = spL n R m k ++ spRow R m k (k + 1) (n - (k + 1)) := by
  unfold spL
  rw [List.range_succ, List.flatMap_append]
  simp
theorem spL_len (n : Nat) (R : Nat → List Nat) (m : List (Option Nat)) (k : Nat) : (spL n R m k).length ≤ k * n := by
  induction k with
  | zero => simp [spL]
  | succ k ih =>
    rw [spL_succ, List.length_append]
    have := spRow_len R m k (k + 1) (n - (k + 1))
    rw [Nat.succ_mul]
    omega
theorem Tbl.but {H H' : Hp} {t : Addr} {as fs : List Addr} {rows : List (List Nat)} (T : Tbl H t as rows) (k : ∀ b o, b ∉ fs → H b = some o → H' b = some o) (h1 : t ∉ fs) (h2 : ∀ a ∈ as, a ∉ fs) : Tbl H' t as rows :=
  ⟨k _ _ h1 T.top, T.len, T.nd, T.out, fun i a r e1 e2 => k _ _ (h2 a (List.mem_of_getElem? e1)) (T.row i a r e1 e2)⟩
/-- what stands in a table is not new -/
theorem Tbl.apart {H : Hp} {t : Addr} {as fs : List Addr} {rows : List (List Nat)} (T : Tbl H t as rows) (hf : ∀ a ∈ fs, H a = none) : t ∉ fs ∧ ∀ a ∈ as, a ∉ fs := by
  refine ⟨fun z => ?_, fun a ha z => (T.fresh (hf a z)).1 ha⟩
  have := hf t z
  rw [T.top] at this
  cases this
end Bk
set_option Elab.async false
set_option linter.all false
set_option maxRecDepth 100000
set_option maxHeartbeats 4000000
/-! An own error: C(BunkError), BunkError(ValueError); its __init__ says super().__init__(f"..{at}"), self.at = at. -/
namespace Bk
open PySem PySem.Spec PySem.W PySem.Calls PyProof.Rows PySem.HandSPX
/-! ### the text of __init__ -/
def eA (p1 p2 : Pos) : Arguments := { posonlyargs := [], args := [{ arg := "self", annotation := none, pos := p1 }, { arg := "at", annotation := none, pos := p2 }], vararg := none, kwonlyargs := [], kw_defaults := [], kwarg := none, defaults := [] }
def eB (pre : Str) (q1 q2 q3 q4 q5 q6 q7 q8 q9 r1 r2 r3 r4 : Pos) : List Stmt :=
  [.Expr (.Call (.Attribute (.Call (.Name "super" q1) [] [] q2) "__init__" q3) [.JoinedStr [.Constant (.str pre) 0 q4, .FormattedValue (.Name "at" q5) (-1) none q6] q7] [] q8) q9,
    .Assign [.Attribute (.Name "self" r1) "at" r2] (.Name "at" r3) r4]
def eS : Scope := { kind := .function, names := [(Str.ofString "self", .local), (Str.ofString "at", .local), (Str.ofString "__class__", .free), (Str.ofString "super", .globalImplicit)], isGenerator := false, isCoroutine := false, more := [] }
/-- what the written part says of the class x, at C, and of its __init__, at fI -/
structure ErrTxt (P : Program) (K : Frag) (mg : Str → Option Value) (x qi pre : Str) (C fI : Addr) : Prop where
  gC : mg x = some (.ref C)
  cls : ∃ nm q N bs bm sn sub ab col dd k0 k1 k2 k3 k5, K.lookup C = some (excClassObj nm q C N bs bm true sn sub ab col dd k0 k1 k2 k3 k5 "ValueError.__new__") ∧ refsVE bm = true
  up : ks_superIn K C C "__init__" = some (some (.builtin "ValueError.__init__"))
  opq : nsIn K cStatics "thirdparty.any" = some none
  vE : subIn K (.ref C) (.type "ValueError") = some true
  self : mroIn K C (.ref C) = some true
  sa : findIn K (.ref C) "__setattr__" = some (some (.builtin "object.__setattr__"))
  ga : findIn K (.ref C) "__getattribute__" = some (some (.builtin "BaseException.__getattribute__"))
  gg : findIn K (.ref C) "__getattr__" = some none
  noN : findIn K (.ref C) "at" = some none
  iC : findIn K (.ref C) "__init__" = some (some (.ref fI))
  tC : typeIn K (.ref fI) = some (.type "function")
  kC : keepIn K (.ref C) = true
  exC : subIn K (.ref C) (.type "BaseException") = some true
  tyC : typeIn K (.ref C) = some (.type "type")
  hdC : hasDictIn K C = true
  noS : mg "super" = none
  top : (P.main.scope.names.lookup ("super" : Str)).isSome = false
  pre1 : pre.length ≤ 100
  fn : ∃ (oc : Value) (od : Option Addr) (doc pm : Value) (an : Option Addr) (cda cc : Addr) (ct : Value) (osl : Array (Option Value)) (p1 p2 q1 q2 q3 q4 q5 q6 q7 q8 q9 r1 r2 r3 r4 : Pos) (vs : Array Value) (file : Str) (tf : Tok) (ccl cl : Value) (cdd cld : Option Addr) (ccs csl : Array (Option Value)),
    K.lookup fI = some ⟨oc, od, .func (ksFn "__init__" qi (eA p1 p2) (eB pre q1 q2 q3 q4 q5 q6 q7 q8 q9 r1 r2 r3 r4) eS .none .none doc pm an (.ref cda) ct cc), osl⟩ ∧ codeIn K (.ref cda) qi = true ∧
    (q3.endLine == q8.line) = true ∧ K.lookup cda = some ⟨ccl, cdd, .fields vs, ccs⟩ ∧ vs[2]? = some (.str file tf) ∧ ((P.main.file : Str) == file) = true ∧ K.lookup cc = some ⟨cl, cld, .cell (some (.ref C)), csl⟩
/-- what __init__ leaves of a fresh error at x -/
structure ErrEnd (h h' : Heap) (x C dx t1 : Addr) (v : Value) : Prop where
  keep : ∀ b o, b ≠ x → h.get? b = some o → h'.get? b = some o
  obj : h'.get? x = some { cls := .ref C, dict := some dx, data := .fields #[.ref t1, .none, .none, .none, .bool false, .none] }
  dbig : h.objs.size ≤ dx
  dne : dx ≠ x
  ns : h'.Ns1 dx (fun y => if y = "at" then some v else none)
section
variable {M : Model} {prog : Program} {w : World} {A : Around} {E : Value → Shared → Prop} {h : Heap} {g : Array GenState} {d : Drawn} {t : Nat} {os : OsState}
/-- the built-in __init__ bound to an error, called -/
theorem call_mw {nm q : Str} {C N : Addr} {bs bm : List Value} {sn : List Str} {sub : List Value} {ab : Bool} {col : Option Bool} {dd : Option Addr} {k0 k1 k2 k3 k5 : Option Value} {u e t0 : Addr} {rest : List Value} {Q : Value → Shared → Prop}
    (hC : h.get? C = some (excClassObj nm q C N bs bm true sn sub ab col dd k0 k1 k2 k3 k5 "ValueError.__new__")) (he : h.get? e = some (excO C t0)) (hu : h.get? u = some (kxs_mw "ValueError.__init__" e)) (hrest : rest.length ≤ sizeLine)
    (hq : ∀ h' t1, (∀ b o, b ≠ e → h.get? b = some o → h'.get? b = some o) → h'.get? e = some (excO C t1) → Q .none ⟨h', g, d, t, os⟩) : wpAny (model prog w) A (call (.ref u) rest) Q E ⟨h, g, d, t, os⟩ := by
  refine wpAny_call (codeAny_of_tree ?_)
  show wpAny _ A.in1 (callAny (.ref u) { pos := rest, kw := [] }) _ _ _
  simp only [callAny]
  refine wpAny_bind (wpAny_load hu ?_)
  have e1 : (Value.type "method-wrapper" == Value.type "method" || Value.type "method-wrapper" == Value.type "builtin_function_or_method" || Value.type "method-wrapper" == Value.type "method-wrapper") = true := by decide
  simp only [kxs_mw, e1, if_true]
  refine KFB.if_so (by decide) ?_
  refine wpAny_bind (check_bound_init F.excBase_ValueError.toExcCallFacts hC he rfl ?_)
  refine wpAny_bind (wpAny_pure (wpAny_pure ?_))
  refine ⟨plainId_quiet F.excBase_ValueError.init.plain _, codeAny_builtin F.excBase_ValueError.initEntry ?_⟩
  exact exc_init_tree (cls := .ref C) (t0 := t0) (dv := none) (c2 := .none) (c3 := .none) (b4 := .bool false) he hrest fun h' k e' _ => hq h' _ k e'
end
/-- None, or a number below 100 -/
def AtOk (v : Value) : Prop := v = .none ∨ ∃ (n : Nat) (t : Tok), v = .int (n : Int) t ∧ n < 100
theorem small_text : ∀ n : Nat, n < 100 → (toString (n : Int) : Str).length ≤ 100 := by decide +kernel
section
variable {prog : Program} {w : World} {A : Around} {E : Value → Shared → Prop} {s : Shared}
theorem fmt_at {v : Value} {Q : Value → Shared → Prop} (hv : AtOk v) (hq : ∀ (y : Str) tk tk', y.length ≤ 100 → Q (.str y tk) { s with toks := tk' }) : wpAny (model prog w) A (formatField v Str.empty) Q E s := by
  rcases hv with rfl | ⟨n, t, rfl, h1⟩
  · exact wpAny_formatField_none (hq _ _ _ (by decide))
  · refine wpAny_formatField_int (Nat.lt_of_le_of_lt (Nat.log2_le_self _) (by omega)) (hq _ _ _ (small_text n h1))
theorem mcall_eq {o : Expr} {name : Str} {apos pos p7 : Pos} {es : List Expr} {env : Env} (hp : (apos.endLine == pos.line) = true) : eval (.Call (.Attribute o name apos) [.JoinedStr es p7] [] pos) env = (do
      let ov ← attributeBase o name env (eval o env)
      standAt apos.atName
      let (f, first) ← holding [ov] (getMethod ov name (do return (← importBound o env).getD true))
      callWith pos f first (backTo pos (starEach [.JoinedStr es p7] env)) []) := by
  rw [arm_eval_Call]
  have e0 : backToKw pos (keywordEach [] env) = [] := rfl
  have e1 : methodCallForm (([Expr.JoinedStr es p7] : List Expr).length + ([] : List Keyword).length) (backTo pos (starEach [.JoinedStr es p7] env)) [] = true := rfl
  unfold methodCall methodCallPos
  rw [e0, e1, hp]
  rfl
/-- __init__ of an error, called -/
theorem err_init {K : Frag} {mg mb : Str → Option Value} {x qi pre : Str} {C fI : Addr} (T : ErrTxt prog K mg x qi pre C fI) {e t0 : Addr} {v : Value} {R : Result → Shared → Prop} (X : K.In s.heap) (hg : s.heap.Ns mainGlobals mg) (hb : s.heap.Ns builtinsNs mb) (hbs : mb "super" = some (.type "super"))
    (hlim : s.heap.NoLimit) (hx : s.heap.get? e = some (excO C t0)) (hnx : K.lookup e = none) (hroom : A.depth < recursionLimit) (hv : AtOk v) (hq : ∀ h' tk dx t1, ErrEnd s.heap h' e C dx t1 v → R (.ok (.ret .none)) { s with heap := h', toks := tk }) :
    codeAny (model prog w) A (.call (.ref fI) ⟨[.ref e, v], []⟩) R s := by
  obtain ⟨oc, od, doc, pm, an, cda, cc, ct, osl, p1, p2, q1, q2, q3, q4, q5, q6, q7, q8, q9, r1, r2, r3, r4, vs, file, tf, ccl, cl, cdd, cld, ccs, csl, ho, hcd, hpos, hcode, hvs, hfile, hcell⟩ := T.fn
  obtain ⟨nm, q, N, bs, bm, sn, sub, ab, col, dd, k0, k1, k2, k3, k5, hC, hbm⟩ := T.cls
  have hcl : clsIn K C = some { name := nm, bases := bs, mro := .ref C :: bm, ns := N, qualname := q, hasDict := true, slotNames := sn, subclasses := sub, abstract := ab, collection := col, hasDel := false } := by unfold clsIn; rw [hC] <;> rfl
  refine ks_codeAny_call_defAt (fd := ksFn "__init__" qi (eA p1 p2) (eB pre q1 q2 q3 q4 q5 q6 q7 q8 q9 r1 r2 r3 r4) eS .none .none doc pm an (.ref cda) ct cc) (body := eB pre q1 q2 q3 q4 q5 q6 q7 q8 q9 r1 r2 r3 r4) (binds := [("self", .ref e), ("at", v)])
    hroom (X _ _ ho) rfl hlim (codeRec_of X hcd) rfl (BindsTo.of_eq rfl) (show ∀ y ∈ eS.names, y.2 ≠ .cell by decide) (by first | rfl | decide | with_unfolding_all rfl | (intro y hy; simp at hy; rcases hy with rfl | rfl <;> rfl)) (fun h₁ hn₁ k₁ => ?_)
  have X₁ : K.In h₁ := X.keeps k₁
  have hx₁ := k₁ _ _ hx
  have hxe : e < s.heap.objs.size := Heap.lt_size hx
  -- super()
  refine ks_wpAt_execs_cons (ks_wpAt_Expr_any (ks_wpAt_MethodCall ?_ (mcall_eq hpos)))
  refine ks_wpAt_super_base rfl rfl (by decide) rfl (X₁ _ _ ho) rfl rfl rfl (X₁ _ _ hcode) rfl hvs hfile T.top ?_
  refine ks_loadName_global rfl rfl (loadGlobal_builtin (hg.keeps k₁) T.noS (hb.keeps k₁) hbs ⟨rfl, ?_⟩)
  refine wpAny_loadName_free rfl rfl rfl ⟨_, X₁ _ _ hcell, rfl⟩ ?_
  refine wpAny_loadName_local (v := .ref e) rfl rfl hn₁ (by first | rfl | with_unfolding_all rfl | kernel_rfl) ?_
  have hC₁ := X₁ _ _ hC
  refine ks_wpAny_isType_cls hC₁ rfl ⟨rfl, ?_⟩
  refine ks_wpAny_call_super hC₁ rfl hx₁ rfl (fun c z => by cases z) (looks_mroIn X₁ T.self) (fun h₂ e₂ k₂ => ?_)
  have X₂ : K.In h₂ := X₁.keeps k₂
  have hx₂ := k₂ _ _ hx₁
  have hal : alongIn K "__init__" (((Value.ref C :: bm).dropWhile (· != .ref C)).drop 1) = some (some (.builtin "ValueError.__init__")) := by
    have := T.up
    unfold ks_superIn at this
    rw [hcl] at this
    exact this
  have I₂ : InstAt h₂ e (excO C t0) C none := ⟨hx₂, rfl, rfl, trivial⟩
  refine kxs_getMethod kxs_ValueError e₂ (looks_opaque X₂ T.opq) (l₀ := .ref C :: bm) (fun A Q E s k q => wpAny_bind ((looks_clsIn X₂ hcl) A _ E s k (wpAny_pure q))) rfl X₂ hal (I₂.type.andThen (looks_subIn X₂ T.vE)) (ks_ne X₂ I₂ hcl) (by decide) ?_
  have k₃ : ∀ b o, h₂.get? b = some o → (h₂.push (kxs_mw "ValueError.__init__" e)).get? b = some o := fun b o z => Heap.get?_push_of_some _ z
  have u₃ : (h₂.push (kxs_mw "ValueError.__init__" e)).get? h₂.objs.size = some (kxs_mw "ValueError.__init__" e) := Heap.get?_push_at rfl rfl
  generalize h₂.push (kxs_mw "ValueError.__init__" e) = h₃ at k₃ u₃
  generalize h₂.objs.size = u at u₃
  have X₃ : K.In h₃ := X₂.keeps k₃
  have hx₃ := k₃ _ _ hx₂
  have hn₃ := (hn₁.keeps k₂).keeps k₃
  refine kxs_callWith (i := "ValueError.__init__") (x := e) rfl (evalArgs_plain ?_)
  refine spliced_cons ?_
  -- the text
  refine wpAny_JoinedStr (pos := q7) ?_
  have env0 : True := trivial
  refine wpAny_Constant_str ⟨pre, _, rfl, ?_, ?_⟩
  · have := T.pre1
    have : (Str.empty ++ pre).length ≤ 100 := by rw [strLen_append]; exact Nat.le_trans (Nat.add_le_add_right (show Str.empty.length ≤ 0 by decide) _) (by omega)
    exact Nat.le_trans this (by decide)
  refine wpAny_FormattedValue_plain ?_
  refine wpAny_Name (wpAny_loadName_local (v := v) rfl rfl hn₃ (by first | rfl | with_unfolding_all rfl | kernel_rfl) ?_) (by decide)
  refine fmt_at hv fun y tk tk' hy => ⟨y, _, rfl, ?_, ?_⟩
  · have := T.pre1
    have e1 : (Str.empty ++ pre).length ≤ 100 := by rw [strLen_append]; exact Nat.le_trans (Nat.add_le_add_right (show Str.empty.length ≤ 0 by decide) _) (by omega)
    rw [strLen_append]
    exact Nat.le_trans (Nat.add_le_add e1 hy) (by decide)
  refine ⟨?_, spliced_nil ⟨u₃, ?_⟩⟩
  · have := T.pre1
    have e1 : (Str.empty ++ pre).length ≤ 100 := by rw [strLen_append]; exact Nat.le_trans (Nat.add_le_add_right (show Str.empty.length ≤ 0 by decide) _) (by omega)
    rw [strLen_append]
    exact Nat.le_trans (Nat.add_le_add e1 hy) (by decide)
  refine call_mw (X₃ _ _ hC) hx₃ u₃ (show (1 : Nat) ≤ sizeLine by decide) fun h₄ t₁ k₄ hx₄ => ?_
  have eC : C ≠ e := fun z => by
    have := X₃ _ _ hC
    rw [z, hx₃] at this
    cases this
  have nL : s.heap.objs.size ≠ e := Nat.ne_of_gt hxe
  have X₄ : K.In h₄ := fun b o q => k₄ b o (fun z => by rw [z, hnx] at q; cases q) (X₃ b o q)
  have hn₄ : h₄.Ns s.heap.objs.size _ := hn₃.at fun o q => k₄ _ _ nL q
  -- self.at = at
  show _root_.PySem.wpAt _ _ _ (execs _ _) _ _ _
  refine wpAt_of_wpAny (wpAny_execs_cons (plainObj_wpAny_Assign_Attribute ?_))
  refine wpAny_Name (wpAny_loadName_local (v := v) rfl rfl hn₄ (by first | rfl | with_unfolding_all rfl | kernel_rfl) ?_) (by decide)
  refine wpAny_Name (wpAny_loadName_local (v := .ref e) rfl rfl hn₄ (by first | rfl | with_unfolding_all rfl | kernel_rfl) ?_) (by decide)
  refine set_plain X₄ (ox := excO C t₁) (od := none) ⟨hx₄, rfl, rfl, trivial⟩ T.sa ?_
  refine exc_osa X₄ hx₄ hcl (show refsVE (.ref C :: bm) = true from hbm) rfl T.noN (fun h₅ tk₅ dx k₅ dn dne hx₅ hn₅ => ?_)
  show wpAny _ _ (execs _ _) _ _ _
  have k₀ : ∀ b o, s.heap.get? b = some o → h₃.get? b = some o := fun b o q => k₃ b o (k₂ b o (k₁ b o q))
  refine wpAny_execs_nil (hq h₅ tk₅ dx t₁ ⟨fun b o nb q => k₅ b o nb (k₄ b o nb (k₀ b o q)), hx₅, ?_, dne, hn₅⟩)
  obtain ⟨oL, _, _, hoL, _⟩ := hn₄
  exact Nat.le_of_lt (Nat.lt_of_lt_of_le (Heap.lt_size hoL) dn)
/-- a made error -/
structure ErrMade (h h' : Heap) (e C d : Addr) (v : Value) : Prop where
  keep : ∀ b o, h.get? b = some o → h'.get? b = some o
  new : h.objs.size ≤ e
  obj : ∃ oe vs, h'.get? e = some oe ∧ oe.cls = .ref C ∧ oe.dict = some d ∧ oe.data = .fields vs ∧ vs[1]? = some .none
  dbig : h.objs.size ≤ d
  dne : d ≠ e
  ns : h'.Ns1 d (fun y => if y = "at" then some v else none)
theorem err_made {K : Frag} {mg mb : Str → Option Value} {x qi pre : Str} {C fI : Addr} (T : ErrTxt prog K mg x qi pre C fI) {v : Value} {R : Result → Shared → Prop} (X : K.In s.heap) (hg : s.heap.Ns mainGlobals mg) (hb : s.heap.Ns builtinsNs mb) (hbs : mb "super" = some (.type "super"))
    (hlim : s.heap.NoLimit) (hroom : A.depth + 1 < recursionLimit) (hv : AtOk v) (hq : ∀ h' tk e d, ErrMade s.heap h' e C d v → R (.ok (.ret (.ref e))) { s with heap := h', toks := tk }) :
    codeAny (model prog w) A (.call (.ref C) ⟨[v], []⟩) R s := by
  obtain ⟨nm, q, N, bs, bm, sn, sub, ab, col, dd, k0, k1, k2, k3, k5, hC, hbm⟩ := T.cls
  obtain ⟨hp, g, dr, tk, os⟩ := s
  have k : ∀ b o, hp.get? b = some o → ((hp.push (kdv_tup [v])).push (excO C hp.objs.size)).get? b = some o := fun b o z => Heap.get?_push_of_some _ (Heap.get?_push_of_some _ z)
  have hget : ((hp.push (kdv_tup [v])).push (excO C hp.objs.size)).get? (hp.objs.size + 1) = some (excO C hp.objs.size) := by heap_get
  have hnx : K.lookup (hp.objs.size + 1) = none := by
    cases z : K.lookup (hp.objs.size + 1) with
    | none => rfl
    | some o =>
      have z2 : hp.get? (hp.objs.size + 1) = some o := X _ _ z
      exact absurd (Nat.lt_of_succ_lt (Heap.lt_size z2)) (Nat.lt_irrefl _)
  refine call_own F.excBase_ValueError (fun Y => refsVE_contains Y bm hbm) (X _ _ hC) (looks_findIn X T.iC) (fun self => bind_fn X self T.tC) (show (1 : Nat) ≤ sizeLine by decide) ?_
  refine err_init (s := ⟨(hp.push (kdv_tup [v])).push (excO C hp.objs.size), g, dr, tk, os⟩) T (X.keeps k) (hg.keeps k) (hb.keeps k) hbs (hlim.keeps k) hget hnx hroom hv fun h' tk' dx t1 M => ⟨rfl, ?_⟩
  have z : hp.objs.size + 1 + 1 ≤ dx := by
    have := M.dbig
    rw [Heap.size_push, Heap.size_push] at this
    exact this
  exact hq h' tk' (hp.objs.size + 1) dx ⟨fun b o y => M.keep b o (Nat.ne_of_lt (Nat.lt_succ_of_lt (Heap.lt_size y))) (k b o y), Nat.le_succ _, ⟨_, _, M.obj, rfl, rfl, rfl, rfl⟩, Nat.le_trans (Nat.le_trans (Nat.le_succ _) (Nat.le_succ _)) z, M.dne, M.ns⟩
end
end Bk
set_option Elab.async false
set_option linter.all false
set_option maxRecDepth 100000
set_option maxHeartbeats 4000000
/-! Raising such an error, and holding it as a value behind the try. -/
namespace Bk
open PySem PySem.Spec PyProof.Rows L2
abbrev atFs (v : V) : List (Str × V) := [((Str.ofString "at"), v)]
theorem relO_at {v : V} {u : Value} (r : RelV v u) (f : Str) : RelO ((atFs v).lookup f) (if f = Str.ofString "at" then some u else none) := by
  by_cases hw : f = Str.ofString "at"
  · rw [hw, if_pos rfl]
    exact r
  · rw [if_neg hw]
    have e : (atFs v).lookup f = none := by
      show (match f == Str.ofString "at" with | true => some v | false => List.lookup f []) = none
      rw [show (f == Str.ofString "at") = false by simpa using hw]
      rfl
    rw [e]
    trivial
/-- None, or a number below 100 -/
def AtV (v : V) : Prop := v = .non ∨ ∃ n : Nat, v = .int (n : Int) ∧ n < 100
theorem AtV.ok {v : V} {u : Value} (h : AtV v) (r : RelV v u) : AtOk u := by
  rcases h with rfl | ⟨n, rfl, hn⟩
  · exact .inl r
  · obtain ⟨t, rfl⟩ := r
    exact .inr ⟨n, t, rfl, hn⟩
/-- x(e) -/
def tMkErr (C : Addr) (ta : TA) : L2.St → Hp → XK → Prop := fun σ H Q => ta σ H fun vs H1 => ∃ v, vs = [v] ∧ AtV v ∧ ∀ d, H1 d = none → Q (.ref C) (some d) (upd H1 d (.xd (atFs v)))
section
variable {X : Cx} {C fI : Addr} {x qi pre : Str}
theorem pmk_err {a : Expr} {ta : TA} {p pos : Pos} {k : Nat} (T : ErrTxt X.prog X.K X.mg x qi pre C fI) (hr : Room k X.A) (ha : PA X [a] ta) (hg : Gl X x) (hdb : (x == ("__debug__" : Str)) = false := by decide)
    (he : starEach (a :: []) X.env = (false, eval a X.env) :: starEach [] X.env := by rfl) (hpl : (backTo pos (starEach [] X.env)).any (·.1) = false := by rfl) :
    PMk X (.Call (.Name x p) [a] [] pos) (tMkErr C ta) := by
  intro pins s σ H Q I h
  refine wpAny_Call_Name_kw (ld_glob I hg T.gC ?_ hdb)
  refine PySem.W.callWith_K (h₀ := X.base) I.ok.mod.kin T.kC (thn (ha.run pos pins s σ H _ I h) fun us s1 hh => ?_) he hpl
  obtain ⟨vs, H1, I1, r1, v, ev, hv, q1⟩ := hh
  subst ev
  refine ⟨I1.kIn, ?_⟩
  cases r1 with
  | cons rv rn =>
    rename_i u us'
    cases rn
    show wpAny _ _ (call (.ref C) [u]) _ _ _
    have hlim := I1.nolimit
    obtain ⟨mb, hb1, hb2⟩ := I1.mod.blt
    have hG : s1.heap.Ns mainGlobals X.mg := I1.mod.glob.keeps I1.bk
    have hB : s1.heap.Ns builtinsNs mb := hb1.keeps I1.bk
    have kin := I1.kIn
    obtain ⟨hp, g, dr, tk, os⟩ := s1
    refine wpAny_call (err_made T kin hG hB ((hb2 _ (by decide)).trans PyProof.Rows.Boot.«super») hlim (by have := hr.dp; omega) (hv.ok rv) fun h' tk' e d M => ?_)
    show MkP X pins σ Q (.ref e) ⟨h', g, dr, tk', os⟩
    obtain ⟨oe, fv, hoe, hc, hd, hdat, h1⟩ := M.obj
    obtain ⟨G', g1, g2⟩ := restrict h' fun b => decide (b ≠ e)
    have gk : ∀ b, b ≠ e → G'.get? b = h'.get? b := fun b nb => g1 b (decide_eq_true nb)
    have ge : G'.get? e = none := g2 e (by simp)
    have old : ∀ b o, hp.get? b = some o → G'.get? b = some o := fun b o z => (gk b (Nat.ne_of_lt (Nat.lt_of_lt_of_le (Heap.lt_size z) M.new))).trans (M.keep b o z)
    have ob : ObjOk X.prog X.w (upd H1 d (.xd (atFs v))) G' d (.xd (atFs v)) := ⟨_, M.ns.at (fun o z => (gk d M.dne).trans z), fun f => relO_at rv f⟩
    have J : Inv X pins σ (upd H1 d (.xd (atFs v))) ⟨G', g, dr, tk', os⟩ := I1.laid (t' := tk') old M.dbig ob
    refine ⟨e, oe, fv, ⟨G', g, dr, tk', os⟩, _, .ref C, some d, rfl, J, fun b o z => ?_, ge, hoe, ⟨hc, hd⟩, hdat, h1, ?_, rfl, I1.bare, raises_own T.exC T.tyC, q1 d (I1.hok.fresh M.dbig)⟩
    · by_cases nb : b = e
      · have z' : G'.get? b = some o := z
        rw [nb, ge] at z'
        cases z'
      · exact (gk b nb).symm.trans z
    · rw [upd_ne (Ne.symm M.dne)]
      exact I1.hok.fresh M.new
def tRaiseErr (C : Addr) (W : WX) (ta : TA) : TS := fun _ σ H => tMkErr C ta σ H fun cls d H' => W cls d σ H'
theorem ps_raiseErr {a : Expr} {ta : TA} {W : WX} {p pos pos2 : Pos} {k : Nat} (hc : X.calm = true) (T : ErrTxt X.prog X.K X.mg x qi pre C fI) (hr : Room k X.A) (tk : Takes X W) (ha : PA X [a] ta) (hg : Gl X x) (hdb : (x == ("__debug__" : Str)) = false := by decide)
    (he : starEach (a :: []) X.env = (false, eval a X.env) :: starEach [] X.env := by rfl) (hpl : (backTo pos (starEach [] X.env)).any (·.1) = false := by rfl) :
    PS X (.Raise (some (.Call (.Name x p) [a] [] pos)) none pos2) (tRaiseErr C W ta) := ps_raise hc tk (pmk_err T hr ha hg hdb he hpl)
end
/-! ### held as a value behind the try -/
/-- an error of the class cls that was caught, its dict at d -/
def HeldE (cls : Value) (d : Option Addr) (ea : Addr) : HO := .ext fun h => ∃ (oe : Obj) (vs : Array Value), h.get? ea = some oe ∧ Zc cls d oe ∧ oe.data = .fields vs
theorem heldE_at {P : Program} {w : World} {H : Hp} {h : Heap} {ea : Addr} {cls : Value} {d : Option Addr} (hok : HOk P w H h) (e : H ea = some (HeldE cls d ea)) : ∃ (oe : Obj) (vs : Array Value), h.get? ea = some oe ∧ Zc cls d oe ∧ oe.data = .fields vs := by
  have x : ObjOk P w H h ea (.ext fun h => ∃ (oe : Obj) (vs : Array Value), h.get? ea = some oe ∧ Zc cls d oe ∧ oe.data = .fields vs) := hok ea _ e
  exact x.1
section
variable {X : Cx} {pins : List (Addr × Obj)} {σ : L2.St} {H : Hp} {s : Shared}
theorem adopt {ea : Addr} {oe : Obj} {vs : Array Value} {cls : Value} {d : Option Addr} (I : L2.Inv X pins σ H s) (there : s.heap.get? ea = some oe) (hz : Zc cls d oe) (hd : oe.data = .fields vs) (na : H ea = none)
    (n0 : X.s_0.heap.get? ea = none) (nL : ea ≠ X.env.locals) (np : ∀ p ∈ X.pn ++ pins, p.1 ≠ ea) : L2.Inv X pins σ (upd H ea (HeldE cls d ea)) s := by
  have other : ∀ {b : Addr} {u : HO}, H b = some u → upd H ea (HeldE cls d ea) b = some u := fun {b u} q => by
    rw [upd_ne (ne_of_none q na)]
    exact q
  refine { ok := I.ok, os := I.os, bare := I.bare, base := ?_, loc := I.loc, cell := I.cell, free := ?_, freeC := fun y c q => ?_, pin := fun p hp => ?_, hok := fun b u q => ?_, len := I.len }
  · exact { keep := I.base.keep, slot := I.base.slot, there := I.base.there
            free := fun b u q n x => by
              rw [upd_ne (show b ≠ ea from fun z => by rw [z, n0] at q; cases q)]
              exact I.base.free b u q n x
            tups := fun b xs q => other (I.base.tups b xs q)
            frzs := fun b o u q => other (I.base.frzs b o u q)
            tbls := fun b ps q => by
              obtain ⟨more, q2⟩ := I.base.tbls b ps q
              exact ⟨more, other q2⟩ }
  · rw [upd_ne (Ne.symm nL)]
    exact I.free
  · obtain ⟨v, o, ho, hc⟩ := I.cell y c q
    rw [upd_ne (show c ≠ ea from fun z => by
      rw [z, there] at ho
      cases ho
      rw [hd] at hc
      cases hc)]
    exact I.freeC y c q
  · obtain ⟨h1, h2, h3⟩ := I.pin p hp
    exact ⟨h1, by rw [upd_ne (np p hp)]; exact h2, h3⟩
  · by_cases z : b = ea
    · subst z
      rw [upd_same] at q
      cases q
      exact ⟨⟨oe, vs, there, hz, hd⟩, ⟨oe, there⟩, fun _ _ ⟨o, v, q, r⟩ k => ⟨o, v, k o q, r⟩⟩
    · rw [upd_ne z] at q
      refine (I.hok b u q).stay (fun _ _ _ r => r) (fun c hc => other hc) (fun c xs hc => other hc)
end
/-- what 'except x as n' wishes where the error is held behind it: slot i is n's -/
def wAsV (K : PySem.W.Frag) (c : Value) (i : Nat) (ts : Addr → Value → Option Addr → TS) (Wout : WX) (D : Ends) : WX := fun cls d σ H =>
  ∃ b, PySem.W.exmOne K cls c = some b ∧ (b = true → ∀ ea, H ea = none → ts ea cls d { nx := fun σ' H' => H' ea = none → D.nx (σ'.set i none) (upd H' ea (HeldE cls d ea)), rt := fun _ _ => False, bk := fun _ _ => False, ct := fun _ _ => False } (σ.set i (some (.ref ea))) H) ∧
    (b = false → Wout cls d σ H)
section
variable {X : Cx} {x n : Str} {c : Value} {i : Nat} {body suite : List Stmt} {b₀ : Stmt} {np pos pos' : Pos} {tb : WX → TS} {ts : Addr → Value → Option Addr → TS} {Wout : WX}
theorem ps_try_asV (stk : X.stack = X.env :: X.outer) (frm : X.env.frame = some X.env.locals) (noex : X.ex = []) (nd : X.N.Nodup) (hi : X.N[i]? = some n) (hl : X.env.kindOf n = some .local) (nam : Names X x c) (tk : Takes X Wout)
    (bod : ∀ (W : WX) (pn : List (Addr × Obj)) (xe : Value → Shared → Prop), Takes (X.tr pn xe) W → PassesOwn (model X.prog X.w) X.A X.env xe → PSs (X.tr pn xe) body (tb W))
    (sui : ∀ (ea : Addr) (oe : Obj) (cls : Value) (d : Option Addr) (pn : List (Addr × Obj)), Zc cls d oe → (∃ vs, oe.data = .fields vs) → PSs (X.suite ea ((ea, oe) :: pn)) (b₀ :: suite) (ts ea cls d)) :
    PS X (.Try body [.ExceptHandler (some (.Name x np)) (some n) (b₀ :: suite) pos'] [] [] pos) (fun D σ H => tb (wAsV X.K c i ts Wout D) D σ H) := by
  refine ⟨fun pins s σ H D I h => ?_⟩
  have good := I.ok
  have afr : X.A.frames = some (X.env :: X.outer) := good.frames.trans (congrArg some stk)
  have nloc : Loc X.env.scope n := .inl hl
  refine wpAny_Try_except ?_
  refine wpAny_mono ((bod (wAsV X.K c i ts Wout D) (X.pn ++ pins) (fun er sa => wpAny (model X.prog X.w) X.A (noteFrame er X.env) (fun _ sb => wpAny (model X.prog X.w) X.A (setFlight er none) (fun _ sc =>
    wpAny (model X.prog X.w) X.A (handleBy er X.env [.ExceptHandler (some (.Name x np)) (some n) (b₀ :: suite) pos']) (SP X pins D) X.xe sc) X.xe sb) X.xe sa) (fun er sr air => ?_) PassesOwn.looking).run [] s σ H D (I.toTry _) h) (fun fl se hsp => ?_) (fun _ _ z => z)
  · obtain ⟨ea, B, sI, pins1, σ1, H1, cls, d, rfl, Jt, inB, up, sky, na, os, ag, b, hb1, yes, no⟩ := air
    have J : L2.Inv X pins σ1 H1 sI := Jt.ofTry good
    have sky1 : Sky B (X.env :: X.outer) ea (Zc cls d) X.env.locals sr.heap := stk ▸ sky
    show wpAny (model X.prog X.w) X.A (noteFrame (.ref ea) X.env) _ _ _
    refine Sky.land Zc.steady afr frm sky1 fun hA flA upA => ?_
    have JA : L2.Inv X pins σ1 H1 { sr with heap := hA } := J.landed inB flA.1 (up.trans upA) os ag
    obtain ⟨oA, vA, atA, zA, dA⟩ := flA.there
    have away : ea ∉ frs (X.env :: X.outer) := fun hm => by
      obtain ⟨_, o', e', hnf⟩ := flA.2.2.1.mem hm
      rw [atA] at e'
      cases e'
      exact hnf _ dA
    have nL : ea ≠ X.env.locals := fun z => away (List.mem_filterMap.mpr ⟨X.env, List.mem_cons_self, frm.trans (congrArg some z.symm)⟩)
    have nF : ea ∉ X.fs := fun hm => by
      obtain ⟨env', he', q⟩ := List.mem_filterMap.mp hm
      exact away (List.mem_filterMap.mpr ⟨env', List.mem_cons_of_mem _ he', q⟩)
    have nB : B.get? ea = none := flA.2.1
    have n0 : X.s_0.heap.get? ea = none := by
      cases q : X.s_0.heap.get? ea with
      | none => rfl
      | some o =>
        obtain ⟨o', q'⟩ := J.base.there ea o q (by rw [noex]; exact fun z => nomatch z)
        have := inB ea o' q' (by rw [stk]; exact away)
        rw [nB] at this
        cases this
    have npin : ∀ p ∈ X.pn ++ pins, p.1 ≠ ea := fun p hp z => by
      obtain ⟨h1, _, h3, h4, _⟩ := J.pin p hp
      have := inB p.1 p.2 h1 (fun hm => by
        rcases List.mem_cons.mp (J.stkSub p.1 hm) with y | y
        · exact h3 y
        · exact h4 y)
      rw [z, nB] at this
      cases this
    have SA := JA.suite atA dA na nL nF
    refine wpAny_handleBy_cons (codeAny_handlers_test ?_) (fun q => nomatch q)
    have ty : PySem.W.Looks (model X.prog X.w) hA (typeOf (.ref ea)) cls := fun A Q E s k q => wpAny_typeOf_ref (k _ _ atA) (by rw [zA.1]; exact q)
    have mch := PySem.W.exm_one (M := model X.prog X.w) (JA.kIn) ty hb1
    have ask : ∀ {Q : Value → Shared → Prop} {E : Value → Shared → Prop}, Q c { sr with heap := hA } → wpAny (model X.prog X.w) (X.A.mark (some (.ref ea))) (eval (.Name x np) X.env) Q E { sr with heap := hA } := fun {Q E} q => by
      obtain ⟨gl, dbg, hm | ⟨hm, hv, hnn⟩⟩ := nam
      · exact ld_glob (X := X.suite ea ((ea, oA) :: (X.pn ++ pins))) SA gl hm q dbg
      · exact ld_blt (X := X.suite ea ((ea, oA) :: (X.pn ++ pins))) SA gl hm hv q hnn dbg
    refine ask (mch.here ?_)
    cases b with
    | true =>
      refine codeAny_handlers_suite_as ?_
      refine HandSPX.lands_againZ flA fun hC flC upC => ?_
      have JC : L2.Inv X pins σ1 H1 { sr with heap := hC } := J.landed inB flC.1 ((up.trans upA).trans upC) os ag
      obtain ⟨oC, vC, atC, zC, dC⟩ := flC.there
      have SC := JC.suite atC dC na nL nF
      refine store_ok (X := X.suite ea ((ea, oC) :: (X.pn ++ pins))) (v := .ref ea) SC nd hi nloc rfl (fun s5 S5 => ?_) (.inr hl)
      refine wpAny_mono ((sui ea oC cls d (X.pn ++ pins) zC ⟨_, dC⟩).run [] s5 _ H1 _ S5 (yes rfl ea na)) (fun fl s6 hsp => ?_) (fun _ _ z => False.elim z)
      cases fl with
      | next =>
        obtain ⟨σ6, H6, S6, q6⟩ := hsp
        obtain ⟨at6, na6, _⟩ := S6.pin (ea, oC) (List.mem_append.mpr (.inl List.mem_cons_self))
        have J6 : L2.Inv X pins σ6 H6 s6 := S6.unsuite good
        exact gone_ok (adopt J6 at6 zC dC na6 n0 nL npin) nd hi hl fun s7 J7 => ⟨_, _, J7, q6 na6⟩
      | brk => exact (hsp.elim fun _ z => z.elim fun _ z => z.2.elim)
      | cont => exact (hsp.elim fun _ z => z.elim fun _ z => z.2.elim)
      | ret u => exact (hsp.elim fun _ z => z.elim fun _ z => z.elim fun _ z => z.2.2.elim)
    | false =>
      show wpAny _ X.A (handleBy (.ref ea) X.env []) _ _ _
      refine wpAny_handleBy_nil ?_
      obtain ⟨k1, k2, k3, oe, vs, T, oT, ts', he, hz, hd, h1, hr⟩ := id flA
      unfold PySem.passOn
      refine wpAny_bind (wpAny_field he hd h1 ?_)
      rw [if_neg (show ¬ ((Value.ref T == Value.none) = true) from by simp)]
      have out : wpAny (model X.prog X.w) X.A (setFlight (.ref ea) X.env.frame) (fun _ sd => wpAny (model X.prog X.w) X.A (throw (.ref ea) : Sem Flow) (SP X pins D) X.xe sd) X.xe { sr with heap := hA } := by
        rw [frm]
        refine HandSPX.setFlight_upZ flA fun hD heD upD => wpAny_throw (tk _ _ ?_)
        exact ⟨ea, B, sI, pins, σ1, H1, cls, d, rfl, J, inB, (up.trans upA).trans upD, .inr (.inr (by rw [stk]; exact heD)), na, os, ag, no rfl⟩
      first
        | exact wpAny_bind (wpAny_pure (wpAny_bind out))
        | exact wpAny_bind out
  · cases fl with
    | next =>
      obtain ⟨σ1, H1, J1, q⟩ := hsp
      exact wpAny_execs_nil ⟨σ1, H1, J1.ofTry good, q⟩
    | brk =>
      obtain ⟨σ1, H1, J1, q⟩ := hsp
      exact ⟨σ1, H1, J1.ofTry good, q⟩
    | cont =>
      obtain ⟨σ1, H1, J1, q⟩ := hsp
      exact ⟨σ1, H1, J1.ofTry good, q⟩
    | ret u =>
      obtain ⟨v, σ1, H1, J1, r, q⟩ := hsp
      exact ⟨v, σ1, H1, J1.ofTry good, r, q⟩
end
/-! ### what is asked of a held error -/
/-- isinstance(e, c), e a held error -/
def rIsH (K : PySem.W.Frag) : List V → Hp → VK → Prop := fun xs H Q => ∃ (ea D dd : Addr) (fs : List (Str × V)) (c : V) (cv : Value) (b : Bool), xs = [.ref ea, c] ∧ H ea = some (HeldE (.ref D) (some dd) ea) ∧ H dd = some (.xd fs) ∧ ExcC K D ∧
  (∀ u, RelV c u → u = cv) ∧ PySem.W.kitOne K (.ref D) cv = some b ∧ Q (.bl b) H
theorem kish {X : Cx} {K : PySem.W.Frag} (hK : X.K = K := by rfl) : CallR X (.builtin "isinstance") (rIsH K) := by
  subst hK
  intro pins s σ H xs us Q I r h
  obtain ⟨ea, D, dd, fs, c, cv, b, rfl, he, hd, C, hcv, e, q⟩ := h
  cases r with
  | cons rx rr =>
    cases rr with
    | cons rt rr =>
      cases rr
      cases rx
      have ec := hcv _ rt
      subst ec
      obtain ⟨oe, vs, there, hz, hv⟩ := heldE_at I.hok he
      have hx : ObjOk X.prog X.w H s.heap dd (.xd fs) := I.hok dd _ hd
      obtain ⟨mA, hns, _⟩ := hx
      obtain ⟨od, ho, _⟩ := lookIn_ns hns
      have J : PySem.W.InstAt s.heap ea oe D (some od) := ⟨there, hz.1, by unfold PySem.W.notCls; rw [hv] <;> rfl, by rw [hz.2]; exact ho⟩
      have hcl : (PySem.W.clsIn X.K D).isSome = true := by
        obtain ⟨cd, hc, _⟩ := PySem.W.any_some C.hd
        rw [hc]
        rfl
      exact PySem.W.kia_one (PySem.W.kitx_exc hcl C.hg C.hk C.hs C.ha C.hn C.ht C.hm) I.kIn J e (fun z => nomatch z) fun tk => ⟨.bl b, H, I.kept (t' := tk) fun _ _ z => z, rfl, q⟩
/-- e.f, e a held error -/
def tHf (K : PySem.W.Frag) (n : Str) (te : TE) : TE := fun σ H Q => te σ H fun x H1 => ∃ (ea C dd : Addr) (fs : List (Str × V)) (v : V), x = .ref ea ∧ H1 ea = some (HeldE (.ref C) (some dd) ea) ∧ XfC K C ∧ PySem.W.findIn K (.ref C) n = some none ∧
  H1 dd = some (.xd fs) ∧ fs.lookup n = some v ∧ Q v H1
theorem pe_hfld {X : Cx} {K : PySem.W.Frag} {e : Expr} {te : TE} {pos : Pos} {n : Str} (he : PE X e te) (hK : X.K = K := by rfl) (hb : attributeBase e n X.env (eval e X.env) = eval e X.env := by rfl) : PE X (.Attribute e n pos) (tHf K n te) := by
  subst hK
  refine ⟨fun pins s σ H Q I h => ?_⟩
  refine attr_of hb (thn (he.run pins s σ H _ I h) fun u s1 hh => ?_)
  obtain ⟨x, H1, I1, rx, ea, C, dd, fs, v, rfl, hh, T, hno, hd, l, q⟩ := hh
  obtain rfl : u = Value.ref ea := rx
  obtain ⟨oe, vs, there, hz, hv⟩ := heldE_at I1.hok hh
  have hx : ObjOk X.prog X.w H1 s1.heap dd (.xd fs) := I1.hok dd _ hd
  obtain ⟨mA, hns, hr⟩ := hx
  obtain ⟨od, ho, hl⟩ := lookIn_ns hns
  obtain ⟨u2, hu, ru⟩ := RelO.some_of (v := v) (o := mA n) (by rw [← l]; exact hr n)
  have J : PySem.W.InstAt s1.heap ea oe C (some od) := ⟨there, hz.1, by unfold PySem.W.notCls; rw [hv] <;> rfl, by rw [hz.2]; exact ho⟩
  exact HandSPX.exc_get I1.kIn J T.ga T.gg T.exC (PySem.W.findObj_own T.hdC hno rfl (by rw [hl, hu])) (handed_of ru) ⟨v, H1, I1.tok _, ru, q⟩
end Bk
set_option Elab.async false
set_option linter.all false
namespace Bk
open PySem PySem.Spec PyProof.Rows L2
/-- xs.count(y), flat items -/
def rCntF (K : PySem.W.Frag) : V → List V → Hp → VK → Prop := fun x xs H Q => ∃ (p : Addr) (ys : List V) (y : V), x = .ref p ∧ xs = [y] ∧ SqL K H p ys ∧ flatV y = true ∧ ys.all flatV = true ∧ Q (.int ((ys.countP fun z => eqV z y : Nat) : Int)) H
theorem countP_eqU {y : V} : ∀ {ys : List V} {us : List Value}, Vals ys us → ys.all flatV = true → us.countP (eqU y) = ys.countP fun z => eqV z y
  | _, _, .nil, _ => rfl
  | z :: ys, u :: us, .cons r t, f => by
    rw [List.all_cons, Bool.and_eq_true] at f
    rw [List.countP_cons, List.countP_cons, eqU_of r f.1, countP_eqU t f.2]
theorem mt_countF {X : Cx} {K : PySem.W.Frag} (hK : X.K = K := by rfl) : MtR X "list.count" (rCntF K) := by
  subst hK
  intro pins s σ H x xs v us Q I rx rxs h
  obtain ⟨p, ys, y, rfl, rfl, hs, fy, fys, q⟩ := h
  cases rx
  cases rxs with
  | cons ry rt =>
    rename_i uy ut
    cases rt
    obtain ⟨its, rv, ⟨⟨cls, dd, data, sl⟩, n, ho, hc, hdn, hd⟩, hlen⟩ := I.list hs
    simp only at hc hd
    subst hc hd
    refine call_meets PySem.F.slot_list_count ⟨_, ho, rfl⟩ PySem.F.entry_list_count (PySem.F.args_list_count_2 _ _) (SeqAt.list_countAt p its.toArray n dd sl uy (eqU y)) ⟨ho, fun u hu => mem_eqAt ry fy rv fys u (by simpa using hu), ?_⟩
    have ec : its.toArray.toList.countP (eqU y) = ys.countP fun z => eqV z y := countP_eqU rv fys
    refine ⟨.int ((ys.countP fun z => eqV z y : Nat) : Int), H, I.tok _, ⟨s.toks, ?_⟩, q⟩
    show Value.int ((its.toArray.toList.countP (eqU y) : Nat) : Int) s.toks = _
    rw [ec]
end Bk
set_option Elab.async false
set_option linter.all false
set_option maxRecDepth 100000
namespace K1
open PySem PySem.Spec PyProof.Rows L2 LamX Bk
def topS (i : Nat) : Stmt := PySem.Challenge.pw_bunkmates_k01_mutual_lists.main.body.getD i (.Pass ⟨0, 0, 0, 0⟩)
abbrev s_is_number : Stmt := topS 7
theorem sc_is_number : FnScope ["value"] ["value"] (defScope s_is_number) := ⟨rfl, rfl, rfl, by decide +kernel, rfl, by decide +kernel, by decide +kernel⟩
abbrev s_is_row : Stmt := topS 8
theorem sc_is_row : FnScope ["row", "person", "many", "seen", "other"] ["row", "person", "many"] (defScope s_is_row) := ⟨rfl, rfl, rfl, by decide +kernel, rfl, by decide +kernel, by decide +kernel⟩
abbrev s_check_lists : Stmt := topS 9
theorem sc_check_lists : FnScope ["lists", "person", "row"] ["lists"] (defScope s_check_lists) := ⟨rfl, rfl, rfl, by decide +kernel, rfl, by decide +kernel, by decide +kernel⟩
abbrev s_places_in : Stmt := topS 10
theorem sc_places_in : FnScope ["rows", "place", "other", "row"] ["rows"] (defScope s_places_in) := ⟨rfl, rfl, rfl, by decide +kernel, rfl, by decide +kernel, by decide +kernel⟩
abbrev s_mutual : Stmt := topS 11
theorem sc_mutual : FnScope ["lists", "places", "other", "person", "row"] ["lists"] (defScope s_mutual) := ⟨rfl, rfl, rfl, by decide +kernel, rfl, by decide +kernel, by decide +kernel⟩
abbrev s_is_wrong_for : Stmt := topS 13
theorem sc_is_wrong_for : FnScope ["person", "pairing", "rows", "mate", "back"] ["person", "pairing", "rows"] (defScope s_is_wrong_for) := ⟨rfl, rfl, rfl, by decide +kernel, rfl, by decide +kernel, by decide +kernel⟩
abbrev s_check_pairing : Stmt := topS 14
theorem sc_check_pairing : FnScope ["rows", "pairing", "person"] ["rows", "pairing"] (defScope s_check_pairing) := ⟨rfl, rfl, rfl, by decide +kernel, rfl, by decide +kernel, by decide +kernel⟩
abbrev s_would_rather : Stmt := topS 15
theorem sc_would_rather : FnScope ["places", "other", "mate"] ["places", "other", "mate"] (defScope s_would_rather) := ⟨rfl, rfl, rfl, by decide +kernel, rfl, by decide +kernel, by decide +kernel⟩
abbrev s_spoiling : Stmt := topS 16
theorem sc_spoiling : FnScope ["rows", "mates", "places", "one", "row", "other"] ["rows", "mates"] (defScope s_spoiling) := ⟨rfl, rfl, rfl, by decide +kernel, rfl, by decide +kernel, by decide +kernel⟩
abbrev s_spoilers : Stmt := topS 17
theorem sc_spoilers : FnScope ["lists", "pairing", "rows"] ["lists", "pairing"] (defScope s_spoilers) := ⟨rfl, rfl, rfl, by decide +kernel, rfl, by decide +kernel, by decide +kernel⟩
abbrev s_is_good : Stmt := topS 18
theorem sc_is_good : FnScope ["lists", "pairing"] ["lists", "pairing"] (defScope s_is_good) := ⟨rfl, rfl, rfl, by decide +kernel, rfl, by decide +kernel, by decide +kernel⟩
abbrev s_cut_behind : Stmt := topS 20
theorem sc_cut_behind : FnScope ["rows", "person", "kept", "row", "left", "gone", "other"] ["rows", "person", "kept"] (defScope s_cut_behind) := ⟨rfl, rfl, rfl, by decide +kernel, rfl, by decide +kernel, by decide +kernel⟩
abbrev s_offered : Stmt := topS 21
theorem sc_offered : FnScope ["lists", "rows", "held", "waiting", "person", "best"] ["lists"] (defScope s_offered) := ⟨rfl, rfl, rfl, by decide +kernel, rfl, by decide +kernel, by decide +kernel⟩
abbrev s_next_in_ring : Stmt := topS 23
theorem sc_next_in_ring : FnScope ["rows", "person", "second"] ["rows", "person"] (defScope s_next_in_ring) := ⟨rfl, rfl, rfl, by decide +kernel, rfl, by decide +kernel, by decide +kernel⟩
abbrev s_ring_from : Stmt := topS 24
theorem sc_ring_from : FnScope ["rows", "start", "walk", "person", "people", "least", "each"] ["rows", "start"] (defScope s_ring_from) := ⟨rfl, rfl, rfl, by decide +kernel, rfl, by decide +kernel, by decide +kernel⟩
abbrev s_part : Stmt := topS 25
theorem sc_part : FnScope ["rows", "one", "other"] ["rows", "one", "other"] (defScope s_part) := ⟨rfl, rfl, rfl, by decide +kernel, rfl, by decide +kernel, by decide +kernel⟩
abbrev s_taken_out : Stmt := topS 26
theorem sc_taken_out : FnScope ["rows", "ring", "behind", "row", "ahead", "_", "person", "best", "other"] ["rows", "ring"] (defScope s_taken_out) := ⟨rfl, rfl, rfl, by decide +kernel, rfl, by decide +kernel, by decide +kernel⟩
abbrev s_is_emptied : Stmt := topS 27
theorem sc_is_emptied : FnScope ["rows", "behind", "row", "left"] ["rows", "behind"] (defScope s_is_emptied) := ⟨rfl, rfl, rfl, by decide +kernel, rfl, by decide +kernel, by decide +kernel⟩
abbrev s_rings_out : Stmt := topS 28
theorem sc_rings_out : FnScope ["lists", "rows", "told", "many", "person", "ring", "behind"] ["lists"] (defScope s_rings_out) := ⟨rfl, rfl, rfl, by decide +kernel, rfl, by decide +kernel, by decide +kernel⟩
abbrev s_last_rows : Stmt := topS 29
theorem sc_last_rows : FnScope ["lists", "told", "_", "rows"] ["lists"] (defScope s_last_rows) := ⟨rfl, rfl, rfl, by decide +kernel, rfl, by decide +kernel, by decide +kernel⟩
abbrev s_half_pairing : Stmt := topS 31
theorem sc_half_pairing : FnScope ["lists", "row"] ["lists"] (defScope s_half_pairing) := ⟨rfl, rfl, rfl, by decide +kernel, rfl, by decide +kernel, by decide +kernel⟩
abbrev s_check_half : Stmt := topS 32
theorem sc_check_half : FnScope ["rows", "half", "followed", "person", "other", "follows"] ["rows", "half"] (defScope s_check_half) := ⟨rfl, rfl, rfl, by decide +kernel, rfl, by decide +kernel, by decide +kernel⟩
abbrev s_followers : Stmt := topS 33
theorem sc_followers : FnScope ["half", "told", "person", "other"] ["half"] (defScope s_followers) := ⟨rfl, rfl, rfl, by decide +kernel, rfl, by decide +kernel, by decide +kernel⟩
abbrev s_is_turned_well : Stmt := topS 34
theorem sc_is_turned_well : FnScope ["rows", "half", "behind", "places", "person", "other"] ["rows", "half", "behind"] (defScope s_is_turned_well) := ⟨rfl, rfl, rfl, by decide +kernel, rfl, by decide +kernel, by decide +kernel⟩
abbrev s_is_steady : Stmt := topS 35
theorem sc_is_steady : FnScope ["lists", "half", "rows", "behind"] ["lists", "half"] (defScope s_is_steady) := ⟨rfl, rfl, rfl, by decide +kernel, rfl, by decide +kernel, by decide +kernel⟩
abbrev s_with_mate : Stmt := topS 38
theorem sc_with_mate : FnScope ["pairing", "person", "row", "told", "mate", "wider"] ["pairing", "person", "row"] (defScope s_with_mate) := ⟨rfl, rfl, rfl, by decide +kernel, rfl, by decide +kernel, by decide +kernel⟩
abbrev s_pairings_in : Stmt := topS 39
theorem sc_pairings_in : FnScope ["rows", "told", "person", "row", "pairing", "wider"] ["rows"] (defScope s_pairings_in) := ⟨rfl, rfl, rfl, by decide +kernel, rfl, by decide +kernel, by decide +kernel⟩
abbrev s_all_good : Stmt := topS 40
theorem sc_all_good : FnScope ["lists", "rows", "pairing"] ["lists"] (defScope s_all_good) := ⟨rfl, rfl, rfl, by decide +kernel, rfl, by decide +kernel, by decide +kernel⟩
abbrev s_ring_of : Stmt := topS 42
theorem sc_ring_of : FnScope ["half", "first", "ring", "person"] ["half", "first"] (defScope s_ring_of) := ⟨rfl, rfl, rfl, by decide +kernel, rfl, by decide +kernel, by decide +kernel⟩
abbrev s_odd_rings_in : Stmt := topS 43
theorem sc_odd_rings_in : FnScope ["half", "rings", "person", "other", "ring"] ["half"] (defScope s_odd_rings_in) := ⟨rfl, rfl, rfl, by decide +kernel, rfl, by decide +kernel, by decide +kernel⟩
abbrev s_paired : Stmt := topS 44
theorem sc_paired : FnScope ["lists", "half"] ["lists"] (defScope s_paired) := ⟨rfl, rfl, rfl, by decide +kernel, rfl, by decide +kernel, by decide +kernel⟩
abbrev s_odd_rings : Stmt := topS 45
theorem sc_odd_rings : FnScope ["lists"] ["lists"] (defScope s_odd_rings) := ⟨rfl, rfl, rfl, by decide +kernel, rfl, by decide +kernel, by decide +kernel⟩
abbrev s_alone : Stmt := topS 46
theorem sc_alone : FnScope ["lists", "person", "other"] ["lists"] (defScope s_alone) := ⟨rfl, rfl, rfl, by decide +kernel, rfl, by decide +kernel, by decide +kernel⟩
abbrev s__law_mixed : Stmt := topS 48
theorem sc__law_mixed : FnScope ["_law_number", "_law_k"] ["_law_number", "_law_k"] (defScope s__law_mixed) := ⟨rfl, rfl, rfl, by decide +kernel, rfl, by decide +kernel, by decide +kernel⟩
abbrev s__law_lists : Stmt := topS 49
theorem sc__law_lists : FnScope ["_law_script", "_law_most", "_law_first", "_law_many", "_law_rows", "_law_person", "_law_others", "_law_k", "_law_cell", "_law_number", "_law_one", "_law_other"] ["_law_script", "_law_most"] (defScope s__law_lists) := ⟨rfl, rfl, rfl, by decide +kernel, rfl, by decide +kernel, by decide +kernel⟩
abbrev s__law_set : Stmt := topS 50
theorem sc__law_set : FnScope ["_law_rows", "_law_one", "_law_other", "_law_number", "_law_row", "_law_person", "_law_at"] ["_law_rows", "_law_one", "_law_other", "_law_number"] (defScope s__law_set) := ⟨rfl, rfl, rfl, by decide +kernel, rfl, by decide +kernel, by decide +kernel⟩
abbrev s__law_mutual : Stmt := topS 51
theorem sc__law_mutual : FnScope ["_law_rows", "_law_found", "_law_person", "_law_one"] ["_law_rows"] (defScope s__law_mutual) := ⟨rfl, rfl, rfl, by decide +kernel, rfl, by decide +kernel, by decide +kernel⟩
abbrev s__law_handed : Stmt := topS 52
theorem sc__law_handed : FnScope ["_law_way", "_law_thing"] ["_law_way", "_law_thing"] (defScope s__law_handed) := ⟨rfl, rfl, rfl, by decide +kernel, rfl, by decide +kernel, by decide +kernel⟩
abbrev s__law_refused : Stmt := topS 53
theorem sc__law_refused : FnScope ["_law_thing", "_law_way", "_law_refused_here", "e"] ["_law_thing", "_law_way"] (defScope s__law_refused) := ⟨rfl, rfl, rfl, by decide +kernel, rfl, by decide +kernel, by decide +kernel⟩
abbrev s__law_spoilt : Stmt := topS 54
theorem sc__law_spoilt : FnScope ["_law_rows", "_law_at", "_law_number", "_law_row", "_law_some", "_law_found"] ["_law_rows", "_law_at", "_law_number"] (defScope s__law_spoilt) := ⟨rfl, rfl, rfl, by decide +kernel, rfl, by decide +kernel, by decide +kernel⟩
abbrev s_law : Stmt := topS 55
theorem sc_law : FnScope ["_law_script", "_law_rows", "_law_handed_here", "_law_row", "_law_due", "_law_found", "_law_way", "_law_k", "_law_number", "_law_at", "_law_spoilt_here", "_law_other"] ["_law_script"] (defScope s_law) := ⟨rfl, rfl, rfl, by decide +kernel, rfl, by decide +kernel, by decide +kernel⟩
/-- how isinstance answers for an error of the class C -/
structure KitF (K : PySem.W.Frag) (C CM CP CL CB : Addr) (isP isL : Bool) : Prop where
  e : ExcC K C
  x : XfC K C
  no : PySem.W.findIn K (.ref C) "at" = some none
  tm : PySem.W.kitOne K (.ref C) (.ref CM) = some false
  ve : PySem.W.kitOne K (.ref C) (.type "ValueError") = some true
  bp : PySem.W.kitOne K (.ref C) (.ref CP) = some isP
  bl : PySem.W.kitOne K (.ref C) (.ref CL) = some isL
  be : PySem.W.exmOne K (.ref C) (.ref CB) = some true
/-- what the top has left -/
structure Txt (P : Program) (K : PySem.W.Frag) (mg : Str → Option Value) where
  a_is_number : Addr
  fd_is_number : FuncData
  F_is_number : Fun K "is_number" "is_number" s_is_number a_is_number fd_is_number
  b_is_number : Binds K fd_is_number ["value"] []
  g_is_number : mg "is_number" = some (.ref a_is_number)
  a_is_row : Addr
  fd_is_row : FuncData
  F_is_row : Fun K "is_row" "is_row" s_is_row a_is_row fd_is_row
  b_is_row : Binds K fd_is_row ["row", "person", "many"] []
  g_is_row : mg "is_row" = some (.ref a_is_row)
  a_check_lists : Addr
  fd_check_lists : FuncData
  F_check_lists : Fun K "check_lists" "check_lists" s_check_lists a_check_lists fd_check_lists
  b_check_lists : Binds K fd_check_lists ["lists"] []
  g_check_lists : mg "check_lists" = some (.ref a_check_lists)
  a_places_in : Addr
  fd_places_in : FuncData
  F_places_in : Fun K "places_in" "places_in" s_places_in a_places_in fd_places_in
  b_places_in : Binds K fd_places_in ["rows"] []
  g_places_in : mg "places_in" = some (.ref a_places_in)
  a_mutual : Addr
  fd_mutual : FuncData
  F_mutual : Fun K "mutual" "mutual" s_mutual a_mutual fd_mutual
  b_mutual : Binds K fd_mutual ["lists"] []
  g_mutual : mg "mutual" = some (.ref a_mutual)
  a_is_wrong_for : Addr
  fd_is_wrong_for : FuncData
  F_is_wrong_for : Fun K "is_wrong_for" "is_wrong_for" s_is_wrong_for a_is_wrong_for fd_is_wrong_for
  b_is_wrong_for : Binds K fd_is_wrong_for ["person", "pairing", "rows"] []
  g_is_wrong_for : mg "is_wrong_for" = some (.ref a_is_wrong_for)
  a_check_pairing : Addr
  fd_check_pairing : FuncData
  F_check_pairing : Fun K "check_pairing" "check_pairing" s_check_pairing a_check_pairing fd_check_pairing
  b_check_pairing : Binds K fd_check_pairing ["rows", "pairing"] []
  g_check_pairing : mg "check_pairing" = some (.ref a_check_pairing)
  a_would_rather : Addr
  fd_would_rather : FuncData
  F_would_rather : Fun K "would_rather" "would_rather" s_would_rather a_would_rather fd_would_rather
  b_would_rather : Binds K fd_would_rather ["places", "other", "mate"] []
  g_would_rather : mg "would_rather" = some (.ref a_would_rather)
  a_spoiling : Addr
  fd_spoiling : FuncData
  F_spoiling : Fun K "spoiling" "spoiling" s_spoiling a_spoiling fd_spoiling
  b_spoiling : Binds K fd_spoiling ["rows", "mates"] []
  g_spoiling : mg "spoiling" = some (.ref a_spoiling)
  a_spoilers : Addr
  fd_spoilers : FuncData
  F_spoilers : Fun K "spoilers" "spoilers" s_spoilers a_spoilers fd_spoilers
  b_spoilers : Binds K fd_spoilers ["lists", "pairing"] []
  g_spoilers : mg "spoilers" = some (.ref a_spoilers)
  a_is_good : Addr
  fd_is_good : FuncData
  F_is_good : Fun K "is_good" "is_good" s_is_good a_is_good fd_is_good
  b_is_good : Binds K fd_is_good ["lists", "pairing"] []
  g_is_good : mg "is_good" = some (.ref a_is_good)
  a_cut_behind : Addr
  fd_cut_behind : FuncData
  F_cut_behind : Fun K "cut_behind" "cut_behind" s_cut_behind a_cut_behind fd_cut_behind
  b_cut_behind : Binds K fd_cut_behind ["rows", "person", "kept"] []
  g_cut_behind : mg "cut_behind" = some (.ref a_cut_behind)
  a_offered : Addr
  fd_offered : FuncData
  F_offered : Fun K "offered" "offered" s_offered a_offered fd_offered
  b_offered : Binds K fd_offered ["lists"] []
  g_offered : mg "offered" = some (.ref a_offered)
  a_next_in_ring : Addr
  fd_next_in_ring : FuncData
  F_next_in_ring : Fun K "next_in_ring" "next_in_ring" s_next_in_ring a_next_in_ring fd_next_in_ring
  b_next_in_ring : Binds K fd_next_in_ring ["rows", "person"] []
  g_next_in_ring : mg "next_in_ring" = some (.ref a_next_in_ring)
  a_ring_from : Addr
  fd_ring_from : FuncData
  F_ring_from : Fun K "ring_from" "ring_from" s_ring_from a_ring_from fd_ring_from
  b_ring_from : Binds K fd_ring_from ["rows", "start"] []
  g_ring_from : mg "ring_from" = some (.ref a_ring_from)
  a_part : Addr
  fd_part : FuncData
  F_part : Fun K "part" "part" s_part a_part fd_part
  b_part : Binds K fd_part ["rows", "one", "other"] []
  g_part : mg "part" = some (.ref a_part)
  a_taken_out : Addr
  fd_taken_out : FuncData
  F_taken_out : Fun K "taken_out" "taken_out" s_taken_out a_taken_out fd_taken_out
  b_taken_out : Binds K fd_taken_out ["rows", "ring"] []
  g_taken_out : mg "taken_out" = some (.ref a_taken_out)
  a_is_emptied : Addr
  fd_is_emptied : FuncData
  F_is_emptied : Fun K "is_emptied" "is_emptied" s_is_emptied a_is_emptied fd_is_emptied
  b_is_emptied : Binds K fd_is_emptied ["rows", "behind"] []
  g_is_emptied : mg "is_emptied" = some (.ref a_is_emptied)
  a_rings_out : Addr
  fd_rings_out : FuncData
  F_rings_out : Fun K "rings_out" "rings_out" s_rings_out a_rings_out fd_rings_out
  b_rings_out : Binds K fd_rings_out ["lists"] []
  g_rings_out : mg "rings_out" = some (.ref a_rings_out)
  a_last_rows : Addr
  fd_last_rows : FuncData
  F_last_rows : Fun K "last_rows" "last_rows" s_last_rows a_last_rows fd_last_rows
  b_last_rows : Binds K fd_last_rows ["lists"] []
  g_last_rows : mg "last_rows" = some (.ref a_last_rows)
  a_half_pairing : Addr
  fd_half_pairing : FuncData
  F_half_pairing : Fun K "half_pairing" "half_pairing" s_half_pairing a_half_pairing fd_half_pairing
  b_half_pairing : Binds K fd_half_pairing ["lists"] []
  g_half_pairing : mg "half_pairing" = some (.ref a_half_pairing)
  a_check_half : Addr
  fd_check_half : FuncData
  F_check_half : Fun K "check_half" "check_half" s_check_half a_check_half fd_check_half
  b_check_half : Binds K fd_check_half ["rows", "half"] []
  g_check_half : mg "check_half" = some (.ref a_check_half)
  a_followers : Addr
  fd_followers : FuncData
  F_followers : Fun K "followers" "followers" s_followers a_followers fd_followers
  b_followers : Binds K fd_followers ["half"] []
  g_followers : mg "followers" = some (.ref a_followers)
  a_is_turned_well : Addr
  fd_is_turned_well : FuncData
  F_is_turned_well : Fun K "is_turned_well" "is_turned_well" s_is_turned_well a_is_turned_well fd_is_turned_well
  b_is_turned_well : Binds K fd_is_turned_well ["rows", "half", "behind"] []
  g_is_turned_well : mg "is_turned_well" = some (.ref a_is_turned_well)
  a_is_steady : Addr
  fd_is_steady : FuncData
  F_is_steady : Fun K "is_steady" "is_steady" s_is_steady a_is_steady fd_is_steady
  b_is_steady : Binds K fd_is_steady ["lists", "half"] []
  g_is_steady : mg "is_steady" = some (.ref a_is_steady)
  a_with_mate : Addr
  fd_with_mate : FuncData
  F_with_mate : Fun K "with_mate" "with_mate" s_with_mate a_with_mate fd_with_mate
  b_with_mate : Binds K fd_with_mate ["pairing", "person", "row"] []
  g_with_mate : mg "with_mate" = some (.ref a_with_mate)
  a_pairings_in : Addr
  fd_pairings_in : FuncData
  F_pairings_in : Fun K "pairings_in" "pairings_in" s_pairings_in a_pairings_in fd_pairings_in
  b_pairings_in : Binds K fd_pairings_in ["rows"] []
  g_pairings_in : mg "pairings_in" = some (.ref a_pairings_in)
  a_all_good : Addr
  fd_all_good : FuncData
  F_all_good : Fun K "all_good" "all_good" s_all_good a_all_good fd_all_good
  b_all_good : Binds K fd_all_good ["lists"] []
  g_all_good : mg "all_good" = some (.ref a_all_good)
  a_ring_of : Addr
  fd_ring_of : FuncData
  F_ring_of : Fun K "ring_of" "ring_of" s_ring_of a_ring_of fd_ring_of
  b_ring_of : Binds K fd_ring_of ["half", "first"] []
  g_ring_of : mg "ring_of" = some (.ref a_ring_of)
  a_odd_rings_in : Addr
  fd_odd_rings_in : FuncData
  F_odd_rings_in : Fun K "odd_rings_in" "odd_rings_in" s_odd_rings_in a_odd_rings_in fd_odd_rings_in
  b_odd_rings_in : Binds K fd_odd_rings_in ["half"] []
  g_odd_rings_in : mg "odd_rings_in" = some (.ref a_odd_rings_in)
  a_paired : Addr
  fd_paired : FuncData
  F_paired : Fun K "paired" "paired" s_paired a_paired fd_paired
  b_paired : Binds K fd_paired ["lists"] []
  g_paired : mg "paired" = some (.ref a_paired)
  a_odd_rings : Addr
  fd_odd_rings : FuncData
  F_odd_rings : Fun K "odd_rings" "odd_rings" s_odd_rings a_odd_rings fd_odd_rings
  b_odd_rings : Binds K fd_odd_rings ["lists"] []
  g_odd_rings : mg "odd_rings" = some (.ref a_odd_rings)
  a_alone : Addr
  fd_alone : FuncData
  F_alone : Fun K "alone" "alone" s_alone a_alone fd_alone
  b_alone : Binds K fd_alone ["lists"] []
  g_alone : mg "alone" = some (.ref a_alone)
  a__law_mixed : Addr
  fd__law_mixed : FuncData
  F__law_mixed : Fun K "_law_mixed" "_law_mixed" s__law_mixed a__law_mixed fd__law_mixed
  b__law_mixed : Binds K fd__law_mixed ["_law_number", "_law_k"] []
  g__law_mixed : mg "_law_mixed" = some (.ref a__law_mixed)
  a__law_lists : Addr
  fd__law_lists : FuncData
  F__law_lists : Fun K "_law_lists" "_law_lists" s__law_lists a__law_lists fd__law_lists
  b__law_lists : Binds K fd__law_lists ["_law_script", "_law_most"] []
  g__law_lists : mg "_law_lists" = some (.ref a__law_lists)
  a__law_set : Addr
  fd__law_set : FuncData
  F__law_set : Fun K "_law_set" "_law_set" s__law_set a__law_set fd__law_set
  b__law_set : Binds K fd__law_set ["_law_rows", "_law_one", "_law_other", "_law_number"] []
  g__law_set : mg "_law_set" = some (.ref a__law_set)
  a__law_mutual : Addr
  fd__law_mutual : FuncData
  F__law_mutual : Fun K "_law_mutual" "_law_mutual" s__law_mutual a__law_mutual fd__law_mutual
  b__law_mutual : Binds K fd__law_mutual ["_law_rows"] []
  g__law_mutual : mg "_law_mutual" = some (.ref a__law_mutual)
  a__law_handed : Addr
  fd__law_handed : FuncData
  F__law_handed : Fun K "_law_handed" "_law_handed" s__law_handed a__law_handed fd__law_handed
  b__law_handed : Binds K fd__law_handed ["_law_way", "_law_thing"] []
  g__law_handed : mg "_law_handed" = some (.ref a__law_handed)
  a__law_refused : Addr
  fd__law_refused : FuncData
  F__law_refused : FunD K "_law_refused" "_law_refused" (defArgs s__law_refused) (defBody s__law_refused) (defScope s__law_refused) [.int 0] [] a__law_refused fd__law_refused
  b__law_refused : Binds K fd__law_refused ["_law_thing", "_law_way"] []
  g__law_refused : mg "_law_refused" = some (.ref a__law_refused)
  d1__law_refused : List Value
  v1__law_refused : Vals [V.int 0] d1__law_refused
  b1__law_refused : Binds K fd__law_refused ["_law_thing", "_law_way"] d1__law_refused
  a__law_spoilt : Addr
  fd__law_spoilt : FuncData
  F__law_spoilt : Fun K "_law_spoilt" "_law_spoilt" s__law_spoilt a__law_spoilt fd__law_spoilt
  b__law_spoilt : Binds K fd__law_spoilt ["_law_rows", "_law_at", "_law_number"] []
  g__law_spoilt : mg "_law_spoilt" = some (.ref a__law_spoilt)
  a_law : Addr
  fd_law : FuncData
  F_law : Fun K "law" "law" s_law a_law fd_law
  b_law : Binds K fd_law ["_law_script"] []
  g_law : mg "law" = some (.ref a_law)
  m_ValueError : mg "ValueError" = none
  m_any : mg "any" = none
  m_bool : mg "bool" = none
  m_enumerate : mg "enumerate" = none
  m_int : mg "int" = none
  m_isinstance : mg "isinstance" = none
  m_len : mg "len" = none
  m_list : mg "list" = none
  m_min : mg "min" = none
  m_range : mg "range" = none
  m_set : mg "set" = none
  m_sorted : mg "sorted" = none
  m_tuple : mg "tuple" = none
  m_zip : mg "zip" = none
  C_BunkError : Addr
  g_BunkError : mg "BunkError" = some (.ref C_BunkError)
  C_TooMany : Addr
  g_TooMany : mg "TooMany" = some (.ref C_TooMany)
  C_BadLists : Addr
  g_BadLists : mg "BadLists" = some (.ref C_BadLists)
  C_BadPairing : Addr
  g_BadPairing : mg "BadPairing" = some (.ref C_BadPairing)
  f_BadLists : Addr
  E_BadLists : ErrTxt P K mg "BadLists" "BadLists.__init__" "no lists, at " C_BadLists f_BadLists
  k_BadLists : KitF K C_BadLists C_TooMany C_BadPairing C_BadLists C_BunkError false true
  f_BadPairing : Addr
  E_BadPairing : ErrTxt P K mg "BadPairing" "BadPairing.__init__" "no pairing, at " C_BadPairing f_BadPairing
  k_BadPairing : KitF K C_BadPairing C_TooMany C_BadPairing C_BadLists C_BunkError true false
  mostT : Tok
  mostG : mg "MOST_PEOPLE" = some (.int 60 mostT)
  mostST : Tok
  mostSG : mg "MOST_SEARCHED" = some (.int 10 mostST)
end K1
set_option Elab.async false
set_option linter.all false
namespace Bk
open PySem PySem.Spec PyProof.Rows L2 LamX
/-! ### any value as a row -/
/-- a whole number that is none of True and False -/
def isNumV : V → Bool
  | .int _ => true
  | _ => false
def kinds : List String := ["NoneType", "bool", "int", "str", "list", "tuple", "dict"]
/-- a value of one of these kinds -/
def Kd (K : PySem.W.Frag) (H : Hp) (x : V) (n : String) : Prop := TyX K H x (.type n) ∧ n ∈ kinds ∧ isNumV x = decide (n = "int")
theorem kd_flat {K : PySem.W.Frag} {H : Hp} {x : V} (h : flatV x = true) : ∃ n, Kd K H x n ∧ n ≠ "list" := by
  cases x with
  | non => exact ⟨"NoneType", ⟨.base .non, by decide, by decide⟩, by decide⟩
  | bl b => exact ⟨"bool", ⟨.base (.bl b), by decide, (show false = decide (("bool" : String) = "int") by decide)⟩, by decide⟩
  | int i => exact ⟨"int", ⟨.base (.int i), by decide, (show true = decide (("int" : String) = "int") by decide)⟩, by decide⟩
  | str s => exact ⟨"str", ⟨.base (.str s), by decide, (show false = decide (("str" : String) = "int") by decide)⟩, by decide⟩
  | _ => exact absurd (show false = true from h) Bool.false_ne_true
theorem kd_list {K : PySem.W.Frag} {H : Hp} {a : Addr} {xs : List V} (h : H a = some (.lst xs)) : Kd K H (.ref a) "list" := ⟨.base (.lst h), by decide, (show false = decide (("list" : String) = "int") by decide)⟩
theorem kd_tup {K : PySem.W.Frag} {H : Hp} {a : Addr} {xs : List V} (h : H a = some (.tup xs)) : Kd K H (.ref a) "tuple" := ⟨.base (.tup h), by decide, (show false = decide (("tuple" : String) = "int") by decide)⟩
theorem kd_dict {K : PySem.W.Frag} {H : Hp} {a : Addr} {kvs : List (L2.Key × V)} (h : H a = some (.dK kvs)) : Kd K H (.ref a) "dict" := ⟨.base (.dK h), by decide, (show false = decide (("dict" : String) = "int") by decide)⟩
theorem kd_same {K : PySem.W.Frag} {H H' : Hp} {x : V} {n : String} (h : Kd K H x n) (e : Same H H') : Kd K H' x n := by
  obtain ⟨h1, h2⟩ := h
  refine ⟨?_, h2⟩
  cases h1 with
  | base h =>
    refine .base ?_
    cases h with
    | non => exact .non
    | bl b => exact .bl b
    | int i => exact .int i
    | str s => exact .str s
    | flt s => exact .flt s
    | lst h => exact .lst (e _ _ h)
    | frz h => exact .frz (e _ _ h)
    | tup h => exact .tup (e _ _ h)
    | dK h => exact .dK (e _ _ h)
    | dT h => exact .dT (e _ _ h)
  | byt b => exact .byt b
  | set h => exact .set (e _ _ h)
  | kList h c => exact .kList h c
  | kTuple h c => exact .kTuple h c
  | kDict h c => exact .kDict h c
  | fTuple h => exact .fTuple (e _ _ h)
  | fDict h => exact .fDict (e _ _ h)
/-- whether these are others than p out of m people, each once, behind those seen -/
def rowB (p m : Nat) : List Int → List V → Bool
  | _, [] => true
  | seen, x :: r => match x with
    | .int i => if i < 0 ∨ (m : Int) ≤ i then false else if i = (p : Int) ∨ i ∈ seen then false else rowB p m (i :: seen) r
    | _ => false
/-- what is_row says of a value, the row of p out of m -/
def RowIs (K : PySem.W.Frag) (H : Hp) (y : V) (p m : Nat) (b : Bool) : Prop :=
  (∃ (a : Addr) (xs : List V), y = .ref a ∧ H a = some (.lst xs) ∧ (∀ y ∈ xs, ∃ n, Kd K H y n) ∧ xs.length ≤ 1000 ∧ b = rowB p m [] xs) ∨ (∃ n, Kd K H y n ∧ n ≠ "list" ∧ b = false)
theorem RowIs.same {K : PySem.W.Frag} {H H' : Hp} {y : V} {p m : Nat} {b : Bool} (h : RowIs K H y p m b) (e : Same H H') : RowIs K H' y p m b := by
  rcases h with ⟨a, xs, h1, h2, h3, h4⟩ | ⟨n, h1, h2⟩
  · exact .inl ⟨a, xs, h1, e _ _ h2, fun y hy => by obtain ⟨k, z⟩ := h3 y hy; exact ⟨k, kd_same z e⟩, h4⟩
  · exact .inr ⟨n, kd_same h1 e, h2⟩
theorem rowB_good {p m : Nat} : ∀ {r : List Nat} {seen : List Int}, r.Nodup → (∀ x ∈ r, x < m ∧ x ≠ p) → (∀ x ∈ r, (x : Int) ∉ seen) → rowB p m seen (r.map nv) = true
  | [], _, _, _, _ => rfl
  | x :: r, seen, hd, h, hs => by
    obtain ⟨h1, h2⟩ := h x List.mem_cons_self
    have hd' := List.nodup_cons.mp hd
    show (if (x : Int) < 0 ∨ (m : Int) ≤ x then false else if (x : Int) = (p : Int) ∨ (x : Int) ∈ seen then false else rowB p m ((x : Int) :: seen) (r.map nv)) = true
    rw [if_neg (by omega), if_neg (fun z => by
      rcases z with z | z
      · omega
      · exact hs x List.mem_cons_self z)]
    refine rowB_good hd'.2 (fun y hy => h y (List.mem_cons_of_mem _ hy)) (fun y hy z => ?_)
    rcases List.mem_cons.mp z with z | z
    · have : y = x := by omega
      exact hd'.1 (this ▸ hy)
    · exact hs y (List.mem_cons_of_mem _ hy) z
/-- what a row that is one holds -/
theorem rowB_true {p m : Nat} : ∀ {xs : List V} {seen : List Int}, rowB p m seen xs = true → xs.Nodup ∧ ∀ x ∈ xs, ∃ k : Int, x = .int k ∧ 0 ≤ k ∧ k < m ∧ k ≠ p ∧ k ∉ seen
  | [], _, _ => ⟨List.nodup_nil, fun x hx => by simp at hx⟩
  | x :: r, seen, h => by
    cases x with
    | int i =>
      have h' : (if i < 0 ∨ (m : Int) ≤ i then false else if i = (p : Int) ∨ i ∈ seen then false else rowB p m (i :: seen) r) = true := h
      by_cases h1 : i < 0 ∨ (m : Int) ≤ i
      · rw [if_pos h1] at h'; cases h'
      rw [if_neg h1] at h'
      by_cases h2 : i = (p : Int) ∨ i ∈ seen
      · rw [if_pos h2] at h'; cases h'
      rw [if_neg h2] at h'
      obtain ⟨d, g⟩ := rowB_true h'
      refine ⟨List.nodup_cons.mpr ⟨fun z => ?_, d⟩, fun x hx => ?_⟩
      · obtain ⟨k, e, _, _, _, hk⟩ := g _ z
        cases e
        exact hk List.mem_cons_self
      · rcases List.mem_cons.mp hx with rfl | z
        · exact ⟨i, rfl, by omega, by omega, fun e => h2 (.inl e), fun e => h2 (.inr e)⟩
        · obtain ⟨k, e, a, b, c, hk⟩ := g _ z
          exact ⟨k, e, a, b, c, fun e => hk (List.mem_cons_of_mem _ e)⟩
    | _ => cases h
end Bk
set_option Elab.async false
set_option linter.all false
set_option maxRecDepth 100000
set_option maxHeartbeats 4000000
namespace K1
open PySem PySem.Spec PyProof.Rows L2 LamX Bk
section
variable {P : Program} {w : World} {K : PySem.W.Frag} {mg : Str → Option Value} {base : Heap}

def sp_is_number (K : PySem.W.Frag) : Sp := fun vs H Q _ => ∃ (x : V) (n : String), vs = [x] ∧ Kd K H x n ∧ Q (.bl (isNumV x)) H
theorem kit_kinds (t : String) (ht : t = "int" ∨ t = "bool" ∨ t = "list" ∨ t = "tuple") : ∀ n ∈ kinds, kitB n t = some (decide (n = t ∨ (n = "bool" ∧ t = "int"))) := by
  rcases ht with rfl | rfl | rfl | rfl <;> decide +kernel
theorem ok_is_number (T : Txt P K mg) : FnOk P w K mg base CX0 1 T.a_is_number T.fd_is_number ["value"] (sp_is_number K) := by
  refine T.F_is_number.ok sc_is_number (fun vs H Q E h => ?_) (fun cdv A outer s H vs Q E hr h => ?_)
  · obtain ⟨x, n, rfl, _⟩ := h
    rfl
  · obtain ⟨x, n, rfl, ⟨hk, hm, hn⟩, q⟩ := h
    refine ⟨_, (pss_one (ps_ret (pe_and (pe_callB (kisi (K := K)) (by rfl) T.m_isinstance (by decide +kernel) (pa_cons (pv 0) (pa_cons (pe_bltn (v := .ty "int") (by rfl) T.m_int (by decide +kernel) rfl) pa_nil))) (pe_one (pe_not (pe_callB (kisi (K := K)) (by rfl) T.m_isinstance (by decide +kernel) (pa_cons (pv 0) (pa_cons (pe_bltn (v := .ty "bool") (by rfl) T.m_bool (by decide +kernel) rfl) pa_nil)))))))), ?_⟩
    rw [hn] at q
    simp only [tRaiseErr, tMkErr, tCallS, WE, tLenSetI, cx_K, cx_w, wipe, Int.zero_add, Bool.false_eq_true, if_false, if_true, Bool.not_true, Bool.not_false, tSeq, tAsg, tOp, tVar, tC, tRet, tRetN, tNext, tDrop, tIfS, tB, tTest, tIf, tAnd, tOr, tNot, tAndV, tOrV, tNotV, tUn, tCons, tNil, tCall, tCB, tBM, tBM0, tNoPart, tPart, tSl, tCont, tNever, tTup, tLst, gName, gNil, gCons, gTup, gSub, rI, rI0, rU, rEq, rNe, rIxL, rSlL, rSetL, rLn, rLs, rTs, rIn, rSet0, tSAdd, rSAdd, rSIn, rSNotIn, rRep, rCat, rAppend, rPop, rPopAt, iList, iRng1, iRng2, iEnum, gTup, tIsN, tNotN, tTru, tLstRg, tRg1, tRg2, L2.start, List.map_cons, List.map_nil, List.length_cons, List.length_nil, List.replicate, List.cons_append, List.nil_append, List.getElem?_cons_zero, List.getElem?_cons_succ, List.set_cons_zero, List.set_cons_succ, Option.some.injEq, exists_eq_left', V.int.injEq, V.ref.injEq, V.bl.injEq, List.cons.injEq, exists_and_left, exists_and_right, and_true, true_and, exists_eq_left, exists_eq, Nat.reduceAdd, Nat.reduceSub]
    refine isi hk (kit_kinds "int" (.inl rfl) n hm) ⟨_, rfl, ?_⟩
    by_cases h1 : n = "int"
    · subst h1
      refine iteT (isi hk (kit_kinds "bool" (.inr (.inl rfl)) _ hm) ⟨_, rfl, ?_⟩)
      exact q
    · by_cases h2 : n = "bool"
      · subst h2
        refine iteT (isi hk (kit_kinds "bool" (.inr (.inl rfl)) _ hm) ⟨_, rfl, ?_⟩)
        exact q
      · rw [show decide (n = "int" ∨ (n = "bool" ∧ ("int" : String) = "int")) = false from decide_eq_false (by rintro (z | z); exact h1 z; exact h2 z.1)]
        refine iteF ?_
        rw [decide_eq_false h1] at q
        exact q
/-- any value as a row -/
def sp_is_row (K : PySem.W.Frag) : Sp := fun vs H Q _ => ∃ (x : V) (p m : Nat), vs = [x, nv p, nv m] ∧
  ((∃ (a : Addr) (xs : List V), x = .ref a ∧ H a = some (.lst xs) ∧ (∀ y ∈ xs, ∃ n, Kd K H y n) ∧ xs.length ≤ 1000 ∧ ∀ H', Same H H' → Q (.bl (rowB p m [] xs)) H') ∨
    (∃ n, Kd K H x n ∧ n ≠ "list" ∧ Q (.bl false) H))
theorem ok_is_row (T : Txt P K mg) : FnOk P w K mg base CX0 2 T.a_is_row T.fd_is_row ["row", "person", "many"] (sp_is_row K) := by
  have G_is_number : FnOk P w K mg base CX0 1 T.a_is_number T.fd_is_number ["value"] (sp_is_number K) := ok_is_number T
  refine T.F_is_row.ok sc_is_row (fun vs H Q E h => ?_) (fun cdv A outer s H vs Q E hr h => ?_)
  · obtain ⟨x, p, m, rfl, _⟩ := h
    rfl
  · obtain ⟨x, p, m, rfl, h⟩ := h
    refine ⟨_, (pss_cons (ps_if (pt_not (pt_val (pe_callB (kisi (K := K)) (by rfl) T.m_isinstance (by decide +kernel) (pa_cons (pv 0) (pa_cons (pe_bltn (v := .ty "list") (by rfl) T.m_list (by decide +kernel) rfl) pa_nil))))) (pss_one (ps_ret pe_bl)) pss_nil)
      (C8.pss_cut (ps_set (i := 3) sc_is_row.nd rfl (.inl rfl) (pe_callTy0 cr_set0 (by rfl) T.m_set (by decide +kernel)))
      (C8.pss_cut (ps_for PassesOwn.never rfl (kpi_list (K := K) (pv 0)) (pg_name (i := 4) sc_is_row.nd rfl (.inl rfl)) (pss_cons (ps_if (PW.pt (pw_or (pt_not (pt_val (pe_call G_is_number (hr.mono (by decide)) (by rfl) T.g_is_number T.F_is_number.kp T.b_is_number .nil pass0 (pa_cons (pv 4) pa_nil)))) (pw_or (pt_cmpR op_lt (pv 4) pe_int (nomark _)) (pw_or1 (pt_cmpR op_ge (pv 4) (pv 2) (nomark _)))))) (pss_one (ps_ret pe_bl)) pss_nil)
      (pss_cons (ps_if (PW.pt (pw_or (pt_cmpR op_eq (pv 4) (pv 1) (nomark _)) (pw_or1 (pt_cmpR or_sin (pv 4) (pv 3) rfl)))) (pss_one (ps_ret pe_bl)) pss_nil)
      (pss_one (ps_expr (pe_sadd (pv 3) (pa_cons (pv 4) pa_nil)))))))
      (pss_one (ps_ret pe_bl))))), ?_⟩
    simp only [tRaiseErr, tMkErr, tCallS, WE, tLenSetI, cx_K, cx_w, wipe, Int.zero_add, Bool.false_eq_true, if_false, if_true, Bool.not_true, Bool.not_false, tSeq, tAsg, tOp, tVar, tC, tRet, tRetN, tNext, tDrop, tIfS, tB, tTest, tIf, tAnd, tOr, tNot, tAndV, tOrV, tNotV, tUn, tCons, tNil, tCall, tCB, tBM, tBM0, tNoPart, tPart, tSl, tCont, tNever, tTup, tLst, gName, gNil, gCons, gTup, gSub, rI, rI0, rU, rEq, rNe, rIxL, rSlL, rSetL, rLn, rLs, rTs, rIn, rSet0, tSAdd, rSAdd, rSIn, rSNotIn, rRep, rCat, rAppend, rPop, rPopAt, iList, iRng1, iRng2, iEnum, gTup, tIsN, tNotN, tTru, tLstRg, tRg1, tRg2, L2.start, List.map_cons, List.map_nil, List.length_cons, List.length_nil, List.replicate, List.cons_append, List.nil_append, List.getElem?_cons_zero, List.getElem?_cons_succ, List.set_cons_zero, List.set_cons_succ, Option.some.injEq, exists_eq_left', V.int.injEq, V.ref.injEq, V.bl.injEq, List.cons.injEq, exists_and_left, exists_and_right, and_true, true_and, exists_eq_left, exists_eq, Nat.reduceAdd, Nat.reduceSub]
    rcases h with ⟨a, xs, rfl, ha, hfl, hlen, q⟩ | ⟨n, ⟨hk, hm, _⟩, hn, q⟩
    · refine isi (kd_list ha).1 (kit_kinds "list" (.inr (.inr (.inl rfl))) _ (kd_list (K := K) ha).2.1) ⟨_, rfl, ?_⟩
      refine iteF ⟨fun σ H' => ∃ d, H' = upd H d (SetO w d (fun _ => false) 0) ∧ H d = none ∧ σ = [some (.ref a), some (nv p), some (nv m), some (.ref d), none], ?_, fun σ H' hM => ?_⟩
      · simp only [tRaiseErr, tMkErr, tCallS, WE, tLenSetI, cx_K, cx_w, wipe, Int.zero_add, Bool.false_eq_true, if_false, if_true, Bool.not_true, Bool.not_false, tSeq, tAsg, tOp, tVar, tC, tRet, tRetN, tNext, tDrop, tIfS, tB, tTest, tIf, tAnd, tOr, tNot, tAndV, tOrV, tNotV, tUn, tCons, tNil, tCall, tCB, tBM, tBM0, tNoPart, tPart, tSl, tCont, tNever, tTup, tLst, gName, gNil, gCons, gTup, gSub, rI, rI0, rU, rEq, rNe, rIxL, rSlL, rSetL, rLn, rLs, rTs, rIn, rSet0, tSAdd, rSAdd, rSIn, rSNotIn, rRep, rCat, rAppend, rPop, rPopAt, iList, iRng1, iRng2, iEnum, gTup, tIsN, tNotN, tTru, tLstRg, tRg1, tRg2, L2.start, List.map_cons, List.map_nil, List.length_cons, List.length_nil, List.replicate, List.cons_append, List.nil_append, List.getElem?_cons_zero, List.getElem?_cons_succ, List.set_cons_zero, List.set_cons_succ, Option.some.injEq, exists_eq_left', V.int.injEq, V.ref.injEq, V.bl.injEq, List.cons.injEq, exists_and_left, exists_and_right, and_true, true_and, exists_eq_left, exists_eq, Nat.reduceAdd, Nat.reduceSub]
        exact fun d hd0 => ⟨d, rfl, hd0, rfl⟩
      obtain ⟨d, rfl, hd0, rfl⟩ := hM
      have s0 : Same H (upd H d (SetO w d (fun _ => false) 0)) := same_upd hd0
      refine ⟨fun σ H' => Same H H' ∧ rowB p m [] xs = true, ?_, fun σ H' ⟨e, hb⟩ => ?_⟩
      · refine ⟨_, rfl, a, rfl, ⟨_, SqL.of (s0 _ _ ha)⟩, for_list (K := K) (xs := xs)
          (fun i σ H' => ∃ y S, σ = [some (.ref a), some (nv p), some (nv m), some (.ref d), y] ∧ Same H H' ∧ H' d = some (SetO w d (fun k => decide (k ∈ S)) i) ∧ rowB p m [] xs = rowB p m S (xs.drop i))
          ⟨none, [], rfl, s0, ?_, rfl⟩ (fun i σ H' _ h => ?_) (fun i x σ H' hx h => ?_) (fun σ H' h => ?_)⟩
        · rw [upd_same]
          congr 1
        · obtain ⟨_, _, _, e, _⟩ := h
          exact SqL.of (e _ _ ha)
        · obtain ⟨y, S, rfl, e, hs, hb⟩ := h
          obtain ⟨hi, e2⟩ := List.getElem?_eq_some_iff.mp hx
          have hd : xs.drop i = x :: xs.drop (i + 1) := by rw [List.drop_eq_getElem_cons hi, e2]
          rw [hd] at hb
          obtain ⟨n, kd⟩ := hfl x (List.mem_of_getElem? hx)
          have kd := kd_same kd e
          simp only [tRaiseErr, tMkErr, tCallS, WE, tLenSetI, cx_K, cx_w, wipe, Int.zero_add, Bool.false_eq_true, if_false, if_true, Bool.not_true, Bool.not_false, tSeq, tAsg, tOp, tVar, tC, tRet, tRetN, tNext, tDrop, tIfS, tB, tTest, tIf, tAnd, tOr, tNot, tAndV, tOrV, tNotV, tUn, tCons, tNil, tCall, tCB, tBM, tBM0, tNoPart, tPart, tSl, tCont, tNever, tTup, tLst, gName, gNil, gCons, gTup, gSub, rI, rI0, rU, rEq, rNe, rIxL, rSlL, rSetL, rLn, rLs, rTs, rIn, rSet0, tSAdd, rSAdd, rSIn, rSNotIn, rRep, rCat, rAppend, rPop, rPopAt, iList, iRng1, iRng2, iEnum, gTup, tIsN, tNotN, tTru, tLstRg, tRg1, tRg2, L2.start, List.map_cons, List.map_nil, List.length_cons, List.length_nil, List.replicate, List.cons_append, List.nil_append, List.getElem?_cons_zero, List.getElem?_cons_succ, List.set_cons_zero, List.set_cons_succ, Option.some.injEq, exists_eq_left', V.int.injEq, V.ref.injEq, V.bl.injEq, List.cons.injEq, exists_and_left, exists_and_right, and_true, true_and, exists_eq_left, exists_eq, Nat.reduceAdd, Nat.reduceSub]
          refine ⟨x, n, rfl, kd, _, rfl, ?_⟩
          have qno : rowB p m [] xs = false → Q (.bl false) H' := fun z => by
            have := q H' e
            rw [z] at this
            exact this
          cases hx1 : isNumV x with
          | false =>
            refine iteT (qno ?_)
            rw [hb]
            cases x with
            | int k => cases hx1
            | _ => rfl
          | true =>
            obtain ⟨k, rfl⟩ : ∃ k, x = .int k := by
              cases x with
              | int k => exact ⟨k, rfl⟩
              | _ => cases hx1
            have hb' : rowB p m [] xs = (if k < 0 ∨ (m : Int) ≤ k then false else if k = (p : Int) ∨ k ∈ S then false else rowB p m (k :: S) (xs.drop (i + 1))) := hb
            refine iteF ⟨k, rfl, ?_⟩
            by_cases h1 : k < 0
            · rw [decide_eq_true h1]
              exact iteT (qno (by rw [hb', if_pos (.inl h1)]))
            rw [decide_eq_false h1]
            refine iteF ⟨k, rfl, ?_⟩
            by_cases h2 : (m : Int) ≤ k
            · rw [decide_eq_true h2]
              exact iteT (qno (by rw [hb', if_pos (.inr h2)]))
            rw [decide_eq_false h2]
            rw [if_neg (by omega)] at hb'
            refine iteF ⟨rfl, ?_⟩
            by_cases h3 : k = (p : Int)
            · rw [decide_eq_true (show V.int k = nv p by rw [h3])]
              exact iteT (qno (by rw [hb', if_pos (.inl h3)]))
            rw [decide_eq_false (show ¬ V.int k = nv p from fun z => h3 (V.int.inj z))]
            refine iteF ⟨k, rfl, _, ⟨_, hs⟩, ?_⟩
            by_cases h4 : k ∈ S
            · rw [decide_eq_true h4]
              exact iteT (qno (by rw [hb', if_pos (.inr h4)]))
            rw [decide_eq_false h4]
            rw [if_neg (by rintro (z | z); exact h3 z; exact h4 z)] at hb'
            refine iteF ⟨⟨_, _, hs⟩, k, rfl, _, _, hs, ?_, ?_, k :: S, ?_, hb'⟩
            · exact Nat.lt_of_le_of_lt (by omega : i + 1 ≤ 1001) (by decide)
            · intro b o ho
              rw [upd_ne (ne_of_none ho hd0)]
              exact e b o ho
            · rw [upd_same, decide_eq_false h4]
              simp only [Bool.false_eq_true, if_false]
              congr 2
              funext j
              rw [← Bool.decide_or]
              congr 1
              rw [List.mem_cons, or_comm]
        · obtain ⟨y, S, rfl, e, hs, hb⟩ := h
          refine ⟨e, ?_⟩
          rw [hb, List.drop_length]
          rfl
      · rw [hb] at q
        exact q H' e
    · refine isi hk (kit_kinds "list" (.inr (.inr (.inl rfl))) n hm) ⟨_, rfl, ?_⟩
      rw [show decide (n = "list" ∨ (n = "bool" ∧ ("list" : String) = "int")) = false from decide_eq_false (by rintro (z | z); exact hn z; exact absurd z.2 (by decide))]
      exact iteT q
end
end K1

set_option Elab.async false
set_option linter.all false
set_option maxRecDepth 100000
set_option maxHeartbeats 4000000
namespace K1
open PySem PySem.Spec PyProof.Rows L2 LamX Bk
section
variable {P : Program} {w : World} {K : PySem.W.Frag} {mg : Str → Option Value} {base : Heap}

/-- any value as lists -/
def sp_check (K : PySem.W.Frag) (CL : Addr) : Sp := fun vs H Q E => ∃ x : V, vs = [x] ∧
  ((∃ (t : Addr) (ys : List V) (ok : Nat → Bool), x = .ref t ∧ H t = some (.lst ys) ∧ ys.length ≤ 60 ∧ (∀ (i : Nat) (y : V), ys[i]? = some y → RowIs K H y i ys.length (ok i)) ∧ ((∀ i, i < ys.length → ok i = true) → ∀ H', Same H H' → Q .non H') ∧
      (∀ i, i < ys.length → ok i = false → (∀ j, j < i → ok j = true) → ∀ H' d, Same H H' → H' d = some (.xd (atFs (nv i))) → H d = none → E (.ref CL) (some d) H')) ∨
    (((∃ n, Kd K H x n ∧ n ≠ "list") ∨ ∃ (t : Addr) (ys : List V), x = .ref t ∧ H t = some (.lst ys) ∧ 60 < ys.length) ∧ ∀ H' d, Same H H' → H' d = some (.xd (atFs .non)) → H d = none → E (.ref CL) (some d) H'))
theorem ok_check_lists (T : Txt P K mg) : FnOk P w K mg base (L2.CX P w) 3 T.a_check_lists T.fd_check_lists ["lists"] (sp_check K T.C_BadLists) := by
  have G_is_row : FnOk P w K mg base CX0 2 T.a_is_row T.fd_is_row ["row", "person", "many"] (sp_is_row K) := ok_is_row T
  refine T.F_check_lists.okX sc_check_lists (fun vs H Q E h => ?_) (fun cdv A outer s H vs Q E hr h => ?_)
  · obtain ⟨x, rfl, _⟩ := h
    rfl
  · obtain ⟨x, rfl, h⟩ := h
    refine ⟨_, (C8.pss_cut (ps_if (PW.pt (pw_or (pt_not (pt_val (pe_callB (kisi (K := K)) (by rfl) T.m_isinstance (by decide +kernel) (pa_cons (pv 0) (pa_cons (pe_bltn (v := .ty "list") (by rfl) T.m_list (by decide +kernel) rfl) pa_nil))))) (pw_or1 (pt_cmpR op_gt (pe_callB (klen (K := K)) (by rfl) T.m_len (by decide +kernel) (pa_cons (pv 0) pa_nil)) (pe_glob (v := .int 60) rfl T.mostG ⟨_, rfl⟩) (nomark _))))) (pss_one (ps_raiseErr rfl T.E_BadLists hr (takes_of rfl rfl rfl rfl) (pa_cons pe_non pa_nil) (by rfl))) pss_nil)
      (pss_one (ps_for (passes_of rfl) rfl (kpi_enum (K := K) (by rfl) T.m_enumerate (pa_cons (pv 0) pa_nil)) (kpg_tup (K := K) (n := 2) rfl (pgs_cons (pg_name (i := 1) sc_check_lists.nd rfl (.inl rfl)) (pgs_cons (pg_name (i := 2) sc_check_lists.nd rfl (.inl rfl)) pgs_nil))) (pss_one (ps_if (pt_not (pt_val (pe_call G_is_row (hr.mono (by decide)) (by rfl) T.g_is_row T.F_is_row.kp T.b_is_row .nil pass0 (pa_cons (pv 2) (pa_cons (pv 1) (pa_cons (pe_callB (klen (K := K)) (by rfl) T.m_len (by decide +kernel) (pa_cons (pv 0) pa_nil)) pa_nil)))))) (pss_one (ps_raiseErr rfl T.E_BadLists hr (takes_of rfl rfl rfl rfl) (pa_cons (pv 1) pa_nil) (by rfl))) pss_nil))))), ?_⟩
    rcases h with ⟨t, ys, ok, rfl, ht, hl, hR, q1, q2⟩ | ⟨h, q⟩
    · refine ⟨fun σ H' => H' = H ∧ σ = [some (.ref t), none, none], ?_, fun σ H' hM => ?_⟩
      · simp only [tRaiseErr, tMkErr, tCallS, WE, tLenSetI, cx_K, cx_w, wipe, Int.zero_add, Bool.false_eq_true, if_false, if_true, Bool.not_true, Bool.not_false, tSeq, tAsg, tOp, tVar, tC, tRet, tRetN, tNext, tDrop, tIfS, tB, tTest, tIf, tAnd, tOr, tNot, tAndV, tOrV, tNotV, tUn, tCons, tNil, tCall, tCB, tBM, tBM0, tNoPart, tPart, tSl, tCont, tNever, tTup, tLst, gName, gNil, gCons, gTup, gSub, rI, rI0, rU, rEq, rNe, rIxL, rSlL, rSetL, rLn, rLs, rTs, rIn, rSet0, tSAdd, rSAdd, rSIn, rSNotIn, rRep, rCat, rAppend, rPop, rPopAt, iList, iRng1, iRng2, iEnum, gTup, tIsN, tNotN, tTru, tLstRg, tRg1, tRg2, L2.start, List.map_cons, List.map_nil, List.length_cons, List.length_nil, List.replicate, List.cons_append, List.nil_append, List.getElem?_cons_zero, List.getElem?_cons_succ, List.set_cons_zero, List.set_cons_succ, Option.some.injEq, exists_eq_left', V.int.injEq, V.ref.injEq, V.bl.injEq, List.cons.injEq, exists_and_left, exists_and_right, and_true, true_and, exists_eq_left, exists_eq, Nat.reduceAdd, Nat.reduceSub]
        refine isi (kd_list ht).1 (kit_kinds "list" (.inr (.inr (.inl rfl))) _ (kd_list (K := K) ht).2.1) ⟨_, rfl, ?_⟩
        refine iteF ⟨_, .inl (SqL.of ht), ?_⟩
        rw [decide_eq_false (show ¬ (60 : Int) < (ys.length : Int) by omega)]
        exact iteF rfl
      · obtain ⟨rfl, rfl⟩ := hM
        refine ⟨.ref t, rfl, t, _, rfl, SqL.of ht, for_enum (K := K) (xs := ys) (fun i σ H2 => (∃ y1 y2, σ = [some (.ref t), y1, y2]) ∧ Same H' H2 ∧ ∀ j, j < i → ok j = true) ⟨⟨none, none, rfl⟩, Same.refl _, fun j hj => absurd hj (Nat.not_lt_zero _)⟩
          (fun i σ H2 _ h => SqL.of (h.2.1 _ _ ht)) (fun i x σ H2 TA hx hT h => ?_) (fun σ H2 h => ?_)⟩
        · obtain ⟨⟨y1, y2, rfl⟩, e, hok⟩ := h
          have hi : i < ys.length := (List.getElem?_eq_some_iff.mp hx).1
          have e2 : Same H' (upd H2 TA (.tup [.int (i : Nat), x])) := same_upd2 e (e.free hT)
          obtain ⟨M, hM⟩ : ∃ M : L2.St → Hp → Prop, M = (fun σ H2 => (∃ y1 y2, σ = [some (.ref t), y1, y2]) ∧ Same H' H2 ∧ ∀ j, j < i + 1 → ok j = true) := ⟨_, rfl⟩
          rw [← hM]
          simp only [tRaiseErr, tMkErr, tCallS, WE, tLenSetI, cx_K, cx_w, wipe, Int.zero_add, Bool.false_eq_true, if_false, if_true, Bool.not_true, Bool.not_false, tSeq, tAsg, tOp, tVar, tC, tRet, tRetN, tNext, tDrop, tIfS, tB, tTest, tIf, tAnd, tOr, tNot, tAndV, tOrV, tNotV, tUn, tCons, tNil, tCall, tCB, tBM, tBM0, tNoPart, tPart, tSl, tCont, tNever, tTup, tLst, gName, gNil, gCons, gTup, gSub, rI, rI0, rU, rEq, rNe, rIxL, rSlL, rSetL, rLn, rLs, rTs, rIn, rSet0, tSAdd, rSAdd, rSIn, rSNotIn, rRep, rCat, rAppend, rPop, rPopAt, iList, iRng1, iRng2, iEnum, gTup, tIsN, tNotN, tTru, tLstRg, tRg1, tRg2, L2.start, List.map_cons, List.map_nil, List.length_cons, List.length_nil, List.replicate, List.cons_append, List.nil_append, List.getElem?_cons_zero, List.getElem?_cons_succ, List.set_cons_zero, List.set_cons_succ, Option.some.injEq, exists_eq_left', V.int.injEq, V.ref.injEq, V.bl.injEq, List.cons.injEq, exists_and_left, exists_and_right, and_true, true_and, exists_eq_left, exists_eq, Nat.reduceAdd, Nat.reduceSub]
          refine ⟨_, SqT.of upd_same, rfl, _, _, rfl, _, _, rfl, rfl, _, .inl (SqL.of (e2 _ _ ht)), ?_⟩
          have fin : ∀ H3, Same (upd H2 TA (.tup [.int (i : Nat), x])) H3 → ∃ c, V.bl (ok i) = .bl c ∧ (if (!c) = true then AtV (.int (i : Int)) ∧ ∀ d, H3 d = none → E (.ref T.C_BadLists) (some d) (upd H3 d (.xd (atFs (.int (i : Int))))) else M [some (.ref t), some (.int (i : Int)), some x] H3) := fun H3 e3 => by
            refine ⟨_, rfl, ?_⟩
            cases hok2 : ok i with
            | true =>
              refine iteF ?_
              rw [hM]
              refine ⟨⟨_, _, rfl⟩, e2.trans e3, fun j hj => ?_⟩
              by_cases z : j = i
              · rw [z]; exact hok2
              · exact hok j (by omega)
            | false =>
              refine iteT ⟨.inr ⟨i, rfl, by omega⟩, fun d hd => ?_⟩
              exact q2 i hi hok2 hok _ d (same_upd2 (e2.trans e3) ((e2.trans e3).free hd)) upd_same ((e2.trans e3).free hd)
          refine ⟨x, i, ys.length, rfl, ?_⟩
          rcases (hR i x hx).same e2 with ⟨a, xs, rfl, h1, h2, h3, h4⟩ | ⟨n, h1, h2, h3⟩
          · refine .inl ⟨a, xs, rfl, h1, h2, h3, fun H3 e3 => ?_⟩
            rw [← h4]
            exact fin H3 e3
          · refine .inr ⟨n, h1, h2, ?_⟩
            have := fin _ (Same.refl _)
            rw [h3] at this
            exact this
        · exact q1 h.2.2 _ h.2.1
    · have out : AtV V.non ∧ ∀ (d : Addr), H d = none → E (Value.ref T.C_BadLists) (some d) (upd H d (HO.xd (atFs V.non))) := ⟨.inl rfl, fun d hd => q _ d (same_upd hd) upd_same hd⟩
      refine ⟨fun _ _ => False, ?_, fun _ _ z => z.elim⟩
      simp only [tRaiseErr, tMkErr, tCallS, WE, tLenSetI, cx_K, cx_w, wipe, Int.zero_add, Bool.false_eq_true, if_false, if_true, Bool.not_true, Bool.not_false, tSeq, tAsg, tOp, tVar, tC, tRet, tRetN, tNext, tDrop, tIfS, tB, tTest, tIf, tAnd, tOr, tNot, tAndV, tOrV, tNotV, tUn, tCons, tNil, tCall, tCB, tBM, tBM0, tNoPart, tPart, tSl, tCont, tNever, tTup, tLst, gName, gNil, gCons, gTup, gSub, rI, rI0, rU, rEq, rNe, rIxL, rSlL, rSetL, rLn, rLs, rTs, rIn, rSet0, tSAdd, rSAdd, rSIn, rSNotIn, rRep, rCat, rAppend, rPop, rPopAt, iList, iRng1, iRng2, iEnum, gTup, tIsN, tNotN, tTru, tLstRg, tRg1, tRg2, L2.start, List.map_cons, List.map_nil, List.length_cons, List.length_nil, List.replicate, List.cons_append, List.nil_append, List.getElem?_cons_zero, List.getElem?_cons_succ, List.set_cons_zero, List.set_cons_succ, Option.some.injEq, exists_eq_left', V.int.injEq, V.ref.injEq, V.bl.injEq, List.cons.injEq, exists_and_left, exists_and_right, and_true, true_and, exists_eq_left, exists_eq, Nat.reduceAdd, Nat.reduceSub]
      rcases h with ⟨n, ⟨hk, hm, _⟩, hn⟩ | ⟨t, ys, rfl, ht, hl⟩
      · refine isi hk (kit_kinds "list" (.inr (.inr (.inl rfl))) n hm) ⟨_, rfl, ?_⟩
        rw [show decide (n = "list" ∨ (n = "bool" ∧ ("list" : String) = "int")) = false from decide_eq_false (by rintro (z | z); exact hn z; exact absurd z.2 (by decide))]
        exact iteT out
      · refine isi (kd_list ht).1 (kit_kinds "list" (.inr (.inr (.inl rfl))) _ (kd_list (K := K) ht).2.1) ⟨_, rfl, ?_⟩
        refine iteF ⟨_, rfl, _, .inl (SqL.of ht), ?_⟩
        rw [decide_eq_true (show (60 : Int) < (ys.length : Int) by omega)]
        exact iteT out
end
end K1

set_option Elab.async false
set_option linter.all false
set_option maxRecDepth 100000
set_option maxHeartbeats 4000000
namespace K1
open PySem PySem.Spec PyProof.Rows L2 LamX Bk
section
variable {P : Program} {w : World} {K : PySem.W.Frag} {mg : Str → Option Value} {base : Heap}

/-- what a dict of places tells -/
def PlaceD (kvs : List (L2.Key × V)) (r : List Nat) : Prop := ∀ x : Nat, valV kvs (Sum.inl (x : Int)) = if x ∈ r then some (nv (r.idxOf x)) else none
/-- the places of each one on each row -/
def PlacesAt (H : Hp) (p : Addr) (ds : List Addr) (rows : List (List Nat)) : Prop :=
  H p = some (.lst (ds.map V.ref)) ∧ ds.length = rows.length ∧ ∀ (i : Nat) (d : Addr), ds[i]? = some d → ∃ kvs, H d = some (.dK kvs) ∧ PlaceD kvs (fn rows i)
def sp_places_in (K : PySem.W.Frag) : Sp := fun vs H Q _ => ∃ (t : Addr) (as : List Addr) (rows : List (List Nat)), vs = [.ref t] ∧ Tbl H t as rows ∧ (∀ i, (fn rows i).Nodup) ∧ (∀ i, (fn rows i).length ≤ 100) ∧ rows.length ≤ 100 ∧
  ∀ H' p ds, Same H H' → PlacesAt H' p ds rows → Q (.ref p) H'
theorem place_step {r : List Nat} (hd : r.Nodup) {j z : Nat} (hz : r[j]? = some z) {kvs : List (L2.Key × V)} (h : ∀ x : Nat, valV kvs (Sum.inl (x : Int)) = if x ∈ r.take j then some (nv (r.idxOf x)) else none) :
    ∀ x : Nat, valV (putK kvs (Sum.inl (z : Int)) (nv j)) (Sum.inl (x : Int)) = if x ∈ r.take (j + 1) then some (nv (r.idxOf x)) else none := fun x => by
  rw [valV_put, h x]
  have et : r.take (j + 1) = r.take j ++ [z] := by rw [List.take_add_one, hz]; rfl
  obtain ⟨hj, ej⟩ := List.getElem?_eq_some_iff.mp hz
  by_cases e : x = z
  · subst e
    rw [if_pos rfl, if_pos (by rw [et]; simp)]
    rw [show r.idxOf x = j by rw [← ej]; exact hd.idxOf_getElem _ hj]
  · rw [if_neg (fun q => e (by have := Sum.inl.inj q; omega))]
    have : (x ∈ r.take (j + 1)) = (x ∈ r.take j) := by rw [et]; simp [e]
    simp only [this]
theorem ok_places_in (T : Txt P K mg) : FnOk P w K mg base CX0 1 T.a_places_in T.fd_places_in ["rows"] (sp_places_in K) := by
  refine T.F_places_in.ok sc_places_in (fun vs H Q E h => ?_) (fun cdv A outer s H vs Q E hr h => ?_)
  · obtain ⟨t, as, rows, rfl, _⟩ := h
    rfl
  · obtain ⟨t, as, rows, rfl, TB, gnd, glen, hlen, q⟩ := h
    refine ⟨_, (pss_one (ps_ret (pe_lc (own := [("row", 3)]) rfl sc_places_in.nd (kpi_list (K := K) (pv 0)) (blkOk_by (own := [("row", 3)]) (N := ["rows", "place", "other", "row"]) (sc := (defScope s_places_in)) (by decide +kernel)) (fun _ _ _ _ _ => (pg_name (i := 3) sc_places_in.nd rfl (by first | exact .inl rfl | exact .inr rfl))) (fun _ _ _ _ _ => pts_nil) (fun _ _ _ _ _ => (pe_dc (own := [("place", 1), ("other", 2)]) rfl sc_places_in.nd (kpi_enum (K := K) (by rfl) T.m_enumerate (pa_cons (pv 3) pa_nil)) (blkOk_by (own := [("place", 1), ("other", 2)]) (N := ["rows", "place", "other", "row"]) (sc := (relS (lcS (retE s_places_in)) (defScope s_places_in))) (by decide +kernel)) (fun _ _ _ _ _ => (kpg_tup (K := K) (n := 2) rfl (pgs_cons (pg_name (i := 1) sc_places_in.nd rfl (by first | exact .inl rfl | exact .inr rfl)) (pgs_cons (pg_name (i := 2) sc_places_in.nd rfl (by first | exact .inl rfl | exact .inr rfl)) pgs_nil)))) (fun _ _ _ _ _ => pts_nil) (fun _ _ _ _ _ => (pv 2)) (fun _ _ _ _ _ => (pv 1))))))), ?_⟩
    refine ⟨_, rfl, t, rfl, ⟨_, SqL.of TB.top⟩, fun D hD => lc_list (K := K) (xs := as.map V.ref)
      (fun i H2 => Same H H2 ∧ ∃ ds, H2 D = some (.lst (ds.map V.ref)) ∧ ds.length = i ∧ ∀ (j : Nat) (d : Addr), ds[j]? = some d → ∃ kvs, H2 d = some (.dK kvs) ∧ PlaceD kvs (fn rows j))
      ⟨same_upd hD, [], upd_same, rfl, fun j d e => by simp at e⟩ (fun i H2 _ h => h.1.seq (SqL.of TB.top)) (fun i x H2 hx h => ?_) (fun H2 h => ?_)⟩
    · obtain ⟨e, ds, hds, hlen2, hall⟩ := h
      rw [List.getElem?_map] at hx
      obtain ⟨a, ha, rfl⟩ := Option.map_eq_some_iff.mp hx
      have hi : i < rows.length := by
        have := (List.getElem?_eq_some_iff.mp ha).1
        rw [TB.len] at this; exact this
      have hra : H2 a = some (.lst ((fn rows i).map nv)) := e _ _ (TB.row i a _ ha (fn_at hi))
      refine ⟨rfl, ?_⟩
      refine yesI ⟨_, rfl, a, _, rfl, SqL.of hra, fun d hd => dc_enum (K := K) (xs := (fn rows i).map nv)
        (fun j H3 => Same H2 H3 ∧ ∃ kvs, H3 d = some (.dK kvs) ∧ kvs.length ≤ j ∧ ∀ x : Nat, valV kvs (Sum.inl (x : Int)) = if x ∈ (fn rows i).take j then some (nv ((fn rows i).idxOf x)) else none)
        ⟨same_upd hd, [], upd_same, Nat.le_refl _, fun x => by simp [valV_nil]⟩ (fun j H3 _ h => h.1.seq (SqL.of hra)) (fun j x H3 T3 hx hT h => ?_) (fun H3 h => ?_)⟩
      · obtain ⟨e3, kvs, hk, hkl, hv⟩ := h
        rw [List.getElem?_map] at hx
        obtain ⟨z, hz, rfl⟩ := Option.map_eq_some_iff.mp hx
        have hj := (List.getElem?_eq_some_iff.mp hz).1
        refine ⟨T3, _, rfl, SqT.of upd_same, rfl, _, _, rfl, _, _, rfl, rfl, rfl, ?_⟩
        refine yesI ⟨_, rfl, _, rfl, kvs, Sum.inl (z : Int), rfl, ?_, ?_, ?_⟩
        · rw [upd_ne (ne_of_none hk hT)]; exact hk
        · exact small (by have := glen i; omega)
        · refine ⟨fun b o ho => ?_, _, upd_same, ?_, ?_⟩
          · rw [upd_ne (ne_of_none ho hd), upd_ne (ne_of_none (e3 _ _ ho) hT)]
            exact e3 _ _ ho
          · exact Nat.le_trans (length_putK _ _ _) (by omega)
          · exact place_step (gnd i) hz hv
      · obtain ⟨e3, kvs, hk, hkl, hv⟩ := h
        have nDd : D ≠ d := ne_of_none hds hd
        refine ⟨ds.map V.ref, e3 _ _ hds, ?_, fun b o ho => ?_, ds ++ [d], ?_, ?_, fun j d' hj => ?_⟩
        · rw [List.length_map, hlen2]; exact small (by omega)
        · rw [upd_ne (ne_of_none ho hD)]
          exact e3 _ _ (e _ _ ho)
        · rw [upd_same]; simp
        · simp [hlen2]
        · by_cases hlt : j < ds.length
          · rw [List.getElem?_append_left hlt] at hj
            obtain ⟨kv, h1, h2⟩ := hall j d' hj
            refine ⟨kv, ?_, h2⟩
            rw [upd_ne (ne_of (e3 _ _ h1) (e3 _ _ hds) (by intro z; cases z))]
            exact e3 _ _ h1
          · rw [List.getElem?_append_right (by omega)] at hj
            have hj0 : j - ds.length = 0 := by
              have := (List.getElem?_eq_some_iff.mp hj).1
              simp at this; omega
            rw [hj0] at hj
            have : d = d' := by simpa using hj
            subst this
            refine ⟨kvs, by rw [upd_ne (Ne.symm nDd)]; exact hk, fun x => ?_⟩
            have : j = i := by omega
            subst this
            have := hv x
            rw [List.length_map, List.take_length] at this
            exact this
    · obtain ⟨e, ds, hds, hlen2, hall⟩ := h
      refine q H2 D ds e ⟨hds, ?_, hall⟩
      rw [hlen2, List.length_map, TB.len]
end
end K1

set_option Elab.async false
set_option linter.all false
set_option maxRecDepth 100000
set_option maxHeartbeats 4000000
namespace K1
open PySem PySem.Spec PyProof.Rows L2 LamX Bk
section
variable {P : Program} {w : World} {K : PySem.W.Frag} {mg : Str → Option Value} {base : Heap}

/-- lists that are none, told at v -/
def ListsBad (K : PySem.W.Frag) (H : Hp) (x v : V) : Prop :=
  (∃ (t : Addr) (ys : List V) (ok : Nat → Bool) (i : Nat), x = .ref t ∧ H t = some (.lst ys) ∧ ys.length ≤ 60 ∧ (∀ (i : Nat) (y : V), ys[i]? = some y → RowIs K H y i ys.length (ok i)) ∧ i < ys.length ∧ ok i = false ∧ (∀ j, j < i → ok j = true) ∧ v = nv i) ∨
    (v = .non ∧ ((∃ n, Kd K H x n ∧ n ≠ "list") ∨ ∃ (t : Addr) (ys : List V), x = .ref t ∧ H t = some (.lst ys) ∧ 60 < ys.length))
/-- an error of the class at C comes out, told at v -/
theorem ListsBad.same {K : PySem.W.Frag} {H H2 : Hp} {x v : V} (h : ListsBad K H x v) (e : Same H H2) : ListsBad K H2 x v := by
  rcases h with ⟨t, ys, ok, i, h1, h2, h3, h4, h5⟩ | ⟨h1, ⟨n, h2, h3⟩ | ⟨t, ys, h2, h3, h4⟩⟩
  · exact .inl ⟨t, ys, ok, i, h1, e _ _ h2, h3, fun j y hy => (h4 j y hy).same e, h5⟩
  · exact .inr ⟨h1, .inl ⟨n, kd_same h2 e, h3⟩⟩
  · exact .inr ⟨h1, .inr ⟨t, ys, h2, e _ _ h3, h4⟩⟩
def Out (C : Addr) (E : XK) (H : Hp) (v : V) : Prop := ∀ H' d, Same H H' → H' d = some (.xd (atFs v)) → H d = none → E (.ref C) (some d) H'
theorem Out.same {C : Addr} {E : XK} {H H' : Hp} {v : V} (h : Out C E H v) (e : Same H H') : Out C E H' v := fun H2 d e2 h1 h2 => h H2 d (e.trans e2) h1 (e.free h2)
theorem check_bad {H : Hp} {x v : V} {CL : Addr} {Q : VK} {E : XK} (h : ListsBad K H x v) (q : Out CL E H v) : sp_check K CL [x] H Q E := by
  refine ⟨x, rfl, ?_⟩
  rcases h with ⟨t, ys, ok, i, rfl, ht, hl, hR, hi, hb, hok, rfl⟩ | ⟨rfl, h⟩
  · refine .inl ⟨t, ys, ok, rfl, ht, hl, hR, fun z => ?_, fun j hj hbj hokj => ?_⟩
    · rw [z i hi] at hb
      cases hb
    · have : j = i := by
        by_cases z : j < i
        · rw [hok j z] at hbj; cases hbj
        · by_cases z2 : i < j
          · rw [hokj i z2] at hb; cases hb
          · omega
      subst this
      exact q
  · exact .inr ⟨h, q⟩
theorem check_good {H : Hp} {t : Addr} {as : List Addr} {rows : List (List Nat)} {CL : Addr} {Q : VK} {E : XK} (TB : Tbl H t as rows) (g : GL rows) (hl : rows.length ≤ 60) (q : ∀ H', Same H H' → Q .non H') : sp_check K CL [.ref t] H Q E := by
  refine ⟨_, rfl, .inl ⟨t, as.map V.ref, fun _ => true, rfl, TB.top, by rw [List.length_map, TB.len]; exact hl, fun i y hy => ?_, fun _ => q, fun i _ z => by cases z⟩⟩
  rw [List.getElem?_map] at hy
  obtain ⟨a, ha, rfl⟩ := Option.map_eq_some_iff.mp hy
  have hi : i < rows.length := by
    have := (List.getElem?_eq_some_iff.mp ha).1
    rw [TB.len] at this; exact this
  refine .inl ⟨a, _, rfl, TB.row i a _ ha (fn_at hi), fun y hy => by obtain ⟨z, _, rfl⟩ := List.mem_map.mp hy; exact ⟨"int", (by obtain ⟨n, k, _⟩ := kd_flat (K := K) (H := H) (x := nv z) rfl; exact ⟨.base (.int _), by decide, (show true = decide (("int" : String) = "int") by decide)⟩)⟩, by rw [List.length_map]; have := g.len i; omega, ?_⟩
  rw [List.length_map, TB.len]
  exact (rowB_good (g.nd i) (fun x hx => (g.lt hx).2) (fun x _ z => by simp at z)).symm
def sp_mutual (K : PySem.W.Frag) (CL : Addr) : Sp := fun vs H Q E => ∃ x : V, vs = [x] ∧ ((∃ (t : Addr) (as : List Addr) (rows : List (List Nat)), x = .ref t ∧ Tbl H t as rows ∧ GL rows ∧ rows.length ≤ 60 ∧
    ∀ H' p as', Same H H' → H p = none → (∀ a ∈ as', H a = none) → Tbl H' p as' (mutL rows) → Q (.ref p) H') ∨ ∃ v, ListsBad K H x v ∧ Out CL E H v)
theorem ok_mutual (T : Txt P K mg) : FnOk P w K mg base (L2.CX P w) 4 T.a_mutual T.fd_mutual ["lists"] (sp_mutual K T.C_BadLists) := by
  have G_check_lists : FnOk P w K mg base (L2.CX P w) 3 T.a_check_lists T.fd_check_lists ["lists"] (sp_check K T.C_BadLists) := ok_check_lists T
  have G_places_in : FnOk P w K mg base CX0 1 T.a_places_in T.fd_places_in ["rows"] (sp_places_in K) := ok_places_in T
  refine T.F_mutual.okX sc_mutual (fun vs H Q E h => ?_) (fun cdv A outer s H vs Q E hr h => ?_)
  · obtain ⟨x, rfl, _⟩ := h
    rfl
  · obtain ⟨x, rfl, h⟩ := h
    refine ⟨_, (pss_cons (ps_expr (pe_callS G_check_lists (hr.mono (by decide)) (by rfl) T.g_check_lists T.F_check_lists.kp T.b_check_lists (fun σ => passAt (takes_of rfl rfl rfl rfl) σ) (pa_cons (pv 0) pa_nil)))
      (pss_cons (ps_set (i := 1) sc_mutual.nd rfl (.inr rfl) (pe_call G_places_in (hr.mono (by decide)) (by rfl) T.g_places_in T.F_places_in.kp T.b_places_in .nil pass0 (pa_cons (pv 0) pa_nil)))
      (pss_one (ps_ret (pe_lc (own := [("person", 3), ("row", 4)]) rfl sc_mutual.nd (kpi_enum (K := K) (by rfl) T.m_enumerate (pa_cons (pv 0) pa_nil)) (blkOk_by (own := [("person", 3), ("row", 4)]) (N := ["lists", "places", "other", "person", "row"]) (sc := (defScope s_mutual)) (by decide +kernel)) (fun _ _ _ _ _ => (kpg_tup (K := K) (n := 2) rfl (pgs_cons (pg_name (i := 3) sc_mutual.nd rfl (by first | exact .inl rfl | exact .inr rfl)) (pgs_cons (pg_name (i := 4) sc_mutual.nd rfl (by first | exact .inl rfl | exact .inr rfl)) pgs_nil)))) (fun _ _ _ _ _ => pts_nil) (fun _ _ _ _ _ => (pe_lc (own := [("other", 2)]) rfl sc_mutual.nd (kpi_list (K := K) (pv 4)) (blkOk_by (own := [("other", 2)]) (N := ["lists", "places", "other", "person", "row"]) (sc := (relS (lcS (retE s_mutual)) (defScope s_mutual))) (by decide +kernel)) (fun _ _ _ _ _ => (pg_name (i := 2) sc_mutual.nd rfl (by first | exact .inl rfl | exact .inr rfl))) (fun _ _ _ _ _ => (pts_one (pt_cmp (pc_din (hu_of hr) (pv 3) (pe_ix (kix_list (K := K)) (pv 1) (pv 2) (fun _ _ => rfl)))))) (fun _ _ _ _ _ => (pv 2))))))))), ?_⟩
    rcases h with ⟨t, as, rows, rfl, TB, g, hlen, q⟩ | ⟨v, hb, q⟩
    rotate_left
    · refine ⟨x, rfl, ?_⟩
      simp only [tRaiseErr, tMkErr, tCallS, WE, tLenSetI, cx_K, cx_w, wipe, Int.zero_add, Bool.false_eq_true, if_false, if_true, Bool.not_true, Bool.not_false, tSeq, tAsg, tOp, tVar, tC, tRet, tRetN, tNext, tDrop, tIfS, tB, tTest, tIf, tAnd, tOr, tNot, tAndV, tOrV, tNotV, tUn, tCons, tNil, tCall, tCB, tBM, tBM0, tNoPart, tPart, tSl, tCont, tNever, tTup, tLst, gName, gNil, gCons, gTup, gSub, rI, rI0, rU, rEq, rNe, rIxL, rSlL, rSetL, rLn, rLs, rTs, rIn, rSet0, tSAdd, rSAdd, rSIn, rSNotIn, rRep, rCat, rAppend, rPop, rPopAt, iList, iRng1, iRng2, iEnum, gTup, tIsN, tNotN, tTru, tLstRg, tRg1, tRg2, L2.start, List.map_cons, List.map_nil, List.length_cons, List.length_nil, List.replicate, List.cons_append, List.nil_append, List.getElem?_cons_zero, List.getElem?_cons_succ, List.set_cons_zero, List.set_cons_succ, Option.some.injEq, exists_eq_left', V.int.injEq, V.ref.injEq, V.bl.injEq, List.cons.injEq, exists_and_left, exists_and_right, and_true, true_and, exists_eq_left, exists_eq, Nat.reduceAdd, Nat.reduceSub]
      exact check_bad hb q
    refine ⟨_, rfl, ?_⟩
    simp only [tRaiseErr, tMkErr, tCallS, WE, tLenSetI, cx_K, cx_w, wipe, Int.zero_add, Bool.false_eq_true, if_false, if_true, Bool.not_true, Bool.not_false, tSeq, tAsg, tOp, tVar, tC, tRet, tRetN, tNext, tDrop, tIfS, tB, tTest, tIf, tAnd, tOr, tNot, tAndV, tOrV, tNotV, tUn, tCons, tNil, tCall, tCB, tBM, tBM0, tNoPart, tPart, tSl, tCont, tNever, tTup, tLst, gName, gNil, gCons, gTup, gSub, rI, rI0, rU, rEq, rNe, rIxL, rSlL, rSetL, rLn, rLs, rTs, rIn, rSet0, tSAdd, rSAdd, rSIn, rSNotIn, rRep, rCat, rAppend, rPop, rPopAt, iList, iRng1, iRng2, iEnum, gTup, tIsN, tNotN, tTru, tLstRg, tRg1, tRg2, L2.start, List.map_cons, List.map_nil, List.length_cons, List.length_nil, List.replicate, List.cons_append, List.nil_append, List.getElem?_cons_zero, List.getElem?_cons_succ, List.set_cons_zero, List.set_cons_succ, Option.some.injEq, exists_eq_left', V.int.injEq, V.ref.injEq, V.bl.injEq, List.cons.injEq, exists_and_left, exists_and_right, and_true, true_and, exists_eq_left, exists_eq, Nat.reduceAdd, Nat.reduceSub]
    refine check_good TB g hlen fun H1 e1 => ?_
    refine ⟨t, as, rows, rfl, TB.same e1, g.nd, fun i => by have := g.len i; omega, by omega, fun H2 pl ds e2 hP => ?_⟩
    have e : Same H H2 := e1.trans e2
    obtain ⟨hp1, hp2, hp3⟩ := hP
    refine ⟨_, rfl, t, _, rfl, SqL.of (e _ _ TB.top), fun D hD => lc_enum (K := K) (xs := as.map V.ref)
      (fun i H3 => Same H2 H3 ∧ ∃ as', (∀ a ∈ as', H a = none) ∧ Tbl H3 D as' ((mutL rows).take i))
      ⟨same_upd hD, [], (fun a ha => by simp at ha), by rw [List.take_zero]; exact Tbl.nil upd_same⟩ (fun i H3 _ h => h.1.seq (SqL.of (e _ _ TB.top))) (fun i x H3 T3 hx hT h => ?_) (fun H3 h => ?_)⟩
    · obtain ⟨e3, as', hn, TF⟩ := h
      rw [List.getElem?_map] at hx
      obtain ⟨a, ha, rfl⟩ := Option.map_eq_some_iff.mp hx
      have hi : i < rows.length := by
        have := (List.getElem?_eq_some_iff.mp ha).1
        rw [TB.len] at this; exact this
      have e4 : Same H2 (upd H3 T3 (.tup [.int (i : Nat), .ref a])) := same_upd2 e3 (e3.free hT)
      have hra : upd H3 T3 (.tup [.int (i : Nat), .ref a]) a = some (.lst ((fn rows i).map nv)) := e4 _ _ (e _ _ (TB.row i a _ ha (fn_at hi)))
      refine ⟨T3, _, rfl, SqT.of upd_same, rfl, _, _, rfl, _, _, rfl, rfl, rfl, ?_⟩
      refine yesI ⟨_, rfl, a, rfl, ⟨_, SqL.of hra⟩, fun D2 hD2 => lc_keep (r := fn rows i) (fun o => decide (i ∈ fn rows o)) hD2 (SqL.of hra) (by simp [wipe_length, L2.start]) (by have := g.len i; omega) (fun x hx H5 Qt e5 hq => ?_) ?_⟩
      · have hxl := (g.lt hx).2.1
        have hxd : x < ds.length := by rw [hp2]; exact hxl
        obtain ⟨kvs, hk, hpd⟩ := hp3 x ds[x] (List.getElem?_eq_getElem hxd)
        refine ⟨_, rfl, _, rfl, _, rfl, pl, _, _, .ref ds[x], rfl, rfl, SqL.of (e5 _ _ (e4 _ _ hp1)), ?_, ds[x], _, rfl, DGet.k (k := Sum.inl (i : Int)) (e5 _ _ (e4 _ _ hk)), _, rfl, ?_⟩
        · exact atI_nat (by rw [List.getElem?_map, List.getElem?_eq_getElem hxd]; rfl)
        · rw [hpd i]
          by_cases hm : i ∈ fn rows x
          · rw [if_pos hm]
            rw [decide_eq_true hm] at hq
            exact hq
          · rw [if_neg hm]
            rw [decide_eq_false hm] at hq
            exact hq
      · have TF4 : Tbl (upd H3 T3 (.tup [.int (i : Nat), .ref a])) D as' ((mutL rows).take i) := TF.upd_new hT
        have nD : D ≠ D2 := ne_of_none TF4.top hD2
        refine ⟨as'.map V.ref, by rw [upd_ne nD]; exact TF4.top, ?_, ?_, as' ++ [D2], fun b hb => ?_, ?_⟩
        · rw [List.length_map, TF.len]
          exact small (by rw [List.length_take]; omega)
        · intro b o ho
          rw [upd_ne (ne_of_none ho hD), upd_ne (ne_of_none (e4 _ _ ho) hD2)]
          exact e4 b o ho
        · rcases List.mem_append.mp hb with z | z
          · exact hn b z
          · have : b = D2 := by simpa using z
            subst this
            exact e.free (e4.free hD2)
        · have et : (mutL rows).take (i + 1) = (mutL rows).take i ++ [mutF rows i] := by rw [List.take_add_one, mutL_at hi]; rfl
          rw [et]
          have := (TF4.upd_new (o := .lst ((mutF rows i).map nv)) hD2).snoc (a := D2) (r := mutF rows i) upd_same (Ne.symm nD) (TF4.fresh hD2).1
          rw [List.map_append] at this
          exact this
    · obtain ⟨e3, as', hn, TF⟩ := h
      rw [List.length_map, TB.len, List.take_of_length_le (by rw [mutL_len]; exact Nat.le_refl _)] at TF
      exact q H3 D as' (e.trans e3) (e.free hD) hn TF
end
end K1

set_option Elab.async false
set_option linter.all false
set_option maxRecDepth 100000
set_option maxHeartbeats 4000000
namespace K1
open PySem PySem.Spec PyProof.Rows L2 LamX Bk
section
variable {P : Program} {w : World} {K : PySem.W.Frag} {mg : Str → Option Value} {base : Heap}

/-- lists that are none come out -/
def sp_bad1 (K : PySem.W.Frag) (CL : Addr) : Sp := fun vs H _ E => ∃ (x v : V), vs = [x] ∧ ListsBad K H x v ∧ Out CL E H v
def sp_bad2 (K : PySem.W.Frag) (CL : Addr) : Sp := fun vs H _ E => ∃ (x y v : V), vs = [x, y] ∧ ListsBad K H x v ∧ Out CL E H v
def sp_off : Sp := fun _ _ _ _ => False
theorem ok_ori_off (T : Txt P K mg) : FnOk P w K mg base CX0 1 T.a_odd_rings_in T.fd_odd_rings_in ["half"] sp_off :=
  T.F_odd_rings_in.ok sc_odd_rings_in (fun vs H Q E h => h.elim) (fun cdv A outer s H vs Q E hr h => h.elim)
theorem ok_offered_bad (T : Txt P K mg) : FnOk P w K mg base (L2.CX P w) 5 T.a_offered T.fd_offered ["lists"] (sp_bad1 K T.C_BadLists) := by
  have G_mutual : FnOk P w K mg base (L2.CX P w) 4 T.a_mutual T.fd_mutual ["lists"] (sp_mutual K T.C_BadLists) := ok_mutual T
  refine T.F_offered.okX sc_offered (fun vs H Q E h => ?_) (fun cdv A outer s H vs Q E hr h => ?_)
  · obtain ⟨x, v, rfl, _⟩ := h
    rfl
  · obtain ⟨x, v, rfl, hb, q⟩ := h
    refine ⟨_, (C8.pss_cut (ps_set (i := 1) sc_offered.nd rfl (.inl rfl) (pe_callS G_mutual (hr.mono (by decide)) (by rfl) T.g_mutual T.F_mutual.kp T.b_mutual (fun σ => passAt (takes_of rfl rfl rfl rfl) σ) (pa_cons (pv 0) pa_nil)))
      pss_never), ?_⟩
    refine ⟨fun _ _ => False, ?_, fun _ _ z => z.elim⟩
    simp only [tRaiseErr, tMkErr, tCallS, WE, tLenSetI, cx_K, cx_w, wipe, Int.zero_add, Bool.false_eq_true, if_false, if_true, Bool.not_true, Bool.not_false, tSeq, tAsg, tOp, tVar, tC, tRet, tRetN, tNext, tDrop, tIfS, tB, tTest, tIf, tAnd, tOr, tNot, tAndV, tOrV, tNotV, tUn, tCons, tNil, tCall, tCB, tBM, tBM0, tNoPart, tPart, tSl, tCont, tNever, tTup, tLst, gName, gNil, gCons, gTup, gSub, rI, rI0, rU, rEq, rNe, rIxL, rSlL, rSetL, rLn, rLs, rTs, rIn, rSet0, tSAdd, rSAdd, rSIn, rSNotIn, rRep, rCat, rAppend, rPop, rPopAt, iList, iRng1, iRng2, iEnum, gTup, tIsN, tNotN, tTru, tLstRg, tRg1, tRg2, L2.start, List.map_cons, List.map_nil, List.length_cons, List.length_nil, List.replicate, List.cons_append, List.nil_append, List.getElem?_cons_zero, List.getElem?_cons_succ, List.set_cons_zero, List.set_cons_succ, Option.some.injEq, exists_eq_left', V.int.injEq, V.ref.injEq, V.bl.injEq, List.cons.injEq, exists_and_left, exists_and_right, and_true, true_and, exists_eq_left, exists_eq, Nat.reduceAdd, Nat.reduceSub]
    exact ⟨x, rfl, .inr ⟨v, hb, q⟩⟩
theorem ok_rings_out_bad (T : Txt P K mg) : FnOk P w K mg base (L2.CX P w) 6 T.a_rings_out T.fd_rings_out ["lists"] (sp_bad1 K T.C_BadLists) := by
  have G_offered : FnOk P w K mg base (L2.CX P w) 5 T.a_offered T.fd_offered ["lists"] (sp_bad1 K T.C_BadLists) := ok_offered_bad T
  refine T.F_rings_out.okX sc_rings_out (fun vs H Q E h => ?_) (fun cdv A outer s H vs Q E hr h => ?_)
  · obtain ⟨x, v, rfl, _⟩ := h
    rfl
  · obtain ⟨x, v, rfl, hb, q⟩ := h
    refine ⟨_, (C8.pss_cut (ps_set (i := 1) sc_rings_out.nd rfl (.inl rfl) (pe_callS G_offered (hr.mono (by decide)) (by rfl) T.g_offered T.F_offered.kp T.b_offered (fun σ => passAt (takes_of rfl rfl rfl rfl) σ) (pa_cons (pv 0) pa_nil)))
      pss_never), ?_⟩
    refine ⟨fun _ _ => False, ?_, fun _ _ z => z.elim⟩
    simp only [tRaiseErr, tMkErr, tCallS, WE, tLenSetI, cx_K, cx_w, wipe, Int.zero_add, Bool.false_eq_true, if_false, if_true, Bool.not_true, Bool.not_false, tSeq, tAsg, tOp, tVar, tC, tRet, tRetN, tNext, tDrop, tIfS, tB, tTest, tIf, tAnd, tOr, tNot, tAndV, tOrV, tNotV, tUn, tCons, tNil, tCall, tCB, tBM, tBM0, tNoPart, tPart, tSl, tCont, tNever, tTup, tLst, gName, gNil, gCons, gTup, gSub, rI, rI0, rU, rEq, rNe, rIxL, rSlL, rSetL, rLn, rLs, rTs, rIn, rSet0, tSAdd, rSAdd, rSIn, rSNotIn, rRep, rCat, rAppend, rPop, rPopAt, iList, iRng1, iRng2, iEnum, gTup, tIsN, tNotN, tTru, tLstRg, tRg1, tRg2, L2.start, List.map_cons, List.map_nil, List.length_cons, List.length_nil, List.replicate, List.cons_append, List.nil_append, List.getElem?_cons_zero, List.getElem?_cons_succ, List.set_cons_zero, List.set_cons_succ, Option.some.injEq, exists_eq_left', V.int.injEq, V.ref.injEq, V.bl.injEq, List.cons.injEq, exists_and_left, exists_and_right, and_true, true_and, exists_eq_left, exists_eq, Nat.reduceAdd, Nat.reduceSub]
    exact ⟨x, v, rfl, hb, q⟩
theorem ok_last_rows_bad (T : Txt P K mg) : FnOk P w K mg base (L2.CX P w) 7 T.a_last_rows T.fd_last_rows ["lists"] (sp_bad1 K T.C_BadLists) := by
  have G_rings_out : FnOk P w K mg base (L2.CX P w) 6 T.a_rings_out T.fd_rings_out ["lists"] (sp_bad1 K T.C_BadLists) := ok_rings_out_bad T
  refine T.F_last_rows.okX sc_last_rows (fun vs H Q E h => ?_) (fun cdv A outer s H vs Q E hr h => ?_)
  · obtain ⟨x, v, rfl, _⟩ := h
    rfl
  · obtain ⟨x, v, rfl, hb, q⟩ := h
    refine ⟨_, (C8.pss_cut (ps_set (i := 1) sc_last_rows.nd rfl (.inl rfl) (pe_callS G_rings_out (hr.mono (by decide)) (by rfl) T.g_rings_out T.F_rings_out.kp T.b_rings_out (fun σ => passAt (takes_of rfl rfl rfl rfl) σ) (pa_cons (pv 0) pa_nil)))
      pss_never), ?_⟩
    refine ⟨fun _ _ => False, ?_, fun _ _ z => z.elim⟩
    simp only [tRaiseErr, tMkErr, tCallS, WE, tLenSetI, cx_K, cx_w, wipe, Int.zero_add, Bool.false_eq_true, if_false, if_true, Bool.not_true, Bool.not_false, tSeq, tAsg, tOp, tVar, tC, tRet, tRetN, tNext, tDrop, tIfS, tB, tTest, tIf, tAnd, tOr, tNot, tAndV, tOrV, tNotV, tUn, tCons, tNil, tCall, tCB, tBM, tBM0, tNoPart, tPart, tSl, tCont, tNever, tTup, tLst, gName, gNil, gCons, gTup, gSub, rI, rI0, rU, rEq, rNe, rIxL, rSlL, rSetL, rLn, rLs, rTs, rIn, rSet0, tSAdd, rSAdd, rSIn, rSNotIn, rRep, rCat, rAppend, rPop, rPopAt, iList, iRng1, iRng2, iEnum, gTup, tIsN, tNotN, tTru, tLstRg, tRg1, tRg2, L2.start, List.map_cons, List.map_nil, List.length_cons, List.length_nil, List.replicate, List.cons_append, List.nil_append, List.getElem?_cons_zero, List.getElem?_cons_succ, List.set_cons_zero, List.set_cons_succ, Option.some.injEq, exists_eq_left', V.int.injEq, V.ref.injEq, V.bl.injEq, List.cons.injEq, exists_and_left, exists_and_right, and_true, true_and, exists_eq_left, exists_eq, Nat.reduceAdd, Nat.reduceSub]
    exact ⟨x, v, rfl, hb, q⟩
theorem ok_half_pairing_bad (T : Txt P K mg) : FnOk P w K mg base (L2.CX P w) 8 T.a_half_pairing T.fd_half_pairing ["lists"] (sp_bad1 K T.C_BadLists) := by
  have G_last_rows : FnOk P w K mg base (L2.CX P w) 7 T.a_last_rows T.fd_last_rows ["lists"] (sp_bad1 K T.C_BadLists) := ok_last_rows_bad T
  refine T.F_half_pairing.okX sc_half_pairing (fun vs H Q E h => ?_) (fun cdv A outer s H vs Q E hr h => ?_)
  · obtain ⟨x, v, rfl, _⟩ := h
    rfl
  · obtain ⟨x, v, rfl, hb, q⟩ := h
    refine ⟨_, (pss_one (ps_ret (pe_lc (own := [("row", 1)]) rfl sc_half_pairing.nd (kpi_list (K := K) (pe_callS G_last_rows (hr.mono (by decide)) (by rfl) T.g_last_rows T.F_last_rows.kp T.b_last_rows (fun σ => passAt (takes_of rfl rfl rfl rfl) σ) (pa_cons (pv 0) pa_nil))) (blkOk_by (own := [("row", 1)]) (N := ["lists", "row"]) (sc := (defScope s_half_pairing)) (by decide +kernel)) (fun _ _ _ _ _ => (pg_name (i := 1) sc_half_pairing.nd rfl (by first | exact .inl rfl | exact .inr rfl))) (fun _ _ _ _ _ => pts_nil) (fun _ _ _ _ _ => (pe_ifExp (kpt_tru (K := K) (pv 1)) (pe_ix (kix_list (K := K)) (pv 1) pe_int (fun _ _ => rfl)) pe_non))))), ?_⟩
    simp only [tRaiseErr, tMkErr, tCallS, WE, tLenSetI, cx_K, cx_w, wipe, Int.zero_add, Bool.false_eq_true, if_false, if_true, Bool.not_true, Bool.not_false, tSeq, tAsg, tOp, tVar, tC, tRet, tRetN, tNext, tDrop, tIfS, tB, tTest, tIf, tAnd, tOr, tNot, tAndV, tOrV, tNotV, tUn, tCons, tNil, tCall, tCB, tBM, tBM0, tNoPart, tPart, tSl, tCont, tNever, tTup, tLst, gName, gNil, gCons, gTup, gSub, rI, rI0, rU, rEq, rNe, rIxL, rSlL, rSetL, rLn, rLs, rTs, rIn, rSet0, tSAdd, rSAdd, rSIn, rSNotIn, rRep, rCat, rAppend, rPop, rPopAt, iList, iRng1, iRng2, iEnum, gTup, tIsN, tNotN, tTru, tLstRg, tRg1, tRg2, L2.start, List.map_cons, List.map_nil, List.length_cons, List.length_nil, List.replicate, List.cons_append, List.nil_append, List.getElem?_cons_zero, List.getElem?_cons_succ, List.set_cons_zero, List.set_cons_succ, Option.some.injEq, exists_eq_left', V.int.injEq, V.ref.injEq, V.bl.injEq, List.cons.injEq, exists_and_left, exists_and_right, and_true, true_and, exists_eq_left, exists_eq, Nat.reduceAdd, Nat.reduceSub]
    exact ⟨x, rfl, x, v, rfl, hb, q⟩
theorem ok_paired_bad (T : Txt P K mg) : FnOk P w K mg base (L2.CX P w) 9 T.a_paired T.fd_paired ["lists"] (sp_bad1 K T.C_BadLists) := by
  have G_half_pairing : FnOk P w K mg base (L2.CX P w) 8 T.a_half_pairing T.fd_half_pairing ["lists"] (sp_bad1 K T.C_BadLists) := ok_half_pairing_bad T
  refine T.F_paired.okX sc_paired (fun vs H Q E h => ?_) (fun cdv A outer s H vs Q E hr h => ?_)
  · obtain ⟨x, v, rfl, _⟩ := h
    rfl
  · obtain ⟨x, v, rfl, hb, q⟩ := h
    refine ⟨_, (C8.pss_cut (ps_set (i := 1) sc_paired.nd rfl (.inl rfl) (pe_callS G_half_pairing (hr.mono (by decide)) (by rfl) T.g_half_pairing T.F_half_pairing.kp T.b_half_pairing (fun σ => passAt (takes_of rfl rfl rfl rfl) σ) (pa_cons (pv 0) pa_nil)))
      pss_never), ?_⟩
    refine ⟨fun _ _ => False, ?_, fun _ _ z => z.elim⟩
    simp only [tRaiseErr, tMkErr, tCallS, WE, tLenSetI, cx_K, cx_w, wipe, Int.zero_add, Bool.false_eq_true, if_false, if_true, Bool.not_true, Bool.not_false, tSeq, tAsg, tOp, tVar, tC, tRet, tRetN, tNext, tDrop, tIfS, tB, tTest, tIf, tAnd, tOr, tNot, tAndV, tOrV, tNotV, tUn, tCons, tNil, tCall, tCB, tBM, tBM0, tNoPart, tPart, tSl, tCont, tNever, tTup, tLst, gName, gNil, gCons, gTup, gSub, rI, rI0, rU, rEq, rNe, rIxL, rSlL, rSetL, rLn, rLs, rTs, rIn, rSet0, tSAdd, rSAdd, rSIn, rSNotIn, rRep, rCat, rAppend, rPop, rPopAt, iList, iRng1, iRng2, iEnum, gTup, tIsN, tNotN, tTru, tLstRg, tRg1, tRg2, L2.start, List.map_cons, List.map_nil, List.length_cons, List.length_nil, List.replicate, List.cons_append, List.nil_append, List.getElem?_cons_zero, List.getElem?_cons_succ, List.set_cons_zero, List.set_cons_succ, Option.some.injEq, exists_eq_left', V.int.injEq, V.ref.injEq, V.bl.injEq, List.cons.injEq, exists_and_left, exists_and_right, and_true, true_and, exists_eq_left, exists_eq, Nat.reduceAdd, Nat.reduceSub]
    exact ⟨x, v, rfl, hb, q⟩
theorem ok_odd_rings_bad (T : Txt P K mg) : FnOk P w K mg base (L2.CX P w) 9 T.a_odd_rings T.fd_odd_rings ["lists"] (sp_bad1 K T.C_BadLists) := by
  have G_half_pairing : FnOk P w K mg base (L2.CX P w) 8 T.a_half_pairing T.fd_half_pairing ["lists"] (sp_bad1 K T.C_BadLists) := ok_half_pairing_bad T
  have G_odd_rings_in : FnOk P w K mg base CX0 1 T.a_odd_rings_in T.fd_odd_rings_in ["half"] sp_off := ok_ori_off T
  refine T.F_odd_rings.okX sc_odd_rings (fun vs H Q E h => ?_) (fun cdv A outer s H vs Q E hr h => ?_)
  · obtain ⟨x, v, rfl, _⟩ := h
    rfl
  · obtain ⟨x, v, rfl, hb, q⟩ := h
    refine ⟨_, (pss_one (ps_ret (pe_call G_odd_rings_in (hr.mono (by decide)) (by rfl) T.g_odd_rings_in T.F_odd_rings_in.kp T.b_odd_rings_in .nil pass0 (pa_cons (pe_callS G_half_pairing (hr.mono (by decide)) (by rfl) T.g_half_pairing T.F_half_pairing.kp T.b_half_pairing (fun σ => passAt (takes_of rfl rfl rfl rfl) σ) (pa_cons (pv 0) pa_nil)) pa_nil)))), ?_⟩
    simp only [tRaiseErr, tMkErr, tCallS, WE, tLenSetI, cx_K, cx_w, wipe, Int.zero_add, Bool.false_eq_true, if_false, if_true, Bool.not_true, Bool.not_false, tSeq, tAsg, tOp, tVar, tC, tRet, tRetN, tNext, tDrop, tIfS, tB, tTest, tIf, tAnd, tOr, tNot, tAndV, tOrV, tNotV, tUn, tCons, tNil, tCall, tCB, tBM, tBM0, tNoPart, tPart, tSl, tCont, tNever, tTup, tLst, gName, gNil, gCons, gTup, gSub, rI, rI0, rU, rEq, rNe, rIxL, rSlL, rSetL, rLn, rLs, rTs, rIn, rSet0, tSAdd, rSAdd, rSIn, rSNotIn, rRep, rCat, rAppend, rPop, rPopAt, iList, iRng1, iRng2, iEnum, gTup, tIsN, tNotN, tTru, tLstRg, tRg1, tRg2, L2.start, List.map_cons, List.map_nil, List.length_cons, List.length_nil, List.replicate, List.cons_append, List.nil_append, List.getElem?_cons_zero, List.getElem?_cons_succ, List.set_cons_zero, List.set_cons_succ, Option.some.injEq, exists_eq_left', V.int.injEq, V.ref.injEq, V.bl.injEq, List.cons.injEq, exists_and_left, exists_and_right, and_true, true_and, exists_eq_left, exists_eq, Nat.reduceAdd, Nat.reduceSub]
    exact ⟨x, v, rfl, hb, q⟩
theorem ok_alone_bad (T : Txt P K mg) : FnOk P w K mg base (L2.CX P w) 9 T.a_alone T.fd_alone ["lists"] (sp_bad1 K T.C_BadLists) := by
  have G_half_pairing : FnOk P w K mg base (L2.CX P w) 8 T.a_half_pairing T.fd_half_pairing ["lists"] (sp_bad1 K T.C_BadLists) := ok_half_pairing_bad T
  refine T.F_alone.okX sc_alone (fun vs H Q E h => ?_) (fun cdv A outer s H vs Q E hr h => ?_)
  · obtain ⟨x, v, rfl, _⟩ := h
    rfl
  · obtain ⟨x, v, rfl, hb, q⟩ := h
    refine ⟨_, (pss_one (ps_ret (pe_lc (own := [("person", 1), ("other", 2)]) rfl sc_alone.nd (kpi_enum (K := K) (by rfl) T.m_enumerate (pa_cons (pe_callS G_half_pairing (hr.mono (by decide)) (by rfl) T.g_half_pairing T.F_half_pairing.kp T.b_half_pairing (fun σ => passAt (takes_of rfl rfl rfl rfl) σ) (pa_cons (pv 0) pa_nil)) pa_nil)) (blkOk_by (own := [("person", 1), ("other", 2)]) (N := ["lists", "person", "other"]) (sc := (defScope s_alone)) (by decide +kernel)) (fun _ _ _ _ _ => (kpg_tup (K := K) (n := 2) rfl (pgs_cons (pg_name (i := 1) sc_alone.nd rfl (by first | exact .inl rfl | exact .inr rfl)) (pgs_cons (pg_name (i := 2) sc_alone.nd rfl (by first | exact .inl rfl | exact .inr rfl)) pgs_nil)))) (fun _ _ _ _ _ => (pts_one (pt_cmp (pc_isN (pv 2))))) (fun _ _ _ _ _ => (pv 1))))), ?_⟩
    simp only [tRaiseErr, tMkErr, tCallS, WE, tLenSetI, cx_K, cx_w, wipe, Int.zero_add, Bool.false_eq_true, if_false, if_true, Bool.not_true, Bool.not_false, tSeq, tAsg, tOp, tVar, tC, tRet, tRetN, tNext, tDrop, tIfS, tB, tTest, tIf, tAnd, tOr, tNot, tAndV, tOrV, tNotV, tUn, tCons, tNil, tCall, tCB, tBM, tBM0, tNoPart, tPart, tSl, tCont, tNever, tTup, tLst, gName, gNil, gCons, gTup, gSub, rI, rI0, rU, rEq, rNe, rIxL, rSlL, rSetL, rLn, rLs, rTs, rIn, rSet0, tSAdd, rSAdd, rSIn, rSNotIn, rRep, rCat, rAppend, rPop, rPopAt, iList, iRng1, iRng2, iEnum, gTup, tIsN, tNotN, tTru, tLstRg, tRg1, tRg2, L2.start, List.map_cons, List.map_nil, List.length_cons, List.length_nil, List.replicate, List.cons_append, List.nil_append, List.getElem?_cons_zero, List.getElem?_cons_succ, List.set_cons_zero, List.set_cons_succ, Option.some.injEq, exists_eq_left', V.int.injEq, V.ref.injEq, V.bl.injEq, List.cons.injEq, exists_and_left, exists_and_right, and_true, true_and, exists_eq_left, exists_eq, Nat.reduceAdd, Nat.reduceSub]
    exact ⟨x, rfl, x, v, rfl, hb, q⟩
theorem ok_all_good_bad (T : Txt P K mg) : FnOk P w K mg base (L2.CX P w) 5 T.a_all_good T.fd_all_good ["lists"] (sp_bad1 K T.C_BadLists) := by
  have G_mutual : FnOk P w K mg base (L2.CX P w) 4 T.a_mutual T.fd_mutual ["lists"] (sp_mutual K T.C_BadLists) := ok_mutual T
  refine T.F_all_good.okX sc_all_good (fun vs H Q E h => ?_) (fun cdv A outer s H vs Q E hr h => ?_)
  · obtain ⟨x, v, rfl, _⟩ := h
    rfl
  · obtain ⟨x, v, rfl, hb, q⟩ := h
    refine ⟨_, (C8.pss_cut (ps_set (i := 1) sc_all_good.nd rfl (.inr rfl) (pe_callS G_mutual (hr.mono (by decide)) (by rfl) T.g_mutual T.F_mutual.kp T.b_mutual (fun σ => passAt (takes_of rfl rfl rfl rfl) σ) (pa_cons (pv 0) pa_nil)))
      pss_never), ?_⟩
    refine ⟨fun _ _ => False, ?_, fun _ _ z => z.elim⟩
    simp only [tRaiseErr, tMkErr, tCallS, WE, tLenSetI, cx_K, cx_w, wipe, Int.zero_add, Bool.false_eq_true, if_false, if_true, Bool.not_true, Bool.not_false, tSeq, tAsg, tOp, tVar, tC, tRet, tRetN, tNext, tDrop, tIfS, tB, tTest, tIf, tAnd, tOr, tNot, tAndV, tOrV, tNotV, tUn, tCons, tNil, tCall, tCB, tBM, tBM0, tNoPart, tPart, tSl, tCont, tNever, tTup, tLst, gName, gNil, gCons, gTup, gSub, rI, rI0, rU, rEq, rNe, rIxL, rSlL, rSetL, rLn, rLs, rTs, rIn, rSet0, tSAdd, rSAdd, rSIn, rSNotIn, rRep, rCat, rAppend, rPop, rPopAt, iList, iRng1, iRng2, iEnum, gTup, tIsN, tNotN, tTru, tLstRg, tRg1, tRg2, L2.start, List.map_cons, List.map_nil, List.length_cons, List.length_nil, List.replicate, List.cons_append, List.nil_append, List.getElem?_cons_zero, List.getElem?_cons_succ, List.set_cons_zero, List.set_cons_succ, Option.some.injEq, exists_eq_left', V.int.injEq, V.ref.injEq, V.bl.injEq, List.cons.injEq, exists_and_left, exists_and_right, and_true, true_and, exists_eq_left, exists_eq, Nat.reduceAdd, Nat.reduceSub]
    exact ⟨x, rfl, .inr ⟨v, hb, q⟩⟩
theorem ok_spoilers_bad (T : Txt P K mg) : FnOk P w K mg base (L2.CX P w) 5 T.a_spoilers T.fd_spoilers ["lists", "pairing"] (sp_bad2 K T.C_BadLists) := by
  have G_mutual : FnOk P w K mg base (L2.CX P w) 4 T.a_mutual T.fd_mutual ["lists"] (sp_mutual K T.C_BadLists) := ok_mutual T
  refine T.F_spoilers.okX sc_spoilers (fun vs H Q E h => ?_) (fun cdv A outer s H vs Q E hr h => ?_)
  · obtain ⟨x, y, v, rfl, _⟩ := h
    rfl
  · obtain ⟨x, y, v, rfl, hb, q⟩ := h
    refine ⟨_, (C8.pss_cut (ps_set (i := 2) sc_spoilers.nd rfl (.inl rfl) (pe_callS G_mutual (hr.mono (by decide)) (by rfl) T.g_mutual T.F_mutual.kp T.b_mutual (fun σ => passAt (takes_of rfl rfl rfl rfl) σ) (pa_cons (pv 0) pa_nil)))
      pss_never), ?_⟩
    refine ⟨fun _ _ => False, ?_, fun _ _ z => z.elim⟩
    simp only [tRaiseErr, tMkErr, tCallS, WE, tLenSetI, cx_K, cx_w, wipe, Int.zero_add, Bool.false_eq_true, if_false, if_true, Bool.not_true, Bool.not_false, tSeq, tAsg, tOp, tVar, tC, tRet, tRetN, tNext, tDrop, tIfS, tB, tTest, tIf, tAnd, tOr, tNot, tAndV, tOrV, tNotV, tUn, tCons, tNil, tCall, tCB, tBM, tBM0, tNoPart, tPart, tSl, tCont, tNever, tTup, tLst, gName, gNil, gCons, gTup, gSub, rI, rI0, rU, rEq, rNe, rIxL, rSlL, rSetL, rLn, rLs, rTs, rIn, rSet0, tSAdd, rSAdd, rSIn, rSNotIn, rRep, rCat, rAppend, rPop, rPopAt, iList, iRng1, iRng2, iEnum, gTup, tIsN, tNotN, tTru, tLstRg, tRg1, tRg2, L2.start, List.map_cons, List.map_nil, List.length_cons, List.length_nil, List.replicate, List.cons_append, List.nil_append, List.getElem?_cons_zero, List.getElem?_cons_succ, List.set_cons_zero, List.set_cons_succ, Option.some.injEq, exists_eq_left', V.int.injEq, V.ref.injEq, V.bl.injEq, List.cons.injEq, exists_and_left, exists_and_right, and_true, true_and, exists_eq_left, exists_eq, Nat.reduceAdd, Nat.reduceSub]
    exact ⟨x, rfl, .inr ⟨v, hb, q⟩⟩
theorem ok_is_good_bad (T : Txt P K mg) : FnOk P w K mg base (L2.CX P w) 6 T.a_is_good T.fd_is_good ["lists", "pairing"] (sp_bad2 K T.C_BadLists) := by
  have G_spoilers : FnOk P w K mg base (L2.CX P w) 5 T.a_spoilers T.fd_spoilers ["lists", "pairing"] (sp_bad2 K T.C_BadLists) := ok_spoilers_bad T
  refine T.F_is_good.okX sc_is_good (fun vs H Q E h => ?_) (fun cdv A outer s H vs Q E hr h => ?_)
  · obtain ⟨x, y, v, rfl, _⟩ := h
    rfl
  · obtain ⟨x, y, v, rfl, hb, q⟩ := h
    refine ⟨_, (pss_one (ps_ret (pe_notT (pe_callS G_spoilers (hr.mono (by decide)) (by rfl) T.g_spoilers T.F_spoilers.kp T.b_spoilers (fun σ => passAt (takes_of rfl rfl rfl rfl) σ) (pa_cons (pv 0) (pa_cons (pv 1) pa_nil)))))), ?_⟩
    simp only [tRaiseErr, tMkErr, tCallS, WE, tLenSetI, cx_K, cx_w, wipe, Int.zero_add, Bool.false_eq_true, if_false, if_true, Bool.not_true, Bool.not_false, tSeq, tAsg, tOp, tVar, tC, tRet, tRetN, tNext, tDrop, tIfS, tB, tTest, tIf, tAnd, tOr, tNot, tAndV, tOrV, tNotV, tUn, tCons, tNil, tCall, tCB, tBM, tBM0, tNoPart, tPart, tSl, tCont, tNever, tTup, tLst, gName, gNil, gCons, gTup, gSub, rI, rI0, rU, rEq, rNe, rIxL, rSlL, rSetL, rLn, rLs, rTs, rIn, rSet0, tSAdd, rSAdd, rSIn, rSNotIn, rRep, rCat, rAppend, rPop, rPopAt, iList, iRng1, iRng2, iEnum, gTup, tIsN, tNotN, tTru, tLstRg, tRg1, tRg2, L2.start, List.map_cons, List.map_nil, List.length_cons, List.length_nil, List.replicate, List.cons_append, List.nil_append, List.getElem?_cons_zero, List.getElem?_cons_succ, List.set_cons_zero, List.set_cons_succ, Option.some.injEq, exists_eq_left', V.int.injEq, V.ref.injEq, V.bl.injEq, List.cons.injEq, exists_and_left, exists_and_right, and_true, true_and, exists_eq_left, exists_eq, Nat.reduceAdd, Nat.reduceSub]
    exact ⟨x, rfl, y, rfl, x, y, v, rfl, hb, q⟩
theorem ok_is_steady_bad (T : Txt P K mg) : FnOk P w K mg base (L2.CX P w) 5 T.a_is_steady T.fd_is_steady ["lists", "half"] (sp_bad2 K T.C_BadLists) := by
  have G_mutual : FnOk P w K mg base (L2.CX P w) 4 T.a_mutual T.fd_mutual ["lists"] (sp_mutual K T.C_BadLists) := ok_mutual T
  refine T.F_is_steady.okX sc_is_steady (fun vs H Q E h => ?_) (fun cdv A outer s H vs Q E hr h => ?_)
  · obtain ⟨x, y, v, rfl, _⟩ := h
    rfl
  · obtain ⟨x, y, v, rfl, hb, q⟩ := h
    refine ⟨_, (C8.pss_cut (ps_set (i := 2) sc_is_steady.nd rfl (.inl rfl) (pe_callS G_mutual (hr.mono (by decide)) (by rfl) T.g_mutual T.F_mutual.kp T.b_mutual (fun σ => passAt (takes_of rfl rfl rfl rfl) σ) (pa_cons (pv 0) pa_nil)))
      pss_never), ?_⟩
    refine ⟨fun _ _ => False, ?_, fun _ _ z => z.elim⟩
    simp only [tRaiseErr, tMkErr, tCallS, WE, tLenSetI, cx_K, cx_w, wipe, Int.zero_add, Bool.false_eq_true, if_false, if_true, Bool.not_true, Bool.not_false, tSeq, tAsg, tOp, tVar, tC, tRet, tRetN, tNext, tDrop, tIfS, tB, tTest, tIf, tAnd, tOr, tNot, tAndV, tOrV, tNotV, tUn, tCons, tNil, tCall, tCB, tBM, tBM0, tNoPart, tPart, tSl, tCont, tNever, tTup, tLst, gName, gNil, gCons, gTup, gSub, rI, rI0, rU, rEq, rNe, rIxL, rSlL, rSetL, rLn, rLs, rTs, rIn, rSet0, tSAdd, rSAdd, rSIn, rSNotIn, rRep, rCat, rAppend, rPop, rPopAt, iList, iRng1, iRng2, iEnum, gTup, tIsN, tNotN, tTru, tLstRg, tRg1, tRg2, L2.start, List.map_cons, List.map_nil, List.length_cons, List.length_nil, List.replicate, List.cons_append, List.nil_append, List.getElem?_cons_zero, List.getElem?_cons_succ, List.set_cons_zero, List.set_cons_succ, Option.some.injEq, exists_eq_left', V.int.injEq, V.ref.injEq, V.bl.injEq, List.cons.injEq, exists_and_left, exists_and_right, and_true, true_and, exists_eq_left, exists_eq, Nat.reduceAdd, Nat.reduceSub]
    exact ⟨x, rfl, .inr ⟨v, hb, q⟩⟩
end
end K1

set_option Elab.async false
set_option linter.all false
set_option maxRecDepth 100000
set_option maxHeartbeats 4000000
namespace K1
open PySem PySem.Spec PyProof.Rows L2 LamX Bk
section
variable {P : Program} {w : World} {K : PySem.W.Frag} {mg : Str → Option Value} {base : Heap}

/-- lists handed in to one of the functions -/
def sp_handed (K : PySem.W.Frag) (CL : Addr) : Sp := fun vs H Q E => ∃ (way : Int) (x : V), vs = [.int way, x] ∧ ((∃ v, ListsBad K H x v ∧ Out CL E H v) ∨
  ∃ (t : Addr) (as : List Addr) (rows : List (List Nat)), way = 0 ∧ x = .ref t ∧ Tbl H t as rows ∧ GL rows ∧ rows.length ≤ 60 ∧ ∀ H', Same H H' → Q .non H')
theorem ok_handed (T : Txt P K mg) : FnOk P w K mg base (L2.CX P w) 10 T.a__law_handed T.fd__law_handed ["_law_way", "_law_thing"] (sp_handed K T.C_BadLists) := by
  have G_mutual : FnOk P w K mg base (L2.CX P w) 4 T.a_mutual T.fd_mutual ["lists"] (sp_mutual K T.C_BadLists) := ok_mutual T
  have G_offered : FnOk P w K mg base (L2.CX P w) 5 T.a_offered T.fd_offered ["lists"] (sp_bad1 K T.C_BadLists) := ok_offered_bad T
  have G_rings_out : FnOk P w K mg base (L2.CX P w) 6 T.a_rings_out T.fd_rings_out ["lists"] (sp_bad1 K T.C_BadLists) := ok_rings_out_bad T
  have G_last_rows : FnOk P w K mg base (L2.CX P w) 7 T.a_last_rows T.fd_last_rows ["lists"] (sp_bad1 K T.C_BadLists) := ok_last_rows_bad T
  have G_half_pairing : FnOk P w K mg base (L2.CX P w) 8 T.a_half_pairing T.fd_half_pairing ["lists"] (sp_bad1 K T.C_BadLists) := ok_half_pairing_bad T
  have G_paired : FnOk P w K mg base (L2.CX P w) 9 T.a_paired T.fd_paired ["lists"] (sp_bad1 K T.C_BadLists) := ok_paired_bad T
  have G_odd_rings : FnOk P w K mg base (L2.CX P w) 9 T.a_odd_rings T.fd_odd_rings ["lists"] (sp_bad1 K T.C_BadLists) := ok_odd_rings_bad T
  have G_alone : FnOk P w K mg base (L2.CX P w) 9 T.a_alone T.fd_alone ["lists"] (sp_bad1 K T.C_BadLists) := ok_alone_bad T
  have G_all_good : FnOk P w K mg base (L2.CX P w) 5 T.a_all_good T.fd_all_good ["lists"] (sp_bad1 K T.C_BadLists) := ok_all_good_bad T
  have G_spoilers : FnOk P w K mg base (L2.CX P w) 5 T.a_spoilers T.fd_spoilers ["lists", "pairing"] (sp_bad2 K T.C_BadLists) := ok_spoilers_bad T
  have G_is_good : FnOk P w K mg base (L2.CX P w) 6 T.a_is_good T.fd_is_good ["lists", "pairing"] (sp_bad2 K T.C_BadLists) := ok_is_good_bad T
  have G_is_steady : FnOk P w K mg base (L2.CX P w) 5 T.a_is_steady T.fd_is_steady ["lists", "half"] (sp_bad2 K T.C_BadLists) := ok_is_steady_bad T
  refine T.F__law_handed.okX sc__law_handed (fun vs H Q E h => ?_) (fun cdv A outer s H vs Q E hr h => ?_)
  · obtain ⟨way, x, rfl, _⟩ := h
    rfl
  · obtain ⟨way, x, rfl, h⟩ := h
    refine ⟨_, (pss_one (ps_if (pt_cmpR op_eq (pv 0) pe_int (nomark _)) (pss_one (ps_expr (pe_callS G_mutual (hr.mono (by decide)) (by rfl) T.g_mutual T.F_mutual.kp T.b_mutual (fun σ => passAt (takes_of rfl rfl rfl rfl) σ) (pa_cons (pv 1) pa_nil)))) (pss_one (ps_if (pt_cmpR op_eq (pv 0) pe_int (nomark _)) (pss_one (ps_expr (pe_callS G_offered (hr.mono (by decide)) (by rfl) T.g_offered T.F_offered.kp T.b_offered (fun σ => passAt (takes_of rfl rfl rfl rfl) σ) (pa_cons (pv 1) pa_nil)))) (pss_one (ps_if (pt_cmpR op_eq (pv 0) pe_int (nomark _)) (pss_one (ps_expr (pe_callS G_rings_out (hr.mono (by decide)) (by rfl) T.g_rings_out T.F_rings_out.kp T.b_rings_out (fun σ => passAt (takes_of rfl rfl rfl rfl) σ) (pa_cons (pv 1) pa_nil)))) (pss_one (ps_if (pt_cmpR op_eq (pv 0) pe_int (nomark _)) (pss_one (ps_expr (pe_callS G_last_rows (hr.mono (by decide)) (by rfl) T.g_last_rows T.F_last_rows.kp T.b_last_rows (fun σ => passAt (takes_of rfl rfl rfl rfl) σ) (pa_cons (pv 1) pa_nil)))) (pss_one (ps_if (pt_cmpR op_eq (pv 0) pe_int (nomark _)) (pss_one (ps_expr (pe_callS G_half_pairing (hr.mono (by decide)) (by rfl) T.g_half_pairing T.F_half_pairing.kp T.b_half_pairing (fun σ => passAt (takes_of rfl rfl rfl rfl) σ) (pa_cons (pv 1) pa_nil)))) (pss_one (ps_if (pt_cmpR op_eq (pv 0) pe_int (nomark _)) (pss_one (ps_expr (pe_callS G_paired (hr.mono (by decide)) (by rfl) T.g_paired T.F_paired.kp T.b_paired (fun σ => passAt (takes_of rfl rfl rfl rfl) σ) (pa_cons (pv 1) pa_nil)))) (pss_one (ps_if (pt_cmpR op_eq (pv 0) pe_int (nomark _)) (pss_one (ps_expr (pe_callS G_odd_rings (hr.mono (by decide)) (by rfl) T.g_odd_rings T.F_odd_rings.kp T.b_odd_rings (fun σ => passAt (takes_of rfl rfl rfl rfl) σ) (pa_cons (pv 1) pa_nil)))) (pss_one (ps_if (pt_cmpR op_eq (pv 0) pe_int (nomark _)) (pss_one (ps_expr (pe_callS G_alone (hr.mono (by decide)) (by rfl) T.g_alone T.F_alone.kp T.b_alone (fun σ => passAt (takes_of rfl rfl rfl rfl) σ) (pa_cons (pv 1) pa_nil)))) (pss_one (ps_if (pt_cmpR op_eq (pv 0) pe_int (nomark _)) (pss_one (ps_expr (pe_callS G_all_good (hr.mono (by decide)) (by rfl) T.g_all_good T.F_all_good.kp T.b_all_good (fun σ => passAt (takes_of rfl rfl rfl rfl) σ) (pa_cons (pv 1) pa_nil)))) (pss_one (ps_if (pt_cmpR op_eq (pv 0) pe_int (nomark _)) (pss_one (ps_expr (pe_callS G_is_good (hr.mono (by decide)) (by rfl) T.g_is_good T.F_is_good.kp T.b_is_good (fun σ => passAt (takes_of rfl rfl rfl rfl) σ) (pa_cons (pv 1) (pa_cons pe_int pa_nil))))) (pss_one (ps_if (pt_cmpR op_eq (pv 0) pe_int (nomark _)) (pss_one (ps_expr (pe_callS G_spoilers (hr.mono (by decide)) (by rfl) T.g_spoilers T.F_spoilers.kp T.b_spoilers (fun σ => passAt (takes_of rfl rfl rfl rfl) σ) (pa_cons (pv 1) (pa_cons pe_non pa_nil))))) (pss_one (ps_expr (pe_callS G_is_steady (hr.mono (by decide)) (by rfl) T.g_is_steady T.F_is_steady.kp T.b_is_steady (fun σ => passAt (takes_of rfl rfl rfl rfl) σ) (pa_cons (pv 1) (pa_cons (pe_lst (pa_cons pe_non pa_nil)) pa_nil))))))))))))))))))))))))))), ?_⟩
    simp only [tRaiseErr, tMkErr, tCallS, WE, tLenSetI, cx_K, cx_w, wipe, Int.zero_add, Bool.false_eq_true, if_false, if_true, Bool.not_true, Bool.not_false, tSeq, tAsg, tOp, tVar, tC, tRet, tRetN, tNext, tDrop, tIfS, tB, tTest, tIf, tAnd, tOr, tNot, tAndV, tOrV, tNotV, tUn, tCons, tNil, tCall, tCB, tBM, tBM0, tNoPart, tPart, tSl, tCont, tNever, tTup, tLst, gName, gNil, gCons, gTup, gSub, rI, rI0, rU, rEq, rNe, rIxL, rSlL, rSetL, rLn, rLs, rTs, rIn, rSet0, tSAdd, rSAdd, rSIn, rSNotIn, rRep, rCat, rAppend, rPop, rPopAt, iList, iRng1, iRng2, iEnum, gTup, tIsN, tNotN, tTru, tLstRg, tRg1, tRg2, L2.start, List.map_cons, List.map_nil, List.length_cons, List.length_nil, List.replicate, List.cons_append, List.nil_append, List.getElem?_cons_zero, List.getElem?_cons_succ, List.set_cons_zero, List.set_cons_succ, Option.some.injEq, exists_eq_left', V.int.injEq, V.ref.injEq, V.bl.injEq, List.cons.injEq, exists_and_left, exists_and_right, and_true, true_and, exists_eq_left, exists_eq, Nat.reduceAdd, Nat.reduceSub]
    rcases h with ⟨v, hb, q⟩ | ⟨t, as, rows, rfl, rfl, TB, g, hl, q⟩
    · refine ⟨rfl, ite2 (fun _ => ⟨x, rfl, .inr ⟨v, hb, q⟩⟩) (fun _ => ?_)⟩
      refine ⟨rfl, ite2 (fun _ => ⟨x, v, rfl, hb, q⟩) (fun _ => ?_)⟩
      refine ⟨rfl, ite2 (fun _ => ⟨x, v, rfl, hb, q⟩) (fun _ => ?_)⟩
      refine ⟨rfl, ite2 (fun _ => ⟨x, v, rfl, hb, q⟩) (fun _ => ?_)⟩
      refine ⟨rfl, ite2 (fun _ => ⟨x, v, rfl, hb, q⟩) (fun _ => ?_)⟩
      refine ⟨rfl, ite2 (fun _ => ⟨x, v, rfl, hb, q⟩) (fun _ => ?_)⟩
      refine ⟨rfl, ite2 (fun _ => ⟨x, v, rfl, hb, q⟩) (fun _ => ?_)⟩
      refine ⟨rfl, ite2 (fun _ => ⟨x, v, rfl, hb, q⟩) (fun _ => ?_)⟩
      refine ⟨rfl, ite2 (fun _ => ⟨x, v, rfl, hb, q⟩) (fun _ => ?_)⟩
      refine ⟨rfl, ite2 (fun _ => ⟨x, _, v, rfl, hb, q⟩) (fun _ => ?_)⟩
      refine ⟨rfl, ite2 (fun _ => ⟨x, _, v, rfl, hb, q⟩) (fun _ => ?_)⟩
      exact ⟨by decide, fun p hp => ⟨x, _, v, rfl, hb.same (same_upd hp), q.same (same_upd hp)⟩⟩
    · refine ⟨rfl, ite2 (fun _ => ⟨_, rfl, .inl ⟨t, as, rows, rfl, TB, g, hl, fun H' p as' e _ _ _ => q H' e⟩⟩) (fun z => ?_)⟩
      simp at z
end
end K1

set_option Elab.async false
set_option linter.all false
set_option maxRecDepth 100000
set_option maxHeartbeats 4000000
namespace K1
open PySem PySem.Spec PyProof.Rows L2 LamX Bk
section
variable {P : Program} {w : World} {K : PySem.W.Frag} {mg : Str → Option Value} {base : Heap}

/-- at which person they are refused, "none" where they are not -/
def sp_refused (K : PySem.W.Frag) : Sp := fun vs H Q _ => ∃ (way : Int) (x : V), vs = [x, .int way] ∧ ((∃ v, ListsBad K H x v ∧ ∀ H', Same H H' → Q v H') ∨
  ∃ (t : Addr) (as : List Addr) (rows : List (List Nat)), way = 0 ∧ x = .ref t ∧ Tbl H t as rows ∧ GL rows ∧ rows.length ≤ 60 ∧ ∀ H', Same H H' → Q (.str "none") H')
theorem ok_refused (T : Txt P K mg) : FnOk P w K mg base CX0 11 T.a__law_refused T.fd__law_refused ["_law_thing", "_law_way"] (sp_refused K) := by
  have G__law_handed : FnOk P w K mg base (L2.CX P w) 10 T.a__law_handed T.fd__law_handed ["_law_way", "_law_thing"] (sp_handed K T.C_BadLists) := ok_handed T
  refine T.F__law_refused.ok (CX := CX0) sc__law_refused (fun vs H Q E h => ?_) (fun cdv A outer s H vs Q E hr h => ?_)
  · obtain ⟨way, x, rfl, _⟩ := h
    rfl
  · obtain ⟨way, x, rfl, h⟩ := h
    refine (fun (z : ∃ t, PSs (cxOf CX0 P w K mg base ["_law_thing", "_law_way", "_law_refused_here", "e"] "_law_refused" (defScope s__law_refused) T.a__law_refused cdv A outer s H E).nox (defBody s__law_refused) t ∧ t { nx := fun _ H' => Q .non H', rt := Q } (start ["_law_thing", "_law_way", "_law_refused_here", "e"] [x, .int way]) H) => by obtain ⟨t, h, q⟩ := z; exact ⟨t, h.nox, q⟩) ?_
    refine ⟨_, (pss_cons (ps_set (i := 2) sc__law_refused.nd rfl (.inl rfl) pe_non)
      (C8.pss_cut (ps_try_asV (i := 3) rfl rfl rfl sc__law_refused.nd rfl rfl ⟨rfl, by decide, .inl T.g_BunkError⟩ L2.takes0 (fun W pn xe tk _ => (pss_one (ps_expr (pe_callS G__law_handed (hr.mono (by decide)) (by rfl) T.g__law_handed T.F__law_handed.kp T.b__law_handed (fun σ => passAt tk σ) (pa_cons (pv 1) (pa_cons (pv 0) pa_nil)))))) (fun ea oe cls d pn hz hf => (pss_one (ps_set (i := 2) sc__law_refused.nd rfl (.inl rfl) (pv 3)))))
      (pss_cons (ps_if (pt_cmp (pc_isN (pv 2))) (pss_one (ps_ret pe_str)) pss_nil)
      (pss_cons (ps_if (PW.pt (pw_or (pt_not (pt_val (pe_callB (kish (K := K)) (by rfl) T.m_isinstance (by decide +kernel) (pa_cons (pv 2) (pa_cons (pe_glob (v := .ref T.C_BadLists) (by rfl) T.g_BadLists rfl) pa_nil))))) (pw_or (pt_val (pe_callB (kish (K := K)) (by rfl) T.m_isinstance (by decide +kernel) (pa_cons (pv 2) (pa_cons (pe_glob (v := .ref T.C_BadPairing) (by rfl) T.g_BadPairing rfl) pa_nil)))) (pw_or1 (pt_val (pe_callB (kish (K := K)) (by rfl) T.m_isinstance (by decide +kernel) (pa_cons (pv 2) (pa_cons (pe_glob (v := .ref T.C_TooMany) (by rfl) T.g_TooMany rfl) pa_nil)))))))) (pss_one (ps_ret pe_str)) pss_nil)
      (pss_cons (ps_if (pt_not (pt_val (pe_callB (kish (K := K)) (by rfl) T.m_isinstance (by decide +kernel) (pa_cons (pv 2) (pa_cons (pe_bltn (v := .ty "ValueError") (by rfl) T.m_ValueError (by decide +kernel) rfl) pa_nil))))) (pss_one (ps_ret pe_str)) pss_nil)
      (pss_one (ps_ret (pe_hfld (K := K) (pv 2))))))))), ?_⟩
    obtain ⟨M, hM⟩ : ∃ M : L2.St → Hp → Prop, M = (fun σ H2 => (∃ (ea d : Addr) (v : V), σ = [some x, some (.int way), some (.ref ea), none] ∧ Same H H2 ∧ H2 ea = some (HeldE (.ref T.C_BadLists) (some d) ea) ∧ H2 d = some (.xd (atFs v)) ∧ ∀ H', Same H H' → Q v H') ∨
      (σ = [some x, some (.int way), some .non, none] ∧ Same H H2 ∧ ∀ H', Same H H' → Q (.str "none") H')) := ⟨_, rfl⟩
    refine ⟨M, ?_, fun σ H2 h2 => ?_⟩
    · simp only [tRaiseErr, tMkErr, tCallS, WE, tLenSetI, cx_K, cx_w, wipe, Int.zero_add, Bool.false_eq_true, if_false, if_true, Bool.not_true, Bool.not_false, tSeq, tAsg, tOp, tVar, tC, tRet, tRetN, tNext, tDrop, tIfS, tB, tTest, tIf, tAnd, tOr, tNot, tAndV, tOrV, tNotV, tUn, tCons, tNil, tCall, tCB, tBM, tBM0, tNoPart, tPart, tSl, tCont, tNever, tTup, tLst, gName, gNil, gCons, gTup, gSub, rI, rI0, rU, rEq, rNe, rIxL, rSlL, rSetL, rLn, rLs, rTs, rIn, rSet0, tSAdd, rSAdd, rSIn, rSNotIn, rRep, rCat, rAppend, rPop, rPopAt, iList, iRng1, iRng2, iEnum, gTup, tIsN, tNotN, tTru, tLstRg, tRg1, tRg2, L2.start, List.map_cons, List.map_nil, List.length_cons, List.length_nil, List.replicate, List.cons_append, List.nil_append, List.getElem?_cons_zero, List.getElem?_cons_succ, List.set_cons_zero, List.set_cons_succ, Option.some.injEq, exists_eq_left', V.int.injEq, V.ref.injEq, V.bl.injEq, List.cons.injEq, exists_and_left, exists_and_right, and_true, true_and, exists_eq_left, exists_eq, Nat.reduceAdd, Nat.reduceSub]
      rcases h with ⟨v, hb, q⟩ | ⟨t, as, rows, h0, h1, h2, h3, h4, q⟩
      · refine ⟨way, x, rfl, .inl ⟨v, hb, fun H' d e h1 h2 => ⟨true, T.k_BadLists.be, fun _ ea hea => ⟨.ref ea, rfl, fun _ => ?_⟩, fun z => by cases z⟩⟩⟩
        rw [hM]
        exact .inl ⟨ea, d, v, rfl, same_upd2 e (e.free hea), upd_same, by rw [upd_ne (ne_of_none h1 hea)]; exact h1, q⟩
      · refine ⟨way, x, rfl, .inr ⟨t, as, rows, h0, h1, h2, h3, h4, fun H' e => ?_⟩⟩
        rw [hM]
        exact .inr ⟨rfl, e, q⟩
    · rw [hM] at h2
      clear h hM M
      rcases h2 with ⟨ea, d, v, rfl, e, he, hd, q⟩ | ⟨rfl, e, q⟩
      · have kf := T.k_BadLists
        simp only [tRaiseErr, tMkErr, tCallS, WE, tLenSetI, cx_K, cx_w, wipe, Int.zero_add, Bool.false_eq_true, if_false, if_true, Bool.not_true, Bool.not_false, tSeq, tAsg, tOp, tVar, tC, tRet, tRetN, tNext, tDrop, tIfS, tB, tTest, tIf, tAnd, tOr, tNot, tAndV, tOrV, tNotV, tUn, tCons, tNil, tCall, tCB, tBM, tBM0, tNoPart, tPart, tSl, tCont, tNever, tTup, tLst, gName, gNil, gCons, gTup, gSub, rI, rI0, rU, rEq, rNe, rIxL, rSlL, rSetL, rLn, rLs, rTs, rIn, rSet0, tSAdd, rSAdd, rSIn, rSNotIn, rRep, rCat, rAppend, rPop, rPopAt, iList, iRng1, iRng2, iEnum, gTup, tIsN, tNotN, tTru, tLstRg, tRg1, tRg2, L2.start, List.map_cons, List.map_nil, List.length_cons, List.length_nil, List.replicate, List.cons_append, List.nil_append, List.getElem?_cons_zero, List.getElem?_cons_succ, List.set_cons_zero, List.set_cons_succ, Option.some.injEq, exists_eq_left', V.int.injEq, V.ref.injEq, V.bl.injEq, List.cons.injEq, exists_and_left, exists_and_right, and_true, true_and, exists_eq_left, exists_eq, Nat.reduceAdd, Nat.reduceSub]
        rw [decide_eq_false (show ¬ V.ref ea = V.non from fun z => by cases z)]
        refine iteF ?_
        refine ⟨ea, T.C_BadLists, d, atFs v, .ref T.C_BadLists, .ref T.C_BadLists, true, rfl, he, hd, kf.e, fun u r => r, kf.bl, ?_⟩
        refine ⟨true, rfl, iteF ?_⟩
        refine ⟨ea, T.C_BadLists, d, atFs v, .ref T.C_BadPairing, .ref T.C_BadPairing, false, rfl, he, hd, kf.e, fun u r => r, kf.bp, false, rfl, iteF ?_⟩
        refine ⟨ea, T.C_BadLists, d, atFs v, .ref T.C_TooMany, .ref T.C_TooMany, false, rfl, he, hd, kf.e, fun u r => r, kf.tm, false, rfl, iteF ?_⟩
        refine ⟨ea, T.C_BadLists, d, atFs v, .ty "ValueError", .type "ValueError", true, rfl, he, hd, kf.e, fun u r => r, kf.ve, true, rfl, iteF ?_⟩
        exact ⟨.ref ea, rfl, ea, T.C_BadLists, d, atFs v, v, rfl, he, kf.x, kf.no, hd, rfl, q _ e⟩
      · simp only [tRaiseErr, tMkErr, tCallS, WE, tLenSetI, cx_K, cx_w, wipe, Int.zero_add, Bool.false_eq_true, if_false, if_true, Bool.not_true, Bool.not_false, tSeq, tAsg, tOp, tVar, tC, tRet, tRetN, tNext, tDrop, tIfS, tB, tTest, tIf, tAnd, tOr, tNot, tAndV, tOrV, tNotV, tUn, tCons, tNil, tCall, tCB, tBM, tBM0, tNoPart, tPart, tSl, tCont, tNever, tTup, tLst, gName, gNil, gCons, gTup, gSub, rI, rI0, rU, rEq, rNe, rIxL, rSlL, rSetL, rLn, rLs, rTs, rIn, rSet0, tSAdd, rSAdd, rSIn, rSNotIn, rRep, rCat, rAppend, rPop, rPopAt, iList, iRng1, iRng2, iEnum, gTup, tIsN, tNotN, tTru, tLstRg, tRg1, tRg2, L2.start, List.map_cons, List.map_nil, List.length_cons, List.length_nil, List.replicate, List.cons_append, List.nil_append, List.getElem?_cons_zero, List.getElem?_cons_succ, List.set_cons_zero, List.set_cons_succ, Option.some.injEq, exists_eq_left', V.int.injEq, V.ref.injEq, V.bl.injEq, List.cons.injEq, exists_and_left, exists_and_right, and_true, true_and, exists_eq_left, exists_eq, Nat.reduceAdd, Nat.reduceSub]
        exact iteT (q _ e)
end
end K1

set_option Elab.async false
set_option linter.all false
/-! Readings of displays and of lists put together, one by one. -/
namespace Bk
open PySem PySem.Spec PyProof.Rows L2 LamX
section
variable {σ : L2.St} {H : Hp}
theorem R_cons {ta : TE} {t : TA} {Q : List V → Hp → Prop} (h : ta σ H fun x H1 => t σ H1 fun xs H2 => Q (x :: xs) H2) : tCons ta t σ H Q := h
theorem R_nil {Q : List V → Hp → Prop} (h : Q [] H) : tNil σ H Q := h
theorem R_C {v : V} {Q : VK} (h : Q v H) : tC v σ H Q := h
theorem R_lst {t : TA} {Q : VK} (h : t σ H fun xs H1 => xs.length ≤ sizeLine ∧ ∀ p, H1 p = none → Q (.ref p) (upd H1 p (.lst xs))) : tLst t σ H Q := h
theorem R_asg {te : TE} {tg : TG} {D : L2.Ends} (h : te σ H fun v H1 => tg v σ H1 D.nx) : tAsg te tg D σ H := h
theorem R_catR {a : Addr} {xs : List V} {c : V} {te : TE} {i : Nat} {Q : VK} (hs : σ[i]? = some (some (.ref a))) (ha : H a = some (.lst xs)) (hl : xs.length ≤ 100) (hte : ∀ Q' : VK, Q' c H → te σ H Q')
    (h : ∀ H' q, Same H H' → H' q = some (.lst (xs ++ [c])) → H q = none → Q (.ref q) H') : tOp rCat (tVar i) (tLst (tCons te tNil)) σ H Q := by
  refine ⟨_, hs, ?_⟩
  refine hte _ ⟨(by decide : 1 ≤ sizeLine), fun p hp => ?_⟩
  refine ⟨a, p, xs, [c], rfl, rfl, by rw [upd_ne (ne_of_none ha hp)]; exact ha, upd_same, Nat.le_of_lt (small (n := xs.length + 1) (by omega)), fun q hq => ?_⟩
  have np : H q = none := (same_upd hp).free hq
  exact h _ q (same_upd2 (same_upd hp) np) upd_same np
theorem R_catL {a : Addr} {xs : List V} {c : V} {te : TE} {i : Nat} {Q : VK} (hs : σ[i]? = some (some (.ref a))) (ha : H a = some (.lst xs)) (hl : xs.length ≤ 100) (hte : ∀ Q' : VK, Q' c H → te σ H Q')
    (h : ∀ H' q, Same H H' → H' q = some (.lst (c :: xs)) → H q = none → Q (.ref q) H') : tOp rCat (tLst (tCons te tNil)) (tVar i) σ H Q := by
  refine hte _ ⟨(by decide : 1 ≤ sizeLine), fun p hp => ?_⟩
  refine ⟨_, hs, ?_⟩
  refine ⟨p, a, [c], xs, rfl, rfl, upd_same, by rw [upd_ne (ne_of_none ha hp)]; exact ha, (by rw [Nat.add_comm]; exact Nat.le_of_lt (small (n := xs.length + 1) (by omega))), fun q hq => ?_⟩
  have np : H q = none := (same_upd hp).free hq
  exact h _ q (same_upd2 (same_upd hp) np) upd_same np
theorem R_tl {K : PySem.W.Frag} {a : Addr} {xs : List V} {i : Nat} {Q : VK} (hs : σ[i]? = some (some (.ref a))) (ha : H a = some (.lst xs)) (h : ∀ H' q, Same H H' → H' q = some (.lst (xs.take 1)) → H q = none → Q (.ref q) H') :
    tSl (rSlL K) (tVar i) tNoPart (tPart (tC (.int 1))) σ H Q := by
  refine ⟨_, hs, ?_⟩
  refine ⟨1, rfl, a, xs, rfl, SqL.of ha, fun p hp => ?_⟩
  rw [show (1 : Int) = ((1 : Nat) : Int) from rfl, cutV_take]
  exact h _ p (same_upd hp) upd_same hp
theorem R_cat {a b : Addr} {xs ys : List V} {Q : VK} (ha : H a = some (.lst xs)) (hb : H b = some (.lst ys)) (hl : xs.length + ys.length ≤ 1000) (h : ∀ H' q, Same H H' → H' q = some (.lst (xs ++ ys)) → H q = none → Q (.ref q) H') : rCat (.ref a) (.ref b) H Q :=
  ⟨a, b, xs, ys, rfl, rfl, ha, hb, Nat.le_of_lt (small (by omega)), fun q hq => h _ q (same_upd hq) upd_same hq⟩
end
end Bk
set_option Elab.async false
set_option linter.all false
set_option maxRecDepth 100000
set_option maxHeartbeats 4000000
namespace K1
open PySem PySem.Spec PyProof.Rows L2 LamX Bk
section
variable {P : Program} {w : World} {K : PySem.W.Frag} {mg : Str → Option Value} {base : Heap}

/-- lists of which one is none -/
def sp_spoilt (K : PySem.W.Frag) : Sp := fun vs H Q _ => ∃ (t : Addr) (as : List Addr) (rows : List (List Nat)) (p : Nat) (num : Int), vs = [.ref t, nv p, .int num] ∧ Tbl H t as rows ∧ GL rows ∧ rows.length ≤ 60 ∧ p < rows.length ∧
  ∀ H' D x, Same H H' → H D = none → H' D = some (.lst ((as.map V.ref).set p x)) → (∀ H'', (∀ b o, b ≠ D → H' b = some o → H'' b = some o) → RowIs K H'' x p rows.length false) → Q (.ref D) H'
theorem ok_spoilt (T : Txt P K mg) : FnOk P w K mg base CX0 1 T.a__law_spoilt T.fd__law_spoilt ["_law_rows", "_law_at", "_law_number"] (sp_spoilt K) := by
  refine T.F__law_spoilt.ok sc__law_spoilt (fun vs H Q E h => ?_) (fun cdv A outer s H vs Q E hr h => ?_)
  · obtain ⟨t, as, rows, p, num, rfl, _⟩ := h
    rfl
  · obtain ⟨t, as, rows, p, num, rfl, TB, g, hl, hp, q⟩ := h
    refine ⟨_, (C8.pss_cut (ps_set (i := 3) sc__law_spoilt.nd rfl (.inl rfl) (pe_ix (kix_list (K := K)) (pv 0) (pv 1) (fun _ _ => rfl)))
      (C8.pss_cut (ps_set (i := 4) sc__law_spoilt.nd rfl (.inl rfl) (pe_lst (pa_cons (pe_op op_cat (pv 3) (pe_lst (pa_cons (pe_callB (klen (K := K)) (by rfl) T.m_len (by decide +kernel) (pa_cons (pv 0) pa_nil)) pa_nil))) (pa_cons (pe_op op_cat (pe_lst (pa_cons (pe_un un_neg pe_int) pa_nil)) (pv 3)) (pa_cons (pe_op op_cat (pv 3) (pe_lst (pa_cons pe_bl pa_nil))) (pa_cons (pe_op op_cat (pe_lst (pa_cons pe_non pa_nil)) (pv 3)) (pa_cons (pe_op op_cat (pv 3) (pe_lst (pa_cons pe_str pa_nil))) (pa_cons (pe_op op_cat (pv 3) (pe_lst (pa_cons (pv 1) pa_nil))) (pa_cons (pe_op op_cat (pe_op op_cat (pv 3) (pe_slice (ksl_list (K := K)) (pv 3) po_none (po_some pe_int))) (pe_slice (ksl_list (K := K)) (pv 3) po_none (po_some pe_int))) pa_nil)))))))))
      (C8.pss_cut (ps_set (i := 4) sc__law_spoilt.nd rfl (.inl rfl) (pe_op op_cat (pv 4) (pe_lst (pa_cons (pe_callTy (ktuple_of (K := K)) (by rfl) T.m_tuple (by decide +kernel) (pa_cons (pv 3) pa_nil)) (pa_cons pe_non (pa_cons (pe_op op_cat (pv 3) (pe_lst (pa_cons (pe_lst pa_nil) pa_nil))) (pa_cons (pe_op op_cat (pv 3) (pe_lst (pa_cons (pe_op op_pow pe_int pe_int) pa_nil))) (pa_cons pe_int pa_nil))))))))
      (C8.pss_cut (ps_set (i := 5) sc__law_spoilt.nd rfl (.inl rfl) (pe_callTy (klist_of (K := K)) (by rfl) T.m_list (by decide +kernel) (pa_cons (pv 0) pa_nil)))
      (C8.pss_cut (ps_asg (pe_ix (kix_list (K := K)) (pv 4) (pe_op op_mod (pv 2) pe_int) (fun _ _ => rfl)) (pg_sub (pv 5) (pv 1) set_list))
      (pss_cons (ps_if (PW.pt (pw_and (pt_cmpR op_eq (pe_op op_mod (pv 2) pe_int) pe_int (nomark _)) (pw_and1 (pt_cmpR (keqD (K := K) hr.units) (pv 3) (pe_lst pa_nil) (nomark _))))) (pss_one (ps_asg (pe_lst (pa_cons (pv 1) pa_nil)) (pg_sub (pv 5) (pv 1) set_list))) pss_nil)
      (pss_one (ps_ret (pv 5))))))))), ?_⟩
    obtain ⟨a, ha, hra, _, _⟩ := TB.at hp
    obtain ⟨r, hr0⟩ : ∃ r, r = fn rows p := ⟨_, rfl⟩
    rw [← hr0] at hra
    refine ⟨fun σ H1 => σ = [some (.ref t), some (nv p), some (.int num), some (.ref a), none, none] ∧ H1 = H, ?_, fun σ H1 h1 => ?_⟩
    · simp only [tRaiseErr, tMkErr, tCallS, WE, tLenSetI, cx_K, cx_w, wipe, Int.zero_add, Bool.false_eq_true, if_false, if_true, Bool.not_true, Bool.not_false, tSeq, tAsg, tOp, tVar, tC, tRet, tRetN, tNext, tDrop, tIfS, tB, tTest, tIf, tAnd, tOr, tNot, tAndV, tOrV, tNotV, tUn, tCons, tNil, tCall, tCB, tBM, tBM0, tNoPart, tPart, tSl, tCont, tNever, tTup, tLst, gName, gNil, gCons, gTup, gSub, rI, rI0, rU, rEq, rNe, rIxL, rSlL, rSetL, rLn, rLs, rTs, rIn, rSet0, tSAdd, rSAdd, rSIn, rSNotIn, rRep, rCat, rAppend, rPop, rPopAt, iList, iRng1, iRng2, iEnum, gTup, tIsN, tNotN, tTru, tLstRg, tRg1, tRg2, L2.start, List.map_cons, List.map_nil, List.length_cons, List.length_nil, List.replicate, List.cons_append, List.nil_append, List.getElem?_cons_zero, List.getElem?_cons_succ, List.set_cons_zero, List.set_cons_succ, Option.some.injEq, exists_eq_left', V.int.injEq, V.ref.injEq, V.bl.injEq, List.cons.injEq, exists_and_left, exists_and_right, and_true, true_and, exists_eq_left, exists_eq, Nat.reduceAdd, Nat.reduceSub]
      exact ⟨_, SqL.of TB.top, _, TB.atI ha, rfl⟩
    obtain ⟨rfl, rfl⟩ := h1
    have rl : (r.map nv).length ≤ 60 := by
      rw [List.length_map, hr0]
      have := g.len p; omega
    obtain ⟨M, hM⟩ : ∃ M : L2.St → Hp → Prop, M = (fun σ H2 => ∃ S q0 q1 q2 q3 q4 q5 q6, σ = [some (.ref t), some (nv p), some (.int num), some (.ref a), some (.ref S), none] ∧ Same H1 H2 ∧ H2 S = some (.lst [.ref q0, .ref q1, .ref q2, .ref q3, .ref q4, .ref q5, .ref q6]) ∧
      H2 q0 = some (.lst (r.map nv ++ [nv rows.length])) ∧ H2 q1 = some (.lst (.int (-1) :: r.map nv)) ∧ H2 q2 = some (.lst (r.map nv ++ [.bl true])) ∧ H2 q3 = some (.lst (.non :: r.map nv)) ∧ H2 q4 = some (.lst (r.map nv ++ [.str "0"])) ∧ H2 q5 = some (.lst (r.map nv ++ [nv p])) ∧ H2 q6 = some (.lst (r.map nv ++ (r.map nv).take 1 ++ (r.map nv).take 1))) := ⟨_, rfl⟩
    refine ⟨M, ?_, fun σ H2 h2 => ?_⟩
    · refine R_asg (R_lst (R_cons ?_))
      refine R_catR rfl hra (by omega) (fun Q' z => by
        simp only [tRaiseErr, tMkErr, tCallS, WE, tLenSetI, cx_K, cx_w, wipe, Int.zero_add, Bool.false_eq_true, if_false, if_true, Bool.not_true, Bool.not_false, tSeq, tAsg, tOp, tVar, tC, tRet, tRetN, tNext, tDrop, tIfS, tB, tTest, tIf, tAnd, tOr, tNot, tAndV, tOrV, tNotV, tUn, tCons, tNil, tCall, tCB, tBM, tBM0, tNoPart, tPart, tSl, tCont, tNever, tTup, tLst, gName, gNil, gCons, gTup, gSub, rI, rI0, rU, rEq, rNe, rIxL, rSlL, rSetL, rLn, rLs, rTs, rIn, rSet0, tSAdd, rSAdd, rSIn, rSNotIn, rRep, rCat, rAppend, rPop, rPopAt, iList, iRng1, iRng2, iEnum, gTup, tIsN, tNotN, tTru, tLstRg, tRg1, tRg2, L2.start, List.map_cons, List.map_nil, List.length_cons, List.length_nil, List.replicate, List.cons_append, List.nil_append, List.getElem?_cons_zero, List.getElem?_cons_succ, List.set_cons_zero, List.set_cons_succ, Option.some.injEq, exists_eq_left', V.int.injEq, V.ref.injEq, V.bl.injEq, List.cons.injEq, exists_and_left, exists_and_right, and_true, true_and, exists_eq_left, exists_eq, Nat.reduceAdd, Nat.reduceSub]
        exact ⟨_, .inl (SqL.of TB.top), by rw [List.length_map, TB.len]; exact z⟩) fun H2 q0 e2 h20 _ => R_cons ?_
      refine R_catL rfl (e2 _ _ hra) (by omega) (fun Q' z => ⟨1, rfl, z⟩) fun H3 q1 e3 h31 _ => R_cons ?_
      have e13 := e2.trans e3
      refine R_catR rfl (e13 _ _ hra) (by omega) (fun Q' z => z) fun H4 q2 e4 h42 _ => R_cons ?_
      have e14 := e13.trans e4
      refine R_catL rfl (e14 _ _ hra) (by omega) (fun Q' z => z) fun H5 q3 e5 h53 _ => R_cons ?_
      have e15 := e14.trans e5
      refine R_catR rfl (e15 _ _ hra) (by omega) (fun Q' z => z) fun H6 q4 e6 h64 _ => R_cons ?_
      have e16 := e15.trans e6
      refine R_catR rfl (e16 _ _ hra) (by omega) (fun Q' z => ⟨_, rfl, z⟩) fun H7 q5 e7 h75 _ => R_cons ?_
      have e17 := e16.trans e7
      refine ⟨_, rfl, ?_⟩
      have t1 : ((r.map nv).take 1).length ≤ 1 := by rw [List.length_take]; omega
      refine R_tl rfl (e17 _ _ hra) fun H8 p8 e8 h8 _ => ?_
      refine R_cat ((e17.trans e8) _ _ hra) h8 (by omega) fun H9 p9 e9 h9 _ => ?_
      have e19 := (e17.trans e8).trans e9
      refine R_tl rfl (e19 _ _ hra) fun H10 p10 e10 h10 _ => ?_
      refine R_cat (e10 _ _ h9) h10 (by rw [List.length_append]; omega) fun H11 q6 e11 h116 _ => ?_
      have e111 := (e19.trans e10).trans e11
      refine R_nil ⟨Nat.le_of_lt (small (by simp only [List.length_cons, List.length_nil]; omega)), fun S hS => ?_⟩
      have s := same_upd (o := .lst [.ref q0, .ref q1, .ref q2, .ref q3, .ref q4, .ref q5, .ref q6]) hS
      have e7a := ((e8.trans e9).trans e10).trans e11
      show M _ _
      rw [hM]
      refine ⟨S, q0, q1, q2, q3, q4, q5, q6, rfl, e111.trans s, upd_same, s _ _ (e7a _ _ (e7 _ _ (e6 _ _ (e5 _ _ (e4 _ _ (e3 _ _ h20)))))), s _ _ (e7a _ _ (e7 _ _ (e6 _ _ (e5 _ _ (e4 _ _ h31))))), s _ _ (e7a _ _ (e7 _ _ (e6 _ _ (e5 _ _ h42)))), s _ _ (e7a _ _ (e7 _ _ (e6 _ _ h53))), s _ _ (e7a _ _ (e7 _ _ h64)), s _ _ (e7a _ _ h75), s _ _ h116⟩
    rw [hM] at h2
    clear hM M
    obtain ⟨S, q0, q1, q2, q3, q4, q5, q6, rfl, e2, hS, h0, h1, h2, h3, h4, h5, h6⟩ := h2
    obtain ⟨M, hM⟩ : ∃ M : L2.St → Hp → Prop, M = (fun σ H3 => ∃ S q7 q9 q10, σ = [some (.ref t), some (nv p), some (.int num), some (.ref a), some (.ref S), none] ∧ Same H2 H3 ∧ H3 S = some (.lst [.ref q0, .ref q1, .ref q2, .ref q3, .ref q4, .ref q5, .ref q6, .ref q7, .non, .ref q9, .ref q10, .int 5]) ∧
      H3 q7 = some (.tup (r.map nv)) ∧ (∃ b, H3 q9 = some (.lst (r.map nv ++ [.ref b])) ∧ H3 b = some (.lst [])) ∧ H3 q10 = some (.lst (r.map nv ++ [.int (10 ^ 30)]))) := ⟨_, rfl⟩
    refine ⟨M, ?_, fun σ H3 g3 => ?_⟩
    · have ra2 := e2 _ _ hra
      refine R_asg ⟨_, rfl, ?_⟩
      refine R_lst (R_cons ?_)
      refine ⟨_, rfl, ?_⟩
      refine ⟨a, _, rfl, .inl ⟨SqL.of ra2, fun q7 hq7 => R_cons ?_⟩⟩
      have s3 := same_upd (o := .tup (r.map nv)) hq7
      have h7 : upd H2 q7 (.tup (r.map nv)) q7 = some (.tup (r.map nv)) := upd_same
      generalize upd H2 q7 (.tup (r.map nv)) = H3 at s3 h7
      refine R_C (R_cons ?_)
      refine ⟨_, rfl, ?_⟩
      refine R_lst (R_cons (R_lst (R_nil ?_)))
      refine ⟨by decide, fun b hb => ?_⟩
      refine R_nil ?_
      refine ⟨(by decide : 1 ≤ sizeLine), fun p4 hp4 => ?_⟩
      have s4 := same_upd (o := .lst []) hb
      have hb4 : upd H3 b (.lst []) b = some (.lst []) := upd_same
      generalize upd H3 b (.lst []) = H4 at s4 hb4 hp4
      have s5 := same_upd (o := .lst [.ref b]) hp4
      have h5' : upd H4 p4 (.lst [.ref b]) p4 = some (.lst [.ref b]) := upd_same
      generalize upd H4 p4 (.lst [.ref b]) = H5 at s5 h5'
      have e25 := (s3.trans s4).trans s5
      refine R_cat (e25 _ _ ra2) h5' (by simp only [List.length_cons, List.length_nil]; omega) fun H6 q9 s6 h9 _ => R_cons ?_
      have e26 := e25.trans s6
      refine R_catR rfl (e26 _ _ ra2) (by omega) (fun Q' z => ⟨10, 30, rfl, rfl, ⟨by decide, by decide, by decide⟩, z⟩) fun H7 q10 s7 h10 _ => R_cons (R_C (R_nil ?_))
      refine ⟨Nat.le_of_lt (small (by simp only [List.length_cons, List.length_nil]; omega)), fun p8 hp8 => ?_⟩
      have s8 := same_upd (o := .lst [.ref q7, .non, .ref q9, .ref q10, .int 5]) hp8
      have h8 : upd H7 p8 (.lst [.ref q7, .non, .ref q9, .ref q10, .int 5]) p8 = some (.lst [.ref q7, .non, .ref q9, .ref q10, .int 5]) := upd_same
      generalize upd H7 p8 (.lst [.ref q7, .non, .ref q9, .ref q10, .int 5]) = H8 at s8 h8
      have e28 := (e26.trans s7).trans s8
      refine R_cat (e28 _ _ hS) h8 (by simp only [List.length_cons, List.length_nil]; omega) fun H9 S2 s9 hS2 _ => ?_
      have s69 := (s7.trans s8).trans s9
      show M _ _
      rw [hM]
      exact ⟨S2, q7, q9, q10, rfl, e28.trans s9, hS2, s69 _ _ (s6 _ _ (s5 _ _ (s4 _ _ h7))), ⟨b, s69 _ _ h9, s69 _ _ (s6 _ _ (s5 _ _ hb4))⟩, s9 _ _ (s8 _ _ h10)⟩
    rw [hM] at g3
    clear hM M
    obtain ⟨S2, q7, q9, q10, rfl, e3, hS2, h7, ⟨b, h9, hb⟩, h10⟩ := g3
    have e13 := e2.trans e3
    -- the copy
    obtain ⟨M, hM⟩ : ∃ M : L2.St → Hp → Prop, M = (fun σ H4 => ∃ D, σ = [some (.ref t), some (nv p), some (.int num), some (.ref a), some (.ref S2), some (.ref D)] ∧ H3 D = none ∧ H4 = upd H3 D (.lst (as.map V.ref))) := ⟨_, rfl⟩
    refine ⟨M, ?_, fun σ H4 g4 => ?_⟩
    · simp only [tRaiseErr, tMkErr, tCallS, WE, tLenSetI, cx_K, cx_w, wipe, Int.zero_add, Bool.false_eq_true, if_false, if_true, Bool.not_true, Bool.not_false, tSeq, tAsg, tOp, tVar, tC, tRet, tRetN, tNext, tDrop, tIfS, tB, tTest, tIf, tAnd, tOr, tNot, tAndV, tOrV, tNotV, tUn, tCons, tNil, tCall, tCB, tBM, tBM0, tNoPart, tPart, tSl, tCont, tNever, tTup, tLst, gName, gNil, gCons, gTup, gSub, rI, rI0, rU, rEq, rNe, rIxL, rSlL, rSetL, rLn, rLs, rTs, rIn, rSet0, tSAdd, rSAdd, rSIn, rSNotIn, rRep, rCat, rAppend, rPop, rPopAt, iList, iRng1, iRng2, iEnum, gTup, tIsN, tNotN, tTru, tLstRg, tRg1, tRg2, L2.start, List.map_cons, List.map_nil, List.length_cons, List.length_nil, List.replicate, List.cons_append, List.nil_append, List.getElem?_cons_zero, List.getElem?_cons_succ, List.set_cons_zero, List.set_cons_succ, Option.some.injEq, exists_eq_left', V.int.injEq, V.ref.injEq, V.bl.injEq, List.cons.injEq, exists_and_left, exists_and_right, and_true, true_and, exists_eq_left, exists_eq, Nat.reduceAdd, Nat.reduceSub]
      exact ⟨_, .inl (SqL.of (e13 _ _ TB.top)), fun D hD => by rw [hM]; exact ⟨D, rfl, hD, rfl⟩⟩
    rw [hM] at g4
    clear hM M
    obtain ⟨D, rfl, hD, rfl⟩ := g4
    have n1 : H1 D = none := e13.free hD
    have s4 := same_upd (o := .lst (as.map V.ref)) hD
    -- the wrong row
    obtain ⟨M, hM⟩ : ∃ M : L2.St → Hp → Prop, M = (fun σ H5 => σ = [some (.ref t), some (nv p), some (.int num), some (.ref a), some (.ref S2), some (.ref D)] ∧ Same H1 H5 ∧ ∃ x, H5 D = some (.lst ((as.map V.ref).set p x)) ∧ ((∀ H'', (∀ b o, b ≠ D → H5 b = some o → H'' b = some o) → RowIs K H'' x p rows.length false) ∨ (num % 12 = 6 ∧ r = []))) := ⟨_, rfl⟩
    refine ⟨M, ?_, fun σ H5 g5 => ?_⟩
    · simp only [tRaiseErr, tMkErr, tCallS, WE, tLenSetI, cx_K, cx_w, wipe, Int.zero_add, Bool.false_eq_true, if_false, if_true, Bool.not_true, Bool.not_false, tSeq, tAsg, tOp, tVar, tC, tRet, tRetN, tNext, tDrop, tIfS, tB, tTest, tIf, tAnd, tOr, tNot, tAndV, tOrV, tNotV, tUn, tCons, tNil, tCall, tCB, tBM, tBM0, tNoPart, tPart, tSl, tCont, tNever, tTup, tLst, gName, gNil, gCons, gTup, gSub, rI, rI0, rU, rEq, rNe, rIxL, rSlL, rSetL, rLn, rLs, rTs, rIn, rSet0, tSAdd, rSAdd, rSIn, rSNotIn, rRep, rCat, rAppend, rPop, rPopAt, iList, iRng1, iRng2, iEnum, gTup, tIsN, tNotN, tTru, tLstRg, tRg1, tRg2, L2.start, List.map_cons, List.map_nil, List.length_cons, List.length_nil, List.replicate, List.cons_append, List.nil_append, List.getElem?_cons_zero, List.getElem?_cons_succ, List.set_cons_zero, List.set_cons_succ, Option.some.injEq, exists_eq_left', V.int.injEq, V.ref.injEq, V.bl.injEq, List.cons.injEq, exists_and_left, exists_and_right, and_true, true_and, exists_eq_left, exists_eq, Nat.reduceAdd, Nat.reduceSub]
      have w1 := Int.emod_nonneg num (show (12 : Int) ≠ 0 by decide)
      have w2 := Int.emod_lt_of_pos num (show (0 : Int) < 12 by decide)
      have fin : ∀ x : V, ((RowIs K H3 x p rows.length false) ∨ (num % 12 = 6 ∧ r = [])) → ∃ x_1, upd H3 D (.lst (as.map V.ref)) D = some (.lst x_1) ∧ ∃ x_2, ixN x_1.length (p : Int) = some x_2 ∧
          M [some (.ref t), some (nv p), some (.int num), some (.ref a), some (.ref S2), some (.ref D)] (upd (upd H3 D (.lst (as.map V.ref))) D (.lst (x_1.set x_2 x))) := fun x hx => by
        refine ⟨_, upd_same, p, ixN_nat (by rw [List.length_map, TB.len]; exact hp), ?_⟩
        rw [hM, upd_upd]
        have s5 := same_upd (o := .lst ((as.map V.ref).set p x)) hD
        exact ⟨rfl, e13.trans s5, x, upd_same, hx.imp (fun z H'' k => z.same fun b o ho => k b o (fun e => by rw [e, hD] at ho; cases ho) (s5 _ _ ho)) id⟩
      have rw : ∀ q xs, H3 q = some (.lst xs) → (∀ y ∈ xs, ∃ k, Kd K H3 y k) → xs.length ≤ 1000 → ¬ (xs.Nodup ∧ ∀ x ∈ xs, ∃ k : Int, x = .int k ∧ 0 ≤ k ∧ k < rows.length ∧ k ≠ p) → RowIs K H3 (.ref q) p rows.length false := fun q xs h1 h2 h3 h4 => by
        refine .inl ⟨q, xs, rfl, h1, h2, h3, ?_⟩
        cases hb : rowB p rows.length [] xs with
        | false => rfl
        | true =>
          obtain ⟨d, g2⟩ := rowB_true hb
          exact absurd ⟨d, fun x hx => by obtain ⟨k, a, b, c, d, _⟩ := g2 x hx; exact ⟨k, a, b, c, d⟩⟩ h4
      have kr : ∀ y ∈ r.map nv, ∃ k, Kd K H3 y k := fun y hy => by
        obtain ⟨k, z, _⟩ := kd_flat (K := K) (H := H3) (List.all_eq_true.mp (flat_nv r) y hy)
        exact ⟨k, z⟩
      have kf : ∀ y : V, flatV y = true → ∃ k, Kd K H3 y k := fun y hy => by
        obtain ⟨k, z, _⟩ := kd_flat (K := K) (H := H3) hy
        exact ⟨k, z⟩
      have kapp : ∀ (c : V), (∃ k, Kd K H3 c k) → ∀ y ∈ r.map nv ++ [c], ∃ k, Kd K H3 y k := fun c hc y hy => by
        rcases List.mem_append.mp hy with z | z
        · exact kr y z
        · have := List.mem_singleton.mp z
          rw [this]; exact hc
      have kcons : ∀ (c : V), (∃ k, Kd K H3 c k) → ∀ y ∈ c :: r.map nv, ∃ k, Kd K H3 y k := fun c hc y hy => by
        rcases List.mem_cons.mp hy with z | z
        · rw [z]; exact hc
        · exact kr y z
      have la : ∀ c : V, (r.map nv ++ [c]).length ≤ 1000 := fun c => by rw [List.length_append]; simp only [List.length_cons, List.length_nil]; omega
      have lc : ∀ c : V, (c :: r.map nv).length ≤ 1000 := fun c => by rw [List.length_cons]; omega
      have ma : ∀ c : V, c ∈ r.map nv ++ [c] := fun c => List.mem_append.mpr (.inr (List.mem_singleton.mpr rfl))
      refine ⟨by decide, _, SqL.of ((same_upd hD) _ _ hS2), ?_⟩
      rcases (show num % 12 = 0 ∨ num % 12 = 1 ∨ num % 12 = 2 ∨ num % 12 = 3 ∨ num % 12 = 4 ∨ num % 12 = 5 ∨ num % 12 = 6 ∨ num % 12 = 7 ∨ num % 12 = 8 ∨ num % 12 = 9 ∨ num % 12 = 10 ∨ num % 12 = 11 by omega) with z | z | z | z | z | z | z | z | z | z | z | z
      · rw [z]
        exact ⟨_, atI_nat (j := 0) rfl, fin _ (.inl (rw q0 _ (e3 _ _ h0) (kapp _ (kf _ rfl)) (la _) fun ⟨_, g2⟩ => by
          obtain ⟨k, e, _, g3, _⟩ := g2 _ (ma _)
          have := V.int.inj e
          omega))⟩
      · rw [z]
        exact ⟨_, atI_nat (j := 1) rfl, fin _ (.inl (rw q1 _ (e3 _ _ h1) (kcons _ (kf _ rfl)) (lc _) fun ⟨_, g2⟩ => by
          obtain ⟨k, e, g3, _⟩ := g2 _ List.mem_cons_self
          have := V.int.inj e
          omega))⟩
      · rw [z]
        exact ⟨_, atI_nat (j := 2) rfl, fin _ (.inl (rw q2 _ (e3 _ _ h2) (kapp _ (kf _ rfl)) (la _) fun ⟨_, g2⟩ => by
          obtain ⟨k, e, _⟩ := g2 _ (ma _)
          cases e))⟩
      · rw [z]
        exact ⟨_, atI_nat (j := 3) rfl, fin _ (.inl (rw q3 _ (e3 _ _ h3) (kcons _ (kf _ rfl)) (lc _) fun ⟨_, g2⟩ => by
          obtain ⟨k, e, _⟩ := g2 _ List.mem_cons_self
          cases e))⟩
      · rw [z]
        exact ⟨_, atI_nat (j := 4) rfl, fin _ (.inl (rw q4 _ (e3 _ _ h4) (kapp _ (kf _ rfl)) (la _) fun ⟨_, g2⟩ => by
          obtain ⟨k, e, _⟩ := g2 _ (ma _)
          cases e))⟩
      · rw [z]
        exact ⟨_, atI_nat (j := 5) rfl, fin _ (.inl (rw q5 _ (e3 _ _ h5) (kapp _ (kf _ rfl)) (la _) fun ⟨_, g2⟩ => by
          obtain ⟨k, e, _, _, g3⟩ := g2 _ (ma _)
          exact g3 (V.int.inj e).symm))⟩
      · rw [z]
        refine ⟨_, atI_nat (j := 6) rfl, fin _ ?_⟩
        rw [z]
        cases hrr : r with
        | nil => exact .inr ⟨rfl, rfl⟩
        | cons y ys =>
          rw [hrr] at h6 kr rl
          have t1 : ((y :: ys).map nv).take 1 = [nv y] := rfl
          rw [t1] at h6
          refine .inl (rw q6 _ (e3 _ _ h6) (fun v hv => ?_) ?_ fun ⟨g2, _⟩ => ?_)
          · rcases List.mem_append.mp hv with w | w
            · rcases List.mem_append.mp w with w | w
              · exact kr v w
              · exact kr v (by have := List.mem_singleton.mp w; rw [this]; exact List.mem_cons_self)
            · exact kr v (by have := List.mem_singleton.mp w; rw [this]; exact List.mem_cons_self)
          · rw [List.length_append, List.length_append]
            simp only [List.length_cons, List.length_nil]
            simp only [List.length_map, List.length_cons] at rl ⊢
            omega
          · have := List.nodup_append.mp g2
            exact this.2.2 (nv y) (List.mem_append.mpr (.inl List.mem_cons_self)) (nv y) (List.mem_singleton.mpr rfl) rfl
      · rw [z]
        exact ⟨_, atI_nat (j := 7) rfl, fin _ (.inl (.inr ⟨"tuple", kd_tup h7, by decide, rfl⟩))⟩
      · rw [z]
        refine ⟨_, atI_nat (j := 8) rfl, fin _ (.inl (.inr ?_))⟩
        obtain ⟨n, k1, k2⟩ := kd_flat (K := K) (H := H3) (x := V.non) rfl
        exact ⟨n, k1, k2, rfl⟩
      · rw [z]
        exact ⟨_, atI_nat (j := 9) rfl, fin _ (.inl (rw q9 _ h9 (kapp _ ⟨"list", kd_list hb⟩) (la _) fun ⟨_, g2⟩ => by
          obtain ⟨k, e, _⟩ := g2 _ (ma _)
          cases e))⟩
      · rw [z]
        exact ⟨_, atI_nat (j := 10) rfl, fin _ (.inl (rw q10 _ h10 (kapp _ (kf _ rfl)) (la _) fun ⟨_, g2⟩ => by
          obtain ⟨k, e, _, g3, _⟩ := g2 _ (ma _)
          have := V.int.inj e
          omega))⟩
      · rw [z]
        refine ⟨_, atI_nat (j := 11) rfl, fin _ (.inl (.inr ?_))⟩
        obtain ⟨n, k1, k2⟩ := kd_flat (K := K) (H := H3) (x := V.int 5) rfl
        exact ⟨n, k1, k2, rfl⟩
    rw [hM] at g5
    clear hM M
    obtain ⟨rfl, e5, x, hx, hc⟩ := g5
    simp only [tRaiseErr, tMkErr, tCallS, WE, tLenSetI, cx_K, cx_w, wipe, Int.zero_add, Bool.false_eq_true, if_false, if_true, Bool.not_true, Bool.not_false, tSeq, tAsg, tOp, tVar, tC, tRet, tRetN, tNext, tDrop, tIfS, tB, tTest, tIf, tAnd, tOr, tNot, tAndV, tOrV, tNotV, tUn, tCons, tNil, tCall, tCB, tBM, tBM0, tNoPart, tPart, tSl, tCont, tNever, tTup, tLst, gName, gNil, gCons, gTup, gSub, rI, rI0, rU, rEq, rNe, rIxL, rSlL, rSetL, rLn, rLs, rTs, rIn, rSet0, tSAdd, rSAdd, rSIn, rSNotIn, rRep, rCat, rAppend, rPop, rPopAt, iList, iRng1, iRng2, iEnum, gTup, tIsN, tNotN, tTru, tLstRg, tRg1, tRg2, L2.start, List.map_cons, List.map_nil, List.length_cons, List.length_nil, List.replicate, List.cons_append, List.nil_append, List.getElem?_cons_zero, List.getElem?_cons_succ, List.set_cons_zero, List.set_cons_succ, Option.some.injEq, exists_eq_left', V.int.injEq, V.ref.injEq, V.bl.injEq, List.cons.injEq, exists_and_left, exists_and_right, and_true, true_and, exists_eq_left, exists_eq, Nat.reduceAdd, Nat.reduceSub]
    have hpl : p < (as.map V.ref).length := by rw [List.length_map, TB.len]; exact hp
    refine ⟨by decide, rfl, ite2 (fun z => ?_) (fun z => ?_)⟩
    rotate_left
    · have z' : num % 12 ≠ 6 := fun e => by rw [decide_eq_true e] at z; exact z rfl
      exact q _ D x e5 n1 hx (hc.resolve_right fun w => z' w.1)
    refine ⟨by decide, fun p1 hp1 => ?_⟩
    have s6 := same_upd (o := .lst []) hp1
    refine eq_row (s := []) (SqL.of (s6 _ _ (e5 _ _ hra))) (SqL.of upd_same) ?_
    refine ⟨_, rfl, ?_⟩
    by_cases hre : r = []
    rotate_left
    · rw [decide_eq_false hre]
      exact iteF (q _ D x (e5.trans s6) n1 (s6 _ _ hx) (fun H'' k => hc.resolve_right (fun w => hre w.2) H'' fun b o hb ho => k b o hb (s6 _ _ ho)))
    rw [decide_eq_true hre]
    refine iteT ⟨by decide, fun p2 hp2 => ⟨_, (same_upd hp2) _ _ (s6 _ _ hx), p, ixN_nat (by rw [List.length_set]; exact hpl), ?_⟩⟩
    rw [List.set_set]
    have e7 := (e5.trans s6).trans (same_upd (o := .lst [nv p]) hp2)
    have nD : p2 ≠ D := fun w => by rw [w, (s6 _ _ hx)] at hp2; cases hp2
    have e8 : Same H1 (upd (upd (upd H5 p1 (.lst [])) p2 (.lst [nv p])) D (.lst ((as.map V.ref).set p (.ref p2)))) := fun b' o ho => by
      rw [upd_ne (ne_of_none ho n1)]
      exact e7 b' o ho
    refine q _ D (.ref p2) e8 n1 upd_same (fun H'' k => .inl ⟨p2, _, rfl, k p2 _ nD (by rw [upd_ne nD]; exact upd_same), fun y hy => ?_, by simp only [List.length_cons, List.length_nil]; omega, ?_⟩)
    · have := List.mem_singleton.mp hy
      rw [this]
      obtain ⟨k, w, _⟩ := kd_flat (K := K) (H := H'') (x := nv p) rfl
      exact ⟨k, w⟩
    · cases hb : rowB p rows.length [] [nv p] with
      | false => rfl
      | true =>
        obtain ⟨_, g2⟩ := rowB_true hb
        obtain ⟨k, e, _, _, g3, _⟩ := g2 _ List.mem_cons_self
        exact absurd (V.int.inj e).symm g3
end
end K1

set_option Elab.async false
set_option linter.all false
set_option maxRecDepth 100000
set_option maxHeartbeats 4000000
namespace K1
open PySem PySem.Spec PyProof.Rows L2 LamX Bk
section
variable {P : Program} {w : World} {K : PySem.W.Frag} {mg : Str → Option Value} {base : Heap}

def mixed (x k : Int) : Int := ((x % 2147483647 + 7919 * k * k + 31 * k) * 48271 % 2147483647) * (69621 + 2 * k) % 2147483629
theorem mixed_bd (x k : Int) : 0 ≤ mixed x k ∧ mixed x k < 2147483629 := ⟨Int.emod_nonneg _ (by decide), Int.emod_lt_of_pos _ (by decide)⟩
def sp_mixed : Sp := fun vs H Q _ => ∃ (x k : Int), vs = [.int x, .int k] ∧ 0 ≤ k ∧ k < 1000 ∧ Q (.int (mixed x k)) H
theorem ok_mixed (T : Txt P K mg) : FnOk P w K mg base CX0 1 T.a__law_mixed T.fd__law_mixed ["_law_number", "_law_k"] sp_mixed := by
  refine T.F__law_mixed.ok sc__law_mixed (fun vs H Q E h => ?_) (fun cdv A outer s H vs Q E hr h => ?_)
  · obtain ⟨x, k, rfl, _⟩ := h
    rfl
  · obtain ⟨x, k, rfl, h0, h1, q⟩ := h
    refine ⟨_, (pss_cons (ps_set (i := 0) sc__law_mixed.nd rfl (.inl rfl) (pe_op op_mod (pe_op op_mul (pe_op op_add (pe_op op_add (pe_op op_mod (pv 0) pe_int) (pe_op op_mul (pe_op op_mul pe_int (pv 1)) (pv 1))) (pe_op op_mul pe_int (pv 1))) pe_int) pe_int))
      (pss_one (ps_ret (pe_op op_mod (pe_op op_mul (pv 0) (pe_op op_add pe_int (pe_op op_mul pe_int (pv 1)))) pe_int)))), ?_⟩
    have e1 := Int.emod_nonneg x (show (2147483647 : Int) ≠ 0 by decide)
    have e2 := Int.emod_lt_of_pos x (show (0 : Int) < 2147483647 by decide)
    have e3 := Int.emod_nonneg ((x % 2147483647 + 7919 * k * k + 31 * k) * 48271) (show (2147483647 : Int) ≠ 0 by decide)
    have e4 := Int.emod_lt_of_pos ((x % 2147483647 + 7919 * k * k + 31 * k) * 48271) (show (0 : Int) < 2147483647 by decide)
    have b1 : 0 ≤ k * k := Int.mul_nonneg h0 h0
    have b2 : k * k ≤ 1000 * 1000 := Int.mul_le_mul (by omega) (by omega) h0 (by decide)
    have b3 : 7919 * k * k = 7919 * (k * k) := by rw [Int.mul_assoc]
    simp only [tRaiseErr, tMkErr, tCallS, WE, tLenSetI, cx_K, cx_w, wipe, Int.zero_add, Bool.false_eq_true, if_false, if_true, Bool.not_true, Bool.not_false, tSeq, tAsg, tOp, tVar, tC, tRet, tRetN, tNext, tDrop, tIfS, tB, tTest, tIf, tAnd, tOr, tNot, tAndV, tOrV, tNotV, tUn, tCons, tNil, tCall, tCB, tBM, tBM0, tNoPart, tPart, tSl, tCont, tNever, tTup, tLst, gName, gNil, gCons, gTup, gSub, rI, rI0, rU, rEq, rNe, rIxL, rSlL, rSetL, rLn, rLs, rTs, rIn, rSet0, tSAdd, rSAdd, rSIn, rSNotIn, rRep, rCat, rAppend, rPop, rPopAt, iList, iRng1, iRng2, iEnum, gTup, tIsN, tNotN, tTru, tLstRg, tRg1, tRg2, L2.start, List.map_cons, List.map_nil, List.length_cons, List.length_nil, List.replicate, List.cons_append, List.nil_append, List.getElem?_cons_zero, List.getElem?_cons_succ, List.set_cons_zero, List.set_cons_succ, Option.some.injEq, exists_eq_left', V.int.injEq, V.ref.injEq, V.bl.injEq, List.cons.injEq, exists_and_left, exists_and_right, and_true, true_and, exists_eq_left, exists_eq, Nat.reduceAdd, Nat.reduceSub]
    refine ⟨by decide, .inl (by decide), .inr (by omega), .inl (by decide), .inr (by omega), by decide, .inl (by decide), .inl (by omega), by decide, q⟩
end
end K1

set_option Elab.async false
set_option linter.all false
set_option maxRecDepth 100000
set_option maxHeartbeats 4000000
namespace K1
open PySem PySem.Spec PyProof.Rows L2 LamX Bk
section
variable {P : Program} {w : World} {K : PySem.W.Frag} {mg : Str → Option Value} {base : Heap}

def sp_lset (K : PySem.W.Frag) : Sp := fun vs H Q _ => ∃ (t : Addr) (as : List Addr) (rows : List (List Nat)) (one other : Nat) (num : Int), vs = [.ref t, nv one, nv other, .int num] ∧ Tbl H t as rows ∧ GL rows ∧ one < rows.length ∧ other < rows.length ∧ other ≠ one ∧ 0 ≤ num ∧ rows.length ≤ 100 ∧
  ∀ H' as' rows', Tbl H' t as' rows' → rows'.length = rows.length → GL rows' → (∀ x o, x ≠ t → H x = some o → H' x = some o) → (∀ a ∈ as', a ∈ as ∨ H a = none) → Q .non H'
/-- a row with one more put in -/
theorem put_in {r : List Nat} (hd : r.Nodup) {x : Nat} (hx : x ∉ r) (k : Nat) : (r.take k ++ [x] ++ r.drop k).Nodup ∧ ∀ y, y ∈ r.take k ++ [x] ++ r.drop k ↔ y = x ∨ y ∈ r := by
  have hp : (r.take k ++ [x] ++ r.drop k).Perm (x :: r) := by
    have h1 : (r.take k ++ [x] ++ r.drop k).Perm (x :: (r.take k ++ r.drop k)) := by
      rw [List.append_assoc]
      exact List.perm_middle
    rwa [List.take_append_drop] at h1
  exact ⟨hp.nodup_iff.mpr (List.nodup_cons.mpr ⟨hx, hd⟩), fun y => by rw [hp.mem_iff, List.mem_cons]⟩
theorem pick3 {num : Int} (l : Nat) (h0 : 0 ≤ num) : ∃ k : Nat, k ≤ l ∧ atI [V.int 0, V.int (num / 8 % ((l : Int) + 1)), V.int (l : Int)] (num % 3) = some (nv k) := by
  have h1 := Int.emod_nonneg num (show (3 : Int) ≠ 0 by decide)
  have h2 := Int.emod_lt_of_pos num (show (0 : Int) < 3 by decide)
  have h3 := Int.emod_nonneg (num / 8) (show (l : Int) + 1 ≠ 0 by omega)
  have h4 := Int.emod_lt_of_pos (num / 8) (show 0 < (l : Int) + 1 by omega)
  have h : num % 3 = 0 ∨ num % 3 = 1 ∨ num % 3 = 2 := by omega
  rcases h with e | e | e <;> rw [e]
  · exact ⟨0, Nat.zero_le _, rfl⟩
  · refine ⟨(num / 8 % ((l : Int) + 1)).toNat, by omega, ?_⟩
    show some (V.int (num / 8 % ((l : Int) + 1))) = some (V.int (((num / 8 % ((l : Int) + 1)).toNat : Nat) : Int))
    rw [Int.toNat_of_nonneg h3]
  · exact ⟨l, Nat.le_refl _, rfl⟩
theorem ok_lset (T : Txt P K mg) : FnOk P w K mg base CX0 1 T.a__law_set T.fd__law_set ["_law_rows", "_law_one", "_law_other", "_law_number"] (sp_lset K) := by
  refine T.F__law_set.ok sc__law_set (fun vs H Q E h => ?_) (fun cdv A outer s H vs Q E hr h => ?_)
  · obtain ⟨t, as, rows, one, other, num, rfl, _⟩ := h
    rfl
  · obtain ⟨t, as, rows, one, other, num, rfl, TB, g, h1, h2, hne, hnum, hlen, q⟩ := h
    refine ⟨_, (pss_cons (ps_setLc (i := 4) (own := [("_law_person", 5)]) rfl sc__law_set.nd rfl rfl (sw_true rfl rfl rfl (by decide +kernel)) (kpi_list (K := K) (pe_ix (kix_list (K := K)) (pv 0) (pv 1) (fun _ _ => rfl))) (blkOk_by (own := [("_law_person", 5)]) (N := ["_law_rows", "_law_one", "_law_other", "_law_number", "_law_row", "_law_person", "_law_at"]) (sc := (defScope s__law_set)) (by decide +kernel)) (fun _ _ _ _ _ => (pg_name (i := 5) sc__law_set.nd rfl (by first | exact .inl rfl | exact .inr rfl))) (fun _ _ _ _ _ => (pts_one (pt_cmpR op_ne (pv 5) (pv 2) (nomark _)))) (fun _ _ _ _ _ => (pv 5)))
      (pss_cons (ps_if (pt_cmpR op_gt (pe_op op_mod (pv 3) pe_int) pe_int (nomark _)) (pss_cons (ps_set (i := 6) sc__law_set.nd rfl (.inl rfl) (pe_ix (kix_list (K := K)) (pe_lst (pa_cons pe_int (pa_cons (pe_op op_mod (pe_op op_fdiv (pv 3) pe_int) (pe_op op_add (pe_callB (klen (K := K)) (by rfl) T.m_len (by decide +kernel) (pa_cons (pv 4) pa_nil)) pe_int)) (pa_cons (pe_callB (klen (K := K)) (by rfl) T.m_len (by decide +kernel) (pa_cons (pv 4) pa_nil)) pa_nil)))) (pe_op op_mod (pv 3) pe_int) (fun _ _ => rfl)))
      (pss_one (ps_set (i := 4) sc__law_set.nd rfl (.inl rfl) (pe_op op_cat (pe_op op_cat (pe_slice (ksl_list (K := K)) (pv 4) po_none (po_some (pv 6))) (pe_lst (pa_cons (pv 2) pa_nil))) (pe_slice (ksl_list (K := K)) (pv 4) (po_some (pv 6)) po_none))))) pss_nil)
      (pss_one (ps_asg (pv 4) (pg_sub (pv 0) (pv 1) set_list))))), ?_⟩
    obtain ⟨a, ha, hra, hat, ham⟩ := TB.at h1
    have r1d : ((fn rows one).filter fun x => !decide (x = other)).Nodup := (g.nd one).filter _
    have r1m : ∀ x, x ∈ ((fn rows one).filter fun x => !decide (x = other)) ↔ x ∈ fn rows one ∧ x ≠ other := fun x => by simp [List.mem_filter]
    have r1l : ((fn rows one).filter fun x => !decide (x = other)).length ≤ 100 := Nat.le_trans (List.length_filter_le _ _) (by have := g.len one; omega)
    refine ⟨_, rfl, nv one, rfl, t, _, one, .ref a, rfl, rfl, SqL.of TB.top, TB.atI ha, a, rfl, ⟨_, SqL.of hra⟩, fun D hD => lc_keep (r := fn rows one) (fun x => !decide (x = other)) hD (SqL.of hra) (by simp [L2.start]) (by have := g.len one; omega) (fun x hx H5 Qt e5 hq => ?_) ?_⟩
    · refine ⟨_, rfl, _, rfl, rfl, _, rfl, ?_⟩
      rw [eq_nv]
      exact hq
    generalize hr1 : ((fn rows one).filter fun x => !decide (x = other)) = r1 at *
    -- the end: a row r2 at D2
    have fin : ∀ (r2 : List Nat) (D2 : Addr) (H2 : Hp) (Qn : Hp → Prop), H D2 = none → Same H H2 → RowAt H2 D2 r2 → r2.Nodup → (∀ x ∈ r2, x < rows.length ∧ x ≠ one) → (∀ H', Tbl H' t (as.set one D2) (rows.set one r2) → (∀ x o, x ≠ t → H x = some o → H' x = some o) → Qn H') →
        ∃ j, ixN (as.map V.ref).length (one : Int) = some j ∧ Qn (upd H2 t (.lst ((as.map V.ref).set j (.ref D2)))) := fun r2 D2 H2 Qn n2 e2 hr2 d2 m2 hQ => by
      have hol : one < as.length := by rw [TB.len]; exact h1
      refine ⟨one, by rw [List.length_map]; exact ixN_nat hol, hQ _ ?_ fun x o hx ho => by rw [upd_ne hx]; exact e2 x o ho⟩
      have fr := TB.fresh n2
      exact (TB.same e2).replace h1 fr.1 fr.2 hr2
    have e1 : Same H (upd H D (.lst (r1.map nv))) := same_upd hD
    simp only [tRaiseErr, tMkErr, tCallS, WE, tLenSetI, cx_K, cx_w, wipe, Int.zero_add, Bool.false_eq_true, if_false, if_true, Bool.not_true, Bool.not_false, tSeq, tAsg, tOp, tVar, tC, tRet, tRetN, tNext, tDrop, tIfS, tB, tTest, tIf, tAnd, tOr, tNot, tAndV, tOrV, tNotV, tUn, tCons, tNil, tCall, tCB, tBM, tBM0, tNoPart, tPart, tSl, tCont, tNever, tTup, tLst, gName, gNil, gCons, gTup, gSub, rI, rI0, rU, rEq, rNe, rIxL, rSlL, rSetL, rLn, rLs, rTs, rIn, rSet0, tSAdd, rSAdd, rSIn, rSNotIn, rRep, rCat, rAppend, rPop, rPopAt, iList, iRng1, iRng2, iEnum, gTup, tIsN, tNotN, tTru, tLstRg, tRg1, tRg2, L2.start, List.map_cons, List.map_nil, List.length_cons, List.length_nil, List.replicate, List.cons_append, List.nil_append, List.getElem?_cons_zero, List.getElem?_cons_succ, List.set_cons_zero, List.set_cons_succ, Option.some.injEq, exists_eq_left', V.int.injEq, V.ref.injEq, V.bl.injEq, List.cons.injEq, exists_and_left, exists_and_right, and_true, true_and, exists_eq_left, exists_eq, Nat.reduceAdd, Nat.reduceSub]
    refine ⟨by decide, ?_⟩
    by_cases hm : 0 < num % 8
    · rw [decide_eq_true hm]
      refine iteT ⟨⟨by decide, by decide⟩, _, .inl (SqL.of upd_same), by omega, _, .inl (SqL.of upd_same), by decide, fun p hp => ⟨by decide, _, SqL.of upd_same, ?_⟩⟩
      rw [List.length_map]
      obtain ⟨k, hkl, hka⟩ := pick3 r1.length hnum
      refine ⟨_, hka, _, rfl, ?_⟩
      have e2 := e1.trans (same_upd (o := .lst [V.int 0, V.int (num / 8 % ((r1.length : Int) + 1)), V.int (r1.length : Int)]) hp)
      have hD2 : upd (upd H D (.lst (r1.map nv))) p (.lst [V.int 0, V.int (num / 8 % ((r1.length : Int) + 1)), V.int (r1.length : Int)]) D = some (.lst (r1.map nv)) := by rw [upd_ne (ne_of_none upd_same hp), upd_same]
      generalize upd (upd H D (.lst (r1.map nv))) p (.lst [V.int 0, V.int (num / 8 % ((r1.length : Int) + 1)), V.int (r1.length : Int)]) = H2 at e2 hD2 ⊢
      refine ⟨_, SqL.of hD2, fun p1 hp1 => ⟨by decide, fun p2 hp2 => ?_⟩⟩
      have e3 := e2.trans (same_upd (o := .lst (cutV (r1.map nv) none (some (k : Int)))) hp1)
      have hD3 : upd H2 p1 (.lst (cutV (r1.map nv) none (some (k : Int)))) D = some (.lst (r1.map nv)) := by rw [upd_ne (ne_of_none hD2 hp1)]; exact hD2
      have h31 : upd H2 p1 (.lst (cutV (r1.map nv) none (some (k : Int)))) p1 = some (.lst ((r1.take k).map nv)) := by rw [upd_same, cutV_take, List.map_take]
      generalize upd H2 p1 (.lst (cutV (r1.map nv) none (some (k : Int)))) = H3 at e3 hD3 h31 hp2 ⊢
      have e4 := e3.trans (same_upd (o := .lst [nv other]) hp2)
      have hD4 : upd H3 p2 (.lst [nv other]) D = some (.lst (r1.map nv)) := by rw [upd_ne (ne_of_none hD3 hp2)]; exact hD3
      have h41 : upd H3 p2 (.lst [nv other]) p1 = some (.lst ((r1.take k).map nv)) := by rw [upd_ne (ne_of_none h31 hp2)]; exact h31
      have h42 : upd H3 p2 (.lst [nv other]) p2 = some (.lst [nv other]) := upd_same
      generalize upd H3 p2 (.lst [nv other]) = H4 at e4 hD4 h41 h42 ⊢
      refine ⟨_, h41, _, h42, by simp [sizeLine_eq]; omega, fun p3 hp3 => ⟨(k : Int), rfl, ?_⟩⟩
      have e5 := e4.trans (same_upd (o := .lst ((r1.take k).map nv ++ [nv other])) hp3)
      have hD5 : upd H4 p3 (.lst ((r1.take k).map nv ++ [nv other])) D = some (.lst (r1.map nv)) := by rw [upd_ne (ne_of_none hD4 hp3)]; exact hD4
      have h53 : upd H4 p3 (.lst ((r1.take k).map nv ++ [nv other])) p3 = some (.lst ((r1.take k).map nv ++ [nv other])) := upd_same
      generalize upd H4 p3 (.lst ((r1.take k).map nv ++ [nv other])) = H5 at e5 hD5 h53 ⊢
      refine ⟨_, SqL.of hD5, fun p4 hp4 => ?_⟩
      have e6 := e5.trans (same_upd (o := .lst (cutV (r1.map nv) (some (k : Int)) none)) hp4)
      have h63 : upd H5 p4 (.lst (cutV (r1.map nv) (some (k : Int)) none)) p3 = some (.lst ((r1.take k).map nv ++ [nv other])) := by rw [upd_ne (ne_of_none h53 hp4)]; exact h53
      have h64 : upd H5 p4 (.lst (cutV (r1.map nv) (some (k : Int)) none)) p4 = some (.lst ((r1.drop k).map nv)) := by rw [upd_same, cutV_drop, List.map_drop]
      generalize upd H5 p4 (.lst (cutV (r1.map nv) (some (k : Int)) none)) = H6 at e6 h63 h64 ⊢
      refine ⟨_, h63, _, h64, by simp [sizeLine_eq]; omega, fun p5 hp5 => ?_⟩
      have hx1 : other ∉ r1 := fun z => ((r1m other).mp z).2 rfl
      obtain ⟨d2, m2⟩ := put_in r1d hx1 k
      have e7 := e6.trans (same_upd (o := .lst ((r1.take k).map nv ++ [nv other] ++ (r1.drop k).map nv)) hp5)
      refine ⟨_, e7 _ _ TB.top, fin (r1.take k ++ [other] ++ r1.drop k) p5 _ (Q .non) (e6.free hp5) e7 ?_ d2 (fun x hx => ?_) fun H' TB' fr' => ?_⟩
      · show upd H6 p5 _ p5 = _
        rw [upd_same, List.map_append, List.map_append]; rfl
      · rcases (m2 x).mp hx with z | z
        · subst z; exact ⟨h2, hne⟩
        · have := g.lt ((r1m x).mp z).1
          exact ⟨this.2.1, this.2.2⟩
      · refine q H' _ _ TB' (by rw [List.length_set]) (gl_set g d2 fun x hx => ?_) fr' fun b hb => ?_
        · rcases (m2 x).mp hx with z | z
          · subst z; exact ⟨h2, hne⟩
          · have := g.lt ((r1m x).mp z).1
            exact ⟨this.2.1, this.2.2⟩
        · rcases List.mem_or_eq_of_mem_set hb with z | z
          · exact .inl z
          · exact .inr (by rw [z]; exact e6.free hp5)
    · rw [decide_eq_false hm]
      have hin : ∀ x ∈ r1, x < rows.length ∧ x ≠ one := fun x hx => by
        have := g.lt ((r1m x).mp hx).1
        exact ⟨this.2.1, this.2.2⟩
      refine iteF ⟨_, e1 _ _ TB.top, fin r1 D _ (Q .non) hD e1 upd_same r1d hin fun H' TB' fr' => ?_⟩
      refine q H' _ _ TB' (by rw [List.length_set]) (gl_set g r1d hin) fr' fun b hb => ?_
      rcases List.mem_or_eq_of_mem_set hb with z | z
      · exact .inl z
      · exact .inr (by rw [z]; exact hD)
end
end K1

set_option Elab.async false
set_option linter.all false
set_option maxRecDepth 100000
set_option maxHeartbeats 4000000
namespace K1
open PySem PySem.Spec PyProof.Rows L2 LamX Bk
section
variable {P : Program} {w : World} {K : PySem.W.Frag} {mg : Str → Option Value} {base : Heap}

/-- free, or a table of code -/
def Fr (H : Hp) (b : Addr) : Prop := ∀ o, H b = some o → ∃ ps, o = .tbl ps
theorem Fr.of {H : Hp} {b : Addr} (h : H b = none) : Fr H b := fun o e => by rw [h] at e; cases e
theorem Fr.ext {H H' : Hp} {b : Addr} (x : ExtN H H') (h : H' b = none) : Fr H b := fun o e => by
  apply Classical.byContradiction
  intro hn
  have := x b o e (fun ps z => hn ⟨ps, z⟩)
  rw [h] at this
  cases this
theorem Fr.ne {H : Hp} {b p : Addr} {o : HO} (h : Fr H p) (e : H b = some o) (hn : ∀ ps, o ≠ .tbl ps) : b ≠ p := fun z => by
  subst z
  obtain ⟨ps, z⟩ := h o e
  exact hn ps z
abbrev TT (P0 : Addr) : List (Addr × Str) := [(P0, ("_law_lists.<locals>.<lambda>" : Str))]
def sp_llists (K : PySem.W.Frag) (P0 : Addr) : Sp := fun vs H Q _ => ∃ (a : Addr) (ns : List Int) (most : Nat), vs = [.ref a, nv most] ∧ SqL K H a (ns.map V.int) ∧ ns.length ≤ 63 ∧ most ≤ 60 ∧ Tabs (TT P0) H ∧
  ∀ H' t as rows, ExtN H H' → Tabs (TT P0) H' → Tbl H' t as rows → GL rows → rows.length ≤ most → Q (.ref t) H'
/-- the loops' word: the rows so far -/
def LW (a t P0 : Addr) (most n : Nat) (first : Int) (H : Hp) (σ : L2.St) (H3 : Hp) : Prop := ∃ (as : List Addr) (rows : List (List Nat)) (y5 y6 y8 y9 y10 y11 : Option V),
  ExtN H H3 ∧ Tabs (TT P0) H3 ∧ (∀ b ∈ as, Fr H b) ∧ Tbl H3 t as rows ∧ rows.length = n ∧ GL rows ∧ σ = [some (.ref a), some (nv most), some (.int first), some (nv n), some (.ref t), y5, y6, none, y8, y9, y10, y11]
theorem ok_llists (T : Txt P K mg) {c P0 : Addr} (FC : FunC K "_law_lists" s__law_lists T.a__law_lists T.fd__law_lists c) (TB : TabB base mg c P0) : FnOk P w K mg base CX0 4 T.a__law_lists T.fd__law_lists ["_law_script", "_law_most"] (sp_llists K P0) := by
  have G__law_mixed : FnOk P w K mg base CX0 1 T.a__law_mixed T.fd__law_mixed ["_law_number", "_law_k"] sp_mixed := ok_mixed T
  have G__law_set : FnOk P w K mg base CX0 1 T.a__law_set T.fd__law_set ["_law_rows", "_law_one", "_law_other", "_law_number"] (sp_lset K) := ok_lset T
  refine FC.ok sc__law_lists (fun vs H Q E h => ?_) (fun A outer s H vs Q E hr h => ?_)
  · obtain ⟨t, ns, m, rfl, _⟩ := h
    rfl
  · obtain ⟨a, ns, most, rfl, hS, hlen, hmost, hTT, q⟩ := h
    have hr3 : Room 3 (A.deeper (envOfC "_law_lists" (defScope s__law_lists) s.heap.objs.size T.a__law_lists (.ref c))) := hr
    have hcode : (cxOf CX0 P w K mg base ["_law_script", "_law_most", "_law_first", "_law_many", "_law_rows", "_law_person", "_law_others", "_law_k", "_law_cell", "_law_number", "_law_one", "_law_other"] "_law_lists" (defScope s__law_lists) T.a__law_lists (.ref c) A outer s H E).nox.env.code = .ref c := rfl
    have hTm : (P0, (cxOf CX0 P w K mg base ["_law_script", "_law_most", "_law_first", "_law_many", "_law_rows", "_law_person", "_law_others", "_law_k", "_law_cell", "_law_number", "_law_one", "_law_other"] "_law_lists" (defScope s__law_lists) T.a__law_lists (.ref c) A outer s H E).nox.env.qual ++ ("<lambda>" : Str)) ∈ TT P0 := List.mem_singleton.mpr rfl
    have hTu : ∀ p ∈ TT P0, p.1 = P0 → p.2 = (cxOf CX0 P w K mg base ["_law_script", "_law_most", "_law_first", "_law_many", "_law_rows", "_law_person", "_law_others", "_law_k", "_law_cell", "_law_number", "_law_one", "_law_other"] "_law_lists" (defScope s__law_lists) T.a__law_lists (.ref c) A outer s H E).nox.env.qual ++ ("<lambda>" : Str) := fun p hp _ => by
      have := List.mem_singleton.mp hp
      subst this
      rfl
    refine ⟨_, (C8.pss_cut (ps_set (i := 2) sc__law_lists.nd rfl (.inr rfl) (pe_call G__law_mixed (hr.mono (by decide)) (by rfl) T.g__law_mixed T.F__law_mixed.kp T.b__law_mixed .nil pass0 (pa_cons (pe_ifExp (pt_cmpR (kneD (K := K) hr.units) (pv 0) (pe_lst pa_nil) (nomark _)) (pe_ix (kix_list (K := K)) (pv 0) pe_int (fun _ _ => rfl)) pe_int) (pa_cons pe_int pa_nil))))
      (C8.pss_cut (ps_set (i := 3) sc__law_lists.nd rfl (.inr rfl) (pe_op op_mod (pv 2) (pe_op op_add (pv 1) pe_int)))
      (C8.pss_cut (ps_setLc (i := 4) (own := [("_law_person", 5)]) rfl sc__law_lists.nd rfl rfl (sw_true rfl rfl rfl (by decide +kernel)) (pi_range1 (by rfl) T.m_range (pa_cons (pv 3) pa_nil)) (blkOk_by (own := [("_law_person", 5)]) (N := ["_law_script", "_law_most", "_law_first", "_law_many", "_law_rows", "_law_person", "_law_others", "_law_k", "_law_cell", "_law_number", "_law_one", "_law_other"]) (sc := (defScope s__law_lists)) (by decide +kernel)) (fun _ _ _ _ _ => (pg_name (i := 5) sc__law_lists.nd rfl (by first | exact .inl rfl | exact .inr rfl))) (fun _ _ _ _ _ => pts_nil) (fun _ _ _ _ _ => (pe_lst pa_nil)))
      (C8.pss_cut (ps_if (pt_cmpR op_gt (pe_op op_mod (pe_op op_fdiv (pv 2) pe_int) pe_int) pe_int (nomark _)) (pss_one (ps_for PassesOwn.never rfl (pi_range1 (by rfl) T.m_range (pa_cons (pv 3) pa_nil)) (pg_name (i := 5) sc__law_lists.nd rfl (.inr rfl)) (pss_cons (ps_setLc (i := 6) (own := [("_law_k", 7)]) rfl sc__law_lists.nd rfl rfl (sw_true rfl rfl rfl (by decide +kernel)) (pi_range1 (by rfl) T.m_range (pa_cons (pe_op op_sub (pv 3) pe_int) pa_nil)) (blkOk_by (own := [("_law_k", 7)]) (N := ["_law_script", "_law_most", "_law_first", "_law_many", "_law_rows", "_law_person", "_law_others", "_law_k", "_law_cell", "_law_number", "_law_one", "_law_other"]) (sc := (defScope s__law_lists)) (by decide +kernel)) (fun _ _ _ _ _ => (pg_name (i := 7) sc__law_lists.nd rfl (by first | exact .inl rfl | exact .inr rfl))) (fun _ _ _ _ _ => pts_nil) (fun _ _ _ _ _ => (pe_op op_mod (pe_op op_add (pe_op op_add (pv 5) pe_int) (pv 7)) (pv 3))))
      (pss_one (ps_asg (pe_sortLam (i1 := 2) (i2 := 5) (by rfl) T.m_sorted (pv 6) TB hcode hTm hTu hr3 (by rfl) (by rfl) (by rfl) (by rfl)) (pg_sub (pv 4) (pv 5) set_list)))))) pss_nil)
      (C8.pss_cut (ps_for PassesOwn.never rfl (kpi_list (K := K) (pv 0)) (pg_name (i := 8) sc__law_lists.nd rfl (.inl rfl)) (pss_cons (ps_set (i := 9) sc__law_lists.nd rfl (.inl rfl) (pe_call G__law_mixed (hr.mono (by decide)) (by rfl) T.g__law_mixed T.F__law_mixed.kp T.b__law_mixed .nil pass0 (pa_cons (pv 8) (pa_cons pe_int pa_nil))))
      (pss_one (ps_if (pt_cmpR op_gt (pv 3) pe_int (nomark _)) (pss_cons (ps_set (i := 10) sc__law_lists.nd rfl (.inl rfl) (pe_op op_mod (pv 9) (pv 3)))
      (pss_cons (ps_set (i := 11) sc__law_lists.nd rfl (.inl rfl) (pe_op op_mod (pe_op op_add (pe_op op_add (pv 10) pe_int) (pe_op op_mod (pe_op op_fdiv (pv 9) (pv 3)) (pe_op op_sub (pv 3) pe_int))) (pv 3)))
      (pss_cons (ps_expr (pe_call G__law_set (hr.mono (by decide)) (by rfl) T.g__law_set T.F__law_set.kp T.b__law_set .nil pass0 (pa_cons (pv 4) (pa_cons (pv 10) (pa_cons (pv 11) (pa_cons (pe_op op_fdiv (pv 9) pe_int) pa_nil))))))
      (pss_one (ps_if (pt_cmpR op_gt (pe_op op_mod (pe_op op_fdiv (pv 9) pe_int) pe_int) pe_int (nomark _)) (pss_one (ps_expr (pe_call G__law_set (hr.mono (by decide)) (by rfl) T.g__law_set T.F__law_set.kp T.b__law_set .nil pass0 (pa_cons (pv 4) (pa_cons (pv 11) (pa_cons (pv 10) (pa_cons (pe_call G__law_mixed (hr.mono (by decide)) (by rfl) T.g__law_mixed T.F__law_mixed.kp T.b__law_mixed .nil pass0 (pa_cons (pv 9) (pa_cons pe_int pa_nil))) pa_nil))))))) pss_nil))))) pss_nil))))
      (pss_one (ps_ret (pv 4)))))))), ?_⟩
    -- the first number
    refine ⟨fun σ H1 => ∃ first : Int, 0 ≤ first ∧ first < 2147483629 ∧ Same H H1 ∧ σ = [some (.ref a), some (nv most), some (.int first), none, none, none, none, none, none, none, none, none], ?_, fun σ H1 hM => ?_⟩
    · simp only [tRaiseErr, tMkErr, tCallS, WE, tLenSetI, cx_K, cx_w, wipe, Int.zero_add, Bool.false_eq_true, if_false, if_true, Bool.not_true, Bool.not_false, tSeq, tAsg, tOp, tVar, tC, tRet, tRetN, tNext, tDrop, tIfS, tB, tTest, tIf, tAnd, tOr, tNot, tAndV, tOrV, tNotV, tUn, tCons, tNil, tCall, tCB, tBM, tBM0, tNoPart, tPart, tSl, tCont, tNever, tTup, tLst, gName, gNil, gCons, gTup, gSub, rI, rI0, rU, rEq, rNe, rIxL, rSlL, rSetL, rLn, rLs, rTs, rIn, rSet0, tSAdd, rSAdd, rSIn, rSNotIn, rRep, rCat, rAppend, rPop, rPopAt, iList, iRng1, iRng2, iEnum, gTup, tIsN, tNotN, tTru, tLstRg, tRg1, tRg2, L2.start, List.map_cons, List.map_nil, List.length_cons, List.length_nil, List.replicate, List.cons_append, List.nil_append, List.getElem?_cons_zero, List.getElem?_cons_succ, List.set_cons_zero, List.set_cons_succ, Option.some.injEq, exists_eq_left', V.int.injEq, V.ref.injEq, V.bl.injEq, List.cons.injEq, exists_and_left, exists_and_right, and_true, true_and, exists_eq_left, exists_eq, Nat.reduceAdd, Nat.reduceSub]
      refine ⟨Nat.zero_le _, fun p hp => ?_⟩
      have e1 : Same H (upd H p (.lst [])) := same_upd hp
      refine ne_ints (e1.seq hS) upd_same ⟨_, rfl, ?_⟩
      by_cases hn : ns = []
      · rw [decide_eq_true hn]
        refine iteF ⟨5, 1, rfl, by decide, by decide, _, (mixed_bd _ _).1, (mixed_bd _ _).2, e1, rfl⟩
      · rw [decide_eq_false hn]
        obtain ⟨x, r, rfl⟩ : ∃ x r, ns = x :: r := by
          cases ns with
          | nil => exact absurd rfl hn
          | cons x r => exact ⟨x, r, rfl⟩
        refine iteT ⟨_, e1.seq hS, .int x, atI_nat (j := 0) rfl, x, 1, rfl, by decide, by decide, _, (mixed_bd _ _).1, (mixed_bd _ _).2, e1, rfl⟩
    obtain ⟨first, hf0, hf1, e1, rfl⟩ := hM
    -- how many
    refine ⟨fun σ H2 => ∃ n : Nat, n ≤ most ∧ H2 = H1 ∧ σ = [some (.ref a), some (nv most), some (.int first), some (nv n), none, none, none, none, none, none, none, none], ?_, fun σ H2 hM => ?_⟩
    · simp only [tRaiseErr, tMkErr, tCallS, WE, tLenSetI, cx_K, cx_w, wipe, Int.zero_add, Bool.false_eq_true, if_false, if_true, Bool.not_true, Bool.not_false, tSeq, tAsg, tOp, tVar, tC, tRet, tRetN, tNext, tDrop, tIfS, tB, tTest, tIf, tAnd, tOr, tNot, tAndV, tOrV, tNotV, tUn, tCons, tNil, tCall, tCB, tBM, tBM0, tNoPart, tPart, tSl, tCont, tNever, tTup, tLst, gName, gNil, gCons, gTup, gSub, rI, rI0, rU, rEq, rNe, rIxL, rSlL, rSetL, rLn, rLs, rTs, rIn, rSet0, tSAdd, rSAdd, rSIn, rSNotIn, rRep, rCat, rAppend, rPop, rPopAt, iList, iRng1, iRng2, iEnum, gTup, tIsN, tNotN, tTru, tLstRg, tRg1, tRg2, L2.start, List.map_cons, List.map_nil, List.length_cons, List.length_nil, List.replicate, List.cons_append, List.nil_append, List.getElem?_cons_zero, List.getElem?_cons_succ, List.set_cons_zero, List.set_cons_succ, Option.some.injEq, exists_eq_left', V.int.injEq, V.ref.injEq, V.bl.injEq, List.cons.injEq, exists_and_left, exists_and_right, and_true, true_and, exists_eq_left, exists_eq, Nat.reduceAdd, Nat.reduceSub]
      refine ⟨by omega, (first % ((most : Int) + 1)).toNat, ?_, ?_⟩
      · have := Int.emod_lt_of_pos first (show 0 < (most : Int) + 1 by omega)
        have := Int.emod_nonneg first (show (most : Int) + 1 ≠ 0 by omega)
        omega
      · have := Int.emod_nonneg first (show (most : Int) + 1 ≠ 0 by omega)
        exact (Int.toNat_of_nonneg this).symm
    obtain ⟨n, hn, rfl, rfl⟩ := hM
    -- empty rows
    refine ⟨fun σ H2 => ∃ t as, H t = none ∧ (∀ b ∈ as, H b = none) ∧ Same H H2 ∧ Tbl H2 t as (mkL n fun _ => []) ∧ σ = [some (.ref a), some (nv most), some (.int first), some (nv n), some (.ref t), none, none, none, none, none, none, none], ?_, fun σ H2 hM => ?_⟩
    · refine ⟨nv n, rfl, _, rfl, by omega, by omega, fun D hD => lc_rng n (by omega) (fun i H2 => ∃ as, (∀ b ∈ as, H b = none) ∧ Same H H2 ∧ Tbl H2 D as (mkL i fun _ => [])) ⟨[], by simp, same_upd2 e1 (e1.free hD), Tbl.nil upd_same⟩ (fun i H2 hi h => ?_) (fun H2 h => ?_)⟩
      · obtain ⟨as, hn0, e2, T2⟩ := h
        refine ⟨rfl, yesI ⟨Nat.zero_le _, fun d hd => ?_⟩⟩
        have T3 := T2.upd_new (o := .lst []) hd
        have nD : d ≠ D := (T2.fresh hd).2
        refine ⟨as.map V.ref, T3.top, ?_, as ++ [d], fun b hb => ?_, ?_, ?_⟩
        · rw [List.length_map, T2.len, mkL_len]; exact small (by omega)
        · rcases List.mem_append.mp hb with z | z
          · exact hn0 b z
          · have : b = d := by simpa using z
            subst this; exact e2.free hd
        · intro b o ho
          rw [upd_ne (ne_of_none ho (e1.free hD)), upd_ne (ne_of_none ho (e2.free hd))]
          exact e2 b o ho
        · have := T3.snoc (a := d) (r := []) (by show upd H2 d _ d = _; rw [upd_same]; rfl) nD (T2.fresh hd).1
          rw [List.map_append] at this
          have e : mkL (i + 1) (fun _ => ([] : List Nat)) = mkL i (fun _ => []) ++ [[]] := by simp [mkL, List.range_succ]
          rw [e]
          exact this
      · obtain ⟨as, hn0, e2, T2⟩ := h
        exact ⟨D, as, e1.free hD, hn0, e2, T2, rfl⟩
    obtain ⟨t, as, ht, has, e2, T2, rfl⟩ := hM
    have hTT2 : Tabs (TT P0) H2 := hTT.ext e2
    have s0 : ∀ {b o}, H b = some o → b ≠ t := fun {b o} ho => ne_of_none ho ht
    -- all by turns, in some order
    refine ⟨LW a t P0 most n first H, ?_, fun σ H3 hM => ?_⟩
    · have g0 : GL (mkL n fun _ => []) := ⟨fun i r h => by
        have hi : i < n := by have := (List.getElem?_eq_some_iff.mp h).1; rwa [mkL_len] at this
        rw [mkL_at hi] at h
        cases h
        exact ⟨List.nodup_nil, by simp⟩⟩
      simp only [tRaiseErr, tMkErr, tCallS, WE, tLenSetI, cx_K, cx_w, wipe, Int.zero_add, Bool.false_eq_true, if_false, if_true, Bool.not_true, Bool.not_false, tSeq, tAsg, tOp, tVar, tC, tRet, tRetN, tNext, tDrop, tIfS, tB, tTest, tIf, tAnd, tOr, tNot, tAndV, tOrV, tNotV, tUn, tCons, tNil, tCall, tCB, tBM, tBM0, tNoPart, tPart, tSl, tCont, tNever, tTup, tLst, gName, gNil, gCons, gTup, gSub, rI, rI0, rU, rEq, rNe, rIxL, rSlL, rSetL, rLn, rLs, rTs, rIn, rSet0, tSAdd, rSAdd, rSIn, rSNotIn, rRep, rCat, rAppend, rPop, rPopAt, iList, iRng1, iRng2, iEnum, gTup, tIsN, tNotN, tTru, tLstRg, tRg1, tRg2, L2.start, List.map_cons, List.map_nil, List.length_cons, List.length_nil, List.replicate, List.cons_append, List.nil_append, List.getElem?_cons_zero, List.getElem?_cons_succ, List.set_cons_zero, List.set_cons_succ, Option.some.injEq, exists_eq_left', V.int.injEq, V.ref.injEq, V.bl.injEq, List.cons.injEq, exists_and_left, exists_and_right, and_true, true_and, exists_eq_left, exists_eq, Nat.reduceAdd, Nat.reduceSub]
      refine ⟨⟨by decide, by decide⟩, by decide, ?_⟩
      have w0 : LW a t P0 most n first H [some (.ref a), some (nv most), some (.int first), some (nv n), some (.ref t), none, none, none, none, none, none, none] H2 :=
        ⟨as, mkL n fun _ => [], none, none, none, none, none, none, ExtN.of e2, hTT2, fun b hb => Fr.of (has b hb), T2, mkL_len _ _, g0, rfl⟩
      refine ite2 (fun _ => ?_) (fun _ => w0)
      refine ⟨nv n, rfl, _, rfl, by omega, by omega, for_rng n (by omega) (fun i => LW a t P0 most n first H) w0 (fun i σ H3 hi h => ?_) (fun σ H3 h => h)⟩
      obtain ⟨as3, rows3, y5, y6, y8, y9, y10, y11, x3, t3, has3, T3, l3, g3, rfl⟩ := h
      have hto := turns_ok hi
      refine ⟨nv n, rfl, _, _, rfl, rfl, _, rfl, by omega, by omega, fun D hD => lc_rng (n - 1) (by omega) (fun j H4 => H4 = upd H3 D (.lst (((turns n i).take j).map nv))) rfl (fun j H4 hj h => ?_) (fun H4 h => ?_)⟩
      · subst h
        refine ⟨rfl, yesI ?_⟩
        simp only [tRaiseErr, tMkErr, tCallS, WE, tLenSetI, cx_K, cx_w, wipe, Int.zero_add, Bool.false_eq_true, if_false, if_true, Bool.not_true, Bool.not_false, tSeq, tAsg, tOp, tVar, tC, tRet, tRetN, tNext, tDrop, tIfS, tB, tTest, tIf, tAnd, tOr, tNot, tAndV, tOrV, tNotV, tUn, tCons, tNil, tCall, tCB, tBM, tBM0, tNoPart, tPart, tSl, tCont, tNever, tTup, tLst, gName, gNil, gCons, gTup, gSub, rI, rI0, rU, rEq, rNe, rIxL, rSlL, rSetL, rLn, rLs, rTs, rIn, rSet0, tSAdd, rSAdd, rSIn, rSNotIn, rRep, rCat, rAppend, rPop, rPopAt, iList, iRng1, iRng2, iEnum, gTup, tIsN, tNotN, tTru, tLstRg, tRg1, tRg2, L2.start, List.map_cons, List.map_nil, List.length_cons, List.length_nil, List.replicate, List.cons_append, List.nil_append, List.getElem?_cons_zero, List.getElem?_cons_succ, List.set_cons_zero, List.set_cons_succ, Option.some.injEq, exists_eq_left', V.int.injEq, V.ref.injEq, V.bl.injEq, List.cons.injEq, exists_and_left, exists_and_right, and_true, true_and, exists_eq_left, exists_eq, Nat.reduceAdd, Nat.reduceSub]
        refine ⟨by omega, _, upd_same, ?_, ?_⟩
        · rw [List.length_map, List.length_take]; exact small (by omega)
        · rw [upd_upd]
          have e : (turns n i).take (j + 1) = (turns n i).take j ++ [(i + 1 + j) % n] := by
            rw [List.take_add_one]
            congr 1
            simp [turns, hj]
          rw [e, List.map_append]
          congr 3
      · subst h
        have lt : (turns n i).length = n - 1 := by simp [turns]
        rw [List.take_of_length_le (by omega)]
        have s4 : Same H3 (upd H3 D (.lst ((turns n i).map nv))) := same_upd hD
        refine ⟨.ref D, rfl, D, (turns n i).map Int.ofNat, first, (i : Int), rfl, SqL.of (by rw [map_nv', upd_same]), rfl, by show some (some (V.int (0 + (i : Int)))) = _; rw [Int.zero_add], hf0, by omega, t3.ext s4, fun ns' H5 p hperm x5 t5 hp => ?_⟩
        obtain ⟨r, rfl, hr⟩ := perm_nat hperm
        have x35 : ExtN H3 H5 := (ExtN.of s4).trans x5
        have T5 := T3.extN x35
        have fr := T5.fresh hp
        have T6 : Tbl (upd H5 p (.lst ((r.map Int.ofNat).map V.int))) t as3 rows3 := T5.upd_new hp
        have hin : ∀ x ∈ r, x < rows3.length ∧ x ≠ i := fun x hx => by rw [l3]; exact hto.2 x (hr.mem_iff.mp hx)
        have T7 := T6.replace (one := i) (D := p) (r := r) (by rw [l3]; exact hi) fr.1 fr.2 (by show upd H5 p _ p = _; rw [upd_same, map_nv'])
        have hHp : Fr H p := Fr.ext (x3.trans x35) hp
        have t6 : Tabs (TT P0) (upd H5 p (.lst ((r.map Int.ofNat).map V.int))) := t5.ext (same_upd hp)
        refine ⟨.ref t, rfl, .int (0 + (i : Int)), rfl, t, _, (i : Int), i, rfl, by rw [Int.zero_add], T6.top, by rw [List.length_map, T3.len, l3]; exact ixN_nat hi, ?_⟩
        refine ⟨as3.set i p, rows3.set i r, _, _, _, _, _, _, fun b o ho hnt => ?_, Tabs.write t6 T6.top, fun b hb => ?_, T7, by rw [List.length_set]; exact l3, gl_set g3 (hr.nodup_iff.mpr hto.1) hin, rfl⟩
        · rw [upd_ne (s0 ho), upd_ne (hHp.ne ho hnt)]
          exact x35 b o (x3 b o ho hnt) hnt
        · rcases List.mem_or_eq_of_mem_set hb with z | z
          · exact has3 b z
          · rw [z]; exact hHp
    · -- the cells
      refine ⟨LW a t P0 most n first H, ?_, fun σ H4 hM4 => ?_⟩
      · have hM' := hM
        obtain ⟨as3, rows3, y5, y6, y8, y9, y10, y11, x3, t3, has3, T3, l3, g3, rfl⟩ := hM'
        refine ⟨.ref a, rfl, a, rfl, ⟨_, SqL.extN x3 hS⟩, for_list (K := K) (xs := ns.map V.int) (fun i => LW a t P0 most n first H) hM (fun i σ H4 _ h => ?_) (fun i x σ H4 hx h => ?_) (fun σ H4 h => h)⟩
        · obtain ⟨as3, rows3, y5, y6, y8, y9, y10, y11, x3, t3, has3, T3, l3, g3, rfl⟩ := h
          exact SqL.extN x3 hS
        · obtain ⟨as3, rows3, y5, y6, y8, y9, y10, y11, x3, t3, has3, T3, l3, g3, rfl⟩ := h
          rw [List.getElem?_map] at hx
          obtain ⟨z, hz, rfl⟩ := Option.map_eq_some_iff.mp hx
          simp only [tRaiseErr, tMkErr, tCallS, WE, tLenSetI, cx_K, cx_w, wipe, Int.zero_add, Bool.false_eq_true, if_false, if_true, Bool.not_true, Bool.not_false, tSeq, tAsg, tOp, tVar, tC, tRet, tRetN, tNext, tDrop, tIfS, tB, tTest, tIf, tAnd, tOr, tNot, tAndV, tOrV, tNotV, tUn, tCons, tNil, tCall, tCB, tBM, tBM0, tNoPart, tPart, tSl, tCont, tNever, tTup, tLst, gName, gNil, gCons, gTup, gSub, rI, rI0, rU, rEq, rNe, rIxL, rSlL, rSetL, rLn, rLs, rTs, rIn, rSet0, tSAdd, rSAdd, rSIn, rSNotIn, rRep, rCat, rAppend, rPop, rPopAt, iList, iRng1, iRng2, iEnum, gTup, tIsN, tNotN, tTru, tLstRg, tRg1, tRg2, L2.start, List.map_cons, List.map_nil, List.length_cons, List.length_nil, List.replicate, List.cons_append, List.nil_append, List.getElem?_cons_zero, List.getElem?_cons_succ, List.set_cons_zero, List.set_cons_succ, Option.some.injEq, exists_eq_left', V.int.injEq, V.ref.injEq, V.bl.injEq, List.cons.injEq, exists_and_left, exists_and_right, and_true, true_and, exists_eq_left, exists_eq, Nat.reduceAdd, Nat.reduceSub]
          refine ⟨z, 2, rfl, by decide, by decide, ?_⟩
          have m0 := mixed_bd z 2
          generalize mixed z 2 = m at m0 ⊢
          by_cases h1 : 1 < n
          · show (if decide (1 < (n : Int)) = true then _ else _)
            rw [decide_eq_true (by omega)]
            obtain ⟨o1, o2, d1, d2, d3, d4, d5⟩ := draw2 m0.1 h1
            have dv : ∀ k : Int, 0 < k → 0 ≤ m / k := fun k hk => Int.ediv_nonneg m0.1 (by omega)
            refine iteT ⟨m, rfl, by omega, m, rfl, ⟨by omega, by omega⟩, by omega, by omega, m, rfl, ⟨by decide, by decide⟩, ?_⟩
            rw [d1, d2]
            -- one call of the def that puts one on the list of another
            have call : ∀ (H5 : Hp) (as5 : List Addr) (rows5 : List (List Nat)) (p1 p2 : Nat) (num : Int) (Qc : VK), ExtN H H5 → Tabs (TT P0) H5 → (∀ b ∈ as5, Fr H b) → Tbl H5 t as5 rows5 → rows5.length = n → GL rows5 → p1 < n → p2 < n → p2 ≠ p1 → 0 ≤ num →
                (∀ H6 as6 rows6, ExtN H H6 → Tabs (TT P0) H6 → (∀ b ∈ as6, Fr H b) → Tbl H6 t as6 rows6 → rows6.length = n → GL rows6 → Qc .non H6) → sp_lset K [.ref t, nv p1, nv p2, .int num] H5 Qc E0 := fun H5 as5 rows5 p1 p2 num Qc x5 t5 h5 T5 l5 g5 q1 q2 q3 q4 hq => by
              refine ⟨t, as5, rows5, p1, p2, num, rfl, T5, g5, by omega, by omega, q3, q4, by omega, fun H6 as6 rows6 T6 l6 g6 f6 h6 => ?_⟩
              refine hq H6 as6 rows6 (fun b o ho hnt => f6 b o (s0 ho) (x5 b o ho hnt)) (Tabs.but t5 T5.top f6) (fun b hb => ?_) T6 (by omega) g6
              rcases h6 b hb with zz | zz
              · exact h5 b zz
              · exact Fr.ext x5 zz
            refine call H4 as3 rows3 o1 o2 (m / 997) _ x3 t3 has3 T3 l3 g3 d3 d4 d5 (dv 997 (by decide)) fun H5 as5 rows5 x5 t5 h5 T5 l5 g5 => ?_
            refine ⟨m, rfl, ⟨by decide, by decide⟩, by decide, ite2 (fun _ => ?_) (fun _ => ⟨as5, rows5, _, _, _, _, _, _, x5, t5, h5, T5, l5, g5, rfl⟩)⟩
            refine ⟨m, 3, rfl, by decide, by decide, ?_⟩
            exact call H5 as5 rows5 o2 o1 _ _ x5 t5 h5 T5 l5 g5 d4 d3 (Ne.symm d5) (mixed_bd m 3).1 fun H6 as6 rows6 x6 t6 h6 T6 l6 g6 => ⟨as6, rows6, _, _, _, _, _, _, x6, t6, h6, T6, l6, g6, rfl⟩
          · show (if decide (1 < (n : Int)) = true then _ else _)
            rw [decide_eq_false (by omega)]
            exact iteF ⟨as3, rows3, _, _, _, _, _, _, x3, t3, has3, T3, l3, g3, rfl⟩
      · obtain ⟨as3, rows3, y5, y6, y8, y9, y10, y11, x3, t3, has3, T3, l3, g3, rfl⟩ := hM4
        exact ⟨.ref t, rfl, q H4 t as3 rows3 x3 t3 T3 g3 (by omega)⟩
end
end K1

set_option Elab.async false
set_option linter.all false
set_option maxRecDepth 100000
set_option maxHeartbeats 4000000
namespace K1
open PySem PySem.Spec PyProof.Rows L2 LamX Bk
section
variable {P : Program} {w : World} {K : PySem.W.Frag} {mg : Str → Option Value} {base : Heap}

def sp_lmut (K : PySem.W.Frag) : Sp := fun vs H Q _ => ∃ (t : Addr) (as : List Addr) (rows : List (List Nat)), vs = [.ref t] ∧ Tbl H t as rows ∧ GL rows ∧ rows.length ≤ 100 ∧
  ∀ H' p as', Same H H' → H p = none → (∀ a ∈ as', H a = none) → Tbl H' p as' (mutL rows) → Q (.ref p) H'
theorem ok_lmut (T : Txt P K mg) : FnOk P w K mg base CX0 1 T.a__law_mutual T.fd__law_mutual ["_law_rows"] (sp_lmut K) := by
  refine T.F__law_mutual.ok sc__law_mutual (fun vs H Q E h => ?_) (fun cdv A outer s H vs Q E hr h => ?_)
  · obtain ⟨t, as, rows, rfl, _⟩ := h
    rfl
  · obtain ⟨t, as, rows, rfl, TB, g, hlen, q⟩ := h
    refine ⟨_, (C8.pss_cut (ps_set (i := 1) sc__law_mutual.nd rfl (.inl rfl) (pe_lst pa_nil))
      (C8.pss_cut (ps_for PassesOwn.never rfl (pi_range1 (by rfl) T.m_range (pa_cons (pe_callB (klen (K := K)) (by rfl) T.m_len (by decide +kernel) (pa_cons (pv 0) pa_nil)) pa_nil)) (pg_name (i := 2) sc__law_mutual.nd rfl (.inr rfl)) (pss_one (ps_expr (pe_bm PySem.F.plainAttrs_list PySem.F.slot_list_append PySem.F.type_list_append mt_append (pv 1) (pa_cons (pe_lc (own := [("_law_one", 3)]) rfl sc__law_mutual.nd (kpi_list (K := K) (pe_ix (kix_list (K := K)) (pv 0) (pv 2) (fun _ _ => rfl))) (blkOk_by (own := [("_law_one", 3)]) (N := ["_law_rows", "_law_found", "_law_person", "_law_one"]) (sc := (defScope s__law_mutual)) (by decide +kernel)) (fun _ _ _ _ _ => (pg_name (i := 3) sc__law_mutual.nd rfl (by first | exact .inl rfl | exact .inr rfl))) (fun _ _ _ _ _ => (pts_one (pt_cmpR (kin (K := K)) (pv 2) (pe_ix (kix_list (K := K)) (pv 0) (pv 3) (fun _ _ => rfl)) rfl))) (fun _ _ _ _ _ => (pv 3))) pa_nil)))))
      (pss_one (ps_ret (pv 1))))), ?_⟩
    simp only [tRaiseErr, tMkErr, tCallS, WE, tLenSetI, cx_K, cx_w, wipe, Int.zero_add, Bool.false_eq_true, if_false, if_true, Bool.not_true, Bool.not_false, tSeq, tAsg, tOp, tVar, tC, tRet, tRetN, tNext, tDrop, tIfS, tB, tTest, tIf, tAnd, tOr, tNot, tAndV, tOrV, tNotV, tUn, tCons, tNil, tCall, tCB, tBM, tBM0, tNoPart, tPart, tSl, tCont, tNever, tTup, tLst, gName, gNil, gCons, gTup, gSub, rI, rI0, rU, rEq, rNe, rIxL, rSlL, rSetL, rLn, rLs, rTs, rIn, rSet0, tSAdd, rSAdd, rSIn, rSNotIn, rRep, rCat, rAppend, rPop, rPopAt, iList, iRng1, iRng2, iEnum, gTup, tIsN, tNotN, tTru, tLstRg, tRg1, tRg2, L2.start, List.map_cons, List.map_nil, List.length_cons, List.length_nil, List.replicate, List.cons_append, List.nil_append, List.getElem?_cons_zero, List.getElem?_cons_succ, List.set_cons_zero, List.set_cons_succ, Option.some.injEq, exists_eq_left', V.int.injEq, V.ref.injEq, V.bl.injEq, List.cons.injEq, exists_and_left, exists_and_right, and_true, true_and, exists_eq_left, exists_eq, Nat.reduceAdd, Nat.reduceSub]
    refine ⟨fun σ H' => ∃ f, H f = none ∧ H' = upd H f (.lst []) ∧ σ = [some (.ref t), some (.ref f), none, none], ?_, fun σ H' hM => ?_⟩
    · simp only [tRaiseErr, tMkErr, tCallS, WE, tLenSetI, cx_K, cx_w, wipe, Int.zero_add, Bool.false_eq_true, if_false, if_true, Bool.not_true, Bool.not_false, tSeq, tAsg, tOp, tVar, tC, tRet, tRetN, tNext, tDrop, tIfS, tB, tTest, tIf, tAnd, tOr, tNot, tAndV, tOrV, tNotV, tUn, tCons, tNil, tCall, tCB, tBM, tBM0, tNoPart, tPart, tSl, tCont, tNever, tTup, tLst, gName, gNil, gCons, gTup, gSub, rI, rI0, rU, rEq, rNe, rIxL, rSlL, rSetL, rLn, rLs, rTs, rIn, rSet0, tSAdd, rSAdd, rSIn, rSNotIn, rRep, rCat, rAppend, rPop, rPopAt, iList, iRng1, iRng2, iEnum, gTup, tIsN, tNotN, tTru, tLstRg, tRg1, tRg2, L2.start, List.map_cons, List.map_nil, List.length_cons, List.length_nil, List.replicate, List.cons_append, List.nil_append, List.getElem?_cons_zero, List.getElem?_cons_succ, List.set_cons_zero, List.set_cons_succ, Option.some.injEq, exists_eq_left', V.int.injEq, V.ref.injEq, V.bl.injEq, List.cons.injEq, exists_and_left, exists_and_right, and_true, true_and, exists_eq_left, exists_eq, Nat.reduceAdd, Nat.reduceSub]
      exact ⟨Nat.zero_le _, fun f hf => ⟨f, hf, rfl, rfl⟩⟩
    obtain ⟨f, hf, rfl, rfl⟩ := hM
    have s0 : Same H (upd H f (.lst [])) := same_upd hf
    refine ⟨fun σ H' => ∃ as', σ[1]? = some (some (.ref f)) ∧ Same H H' ∧ (∀ a ∈ as', H a = none) ∧ Tbl H' f as' (mutL rows), ?_, fun σ H' hM => ?_⟩
    · refine ⟨_, rfl, t, _, rfl, .inl (SqL.of (s0 _ _ TB.top)), _, rfl, (z62 (by rw [List.length_map, TB.len]; omega)).1, (z62 (by rw [List.length_map, TB.len]; omega)).2,
        for_rng rows.length (by rw [toNat_len, List.length_map, TB.len]) (fun i σ H' => ∃ y as', σ = [some (.ref t), some (.ref f), y, none] ∧ Same H H' ∧ (∀ a ∈ as', H a = none) ∧ Tbl H' f as' ((mutL rows).take i))
          ⟨none, [], rfl, s0, (fun a ha => by simp at ha), by rw [List.take_zero]; exact Tbl.nil upd_same⟩ (fun i σ H' hi h => ?_) (fun σ H' h => ?_)⟩
      · obtain ⟨y, as', rfl, e, hn, TF⟩ := h
        obtain ⟨a, ha, hrow, hat, ham⟩ := (TB.same e).at hi
        simp only [tRaiseErr, tMkErr, tCallS, WE, tLenSetI, cx_K, cx_w, wipe, Int.zero_add, Bool.false_eq_true, if_false, if_true, Bool.not_true, Bool.not_false, tSeq, tAsg, tOp, tVar, tC, tRet, tRetN, tNext, tDrop, tIfS, tB, tTest, tIf, tAnd, tOr, tNot, tAndV, tOrV, tNotV, tUn, tCons, tNil, tCall, tCB, tBM, tBM0, tNoPart, tPart, tSl, tCont, tNever, tTup, tLst, gName, gNil, gCons, gTup, gSub, rI, rI0, rU, rEq, rNe, rIxL, rSlL, rSetL, rLn, rLs, rTs, rIn, rSet0, tSAdd, rSAdd, rSIn, rSNotIn, rRep, rCat, rAppend, rPop, rPopAt, iList, iRng1, iRng2, iEnum, gTup, tIsN, tNotN, tTru, tLstRg, tRg1, tRg2, L2.start, List.map_cons, List.map_nil, List.length_cons, List.length_nil, List.replicate, List.cons_append, List.nil_append, List.getElem?_cons_zero, List.getElem?_cons_succ, List.set_cons_zero, List.set_cons_succ, Option.some.injEq, exists_eq_left', V.int.injEq, V.ref.injEq, V.bl.injEq, List.cons.injEq, exists_and_left, exists_and_right, and_true, true_and, exists_eq_left, exists_eq, Nat.reduceAdd, Nat.reduceSub]
        refine ⟨.inl ⟨rfl, _, .inl (.inl TF.top)⟩, ?_⟩
        refine ⟨_, rfl, _, rfl, t, _, _, _, rfl, rfl, SqL.of (e _ _ TB.top), Tbl.atI TB ha, a, rfl, ⟨_, SqL.of hrow⟩, fun D hD => lc_keep (r := fn rows i) (fun o => decide (i ∈ fn rows o)) hD (SqL.of hrow) (by simp) (by have := g.len i; omega) (fun x hx H3 Qt e3 hq => ?_) ?_⟩
        · obtain ⟨b, hb, hrb, _, _⟩ := ((TB.same e).same e3).at (g.lt hx).2.1
          simp only [tRaiseErr, tMkErr, tCallS, WE, tLenSetI, cx_K, cx_w, wipe, Int.zero_add, Bool.false_eq_true, if_false, if_true, Bool.not_true, Bool.not_false, tSeq, tAsg, tOp, tVar, tC, tRet, tRetN, tNext, tDrop, tIfS, tB, tTest, tIf, tAnd, tOr, tNot, tAndV, tOrV, tNotV, tUn, tCons, tNil, tCall, tCB, tBM, tBM0, tNoPart, tPart, tSl, tCont, tNever, tTup, tLst, gName, gNil, gCons, gTup, gSub, rI, rI0, rU, rEq, rNe, rIxL, rSlL, rSetL, rLn, rLs, rTs, rIn, rSet0, tSAdd, rSAdd, rSIn, rSNotIn, rRep, rCat, rAppend, rPop, rPopAt, iList, iRng1, iRng2, iEnum, gTup, tIsN, tNotN, tTru, tLstRg, tRg1, tRg2, L2.start, List.map_cons, List.map_nil, List.length_cons, List.length_nil, List.replicate, List.cons_append, List.nil_append, List.getElem?_cons_zero, List.getElem?_cons_succ, List.set_cons_zero, List.set_cons_succ, Option.some.injEq, exists_eq_left', V.int.injEq, V.ref.injEq, V.bl.injEq, List.cons.injEq, exists_and_left, exists_and_right, and_true, true_and, exists_eq_left, exists_eq, Nat.reduceAdd, Nat.reduceSub]
          refine ⟨_, SqL.of (e3 _ _ (e _ _ TB.top)), _, Tbl.atI TB hb, _, rfl, _, .inl (SqL.of hrb), rfl, flat_nv _, ?_⟩
          rw [inV_nv]
          exact hq
        · have nfD : f ≠ D := ne_of_none TF.top hD
          have hDa := (TF.fresh hD).1
          refine ⟨as'.map V.ref, by rw [upd_ne nfD]; exact TF.top, ?_, ?_, as' ++ [D], fun a ha => ?_, ?_⟩
          · rw [List.length_map, TF.len]
            exact small (by rw [List.length_take]; omega)
          · intro b o ho
            rw [upd_ne (ne_of_none ho hf), upd_ne (ne_of_none ho (e.free hD))]
            exact e b o ho
          · rcases List.mem_append.mp ha with z | z
            · exact hn a z
            · have : a = D := by simpa using z
              subst this
              exact e.free hD
          · have et : (mutL rows).take (i + 1) = (mutL rows).take i ++ [mutF rows i] := by rw [List.take_add_one, mutL_at hi]; rfl
            rw [et]
            have := (TF.upd_new (o := .lst ((mutF rows i).map nv)) hD).snoc (a := D) (r := mutF rows i) upd_same (Ne.symm nfD) hDa
            rw [List.map_append] at this
            exact this
      · obtain ⟨y, as', rfl, e, hn, TF⟩ := h
        rw [List.take_of_length_le (by rw [mutL_len]; exact Nat.le_refl _)] at TF
        exact ⟨as', rfl, e, hn, TF⟩
    · obtain ⟨as', e1, e, hn, TF⟩ := hM
      exact ⟨_, e1, q H' f as' e hf hn TF⟩
end
end K1

set_option Elab.async false
set_option linter.all false
set_option maxRecDepth 100000
set_option maxHeartbeats 4000000
namespace K1
open PySem PySem.Spec PyProof.Rows L2 LamX Bk
section
variable {P : Program} {w : World} {K : PySem.W.Frag} {mg : Str → Option Value} {base : Heap}

def sp_law (K : PySem.W.Frag) (P0 : Addr) : Sp := fun vs H Q _ => ∃ (a : Addr) (ns : List Int), vs = [.ref a] ∧ SqL K H a (ns.map V.int) ∧ ns.length ≤ 63 ∧ Tabs (TT P0) H ∧ ∀ H', Q (.bl true) H'
theorem ok_law (T : Txt P K mg) {c P0 : Addr} (FC : FunC K "_law_lists" s__law_lists T.a__law_lists T.fd__law_lists c) (TB : TabB base mg c P0) : FnOk P w K mg base CX0 12 T.a_law T.fd_law ["_law_script"] (sp_law K P0) := by
  have G__law_lists : FnOk P w K mg base CX0 4 T.a__law_lists T.fd__law_lists ["_law_script", "_law_most"] (sp_llists K P0) := ok_llists T FC TB
  have G__law_mutual : FnOk P w K mg base CX0 1 T.a__law_mutual T.fd__law_mutual ["_law_rows"] (sp_lmut K) := ok_lmut T
  have G__law_mixed : FnOk P w K mg base CX0 1 T.a__law_mixed T.fd__law_mixed ["_law_number", "_law_k"] sp_mixed := ok_mixed T
  have G_mutual : FnOk P w K mg base (L2.CX P w) 4 T.a_mutual T.fd_mutual ["lists"] (sp_mutual K T.C_BadLists) := ok_mutual T
  have G__law_refused : FnOk P w K mg base CX0 11 T.a__law_refused T.fd__law_refused ["_law_thing", "_law_way"] (sp_refused K) := ok_refused T
  have G__law_spoilt : FnOk P w K mg base CX0 1 T.a__law_spoilt T.fd__law_spoilt ["_law_rows", "_law_at", "_law_number"] (sp_spoilt K) := ok_spoilt T
  refine T.F_law.ok sc_law (fun vs H Q E h => ?_) (fun cdv A outer s H vs Q E hr h => ?_)
  · obtain ⟨a, ns, rfl, _⟩ := h
    rfl
  · obtain ⟨a, ns, rfl, hS, hlen, tt, q⟩ := h
    refine ⟨_, (C8.pss_cut (ps_set (i := 1) sc_law.nd rfl (.inl rfl) (pe_call G__law_lists (hr.mono (by decide)) (by rfl) T.g__law_lists T.F__law_lists.kp T.b__law_lists .nil pass0 (pa_cons (pv 0) (pa_cons pe_int pa_nil))))
      (C8.pss_cut (ps_setLc (i := 2) (own := [("_law_row", 3)]) rfl sc_law.nd rfl rfl (sw_true rfl rfl rfl (by decide +kernel)) (kpi_list (K := K) (pv 1)) (blkOk_by (own := [("_law_row", 3)]) (N := ["_law_script", "_law_rows", "_law_handed_here", "_law_row", "_law_due", "_law_found", "_law_way", "_law_k", "_law_number", "_law_at", "_law_spoilt_here", "_law_other"]) (sc := (defScope s_law)) (by decide +kernel)) (fun _ _ _ _ _ => (pg_name (i := 3) sc_law.nd rfl (by first | exact .inl rfl | exact .inr rfl))) (fun _ _ _ _ _ => pts_nil) (fun _ _ _ _ _ => (pe_callTy (klist_of (K := K)) (by rfl) T.m_list (by decide +kernel) (pa_cons (pv 3) pa_nil))))
      (C8.pss_cut (ps_set (i := 4) sc_law.nd rfl (.inl rfl) (pe_call G__law_mutual (hr.mono (by decide)) (by rfl) T.g__law_mutual T.F__law_mutual.kp T.b__law_mutual .nil pass0 (pa_cons (pv 1) pa_nil)))
      (C8.pss_cut (ps_set (i := 5) sc_law.nd rfl (.inl rfl) (pe_call G_mutual (hr.mono (by decide)) (by rfl) T.g_mutual T.F_mutual.kp T.b_mutual .nil passL (pa_cons (pv 2) pa_nil)))
      (C8.pss_cut (ps_if (PW.pt (pw_or (pt_not (pt_val (pe_callB (kisi (K := K)) (by rfl) T.m_isinstance (by decide +kernel) (pa_cons (pv 5) (pa_cons (pe_bltn (v := .ty "list") (by rfl) T.m_list (by decide +kernel) rfl) pa_nil))))) (pw_or (pt_cmpR (kneD (K := K) hr.units) (pv 5) (pv 4) (nomark _)) (pw_or1 (pt_cmpR (kneD (K := K) hr.units) (pv 2) (pv 1) (nomark _)))))) (pss_one (ps_ret pe_bl)) pss_nil)
      (C8.pss_cut (ps_for PassesOwn.never rfl (kpi_list (K := K) (pv 5)) (pg_name (i := 3) sc_law.nd rfl (.inl rfl)) (pss_one (ps_expr (pe_bm PySem.F.plainAttrs_list PySem.F.slot_list_append PySem.F.type_list_append mt_append (pv 3) (pa_cons pe_int pa_nil)))))
      (C8.pss_cut (ps_if (PW.pt (pw_or (pt_cmpR (kneD (K := K) hr.units) (pe_call G_mutual (hr.mono (by decide)) (by rfl) T.g_mutual T.F_mutual.kp T.b_mutual .nil passL (pa_cons (pv 2) pa_nil)) (pv 4) (nomark _)) (pw_or1 (pt_cmpR op_ne (pe_call G__law_refused (hr.mono (by decide)) (by rfl) T.g__law_refused T.F__law_refused.kp T.b1__law_refused T.v1__law_refused pass0 (pa_cons (pv 1) pa_nil)) pe_str (nomark _))))) (pss_one (ps_ret pe_bl)) pss_nil)
      (C8.pss_cut (ps_for PassesOwn.never rfl (pi_range1 (by rfl) T.m_range (pa_cons pe_int pa_nil)) (pg_name (i := 6) sc_law.nd rfl (.inl rfl)) (pss_cons (ps_if (pt_cmp (pc_notN (pe_call G__law_refused (hr.mono (by decide)) (by rfl) T.g__law_refused T.F__law_refused.kp T.b__law_refused .nil pass0 (pa_cons (pe_ix (kix_list (K := K)) (pe_lst (pa_cons pe_non (pa_cons (pe_callTy (ktuple_of (K := K)) (by rfl) T.m_tuple (by decide +kernel) (pa_cons (pv 1) pa_nil)) (pa_cons pe_dnewK (pa_cons pe_str (pa_cons pe_int pa_nil)))))) (pe_op op_mod (pe_op op_add (pe_callB (klen (K := K)) (by rfl) T.m_len (by decide +kernel) (pa_cons (pv 0) pa_nil)) (pv 6)) pe_int) (fun _ _ => rfl)) (pa_cons (pv 6) pa_nil))))) (pss_one (ps_ret pe_bl)) pss_nil)
      (pss_one (ps_if (pt_cmp (pc_notN (pe_call G__law_refused (hr.mono (by decide)) (by rfl) T.g__law_refused T.F__law_refused.kp T.b__law_refused .nil pass0 (pa_cons (pe_op op_cat (pv 1) (pe_lc (own := [("_law_k", 7)]) rfl sc_law.nd (pi_range1 (by rfl) T.m_range (pa_cons (pe_op op_sub pe_int (pe_callB (klen (K := K)) (by rfl) T.m_len (by decide +kernel) (pa_cons (pv 1) pa_nil))) pa_nil)) (blkOk_by (own := [("_law_k", 7)]) (N := ["_law_script", "_law_rows", "_law_handed_here", "_law_row", "_law_due", "_law_found", "_law_way", "_law_k", "_law_number", "_law_at", "_law_spoilt_here", "_law_other"]) (sc := (defScope s_law)) (by decide +kernel)) (fun _ _ _ _ _ => (pg_name (i := 7) sc_law.nd rfl (by first | exact .inl rfl | exact .inr rfl))) (fun _ _ _ _ _ => pts_nil) (fun _ _ _ _ _ => (pe_lst pa_nil)))) (pa_cons (pv 6) pa_nil))))) (pss_one (ps_ret pe_bl)) pss_nil))))
      (C8.pss_cut (ps_for PassesOwn.never rfl (pi_range1 (by rfl) T.m_range (pa_cons (pe_callB (call_min2 rfl) (by rfl) T.m_min (by decide +kernel) (pa_cons (pe_callB (klen (K := K)) (by rfl) T.m_len (by decide +kernel) (pa_cons (pv 0) pa_nil)) (pa_cons pe_int pa_nil))) pa_nil)) (pg_name (i := 7) sc_law.nd rfl (.inl rfl)) (pss_one (ps_if (pt_cmpR (kneD (K := K) hr.units) (pv 1) (pe_lst pa_nil) (nomark _)) (pss_cons (ps_set (i := 8) sc_law.nd rfl (.inl rfl) (pe_call G__law_mixed (hr.mono (by decide)) (by rfl) T.g__law_mixed T.F__law_mixed.kp T.b__law_mixed .nil pass0 (pa_cons (pe_ix (kix_list (K := K)) (pv 0) (pv 7) (fun _ _ => rfl)) (pa_cons pe_int pa_nil))))
      (pss_cons (ps_set (i := 9) sc_law.nd rfl (.inl rfl) (pe_op op_mod (pv 8) (pe_callB (klen (K := K)) (by rfl) T.m_len (by decide +kernel) (pa_cons (pv 1) pa_nil))))
      (pss_cons (ps_set (i := 10) sc_law.nd rfl (.inl rfl) (pe_call G__law_spoilt (hr.mono (by decide)) (by rfl) T.g__law_spoilt T.F__law_spoilt.kp T.b__law_spoilt .nil pass0 (pa_cons (pv 1) (pa_cons (pv 9) (pa_cons (pe_op op_fdiv (pv 8) pe_int) pa_nil)))))
      (pss_cons (ps_set (i := 11) sc_law.nd rfl (.inl rfl) (pe_op op_mod (pe_op op_fdiv (pv 8) pe_int) (pe_callB (klen (K := K)) (by rfl) T.m_len (by decide +kernel) (pa_cons (pv 1) pa_nil))))
      (pss_cons (ps_if (pt_cmpR op_gt (pv 11) (pv 9) (nomark _)) (pss_one (ps_asg pe_non (pg_sub (pv 10) (pv 11) set_list))) pss_nil)
      (pss_one (ps_if (PW.pt (pw_or (pt_cmpR op_ne (pe_call G__law_refused (hr.mono (by decide)) (by rfl) T.g__law_refused T.F__law_refused.kp T.b1__law_refused T.v1__law_refused pass0 (pa_cons (pv 10) pa_nil)) (pv 9) (nomark _)) (pw_or1 (pt_cmpR op_ne (pe_call G__law_refused (hr.mono (by decide)) (by rfl) T.g__law_refused T.F__law_refused.kp T.b__law_refused .nil pass0 (pa_cons (pv 10) (pa_cons (pe_op op_add pe_int (pe_op op_mod (pe_op op_add (pv 8) (pv 7)) pe_int)) pa_nil))) (pv 9) (nomark _))))) (pss_one (ps_ret pe_bl)) pss_nil))))))) pss_nil)))
      (pss_one (ps_ret pe_bl))))))))))), ?_⟩
    -- the lists
    obtain ⟨M, hM⟩ : ∃ M : L2.St → Hp → Prop, M = (fun σ H1 => ∃ t as rows, σ = [some (.ref a), some (.ref t), none, none, none, none, none, none, none, none, none, none] ∧ SqL K H1 a (ns.map V.int) ∧ Tbl H1 t as rows ∧ GL rows ∧ rows.length ≤ 60) := ⟨_, rfl⟩
    refine ⟨M, ?_, fun σ H1 h => ?_⟩
    · simp only [tRaiseErr, tMkErr, tCallS, WE, tLenSetI, cx_K, cx_w, wipe, Int.zero_add, Bool.false_eq_true, if_false, if_true, Bool.not_true, Bool.not_false, tSeq, tAsg, tOp, tVar, tC, tRet, tRetN, tNext, tDrop, tIfS, tB, tTest, tIf, tAnd, tOr, tNot, tAndV, tOrV, tNotV, tUn, tCons, tNil, tCall, tCB, tBM, tBM0, tNoPart, tPart, tSl, tCont, tNever, tTup, tLst, gName, gNil, gCons, gTup, gSub, rI, rI0, rU, rEq, rNe, rIxL, rSlL, rSetL, rLn, rLs, rTs, rIn, rSet0, tSAdd, rSAdd, rSIn, rSNotIn, rRep, rCat, rAppend, rPop, rPopAt, iList, iRng1, iRng2, iEnum, gTup, tIsN, tNotN, tTru, tLstRg, tRg1, tRg2, L2.start, List.map_cons, List.map_nil, List.length_cons, List.length_nil, List.replicate, List.cons_append, List.nil_append, List.getElem?_cons_zero, List.getElem?_cons_succ, List.set_cons_zero, List.set_cons_succ, Option.some.injEq, exists_eq_left', V.int.injEq, V.ref.injEq, V.bl.injEq, List.cons.injEq, exists_and_left, exists_and_right, and_true, true_and, exists_eq_left, exists_eq, Nat.reduceAdd, Nat.reduceSub]
      refine ⟨a, ns, 60, rfl, hS, hlen, by decide, tt, fun H1 t as rows x1 t1 T1 g1 l1 => ?_⟩
      rw [hM]
      exact ⟨t, as, rows, rfl, SqL.extN x1 hS, T1, g1, l1⟩
    rw [hM] at h
    clear hM M
    obtain ⟨t, as, rows, rfl, hS1, T1, g, hrl⟩ := h
    -- the copy
    obtain ⟨M, hM⟩ : ∃ M : L2.St → Hp → Prop, M = (fun σ H3 => ∃ hd hs, σ = [some (.ref a), some (.ref t), some (.ref hd), none, none, none, none, none, none, none, none, none] ∧ Same H1 H3 ∧ Tbl H3 hd hs rows) := ⟨_, rfl⟩
    refine ⟨M, ?_, fun σ H3 h => ?_⟩
    · have T2 := T1
      refine ⟨_, rfl, t, rfl, ⟨_, SqL.of T2.top⟩, fun D hD => lc_list (K := K) (xs := as.map V.ref) (fun i H3 => Same H1 H3 ∧ ∃ as', Tbl H3 D as' (rows.take i))
        ⟨same_upd hD, [], Tbl.nil upd_same⟩ (fun i H1 _ h => h.1.seq (SqL.of T2.top)) (fun i x H3 hx h => ?_) (fun H1 h => ?_)⟩
      · obtain ⟨e, as', T3⟩ := h
        rw [List.getElem?_map] at hx
        obtain ⟨b, hb, rfl⟩ := Option.map_eq_some_iff.mp hx
        have hi : i < rows.length := by
          have := (List.getElem?_eq_some_iff.mp hb).1
          rw [T2.len] at this; exact this
        have hra : H3 b = some (.lst ((fn rows i).map nv)) := e _ _ (T2.row i b _ hb (fn_at hi))
        refine ⟨rfl, yesI ⟨_, rfl, b, _, rfl, .inl (SqL.of hra), fun d hd => ?_⟩⟩
        have T4 := T3.upd_new (o := .lst ((fn rows i).map nv)) hd
        have fr := T3.fresh hd
        refine ⟨as'.map V.ref, T4.top, ?_, ?_, as' ++ [d], ?_⟩
        · rw [List.length_map, T3.len, List.length_take]; exact small (by omega)
        · intro b o ho
          rw [upd_ne (ne_of_none ho hD), upd_ne (ne_of_none ho (e.free hd))]
          exact e b o ho
        · have := T4.snoc (a := d) (r := fn rows i) upd_same fr.2 fr.1
          rw [List.map_append] at this
          rw [List.take_add_one, fn_at hi]
          exact this
      · obtain ⟨e, as', T3⟩ := h
        rw [List.length_map, T2.len, List.take_length] at T3
        show M _ _
        rw [hM]
        exact ⟨D, as', rfl, e, T3⟩
    rw [hM] at h
    clear hM M
    obtain ⟨hd, hs, rfl, e3, TH⟩ := h
    -- the law's own
    obtain ⟨M, hM⟩ : ∃ M : L2.St → Hp → Prop, M = (fun σ H4 => ∃ du us, σ = [some (.ref a), some (.ref t), some (.ref hd), none, some (.ref du), none, none, none, none, none, none, none] ∧ Same H3 H4 ∧ Tbl H4 du us (mutL rows)) := ⟨_, rfl⟩
    refine ⟨M, ?_, fun σ H4 h => ?_⟩
    · simp only [tRaiseErr, tMkErr, tCallS, WE, tLenSetI, cx_K, cx_w, wipe, Int.zero_add, Bool.false_eq_true, if_false, if_true, Bool.not_true, Bool.not_false, tSeq, tAsg, tOp, tVar, tC, tRet, tRetN, tNext, tDrop, tIfS, tB, tTest, tIf, tAnd, tOr, tNot, tAndV, tOrV, tNotV, tUn, tCons, tNil, tCall, tCB, tBM, tBM0, tNoPart, tPart, tSl, tCont, tNever, tTup, tLst, gName, gNil, gCons, gTup, gSub, rI, rI0, rU, rEq, rNe, rIxL, rSlL, rSetL, rLn, rLs, rTs, rIn, rSet0, tSAdd, rSAdd, rSIn, rSNotIn, rRep, rCat, rAppend, rPop, rPopAt, iList, iRng1, iRng2, iEnum, gTup, tIsN, tNotN, tTru, tLstRg, tRg1, tRg2, L2.start, List.map_cons, List.map_nil, List.length_cons, List.length_nil, List.replicate, List.cons_append, List.nil_append, List.getElem?_cons_zero, List.getElem?_cons_succ, List.set_cons_zero, List.set_cons_succ, Option.some.injEq, exists_eq_left', V.int.injEq, V.ref.injEq, V.bl.injEq, List.cons.injEq, exists_and_left, exists_and_right, and_true, true_and, exists_eq_left, exists_eq, Nat.reduceAdd, Nat.reduceSub]
      refine ⟨t, as, rows, rfl, T1.same e3, g, by omega, fun H4 r rs e _ _ TR => ?_⟩
      rw [hM]
      exact ⟨r, rs, rfl, e, TR⟩
    rw [hM] at h
    clear hM M
    obtain ⟨du, us, rfl, e4, TU⟩ := h
    -- the program's
    obtain ⟨M, hM⟩ : ∃ M : L2.St → Hp → Prop, M = (fun σ H5 => ∃ f fs, σ = [some (.ref a), some (.ref t), some (.ref hd), none, some (.ref du), some (.ref f), none, none, none, none, none, none] ∧ Same H4 H5 ∧ H4 f = none ∧ (∀ b ∈ fs, H4 b = none) ∧ Tbl H5 f fs (mutL rows)) := ⟨_, rfl⟩
    refine ⟨M, ?_, fun σ H5 h => ?_⟩
    · simp only [tRaiseErr, tMkErr, tCallS, WE, tLenSetI, cx_K, cx_w, wipe, Int.zero_add, Bool.false_eq_true, if_false, if_true, Bool.not_true, Bool.not_false, tSeq, tAsg, tOp, tVar, tC, tRet, tRetN, tNext, tDrop, tIfS, tB, tTest, tIf, tAnd, tOr, tNot, tAndV, tOrV, tNotV, tUn, tCons, tNil, tCall, tCB, tBM, tBM0, tNoPart, tPart, tSl, tCont, tNever, tTup, tLst, gName, gNil, gCons, gTup, gSub, rI, rI0, rU, rEq, rNe, rIxL, rSlL, rSetL, rLn, rLs, rTs, rIn, rSet0, tSAdd, rSAdd, rSIn, rSNotIn, rRep, rCat, rAppend, rPop, rPopAt, iList, iRng1, iRng2, iEnum, gTup, tIsN, tNotN, tTru, tLstRg, tRg1, tRg2, L2.start, List.map_cons, List.map_nil, List.length_cons, List.length_nil, List.replicate, List.cons_append, List.nil_append, List.getElem?_cons_zero, List.getElem?_cons_succ, List.set_cons_zero, List.set_cons_succ, Option.some.injEq, exists_eq_left', V.int.injEq, V.ref.injEq, V.bl.injEq, List.cons.injEq, exists_and_left, exists_and_right, and_true, true_and, exists_eq_left, exists_eq, Nat.reduceAdd, Nat.reduceSub]
      refine ⟨_, rfl, .inl ⟨hd, hs, rows, rfl, TH.same e4, g, by omega, fun H5 p fs e hp hps TF => ?_⟩⟩
      rw [hM]
      exact ⟨p, fs, rfl, e, hp, hps, TF⟩
    rw [hM] at h
    clear hM M
    obtain ⟨f, fs, rfl, e5, hf, hfs, TF⟩ := h
    have TT5 : Tbl H5 t as rows := T1.same (e3.trans (e4.trans e5))
    have TH5 : Tbl H5 hd hs rows := TH.same (e4.trans e5)
    have TU5 : Tbl H5 du us (mutL rows) := TU.same e5
    -- what is told
    refine ⟨fun σ H6 => σ = [some (.ref a), some (.ref t), some (.ref hd), none, some (.ref du), some (.ref f), none, none, none, none, none, none] ∧ H6 = H5, ?_, fun σ H6 h => ?_⟩
    · simp only [tRaiseErr, tMkErr, tCallS, WE, tLenSetI, cx_K, cx_w, wipe, Int.zero_add, Bool.false_eq_true, if_false, if_true, Bool.not_true, Bool.not_false, tSeq, tAsg, tOp, tVar, tC, tRet, tRetN, tNext, tDrop, tIfS, tB, tTest, tIf, tAnd, tOr, tNot, tAndV, tOrV, tNotV, tUn, tCons, tNil, tCall, tCB, tBM, tBM0, tNoPart, tPart, tSl, tCont, tNever, tTup, tLst, gName, gNil, gCons, gTup, gSub, rI, rI0, rU, rEq, rNe, rIxL, rSlL, rSetL, rLn, rLs, rTs, rIn, rSet0, tSAdd, rSAdd, rSIn, rSNotIn, rRep, rCat, rAppend, rPop, rPopAt, iList, iRng1, iRng2, iEnum, gTup, tIsN, tNotN, tTru, tLstRg, tRg1, tRg2, L2.start, List.map_cons, List.map_nil, List.length_cons, List.length_nil, List.replicate, List.cons_append, List.nil_append, List.getElem?_cons_zero, List.getElem?_cons_succ, List.set_cons_zero, List.set_cons_succ, Option.some.injEq, exists_eq_left', V.int.injEq, V.ref.injEq, V.bl.injEq, List.cons.injEq, exists_and_left, exists_and_right, and_true, true_and, exists_eq_left, exists_eq, Nat.reduceAdd, Nat.reduceSub]
      refine isi (.base (.lst TF.top)) (b := true) (by decide +kernel) ⟨true, rfl, iteF (ne_tbl TF TU5 ⟨_, rfl, ?_⟩)⟩
      rw [decide_eq_true rfl]
      refine iteF (ne_tbl TH5 TT5 ⟨_, rfl, ?_⟩)
      rw [decide_eq_true rfl]
      exact iteF rfl
    obtain ⟨rfl, rfl⟩ := h
    -- what is told is changed
    have ap := fun {t : Addr} {as : List Addr} {rows : List (List Nat)} (T : Tbl H4 t as rows) => T.apart hfs
    obtain ⟨M, hM⟩ : ∃ M : L2.St → Hp → Prop, M = (fun σ H7 => (∃ y, σ = [some (.ref a), some (.ref t), some (.ref hd), y, some (.ref du), some (.ref f), none, none, none, none, none, none]) ∧ ∀ b o, b ∉ fs → H6 b = some o → H7 b = some o) := ⟨_, rfl⟩
    refine ⟨M, ?_, fun σ H7 h => ?_⟩
    · have TF6 := TF
      have ff : f ∉ fs := TF6.out
      refine ⟨.ref f, rfl, f, rfl, ⟨_, SqL.of TF6.top⟩, for_list (K := K) (xs := fs.map V.ref) (fun i σ H7 => (∃ y, σ = [some (.ref a), some (.ref t), some (.ref hd), y, some (.ref du), some (.ref f), none, none, none, none, none, none]) ∧ (∀ b o, b ∉ fs → H6 b = some o → H7 b = some o) ∧ ∀ b ∈ fs, ∃ xs, H7 b = some (.lst xs) ∧ xs.length ≤ 100 + i)
        ⟨⟨none, rfl⟩, fun _ _ _ h => h, fun b hb => ?_⟩ (fun i σ H7 _ h => SqL.of (h.2.1 _ _ ff TF6.top)) (fun i x σ H7 hx h => ?_) (fun σ H7 h => by show M _ _; rw [hM]; exact ⟨h.1, h.2.1⟩)⟩
      · obtain ⟨j, hj⟩ := List.mem_iff_getElem?.mp hb
        have hjn : j < rows.length := by
          have := (List.getElem?_eq_some_iff.mp hj).1
          rw [TF6.len, mutL_len] at this; exact this
        refine ⟨_, TF6.row j b _ hj (mutL_at hjn), ?_⟩
        rw [List.length_map]
        have : (mutF rows j).length ≤ (fn rows j).length := List.length_filter_le _ _
        have := g.len j
        omega
      · obtain ⟨⟨y, rfl⟩, k1, k2⟩ := h
        rw [List.getElem?_map] at hx
        obtain ⟨b, hb, rfl⟩ := Option.map_eq_some_iff.mp hx
        have hbm := List.mem_of_getElem? hb
        obtain ⟨xs, hxs, hl⟩ := k2 b hbm
        have hin : i < rows.length := by
          have := (List.getElem?_eq_some_iff.mp hb).1
          rw [TF6.len, mutL_len] at this; exact this
        simp only [tRaiseErr, tMkErr, tCallS, WE, tLenSetI, cx_K, cx_w, wipe, Int.zero_add, Bool.false_eq_true, if_false, if_true, Bool.not_true, Bool.not_false, tSeq, tAsg, tOp, tVar, tC, tRet, tRetN, tNext, tDrop, tIfS, tB, tTest, tIf, tAnd, tOr, tNot, tAndV, tOrV, tNotV, tUn, tCons, tNil, tCall, tCB, tBM, tBM0, tNoPart, tPart, tSl, tCont, tNever, tTup, tLst, gName, gNil, gCons, gTup, gSub, rI, rI0, rU, rEq, rNe, rIxL, rSlL, rSetL, rLn, rLs, rTs, rIn, rSet0, tSAdd, rSAdd, rSIn, rSNotIn, rRep, rCat, rAppend, rPop, rPopAt, iList, iRng1, iRng2, iEnum, gTup, tIsN, tNotN, tTru, tLstRg, tRg1, tRg2, L2.start, List.map_cons, List.map_nil, List.length_cons, List.length_nil, List.replicate, List.cons_append, List.nil_append, List.getElem?_cons_zero, List.getElem?_cons_succ, List.set_cons_zero, List.set_cons_succ, Option.some.injEq, exists_eq_left', V.int.injEq, V.ref.injEq, V.bl.injEq, List.cons.injEq, exists_and_left, exists_and_right, and_true, true_and, exists_eq_left, exists_eq, Nat.reduceAdd, Nat.reduceSub]
        refine ⟨.inl ⟨rfl, _, SqL.of hxs⟩, xs, hxs, small (by omega), ⟨_, rfl⟩, fun b' o nb hb' => ?_, fun b' hb' => ?_⟩
        · rw [upd_ne (show b' ≠ b from fun z => nb (by rw [z]; exact hbm))]
          exact k1 b' o nb hb'
        · by_cases z : b' = b
          · subst z
            exact ⟨_, upd_same, by rw [List.length_append, List.length_singleton]; omega⟩
          · obtain ⟨xs', h1, h2⟩ := k2 b' hb'
            exact ⟨xs', by rw [upd_ne z]; exact h1, by omega⟩
    rw [hM] at h
    clear hM M
    obtain ⟨⟨y4, rfl⟩, k⟩ := h
    have TT7 : Tbl H7 t as rows := TT5.but k (ap (T1.same (e3.trans e4))).1 (ap (T1.same (e3.trans e4))).2
    have TH7 : Tbl H7 hd hs rows := TH5.but k (ap (TH.same e4)).1 (ap (TH.same e4)).2
    have TU7 : Tbl H7 du us (mutL rows) := TU5.but k (ap TU).1 (ap TU).2
    have hS7 : SqL K H7 a (ns.map V.int) := by
      rcases (e3.trans e4).seq hS1 with (z | ⟨o, z⟩) | z
      · exact .inl (.inl (k _ _ (fun m => by rw [hfs a m] at z; cases z) (e5 _ _ z)))
      · exact .inl (.inr ⟨o, k _ _ (fun m => by rw [hfs a m] at z; cases z) (e5 _ _ z)⟩)
      · exact .inr z
    -- asked again
    obtain ⟨M, hM⟩ : ∃ M : L2.St → Hp → Prop, M = (fun σ H8 => σ = [some (.ref a), some (.ref t), some (.ref hd), y4, some (.ref du), some (.ref f), none, none, none, none, none, none] ∧ Same H7 H8) := ⟨_, rfl⟩
    refine ⟨M, ?_, fun σ H8 h => ?_⟩
    · simp only [tRaiseErr, tMkErr, tCallS, WE, tLenSetI, cx_K, cx_w, wipe, Int.zero_add, Bool.false_eq_true, if_false, if_true, Bool.not_true, Bool.not_false, tSeq, tAsg, tOp, tVar, tC, tRet, tRetN, tNext, tDrop, tIfS, tB, tTest, tIf, tAnd, tOr, tNot, tAndV, tOrV, tNotV, tUn, tCons, tNil, tCall, tCB, tBM, tBM0, tNoPart, tPart, tSl, tCont, tNever, tTup, tLst, gName, gNil, gCons, gTup, gSub, rI, rI0, rU, rEq, rNe, rIxL, rSlL, rSetL, rLn, rLs, rTs, rIn, rSet0, tSAdd, rSAdd, rSIn, rSNotIn, rRep, rCat, rAppend, rPop, rPopAt, iList, iRng1, iRng2, iEnum, gTup, tIsN, tNotN, tTru, tLstRg, tRg1, tRg2, L2.start, List.map_cons, List.map_nil, List.length_cons, List.length_nil, List.replicate, List.cons_append, List.nil_append, List.getElem?_cons_zero, List.getElem?_cons_succ, List.set_cons_zero, List.set_cons_succ, Option.some.injEq, exists_eq_left', V.int.injEq, V.ref.injEq, V.bl.injEq, List.cons.injEq, exists_and_left, exists_and_right, and_true, true_and, exists_eq_left, exists_eq, Nat.reduceAdd, Nat.reduceSub]
      refine ⟨_, rfl, .inl ⟨hd, hs, rows, rfl, TH7, g, by omega, fun H8 p ps e8 _ _ TP => ?_⟩⟩
      refine ne_tbl TP (TU7.same e8) ⟨_, rfl, ?_⟩
      rw [decide_eq_true rfl]
      refine iteF ⟨0, _, rfl, .inr ⟨t, as, rows, rfl, rfl, TT7.same e8, g, by omega, fun H9 e9 => ?_⟩⟩
      refine ⟨rfl, ?_⟩
      rw [decide_eq_true rfl]
      refine iteF ?_
      rw [hM]
      exact ⟨rfl, e8.trans e9⟩
    rw [hM] at h
    clear hM M
    obtain ⟨rfl, e8⟩ := h
    have TT8 := TT7.same e8
    have hS8 := e8.seq hS7
    -- what is no list of lists, and too many
    obtain ⟨M, hM⟩ : ∃ M : L2.St → Hp → Prop, M = (fun σ H9 => (∃ y1 y2, σ = [some (.ref a), some (.ref t), some (.ref hd), y4, some (.ref du), some (.ref f), y1, y2, none, none, none, none]) ∧ Same H8 H9) := ⟨_, rfl⟩
    refine ⟨M, ?_, fun σ H9 h => ?_⟩
    · refine ⟨12, rfl, by decide, by decide, for_rng 12 (by decide) (fun i σ H9 => (∃ y1 y2, σ = [some (.ref a), some (.ref t), some (.ref hd), y4, some (.ref du), some (.ref f), y1, y2, none, none, none, none]) ∧ Same H8 H9) ⟨⟨none, none, rfl⟩, Same.refl _⟩ (fun i σ H9 hi h => ?_) (fun σ H9 h => by show M _ _; rw [hM]; exact h)⟩
      obtain ⟨⟨y1, y2, rfl⟩, e9⟩ := h
      obtain ⟨M2, hM2⟩ : ∃ M : L2.St → Hp → Prop, M = (fun σ H10 => (∃ y1 y2, σ = [some (.ref a), some (.ref t), some (.ref hd), y4, some (.ref du), some (.ref f), y1, y2, none, none, none, none]) ∧ Same H8 H10) := ⟨_, rfl⟩
      rw [← hM2]
      have TT9 := TT8.same e9
      have w1 := Int.emod_nonneg ((ns.length : Int) + (i : Int)) (show (5 : Int) ≠ 0 by decide)
      have w2 := Int.emod_lt_of_pos ((ns.length : Int) + (i : Int)) (show (0 : Int) < 5 by decide)
      simp only [tRaiseErr, tMkErr, tCallS, WE, tLenSetI, cx_K, cx_w, wipe, Int.zero_add, Bool.false_eq_true, if_false, if_true, Bool.not_true, Bool.not_false, tSeq, tAsg, tOp, tVar, tC, tRet, tRetN, tNext, tDrop, tIfS, tB, tTest, tIf, tAnd, tOr, tNot, tAndV, tOrV, tNotV, tUn, tCons, tNil, tCall, tCB, tBM, tBM0, tNoPart, tPart, tSl, tCont, tNever, tTup, tLst, gName, gNil, gCons, gTup, gSub, rI, rI0, rU, rEq, rNe, rIxL, rSlL, rSetL, rLn, rLs, rTs, rIn, rSet0, tSAdd, rSAdd, rSIn, rSNotIn, rRep, rCat, rAppend, rPop, rPopAt, iList, iRng1, iRng2, iEnum, gTup, tIsN, tNotN, tTru, tLstRg, tRg1, tRg2, L2.start, List.map_cons, List.map_nil, List.length_cons, List.length_nil, List.replicate, List.cons_append, List.nil_append, List.getElem?_cons_zero, List.getElem?_cons_succ, List.set_cons_zero, List.set_cons_succ, Option.some.injEq, exists_eq_left', V.int.injEq, V.ref.injEq, V.bl.injEq, List.cons.injEq, exists_and_left, exists_and_right, and_true, true_and, exists_eq_left, exists_eq, Nat.reduceAdd, Nat.reduceSub]
      refine ⟨_, .inl ⟨SqL.of TT9.top, fun l hl => ?_⟩⟩
      intro d hd0
      refine ⟨by decide, fun p hp => ⟨_, .inl (((same_upd hp).seq ((same_upd hd0).seq ((same_upd hl).seq (e9.seq hS8))))), by decide, _, SqL.of upd_same, ?_⟩⟩
      have s1 := same_upd (o := .tup (as.map V.ref)) hl
      have l1 : upd H9 l (.tup (as.map V.ref)) l = some (.tup (as.map V.ref)) := upd_same
      generalize upd H9 l (.tup (as.map V.ref)) = H10 at s1 l1 hd0 hp ⊢
      have s2 := same_upd (o := .dK []) hd0
      have d2 : upd H10 d (.dK []) d = some (.dK []) := upd_same
      generalize upd H10 d (.dK []) = H11 at s2 d2 hp ⊢
      have s3 := same_upd (o := .lst [.non, .ref l, .ref d, .str "", .int 5]) hp
      generalize upd H11 p (.lst [.non, .ref l, .ref d, .str "", .int 5]) = H12 at s3 ⊢
      have e12 : Same H9 H12 := (s1.trans s2).trans s3
      have kf : ∀ y : V, flatV y = true → isNumV y = false ∨ True → ∃ n, Kd K H12 y n ∧ n ≠ "list" := fun y hy _ => kd_flat hy
      have fin : ∀ x : V, (∃ n, Kd K H12 x n ∧ n ≠ "list") → sp_refused K [x, .int i] H12 (fun x H1 => if (!decide (x = V.non)) = true then Q (.bl false) H1 else
          tLc (iRng1 (tCons (tOp (rI0 fun i j => V.int (i - j)) (tC (V.int 61)) (tCB (rLn K) (tCons (tVar 1) tNil))) tNil)) (gName 7) tYes (tLst tNil) [7] [some (.ref a), some (.ref t), some (.ref hd), y4, some (.ref du), some (.ref f), some (.int i), y2, none, none, none, none] H1 fun y H2 =>
            ∃ x, y = V.ref x ∧ ∃ x_4, H2 t = some (.lst x_4) ∧ ∃ x_5, H2 x = some (.lst x_5) ∧ x_4.length + x_5.length ≤ sizeLine ∧ ∀ p, H2 p = none → sp_refused K [V.ref p, .int i] (upd H2 p (.lst (x_4 ++ x_5))) (fun x H1 => if (!decide (x = V.non)) = true then Q (.bl false) H1 else M2 [some (.ref a), some (.ref t), some (.ref hd), y4, some (.ref du), some (.ref f), some (.int i), y2, none, none, none, none] H1) E0) E0 := fun x hx => by
        refine ⟨i, x, rfl, .inl ⟨.non, .inr ⟨rfl, .inl hx⟩, fun H13 e13 => ?_⟩⟩
        show (if (!decide (V.non = V.non)) = true then _ else _)
        rw [decide_eq_true rfl]
        refine iteF ?_
        have e913 := e12.trans e13
        have T13 := TT9.same e913
        refine ⟨_, rfl, t, _, rfl, .inl (SqL.of T13.top), 61, _, rfl, rfl, _, rfl, by rw [List.length_map, T13.len]; omega, by rw [List.length_map, T13.len]; omega, fun D hD => lc_rng (61 - rows.length) (by rw [List.length_map, T13.len]; omega)
          (fun i H3 => Same H13 H3 ∧ ∃ xs, H3 D = some (.lst xs) ∧ xs.length = i) ⟨same_upd hD, [], upd_same, rfl⟩ (fun j H3 hj h => ?_) (fun H3 h => ?_)⟩
        · obtain ⟨e14, xs, hxs, hxl⟩ := h
          refine ⟨rfl, yesI ?_⟩
          refine R_lst (R_nil ⟨by decide, fun b hb => ⟨xs, ?_, ?_, ?_, xs ++ [.ref b], upd_same, ?_⟩⟩)
          · rw [upd_ne (ne_of_none hxs hb)]; exact hxs
          · exact small (by omega)
          · intro b' o ho
            rw [upd_ne (ne_of_none ho hD), upd_ne (ne_of_none (e14 _ _ ho) hb)]
            exact e14 _ _ ho
          · rw [List.length_append, hxl]; rfl
        · obtain ⟨e14, xs, hxs, hxl⟩ := h
          refine ⟨D, rfl, _, e14 _ _ T13.top, xs, hxs, Nat.le_of_lt (small (by rw [List.length_map, T13.len]; omega)), fun p2 hp2 => ?_⟩
          refine ⟨i, _, rfl, .inl ⟨.non, .inr ⟨rfl, .inr ⟨p2, _, rfl, upd_same, ?_⟩⟩, fun H15 e15 => ?_⟩⟩
          · rw [List.length_append, List.length_map, T13.len]; omega
          · show (if (!decide (V.non = V.non)) = true then _ else _)
            rw [decide_eq_true rfl]
            refine iteF ?_
            rw [hM2]
            exact ⟨⟨_, _, rfl⟩, ((e9.trans (e913.trans e14)).trans (same_upd hp2)).trans e15⟩
      rcases (show ((ns.length : Int) + (i : Int)) % 5 = 0 ∨ ((ns.length : Int) + (i : Int)) % 5 = 1 ∨ ((ns.length : Int) + (i : Int)) % 5 = 2 ∨ ((ns.length : Int) + (i : Int)) % 5 = 3 ∨ ((ns.length : Int) + (i : Int)) % 5 = 4 by omega) with z | z | z | z | z <;> rw [List.length_map, z]
      · exact ⟨_, atI_nat (j := 0) rfl, fin _ (kf _ rfl (.inr trivial))⟩
      · exact ⟨_, atI_nat (j := 1) rfl, fin _ ⟨"tuple", kd_tup (s3 _ _ (s2 _ _ l1)), by decide⟩⟩
      · exact ⟨_, atI_nat (j := 2) rfl, fin _ ⟨"dict", kd_dict (s3 _ _ d2), by decide⟩⟩
      · exact ⟨_, atI_nat (j := 3) rfl, fin _ (kf _ rfl (.inr trivial))⟩
      · exact ⟨_, atI_nat (j := 4) rfl, fin _ (kf _ rfl (.inr trivial))⟩
    rw [hM] at h
    clear hM M
    obtain ⟨⟨y1, y2, rfl⟩, e9⟩ := h
    have TT9 := TT8.same e9
    have hS9 := e9.seq hS8
    obtain ⟨m, hm⟩ : ∃ m, m = min ns.length 8 := ⟨_, rfl⟩
    refine ⟨fun _ _ => True, ?_, fun σ H10 _ => q _⟩
    refine ⟨.ref a, rfl, a, _, rfl, .inl hS9, ns.length, 8, by rw [List.length_map], _, rfl, by split <;> omega, by split <;> omega, for_rng m (by split <;> omega)
      (fun i σ H10 => (∃ y1 y2 y3 y4' y5 y6, σ = [some (.ref a), some (.ref t), some (.ref hd), y4, some (.ref du), some (.ref f), y1, y2, y3, y4', y5, y6]) ∧ Same H9 H10) ⟨⟨_, _, _, _, _, _, rfl⟩, Same.refl _⟩ (fun i σ H10 hi h => ?_) (fun σ H10 h => trivial)⟩
    obtain ⟨⟨z1, z2, z3, z4, z5, z6, rfl⟩, e10⟩ := h
    obtain ⟨M2, hM2⟩ : ∃ M : L2.St → Hp → Prop, M = (fun σ H10 => (∃ y1 y2 y3 y4' y5 y6, σ = [some (.ref a), some (.ref t), some (.ref hd), y4, some (.ref du), some (.ref f), y1, y2, y3, y4', y5, y6]) ∧ Same H9 H10) := ⟨_, rfl⟩
    rw [← hM2]
    have TT10 := TT9.same e10
    have hS10 := e10.seq hS9
    simp only [tRaiseErr, tMkErr, tCallS, WE, tLenSetI, cx_K, cx_w, wipe, Int.zero_add, Bool.false_eq_true, if_false, if_true, Bool.not_true, Bool.not_false, tSeq, tAsg, tOp, tVar, tC, tRet, tRetN, tNext, tDrop, tIfS, tB, tTest, tIf, tAnd, tOr, tNot, tAndV, tOrV, tNotV, tUn, tCons, tNil, tCall, tCB, tBM, tBM0, tNoPart, tPart, tSl, tCont, tNever, tTup, tLst, gName, gNil, gCons, gTup, gSub, rI, rI0, rU, rEq, rNe, rIxL, rSlL, rSetL, rLn, rLs, rTs, rIn, rSet0, tSAdd, rSAdd, rSIn, rSNotIn, rRep, rCat, rAppend, rPop, rPopAt, iList, iRng1, iRng2, iEnum, gTup, tIsN, tNotN, tTru, tLstRg, tRg1, tRg2, L2.start, List.map_cons, List.map_nil, List.length_cons, List.length_nil, List.replicate, List.cons_append, List.nil_append, List.getElem?_cons_zero, List.getElem?_cons_succ, List.set_cons_zero, List.set_cons_succ, Option.some.injEq, exists_eq_left', V.int.injEq, V.ref.injEq, V.bl.injEq, List.cons.injEq, exists_and_left, exists_and_right, and_true, true_and, exists_eq_left, exists_eq, Nat.reduceAdd, Nat.reduceSub]
    refine ⟨by decide, fun p hp => ?_⟩
    have sp := same_upd (o := .lst []) hp
    refine ne_tbl (TT10.same sp) (Tbl.nil upd_same) ⟨_, rfl, ?_⟩
    by_cases hre : rows = []
    · rw [decide_eq_true hre]
      refine iteF ?_
      rw [hM2]
      exact ⟨⟨_, _, _, _, _, _, rfl⟩, e10.trans sp⟩
    rw [decide_eq_false hre]
    refine iteT ?_
    have rl : 0 < rows.length := (by cases rows with | nil => exact absurd rfl hre | cons _ _ => simp)
    have his : i < ns.length := by omega
    generalize upd H10 p (.lst []) = H11 at sp ⊢
    have e11 := e10.trans sp
    have TT11 := TT9.same e11
    have hS11 := e11.seq hS9
    obtain ⟨num, hnum⟩ : ∃ num, num = mixed ns[i] 4 := ⟨_, rfl⟩
    have hle : ((as.map V.ref).length : Int) = (rows.length : Int) := by rw [List.length_map, TT11.len]
    refine ⟨_, hS11, .int ns[i], atI_nat (by rw [List.getElem?_map, List.getElem?_eq_getElem his]; rfl), ns[i], 4, rfl, by decide, by decide, ?_⟩
    rw [← hnum]
    refine ⟨_, .inl (SqL.of TT11.top), num, rfl, by omega, num, rfl, ⟨by decide, by decide⟩, ?_⟩
    rw [hle]
    have d1 := Int.emod_nonneg num (show (rows.length : Int) ≠ 0 by omega)
    have d2 := Int.emod_lt_of_pos num (show (0 : Int) < (rows.length : Int) by omega)
    obtain ⟨u, hu⟩ := Int.eq_ofNat_of_zero_le d1
    rw [hu] at d2 ⊢
    have hun : u < rows.length := by omega
    refine ⟨t, as, rows, u, _, rfl, TT11, g, by omega, hun, fun H12 D x e12 hD hDx hRx => ?_⟩
    have TT12 := TT11.same e12
    refine ⟨num, rfl, ⟨by decide, by decide⟩, _, .inl (SqL.of TT12.top), by omega, ?_⟩
    rw [hle]
    have hk := e11.trans e12
    -- refused, both times
    have bad : ∀ (H' : Hp) (ys : List V), H' D = some (.lst ys) → Same H11 H' → ys.length = rows.length → ys[u]? = some x → RowIs K H' x u rows.length false → (∀ j y, j ≠ u → ys[j]? = some y → ys[j]? = (as.map V.ref)[j]? ∨ (u < j ∧ y = .non)) → ListsBad K H' (.ref D) (nv u) := fun H' ys h1 h2 h3 h4 h5 h6 => by
      refine .inl ⟨D, ys, fun j => decide (j ≠ u ∧ ys[j]? = (as.map V.ref)[j]?), u, rfl, h1, by omega, fun j y hj => ?_, by omega, decide_eq_false (fun z => z.1 rfl), fun j hj => ?_, rfl⟩
      · rw [h3]
        by_cases hju : j = u
        · subst hju
          rw [h4] at hj
          cases hj
          show RowIs K H' _ _ _ (decide _)
          rw [decide_eq_false (fun z => z.1 rfl)]
          exact h5
        · rcases h6 j y hju hj with z | ⟨z1, z2⟩
          · show RowIs K H' _ _ _ (decide _)
            rw [decide_eq_true ⟨hju, z⟩]
            rw [z, List.getElem?_map] at hj
            obtain ⟨b, hb, rfl⟩ := Option.map_eq_some_iff.mp hj
            have hjn : j < rows.length := by
              have := (List.getElem?_eq_some_iff.mp hb).1
              rw [TT11.len] at this; exact this
            refine .inl ⟨b, _, rfl, h2 _ _ (TT11.row j b _ hb (fn_at hjn)), fun y hy => ?_, by rw [List.length_map]; have := g.len j; omega, ?_⟩
            · obtain ⟨k, z, _⟩ := kd_flat (K := K) (H := H') (List.all_eq_true.mp (flat_nv _) y hy)
              exact ⟨k, z⟩
            · exact (rowB_good (g.nd j) (fun x hx => (g.lt hx).2) (fun x _ z => by simp at z)).symm
          · subst z2
            have : ¬ (j ≠ u ∧ ys[j]? = (as.map V.ref)[j]?) := fun ⟨_, e⟩ => by
              rw [hj, List.getElem?_map] at e
              obtain ⟨b, _, hb⟩ := Option.map_eq_some_iff.mp e.symm
              cases hb
            show RowIs K H' _ _ _ (decide _)
            rw [decide_eq_false this]
            obtain ⟨k, k1, k2⟩ := kd_flat (K := K) (H := H') (x := V.non) rfl
            exact .inr ⟨k, k1, k2, rfl⟩
      · refine decide_eq_true ⟨by omega, ?_⟩
        have hjl : j < ys.length := by omega
        rcases h6 j ys[j] (by omega) (List.getElem?_eq_getElem hjl) with z | ⟨z, _⟩
        · exact z
        · omega
    have fin : ∀ (H' : Hp) (o : Int), Same H9 H' → ListsBad K H' (.ref D) (nv u) → sp_refused K [.ref D, .int 0] H' (fun x_7 H1 => scal x_7 (V.int u) = true ∧ if (!decide (x_7 = V.int u)) = true then Q (.bl false) H1 else
        ∃ i_4, V.int num = V.int i_4 ∧ (0 : Int) < 11 ∧ sp_refused K [.ref D, .int (1 + (i_4 + i) % 11)] H1 (fun x_8 H1 => scal x_8 (V.int u) = true ∧ if (!decide (x_8 = V.int u)) = true then Q (.bl false) H1 else M2 [some (.ref a), some (.ref t), some (.ref hd), y4, some (.ref du), some (.ref f), z1, some (.int i), some (.int num), some (.int u), some (.ref D), some (.int o)] H1) E0) E0 := fun H' o e hb => by
      refine ⟨0, _, rfl, .inl ⟨nv u, hb, fun H2 e2 => ⟨rfl, ?_⟩⟩⟩
      show (if (!decide (nv u = nv u)) = true then _ else _)
      rw [decide_eq_true rfl]
      refine iteF ⟨num, rfl, by decide, _, _, rfl, .inl ⟨nv u, hb.same e2, fun H3 e3 => ⟨rfl, ?_⟩⟩⟩
      show (if (!decide (nv u = nv u)) = true then _ else _)
      rw [decide_eq_true rfl]
      refine iteF ?_
      rw [hM2]
      exact ⟨⟨_, _, _, _, _, _, rfl⟩, (e.trans e2).trans e3⟩
    have d3 := Int.emod_nonneg (num / 1009) (show (rows.length : Int) ≠ 0 by omega)
    have d4 := Int.emod_lt_of_pos (num / 1009) (show (0 : Int) < (rows.length : Int) by omega)
    obtain ⟨o, ho⟩ := Int.eq_ofNat_of_zero_le d3
    rw [ho] at d4 ⊢
    have hon : o < rows.length := by omega
    have hal : u < (as.map V.ref).length := by rw [List.length_map, TT11.len]; exact hun
    have gu : ((as.map V.ref).set u x)[u]? = some x := by rw [List.getElem?_set_self hal]
    refine ite2 (fun z => ?_) (fun z => ?_)
    · have huo : u < o := by have := of_decide_eq_true z; omega
      refine ⟨D, rfl, _, hDx, o, ixN_nat (by rw [List.length_set, List.length_map, TT11.len]; exact hon), ?_⟩
      have sn : Same H11 (upd H12 D (.lst (((as.map V.ref).set u x).set o .non))) := fun b o ho => by
        rw [upd_ne (ne_of_none ho hD)]
        exact e12 b o ho
      refine fin _ _ (e11.trans sn) (bad _ _ upd_same sn (by rw [List.length_set, List.length_set, List.length_map, TT11.len]) ?_ ?_ fun j y hj hy => ?_)
      · rw [List.getElem?_set_ne (by omega)]; exact gu
      · exact hRx _ fun b o hb ho => by rw [upd_ne hb]; exact ho
      · by_cases hjo : j = o
        · subst hjo
          rw [List.getElem?_set_self (by rw [List.length_set, List.length_map, TT11.len]; exact hon)] at hy
          cases hy
          exact .inr ⟨huo, rfl⟩
        · rw [List.getElem?_set_ne (by omega), List.getElem?_set_ne (by omega)] at hy ⊢
          exact .inl rfl
    · refine fin _ _ hk (bad _ _ hDx e12 (by rw [List.length_set, List.length_map, TT11.len]) gu (hRx _ fun _ _ _ h => h) fun j y hj hy => ?_)
      rw [List.getElem?_set_ne (by omega)] at hy ⊢
      exact .inl rfl
end
end K1

set_option Elab.async false
set_option linter.all false
set_option maxRecDepth 100000
set_option maxHeartbeats 4000000
namespace K1
open PySem PySem.Spec PyProof.Rows L2 LamX Bk
theorem tab_nil {H : Hp} {P0 : Addr} {q : Str} (h : H P0 = some (.tbl #[])) : TabS H P0 q := ⟨#[], h, trivial, fun pos cv hc => by cases hc⟩
theorem all_mk {l : PySem.W.OpenLaw} {w : World} {K : PySem.W.Frag} {h : Heap} {mg : Str → Option Value} {fa : Addr} (X : K.In h) (G : h.Ns mainGlobals mg) (hfa : mg "law" = some (.ref fa)) {P0 c : Addr} (hP : h.get? P0 = some { cls := .none, data := .fields #[] })
    {od0 an0 : Option Addr} {sl0 : Array (Option Value)} {oc0 kV0 dc0 pm0 cd0 ct0 : Value} {f0 : Addr}
    {od1 an1 : Option Addr} {sl1 : Array (Option Value)} {oc1 kV1 dc1 pm1 cd1 ct1 : Value} {f1 : Addr}
    {od2 an2 : Option Addr} {sl2 : Array (Option Value)} {oc2 kV2 dc2 pm2 cd2 ct2 : Value} {f2 : Addr}
    {od3 an3 : Option Addr} {sl3 : Array (Option Value)} {oc3 kV3 dc3 pm3 cd3 ct3 : Value} {f3 : Addr}
    {od4 an4 : Option Addr} {sl4 : Array (Option Value)} {oc4 kV4 dc4 pm4 cd4 ct4 : Value} {f4 : Addr}
    {od5 an5 : Option Addr} {sl5 : Array (Option Value)} {oc5 kV5 dc5 pm5 cd5 ct5 : Value} {f5 : Addr}
    {od6 an6 : Option Addr} {sl6 : Array (Option Value)} {oc6 kV6 dc6 pm6 cd6 ct6 : Value} {f6 : Addr}
    {od7 an7 : Option Addr} {sl7 : Array (Option Value)} {oc7 kV7 dc7 pm7 cd7 ct7 : Value} {f7 : Addr}
    {od8 an8 : Option Addr} {sl8 : Array (Option Value)} {oc8 kV8 dc8 pm8 cd8 ct8 : Value} {f8 : Addr}
    {od9 an9 : Option Addr} {sl9 : Array (Option Value)} {oc9 kV9 dc9 pm9 cd9 ct9 : Value} {f9 : Addr}
    {od10 an10 : Option Addr} {sl10 : Array (Option Value)} {oc10 kV10 dc10 pm10 cd10 ct10 : Value} {f10 : Addr}
    {od11 an11 : Option Addr} {sl11 : Array (Option Value)} {oc11 kV11 dc11 pm11 cd11 ct11 : Value} {f11 : Addr}
    {od12 an12 : Option Addr} {sl12 : Array (Option Value)} {oc12 kV12 dc12 pm12 cd12 ct12 : Value} {f12 : Addr}
    {od13 an13 : Option Addr} {sl13 : Array (Option Value)} {oc13 kV13 dc13 pm13 cd13 ct13 : Value} {f13 : Addr}
    {od14 an14 : Option Addr} {sl14 : Array (Option Value)} {oc14 kV14 dc14 pm14 cd14 ct14 : Value} {f14 : Addr}
    {od15 an15 : Option Addr} {sl15 : Array (Option Value)} {oc15 kV15 dc15 pm15 cd15 ct15 : Value} {f15 : Addr}
    {od16 an16 : Option Addr} {sl16 : Array (Option Value)} {oc16 kV16 dc16 pm16 cd16 ct16 : Value} {f16 : Addr}
    {od17 an17 : Option Addr} {sl17 : Array (Option Value)} {oc17 kV17 dc17 pm17 cd17 ct17 : Value} {f17 : Addr}
    {od18 an18 : Option Addr} {sl18 : Array (Option Value)} {oc18 kV18 dc18 pm18 cd18 ct18 : Value} {f18 : Addr}
    {od19 an19 : Option Addr} {sl19 : Array (Option Value)} {oc19 kV19 dc19 pm19 cd19 ct19 : Value} {f19 : Addr}
    {od20 an20 : Option Addr} {sl20 : Array (Option Value)} {oc20 kV20 dc20 pm20 cd20 ct20 : Value} {f20 : Addr}
    {od21 an21 : Option Addr} {sl21 : Array (Option Value)} {oc21 kV21 dc21 pm21 cd21 ct21 : Value} {f21 : Addr}
    {od22 an22 : Option Addr} {sl22 : Array (Option Value)} {oc22 kV22 dc22 pm22 cd22 ct22 : Value} {f22 : Addr}
    {od23 an23 : Option Addr} {sl23 : Array (Option Value)} {oc23 kV23 dc23 pm23 cd23 ct23 : Value} {f23 : Addr}
    {od24 an24 : Option Addr} {sl24 : Array (Option Value)} {oc24 kV24 dc24 pm24 cd24 ct24 : Value} {f24 : Addr}
    {od25 an25 : Option Addr} {sl25 : Array (Option Value)} {oc25 kV25 dc25 pm25 cd25 ct25 : Value} {f25 : Addr}
    {od26 an26 : Option Addr} {sl26 : Array (Option Value)} {oc26 kV26 dc26 pm26 cd26 ct26 : Value} {f26 : Addr}
    {od27 an27 : Option Addr} {sl27 : Array (Option Value)} {oc27 kV27 dc27 pm27 cd27 ct27 : Value} {f27 : Addr}
    {od28 an28 : Option Addr} {sl28 : Array (Option Value)} {oc28 kV28 dc28 pm28 cd28 ct28 : Value} {f28 : Addr}
    {od29 an29 : Option Addr} {sl29 : Array (Option Value)} {oc29 kV29 dc29 pm29 cd29 ct29 : Value} {f29 : Addr}
    {od30 an30 : Option Addr} {sl30 : Array (Option Value)} {oc30 kV30 dc30 pm30 cd30 ct30 : Value} {f30 : Addr}
    {od31 an31 : Option Addr} {sl31 : Array (Option Value)} {oc31 kV31 dc31 pm31 cd31 ct31 : Value} {f31 : Addr}
    {od32 an32 : Option Addr} {sl32 : Array (Option Value)} {oc32 kV32 dc32 pm32 cd32 ct32 : Value} {f32 : Addr}
    {od33 an33 : Option Addr} {sl33 : Array (Option Value)} {oc33 kV33 dc33 pm33 cd33 ct33 : Value} {f33 : Addr}
    {od34 an34 : Option Addr} {sl34 : Array (Option Value)} {oc34 kV34 dc34 pm34 ct34 : Value} {f34 : Addr}
    {od35 an35 : Option Addr} {sl35 : Array (Option Value)} {oc35 kV35 dc35 pm35 cd35 ct35 : Value} {f35 : Addr}
    {od36 an36 : Option Addr} {sl36 : Array (Option Value)} {oc36 kV36 dc36 pm36 cd36 ct36 : Value} {f36 : Addr}
    {od37 an37 : Option Addr} {sl37 : Array (Option Value)} {oc37 kV37 dc37 pm37 cd37 ct37 : Value} {f37 : Addr}
    {od38 an38 : Option Addr} {sl38 : Array (Option Value)} {oc38 kV38 dc38 pm38 cd38 ct38 : Value} {f38 : Addr}
    {Td38 : Addr} {to38 : Value} {tod38 : Option Addr} {tz38 : Tok} {tn38 : Nat} {tos38 : Array (Option Value)}
    {od39 an39 : Option Addr} {sl39 : Array (Option Value)} {oc39 kV39 dc39 pm39 cd39 ct39 : Value} {f39 : Addr}
    {od40 an40 : Option Addr} {sl40 : Array (Option Value)} {oc40 kV40 dc40 pm40 cd40 ct40 : Value} {f40 : Addr}
    {tm : Tok}
    {tms : Tok}
    {CB CM CL CP : Addr}
    {nmCL qCL : Str} {NCL : Addr} {bsCL bmCL : List Value} {snCL : List Str} {suCL : List Value} {abCL : Bool} {coCL : Option Bool} {ddCL : Option Addr} {u0CL u1CL u2CL u3CL u5CL : Option Value}
    {fiCL cdaCL ccCL : Addr} {ocCL docCL pmCL ctCL cclCL clCL : Value} {odCL anCL cddCL cldCL : Option Addr} {oslCL ccsCL cslCL : Array (Option Value)} {p1CL p2CL q1CL q2CL q3CL q4CL q5CL q6CL q7CL q8CL q9CL r1CL r2CL r3CL r4CL : Pos} {vsCL : Array Value} {fileCL : Str} {tfCL : Tok}
    {nmCP qCP : Str} {NCP : Addr} {bsCP bmCP : List Value} {snCP : List Str} {suCP : List Value} {abCP : Bool} {coCP : Option Bool} {ddCP : Option Addr} {u0CP u1CP u2CP u3CP u5CP : Option Value}
    {fiCP cdaCP ccCP : Addr} {ocCP docCP pmCP ctCP cclCP clCP : Value} {odCP anCP cddCP cldCP : Option Addr} {oslCP ccsCP cslCP : Array (Option Value)} {p1CP p2CP q1CP q2CP q3CP q4CP q5CP q6CP q7CP q8CP q9CP r1CP r2CP r3CP r4CP : Pos} {vsCP : Array Value} {fileCP : Str} {tfCP : Tok}
    (a0 : PySem.W.nsIn K mainGlobals "is_number" = some (some (.ref f0))) (l0 : K.lookup f0 = some ⟨oc0, od0, .func (PySem.W.fnOf "is_number" "is_number" (defArgs s_is_number) (defBody s_is_number) (defScope s_is_number) .none kV0 dc0 pm0 an0 cd0 ct0), sl0⟩) (c0 : PySem.W.codeIn K cd0 "is_number" = true) (k0 : PySem.W.keepIn K (.ref f0) = true)
    (a1 : PySem.W.nsIn K mainGlobals "is_row" = some (some (.ref f1))) (l1 : K.lookup f1 = some ⟨oc1, od1, .func (PySem.W.fnOf "is_row" "is_row" (defArgs s_is_row) (defBody s_is_row) (defScope s_is_row) .none kV1 dc1 pm1 an1 cd1 ct1), sl1⟩) (c1 : PySem.W.codeIn K cd1 "is_row" = true) (k1 : PySem.W.keepIn K (.ref f1) = true)
    (a2 : PySem.W.nsIn K mainGlobals "check_lists" = some (some (.ref f2))) (l2 : K.lookup f2 = some ⟨oc2, od2, .func (PySem.W.fnOf "check_lists" "check_lists" (defArgs s_check_lists) (defBody s_check_lists) (defScope s_check_lists) .none kV2 dc2 pm2 an2 cd2 ct2), sl2⟩) (c2 : PySem.W.codeIn K cd2 "check_lists" = true) (k2 : PySem.W.keepIn K (.ref f2) = true)
    (a3 : PySem.W.nsIn K mainGlobals "places_in" = some (some (.ref f3))) (l3 : K.lookup f3 = some ⟨oc3, od3, .func (PySem.W.fnOf "places_in" "places_in" (defArgs s_places_in) (defBody s_places_in) (defScope s_places_in) .none kV3 dc3 pm3 an3 cd3 ct3), sl3⟩) (c3 : PySem.W.codeIn K cd3 "places_in" = true) (k3 : PySem.W.keepIn K (.ref f3) = true)
    (a4 : PySem.W.nsIn K mainGlobals "mutual" = some (some (.ref f4))) (l4 : K.lookup f4 = some ⟨oc4, od4, .func (PySem.W.fnOf "mutual" "mutual" (defArgs s_mutual) (defBody s_mutual) (defScope s_mutual) .none kV4 dc4 pm4 an4 cd4 ct4), sl4⟩) (c4 : PySem.W.codeIn K cd4 "mutual" = true) (k4 : PySem.W.keepIn K (.ref f4) = true)
    (a5 : PySem.W.nsIn K mainGlobals "is_wrong_for" = some (some (.ref f5))) (l5 : K.lookup f5 = some ⟨oc5, od5, .func (PySem.W.fnOf "is_wrong_for" "is_wrong_for" (defArgs s_is_wrong_for) (defBody s_is_wrong_for) (defScope s_is_wrong_for) .none kV5 dc5 pm5 an5 cd5 ct5), sl5⟩) (c5 : PySem.W.codeIn K cd5 "is_wrong_for" = true) (k5 : PySem.W.keepIn K (.ref f5) = true)
    (a6 : PySem.W.nsIn K mainGlobals "check_pairing" = some (some (.ref f6))) (l6 : K.lookup f6 = some ⟨oc6, od6, .func (PySem.W.fnOf "check_pairing" "check_pairing" (defArgs s_check_pairing) (defBody s_check_pairing) (defScope s_check_pairing) .none kV6 dc6 pm6 an6 cd6 ct6), sl6⟩) (c6 : PySem.W.codeIn K cd6 "check_pairing" = true) (k6 : PySem.W.keepIn K (.ref f6) = true)
    (a7 : PySem.W.nsIn K mainGlobals "would_rather" = some (some (.ref f7))) (l7 : K.lookup f7 = some ⟨oc7, od7, .func (PySem.W.fnOf "would_rather" "would_rather" (defArgs s_would_rather) (defBody s_would_rather) (defScope s_would_rather) .none kV7 dc7 pm7 an7 cd7 ct7), sl7⟩) (c7 : PySem.W.codeIn K cd7 "would_rather" = true) (k7 : PySem.W.keepIn K (.ref f7) = true)
    (a8 : PySem.W.nsIn K mainGlobals "spoiling" = some (some (.ref f8))) (l8 : K.lookup f8 = some ⟨oc8, od8, .func (PySem.W.fnOf "spoiling" "spoiling" (defArgs s_spoiling) (defBody s_spoiling) (defScope s_spoiling) .none kV8 dc8 pm8 an8 cd8 ct8), sl8⟩) (c8 : PySem.W.codeIn K cd8 "spoiling" = true) (k8 : PySem.W.keepIn K (.ref f8) = true)
    (a9 : PySem.W.nsIn K mainGlobals "spoilers" = some (some (.ref f9))) (l9 : K.lookup f9 = some ⟨oc9, od9, .func (PySem.W.fnOf "spoilers" "spoilers" (defArgs s_spoilers) (defBody s_spoilers) (defScope s_spoilers) .none kV9 dc9 pm9 an9 cd9 ct9), sl9⟩) (c9 : PySem.W.codeIn K cd9 "spoilers" = true) (k9 : PySem.W.keepIn K (.ref f9) = true)
    (a10 : PySem.W.nsIn K mainGlobals "is_good" = some (some (.ref f10))) (l10 : K.lookup f10 = some ⟨oc10, od10, .func (PySem.W.fnOf "is_good" "is_good" (defArgs s_is_good) (defBody s_is_good) (defScope s_is_good) .none kV10 dc10 pm10 an10 cd10 ct10), sl10⟩) (c10 : PySem.W.codeIn K cd10 "is_good" = true) (k10 : PySem.W.keepIn K (.ref f10) = true)
    (a11 : PySem.W.nsIn K mainGlobals "cut_behind" = some (some (.ref f11))) (l11 : K.lookup f11 = some ⟨oc11, od11, .func (PySem.W.fnOf "cut_behind" "cut_behind" (defArgs s_cut_behind) (defBody s_cut_behind) (defScope s_cut_behind) .none kV11 dc11 pm11 an11 cd11 ct11), sl11⟩) (c11 : PySem.W.codeIn K cd11 "cut_behind" = true) (k11 : PySem.W.keepIn K (.ref f11) = true)
    (a12 : PySem.W.nsIn K mainGlobals "offered" = some (some (.ref f12))) (l12 : K.lookup f12 = some ⟨oc12, od12, .func (PySem.W.fnOf "offered" "offered" (defArgs s_offered) (defBody s_offered) (defScope s_offered) .none kV12 dc12 pm12 an12 cd12 ct12), sl12⟩) (c12 : PySem.W.codeIn K cd12 "offered" = true) (k12 : PySem.W.keepIn K (.ref f12) = true)
    (a13 : PySem.W.nsIn K mainGlobals "next_in_ring" = some (some (.ref f13))) (l13 : K.lookup f13 = some ⟨oc13, od13, .func (PySem.W.fnOf "next_in_ring" "next_in_ring" (defArgs s_next_in_ring) (defBody s_next_in_ring) (defScope s_next_in_ring) .none kV13 dc13 pm13 an13 cd13 ct13), sl13⟩) (c13 : PySem.W.codeIn K cd13 "next_in_ring" = true) (k13 : PySem.W.keepIn K (.ref f13) = true)
    (a14 : PySem.W.nsIn K mainGlobals "ring_from" = some (some (.ref f14))) (l14 : K.lookup f14 = some ⟨oc14, od14, .func (PySem.W.fnOf "ring_from" "ring_from" (defArgs s_ring_from) (defBody s_ring_from) (defScope s_ring_from) .none kV14 dc14 pm14 an14 cd14 ct14), sl14⟩) (c14 : PySem.W.codeIn K cd14 "ring_from" = true) (k14 : PySem.W.keepIn K (.ref f14) = true)
    (a15 : PySem.W.nsIn K mainGlobals "part" = some (some (.ref f15))) (l15 : K.lookup f15 = some ⟨oc15, od15, .func (PySem.W.fnOf "part" "part" (defArgs s_part) (defBody s_part) (defScope s_part) .none kV15 dc15 pm15 an15 cd15 ct15), sl15⟩) (c15 : PySem.W.codeIn K cd15 "part" = true) (k15 : PySem.W.keepIn K (.ref f15) = true)
    (a16 : PySem.W.nsIn K mainGlobals "taken_out" = some (some (.ref f16))) (l16 : K.lookup f16 = some ⟨oc16, od16, .func (PySem.W.fnOf "taken_out" "taken_out" (defArgs s_taken_out) (defBody s_taken_out) (defScope s_taken_out) .none kV16 dc16 pm16 an16 cd16 ct16), sl16⟩) (c16 : PySem.W.codeIn K cd16 "taken_out" = true) (k16 : PySem.W.keepIn K (.ref f16) = true)
    (a17 : PySem.W.nsIn K mainGlobals "is_emptied" = some (some (.ref f17))) (l17 : K.lookup f17 = some ⟨oc17, od17, .func (PySem.W.fnOf "is_emptied" "is_emptied" (defArgs s_is_emptied) (defBody s_is_emptied) (defScope s_is_emptied) .none kV17 dc17 pm17 an17 cd17 ct17), sl17⟩) (c17 : PySem.W.codeIn K cd17 "is_emptied" = true) (k17 : PySem.W.keepIn K (.ref f17) = true)
    (a18 : PySem.W.nsIn K mainGlobals "rings_out" = some (some (.ref f18))) (l18 : K.lookup f18 = some ⟨oc18, od18, .func (PySem.W.fnOf "rings_out" "rings_out" (defArgs s_rings_out) (defBody s_rings_out) (defScope s_rings_out) .none kV18 dc18 pm18 an18 cd18 ct18), sl18⟩) (c18 : PySem.W.codeIn K cd18 "rings_out" = true) (k18 : PySem.W.keepIn K (.ref f18) = true)
    (a19 : PySem.W.nsIn K mainGlobals "last_rows" = some (some (.ref f19))) (l19 : K.lookup f19 = some ⟨oc19, od19, .func (PySem.W.fnOf "last_rows" "last_rows" (defArgs s_last_rows) (defBody s_last_rows) (defScope s_last_rows) .none kV19 dc19 pm19 an19 cd19 ct19), sl19⟩) (c19 : PySem.W.codeIn K cd19 "last_rows" = true) (k19 : PySem.W.keepIn K (.ref f19) = true)
    (a20 : PySem.W.nsIn K mainGlobals "half_pairing" = some (some (.ref f20))) (l20 : K.lookup f20 = some ⟨oc20, od20, .func (PySem.W.fnOf "half_pairing" "half_pairing" (defArgs s_half_pairing) (defBody s_half_pairing) (defScope s_half_pairing) .none kV20 dc20 pm20 an20 cd20 ct20), sl20⟩) (c20 : PySem.W.codeIn K cd20 "half_pairing" = true) (k20 : PySem.W.keepIn K (.ref f20) = true)
    (a21 : PySem.W.nsIn K mainGlobals "check_half" = some (some (.ref f21))) (l21 : K.lookup f21 = some ⟨oc21, od21, .func (PySem.W.fnOf "check_half" "check_half" (defArgs s_check_half) (defBody s_check_half) (defScope s_check_half) .none kV21 dc21 pm21 an21 cd21 ct21), sl21⟩) (c21 : PySem.W.codeIn K cd21 "check_half" = true) (k21 : PySem.W.keepIn K (.ref f21) = true)
    (a22 : PySem.W.nsIn K mainGlobals "followers" = some (some (.ref f22))) (l22 : K.lookup f22 = some ⟨oc22, od22, .func (PySem.W.fnOf "followers" "followers" (defArgs s_followers) (defBody s_followers) (defScope s_followers) .none kV22 dc22 pm22 an22 cd22 ct22), sl22⟩) (c22 : PySem.W.codeIn K cd22 "followers" = true) (k22 : PySem.W.keepIn K (.ref f22) = true)
    (a23 : PySem.W.nsIn K mainGlobals "is_turned_well" = some (some (.ref f23))) (l23 : K.lookup f23 = some ⟨oc23, od23, .func (PySem.W.fnOf "is_turned_well" "is_turned_well" (defArgs s_is_turned_well) (defBody s_is_turned_well) (defScope s_is_turned_well) .none kV23 dc23 pm23 an23 cd23 ct23), sl23⟩) (c23 : PySem.W.codeIn K cd23 "is_turned_well" = true) (k23 : PySem.W.keepIn K (.ref f23) = true)
    (a24 : PySem.W.nsIn K mainGlobals "is_steady" = some (some (.ref f24))) (l24 : K.lookup f24 = some ⟨oc24, od24, .func (PySem.W.fnOf "is_steady" "is_steady" (defArgs s_is_steady) (defBody s_is_steady) (defScope s_is_steady) .none kV24 dc24 pm24 an24 cd24 ct24), sl24⟩) (c24 : PySem.W.codeIn K cd24 "is_steady" = true) (k24 : PySem.W.keepIn K (.ref f24) = true)
    (a25 : PySem.W.nsIn K mainGlobals "with_mate" = some (some (.ref f25))) (l25 : K.lookup f25 = some ⟨oc25, od25, .func (PySem.W.fnOf "with_mate" "with_mate" (defArgs s_with_mate) (defBody s_with_mate) (defScope s_with_mate) .none kV25 dc25 pm25 an25 cd25 ct25), sl25⟩) (c25 : PySem.W.codeIn K cd25 "with_mate" = true) (k25 : PySem.W.keepIn K (.ref f25) = true)
    (a26 : PySem.W.nsIn K mainGlobals "pairings_in" = some (some (.ref f26))) (l26 : K.lookup f26 = some ⟨oc26, od26, .func (PySem.W.fnOf "pairings_in" "pairings_in" (defArgs s_pairings_in) (defBody s_pairings_in) (defScope s_pairings_in) .none kV26 dc26 pm26 an26 cd26 ct26), sl26⟩) (c26 : PySem.W.codeIn K cd26 "pairings_in" = true) (k26 : PySem.W.keepIn K (.ref f26) = true)
    (a27 : PySem.W.nsIn K mainGlobals "all_good" = some (some (.ref f27))) (l27 : K.lookup f27 = some ⟨oc27, od27, .func (PySem.W.fnOf "all_good" "all_good" (defArgs s_all_good) (defBody s_all_good) (defScope s_all_good) .none kV27 dc27 pm27 an27 cd27 ct27), sl27⟩) (c27 : PySem.W.codeIn K cd27 "all_good" = true) (k27 : PySem.W.keepIn K (.ref f27) = true)
    (a28 : PySem.W.nsIn K mainGlobals "ring_of" = some (some (.ref f28))) (l28 : K.lookup f28 = some ⟨oc28, od28, .func (PySem.W.fnOf "ring_of" "ring_of" (defArgs s_ring_of) (defBody s_ring_of) (defScope s_ring_of) .none kV28 dc28 pm28 an28 cd28 ct28), sl28⟩) (c28 : PySem.W.codeIn K cd28 "ring_of" = true) (k28 : PySem.W.keepIn K (.ref f28) = true)
    (a29 : PySem.W.nsIn K mainGlobals "odd_rings_in" = some (some (.ref f29))) (l29 : K.lookup f29 = some ⟨oc29, od29, .func (PySem.W.fnOf "odd_rings_in" "odd_rings_in" (defArgs s_odd_rings_in) (defBody s_odd_rings_in) (defScope s_odd_rings_in) .none kV29 dc29 pm29 an29 cd29 ct29), sl29⟩) (c29 : PySem.W.codeIn K cd29 "odd_rings_in" = true) (k29 : PySem.W.keepIn K (.ref f29) = true)
    (a30 : PySem.W.nsIn K mainGlobals "paired" = some (some (.ref f30))) (l30 : K.lookup f30 = some ⟨oc30, od30, .func (PySem.W.fnOf "paired" "paired" (defArgs s_paired) (defBody s_paired) (defScope s_paired) .none kV30 dc30 pm30 an30 cd30 ct30), sl30⟩) (c30 : PySem.W.codeIn K cd30 "paired" = true) (k30 : PySem.W.keepIn K (.ref f30) = true)
    (a31 : PySem.W.nsIn K mainGlobals "odd_rings" = some (some (.ref f31))) (l31 : K.lookup f31 = some ⟨oc31, od31, .func (PySem.W.fnOf "odd_rings" "odd_rings" (defArgs s_odd_rings) (defBody s_odd_rings) (defScope s_odd_rings) .none kV31 dc31 pm31 an31 cd31 ct31), sl31⟩) (c31 : PySem.W.codeIn K cd31 "odd_rings" = true) (k31 : PySem.W.keepIn K (.ref f31) = true)
    (a32 : PySem.W.nsIn K mainGlobals "alone" = some (some (.ref f32))) (l32 : K.lookup f32 = some ⟨oc32, od32, .func (PySem.W.fnOf "alone" "alone" (defArgs s_alone) (defBody s_alone) (defScope s_alone) .none kV32 dc32 pm32 an32 cd32 ct32), sl32⟩) (c32 : PySem.W.codeIn K cd32 "alone" = true) (k32 : PySem.W.keepIn K (.ref f32) = true)
    (a33 : PySem.W.nsIn K mainGlobals "_law_mixed" = some (some (.ref f33))) (l33 : K.lookup f33 = some ⟨oc33, od33, .func (PySem.W.fnOf "_law_mixed" "_law_mixed" (defArgs s__law_mixed) (defBody s__law_mixed) (defScope s__law_mixed) .none kV33 dc33 pm33 an33 cd33 ct33), sl33⟩) (c33 : PySem.W.codeIn K cd33 "_law_mixed" = true) (k33 : PySem.W.keepIn K (.ref f33) = true)
    (a34 : PySem.W.nsIn K mainGlobals "_law_lists" = some (some (.ref f34))) (l34 : K.lookup f34 = some ⟨oc34, od34, .func (PySem.W.fnOf "_law_lists" "_law_lists" (defArgs s__law_lists) (defBody s__law_lists) (defScope s__law_lists) .none kV34 dc34 pm34 an34 (.ref c) ct34), sl34⟩) (c34 : PySem.W.codeIn K (.ref c) "_law_lists" = true) (k34 : PySem.W.keepIn K (.ref f34) = true)
    (a35 : PySem.W.nsIn K mainGlobals "_law_set" = some (some (.ref f35))) (l35 : K.lookup f35 = some ⟨oc35, od35, .func (PySem.W.fnOf "_law_set" "_law_set" (defArgs s__law_set) (defBody s__law_set) (defScope s__law_set) .none kV35 dc35 pm35 an35 cd35 ct35), sl35⟩) (c35 : PySem.W.codeIn K cd35 "_law_set" = true) (k35 : PySem.W.keepIn K (.ref f35) = true)
    (a36 : PySem.W.nsIn K mainGlobals "_law_mutual" = some (some (.ref f36))) (l36 : K.lookup f36 = some ⟨oc36, od36, .func (PySem.W.fnOf "_law_mutual" "_law_mutual" (defArgs s__law_mutual) (defBody s__law_mutual) (defScope s__law_mutual) .none kV36 dc36 pm36 an36 cd36 ct36), sl36⟩) (c36 : PySem.W.codeIn K cd36 "_law_mutual" = true) (k36 : PySem.W.keepIn K (.ref f36) = true)
    (a37 : PySem.W.nsIn K mainGlobals "_law_handed" = some (some (.ref f37))) (l37 : K.lookup f37 = some ⟨oc37, od37, .func (PySem.W.fnOf "_law_handed" "_law_handed" (defArgs s__law_handed) (defBody s__law_handed) (defScope s__law_handed) .none kV37 dc37 pm37 an37 cd37 ct37), sl37⟩) (c37 : PySem.W.codeIn K cd37 "_law_handed" = true) (k37 : PySem.W.keepIn K (.ref f37) = true)
    (a38 : PySem.W.nsIn K mainGlobals "_law_refused" = some (some (.ref f38))) (l38 : K.lookup f38 = some ⟨oc38, od38, .func (PySem.W.fnOf "_law_refused" "_law_refused" (defArgs s__law_refused) (defBody s__law_refused) (defScope s__law_refused) (.ref Td38) kV38 dc38 pm38 an38 cd38 ct38), sl38⟩) (c38 : PySem.W.codeIn K cd38 "_law_refused" = true) (k38 : PySem.W.keepIn K (.ref f38) = true)
    (dl38 : K.lookup Td38 = some ⟨to38, tod38, .seq #[.int 0 tz38] tn38, tos38⟩)
    (a39 : PySem.W.nsIn K mainGlobals "_law_spoilt" = some (some (.ref f39))) (l39 : K.lookup f39 = some ⟨oc39, od39, .func (PySem.W.fnOf "_law_spoilt" "_law_spoilt" (defArgs s__law_spoilt) (defBody s__law_spoilt) (defScope s__law_spoilt) .none kV39 dc39 pm39 an39 cd39 ct39), sl39⟩) (c39 : PySem.W.codeIn K cd39 "_law_spoilt" = true) (k39 : PySem.W.keepIn K (.ref f39) = true)
    (a40 : PySem.W.nsIn K mainGlobals "law" = some (some (.ref f40))) (l40 : K.lookup f40 = some ⟨oc40, od40, .func (PySem.W.fnOf "law" "law" (defArgs s_law) (defBody s_law) (defScope s_law) .none kV40 dc40 pm40 an40 cd40 ct40), sl40⟩) (c40 : PySem.W.codeIn K cd40 "law" = true) (k40 : PySem.W.keepIn K (.ref f40) = true)
    (z0 : PySem.W.nsIn K mainGlobals "ValueError" = some none)
    (z1 : PySem.W.nsIn K mainGlobals "any" = some none)
    (z2 : PySem.W.nsIn K mainGlobals "bool" = some none)
    (z3 : PySem.W.nsIn K mainGlobals "enumerate" = some none)
    (z4 : PySem.W.nsIn K mainGlobals "int" = some none)
    (z5 : PySem.W.nsIn K mainGlobals "isinstance" = some none)
    (z6 : PySem.W.nsIn K mainGlobals "len" = some none)
    (z7 : PySem.W.nsIn K mainGlobals "list" = some none)
    (z8 : PySem.W.nsIn K mainGlobals "min" = some none)
    (z9 : PySem.W.nsIn K mainGlobals "range" = some none)
    (z10 : PySem.W.nsIn K mainGlobals "set" = some none)
    (z11 : PySem.W.nsIn K mainGlobals "sorted" = some none)
    (z12 : PySem.W.nsIn K mainGlobals "tuple" = some none)
    (z13 : PySem.W.nsIn K mainGlobals "zip" = some none)
    (gm : PySem.W.nsIn K mainGlobals "MOST_PEOPLE" = some (some (.int 60 tm)))
    (gms : PySem.W.nsIn K mainGlobals "MOST_SEARCHED" = some (some (.int 10 tms)))
    (nP : K.lookup P0 = none) (cP : PySem.W.codeHdIn K c P0 = true)
    (gCB : PySem.W.nsIn K mainGlobals "BunkError" = some (some (.ref CB)))
    (gCM : PySem.W.nsIn K mainGlobals "TooMany" = some (some (.ref CM)))
    (gCL : PySem.W.nsIn K mainGlobals "BadLists" = some (some (.ref CL)))
    (gCP : PySem.W.nsIn K mainGlobals "BadPairing" = some (some (.ref CP)))
    (zs : PySem.W.nsIn K mainGlobals "super" = some none) (opq : PySem.W.nsIn K cStatics "thirdparty.any" = some none) (top : (l.prog.main.scope.names.lookup ("super" : Str)).isSome = false)
    (hB : PySem.W.subIn K (.ref CB) (.type "BaseException") = some true) (hdB : PySem.W.hasDictIn K CB = true) (tyB : PySem.W.typeIn K (.ref CB) = some (.type "type"))
    (gs : PySem.W.specialIn K (.builtin "object.__class__") "__get__" = some (some (.builtin "getset_descriptor.__get__"))) (tks : PySem.W.takesIn K (.builtin "object.__class__") = some true)
    (xLCL : K.lookup CL = some (excClassObj nmCL qCL CL NCL bsCL bmCL true snCL suCL abCL coCL ddCL u0CL u1CL u2CL u3CL u5CL "ValueError.__new__"))
    (rvCL : PySem.HandSPX.refsVE bmCL = true)
    (upCL : PySem.W.ks_superIn K CL CL "__init__" = some (some (.builtin "ValueError.__init__")))
    (vECL : PySem.W.subIn K (.ref CL) (.type "ValueError") = some true)
    (meCL : PySem.W.mroIn K CL (.ref CL) = some true)
    (saCL : PySem.W.findIn K (.ref CL) "__setattr__" = some (some (.builtin "object.__setattr__")))
    (gaCL : PySem.W.findIn K (.ref CL) "__getattribute__" = some (some (.builtin "BaseException.__getattribute__")))
    (ggCL : PySem.W.findIn K (.ref CL) "__getattr__" = some none)
    (noCL : PySem.W.findIn K (.ref CL) "at" = some none)
    (iCCL : PySem.W.findIn K (.ref CL) "__init__" = some (some (.ref fiCL)))
    (tCCL : PySem.W.typeIn K (.ref fiCL) = some (.type "function"))
    (kCCL : PySem.W.keepIn K (.ref CL) = true)
    (eCCL : PySem.W.subIn K (.ref CL) (.type "BaseException") = some true)
    (tyCL : PySem.W.typeIn K (.ref CL) = some (.type "type"))
    (hdCL : PySem.W.hasDictIn K CL = true)
    (fnCL : K.lookup fiCL = some ⟨ocCL, odCL, .func (PySem.W.ksFn "__init__" "BadLists.__init__" (eA p1CL p2CL) (eB "no lists, at " q1CL q2CL q3CL q4CL q5CL q6CL q7CL q8CL q9CL r1CL r2CL r3CL r4CL) eS .none .none docCL pmCL anCL (.ref cdaCL) ctCL ccCL), oslCL⟩)
    (cdCL : PySem.W.codeIn K (.ref cdaCL) "BadLists.__init__" = true)
    (lnCL : (q3CL.endLine == q8CL.line) = true)
    (cqCL : K.lookup cdaCL = some ⟨cclCL, cddCL, .fields vsCL, ccsCL⟩)
    (v2CL : vsCL[2]? = some (.str fileCL tfCL))
    (flCL : ((l.prog.main.file : Str) == fileCL) = true)
    (ceCL : K.lookup ccCL = some ⟨clCL, cldCL, .cell (some (.ref CL)), cslCL⟩)
    (clsCL : PySem.W.findIn K (.ref CL) "__class__" = some (some (.builtin "object.__class__")))
    (moCL : PySem.W.mroIn K CL (.type "object") = some true)
    (sbCL : PySem.W.subIn K (.ref CL) (.ref CB) = some true)
    (tmCL : PySem.W.kitOne K (.ref CL) (.ref CM) = some false)
    (kvCL : PySem.W.kitOne K (.ref CL) (.type "ValueError") = some true)
    (kpCL : PySem.W.kitOne K (.ref CL) (.ref CP) = some false)
    (klCL : PySem.W.kitOne K (.ref CL) (.ref CL) = some true)
    (xLCP : K.lookup CP = some (excClassObj nmCP qCP CP NCP bsCP bmCP true snCP suCP abCP coCP ddCP u0CP u1CP u2CP u3CP u5CP "ValueError.__new__"))
    (rvCP : PySem.HandSPX.refsVE bmCP = true)
    (upCP : PySem.W.ks_superIn K CP CP "__init__" = some (some (.builtin "ValueError.__init__")))
    (vECP : PySem.W.subIn K (.ref CP) (.type "ValueError") = some true)
    (meCP : PySem.W.mroIn K CP (.ref CP) = some true)
    (saCP : PySem.W.findIn K (.ref CP) "__setattr__" = some (some (.builtin "object.__setattr__")))
    (gaCP : PySem.W.findIn K (.ref CP) "__getattribute__" = some (some (.builtin "BaseException.__getattribute__")))
    (ggCP : PySem.W.findIn K (.ref CP) "__getattr__" = some none)
    (noCP : PySem.W.findIn K (.ref CP) "at" = some none)
    (iCCP : PySem.W.findIn K (.ref CP) "__init__" = some (some (.ref fiCP)))
    (tCCP : PySem.W.typeIn K (.ref fiCP) = some (.type "function"))
    (kCCP : PySem.W.keepIn K (.ref CP) = true)
    (eCCP : PySem.W.subIn K (.ref CP) (.type "BaseException") = some true)
    (tyCP : PySem.W.typeIn K (.ref CP) = some (.type "type"))
    (hdCP : PySem.W.hasDictIn K CP = true)
    (fnCP : K.lookup fiCP = some ⟨ocCP, odCP, .func (PySem.W.ksFn "__init__" "BadPairing.__init__" (eA p1CP p2CP) (eB "no pairing, at " q1CP q2CP q3CP q4CP q5CP q6CP q7CP q8CP q9CP r1CP r2CP r3CP r4CP) eS .none .none docCP pmCP anCP (.ref cdaCP) ctCP ccCP), oslCP⟩)
    (cdCP : PySem.W.codeIn K (.ref cdaCP) "BadPairing.__init__" = true)
    (lnCP : (q3CP.endLine == q8CP.line) = true)
    (cqCP : K.lookup cdaCP = some ⟨cclCP, cddCP, .fields vsCP, ccsCP⟩)
    (v2CP : vsCP[2]? = some (.str fileCP tfCP))
    (flCP : ((l.prog.main.file : Str) == fileCP) = true)
    (ceCP : K.lookup ccCP = some ⟨clCP, cldCP, .cell (some (.ref CP)), cslCP⟩)
    (clsCP : PySem.W.findIn K (.ref CP) "__class__" = some (some (.builtin "object.__class__")))
    (moCP : PySem.W.mroIn K CP (.type "object") = some true)
    (sbCP : PySem.W.subIn K (.ref CP) (.ref CB) = some true)
    (tmCP : PySem.W.kitOne K (.ref CP) (.ref CM) = some false)
    (kvCP : PySem.W.kitOne K (.ref CP) (.type "ValueError") = some true)
    (kpCP : PySem.W.kitOne K (.ref CP) (.ref CP) = some true)
    (klCP : PySem.W.kitOne K (.ref CP) (.ref CL) = some false) :
    LamX.LawAtS l w K CX0 12 63 "_law_script" mg fa h := by
  have e := hfa.symm.trans (PySem.W.mg_of X G a40)
  cases e
  have F0 := fun_mk (st := s_is_number) l0 c0 k0
  have F1 := fun_mk (st := s_is_row) l1 c1 k1
  have F2 := fun_mk (st := s_check_lists) l2 c2 k2
  have F3 := fun_mk (st := s_places_in) l3 c3 k3
  have F4 := fun_mk (st := s_mutual) l4 c4 k4
  have F5 := fun_mk (st := s_is_wrong_for) l5 c5 k5
  have F6 := fun_mk (st := s_check_pairing) l6 c6 k6
  have F7 := fun_mk (st := s_would_rather) l7 c7 k7
  have F8 := fun_mk (st := s_spoiling) l8 c8 k8
  have F9 := fun_mk (st := s_spoilers) l9 c9 k9
  have F10 := fun_mk (st := s_is_good) l10 c10 k10
  have F11 := fun_mk (st := s_cut_behind) l11 c11 k11
  have F12 := fun_mk (st := s_offered) l12 c12 k12
  have F13 := fun_mk (st := s_next_in_ring) l13 c13 k13
  have F14 := fun_mk (st := s_ring_from) l14 c14 k14
  have F15 := fun_mk (st := s_part) l15 c15 k15
  have F16 := fun_mk (st := s_taken_out) l16 c16 k16
  have F17 := fun_mk (st := s_is_emptied) l17 c17 k17
  have F18 := fun_mk (st := s_rings_out) l18 c18 k18
  have F19 := fun_mk (st := s_last_rows) l19 c19 k19
  have F20 := fun_mk (st := s_half_pairing) l20 c20 k20
  have F21 := fun_mk (st := s_check_half) l21 c21 k21
  have F22 := fun_mk (st := s_followers) l22 c22 k22
  have F23 := fun_mk (st := s_is_turned_well) l23 c23 k23
  have F24 := fun_mk (st := s_is_steady) l24 c24 k24
  have F25 := fun_mk (st := s_with_mate) l25 c25 k25
  have F26 := fun_mk (st := s_pairings_in) l26 c26 k26
  have F27 := fun_mk (st := s_all_good) l27 c27 k27
  have F28 := fun_mk (st := s_ring_of) l28 c28 k28
  have F29 := fun_mk (st := s_odd_rings_in) l29 c29 k29
  have F30 := fun_mk (st := s_paired) l30 c30 k30
  have F31 := fun_mk (st := s_odd_rings) l31 c31 k31
  have F32 := fun_mk (st := s_alone) l32 c32 k32
  have F33 := fun_mk (st := s__law_mixed) l33 c33 k33
  have F34 := fun_mk (st := s__law_lists) l34 c34 k34
  have F35 := fun_mk (st := s__law_set) l35 c35 k35
  have F36 := fun_mk (st := s__law_mutual) l36 c36 k36
  have F37 := fun_mk (st := s__law_handed) l37 c37 k37
  have F38 : FunD K "_law_refused" "_law_refused" (defArgs s__law_refused) (defBody s__law_refused) (defScope s__law_refused) [.int 0] [] f38 _ := ⟨⟨_, _, _, _, _, _, _, _, _, _, rfl, l38, c38, .inr ⟨by simp, Td38, _, [.int 0 tz38], tn38, rfl, dl38, rfl, .cons ⟨_, rfl⟩ .nil⟩, .inl rfl⟩, k38⟩
  obtain ⟨ds38, dv38, db38⟩ := F38.binds1 (ps := ["_law_thing", "_law_way"]) 1 0 (by simp) rfl fun T kV doc pm an cdv ct us its h1 h2 => by
    match us, h1, its, h2 with
    | [_], _, [_], _ => exact ⟨_, rfl, rfl⟩
  have bf38 : Binds K (PySem.W.fnOf "_law_refused" "_law_refused" (defArgs s__law_refused) (defBody s__law_refused) (defScope s__law_refused) (.ref Td38) kV38 dc38 pm38 an38 cd38 ct38) ["_law_thing", "_law_way"] [] := by
    obtain ⟨ds, h1, h2⟩ := F38.binds1 (ps := ["_law_thing", "_law_way"]) 2 1 (by simp) rfl fun T kV doc pm an cdv ct us its h1 h2 => by
      match us, h1, its, h2 with
      | [_, _], _, [_], _ => exact ⟨_, rfl, rfl⟩
    cases h1
    exact h2
  have F39 := fun_mk (st := s__law_spoilt) l39 c39 k39
  have F40 := fun_mk (st := s_law) l40 c40 k40
  have ECL : ErrTxt l.prog K mg "BadLists" "BadLists.__init__" "no lists, at " CL fiCL := { gC := PySem.W.mg_of X G gCL, cls := ⟨_, _, _, _, _, _, _, _, _, _, _, _, _, _, _, xLCL, rvCL⟩, up := upCL, opq := opq, vE := vECL, self := meCL, sa := saCL, ga := gaCL, gg := ggCL, noN := noCL, iC := iCCL, tC := tCCL, kC := kCCL, exC := eCCL, tyC := tyCL, hdC := hdCL, noS := PySem.W.mg_none_of X G zs, top := top, pre1 := by decide, fn := ⟨_, _, _, _, _, _, _, _, _, _, _, _, _, _, _, _, _, _, _, _, _, _, _, _, _, _, _, _, _, _, _, _, _, fnCL, cdCL, lnCL, cqCL, v2CL, flCL, ceCL⟩ }
  have XCL : KitF K CL CM CP CL CB false true := { e := ⟨gaCL, ggCL, eCCL, hdCL, clsCL, gs, tks, moCL⟩, x := ⟨gaCL, ggCL, eCCL, hdCL⟩, no := noCL, tm := tmCL, ve := kvCL, bp := kpCL, bl := klCL, be := PySem.W.exm_ref hB hdB tyB sbCL }
  have ECP : ErrTxt l.prog K mg "BadPairing" "BadPairing.__init__" "no pairing, at " CP fiCP := { gC := PySem.W.mg_of X G gCP, cls := ⟨_, _, _, _, _, _, _, _, _, _, _, _, _, _, _, xLCP, rvCP⟩, up := upCP, opq := opq, vE := vECP, self := meCP, sa := saCP, ga := gaCP, gg := ggCP, noN := noCP, iC := iCCP, tC := tCCP, kC := kCCP, exC := eCCP, tyC := tyCP, hdC := hdCP, noS := PySem.W.mg_none_of X G zs, top := top, pre1 := by decide, fn := ⟨_, _, _, _, _, _, _, _, _, _, _, _, _, _, _, _, _, _, _, _, _, _, _, _, _, _, _, _, _, _, _, _, _, fnCP, cdCP, lnCP, cqCP, v2CP, flCP, ceCP⟩ }
  have XCP : KitF K CP CM CP CL CB true false := { e := ⟨gaCP, ggCP, eCCP, hdCP, clsCP, gs, tks, moCP⟩, x := ⟨gaCP, ggCP, eCCP, hdCP⟩, no := noCP, tm := tmCP, ve := kvCP, bp := kpCP, bl := klCP, be := PySem.W.exm_ref hB hdB tyB sbCP }
  let T : Txt l.prog K mg := { a_is_number := f0, fd_is_number := _, F_is_number := F0, b_is_number := F0.binds (ps := ["value"]) (fun _ _ _ _ _ _ us hl => match us, hl with | [_], _ => rfl), g_is_number := PySem.W.mg_of X G a0, a_is_row := f1, fd_is_row := _, F_is_row := F1, b_is_row := F1.binds (ps := ["row", "person", "many"]) (fun _ _ _ _ _ _ us hl => match us, hl with | [_, _, _], _ => rfl), g_is_row := PySem.W.mg_of X G a1, a_check_lists := f2, fd_check_lists := _, F_check_lists := F2, b_check_lists := F2.binds (ps := ["lists"]) (fun _ _ _ _ _ _ us hl => match us, hl with | [_], _ => rfl), g_check_lists := PySem.W.mg_of X G a2, a_places_in := f3, fd_places_in := _, F_places_in := F3, b_places_in := F3.binds (ps := ["rows"]) (fun _ _ _ _ _ _ us hl => match us, hl with | [_], _ => rfl), g_places_in := PySem.W.mg_of X G a3, a_mutual := f4, fd_mutual := _, F_mutual := F4, b_mutual := F4.binds (ps := ["lists"]) (fun _ _ _ _ _ _ us hl => match us, hl with | [_], _ => rfl), g_mutual := PySem.W.mg_of X G a4, a_is_wrong_for := f5, fd_is_wrong_for := _, F_is_wrong_for := F5, b_is_wrong_for := F5.binds (ps := ["person", "pairing", "rows"]) (fun _ _ _ _ _ _ us hl => match us, hl with | [_, _, _], _ => rfl), g_is_wrong_for := PySem.W.mg_of X G a5, a_check_pairing := f6, fd_check_pairing := _, F_check_pairing := F6, b_check_pairing := F6.binds (ps := ["rows", "pairing"]) (fun _ _ _ _ _ _ us hl => match us, hl with | [_, _], _ => rfl), g_check_pairing := PySem.W.mg_of X G a6, a_would_rather := f7, fd_would_rather := _, F_would_rather := F7, b_would_rather := F7.binds (ps := ["places", "other", "mate"]) (fun _ _ _ _ _ _ us hl => match us, hl with | [_, _, _], _ => rfl), g_would_rather := PySem.W.mg_of X G a7, a_spoiling := f8, fd_spoiling := _, F_spoiling := F8, b_spoiling := F8.binds (ps := ["rows", "mates"]) (fun _ _ _ _ _ _ us hl => match us, hl with | [_, _], _ => rfl), g_spoiling := PySem.W.mg_of X G a8, a_spoilers := f9, fd_spoilers := _, F_spoilers := F9, b_spoilers := F9.binds (ps := ["lists", "pairing"]) (fun _ _ _ _ _ _ us hl => match us, hl with | [_, _], _ => rfl), g_spoilers := PySem.W.mg_of X G a9, a_is_good := f10, fd_is_good := _, F_is_good := F10, b_is_good := F10.binds (ps := ["lists", "pairing"]) (fun _ _ _ _ _ _ us hl => match us, hl with | [_, _], _ => rfl), g_is_good := PySem.W.mg_of X G a10, a_cut_behind := f11, fd_cut_behind := _, F_cut_behind := F11, b_cut_behind := F11.binds (ps := ["rows", "person", "kept"]) (fun _ _ _ _ _ _ us hl => match us, hl with | [_, _, _], _ => rfl), g_cut_behind := PySem.W.mg_of X G a11, a_offered := f12, fd_offered := _, F_offered := F12, b_offered := F12.binds (ps := ["lists"]) (fun _ _ _ _ _ _ us hl => match us, hl with | [_], _ => rfl), g_offered := PySem.W.mg_of X G a12, a_next_in_ring := f13, fd_next_in_ring := _, F_next_in_ring := F13, b_next_in_ring := F13.binds (ps := ["rows", "person"]) (fun _ _ _ _ _ _ us hl => match us, hl with | [_, _], _ => rfl), g_next_in_ring := PySem.W.mg_of X G a13, a_ring_from := f14, fd_ring_from := _, F_ring_from := F14, b_ring_from := F14.binds (ps := ["rows", "start"]) (fun _ _ _ _ _ _ us hl => match us, hl with | [_, _], _ => rfl), g_ring_from := PySem.W.mg_of X G a14, a_part := f15, fd_part := _, F_part := F15, b_part := F15.binds (ps := ["rows", "one", "other"]) (fun _ _ _ _ _ _ us hl => match us, hl with | [_, _, _], _ => rfl), g_part := PySem.W.mg_of X G a15, a_taken_out := f16, fd_taken_out := _, F_taken_out := F16, b_taken_out := F16.binds (ps := ["rows", "ring"]) (fun _ _ _ _ _ _ us hl => match us, hl with | [_, _], _ => rfl), g_taken_out := PySem.W.mg_of X G a16, a_is_emptied := f17, fd_is_emptied := _, F_is_emptied := F17, b_is_emptied := F17.binds (ps := ["rows", "behind"]) (fun _ _ _ _ _ _ us hl => match us, hl with | [_, _], _ => rfl), g_is_emptied := PySem.W.mg_of X G a17, a_rings_out := f18, fd_rings_out := _, F_rings_out := F18, b_rings_out := F18.binds (ps := ["lists"]) (fun _ _ _ _ _ _ us hl => match us, hl with | [_], _ => rfl), g_rings_out := PySem.W.mg_of X G a18, a_last_rows := f19, fd_last_rows := _, F_last_rows := F19, b_last_rows := F19.binds (ps := ["lists"]) (fun _ _ _ _ _ _ us hl => match us, hl with | [_], _ => rfl), g_last_rows := PySem.W.mg_of X G a19, a_half_pairing := f20, fd_half_pairing := _, F_half_pairing := F20, b_half_pairing := F20.binds (ps := ["lists"]) (fun _ _ _ _ _ _ us hl => match us, hl with | [_], _ => rfl), g_half_pairing := PySem.W.mg_of X G a20, a_check_half := f21, fd_check_half := _, F_check_half := F21, b_check_half := F21.binds (ps := ["rows", "half"]) (fun _ _ _ _ _ _ us hl => match us, hl with | [_, _], _ => rfl), g_check_half := PySem.W.mg_of X G a21, a_followers := f22, fd_followers := _, F_followers := F22, b_followers := F22.binds (ps := ["half"]) (fun _ _ _ _ _ _ us hl => match us, hl with | [_], _ => rfl), g_followers := PySem.W.mg_of X G a22, a_is_turned_well := f23, fd_is_turned_well := _, F_is_turned_well := F23, b_is_turned_well := F23.binds (ps := ["rows", "half", "behind"]) (fun _ _ _ _ _ _ us hl => match us, hl with | [_, _, _], _ => rfl), g_is_turned_well := PySem.W.mg_of X G a23, a_is_steady := f24, fd_is_steady := _, F_is_steady := F24, b_is_steady := F24.binds (ps := ["lists", "half"]) (fun _ _ _ _ _ _ us hl => match us, hl with | [_, _], _ => rfl), g_is_steady := PySem.W.mg_of X G a24, a_with_mate := f25, fd_with_mate := _, F_with_mate := F25, b_with_mate := F25.binds (ps := ["pairing", "person", "row"]) (fun _ _ _ _ _ _ us hl => match us, hl with | [_, _, _], _ => rfl), g_with_mate := PySem.W.mg_of X G a25, a_pairings_in := f26, fd_pairings_in := _, F_pairings_in := F26, b_pairings_in := F26.binds (ps := ["rows"]) (fun _ _ _ _ _ _ us hl => match us, hl with | [_], _ => rfl), g_pairings_in := PySem.W.mg_of X G a26, a_all_good := f27, fd_all_good := _, F_all_good := F27, b_all_good := F27.binds (ps := ["lists"]) (fun _ _ _ _ _ _ us hl => match us, hl with | [_], _ => rfl), g_all_good := PySem.W.mg_of X G a27, a_ring_of := f28, fd_ring_of := _, F_ring_of := F28, b_ring_of := F28.binds (ps := ["half", "first"]) (fun _ _ _ _ _ _ us hl => match us, hl with | [_, _], _ => rfl), g_ring_of := PySem.W.mg_of X G a28, a_odd_rings_in := f29, fd_odd_rings_in := _, F_odd_rings_in := F29, b_odd_rings_in := F29.binds (ps := ["half"]) (fun _ _ _ _ _ _ us hl => match us, hl with | [_], _ => rfl), g_odd_rings_in := PySem.W.mg_of X G a29, a_paired := f30, fd_paired := _, F_paired := F30, b_paired := F30.binds (ps := ["lists"]) (fun _ _ _ _ _ _ us hl => match us, hl with | [_], _ => rfl), g_paired := PySem.W.mg_of X G a30, a_odd_rings := f31, fd_odd_rings := _, F_odd_rings := F31, b_odd_rings := F31.binds (ps := ["lists"]) (fun _ _ _ _ _ _ us hl => match us, hl with | [_], _ => rfl), g_odd_rings := PySem.W.mg_of X G a31, a_alone := f32, fd_alone := _, F_alone := F32, b_alone := F32.binds (ps := ["lists"]) (fun _ _ _ _ _ _ us hl => match us, hl with | [_], _ => rfl), g_alone := PySem.W.mg_of X G a32, a__law_mixed := f33, fd__law_mixed := _, F__law_mixed := F33, b__law_mixed := F33.binds (ps := ["_law_number", "_law_k"]) (fun _ _ _ _ _ _ us hl => match us, hl with | [_, _], _ => rfl), g__law_mixed := PySem.W.mg_of X G a33, a__law_lists := f34, fd__law_lists := _, F__law_lists := F34, b__law_lists := F34.binds (ps := ["_law_script", "_law_most"]) (fun _ _ _ _ _ _ us hl => match us, hl with | [_, _], _ => rfl), g__law_lists := PySem.W.mg_of X G a34, a__law_set := f35, fd__law_set := _, F__law_set := F35, b__law_set := F35.binds (ps := ["_law_rows", "_law_one", "_law_other", "_law_number"]) (fun _ _ _ _ _ _ us hl => match us, hl with | [_, _, _, _], _ => rfl), g__law_set := PySem.W.mg_of X G a35, a__law_mutual := f36, fd__law_mutual := _, F__law_mutual := F36, b__law_mutual := F36.binds (ps := ["_law_rows"]) (fun _ _ _ _ _ _ us hl => match us, hl with | [_], _ => rfl), g__law_mutual := PySem.W.mg_of X G a36, a__law_handed := f37, fd__law_handed := _, F__law_handed := F37, b__law_handed := F37.binds (ps := ["_law_way", "_law_thing"]) (fun _ _ _ _ _ _ us hl => match us, hl with | [_, _], _ => rfl), g__law_handed := PySem.W.mg_of X G a37, a__law_refused := f38, fd__law_refused := _, F__law_refused := F38, b__law_refused := bf38, g__law_refused := PySem.W.mg_of X G a38, d1__law_refused := ds38, v1__law_refused := dv38, b1__law_refused := db38, a__law_spoilt := f39, fd__law_spoilt := _, F__law_spoilt := F39, b__law_spoilt := F39.binds (ps := ["_law_rows", "_law_at", "_law_number"]) (fun _ _ _ _ _ _ us hl => match us, hl with | [_, _, _], _ => rfl), g__law_spoilt := PySem.W.mg_of X G a39, a_law := fa, fd_law := _, F_law := F40, b_law := F40.binds (ps := ["_law_script"]) (fun _ _ _ _ _ _ us hl => match us, hl with | [_], _ => rfl), g_law := PySem.W.mg_of X G a40, m_ValueError := PySem.W.mg_none_of X G z0, m_any := PySem.W.mg_none_of X G z1, m_bool := PySem.W.mg_none_of X G z2, m_enumerate := PySem.W.mg_none_of X G z3, m_int := PySem.W.mg_none_of X G z4, m_isinstance := PySem.W.mg_none_of X G z5, m_len := PySem.W.mg_none_of X G z6, m_list := PySem.W.mg_none_of X G z7, m_min := PySem.W.mg_none_of X G z8, m_range := PySem.W.mg_none_of X G z9, m_set := PySem.W.mg_none_of X G z10, m_sorted := PySem.W.mg_none_of X G z11, m_tuple := PySem.W.mg_none_of X G z12, m_zip := PySem.W.mg_none_of X G z13, C_BunkError := CB, g_BunkError := PySem.W.mg_of X G gCB, C_TooMany := CM, g_TooMany := PySem.W.mg_of X G gCM, C_BadLists := CL, g_BadLists := PySem.W.mg_of X G gCL, C_BadPairing := CP, g_BadPairing := PySem.W.mg_of X G gCP, f_BadLists := fiCL, E_BadLists := ECL, k_BadLists := XCL, f_BadPairing := fiCP, E_BadPairing := ECP, k_BadPairing := XCP, mostT := tm, mostG := PySem.W.mg_of X G gm, mostST := tms, mostSG := PySem.W.mg_of X G gms }
  refine ⟨PySem.W.fnOf "law" "law" (defArgs s_law) (defBody s_law) (defScope s_law) .none kV40 dc40 pm40 an40 cd40 ct40, [(c, P0)], sp_law K P0, ?_, ?_, ?_, fun s v => .of_eq rfl, ?_, fun base hK hN hT => ok_law (P := l.prog) (w := w) (base := base) T (FC := ⟨⟨_, _, _, _, _, _, _, _, rfl, l34, c34⟩⟩) (TB := hT (c, P0) (List.mem_singleton.mpr rfl))⟩
  · intro p hp; obtain rfl := List.mem_singleton.mp hp; exact hP
  · intro p hp; obtain rfl := List.mem_singleton.mp hp; exact nP
  · intro p hp; obtain rfl := List.mem_singleton.mp hp; exact PySem.W.codeHd_of_K X cP
  · intro H a ns hl _ ht hs
    refine ⟨a, ns, rfl, hs, hl, fun p hp => ?_, fun _ => rfl⟩
    obtain rfl := List.mem_singleton.mp hp
    exact tab_nil (ht (c, P0) (List.mem_singleton.mpr rfl))
end K1
open PySem PySem.W PyProof.Rows
set_option maxHeartbeats 0 in
theorem PySem.Challenge.cw_bunkmates_k01_mutual_lists_holds : PySem.Challenge.rw_bunkmates_k01_mutual_lists.Holds := by
  w_on; o_law; k_head; (case hw => w_witness2)
  k_fill
  refine LamX.walk_ofTs (l := PySem.Challenge.rw_bunkmates_k01_mutual_lists) (n := 63) (k := 12) (x := "_law_script") (CX := fun _ => L2.CX0) rfl (by decide) rfl ⟨rfl, by decide, by decide⟩ (fun w h Y => PySem.W.km_in_of Y) ?F (fun _ _ _ _ _ h => h)
  case F =>
    intro w mg fa h Y KX G hmg
    have hT8 := PySem.W.km_tabs_of Y
    refine' K1.all_mk KX G hmg (hT8 _ (List.mem_singleton.mpr rfl)) ?a0 ?l0 ?c0 ?k0 ?a1 ?l1 ?c1 ?k1 ?a2 ?l2 ?c2 ?k2 ?a3 ?l3 ?c3 ?k3 ?a4 ?l4 ?c4 ?k4 ?a5 ?l5 ?c5 ?k5 ?a6 ?l6 ?c6 ?k6 ?a7 ?l7 ?c7 ?k7 ?a8 ?l8 ?c8 ?k8 ?a9 ?l9 ?c9 ?k9 ?a10 ?l10 ?c10 ?k10 ?a11 ?l11 ?c11 ?k11 ?a12 ?l12 ?c12 ?k12 ?a13 ?l13 ?c13 ?k13 ?a14 ?l14 ?c14 ?k14 ?a15 ?l15 ?c15 ?k15 ?a16 ?l16 ?c16 ?k16 ?a17 ?l17 ?c17 ?k17 ?a18 ?l18 ?c18 ?k18 ?a19 ?l19 ?c19 ?k19 ?a20 ?l20 ?c20 ?k20 ?a21 ?l21 ?c21 ?k21 ?a22 ?l22 ?c22 ?k22 ?a23 ?l23 ?c23 ?k23 ?a24 ?l24 ?c24 ?k24 ?a25 ?l25 ?c25 ?k25 ?a26 ?l26 ?c26 ?k26 ?a27 ?l27 ?c27 ?k27 ?a28 ?l28 ?c28 ?k28 ?a29 ?l29 ?c29 ?k29 ?a30 ?l30 ?c30 ?k30 ?a31 ?l31 ?c31 ?k31 ?a32 ?l32 ?c32 ?k32 ?a33 ?l33 ?c33 ?k33 ?a34 ?l34 ?c34 ?k34 ?a35 ?l35 ?c35 ?k35 ?a36 ?l36 ?c36 ?k36 ?a37 ?l37 ?c37 ?k37 ?a38 ?l38 ?c38 ?k38 ?dl38 ?a39 ?l39 ?c39 ?k39 ?a40 ?l40 ?c40 ?k40 ?z0 ?z1 ?z2 ?z3 ?z4 ?z5 ?z6 ?z7 ?z8 ?z9 ?z10 ?z11 ?z12 ?z13 ?gm ?gms ?nP ?cP ?gCB ?gCM ?gCL ?gCP ?zs ?opq ?top ?hB ?hdB ?tyB ?gs ?tks ?xLCL ?rvCL ?upCL ?vECL ?meCL ?saCL ?gaCL ?ggCL ?noCL ?iCCL ?tCCL ?kCCL ?eCCL ?tyCL ?hdCL ?fnCL ?cdCL ?lnCL ?cqCL ?v2CL ?flCL ?ceCL ?clsCL ?moCL ?sbCL ?tmCL ?kvCL ?kpCL ?klCL ?xLCP ?rvCP ?upCP ?vECP ?meCP ?saCP ?gaCP ?ggCP ?noCP ?iCCP ?tCCP ?kCCP ?eCCP ?tyCP ?hdCP ?fnCP ?cdCP ?lnCP ?cqCP ?v2CP ?flCP ?ceCP ?clsCP ?moCP ?sbCP ?tmCP ?kvCP ?kpCP ?klCP
    (case a0 => k_is)
    (case l0 => k_is)
    (case c0 => k_is)
    (case k0 => k_is)
    (case a1 => k_is)
    (case l1 => k_is)
    (case c1 => k_is)
    (case k1 => k_is)
    (case a2 => k_is)
    (case l2 => k_is)
    (case c2 => k_is)
    (case k2 => k_is)
    (case a3 => k_is)
    (case l3 => k_is)
    (case c3 => k_is)
    (case k3 => k_is)
    (case a4 => k_is)
    (case l4 => k_is)
    (case c4 => k_is)
    (case k4 => k_is)
    (case a5 => k_is)
    (case l5 => k_is)
    (case c5 => k_is)
    (case k5 => k_is)
    (case a6 => k_is)
    (case l6 => k_is)
    (case c6 => k_is)
    (case k6 => k_is)
    (case a7 => k_is)
    (case l7 => k_is)
    (case c7 => k_is)
    (case k7 => k_is)
    (case a8 => k_is)
    (case l8 => k_is)
    (case c8 => k_is)
    (case k8 => k_is)
    (case a9 => k_is)
    (case l9 => k_is)
    (case c9 => k_is)
    (case k9 => k_is)
    (case a10 => k_is)
    (case l10 => k_is)
    (case c10 => k_is)
    (case k10 => k_is)
    (case a11 => k_is)
    (case l11 => k_is)
    (case c11 => k_is)
    (case k11 => k_is)
    (case a12 => k_is)
    (case l12 => k_is)
    (case c12 => k_is)
    (case k12 => k_is)
    (case a13 => k_is)
    (case l13 => k_is)
    (case c13 => k_is)
    (case k13 => k_is)
    (case a14 => k_is)
    (case l14 => k_is)
    (case c14 => k_is)
    (case k14 => k_is)
    (case a15 => k_is)
    (case l15 => k_is)
    (case c15 => k_is)
    (case k15 => k_is)
    (case a16 => k_is)
    (case l16 => k_is)
    (case c16 => k_is)
    (case k16 => k_is)
    (case a17 => k_is)
    (case l17 => k_is)
    (case c17 => k_is)
    (case k17 => k_is)
    (case a18 => k_is)
    (case l18 => k_is)
    (case c18 => k_is)
    (case k18 => k_is)
    (case a19 => k_is)
    (case l19 => k_is)
    (case c19 => k_is)
    (case k19 => k_is)
    (case a20 => k_is)
    (case l20 => k_is)
    (case c20 => k_is)
    (case k20 => k_is)
    (case a21 => k_is)
    (case l21 => k_is)
    (case c21 => k_is)
    (case k21 => k_is)
    (case a22 => k_is)
    (case l22 => k_is)
    (case c22 => k_is)
    (case k22 => k_is)
    (case a23 => k_is)
    (case l23 => k_is)
    (case c23 => k_is)
    (case k23 => k_is)
    (case a24 => k_is)
    (case l24 => k_is)
    (case c24 => k_is)
    (case k24 => k_is)
    (case a25 => k_is)
    (case l25 => k_is)
    (case c25 => k_is)
    (case k25 => k_is)
    (case a26 => k_is)
    (case l26 => k_is)
    (case c26 => k_is)
    (case k26 => k_is)
    (case a27 => k_is)
    (case l27 => k_is)
    (case c27 => k_is)
    (case k27 => k_is)
    (case a28 => k_is)
    (case l28 => k_is)
    (case c28 => k_is)
    (case k28 => k_is)
    (case a29 => k_is)
    (case l29 => k_is)
    (case c29 => k_is)
    (case k29 => k_is)
    (case a30 => k_is)
    (case l30 => k_is)
    (case c30 => k_is)
    (case k30 => k_is)
    (case a31 => k_is)
    (case l31 => k_is)
    (case c31 => k_is)
    (case k31 => k_is)
    (case a32 => k_is)
    (case l32 => k_is)
    (case c32 => k_is)
    (case k32 => k_is)
    (case a33 => k_is)
    (case l33 => k_is)
    (case c33 => k_is)
    (case k33 => k_is)
    (case a34 => k_is)
    (case l34 => k_is)
    (case c34 => k_is)
    (case k34 => k_is)
    (case a35 => k_is)
    (case l35 => k_is)
    (case c35 => k_is)
    (case k35 => k_is)
    (case a36 => k_is)
    (case l36 => k_is)
    (case c36 => k_is)
    (case k36 => k_is)
    (case a37 => k_is)
    (case l37 => k_is)
    (case c37 => k_is)
    (case k37 => k_is)
    (case a38 => k_is)
    (case l38 => k_is)
    (case c38 => k_is)
    (case k38 => k_is)
    (case dl38 => k_is)
    (case a39 => k_is)
    (case l39 => k_is)
    (case c39 => k_is)
    (case k39 => k_is)
    (case a40 => k_is)
    (case l40 => k_is)
    (case c40 => k_is)
    (case k40 => k_is)
    (case z0 => k_is)
    (case z1 => k_is)
    (case z2 => k_is)
    (case z3 => k_is)
    (case z4 => k_is)
    (case z5 => k_is)
    (case z6 => k_is)
    (case z7 => k_is)
    (case z8 => k_is)
    (case z9 => k_is)
    (case z10 => k_is)
    (case z11 => k_is)
    (case z12 => k_is)
    (case z13 => k_is)
    (case gm => k_is)
    (case gms => k_is)
    (case nP => kernel_rfl)
    (case cP => kernel_rfl)
    (case gCB => k_is)
    (case gCM => k_is)
    (case gCL => k_is)
    (case gCP => k_is)
    (case zs => k_is)
    (case opq => k_is)
    (case top => first | rfl | kernel_rfl | decide +kernel)
    (case hB => k_is)
    (case hdB => k_is)
    (case tyB => k_is)
    (case gs => k_is)
    (case tks => k_is)
    (case xLCL => k_is)
    (case rvCL => first | rfl | kernel_rfl | decide +kernel)
    (case upCL => first | ks_is | k_is | kernel_rfl)
    (case vECL => first | k_is | kernel_rfl)
    (case meCL => first | k_is | kernel_rfl)
    (case saCL => k_is)
    (case gaCL => k_is)
    (case ggCL => k_is)
    (case noCL => k_is)
    (case iCCL => k_is)
    (case tCCL => k_is)
    (case kCCL => k_is)
    (case eCCL => k_is)
    (case tyCL => k_is)
    (case hdCL => k_is)
    (case fnCL => k_is)
    (case cdCL => k_is)
    (case lnCL => first | rfl | kernel_rfl | decide +kernel)
    (case cqCL => k_is)
    (case v2CL => first | rfl | kernel_rfl)
    (case flCL => first | rfl | kernel_rfl | decide +kernel)
    (case ceCL => k_is)
    (case clsCL => k_is)
    (case moCL => first | k_is | kernel_rfl)
    (case sbCL => first | k_is | kernel_rfl)
    (case tmCL => first | kit_is | k_is | kernel_rfl)
    (case kvCL => first | kit_is | k_is | kernel_rfl)
    (case kpCL => first | kit_is | k_is | kernel_rfl)
    (case klCL => first | kit_is | k_is | kernel_rfl)
    (case xLCP => k_is)
    (case rvCP => first | rfl | kernel_rfl | decide +kernel)
    (case upCP => first | ks_is | k_is | kernel_rfl)
    (case vECP => first | k_is | kernel_rfl)
    (case meCP => first | k_is | kernel_rfl)
    (case saCP => k_is)
    (case gaCP => k_is)
    (case ggCP => k_is)
    (case noCP => k_is)
    (case iCCP => k_is)
    (case tCCP => k_is)
    (case kCCP => k_is)
    (case eCCP => k_is)
    (case tyCP => k_is)
    (case hdCP => k_is)
    (case fnCP => k_is)
    (case cdCP => k_is)
    (case lnCP => first | rfl | kernel_rfl | decide +kernel)
    (case cqCP => k_is)
    (case v2CP => first | rfl | kernel_rfl)
    (case flCP => first | rfl | kernel_rfl | decide +kernel)
    (case ceCP => k_is)
    (case clsCP => k_is)
    (case moCP => first | k_is | kernel_rfl)
    (case sbCP => first | k_is | kernel_rfl)
    (case tmCP => first | kit_is | k_is | kernel_rfl)
    (case kvCP => first | kit_is | k_is | kernel_rfl)
    (case kpCP => first | kit_is | k_is | kernel_rfl)
    (case klCP => first | kit_is | k_is | kernel_rfl)
