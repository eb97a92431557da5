import PyProof.Rows.All
import HandS.ForMost
import HandS.Lambda
import HandS.IsInst
import HandS.Strs
import HandS.DictComp
import HandS.Iter
import HandS.SortInts
import HandS.Conv
import HandS.Flow
import HandS.SetFor
import KE.KFromBytes
import HandS.SortKw
import HandS.ExcValue
import KE.SortKeyHeap
import HandS.ForExc
import KE.KExcSuper
import PyProof.FString2
import HandS.ExcIs
import HandS.ExcField
import KE.KExcIs
import HandS.RaiseMore
import HandS.FStr
import HandS.NoneIn
import HandS.Defaults
import HandS.Dict
import HandS.TupSets
import HandS.List
import HandS.Deep
import PySem.Challenge.RW_bunkmates_k06_whole_few_people
import HandS.AnyAll
import KE.DataAny
import PyProof.GenCompD
import PyProof.ZipIter
import PyProof.Rows.ZipGen
import PyProof.WalksEnum
import PyProof.EnumMake
import PyProof.ListTruth
import KE.KNestM
import HandS.EndTab
import OpenK.AllK
/-! Tables of offers: the mathematics of points 4 and 5. Core Lean only. -/
set_option linter.all false
namespace Bk

/-- the place of x on the list of p -/
abbrev rk (R : Nat → List Nat) (p x : Nat) : Nat := (R p).idxOf x

structure Lists (R : Nat → List Nat) : Prop where
  nd : ∀ i, (R i).Nodup
  mu : ∀ i j, j ∈ R i → i ∈ R j
  ir : ∀ i, i ∉ R i

structure Tab (R T : Nat → List Nat) : Prop where
  sub : ∀ i, (T i).Sublist (R i)
  mu : ∀ i j, j ∈ T i → i ∈ T j

/-- who went from one another's rows: the one holds somebody better, or the other one does -/
def Stop (R T : Nat → List Nat) : Prop := ∀ p b, b ∈ R p → b ∉ T p →
  (∃ q, (T b).getLast? = some q ∧ rk R b q < rk R b p) ∨ (∃ q, (T p).getLast? = some q ∧ rk R p q < rk R p b)
def Held (T : Nat → List Nat) : Prop := ∀ p b, (T p).head? = some b → (T b).getLast? = some p
structure Done (R T : Nat → List Nat) : Prop where
  tab : Tab R T
  stop : Stop R T
  held : Held T

/-! ### places -/
theorem idxOf_lt_of_mem {l : List Nat} {x : Nat} (h : x ∈ l) : l.idxOf x < l.length := List.idxOf_lt_length_iff.mpr h
theorem idxOf_inj {l : List Nat} {x y : Nat} (hx : x ∈ l) (e : l.idxOf x = l.idxOf y) : x = y := by
  have h1 := idxOf_lt_of_mem hx
  have h2 : l.idxOf y < l.length := by omega
  have a := List.getElem_idxOf h1
  have b := List.getElem_idxOf h2
  simp only [e] at a
  exact a.symm.trans b
theorem idx_ne {a x : Nat} (l : List Nat) (h : a ≠ x) : (a :: l).idxOf x = l.idxOf x + 1 := by
  rw [List.idxOf_cons, beq_eq_false_iff_ne.mpr h]; rfl
/-- a part of a list without repetition keeps the order -/
theorem sub_place : ∀ {s r : List Nat}, s.Sublist r → r.Nodup → ∀ {x y : Nat}, x ∈ s → y ∈ s → (s.idxOf x < s.idxOf y ↔ r.idxOf x < r.idxOf y)
  | _, _, .slnil, _, x, y, hx, _ => by simp at hx
  | s, _, .cons a h, hd, x, y, hx, hy => by
    have hd' := List.nodup_cons.mp hd
    have ha : a ≠ x := fun e => hd'.1 (e ▸ h.subset hx)
    have hb : a ≠ y := fun e => hd'.1 (e ▸ h.subset hy)
    rw [idx_ne _ ha, idx_ne _ hb, sub_place h hd'.2 hx hy]
    omega
  | _, _, .cons₂ a h, hd, x, y, hx, hy => by
    have hd' := List.nodup_cons.mp hd
    by_cases ha : a = x
    · subst ha
      by_cases hb : a = y
      · subst hb; simp
      · rw [List.idxOf_cons_self, List.idxOf_cons_self, idx_ne _ hb, idx_ne _ hb]
        omega
    · by_cases hb : a = y
      · subst hb
        rw [List.idxOf_cons_self, List.idxOf_cons_self]
        omega
      · have hx' : x ∈ _ := (List.mem_cons.mp hx).resolve_left (fun e => ha e.symm)
        have hy' : y ∈ _ := (List.mem_cons.mp hy).resolve_left (fun e => hb e.symm)
        rw [idx_ne _ ha, idx_ne _ hb, idx_ne _ ha, idx_ne _ hb]
        have := sub_place h hd'.2 hx' hy'
        omega
theorem head_mem {l : List Nat} {b : Nat} (h : l.head? = some b) : b ∈ l := by
  cases l with
  | nil => simp at h
  | cons a r => simp at h; simp [h]
theorem last_mem {l : List Nat} {b : Nat} (h : l.getLast? = some b) : b ∈ l := List.mem_of_getLast? h
theorem head_place {l : List Nat} {b : Nat} (h : l.head? = some b) : l.idxOf b = 0 := by
  cases l with
  | nil => simp at h
  | cons a r => simp at h; simp [h]
theorem last_place {l : List Nat} {b : Nat} (hd : l.Nodup) (h : l.getLast? = some b) {x : Nat} (hx : x ∈ l) : l.idxOf x ≤ l.idxOf b := by
  have e : l[l.length - 1]? = some b := by rw [← List.getLast?_eq_getElem?]; exact h
  obtain ⟨hl, e⟩ := List.getElem?_eq_some_iff.mp e
  have : l.idxOf b = l.length - 1 := by rw [← e]; exact hd.idxOf_getElem _ hl
  have := idxOf_lt_of_mem hx
  omega
theorem sub_head {s r : List Nat} (h : s.Sublist r) (hd : r.Nodup) {b x : Nat} (hb : s.head? = some b) (hx : x ∈ s) : r.idxOf b ≤ r.idxOf x := by
  by_cases e : x = b
  · subst e; omega
  · have h1 := head_place hb
    have h2 : s.idxOf x ≠ 0 := fun z => e (idxOf_inj hx (z.trans h1.symm))
    have := (sub_place h hd (head_mem hb) hx).mp (by omega)
    omega
theorem sub_last {s r : List Nat} (h : s.Sublist r) (hd : r.Nodup) {b x : Nat} (hb : s.getLast? = some b) (hx : x ∈ s) : r.idxOf x ≤ r.idxOf b := by
  by_cases e : r.idxOf x ≤ r.idxOf b
  · exact e
  · have h1 := last_place (hd.sublist h) hb hx
    have := (sub_place h hd (last_mem hb) hx).mpr (by omega)
    omega
theorem sub_eq : ∀ {s t r : List Nat}, s.Sublist r → t.Sublist r → r.Nodup → (∀ x, x ∈ s ↔ x ∈ t) → s = t
  | _, _, _, .slnil, h2, _, _ => (List.sublist_nil.mp h2).symm
  | s, t, _, .cons a h1, .cons _ h2, hd, e => sub_eq h1 h2 (List.nodup_cons.mp hd).2 e
  | s, _, _, .cons a h1, .cons₂ _ h2, hd, e => by
    have := (e a).mpr (by simp)
    exact absurd (h1.subset this) (List.nodup_cons.mp hd).1
  | _, t, _, .cons₂ a h1, .cons _ h2, hd, e => by
    have := (e a).mp (by simp)
    exact absurd (h2.subset this) (List.nodup_cons.mp hd).1
  | _, _, _, .cons₂ a h1, .cons₂ _ h2, hd, e => by
    have hd' := List.nodup_cons.mp hd
    rw [sub_eq h1 h2 hd'.2 fun x => ?_]
    constructor
    · intro hx
      have := (e x).mp (by simp [hx])
      rcases List.mem_cons.mp this with z | z
      · subst z; exact absurd (h1.subset hx) hd'.1
      · exact z
    · intro hx
      have := (e x).mpr (by simp [hx])
      rcases List.mem_cons.mp this with z | z
      · subst z; exact absurd (h2.subset hx) hd'.1
      · exact z

section
variable {R T T' C : Nat → List Nat}
theorem Tab.nd (L : Lists R) (t : Tab R T) (i : Nat) : (T i).Nodup := (L.nd i).sublist (t.sub i)
theorem Tab.ir (L : Lists R) (t : Tab R T) (i : Nat) : i ∉ T i := fun h => L.ir i ((t.sub i).subset h)
/-- one table, if both hold the same -/
theorem tab_eq (L : Lists R) (t : Tab R T) (t' : Tab R T') (h : ∀ i x, x ∈ T i ↔ x ∈ T' i) : T = T' := by
  funext i
  exact sub_eq (t.sub i) (t'.sub i) (L.nd i) (h i)

/-! ### the table behind all offers -/
structure Off (R T : Nat → List Nat) : Prop where
  dn : Done R T
  max : ∀ T', Done R T' → ∀ i x, x ∈ T' i → x ∈ T i
theorem off_one (L : Lists R) (a : Off R T) (b : Off R T') : T = T' :=
  tab_eq L a.dn.tab b.dn.tab fun i x => ⟨b.max T a.dn i x, a.max T' b.dn i x⟩

/-! ### a step -/
/-- all behind p go from the row of b, and b from theirs -/
def cut (C : Nat → List Nat) (b p : Nat) : Nat → List Nat := fun i =>
  if i = b then (C b).take ((C b).idxOf p + 1) else if i ∈ (C b).drop ((C b).idxOf p + 1) then (C i).erase b else C i
theorem mem_take_place {l : List Nat} (hd : l.Nodup) {k x : Nat} (h : x ∈ l) : x ∈ l.take k ↔ l.idxOf x < k := by
  induction l generalizing k with
  | nil => simp at h
  | cons a r ih =>
    cases k with
    | zero => simp
    | succ k =>
      by_cases e : a = x
      · subst e; simp
      · rw [idx_ne _ e, List.take_succ_cons, List.mem_cons]
        have hm := (List.mem_cons.mp h).resolve_left (fun z => e z.symm)
        have := ih (k := k) (List.nodup_cons.mp hd).2 hm
        constructor
        · rintro (z | z)
          · exact absurd z.symm e
          · have := this.mp z; omega
        · intro z; exact .inr (this.mpr (by omega))
theorem mem_drop_place {l : List Nat} (hd : l.Nodup) {k x : Nat} (h : x ∈ l) : x ∈ l.drop k ↔ k ≤ l.idxOf x := by
  have e : l.take k ++ l.drop k = l := List.take_append_drop k l
  have h1 := mem_take_place (k := k) hd h
  constructor
  · intro hx
    apply Classical.byContradiction
    intro hc
    have h2 : x ∈ l.take k := h1.mpr (by omega)
    rw [← e] at hd
    exact (List.nodup_append.mp hd).2.2 x h2 x hx rfl
  · intro hk
    rw [← e] at h
    rcases List.mem_append.mp h with z | z
    · have := h1.mp z; omega
    · exact z
theorem mem_cut (L : Lists R) (t : Tab R C) {b p i x : Nat} : x ∈ cut C b p i ↔ x ∈ C i ∧ ¬(i = b ∧ (C b).idxOf p < (C b).idxOf x) ∧ ¬(x = b ∧ (C b).idxOf p < (C b).idxOf i) := by
  have nd := t.nd L
  unfold cut
  by_cases hi : i = b
  · subst hi
    rw [if_pos rfl]
    constructor
    · intro h
      have hm := List.mem_of_mem_take h
      have := (mem_take_place (nd i) hm).mp h
      exact ⟨hm, fun z => by omega, fun z => by rw [z.1] at hm; exact t.ir L i hm⟩
    · rintro ⟨hm, h1, _⟩
      exact (mem_take_place (nd i) hm).mpr (by
        have : ¬ (C i).idxOf p < (C i).idxOf x := fun z => h1 ⟨rfl, z⟩
        omega)
  · rw [if_neg hi]
    by_cases hd : i ∈ (C b).drop ((C b).idxOf p + 1)
    · rw [if_pos hd, List.Nodup.mem_erase_iff (nd i)]
      have hm := List.mem_of_mem_drop hd
      have := (mem_drop_place (nd b) hm).mp hd
      constructor
      · rintro ⟨h1, h2⟩
        exact ⟨h2, fun z => hi z.1, fun z => h1 z.1⟩
      · rintro ⟨h1, _, h2⟩
        exact ⟨fun z => h2 ⟨z, by omega⟩, h1⟩
    · rw [if_neg hd]
      constructor
      · intro h
        refine ⟨h, fun z => hi z.1, fun z => ?_⟩
        obtain ⟨rfl, z⟩ := z
        have hm := t.mu _ _ h
        exact hd ((mem_drop_place (nd x) hm).mpr (by omega))
      · exact fun h => h.1
theorem cut_sub (C : Nat → List Nat) (b p i : Nat) : (cut C b p i).Sublist (C i) := by
  unfold cut
  split
  · rename_i e; subst e; exact List.take_sublist _ _
  · split
    · exact List.erase_sublist
    · exact List.Sublist.refl _
theorem cut_tab (L : Lists R) (t : Tab R C) (b p : Nat) : Tab R (cut C b p) := by
  refine ⟨fun i => (cut_sub C b p i).trans (t.sub i), fun i j h => ?_⟩
  rw [mem_cut L t] at h ⊢
  exact ⟨t.mu _ _ h.1, fun z => h.2.2 ⟨z.1, z.2⟩, fun z => h.2.1 ⟨z.1, z.2⟩⟩

/-- where the offers stand: the table, who is held by whom, who is still to offer -/
structure Stt (R C : Nat → List Nat) (h : Nat → Option Nat) (W : List Nat) : Prop where
  tab : Tab R C
  stop : ∀ p b, b ∈ R p → b ∉ C p → (∃ q, h b = some q ∧ rk R b q < rk R b p) ∨ (∃ q, h p = some q ∧ rk R p q < rk R p b)
  held : ∀ b p, h b = some p → (C p).head? = some b ∧ (C b).getLast? = some p
  wait : ∀ p b, (C p).head? = some b → p ∈ W ∨ h b = some p
  nd : W.Nodup
  disj : ∀ p ∈ W, ∀ b, h b ≠ some p
  max : ∀ T', Done R T' → ∀ i x, x ∈ T' i → x ∈ C i

theorem Stt.start (L : Lists R) {W : List Nat} (hn : W.Nodup) (hW : ∀ p, R p ≠ [] → p ∈ W) : Stt R R (fun _ => none) W where
  tab := ⟨fun i => List.Sublist.refl _, L.mu⟩
  stop := fun p b h1 h2 => absurd h1 h2
  held := fun b p e => by cases e
  wait := fun p b e => .inl (hW p fun z => by rw [z] at e; cases e)
  nd := hn
  disj := fun p _ b e => by cases e
  max := fun T' d i x hx => (d.tab.sub i).subset hx
theorem Stt.perm {h : Nat → Option Nat} {W W' : List Nat} (s : Stt R C h W) (hp : W'.Perm W) : Stt R C h W' :=
  ⟨s.tab, s.stop, s.held, fun p b e => (s.wait p b e).imp (fun z => hp.mem_iff.mpr z) id, hp.nodup_iff.mpr s.nd, fun p hp' => s.disj p (hp.mem_iff.mp hp'), s.max⟩
/-- nobody is left for the one who is to offer -/
theorem Stt.skip {h : Nat → Option Nat} {W : List Nat} {p : Nat} (s : Stt R C h (p :: W)) (e : C p = []) : Stt R C h W :=
  ⟨s.tab, s.stop, s.held, fun q b hq => (s.wait q b hq).imp (fun z => (List.mem_cons.mp z).resolve_left fun y => by rw [y, e] at hq; cases hq) id, (List.nodup_cons.mp s.nd).2, fun q hq => s.disj q (List.mem_cons_of_mem _ hq), s.max⟩
theorem Stt.fin {h : Nat → Option Nat} (s : Stt R C h []) : Off R C := by
  refine ⟨⟨s.tab, fun p b h1 h2 => ?_, fun p b e => ?_⟩, s.max⟩
  · rcases s.stop p b h1 h2 with ⟨q, e, l⟩ | ⟨q, e, l⟩
    · exact .inl ⟨q, (s.held _ _ e).2, l⟩
    · exact .inr ⟨q, (s.held _ _ e).2, l⟩
  · rcases s.wait p b e with z | z
    · cases z
    · exact (s.held _ _ z).2
end
theorem last_take {l : List Nat} {p : Nat} (h : p ∈ l) : (l.take (l.idxOf p + 1)).getLast? = some p := by
  have h1 := idxOf_lt_of_mem h
  rw [List.getLast?_eq_getElem?, List.length_take, Nat.min_eq_left (by omega), List.getElem?_take_of_lt (by omega)]
  rw [List.getElem?_eq_some_iff]
  exact ⟨by omega, by simp⟩
theorem head_take {l : List Nat} {k : Nat} : (l.take (k + 1)).head? = l.head? := by
  cases l <;> simp
theorem head_erase {l : List Nat} {x b : Nat} (h : l.head? = some x) (e : x ≠ b) : (l.erase b).head? = some x := by
  cases l with
  | nil => simp at h
  | cons a r =>
    simp at h
    subst h
    rw [List.erase_cons_tail (by simpa using e)]
    simp
theorem last_erase {l : List Nat} {w b : Nat} (h : l.getLast? = some w) (e : w ≠ b) : (l.erase b).getLast? = some w := by
  induction l with
  | nil => simp at h
  | cons a r ih =>
    by_cases ha : a = b
    · subst ha
      rw [List.erase_cons_head]
      cases r with
      | nil => simp at h; exact absurd h.symm e
      | cons c r => simpa [List.getLast?_cons_cons] using h
    · rw [List.erase_cons_tail (by simpa using ha)]
      cases r with
      | nil => simpa using h
      | cons c r =>
        have := ih (by simpa [List.getLast?_cons_cons] using h)
        cases hq : (c :: r).erase b with
        | nil => rw [hq] at this; simp at this
        | cons d r' => rw [hq] at this; rw [List.getLast?_cons_cons]; exact this

section
variable {R T T' C : Nat → List Nat} {h : Nat → Option Nat} {W : List Nat} {p b : Nat}
/-- who is offered to holds the one that offers, unless there is none -/
def hold (h : Nat → Option Nat) (b p : Nat) : Nat → Option Nat := fun i => if i = b then some p else h i
theorem cut_self (L : Lists R) (t : Tab R C) (hp : p ∈ C b) : cut C b p p = C p := by
  have ne : p ≠ b := fun e => t.ir L b (e ▸ hp)
  unfold cut
  rw [if_neg ne, if_neg]
  intro z
  have := (mem_drop_place (t.nd L b) hp).mp z
  omega
theorem Stt.ahead (L : Lists R) (s : Stt R C h (p :: W)) (hb : (C p).head? = some b) {p0 : Nat} (h0 : h b = some p0) : (C b).idxOf p < (C b).idxOf p0 ∧ rk R b p < rk R b p0 := by
  have hp : p ∈ C b := s.tab.mu _ _ (head_mem hb)
  have l0 := (s.held _ _ h0).2
  have ne : p ≠ p0 := fun e => s.disj p List.mem_cons_self b (e ▸ h0)
  have h1 := last_place (s.tab.nd L b) l0 hp
  have h2 : (C b).idxOf p ≠ (C b).idxOf p0 := fun z => ne (idxOf_inj hp z)
  have h3 : (C b).idxOf p < (C b).idxOf p0 := by omega
  exact ⟨h3, (sub_place (s.tab.sub b) (L.nd b) hp (last_mem l0)).mp h3⟩
theorem Stt.offer (L : Lists R) (s : Stt R C h (p :: W)) (hb : (C p).head? = some b) : Stt R (cut C b p) (hold h b p) ((h b).toList ++ W) := by
  have hbp : b ∈ C p := head_mem hb
  have hp : p ∈ C b := s.tab.mu _ _ hbp
  have nd := s.tab.nd L
  have nebp : p ≠ b := fun e => s.tab.ir L b (e ▸ hp)
  have hold_b : hold h b p b = some p := by unfold hold; rw [if_pos rfl]
  have hold_ne : ∀ {i}, i ≠ b → hold h b p i = h i := fun {i} e => by unfold hold; rw [if_neg e]
  have hd := List.nodup_cons.mp s.nd
  have headk : ∀ i w, i ≠ b → h i = some w → (cut C b p w).head? = some i := fun i w e hi => by
    have h1 := (s.held _ _ hi).1
    unfold cut
    split
    · rename_i e2; subst e2; rw [head_take]; exact h1
    · split
      · exact head_erase h1 e
      · exact h1
  refine ⟨cut_tab L s.tab b p, fun q x hx hn => ?_, fun i w hi => ?_, fun q x hq => ?_, ?_, fun q hq x hx => ?_, fun T' d i x hx => ?_⟩
  · by_cases hc : x ∈ C q
    · have hn' : ¬ (¬(q = b ∧ (C b).idxOf p < (C b).idxOf x) ∧ ¬(x = b ∧ (C b).idxOf p < (C b).idxOf q)) := fun z => hn ((mem_cut L s.tab).mpr ⟨hc, z⟩)
      by_cases h1 : q = b ∧ (C b).idxOf p < (C b).idxOf x
      · obtain ⟨rfl, h1⟩ := h1
        exact .inr ⟨p, hold_b, (sub_place (s.tab.sub q) (L.nd q) hp hc).mp h1⟩
      · have h2 : x = b ∧ (C b).idxOf p < (C b).idxOf q := by
          apply Classical.byContradiction
          exact fun z => hn' ⟨h1, z⟩
        obtain ⟨rfl, h2⟩ := h2
        exact .inl ⟨p, hold_b, (sub_place (s.tab.sub x) (L.nd x) hp (s.tab.mu _ _ hc)).mp h2⟩
    · rcases s.stop q x hx hc with ⟨w, e, l⟩ | ⟨w, e, l⟩
      · left
        by_cases hxb : x = b
        · subst hxb
          have := (s.ahead L hb e).2
          exact ⟨p, hold_b, by omega⟩
        · exact ⟨w, by rw [hold_ne hxb]; exact e, l⟩
      · right
        by_cases hqb : q = b
        · subst hqb
          have := (s.ahead L hb e).2
          exact ⟨p, hold_b, by omega⟩
        · exact ⟨w, by rw [hold_ne hqb]; exact e, l⟩
  · by_cases hib : i = b
    · subst hib
      rw [hold_b] at hi
      cases hi
      refine ⟨by rw [cut_self L s.tab hp]; exact hb, ?_⟩
      unfold cut
      rw [if_pos rfl]
      exact last_take hp
    · rw [hold_ne hib] at hi
      refine ⟨headk i w hib hi, ?_⟩
      have h1 := s.held _ _ hi
      unfold cut
      rw [if_neg hib]
      split
      · rename_i hdr
        refine last_erase h1.2 fun e => ?_
        subst e
        have h2 := head_place h1.1
        have := (mem_drop_place (nd w) (head_mem h1.1)).mp hdr
        omega
      · exact h1.2
  · by_cases hqp : q = p
    · subst hqp
      rw [cut_self L s.tab hp, hb] at hq
      cases hq
      exact .inr hold_b
    · have hm := head_mem hq
      have hm' := (cut_sub C b p q).subset hm
      obtain ⟨y, hy⟩ : ∃ y, (C q).head? = some y := by
        cases hc : C q with
        | nil => rw [hc] at hm'; simp at hm'
        | cons a r => exact ⟨a, rfl⟩
      rcases s.wait q y hy with z | z
      · exact .inl (List.mem_append_right _ ((List.mem_cons.mp z).resolve_left hqp))
      · by_cases hyb : y = b
        · subst hyb
          exact .inl (List.mem_append_left _ (by rw [z]; simp))
        · right
          have := headk y q hyb z
          rw [hq] at this
          cases this
          rw [hold_ne hyb]
          exact z
  · rw [List.nodup_append]
    refine ⟨by cases h b <;> simp, hd.2, fun x hx y hy e => ?_⟩
    subst e
    have hx' : h b = some x := by simpa using hx
    exact s.disj x (List.mem_cons_of_mem _ hy) b hx'
  · rcases List.mem_append.mp hq with z | z
    · have z' : h b = some q := by simpa using z
      by_cases hxb : x = b
      · subst hxb
        rw [hold_b] at hx
        cases hx
        exact s.disj p List.mem_cons_self x z'
      · rw [hold_ne hxb] at hx
        have h1 := (s.held _ _ hx).1
        rw [(s.held _ _ z').1] at h1
        exact hxb (Option.some.inj h1).symm
    · by_cases hxb : x = b
      · subst hxb
        rw [hold_b] at hx
        cases hx
        exact hd.1 z
      · rw [hold_ne hxb] at hx
        exact s.disj q (List.mem_cons_of_mem _ z) x hx
  · -- what a done table keeps is not cut
    have key : ∀ q, q ∈ T' b → ¬ (C b).idxOf p < (C b).idxOf q := fun q hq hlt => by
      have hqC := s.max T' d _ _ hq
      have hr : rk R b p < rk R b q := (sub_place (s.tab.sub b) (L.nd b) hp hqC).mp hlt
      have hbest : ∀ x, x ∈ T' p → rk R p b ≤ rk R p x := fun x hx => sub_head (s.tab.sub p) (L.nd p) hb (s.max T' d _ _ hx)
      by_cases hin : b ∈ T' p
      · obtain ⟨y, hy⟩ : ∃ y, (T' p).head? = some y := by
          cases hc : T' p with
          | nil => rw [hc] at hin; simp at hin
          | cons a r => exact ⟨a, rfl⟩
        have h1 := sub_head (d.tab.sub p) (L.nd p) hy hin
        have h2 := hbest y (head_mem hy)
        have e : y = b := idxOf_inj (l := R p) ((d.tab.sub p).subset (head_mem hy)) (by simp only [rk] at *; omega)
        subst e
        have h3 := sub_last (d.tab.sub y) (L.nd y) (d.held _ _ hy) hq
        simp only [rk] at *
        omega
      · rcases d.stop p b ((s.tab.sub p).subset hbp) hin with ⟨w, e, l⟩ | ⟨w, e, l⟩
        · have := sub_last (d.tab.sub b) (L.nd b) e hq
          simp only [rk] at *
          omega
        · have := hbest w (last_mem e)
          omega
    refine (mem_cut L s.tab).mpr ⟨s.max T' d _ _ hx, fun z => ?_, fun z => ?_⟩
    · obtain ⟨rfl, z⟩ := z
      exact key x hx z
    · obtain ⟨rfl, z⟩ := z
      exact key i (d.tab.mu _ _ hx) z

/-! ### the measure -/
/-- how many stand in the rows of the first n -/
def total (n : Nat) (C : Nat → List Nat) : Nat := ((List.range n).map fun i => (C i).length).sum
theorem sum_le : ∀ (l : List Nat) {f g : Nat → Nat}, (∀ i ∈ l, f i ≤ g i) → (l.map f).sum ≤ (l.map g).sum
  | [], _, _, _ => by simp
  | a :: l, f, g, h => by
    have := sum_le l (f := f) (g := g) fun i hi => h i (List.mem_cons_of_mem _ hi)
    have := h a List.mem_cons_self
    simp only [List.map_cons, List.sum_cons]
    omega
theorem sum_lt : ∀ (l : List Nat) {f g : Nat → Nat} {k : Nat}, (∀ i ∈ l, f i ≤ g i) → k ∈ l → f k < g k → (l.map f).sum < (l.map g).sum
  | [], _, _, _, _, hk, _ => by simp at hk
  | a :: l, f, g, k, h, hk, hlt => by
    have h1 := sum_le l (f := f) (g := g) fun i hi => h i (List.mem_cons_of_mem _ hi)
    have h2 := h a List.mem_cons_self
    simp only [List.map_cons, List.sum_cons]
    rcases List.mem_cons.mp hk with e | hk
    · subst e; omega
    · have := sum_lt l (f := f) (g := g) (fun i hi => h i (List.mem_cons_of_mem _ hi)) hk hlt
      omega
theorem total_cut_le (n : Nat) (C : Nat → List Nat) (b p : Nat) : total n (cut C b p) ≤ total n C := sum_le _ fun i _ => (cut_sub C b p i).length_le
theorem Stt.less (L : Lists R) (s : Stt R C h (p :: W)) (hb : (C p).head? = some b) {n : Nat} (hn : b < n) : total n (cut C b p) + ((h b).toList ++ W).length < total n C + (p :: W).length := by
  cases e : h b with
  | none =>
    have := total_cut_le n C b p
    simp
    omega
  | some p0 =>
    have h1 := (s.ahead L hb e).1
    have h2 := idxOf_lt_of_mem (last_mem (s.held _ _ e).2)
    have : total n (cut C b p) < total n C := sum_lt _ (k := b) (fun i _ => (cut_sub C b p i).length_le) (List.mem_range.mpr hn) (by
      unfold cut
      rw [if_pos rfl, List.length_take]
      omega)
    simp
    omega
end
/-! ### counting -/
theorem len_of_sub : ∀ {l1 l2 : List Nat}, l1.Nodup → (∀ x ∈ l1, x ∈ l2) → l1.length ≤ l2.length
  | [], _, _, _ => Nat.zero_le _
  | a :: l1, l2, hd, h => by
    have hd' := List.nodup_cons.mp hd
    have ha : a ∈ l2 := h a List.mem_cons_self
    have := len_of_sub (l1 := l1) (l2 := l2.erase a) hd'.2 fun x hx => (List.mem_erase_of_ne (show x ≠ a from fun e => hd'.1 (e ▸ hx))).mpr (h x (List.mem_cons_of_mem _ hx))
    rw [List.length_erase_of_mem ha] at this
    have := List.length_pos_of_mem ha
    rw [List.length_cons]
    omega
theorem onto_of {l1 l2 : List Nat} (hd : l1.Nodup) (h : ∀ x ∈ l1, x ∈ l2) (hl : l2.length ≤ l1.length) {y : Nat} (hy : y ∈ l2) : y ∈ l1 := by
  apply Classical.byContradiction
  intro hn
  have := len_of_sub (l1 := l1) (l2 := l2.erase y) hd fun x hx => (List.mem_erase_of_ne (show x ≠ y from fun e => hn (e ▸ hx))).mpr (h x hx)
  rw [List.length_erase_of_mem hy] at this
  have := List.length_pos_of_mem hy
  omega
theorem nodup_map_on {f : Nat → Nat} : ∀ {l : List Nat}, l.Nodup → (∀ x ∈ l, ∀ y ∈ l, f x = f y → x = y) → (l.map f).Nodup
  | [], _, _ => List.nodup_nil
  | a :: l, hd, h => by
    have hd' := List.nodup_cons.mp hd
    rw [List.map_cons, List.nodup_cons]
    refine ⟨fun z => ?_, nodup_map_on hd'.2 fun x hx y hy => h x (List.mem_cons_of_mem _ hx) y (List.mem_cons_of_mem _ hy)⟩
    obtain ⟨x, hx, e⟩ := List.mem_map.mp z
    have := h x (List.mem_cons_of_mem _ hx) a List.mem_cons_self e
    exact hd'.1 (this ▸ hx)
theorem onto_self {f : Nat → Nat} {l : List Nat} (hd : l.Nodup) (hin : ∀ x ∈ l, f x ∈ l) (inj : ∀ x ∈ l, ∀ y ∈ l, f x = f y → x = y) {y : Nat} (hy : y ∈ l) : ∃ x ∈ l, f x = y := by
  have := onto_of (l1 := l.map f) (l2 := l) (nodup_map_on hd inj) (fun x hx => by
    obtain ⟨z, hz, e⟩ := List.mem_map.mp hx
    exact e ▸ hin z hz) (by rw [List.length_map]; exact Nat.le_refl _) hy
  exact List.mem_map.mp this

section
variable {R T : Nat → List Nat} {n : Nat}
/-- who has somebody left -/
def some_left (n : Nat) (T : Nat → List Nat) : List Nat := (List.range n).filter fun i => !(T i).isEmpty
theorem mem_some_left {i : Nat} : i ∈ some_left n T ↔ i < n ∧ T i ≠ [] := by
  unfold some_left
  rw [List.mem_filter, List.mem_range]
  simp [List.isEmpty_iff]
theorem head_some {l : List Nat} (h : l ≠ []) : ∃ b, l.head? = some b := by
  cases l with
  | nil => exact absurd rfl h
  | cons a r => exact ⟨a, rfl⟩
theorem ne_of_mem {l : List Nat} {x : Nat} (h : x ∈ l) : l ≠ [] := fun e => by rw [e] at h; cases h
/-- one is the best left of a person just where the person is its worst -/
theorem Done.back (L : Lists R) (hn : ∀ i x, x ∈ R i → i < n) (d : Done R T) {b p : Nat} (hl : (T b).getLast? = some p) : (T p).head? = some b := by
  have hb : b ∈ some_left n T := mem_some_left.mpr ⟨hn b p ((d.tab.sub b).subset (last_mem hl)), ne_of_mem (last_mem hl)⟩
  obtain ⟨q, hq, e⟩ := onto_self (f := fun i => (T i).head?.getD 0) (l := some_left n T) (List.nodup_range.filter _) (fun x hx => by
    obtain ⟨h1, h2⟩ := mem_some_left.mp hx
    obtain ⟨y, hy⟩ := head_some h2
    simp only [hy, Option.getD_some]
    have hy' := d.tab.mu _ _ (head_mem hy)
    exact mem_some_left.mpr ⟨hn y x ((d.tab.sub y).subset hy'), ne_of_mem hy'⟩) (fun x hx y hy e => by
    obtain ⟨x', hx'⟩ := head_some (mem_some_left.mp hx).2
    obtain ⟨y', hy'⟩ := head_some (mem_some_left.mp hy).2
    simp only [hx', hy', Option.getD_some] at e
    subst e
    have h1 := d.held _ _ hx'
    rw [d.held _ _ hy'] at h1
    exact (Option.some.inj h1).symm) hb
  obtain ⟨y, hy⟩ := head_some (mem_some_left.mp hq).2
  simp only [hy, Option.getD_some] at e
  subst e
  have h1 := d.held _ _ hy
  rw [hl] at h1
  cases h1
  exact hy

/-! ### pairings -/
structure PairOk (R : Nat → List Nat) (m : Nat → Option Nat) : Prop where
  on : ∀ p q, m p = some q → q ∈ R p
  mu : ∀ p q, m p = some q → m q = some p
/-- one would rather have the other than its mate -/
def Wants (R : Nat → List Nat) (m : Nat → Option Nat) (p b : Nat) : Prop := ∀ y, m p = some y → rk R p b < rk R p y
def Spoil (R : Nat → List Nat) (m : Nat → Option Nat) (p b : Nat) : Prop := b ∈ R p ∧ Wants R m p b ∧ Wants R m b p
structure Good (R : Nat → List Nat) (m : Nat → Option Nat) : Prop where
  ok : PairOk R m
  no : ∀ p b, ¬ Spoil R m p b
def mt (m : Nat → Option Nat) : Nat → List Nat := fun i => (m i).toList
theorem mem_mt {m : Nat → Option Nat} {i x : Nat} : x ∈ mt m i ↔ m i = some x := by unfold mt; simp
theorem good_done (L : Lists R) {m : Nat → Option Nat} (g : Good R m) : Done R (mt m) := by
  have nw : ∀ p b, b ∈ R p → m p ≠ some b → ¬ Wants R m p b → ∃ q, (mt m p).getLast? = some q ∧ rk R p q < rk R p b := fun p b hb hne hw => by
    have : ∃ y, m p = some y ∧ ¬ rk R p b < rk R p y := by
      apply Classical.byContradiction
      intro hc
      exact hw fun y hy => Classical.byContradiction fun hz => hc ⟨y, hy, hz⟩
    obtain ⟨y, hy, hl⟩ := this
    refine ⟨y, by unfold mt; rw [hy]; rfl, ?_⟩
    have : rk R p y ≠ rk R p b := fun e => hne (by rw [hy, idxOf_inj (g.ok.on _ _ hy) e])
    omega
  refine ⟨⟨fun i => ?_, fun i j h => ?_⟩, fun p b hb hn => ?_, fun p b e => ?_⟩
  · unfold mt
    cases e : m i with
    | none => exact List.nil_sublist _
    | some q => exact List.singleton_sublist.mpr (g.ok.on _ _ e)
  · exact mem_mt.mpr (g.ok.mu _ _ (mem_mt.mp h))
  · have hne : m p ≠ some b := fun e => hn (mem_mt.mpr e)
    by_cases h1 : Wants R m p b
    · have h2 : ¬ Wants R m b p := fun z => g.no p b ⟨hb, h1, z⟩
      exact .inl (nw b p (L.mu _ _ hb) (fun e => hne (g.ok.mu _ _ e)) h2)
    · exact .inr (nw p b hb hne h1)
  · have h1 : m p = some b := mem_mt.mp (head_mem e)
    unfold mt
    rw [g.ok.mu _ _ h1]
    rfl
/-- all mates of a good pairing are left, and who has somebody left has a mate -/
theorem Off.good (L : Lists R) (hn : ∀ i x, x ∈ R i → i < n) (o : Off R T) {m : Nat → Option Nat} (g : Good R m) : (∀ p q, m p = some q → q ∈ T p) ∧ ∀ p, m p = none ↔ T p = [] := by
  have d := good_done L g
  have h1 : ∀ p q, m p = some q → q ∈ T p := fun p q e => o.max _ d p q (mem_mt.mpr e)
  refine ⟨h1, fun p => ⟨fun e => ?_, fun e => ?_⟩⟩
  · apply Classical.byContradiction
    intro hne
    -- whoever is the best one left of somebody has a mate
    obtain ⟨l, hl⟩ : ∃ l, (T p).getLast? = some l := by
      cases hc : T p with
      | nil => exact absurd hc hne
      | cons a r => exact ⟨_, List.getLast?_cons⟩
    have hh := o.dn.back L hn hl
    have hb : p ∈ R l := (o.dn.tab.sub l).subset (head_mem hh)
    have hnm : p ∉ mt m l := fun z => by
      have := g.ok.mu _ _ (mem_mt.mp z)
      rw [e] at this
      cases this
    rcases d.stop l p hb hnm with ⟨w, hw, _⟩ | ⟨w, hw, hlt⟩
    · have := mem_mt.mp (last_mem hw)
      rw [e] at this
      cases this
    · have h2 := h1 l w (mem_mt.mp (last_mem hw))
      have := sub_head (o.dn.tab.sub l) (L.nd l) hh h2
      simp only [rk] at *
      omega
  · cases hm : m p with
    | none => rfl
    | some q =>
      have := h1 p q hm
      rw [e] at this
      cases this
end
end Bk
set_option Elab.async false
set_option linter.all false
set_option maxRecDepth 100000
/-! Rows and tables of numbers in the layer's heap. -/
namespace Bk
open PySem PySem.Spec PyProof.Rows L2 LamX
abbrev nv (n : Nat) : V := .int (n : Int)
theorem nv_inj {a b : Nat} (h : nv a = nv b) : a = b := by
  have := V.int.inj h
  omega
theorem map_nv (r : List Nat) : r.map nv = (r.map Int.ofNat).map V.int := by
  rw [List.map_map]; rfl
/-- a row of numbers -/
abbrev RowAt (H : Hp) (a : Addr) (r : List Nat) : Prop := H a = some (.lst (r.map nv))
/-- a table: a list of rows, each an object of its own -/
structure Tbl (H : Hp) (t : Addr) (as : List Addr) (rows : List (List Nat)) : Prop where
  top : H t = some (.lst (as.map V.ref))
  len : as.length = rows.length
  nd : as.Nodup
  out : t ∉ as
  row : ∀ (i : Nat) (a : Addr) (r : List Nat), as[i]? = some a → rows[i]? = some r → RowAt H a r
abbrev fn (rows : List (List Nat)) : Nat → List Nat := fun i => rows.getD i []
theorem fn_of {rows : List (List Nat)} {i : Nat} {r : List Nat} (h : rows[i]? = some r) : fn rows i = r := by
  simp [fn, List.getD_eq_getElem?_getD, h]
theorem fn_at {rows : List (List Nat)} {i : Nat} (h : i < rows.length) : rows[i]? = some (fn rows i) := by
  simp [fn, List.getD_eq_getElem?_getD, h]
theorem fn_out {rows : List (List Nat)} {i : Nat} (h : rows.length ≤ i) : fn rows i = [] := by
  simp [fn, List.getD_eq_getElem?_getD, h]
section
variable {H H' : Hp} {t : Addr} {as : List Addr} {rows : List (List Nat)}
theorem Tbl.same (T : Tbl H t as rows) (e : Same H H') : Tbl H' t as rows := ⟨e _ _ T.top, T.len, T.nd, T.out, fun i a r h1 h2 => e _ _ (T.row i a r h1 h2)⟩
/-- all but the tables of code stay -/
theorem Tbl.extN (T : Tbl H t as rows) (e : ExtN H H') : Tbl H' t as rows := ⟨e _ _ T.top (fun _ z => by cases z), T.len, T.nd, T.out, fun i a r h1 h2 => e _ _ (T.row i a r h1 h2) (fun _ z => by cases z)⟩
theorem Tbl.upd_new (T : Tbl H t as rows) {p : Addr} {o : HO} (n : H p = none) : Tbl (upd H p o) t as rows := T.same fun b u e => by rw [upd_ne (ne_of_none e n)]; exact e
theorem Tbl.seq (K : PySem.W.Frag) (T : Tbl H t as rows) : SqL K H t (as.map V.ref) := SqL.of T.top
theorem Tbl.at (T : Tbl H t as rows) {i : Nat} (h : i < rows.length) : ∃ a, as[i]? = some a ∧ RowAt H a (fn rows i) ∧ a ≠ t ∧ a ∈ as := by
  have h' : i < as.length := by rw [T.len]; exact h
  refine ⟨as[i], List.getElem?_eq_getElem h', T.row i _ _ (List.getElem?_eq_getElem h') (fn_at h), fun e => T.out (by rw [← e]; exact List.getElem_mem h'), List.getElem_mem h'⟩
theorem Tbl.atI (T : Tbl H t as rows) {i : Nat} {a : Addr} (h : as[i]? = some a) : atI (as.map V.ref) (i : Int) = some (V.ref a) := atI_nat (by rw [List.getElem?_map, h]; rfl)
/-- a row is written -/
theorem Tbl.write (T : Tbl H t as rows) {i : Nat} {a : Addr} (h : as[i]? = some a) (r : List Nat) : Tbl (upd H a (.lst (r.map nv))) t as (rows.set i r) := by
  have hm := List.mem_of_getElem? h
  refine ⟨?_, by rw [List.length_set]; exact T.len, T.nd, T.out, fun j b q h1 h2 => ?_⟩
  · rw [upd_ne (fun e => T.out (by rw [e]; exact hm))]; exact T.top
  · by_cases e : j = i
    · subst e
      rw [h] at h1; cases h1
      have : j < rows.length := by
        have := (List.getElem?_eq_some_iff.mp h).1
        rw [T.len] at this; exact this
      rw [List.getElem?_set_self this] at h2
      cases h2
      exact upd_same
    · rw [List.getElem?_set_ne (Ne.symm e)] at h2
      have ne : b ≠ a := fun z => e (nd_ix T.nd (z ▸ h1) h)
      show upd H a _ b = _
      rw [upd_ne ne]
      exact T.row j b q h1 h2
/-- something else is written -/
theorem Tbl.other (T : Tbl H t as rows) {p : Addr} {o : HO} (h1 : p ≠ t) (h2 : p ∉ as) : Tbl (upd H p o) t as rows :=
  ⟨by rw [upd_ne (Ne.symm h1)]; exact T.top, T.len, T.nd, T.out, fun j b q e1 e2 => by
    show upd H p o b = _
    rw [upd_ne (show b ≠ p from fun z => h2 (by rw [← z]; exact List.mem_of_getElem? e1))]
    exact T.row j b q e1 e2⟩
/-- a table grows by a row -/
theorem Tbl.snoc (T : Tbl H t as rows) {a : Addr} {r : List Nat} (ha : RowAt H a r) (h1 : a ≠ t) (h2 : a ∉ as) : Tbl (upd H t (.lst ((as ++ [a]).map V.ref))) t (as ++ [a]) (rows ++ [r]) := by
  refine ⟨upd_same, by simp [T.len], ?_, ?_, fun i b q e1 e2 => ?_⟩
  · rw [List.nodup_append]
    exact ⟨T.nd, by simp, fun x hx y hy e => by simp at hy; subst hy; subst e; exact h2 hx⟩
  · rw [List.mem_append]
    rintro (z | z)
    · exact T.out z
    · simp at z; exact h1 z.symm
  · have nt : b ≠ t := by
      rintro rfl
      rcases List.mem_append.mp (List.mem_of_getElem? e1) with z | z
      · exact T.out z
      · simp at z; exact h1 z.symm
    show upd H t _ b = _
    rw [upd_ne nt]
    by_cases hi : i < as.length
    · rw [List.getElem?_append_left hi] at e1
      rw [List.getElem?_append_left (by rw [← T.len]; exact hi)] at e2
      exact T.row i b q e1 e2
    · rw [List.getElem?_append_right (by omega)] at e1
      rw [List.getElem?_append_right (by rw [← T.len]; omega)] at e2
      have : i - as.length = 0 := by
        have := (List.getElem?_eq_some_iff.mp e1).1
        simp at this
        omega
      rw [← T.len, this] at e2
      rw [this] at e1
      simp at e1 e2
      subst e1; subst e2
      exact ha
theorem Tbl.nil {D : Addr} (h : H D = some (.lst [])) : Tbl H D [] [] := ⟨h, rfl, List.nodup_nil, by simp, fun i a r e _ => by simp at e⟩
end
theorem same_upd {H : Hp} {p : Addr} {o : HO} (h : H p = none) : Same H (upd H p o) := fun b x e => by
  rw [upd_ne (ne_of_none e h)]
  exact e
theorem same_upd2 {H H' : Hp} {p : Addr} {o : HO} (s : Same H H') (h : H p = none) : Same H (upd H' p o) := fun b x e => by
  rw [upd_ne (ne_of_none e h)]
  exact s b x e
theorem small {n : Nat} (h : n ≤ 100000) : n < sizeLine := Nat.lt_of_le_of_lt h (by decide)
theorem eq_nv (a b : Nat) : decide (V.int (a : Int) = V.int (b : Int)) = decide (a = b) := by
  by_cases h : a = b
  · subst h; simp
  · rw [decide_eq_false h, decide_eq_false (fun z => h (nv_inj z))]
/-- is a number on a row -/
theorem inV_nv (r : List Nat) (x : Nat) : inV (nv x) (r.map nv) = decide (x ∈ r) := by
  unfold inV
  rw [List.any_map]
  have : ∀ y : Nat, eqV (nv y) (nv x) = decide (y = x) := fun y => by
    show decide ((y : Int) = (x : Int)) = _
    by_cases h : y = x
    · subst h; simp
    · rw [decide_eq_false h, decide_eq_false (by omega)]
  rw [show ((fun y => eqV y (nv x)) ∘ nv) = fun y => decide (y = x) from funext this]
  by_cases h : x ∈ r
  · rw [decide_eq_true h, List.any_eq_true]
    exact ⟨x, h, by simp⟩
  · rw [decide_eq_false h, List.any_eq_false]
    intro y hy e
    simp at e
    exact h (e ▸ hy)
theorem flat_nv (r : List Nat) : (r.map nv).all flatV = true := by
  rw [List.all_map, List.all_eq_true]
  intro x _
  rfl
/-! ### rows that may be lists of people -/
structure GL (rows : List (List Nat)) : Prop where
  ok : ∀ (i : Nat) (r : List Nat), rows[i]? = some r → r.Nodup ∧ ∀ x ∈ r, x < rows.length ∧ x ≠ i
theorem GL.nd {rows : List (List Nat)} (g : GL rows) (i : Nat) : (fn rows i).Nodup := by
  by_cases h : i < rows.length
  · exact (g.ok i _ (fn_at h)).1
  · rw [fn_out (by omega)]; exact List.nodup_nil
theorem GL.lt {rows : List (List Nat)} (g : GL rows) {i x : Nat} (h : x ∈ fn rows i) : i < rows.length ∧ x < rows.length ∧ x ≠ i := by
  by_cases hi : i < rows.length
  · exact ⟨hi, (g.ok i _ (fn_at hi)).2 x h⟩
  · rw [fn_out (by omega)] at h; cases h
/-- the mutual lists -/
def mutF (rows : List (List Nat)) (p : Nat) : List Nat := (fn rows p).filter fun o => decide (p ∈ fn rows o)
def mutL (rows : List (List Nat)) : List (List Nat) := (List.range rows.length).map (mutF rows)
theorem mutL_len (rows : List (List Nat)) : (mutL rows).length = rows.length := by simp [mutL]
theorem mutL_at {rows : List (List Nat)} {i : Nat} (h : i < rows.length) : (mutL rows)[i]? = some (mutF rows i) := by
  simp [mutL, h]
theorem fn_mutL (rows : List (List Nat)) (i : Nat) : fn (mutL rows) i = mutF rows i := by
  by_cases h : i < rows.length
  · exact fn_of (mutL_at h)
  · rw [fn_out (by rw [mutL_len]; omega)]
    unfold mutF
    rw [fn_out (by omega)]
    rfl
theorem mem_mutF {rows : List (List Nat)} {p o : Nat} : o ∈ mutF rows p ↔ o ∈ fn rows p ∧ p ∈ fn rows o := by
  unfold mutF
  rw [List.mem_filter]
  simp
theorem lists_mut {rows : List (List Nat)} (g : GL rows) : Lists (fn (mutL rows)) where
  nd := fun i => by rw [fn_mutL]; exact (g.nd i).filter _
  mu := fun i j h => by
    rw [fn_mutL] at h ⊢
    exact mem_mutF.mpr (mem_mutF.mp h).symm
  ir := fun i h => by
    rw [fn_mutL] at h
    exact (g.lt (mem_mutF.mp h).1).2.2 rfl
theorem mut_lt {rows : List (List Nat)} (g : GL rows) {i x : Nat} (h : x ∈ fn (mutL rows) i) : i < rows.length ∧ x < rows.length := by
  rw [fn_mutL] at h
  have := g.lt (mem_mutF.mp h).1
  exact ⟨this.1, this.2.1⟩
theorem gl_mut {rows : List (List Nat)} (g : GL rows) : GL (mutL rows) := ⟨fun i r h => by
  have e := fn_of h
  subst e
  refine ⟨(lists_mut g).nd i, fun x hx => ?_⟩
  have := mut_lt g hx
  exact ⟨by rw [mutL_len]; exact this.2, fun z => (lists_mut g).ir i (z ▸ hx)⟩⟩
theorem nodup_len {r : List Nat} {n : Nat} (hd : r.Nodup) (h : ∀ x ∈ r, x < n) : r.length ≤ n := by
  have := len_of_sub (l1 := r) (l2 := List.range n) hd fun x hx => List.mem_range.mpr (h x hx)
  simpa using this
theorem GL.len {rows : List (List Nat)} (g : GL rows) (i : Nat) : (fn rows i).length ≤ rows.length := nodup_len (g.nd i) fun x hx => (g.lt hx).2.1
theorem isi {K : PySem.W.Frag} {H : Hp} {v : V} {t n : String} {b : Bool} {Q : VK} (ty : TyX K H v (.type t)) (k : kitB t n = some b) (q : Q (.bl b) H) : rIsi K [v, .ty n] H Q :=
  ⟨v, .ty n, .type t, .type n, b, rfl, .ty n, ty, kit_ty k, q⟩
theorem cx_K {CX : CXT} {P : Program} {w : World} {K : PySem.W.Frag} {mg : Str → Option Value} {base : Heap} {N : List Str} {qual : Str} {scope : Scope} {f : Addr} {cd : Value} {A : Around} {outer : List Env} {s : Shared} {H : Hp} {E : XK} : (cxOf CX P w K mg base N qual scope f cd A outer s H E).K = K := rfl
theorem cx_w {CX : CXT} {P : Program} {w : World} {K : PySem.W.Frag} {mg : Str → Option Value} {base : Heap} {N : List Str} {qual : Str} {scope : Scope} {f : Addr} {cd : Value} {A : Around} {outer : List Env} {s : Shared} {H : Hp} {E : XK} : (cxOf CX P w K mg base N qual scope f cd A outer s H E).w = w := rfl
/-- over enumerate of a list that the body leaves as it is -/
theorem for_enum {K : PySem.W.Frag} {a : Addr} {xs : List V} {g : TG} {tb : TS} {D : Ends} {σ : L2.St} {H : Hp} (Pv : Nat → L2.St → Hp → Prop) (h0 : Pv 0 σ H) (hl : ∀ i σ H, i ≤ xs.length → Pv i σ H → SqL K H a xs)
    (hs : ∀ i x σ H T, xs[i]? = some x → H T = none → Pv i σ H → g (.ref T) σ (upd H T (.tup [.int (i : Nat), x])) fun σ2 H2 => tb { D with nx := Pv (i + 1), ct := Pv (i + 1), bk := D.nx } σ2 H2) (hd : ∀ σ H, Pv xs.length σ H → D.nx σ H) :
    ∃ W : Nat → Nat → L2.St → Hp → Prop, (∃ m, W 0 m σ H) ∧ ∀ i m σ H, W i m σ H →
      ((Ite K a).stop i H ∧ D.nx σ H) ∨ ((Ite K a).go i H ∧ ∃ N : L2.St → Hp → Prop, (∀ σ' H', N σ' H' → ∃ m', m' < m ∧ W (i + 1) m' σ' H') ∧ ∀ x H', (Ite K a).yld i H x H' → g x σ H' fun σ2 H2 => tb { D with nx := N, ct := N, bk := D.nx } σ2 H2) := by
  refine ⟨fun i m σ H => m = xs.length - i ∧ i ≤ xs.length ∧ Pv i σ H, ⟨xs.length, by simp, Nat.zero_le _, h0⟩, ?_⟩
  rintro i m σ H ⟨rfl, hi, p⟩
  have hq := hl i σ H hi p
  by_cases hlt : i < xs.length
  · refine .inr ⟨⟨xs, xs[i], hq, by simp [hlt]⟩, Pv (i + 1), fun σ' H' p' => ⟨xs.length - (i + 1), by omega, rfl, hlt, p'⟩, fun v H' hy => ?_⟩
    obtain ⟨T, x, rfl, hT, rfl, hx⟩ := hy
    exact hs i x σ H T (hx xs hq) hT p
  · have e : i = xs.length := by omega
    subst e
    exact .inl ⟨⟨xs, hq, Nat.le_refl _⟩, hd σ H p⟩
/-- a comprehension over enumerate -/
theorem lc_enum {K : PySem.W.Frag} {a : Addr} {xs : List V} {g : TG} {tt : TT} {te : TE} {vs : List Nat} {σ : L2.St} {H1 : Hp} {D : Addr} {Qd : Hp → Prop} (Pv : Nat → Hp → Prop) (h0 : Pv 0 (upd H1 D (.lst []))) (hl : ∀ i H, i ≤ xs.length → Pv i H → SqL K H a xs)
    (hs : ∀ i x H T, xs[i]? = some x → H T = none → Pv i H → g (.ref T) (wipe σ vs) (upd H T (.tup [.int (i : Nat), x])) fun σ2 H2 => wipe σ2 vs = wipe σ vs ∧ tt σ2 H2 fun b H3 =>
      if b = true then te σ2 H3 fun y H4 => ∃ acc, H4 D = some (.lst acc) ∧ acc.length < sizeLine ∧ Pv (i + 1) (upd H4 D (.lst (acc ++ [y]))) else Pv (i + 1) H3) (hd : ∀ H, Pv xs.length H → Qd H) :
    ∃ W : Nat → Nat → Hp → Prop, (∃ m, W 0 m (upd H1 D (.lst []))) ∧ ∀ i m H, W i m H →
      ((Ite K a).stop i H ∧ Qd H) ∨ ((Ite K a).go i H ∧ ∃ Nx : Hp → Prop, (∀ H', Nx H' → ∃ m', m' < m ∧ W (i + 1) m' H') ∧ ∀ x H', (Ite K a).yld i H x H' → g x (wipe σ vs) H' fun σ2 H2 => wipe σ2 vs = wipe σ vs ∧ tt σ2 H2 fun b H3 =>
        if b = true then te σ2 H3 fun y H4 => ∃ acc, H4 D = some (.lst acc) ∧ acc.length < sizeLine ∧ Nx (upd H4 D (.lst (acc ++ [y]))) else Nx H3) := by
  refine ⟨fun i m H => m = xs.length - i ∧ i ≤ xs.length ∧ Pv i H, ⟨xs.length, by simp, Nat.zero_le _, h0⟩, ?_⟩
  rintro i m H ⟨rfl, hi, p⟩
  have hq := hl i H hi p
  by_cases hlt : i < xs.length
  · refine .inr ⟨⟨xs, xs[i], hq, by simp [hlt]⟩, Pv (i + 1), fun H' p' => ⟨xs.length - (i + 1), by omega, rfl, hlt, p'⟩, fun v H' hy => ?_⟩
    obtain ⟨T, x, rfl, hT, rfl, hx⟩ := hy
    exact hs i x H T (hx xs hq) hT p
  · have e : i = xs.length := by omega
    subst e
    exact .inl ⟨⟨xs, hq, Nat.le_refl _⟩, hd H p⟩
/-- a dict comprehension over enumerate -/
theorem dc_enum {K : PySem.W.Frag} {a : Addr} {xs : List V} {g : TG} {tt : TT} {tk tv : TE} {vs : List Nat} {σ : L2.St} {H1 : Hp} {D : Addr} {Qd : Hp → Prop} (Pv : Nat → Hp → Prop) (h0 : Pv 0 (upd H1 D (.dK []))) (hl : ∀ i H, i ≤ xs.length → Pv i H → SqL K H a xs)
    (hs : ∀ i x H T, xs[i]? = some x → H T = none → Pv i H → g (.ref T) (wipe σ vs) (upd H T (.tup [.int (i : Nat), x])) fun σ2 H2 => wipe σ2 vs = wipe σ vs ∧ tt σ2 H2 fun b H3 =>
      if b = true then tk σ2 H3 fun y H4 => tv σ2 H4 fun z H5 => ∃ kvs k, y = kV k ∧ H5 D = some (.dK kvs) ∧ kvs.length < sizeLine ∧ Pv (i + 1) (upd H5 D (.dK (putK kvs k z))) else Pv (i + 1) H3) (hd : ∀ H, Pv xs.length H → Qd H) :
    ∃ W : Nat → Nat → Hp → Prop, (∃ m, W 0 m (upd H1 D (.dK []))) ∧ ∀ i m H, W i m H →
      ((Ite K a).stop i H ∧ Qd H) ∨ ((Ite K a).go i H ∧ ∃ Nx : Hp → Prop, (∀ H', Nx H' → ∃ m', m' < m ∧ W (i + 1) m' H') ∧ ∀ x H', (Ite K a).yld i H x H' → g x (wipe σ vs) H' fun σ2 H2 => wipe σ2 vs = wipe σ vs ∧ tt σ2 H2 fun b H3 =>
        if b = true then tk σ2 H3 fun y H4 => tv σ2 H4 fun z H5 => ∃ kvs k, y = kV k ∧ H5 D = some (.dK kvs) ∧ kvs.length < sizeLine ∧ Nx (upd H5 D (.dK (putK kvs k z))) else Nx H3) := by
  refine ⟨fun i m H => m = xs.length - i ∧ i ≤ xs.length ∧ Pv i H, ⟨xs.length, by simp, Nat.zero_le _, h0⟩, ?_⟩
  rintro i m H ⟨rfl, hi, p⟩
  have hq := hl i H hi p
  by_cases hlt : i < xs.length
  · refine .inr ⟨⟨xs, xs[i], hq, by simp [hlt]⟩, Pv (i + 1), fun H' p' => ⟨xs.length - (i + 1), by omega, rfl, hlt, p'⟩, fun v H' hy => ?_⟩
    obtain ⟨T, x, rfl, hT, rfl, hx⟩ := hy
    exact hs i x H T (hx xs hq) hT p
  · have e : i = xs.length := by omega
    subst e
    exact .inl ⟨⟨xs, hq, Nat.le_refl _⟩, hd H p⟩
end Bk
set_option Elab.async false
set_option linter.all false
namespace Bk
open PySem PySem.Spec PyProof.Rows L2 LamX
/-- the scope of a comprehension -/
def lcS : Expr → Scope
  | .ListComp _ _ sc _ => sc
  | .DictComp _ _ _ sc _ => sc
  | .SetComp _ _ sc _ => sc
  | _ => { kind := .function, names := [], isGenerator := false, isCoroutine := false }
/-- what the last statement of a def returns -/
def retE (s : Stmt) : Expr := match (defBody s).getLast? with
  | some (.Return (some e) _) => e
  | _ => .Constant .none 0 ⟨0, 0, 0, 0⟩
/-! the rules with the written part named -/
def rLn (K : PySem.W.Frag) : List V → Hp → VK → Prop := fun xs H Q => ∃ p ys, xs = [.ref p] ∧ (SqL K H p ys ∨ SqT K H p ys) ∧ Q (.int ys.length) H
def rLs (K : PySem.W.Frag) : List V → Hp → VK → Prop := fun xs H Q => ∃ p ys, xs = [.ref p] ∧ (SqL K H p ys ∨ SqT K H p ys) ∧ ∀ l, H l = none → Q (.ref l) (upd H l (.lst ys))
def rTs (K : PySem.W.Frag) : List V → Hp → VK → Prop := fun xs H Q => ∃ p ys, xs = [.ref p] ∧ ((SqL K H p ys ∧ ∀ l, H l = none → Q (.ref l) (upd H l (.tup ys))) ∨ (SqT K H p ys ∧ Q (.ref p) H))
section
variable {X : Cx} {K : PySem.W.Frag}
theorem kix_list (h : X.K = K := by rfl) : IxR X (rIxL K) := by subst h; exact ix_list
theorem kix_tup (h : X.K = K := by rfl) : IxR X (rIxT K) := by subst h; exact ix_tup
theorem ksl_list (h : X.K = K := by rfl) : SlR X (rSlL K) := by subst h; exact sl_list
theorem kin (h : X.K = K := by rfl) : OpR X (compareOp .In) (rIn K false) := by subst h; exact op_in_seq
theorem knotin (h : X.K = K := by rfl) : OpR X (compareOp .NotIn) (rIn K true) := by subst h; exact op_notIn_seq
theorem keqD (hu : X.A.units + 64 < cLine) (h : X.K = K := by rfl) : OpR X (compareOp .Eq) (rEqD K) := by subst h; exact op_eqD hu
theorem kneD (hu : X.A.units + 64 < cLine) (h : X.K = K := by rfl) : OpR X (compareOp .NotEq) (rNeD K) := by subst h; exact op_neD hu
theorem klen (h : X.K = K := by rfl) : CallR X (.builtin "len") (rLn K) := by subst h; exact call_len_seq
theorem klist_of (h : X.K = K := by rfl) : CallR X (.type "list") (rLs K) := by subst h; exact call_list_of
theorem ktuple_of (h : X.K = K := by rfl) : CallR X (.type "tuple") (rTs K) := by subst h; exact call_tuple_of
theorem kisi (h : X.K = K := by rfl) : CallR X (.builtin "isinstance") (rIsi K) := by subst h; exact call_isi
theorem kall (hc : X.calm = true) (h : X.K = K := by rfl) : CallR X (.builtin "all") (rAll K) := by subst h; exact cr_all hc
theorem ksortedI (h : X.K = K := by rfl) : CallR X (.builtin "sorted") (rSortedI K) := by subst h; exact cr_sortedI
theorem kpi_list {tg l : Expr} {tl : TE} (hl : PE X l tl) (h : X.K = K := by rfl) : PI X tg l (iList K tl) := by subst h; exact pi_list hl
theorem kpi_enum {e : Expr} {ta : TA} {p pos tpos : Pos} {elts : List Expr} {kk : Nat} (hg : Gl X "enumerate") (hm : X.mg "enumerate" = none) (ha : PA X [e] ta) (h : X.K = K := by rfl) (hs : starEach [e] X.env = [(false, eval e X.env)] := by rfl) :
    PI X (.Tuple elts kk tpos) (.Call (.Name "enumerate" p) [e] [] pos) (iEnum K ta) := by subst h; exact pi_enum hg hm ha hs
theorem kpg_tup {es : List Expr} {k : Nat} {t : TGs} {n : Nat} {pos : Pos} (hc : X.calm = true) (hp : PGs X es t) (h : X.K = K := by rfl) (hn : (assignEach es X.env).length = n := by rfl) (hst : (assignEach es X.env).findIdx? (·.1) = none := by rfl) :
    PG X (.Tuple es k pos) (gTup K n t) := by subst h; exact pg_tup hc hp hn hst
end
end Bk
set_option Elab.async false
set_option linter.all false
namespace Bk
open PySem PySem.Spec PyProof.Rows L2 LamX
theorem wipe1_set (σ : L2.St) (k : Nat) (v : Option V) (hk : k < σ.length) : wipe ((wipe σ [k]).set k v) [k] = wipe σ [k] := by
  show ((σ.set k none).set k v).set k none = σ.set k none
  rw [List.set_set, List.set_set]
/-- [x for x in row if keep x], over numbers -/
theorem lc_keep {K : PySem.W.Frag} {a D : Addr} {k : Nat} {σ : L2.St} {H1 : Hp} {tt : TT} {Qd : Hp → Prop} {r : List Nat} (keep : Nat → Bool) (hD : H1 D = none) (src : SqL K H1 a (r.map nv)) (hk : k < σ.length) (hl : r.length ≤ 100000)
    (ht : ∀ x ∈ r, ∀ H Qt, Same H1 H → Qt (keep x) H → tt ((wipe σ [k]).set k (some (nv x))) H Qt) (hd : Qd (upd H1 D (.lst ((r.filter keep).map nv)))) :
    ∃ W : Nat → Nat → Hp → Prop, (∃ m, W 0 m (upd H1 D (.lst []))) ∧ ∀ i m H, W i m H →
      ((Itl K a).stop i H ∧ Qd H) ∨ ((Itl K a).go i H ∧ ∃ Nx : Hp → Prop, (∀ H', Nx H' → ∃ m', m' < m ∧ W (i + 1) m' H') ∧ ∀ x H', (Itl K a).yld i H x H' → gName k x (wipe σ [k]) H' fun σ2 H2 => wipe σ2 [k] = wipe σ [k] ∧ tt σ2 H2 fun b H3 =>
        if b = true then tVar k σ2 H3 fun y H4 => ∃ acc, H4 D = some (.lst acc) ∧ acc.length < sizeLine ∧ Nx (upd H4 D (.lst (acc ++ [y]))) else Nx H3) := by
  refine lc_list (K := K) (a := a) (xs := r.map nv) (fun i H => H = upd H1 D (.lst (((r.take i).filter keep).map nv))) rfl (fun i H _ e => ?_) (fun i x H hx e => ?_) (fun H e => ?_)
  · subst e; exact (same_upd hD).seq src
  · subst e
    rw [List.getElem?_map] at hx
    obtain ⟨z, hz, rfl⟩ := Option.map_eq_some_iff.mp hx
    have hm := List.mem_of_getElem? hz
    refine ⟨wipe1_set σ k _ hk, ht z hm _ _ (same_upd hD) ?_⟩
    have et : r.take (i + 1) = r.take i ++ [z] := by rw [List.take_add_one, hz]; rfl
    cases hkz : keep z with
    | true =>
      refine iteT ⟨nv z, ?_, _, upd_same, ?_, ?_⟩
      · rw [List.getElem?_set_self (by rw [wipe_length]; exact hk)]
      · rw [List.length_map]
        refine small (Nat.le_trans (List.length_filter_le _ _) ?_)
        rw [List.length_take]; omega
      · rw [upd_upd, et, List.filter_append, List.map_append]
        simp [hkz]
    | false =>
      refine iteF ?_
      rw [et, List.filter_append]
      simp [hkz]
  · subst e
    rw [List.length_map, List.take_length]
    exact hd
theorem for_rng {lo : Int} {n : Nat} (m : Nat) (e : n = m) {g : TG} {tb : TS} {D : Ends} {σ : L2.St} {H : Hp} (Pv : Nat → L2.St → Hp → Prop) (h0 : Pv 0 σ H)
    (hs : ∀ i σ H, i < m → Pv i σ H → g (.int (lo + i)) σ H fun σ2 H2 => tb { D with nx := Pv (i + 1), ct := Pv (i + 1), bk := D.nx } σ2 H2) (hd : ∀ σ H, Pv m σ H → D.nx σ H) :
    ∃ W : Nat → Nat → L2.St → Hp → Prop, (∃ m, W 0 m σ H) ∧ ∀ i m σ H, W i m σ H →
      ((Itr lo n).stop i H ∧ D.nx σ H) ∨ ((Itr lo n).go i H ∧ ∃ N : L2.St → Hp → Prop, (∀ σ' H', N σ' H' → ∃ m', m' < m ∧ W (i + 1) m' σ' H') ∧ ∀ x H', (Itr lo n).yld i H x H' → g x σ H' fun σ2 H2 => tb { D with nx := N, ct := N, bk := D.nx } σ2 H2) := by
  subst e
  exact for_range Pv h0 hs hd
theorem lc_rng {lo : Int} {n : Nat} (m : Nat) (e : n = m) {g : TG} {tt : TT} {te : TE} {vs : List Nat} {σ : L2.St} {H1 : Hp} {D : Addr} {Qd : Hp → Prop} (Pv : Nat → Hp → Prop) (h0 : Pv 0 (upd H1 D (.lst [])))
    (hs : ∀ i H, i < m → Pv i H → g (.int (lo + i)) (wipe σ vs) H fun σ2 H2 => wipe σ2 vs = wipe σ vs ∧ tt σ2 H2 fun b H3 =>
      if b = true then te σ2 H3 fun y H4 => ∃ acc, H4 D = some (.lst acc) ∧ acc.length < sizeLine ∧ Pv (i + 1) (upd H4 D (.lst (acc ++ [y]))) else Pv (i + 1) H3) (hd : ∀ H, Pv m H → Qd H) :
    ∃ W : Nat → Nat → Hp → Prop, (∃ m, W 0 m (upd H1 D (.lst []))) ∧ ∀ i m H, W i m H →
      ((Itr lo n).stop i H ∧ Qd H) ∨ ((Itr lo n).go i H ∧ ∃ Nx : Hp → Prop, (∀ H', Nx H' → ∃ m', m' < m ∧ W (i + 1) m' H') ∧ ∀ x H', (Itr lo n).yld i H x H' → g x (wipe σ vs) H' fun σ2 H2 => wipe σ2 vs = wipe σ vs ∧ tt σ2 H2 fun b H3 =>
        if b = true then te σ2 H3 fun y H4 => ∃ acc, H4 D = some (.lst acc) ∧ acc.length < sizeLine ∧ Nx (upd H4 D (.lst (acc ++ [y]))) else Nx H3) := by
  subst e
  exact lc_range Pv h0 hs hd
theorem toNat_len {α : Type} (l : List α) : ((l.length : Nat) : Int).toNat = l.length := rfl
theorem z62 {n : Nat} (h : n ≤ 100000) : -(2 ^ 62) ≤ (n : Int) ∧ (n : Int) < 2 ^ 62 := by omega
theorem Tbl.fresh {H : Hp} {t : Addr} {as : List Addr} {rows : List (List Nat)} (T : Tbl H t as rows) {D : Addr} (hD : H D = none) : D ∉ as ∧ D ≠ t := by
  refine ⟨fun z => ?_, fun z => ?_⟩
  · obtain ⟨j, hj, ej⟩ := List.getElem_of_mem z
    have hj2 : j < rows.length := by rw [← T.len]; exact hj
    have : H D = _ := T.row j D _ (by rw [List.getElem?_eq_getElem hj, ej]) (List.getElem?_eq_getElem hj2)
    rw [hD] at this
    cases this
  · have := T.top
    rw [← z, hD] at this
    cases this
theorem yesI {σ : L2.St} {H : Hp} {f g : Hp → Prop} (h : f H) : tYes σ H (fun b H3 => if b = true then f H3 else g H3) := by
  show (if true = true then f H else g H)
  exact iteT h
end Bk
set_option Elab.async false
set_option linter.all false
namespace Bk
open PySem PySem.Spec PyProof.Rows L2 LamX
/-! ### rows by a function -/
def mkL (n : Nat) (f : Nat → List Nat) : List (List Nat) := (List.range n).map f
theorem mkL_len (n : Nat) (f : Nat → List Nat) : (mkL n f).length = n := by simp [mkL]
theorem mkL_at {n i : Nat} {f : Nat → List Nat} (h : i < n) : (mkL n f)[i]? = some (f i) := by simp [mkL, h]
theorem fn_mkL {n i : Nat} {f : Nat → List Nat} (h : i < n) : fn (mkL n f) i = f i := fn_of (mkL_at h)
theorem mkL_set {n i : Nat} (f : Nat → List Nat) (v : List Nat) : (mkL n f).set i v = mkL n (fun j => if j = i then v else f j) := by
  apply List.ext_getElem?
  intro j
  by_cases hj : j < n
  · rw [mkL_at hj]
    by_cases e : j = i
    · subst e
      rw [List.getElem?_set_self (by rw [mkL_len]; exact hj), if_pos rfl]
    · rw [List.getElem?_set_ne (Ne.symm e), mkL_at hj, if_neg e]
  · rw [List.getElem?_eq_none (by rw [List.length_set, mkL_len]; omega), List.getElem?_eq_none (by rw [mkL_len]; omega)]
theorem mkL_congr {n : Nat} {f g : Nat → List Nat} (h : ∀ i, i < n → f i = g i) : mkL n f = mkL n g := by
  unfold mkL
  exact List.map_congr_left fun i hi => h i (List.mem_range.mp hi)
theorem mkL_fn (rows : List (List Nat)) : mkL rows.length (fn rows) = rows := by
  apply List.ext_getElem?
  intro j
  by_cases hj : j < rows.length
  · rw [mkL_at hj, fn_at hj]
  · rw [List.getElem?_eq_none (by rw [mkL_len]; omega), List.getElem?_eq_none (by omega)]
theorem mutL_mkL (rows : List (List Nat)) : mutL rows = mkL rows.length (mutF rows) := rfl
theorem cutV_drop (xs : List V) (k : Nat) : cutV xs (some (k : Int)) none = xs.drop k := by
  unfold cutV
  rw [HT.sIx_nat, HT.sIx_none]
  by_cases h : k ≤ xs.length
  · rw [Nat.min_eq_left h]
    exact List.take_of_length_le (by rw [List.length_drop]; exact Nat.le_refl _)
  · rw [Nat.min_eq_right (by omega), List.drop_of_length_le (Nat.le_refl _), List.drop_of_length_le (by omega)]
    simp
theorem cutV_take (xs : List V) (k : Nat) : cutV xs none (some (k : Int)) = xs.take k := by
  unfold cutV
  rw [HT.sIx_nat, HT.sIx_none]
  rw [List.drop_zero, Nat.sub_zero]
  by_cases h : k ≤ xs.length
  · rw [Nat.min_eq_left h]
  · rw [Nat.min_eq_right (by omega), List.take_of_length_le (Nat.le_refl _), List.take_of_length_le (by omega)]
theorem before_idx : ∀ {r : List Nat} {m x : Nat}, m < r.idxOf x → r[m]? ≠ some x
  | [], m, x, h => by simp
  | y :: r, 0, x, h => by
    intro e
    simp at e
    subst e
    simp at h
  | y :: r, m + 1, x, h => by
    by_cases e : y = x
    · subst e; simp at h
    · rw [idx_ne _ e] at h
      rw [List.getElem?_cons_succ]
      exact before_idx (by omega)
theorem erase_idx : ∀ {r : List Nat} {x : Nat}, x ∈ r → r.eraseIdx (r.idxOf x) = r.erase x
  | [], x, h => by simp at h
  | y :: r, x, h => by
    by_cases e : y = x
    · subst e; simp
    · rw [idx_ne _ e, List.erase_cons_tail (by simpa using e), List.eraseIdx_cons_succ, erase_idx ((List.mem_cons.mp h).resolve_left (Ne.symm e))]
/-- what list.index is asked, of numbers -/
theorem index_nv {K : PySem.W.Frag} {H : Hp} {a : Addr} {r : List Nat} {x : Nat} {Q : VK} (ha : SqL K H a (r.map nv)) (hx : x ∈ r) (q : Q (nv (r.idxOf x)) H) : rIndex K (.ref a) [nv x] H Q := by
  have hl := idxOf_lt_of_mem hx
  refine ⟨a, r.map nv, nv x, r.idxOf x, nv x, rfl, rfl, ha, rfl, flat_nv _, ?_, ?_, fun m z hm hz => ?_, q⟩
  · rw [List.getElem?_map, List.getElem?_eq_getElem hl, List.getElem_idxOf]; rfl
  · show decide ((x : Int) = (x : Int)) = true; simp
  · rw [List.getElem?_map] at hz
    obtain ⟨y, hy, rfl⟩ := Option.map_eq_some_iff.mp hz
    obtain ⟨hm2, ey⟩ := List.getElem?_eq_some_iff.mp hy
    have : y ≠ x := fun e => before_idx hm (by rw [hy, e])
    show decide ((y : Int) = (x : Int)) = false
    exact decide_eq_false (by omega)
/-- what list.remove is asked, of numbers -/
theorem remove_nv {H : Hp} {a : Addr} {r : List Nat} {x : Nat} {Q : VK} (ha : RowAt H a r) (hx : x ∈ r) (q : Q .non (upd H a (.lst ((r.erase x).map nv)))) : rRemI (.ref a) [nv x] H Q := by
  have hl := idxOf_lt_of_mem hx
  have hmap : ∀ l : List Nat, (l.map Int.ofNat).map V.int = l.map nv := fun l => by rw [List.map_map]; rfl
  refine ⟨a, r.map Int.ofNat, (x : Int), r.idxOf x, rfl, rfl, by rw [hmap]; exact ha, ?_, fun m hm hz => ?_, ?_⟩
  · rw [List.getElem?_map, List.getElem?_eq_getElem hl, List.getElem_idxOf]; rfl
  · rw [List.getElem?_map] at hz
    obtain ⟨y, hy, ey⟩ := Option.map_eq_some_iff.mp hz
    have : y = x := Int.ofNat.inj ey
    exact before_idx hm (by rw [hy, this])
  · have e : (r.map Int.ofNat).eraseIdx (r.idxOf x) = (r.erase x).map Int.ofNat := by
      rw [← erase_idx hx]
      apply List.ext_getElem?
      intro j
      rw [List.getElem?_map, List.getElem?_eraseIdx, List.getElem?_eraseIdx]
      split <;> rw [List.getElem?_map]
    rw [e, hmap]
    exact q
/-! ### somebody or nobody -/
def ov : Option Nat → V
  | none => .non
  | some n => nv n
/-- who holds whom, as a list -/
def hL (n : Nat) (h : Nat → Option Nat) : List V := (List.range n).map fun i => ov (h i)
theorem hL_len (n : Nat) (h : Nat → Option Nat) : (hL n h).length = n := by simp [hL]
theorem hL_at {n i : Nat} {h : Nat → Option Nat} (hi : i < n) : (hL n h)[i]? = some (ov (h i)) := by simp [hL, hi]
theorem hL_set {n b p : Nat} (h : Nat → Option Nat) (hb : b < n) : (hL n h).set b (nv p) = hL n (hold h b p) := by
  apply List.ext_getElem?
  intro j
  by_cases hj : j < n
  · rw [hL_at hj]
    unfold hold
    by_cases e : j = b
    · subst e
      rw [List.getElem?_set_self (by rw [hL_len]; exact hj), if_pos rfl]
      rfl
    · rw [List.getElem?_set_ne (Ne.symm e), hL_at hj, if_neg e]
  · rw [List.getElem?_eq_none (by rw [List.length_set, hL_len]; omega), List.getElem?_eq_none (by rw [hL_len]; omega)]
theorem hL_none (n : Nat) : (List.replicate n [V.non]).flatten = hL n fun _ => none := by
  induction n with
  | zero => rfl
  | succ n ih =>
    have e : hL (n + 1) (fun _ => none) = hL n (fun _ => none) ++ [V.non] := by
      simp only [hL, List.range_succ, List.map_append]
      rfl
    rw [e, ← ih, List.replicate_succ', List.flatten_append]
    rfl
theorem rgV_nv (n : Nat) : rgV 0 (n : Int) = (List.range n).map nv := by
  unfold rgV
  rw [show ((n : Int) - 0).toNat = n by omega]
  apply List.map_congr_left
  intro i _
  show V.int (0 + (i : Int)) = nv i
  rw [Int.zero_add]
theorem ixN_nat {n b : Nat} (h : b < n) : ixN n (b : Int) = some b := by
  unfold ixN
  rw [if_pos (by omega), if_pos (by omega)]
  simp
theorem isNon_ov (o : Option Nat) : decide (ov o = V.non) = o.isNone := by cases o <;> rfl
/-! ### truth -/
def tTru (K : PySem.W.Frag) (ta : TE) : TT := fun σ H Q => ta σ H fun x H' => ∃ k, TruV K x H' k ∧ Q k H'
section
variable {X : Cx} {K : PySem.W.Frag} {a : Expr} {ta : TE}
theorem kpt_tru (ha : PE X a ta) (he : ∀ whole, PySem.isTrue a X.env whole = (do let v ← whole; standAt a.pos; holding [v] (truthy v)) := by intro _; rfl) (h : X.K = K := by rfl) : PT X a (tTru K ta) := by
  subst h
  exact pt_truth ha he
end
theorem tru_list {K : PySem.W.Frag} {H : Hp} {a : Addr} {xs : List V} {Q : Bool → Hp → Prop} (h : SqL K H a xs) (q : Q (!xs.isEmpty) H) : ∃ k, TruV K (.ref a) H k ∧ Q k H := ⟨_, .inl ⟨xs, h, rfl⟩, q⟩
/-! ### a def whose code object is known -/
structure FunC (K : PySem.W.Frag) (x : Str) (st : Stmt) (f : Addr) (fd : FuncData) (c : Addr) : Prop where
  ex : ∃ (oc : Value) (od : Option Addr) (kV doc pm : Value) (an : Option Addr) (ct : Value) (osl : Array (Option Value)),
    fd = PySem.W.fnOf x x (defArgs st) (defBody st) (defScope st) .none kV doc pm an (.ref c) ct ∧ K.lookup f = some ⟨oc, od, .func fd, osl⟩ ∧ PySem.W.codeIn K (.ref c) x = true
theorem FunC.ok {P : Program} {w : World} {K : PySem.W.Frag} {mg : Str → Option Value} {base : Heap} {x : Str} {st : Stmt} {f c : Addr} {fd : FuncData} {N ps : List Str} {k : Nat} {sp : Sp} (F : FunC K x st f fd c) (S : FnScope N ps (defScope st)) (len : ∀ vs H Q E, sp vs H Q E → vs.length = ps.length)
    (hbody : ∀ (A : Around) (outer : List Env) (s : Shared) (H : Hp) (vs : List V) (Q : VK) (E : XK), Room k (A.deeper (envOfC x (defScope st) s.heap.objs.size f (.ref c))) → sp vs H Q E →
      ∃ t, PSs (cxOf CX0 P w K mg base N x (defScope st) f (.ref c) A outer s H E).nox (defBody st) t ∧ t { nx := fun _ H' => Q .non H', rt := Q } (L2.start N vs) H) : FnOk P w K mg base CX0 (k + 1) f fd ps sp := by
  obtain ⟨oc, od, kV, doc, pm, an, ct, osl, rfl, lk, hcd⟩ := F.ex
  refine L2.fn_of lk hcd S len fun A outer s H vs Q E hr hsp => ?_
  obtain ⟨t, h, q⟩ := hbody A outer s H vs Q E hr hsp
  exact ⟨t, h.nox, q⟩
end Bk
set_option Elab.async false
set_option linter.all false
namespace Bk
open PySem PySem.Spec PyProof.Rows L2 LamX
/-! ### numbers, rows and tables compared -/
theorem dp_ints {K : PySem.W.Frag} {H : Hp} : ∀ ns : List Int, DpAll K H (ns.map V.int) (ns.map PyData.int)
  | [] => .nil
  | n :: r => .cons (.int n) (dp_ints r)
theorem lay_ints : ∀ ns : List Int, PyData.canLayAll0 (ns.map PyData.int) = true ∧ PyData.depthAll (ns.map PyData.int) = 0
  | [] => by simp [PyData.canLayAll0, PyData.depthAll]
  | n :: r => by
    have := lay_ints r
    simp only [List.map_cons, PyData.canLayAll0, PyData.canLay0, PyData.depthAll, PyData.depth, this.1, this.2]
    decide
theorem eqv_ints : ∀ ns ms : List Int, PyData.eqvAll (ns.map PyData.int) (ms.map PyData.int) = decide (ns = ms)
  | [], [] => by simp [PyData.eqvAll]
  | [], _ :: _ => by simp [PyData.eqvAll]
  | _ :: _, [] => by simp [PyData.eqvAll]
  | n :: r, m :: q => by
    simp only [List.map_cons, PyData.eqvAll, PyData.eqv, eqv_ints r q]
    by_cases h : n = m <;> simp [h]
/-- somebody or nobody, as data -/
def dO : Option Nat → PyData
  | none => .none
  | some n => .int n
def dRow (r : List Nat) : PyData := .list ((r.map Int.ofNat).map PyData.int)
def dTbl (rows : List (List Nat)) : PyData := .list (rows.map dRow)
def dPair (m : List (Option Nat)) : PyData := .list (m.map dO)
theorem shaped_row (r : List Nat) : SeqAt.shaped (dRow r) = true := by
  have := lay_ints (r.map Int.ofNat)
  unfold SeqAt.shaped dRow
  simp only [PyData.canLay0, PyData.depth, this.1, this.2]
  decide
theorem shaped_tbl (rows : List (List Nat)) : SeqAt.shaped (dTbl rows) = true := by
  have h : ∀ rs : List (List Nat), PyData.canLayAll0 (rs.map dRow) = true ∧ PyData.depthAll (rs.map dRow) ≤ 1 := fun rs => by
    induction rs with
    | nil => simp [PyData.canLayAll0, PyData.depthAll]
    | cons r rs ih =>
      have := lay_ints (r.map Int.ofNat)
      simp only [List.map_cons, PyData.canLayAll0, PyData.depthAll, dRow, PyData.canLay0, PyData.depth, this.1, this.2, ih.1]
      exact ⟨rfl, by omega⟩
  have := h rows
  unfold SeqAt.shaped dTbl
  simp only [PyData.canLay0, PyData.depth, this.1, Bool.true_and]
  exact decide_eq_true (by omega)
theorem shaped_pair (m : List (Option Nat)) : SeqAt.shaped (dPair m) = true := by
  have h : ∀ rs : List (Option Nat), PyData.canLayAll0 (rs.map dO) = true ∧ PyData.depthAll (rs.map dO) = 0 := fun rs => by
    induction rs with
    | nil => simp [PyData.canLayAll0, PyData.depthAll]
    | cons r rs ih => cases r <;> simp [PyData.canLayAll0, PyData.depthAll, dO, PyData.canLay0, PyData.depth, ih.1, ih.2]
  have := h m
  unfold SeqAt.shaped dPair
  simp only [PyData.canLay0, PyData.depth, this.1, this.2]
  decide
theorem eqv_row (r q : List Nat) : PyData.eqv (dRow r) (dRow q) = decide (r = q) := by
  unfold dRow
  simp only [PyData.eqv, eqv_ints]
  by_cases h : r = q
  · subst h; simp
  · rw [decide_eq_false h]
    refine decide_eq_false fun z => h ?_
    exact List.map_inj_right (fun x y e => Int.ofNat.inj e) |>.mp z
theorem eqv_tbl (rows cols : List (List Nat)) : PyData.eqv (dTbl rows) (dTbl cols) = decide (rows = cols) := by
  have h : ∀ rs qs : List (List Nat), PyData.eqvAll (rs.map dRow) (qs.map dRow) = decide (rs = qs) := fun rs => by
    induction rs with
    | nil => intro qs; cases qs <;> simp [PyData.eqvAll]
    | cons r rs ih =>
      intro qs
      cases qs with
      | nil => simp [PyData.eqvAll]
      | cons q qs =>
        simp only [List.map_cons, PyData.eqvAll, eqv_row, ih]
        by_cases h : r = q <;> simp [h]
  unfold dTbl
  simp only [PyData.eqv, h]
theorem eqv_pair (m k : List (Option Nat)) : PyData.eqv (dPair m) (dPair k) = decide (m = k) := by
  have h : ∀ rs qs : List (Option Nat), PyData.eqvAll (rs.map dO) (qs.map dO) = decide (rs = qs) := fun rs => by
    induction rs with
    | nil => intro qs; cases qs <;> simp [PyData.eqvAll]
    | cons r rs ih =>
      intro qs
      cases qs with
      | nil => simp [PyData.eqvAll]
      | cons q qs =>
        simp only [List.map_cons, PyData.eqvAll, ih]
        cases r with
        | none => cases q <;> simp [dO, PyData.eqv]
        | some a =>
          cases q with
          | none => simp [dO, PyData.eqv]
          | some b =>
            simp only [dO, PyData.eqv]
            by_cases e : a = b
            · subst e; simp
            · have : ¬ (a : Int) = (b : Int) := by omega
              simp [e, this]
  unfold dPair
  simp only [PyData.eqv, h]
section
variable {K : PySem.W.Frag} {H : Hp}
theorem dp_row {a : Addr} {r : List Nat} (h : SqL K H a (r.map nv)) : Dp K H (.ref a) (dRow r) := by
  refine .lst h ?_
  rw [map_nv]
  exact dp_ints _
theorem dp_tbl {t : Addr} {as : List Addr} {rows : List (List Nat)} (T : Tbl H t as rows) : Dp K H (.ref t) (dTbl rows) := by
  refine .lst (SqL.of T.top) ?_
  have h : ∀ (l : List Addr) (rs : List (List Nat)), l.length = rs.length → (∀ (i : Nat) (a : Addr) (r : List Nat), l[i]? = some a → rs[i]? = some r → RowAt H a r) → DpAll K H (l.map V.ref) (rs.map dRow) := fun l => by
    induction l with
    | nil => intro rs e _; cases rs with
      | nil => exact .nil
      | cons _ _ => simp at e
    | cons a l ih =>
      intro rs e hr
      cases rs with
      | nil => simp at e
      | cons r rs =>
        refine .cons (dp_row (SqL.of (hr 0 a r rfl rfl))) (ih rs (by simpa using e) fun i b q h1 h2 => hr (i + 1) b q (by simpa using h1) (by simpa using h2))
  exact h as rows T.len T.row
theorem dp_pair {a : Addr} {m : List (Option Nat)} (h : SqL K H a (m.map ov)) : Dp K H (.ref a) (dPair m) := by
  refine .lst h ?_
  have h : ∀ l : List (Option Nat), DpAll K H (l.map ov) (l.map dO) := fun l => by
    induction l with
    | nil => exact .nil
    | cons x l ih => cases x <;> exact .cons (by first | exact .non | exact .int _) ih
  exact h m
theorem ne_ints {a p : Addr} {ns : List Int} {Q : VK} (h : SqL K H a (ns.map V.int)) (hp : H p = some (.lst [])) (q : Q (.bl (!decide (ns = []))) H) : rNeD K (.ref a) (.ref p) H Q := by
  refine ⟨.list (ns.map PyData.int), .list [], .lst h (dp_ints ns), .lst (SqL.of hp) .nil, ?_, by decide, ?_⟩
  · have := lay_ints ns
    unfold SeqAt.shaped
    simp only [PyData.canLay0, PyData.depth, this.1, this.2]
    decide
  · have : PyData.eqv (.list (ns.map PyData.int)) (.list []) = decide (ns = []) := by
      have := eqv_ints ns []
      simp only [PyData.eqv]
      exact this
    rw [this]
    exact q
theorem ne_row {a b : Addr} {r s : List Nat} {Q : VK} (h : SqL K H a (r.map nv)) (h' : SqL K H b (s.map nv)) (q : Q (.bl (!decide (r = s))) H) : rNeD K (.ref a) (.ref b) H Q :=
  ⟨dRow r, dRow s, dp_row h, dp_row h', shaped_row r, shaped_row s, by rw [eqv_row]; exact q⟩
theorem eq_row {a b : Addr} {r s : List Nat} {Q : VK} (h : SqL K H a (r.map nv)) (h' : SqL K H b (s.map nv)) (q : Q (.bl (decide (r = s))) H) : rEqD K (.ref a) (.ref b) H Q :=
  ⟨dRow r, dRow s, dp_row h, dp_row h', shaped_row r, shaped_row s, by rw [eqv_row]; exact q⟩
theorem ne_tbl {a b : Addr} {as bs : List Addr} {r s : List (List Nat)} {Q : VK} (h : Tbl H a as r) (h' : Tbl H b bs s) (q : Q (.bl (!decide (r = s))) H) : rNeD K (.ref a) (.ref b) H Q :=
  ⟨dTbl r, dTbl s, dp_tbl h, dp_tbl h', shaped_tbl r, shaped_tbl s, by rw [eqv_tbl]; exact q⟩
theorem eq_tbl {a b : Addr} {as bs : List Addr} {r s : List (List Nat)} {Q : VK} (h : Tbl H a as r) (h' : Tbl H b bs s) (q : Q (.bl (decide (r = s))) H) : rEqD K (.ref a) (.ref b) H Q :=
  ⟨dTbl r, dTbl s, dp_tbl h, dp_tbl h', shaped_tbl r, shaped_tbl s, by rw [eqv_tbl]; exact q⟩
end
end Bk
set_option Elab.async false
set_option linter.all false
namespace Bk
open PySem PySem.Spec PyProof.Rows L2 LamX
theorem nodup_set {as : List Addr} (hd : as.Nodup) {D : Addr} (hD : D ∉ as) : ∀ (i : Nat), (as.set i D).Nodup := fun i => by
  induction as generalizing i with
  | nil => simp
  | cons b r ih =>
    have hd' := List.nodup_cons.mp hd
    cases i with
    | zero =>
      rw [List.set_cons_zero, List.nodup_cons]
      exact ⟨fun z => hD (List.mem_cons_of_mem _ z), hd'.2⟩
    | succ i =>
      rw [List.set_cons_succ, List.nodup_cons]
      refine ⟨fun z => ?_, ih hd'.2 (fun z => hD (List.mem_cons_of_mem _ z)) i⟩
      rcases List.mem_or_eq_of_mem_set z with z | z
      · exact hd'.1 z
      · exact hD (by rw [← z]; exact List.mem_cons_self)
/-- another object in the place of a row -/
theorem Tbl.replace {H : Hp} {t : Addr} {as : List Addr} {rows : List (List Nat)} (T : Tbl H t as rows) {one : Nat} {D : Addr} {r : List Nat} (h1 : one < rows.length) (f1 : D ∉ as) (f2 : D ≠ t) (hr : RowAt H D r) :
    Tbl (upd H t (.lst ((as.map V.ref).set one (.ref D)))) t (as.set one D) (rows.set one r) := by
  have hol : one < as.length := by rw [T.len]; exact h1
  refine ⟨?_, by simp [T.len], nodup_set T.nd f1 one, ?_, fun i b q e1 e3 => ?_⟩
  · rw [upd_same, List.map_set]
  · intro z
    rcases List.mem_or_eq_of_mem_set z with z | z
    · exact T.out z
    · exact f2 z.symm
  · have nb : b ≠ t := by
      rintro rfl
      rcases List.mem_or_eq_of_mem_set (List.mem_of_getElem? e1) with z | z
      · exact T.out z
      · exact f2 z.symm
    show upd H t _ b = _
    rw [upd_ne nb]
    by_cases e : i = one
    · subst e
      rw [List.getElem?_set_self hol] at e1
      rw [List.getElem?_set_self h1] at e3
      cases e1; cases e3
      exact hr
    · rw [List.getElem?_set_ne (Ne.symm e)] at e1 e3
      exact T.row i b q e1 e3
theorem gl_set {rows : List (List Nat)} (g : GL rows) {one : Nat} {r : List Nat} (hd : r.Nodup) (hin : ∀ x ∈ r, x < rows.length ∧ x ≠ one) : GL (rows.set one r) := ⟨fun i q h => by
  rw [List.length_set]
  by_cases e : i = one
  · subst e
    have hi : i < rows.length := by
      have := (List.getElem?_eq_some_iff.mp h).1
      rwa [List.length_set] at this
    rw [List.getElem?_set_self hi] at h
    cases h
    exact ⟨hd, hin⟩
  · rw [List.getElem?_set_ne (Ne.symm e)] at h
    exact g.ok i q h⟩
/-- all others by turns -/
def turns (n i : Nat) : List Nat := (List.range (n - 1)).map fun k => (i + 1 + k) % n
theorem turns_ok {n i : Nat} (hi : i < n) : (turns n i).Nodup ∧ ∀ x ∈ turns n i, x < n ∧ x ≠ i := by
  have md : ∀ k, k < n - 1 → ((i + 1 + k) % n = i + 1 + k ∧ i + 1 + k < n) ∨ ((i + 1 + k) % n + n = i + 1 + k ∧ (i + 1 + k) % n < i) := fun k hk => by
    by_cases h : i + 1 + k < n
    · exact .inl ⟨Nat.mod_eq_of_lt h, h⟩
    · have e : (i + 1 + k) % n = i + 1 + k - n := by
        rw [Nat.mod_eq_sub_mod (by omega), Nat.mod_eq_of_lt (by omega)]
      exact .inr (by omega)
  refine ⟨nodup_map_on List.nodup_range fun x hx y hy e => ?_, fun x hx => ?_⟩
  · have hx := List.mem_range.mp hx
    have hy := List.mem_range.mp hy
    have a := md x hx
    have b := md y hy
    omega
  · obtain ⟨k, hk, rfl⟩ := List.mem_map.mp hx
    have a := md k (List.mem_range.mp hk)
    have := Nat.mod_lt (i + 1 + k) (show 0 < n by omega)
    omega
theorem perm_nat {ns : List Int} {r : List Nat} (h : ns.Perm (r.map Int.ofNat)) : ∃ q : List Nat, ns = q.map Int.ofNat ∧ q.Perm r := by
  refine ⟨ns.map Int.toNat, ?_, ?_⟩
  · rw [List.map_map]
    have : ∀ z ∈ ns, z = (Int.ofNat ∘ Int.toNat) z := fun z hz => by
      obtain ⟨k, _, e⟩ := List.mem_map.mp (h.mem_iff.mp hz)
      subst e
      rfl
    conv => lhs; rw [← List.map_id ns]
    exact List.map_congr_left this
  · have := h.map Int.toNat
    rw [List.map_map] at this
    have e : r.map (Int.toNat ∘ Int.ofNat) = r := by
      conv => rhs; rw [← List.map_id r]
      exact List.map_congr_left fun _ _ => rfl
    rwa [e] at this
theorem map_nv' (r : List Nat) : (r.map Int.ofNat).map V.int = r.map nv := (map_nv r).symm
theorem SqL.extN {K : PySem.W.Frag} {H H' : Hp} {a : Addr} {xs : List V} (e : ExtN H H') (h : SqL K H a xs) : SqL K H' a xs := by
  rcases h with (z | ⟨o, z⟩) | z
  · exact .inl (.inl (e _ _ z (fun ps w => by cases w)))
  · exact .inl (.inr ⟨o, e _ _ z (fun ps w => by cases w)⟩)
  · exact .inr z
theorem Tabs.write {T : List (Addr × Str)} {H : Hp} {t : Addr} {xs ys : List V} (h : Tabs T H) (ht : H t = some (.lst xs)) : Tabs T (upd H t (.lst ys)) := fun p hp => by
  obtain ⟨ps, h1, h2, h3⟩ := h p hp
  refine ⟨ps, by rw [upd_ne (ne_of h1 ht (by intro z; cases z))]; exact h1, h2, fun pos cv hc => ?_⟩
  obtain ⟨c, e1, e2⟩ := h3 pos cv hc
  refine ⟨c, e1, ?_⟩
  rw [upd_ne (ne_of e2 ht (by intro z; unfold CodeO at z; cases z))]
  exact e2
theorem draw2 {m : Int} {n : Nat} (h0 : 0 ≤ m) (hn : 1 < n) : ∃ o1 o2 : Nat, m % (n : Int) = (o1 : Int) ∧ ((o1 : Int) + 1 + m / (n : Int) % ((n : Int) - 1)) % (n : Int) = (o2 : Int) ∧ o1 < n ∧ o2 < n ∧ o2 ≠ o1 := by
  have a1 := Int.emod_nonneg m (show (n : Int) ≠ 0 by omega)
  have a2 := Int.emod_lt_of_pos m (show 0 < (n : Int) by omega)
  have b1 := Int.emod_nonneg (m / (n : Int)) (show (n : Int) - 1 ≠ 0 by omega)
  have b2 := Int.emod_lt_of_pos (m / (n : Int)) (show 0 < (n : Int) - 1 by omega)
  generalize m / (n : Int) % ((n : Int) - 1) = q at *
  obtain ⟨o1, e1⟩ := Int.eq_ofNat_of_zero_le a1
  rw [e1] at a2 ⊢
  have c1 := Int.emod_nonneg ((o1 : Int) + 1 + q) (show (n : Int) ≠ 0 by omega)
  have c2 := Int.emod_lt_of_pos ((o1 : Int) + 1 + q) (show 0 < (n : Int) by omega)
  have c3 : ((o1 : Int) + 1 + q) % (n : Int) = (o1 : Int) + 1 + q ∨ ((o1 : Int) + 1 + q) % (n : Int) = (o1 : Int) + 1 + q - n := by
    by_cases h : (o1 : Int) + 1 + q < n
    · exact .inl (Int.emod_eq_of_lt (by omega) h)
    · right
      rw [← Int.sub_emod_right ((o1 : Int) + 1 + q) (n : Int)]
      exact Int.emod_eq_of_lt (by omega) (by omega)
  obtain ⟨o2, e2⟩ := Int.eq_ofNat_of_zero_le c1
  exact ⟨o1, o2, rfl, e2, by omega, by omega, by omega⟩
theorem Tabs.but {T : List (Addr × Str)} {H H' : Hp} {t : Addr} {xs : List V} (h : Tabs T H) (ht : H t = some (.lst xs)) (f : ∀ x o, x ≠ t → H x = some o → H' x = some o) : Tabs T H' := fun p hp => by
  obtain ⟨ps, h1, h2, h3⟩ := h p hp
  refine ⟨ps, f _ _ (ne_of h1 ht (by intro z; cases z)) h1, h2, fun pos cv hc => ?_⟩
  obtain ⟨c, e1, e2⟩ := h3 pos cv hc
  exact ⟨c, e1, f _ _ (ne_of e2 ht (by intro z; unfold CodeO at z; cases z)) e2⟩
end Bk
set_option Elab.async false
set_option linter.all false
set_option maxRecDepth 100000
set_option maxHeartbeats 4000000
/-! del xs[a:]: a rule of our own over the layer. -/
namespace Bk
open PySem PySem.Spec PyProof.Rows L2
theorem keep_front (a n : Nat) (its : List Value) (hn : its.length = n) (sel : Nat → Bool) (hs : ∀ k, sel k = decide (a ≤ k ∧ k < n)) :
    (its.zipIdx.filterMap fun (x, k) => if sel k then none else some x) = its.take a := by
  have gen : ∀ (l : List Value) (o : Nat), o + l.length = n → (((l.zipIdx o).filterMap fun (x, k) => if sel k then none else some x) = l.take (a - o)) := by
    intro l
    induction l with
    | nil => intro o _; simp
    | cons x r ih =>
      intro o ho
      rw [List.length_cons] at ho
      rw [List.zipIdx_cons, List.filterMap_cons]
      have := ih (o + 1) (by omega)
      rw [this]
      by_cases h : a ≤ o
      · have e : sel o = true := by rw [hs]; exact decide_eq_true ⟨h, by omega⟩
        simp only [e, if_true]
        rw [show a - (o + 1) = 0 by omega, show a - o = 0 by omega]; simp
      · have e : sel o = false := by rw [hs]; exact decide_eq_false (by omega)
        simp only [e, Bool.false_eq_true, if_false]
        rw [show a - o = (a - (o + 1)) + 1 by omega, List.take_succ_cons]
  have := gen its 0 (by omega)
  simpa using this
theorem bounds_tail {a n : Nat} (ha : a ≤ n) : sliceBounds (some (a : Int)) none none n = ((a : Int), (n : Int), 1) := by
  simp only [sliceBounds, Option.getD_none]
  have h1 : ¬ ((a : Int) < 0) := by omega
  simp only [h1, if_false, show (1 : Int) > 0 by decide, if_true]
  congr 1
  omega
section
variable {prog : Program} {w : World} {A : Around} {E : Value → Shared → Prop} {s : Shared}
set_option maxRecDepth 100000 in
theorem delItem_tail {l sl : Addr} {its : List Value} {n : Nat} {vl vu : Value} {a : Nat} {Q : Unit → Shared → Prop}
    (e : s.heap.get? l = some { cls := .type "list", data := .seq its.toArray n }) (hs : s.heap.IsSliceOf sl vl vu .none) (pl : IsPart vl (some (a : Int))) (pu : IsPart vu none)
    (ha : a ≤ its.length) (hz : its.length ≤ sizeLine)
    (h : ∀ f : Array Value → Array Value, f its.toArray = (its.take a).toArray → Q () { s with heap := s.heap.update l (Obj.mapSeq f) }) :
    wpAny (model prog w) A (delItem (.ref l) (.ref sl)) Q E s := by
  have hl : s.heap.IsList l its.toArray := PySem.IsL.isList e
  obtain ⟨os, hos, hcs, hds⟩ := id hs
  have hTs : s.TypeIs (.ref sl) "slice" := ⟨os, hos, hcs⟩
  have nostep : ¬ ((rawPart none == rawInt 0) = true) := Bool.false_ne_true
  have hn : its.toArray.size = its.length := List.size_toArray
  refine wpAny_delItem_slot hl.typeIs (by decide) F.slot_list_delitem ?_
  refine wpAny_call_entry F.slot_list_delitem hl.typeIs F.entry_list_delitem ?_ (F.args_list_delitem_2 _ _)
  show wpAny _ _ (Builtin.List.listSubscript? (.ref sl) >>= _) _ _ s
  refine wpAny_bind ?_
  unfold Builtin.List.listSubscript?
  refine wpAny_bind (wpAny_specialOf hTs slice_no_index ?_)
  simp only [Option.isNone_none, if_true]
  refine wpAny_pure ?_
  show wpAny _ _ (typeOf (.ref sl) >>= _) _ _ s
  refine wpAny_bind (wpAny_typeOf hTs ?_)
  first
    | rw [if_neg (by decide)]
    | refine PySem.W.KFB.if_not (by decide) ?_
  rw [listSliceParts_eq]
  refine wpAny_bind (wpAny_bind (wpAny_field hos hds (x := .none) rfl (wpAny_bind (wpAny_listPart .none ?_))))
  rw [if_neg nostep]
  refine wpAny_bind (wpAny_field hos hds (x := vl) rfl (wpAny_bind (wpAny_listPart pl ?_)))
  refine wpAny_bind (wpAny_field hos hds (x := vu) rfl (wpAny_bind (wpAny_listPart pu (wpAny_pure ?_))))
  dsimp only
  unfold Builtin.List.listItems
  refine wpAny_bind (wpAny_bind (wpAny_seqItems e rfl (wpAny_pure ?_)))
  refine wpAny_bind (wpAny_of_eq ((sliceIndices_raw (some (a : Int)) none none its.toArray.size (by simp)).trans (congrArg (pure : Int × Int × Int → Sem (Int × Int × Int)) (bounds_tail (by omega)))) ?_)
  dsimp only
  refine wpAny_bind (wpAny_rule ?_)
  have hk : ∀ sel : Nat → Bool, (∀ k, sel k = decide (a ≤ k ∧ k < its.length)) → (List.filterMap (fun x : Value × Nat => if sel x.2 = true then none else some x.1) its.toArray.toList.zipIdx).toArray = (its.take a).toArray := fun sel hsel => by
    rw [← keep_front a its.length its rfl sel hsel]
  have hz3 : (its.take a).toArray.size ≤ sizeLine + 1 := by
    rw [List.size_toArray, List.length_take]
    omega
  refine wpAny_bind ?_
  show wpAny _ _ (updateSeq l _) _ _ s
  have hsel : ∀ k : Nat, (if (1 : Int) > 0 then decide ((a : Int) ≤ (k : Int)) && decide ((k : Int) < ((its.toArray.size : Nat) : Int)) && (((k : Int) - (a : Int)) % 1 == 0) else decide (((its.toArray.size : Nat) : Int) < (k : Int)) && decide ((k : Int) ≤ (a : Int)) && (((a : Int) - (k : Int)) % (-1) == 0)) = decide (a ≤ k ∧ k < its.length) := fun k => by
    rw [if_pos (by decide), Int.emod_one, hn]
    have e1 : decide ((a : Int) ≤ (k : Int)) = decide (a ≤ k) := by simp
    have e2 : decide ((k : Int) < (its.length : Int)) = decide (k < its.length) := by simp
    rw [e1, e2, Bool.decide_and]
    simp
  refine wpAny_updateSeq (hz := by rw [hn]; exact hz) (_hz' := ?hz2) e rfl ?_
  case hz2 =>
    refine Nat.le_trans (Nat.le_of_eq (congrArg Array.size ?_)) hz3
    exact hk _ hsel
  refine wpAny_bind (wpAny_letGo ?_)
  first
    | exact wpAny_bind (wpAny_pure (wpAny_pure ⟨.none, rfl, h _ (hk _ hsel)⟩))
    | exact wpAny_pure ⟨.none, rfl, h _ (hk _ hsel)⟩
end
section
variable {X : Cx}
/-- del xs[a:] of a list of ours -/
def tDelTail (to ti : TE) : TS := fun D σ H => to σ H fun x H1 => ti σ H1 fun y H2 => ∃ (l : Addr) (xs : List V) (a : Nat), x = .ref l ∧ y = .int a ∧ H2 l = some (.lst xs) ∧ a ≤ xs.length ∧ D.nx σ (upd H2 l (.lst (xs.take a)))
theorem ps_delTail {o i : Expr} {to ti : TE} {tpos ipos pos : Pos} (ho : PE X o to) (hi : PE X i ti) : PS X (.Delete [.Subscript o (.Slice (some i) none none ipos) tpos] pos) (tDelTail to ti) := by
  refine ⟨fun pins s σ H D I h => ?_⟩
  refine wpAny_Delete (wpAny_deleteEach_cons (wpAny_delete_Subscript (thn (ho.run pins s σ H _ I h) fun u s1 ⟨x, H1, I1, rx, q1⟩ => ?_)))
  refine wpAny_Slice ?_
  rw [evalPart_some, evalPart_none]
  refine thn (hi.run pins s1 σ H1 _ I1 q1) fun iv s2 ⟨y, H2, I2, ry, q2⟩ => ?_
  refine wpAny_pure (wpAny_pure ?_)
  obtain ⟨l, xs, a, ex, ey, hH, ha, q⟩ := q2
  subst ex
  subst ey
  cases (show u = Value.ref l from rx)
  obtain ⟨t, rfl⟩ := (show ∃ t, iv = Value.int a t from ry)
  have I3 : Inv X pins σ H2 { s2 with heap := s2.heap.push { cls := .type "slice", data := .fields #[.int a t, .none, .none] } } := I2.kept (t' := s2.toks) fun b ob q => Heap.get?_push_of_some _ q
  obtain ⟨z, its, n, r, hl, e⟩ := I3.lstM hH
  refine delItem_tail e (Heap.IsSliceOf.new ..) (.int _ _) .none (by omega) (by omega) fun f hf => wpAny_deleteEach_nil ⟨σ, _, ?_, q⟩
  refine I3.lset (its' := its.take a) (t' := s2.toks) hH e hf (r.take a) ?_
  rw [List.length_take]
  omega
end
end Bk
set_option Elab.async false
set_option linter.all false
set_option maxRecDepth 100000
set_option maxHeartbeats 4000000
/-! sorted(xs, key=lambda one: ..) where the lambda captures names: a rule of our own. -/
namespace Bk
open PySem PySem.Spec PyProof.Rows L2 LamX
abbrev keyArgs (p : Pos) : Arguments := { posonlyargs := [], args := [{ arg := "_law_one", annotation := none, pos := p }], vararg := none, kwonlyargs := [], kw_defaults := [], kwarg := none, defaults := [] }
abbrev keyBody (q1 q2 q3 q4 q5 q6 q7 q8 q9 q10 q11 q12 q13 : Pos) : Expr :=
  .BinOp (.BinOp (.BinOp (.Name "_law_one" q1) .Sub (.Name "_law_person" q2) q3) .Mult (.BinOp (.BinOp (.BinOp (.Name "_law_first" q4) .FloorDiv (.Constant (.int 300) 0 q5) q6) .Mod (.Constant (.int 7) 0 q7) q8) .Add (.Constant (.int 1) 0 q9) q10) q11) .Mod (.Constant (.int 61) 0 q12) q13
abbrev keyScope : Scope := { kind := .function, names := [(Str.ofString "_law_one", .local), (Str.ofString "_law_first", .free), (Str.ofString "_law_person", .free)], isGenerator := false, isCoroutine := false, more := [] }
/-- the key of one -/
def keyOf (first person one : Int) : Int := ((one - person) * (first / 300 % 7 + 1)) % 61
section
variable {prog : Program} {w : World} {A : Around} {E : Value → Shared → Prop} {s : Shared}
theorem key_body {env : Env} {first person one : Int} {t1 t2 t3 : Tok} {c1 c2 : Addr} {m : Str → Option Value} {q1 q2 q3 q4 q5 q6 q7 q8 q9 q10 q11 q12 q13 : Pos} {Q : Value → Shared → Prop}
    (hs : env.scope = keyScope) (hn : s.heap.Ns env.locals m) (ho : m "_law_one" = some (.int one t1))
    (l1 : env.cells.lookup (Str.ofString "_law_first") = some c1) (h1 : s.heap.IsCell c1 (some (.int first t2))) (l2 : env.cells.lookup (Str.ofString "_law_person") = some c2) (h2 : s.heap.IsCell c2 (some (.int person t3)))
    (hf : 0 ≤ first ∧ first < 2147483648)
    (h : ∀ tk t, Q (.int (keyOf first person one) t) { s with toks := tk }) :
    wpAny (model prog w) A (eval (keyBody q1 q2 q3 q4 q5 q6 q7 q8 q9 q10 q11 q12 q13) env) Q E s := by
  have hk : env.scope.kind = .function := by rw [hs]
  have k0 : env.kindOf "_law_one" = some .local := by unfold Env.kindOf; rw [hs]; rfl
  have k1 : env.kindOf "_law_first" = some .free := by unfold Env.kindOf; rw [hs]; rfl
  have k2 : env.kindOf "_law_person" = some .free := by unfold Env.kindOf; rw [hs]; rfl
  obtain ⟨hp, g, d, tk, os⟩ := s
  refine wpAny_BinOp (wpAny_BinOp (wpAny_BinOp (wpAny_Name (wpAny_loadName_local hk k0 hn ho ?_) (by decide))))
  refine wpAny_Name (wpAny_loadName_free hk k2 l2 h2 ?_ (by decide)) (by decide)
  refine sub_int ?_
  refine wpAny_BinOp (wpAny_BinOp (wpAny_BinOp (wpAny_Name (wpAny_loadName_free hk k1 l1 h1 ?_ (by decide)) (by decide))))
  refine wpAny_Constant_int ?_
  refine floordiv_int (by decide) ?_ (.inl (PyProof.noPylong_small (by decide)))
  rw [Int.fdiv_eq_ediv_of_nonneg first (by decide)]
  refine wpAny_Constant_int ?_
  refine mod_int' (by decide) ?_
  rw [Int.fmod_eq_emod_of_nonneg _ (by decide)]
  refine wpAny_Constant_int ?_
  refine add_int ?_
  have a1 := Int.emod_nonneg (first / 300) (show (7 : Int) ≠ 0 by decide)
  have a2 := Int.emod_lt_of_pos (first / 300) (show (0 : Int) < 7 by decide)
  refine mul_int ?_ (.of_right (intBits_le_64 (by omega) (by omega)))
  refine wpAny_Constant_int ?_
  refine mod_int' (by decide) ?_
  rw [Int.fmod_eq_emod_of_nonneg _ (by decide)]
  exact h _ _
end
theorem each_ints : ∀ {us : List Value} {ns : List Int}, IntsAre us ns → PySem.W.EachIs (fun v (n : Int) => ∃ t, v = Value.int n t) us ns
  | _, _, .nil => .nil
  | _, _, .cons n t h => .cons ⟨t, rfl⟩ (each_ints h)
theorem ints_each : ∀ {us : List Value} {ns : List Int}, PySem.W.EachIs (fun v (n : Int) => ∃ t, v = Value.int n t) us ns → Vals (ns.map V.int) us
  | _, _, .nil => .nil
  | _, _, .cons h r => .cons h (ints_each r)
section
variable {X : Cx} {T : List (Addr × Str)} {c P : Addr}
def tSortLam (K : PySem.W.Frag) (T : List (Addr × Str)) (i1 i2 : Nat) (te : TE) : TE := fun σ H Q => te σ H fun x H1 => ∃ (a : Addr) (ns : List Int) (first person : Int),
  x = .ref a ∧ SqL K H1 a (ns.map V.int) ∧ σ[i1]? = some (some (.int first)) ∧ σ[i2]? = some (some (.int person)) ∧ 0 ≤ first ∧ first < 2147483648 ∧ Tabs T H1 ∧
  ∀ (ns' : List Int) (H2 : Hp) (p : Addr), ns'.Perm ns → ExtN H1 H2 → Tabs T H2 → H2 p = none → Q (.ref p) (upd H2 p (.lst (ns'.map V.int)))
theorem pe_sortLam {i1 i2 : Nat} {e : Expr} {te : TE} {p1 p2 p3 lpos pos q1 q2 q3 q4 q5 q6 q7 q8 q9 q10 q11 q12 q13 : Pos}
    (hg : Gl X "sorted") (hm : X.mg "sorted" = none) (he : PE X e te) (TB : TabB X.base X.mg c P) (hcode : X.env.code = .ref c)
    (hT : (P, X.env.qual ++ "<lambda>") ∈ T) (hu : ∀ p ∈ T, p.1 = P → p.2 = X.env.qual ++ "<lambda>") (hr : Room 3 X.A)
    (n1 : X.N[i1]? = some (Str.ofString "_law_first")) (n2 : X.N[i2]? = some (Str.ofString "_law_person"))
    (k1 : X.env.scope.names.lookup (Str.ofString "_law_first") = some .cell) (k2 : X.env.scope.names.lookup (Str.ofString "_law_person") = some .cell)
    (hs : backTo pos (starEach [e] X.env) = (false, eval e X.env) :: backTo pos (starEach [] X.env) := by rfl) :
    PE X (.Call (.Name "sorted" p1) [e] [⟨some "key", .Lambda (keyArgs p2) (keyBody q1 q2 q3 q4 q5 q6 q7 q8 q9 q10 q11 q12 q13) keyScope lpos, p3⟩] pos) (tSortLam X.K T i1 i2 te) := by
  refine ⟨fun pins s σ H Q I h => ?_⟩
  refine wpAny_Call_Name_kw (ld_blt (u := .builtin "sorted") I hg hm (by decide +kernel) ?_ (by decide) (by decide))
  refine PyProof.Rows.callWith_kw ?_ hs (by rw [hs]; rfl) (by rfl) (by rfl)
  rw [hs]
  refine Calls.spliced_cons (thn (he.run pins s σ H _ I h) fun u s1 ⟨x, H1, I1, r1, q⟩ => ?_)
  refine Calls.spliced_nil ?_
  obtain ⟨a, ns, first, person, rfl, hS, e1, e2, f0, f1, hTT, q⟩ := q
  obtain rfl : u = Value.ref a := r1
  show wpAny _ _ (evalAll ((do let v ← eval (.Lambda (keyArgs p2) (keyBody q1 q2 q3 q4 q5 q6 q7 q8 q9 q10 q11 q12 q13) keyScope lpos) X.env; standAt pos; pure v) :: [])) _ _ s1
  have has : ∀ y ∈ keyScope.names, y.2 = .free → ∃ c, X.env.cells.lookup y.1 = some c := fun y hy e => by
    have : y = (Str.ofString "_law_one", .local) ∨ y = (Str.ofString "_law_first", .free) ∨ y = (Str.ofString "_law_person", .free) := by simpa using hy
    rcases this with z | z | z <;> subst z
    · cases e
    · exact I.ok.has _ (.inl k1)
    · exact I.ok.has _ (.inl k2)
  refine wpAny_evalAll_cons (wpAny_bind (lam_make2 I1 TB hcode hT hu hTT (by rfl) has fun f c' pm ctv H2 s2 I2 xt T2 hf hfn hfr hc' => wpAny_bind (wpAny_standAt (wpAny_pure ?_))))
  refine wpAny_evalAll_nil ?_
  show wpAny _ _ (call (.builtin "sorted") [.ref a] [(Str.ofString "key", .ref f)]) _ _ s2
  have hS2 : SqL X.K H2 a (ns.map V.int) := by
    rcases hS with (z | ⟨o, z⟩) | z
    · exact .inl (.inl (xt _ _ z (fun ps w => by cases w)))
    · exact .inl (.inr ⟨o, xt _ _ z (fun ps w => by cases w)⟩)
    · exact .inr z
  obtain ⟨its, rv, hl, hz⟩ := I2.list hS2
  have hi := rv.ints
  rw [List.length_map] at hz
  have each := each_ints hi
  have slot : ∀ {i : Nat} {y : Str} {z : Int}, X.N[i]? = some y → σ[i]? = some (some (.int z)) → X.env.scope.names.lookup y = some .cell → ∃ c t, X.env.cells.lookup y = some c ∧ s2.heap.IsCell c (some (.int z t)) := fun {i y z} a1 a2 a3 => by
    obtain ⟨m, _, hm⟩ := I2.loc
    obtain ⟨w, ⟨t, rfl⟩, l⟩ := hm i y _ a1 a2 (.inr (.inl a3))
    rcases l with ⟨l, _⟩ | ⟨_, c, l1, l2⟩
    · have l : X.env.scope.names.lookup y = some .local := l
      rw [a3] at l
      cases l
    · exact ⟨c, t, l1, l2⟩
  obtain ⟨d1, t1, g1, g2⟩ := slot n1 e1 k1
  obtain ⟨d2, t2, g3, g4⟩ := slot n2 e2 k2
  obtain ⟨⟨oc, vs, tq, hoc, hdc, hvc⟩, _, _⟩ := I2.hok c' _ hc'
  refine PySem.W.sorted_key_data (b := false) (fun n : Int => PyData.int (keyOf first person n)) hl.isList each (PySem.W.AllAlike.of fun _ _ => by simp [PySem.W.alike]) (PySem.W.Sortable.others fun n => ⟨fun z => (nomatch z), fun xs z => (nomatch z)⟩) hz (fun n _ => ?_)
    (ksk_s1 _ _) (fun _ => ksk_l1 _ _) (fun _ => ksk_t1 _ _) (fun v n ⟨t, ev⟩ _ h tk kp => ?_) fun out cc h' tk kp fresh hD hlen eo => ?_
  · have := hr.un
    have hd : (PyData.int (keyOf first person n)).depth = 0 := by simp [PyData.depth]
    omega
  · subst ev
    refine wpAny_call (PySem.W.kla_callFunE hr.depth (kp _ _ hf) rfl rfl rfl rfl ⟨c', oc, vs, tq, rfl, kp _ _ hoc, hdc, hvc⟩ ?_)
    rw [show bindArgs (PySem.W.kla_fn "<lambda>" (X.env.qual ++ "<lambda>") (keyArgs p2) (keyBody q1 q2 q3 q4 q5 q6 q7 q8 q9 q10 q11 q12 q13) keyScope (cloFrom X.env.cells keyScope.names []) pm (.ref c') ctv) ⟨[.int n t], []⟩ = pure [(Str.ofString "_law_one", Value.int n t)] from rfl]
    refine wpAny_pure (wpAny_newFunctionEnv (fun y hy => ?_) (fun y hy => ?_) (fun h₁ hns hsb => ⟨(I2.nolimit.keeps kp).fresh _ hsb, ?_⟩) rfl)
    · have : y = (Str.ofString "_law_one", .local) ∨ y = (Str.ofString "_law_first", .free) ∨ y = (Str.ofString "_law_person", .free) := by simpa using hy
      rcases this with z | z | z <;> subst z <;> (intro z; cases z)
    · have : y = (Str.ofString "_law_one", Value.int n t) := by simpa using hy
      subst this
      rfl
    · show codeAny _ _ (.expr (keyBody q1 q2 q3 q4 q5 q6 q7 q8 q9 q10 q11 q12 q13) (PySem.W.envX (X.env.qual ++ "<lambda>") keyScope h.objs.size f (.ref c') (cloFrom X.env.cells keyScope.names []))) _ _
      have hk1 : ∀ b o, h.get? b = some o → h₁.get? b = some o := fun b o e => hsb.extBut b o (Nat.ne_of_lt (Heap.lt_size e)) (Heap.get?_push_of_some _ e)
      have cellK : ∀ {c : Addr} {v : Value}, s2.heap.IsCell c (some v) → h₁.IsCell c (some v) := fun {c v} ⟨o, ho, hd⟩ => ⟨o, hk1 _ _ (kp _ _ ho), hd⟩
      refine PySem.W.kla_codeExpr (key_body (s := { s2 with heap := h₁, toks := tk + ([(Str.ofString "_law_one", Value.int n t)] : List (Str × Value)).length }) (c1 := d1) (c2 := d2) (one := n) (t1 := t) (t2 := t1) (t3 := t2) rfl hns rfl ?_ (cellK g2) ?_ (cellK g4) ⟨f0, f1⟩ fun tk' t' => ?_)
      · show List.lookup (Str.ofString "_law_first") (cloFrom X.env.cells keyScope.names []) = some d1
        rw [show List.lookup (Str.ofString "_law_first") (cloFrom X.env.cells keyScope.names []) = some ((X.env.cells.lookup (Str.ofString "_law_first")).getD 0) from rfl, g1]
        rfl
      · show List.lookup (Str.ofString "_law_person") (cloFrom X.env.cells keyScope.names []) = some d2
        rw [show List.lookup (Str.ofString "_law_person") (cloFrom X.env.cells keyScope.names []) = some ((X.env.cells.lookup (Str.ofString "_law_person")).getD 0) from rfl, g3]
        rfl
      · exact ⟨h₁, tk', rfl, hk1, .int _ _⟩
  · have perm := List.mergeSort_perm ns (PySem.W.dataLe false fun n : Int => PyData.int (keyOf first person n))
    have hn : H2 (s2.heap.objs.size + 1) = none := I2.hok.fresh (Nat.le_succ _)
    refine ⟨.ref (s2.heap.objs.size + 1), upd H2 (s2.heap.objs.size + 1) (.lst ((ns.mergeSort (PySem.W.dataLe false fun n : Int => PyData.int (keyOf first person n))).map V.int)), I2.laidN (t' := tk) kp fresh hn ⟨?_, out, cc, ints_each eo, hD⟩, rfl, q _ _ _ perm xt T2 hn⟩
    rw [List.length_map, perm.length_eq]
    exact hz
end
end Bk
set_option linter.all false
/-! Pairings as the laws draw and judge them. Core Lean. -/
namespace Bk
/-- whether one stands on a row, ahead of another one (or where that one is none) -/
def betterF (r : List Nat) (one : Nat) (other : Option Nat) : Bool := match r with
  | [] => false
  | x :: r => if x = one then true else if some x = other then false else betterF r one other
theorem better_iff : ∀ (r : List Nat) (one : Nat) (other : Option Nat), betterF r one other = true ↔ one ∈ r ∧ ∀ o, other = some o → r.idxOf one ≤ r.idxOf o
  | [], one, other => by simp [betterF]
  | x :: r, one, other => by
    unfold betterF
    by_cases h1 : x = one
    · subst h1
      simp
    · rw [if_neg h1]
      by_cases h2 : some x = other
      · rw [if_pos h2]
        subst h2
        simp only [Bool.false_eq_true, false_iff]
        rintro ⟨_, h⟩
        have := h x rfl
        rw [idx_ne _ h1] at this
        simp at this
      · rw [if_neg h2, better_iff r one other]
        constructor
        · rintro ⟨a, b⟩
          refine ⟨List.mem_cons_of_mem _ a, fun o ho => ?_⟩
          have ne : x ≠ o := fun e => h2 (by rw [ho, e])
          rw [idx_ne _ h1, idx_ne _ ne]
          have := b o ho
          omega
        · rintro ⟨a, b⟩
          refine ⟨(List.mem_cons.mp a).resolve_left (Ne.symm h1), fun o ho => ?_⟩
          have ne : x ≠ o := fun e => h2 (by rw [ho, e])
          have := b o ho
          rw [idx_ne _ h1, idx_ne _ ne] at this
          omega
/-- the mate told at a place -/
abbrev mO (m : List (Option Nat)) (i : Nat) : Option Nat := m.getD i none
theorem mO_of {m : List (Option Nat)} {i : Nat} {x : Option Nat} (h : m[i]? = some x) : mO m i = x := by
  simp [mO, List.getD_eq_getElem?_getD, h]
theorem mO_at {m : List (Option Nat)} {i : Nat} (h : i < m.length) : m[i]? = some (mO m i) := by
  simp [mO, List.getD_eq_getElem?_getD, h]
theorem mO_out {m : List (Option Nat)} {i : Nat} (h : m.length ≤ i) : mO m i = none := by
  simp [mO, List.getD_eq_getElem?_getD, h]
/-- whether two spoil a pairing, by the law's look -/
def spB (R : Nat → List Nat) (m : List (Option Nat)) (i j : Nat) : Bool := betterF (R i) j (mO m i) && (betterF (R j) i (mO m j) && !decide (mO m i = some j))
/-- the pairs that spoil it, rising -/
def spRow (R : Nat → List Nat) (m : List (Option Nat)) (i lo k : Nat) : List (Nat × Nat) := (((List.range k).map (lo + ·)).filter (spB R m i)).map fun j => (i, j)
def spL (n : Nat) (R : Nat → List Nat) (m : List (Option Nat)) (k : Nat) : List (Nat × Nat) := (List.range k).flatMap fun i => spRow R m i (i + 1) (n - (i + 1))
theorem spL_nil {n : Nat} {R : Nat → List Nat} {m : List (Option Nat)} (h : spL n R m n = []) {i j : Nat} (hij : i < j) (hj : j < n) : spB R m i j = false := by
  unfold spL at h
  rw [List.flatMap_eq_nil_iff] at h
  have h1 := h i (List.mem_range.mpr (by omega))
  unfold spRow at h1
  rw [List.map_eq_nil_iff, List.filter_eq_nil_iff] at h1
  have := h1 j (List.mem_map.mpr ⟨j - (i + 1), List.mem_range.mpr (by omega), by omega⟩)
  simpa using this
/-! ### the first ones are paired -/
structure VP (R : Nat → List Nat) (done : List (Option Nat)) : Prop where
  on : ∀ i j : Nat, done[i]? = some (some j) → j ∈ R i
  back : ∀ i j : Nat, done[i]? = some (some j) → j < done.length → done[j]? = some (some i)
  one : ∀ i i' j : Nat, done[i]? = some (some j) → done[i']? = some (some j) → i = i'
section
variable {R : Nat → List Nat} {done : List (Option Nat)}
theorem VP.nil : VP R [] := ⟨fun i j h => by simp at h, fun i j h => by simp at h, fun i i' j h => by simp at h⟩
theorem at_snoc {x : Option Nat} {i : Nat} {y : Option Nat} (h : (done ++ [x])[i]? = some y) : (i < done.length ∧ done[i]? = some y) ∨ (i = done.length ∧ x = y) := by
  by_cases hi : i < done.length
  · rw [List.getElem?_append_left hi] at h
    exact .inl ⟨hi, h⟩
  · rw [List.getElem?_append_right (by omega)] at h
    have : i - done.length = 0 := by
      have := (List.getElem?_eq_some_iff.mp h).1
      simp at this
      omega
    rw [this] at h
    simp at h
    exact .inr ⟨by omega, h⟩
theorem snoc_left {x : Option Nat} {i : Nat} (h : i < done.length) : (done ++ [x])[i]? = done[i]? := List.getElem?_append_left h
theorem snoc_last {x : Option Nat} : (done ++ [x])[done.length]? = some x := by simp
theorem lt_of_at {α : Type} {l : List α} {i : Nat} {y : α} (h : l[i]? = some y) : i < l.length := (List.getElem?_eq_some_iff.mp h).1
/-- the next one was chosen already -/
theorem VP.chosen (mu : ∀ i j, j ∈ R i → i ∈ R j) (v : VP R done) {i : Nat} (h : done[i]? = some (some done.length)) : VP R (done ++ [some i]) := by
  refine ⟨fun a b ha => ?_, fun a b ha hb => ?_, fun a a' b ha ha' => ?_⟩
  · rcases at_snoc ha with ⟨_, h1⟩ | ⟨rfl, e⟩
    · exact v.on a b h1
    · cases e
      exact mu _ _ (v.on i _ h)
  · rw [List.length_append, List.length_singleton] at hb
    rcases at_snoc ha with ⟨hl, h1⟩ | ⟨rfl, e⟩
    · by_cases hbl : b < done.length
      · rw [snoc_left hbl]
        exact v.back a b h1 hbl
      · have : b = done.length := by omega
        subst this
        rw [snoc_last, v.one a i _ h1 h]
    · cases e
      rw [snoc_left (lt_of_at h)]
      exact h
  · have key : ∀ a : Nat, done[a]? = some (some i) → False := fun a ha => by
      have := v.back a i ha (lt_of_at h)
      rw [h] at this
      have e : done.length = a := by simpa using this
      have := lt_of_at ha
      omega
    rcases at_snoc ha with ⟨_, h1⟩ | ⟨rfl, e⟩ <;> rcases at_snoc ha' with ⟨_, h2⟩ | ⟨rfl, e'⟩
    · exact v.one a a' b h1 h2
    · cases e'; exact (key a h1).elim
    · cases e; exact (key a' h2).elim
    · rfl
/-- the next one takes a later one who is free, or nobody -/
theorem VP.take (v : VP R done) (hn : ∀ i : Nat, done[i]? ≠ some (some done.length)) {x : Option Nat} (hx : ∀ j, x = some j → j ∈ R done.length ∧ done.length < j ∧ ∀ i : Nat, done[i]? ≠ some (some j)) : VP R (done ++ [x]) := by
  refine ⟨fun a b ha => ?_, fun a b ha hb => ?_, fun a a' b ha ha' => ?_⟩
  · rcases at_snoc ha with ⟨_, h1⟩ | ⟨rfl, e⟩
    · exact v.on a b h1
    · exact (hx b e).1
  · rw [List.length_append, List.length_singleton] at hb
    rcases at_snoc ha with ⟨hl, h1⟩ | ⟨rfl, e⟩
    · by_cases hbl : b < done.length
      · rw [snoc_left hbl]
        exact v.back a b h1 hbl
      · have : b = done.length := by omega
        subst this
        exact (hn a h1).elim
    · have := (hx b e).2.1
      omega
  · rcases at_snoc ha with ⟨_, h1⟩ | ⟨rfl, e⟩ <;> rcases at_snoc ha' with ⟨_, h2⟩ | ⟨rfl, e'⟩
    · exact v.one a a' b h1 h2
    · exact ((hx b e').2.2 a h1).elim
    · exact ((hx b e).2.2 a' h2).elim
    · rfl
theorem VP.pair {n : Nat} (v : VP R done) (hl : done.length = n) (hn : ∀ i x, x ∈ R i → x < n) : PairOk R (mO done) := by
  have at_ : ∀ p q, mO done p = some q → done[p]? = some (some q) := fun p q e => by
    by_cases hp : p < done.length
    · rw [mO_at hp, e]
    · rw [mO_out (by omega)] at e; cases e
  refine ⟨fun p q e => v.on p q (at_ p q e), fun p q e => ?_⟩
  have h1 := at_ p q e
  exact mO_of (v.back p q h1 (by rw [hl]; exact hn p q (v.on p q h1)))
theorem good_of {n : Nat} (L : Lists R) (hR : ∀ i x, x ∈ R i → i < n ∧ x < n) {m : List (Option Nat)} (pk : PairOk R (mO m)) (hs : spL n R m n = []) : Good R (mO m) := by
  refine ⟨pk, fun p b ⟨h1, h2, h3⟩ => ?_⟩
  have key : ∀ p b, p < b → b ∈ R p → Wants R (mO m) p b → Wants R (mO m) b p → False := fun p b hlt h1 h2 h3 => by
    have := spL_nil hs hlt (hR p b h1).2
    have e1 : betterF (R p) b (mO m p) = true := (better_iff _ _ _).mpr ⟨h1, fun o ho => Nat.le_of_lt (h2 o ho)⟩
    have e2 : betterF (R b) p (mO m b) = true := (better_iff _ _ _).mpr ⟨L.mu _ _ h1, fun o ho => Nat.le_of_lt (h3 o ho)⟩
    have e3 : mO m p ≠ some b := fun e => Nat.lt_irrefl _ (h2 b e)
    unfold spB at this
    rw [e1, e2, decide_eq_false e3] at this
    cases this
  by_cases h : p < b
  · exact key p b h h1 h2 h3
  · by_cases h' : b < p
    · exact key b p h' (L.mu _ _ h1) h3 h2
    · have : p = b := by omega
      subst this
      exact L.ir p h1
end
end Bk
set_option Elab.async false
set_option linter.all false
namespace Bk
open PySem PySem.Spec PyProof.Rows L2 LamX
/-- a list of pairs -/
structure PairsAt (H : Hp) (D : Addr) (ps : List (Nat × Nat)) : Prop where
  ex : ∃ as : List Addr, H D = some (.lst (as.map V.ref)) ∧ as.length = ps.length ∧ ∀ (i : Nat) (a : Addr) (p : Nat × Nat), as[i]? = some a → ps[i]? = some p → H a = some (.tup [nv p.1, nv p.2])
theorem PairsAt.same {H H' : Hp} {D : Addr} {ps : List (Nat × Nat)} (h : PairsAt H D ps) (e : Same H H') : PairsAt H' D ps := by
  obtain ⟨as, h1, h2, h3⟩ := h.ex
  exact ⟨as, e _ _ h1, h2, fun i a p e1 e2 => e _ _ (h3 i a p e1 e2)⟩
theorem PairsAt.nil {H : Hp} {D : Addr} (h : H D = some (.lst [])) : PairsAt H D [] := ⟨[], h, rfl, fun i a p e _ => by simp at e⟩
theorem pairs_snoc {H : Hp} {D T : Addr} {ps : List (Nat × Nat)} {i j : Nat} {as : List Addr} (h1 : H D = some (.lst (as.map V.ref))) (h2 : as.length = ps.length) (h3 : ∀ (i : Nat) (a : Addr) (p : Nat × Nat), as[i]? = some a → ps[i]? = some p → H a = some (.tup [nv p.1, nv p.2])) (hT : H T = none) :
    PairsAt (upd (upd H T (.tup [nv i, nv j])) D (.lst (as.map V.ref ++ [.ref T]))) D (ps ++ [(i, j)]) := by
  have hDT : T ≠ D := fun z => by rw [z, h1] at hT; cases hT
  refine ⟨as ++ [T], by rw [upd_same, List.map_append]; rfl, by simp [h2], fun k a p e1 e2 => ?_⟩
  by_cases hk : k < as.length
  · rw [List.getElem?_append_left hk] at e1
    rw [List.getElem?_append_left (by omega)] at e2
    have := h3 k a p e1 e2
    have n1 : a ≠ D := fun z => by rw [z, h1] at this; cases this
    have n2 : a ≠ T := fun z => by rw [z, hT] at this; cases this
    rw [upd_ne n1, upd_ne n2]
    exact this
  · have hk' := (List.getElem?_eq_some_iff.mp e1).1
    rw [List.length_append, List.length_singleton] at hk'
    have : k = as.length := by omega
    subst this
    rw [List.getElem?_append_right (Nat.le_refl _), Nat.sub_self] at e1
    rw [h2, List.getElem?_append_right (Nat.le_refl _), Nat.sub_self] at e2
    simp at e1 e2
    subst e1; subst e2
    rw [upd_ne hDT, upd_same]
theorem scal_ov (o : Option Nat) (z : Nat) : scal (ov o) (nv z) = true := by cases o <;> rfl
theorem ov_eq (o : Option Nat) (z : Nat) : decide (ov o = nv z) = decide (o = some z) := by
  cases o with
  | none => simp [ov]
  | some a =>
    by_cases h : a = z
    · subst h; simp [ov]
    · rw [decide_eq_false (show ¬ some a = some z by simpa using h), decide_eq_false]
      intro e
      exact h (nv_inj e)
theorem flat_ov (m : List (Option Nat)) : (m.map ov).all flatV = true := by
  rw [List.all_map, List.all_eq_true]
  intro x _
  cases x <;> rfl
theorem eqV_ov (y : Option Nat) (x : Nat) : eqV (ov y) (nv x) = decide (y = some x) := by
  cases y with
  | none => rfl
  | some a =>
    show decide ((a : Int) = (x : Int)) = _
    by_cases h : a = x
    · subst h; simp
    · rw [decide_eq_false (show ¬ some a = some x by simpa using h), decide_eq_false (by omega)]
theorem inV_ov (m : List (Option Nat)) (x : Nat) : inV (nv x) (m.map ov) = decide (some x ∈ m) := by
  unfold inV
  rw [List.any_map]
  rw [show ((fun y => eqV y (nv x)) ∘ ov) = fun y => decide (y = some x) from funext fun y => eqV_ov y x]
  by_cases h : some x ∈ m
  · rw [decide_eq_true h, List.any_eq_true]
    exact ⟨_, h, by simp⟩
  · rw [decide_eq_false h, List.any_eq_false]
    intro y hy e
    simp at e
    exact h (e ▸ hy)
theorem index_ov {K : PySem.W.Frag} {H : Hp} {a : Addr} {m : List (Option Nat)} {x j : Nat} {Q : VK} (ha : SqL K H a (m.map ov)) (hx : m[j]? = some (some x)) (h1 : ∀ i : Nat, m[i]? = some (some x) → i = j) (q : Q (nv j) H) : rIndex K (.ref a) [nv x] H Q := by
  refine ⟨a, m.map ov, nv x, j, nv x, rfl, rfl, ha, rfl, flat_ov _, ?_, ?_, fun i z hi hz => ?_, q⟩
  · rw [List.getElem?_map, hx]; rfl
  · show decide ((x : Int) = (x : Int)) = true; simp
  · rw [List.getElem?_map] at hz
    obtain ⟨y, hy, rfl⟩ := Option.map_eq_some_iff.mp hz
    rw [eqV_ov, decide_eq_false]
    rintro rfl
    have := h1 i hy
    omega
def dPairs (ps : List (Nat × Nat)) : PyData := .list (ps.map fun p => .tuple [.int p.1, .int p.2])
theorem dp_pairs {K : PySem.W.Frag} {H : Hp} {D : Addr} {ps : List (Nat × Nat)} (h : PairsAt H D ps) : Dp K H (.ref D) (dPairs ps) := by
  obtain ⟨as, h1, h2, h3⟩ := h.ex
  refine .lst (SqL.of h1) ?_
  have g : ∀ (l : List Addr) (rs : List (Nat × Nat)), l.length = rs.length → (∀ (i : Nat) (a : Addr) (p : Nat × Nat), l[i]? = some a → rs[i]? = some p → H a = some (.tup [nv p.1, nv p.2])) → DpAll K H (l.map V.ref) (rs.map fun p => .tuple [.int p.1, .int p.2]) := fun l => by
    induction l with
    | nil => intro rs e _; cases rs with
      | nil => exact .nil
      | cons _ _ => simp at e
    | cons a l ih =>
      intro rs e hr
      cases rs with
      | nil => simp at e
      | cons r rs =>
        exact .cons (.tup (SqT.of (hr 0 a r rfl rfl)) (.cons (.int _) (.cons (.int _) .nil))) (ih rs (by simpa using e) fun i b q h1 h2 => hr (i + 1) b q (by simpa using h1) (by simpa using h2))
  exact g as ps h2 h3
theorem shaped_pairs (ps : List (Nat × Nat)) : SeqAt.shaped (dPairs ps) = true := by
  have h : PyData.canLayAll0 (ps.map fun p => .tuple [.int p.1, .int p.2]) = true ∧ PyData.depthAll (ps.map fun p => .tuple [.int p.1, .int p.2]) ≤ 1 := by
    induction ps with
    | nil => simp [PyData.canLayAll0, PyData.depthAll]
    | cons r rs ih =>
      simp only [List.map_cons, PyData.canLayAll0, PyData.depthAll, PyData.canLay0, PyData.depth, ih.1]
      refine ⟨by simp, by have := ih.2; omega⟩
  unfold SeqAt.shaped dPairs
  simp only [PyData.canLay0, PyData.depth, h.1, Bool.true_and]
  exact decide_eq_true (by have := h.2; omega)
theorem eqv_pairs (ps qs : List (Nat × Nat)) : PyData.eqv (dPairs ps) (dPairs qs) = decide (ps = qs) := by
  unfold dPairs
  simp only [PyData.eqv]
  induction ps generalizing qs with
  | nil => cases qs <;> simp [PyData.eqvAll]
  | cons p ps ih =>
    cases qs with
    | nil => simp [PyData.eqvAll]
    | cons q qs =>
      obtain ⟨p1, p2⟩ := p
      obtain ⟨q1, q2⟩ := q
      simp only [List.map_cons, PyData.eqvAll, ih, PyData.eqv, List.cons.injEq, Prod.mk.injEq, Bool.and_true, Bool.decide_and]
      have e : ∀ a b : Nat, ((a : Int) == (b : Int)) = decide (a = b) := fun a b => by
        by_cases h : a = b
        · subst h; simp
        · rw [decide_eq_false h]
          exact beq_false_of_ne (by omega)
      rw [e, e]
theorem eq_pairs {K : PySem.W.Frag} {H : Hp} {a b : Addr} {r s : List (Nat × Nat)} {Q : VK} (h : PairsAt H a r) (h' : PairsAt H b s) (q : Q (.bl (decide (r = s))) H) : rEqD K (.ref a) (.ref b) H Q :=
  ⟨dPairs r, dPairs s, dp_pairs h, dp_pairs h', shaped_pairs r, shaped_pairs s, by rw [eqv_pairs]; exact q⟩
theorem ne_pairs {K : PySem.W.Frag} {H : Hp} {a b : Addr} {r s : List (Nat × Nat)} {Q : VK} (h : PairsAt H a r) (h' : PairsAt H b s) (q : Q (.bl (!decide (r = s))) H) : rNeD K (.ref a) (.ref b) H Q :=
  ⟨dPairs r, dPairs s, dp_pairs h, dp_pairs h', shaped_pairs r, shaped_pairs s, by rw [eqv_pairs]; exact q⟩
theorem spRow_succ (R : Nat → List Nat) (m : List (Option Nat)) (i lo k : Nat) : spRow R m i lo (k + 1) = if spB R m i (lo + k) = true then spRow R m i lo k ++ [(i, lo + k)] else spRow R m i lo k := by
  unfold spRow
  rw [List.range_succ, List.map_append, List.filter_append, List.map_append]
  by_cases h : spB R m i (lo + k) = true
  · rw [if_pos h]
    simp [h]
  · rw [if_neg h]
    simp [h]
theorem spRow_len (R : Nat → List Nat) (m : List (Option Nat)) (i lo k : Nat) : (spRow R m i lo k).length ≤ k := by
  unfold spRow
  rw [List.length_map]
  refine Nat.le_trans (List.length_filter_le _ _) ?_
  simp
theorem spL_succ (n : Nat) (R : Nat → List Nat) (m : List (Option Nat)) (k : Nat) : spL n R m (k + 1) = spL n R m k ++ spRow R m k (k + 1) (n - (k + 1)) := by
  unfold spL
  rw [List.range_succ, List.flatMap_append]
  simp
theorem spL_len (n : Nat) (R : Nat → List Nat) (m : List (Option Nat)) (k : Nat) : (spL n R m k).length ≤ k * n := by
  induction k with
  | zero => simp [spL]
  | succ k ih =>
    rw [spL_succ, List.length_append]
    have := spRow_len R m k (k + 1) (n - (k + 1))
    rw [Nat.succ_mul]
    omega
theorem Tbl.but {H H' : Hp} {t : Addr} {as fs : List Addr} {rows : List (List Nat)} (T : Tbl H t as rows) (k : ∀ b o, b ∉ fs → H b = some o → H' b = some o) (h1 : t ∉ fs) (h2 : ∀ a ∈ as, a ∉ fs) : Tbl H' t as rows :=
  ⟨k _ _ h1 T.top, T.len, T.nd, T.out, fun i a r e1 e2 => k _ _ (h2 a (List.mem_of_getElem? e1)) (T.row i a r e1 e2)⟩
/-- what stands in a table is not new -/
theorem Tbl.apart {H : Hp} {t : Addr} {as fs : List Addr} {rows : List (List Nat)} (T : Tbl H t as rows) (hf : ∀ a ∈ fs, H a = none) : t ∉ fs ∧ ∀ a ∈ as, a ∉ fs := by
  refine ⟨fun z => ?_, fun a ha z => (T.fresh (hf a z)).1 ha⟩
  have := hf t z
  rw [T.top] at this
  cases this
end Bk
set_option Elab.async false
set_option linter.all false
set_option maxRecDepth 100000
set_option maxHeartbeats 4000000
/-! An own error: C(BunkError), BunkError(ValueError); its __init__ says super().__init__(f"..{at}"), self.at = at. -/
namespace Bk
open PySem PySem.Spec PySem.W PySem.Calls PyProof.Rows PySem.HandSPX
/-! ### the text of __init__ -/
def eA (p1 p2 : Pos) : Arguments := { posonlyargs := [], args := [{ arg := "self", annotation := none, pos := p1 }, { arg := "at", annotation := none, pos := p2 }], vararg := none, kwonlyargs := [], kw_defaults := [], kwarg := none, defaults := [] }
def eB (pre : Str) (q1 q2 q3 q4 q5 q6 q7 q8 q9 r1 r2 r3 r4 : Pos) : List Stmt :=
  [.Expr (.Call (.Attribute (.Call (.Name "super" q1) [] [] q2) "__init__" q3) [.JoinedStr [.Constant (.str pre) 0 q4, .FormattedValue (.Name "at" q5) (-1) none q6] q7] [] q8) q9,
    .Assign [.Attribute (.Name "self" r1) "at" r2] (.Name "at" r3) r4]
def eS : Scope := { kind := .function, names := [(Str.ofString "self", .local), (Str.ofString "at", .local), (Str.ofString "__class__", .free), (Str.ofString "super", .globalImplicit)], isGenerator := false, isCoroutine := false, more := [] }
/-- what the written part says of the class x, at C, and of its __init__, at fI -/
structure ErrTxt (P : Program) (K : Frag) (mg : Str → Option Value) (x qi pre : Str) (C fI : Addr) : Prop where
  gC : mg x = some (.ref C)
  cls : ∃ nm q N bs bm sn sub ab col dd k0 k1 k2 k3 k5, K.lookup C = some (excClassObj nm q C N bs bm true sn sub ab col dd k0 k1 k2 k3 k5 "ValueError.__new__") ∧ refsVE bm = true
  up : ks_superIn K C C "__init__" = some (some (.builtin "ValueError.__init__"))
  opq : nsIn K cStatics "thirdparty.any" = some none
  vE : subIn K (.ref C) (.type "ValueError") = some true
  self : mroIn K C (.ref C) = some true
  sa : findIn K (.ref C) "__setattr__" = some (some (.builtin "object.__setattr__"))
  ga : findIn K (.ref C) "__getattribute__" = some (some (.builtin "BaseException.__getattribute__"))
  gg : findIn K (.ref C) "__getattr__" = some none
  noN : findIn K (.ref C) "at" = some none
  iC : findIn K (.ref C) "__init__" = some (some (.ref fI))
  tC : typeIn K (.ref fI) = some (.type "function")
  kC : keepIn K (.ref C) = true
  exC : subIn K (.ref C) (.type "BaseException") = some true
  tyC : typeIn K (.ref C) = some (.type "type")
  hdC : hasDictIn K C = true
  noS : mg "super" = none
  top : (P.main.scope.names.lookup ("super" : Str)).isSome = false
  pre1 : pre.length ≤ 100
  fn : ∃ (oc : Value) (od : Option Addr) (doc pm : Value) (an : Option Addr) (cda cc : Addr) (ct : Value) (osl : Array (Option Value)) (p1 p2 q1 q2 q3 q4 q5 q6 q7 q8 q9 r1 r2 r3 r4 : Pos) (vs : Array Value) (file : Str) (tf : Tok) (ccl cl : Value) (cdd cld : Option Addr) (ccs csl : Array (Option Value)),
    K.lookup fI = some ⟨oc, od, .func (ksFn "__init__" qi (eA p1 p2) (eB pre q1 q2 q3 q4 q5 q6 q7 q8 q9 r1 r2 r3 r4) eS .none .none doc pm an (.ref cda) ct cc), osl⟩ ∧ codeIn K (.ref cda) qi = true ∧
    (q3.endLine == q8.line) = true ∧ K.lookup cda = some ⟨ccl, cdd, .fields vs, ccs⟩ ∧ vs[2]? = some (.str file tf) ∧ ((P.main.file : Str) == file) = true ∧ K.lookup cc = some ⟨cl, cld, .cell (some (.ref C)), csl⟩
/-- what __init__ leaves of a fresh error at x -/
structure ErrEnd (h h' : Heap) (x C dx t1 : Addr) (v : Value) : Prop where
  keep : ∀ b o, b ≠ x → h.get? b = some o → h'.get? b = some o
  obj : h'.get? x = some { cls := .ref C, dict := some dx, data := .fields #[.ref t1, .none, .none, .none, .bool false, .none] }
  dbig : h.objs.size ≤ dx
  dne : dx ≠ x
  ns : h'.Ns1 dx (fun y => if y = "at" then some v else none)
section
variable {M : Model} {prog : Program} {w : World} {A : Around} {E : Value → Shared → Prop} {h : Heap} {g : Array GenState} {d : Drawn} {t : Nat} {os : OsState}
/-- the built-in __init__ bound to an error, called -/
theorem call_mw {nm q : Str} {C N : Addr} {bs bm : List Value} {sn : List Str} {sub : List Value} {ab : Bool} {col : Option Bool} {dd : Option Addr} {k0 k1 k2 k3 k5 : Option Value} {u e t0 : Addr} {rest : List Value} {Q : Value → Shared → Prop}
    (hC : h.get? C = some (excClassObj nm q C N bs bm true sn sub ab col dd k0 k1 k2 k3 k5 "ValueError.__new__")) (he : h.get? e = some (excO C t0)) (hu : h.get? u = some (kxs_mw "ValueError.__init__" e)) (hrest : rest.length ≤ sizeLine)
    (hq : ∀ h' t1, (∀ b o, b ≠ e → h.get? b = some o → h'.get? b = some o) → h'.get? e = some (excO C t1) → Q .none ⟨h', g, d, t, os⟩) : wpAny (model prog w) A (call (.ref u) rest) Q E ⟨h, g, d, t, os⟩ := by
  refine wpAny_call (codeAny_of_tree ?_)
  show wpAny _ A.in1 (callAny (.ref u) { pos := rest, kw := [] }) _ _ _
  simp only [callAny]
  refine wpAny_bind (wpAny_load hu ?_)
  have e1 : (Value.type "method-wrapper" == Value.type "method" || Value.type "method-wrapper" == Value.type "builtin_function_or_method" || Value.type "method-wrapper" == Value.type "method-wrapper") = true := by decide
  simp only [kxs_mw, e1, if_true]
  refine KFB.if_so (by decide) ?_
  refine wpAny_bind (check_bound_init F.excBase_ValueError.toExcCallFacts hC he rfl ?_)
  refine wpAny_bind (wpAny_pure (wpAny_pure ?_))
  refine ⟨plainId_quiet F.excBase_ValueError.init.plain _, codeAny_builtin F.excBase_ValueError.initEntry ?_⟩
  exact exc_init_tree (cls := .ref C) (t0 := t0) (dv := none) (c2 := .none) (c3 := .none) (b4 := .bool false) he hrest fun h' k e' _ => hq h' _ k e'
end
/-- None, or a number below 100 -/
def AtOk (v : Value) : Prop := v = .none ∨ ∃ (n : Nat) (t : Tok), v = .int (n : Int) t ∧ n < 100
theorem small_text : ∀ n : Nat, n < 100 → (toString (n : Int) : Str).length ≤ 100 := by decide +kernel
section
variable {prog : Program} {w : World} {A : Around} {E : Value → Shared → Prop} {s : Shared}
theorem fmt_at {v : Value} {Q : Value → Shared → Prop} (hv : AtOk v) (hq : ∀ (y : Str) tk tk', y.length ≤ 100 → Q (.str y tk) { s with toks := tk' }) : wpAny (model prog w) A (formatField v Str.empty) Q E s := by
  rcases hv with rfl | ⟨n, t, rfl, h1⟩
  · exact wpAny_formatField_none (hq _ _ _ (by decide))
  · refine wpAny_formatField_int (Nat.lt_of_le_of_lt (Nat.log2_le_self _) (by omega)) (hq _ _ _ (small_text n h1))
theorem mcall_eq {o : Expr} {name : Str} {apos pos p7 : Pos} {es : List Expr} {env : Env} (hp : (apos.endLine == pos.line) = true) : eval (.Call (.Attribute o name apos) [.JoinedStr es p7] [] pos) env = (do
      let ov ← attributeBase o name env (eval o env)
      standAt apos.atName
      let (f, first) ← holding [ov] (getMethod ov name (do return (← importBound o env).getD true))
      callWith pos f first (backTo pos (starEach [.JoinedStr es p7] env)) []) := by
  rw [arm_eval_Call]
  have e0 : backToKw pos (keywordEach [] env) = [] := rfl
  have e1 : methodCallForm (([Expr.JoinedStr es p7] : List Expr).length + ([] : List Keyword).length) (backTo pos (starEach [.JoinedStr es p7] env)) [] = true := rfl
  unfold methodCall methodCallPos
  rw [e0, e1, hp]
  rfl
/-- __init__ of an error, called -/
theorem err_init {K : Frag} {mg mb : Str → Option Value} {x qi pre : Str} {C fI : Addr} (T : ErrTxt prog K mg x qi pre C fI) {e t0 : Addr} {v : Value} {R : Result → Shared → Prop} (X : K.In s.heap) (hg : s.heap.Ns mainGlobals mg) (hb : s.heap.Ns builtinsNs mb) (hbs : mb "super" = some (.type "super"))
    (hlim : s.heap.NoLimit) (hx : s.heap.get? e = some (excO C t0)) (hnx : K.lookup e = none) (hroom : A.depth < recursionLimit) (hv : AtOk v) (hq : ∀ h' tk dx t1, ErrEnd s.heap h' e C dx t1 v → R (.ok (.ret .none)) { s with heap := h', toks := tk }) :
    codeAny (model prog w) A (.call (.ref fI) ⟨[.ref e, v], []⟩) R s := by
  obtain ⟨oc, od, doc, pm, an, cda, cc, ct, osl, p1, p2, q1, q2, q3, q4, q5, q6, q7, q8, q9, r1, r2, r3, r4, vs, file, tf, ccl, cl, cdd, cld, ccs, csl, ho, hcd, hpos, hcode, hvs, hfile, hcell⟩ := T.fn
  obtain ⟨nm, q, N, bs, bm, sn, sub, ab, col, dd, k0, k1, k2, k3, k5, hC, hbm⟩ := T.cls
  have hcl : clsIn K C = some { name := nm, bases := bs, mro := .ref C :: bm, ns := N, qualname := q, hasDict := true, slotNames := sn, subclasses := sub, abstract := ab, collection := col, hasDel := false } := by unfold clsIn; rw [hC] <;> rfl
  refine ks_codeAny_call_defAt (fd := ksFn "__init__" qi (eA p1 p2) (eB pre q1 q2 q3 q4 q5 q6 q7 q8 q9 r1 r2 r3 r4) eS .none .none doc pm an (.ref cda) ct cc) (body := eB pre q1 q2 q3 q4 q5 q6 q7 q8 q9 r1 r2 r3 r4) (binds := [("self", .ref e), ("at", v)])
    hroom (X _ _ ho) rfl hlim (codeRec_of X hcd) rfl (BindsTo.of_eq rfl) (show ∀ y ∈ eS.names, y.2 ≠ .cell by decide) (by first | rfl | decide | with_unfolding_all rfl | (intro y hy; simp at hy; rcases hy with rfl | rfl <;> rfl)) (fun h₁ hn₁ k₁ => ?_)
  have X₁ : K.In h₁ := X.keeps k₁
  have hx₁ := k₁ _ _ hx
  have hxe : e < s.heap.objs.size := Heap.lt_size hx
  -- super()
  refine ks_wpAt_execs_cons (ks_wpAt_Expr_any (ks_wpAt_MethodCall ?_ (mcall_eq hpos)))
  refine ks_wpAt_super_base rfl rfl (by decide) rfl (X₁ _ _ ho) rfl rfl rfl (X₁ _ _ hcode) rfl hvs hfile T.top ?_
  refine ks_loadName_global rfl rfl (loadGlobal_builtin (hg.keeps k₁) T.noS (hb.keeps k₁) hbs ⟨rfl, ?_⟩)
  refine wpAny_loadName_free rfl rfl rfl ⟨_, X₁ _ _ hcell, rfl⟩ ?_
  refine wpAny_loadName_local (v := .ref e) rfl rfl hn₁ (by first | rfl | with_unfolding_all rfl | kernel_rfl) ?_
  have hC₁ := X₁ _ _ hC
  refine ks_wpAny_isType_cls hC₁ rfl ⟨rfl, ?_⟩
  refine ks_wpAny_call_super hC₁ rfl hx₁ rfl (fun c z => by cases z) (looks_mroIn X₁ T.self) (fun h₂ e₂ k₂ => ?_)
  have X₂ : K.In h₂ := X₁.keeps k₂
  have hx₂ := k₂ _ _ hx₁
  have hal : alongIn K "__init__" (((Value.ref C :: bm).dropWhile (· != .ref C)).drop 1) = some (some (.builtin "ValueError.__init__")) := by
    have := T.up
    unfold ks_superIn at this
    rw [hcl] at this
    exact this
  have I₂ : InstAt h₂ e (excO C t0) C none := ⟨hx₂, rfl, rfl, trivial⟩
  refine kxs_getMethod kxs_ValueError e₂ (looks_opaque X₂ T.opq) (l₀ := .ref C :: bm) (fun A Q E s k q => wpAny_bind ((looks_clsIn X₂ hcl) A _ E s k (wpAny_pure q))) rfl X₂ hal (I₂.type.andThen (looks_subIn X₂ T.vE)) (ks_ne X₂ I₂ hcl) (by decide) ?_
  have k₃ : ∀ b o, h₂.get? b = some o → (h₂.push (kxs_mw "ValueError.__init__" e)).get? b = some o := fun b o z => Heap.get?_push_of_some _ z
  have u₃ : (h₂.push (kxs_mw "ValueError.__init__" e)).get? h₂.objs.size = some (kxs_mw "ValueError.__init__" e) := Heap.get?_push_at rfl rfl
  generalize h₂.push (kxs_mw "ValueError.__init__" e) = h₃ at k₃ u₃
  generalize h₂.objs.size = u at u₃
  have X₃ : K.In h₃ := X₂.keeps k₃
  have hx₃ := k₃ _ _ hx₂
  have hn₃ := (hn₁.keeps k₂).keeps k₃
  refine kxs_callWith (i := "ValueError.__init__") (x := e) rfl (evalArgs_plain ?_)
  refine spliced_cons ?_
  -- the text
  refine wpAny_JoinedStr (pos := q7) ?_
  have env0 : True := trivial
  refine wpAny_Constant_str ⟨pre, _, rfl, ?_, ?_⟩
  · have := T.pre1
    have : (Str.empty ++ pre).length ≤ 100 := by rw [strLen_append]; exact Nat.le_trans (Nat.add_le_add_right (show Str.empty.length ≤ 0 by decide) _) (by omega)
    exact Nat.le_trans this (by decide)
  refine wpAny_FormattedValue_plain ?_
  refine wpAny_Name (wpAny_loadName_local (v := v) rfl rfl hn₃ (by first | rfl | with_unfolding_all rfl | kernel_rfl) ?_) (by decide)
  refine fmt_at hv fun y tk tk' hy => ⟨y, _, rfl, ?_, ?_⟩
  · have := T.pre1
    have e1 : (Str.empty ++ pre).length ≤ 100 := by rw [strLen_append]; exact Nat.le_trans (Nat.add_le_add_right (show Str.empty.length ≤ 0 by decide) _) (by omega)
    rw [strLen_append]
    exact Nat.le_trans (Nat.add_le_add e1 hy) (by decide)
  refine ⟨?_, spliced_nil ⟨u₃, ?_⟩⟩
  · have := T.pre1
    have e1 : (Str.empty ++ pre).length ≤ 100 := by rw [strLen_append]; exact Nat.le_trans (Nat.add_le_add_right (show Str.empty.length ≤ 0 by decide) _) (by omega)
    rw [strLen_append]
    exact Nat.le_trans (Nat.add_le_add e1 hy) (by decide)
  refine call_mw (X₃ _ _ hC) hx₃ u₃ (show (1 : Nat) ≤ sizeLine by decide) fun h₄ t₁ k₄ hx₄ => ?_
  have eC : C ≠ e := fun z => by
    have := X₃ _ _ hC
    rw [z, hx₃] at this
    cases this
  have nL : s.heap.objs.size ≠ e := Nat.ne_of_gt hxe
  have X₄ : K.In h₄ := fun b o q => k₄ b o (fun z => by rw [z, hnx] at q; cases q) (X₃ b o q)
  have hn₄ : h₄.Ns s.heap.objs.size _ := hn₃.at fun o q => k₄ _ _ nL q
  -- self.at = at
  show _root_.PySem.wpAt _ _ _ (execs _ _) _ _ _
  refine wpAt_of_wpAny (wpAny_execs_cons (plainObj_wpAny_Assign_Attribute ?_))
  refine wpAny_Name (wpAny_loadName_local (v := v) rfl rfl hn₄ (by first | rfl | with_unfolding_all rfl | kernel_rfl) ?_) (by decide)
  refine wpAny_Name (wpAny_loadName_local (v := .ref e) rfl rfl hn₄ (by first | rfl | with_unfolding_all rfl | kernel_rfl) ?_) (by decide)
  refine set_plain X₄ (ox := excO C t₁) (od := none) ⟨hx₄, rfl, rfl, trivial⟩ T.sa ?_
  refine exc_osa X₄ hx₄ hcl (show refsVE (.ref C :: bm) = true from hbm) rfl T.noN (fun h₅ tk₅ dx k₅ dn dne hx₅ hn₅ => ?_)
  show wpAny _ _ (execs _ _) _ _ _
  have k₀ : ∀ b o, s.heap.get? b = some o → h₃.get? b = some o := fun b o q => k₃ b o (k₂ b o (k₁ b o q))
  refine wpAny_execs_nil (hq h₅ tk₅ dx t₁ ⟨fun b o nb q => k₅ b o nb (k₄ b o nb (k₀ b o q)), hx₅, ?_, dne, hn₅⟩)
  obtain ⟨oL, _, _, hoL, _⟩ := hn₄
  exact Nat.le_of_lt (Nat.lt_of_lt_of_le (Heap.lt_size hoL) dn)
/-- a made error -/
structure ErrMade (h h' : Heap) (e C d : Addr) (v : Value) : Prop where
  keep : ∀ b o, h.get? b = some o → h'.get? b = some o
  new : h.objs.size ≤ e
  obj : ∃ oe vs, h'.get? e = some oe ∧ oe.cls = .ref C ∧ oe.dict = some d ∧ oe.data = .fields vs ∧ vs[1]? = some .none
  dbig : h.objs.size ≤ d
  dne : d ≠ e
  ns : h'.Ns1 d (fun y => if y = "at" then some v else none)
theorem err_made {K : Frag} {mg mb : Str → Option Value} {x qi pre : Str} {C fI : Addr} (T : ErrTxt prog K mg x qi pre C fI) {v : Value} {R : Result → Shared → Prop} (X : K.In s.heap) (hg : s.heap.Ns mainGlobals mg) (hb : s.heap.Ns builtinsNs mb) (hbs : mb "super" = some (.type "super"))
    (hlim : s.heap.NoLimit) (hroom : A.depth + 1 < recursionLimit) (hv : AtOk v) (hq : ∀ h' tk e d, ErrMade s.heap h' e C d v → R (.ok (.ret (.ref e))) { s with heap := h', toks := tk }) :
    codeAny (model prog w) A (.call (.ref C) ⟨[v], []⟩) R s := by
  obtain ⟨nm, q, N, bs, bm, sn, sub, ab, col, dd, k0, k1, k2, k3, k5, hC, hbm⟩ := T.cls
  obtain ⟨hp, g, dr, tk, os⟩ := s
  have k : ∀ b o, hp.get? b = some o → ((hp.push (kdv_tup [v])).push (excO C hp.objs.size)).get? b = some o := fun b o z => Heap.get?_push_of_some _ (Heap.get?_push_of_some _ z)
  have hget : ((hp.push (kdv_tup [v])).push (excO C hp.objs.size)).get? (hp.objs.size + 1) = some (excO C hp.objs.size) := by heap_get
  have hnx : K.lookup (hp.objs.size + 1) = none := by
    cases z : K.lookup (hp.objs.size + 1) with
    | none => rfl
    | some o =>
      have z2 : hp.get? (hp.objs.size + 1) = some o := X _ _ z
      exact absurd (Nat.lt_of_succ_lt (Heap.lt_size z2)) (Nat.lt_irrefl _)
  refine call_own F.excBase_ValueError (fun Y => refsVE_contains Y bm hbm) (X _ _ hC) (looks_findIn X T.iC) (fun self => bind_fn X self T.tC) (show (1 : Nat) ≤ sizeLine by decide) ?_
  refine err_init (s := ⟨(hp.push (kdv_tup [v])).push (excO C hp.objs.size), g, dr, tk, os⟩) T (X.keeps k) (hg.keeps k) (hb.keeps k) hbs (hlim.keeps k) hget hnx hroom hv fun h' tk' dx t1 M => ⟨rfl, ?_⟩
  have z : hp.objs.size + 1 + 1 ≤ dx := by
    have := M.dbig
    rw [Heap.size_push, Heap.size_push] at this
    exact this
  exact hq h' tk' (hp.objs.size + 1) dx ⟨fun b o y => M.keep b o (Nat.ne_of_lt (Nat.lt_succ_of_lt (Heap.lt_size y))) (k b o y), Nat.le_succ _, ⟨_, _, M.obj, rfl, rfl, rfl, rfl⟩, Nat.le_trans (Nat.le_trans (Nat.le_succ _) (Nat.le_succ _)) z, M.dne, M.ns⟩
end
end Bk
set_option Elab.async false
set_option linter.all false
set_option maxRecDepth 100000
set_option maxHeartbeats 4000000
/-! Raising such an error, and holding it as a value behind the try. -/
namespace Bk
open PySem PySem.Spec PyProof.Rows L2
abbrev atFs (v : V) : List (Str × V) := [((Str.ofString "at"), v)]
theorem relO_at {v : V} {u : Value} (r : RelV v u) (f : Str) : RelO ((atFs v).lookup f) (if f = Str.ofString "at" then some u else none) := by
  by_cases hw : f = Str.ofString "at"
  · rw [hw, if_pos rfl]
    exact r
  · rw [if_neg hw]
    have e : (atFs v).lookup f = none := by
      show (match f == Str.ofString "at" with | true => some v | false => List.lookup f []) = none
      rw [show (f == Str.ofString "at") = false by simpa using hw]
      rfl
    rw [e]
    trivial
/-- None, or a number below 100 -/
def AtV (v : V) : Prop := v = .non ∨ ∃ n : Nat, v = .int (n : Int) ∧ n < 100
theorem AtV.ok {v : V} {u : Value} (h : AtV v) (r : RelV v u) : AtOk u := by
  rcases h with rfl | ⟨n, rfl, hn⟩
  · exact .inl r
  · obtain ⟨t, rfl⟩ := r
    exact .inr ⟨n, t, rfl, hn⟩
/-- x(e) -/
def tMkErr (C : Addr) (ta : TA) : L2.St → Hp → XK → Prop := fun σ H Q => ta σ H fun vs H1 => ∃ v, vs = [v] ∧ AtV v ∧ ∀ d, H1 d = none → Q (.ref C) (some d) (upd H1 d (.xd (atFs v)))
section
variable {X : Cx} {C fI : Addr} {x qi pre : Str}
theorem pmk_err {a : Expr} {ta : TA} {p pos : Pos} {k : Nat} (T : ErrTxt X.prog X.K X.mg x qi pre C fI) (hr : Room k X.A) (ha : PA X [a] ta) (hg : Gl X x) (hdb : (x == ("__debug__" : Str)) = false := by decide)
    (he : starEach (a :: []) X.env = (false, eval a X.env) :: starEach [] X.env := by rfl) (hpl : (backTo pos (starEach [] X.env)).any (·.1) = false := by rfl) :
    PMk X (.Call (.Name x p) [a] [] pos) (tMkErr C ta) := by
  intro pins s σ H Q I h
  refine wpAny_Call_Name_kw (ld_glob I hg T.gC ?_ hdb)
  refine PySem.W.callWith_K (h₀ := X.base) I.ok.mod.kin T.kC (thn (ha.run pos pins s σ H _ I h) fun us s1 hh => ?_) he hpl
  obtain ⟨vs, H1, I1, r1, v, ev, hv, q1⟩ := hh
  subst ev
  refine ⟨I1.kIn, ?_⟩
  cases r1 with
  | cons rv rn =>
    rename_i u us'
    cases rn
    show wpAny _ _ (call (.ref C) [u]) _ _ _
    have hlim := I1.nolimit
    obtain ⟨mb, hb1, hb2⟩ := I1.mod.blt
    have hG : s1.heap.Ns mainGlobals X.mg := I1.mod.glob.keeps I1.bk
    have hB : s1.heap.Ns builtinsNs mb := hb1.keeps I1.bk
    have kin := I1.kIn
    obtain ⟨hp, g, dr, tk, os⟩ := s1
    refine wpAny_call (err_made T kin hG hB ((hb2 _ (by decide)).trans PyProof.Rows.Boot.«super») hlim (by have := hr.dp; omega) (hv.ok rv) fun h' tk' e d M => ?_)
    show MkP X pins σ Q (.ref e) ⟨h', g, dr, tk', os⟩
    obtain ⟨oe, fv, hoe, hc, hd, hdat, h1⟩ := M.obj
    obtain ⟨G', g1, g2⟩ := restrict h' fun b => decide (b ≠ e)
    have gk : ∀ b, b ≠ e → G'.get? b = h'.get? b := fun b nb => g1 b (decide_eq_true nb)
    have ge : G'.get? e = none := g2 e (by simp)
    have old : ∀ b o, hp.get? b = some o → G'.get? b = some o := fun b o z => (gk b (Nat.ne_of_lt (Nat.lt_of_lt_of_le (Heap.lt_size z) M.new))).trans (M.keep b o z)
    have ob : ObjOk X.prog X.w (upd H1 d (.xd (atFs v))) G' d (.xd (atFs v)) := ⟨_, M.ns.at (fun o z => (gk d M.dne).trans z), fun f => relO_at rv f⟩
    have J : Inv X pins σ (upd H1 d (.xd (atFs v))) ⟨G', g, dr, tk', os⟩ := I1.laid (t' := tk') old M.dbig ob
    refine ⟨e, oe, fv, ⟨G', g, dr, tk', os⟩, _, .ref C, some d, rfl, J, fun b o z => ?_, ge, hoe, ⟨hc, hd⟩, hdat, h1, ?_, rfl, I1.bare, raises_own T.exC T.tyC, q1 d (I1.hok.fresh M.dbig)⟩
    · by_cases nb : b = e
      · have z' : G'.get? b = some o := z
        rw [nb, ge] at z'
        cases z'
      · exact (gk b nb).symm.trans z
    · rw [upd_ne (Ne.symm M.dne)]
      exact I1.hok.fresh M.new
def tRaiseErr (C : Addr) (W : WX) (ta : TA) : TS := fun _ σ H => tMkErr C ta σ H fun cls d H' => W cls d σ H'
theorem ps_raiseErr {a : Expr} {ta : TA} {W : WX} {p pos pos2 : Pos} {k : Nat} (hc : X.calm = true) (T : ErrTxt X.prog X.K X.mg x qi pre C fI) (hr : Room k X.A) (tk : Takes X W) (ha : PA X [a] ta) (hg : Gl X x) (hdb : (x == ("__debug__" : Str)) = false := by decide)
    (he : starEach (a :: []) X.env = (false, eval a X.env) :: starEach [] X.env := by rfl) (hpl : (backTo pos (starEach [] X.env)).any (·.1) = false := by rfl) :
    PS X (.Raise (some (.Call (.Name x p) [a] [] pos)) none pos2) (tRaiseErr C W ta) := ps_raise hc tk (pmk_err T hr ha hg hdb he hpl)
end
/-! ### held as a value behind the try -/
/-- an error of the class cls that was caught, its dict at d -/
def HeldE (cls : Value) (d : Option Addr) (ea : Addr) : HO := .ext fun h => ∃ (oe : Obj) (vs : Array Value), h.get? ea = some oe ∧ Zc cls d oe ∧ oe.data = .fields vs
theorem heldE_at {P : Program} {w : World} {H : Hp} {h : Heap} {ea : Addr} {cls : Value} {d : Option Addr} (hok : HOk P w H h) (e : H ea = some (HeldE cls d ea)) : ∃ (oe : Obj) (vs : Array Value), h.get? ea = some oe ∧ Zc cls d oe ∧ oe.data = .fields vs := by
  have x : ObjOk P w H h ea (.ext fun h => ∃ (oe : Obj) (vs : Array Value), h.get? ea = some oe ∧ Zc cls d oe ∧ oe.data = .fields vs) := hok ea _ e
  exact x.1
section
variable {X : Cx} {pins : List (Addr × Obj)} {σ : L2.St} {H : Hp} {s : Shared}
theorem adopt {ea : Addr} {oe : Obj} {vs : Array Value} {cls : Value} {d : Option Addr} (I : L2.Inv X pins σ H s) (there : s.heap.get? ea = some oe) (hz : Zc cls d oe) (hd : oe.data = .fields vs) (na : H ea = none)
    (n0 : X.s_0.heap.get? ea = none) (nL : ea ≠ X.env.locals) (np : ∀ p ∈ X.pn ++ pins, p.1 ≠ ea) : L2.Inv X pins σ (upd H ea (HeldE cls d ea)) s := by
  have other : ∀ {b : Addr} {u : HO}, H b = some u → upd H ea (HeldE cls d ea) b = some u := fun {b u} q => by
    rw [upd_ne (ne_of_none q na)]
    exact q
  refine { ok := I.ok, os := I.os, bare := I.bare, base := ?_, loc := I.loc, cell := I.cell, free := ?_, freeC := fun y c q => ?_, pin := fun p hp => ?_, hok := fun b u q => ?_, len := I.len }
  · exact { keep := I.base.keep, slot := I.base.slot, there := I.base.there
            free := fun b u q n x => by
              rw [upd_ne (show b ≠ ea from fun z => by rw [z, n0] at q; cases q)]
              exact I.base.free b u q n x
            tups := fun b xs q => other (I.base.tups b xs q)
            frzs := fun b o u q => other (I.base.frzs b o u q)
            tbls := fun b ps q => by
              obtain ⟨more, q2⟩ := I.base.tbls b ps q
              exact ⟨more, other q2⟩ }
  · rw [upd_ne (Ne.symm nL)]
    exact I.free
  · obtain ⟨v, o, ho, hc⟩ := I.cell y c q
    rw [upd_ne (show c ≠ ea from fun z => by
      rw [z, there] at ho
      cases ho
      rw [hd] at hc
      cases hc)]
    exact I.freeC y c q
  · obtain ⟨h1, h2, h3⟩ := I.pin p hp
    exact ⟨h1, by rw [upd_ne (np p hp)]; exact h2, h3⟩
  · by_cases z : b = ea
    · subst z
      rw [upd_same] at q
      cases q
      exact ⟨⟨oe, vs, there, hz, hd⟩, ⟨oe, there⟩, fun _ _ ⟨o, v, q, r⟩ k => ⟨o, v, k o q, r⟩⟩
    · rw [upd_ne z] at q
      refine (I.hok b u q).stay (fun _ _ _ r => r) (fun c hc => other hc) (fun c xs hc => other hc)
end
/-- what 'except x as n' wishes where the error is held behind it: slot i is n's -/
def wAsV (K : PySem.W.Frag) (c : Value) (i : Nat) (ts : Addr → Value → Option Addr → TS) (Wout : WX) (D : Ends) : WX := fun cls d σ H =>
  ∃ b, PySem.W.exmOne K cls c = some b ∧ (b = true → ∀ ea, H ea = none → ts ea cls d { nx := fun σ' H' => H' ea = none → D.nx (σ'.set i none) (upd H' ea (HeldE cls d ea)), rt := fun _ _ => False, bk := fun _ _ => False, ct := fun _ _ => False } (σ.set i (some (.ref ea))) H) ∧
    (b = false → Wout cls d σ H)
section
variable {X : Cx} {x n : Str} {c : Value} {i : Nat} {body suite : List Stmt} {b₀ : Stmt} {np pos pos' : Pos} {tb : WX → TS} {ts : Addr → Value → Option Addr → TS} {Wout : WX}
theorem ps_try_asV (stk : X.stack = X.env :: X.outer) (frm : X.env.frame = some X.env.locals) (noex : X.ex = []) (nd : X.N.Nodup) (hi : X.N[i]? = some n) (hl : X.env.kindOf n = some .local) (nam : Names X x c) (tk : Takes X Wout)
    (bod : ∀ (W : WX) (pn : List (Addr × Obj)) (xe : Value → Shared → Prop), Takes (X.tr pn xe) W → PassesOwn (model X.prog X.w) X.A X.env xe → PSs (X.tr pn xe) body (tb W))
    (sui : ∀ (ea : Addr) (oe : Obj) (cls : Value) (d : Option Addr) (pn : List (Addr × Obj)), Zc cls d oe → (∃ vs, oe.data = .fields vs) → PSs (X.suite ea ((ea, oe) :: pn)) (b₀ :: suite) (ts ea cls d)) :
    PS X (.Try body [.ExceptHandler (some (.Name x np)) (some n) (b₀ :: suite) pos'] [] [] pos) (fun D σ H => tb (wAsV X.K c i ts Wout D) D σ H) := by
  refine ⟨fun pins s σ H D I h => ?_⟩
  have good := I.ok
  have afr : X.A.frames = some (X.env :: X.outer) := good.frames.trans (congrArg some stk)
  have nloc : Loc X.env.scope n := .inl hl
  refine wpAny_Try_except ?_
  refine wpAny_mono ((bod (wAsV X.K c i ts Wout D) (X.pn ++ pins) (fun er sa => wpAny (model X.prog X.w) X.A (noteFrame er X.env) (fun _ sb => wpAny (model X.prog X.w) X.A (setFlight er none) (fun _ sc =>
    wpAny (model X.prog X.w) X.A (handleBy er X.env [.ExceptHandler (some (.Name x np)) (some n) (b₀ :: suite) pos']) (SP X pins D) X.xe sc) X.xe sb) X.xe sa) (fun er sr air => ?_) PassesOwn.looking).run [] s σ H D (I.toTry _) h) (fun fl se hsp => ?_) (fun _ _ z => z)
  · obtain ⟨ea, B, sI, pins1, σ1, H1, cls, d, rfl, Jt, inB, up, sky, na, os, ag, b, hb1, yes, no⟩ := air
    have J : L2.Inv X pins σ1 H1 sI := Jt.ofTry good
    have sky1 : Sky B (X.env :: X.outer) ea (Zc cls d) X.env.locals sr.heap := stk ▸ sky
    show wpAny (model X.prog X.w) X.A (noteFrame (.ref ea) X.env) _ _ _
    refine Sky.land Zc.steady afr frm sky1 fun hA flA upA => ?_
    have JA : L2.Inv X pins σ1 H1 { sr with heap := hA } := J.landed inB flA.1 (up.trans upA) os ag
    obtain ⟨oA, vA, atA, zA, dA⟩ := flA.there
    have away : ea ∉ frs (X.env :: X.outer) := fun hm => by
      obtain ⟨_, o', e', hnf⟩ := flA.2.2.1.mem hm
      rw [atA] at e'
      cases e'
      exact hnf _ dA
    have nL : ea ≠ X.env.locals := fun z => away (List.mem_filterMap.mpr ⟨X.env, List.mem_cons_self, frm.trans (congrArg some z.symm)⟩)
    have nF : ea ∉ X.fs := fun hm => by
      obtain ⟨env', he', q⟩ := List.mem_filterMap.mp hm
      exact away (List.mem_filterMap.mpr ⟨env', List.mem_cons_of_mem _ he', q⟩)
    have nB : B.get? ea = none := flA.2.1
    have n0 : X.s_0.heap.get? ea = none := by
      cases q : X.s_0.heap.get? ea with
      | none => rfl
      | some o =>
        obtain ⟨o', q'⟩ := J.base.there ea o q (by rw [noex]; exact fun z => nomatch z)
        have := inB ea o' q' (by rw [stk]; exact away)
        rw [nB] at this
        cases this
    have npin : ∀ p ∈ X.pn ++ pins, p.1 ≠ ea := fun p hp z => by
      obtain ⟨h1, _, h3, h4, _⟩ := J.pin p hp
      have := inB p.1 p.2 h1 (fun hm => by
        rcases List.mem_cons.mp (J.stkSub p.1 hm) with y | y
        · exact h3 y
        · exact h4 y)
      rw [z, nB] at this
      cases this
    have SA := JA.suite atA dA na nL nF
    refine wpAny_handleBy_cons (codeAny_handlers_test ?_) (fun q => nomatch q)
    have ty : PySem.W.Looks (model X.prog X.w) hA (typeOf (.ref ea)) cls := fun A Q E s k q => wpAny_typeOf_ref (k _ _ atA) (by rw [zA.1]; exact q)
    have mch := PySem.W.exm_one (M := model X.prog X.w) (JA.kIn) ty hb1
    have ask : ∀ {Q : Value → Shared → Prop} {E : Value → Shared → Prop}, Q c { sr with heap := hA } → wpAny (model X.prog X.w) (X.A.mark (some (.ref ea))) (eval (.Name x np) X.env) Q E { sr with heap := hA } := fun {Q E} q => by
      obtain ⟨gl, dbg, hm | ⟨hm, hv, hnn⟩⟩ := nam
      · exact ld_glob (X := X.suite ea ((ea, oA) :: (X.pn ++ pins))) SA gl hm q dbg
      · exact ld_blt (X := X.suite ea ((ea, oA) :: (X.pn ++ pins))) SA gl hm hv q hnn dbg
    refine ask (mch.here ?_)
    cases b with
    | true =>
      refine codeAny_handlers_suite_as ?_
      refine HandSPX.lands_againZ flA fun hC flC upC => ?_
      have JC : L2.Inv X pins σ1 H1 { sr with heap := hC } := J.landed inB flC.1 ((up.trans upA).trans upC) os ag
      obtain ⟨oC, vC, atC, zC, dC⟩ := flC.there
      have SC := JC.suite atC dC na nL nF
      refine store_ok (X := X.suite ea ((ea, oC) :: (X.pn ++ pins))) (v := .ref ea) SC nd hi nloc rfl (fun s5 S5 => ?_) (.inr hl)
      refine wpAny_mono ((sui ea oC cls d (X.pn ++ pins) zC ⟨_, dC⟩).run [] s5 _ H1 _ S5 (yes rfl ea na)) (fun fl s6 hsp => ?_) (fun _ _ z => False.elim z)
      cases fl with
      | next =>
        obtain ⟨σ6, H6, S6, q6⟩ := hsp
        obtain ⟨at6, na6, _⟩ := S6.pin (ea, oC) (List.mem_append.mpr (.inl List.mem_cons_self))
        have J6 : L2.Inv X pins σ6 H6 s6 := S6.unsuite good
        exact gone_ok (adopt J6 at6 zC dC na6 n0 nL npin) nd hi hl fun s7 J7 => ⟨_, _, J7, q6 na6⟩
      | brk => exact (hsp.elim fun _ z => z.elim fun _ z => z.2.elim)
      | cont => exact (hsp.elim fun _ z => z.elim fun _ z => z.2.elim)
      | ret u => exact (hsp.elim fun _ z => z.elim fun _ z => z.elim fun _ z => z.2.2.elim)
    | false =>
      show wpAny _ X.A (handleBy (.ref ea) X.env []) _ _ _
      refine wpAny_handleBy_nil ?_
      obtain ⟨k1, k2, k3, oe, vs, T, oT, ts', he, hz, hd, h1, hr⟩ := id flA
      unfold PySem.passOn
      refine wpAny_bind (wpAny_field he hd h1 ?_)
      rw [if_neg (show ¬ ((Value.ref T == Value.none) = true) from by simp)]
      have out : wpAny (model X.prog X.w) X.A (setFlight (.ref ea) X.env.frame) (fun _ sd => wpAny (model X.prog X.w) X.A (throw (.ref ea) : Sem Flow) (SP X pins D) X.xe sd) X.xe { sr with heap := hA } := by
        rw [frm]
        refine HandSPX.setFlight_upZ flA fun hD heD upD => wpAny_throw (tk _ _ ?_)
        exact ⟨ea, B, sI, pins, σ1, H1, cls, d, rfl, J, inB, (up.trans upA).trans upD, .inr (.inr (by rw [stk]; exact heD)), na, os, ag, no rfl⟩
      first
        | exact wpAny_bind (wpAny_pure (wpAny_bind out))
        | exact wpAny_bind out
  · cases fl with
    | next =>
      obtain ⟨σ1, H1, J1, q⟩ := hsp
      exact wpAny_execs_nil ⟨σ1, H1, J1.ofTry good, q⟩
    | brk =>
      obtain ⟨σ1, H1, J1, q⟩ := hsp
      exact ⟨σ1, H1, J1.ofTry good, q⟩
    | cont =>
      obtain ⟨σ1, H1, J1, q⟩ := hsp
      exact ⟨σ1, H1, J1.ofTry good, q⟩
    | ret u =>
      obtain ⟨v, σ1, H1, J1, r, q⟩ := hsp
      exact ⟨v, σ1, H1, J1.ofTry good, r, q⟩
end
/-! ### what is asked of a held error -/
/-- isinstance(e, c), e a held error -/
def rIsH (K : PySem.W.Frag) : List V → Hp → VK → Prop := fun xs H Q => ∃ (ea D dd : Addr) (fs : List (Str × V)) (c : V) (cv : Value) (b : Bool), xs = [.ref ea, c] ∧ H ea = some (HeldE (.ref D) (some dd) ea) ∧ H dd = some (.xd fs) ∧ ExcC K D ∧
  (∀ u, RelV c u → u = cv) ∧ PySem.W.kitOne K (.ref D) cv = some b ∧ Q (.bl b) H
theorem kish {X : Cx} {K : PySem.W.Frag} (hK : X.K = K := by rfl) : CallR X (.builtin "isinstance") (rIsH K) := by
  subst hK
  intro pins s σ H xs us Q I r h
  obtain ⟨ea, D, dd, fs, c, cv, b, rfl, he, hd, C, hcv, e, q⟩ := h
  cases r with
  | cons rx rr =>
    cases rr with
    | cons rt rr =>
      cases rr
      cases rx
      have ec := hcv _ rt
      subst ec
      obtain ⟨oe, vs, there, hz, hv⟩ := heldE_at I.hok he
      have hx : ObjOk X.prog X.w H s.heap dd (.xd fs) := I.hok dd _ hd
      obtain ⟨mA, hns, _⟩ := hx
      obtain ⟨od, ho, _⟩ := lookIn_ns hns
      have J : PySem.W.InstAt s.heap ea oe D (some od) := ⟨there, hz.1, by unfold PySem.W.notCls; rw [hv] <;> rfl, by rw [hz.2]; exact ho⟩
      have hcl : (PySem.W.clsIn X.K D).isSome = true := by
        obtain ⟨cd, hc, _⟩ := PySem.W.any_some C.hd
        rw [hc]
        rfl
      exact PySem.W.kia_one (PySem.W.kitx_exc hcl C.hg C.hk C.hs C.ha C.hn C.ht C.hm) I.kIn J e (fun z => nomatch z) fun tk => ⟨.bl b, H, I.kept (t' := tk) fun _ _ z => z, rfl, q⟩
/-- e.f, e a held error -/
def tHf (K : PySem.W.Frag) (n : Str) (te : TE) : TE := fun σ H Q => te σ H fun x H1 => ∃ (ea C dd : Addr) (fs : List (Str × V)) (v : V), x = .ref ea ∧ H1 ea = some (HeldE (.ref C) (some dd) ea) ∧ XfC K C ∧ PySem.W.findIn K (.ref C) n = some none ∧
  H1 dd = some (.xd fs) ∧ fs.lookup n = some v ∧ Q v H1
theorem pe_hfld {X : Cx} {K : PySem.W.Frag} {e : Expr} {te : TE} {pos : Pos} {n : Str} (he : PE X e te) (hK : X.K = K := by rfl) (hb : attributeBase e n X.env (eval e X.env) = eval e X.env := by rfl) : PE X (.Attribute e n pos) (tHf K n te) := by
  subst hK
  refine ⟨fun pins s σ H Q I h => ?_⟩
  refine attr_of hb (thn (he.run pins s σ H _ I h) fun u s1 hh => ?_)
  obtain ⟨x, H1, I1, rx, ea, C, dd, fs, v, rfl, hh, T, hno, hd, l, q⟩ := hh
  obtain rfl : u = Value.ref ea := rx
  obtain ⟨oe, vs, there, hz, hv⟩ := heldE_at I1.hok hh
  have hx : ObjOk X.prog X.w H1 s1.heap dd (.xd fs) := I1.hok dd _ hd
  obtain ⟨mA, hns, hr⟩ := hx
  obtain ⟨od, ho, hl⟩ := lookIn_ns hns
  obtain ⟨u2, hu, ru⟩ := RelO.some_of (v := v) (o := mA n) (by rw [← l]; exact hr n)
  have J : PySem.W.InstAt s1.heap ea oe C (some od) := ⟨there, hz.1, by unfold PySem.W.notCls; rw [hv] <;> rfl, by rw [hz.2]; exact ho⟩
  exact HandSPX.exc_get I1.kIn J T.ga T.gg T.exC (PySem.W.findObj_own T.hdC hno rfl (by rw [hl, hu])) (handed_of ru) ⟨v, H1, I1.tok _, ru, q⟩
end Bk
set_option Elab.async false
set_option linter.all false
namespace Bk
open PySem PySem.Spec PyProof.Rows L2
/-- xs.count(y), flat items -/
def rCntF (K : PySem.W.Frag) : V → List V → Hp → VK → Prop := fun x xs H Q => ∃ (p : Addr) (ys : List V) (y : V), x = .ref p ∧ xs = [y] ∧ SqL K H p ys ∧ flatV y = true ∧ ys.all flatV = true ∧ Q (.int ((ys.countP fun z => eqV z y : Nat) : Int)) H
theorem countP_eqU {y : V} : ∀ {ys : List V} {us : List Value}, Vals ys us → ys.all flatV = true → us.countP (eqU y) = ys.countP fun z => eqV z y
  | _, _, .nil, _ => rfl
  | z :: ys, u :: us, .cons r t, f => by
    rw [List.all_cons, Bool.and_eq_true] at f
    rw [List.countP_cons, List.countP_cons, eqU_of r f.1, countP_eqU t f.2]
theorem mt_countF {X : Cx} {K : PySem.W.Frag} (hK : X.K = K := by rfl) : MtR X "list.count" (rCntF K) := by
  subst hK
  intro pins s σ H x xs v us Q I rx rxs h
  obtain ⟨p, ys, y, rfl, rfl, hs, fy, fys, q⟩ := h
  cases rx
  cases rxs with
  | cons ry rt =>
    rename_i uy ut
    cases rt
    obtain ⟨its, rv, ⟨⟨cls, dd, data, sl⟩, n, ho, hc, hdn, hd⟩, hlen⟩ := I.list hs
    simp only at hc hd
    subst hc hd
    refine call_meets PySem.F.slot_list_count ⟨_, ho, rfl⟩ PySem.F.entry_list_count (PySem.F.args_list_count_2 _ _) (SeqAt.list_countAt p its.toArray n dd sl uy (eqU y)) ⟨ho, fun u hu => mem_eqAt ry fy rv fys u (by simpa using hu), ?_⟩
    have ec : its.toArray.toList.countP (eqU y) = ys.countP fun z => eqV z y := countP_eqU rv fys
    refine ⟨.int ((ys.countP fun z => eqV z y : Nat) : Int), H, I.tok _, ⟨s.toks, ?_⟩, q⟩
    show Value.int ((its.toArray.toList.countP (eqU y) : Nat) : Int) s.toks = _
    rw [ec]
end Bk
set_option Elab.async false
set_option linter.all false
set_option maxRecDepth 100000
/-! Held errors, with a dict of their own or without; an error without own __init__. -/
namespace Bk
open PySem PySem.Spec PyProof.Rows L2
/-- what the written part says of an own error without own __init__ -/
structure TmF (K : PySem.W.Frag) (C CP CL CB : Addr) : Prop where
  e : ExcC K C
  q : PySem.W.excIn K C [.type "ValueError", .type "Exception", .type "BaseException", .type "object"] "ValueError.__new__" = true
  kC : PySem.W.keepIn K (.ref C) = true
  b : PySem.W.subIn K (.ref C) (.type "BaseException") = some true
  t : PySem.W.typeIn K (.ref C) = some (.type "type")
  tm : PySem.W.kitOne K (.ref C) (.ref C) = some true
  ve : PySem.W.kitOne K (.ref C) (.type "ValueError") = some true
  bp : PySem.W.kitOne K (.ref C) (.ref CP) = some false
  bl : PySem.W.kitOne K (.ref C) (.ref CL) = some false
  be : PySem.W.exmOne K (.ref C) (.ref CB) = some true
/-- isinstance(e, c), e a held error -/
def rIsH2 (K : PySem.W.Frag) : List V → Hp → VK → Prop := fun xs H Q => ∃ (ea D : Addr) (d : Option Addr) (c : V) (cv : Value) (b : Bool), xs = [.ref ea, c] ∧ H ea = some (HeldE (.ref D) d ea) ∧ (∀ dd, d = some dd → ∃ fs, H dd = some (.xd fs)) ∧ ExcC K D ∧
  (∀ u, RelV c u → u = cv) ∧ PySem.W.kitOne K (.ref D) cv = some b ∧ Q (.bl b) H
theorem kish2 {X : Cx} {K : PySem.W.Frag} (hK : X.K = K := by rfl) : CallR X (.builtin "isinstance") (rIsH2 K) := by
  subst hK
  intro pins s σ H xs us Q I r h
  obtain ⟨ea, D, d, c, cv, b, rfl, he, hd, C, hcv, e, q⟩ := h
  cases r with
  | cons rx rr =>
    cases rr with
    | cons rt rr =>
      cases rr
      cases rx
      have ec := hcv _ rt
      subst ec
      obtain ⟨oe, vs, there, hz, hv⟩ := heldE_at I.hok he
      have hcl : (PySem.W.clsIn X.K D).isSome = true := by
        obtain ⟨cd, hc, _⟩ := PySem.W.any_some C.hd
        rw [hc]
        rfl
      cases d with
      | none =>
        have J : PySem.W.InstAt s.heap ea oe D none := ⟨there, hz.1, by unfold PySem.W.notCls; rw [hv] <;> rfl, by rw [hz.2]; trivial⟩
        exact PySem.W.kia_one (PySem.W.kitx_exc hcl C.hg C.hk C.hs C.ha C.hn C.ht C.hm) I.kIn J e (fun z => nomatch z) fun tk => ⟨.bl b, H, I.kept (t' := tk) fun _ _ z => z, rfl, q⟩
      | some dd =>
        obtain ⟨fs, hd⟩ := hd dd rfl
        have hx : ObjOk X.prog X.w H s.heap dd (.xd fs) := I.hok dd _ hd
        obtain ⟨mA, hns, _⟩ := hx
        obtain ⟨od, ho, _⟩ := lookIn_ns hns
        have J : PySem.W.InstAt s.heap ea oe D (some od) := ⟨there, hz.1, by unfold PySem.W.notCls; rw [hv] <;> rfl, by rw [hz.2]; exact ho⟩
        exact PySem.W.kia_one (PySem.W.kitx_exc hcl C.hg C.hk C.hs C.ha C.hn C.ht C.hm) I.kIn J e (fun z => nomatch z) fun tk => ⟨.bl b, H, I.kept (t' := tk) fun _ _ z => z, rfl, q⟩
end Bk
set_option Elab.async false
set_option linter.all false
namespace Bk
open PySem PySem.Spec PyProof.Rows L2 LamX
/-! ### any value as a row -/
/-- a whole number that is none of True and False -/
def isNumV : V → Bool
  | .int _ => true
  | _ => false
def kinds : List String := ["NoneType", "bool", "int", "str", "list", "tuple", "dict"]
/-- a value of one of these kinds -/
def Kd (K : PySem.W.Frag) (H : Hp) (x : V) (n : String) : Prop := TyX K H x (.type n) ∧ n ∈ kinds ∧ isNumV x = decide (n = "int")
theorem kd_flat {K : PySem.W.Frag} {H : Hp} {x : V} (h : flatV x = true) : ∃ n, Kd K H x n ∧ n ≠ "list" := by
  cases x with
  | non => exact ⟨"NoneType", ⟨.base .non, by decide, by decide⟩, by decide⟩
  | bl b => exact ⟨"bool", ⟨.base (.bl b), by decide, (show false = decide (("bool" : String) = "int") by decide)⟩, by decide⟩
  | int i => exact ⟨"int", ⟨.base (.int i), by decide, (show true = decide (("int" : String) = "int") by decide)⟩, by decide⟩
  | str s => exact ⟨"str", ⟨.base (.str s), by decide, (show false = decide (("str" : String) = "int") by decide)⟩, by decide⟩
  | _ => exact absurd (show false = true from h) Bool.false_ne_true
theorem kd_list {K : PySem.W.Frag} {H : Hp} {a : Addr} {xs : List V} (h : H a = some (.lst xs)) : Kd K H (.ref a) "list" := ⟨.base (.lst h), by decide, (show false = decide (("list" : String) = "int") by decide)⟩
theorem kd_tup {K : PySem.W.Frag} {H : Hp} {a : Addr} {xs : List V} (h : H a = some (.tup xs)) : Kd K H (.ref a) "tuple" := ⟨.base (.tup h), by decide, (show false = decide (("tuple" : String) = "int") by decide)⟩
theorem kd_dict {K : PySem.W.Frag} {H : Hp} {a : Addr} {kvs : List (L2.Key × V)} (h : H a = some (.dK kvs)) : Kd K H (.ref a) "dict" := ⟨.base (.dK h), by decide, (show false = decide (("dict" : String) = "int") by decide)⟩
theorem kd_same {K : PySem.W.Frag} {H H' : Hp} {x : V} {n : String} (h : Kd K H x n) (e : Same H H') : Kd K H' x n := by
  obtain ⟨h1, h2⟩ := h
  refine ⟨?_, h2⟩
  cases h1 with
  | base h =>
    refine .base ?_
    cases h with
    | non => exact .non
    | bl b => exact .bl b
    | int i => exact .int i
    | str s => exact .str s
    | flt s => exact .flt s
    | lst h => exact .lst (e _ _ h)
    | frz h => exact .frz (e _ _ h)
    | tup h => exact .tup (e _ _ h)
    | dK h => exact .dK (e _ _ h)
    | dT h => exact .dT (e _ _ h)
  | byt b => exact .byt b
  | set h => exact .set (e _ _ h)
  | kList h c => exact .kList h c
  | kTuple h c => exact .kTuple h c
  | kDict h c => exact .kDict h c
  | fTuple h => exact .fTuple (e _ _ h)
  | fDict h => exact .fDict (e _ _ h)
/-- whether these are others than p out of m people, each once, behind those seen -/
def rowB (p m : Nat) : List Int → List V → Bool
  | _, [] => true
  | seen, x :: r => match x with
    | .int i => if i < 0 ∨ (m : Int) ≤ i then false else if i = (p : Int) ∨ i ∈ seen then false else rowB p m (i :: seen) r
    | _ => false
/-- what is_row says of a value, the row of p out of m -/
def RowIs (K : PySem.W.Frag) (H : Hp) (y : V) (p m : Nat) (b : Bool) : Prop :=
  (∃ (a : Addr) (xs : List V), y = .ref a ∧ H a = some (.lst xs) ∧ (∀ y ∈ xs, ∃ n, Kd K H y n) ∧ xs.length ≤ 1000 ∧ b = rowB p m [] xs) ∨ (∃ n, Kd K H y n ∧ n ≠ "list" ∧ b = false)
theorem RowIs.same {K : PySem.W.Frag} {H H' : Hp} {y : V} {p m : Nat} {b : Bool} (h : RowIs K H y p m b) (e : Same H H') : RowIs K H' y p m b := by
  rcases h with ⟨a, xs, h1, h2, h3, h4⟩ | ⟨n, h1, h2⟩
  · exact .inl ⟨a, xs, h1, e _ _ h2, fun y hy => by obtain ⟨k, z⟩ := h3 y hy; exact ⟨k, kd_same z e⟩, h4⟩
  · exact .inr ⟨n, kd_same h1 e, h2⟩
theorem rowB_good {p m : Nat} : ∀ {r : List Nat} {seen : List Int}, r.Nodup → (∀ x ∈ r, x < m ∧ x ≠ p) → (∀ x ∈ r, (x : Int) ∉ seen) → rowB p m seen (r.map nv) = true
  | [], _, _, _, _ => rfl
  | x :: r, seen, hd, h, hs => by
    obtain ⟨h1, h2⟩ := h x List.mem_cons_self
    have hd' := List.nodup_cons.mp hd
    show (if (x : Int) < 0 ∨ (m : Int) ≤ x then false else if (x : Int) = (p : Int) ∨ (x : Int) ∈ seen then false else rowB p m ((x : Int) :: seen) (r.map nv)) = true
    rw [if_neg (by omega), if_neg (fun z => by
      rcases z with z | z
      · omega
      · exact hs x List.mem_cons_self z)]
    refine rowB_good hd'.2 (fun y hy => h y (List.mem_cons_of_mem _ hy)) (fun y hy z => ?_)
    rcases List.mem_cons.mp z with z | z
    · have : y = x := by omega
      exact hd'.1 (this ▸ hy)
    · exact hs y (List.mem_cons_of_mem _ hy) z
/-- what a row that is one holds -/
theorem rowB_true {p m : Nat} : ∀ {xs : List V} {seen : List Int}, rowB p m seen xs = true → xs.Nodup ∧ ∀ x ∈ xs, ∃ k : Int, x = .int k ∧ 0 ≤ k ∧ k < m ∧ k ≠ p ∧ k ∉ seen
  | [], _, _ => ⟨List.nodup_nil, fun x hx => by simp at hx⟩
  | x :: r, seen, h => by
    cases x with
    | int i =>
      have h' : (if i < 0 ∨ (m : Int) ≤ i then false else if i = (p : Int) ∨ i ∈ seen then false else rowB p m (i :: seen) r) = true := h
      by_cases h1 : i < 0 ∨ (m : Int) ≤ i
      · rw [if_pos h1] at h'; cases h'
      rw [if_neg h1] at h'
      by_cases h2 : i = (p : Int) ∨ i ∈ seen
      · rw [if_pos h2] at h'; cases h'
      rw [if_neg h2] at h'
      obtain ⟨d, g⟩ := rowB_true h'
      refine ⟨List.nodup_cons.mpr ⟨fun z => ?_, d⟩, fun x hx => ?_⟩
      · obtain ⟨k, e, _, _, _, hk⟩ := g _ z
        cases e
        exact hk List.mem_cons_self
      · rcases List.mem_cons.mp hx with rfl | z
        · exact ⟨i, rfl, by omega, by omega, fun e => h2 (.inl e), fun e => h2 (.inr e)⟩
        · obtain ⟨k, e, a, b, c, hk⟩ := g _ z
          exact ⟨k, e, a, b, c, fun e => hk (List.mem_cons_of_mem _ e)⟩
    | _ => cases h
end Bk
set_option Elab.async false
set_option linter.all false
/-! Readings of displays and of lists put together, one by one. -/
namespace Bk
open PySem PySem.Spec PyProof.Rows L2 LamX
section
variable {σ : L2.St} {H : Hp}
theorem R_cons {ta : TE} {t : TA} {Q : List V → Hp → Prop} (h : ta σ H fun x H1 => t σ H1 fun xs H2 => Q (x :: xs) H2) : tCons ta t σ H Q := h
theorem R_nil {Q : List V → Hp → Prop} (h : Q [] H) : tNil σ H Q := h
theorem R_C {v : V} {Q : VK} (h : Q v H) : tC v σ H Q := h
theorem R_lst {t : TA} {Q : VK} (h : t σ H fun xs H1 => xs.length ≤ sizeLine ∧ ∀ p, H1 p = none → Q (.ref p) (upd H1 p (.lst xs))) : tLst t σ H Q := h
theorem R_asg {te : TE} {tg : TG} {D : L2.Ends} (h : te σ H fun v H1 => tg v σ H1 D.nx) : tAsg te tg D σ H := h
theorem R_catR {a : Addr} {xs : List V} {c : V} {te : TE} {i : Nat} {Q : VK} (hs : σ[i]? = some (some (.ref a))) (ha : H a = some (.lst xs)) (hl : xs.length ≤ 100) (hte : ∀ Q' : VK, Q' c H → te σ H Q')
    (h : ∀ H' q, Same H H' → H' q = some (.lst (xs ++ [c])) → H q = none → Q (.ref q) H') : tOp rCat (tVar i) (tLst (tCons te tNil)) σ H Q := by
  refine ⟨_, hs, ?_⟩
  refine hte _ ⟨(by decide : 1 ≤ sizeLine), fun p hp => ?_⟩
  refine ⟨a, p, xs, [c], rfl, rfl, by rw [upd_ne (ne_of_none ha hp)]; exact ha, upd_same, Nat.le_of_lt (small (n := xs.length + 1) (by omega)), fun q hq => ?_⟩
  have np : H q = none := (same_upd hp).free hq
  exact h _ q (same_upd2 (same_upd hp) np) upd_same np
theorem R_catL {a : Addr} {xs : List V} {c : V} {te : TE} {i : Nat} {Q : VK} (hs : σ[i]? = some (some (.ref a))) (ha : H a = some (.lst xs)) (hl : xs.length ≤ 100) (hte : ∀ Q' : VK, Q' c H → te σ H Q')
    (h : ∀ H' q, Same H H' → H' q = some (.lst (c :: xs)) → H q = none → Q (.ref q) H') : tOp rCat (tLst (tCons te tNil)) (tVar i) σ H Q := by
  refine hte _ ⟨(by decide : 1 ≤ sizeLine), fun p hp => ?_⟩
  refine ⟨_, hs, ?_⟩
  refine ⟨p, a, [c], xs, rfl, rfl, upd_same, by rw [upd_ne (ne_of_none ha hp)]; exact ha, (by rw [Nat.add_comm]; exact Nat.le_of_lt (small (n := xs.length + 1) (by omega))), fun q hq => ?_⟩
  have np : H q = none := (same_upd hp).free hq
  exact h _ q (same_upd2 (same_upd hp) np) upd_same np
theorem R_tl {K : PySem.W.Frag} {a : Addr} {xs : List V} {i : Nat} {Q : VK} (hs : σ[i]? = some (some (.ref a))) (ha : H a = some (.lst xs)) (h : ∀ H' q, Same H H' → H' q = some (.lst (xs.take 1)) → H q = none → Q (.ref q) H') :
    tSl (rSlL K) (tVar i) tNoPart (tPart (tC (.int 1))) σ H Q := by
  refine ⟨_, hs, ?_⟩
  refine ⟨1, rfl, a, xs, rfl, SqL.of ha, fun p hp => ?_⟩
  rw [show (1 : Int) = ((1 : Nat) : Int) from rfl, cutV_take]
  exact h _ p (same_upd hp) upd_same hp
theorem R_cat {a b : Addr} {xs ys : List V} {Q : VK} (ha : H a = some (.lst xs)) (hb : H b = some (.lst ys)) (hl : xs.length + ys.length ≤ 1000) (h : ∀ H' q, Same H H' → H' q = some (.lst (xs ++ ys)) → H q = none → Q (.ref q) H') : rCat (.ref a) (.ref b) H Q :=
  ⟨a, b, xs, ys, rfl, rfl, ha, hb, Nat.le_of_lt (small (by omega)), fun q hq => h _ q (same_upd hq) upd_same hq⟩
end
end Bk
set_option Elab.async false
set_option linter.all false
set_option maxRecDepth 100000
namespace K6
open PySem PySem.Spec PyProof.Rows L2 LamX Bk
def topS (i : Nat) : Stmt := PySem.Challenge.pw_bunkmates_k06_whole_few_people.main.body.getD i (.Pass ⟨0, 0, 0, 0⟩)
abbrev s_is_number : Stmt := topS 7
theorem sc_is_number : FnScope ["value"] ["value"] (defScope s_is_number) := ⟨rfl, rfl, rfl, by decide +kernel, rfl, by decide +kernel, by decide +kernel⟩
abbrev s_is_row : Stmt := topS 8
theorem sc_is_row : FnScope ["row", "person", "many", "seen", "other"] ["row", "person", "many"] (defScope s_is_row) := ⟨rfl, rfl, rfl, by decide +kernel, rfl, by decide +kernel, by decide +kernel⟩
abbrev s_check_lists : Stmt := topS 9
theorem sc_check_lists : FnScope ["lists", "person", "row"] ["lists"] (defScope s_check_lists) := ⟨rfl, rfl, rfl, by decide +kernel, rfl, by decide +kernel, by decide +kernel⟩
abbrev s_places_in : Stmt := topS 10
theorem sc_places_in : FnScope ["rows", "place", "other", "row"] ["rows"] (defScope s_places_in) := ⟨rfl, rfl, rfl, by decide +kernel, rfl, by decide +kernel, by decide +kernel⟩
abbrev s_mutual : Stmt := topS 11
theorem sc_mutual : FnScope ["lists", "places", "other", "person", "row"] ["lists"] (defScope s_mutual) := ⟨rfl, rfl, rfl, by decide +kernel, rfl, by decide +kernel, by decide +kernel⟩
abbrev s_cut_behind : Stmt := topS 13
theorem sc_cut_behind : FnScope ["rows", "person", "kept", "row", "left", "gone", "other"] ["rows", "person", "kept"] (defScope s_cut_behind) := ⟨rfl, rfl, rfl, by decide +kernel, rfl, by decide +kernel, by decide +kernel⟩
abbrev s_offered : Stmt := topS 14
theorem sc_offered : FnScope ["lists", "rows", "held", "waiting", "person", "best"] ["lists"] (defScope s_offered) := ⟨rfl, rfl, rfl, by decide +kernel, rfl, by decide +kernel, by decide +kernel⟩
abbrev s_would_rather : Stmt := topS 16
theorem sc_would_rather : FnScope ["places", "other", "mate"] ["places", "other", "mate"] (defScope s_would_rather) := ⟨rfl, rfl, rfl, by decide +kernel, rfl, by decide +kernel, by decide +kernel⟩
abbrev s_spoiling : Stmt := topS 17
theorem sc_spoiling : FnScope ["rows", "mates", "places", "one", "row", "other"] ["rows", "mates"] (defScope s_spoiling) := ⟨rfl, rfl, rfl, by decide +kernel, rfl, by decide +kernel, by decide +kernel⟩
abbrev s_with_mate : Stmt := topS 20
theorem sc_with_mate : FnScope ["pairing", "person", "row", "told", "mate", "wider"] ["pairing", "person", "row"] (defScope s_with_mate) := ⟨rfl, rfl, rfl, by decide +kernel, rfl, by decide +kernel, by decide +kernel⟩
abbrev s_pairings_in : Stmt := topS 21
theorem sc_pairings_in : FnScope ["rows", "told", "person", "row", "pairing", "wider"] ["rows"] (defScope s_pairings_in) := ⟨rfl, rfl, rfl, by decide +kernel, rfl, by decide +kernel, by decide +kernel⟩
abbrev s_all_good : Stmt := topS 22
theorem sc_all_good : FnScope ["lists", "rows", "pairing"] ["lists"] (defScope s_all_good) := ⟨rfl, rfl, rfl, by decide +kernel, rfl, by decide +kernel, by decide +kernel⟩
abbrev s_next_in_ring : Stmt := topS 24
theorem sc_next_in_ring : FnScope ["rows", "person", "second"] ["rows", "person"] (defScope s_next_in_ring) := ⟨rfl, rfl, rfl, by decide +kernel, rfl, by decide +kernel, by decide +kernel⟩
abbrev s_ring_from : Stmt := topS 25
theorem sc_ring_from : FnScope ["rows", "start", "walk", "person", "people", "least", "each"] ["rows", "start"] (defScope s_ring_from) := ⟨rfl, rfl, rfl, by decide +kernel, rfl, by decide +kernel, by decide +kernel⟩
abbrev s_part : Stmt := topS 26
theorem sc_part : FnScope ["rows", "one", "other"] ["rows", "one", "other"] (defScope s_part) := ⟨rfl, rfl, rfl, by decide +kernel, rfl, by decide +kernel, by decide +kernel⟩
abbrev s_taken_out : Stmt := topS 27
theorem sc_taken_out : FnScope ["rows", "ring", "behind", "row", "ahead", "_", "person", "best", "other"] ["rows", "ring"] (defScope s_taken_out) := ⟨rfl, rfl, rfl, by decide +kernel, rfl, by decide +kernel, by decide +kernel⟩
abbrev s_is_emptied : Stmt := topS 28
theorem sc_is_emptied : FnScope ["rows", "behind", "row", "left"] ["rows", "behind"] (defScope s_is_emptied) := ⟨rfl, rfl, rfl, by decide +kernel, rfl, by decide +kernel, by decide +kernel⟩
abbrev s_rings_out : Stmt := topS 29
theorem sc_rings_out : FnScope ["lists", "rows", "told", "many", "person", "ring", "behind"] ["lists"] (defScope s_rings_out) := ⟨rfl, rfl, rfl, by decide +kernel, rfl, by decide +kernel, by decide +kernel⟩
abbrev s_last_rows : Stmt := topS 30
theorem sc_last_rows : FnScope ["lists", "told", "_", "rows"] ["lists"] (defScope s_last_rows) := ⟨rfl, rfl, rfl, by decide +kernel, rfl, by decide +kernel, by decide +kernel⟩
abbrev s_half_pairing : Stmt := topS 32
theorem sc_half_pairing : FnScope ["lists", "row"] ["lists"] (defScope s_half_pairing) := ⟨rfl, rfl, rfl, by decide +kernel, rfl, by decide +kernel, by decide +kernel⟩
abbrev s_ring_of : Stmt := topS 34
theorem sc_ring_of : FnScope ["half", "first", "ring", "person"] ["half", "first"] (defScope s_ring_of) := ⟨rfl, rfl, rfl, by decide +kernel, rfl, by decide +kernel, by decide +kernel⟩
abbrev s_odd_rings_in : Stmt := topS 35
theorem sc_odd_rings_in : FnScope ["half", "rings", "person", "other", "ring"] ["half"] (defScope s_odd_rings_in) := ⟨rfl, rfl, rfl, by decide +kernel, rfl, by decide +kernel, by decide +kernel⟩
abbrev s_paired : Stmt := topS 36
theorem sc_paired : FnScope ["lists", "half"] ["lists"] (defScope s_paired) := ⟨rfl, rfl, rfl, by decide +kernel, rfl, by decide +kernel, by decide +kernel⟩
abbrev s_odd_rings : Stmt := topS 37
theorem sc_odd_rings : FnScope ["lists"] ["lists"] (defScope s_odd_rings) := ⟨rfl, rfl, rfl, by decide +kernel, rfl, by decide +kernel, by decide +kernel⟩
abbrev s_alone : Stmt := topS 38
theorem sc_alone : FnScope ["lists", "person", "other"] ["lists"] (defScope s_alone) := ⟨rfl, rfl, rfl, by decide +kernel, rfl, by decide +kernel, by decide +kernel⟩
abbrev s__law_mixed : Stmt := topS 40
theorem sc__law_mixed : FnScope ["_law_number", "_law_k"] ["_law_number", "_law_k"] (defScope s__law_mixed) := ⟨rfl, rfl, rfl, by decide +kernel, rfl, by decide +kernel, by decide +kernel⟩
abbrev s__law_lists : Stmt := topS 41
theorem sc__law_lists : FnScope ["_law_script", "_law_most", "_law_first", "_law_many", "_law_rows", "_law_person", "_law_others", "_law_k", "_law_cell", "_law_number", "_law_one", "_law_other"] ["_law_script", "_law_most"] (defScope s__law_lists) := ⟨rfl, rfl, rfl, by decide +kernel, rfl, by decide +kernel, by decide +kernel⟩
abbrev s__law_set : Stmt := topS 42
theorem sc__law_set : FnScope ["_law_rows", "_law_one", "_law_other", "_law_number", "_law_row", "_law_person", "_law_at"] ["_law_rows", "_law_one", "_law_other", "_law_number"] (defScope s__law_set) := ⟨rfl, rfl, rfl, by decide +kernel, rfl, by decide +kernel, by decide +kernel⟩
abbrev s__law_mutual : Stmt := topS 43
theorem sc__law_mutual : FnScope ["_law_rows", "_law_found", "_law_person", "_law_one"] ["_law_rows"] (defScope s__law_mutual) := ⟨rfl, rfl, rfl, by decide +kernel, rfl, by decide +kernel, by decide +kernel⟩
abbrev s__law_better : Stmt := topS 44
theorem sc__law_better : FnScope ["_law_row", "_law_one", "_law_other", "_law_person"] ["_law_row", "_law_one", "_law_other"] (defScope s__law_better) := ⟨rfl, rfl, rfl, by decide +kernel, rfl, by decide +kernel, by decide +kernel⟩
abbrev s__law_spoilers : Stmt := topS 45
theorem sc__law_spoilers : FnScope ["_law_rows", "_law_pairing", "_law_found", "_law_one", "_law_other"] ["_law_rows", "_law_pairing"] (defScope s__law_spoilers) := ⟨rfl, rfl, rfl, by decide +kernel, rfl, by decide +kernel, by decide +kernel⟩
abbrev s__law_pairings : Stmt := topS 46
theorem sc__law_pairings : FnScope ["_law_rows", "_law_done", "_law_person", "_law_found", "_law_mate"] ["_law_rows", "_law_done"] (defScope s__law_pairings) := ⟨rfl, rfl, rfl, by decide +kernel, rfl, by decide +kernel, by decide +kernel⟩
abbrev s__law_refused : Stmt := topS 47
theorem sc__law_refused : FnScope ["_law_lists_here", "_law_refused_here", "e", "_law_kinds"] ["_law_lists_here"] (defScope s__law_refused) := ⟨rfl, rfl, rfl, by decide +kernel, rfl, by decide +kernel, by decide +kernel⟩
abbrev s_law : Stmt := topS 48
theorem sc_law : FnScope ["_law_script", "_law_lists_here", "_law_rows", "_law_due", "_law_pairing", "_law_handed", "_law_row", "_law_found", "_law_told", "_law_rings", "_law_lonely", "_law_person", "_law_more", "_law_k"] ["_law_script"] (defScope s_law) := ⟨rfl, rfl, rfl, by decide +kernel, rfl, by decide +kernel, by decide +kernel⟩
/-- how isinstance answers for an error of the class C -/
structure KitF (K : PySem.W.Frag) (C CM CP CL CB : Addr) (isP isL : Bool) : Prop where
  e : ExcC K C
  x : XfC K C
  no : PySem.W.findIn K (.ref C) "at" = some none
  tm : PySem.W.kitOne K (.ref C) (.ref CM) = some false
  ve : PySem.W.kitOne K (.ref C) (.type "ValueError") = some true
  bp : PySem.W.kitOne K (.ref C) (.ref CP) = some isP
  bl : PySem.W.kitOne K (.ref C) (.ref CL) = some isL
  be : PySem.W.exmOne K (.ref C) (.ref CB) = some true
/-- what the top has left -/
structure Txt (P : Program) (K : PySem.W.Frag) (mg : Str → Option Value) where
  a_is_number : Addr
  fd_is_number : FuncData
  F_is_number : Fun K "is_number" "is_number" s_is_number a_is_number fd_is_number
  b_is_number : Binds K fd_is_number ["value"] []
  g_is_number : mg "is_number" = some (.ref a_is_number)
  a_is_row : Addr
  fd_is_row : FuncData
  F_is_row : Fun K "is_row" "is_row" s_is_row a_is_row fd_is_row
  b_is_row : Binds K fd_is_row ["row", "person", "many"] []
  g_is_row : mg "is_row" = some (.ref a_is_row)
  a_check_lists : Addr
  fd_check_lists : FuncData
  F_check_lists : Fun K "check_lists" "check_lists" s_check_lists a_check_lists fd_check_lists
  b_check_lists : Binds K fd_check_lists ["lists"] []
  g_check_lists : mg "check_lists" = some (.ref a_check_lists)
  a_places_in : Addr
  fd_places_in : FuncData
  F_places_in : Fun K "places_in" "places_in" s_places_in a_places_in fd_places_in
  b_places_in : Binds K fd_places_in ["rows"] []
  g_places_in : mg "places_in" = some (.ref a_places_in)
  a_mutual : Addr
  fd_mutual : FuncData
  F_mutual : Fun K "mutual" "mutual" s_mutual a_mutual fd_mutual
  b_mutual : Binds K fd_mutual ["lists"] []
  g_mutual : mg "mutual" = some (.ref a_mutual)
  a_cut_behind : Addr
  fd_cut_behind : FuncData
  F_cut_behind : Fun K "cut_behind" "cut_behind" s_cut_behind a_cut_behind fd_cut_behind
  b_cut_behind : Binds K fd_cut_behind ["rows", "person", "kept"] []
  g_cut_behind : mg "cut_behind" = some (.ref a_cut_behind)
  a_offered : Addr
  fd_offered : FuncData
  F_offered : Fun K "offered" "offered" s_offered a_offered fd_offered
  b_offered : Binds K fd_offered ["lists"] []
  g_offered : mg "offered" = some (.ref a_offered)
  a_would_rather : Addr
  fd_would_rather : FuncData
  F_would_rather : Fun K "would_rather" "would_rather" s_would_rather a_would_rather fd_would_rather
  b_would_rather : Binds K fd_would_rather ["places", "other", "mate"] []
  g_would_rather : mg "would_rather" = some (.ref a_would_rather)
  a_spoiling : Addr
  fd_spoiling : FuncData
  F_spoiling : Fun K "spoiling" "spoiling" s_spoiling a_spoiling fd_spoiling
  b_spoiling : Binds K fd_spoiling ["rows", "mates"] []
  g_spoiling : mg "spoiling" = some (.ref a_spoiling)
  a_with_mate : Addr
  fd_with_mate : FuncData
  F_with_mate : Fun K "with_mate" "with_mate" s_with_mate a_with_mate fd_with_mate
  b_with_mate : Binds K fd_with_mate ["pairing", "person", "row"] []
  g_with_mate : mg "with_mate" = some (.ref a_with_mate)
  a_pairings_in : Addr
  fd_pairings_in : FuncData
  F_pairings_in : Fun K "pairings_in" "pairings_in" s_pairings_in a_pairings_in fd_pairings_in
  b_pairings_in : Binds K fd_pairings_in ["rows"] []
  g_pairings_in : mg "pairings_in" = some (.ref a_pairings_in)
  a_all_good : Addr
  fd_all_good : FuncData
  F_all_good : Fun K "all_good" "all_good" s_all_good a_all_good fd_all_good
  b_all_good : Binds K fd_all_good ["lists"] []
  g_all_good : mg "all_good" = some (.ref a_all_good)
  a_next_in_ring : Addr
  fd_next_in_ring : FuncData
  F_next_in_ring : Fun K "next_in_ring" "next_in_ring" s_next_in_ring a_next_in_ring fd_next_in_ring
  b_next_in_ring : Binds K fd_next_in_ring ["rows", "person"] []
  g_next_in_ring : mg "next_in_ring" = some (.ref a_next_in_ring)
  a_ring_from : Addr
  fd_ring_from : FuncData
  F_ring_from : Fun K "ring_from" "ring_from" s_ring_from a_ring_from fd_ring_from
  b_ring_from : Binds K fd_ring_from ["rows", "start"] []
  g_ring_from : mg "ring_from" = some (.ref a_ring_from)
  a_part : Addr
  fd_part : FuncData
  F_part : Fun K "part" "part" s_part a_part fd_part
  b_part : Binds K fd_part ["rows", "one", "other"] []
  g_part : mg "part" = some (.ref a_part)
  a_taken_out : Addr
  fd_taken_out : FuncData
  F_taken_out : Fun K "taken_out" "taken_out" s_taken_out a_taken_out fd_taken_out
  b_taken_out : Binds K fd_taken_out ["rows", "ring"] []
  g_taken_out : mg "taken_out" = some (.ref a_taken_out)
  a_is_emptied : Addr
  fd_is_emptied : FuncData
  F_is_emptied : Fun K "is_emptied" "is_emptied" s_is_emptied a_is_emptied fd_is_emptied
  b_is_emptied : Binds K fd_is_emptied ["rows", "behind"] []
  g_is_emptied : mg "is_emptied" = some (.ref a_is_emptied)
  a_rings_out : Addr
  fd_rings_out : FuncData
  F_rings_out : Fun K "rings_out" "rings_out" s_rings_out a_rings_out fd_rings_out
  b_rings_out : Binds K fd_rings_out ["lists"] []
  g_rings_out : mg "rings_out" = some (.ref a_rings_out)
  a_last_rows : Addr
  fd_last_rows : FuncData
  F_last_rows : Fun K "last_rows" "last_rows" s_last_rows a_last_rows fd_last_rows
  b_last_rows : Binds K fd_last_rows ["lists"] []
  g_last_rows : mg "last_rows" = some (.ref a_last_rows)
  a_half_pairing : Addr
  fd_half_pairing : FuncData
  F_half_pairing : Fun K "half_pairing" "half_pairing" s_half_pairing a_half_pairing fd_half_pairing
  b_half_pairing : Binds K fd_half_pairing ["lists"] []
  g_half_pairing : mg "half_pairing" = some (.ref a_half_pairing)
  a_ring_of : Addr
  fd_ring_of : FuncData
  F_ring_of : Fun K "ring_of" "ring_of" s_ring_of a_ring_of fd_ring_of
  b_ring_of : Binds K fd_ring_of ["half", "first"] []
  g_ring_of : mg "ring_of" = some (.ref a_ring_of)
  a_odd_rings_in : Addr
  fd_odd_rings_in : FuncData
  F_odd_rings_in : Fun K "odd_rings_in" "odd_rings_in" s_odd_rings_in a_odd_rings_in fd_odd_rings_in
  b_odd_rings_in : Binds K fd_odd_rings_in ["half"] []
  g_odd_rings_in : mg "odd_rings_in" = some (.ref a_odd_rings_in)
  a_paired : Addr
  fd_paired : FuncData
  F_paired : Fun K "paired" "paired" s_paired a_paired fd_paired
  b_paired : Binds K fd_paired ["lists"] []
  g_paired : mg "paired" = some (.ref a_paired)
  a_odd_rings : Addr
  fd_odd_rings : FuncData
  F_odd_rings : Fun K "odd_rings" "odd_rings" s_odd_rings a_odd_rings fd_odd_rings
  b_odd_rings : Binds K fd_odd_rings ["lists"] []
  g_odd_rings : mg "odd_rings" = some (.ref a_odd_rings)
  a_alone : Addr
  fd_alone : FuncData
  F_alone : Fun K "alone" "alone" s_alone a_alone fd_alone
  b_alone : Binds K fd_alone ["lists"] []
  g_alone : mg "alone" = some (.ref a_alone)
  a__law_mixed : Addr
  fd__law_mixed : FuncData
  F__law_mixed : Fun K "_law_mixed" "_law_mixed" s__law_mixed a__law_mixed fd__law_mixed
  b__law_mixed : Binds K fd__law_mixed ["_law_number", "_law_k"] []
  g__law_mixed : mg "_law_mixed" = some (.ref a__law_mixed)
  a__law_lists : Addr
  fd__law_lists : FuncData
  F__law_lists : Fun K "_law_lists" "_law_lists" s__law_lists a__law_lists fd__law_lists
  b__law_lists : Binds K fd__law_lists ["_law_script", "_law_most"] []
  g__law_lists : mg "_law_lists" = some (.ref a__law_lists)
  a__law_set : Addr
  fd__law_set : FuncData
  F__law_set : Fun K "_law_set" "_law_set" s__law_set a__law_set fd__law_set
  b__law_set : Binds K fd__law_set ["_law_rows", "_law_one", "_law_other", "_law_number"] []
  g__law_set : mg "_law_set" = some (.ref a__law_set)
  a__law_mutual : Addr
  fd__law_mutual : FuncData
  F__law_mutual : Fun K "_law_mutual" "_law_mutual" s__law_mutual a__law_mutual fd__law_mutual
  b__law_mutual : Binds K fd__law_mutual ["_law_rows"] []
  g__law_mutual : mg "_law_mutual" = some (.ref a__law_mutual)
  a__law_better : Addr
  fd__law_better : FuncData
  F__law_better : Fun K "_law_better" "_law_better" s__law_better a__law_better fd__law_better
  b__law_better : Binds K fd__law_better ["_law_row", "_law_one", "_law_other"] []
  g__law_better : mg "_law_better" = some (.ref a__law_better)
  a__law_spoilers : Addr
  fd__law_spoilers : FuncData
  F__law_spoilers : Fun K "_law_spoilers" "_law_spoilers" s__law_spoilers a__law_spoilers fd__law_spoilers
  b__law_spoilers : Binds K fd__law_spoilers ["_law_rows", "_law_pairing"] []
  g__law_spoilers : mg "_law_spoilers" = some (.ref a__law_spoilers)
  a__law_pairings : Addr
  fd__law_pairings : FuncData
  F__law_pairings : Fun K "_law_pairings" "_law_pairings" s__law_pairings a__law_pairings fd__law_pairings
  b__law_pairings : Binds K fd__law_pairings ["_law_rows", "_law_done"] []
  g__law_pairings : mg "_law_pairings" = some (.ref a__law_pairings)
  a__law_refused : Addr
  fd__law_refused : FuncData
  F__law_refused : Fun K "_law_refused" "_law_refused" s__law_refused a__law_refused fd__law_refused
  b__law_refused : Binds K fd__law_refused ["_law_lists_here"] []
  g__law_refused : mg "_law_refused" = some (.ref a__law_refused)
  a_law : Addr
  fd_law : FuncData
  F_law : Fun K "law" "law" s_law a_law fd_law
  b_law : Binds K fd_law ["_law_script"] []
  g_law : mg "law" = some (.ref a_law)
  m_ValueError : mg "ValueError" = none
  m_any : mg "any" = none
  m_bool : mg "bool" = none
  m_enumerate : mg "enumerate" = none
  m_int : mg "int" = none
  m_isinstance : mg "isinstance" = none
  m_len : mg "len" = none
  m_list : mg "list" = none
  m_min : mg "min" = none
  m_range : mg "range" = none
  m_set : mg "set" = none
  m_sorted : mg "sorted" = none
  m_zip : mg "zip" = none
  C_BunkError : Addr
  g_BunkError : mg "BunkError" = some (.ref C_BunkError)
  C_TooMany : Addr
  g_TooMany : mg "TooMany" = some (.ref C_TooMany)
  C_BadLists : Addr
  g_BadLists : mg "BadLists" = some (.ref C_BadLists)
  C_BadPairing : Addr
  g_BadPairing : mg "BadPairing" = some (.ref C_BadPairing)
  f_BadLists : Addr
  E_BadLists : ErrTxt P K mg "BadLists" "BadLists.__init__" "no lists, at " C_BadLists f_BadLists
  k_BadLists : KitF K C_BadLists C_TooMany C_BadPairing C_BadLists C_BunkError false true
  f_BadPairing : Addr
  E_BadPairing : ErrTxt P K mg "BadPairing" "BadPairing.__init__" "no pairing, at " C_BadPairing f_BadPairing
  k_BadPairing : KitF K C_BadPairing C_TooMany C_BadPairing C_BadLists C_BunkError true false
  k_TooMany : TmF K C_TooMany C_BadPairing C_BadLists C_BunkError
  mostT : Tok
  mostG : mg "MOST_PEOPLE" = some (.int 60 mostT)
  mostST : Tok
  mostSG : mg "MOST_SEARCHED" = some (.int 10 mostST)
end K6
namespace K6g
end K6g
set_option Elab.async false
set_option linter.all false
set_option maxRecDepth 100000
set_option maxHeartbeats 4000000
namespace K6
open K6g PySem PySem.Spec PyProof.Rows L2 LamX Bk
section
variable {P : Program} {w : World} {K : PySem.W.Frag} {mg : Str → Option Value} {base : Heap}

def sp_is_number (K : PySem.W.Frag) : Sp := fun vs H Q _ => ∃ (x : V) (n : String), vs = [x] ∧ Kd K H x n ∧ Q (.bl (isNumV x)) H
theorem kit_kinds (t : String) (ht : t = "int" ∨ t = "bool" ∨ t = "list" ∨ t = "tuple") : ∀ n ∈ kinds, kitB n t = some (decide (n = t ∨ (n = "bool" ∧ t = "int"))) := by
  rcases ht with rfl | rfl | rfl | rfl <;> decide +kernel
theorem ok_is_number (T : Txt P K mg) : FnOk P w K mg base CX0 1 T.a_is_number T.fd_is_number ["value"] (sp_is_number K) := by
  refine T.F_is_number.ok sc_is_number (fun vs H Q E h => ?_) (fun cdv A outer s H vs Q E hr h => ?_)
  · obtain ⟨x, n, rfl, _⟩ := h
    rfl
  · obtain ⟨x, n, rfl, ⟨hk, hm, hn⟩, q⟩ := h
    refine ⟨_, (pss_one (ps_ret (pe_and (pe_callB (kisi (K := K)) (by rfl) T.m_isinstance (by decide +kernel) (pa_cons (pv 0) (pa_cons (pe_bltn (v := .ty "int") (by rfl) T.m_int (by decide +kernel) rfl) pa_nil))) (pe_one (pe_not (pe_callB (kisi (K := K)) (by rfl) T.m_isinstance (by decide +kernel) (pa_cons (pv 0) (pa_cons (pe_bltn (v := .ty "bool") (by rfl) T.m_bool (by decide +kernel) rfl) pa_nil)))))))), ?_⟩
    rw [hn] at q
    simp only [tRaiseErr, tMkErr, tCallS, WE, tLenSetI, cx_K, cx_w, wipe, Int.zero_add, Bool.false_eq_true, if_false, if_true, Bool.not_true, Bool.not_false, tSeq, tAsg, tOp, tVar, tC, tRet, tRetN, tNext, tDrop, tIfS, tB, tTest, tIf, tAnd, tOr, tNot, tAndV, tOrV, tNotV, tUn, tCons, tNil, tCall, tCB, tBM, tBM0, tNoPart, tPart, tSl, tCont, tNever, tTup, tLst, gName, gNil, gCons, gTup, gSub, rI, rI0, rU, rEq, rNe, rIxL, rSlL, rSetL, rLn, rLs, rTs, rIn, rSet0, tSAdd, rSAdd, rSIn, rSNotIn, rRep, rCat, rAppend, rPop, rPopAt, iList, iRng1, iRng2, iEnum, gTup, tIsN, tNotN, tTru, tLstRg, tRg1, tRg2, L2.start, List.map_cons, List.map_nil, List.length_cons, List.length_nil, List.replicate, List.cons_append, List.nil_append, List.getElem?_cons_zero, List.getElem?_cons_succ, List.set_cons_zero, List.set_cons_succ, Option.some.injEq, exists_eq_left', V.int.injEq, V.ref.injEq, V.bl.injEq, List.cons.injEq, exists_and_left, exists_and_right, and_true, true_and, exists_eq_left, exists_eq, Nat.reduceAdd, Nat.reduceSub]
    refine isi hk (kit_kinds "int" (.inl rfl) n hm) ⟨_, rfl, ?_⟩
    by_cases h1 : n = "int"
    · subst h1
      refine iteT (isi hk (kit_kinds "bool" (.inr (.inl rfl)) _ hm) ⟨_, rfl, ?_⟩)
      exact q
    · by_cases h2 : n = "bool"
      · subst h2
        refine iteT (isi hk (kit_kinds "bool" (.inr (.inl rfl)) _ hm) ⟨_, rfl, ?_⟩)
        exact q
      · rw [show decide (n = "int" ∨ (n = "bool" ∧ ("int" : String) = "int")) = false from decide_eq_false (by rintro (z | z); exact h1 z; exact h2 z.1)]
        refine iteF ?_
        rw [decide_eq_false h1] at q
        exact q
/-- any value as a row -/
def sp_is_row (K : PySem.W.Frag) : Sp := fun vs H Q _ => ∃ (x : V) (p m : Nat), vs = [x, nv p, nv m] ∧
  ((∃ (a : Addr) (xs : List V), x = .ref a ∧ H a = some (.lst xs) ∧ (∀ y ∈ xs, ∃ n, Kd K H y n) ∧ xs.length ≤ 1000 ∧ ∀ H', Same H H' → Q (.bl (rowB p m [] xs)) H') ∨
    (∃ n, Kd K H x n ∧ n ≠ "list" ∧ Q (.bl false) H))
theorem ok_is_row (T : Txt P K mg) : FnOk P w K mg base CX0 2 T.a_is_row T.fd_is_row ["row", "person", "many"] (sp_is_row K) := by
  have G_is_number : FnOk P w K mg base CX0 1 T.a_is_number T.fd_is_number ["value"] (sp_is_number K) := ok_is_number T
  refine T.F_is_row.ok sc_is_row (fun vs H Q E h => ?_) (fun cdv A outer s H vs Q E hr h => ?_)
  · obtain ⟨x, p, m, rfl, _⟩ := h
    rfl
  · obtain ⟨x, p, m, rfl, h⟩ := h
    refine ⟨_, (pss_cons (ps_if (pt_not (pt_val (pe_callB (kisi (K := K)) (by rfl) T.m_isinstance (by decide +kernel) (pa_cons (pv 0) (pa_cons (pe_bltn (v := .ty "list") (by rfl) T.m_list (by decide +kernel) rfl) pa_nil))))) (pss_one (ps_ret pe_bl)) pss_nil)
      (C8.pss_cut (ps_set (i := 3) sc_is_row.nd rfl (.inl rfl) (pe_callTy0 cr_set0 (by rfl) T.m_set (by decide +kernel)))
      (C8.pss_cut (ps_for PassesOwn.never rfl (kpi_list (K := K) (pv 0)) (pg_name (i := 4) sc_is_row.nd rfl (.inl rfl)) (pss_cons (ps_if (PW.pt (pw_or (pt_not (pt_val (pe_call G_is_number (hr.mono (by decide)) (by rfl) T.g_is_number T.F_is_number.kp T.b_is_number .nil pass0 (pa_cons (pv 4) pa_nil)))) (pw_or (pt_cmpR op_lt (pv 4) pe_int (nomark _)) (pw_or1 (pt_cmpR op_ge (pv 4) (pv 2) (nomark _)))))) (pss_one (ps_ret pe_bl)) pss_nil)
      (pss_cons (ps_if (PW.pt (pw_or (pt_cmpR op_eq (pv 4) (pv 1) (nomark _)) (pw_or1 (pt_cmpR or_sin (pv 4) (pv 3) rfl)))) (pss_one (ps_ret pe_bl)) pss_nil)
      (pss_one (ps_expr (pe_sadd (pv 3) (pa_cons (pv 4) pa_nil)))))))
      (pss_one (ps_ret pe_bl))))), ?_⟩
    simp only [tRaiseErr, tMkErr, tCallS, WE, tLenSetI, cx_K, cx_w, wipe, Int.zero_add, Bool.false_eq_true, if_false, if_true, Bool.not_true, Bool.not_false, tSeq, tAsg, tOp, tVar, tC, tRet, tRetN, tNext, tDrop, tIfS, tB, tTest, tIf, tAnd, tOr, tNot, tAndV, tOrV, tNotV, tUn, tCons, tNil, tCall, tCB, tBM, tBM0, tNoPart, tPart, tSl, tCont, tNever, tTup, tLst, gName, gNil, gCons, gTup, gSub, rI, rI0, rU, rEq, rNe, rIxL, rSlL, rSetL, rLn, rLs, rTs, rIn, rSet0, tSAdd, rSAdd, rSIn, rSNotIn, rRep, rCat, rAppend, rPop, rPopAt, iList, iRng1, iRng2, iEnum, gTup, tIsN, tNotN, tTru, tLstRg, tRg1, tRg2, L2.start, List.map_cons, List.map_nil, List.length_cons, List.length_nil, List.replicate, List.cons_append, List.nil_append, List.getElem?_cons_zero, List.getElem?_cons_succ, List.set_cons_zero, List.set_cons_succ, Option.some.injEq, exists_eq_left', V.int.injEq, V.ref.injEq, V.bl.injEq, List.cons.injEq, exists_and_left, exists_and_right, and_true, true_and, exists_eq_left, exists_eq, Nat.reduceAdd, Nat.reduceSub]
    rcases h with ⟨a, xs, rfl, ha, hfl, hlen, q⟩ | ⟨n, ⟨hk, hm, _⟩, hn, q⟩
    · refine isi (kd_list ha).1 (kit_kinds "list" (.inr (.inr (.inl rfl))) _ (kd_list (K := K) ha).2.1) ⟨_, rfl, ?_⟩
      refine iteF ⟨fun σ H' => ∃ d, H' = upd H d (SetO w d (fun _ => false) 0) ∧ H d = none ∧ σ = [some (.ref a), some (nv p), some (nv m), some (.ref d), none], ?_, fun σ H' hM => ?_⟩
      · simp only [tRaiseErr, tMkErr, tCallS, WE, tLenSetI, cx_K, cx_w, wipe, Int.zero_add, Bool.false_eq_true, if_false, if_true, Bool.not_true, Bool.not_false, tSeq, tAsg, tOp, tVar, tC, tRet, tRetN, tNext, tDrop, tIfS, tB, tTest, tIf, tAnd, tOr, tNot, tAndV, tOrV, tNotV, tUn, tCons, tNil, tCall, tCB, tBM, tBM0, tNoPart, tPart, tSl, tCont, tNever, tTup, tLst, gName, gNil, gCons, gTup, gSub, rI, rI0, rU, rEq, rNe, rIxL, rSlL, rSetL, rLn, rLs, rTs, rIn, rSet0, tSAdd, rSAdd, rSIn, rSNotIn, rRep, rCat, rAppend, rPop, rPopAt, iList, iRng1, iRng2, iEnum, gTup, tIsN, tNotN, tTru, tLstRg, tRg1, tRg2, L2.start, List.map_cons, List.map_nil, List.length_cons, List.length_nil, List.replicate, List.cons_append, List.nil_append, List.getElem?_cons_zero, List.getElem?_cons_succ, List.set_cons_zero, List.set_cons_succ, Option.some.injEq, exists_eq_left', V.int.injEq, V.ref.injEq, V.bl.injEq, List.cons.injEq, exists_and_left, exists_and_right, and_true, true_and, exists_eq_left, exists_eq, Nat.reduceAdd, Nat.reduceSub]
        exact fun d hd0 => ⟨d, rfl, hd0, rfl⟩
      obtain ⟨d, rfl, hd0, rfl⟩ := hM
      have s0 : Same H (upd H d (SetO w d (fun _ => false) 0)) := same_upd hd0
      refine ⟨fun σ H' => Same H H' ∧ rowB p m [] xs = true, ?_, fun σ H' ⟨e, hb⟩ => ?_⟩
      · refine ⟨_, rfl, a, rfl, ⟨_, SqL.of (s0 _ _ ha)⟩, for_list (K := K) (xs := xs)
          (fun i σ H' => ∃ y S, σ = [some (.ref a), some (nv p), some (nv m), some (.ref d), y] ∧ Same H H' ∧ H' d = some (SetO w d (fun k => decide (k ∈ S)) i) ∧ rowB p m [] xs = rowB p m S (xs.drop i))
          ⟨none, [], rfl, s0, ?_, rfl⟩ (fun i σ H' _ h => ?_) (fun i x σ H' hx h => ?_) (fun σ H' h => ?_)⟩
        · rw [upd_same]
          congr 1
        · obtain ⟨_, _, _, e, _⟩ := h
          exact SqL.of (e _ _ ha)
        · obtain ⟨y, S, rfl, e, hs, hb⟩ := h
          obtain ⟨hi, e2⟩ := List.getElem?_eq_some_iff.mp hx
          have hd : xs.drop i = x :: xs.drop (i + 1) := by rw [List.drop_eq_getElem_cons hi, e2]
          rw [hd] at hb
          obtain ⟨n, kd⟩ := hfl x (List.mem_of_getElem? hx)
          have kd := kd_same kd e
          simp only [tRaiseErr, tMkErr, tCallS, WE, tLenSetI, cx_K, cx_w, wipe, Int.zero_add, Bool.false_eq_true, if_false, if_true, Bool.not_true, Bool.not_false, tSeq, tAsg, tOp, tVar, tC, tRet, tRetN, tNext, tDrop, tIfS, tB, tTest, tIf, tAnd, tOr, tNot, tAndV, tOrV, tNotV, tUn, tCons, tNil, tCall, tCB, tBM, tBM0, tNoPart, tPart, tSl, tCont, tNever, tTup, tLst, gName, gNil, gCons, gTup, gSub, rI, rI0, rU, rEq, rNe, rIxL, rSlL, rSetL, rLn, rLs, rTs, rIn, rSet0, tSAdd, rSAdd, rSIn, rSNotIn, rRep, rCat, rAppend, rPop, rPopAt, iList, iRng1, iRng2, iEnum, gTup, tIsN, tNotN, tTru, tLstRg, tRg1, tRg2, L2.start, List.map_cons, List.map_nil, List.length_cons, List.length_nil, List.replicate, List.cons_append, List.nil_append, List.getElem?_cons_zero, List.getElem?_cons_succ, List.set_cons_zero, List.set_cons_succ, Option.some.injEq, exists_eq_left', V.int.injEq, V.ref.injEq, V.bl.injEq, List.cons.injEq, exists_and_left, exists_and_right, and_true, true_and, exists_eq_left, exists_eq, Nat.reduceAdd, Nat.reduceSub]
          refine ⟨x, n, rfl, kd, _, rfl, ?_⟩
          have qno : rowB p m [] xs = false → Q (.bl false) H' := fun z => by
            have := q H' e
            rw [z] at this
            exact this
          cases hx1 : isNumV x with
          | false =>
            refine iteT (qno ?_)
            rw [hb]
            cases x with
            | int k => cases hx1
            | _ => rfl
          | true =>
            obtain ⟨k, rfl⟩ : ∃ k, x = .int k := by
              cases x with
              | int k => exact ⟨k, rfl⟩
              | _ => cases hx1
            have hb' : rowB p m [] xs = (if k < 0 ∨ (m : Int) ≤ k then false else if k = (p : Int) ∨ k ∈ S then false else rowB p m (k :: S) (xs.drop (i + 1))) := hb
            refine iteF ⟨k, rfl, ?_⟩
            by_cases h1 : k < 0
            · rw [decide_eq_true h1]
              exact iteT (qno (by rw [hb', if_pos (.inl h1)]))
            rw [decide_eq_false h1]
            refine iteF ⟨k, rfl, ?_⟩
            by_cases h2 : (m : Int) ≤ k
            · rw [decide_eq_true h2]
              exact iteT (qno (by rw [hb', if_pos (.inr h2)]))
            rw [decide_eq_false h2]
            rw [if_neg (by omega)] at hb'
            refine iteF ⟨rfl, ?_⟩
            by_cases h3 : k = (p : Int)
            · rw [decide_eq_true (show V.int k = nv p by rw [h3])]
              exact iteT (qno (by rw [hb', if_pos (.inl h3)]))
            rw [decide_eq_false (show ¬ V.int k = nv p from fun z => h3 (V.int.inj z))]
            refine iteF ⟨k, rfl, _, ⟨_, hs⟩, ?_⟩
            by_cases h4 : k ∈ S
            · rw [decide_eq_true h4]
              exact iteT (qno (by rw [hb', if_pos (.inr h4)]))
            rw [decide_eq_false h4]
            rw [if_neg (by rintro (z | z); exact h3 z; exact h4 z)] at hb'
            refine iteF ⟨⟨_, _, hs⟩, k, rfl, _, _, hs, ?_, ?_, k :: S, ?_, hb'⟩
            · exact Nat.lt_of_le_of_lt (by omega : i + 1 ≤ 1001) (by decide)
            · intro b o ho
              rw [upd_ne (ne_of_none ho hd0)]
              exact e b o ho
            · rw [upd_same, decide_eq_false h4]
              simp only [Bool.false_eq_true, if_false]
              congr 2
              funext j
              rw [← Bool.decide_or]
              congr 1
              rw [List.mem_cons, or_comm]
        · obtain ⟨y, S, rfl, e, hs, hb⟩ := h
          refine ⟨e, ?_⟩
          rw [hb, List.drop_length]
          rfl
      · rw [hb] at q
        exact q H' e
    · refine isi hk (kit_kinds "list" (.inr (.inr (.inl rfl))) n hm) ⟨_, rfl, ?_⟩
      rw [show decide (n = "list" ∨ (n = "bool" ∧ ("list" : String) = "int")) = false from decide_eq_false (by rintro (z | z); exact hn z; exact absurd z.2 (by decide))]
      exact iteT q
end
end K6

set_option Elab.async false
set_option linter.all false
set_option maxRecDepth 100000
set_option maxHeartbeats 4000000
namespace K6
open K6g PySem PySem.Spec PyProof.Rows L2 LamX Bk
section
variable {P : Program} {w : World} {K : PySem.W.Frag} {mg : Str → Option Value} {base : Heap}

/-- any value as lists -/
def sp_check (K : PySem.W.Frag) (CL : Addr) : Sp := fun vs H Q E => ∃ x : V, vs = [x] ∧
  ((∃ (t : Addr) (ys : List V) (ok : Nat → Bool), x = .ref t ∧ H t = some (.lst ys) ∧ ys.length ≤ 60 ∧ (∀ (i : Nat) (y : V), ys[i]? = some y → RowIs K H y i ys.length (ok i)) ∧ ((∀ i, i < ys.length → ok i = true) → ∀ H', Same H H' → Q .non H') ∧
      (∀ i, i < ys.length → ok i = false → (∀ j, j < i → ok j = true) → ∀ H' d, Same H H' → H' d = some (.xd (atFs (nv i))) → H d = none → E (.ref CL) (some d) H')) ∨
    (((∃ n, Kd K H x n ∧ n ≠ "list") ∨ ∃ (t : Addr) (ys : List V), x = .ref t ∧ H t = some (.lst ys) ∧ 60 < ys.length) ∧ ∀ H' d, Same H H' → H' d = some (.xd (atFs .non)) → H d = none → E (.ref CL) (some d) H'))
theorem ok_check_lists (T : Txt P K mg) : FnOk P w K mg base (L2.CX P w) 3 T.a_check_lists T.fd_check_lists ["lists"] (sp_check K T.C_BadLists) := by
  have G_is_row : FnOk P w K mg base CX0 2 T.a_is_row T.fd_is_row ["row", "person", "many"] (sp_is_row K) := ok_is_row T
  refine T.F_check_lists.okX sc_check_lists (fun vs H Q E h => ?_) (fun cdv A outer s H vs Q E hr h => ?_)
  · obtain ⟨x, rfl, _⟩ := h
    rfl
  · obtain ⟨x, rfl, h⟩ := h
    refine ⟨_, (C8.pss_cut (ps_if (PW.pt (pw_or (pt_not (pt_val (pe_callB (kisi (K := K)) (by rfl) T.m_isinstance (by decide +kernel) (pa_cons (pv 0) (pa_cons (pe_bltn (v := .ty "list") (by rfl) T.m_list (by decide +kernel) rfl) pa_nil))))) (pw_or1 (pt_cmpR op_gt (pe_callB (klen (K := K)) (by rfl) T.m_len (by decide +kernel) (pa_cons (pv 0) pa_nil)) (pe_glob (v := .int 60) rfl T.mostG ⟨_, rfl⟩) (nomark _))))) (pss_one (ps_raiseErr rfl T.E_BadLists hr (takes_of rfl rfl rfl rfl) (pa_cons pe_non pa_nil) (by rfl))) pss_nil)
      (pss_one (ps_for (passes_of rfl) rfl (kpi_enum (K := K) (by rfl) T.m_enumerate (pa_cons (pv 0) pa_nil)) (kpg_tup (K := K) (n := 2) rfl (pgs_cons (pg_name (i := 1) sc_check_lists.nd rfl (.inl rfl)) (pgs_cons (pg_name (i := 2) sc_check_lists.nd rfl (.inl rfl)) pgs_nil))) (pss_one (ps_if (pt_not (pt_val (pe_call G_is_row (hr.mono (by decide)) (by rfl) T.g_is_row T.F_is_row.kp T.b_is_row .nil pass0 (pa_cons (pv 2) (pa_cons (pv 1) (pa_cons (pe_callB (klen (K := K)) (by rfl) T.m_len (by decide +kernel) (pa_cons (pv 0) pa_nil)) pa_nil)))))) (pss_one (ps_raiseErr rfl T.E_BadLists hr (takes_of rfl rfl rfl rfl) (pa_cons (pv 1) pa_nil) (by rfl))) pss_nil))))), ?_⟩
    rcases h with ⟨t, ys, ok, rfl, ht, hl, hR, q1, q2⟩ | ⟨h, q⟩
    · refine ⟨fun σ H' => H' = H ∧ σ = [some (.ref t), none, none], ?_, fun σ H' hM => ?_⟩
      · simp only [tRaiseErr, tMkErr, tCallS, WE, tLenSetI, cx_K, cx_w, wipe, Int.zero_add, Bool.false_eq_true, if_false, if_true, Bool.not_true, Bool.not_false, tSeq, tAsg, tOp, tVar, tC, tRet, tRetN, tNext, tDrop, tIfS, tB, tTest, tIf, tAnd, tOr, tNot, tAndV, tOrV, tNotV, tUn, tCons, tNil, tCall, tCB, tBM, tBM0, tNoPart, tPart, tSl, tCont, tNever, tTup, tLst, gName, gNil, gCons, gTup, gSub, rI, rI0, rU, rEq, rNe, rIxL, rSlL, rSetL, rLn, rLs, rTs, rIn, rSet0, tSAdd, rSAdd, rSIn, rSNotIn, rRep, rCat, rAppend, rPop, rPopAt, iList, iRng1, iRng2, iEnum, gTup, tIsN, tNotN, tTru, tLstRg, tRg1, tRg2, L2.start, List.map_cons, List.map_nil, List.length_cons, List.length_nil, List.replicate, List.cons_append, List.nil_append, List.getElem?_cons_zero, List.getElem?_cons_succ, List.set_cons_zero, List.set_cons_succ, Option.some.injEq, exists_eq_left', V.int.injEq, V.ref.injEq, V.bl.injEq, List.cons.injEq, exists_and_left, exists_and_right, and_true, true_and, exists_eq_left, exists_eq, Nat.reduceAdd, Nat.reduceSub]
        refine isi (kd_list ht).1 (kit_kinds "list" (.inr (.inr (.inl rfl))) _ (kd_list (K := K) ht).2.1) ⟨_, rfl, ?_⟩
        refine iteF ⟨_, .inl (SqL.of ht), ?_⟩
        rw [decide_eq_false (show ¬ (60 : Int) < (ys.length : Int) by omega)]
        exact iteF rfl
      · obtain ⟨rfl, rfl⟩ := hM
        refine ⟨.ref t, rfl, t, _, rfl, SqL.of ht, for_enum (K := K) (xs := ys) (fun i σ H2 => (∃ y1 y2, σ = [some (.ref t), y1, y2]) ∧ Same H' H2 ∧ ∀ j, j < i → ok j = true) ⟨⟨none, none, rfl⟩, Same.refl _, fun j hj => absurd hj (Nat.not_lt_zero _)⟩
          (fun i σ H2 _ h => SqL.of (h.2.1 _ _ ht)) (fun i x σ H2 TA hx hT h => ?_) (fun σ H2 h => ?_)⟩
        · obtain ⟨⟨y1, y2, rfl⟩, e, hok⟩ := h
          have hi : i < ys.length := (List.getElem?_eq_some_iff.mp hx).1
          have e2 : Same H' (upd H2 TA (.tup [.int (i : Nat), x])) := same_upd2 e (e.free hT)
          obtain ⟨M, hM⟩ : ∃ M : L2.St → Hp → Prop, M = (fun σ H2 => (∃ y1 y2, σ = [some (.ref t), y1, y2]) ∧ Same H' H2 ∧ ∀ j, j < i + 1 → ok j = true) := ⟨_, rfl⟩
          rw [← hM]
          simp only [tRaiseErr, tMkErr, tCallS, WE, tLenSetI, cx_K, cx_w, wipe, Int.zero_add, Bool.false_eq_true, if_false, if_true, Bool.not_true, Bool.not_false, tSeq, tAsg, tOp, tVar, tC, tRet, tRetN, tNext, tDrop, tIfS, tB, tTest, tIf, tAnd, tOr, tNot, tAndV, tOrV, tNotV, tUn, tCons, tNil, tCall, tCB, tBM, tBM0, tNoPart, tPart, tSl, tCont, tNever, tTup, tLst, gName, gNil, gCons, gTup, gSub, rI, rI0, rU, rEq, rNe, rIxL, rSlL, rSetL, rLn, rLs, rTs, rIn, rSet0, tSAdd, rSAdd, rSIn, rSNotIn, rRep, rCat, rAppend, rPop, rPopAt, iList, iRng1, iRng2, iEnum, gTup, tIsN, tNotN, tTru, tLstRg, tRg1, tRg2, L2.start, List.map_cons, List.map_nil, List.length_cons, List.length_nil, List.replicate, List.cons_append, List.nil_append, List.getElem?_cons_zero, List.getElem?_cons_succ, List.set_cons_zero, List.set_cons_succ, Option.some.injEq, exists_eq_left', V.int.injEq, V.ref.injEq, V.bl.injEq, List.cons.injEq, exists_and_left, exists_and_right, and_true, true_and, exists_eq_left, exists_eq, Nat.reduceAdd, Nat.reduceSub]
          refine ⟨_, SqT.of upd_same, rfl, _, _, rfl, _, _, rfl, rfl, _, .inl (SqL.of (e2 _ _ ht)), ?_⟩
          have fin : ∀ H3, Same (upd H2 TA (.tup [.int (i : Nat), x])) H3 → ∃ c, V.bl (ok i) = .bl c ∧ (if (!c) = true then AtV (.int (i : Int)) ∧ ∀ d, H3 d = none → E (.ref T.C_BadLists) (some d) (upd H3 d (.xd (atFs (.int (i : Int))))) else M [some (.ref t), some (.int (i : Int)), some x] H3) := fun H3 e3 => by
            refine ⟨_, rfl, ?_⟩
            cases hok2 : ok i with
            | true =>
              refine iteF ?_
              rw [hM]
              refine ⟨⟨_, _, rfl⟩, e2.trans e3, fun j hj => ?_⟩
              by_cases z : j = i
              · rw [z]; exact hok2
              · exact hok j (by omega)
            | false =>
              refine iteT ⟨.inr ⟨i, rfl, by omega⟩, fun d hd => ?_⟩
              exact q2 i hi hok2 hok _ d (same_upd2 (e2.trans e3) ((e2.trans e3).free hd)) upd_same ((e2.trans e3).free hd)
          refine ⟨x, i, ys.length, rfl, ?_⟩
          rcases (hR i x hx).same e2 with ⟨a, xs, rfl, h1, h2, h3, h4⟩ | ⟨n, h1, h2, h3⟩
          · refine .inl ⟨a, xs, rfl, h1, h2, h3, fun H3 e3 => ?_⟩
            rw [← h4]
            exact fin H3 e3
          · refine .inr ⟨n, h1, h2, ?_⟩
            have := fin _ (Same.refl _)
            rw [h3] at this
            exact this
        · exact q1 h.2.2 _ h.2.1
    · have out : AtV V.non ∧ ∀ (d : Addr), H d = none → E (Value.ref T.C_BadLists) (some d) (upd H d (HO.xd (atFs V.non))) := ⟨.inl rfl, fun d hd => q _ d (same_upd hd) upd_same hd⟩
      refine ⟨fun _ _ => False, ?_, fun _ _ z => z.elim⟩
      simp only [tRaiseErr, tMkErr, tCallS, WE, tLenSetI, cx_K, cx_w, wipe, Int.zero_add, Bool.false_eq_true, if_false, if_true, Bool.not_true, Bool.not_false, tSeq, tAsg, tOp, tVar, tC, tRet, tRetN, tNext, tDrop, tIfS, tB, tTest, tIf, tAnd, tOr, tNot, tAndV, tOrV, tNotV, tUn, tCons, tNil, tCall, tCB, tBM, tBM0, tNoPart, tPart, tSl, tCont, tNever, tTup, tLst, gName, gNil, gCons, gTup, gSub, rI, rI0, rU, rEq, rNe, rIxL, rSlL, rSetL, rLn, rLs, rTs, rIn, rSet0, tSAdd, rSAdd, rSIn, rSNotIn, rRep, rCat, rAppend, rPop, rPopAt, iList, iRng1, iRng2, iEnum, gTup, tIsN, tNotN, tTru, tLstRg, tRg1, tRg2, L2.start, List.map_cons, List.map_nil, List.length_cons, List.length_nil, List.replicate, List.cons_append, List.nil_append, List.getElem?_cons_zero, List.getElem?_cons_succ, List.set_cons_zero, List.set_cons_succ, Option.some.injEq, exists_eq_left', V.int.injEq, V.ref.injEq, V.bl.injEq, List.cons.injEq, exists_and_left, exists_and_right, and_true, true_and, exists_eq_left, exists_eq, Nat.reduceAdd, Nat.reduceSub]
      rcases h with ⟨n, ⟨hk, hm, _⟩, hn⟩ | ⟨t, ys, rfl, ht, hl⟩
      · refine isi hk (kit_kinds "list" (.inr (.inr (.inl rfl))) n hm) ⟨_, rfl, ?_⟩
        rw [show decide (n = "list" ∨ (n = "bool" ∧ ("list" : String) = "int")) = false from decide_eq_false (by rintro (z | z); exact hn z; exact absurd z.2 (by decide))]
        exact iteT out
      · refine isi (kd_list ht).1 (kit_kinds "list" (.inr (.inr (.inl rfl))) _ (kd_list (K := K) ht).2.1) ⟨_, rfl, ?_⟩
        refine iteF ⟨_, rfl, _, .inl (SqL.of ht), ?_⟩
        rw [decide_eq_true (show (60 : Int) < (ys.length : Int) by omega)]
        exact iteT out
end
end K6

set_option Elab.async false
set_option linter.all false
set_option maxRecDepth 100000
set_option maxHeartbeats 4000000
namespace K6
open K6g PySem PySem.Spec PyProof.Rows L2 LamX Bk
section
variable {P : Program} {w : World} {K : PySem.W.Frag} {mg : Str → Option Value} {base : Heap}

/-- what a dict of places tells -/
def PlaceD (kvs : List (L2.Key × V)) (r : List Nat) : Prop := ∀ x : Nat, valV kvs (Sum.inl (x : Int)) = if x ∈ r then some (nv (r.idxOf x)) else none
/-- the places of each one on each row -/
def PlacesAt (H : Hp) (p : Addr) (ds : List Addr) (rows : List (List Nat)) : Prop :=
  H p = some (.lst (ds.map V.ref)) ∧ ds.length = rows.length ∧ ∀ (i : Nat) (d : Addr), ds[i]? = some d → ∃ kvs, H d = some (.dK kvs) ∧ PlaceD kvs (fn rows i)
def sp_places_in (K : PySem.W.Frag) : Sp := fun vs H Q _ => ∃ (t : Addr) (as : List Addr) (rows : List (List Nat)), vs = [.ref t] ∧ Tbl H t as rows ∧ (∀ i, (fn rows i).Nodup) ∧ (∀ i, (fn rows i).length ≤ 100) ∧ rows.length ≤ 100 ∧
  ∀ H' p ds, Same H H' → PlacesAt H' p ds rows → Q (.ref p) H'
theorem place_step {r : List Nat} (hd : r.Nodup) {j z : Nat} (hz : r[j]? = some z) {kvs : List (L2.Key × V)} (h : ∀ x : Nat, valV kvs (Sum.inl (x : Int)) = if x ∈ r.take j then some (nv (r.idxOf x)) else none) :
    ∀ x : Nat, valV (putK kvs (Sum.inl (z : Int)) (nv j)) (Sum.inl (x : Int)) = if x ∈ r.take (j + 1) then some (nv (r.idxOf x)) else none := fun x => by
  rw [valV_put, h x]
  have et : r.take (j + 1) = r.take j ++ [z] := by rw [List.take_add_one, hz]; rfl
  obtain ⟨hj, ej⟩ := List.getElem?_eq_some_iff.mp hz
  by_cases e : x = z
  · subst e
    rw [if_pos rfl, if_pos (by rw [et]; simp)]
    rw [show r.idxOf x = j by rw [← ej]; exact hd.idxOf_getElem _ hj]
  · rw [if_neg (fun q => e (by have := Sum.inl.inj q; omega))]
    have : (x ∈ r.take (j + 1)) = (x ∈ r.take j) := by rw [et]; simp [e]
    simp only [this]
theorem ok_places_in (T : Txt P K mg) : FnOk P w K mg base CX0 1 T.a_places_in T.fd_places_in ["rows"] (sp_places_in K) := by
  refine T.F_places_in.ok sc_places_in (fun vs H Q E h => ?_) (fun cdv A outer s H vs Q E hr h => ?_)
  · obtain ⟨t, as, rows, rfl, _⟩ := h
    rfl
  · obtain ⟨t, as, rows, rfl, TB, gnd, glen, hlen, q⟩ := h
    refine ⟨_, (pss_one (ps_ret (pe_lc (own := [("row", 3)]) rfl sc_places_in.nd (kpi_list (K := K) (pv 0)) (blkOk_by (own := [("row", 3)]) (N := ["rows", "place", "other", "row"]) (sc := (defScope s_places_in)) (by decide +kernel)) (fun _ _ _ _ _ => (pg_name (i := 3) sc_places_in.nd rfl (by first | exact .inl rfl | exact .inr rfl))) (fun _ _ _ _ _ => pts_nil) (fun _ _ _ _ _ => (pe_dc (own := [("place", 1), ("other", 2)]) rfl sc_places_in.nd (kpi_enum (K := K) (by rfl) T.m_enumerate (pa_cons (pv 3) pa_nil)) (blkOk_by (own := [("place", 1), ("other", 2)]) (N := ["rows", "place", "other", "row"]) (sc := (relS (lcS (retE s_places_in)) (defScope s_places_in))) (by decide +kernel)) (fun _ _ _ _ _ => (kpg_tup (K := K) (n := 2) rfl (pgs_cons (pg_name (i := 1) sc_places_in.nd rfl (by first | exact .inl rfl | exact .inr rfl)) (pgs_cons (pg_name (i := 2) sc_places_in.nd rfl (by first | exact .inl rfl | exact .inr rfl)) pgs_nil)))) (fun _ _ _ _ _ => pts_nil) (fun _ _ _ _ _ => (pv 2)) (fun _ _ _ _ _ => (pv 1))))))), ?_⟩
    refine ⟨_, rfl, t, rfl, ⟨_, SqL.of TB.top⟩, fun D hD => lc_list (K := K) (xs := as.map V.ref)
      (fun i H2 => Same H H2 ∧ ∃ ds, H2 D = some (.lst (ds.map V.ref)) ∧ ds.length = i ∧ ∀ (j : Nat) (d : Addr), ds[j]? = some d → ∃ kvs, H2 d = some (.dK kvs) ∧ PlaceD kvs (fn rows j))
      ⟨same_upd hD, [], upd_same, rfl, fun j d e => by simp at e⟩ (fun i H2 _ h => h.1.seq (SqL.of TB.top)) (fun i x H2 hx h => ?_) (fun H2 h => ?_)⟩
    · obtain ⟨e, ds, hds, hlen2, hall⟩ := h
      rw [List.getElem?_map] at hx
      obtain ⟨a, ha, rfl⟩ := Option.map_eq_some_iff.mp hx
      have hi : i < rows.length := by
        have := (List.getElem?_eq_some_iff.mp ha).1
        rw [TB.len] at this; exact this
      have hra : H2 a = some (.lst ((fn rows i).map nv)) := e _ _ (TB.row i a _ ha (fn_at hi))
      refine ⟨rfl, ?_⟩
      refine yesI ⟨_, rfl, a, _, rfl, SqL.of hra, fun d hd => dc_enum (K := K) (xs := (fn rows i).map nv)
        (fun j H3 => Same H2 H3 ∧ ∃ kvs, H3 d = some (.dK kvs) ∧ kvs.length ≤ j ∧ ∀ x : Nat, valV kvs (Sum.inl (x : Int)) = if x ∈ (fn rows i).take j then some (nv ((fn rows i).idxOf x)) else none)
        ⟨same_upd hd, [], upd_same, Nat.le_refl _, fun x => by simp [valV_nil]⟩ (fun j H3 _ h => h.1.seq (SqL.of hra)) (fun j x H3 T3 hx hT h => ?_) (fun H3 h => ?_)⟩
      · obtain ⟨e3, kvs, hk, hkl, hv⟩ := h
        rw [List.getElem?_map] at hx
        obtain ⟨z, hz, rfl⟩ := Option.map_eq_some_iff.mp hx
        have hj := (List.getElem?_eq_some_iff.mp hz).1
        refine ⟨T3, _, rfl, SqT.of upd_same, rfl, _, _, rfl, _, _, rfl, rfl, rfl, ?_⟩
        refine yesI ⟨_, rfl, _, rfl, kvs, Sum.inl (z : Int), rfl, ?_, ?_, ?_⟩
        · rw [upd_ne (ne_of_none hk hT)]; exact hk
        · exact small (by have := glen i; omega)
        · refine ⟨fun b o ho => ?_, _, upd_same, ?_, ?_⟩
          · rw [upd_ne (ne_of_none ho hd), upd_ne (ne_of_none (e3 _ _ ho) hT)]
            exact e3 _ _ ho
          · exact Nat.le_trans (length_putK _ _ _) (by omega)
          · exact place_step (gnd i) hz hv
      · obtain ⟨e3, kvs, hk, hkl, hv⟩ := h
        have nDd : D ≠ d := ne_of_none hds hd
        refine ⟨ds.map V.ref, e3 _ _ hds, ?_, fun b o ho => ?_, ds ++ [d], ?_, ?_, fun j d' hj => ?_⟩
        · rw [List.length_map, hlen2]; exact small (by omega)
        · rw [upd_ne (ne_of_none ho hD)]
          exact e3 _ _ (e _ _ ho)
        · rw [upd_same]; simp
        · simp [hlen2]
        · by_cases hlt : j < ds.length
          · rw [List.getElem?_append_left hlt] at hj
            obtain ⟨kv, h1, h2⟩ := hall j d' hj
            refine ⟨kv, ?_, h2⟩
            rw [upd_ne (ne_of (e3 _ _ h1) (e3 _ _ hds) (by intro z; cases z))]
            exact e3 _ _ h1
          · rw [List.getElem?_append_right (by omega)] at hj
            have hj0 : j - ds.length = 0 := by
              have := (List.getElem?_eq_some_iff.mp hj).1
              simp at this; omega
            rw [hj0] at hj
            have : d = d' := by simpa using hj
            subst this
            refine ⟨kvs, by rw [upd_ne (Ne.symm nDd)]; exact hk, fun x => ?_⟩
            have : j = i := by omega
            subst this
            have := hv x
            rw [List.length_map, List.take_length] at this
            exact this
    · obtain ⟨e, ds, hds, hlen2, hall⟩ := h
      refine q H2 D ds e ⟨hds, ?_, hall⟩
      rw [hlen2, List.length_map, TB.len]
end
end K6

set_option Elab.async false
set_option linter.all false
set_option maxRecDepth 100000
set_option maxHeartbeats 4000000
namespace K6
open K6g PySem PySem.Spec PyProof.Rows L2 LamX Bk
section
variable {P : Program} {w : World} {K : PySem.W.Frag} {mg : Str → Option Value} {base : Heap}

/-- lists that are none, told at v -/
def ListsBad (K : PySem.W.Frag) (H : Hp) (x v : V) : Prop :=
  (∃ (t : Addr) (ys : List V) (ok : Nat → Bool) (i : Nat), x = .ref t ∧ H t = some (.lst ys) ∧ ys.length ≤ 60 ∧ (∀ (i : Nat) (y : V), ys[i]? = some y → RowIs K H y i ys.length (ok i)) ∧ i < ys.length ∧ ok i = false ∧ (∀ j, j < i → ok j = true) ∧ v = nv i) ∨
    (v = .non ∧ ((∃ n, Kd K H x n ∧ n ≠ "list") ∨ ∃ (t : Addr) (ys : List V), x = .ref t ∧ H t = some (.lst ys) ∧ 60 < ys.length))
/-- an error of the class at C comes out, told at v -/
theorem ListsBad.same {K : PySem.W.Frag} {H H2 : Hp} {x v : V} (h : ListsBad K H x v) (e : Same H H2) : ListsBad K H2 x v := by
  rcases h with ⟨t, ys, ok, i, h1, h2, h3, h4, h5⟩ | ⟨h1, ⟨n, h2, h3⟩ | ⟨t, ys, h2, h3, h4⟩⟩
  · exact .inl ⟨t, ys, ok, i, h1, e _ _ h2, h3, fun j y hy => (h4 j y hy).same e, h5⟩
  · exact .inr ⟨h1, .inl ⟨n, kd_same h2 e, h3⟩⟩
  · exact .inr ⟨h1, .inr ⟨t, ys, h2, e _ _ h3, h4⟩⟩
def Out (C : Addr) (E : XK) (H : Hp) (v : V) : Prop := ∀ H' d, Same H H' → H' d = some (.xd (atFs v)) → H d = none → E (.ref C) (some d) H'
theorem Out.same {C : Addr} {E : XK} {H H' : Hp} {v : V} (h : Out C E H v) (e : Same H H') : Out C E H' v := fun H2 d e2 h1 h2 => h H2 d (e.trans e2) h1 (e.free h2)
theorem check_bad {H : Hp} {x v : V} {CL : Addr} {Q : VK} {E : XK} (h : ListsBad K H x v) (q : Out CL E H v) : sp_check K CL [x] H Q E := by
  refine ⟨x, rfl, ?_⟩
  rcases h with ⟨t, ys, ok, i, rfl, ht, hl, hR, hi, hb, hok, rfl⟩ | ⟨rfl, h⟩
  · refine .inl ⟨t, ys, ok, rfl, ht, hl, hR, fun z => ?_, fun j hj hbj hokj => ?_⟩
    · rw [z i hi] at hb
      cases hb
    · have : j = i := by
        by_cases z : j < i
        · rw [hok j z] at hbj; cases hbj
        · by_cases z2 : i < j
          · rw [hokj i z2] at hb; cases hb
          · omega
      subst this
      exact q
  · exact .inr ⟨h, q⟩
theorem check_good {H : Hp} {t : Addr} {as : List Addr} {rows : List (List Nat)} {CL : Addr} {Q : VK} {E : XK} (TB : Tbl H t as rows) (g : GL rows) (hl : rows.length ≤ 60) (q : ∀ H', Same H H' → Q .non H') : sp_check K CL [.ref t] H Q E := by
  refine ⟨_, rfl, .inl ⟨t, as.map V.ref, fun _ => true, rfl, TB.top, by rw [List.length_map, TB.len]; exact hl, fun i y hy => ?_, fun _ => q, fun i _ z => by cases z⟩⟩
  rw [List.getElem?_map] at hy
  obtain ⟨a, ha, rfl⟩ := Option.map_eq_some_iff.mp hy
  have hi : i < rows.length := by
    have := (List.getElem?_eq_some_iff.mp ha).1
    rw [TB.len] at this; exact this
  refine .inl ⟨a, _, rfl, TB.row i a _ ha (fn_at hi), fun y hy => by obtain ⟨z, _, rfl⟩ := List.mem_map.mp hy; exact ⟨"int", (by obtain ⟨n, k, _⟩ := kd_flat (K := K) (H := H) (x := nv z) rfl; exact ⟨.base (.int _), by decide, (show true = decide (("int" : String) = "int") by decide)⟩)⟩, by rw [List.length_map]; have := g.len i; omega, ?_⟩
  rw [List.length_map, TB.len]
  exact (rowB_good (g.nd i) (fun x hx => (g.lt hx).2) (fun x _ z => by simp at z)).symm
def sp_mutual (K : PySem.W.Frag) (CL : Addr) : Sp := fun vs H Q E => ∃ x : V, vs = [x] ∧ ((∃ (t : Addr) (as : List Addr) (rows : List (List Nat)), x = .ref t ∧ Tbl H t as rows ∧ GL rows ∧ rows.length ≤ 60 ∧
    ∀ H' p as', Same H H' → H p = none → (∀ a ∈ as', H a = none) → Tbl H' p as' (mutL rows) → Q (.ref p) H') ∨ ∃ v, ListsBad K H x v ∧ Out CL E H v)
theorem ok_mutual (T : Txt P K mg) : FnOk P w K mg base (L2.CX P w) 4 T.a_mutual T.fd_mutual ["lists"] (sp_mutual K T.C_BadLists) := by
  have G_check_lists : FnOk P w K mg base (L2.CX P w) 3 T.a_check_lists T.fd_check_lists ["lists"] (sp_check K T.C_BadLists) := ok_check_lists T
  have G_places_in : FnOk P w K mg base CX0 1 T.a_places_in T.fd_places_in ["rows"] (sp_places_in K) := ok_places_in T
  refine T.F_mutual.okX sc_mutual (fun vs H Q E h => ?_) (fun cdv A outer s H vs Q E hr h => ?_)
  · obtain ⟨x, rfl, _⟩ := h
    rfl
  · obtain ⟨x, rfl, h⟩ := h
    refine ⟨_, (pss_cons (ps_expr (pe_callS G_check_lists (hr.mono (by decide)) (by rfl) T.g_check_lists T.F_check_lists.kp T.b_check_lists (fun σ => passAt (takes_of rfl rfl rfl rfl) σ) (pa_cons (pv 0) pa_nil)))
      (pss_cons (ps_set (i := 1) sc_mutual.nd rfl (.inr rfl) (pe_call G_places_in (hr.mono (by decide)) (by rfl) T.g_places_in T.F_places_in.kp T.b_places_in .nil pass0 (pa_cons (pv 0) pa_nil)))
      (pss_one (ps_ret (pe_lc (own := [("person", 3), ("row", 4)]) rfl sc_mutual.nd (kpi_enum (K := K) (by rfl) T.m_enumerate (pa_cons (pv 0) pa_nil)) (blkOk_by (own := [("person", 3), ("row", 4)]) (N := ["lists", "places", "other", "person", "row"]) (sc := (defScope s_mutual)) (by decide +kernel)) (fun _ _ _ _ _ => (kpg_tup (K := K) (n := 2) rfl (pgs_cons (pg_name (i := 3) sc_mutual.nd rfl (by first | exact .inl rfl | exact .inr rfl)) (pgs_cons (pg_name (i := 4) sc_mutual.nd rfl (by first | exact .inl rfl | exact .inr rfl)) pgs_nil)))) (fun _ _ _ _ _ => pts_nil) (fun _ _ _ _ _ => (pe_lc (own := [("other", 2)]) rfl sc_mutual.nd (kpi_list (K := K) (pv 4)) (blkOk_by (own := [("other", 2)]) (N := ["lists", "places", "other", "person", "row"]) (sc := (relS (lcS (retE s_mutual)) (defScope s_mutual))) (by decide +kernel)) (fun _ _ _ _ _ => (pg_name (i := 2) sc_mutual.nd rfl (by first | exact .inl rfl | exact .inr rfl))) (fun _ _ _ _ _ => (pts_one (pt_cmp (pc_din (hu_of hr) (pv 3) (pe_ix (kix_list (K := K)) (pv 1) (pv 2) (fun _ _ => rfl)))))) (fun _ _ _ _ _ => (pv 2))))))))), ?_⟩
    rcases h with ⟨t, as, rows, rfl, TB, g, hlen, q⟩ | ⟨v, hb, q⟩
    rotate_left
    · refine ⟨x, rfl, ?_⟩
      simp only [tRaiseErr, tMkErr, tCallS, WE, tLenSetI, cx_K, cx_w, wipe, Int.zero_add, Bool.false_eq_true, if_false, if_true, Bool.not_true, Bool.not_false, tSeq, tAsg, tOp, tVar, tC, tRet, tRetN, tNext, tDrop, tIfS, tB, tTest, tIf, tAnd, tOr, tNot, tAndV, tOrV, tNotV, tUn, tCons, tNil, tCall, tCB, tBM, tBM0, tNoPart, tPart, tSl, tCont, tNever, tTup, tLst, gName, gNil, gCons, gTup, gSub, rI, rI0, rU, rEq, rNe, rIxL, rSlL, rSetL, rLn, rLs, rTs, rIn, rSet0, tSAdd, rSAdd, rSIn, rSNotIn, rRep, rCat, rAppend, rPop, rPopAt, iList, iRng1, iRng2, iEnum, gTup, tIsN, tNotN, tTru, tLstRg, tRg1, tRg2, L2.start, List.map_cons, List.map_nil, List.length_cons, List.length_nil, List.replicate, List.cons_append, List.nil_append, List.getElem?_cons_zero, List.getElem?_cons_succ, List.set_cons_zero, List.set_cons_succ, Option.some.injEq, exists_eq_left', V.int.injEq, V.ref.injEq, V.bl.injEq, List.cons.injEq, exists_and_left, exists_and_right, and_true, true_and, exists_eq_left, exists_eq, Nat.reduceAdd, Nat.reduceSub]
      exact check_bad hb q
    refine ⟨_, rfl, ?_⟩
    simp only [tRaiseErr, tMkErr, tCallS, WE, tLenSetI, cx_K, cx_w, wipe, Int.zero_add, Bool.false_eq_true, if_false, if_true, Bool.not_true, Bool.not_false, tSeq, tAsg, tOp, tVar, tC, tRet, tRetN, tNext, tDrop, tIfS, tB, tTest, tIf, tAnd, tOr, tNot, tAndV, tOrV, tNotV, tUn, tCons, tNil, tCall, tCB, tBM, tBM0, tNoPart, tPart, tSl, tCont, tNever, tTup, tLst, gName, gNil, gCons, gTup, gSub, rI, rI0, rU, rEq, rNe, rIxL, rSlL, rSetL, rLn, rLs, rTs, rIn, rSet0, tSAdd, rSAdd, rSIn, rSNotIn, rRep, rCat, rAppend, rPop, rPopAt, iList, iRng1, iRng2, iEnum, gTup, tIsN, tNotN, tTru, tLstRg, tRg1, tRg2, L2.start, List.map_cons, List.map_nil, List.length_cons, List.length_nil, List.replicate, List.cons_append, List.nil_append, List.getElem?_cons_zero, List.getElem?_cons_succ, List.set_cons_zero, List.set_cons_succ, Option.some.injEq, exists_eq_left', V.int.injEq, V.ref.injEq, V.bl.injEq, List.cons.injEq, exists_and_left, exists_and_right, and_true, true_and, exists_eq_left, exists_eq, Nat.reduceAdd, Nat.reduceSub]
    refine check_good TB g hlen fun H1 e1 => ?_
    refine ⟨t, as, rows, rfl, TB.same e1, g.nd, fun i => by have := g.len i; omega, by omega, fun H2 pl ds e2 hP => ?_⟩
    have e : Same H H2 := e1.trans e2
    obtain ⟨hp1, hp2, hp3⟩ := hP
    refine ⟨_, rfl, t, _, rfl, SqL.of (e _ _ TB.top), fun D hD => lc_enum (K := K) (xs := as.map V.ref)
      (fun i H3 => Same H2 H3 ∧ ∃ as', (∀ a ∈ as', H a = none) ∧ Tbl H3 D as' ((mutL rows).take i))
      ⟨same_upd hD, [], (fun a ha => by simp at ha), by rw [List.take_zero]; exact Tbl.nil upd_same⟩ (fun i H3 _ h => h.1.seq (SqL.of (e _ _ TB.top))) (fun i x H3 T3 hx hT h => ?_) (fun H3 h => ?_)⟩
    · obtain ⟨e3, as', hn, TF⟩ := h
      rw [List.getElem?_map] at hx
      obtain ⟨a, ha, rfl⟩ := Option.map_eq_some_iff.mp hx
      have hi : i < rows.length := by
        have := (List.getElem?_eq_some_iff.mp ha).1
        rw [TB.len] at this; exact this
      have e4 : Same H2 (upd H3 T3 (.tup [.int (i : Nat), .ref a])) := same_upd2 e3 (e3.free hT)
      have hra : upd H3 T3 (.tup [.int (i : Nat), .ref a]) a = some (.lst ((fn rows i).map nv)) := e4 _ _ (e _ _ (TB.row i a _ ha (fn_at hi)))
      refine ⟨T3, _, rfl, SqT.of upd_same, rfl, _, _, rfl, _, _, rfl, rfl, rfl, ?_⟩
      refine yesI ⟨_, rfl, a, rfl, ⟨_, SqL.of hra⟩, fun D2 hD2 => lc_keep (r := fn rows i) (fun o => decide (i ∈ fn rows o)) hD2 (SqL.of hra) (by simp [wipe_length, L2.start]) (by have := g.len i; omega) (fun x hx H5 Qt e5 hq => ?_) ?_⟩
      · have hxl := (g.lt hx).2.1
        have hxd : x < ds.length := by rw [hp2]; exact hxl
        obtain ⟨kvs, hk, hpd⟩ := hp3 x ds[x] (List.getElem?_eq_getElem hxd)
        refine ⟨_, rfl, _, rfl, _, rfl, pl, _, _, .ref ds[x], rfl, rfl, SqL.of (e5 _ _ (e4 _ _ hp1)), ?_, ds[x], _, rfl, DGet.k (k := Sum.inl (i : Int)) (e5 _ _ (e4 _ _ hk)), _, rfl, ?_⟩
        · exact atI_nat (by rw [List.getElem?_map, List.getElem?_eq_getElem hxd]; rfl)
        · rw [hpd i]
          by_cases hm : i ∈ fn rows x
          · rw [if_pos hm]
            rw [decide_eq_true hm] at hq
            exact hq
          · rw [if_neg hm]
            rw [decide_eq_false hm] at hq
            exact hq
      · have TF4 : Tbl (upd H3 T3 (.tup [.int (i : Nat), .ref a])) D as' ((mutL rows).take i) := TF.upd_new hT
        have nD : D ≠ D2 := ne_of_none TF4.top hD2
        refine ⟨as'.map V.ref, by rw [upd_ne nD]; exact TF4.top, ?_, ?_, as' ++ [D2], fun b hb => ?_, ?_⟩
        · rw [List.length_map, TF.len]
          exact small (by rw [List.length_take]; omega)
        · intro b o ho
          rw [upd_ne (ne_of_none ho hD), upd_ne (ne_of_none (e4 _ _ ho) hD2)]
          exact e4 b o ho
        · rcases List.mem_append.mp hb with z | z
          · exact hn b z
          · have : b = D2 := by simpa using z
            subst this
            exact e.free (e4.free hD2)
        · have et : (mutL rows).take (i + 1) = (mutL rows).take i ++ [mutF rows i] := by rw [List.take_add_one, mutL_at hi]; rfl
          rw [et]
          have := (TF4.upd_new (o := .lst ((mutF rows i).map nv)) hD2).snoc (a := D2) (r := mutF rows i) upd_same (Ne.symm nD) (TF4.fresh hD2).1
          rw [List.map_append] at this
          exact this
    · obtain ⟨e3, as', hn, TF⟩ := h
      rw [List.length_map, TB.len, List.take_of_length_le (by rw [mutL_len]; exact Nat.le_refl _)] at TF
      exact q H3 D as' (e.trans e3) (e.free hD) hn TF
end
end K6

set_option Elab.async false
set_option linter.all false
set_option maxRecDepth 100000
set_option maxHeartbeats 4000000
namespace K6g
open K6 PySem PySem.Spec PyProof.Rows L2 LamX Bk
section
variable {P : Program} {w : World} {K : PySem.W.Frag} {mg : Str → Option Value} {base : Heap}

def sp_is_number (K : PySem.W.Frag) : Sp := fun vs H Q _ => ∃ (i : Int), vs = [.int i] ∧ Q (.bl true) H
theorem ok_is_number (T : Txt P K mg) : FnOk P w K mg base CX0 1 T.a_is_number T.fd_is_number ["value"] (sp_is_number K) := by
  refine T.F_is_number.ok sc_is_number (fun vs H Q E h => ?_) (fun cdv A outer s H vs Q E hr h => ?_)
  · obtain ⟨x, rfl, _⟩ := h
    rfl
  · obtain ⟨x, rfl, q⟩ := h
    refine ⟨_, (pss_one (ps_ret (pe_and (pe_callB (kisi (K := K)) (by rfl) T.m_isinstance (by decide +kernel) (pa_cons (pv 0) (pa_cons (pe_bltn (v := .ty "int") (by rfl) T.m_int (by decide +kernel) rfl) pa_nil))) (pe_one (pe_not (pe_callB (kisi (K := K)) (by rfl) T.m_isinstance (by decide +kernel) (pa_cons (pv 0) (pa_cons (pe_bltn (v := .ty "bool") (by rfl) T.m_bool (by decide +kernel) rfl) pa_nil)))))))), ?_⟩
    simp only [tLenSetI, cx_K, cx_w, wipe, Int.zero_add, Bool.false_eq_true, if_false, if_true, Bool.not_true, Bool.not_false, tSeq, tAsg, tOp, tVar, tC, tRet, tRetN, tNext, tDrop, tIfS, tB, tTest, tIf, tAnd, tOr, tNot, tAndV, tOrV, tNotV, tUn, tCons, tNil, tCall, tCB, tBM, tBM0, tNoPart, tPart, tSl, tCont, tNever, tTup, tLst, gName, gNil, gCons, gTup, gSub, rI, rI0, rU, rEq, rNe, rIxL, rSlL, rSetL, rLn, rLs, rTs, rIn, rSet0, tSAdd, rSAdd, rSIn, rSNotIn, rRep, rCat, rAppend, rPop, rPopAt, iList, iRng1, iRng2, iEnum, gTup, tIsN, tNotN, tTru, tLstRg, tRg1, tRg2, L2.start, List.map_cons, List.map_nil, List.length_cons, List.length_nil, List.replicate, List.cons_append, List.nil_append, List.getElem?_cons_zero, List.getElem?_cons_succ, List.set_cons_zero, List.set_cons_succ, Option.some.injEq, exists_eq_left', V.int.injEq, V.ref.injEq, V.bl.injEq, List.cons.injEq, exists_and_left, exists_and_right, and_true, true_and, exists_eq_left, exists_eq, Nat.reduceAdd, Nat.reduceSub]
    refine isi (.base (.int x)) (b := true) (by decide +kernel) ⟨true, rfl, ?_⟩
    rw [if_pos rfl]
    exact isi (.base (.int x)) (b := false) (by decide +kernel) ⟨_, rfl, q⟩
/-- a row that is one -/
def sp_is_row (K : PySem.W.Frag) : Sp := fun vs H Q _ => ∃ (a : Addr) (r : List Nat) (p m : Nat), vs = [.ref a, nv p, nv m] ∧ RowAt H a r ∧ r.Nodup ∧ (∀ x ∈ r, x < m ∧ x ≠ p) ∧ r.length ≤ 100 ∧ ∀ H', Same H H' → Q (.bl true) H'
theorem ok_is_row (T : Txt P K mg) : FnOk P w K mg base CX0 2 T.a_is_row T.fd_is_row ["row", "person", "many"] (sp_is_row K) := by
  have G_is_number : FnOk P w K mg base CX0 1 T.a_is_number T.fd_is_number ["value"] (sp_is_number K) := ok_is_number T
  refine T.F_is_row.ok sc_is_row (fun vs H Q E h => ?_) (fun cdv A outer s H vs Q E hr h => ?_)
  · obtain ⟨a, r, p, m, rfl, _⟩ := h
    rfl
  · obtain ⟨a, r, p, m, rfl, ha, hd, hin, hlen, q⟩ := h
    refine ⟨_, (pss_cons (ps_if (pt_not (pt_val (pe_callB (kisi (K := K)) (by rfl) T.m_isinstance (by decide +kernel) (pa_cons (pv 0) (pa_cons (pe_bltn (v := .ty "list") (by rfl) T.m_list (by decide +kernel) rfl) pa_nil))))) (pss_one (ps_ret pe_bl)) pss_nil)
      (C8.pss_cut (ps_set (i := 3) sc_is_row.nd rfl (.inl rfl) (pe_callTy0 cr_set0 (by rfl) T.m_set (by decide +kernel)))
      (C8.pss_cut (ps_for PassesOwn.never rfl (kpi_list (K := K) (pv 0)) (pg_name (i := 4) sc_is_row.nd rfl (.inl rfl)) (pss_cons (ps_if (PW.pt (pw_or (pt_not (pt_val (pe_call G_is_number (hr.mono (by decide)) (by rfl) T.g_is_number T.F_is_number.kp T.b_is_number .nil pass0 (pa_cons (pv 4) pa_nil)))) (pw_or (pt_cmpR op_lt (pv 4) pe_int (nomark _)) (pw_or1 (pt_cmpR op_ge (pv 4) (pv 2) (nomark _)))))) (pss_one (ps_ret pe_bl)) pss_nil)
      (pss_cons (ps_if (PW.pt (pw_or (pt_cmpR op_eq (pv 4) (pv 1) (nomark _)) (pw_or1 (pt_cmpR or_sin (pv 4) (pv 3) rfl)))) (pss_one (ps_ret pe_bl)) pss_nil)
      (pss_one (ps_expr (pe_sadd (pv 3) (pa_cons (pv 4) pa_nil)))))))
      (pss_one (ps_ret pe_bl))))), ?_⟩
    simp only [tLenSetI, cx_K, cx_w, wipe, Int.zero_add, Bool.false_eq_true, if_false, if_true, Bool.not_true, Bool.not_false, tSeq, tAsg, tOp, tVar, tC, tRet, tRetN, tNext, tDrop, tIfS, tB, tTest, tIf, tAnd, tOr, tNot, tAndV, tOrV, tNotV, tUn, tCons, tNil, tCall, tCB, tBM, tBM0, tNoPart, tPart, tSl, tCont, tNever, tTup, tLst, gName, gNil, gCons, gTup, gSub, rI, rI0, rU, rEq, rNe, rIxL, rSlL, rSetL, rLn, rLs, rTs, rIn, rSet0, tSAdd, rSAdd, rSIn, rSNotIn, rRep, rCat, rAppend, rPop, rPopAt, iList, iRng1, iRng2, iEnum, gTup, tIsN, tNotN, tTru, tLstRg, tRg1, tRg2, L2.start, List.map_cons, List.map_nil, List.length_cons, List.length_nil, List.replicate, List.cons_append, List.nil_append, List.getElem?_cons_zero, List.getElem?_cons_succ, List.set_cons_zero, List.set_cons_succ, Option.some.injEq, exists_eq_left', V.int.injEq, V.ref.injEq, V.bl.injEq, List.cons.injEq, exists_and_left, exists_and_right, and_true, true_and, exists_eq_left, exists_eq, Nat.reduceAdd, Nat.reduceSub]
    refine isi (.base (.lst ha)) (b := true) (by decide +kernel) ⟨true, rfl, ?_⟩
    refine iteF ⟨fun σ H' => ∃ d, H' = upd H d (SetO w d (fun _ => false) 0) ∧ H d = none ∧ σ = [some (.ref a), some (nv p), some (nv m), some (.ref d), none], ?_, fun σ H' hM => ?_⟩
    · simp only [tLenSetI, cx_K, cx_w, wipe, Int.zero_add, Bool.false_eq_true, if_false, if_true, Bool.not_true, Bool.not_false, tSeq, tAsg, tOp, tVar, tC, tRet, tRetN, tNext, tDrop, tIfS, tB, tTest, tIf, tAnd, tOr, tNot, tAndV, tOrV, tNotV, tUn, tCons, tNil, tCall, tCB, tBM, tBM0, tNoPart, tPart, tSl, tCont, tNever, tTup, tLst, gName, gNil, gCons, gTup, gSub, rI, rI0, rU, rEq, rNe, rIxL, rSlL, rSetL, rLn, rLs, rTs, rIn, rSet0, tSAdd, rSAdd, rSIn, rSNotIn, rRep, rCat, rAppend, rPop, rPopAt, iList, iRng1, iRng2, iEnum, gTup, tIsN, tNotN, tTru, tLstRg, tRg1, tRg2, L2.start, List.map_cons, List.map_nil, List.length_cons, List.length_nil, List.replicate, List.cons_append, List.nil_append, List.getElem?_cons_zero, List.getElem?_cons_succ, List.set_cons_zero, List.set_cons_succ, Option.some.injEq, exists_eq_left', V.int.injEq, V.ref.injEq, V.bl.injEq, List.cons.injEq, exists_and_left, exists_and_right, and_true, true_and, exists_eq_left, exists_eq, Nat.reduceAdd, Nat.reduceSub]
      exact fun d hd0 => ⟨d, rfl, hd0, rfl⟩
    obtain ⟨d, rfl, hd0, rfl⟩ := hM
    have s0 : Same H (upd H d (SetO w d (fun _ => false) 0)) := same_upd hd0
    refine ⟨fun σ H' => Same H H', ?_, fun σ H' e => q H' e⟩
    refine ⟨_, rfl, a, rfl, ⟨_, SqL.of (s0 _ _ ha)⟩, for_list (K := K) (xs := r.map nv)
      (fun i σ H' => ∃ y, σ = [some (.ref a), some (nv p), some (nv m), some (.ref d), y] ∧ Same H H' ∧ H' d = some (SetO w d (fun k => decide (k ∈ (r.take i).map Int.ofNat)) i))
      ⟨none, rfl, s0, ?_⟩ (fun i σ H' _ h => ?_) (fun i x σ H' hx h => ?_) (fun σ H' h => ?_)⟩
    · rw [upd_same]
      congr 1
    · obtain ⟨_, _, e, _⟩ := h
      exact SqL.of (e _ _ ha)
    · obtain ⟨y, rfl, e, hs⟩ := h
      rw [List.getElem?_map] at hx
      obtain ⟨z, hz, rfl⟩ := Option.map_eq_some_iff.mp hx
      obtain ⟨hi, e2⟩ := List.getElem?_eq_some_iff.mp hz
      obtain ⟨h1, h2⟩ := hin z (List.mem_of_getElem? hz)
      simp only [tLenSetI, cx_K, cx_w, wipe, Int.zero_add, Bool.false_eq_true, if_false, if_true, Bool.not_true, Bool.not_false, tSeq, tAsg, tOp, tVar, tC, tRet, tRetN, tNext, tDrop, tIfS, tB, tTest, tIf, tAnd, tOr, tNot, tAndV, tOrV, tNotV, tUn, tCons, tNil, tCall, tCB, tBM, tBM0, tNoPart, tPart, tSl, tCont, tNever, tTup, tLst, gName, gNil, gCons, gTup, gSub, rI, rI0, rU, rEq, rNe, rIxL, rSlL, rSetL, rLn, rLs, rTs, rIn, rSet0, tSAdd, rSAdd, rSIn, rSNotIn, rRep, rCat, rAppend, rPop, rPopAt, iList, iRng1, iRng2, iEnum, gTup, tIsN, tNotN, tTru, tLstRg, tRg1, tRg2, L2.start, List.map_cons, List.map_nil, List.length_cons, List.length_nil, List.replicate, List.cons_append, List.nil_append, List.getElem?_cons_zero, List.getElem?_cons_succ, List.set_cons_zero, List.set_cons_succ, Option.some.injEq, exists_eq_left', V.int.injEq, V.ref.injEq, V.bl.injEq, List.cons.injEq, exists_and_left, exists_and_right, and_true, true_and, exists_eq_left, exists_eq, Nat.reduceAdd, Nat.reduceSub]
      refine ⟨z, rfl, true, rfl, iteF ?_⟩
      have hnew : z ∉ r.take i := fun hm => by
        obtain ⟨j, hj, ej⟩ := List.getElem_of_mem hm
        rw [List.getElem_take] at ej
        rw [List.length_take] at hj
        have := (List.getElem_inj (h₁ := hi) (h₀ := (by omega : j < r.length)) hd).mp (by rw [ej, e2])
        omega
      rw [decide_eq_false (by omega)]
      refine iteF ?_
      rw [decide_eq_false (by omega)]
      refine iteF ⟨rfl, ?_⟩
      rw [decide_eq_false (by omega)]
      refine iteF ⟨_, ⟨_, hs⟩, ?_⟩
      have hnew' : ¬ ((z : Int) ∈ (r.take i).map Int.ofNat) := fun hm => by
        obtain ⟨v, hv, ev⟩ := List.mem_map.mp hm
        have : v = z := Int.ofNat.inj ev
        exact hnew (this ▸ hv)
      rw [if_neg (by simpa using hnew')]
      refine ⟨⟨_, _, hs⟩, _, _, hs, ?_, ?_, ?_⟩
      · exact Nat.lt_of_le_of_lt (by omega : i + 1 ≤ 1000) (by decide)
      · intro b o ho
        rw [upd_ne (ne_of_none ho hd0)]
        exact e b o ho
      · rw [upd_same, decide_eq_false hnew']
        simp only [Bool.false_eq_true, if_false]
        congr 2
        funext k
        rw [← Bool.decide_or]
        congr 1
        rw [List.take_add_one, hz, List.map_append]
        simp
    · obtain ⟨y, rfl, e, hs⟩ := h
      exact e
end
end K6g

set_option Elab.async false
set_option linter.all false
set_option maxRecDepth 100000
set_option maxHeartbeats 4000000
namespace K6g
open K6 PySem PySem.Spec PyProof.Rows L2 LamX Bk
section
variable {P : Program} {w : World} {K : PySem.W.Frag} {mg : Str → Option Value} {base : Heap}

/-- lists that are ones -/
def sp_check_lists (K : PySem.W.Frag) : Sp := fun vs H Q _ => ∃ (t : Addr) (as : List Addr) (rows : List (List Nat)), vs = [.ref t] ∧ Tbl H t as rows ∧ GL rows ∧ rows.length ≤ 60 ∧ ∀ H', Same H H' → Q .non H'
theorem ok_check_lists (T : Txt P K mg) : FnOk P w K mg base CX0 3 T.a_check_lists T.fd_check_lists ["lists"] (sp_check_lists K) := by
  have G_is_row : FnOk P w K mg base CX0 2 T.a_is_row T.fd_is_row ["row", "person", "many"] (sp_is_row K) := ok_is_row T
  refine T.F_check_lists.ok sc_check_lists (fun vs H Q E h => ?_) (fun cdv A outer s H vs Q E hr h => ?_)
  · obtain ⟨t, as, rows, rfl, _⟩ := h
    rfl
  · obtain ⟨t, as, rows, rfl, TB, g, hlen, q⟩ := h
    refine ⟨_, (C8.pss_cut (ps_if (PW.pt (pw_or (pt_not (pt_val (pe_callB (kisi (K := K)) (by rfl) T.m_isinstance (by decide +kernel) (pa_cons (pv 0) (pa_cons (pe_bltn (v := .ty "list") (by rfl) T.m_list (by decide +kernel) rfl) pa_nil))))) (pw_or1 (pt_cmpR op_gt (pe_callB (klen (K := K)) (by rfl) T.m_len (by decide +kernel) (pa_cons (pv 0) pa_nil)) (pe_glob (v := .int 60) rfl T.mostG ⟨_, rfl⟩) (nomark _))))) (pss_one ps_never) pss_nil)
      (pss_one (ps_for PassesOwn.never rfl (kpi_enum (K := K) (by rfl) T.m_enumerate (pa_cons (pv 0) pa_nil)) (kpg_tup (K := K) (n := 2) rfl (pgs_cons (pg_name (i := 1) sc_check_lists.nd rfl (.inl rfl)) (pgs_cons (pg_name (i := 2) sc_check_lists.nd rfl (.inl rfl)) pgs_nil))) (pss_one (ps_if (pt_not (pt_val (pe_call G_is_row (hr.mono (by decide)) (by rfl) T.g_is_row T.F_is_row.kp T.b_is_row .nil pass0 (pa_cons (pv 2) (pa_cons (pv 1) (pa_cons (pe_callB (klen (K := K)) (by rfl) T.m_len (by decide +kernel) (pa_cons (pv 0) pa_nil)) pa_nil)))))) (pss_one ps_never) pss_nil))))), ?_⟩
    simp only [tLenSetI, cx_K, cx_w, wipe, Int.zero_add, Bool.false_eq_true, if_false, if_true, Bool.not_true, Bool.not_false, tSeq, tAsg, tOp, tVar, tC, tRet, tRetN, tNext, tDrop, tIfS, tB, tTest, tIf, tAnd, tOr, tNot, tAndV, tOrV, tNotV, tUn, tCons, tNil, tCall, tCB, tBM, tBM0, tNoPart, tPart, tSl, tCont, tNever, tTup, tLst, gName, gNil, gCons, gTup, gSub, rI, rI0, rU, rEq, rNe, rIxL, rSlL, rSetL, rLn, rLs, rTs, rIn, rSet0, tSAdd, rSAdd, rSIn, rSNotIn, rRep, rCat, rAppend, rPop, rPopAt, iList, iRng1, iRng2, iEnum, gTup, tIsN, tNotN, tTru, tLstRg, tRg1, tRg2, L2.start, List.map_cons, List.map_nil, List.length_cons, List.length_nil, List.replicate, List.cons_append, List.nil_append, List.getElem?_cons_zero, List.getElem?_cons_succ, List.set_cons_zero, List.set_cons_succ, Option.some.injEq, exists_eq_left', V.int.injEq, V.ref.injEq, V.bl.injEq, List.cons.injEq, exists_and_left, exists_and_right, and_true, true_and, exists_eq_left, exists_eq, Nat.reduceAdd, Nat.reduceSub]
    refine ⟨fun σ H' => H' = H ∧ σ = [some (.ref t), none, none], ?_, fun σ H' hM => ?_⟩
    · simp only [tLenSetI, cx_K, cx_w, wipe, Int.zero_add, Bool.false_eq_true, if_false, if_true, Bool.not_true, Bool.not_false, tSeq, tAsg, tOp, tVar, tC, tRet, tRetN, tNext, tDrop, tIfS, tB, tTest, tIf, tAnd, tOr, tNot, tAndV, tOrV, tNotV, tUn, tCons, tNil, tCall, tCB, tBM, tBM0, tNoPart, tPart, tSl, tCont, tNever, tTup, tLst, gName, gNil, gCons, gTup, gSub, rI, rI0, rU, rEq, rNe, rIxL, rSlL, rSetL, rLn, rLs, rTs, rIn, rSet0, tSAdd, rSAdd, rSIn, rSNotIn, rRep, rCat, rAppend, rPop, rPopAt, iList, iRng1, iRng2, iEnum, gTup, tIsN, tNotN, tTru, tLstRg, tRg1, tRg2, L2.start, List.map_cons, List.map_nil, List.length_cons, List.length_nil, List.replicate, List.cons_append, List.nil_append, List.getElem?_cons_zero, List.getElem?_cons_succ, List.set_cons_zero, List.set_cons_succ, Option.some.injEq, exists_eq_left', V.int.injEq, V.ref.injEq, V.bl.injEq, List.cons.injEq, exists_and_left, exists_and_right, and_true, true_and, exists_eq_left, exists_eq, Nat.reduceAdd, Nat.reduceSub]
      refine isi (.base (.lst TB.top)) (b := true) (by decide +kernel) ⟨true, rfl, iteF ⟨_, .inl (SqL.of TB.top), ?_⟩⟩
      rw [if_neg (by simp [TB.len]; omega)]
    · obtain ⟨rfl, rfl⟩ := hM
      refine ⟨.ref t, rfl, t, _, rfl, SqL.of TB.top, for_enum (K := K) (xs := as.map V.ref) (fun i σ H2 => ∃ y1 y2, σ = [some (.ref t), y1, y2] ∧ Same H' H2) ⟨none, none, rfl, Same.refl _⟩
        (fun i σ H2 _ h => ?_) (fun i x σ H2 T hx hT h => ?_) (fun σ H2 h => ?_)⟩
      · obtain ⟨_, _, _, e⟩ := h
        exact SqL.of (e _ _ TB.top)
      · obtain ⟨y1, y2, rfl, e⟩ := h
        rw [List.getElem?_map] at hx
        obtain ⟨a, ha, rfl⟩ := Option.map_eq_some_iff.mp hx
        have hi : i < rows.length := by
          have := (List.getElem?_eq_some_iff.mp ha).1
          rw [TB.len] at this; exact this
        have e2 : Same H' (upd H2 T (.tup [.int (i : Nat), .ref a])) := same_upd2 e (e.free hT)
        simp only [tLenSetI, cx_K, cx_w, wipe, Int.zero_add, Bool.false_eq_true, if_false, if_true, Bool.not_true, Bool.not_false, tSeq, tAsg, tOp, tVar, tC, tRet, tRetN, tNext, tDrop, tIfS, tB, tTest, tIf, tAnd, tOr, tNot, tAndV, tOrV, tNotV, tUn, tCons, tNil, tCall, tCB, tBM, tBM0, tNoPart, tPart, tSl, tCont, tNever, tTup, tLst, gName, gNil, gCons, gTup, gSub, rI, rI0, rU, rEq, rNe, rIxL, rSlL, rSetL, rLn, rLs, rTs, rIn, rSet0, tSAdd, rSAdd, rSIn, rSNotIn, rRep, rCat, rAppend, rPop, rPopAt, iList, iRng1, iRng2, iEnum, gTup, tIsN, tNotN, tTru, tLstRg, tRg1, tRg2, L2.start, List.map_cons, List.map_nil, List.length_cons, List.length_nil, List.replicate, List.cons_append, List.nil_append, List.getElem?_cons_zero, List.getElem?_cons_succ, List.set_cons_zero, List.set_cons_succ, Option.some.injEq, exists_eq_left', V.int.injEq, V.ref.injEq, V.bl.injEq, List.cons.injEq, exists_and_left, exists_and_right, and_true, true_and, exists_eq_left, exists_eq, Nat.reduceAdd, Nat.reduceSub]
        refine ⟨_, SqT.of upd_same, rfl, _, _, rfl, _, _, rfl, rfl, _, .inl (SqL.of (e2 _ _ TB.top)), ?_⟩
        refine ⟨a, fn rows i, i, rows.length, by rw [List.length_map, TB.len], e2 _ _ (TB.row i a _ ha (fn_at hi)), g.nd i, fun x hx => (g.lt hx).2, by have := g.len i; omega, fun H3 e3 => ⟨true, rfl, iteF ⟨⟨_, rfl⟩, e2.trans e3⟩⟩⟩
      · obtain ⟨_, _, _, e⟩ := h
        exact q _ e
end
end K6g

set_option Elab.async false
set_option linter.all false
set_option maxRecDepth 100000
set_option maxHeartbeats 4000000
namespace K6g
open K6 PySem PySem.Spec PyProof.Rows L2 LamX Bk
section
variable {P : Program} {w : World} {K : PySem.W.Frag} {mg : Str → Option Value} {base : Heap}

/-- what a dict of places tells -/
def PlaceD (kvs : List (L2.Key × V)) (r : List Nat) : Prop := ∀ x : Nat, valV kvs (Sum.inl (x : Int)) = if x ∈ r then some (nv (r.idxOf x)) else none
/-- the places of each one on each row -/
def PlacesAt (H : Hp) (p : Addr) (ds : List Addr) (rows : List (List Nat)) : Prop :=
  H p = some (.lst (ds.map V.ref)) ∧ ds.length = rows.length ∧ ∀ (i : Nat) (d : Addr), ds[i]? = some d → ∃ kvs, H d = some (.dK kvs) ∧ PlaceD kvs (fn rows i)
def sp_places_in (K : PySem.W.Frag) : Sp := fun vs H Q _ => ∃ (t : Addr) (as : List Addr) (rows : List (List Nat)), vs = [.ref t] ∧ Tbl H t as rows ∧ (∀ i, (fn rows i).Nodup) ∧ (∀ i, (fn rows i).length ≤ 100) ∧ rows.length ≤ 100 ∧
  ∀ H' p ds, Same H H' → PlacesAt H' p ds rows → Q (.ref p) H'
theorem place_step {r : List Nat} (hd : r.Nodup) {j z : Nat} (hz : r[j]? = some z) {kvs : List (L2.Key × V)} (h : ∀ x : Nat, valV kvs (Sum.inl (x : Int)) = if x ∈ r.take j then some (nv (r.idxOf x)) else none) :
    ∀ x : Nat, valV (putK kvs (Sum.inl (z : Int)) (nv j)) (Sum.inl (x : Int)) = if x ∈ r.take (j + 1) then some (nv (r.idxOf x)) else none := fun x => by
  rw [valV_put, h x]
  have et : r.take (j + 1) = r.take j ++ [z] := by rw [List.take_add_one, hz]; rfl
  obtain ⟨hj, ej⟩ := List.getElem?_eq_some_iff.mp hz
  by_cases e : x = z
  · subst e
    rw [if_pos rfl, if_pos (by rw [et]; simp)]
    rw [show r.idxOf x = j by rw [← ej]; exact hd.idxOf_getElem _ hj]
  · rw [if_neg (fun q => e (by have := Sum.inl.inj q; omega))]
    have : (x ∈ r.take (j + 1)) = (x ∈ r.take j) := by rw [et]; simp [e]
    simp only [this]
theorem ok_places_in (T : Txt P K mg) : FnOk P w K mg base CX0 1 T.a_places_in T.fd_places_in ["rows"] (sp_places_in K) := by
  refine T.F_places_in.ok sc_places_in (fun vs H Q E h => ?_) (fun cdv A outer s H vs Q E hr h => ?_)
  · obtain ⟨t, as, rows, rfl, _⟩ := h
    rfl
  · obtain ⟨t, as, rows, rfl, TB, gnd, glen, hlen, q⟩ := h
    refine ⟨_, (pss_one (ps_ret (pe_lc (own := [("row", 3)]) rfl sc_places_in.nd (kpi_list (K := K) (pv 0)) (blkOk_by (own := [("row", 3)]) (N := ["rows", "place", "other", "row"]) (sc := (defScope s_places_in)) (by decide +kernel)) (fun _ _ _ _ _ => (pg_name (i := 3) sc_places_in.nd rfl (by first | exact .inl rfl | exact .inr rfl))) (fun _ _ _ _ _ => pts_nil) (fun _ _ _ _ _ => (pe_dc (own := [("place", 1), ("other", 2)]) rfl sc_places_in.nd (kpi_enum (K := K) (by rfl) T.m_enumerate (pa_cons (pv 3) pa_nil)) (blkOk_by (own := [("place", 1), ("other", 2)]) (N := ["rows", "place", "other", "row"]) (sc := (relS (lcS (retE s_places_in)) (defScope s_places_in))) (by decide +kernel)) (fun _ _ _ _ _ => (kpg_tup (K := K) (n := 2) rfl (pgs_cons (pg_name (i := 1) sc_places_in.nd rfl (by first | exact .inl rfl | exact .inr rfl)) (pgs_cons (pg_name (i := 2) sc_places_in.nd rfl (by first | exact .inl rfl | exact .inr rfl)) pgs_nil)))) (fun _ _ _ _ _ => pts_nil) (fun _ _ _ _ _ => (pv 2)) (fun _ _ _ _ _ => (pv 1))))))), ?_⟩
    refine ⟨_, rfl, t, rfl, ⟨_, SqL.of TB.top⟩, fun D hD => lc_list (K := K) (xs := as.map V.ref)
      (fun i H2 => Same H H2 ∧ ∃ ds, H2 D = some (.lst (ds.map V.ref)) ∧ ds.length = i ∧ ∀ (j : Nat) (d : Addr), ds[j]? = some d → ∃ kvs, H2 d = some (.dK kvs) ∧ PlaceD kvs (fn rows j))
      ⟨same_upd hD, [], upd_same, rfl, fun j d e => by simp at e⟩ (fun i H2 _ h => h.1.seq (SqL.of TB.top)) (fun i x H2 hx h => ?_) (fun H2 h => ?_)⟩
    · obtain ⟨e, ds, hds, hlen2, hall⟩ := h
      rw [List.getElem?_map] at hx
      obtain ⟨a, ha, rfl⟩ := Option.map_eq_some_iff.mp hx
      have hi : i < rows.length := by
        have := (List.getElem?_eq_some_iff.mp ha).1
        rw [TB.len] at this; exact this
      have hra : H2 a = some (.lst ((fn rows i).map nv)) := e _ _ (TB.row i a _ ha (fn_at hi))
      refine ⟨rfl, ?_⟩
      refine yesI ⟨_, rfl, a, _, rfl, SqL.of hra, fun d hd => dc_enum (K := K) (xs := (fn rows i).map nv)
        (fun j H3 => Same H2 H3 ∧ ∃ kvs, H3 d = some (.dK kvs) ∧ kvs.length ≤ j ∧ ∀ x : Nat, valV kvs (Sum.inl (x : Int)) = if x ∈ (fn rows i).take j then some (nv ((fn rows i).idxOf x)) else none)
        ⟨same_upd hd, [], upd_same, Nat.le_refl _, fun x => by simp [valV_nil]⟩ (fun j H3 _ h => h.1.seq (SqL.of hra)) (fun j x H3 T3 hx hT h => ?_) (fun H3 h => ?_)⟩
      · obtain ⟨e3, kvs, hk, hkl, hv⟩ := h
        rw [List.getElem?_map] at hx
        obtain ⟨z, hz, rfl⟩ := Option.map_eq_some_iff.mp hx
        have hj := (List.getElem?_eq_some_iff.mp hz).1
        refine ⟨T3, _, rfl, SqT.of upd_same, rfl, _, _, rfl, _, _, rfl, rfl, rfl, ?_⟩
        refine yesI ⟨_, rfl, _, rfl, kvs, Sum.inl (z : Int), rfl, ?_, ?_, ?_⟩
        · rw [upd_ne (ne_of_none hk hT)]; exact hk
        · exact small (by have := glen i; omega)
        · refine ⟨fun b o ho => ?_, _, upd_same, ?_, ?_⟩
          · rw [upd_ne (ne_of_none ho hd), upd_ne (ne_of_none (e3 _ _ ho) hT)]
            exact e3 _ _ ho
          · exact Nat.le_trans (length_putK _ _ _) (by omega)
          · exact place_step (gnd i) hz hv
      · obtain ⟨e3, kvs, hk, hkl, hv⟩ := h
        have nDd : D ≠ d := ne_of_none hds hd
        refine ⟨ds.map V.ref, e3 _ _ hds, ?_, fun b o ho => ?_, ds ++ [d], ?_, ?_, fun j d' hj => ?_⟩
        · rw [List.length_map, hlen2]; exact small (by omega)
        · rw [upd_ne (ne_of_none ho hD)]
          exact e3 _ _ (e _ _ ho)
        · rw [upd_same]; simp
        · simp [hlen2]
        · by_cases hlt : j < ds.length
          · rw [List.getElem?_append_left hlt] at hj
            obtain ⟨kv, h1, h2⟩ := hall j d' hj
            refine ⟨kv, ?_, h2⟩
            rw [upd_ne (ne_of (e3 _ _ h1) (e3 _ _ hds) (by intro z; cases z))]
            exact e3 _ _ h1
          · rw [List.getElem?_append_right (by omega)] at hj
            have hj0 : j - ds.length = 0 := by
              have := (List.getElem?_eq_some_iff.mp hj).1
              simp at this; omega
            rw [hj0] at hj
            have : d = d' := by simpa using hj
            subst this
            refine ⟨kvs, by rw [upd_ne (Ne.symm nDd)]; exact hk, fun x => ?_⟩
            have : j = i := by omega
            subst this
            have := hv x
            rw [List.length_map, List.take_length] at this
            exact this
    · obtain ⟨e, ds, hds, hlen2, hall⟩ := h
      refine q H2 D ds e ⟨hds, ?_, hall⟩
      rw [hlen2, List.length_map, TB.len]
end
end K6g

set_option Elab.async false
set_option linter.all false
set_option maxRecDepth 100000
set_option maxHeartbeats 4000000
namespace K6g
open K6 PySem PySem.Spec PyProof.Rows L2 LamX Bk
section
variable {P : Program} {w : World} {K : PySem.W.Frag} {mg : Str → Option Value} {base : Heap}

def sp_mutual (K : PySem.W.Frag) : Sp := fun vs H Q _ => ∃ (t : Addr) (as : List Addr) (rows : List (List Nat)), vs = [.ref t] ∧ Tbl H t as rows ∧ GL rows ∧ rows.length ≤ 60 ∧
  ∀ H' p as', Same H H' → H p = none → (∀ a ∈ as', H a = none) → Tbl H' p as' (mutL rows) → Q (.ref p) H'
theorem ok_mutual (T : Txt P K mg) : FnOk P w K mg base CX0 4 T.a_mutual T.fd_mutual ["lists"] (sp_mutual K) := by
  have G_check_lists : FnOk P w K mg base CX0 3 T.a_check_lists T.fd_check_lists ["lists"] (sp_check_lists K) := ok_check_lists T
  have G_places_in : FnOk P w K mg base CX0 1 T.a_places_in T.fd_places_in ["rows"] (sp_places_in K) := ok_places_in T
  refine T.F_mutual.ok sc_mutual (fun vs H Q E h => ?_) (fun cdv A outer s H vs Q E hr h => ?_)
  · obtain ⟨t, as, rows, rfl, _⟩ := h
    rfl
  · obtain ⟨t, as, rows, rfl, TB, g, hlen, q⟩ := h
    refine ⟨_, (pss_cons (ps_expr (pe_call G_check_lists (hr.mono (by decide)) (by rfl) T.g_check_lists T.F_check_lists.kp T.b_check_lists .nil pass0 (pa_cons (pv 0) pa_nil)))
      (pss_cons (ps_set (i := 1) sc_mutual.nd rfl (.inr rfl) (pe_call G_places_in (hr.mono (by decide)) (by rfl) T.g_places_in T.F_places_in.kp T.b_places_in .nil pass0 (pa_cons (pv 0) pa_nil)))
      (pss_one (ps_ret (pe_lc (own := [("person", 3), ("row", 4)]) rfl sc_mutual.nd (kpi_enum (K := K) (by rfl) T.m_enumerate (pa_cons (pv 0) pa_nil)) (blkOk_by (own := [("person", 3), ("row", 4)]) (N := ["lists", "places", "other", "person", "row"]) (sc := (defScope s_mutual)) (by decide +kernel)) (fun _ _ _ _ _ => (kpg_tup (K := K) (n := 2) rfl (pgs_cons (pg_name (i := 3) sc_mutual.nd rfl (by first | exact .inl rfl | exact .inr rfl)) (pgs_cons (pg_name (i := 4) sc_mutual.nd rfl (by first | exact .inl rfl | exact .inr rfl)) pgs_nil)))) (fun _ _ _ _ _ => pts_nil) (fun _ _ _ _ _ => (pe_lc (own := [("other", 2)]) rfl sc_mutual.nd (kpi_list (K := K) (pv 4)) (blkOk_by (own := [("other", 2)]) (N := ["lists", "places", "other", "person", "row"]) (sc := (relS (lcS (retE s_mutual)) (defScope s_mutual))) (by decide +kernel)) (fun _ _ _ _ _ => (pg_name (i := 2) sc_mutual.nd rfl (by first | exact .inl rfl | exact .inr rfl))) (fun _ _ _ _ _ => (pts_one (pt_cmp (pc_din (hu_of hr) (pv 3) (pe_ix (kix_list (K := K)) (pv 1) (pv 2) (fun _ _ => rfl)))))) (fun _ _ _ _ _ => (pv 2))))))))), ?_⟩
    refine ⟨_, rfl, t, as, rows, rfl, TB, g, hlen, fun H1 e1 => ?_⟩
    refine ⟨_, rfl, t, as, rows, rfl, TB.same e1, g.nd, fun i => by have := g.len i; omega, by omega, fun H2 pl ds e2 hP => ?_⟩
    have e : Same H H2 := e1.trans e2
    obtain ⟨hp1, hp2, hp3⟩ := hP
    refine ⟨_, rfl, t, _, rfl, SqL.of (e _ _ TB.top), fun D hD => lc_enum (K := K) (xs := as.map V.ref)
      (fun i H3 => Same H2 H3 ∧ ∃ as', (∀ a ∈ as', H a = none) ∧ Tbl H3 D as' ((mutL rows).take i))
      ⟨same_upd hD, [], (fun a ha => by simp at ha), by rw [List.take_zero]; exact Tbl.nil upd_same⟩ (fun i H3 _ h => h.1.seq (SqL.of (e _ _ TB.top))) (fun i x H3 T3 hx hT h => ?_) (fun H3 h => ?_)⟩
    · obtain ⟨e3, as', hn, TF⟩ := h
      rw [List.getElem?_map] at hx
      obtain ⟨a, ha, rfl⟩ := Option.map_eq_some_iff.mp hx
      have hi : i < rows.length := by
        have := (List.getElem?_eq_some_iff.mp ha).1
        rw [TB.len] at this; exact this
      have e4 : Same H2 (upd H3 T3 (.tup [.int (i : Nat), .ref a])) := same_upd2 e3 (e3.free hT)
      have hra : upd H3 T3 (.tup [.int (i : Nat), .ref a]) a = some (.lst ((fn rows i).map nv)) := e4 _ _ (e _ _ (TB.row i a _ ha (fn_at hi)))
      refine ⟨T3, _, rfl, SqT.of upd_same, rfl, _, _, rfl, _, _, rfl, rfl, rfl, ?_⟩
      refine yesI ⟨_, rfl, a, rfl, ⟨_, SqL.of hra⟩, fun D2 hD2 => lc_keep (r := fn rows i) (fun o => decide (i ∈ fn rows o)) hD2 (SqL.of hra) (by simp [wipe_length, L2.start]) (by have := g.len i; omega) (fun x hx H5 Qt e5 hq => ?_) ?_⟩
      · have hxl := (g.lt hx).2.1
        have hxd : x < ds.length := by rw [hp2]; exact hxl
        obtain ⟨kvs, hk, hpd⟩ := hp3 x ds[x] (List.getElem?_eq_getElem hxd)
        refine ⟨_, rfl, _, rfl, _, rfl, pl, _, _, .ref ds[x], rfl, rfl, SqL.of (e5 _ _ (e4 _ _ hp1)), ?_, ds[x], _, rfl, DGet.k (k := Sum.inl (i : Int)) (e5 _ _ (e4 _ _ hk)), _, rfl, ?_⟩
        · exact atI_nat (by rw [List.getElem?_map, List.getElem?_eq_getElem hxd]; rfl)
        · rw [hpd i]
          by_cases hm : i ∈ fn rows x
          · rw [if_pos hm]
            rw [decide_eq_true hm] at hq
            exact hq
          · rw [if_neg hm]
            rw [decide_eq_false hm] at hq
            exact hq
      · have TF4 : Tbl (upd H3 T3 (.tup [.int (i : Nat), .ref a])) D as' ((mutL rows).take i) := TF.upd_new hT
        have nD : D ≠ D2 := ne_of_none TF4.top hD2
        refine ⟨as'.map V.ref, by rw [upd_ne nD]; exact TF4.top, ?_, ?_, as' ++ [D2], fun b hb => ?_, ?_⟩
        · rw [List.length_map, TF.len]
          exact small (by rw [List.length_take]; omega)
        · intro b o ho
          rw [upd_ne (ne_of_none ho hD), upd_ne (ne_of_none (e4 _ _ ho) hD2)]
          exact e4 b o ho
        · rcases List.mem_append.mp hb with z | z
          · exact hn b z
          · have : b = D2 := by simpa using z
            subst this
            exact e.free (e4.free hD2)
        · have et : (mutL rows).take (i + 1) = (mutL rows).take i ++ [mutF rows i] := by rw [List.take_add_one, mutL_at hi]; rfl
          rw [et]
          have := (TF4.upd_new (o := .lst ((mutF rows i).map nv)) hD2).snoc (a := D2) (r := mutF rows i) upd_same (Ne.symm nD) (TF4.fresh hD2).1
          rw [List.map_append] at this
          exact this
    · obtain ⟨e3, as', hn, TF⟩ := h
      rw [List.length_map, TB.len, List.take_of_length_le (by rw [mutL_len]; exact Nat.le_refl _)] at TF
      exact q H3 D as' (e.trans e3) (e.free hD) hn TF
end
end K6g

set_option Elab.async false
set_option linter.all false
set_option maxRecDepth 100000
set_option maxHeartbeats 4000000
namespace K6g
open K6 PySem PySem.Spec PyProof.Rows L2 LamX Bk
section
variable {P : Program} {w : World} {K : PySem.W.Frag} {mg : Str → Option Value} {base : Heap}

def sp_cut (K : PySem.W.Frag) : Sp := fun vs H Q _ => ∃ (t : Addr) (as : List Addr) (n b p : Nat) (C : Nat → List Nat), vs = [.ref t, nv b, nv p] ∧ Tbl H t as (mkL n C) ∧ b < n ∧ p ∈ C b ∧ (∀ i, (C i).Nodup) ∧ (∀ q ∈ C b, b ∈ C q ∧ q < n ∧ q ≠ b) ∧ (C b).length ≤ 100 ∧
  ∀ H', Tbl H' t as (mkL n (cut C b p)) → (∀ x o, x ∉ as → H x = some o → H' x = some o) → Q .non H'
theorem ok_cut (T : Txt P K mg) : FnOk P w K mg base CX0 1 T.a_cut_behind T.fd_cut_behind ["rows", "person", "kept"] (sp_cut K) := by
  refine T.F_cut_behind.ok sc_cut_behind (fun vs H Q E h => ?_) (fun cdv A outer s H vs Q E hr h => ?_)
  · obtain ⟨t, as, n, b, p, C, rfl, _⟩ := h
    rfl
  · obtain ⟨t, as, n, b, p, C, rfl, TB, hb, hp, nd, hm, hlen, q⟩ := h
    refine ⟨_, (pss_cons (ps_set (i := 3) sc_cut_behind.nd rfl (.inl rfl) (pe_ix (kix_list (K := K)) (pv 0) (pv 1) (fun _ _ => rfl)))
      (pss_cons (ps_set (i := 4) sc_cut_behind.nd rfl (.inl rfl) (pe_op op_add (pe_bm PySem.F.plainAttrs_list PySem.F.slot_list_index PySem.F.type_list_index mt_index (pv 3) (pa_cons (pv 2) pa_nil)) pe_int))
      (pss_cons (ps_set (i := 5) sc_cut_behind.nd rfl (.inl rfl) (pe_slice (ksl_list (K := K)) (pv 3) (po_some (pv 4)) po_none))
      (C8.pss_cut (ps_delTail (pv 3) (pv 4))
      (pss_one (ps_for PassesOwn.never rfl (kpi_list (K := K) (pv 5)) (pg_name (i := 6) sc_cut_behind.nd rfl (.inl rfl)) (pss_one (ps_expr (pe_bm PySem.F.plainAttrs_list PySem.F.slot_list_remove PySem.F.type_list_remove mt_remove (pe_ix (kix_list (K := K)) (pv 0) (pv 6) (fun _ _ => rfl)) (pa_cons (pv 1) pa_nil)))))))))), ?_⟩
    obtain ⟨a, ha, hra, hat, ham⟩ := TB.at (show b < (mkL n C).length by rw [mkL_len]; exact hb)
    rw [fn_mkL hb] at hra
    have hk := idxOf_lt_of_mem hp
    simp only [tLenSetI, cx_K, cx_w, wipe, Int.zero_add, Bool.false_eq_true, if_false, if_true, Bool.not_true, Bool.not_false, tSeq, tAsg, tOp, tVar, tC, tRet, tRetN, tNext, tDrop, tIfS, tB, tTest, tIf, tAnd, tOr, tNot, tAndV, tOrV, tNotV, tUn, tCons, tNil, tCall, tCB, tBM, tBM0, tNoPart, tPart, tSl, tCont, tNever, tTup, tLst, gName, gNil, gCons, gTup, gSub, rI, rI0, rU, rEq, rNe, rIxL, rSlL, rSetL, rLn, rLs, rTs, rIn, rSet0, tSAdd, rSAdd, rSIn, rSNotIn, rRep, rCat, rAppend, rPop, rPopAt, iList, iRng1, iRng2, iEnum, gTup, tIsN, tNotN, tTru, tLstRg, tRg1, tRg2, L2.start, List.map_cons, List.map_nil, List.length_cons, List.length_nil, List.replicate, List.cons_append, List.nil_append, List.getElem?_cons_zero, List.getElem?_cons_succ, List.set_cons_zero, List.set_cons_succ, Option.some.injEq, exists_eq_left', V.int.injEq, V.ref.injEq, V.bl.injEq, List.cons.injEq, exists_and_left, exists_and_right, and_true, true_and, exists_eq_left, exists_eq, Nat.reduceAdd, Nat.reduceSub]
    refine ⟨_, SqL.of TB.top, _, TB.atI ha, .inl ⟨rfl, _, SqL.of hra⟩, index_nv (SqL.of hra) hp ⟨_, rfl, ?_⟩⟩
    refine ⟨a, rfl, _, SqL.of hra, fun g hg => ?_⟩
    have ek : ((C b).idxOf p : Int) + 1 = (((C b).idxOf p + 1 : Nat) : Int) := rfl
    rw [ek, cutV_drop, ← List.map_drop]
    have nga : a ≠ g := ne_of_none hra hg
    have ngt : t ≠ g := ne_of_none TB.top hg
    refine ⟨fun σ H' => σ = [some (.ref t), some (nv b), some (nv p), some (.ref a), some (nv ((C b).idxOf p + 1)), some (.ref g), none] ∧ H' = upd (upd H g (.lst (((C b).drop ((C b).idxOf p + 1)).map nv))) a (.lst (((C b).take ((C b).idxOf p + 1)).map nv)), ?_, fun σ H' hM => ?_⟩
    · refine ⟨.ref a, rfl, nv ((C b).idxOf p + 1), rfl, a, (C b).map nv, (C b).idxOf p + 1, rfl, rfl, by rw [upd_ne nga]; exact hra, by rw [List.length_map]; omega, rfl, ?_⟩
      rw [← List.map_take]
    obtain ⟨rfl, rfl⟩ := hM
    have TB1 : Tbl (upd H g (.lst (((C b).drop ((C b).idxOf p + 1)).map nv))) t as (mkL n C) := TB.upd_new hg
    have TB2 := TB1.write ha ((C b).take ((C b).idxOf p + 1))
    rw [mkL_set] at TB2
    have hga : g ∉ as := (TB.fresh hg).1
    -- the rows behind i turns
    refine ⟨_, rfl, g, rfl, ⟨_, SqL.of (by rw [upd_ne (Ne.symm nga), upd_same])⟩, for_list (K := K) (xs := ((C b).drop ((C b).idxOf p + 1)).map nv)
      (fun i σ H' => ∃ y, σ = [some (.ref t), some (nv b), some (nv p), some (.ref a), some (nv ((C b).idxOf p + 1)), some (.ref g), y] ∧ H' g = some (.lst (((C b).drop ((C b).idxOf p + 1)).map nv)) ∧
        Tbl H' t as (mkL n fun j => if j = b then (C b).take ((C b).idxOf p + 1) else if j ∈ ((C b).drop ((C b).idxOf p + 1)).take i then (C j).erase b else C j) ∧ (∀ x o, x ∉ as → H x = some o → H' x = some o))
      ⟨none, rfl, by rw [upd_ne (Ne.symm nga), upd_same], by simpa using TB2, fun x o hx ho => ?_⟩ (fun i σ H' _ h => ?_) (fun i x σ H' hx h => ?_) (fun σ H' h => ?_)⟩
    · rw [upd_ne (fun e => hx (by rw [e]; exact ham)), upd_ne (ne_of_none ho hg)]
      exact ho
    · obtain ⟨_, _, e, _⟩ := h
      exact SqL.of e
    · obtain ⟨y, rfl, hgl, TC, hfr⟩ := h
      rw [List.getElem?_map] at hx
      obtain ⟨z, hz, rfl⟩ := Option.map_eq_some_iff.mp hx
      obtain ⟨hi, ez⟩ := List.getElem?_eq_some_iff.mp hz
      have hzd : z ∈ (C b).drop ((C b).idxOf p + 1) := List.mem_of_getElem? hz
      have hzb := List.mem_of_mem_drop hzd
      obtain ⟨m1, m2, m3⟩ := hm z hzb
      have ndd : ((C b).drop ((C b).idxOf p + 1)).Nodup := (nd b).sublist (List.drop_sublist _ _)
      have hnew : z ∉ ((C b).drop ((C b).idxOf p + 1)).take i := fun hmm => by
        obtain ⟨j, hj, ej⟩ := List.getElem_of_mem hmm
        rw [List.getElem_take] at ej
        rw [List.length_take] at hj
        have := (List.getElem_inj (h₁ := hi) (h₀ := (by omega : j < _)) ndd).mp (by rw [ej, ez])
        omega
      obtain ⟨c, hc, hrc, hct, hcm⟩ := TC.at (show z < (mkL n _).length by rw [mkL_len]; exact m2)
      rw [fn_mkL m2, if_neg m3, if_neg hnew] at hrc
      simp only [tLenSetI, cx_K, cx_w, wipe, Int.zero_add, Bool.false_eq_true, if_false, if_true, Bool.not_true, Bool.not_false, tSeq, tAsg, tOp, tVar, tC, tRet, tRetN, tNext, tDrop, tIfS, tB, tTest, tIf, tAnd, tOr, tNot, tAndV, tOrV, tNotV, tUn, tCons, tNil, tCall, tCB, tBM, tBM0, tNoPart, tPart, tSl, tCont, tNever, tTup, tLst, gName, gNil, gCons, gTup, gSub, rI, rI0, rU, rEq, rNe, rIxL, rSlL, rSetL, rLn, rLs, rTs, rIn, rSet0, tSAdd, rSAdd, rSIn, rSNotIn, rRep, rCat, rAppend, rPop, rPopAt, iList, iRng1, iRng2, iEnum, gTup, tIsN, tNotN, tTru, tLstRg, tRg1, tRg2, L2.start, List.map_cons, List.map_nil, List.length_cons, List.length_nil, List.replicate, List.cons_append, List.nil_append, List.getElem?_cons_zero, List.getElem?_cons_succ, List.set_cons_zero, List.set_cons_succ, Option.some.injEq, exists_eq_left', V.int.injEq, V.ref.injEq, V.bl.injEq, List.cons.injEq, exists_and_left, exists_and_right, and_true, true_and, exists_eq_left, exists_eq, Nat.reduceAdd, Nat.reduceSub]
      refine ⟨_, SqL.of TC.top, _, TC.atI hc, .inl ⟨rfl, _, SqL.of hrc⟩, ?_⟩
      refine remove_nv hrc m1 ⟨?_, ?_, fun x o hx ho => ?_⟩
      · rw [upd_ne (fun e => hga (by rw [e]; exact hcm))]; exact hgl
      · have := TC.write hc ((C z).erase b)
        rw [mkL_set] at this
        have e : mkL n (fun j => if j = z then (C z).erase b else if j = b then (C b).take ((C b).idxOf p + 1) else if j ∈ ((C b).drop ((C b).idxOf p + 1)).take i then (C j).erase b else C j) =
            mkL n (fun j => if j = b then (C b).take ((C b).idxOf p + 1) else if j ∈ ((C b).drop ((C b).idxOf p + 1)).take (i + 1) then (C j).erase b else C j) := mkL_congr fun j _ => by
          have et : ((C b).drop ((C b).idxOf p + 1)).take (i + 1) = ((C b).drop ((C b).idxOf p + 1)).take i ++ [z] := by rw [List.take_add_one, hz]; rfl
          rw [et]
          by_cases e1 : j = z
          · subst e1
            rw [if_pos rfl, if_neg m3, if_pos (by simp)]
          · have : (j ∈ ((C b).drop ((C b).idxOf p + 1)).take i ++ [z]) = (j ∈ ((C b).drop ((C b).idxOf p + 1)).take i) := by simp [e1]
            rw [if_neg e1]
            simp only [this]
        rw [← e]
        exact this
      · rw [upd_ne (fun e => hx (by rw [e]; exact hcm))]
        exact hfr x o hx ho
    · obtain ⟨y, rfl, hgl, TC, hfr⟩ := h
      refine q H' ?_ hfr
      rw [List.length_map, List.take_length] at TC
      exact TC
end
end K6g

set_option Elab.async false
set_option linter.all false
set_option maxRecDepth 100000
set_option maxHeartbeats 4000000
namespace K6g
open K6 PySem PySem.Spec PyProof.Rows L2 LamX Bk
section
variable {P : Program} {w : World} {K : PySem.W.Frag} {mg : Str → Option Value} {base : Heap}

def sp_offered (K : PySem.W.Frag) : Sp := fun vs H Q _ => ∃ (t : Addr) (as : List Addr) (rows : List (List Nat)), vs = [.ref t] ∧ Tbl H t as rows ∧ GL rows ∧ rows.length ≤ 60 ∧
  ∀ H' p as' C, Same H H' → H p = none → (∀ a ∈ as', H a = none) → Tbl H' p as' (mkL rows.length C) → Off (fn (mutL rows)) C → Q (.ref p) H'
/-- the loop's word -/
structure OW (R : Nat → List Nat) (n : Nat) (H0 : Hp) (t T : Addr) (as' : List Addr) (hA wA : Addr) (m : Nat) (σ : L2.St) (H : Hp) (C : Nat → List Nat) (h : Nat → Option Nat) (ws : List Nat) : Prop where
  σ : ∃ y1 y2, σ = [some (.ref t), some (.ref T), some (.ref hA), some (.ref wA), y1, y2]
  tb : Tbl H T as' (mkL n C)
  hh : H hA = some (.lst (hL n h))
  hw : H wA = some (.lst (ws.map nv))
  st : Stt R C h ws
  fr : Same H0 H
  m : m = total n C + ws.length
  lt : ∀ q ∈ ws, q < n
theorem ok_offered (T : Txt P K mg) : FnOk P w K mg base CX0 5 T.a_offered T.fd_offered ["lists"] (sp_offered K) := by
  have G_mutual : FnOk P w K mg base CX0 4 T.a_mutual T.fd_mutual ["lists"] (sp_mutual K) := ok_mutual T
  have G_cut_behind : FnOk P w K mg base CX0 1 T.a_cut_behind T.fd_cut_behind ["rows", "person", "kept"] (sp_cut K) := ok_cut T
  refine T.F_offered.ok sc_offered (fun vs H Q E h => ?_) (fun cdv A outer s H vs Q E hr h => ?_)
  · obtain ⟨t, as, rows, rfl, _⟩ := h
    rfl
  · obtain ⟨t, as, rows, rfl, TB, g, hlen, q⟩ := h
    refine ⟨_, (pss_cons (ps_set (i := 1) sc_offered.nd rfl (.inl rfl) (pe_call G_mutual (hr.mono (by decide)) (by rfl) T.g_mutual T.F_mutual.kp T.b_mutual .nil pass0 (pa_cons (pv 0) pa_nil)))
      (pss_cons (ps_set (i := 2) sc_offered.nd rfl (.inl rfl) (pe_op op_rep (pe_lst (pa_cons pe_non pa_nil)) (pe_callB (klen (K := K)) (by rfl) T.m_len (by decide +kernel) (pa_cons (pv 1) pa_nil))))
      (C8.pss_cut (ps_set (i := 3) sc_offered.nd rfl (.inl rfl) (pe_listRg rfl (by rfl) T.m_list (prg_1 (by rfl) T.m_range (pe_callB (klen (K := K)) (by rfl) T.m_len (by decide +kernel) (pa_cons (pv 1) pa_nil)))))
      (C8.pss_cut (ps_while PassesOwn.never (kpt_tru (K := K) (pv 3)) (pss_cons (ps_set (i := 4) sc_offered.nd rfl (.inl rfl) (pe_bm0 PySem.F.plainAttrs_list PySem.F.slot_list_pop PySem.F.type_list_pop mt_pop (pv 3)))
      (pss_cons (ps_if (pt_not (kpt_tru (K := K) (pe_ix (kix_list (K := K)) (pv 1) (pv 4) (fun _ _ => rfl)))) (pss_one ps_continue) pss_nil)
      (pss_cons (ps_set (i := 5) sc_offered.nd rfl (.inl rfl) (pe_ix (kix_list (K := K)) (pe_ix (kix_list (K := K)) (pv 1) (pv 4) (fun _ _ => rfl)) pe_int (fun _ _ => rfl)))
      (pss_cons (ps_if (pt_cmp (pc_notN (pe_ix (kix_list (K := K)) (pv 2) (pv 5) (fun _ _ => rfl)))) (pss_one (ps_expr (pe_bm PySem.F.plainAttrs_list PySem.F.slot_list_append PySem.F.type_list_append mt_append (pv 3) (pa_cons (pe_ix (kix_list (K := K)) (pv 2) (pv 5) (fun _ _ => rfl)) pa_nil)))) pss_nil)
      (pss_cons (ps_asg (pv 4) (pg_sub (pv 2) (pv 5) set_list))
      (pss_one (ps_expr (pe_call G_cut_behind (hr.mono (by decide)) (by rfl) T.g_cut_behind T.F_cut_behind.kp T.b_cut_behind .nil pass0 (pa_cons (pv 1) (pa_cons (pv 5) (pa_cons (pv 4) pa_nil))))))))))))
      (pss_one (ps_ret (pv 1))))))), ?_⟩
    have L := lists_mut g
    refine ⟨_, rfl, t, as, rows, rfl, TB, g, hlen, fun H1 p as' e1 hp has TP => ?_⟩
    rw [mutL_mkL] at TP
    generalize hn : rows.length = n at *
    simp only [tLenSetI, cx_K, cx_w, wipe, Int.zero_add, Bool.false_eq_true, if_false, if_true, Bool.not_true, Bool.not_false, tSeq, tAsg, tOp, tVar, tC, tRet, tRetN, tNext, tDrop, tIfS, tB, tTest, tIf, tAnd, tOr, tNot, tAndV, tOrV, tNotV, tUn, tCons, tNil, tCall, tCB, tBM, tBM0, tNoPart, tPart, tSl, tCont, tNever, tTup, tLst, gName, gNil, gCons, gTup, gSub, rI, rI0, rU, rEq, rNe, rIxL, rSlL, rSetL, rLn, rLs, rTs, rIn, rSet0, tSAdd, rSAdd, rSIn, rSNotIn, rRep, rCat, rAppend, rPop, rPopAt, iList, iRng1, iRng2, iEnum, gTup, tIsN, tNotN, tTru, tLstRg, tRg1, tRg2, L2.start, List.map_cons, List.map_nil, List.length_cons, List.length_nil, List.replicate, List.cons_append, List.nil_append, List.getElem?_cons_zero, List.getElem?_cons_succ, List.set_cons_zero, List.set_cons_succ, Option.some.injEq, exists_eq_left', V.int.injEq, V.ref.injEq, V.bl.injEq, List.cons.injEq, exists_and_left, exists_and_right, and_true, true_and, exists_eq_left, exists_eq, Nat.reduceAdd, Nat.reduceSub]
    refine ⟨by decide, fun l hl => ?_⟩
    have TP1 : Tbl (upd H1 l (.lst [.non])) p as' (mkL n (mutF rows)) := TP.upd_new hl
    refine ⟨_, .inl (SqL.of TP1.top), _, upd_same, ?_⟩
    rw [List.length_map, TP.len, mkL_len]
    refine ⟨by omega, by omega, by simp [sizeLine_eq]; omega, fun hA hhA => ?_⟩
    rw [Int.toNat_natCast, hL_none]
    have TP2 := TP1.upd_new (o := .lst (hL n fun _ => none)) hhA
    refine ⟨fun σ H2 => ∃ wA, upd (upd H1 l (.lst [.non])) hA (.lst (hL n fun _ => none)) wA = none ∧ H2 = upd (upd (upd H1 l (.lst [.non])) hA (.lst (hL n fun _ => none))) wA (.lst ((List.range n).map nv)) ∧ σ = [some (.ref t), some (.ref p), some (.ref hA), some (.ref wA), none, none], ?_, fun σ H2 hM => ?_⟩
    · simp only [tLenSetI, cx_K, cx_w, wipe, Int.zero_add, Bool.false_eq_true, if_false, if_true, Bool.not_true, Bool.not_false, tSeq, tAsg, tOp, tVar, tC, tRet, tRetN, tNext, tDrop, tIfS, tB, tTest, tIf, tAnd, tOr, tNot, tAndV, tOrV, tNotV, tUn, tCons, tNil, tCall, tCB, tBM, tBM0, tNoPart, tPart, tSl, tCont, tNever, tTup, tLst, gName, gNil, gCons, gTup, gSub, rI, rI0, rU, rEq, rNe, rIxL, rSlL, rSetL, rLn, rLs, rTs, rIn, rSet0, tSAdd, rSAdd, rSIn, rSNotIn, rRep, rCat, rAppend, rPop, rPopAt, iList, iRng1, iRng2, iEnum, gTup, tIsN, tNotN, tTru, tLstRg, tRg1, tRg2, L2.start, List.map_cons, List.map_nil, List.length_cons, List.length_nil, List.replicate, List.cons_append, List.nil_append, List.getElem?_cons_zero, List.getElem?_cons_succ, List.set_cons_zero, List.set_cons_succ, Option.some.injEq, exists_eq_left', V.int.injEq, V.ref.injEq, V.bl.injEq, List.cons.injEq, exists_and_left, exists_and_right, and_true, true_and, exists_eq_left, exists_eq, Nat.reduceAdd, Nat.reduceSub]
      refine ⟨_, .inl (SqL.of TP2.top), ?_, fun wA hwA => ⟨wA, hwA, ?_, rfl⟩⟩
      · rw [List.length_map, TP.len, mkL_len]; exact ⟨by omega, by omega, by omega, by omega, by omega⟩
      · rw [List.length_map, TP.len, mkL_len, rgV_nv]
    obtain ⟨wA, hwA, rfl, rfl⟩ := hM
    have s1 : Same H1 (upd H1 l (.lst [.non])) := same_upd hl
    have s2 : Same H1 (upd (upd H1 l (.lst [.non])) hA (.lst (hL n fun _ => none))) := same_upd2 s1 (s1.free hhA)
    have s3 : Same H1 (upd (upd (upd H1 l (.lst [.non])) hA (.lst (hL n fun _ => none))) wA (.lst ((List.range n).map nv))) := same_upd2 s2 (s2.free hwA)
    -- the places of the four things
    have fA : hA ∉ as' ∧ hA ≠ p := TP1.fresh hhA
    have fW : wA ∉ as' ∧ wA ≠ p := TP2.fresh hwA
    have nWA : wA ≠ hA := fun e => by rw [e, upd_same] at hwA; cases hwA
    have hR : fn (mutL rows) = mutF rows := funext fun i => fn_mutL rows i
    have Rlt : ∀ i x, x ∈ fn (mutL rows) i → i < n ∧ x < n := fun i x hx => by rw [← hn]; exact mut_lt g hx
    have out0 : ∀ i, n ≤ i → fn (mutL rows) i = [] := fun i hi => by
      cases hc : fn (mutL rows) i with
      | nil => rfl
      | cons x r => have := (Rlt i x (by rw [hc]; simp)).1; omega
    have H0l : H l = none := e1.free hl
    have H0A : H hA = none := e1.free (s1.free hhA)
    have H0W : H wA = none := e1.free (s2.free hwA)
    refine ⟨fun σ H3 => ∃ C, σ[1]? = some (some (.ref p)) ∧ Tbl H3 p as' (mkL n C) ∧ Off (fn (mutL rows)) C ∧ Same H H3, ?_, fun σ H3 hM => ?_⟩
    · refine ⟨fun m σ H3 => ∃ C h ws, OW (fn (mutL rows)) n H t p as' hA wA m σ H3 C h ws, ⟨total n (mutF rows) + (List.range n).length, mutF rows, fun _ => none, List.range n, ?_⟩, fun m σ H3 hW => ?_⟩
      · refine ⟨⟨none, none, rfl⟩, TP2.upd_new hwA, by rw [upd_ne (Ne.symm nWA), upd_same], upd_same, ?_, e1.trans s3, rfl, fun q hq => List.mem_range.mp hq⟩
        rw [hR]
        have := Stt.start (R := mutF rows) (hR ▸ L) (W := List.range n) List.nodup_range fun q hq => List.mem_range.mpr (Nat.lt_of_not_le fun hle => hq (by rw [← hR]; exact out0 q hle))
        exact this
      · obtain ⟨C, h, ws, OW1⟩ := hW
        obtain ⟨⟨y1, y2, rfl⟩, tb, hh, hw, st, fr, rfl, hlt⟩ := OW1
        refine ⟨_, rfl, _, .inl ⟨_, SqL.of hw, rfl⟩, ?_⟩
        have hsplit : ws = [] ∨ ∃ init x, ws = init ++ [x] := by
          rcases List.eq_nil_or_concat ws with e | ⟨i, x, e⟩
          · exact .inl e
          · exact .inr ⟨i, x, by simpa using e⟩
        rcases hsplit with rfl | ⟨init, x, rfl⟩
        · refine iteF ⟨C, rfl, tb, st.fin, fr⟩
        · rw [show (!((init ++ [x]).map nv).isEmpty) = true by simp]
          refine iteT ⟨fun σ' H' => ∃ m', m' < total n C + (init ++ [x]).length ∧ ∃ C h ws, OW (fn (mutL rows)) n H t p as' hA wA m' σ' H' C h ws, fun σ' H' z => z, ?_⟩
          have st' : Stt (fn (mutL rows)) C h (x :: init) := st.perm (by
            have : (x :: init).Perm (init ++ [x]) := (List.perm_append_singleton x init).symm
            exact this)
          simp only [tLenSetI, cx_K, cx_w, wipe, Int.zero_add, Bool.false_eq_true, if_false, if_true, Bool.not_true, Bool.not_false, tSeq, tAsg, tOp, tVar, tC, tRet, tRetN, tNext, tDrop, tIfS, tB, tTest, tIf, tAnd, tOr, tNot, tAndV, tOrV, tNotV, tUn, tCons, tNil, tCall, tCB, tBM, tBM0, tNoPart, tPart, tSl, tCont, tNever, tTup, tLst, gName, gNil, gCons, gTup, gSub, rI, rI0, rU, rEq, rNe, rIxL, rSlL, rSetL, rLn, rLs, rTs, rIn, rSet0, tSAdd, rSAdd, rSIn, rSNotIn, rRep, rCat, rAppend, rPop, rPopAt, iList, iRng1, iRng2, iEnum, gTup, tIsN, tNotN, tTru, tLstRg, tRg1, tRg2, L2.start, List.map_cons, List.map_nil, List.length_cons, List.length_nil, List.replicate, List.cons_append, List.nil_append, List.getElem?_cons_zero, List.getElem?_cons_succ, List.set_cons_zero, List.set_cons_succ, Option.some.injEq, exists_eq_left', V.int.injEq, V.ref.injEq, V.bl.injEq, List.cons.injEq, exists_and_left, exists_and_right, and_true, true_and, exists_eq_left, exists_eq, Nat.reduceAdd, Nat.reduceSub]
          have hx : x < n := hlt x (by simp)
          have hdl : ((init ++ [x]).map nv).dropLast = init.map nv := by rw [List.map_append]; simp
          have hla : ((init ++ [x]).map nv)[((init ++ [x]).map nv).length - 1]? = some (nv x) := by simp
          have fr4 : Same H (upd H3 wA (.lst (init.map nv))) := fun b o ho => by
            rw [upd_ne (ne_of_none ho H0W)]; exact fr b o ho
          have tb4 : Tbl (upd H3 wA (.lst (init.map nv))) p as' (mkL n C) := tb.other fW.2 fW.1
          have hh4 : upd H3 wA (.lst (init.map nv)) hA = some (.lst (hL n h)) := by rw [upd_ne (Ne.symm nWA)]; exact hh
          obtain ⟨a, ha, hra, hap, ham⟩ := tb4.at (show x < (mkL n C).length by rw [mkL_len]; exact hx)
          rw [fn_mkL hx] at hra
          have nd := st'.tab.nd L
          refine ⟨.inl ⟨rfl, _, SqL.of hw⟩, _, hw, _, hla, ?_⟩
          rw [hdl]
          refine ⟨_, _, rfl, SqL.of tb4.top, _, tb4.atI ha, _, .inl ⟨_, SqL.of hra, rfl⟩, ?_⟩
          cases hC : C x with
          | nil =>
            refine iteT ⟨total n C + init.length, by simp, C, h, init, ⟨⟨_, _, rfl⟩, tb4, hh4, upd_same, st'.skip hC, fr4, rfl, fun q hq => hlt q (by simp [hq])⟩⟩
          | cons b tl =>
            have hbx : (C x).head? = some b := by rw [hC]; rfl
            have hbm : b ∈ C x := head_mem hbx
            have hb : b < n := (Rlt x b ((st'.tab.sub x).subset hbm)).2
            refine iteF ⟨_, _, rfl, SqL.of tb4.top, _, tb4.atI ha, a, rfl, _, SqL.of hra, nv b, by rw [hC]; exact atI_nat (j := 0) rfl, _, _, rfl, SqL.of hh4, ov (h b), atI_nat (hL_at hb), ?_⟩
            rw [isNon_ov]
            -- behind the choice: from a heap in which the waiting ones are ws'
            have fin : ∀ (ws' : List Nat) (H5 : Hp), ws'.Perm ((h b).toList ++ init) → Tbl H5 p as' (mkL n C) → H5 hA = some (.lst (hL n h)) → H5 wA = some (.lst (ws'.map nv)) → Same H H5 →
                ∀ y, H5 = y → sp_cut K [.ref p, nv b, nv x] (upd H5 hA (.lst ((hL n h).set b (nv x)))) (fun _ H6 => ∃ m', m' < total n C + (init ++ [x]).length ∧ ∃ C h ws, OW (fn (mutL rows)) n H t p as' hA wA m' [some (.ref t), some (.ref p), some (.ref hA), some (.ref wA), some (nv x), some (nv b)] H6 C h ws) E0 := fun ws' H5 hp5 tb5 hh5 hw5 fr5 _ _ => by
              have tb6 : Tbl (upd H5 hA (.lst ((hL n h).set b (nv x)))) p as' (mkL n C) := tb5.other fA.2 fA.1
              refine ⟨p, as', n, b, x, C, rfl, tb6, hb, st'.tab.mu _ _ hbm, nd, fun q hq => ⟨st'.tab.mu _ _ hq, (Rlt b q ((st'.tab.sub b).subset hq)).2, fun e => st'.tab.ir L b (e ▸ hq)⟩, ?_, fun H6 tb7 fr7 => ?_⟩
              · have := nodup_len (n := n) (nd b) fun q hq => (Rlt b q ((st'.tab.sub b).subset hq)).2
                omega
              · refine ⟨total n (cut C b x) + ws'.length, ?_, cut C b x, hold h b x, ws', ⟨⟨_, _, rfl⟩, tb7, ?_, ?_, (st'.offer L hbx).perm hp5, ?_, rfl, fun q hq => ?_⟩⟩
                · have := st'.less L hbx hb
                  rw [hp5.length_eq]
                  simp at this ⊢
                  omega
                · exact fr7 hA _ fA.1 (by rw [upd_same, hL_set h hb])
                · exact fr7 wA _ fW.1 (by rw [upd_ne nWA]; exact hw5)
                · intro c o ho
                  have hc : c ∉ as' := fun z => by rw [has c z] at ho; cases ho
                  exact fr7 c o hc (by rw [upd_ne (ne_of_none ho H0A)]; exact fr5 c o ho)
                · rcases List.mem_append.mp (hp5.mem_iff.mp hq) with z | z
                  · have z' : h b = some q := by simpa using z
                    have := head_mem (st'.held _ _ z').1
                    exact (Rlt q b ((st'.tab.sub q).subset this)).1
                  · exact hlt q (by simp [z])
            cases hhb : h b with
            | none =>
              refine iteF ⟨_, _, rfl, hh4, b, ?_, ?_⟩
              · rw [hL_len]; exact ixN_nat hb
              · exact fin init _ (by rw [hhb]; exact List.Perm.refl _) tb4 hh4 upd_same fr4 _ rfl
            | some p0 =>
              have nlen : init.length ≤ n := nodup_len (List.nodup_cons.mp st'.nd).2 fun q hq => hlt q (by simp [hq])
              refine iteT ⟨.inl ⟨rfl, _, SqL.of upd_same⟩, _, _, rfl, SqL.of hh4, ov (h b), atI_nat (hL_at hb), _, upd_same, by rw [List.length_map]; exact small (by omega), _, _, rfl, by rw [upd_ne (Ne.symm nWA)]; exact hh4, b, ?_, ?_⟩
              · rw [hL_len]; exact ixN_nat hb
              · rw [upd_upd, hhb]
                have e5 : init.map nv ++ [ov (some p0)] = (init ++ [p0]).map nv := by rw [List.map_append]; rfl
                rw [e5]
                refine fin (init ++ [p0]) _ (by rw [hhb]; exact List.perm_append_singleton _ _) (tb.other fW.2 fW.1) (by rw [upd_ne (Ne.symm nWA)]; exact hh) upd_same (fun c o ho => ?_) _ rfl
                rw [upd_ne (ne_of_none ho H0W)]; exact fr c o ho
    · obtain ⟨C, e1', TC, hOff, fr⟩ := hM
      exact ⟨_, e1', q H3 p as' C fr hp has TC hOff⟩
end
end K6g

set_option linter.all false
/-! The program's look at the pairs that spoil, and the law's. -/
namespace Bk
/-- whether one with this row would rather have o than its mate -/
def rather (r : List Nat) (o : Nat) (mate : Option Nat) : Bool := match mate with
  | none => true
  | some y => decide (r.idxOf o < r.idxOf y)
theorem rising_eq : ∀ {l1 l2 : List Nat}, l1.Pairwise (· < ·) → l2.Pairwise (· < ·) → (∀ x, x ∈ l1 ↔ x ∈ l2) → l1 = l2
  | [], [], _, _, _ => rfl
  | [], y :: l2, _, _, h => absurd ((h y).mpr List.mem_cons_self) (by simp)
  | x :: l1, [], _, _, h => absurd ((h x).mp List.mem_cons_self) (by simp)
  | x :: l1, y :: l2, h1, h2, h => by
    obtain ⟨a1, b1⟩ := List.pairwise_cons.mp h1
    obtain ⟨a2, b2⟩ := List.pairwise_cons.mp h2
    have e : x = y := by
      rcases List.mem_cons.mp ((h x).mp List.mem_cons_self) with z | z
      · exact z
      · rcases List.mem_cons.mp ((h y).mpr List.mem_cons_self) with z2 | z2
        · exact z2.symm
        · have := a2 x z
          have := a1 y z2
          omega
    subst e
    refine congrArg _ (rising_eq b1 b2 fun z => ⟨fun hz => ?_, fun hz => ?_⟩)
    · rcases List.mem_cons.mp ((h z).mp (List.mem_cons_of_mem _ hz)) with y | y
      · have := a1 z hz
        omega
      · exact y
    · rcases List.mem_cons.mp ((h z).mpr (List.mem_cons_of_mem _ hz)) with y | y
      · have := a2 z hz
        omega
      · exact y
/-- the program's test -/
def spP (R : Nat → List Nat) (m : List (Option Nat)) (i o : Nat) : Bool := decide (i < o) && (rather (R i) o (mO m i) && rather (R o) i (mO m o))
theorem idx_inj {l : List Nat} {x y : Nat} (hx : x ∈ l) (h : l.idxOf x = l.idxOf y) : x = y := by
  have h1 : l.idxOf x < l.length := List.idxOf_lt_length_iff.mpr hx
  have h2 : l.idxOf y < l.length := by omega
  have e1 : l[l.idxOf x] = x := List.getElem_idxOf h1
  have e2 : l[l.idxOf y] = y := List.getElem_idxOf h2
  have : l[l.idxOf x] = l[l.idxOf y] := by congr 1
  rw [e1, e2] at this
  exact this
/-- for two on one another's rows the two looks agree -/
theorem looks {R : Nat → List Nat} {m : List (Option Nat)} (L : Lists R) (pk : PairOk R (mO m)) {i o : Nat} (h : o ∈ R i) : (rather (R i) o (mO m i) && rather (R o) i (mO m o)) = spB R m i o := by
  have h' : i ∈ R o := L.mu _ _ h
  unfold spB
  rw [Bool.eq_iff_iff]
  simp only [Bool.and_eq_true, better_iff, Bool.not_eq_true', decide_eq_false_iff_not]
  constructor
  · rintro ⟨h1, h2⟩
    refine ⟨⟨h, fun y hy => ?_⟩, ⟨h', fun y hy => ?_⟩, fun e => ?_⟩
    · rw [hy] at h1
      exact Nat.le_of_lt (of_decide_eq_true h1)
    · rw [hy] at h2
      exact Nat.le_of_lt (of_decide_eq_true h2)
    · rw [e] at h1
      have := of_decide_eq_true h1
      omega
  · rintro ⟨⟨_, h1⟩, ⟨_, h2⟩, h3⟩
    constructor
    · cases e : mO m i with
      | none => rfl
      | some y =>
        refine decide_eq_true ?_
        have := h1 y e
        have ne : (R i).idxOf o ≠ (R i).idxOf y := fun z => h3 (by rw [e, idx_inj h z])
        omega
    · cases e : mO m o with
      | none => rfl
      | some y =>
        refine decide_eq_true ?_
        have := h2 y e
        have ne : (R o).idxOf i ≠ (R o).idxOf y := fun z => h3 (by
          have := idx_inj h' z
          rw [← this] at e
          exact pk.mu _ _ e)
        omega
theorem spoil_row {R : Nat → List Nat} {m : List (Option Nat)} {n i : Nat} (L : Lists R) (pk : PairOk R (mO m)) (lt : ∀ x, x ∈ R i → x < n) {sr : List Nat} (hp : sr.Perm (R i)) (hs : sr.Pairwise (· ≤ ·)) :
    (sr.filter (spP R m i)).map (fun j => (i, j)) = spRow R m i (i + 1) (n - (i + 1)) := by
  unfold spRow
  congr 1
  have nd : sr.Nodup := hp.nodup_iff.mpr (L.nd i)
  have st : sr.Pairwise (· < ·) := by
    have : sr.Pairwise (fun a b => a ≤ b ∧ a ≠ b) := hs.and nd
    exact this.imp fun ⟨a, b⟩ => by omega
  refine rising_eq (st.filter _) ?_ fun x => ?_
  · refine List.Pairwise.filter _ ?_
    rw [List.pairwise_map]
    exact (List.pairwise_lt_range).imp fun h => by omega
  · rw [List.mem_filter, List.mem_filter, hp.mem_iff, List.mem_map]
    unfold spP
    constructor
    · rintro ⟨h1, h2⟩
      rw [looks L pk h1] at h2
      have h3 := Bool.and_eq_true_iff.mp h2
      have h4 := of_decide_eq_true h3.1
      have := lt x h1
      exact ⟨⟨x - (i + 1), List.mem_range.mpr (by omega), by omega⟩, h3.2⟩
    · rintro ⟨⟨k, hk, rfl⟩, h2⟩
      have hk := List.mem_range.mp hk
      have h1 : i + 1 + k ∈ R i := by
        have h3 := (Bool.and_eq_true_iff.mp h2).1
        exact ((better_iff _ _ _).mp h3).1
      refine ⟨h1, ?_⟩
      rw [looks L pk h1, h2, decide_eq_true (by omega)]
      rfl
end Bk
set_option linter.all false
/-! The program's own list of those who spoil, for anyone told beside each person. -/
namespace Bk
/-- those of i's row with whom it spoils, rising -/
def spq (n : Nat) (R : Nat → List Nat) (m : List (Option Nat)) (i : Nat) : List (Nat × Nat) := ((List.range n).filter fun o => decide (o ∈ R i) && spP R m i o).map fun o => (i, o)
def spQ (n : Nat) (R : Nat → List Nat) (m : List (Option Nat)) (k : Nat) : List (Nat × Nat) := (List.range k).flatMap (spq n R m)
theorem spQ_succ (n : Nat) (R : Nat → List Nat) (m : List (Option Nat)) (k : Nat) : spQ n R m (k + 1) = spQ n R m k ++ spq n R m k := by
  unfold spQ
  rw [List.range_succ, List.flatMap_append]
  simp
theorem spQ_len (n : Nat) (R : Nat → List Nat) (m : List (Option Nat)) (k : Nat) : (spQ n R m k).length ≤ k * n := by
  induction k with
  | zero => simp [spQ]
  | succ k ih =>
    rw [spQ_succ, List.length_append]
    have : (spq n R m k).length ≤ n := by
      unfold spq
      rw [List.length_map]
      exact Nat.le_trans (List.length_filter_le _ _) (by simp)
    rw [Nat.succ_mul]
    omega
theorem sort_row {R : Nat → List Nat} {m : List (Option Nat)} {n i : Nat} (L : Lists R) (lt : ∀ x, x ∈ R i → x < n) {sr : List Nat} (hp : sr.Perm (R i)) (hs : sr.Pairwise (· ≤ ·)) :
    (sr.filter (spP R m i)).map (fun j => (i, j)) = spq n R m i := by
  unfold spq
  congr 1
  have nd : sr.Nodup := hp.nodup_iff.mpr (L.nd i)
  have st : sr.Pairwise (· < ·) := by
    have : sr.Pairwise (fun a b => a ≤ b ∧ a ≠ b) := hs.and nd
    exact this.imp fun ⟨a, b⟩ => by omega
  refine rising_eq (st.filter _) (List.Pairwise.filter _ List.pairwise_lt_range) fun x => ?_
  rw [List.mem_filter, List.mem_filter, hp.mem_iff, List.mem_range, Bool.and_eq_true, decide_eq_true_iff]
  constructor
  · rintro ⟨h1, h2⟩
    exact ⟨lt x h1, h1, h2⟩
  · rintro ⟨_, h1, h2⟩
    exact ⟨h1, h2⟩
theorem mem_spQ {n : Nat} {R : Nat → List Nat} {m : List (Option Nat)} {k : Nat} {p : Nat × Nat} : p ∈ spQ n R m k ↔ p.1 < k ∧ p.2 < n ∧ p.2 ∈ R p.1 ∧ spP R m p.1 p.2 = true := by
  obtain ⟨a, b⟩ := p
  unfold spQ spq
  simp only [List.mem_flatMap, List.mem_range, List.mem_map, List.mem_filter, Bool.and_eq_true, decide_eq_true_iff, Prod.mk.injEq]
  constructor
  · rintro ⟨i, hi, o, ⟨h1, h2, h3⟩, rfl, rfl⟩
    exact ⟨hi, h1, h2, h3⟩
  · rintro ⟨hi, h1, h2, h3⟩
    exact ⟨a, hi, b, ⟨h1, h2, h3⟩, rfl, rfl⟩
theorem spQ_spL {R : Nat → List Nat} {m : List (Option Nat)} {n : Nat} (L : Lists R) (pk : PairOk R (mO m)) (lt : ∀ i x, x ∈ R i → x < n) : ∀ k, spQ n R m k = spL n R m k
  | 0 => rfl
  | k + 1 => by
    rw [spQ_succ, spL_succ, spQ_spL L pk lt k]
    congr 1
    have h := List.pairwise_mergeSort (le := fun a b : Nat => decide (a ≤ b)) (fun a b c h1 h2 => by simp at h1 h2 ⊢; omega) (fun a b => by simp; omega) (R k)
    have h2 : ((R k).mergeSort fun a b => decide (a ≤ b)).Pairwise (· ≤ ·) := h.imp fun z => of_decide_eq_true z
    rw [← sort_row L (lt k) (List.mergeSort_perm _ _) h2, spoil_row L pk (lt k) (List.mergeSort_perm _ _) h2]
end Bk
set_option Elab.async false
set_option linter.all false
set_option maxRecDepth 100000
set_option maxHeartbeats 2000000
/-! any of a generator expression whose target is two names, over anything that is walked. -/
namespace BkG
open PySem PySem.Spec PyProof.Rows L2 GxR
section
variable {X : Cx} {pins : List (Addr × Obj)} {σ : L2.St} {H : Hp} {s : Shared}
/-- the generator expression's own scope: two names -/
structure GenS2 (env : Env) (scope : Scope) (xa xb : Str) : Prop where
  kind : scope.kind = .function
  co : scope.isCoroutine = false
  cell : ∀ y ∈ scope.names, y.2 ≠ .cell
  dot : scope.names.lookup (".0" : Str) = some NameKind.local
  la : scope.names.lookup xa = some .local
  lb : scope.names.lookup xb = some .local
  ab : xa ≠ xb
  free : ∀ y ∈ scope.names, y.2 = .free → ∃ c, env.cells.lookup y.1 = some c
/-- the same, told of the def's scope -/
def genC (sc scope : Scope) (xa xb : Str) : Bool := decide (scope.kind = .function) && !scope.isCoroutine && scope.names.all (fun y => decide (y.2 ≠ .cell)) && decide (scope.names.lookup (".0" : Str) = some NameKind.local) && decide (scope.names.lookup xa = some NameKind.local) && decide (scope.names.lookup xb = some NameKind.local) && decide (xa ≠ xb) &&
  scope.names.all fun y => decide (y.2 = .free → sc.names.lookup y.1 = some NameKind.cell ∨ sc.names.lookup y.1 = some NameKind.free)
theorem genS2_of {X : Cx} {pins : List (Addr × Obj)} {σ : L2.St} {H : Hp} {s : Shared} {scope : Scope} {xa xb : Str} (I : Inv X pins σ H s) (h : genC X.env.scope scope xa xb = true) : GenS2 X.env scope xa xb := by
  unfold genC at h
  simp only [Bool.and_eq_true, decide_eq_true_iff, List.all_eq_true, Bool.not_eq_true'] at h
  obtain ⟨⟨⟨⟨⟨⟨⟨h1, h2⟩, h3⟩, h4⟩, h5⟩, h6⟩, h7⟩, h8⟩ := h
  exact ⟨h1, h2, h3, h4, h5, h6, h7, fun y hy e => I.ok.has _ (h8 y hy e)⟩
/-- the element at place i: a value of F, in every state that keeps what stood at s0 -/
def EltT (X : Cx) (P : Addr) (scope : Scope) (xa xb : Str) (elt : Expr) (s0 : Shared) (Pt : Nat → Array Value → Prop) (F : Nat → Value → Prop) : Prop :=
  ∀ (cenv : Env) (A' : Around) (E' : Value → Shared → Prop) (i : Nat) (va vb : Value) (s₂ : Shared) (m₂ : Str → Option Value), A'.handled = none → A'.depth ≤ X.A.depth + 1 → A'.units ≤ X.A.units + 8 →
    cenv.scope = scope → cenv.cells = cloFrom X.env.cells scope.names [] → cenv.globals = X.env.globals → Pt i #[va, vb] → s₂.heap.Ns cenv.locals m₂ → m₂ xa = some va → m₂ xb = some vb →
    (∀ b o, b ≠ P → s0.heap.get? b = some o → s₂.heap.get? b = some o) → wpAny (model X.prog X.w) A' (eval elt cenv) (fun y s₃ => F i y ∧ Keeps s₂ s₃) E' s₂
/-- the generator g, ready to be walked -/
def Ready2 (X : Cx) (pins : List (Addr × Obj)) (σ : L2.St) (H1 : Hp) (P : Addr) (s0 : Shared) (n₀ : Nat) (F : Nat → Value → Prop) (g : Addr) (s5 : Shared) : Prop :=
  ∃ (fp wr : List Addr) (G : Array GenState → Array GenState → Prop) (St : Nat → Shared → Prop),
    WalksS X.prog X.w X.A.in1 g fp wr G n₀ F St ∧ St 0 s5 ∧ (∀ b ∈ wr, s0.heap.objs.size ≤ b) ∧ (∀ b o, b ≠ P → s0.heap.get? b = some o → s5.heap.get? b = some o) ∧
    ∀ s', Moved wr G s5 s' → ∃ H2, Tabbed P H1 H2 ∧ Inv X pins σ H2 s'

theorem gen_pairs {c P : Addr} {elt iter : Expr} {xa xb : Str} {pa pb pt gpos : Pos} {kt : Nat} {scope : Scope} {k : Nat} {Q' : Value → Shared → Prop}
    (hr : Room k X.A) (TB : TabB X.base X.mg c P) (hcode : X.env.code = .ref c) (S : GenS2 X.env scope xa xb) (hs : ∀ v, genFold iter X.env v = pure v)
    (h : wpAny (model X.prog X.w) X.A (eval iter X.env) (fun xv s1 => ∃ (s0 : Shared) (H1 : Hp) (z : Addr) (fp wr : List Addr) (n₀ : Nat) (Pt : Nat → Array Value → Prop) (St₀ : Nat → Heap → Prop) (Mid : Nat → Addr → Heap → Prop) (F : Nat → Value → Prop),
      xv = .ref z ∧ Inv X pins σ H1 s0 ∧ s1 = { s0 with heap := s1.heap } ∧ (∀ b o, s0.heap.get? b = some o → s1.heap.get? b = some o) ∧ s0.heap.objs.size ≤ s1.heap.objs.size ∧ TabG H1 P ∧
      (∀ A' : Around, A'.handled = none → WalksU X.prog X.w A' z fp wr n₀ Pt St₀ Mid) ∧ (∀ i vals, Pt i vals → ∃ va vb, vals = #[va, vb]) ∧ St₀ 0 s1.heap ∧ (∀ b ∈ fp, b < s1.heap.objs.size) ∧ P ∉ fp ∧ (∀ b ∈ wr, s0.heap.objs.size ≤ b) ∧
      EltT X P scope xa xb elt s0 Pt F ∧ ∀ g s5, Ready2 X pins σ H1 P s0 n₀ F g s5 → Q' (.ref g) s5) X.xe s) :
    wpAny (model X.prog X.w) X.A (eval (.GeneratorExp elt [⟨.Tuple [.Name xa pa, .Name xb pb] kt pt, iter, [], 0⟩] scope gpos) X.env) Q' X.xe s := by
  refine wpAny_GeneratorExp_walksQTD hr.hd S.co (closure_ok S.free) S.cell S.dot S.la S.lb S.ab S.kind (by have := hr.dp; omega) ?_ hs
  refine wpAny_mono h (fun xv s1 h1 => ?_) fun _ _ e => e
  obtain ⟨s0, H1, z, fp, wr, n₀, Pt, St₀, Mid, F, rfl, I1, es1, kp, sz01, ⟨ps, hP, ht⟩, W, hsz, hst, hfp, hPfp, hwr, hel, hQ⟩ := h1
  refine (W X.A hr.hd).self 0 _ _ _ hst ?_
  have hPs0 : s0.heap.get? P = some { cls := .none, data := .fields ps } := I1.hok P _ hP
  have hPs : s1.heap.get? P = some { cls := .none, data := .fields ps } := kp _ _ hPs0
  have lim2 : s1.heap.NoLimit := I1.nolimit.keeps kp
  have cd : PySem.W.CodeHd s1.heap c P := TB.code.keeps fun b u e => kp _ _ (I1.bk b u e)
  have cont : ∀ (code : Value) (h3 : Heap) (tk : Nat) (ps' : Array Value), Heap.ExtBut P s1.heap h3 → s1.heap.objs.size ≤ h3.objs.size → h3.get? P = some { cls := .none, data := .fields ps' } → (∃ more, ps' = ps ++ more) → TriplesOk ps'.toList →
      wpAny (model X.prog X.w) X.A (builtinsFor X.env.globals X.env.builtins) (fun bi s₄ =>
        ∃ Ia fp wr n₀ Pt St₀ Mid pz F, Value.ref z = .ref Ia ∧ (∀ A' : Around, A'.handled = none → WalksU X.prog X.w A' Ia fp wr n₀ Pt St₀ Mid) ∧ (∀ i vals, Pt i vals → ∃ va vb, vals = #[va, vb]) ∧ St₀ 0 s₄.heap ∧ (∀ b ∈ fp, b < s₄.heap.objs.size) ∧ s₄.heap.NoLimit ∧ cStatics ∉ wr ∧
          (∀ href : Heap, (∀ b o, s₄.heap.get? b = some o → href.get? b = some o) →
            QuietGenTD X.prog X.w (genEnv scope (cloFrom X.env.cells scope.names []) s₄.heap.objs.size code bi X.env) xa xb [] elt (List.range s₄.heap.objs.size) wr Pt pz F href (X.A.depth + 1) (X.A.units + 8)) ∧
          (∀ a h₅ tk gs, gs.bare = true → s₄.heap.objs.size < a → h₅.objs.size = a + 1 → (∀ b o, s₄.heap.get? b = some o → h₅.get? b = some o) →
            WalksS X.prog X.w X.A.in4 a (a :: s₄.heap.objs.size :: List.range s₄.heap.objs.size) (s₄.heap.objs.size :: wr) (GenOnlyQ s₄.gens.size) (passing pz n₀ 0).length
              (fun j y => ∃ i, (passing pz n₀ 0)[j]? = some i ∧ F i y) (GenAt X.prog X.w X.A.in4 a s₄.gens.size s₄.heap.objs.size (List.range s₄.heap.objs.size) wr pz n₀ F) →
            GenAt X.prog X.w X.A.in4 a s₄.gens.size s₄.heap.objs.size (List.range s₄.heap.objs.size) wr pz n₀ F 0 { s₄ with gens := s₄.gens.push gs, toks := tk, heap := h₅ } →
            Q' (.ref a) { s₄ with gens := s₄.gens.push gs, toks := tk, heap := h₅ })) X.xe { s1 with heap := h3, toks := tk } := by
    intro code h3 tk ps' hx hsz3 hP3 hmore ht3
    obtain ⟨bm, ob, e1, e2, e3, e4, e5, e6, e7, e8⟩ := TB.bm
    have hcP : cStatics ≠ P := fun e => by
      obtain ⟨_, hns, _⟩ := I1.nolimit
      obtain ⟨o', es, ep, ho, hd, _⟩ := hns
      rw [e, hPs0] at ho
      cases ho
      cases hd
    have hcl : cStatics < s0.heap.objs.size := let ⟨_, hns, _⟩ := I1.nolimit; hns.lt
    have keep3 : ∀ b u, b ≠ P → s0.heap.get? b = some u → h3.get? b = some u := fun b u hb e => hx b u hb (kp _ _ e)
    refine wpAny_builtinsFor (m := X.mg) (by rw [I1.ok.glob]; exact ((I1.mod.glob.keeps I1.bk).keeps kp).extBut hx TB.gP) e1 e2 (keep3 _ _ e4 (I1.bk _ _ e5)) e6 e7 e8 ?_
    refine ⟨z, fp, wr, n₀, Pt, St₀, Mid, (fun _ => true), F, rfl, W, hsz, ?_, ?_, lim2.extBut hx hcP, ?_, ?_, ?_⟩
    · exact (W X.A hr.hd).frame _ _ _ hst fun b hb u e => hx b u (fun q => hPfp (q ▸ hb)) e
    · intro b hb
      show b < h3.objs.size
      exact Nat.lt_of_lt_of_le (hfp b hb) hsz3
    · intro q
      exact absurd (Nat.lt_of_lt_of_le hcl (hwr _ q)) (Nat.lt_irrefl _)
    · intro href hhref
      refine ⟨fun A' E' i va vb s₂ m₂ hA _ _ hPv hn hma hmb hk => ?_, fun A' E' i va vb s₂ m₂ hA hd hu hPv hp hn hma hmb hk => ?_⟩
      · simp only [List.forIn_nil]
        exact wpAny_pure ⟨rfl, keeps_refl _⟩
      · refine hel _ A' E' i va vb s₂ m₂ hA hd hu rfl rfl rfl hPv hn hma hmb fun b o hb e => ?_
        have e3' := keep3 b o hb e
        refine hk b (List.mem_range.mpr (Heap.lt_size e3')) (fun q => ?_) o (hhref b o e3')
        exact absurd (Nat.lt_of_lt_of_le (Heap.lt_size e) (hwr _ q)) (Nat.lt_irrefl _)
    · intro g h5 tk5 gs hgb hag hsz5 hk5 W5 hat
      simp only [GxR.passing_true, List.length_range] at W5
      have nwr : ∀ b u, s0.heap.get? b = some u → b ∉ h3.objs.size :: wr := fun b u e hb => by
        have hl := Heap.lt_size e
        rcases List.mem_cons.mp hb with q | q
        · rw [q] at hl
          exact absurd (Nat.lt_of_lt_of_le hl (Nat.le_trans sz01 hsz3)) (Nat.lt_irrefl _)
        · exact absurd (Nat.lt_of_lt_of_le hl (hwr _ q)) (Nat.lt_irrefl _)
      refine hQ g _ ⟨_, _, _, _, W5.in4_1.imp ?_, hat, fun b hb => ?_, fun b o hb e => hk5 b o (keep3 b o hb e), fun s' hm => ?_⟩
      · intro j y hy
        obtain ⟨i, hij, hF⟩ := hy
        obtain ⟨hj, ej⟩ := List.getElem?_eq_some_iff.mp hij
        rw [List.getElem_range] at ej
        rw [ej]; exact hF
      · rcases List.mem_cons.mp hb with q | q
        · rw [q]
          exact Nat.le_trans sz01 hsz3
        · exact hwr _ q
      · obtain ⟨more, em⟩ := hmore
        have eg : s1.gens = s0.gens := by rw [es1]
        have eo : s1.os = s0.os := by rw [es1]
        have hbb : AllBare (s1.gens.push gs) := by rw [eg]; exact AllBare.push I1.bare hgb
        have J := inv_tab (more := more) (h' := s'.heap) (g' := s'.gens) (d' := s'.drawn) (t' := s'.toks) I1 hP (fun b u hb e => hm.heap b u (nwr b u e) (hk5 b u (keep3 b u hb e)))
          (by rw [← em]; exact hm.heap P _ (nwr P _ hPs0) (hk5 P _ hP3)) (AllBare.movedS hbb hm)
        rw [sh_eta s0 s' (hm.os.trans eo)] at J
        refine ⟨upd H1 P (.tbl (ps ++ more)), ⟨⟨ps ++ more, upd_same, by rw [← em]; exact ht3⟩, fun b hb => upd_ne hb⟩, J⟩
  refine ⟨lim2, ?_⟩
  cases hf : codeAmong gpos ps.toList with
  | none =>
    refine wpAny_genexprCodeX hcode (cd.code hPs ht) (cd.tab hPs) hf fun c' h' tk hx hge hlt hco' _ htab' _ => ?_
    obtain ⟨o1, vs, f1, tf, fl, tg, inF, tx, tt, op, _, _, _, _, _, _, _, _, _, htr, _⟩ := hco'
    exact cont _ h' tk _ hx (Nat.le_trans hge (Nat.le_of_lt hlt)) htab'.2 ⟨_, rfl⟩ htr
  | some cv =>
    refine wpAny_genexprCode_hit hcode (cd.code hPs ht) hf ?_
    exact cont cv s1.heap s1.toks ps (Heap.ExtBut.refl _ _) (Nat.le_refl _) hPs ⟨#[], by simp⟩ ht
/-- a heap without what stands at P -/
def hideP (h : Heap) (P : Addr) : Heap := hidT h (fun b => if b = P then some (.tbl #[]) else none)
theorem hideP_get {h : Heap} {P b : Addr} {o : Obj} (hb : b ≠ P) (e : h.get? b = some o) : (hideP h P).get? b = some o := hidT_get e (if_neg hb)
theorem of_hideP {h : Heap} {P b : Addr} {o : Obj} (e : (hideP h P).get? b = some o) : h.get? b = some o ∧ b ≠ P := by
  obtain ⟨h1, h2⟩ := of_hidT e
  refine ⟨h1, fun z => ?_⟩
  rw [if_pos z] at h2
  cases h2
/-- where the pairs come from: the walked thing, the elements, their truth -/
def SrcP (X : Cx) (pins : List (Addr × Obj)) (σ : L2.St) (P : Addr) (scope : Scope) (xa xb : Str) (elt : Expr) (Q : VK) (xv : Value) (s1 : Shared) : Prop :=
  ∃ (s0 : Shared) (H1 : Hp) (z : Addr) (fp wr : List Addr) (n₀ : Nat) (Pt : Nat → Array Value → Prop) (St₀ : Nat → Heap → Prop) (Mid : Nat → Addr → Heap → Prop) (F : Nat → Value → Prop) (tr : Nat → Bool),
    xv = .ref z ∧ Inv X pins σ H1 s0 ∧ s1 = { s0 with heap := s1.heap } ∧ (∀ b o, s0.heap.get? b = some o → s1.heap.get? b = some o) ∧ s0.heap.objs.size ≤ s1.heap.objs.size ∧ TabG H1 P ∧
    (∀ A' : Around, A'.handled = none → WalksU X.prog X.w A' z fp wr n₀ Pt St₀ Mid) ∧ (∀ i vals, Pt i vals → ∃ va vb, vals = #[va, vb]) ∧ St₀ 0 s1.heap ∧ (∀ b ∈ fp, b < s1.heap.objs.size) ∧ P ∉ fp ∧ (∀ b ∈ wr, s0.heap.objs.size ≤ b) ∧
    EltT X P scope xa xb elt s0 Pt F ∧ TruthIn X.prog X.w X.A.in1 (hideP s0.heap P) F tr ∧ ∀ H2, Tabbed P H1 H2 → Q (.bl ((List.range n₀).any tr)) H2
theorem pe_anyP {c P : Addr} {elt iter : Expr} {xa xb : Str} {pa pb pt p pos gpos : Pos} {kt : Nat} {scope : Scope} {k : Nat} {t : TE}
    (hr : Room k X.A) (hg : Gl X "any") (hm : X.mg "any" = none) (TB : TabB X.base X.mg c P) (hcode : X.env.code = .ref c) (hC : genC X.env.scope scope xa xb = true) (hs : ∀ v, genFold iter X.env v = pure v)
    (src : ∀ (pins : List (Addr × Obj)) (s : Shared) (σ : L2.St) (H : Hp) (Q : VK), Inv X pins σ H s → GenS2 X.env scope xa xb → t σ H Q → wpAny (model X.prog X.w) X.A (eval iter X.env) (SrcP X pins σ P scope xa xb elt Q) X.xe s)
    (he : starEach [.GeneratorExp elt [⟨.Tuple [.Name xa pa, .Name xb pb] kt pt, iter, [], 0⟩] scope gpos] X.env = (false, eval (.GeneratorExp elt [⟨.Tuple [.Name xa pa, .Name xb pb] kt pt, iter, [], 0⟩] scope gpos) X.env) :: starEach [] X.env := by rfl) :
    PE X (.Call (.Name "any" p) [.GeneratorExp elt [⟨.Tuple [.Name xa pa, .Name xb pb] kt pt, iter, [], 0⟩] scope gpos] [] pos) t := by
  refine ⟨fun pins s σ H Q I h => ?_⟩
  have S := genS2_of I hC
  refine wpAny_Call_Name_kw (ld_blt I hg hm boot_any ?_)
  refine PyProof.Rows.callWith_builtin1 ?_ he (by rfl)
  rw [he]
  show wpAny _ _ (spliced ((false, eval (.GeneratorExp elt [⟨.Tuple [.Name xa pa, .Name xb pb] kt pt, iter, [], 0⟩] scope gpos) X.env) :: backTo pos (starEach [] X.env))) _ _ s
  refine Calls.spliced_cons (gen_pairs (pins := pins) (σ := σ) hr TB hcode S hs (wpAny_mono (src pins s σ H Q I S h) (fun xv s1 q => ?_) fun _ _ e => e))
  obtain ⟨s0, H1, z, fp, wr, n₀, Pt, St₀, Mid, F, tr, h1, h2, h3, h4, h5, h6, h7, h8, h9, h10, h11, h12, h13, htr, hQ⟩ := q
  refine ⟨s0, H1, z, fp, wr, n₀, Pt, St₀, Mid, F, h1, h2, h3, h4, h5, h6, h7, h8, h9, h10, h11, h12, h13, fun g s5 hG => ?_⟩
  obtain ⟨fp2, wr2, G, St, W, hst, hw2, hk, hI⟩ := hG
  refine Calls.spliced_nil ?_
  refine call_any_walkH (W.self 0 _ _ _ hst ⟨g, fp2, wr2, G, _, F, St, hideP s0.heap P, tr, rfl, W, hst, fun b o e hb => ?_, fun b o e => ?_, htr, fun s' hmv => ?_⟩)
  · obtain ⟨e1, _⟩ := of_hideP e
    exact absurd (Nat.lt_of_lt_of_le (Heap.lt_size e1) (hw2 _ hb)) (Nat.lt_irrefl _)
  · obtain ⟨e1, e2⟩ := of_hideP e
    exact hk b o e2 e1
  · obtain ⟨H2, hT, J⟩ := hI s' hmv
    exact ⟨.bl _, H2, J, rfl, hQ H2 hT⟩
end
end BkG
set_option Elab.async false
set_option linter.all false
set_option maxRecDepth 100000
set_option maxHeartbeats 2000000
/-! A small def called within a generator expression: places told by a dict, compared. -/
namespace BkG
open PySem PySem.Spec PyProof.Rows L2 GxR Bk
section
variable {prog : Program} {w : World} {A : Around} {E : Value → Shared → Prop} {s : Shared}
/-- the dict d tells the place of each one of the row r -/
def PlD (prog : Program) (w : World) (h : Heap) (d : Addr) (r : List Nat) : Prop := ∃ vs, h.DictOf (mixKind prog w) d vs ∧ ∀ x, x ∈ r → ∃ t, valueAt vs (Sum.inl (x : Int)) = some (.int (r.idxOf x : Nat) t)
theorem PlD.at {h h' : Heap} {d : Addr} {r : List Nat} (x : PlD prog w h d r) (k : ∀ o, h.get? d = some o → h'.get? d = some o) : PlD prog w h' d r := by
  obtain ⟨vs, h1, h2⟩ := x
  exact ⟨vs, h1.at k, h2⟩
theorem look_place {d : Addr} {r : List Nat} {x : Nat} {t : Tok} {Q : Value → Shared → Prop} (hp : PlD prog w s.heap d r) (hx : x ∈ r) (q : ∀ t' tk, Q (.int (r.idxOf x : Nat) t') { s with toks := tk }) : wpAny (model prog w) A (getItem (.ref d) (.int x t)) Q E s := by
  obtain ⟨vs, h1, h2⟩ := hp
  obtain ⟨t', e⟩ := h2 x hx
  exact wpAny_getItem_of (knd := mixKind prog w) (k := Sum.inl (x : Int)) (mixKind_int prog w (x : Int) t) h1.mapOf e (q t' _)
theorem name_loc {env : Env} {m : Str → Option Value} {x : Str} {v : Value} {pos : Pos} {Q : Value → Shared → Prop} (hk : env.scope.kind = .function) (hl : env.scope.names.lookup x = some .local) (hn : s.heap.Ns env.locals m) (hm : m x = some v) (q : Q v s) (hd : (x == ("__debug__" : Str)) = false := by decide) :
    wpAny (model prog w) A (eval (.Name x pos) env) Q E s := wpAny_Name (wpAny_loadName_local hk hl hn hm q) hd
/-- mate is None or places[other] < places[mate] -/
theorem ev_rather {env : Env} {m : Str → Option Value} {pl ot mt : Str} {d : Addr} {r : List Nat} {o : Nat} {to : Tok} {mate : Option Nat} {vm : Value} {p1 p2 p3 p4 p5 p6 p7 p8 p9 p10 p11 : Pos} {j : Nat}
    (hk : env.scope.kind = .function) (l1 : env.scope.names.lookup pl = some .local) (l2 : env.scope.names.lookup ot = some .local) (l3 : env.scope.names.lookup mt = some .local) (hn : s.heap.Ns env.locals m)
    (m1 : m pl = some (.ref d)) (m2 : m ot = some (.int o to)) (m3 : m mt = some vm) (rm : RelV (ov mate) vm) (hp : PlD prog w s.heap d r) (ho : o ∈ r) (hm : ∀ y, mate = some y → y ∈ r)
    (d1 : (pl == ("__debug__" : Str)) = false) (d2 : (ot == ("__debug__" : Str)) = false) (d3 : (mt == ("__debug__" : Str)) = false) (n2 : NoSl (.Name ot p6)) (n3 : NoSl (.Name mt p9)) :
    wpAny (model prog w) A (eval (.BoolOp .Or [.Compare (.Name mt p1) [.Is] [.Constant .none j p2] p3, .Compare (.Subscript (.Name pl p5) (.Name ot p6) p7) [.Lt] [.Subscript (.Name pl p8) (.Name mt p9) p10] p11] p4) env) (fun y s' => y = .bool (rather r o mate) ∧ Keeps s s') E s := by
  refine BoolOp_or (wpAny_Compare1 (name_loc hk l3 hn m3 (Constant_none (is_none_gen ?_)) d3))
  cases mate with
  | none =>
    have e : vm = Value.none := rm
    subst e
    exact wpAny_truthy_bool ⟨rfl, keeps_refl s⟩
  | some y =>
    obtain ⟨tm, rfl⟩ : ∃ t, vm = Value.int (y : Int) t := rm
    refine wpAny_truthy_bool ?_
    refine BoolOp_one (wpAny_Compare1 ?_)
    refine subD_of PySem.F.slot_dict_getitem.lookup n2 (name_loc hk l1 hn m1 (name_loc hk l2 hn m2 ⟨?_, look_place hp ho fun t1 tk1 => ?_⟩ d2) d1)
    · obtain ⟨vs, h1, _⟩ := hp
      exact h1.typeIs
    refine subD_of PySem.F.slot_dict_getitem.lookup n3 (name_loc hk l1 hn m1 (name_loc hk l3 hn m3 ⟨?_, look_place hp (hm y rfl) fun t2 tk2 => ?_⟩ d3) d1)
    · obtain ⟨vs, h1, _⟩ := hp
      exact h1.typeIs
    refine lt_int ⟨?_, ?_⟩
    · congr 1
      show decide (((r.idxOf o : Nat) : Int) < ((r.idxOf y : Nat) : Int)) = decide (r.idxOf o < r.idxOf y)
      by_cases z : r.idxOf o < r.idxOf y
      · rw [decide_eq_true z, decide_eq_true (by omega)]
      · rw [decide_eq_false z, decide_eq_false (by omega)]
    · exact keeps_tok s _
end
end BkG
set_option Elab.async false
set_option linter.all false
set_option maxRecDepth 100000
set_option maxHeartbeats 2000000
/-! any(a and not b for a, b in zip(rows, others)), both lists of lists. -/
namespace BkG
open PySem PySem.Spec PyProof.Rows L2 GxR Bk
theorem vals_refs : ∀ {as : List Addr} {us : List Value}, Vals (as.map V.ref) us → us = as.map Value.ref
  | [], us, h => by cases h; rfl
  | a :: as, us, h => by
    cases h with
    | cons h1 h2 =>
      cases h1
      rw [vals_refs h2]
      rfl
section
variable {X : Cx} {pins : List (Addr × Obj)} {σ : L2.St} {H : Hp} {s : Shared}
def FEmp (P : Addr) (s0 : Shared) (tr : Nat → Bool) (i : Nat) (y : Value) : Prop := y = .bool (tr i) ∨ (tr i = false ∧ ∃ (a : Addr) (ia : Array Value), y = .ref a ∧ a ≠ P ∧ s0.heap.IsList a ia ∧ ia.isEmpty = true ∧ (ia.size : Int) < 2 ^ 63)
theorem isList_keep {h h' : Heap} {a : Addr} {ia : Array Value} (l : h.IsList a ia) (k : ∀ o, h.get? a = some o → h'.get? a = some o) : h'.IsList a ia := Heap.IsList.at l k
theorem elt_andnot {P : Addr} {scope : Scope} {xa xb : Str} {p1 p2 p3 p4 : Pos} (hk : scope.kind = .function) (la : scope.names.lookup xa = some .local) (lb : scope.names.lookup xb = some .local) {s0 : Shared} {Pt : Nat → Array Value → Prop} {tr : Nat → Bool}
    (hP : ∀ i va vb, Pt i #[va, vb] → ∃ (a b : Addr) (ia ib : Array Value), va = .ref a ∧ vb = .ref b ∧ a ≠ P ∧ b ≠ P ∧ s0.heap.IsList a ia ∧ s0.heap.IsList b ib ∧ (ia.size : Int) < 2 ^ 63 ∧ (ib.size : Int) < 2 ^ 63 ∧ tr i = (!ia.isEmpty && ib.isEmpty))
    (hda : (xa == ("__debug__" : Str)) = false := by decide) (hdb : (xb == ("__debug__" : Str)) = false := by decide) :
    EltT X P scope xa xb (.BoolOp .And [.Name xa p1, .UnaryOp .Not (.Name xb p2) p3] p4) s0 Pt (FEmp P s0 tr) := by
  intro cenv A' E' i va vb s₂ m₂ hA hd hu hsc hcl hgl hPt hn hma hmb hkeep
  obtain ⟨a, b, ia, ib, rfl, rfl, na, nb, h1, h2, f1, f2, ht⟩ := hP i va vb hPt
  refine BoolOp_and ?_
  refine wpAny_Name (wpAny_loadName_local (by rw [hsc]; exact hk) (show cenv.scope.names.lookup xa = some .local by rw [hsc]; exact la) hn hma ?_) hda
  refine wpAny_truthy_list (isList_keep h1 fun o e => hkeep a o na e) f1 ?_
  cases he : ia.isEmpty with
  | true => exact ⟨.inr ⟨by rw [ht, he]; rfl, a, ia, rfl, na, h1, he, f1⟩, keeps_tok _ _⟩
  | false =>
    refine BoolOp_one (UnaryOp_ ?_)
    refine wpAny_Name (wpAny_loadName_local (by rw [hsc]; exact hk) (show cenv.scope.names.lookup xb = some .local by rw [hsc]; exact lb) hn hmb ?_) hdb
    refine not_of (wpAny_truthy_list (isList_keep h2 fun o e => hkeep b o nb e) f2 ?_)
    refine ⟨.inl ?_, keeps_tok _ _⟩
    rw [ht, he]
    simp
theorem truth_emp {prog : Program} {w : World} {A : Around} {P : Addr} {s0 : Shared} {tr : Nat → Bool} : TruthIn prog w A (hideP s0.heap P) (FEmp P s0 tr) tr := by
  intro i v s Q E hk hF hQ
  rcases hF with rfl | ⟨h1, a, ia, rfl, na, h2, h3, h4⟩
  · exact wpAny_truthy_bool (hQ s.toks (Nat.le_refl _))
  · refine wpAny_truthy_list (isList_keep h2 fun o e => hk a o (hideP_get na e)) h4 ?_
    have := hQ (s.toks + 1 + 1) (by omega)
    rw [h1] at this
    rw [h3]
    exact this
/-- whether one row that holds something stands beside one that holds nothing -/
def tEmp (P : Addr) (ta : TA) : TE := fun σ H Q => ta σ H fun vs H1 => ∃ (a b : Addr) (as bs : List Addr) (ra rb : List (List Nat)), vs = [.ref a, .ref b] ∧ Tbl H1 a as ra ∧ Tbl H1 b bs rb ∧ TabG H1 P ∧ (∀ r ∈ ra, r.length ≤ 1000) ∧ (∀ r ∈ rb, r.length ≤ 1000) ∧
  ∀ H2, Tabbed P H1 H2 → Q (.bl ((List.range (min ra.length rb.length)).any fun i => !(fn ra i).isEmpty && (fn rb i).isEmpty)) H2
theorem pe_emptied {c P : Addr} {xa xb : Str} {pa pb pt p pos gpos p1 p2 p3 p4 pz zpos : Pos} {kt : Nat} {scope : Scope} {e1 e2 : Expr} {k : Nat} {ta : TA}
    (hr : Room k X.A) (hg : Gl X "any") (hm : X.mg "any" = none) (hgz : Gl X "zip") (hmz : X.mg "zip" = none) (TB : TabB X.base X.mg c P) (hcode : X.env.code = .ref c) (hC : genC X.env.scope scope xa xb = true)
    (ha : PA X [e1, e2] ta) (hda : (xa == ("__debug__" : Str)) = false := by decide) (hdb : (xb == ("__debug__" : Str)) = false := by decide)
    (hs : ∀ v, genFold (.Call (.Name "zip" pz) [e1, e2] [] zpos) X.env v = pure v := by intro v; rfl)
    (hse : starEach [e1, e2] X.env = (false, eval e1 X.env) :: starEach [e2] X.env := by rfl) (hpl : (backTo zpos (starEach [e2] X.env)).any (·.1) = false := by rfl)
    (he : starEach [.GeneratorExp (.BoolOp .And [.Name xa p1, .UnaryOp .Not (.Name xb p2) p3] p4) [⟨.Tuple [.Name xa pa, .Name xb pb] kt pt, .Call (.Name "zip" pz) [e1, e2] [] zpos, [], 0⟩] scope gpos] X.env = (false, eval (.GeneratorExp (.BoolOp .And [.Name xa p1, .UnaryOp .Not (.Name xb p2) p3] p4) [⟨.Tuple [.Name xa pa, .Name xb pb] kt pt, .Call (.Name "zip" pz) [e1, e2] [] zpos, [], 0⟩] scope gpos) X.env) :: starEach [] X.env := by rfl) :
    PE X (.Call (.Name "any" p) [.GeneratorExp (.BoolOp .And [.Name xa p1, .UnaryOp .Not (.Name xb p2) p3] p4) [⟨.Tuple [.Name xa pa, .Name xb pb] kt pt, .Call (.Name "zip" pz) [e1, e2] [] zpos, [], 0⟩] scope gpos] [] pos) (tEmp P ta) := by
  refine pe_anyP hr hg hm TB hcode hC hs (fun pins s σ H Q I S h => ?_) he
  refine Call_ (ld_blt I hgz hmz PyProof.Rows.boot_zip (PyProof.Rows.callWith_type1 (thn (ha.run zpos pins s σ H _ I h) fun us s1 ⟨vs, H1, I1, r1, q1⟩ => ?_) hse hpl))
  obtain ⟨a, b, as, bs, ra, rb, rfl, TA, TB2, hT, lra, lrb, q⟩ := q1
  cases r1 with
  | cons r rr =>
    cases rr with
    | cons r' rr =>
      cases rr
      cases r
      cases r'
      have hla := I1.hok _ _ TA.top
      have hlb := I1.hok _ _ TB2.top
      obtain ⟨_, its, n1, v1, g1⟩ := hla
      obtain ⟨_, its2, n2, v2, g2⟩ := hlb
      have L1 : s1.heap.IsList a its.toArray := ⟨_, g1, rfl, n1, rfl⟩
      have L2' : s1.heap.IsList b its2.toArray := ⟨_, g2, rfl, n2, rfl⟩
      have la : a < s1.heap.objs.size := Heap.lt_size g1
      have lb : b < s1.heap.objs.size := Heap.lt_size g2
      have vv1 := vals_refs v1
      have vv2 := vals_refs v2
      obtain ⟨pt0, hP, ht0⟩ := hT
      have naP : a ≠ P := fun z => by
        have := TA.top
        rw [z, hP] at this
        cases this
      have nbP : b ≠ P := fun z => by
        have := TB2.top
        rw [z, hP] at this
        cases this
      have lP : P < s1.heap.objs.size := by
        have := I1.hok _ _ hP
        exact Heap.lt_size this
      refine call_zip_2 L1 L2' fun h' hz hTI hTO hi1 hi2 hsz hk => ?_
      refine ⟨s1, H1, s1.heap.objs.size + 4, _, _, _, _, _, _, _, (fun i => !(fn ra i).isEmpty && (fn rb i).isEmpty), rfl, I1, rfl, hk, by show s1.heap.objs.size ≤ h'.objs.size; omega, ⟨pt0, hP, ht0⟩,
        fun A' hA => (WalksT.zip2 (prog := X.prog) (w := X.w) hA _ _ _ _ _ a b (zipApart_new la lb) its.toArray its2.toArray).toU, fun i vals hv => by obtain ⟨x, y, _, _, e⟩ := hv; exact ⟨x, y, e⟩,
        ⟨hz, hTI, ⟨_, _, hTO⟩, hi1, hi2, isList_keep L1 fun o e => hk _ o e, isList_keep L2' fun o e => hk _ o e⟩, fun c hc => ?_, fun hc => ?_, fun c hc => ?_, elt_andnot S.kind S.la S.lb (fun i va vb hPt => ?_) hda hdb, truth_emp, fun H2 hH2 => ?_⟩
      · show c < h'.objs.size
        have e' : c = s1.heap.objs.size + 4 ∨ c = s1.heap.objs.size + 2 ∨ c = s1.heap.objs.size + 3 ∨ c = s1.heap.objs.size ∨ c = s1.heap.objs.size + 1 ∨ c = a ∨ c = b := by simpa using hc
        rw [hsz]
        rcases e' with z | z | z | z | z | z | z
        · rw [z]; exact Nat.add_lt_add_left (by decide) _
        · rw [z]; exact Nat.add_lt_add_left (by decide) _
        · rw [z]; exact Nat.add_lt_add_left (by decide) _
        · rw [z]; exact Nat.lt_add_of_pos_right (by decide)
        · rw [z]; exact Nat.add_lt_add_left (by decide) _
        · rw [z]; exact Nat.lt_of_lt_of_le la (Nat.le_add_right _ _)
        · rw [z]; exact Nat.lt_of_lt_of_le lb (Nat.le_add_right _ _)
      · have e' : P = s1.heap.objs.size + 4 ∨ P = s1.heap.objs.size + 2 ∨ P = s1.heap.objs.size + 3 ∨ P = s1.heap.objs.size ∨ P = s1.heap.objs.size + 1 ∨ P = a ∨ P = b := by simpa using hc
        rcases e' with z | z | z | z | z | z | z
        · exact absurd (z ▸ lP) (Nat.not_lt_of_le (Nat.le_add_right _ _))
        · exact absurd (z ▸ lP) (Nat.not_lt_of_le (Nat.le_add_right _ _))
        · exact absurd (z ▸ lP) (Nat.not_lt_of_le (Nat.le_add_right _ _))
        · exact absurd (z ▸ lP) (Nat.lt_irrefl _)
        · exact absurd (z ▸ lP) (Nat.not_lt_of_le (Nat.le_add_right _ _))
        · exact naP z.symm
        · exact nbP z.symm
      · have e' : c = s1.heap.objs.size + 4 ∨ c = s1.heap.objs.size + 3 ∨ c = s1.heap.objs.size ∨ c = s1.heap.objs.size + 1 := by simpa using hc
        rcases e' with z | z | z | z
        · rw [z]; exact Nat.le_add_right _ _
        · rw [z]; exact Nat.le_add_right _ _
        · rw [z]; exact Nat.le_refl _
        · rw [z]; exact Nat.le_add_right _ _
      · obtain ⟨x, y, hx, hy, e⟩ := hPt
        obtain ⟨e1', e2'⟩ : va = x ∧ vb = y := by simpa using congrArg Array.toList e
        subst e1' e2'
        rw [vv1] at hx
        rw [vv2] at hy
        have hx' : (as.map Value.ref)[i]? = some va := by simpa using hx
        have hy' : (bs.map Value.ref)[i]? = some vb := by simpa using hy
        rw [List.getElem?_map] at hx' hy'
        obtain ⟨ai, hai, rfl⟩ := Option.map_eq_some_iff.mp hx'
        obtain ⟨bi, hbi, rfl⟩ := Option.map_eq_some_iff.mp hy'
        have hia : i < ra.length := by
          have := (List.getElem?_eq_some_iff.mp hai).1
          rw [TA.len] at this; exact this
        have hib : i < rb.length := by
          have := (List.getElem?_eq_some_iff.mp hbi).1
          rw [TB2.len] at this; exact this
        have ta := TA.row i ai _ hai (fn_at hia)
        have tb := TB2.row i bi _ hbi (fn_at hib)
        obtain ⟨_, ja, ka, wa, ga⟩ := I1.hok _ _ ta
        obtain ⟨_, jb, kb, wb, gb⟩ := I1.hok _ _ tb
        have la2 : ja.length = (fn ra i).length := by rw [← wa.length, List.length_map]
        have lb2 : jb.length = (fn rb i).length := by rw [← wb.length, List.length_map]
        have mla := lra (fn ra i) (List.mem_of_getElem? (fn_at hia))
        have mlb := lrb (fn rb i) (List.mem_of_getElem? (fn_at hib))
        refine ⟨ai, bi, ja.toArray, jb.toArray, rfl, rfl, fun z => ?_, fun z => ?_, ⟨_, ga, rfl, ka, rfl⟩, ⟨_, gb, rfl, kb, rfl⟩, by rw [List.size_toArray]; omega, by rw [List.size_toArray]; omega, ?_⟩
        · have ta' : H1 ai = _ := ta
          rw [z, hP] at ta'; cases ta'
        · have tb' : H1 bi = _ := tb
          rw [z, hP] at tb'; cases tb'
        · have ee : ∀ (j : List Value) (r : List Nat), j.length = r.length → j.toArray.isEmpty = r.isEmpty := fun j r e => by
            cases j <;> cases r <;> simp at e ⊢
          rw [ee _ _ la2, ee _ _ lb2]
      · have en : min its.toArray.size its2.toArray.size = min ra.length rb.length := by
          rw [List.size_toArray, List.size_toArray, vv1, vv2, List.length_map, List.length_map, TA.len, TB2.len]
        rw [en]
        exact q H2 hH2
end
end BkG
set_option Elab.async false
set_option linter.all false
set_option maxRecDepth 100000
set_option maxHeartbeats 2000000
namespace BkG
open PySem PySem.Spec PyProof.Rows L2 GxR Bk
/-- the text of such a def -/
structure RatherTxt (K : PySem.W.Frag) (st : Stmt) (pl ot mt : Str) : Prop where
  body : ∃ (p1 p2 p3 p4 p5 p6 p7 p8 p9 p10 p11 p12 : Pos) (j : Nat), defBody st = [.Return (some (.BoolOp .Or [.Compare (.Name mt p1) [.Is] [.Constant .none j p2] p3, .Compare (.Subscript (.Name pl p5) (.Name ot p6) p7) [.Lt] [.Subscript (.Name pl p8) (.Name mt p9) p10] p11] p4)) p12]
  kind : (defScope st).kind = .function
  co : (defScope st).isCoroutine = false
  gen : (defScope st).isGenerator = false
  l1 : (defScope st).names.lookup pl = some .local
  l2 : (defScope st).names.lookup ot = some .local
  l3 : (defScope st).names.lookup mt = some .local
  ne : pl ≠ ot ∧ pl ≠ mt ∧ ot ≠ mt
  d1 : (pl == ("__debug__" : Str)) = false
  d2 : (ot == ("__debug__" : Str)) = false
  d3 : (mt == ("__debug__" : Str)) = false
section
variable {P : Program} {w : World} {A : Around} {E : Value → Shared → Prop} {s : Shared} {K : PySem.W.Frag}
theorem call_rather {st : Stmt} {x pl ot mt : Str} {f d : Addr} {fd : FuncData} {r : List Nat} {o : Nat} {to : Tok} {mate : Option Nat} {vm : Value} (F : Fun K x x st f fd) (B : Binds K fd [pl, ot, mt] []) (R : RatherTxt K st pl ot mt)
    (KX : K.In s.heap) (lim : s.heap.NoLimit) (hdp : A.depth < recursionLimit) (rm : RelV (ov mate) vm) (hp : PlD P w s.heap d r) (ho : o ∈ r) (hm : ∀ y, mate = some y → y ∈ r) :
    wpAny (model P w) A (call (.ref f) [.ref d, .int o to, vm]) (fun y s' => y = .bool (rather r o mate) ∧ Keeps s s') E s := by
  obtain ⟨oc, od, kV, doc, pm, an, cdv, ct, osl, rfl, lk, hcd⟩ := F.ex
  have hb := B s [.ref d, .int o to, vm] KX rfl
  refine wpAny_call (codeAny_call_function hdp (KX _ _ lk) rfl R.co R.gen rfl (PySem.W.codeRec_of KX hcd) (hb _ _ _ _ ?_))
  have hkind : ∀ y ∈ [pl, ot, mt].zip ([.ref d, .int o to, vm] ++ ([] : List Value)), (defScope st).names.lookup y.1 = some .local ∨ ((defScope st).names.lookup y.1 = some .cell ∧ ((cellsFrom (s.heap.objs.size + 1) (defScope st).names []).lookup y.1).isSome = true) := fun y hy => by
    have hy' : y = (pl, .ref d) ∨ y = (ot, .int o to) ∨ y = (mt, vm) := by simpa using hy
    rcases hy' with rfl | rfl | rfl
    · exact .inl R.l1
    · exact .inl R.l2
    · exact .inl R.l3
  refine wpAny_newFunctionEnv_cells R.kind hkind fun env he s1 xx => ?_
  subst he
  refine ⟨lim.keeps xx.toInCall.keep, codeAny_func ?_⟩
  obtain ⟨p1, p2, p3, p4, p5, p6, p7, p8, p9, p10, p11, p12, j, hbody⟩ := R.body
  obtain ⟨n1, n2, n3⟩ := R.ne
  have nd : [pl, ot, mt].Nodup := by simp [n1, n2, n3]
  have hL : (newEnv (defScope st) s.heap.objs.size mainGlobals (cellsFrom (s.heap.objs.size + 1) (defScope st).names []) (x ++ ".<locals>.") (some f) cdv none builtinsNs).kindOf = fun y => (defScope st).names.lookup y := rfl
  obtain ⟨h1, tk, e1, hk⟩ := xx.done
  have hns := xx.toInCall.ns
  refine wpAny_mono (Q := fun fl s' => ∃ v, fl = .ret v ∧ v = .bool (rather r o mate) ∧ Keeps s1 s') ?_ (fun fl s' h => ?_) fun _ _ e => e
  · show wpAny _ _ (execs (defBody st) _) _ _ s1
    rw [hbody]
    refine wpAny_execs_cons (wpAny_Return_some ?_)
    refine wpAny_mono (ev_rather (pl := pl) (ot := ot) (mt := mt) (d := d) (r := r) (o := o) (to := to) (mate := mate) (vm := vm) R.kind R.l1 R.l2 R.l3 hns ?_ ?_ ?_ rm (hp.at fun o' e' => xx.toInCall.keep _ _ e') ho hm R.d1 R.d2 R.d3 (fun _ _ => rfl) (fun _ _ => rfl)) (fun y s' h => ⟨y, rfl, h⟩) fun _ _ e => e
    · exact bindL_get (i := 0) nd rfl rfl R.l1
    · exact bindL_get (i := 1) nd rfl rfl R.l2
    · exact bindL_get (i := 2) nd rfl rfl R.l3
  · obtain ⟨v, rfl, rfl, h2, tk2, rfl, hk2⟩ := h
    exact ⟨rfl, h2, tk2, by rw [e1], fun b o e => hk2 b o (xx.toInCall.keep _ _ e)⟩
end
section
variable {X : Cx} {pins : List (Addr × Obj)} {σ : L2.St} {H : Hp} {s : Shared}
/-- a name that is captured, read within the generator expression -/
theorem name_free {prog : Program} {w : World} {A : Around} {E : Value → Shared → Prop} {env : Env} {x : Str} {c : Addr} {v : Value} {pos : Pos} {Q : Value → Shared → Prop} (hk : env.scope.kind = .function) (hl : env.scope.names.lookup x = some .free) (hc : env.cells.lookup x = some c) (hcell : s.heap.IsCell c (some v)) (q : Q v s)
    (hd : (x == ("__debug__" : Str)) = false := by decide) (hcd : (x == ("__classdict__" : Str)) = false := by decide) : wpAny (model prog w) A (eval (.Name x pos) env) Q E s := wpAny_Name (wpAny_loadName_free hk hl hc hcell q hcd) hd
theorem vals_ov : ∀ (m : List (Option Nat)) {us : List Value} {i : Nat} {v : Value}, Vals (m.map ov) us → us[i]? = some v → ∃ y, m[i]? = some y ∧ RelV (ov y) v
  | [], us, i, v, h, e => by cases h; simp at e
  | y :: m, us, i, v, h, e => by
    cases h with
    | cons h1 h2 =>
      cases i with
      | zero =>
        have e' := Option.some.inj e
        exact ⟨y, rfl, by rw [← e']; exact h1⟩
      | succ i =>
        have := vals_ov m (i := i) h2 e
        exact this
theorem vals_at : ∀ {xs : List V} {us : List Value} {i : Nat} {x : V}, Vals xs us → xs[i]? = some x → ∃ u, us[i]? = some u ∧ RelV x u
  | [], us, i, x, h, e => by simp at e
  | y :: m, us, i, x, h, e => by
    cases h with
    | cons h1 h2 =>
      cases i with
      | zero =>
        have e' := Option.some.inj e
        exact ⟨_, rfl, by rw [← e']; exact h1⟩
      | succ i =>
        have := vals_at (i := i) h2 e
        exact this
theorem look_one {l : List (Str × Addr)} {x : Str} {c : Addr} (h : (x, c) ∈ l) (u : ∀ c', (x, c') ∈ l → c' = c) : l.lookup x = some c := by
  induction l with
  | nil => cases h
  | cons p l ih =>
    obtain ⟨y, d⟩ := p
    by_cases e : x = y
    · subst e
      rw [List.lookup_cons_self, u d (by simp)]
    · rw [List.lookup_cons, beq_false_of_ne e]
      refine ih ?_ fun c' h' => u c' (by simp [h'])
      rcases List.mem_cons.mp h with z | z
      · exact absurd (congrArg Prod.fst z) e
      · exact z
theorem clo_look {cells : List (Str × Addr)} {names : List (Str × NameKind)} {x : Str} {c : Addr} (h : names.lookup x = some .free) (hc : cells.lookup x = some c) : (cloFrom cells names []).lookup x = some c := by
  have hm : (x, NameKind.free) ∈ names := by
    clear hc
    induction names with
    | nil => cases h
    | cons p l ih =>
      obtain ⟨y, k⟩ := p
      by_cases e : x = y
      · subst e
        rw [List.lookup_cons_self] at h
        cases h
        simp
      · rw [List.lookup_cons, beq_false_of_ne e] at h
        simp [ih h]
  have h1 := cloFrom_has (cells := cells) (acc := []) hm
  rw [hc] at h1
  refine look_one h1 fun c' h' => ?_
  rcases cloFrom_mem h' with z | ⟨_, z⟩
  · cases z
  · rw [z, hc]; rfl
/-- whether the one at i would rather have who follows it than whom it follows -/
def turnB (R : Nat → List Nat) (m b : List (Option Nat)) (i : Nat) : Bool :=
  match mO m i, mO b i with
  | some y, some o => rather (R i) o (some y)
  | _, _ => false
theorem rel_int {y : Nat} {v : Value} (h : RelV (ov (some y)) v) : ∃ t, v = .int (y : Int) t := h
theorem elt_turned {P : Addr} {scope : Scope} {xa xb pl be fn : Str} {ot mt plc : Str} {st : Stmt} {f : Addr} {fd : FuncData} {p1 p2 p3 p4 p5 p6 p7 p8 p9 p10 p11 p12 p13 : Pos} {j k : Nat} (hr : Room k X.A)
    (hk : scope.kind = .function) (la : scope.names.lookup xa = some .local) (lb : scope.names.lookup xb = some .local) (lpl : scope.names.lookup pl = some .free) (lbe : scope.names.lookup be = some .free) (lfn : scope.names.lookup fn = some .globalImplicit)
    (hmf : X.mg fn = some (.ref f)) (F : Fun X.K fn fn st f fd) (B : Binds X.K fd [plc, ot, mt] []) (RT : RatherTxt X.K st plc ot mt)
    {s0 : Shared} (I : Inv X pins σ H s0) (hHP : ∃ ps, H P = some (.tbl ps)) (gP : mainGlobals ≠ P) {cp cb lp lbh : Addr} {ip ib : Array Value} {R : Nat → List Nat} {m b : List (Option Nat)} {Pt : Nat → Array Value → Prop}
    (hcp : X.env.cells.lookup pl = some cp) (hcb : X.env.cells.lookup be = some cb) (k1 : s0.heap.IsCell cp (some (.ref lp))) (k2 : s0.heap.IsCell cb (some (.ref lbh)))
    (l1 : s0.heap.IsList lp ip) (l2 : s0.heap.IsList lbh ib) (n1 : cp ≠ P) (n2 : cb ≠ P) (n3 : lp ≠ P) (n4 : lbh ≠ P)
    (hat : ∀ i y, m[i]? = some (some y) → i < 1000 ∧ ∃ (d o : Nat) (t : Tok), ip[i]? = some (.ref d) ∧ d ≠ P ∧ PlD X.prog X.w s0.heap d (R i) ∧ mO b i = some o ∧ ib[i]? = some (.int (o : Nat) t) ∧ o ∈ R i ∧ y ∈ R i)
    (hPt : ∀ i va vb, Pt i #[va, vb] → ∃ (t : Tok) (y : Option Nat), va = .int (i : Nat) t ∧ m[i]? = some y ∧ RelV (ov y) vb)
    (ns1 : NoSl (.Name xa p6)) (ns2 : NoSl (.Name xa p9))
    (hda : (xa == ("__debug__" : Str)) = false := by decide) (hdb : (xb == ("__debug__" : Str)) = false := by decide) (hdf : (fn == ("__debug__" : Str)) = false := by decide)
    (hdp : (pl == ("__debug__" : Str)) = false := by decide) (hdp2 : (pl == ("__classdict__" : Str)) = false := by decide) (hdq : (be == ("__debug__" : Str)) = false := by decide) (hdq2 : (be == ("__classdict__" : Str)) = false := by decide)
    (hse : ∀ env, starEach [.Subscript (.Name pl p5) (.Name xa p6) p7, .Subscript (.Name be p8) (.Name xa p9) p10, .Name xb p11] env = [(false, eval (.Subscript (.Name pl p5) (.Name xa p6) p7) env), (false, eval (.Subscript (.Name be p8) (.Name xa p9) p10) env), (false, eval (.Name xb p11) env)] := by intro env; rfl) :
    EltT X P scope xa xb (.BoolOp .And [.Compare (.Name xb p1) [.IsNot] [.Constant .none j p2] p3, .Call (.Name fn p4) [.Subscript (.Name pl p5) (.Name xa p6) p7, .Subscript (.Name be p8) (.Name xa p9) p10, .Name xb p11] [] p12] p13) s0 Pt (fun i y => y = .bool (turnB R m b i)) := by
  intro cenv A' E' i va vb s₂ m₂ hA hd hu hsc hcl hgl hPti hn hma hmb hkeep
  obtain ⟨t, y, rfl, hy, rv⟩ := hPt i va vb hPti
  have hkc : cenv.scope.kind = .function := by rw [hsc]; exact hk
  have lac : cenv.scope.names.lookup xa = some .local := by rw [hsc]; exact la
  have lbc : cenv.scope.names.lookup xb = some .local := by rw [hsc]; exact lb
  have bnP : ∀ a o, X.base.get? a = some o → a ≠ P := fun a o e z => by
    obtain ⟨h1, h2⟩ := I.ok.bs a o e
    have := I.base.free a o h1 h2 (I.ok.noex a o e)
    obtain ⟨ps, hps⟩ := hHP
    rw [z, hps] at this
    cases this
  have KX : X.K.In s₂.heap := fun a o e => hkeep a o (bnP a o (I.mod.kin a o e)) (I.bk a o (I.mod.kin a o e))
  have lim : s₂.heap.NoLimit := by
    refine (I.nolimit.extBut (a := P) (fun a o ha e => hkeep a o ha e) ?_)
    obtain ⟨_, hns, _⟩ := I.mod.nolimit
    obtain ⟨o', _, _, ho, _, _⟩ := hns
    exact bnP _ _ ho
  have hmo : mO m i = y := by
    show (m[i]?).getD none = y
    rw [hy]; rfl
  refine BoolOp_and (wpAny_Compare1 (name_loc hkc lbc hn hmb (Constant_none (isnot_none_gen ?_)) hdb))
  cases y with
  | none =>
    have e : vb = Value.none := rv
    subst e
    refine wpAny_truthy_bool ?_
    have tr : turnB R m b i = false := by unfold turnB; rw [hmo]
    exact ⟨by show _ = Value.bool (turnB R m b i); rw [tr]; rfl, keeps_refl s₂⟩
  | some y =>
    obtain ⟨tm, rfl⟩ := rel_int rv
    refine wpAny_truthy_bool ?_
    refine BoolOp_one (wpAny_Call_Name_kw ?_)
    obtain ⟨hi, d, o, to, e1, nd, hpd, hbo, e2, ho, hy2⟩ := hat i y hy
    have tr : turnB R m b i = rather (R i) o (some y) := by
      unfold turnB
      rw [hmo, hbo]
    refine Calls.Name_function_global hkc (show cenv.scope.names.lookup fn = some .globalImplicit by rw [hsc]; exact lfn) (Calls.loadGlobal_global (mg := X.mg) (v := .ref f) (by rw [hgl, I.ok.glob]; exact (I.mod.glob.keeps I.bk).extBut (fun a o ha e => hkeep a o ha e) gP) hmf ?_) hdf
    obtain ⟨oc, od, kV, doc, pm, an, cdv, ct, osl, _, lk, hcd⟩ := F.ex
    refine callWith_def (o := { cls := oc, dict := od, data := .func fd, slots := osl }) (fd := fd) rfl ?_ (by rw [hse]; rfl)
    rw [hse]
    have c1 : s₂.heap.IsCell cp (some (.ref lp)) := by
      obtain ⟨o, h1, h2⟩ := k1
      exact ⟨o, hkeep _ _ n1 h1, h2⟩
    have c2 : s₂.heap.IsCell cb (some (.ref lbh)) := by
      obtain ⟨o, h1, h2⟩ := k2
      exact ⟨o, hkeep _ _ n2 h1, h2⟩
    have L1 : s₂.heap.IsList lp ip := Heap.IsList.at l1 fun o e => hkeep lp o n3 e
    have L2' : s₂.heap.IsList lbh ib := Heap.IsList.at l2 fun o e => hkeep lbh o n4 e
    have fr : ∀ {x : Str} {c : Addr}, scope.names.lookup x = some .free → X.env.cells.lookup x = some c → cenv.cells.lookup x = some c := fun h1 h2 => by rw [hcl]; exact clo_look h1 h2
    have i63 : ((i : Nat) : Int) < 2 ^ 63 := by omega
    refine Calls.spliced_cons ?_
    refine subD_of PySem.F.slot_list_getitem.lookup ns1 (name_free hkc (by rw [hsc]; exact lpl) (fr lpl hcp) c1 (name_loc hkc lac hn hma ⟨Heap.IsList.typeIs L1, ?_⟩ hda) hdp hdp2)
    refine wpAny_getItem_list L1 (by omega) i63 (by simpa using e1) ?_
    refine Calls.spliced_cons ?_
    refine subD_of PySem.F.slot_list_getitem.lookup ns2 (name_free hkc (by rw [hsc]; exact lbe) (fr lbe hcb) c2 (name_loc hkc lac hn hma ⟨Heap.IsList.typeIs L2', ?_⟩ hda) hdq hdq2)
    refine wpAny_getItem_list L2' (by omega) i63 (by simpa using e2) ?_
    refine Calls.spliced_cons (name_loc hkc lbc hn hmb ?_ hdb)
    refine Calls.spliced_nil ?_
    refine ⟨KX _ _ lk, ?_⟩
    refine wpAny_mono (call_rather F B RT KX lim (by have := hr.dp; omega) (mate := some y) ⟨tm, rfl⟩ (hpd.at fun o e => hkeep d o nd e) ho (fun z e => by cases e; exact hy2)) (fun y' s' h => ⟨by show y' = Value.bool (turnB R m b i); rw [tr]; exact h.1, h.2⟩) fun _ _ e => e

theorem truth_bool {prog : Program} {w : World} {A : Around} {hp : Heap} {tr : Nat → Bool} : TruthIn prog w A hp (fun i y => y = .bool (tr i)) tr := by
  intro i v s Q E hk hF hQ
  have hF : v = .bool (tr i) := hF
  subst hF
  exact wpAny_truthy_bool (hQ s.toks (Nat.le_refl _))
/-- the names that the generator expression takes from outside -/
def genT (sc scope : Scope) (pl be fn : Str) : Bool := decide (scope.names.lookup pl = some NameKind.free) && decide (scope.names.lookup be = some NameKind.free) && decide (scope.names.lookup fn = some NameKind.globalImplicit) && decide (sc.names.lookup pl = some NameKind.cell) && decide (sc.names.lookup be = some NameKind.cell)
/-- whether somebody is turned badly -/
def tTurn (P : Addr) (ipl ibe : Nat) (ta : TA) : TE := fun σ H Q => ta σ H fun vs H1 => ∃ (hf lp lb : Addr) (R : Nat → List Nat) (m b : List (Option Nat)) (ds : List Addr), vs = [.ref hf] ∧ H1 hf = some (.lst (m.map ov)) ∧ m.length ≤ 1000 ∧ σ[ipl]? = some (some (.ref lp)) ∧ σ[ibe]? = some (some (.ref lb)) ∧
  H1 lp = some (.lst (ds.map V.ref)) ∧ H1 lb = some (.lst (b.map ov)) ∧ TabG H1 P ∧
  (∀ i y, m[i]? = some (some y) → ∃ (d : Addr) (kvs : List (L2.Key × V)) (o : Nat), ds[i]? = some d ∧ H1 d = some (.dK kvs) ∧ (∀ x, x ∈ R i → valV kvs (Sum.inl (x : Int)) = some (nv ((R i).idxOf x))) ∧ b[i]? = some (some o) ∧ o ∈ R i ∧ y ∈ R i) ∧
  ∀ H2, Tabbed P H1 H2 → Q (.bl ((List.range m.length).any (turnB R m b))) H2
theorem pe_turned {c P : Addr} {xa xb pl be fn : Str} {ot mt plc : Str} {st : Stmt} {f : Addr} {fd : FuncData} {ipl ibe : Nat} {pa pb pt p pos gpos pz zpos p1 p2 p3 p4 p5 p6 p7 p8 p9 p10 p11 p12 p13 : Pos} {j kt : Nat} {scope : Scope} {e1 : Expr} {k : Nat} {ta : TA}
    (hr : Room k X.A) (hg : Gl X "any") (hm : X.mg "any" = none) (hgz : Gl X "enumerate") (hmz : X.mg "enumerate" = none) (TB : TabB X.base X.mg c P) (hcode : X.env.code = .ref c) (hC : genC X.env.scope scope xa xb = true) (hT : genT X.env.scope scope pl be fn = true)
    (hmf : X.mg fn = some (.ref f)) (F : Fun X.K fn fn st f fd) (B : Binds X.K fd [plc, ot, mt] []) (RT : RatherTxt X.K st plc ot mt) (hip : X.N[ipl]? = some pl) (hib : X.N[ibe]? = some be)
    (ha : PA X [e1] ta) (ns1 : NoSl (.Name xa p6)) (ns2 : NoSl (.Name xa p9)) 
    (hda : (xa == ("__debug__" : Str)) = false := by decide) (hdb : (xb == ("__debug__" : Str)) = false := by decide) (hdf : (fn == ("__debug__" : Str)) = false := by decide)
    (hdp : (pl == ("__debug__" : Str)) = false := by decide) (hdp2 : (pl == ("__classdict__" : Str)) = false := by decide) (hdq : (be == ("__debug__" : Str)) = false := by decide) (hdq2 : (be == ("__classdict__" : Str)) = false := by decide)
    (hs : ∀ v, genFold (.Call (.Name "enumerate" pz) [e1] [] zpos) X.env v = pure v := by intro v; rfl)
    (hse : starEach [e1] X.env = (false, eval e1 X.env) :: starEach [] X.env := by rfl)
    (he : starEach [.GeneratorExp (.BoolOp .And [.Compare (.Name xb p1) [.IsNot] [.Constant .none j p2] p3, .Call (.Name fn p4) [.Subscript (.Name pl p5) (.Name xa p6) p7, .Subscript (.Name be p8) (.Name xa p9) p10, .Name xb p11] [] p12] p13) [⟨.Tuple [.Name xa pa, .Name xb pb] kt pt, .Call (.Name "enumerate" pz) [e1] [] zpos, [], 0⟩] scope gpos] X.env = (false, eval (.GeneratorExp (.BoolOp .And [.Compare (.Name xb p1) [.IsNot] [.Constant .none j p2] p3, .Call (.Name fn p4) [.Subscript (.Name pl p5) (.Name xa p6) p7, .Subscript (.Name be p8) (.Name xa p9) p10, .Name xb p11] [] p12] p13) [⟨.Tuple [.Name xa pa, .Name xb pb] kt pt, .Call (.Name "enumerate" pz) [e1] [] zpos, [], 0⟩] scope gpos) X.env) :: starEach [] X.env := by rfl)
    (hse3 : ∀ env, starEach [.Subscript (.Name pl p5) (.Name xa p6) p7, .Subscript (.Name be p8) (.Name xa p9) p10, .Name xb p11] env = [(false, eval (.Subscript (.Name pl p5) (.Name xa p6) p7) env), (false, eval (.Subscript (.Name be p8) (.Name xa p9) p10) env), (false, eval (.Name xb p11) env)] := by intro env; rfl) :
    PE X (.Call (.Name "any" p) [.GeneratorExp (.BoolOp .And [.Compare (.Name xb p1) [.IsNot] [.Constant .none j p2] p3, .Call (.Name fn p4) [.Subscript (.Name pl p5) (.Name xa p6) p7, .Subscript (.Name be p8) (.Name xa p9) p10, .Name xb p11] [] p12] p13) [⟨.Tuple [.Name xa pa, .Name xb pb] kt pt, .Call (.Name "enumerate" pz) [e1] [] zpos, [], 0⟩] scope gpos] [] pos) (tTurn P ipl ibe ta) := by
  refine pe_anyP hr hg hm TB hcode hC hs (fun pins s σ H Q I S h => ?_) he
  unfold genT at hT
  simp only [Bool.and_eq_true, decide_eq_true_iff] at hT
  obtain ⟨⟨⟨⟨t1, t2⟩, t3⟩, t4⟩, t5⟩ := hT
  refine Call_ (ld_blt I hgz hmz PyProof.Rows.boot_enumerate (PyProof.Rows.callWith_type1 (thn (ha.run zpos pins s σ H _ I h) fun us s1 ⟨vs, H1, I1, r1, q1⟩ => ?_) hse (by rfl)))
  obtain ⟨hf, lp, lb, R, m, b, ds, rfl, hhf, hm1000, s1p, s1b, hlp, hlb, hT, hat, q⟩ := q1
  cases r1 with
  | cons r rr =>
    cases rr
    cases r
    obtain ⟨_, its, nn1, v1, g1⟩ := I1.hok _ _ hhf
    obtain ⟨_, itp, nn2, v2, g2⟩ := I1.hok _ _ hlp
    obtain ⟨_, itb, nn3, v3, g3⟩ := I1.hok _ _ hlb
    have L1 : s1.heap.IsList hf its.toArray := ⟨_, g1, rfl, nn1, rfl⟩
    have Lp : s1.heap.IsList lp itp.toArray := ⟨_, g2, rfl, nn2, rfl⟩
    have Lb : s1.heap.IsList lb itb.toArray := ⟨_, g3, rfl, nn3, rfl⟩
    have vv2 := vals_refs v2
    have hHP : ∃ ps, H1 P = some (.tbl ps) := by obtain ⟨pt0, hP, _⟩ := hT; exact ⟨_, hP⟩
    obtain ⟨pt0, hP⟩ := hHP
    have neP : ∀ {a : Addr} {u : HO}, H1 a = some u → (∀ ps, u ≠ .tbl ps) → a ≠ P := fun {a u} h1 h2 z => by
      rw [z, hP] at h1
      exact h2 _ (Option.some.inj h1).symm
    have nhf : hf ≠ P := neP hhf (by intro ps z; cases z)
    have nlp : lp ≠ P := neP hlp (by intro ps z; cases z)
    have nlb : lb ≠ P := neP hlb (by intro ps z; cases z)
    have lP : P < s1.heap.objs.size := by
      have := I1.hok _ _ hP
      exact Heap.lt_size this
    have lhf : hf < s1.heap.objs.size := Heap.lt_size g1
    obtain ⟨m1, hns1, hloc⟩ := I1.loc
    obtain ⟨u1, ru1, lk1⟩ := hloc ipl pl _ hip s1p (.inr (.inl t4))
    obtain ⟨u2, ru2, lk2⟩ := hloc ibe be _ hib s1b (.inr (.inl t5))
    cases ru1
    cases ru2
    have cellOf : ∀ {x : Str} {u : Value}, X.env.scope.names.lookup x = some NameKind.cell → Look X.env s1.heap m1 x u → ∃ cc, X.env.cells.lookup x = some cc ∧ s1.heap.IsCell cc (some u) := fun {x u} hx h => by
      rcases h with ⟨h1, _⟩ | ⟨_, h⟩
      · have h1' : X.env.scope.names.lookup x = some NameKind.local := h1
        rw [hx] at h1'
        cases h1'
      · exact h
    obtain ⟨cp, hcp, kp1⟩ := cellOf t4 lk1
    obtain ⟨cb, hcb, kp2⟩ := cellOf t5 lk2
    have ncp : cp ≠ P := fun z => by
      have := I1.freeC _ _ hcp
      rw [z, hP] at this
      cases this
    have ncb : cb ≠ P := fun z => by
      have := I1.freeC _ _ hcb
      rw [z, hP] at this
      cases this
    refine call_enumerate_list L1 fun h' hE hTI hsz hk => ?_
    refine ⟨s1, H1, s1.heap.objs.size + 1, _, _, _, _, _, _, _, turnB R m b, rfl, I1, rfl, hk, by show s1.heap.objs.size ≤ h'.objs.size; omega, hT,
      fun A' hA => (WalksT.enumerate (prog := X.prog) (w := X.w) hA (s1.heap.objs.size + 1) s1.heap.objs.size hf (Nat.succ_ne_self _) (Nat.ne_of_lt (Nat.lt_succ_of_lt lhf)) (Nat.ne_of_lt lhf) its.toArray).toU, fun i vals hv => by obtain ⟨t, x, _, e⟩ := hv; exact ⟨_, x, e⟩,
      ⟨⟨_, hE⟩, hTI, isList_keep L1 fun o e => hk _ o e⟩, fun c hc => ?_, fun hc => ?_, fun c hc => ?_,
      elt_turned hr S.kind S.la S.lb t1 t2 t3 hmf F B RT I1 ⟨_, hP⟩ TB.gP hcp hcb kp1 kp2 Lp Lb ncp ncb nlp nlb (fun i y hy => ?_) (fun i va vb hPt => ?_) ns1 ns2 hda hdb hdf hdp hdp2 hdq hdq2 hse3, truth_bool, fun H2 hH2 => ?_⟩
    · show c < h'.objs.size
      have e' : c = s1.heap.objs.size + 1 ∨ c = s1.heap.objs.size ∨ c = hf := by simpa using hc
      rw [hsz]
      rcases e' with z | z | z
      · rw [z]; exact Nat.lt_succ_self _
      · rw [z]; exact Nat.lt_add_of_pos_right (by decide)
      · rw [z]; exact Nat.lt_of_lt_of_le lhf (Nat.le_add_right _ _)
    · have e' : P = s1.heap.objs.size + 1 ∨ P = s1.heap.objs.size ∨ P = hf := by simpa using hc
      rcases e' with z | z | z
      · exact absurd (z ▸ lP) (Nat.not_lt_of_le (Nat.le_add_right _ _))
      · exact absurd (z ▸ lP) (Nat.lt_irrefl _)
      · exact nhf z.symm
    · have e' : c = s1.heap.objs.size + 1 ∨ c = s1.heap.objs.size := by simpa using hc
      rcases e' with z | z
      · rw [z]; exact Nat.le_add_right _ _
      · rw [z]; exact Nat.le_refl _
    · have hi : i < m.length := (List.getElem?_eq_some_iff.mp hy).1
      obtain ⟨d, kvs, o, h1, h2, h3, h4, h5, h6⟩ := hat i y hy
      obtain ⟨_, _, vs, kv, hd⟩ := I1.hok _ _ h2
      obtain ⟨ub, e1, e2⟩ := vals_at (x := ov (some o)) v3 (by rw [List.getElem?_map, h4]; rfl)
      obtain ⟨tb, rfl⟩ := rel_int e2
      refine ⟨by omega, d, o, tb, ?_, neP h2 (by intro ps z; cases z), ⟨vs, hd, fun x hx => ?_⟩, by show (b[i]?).getD none = _; rw [h4]; rfl, by simpa using e1, h5, h6⟩
      · rw [vv2]
        simp [h1]
      · have := kv.val (Sum.inl (x : Int))
        rw [h3 x hx] at this
        cases hv : valueAt vs (Sum.inl (x : Int)) with
        | none => rw [hv] at this; exact this.elim
        | some u =>
          rw [hv] at this
          obtain ⟨tt, e⟩ := rel_int (y := (R i).idxOf x) (v := u) this
          exact ⟨tt, by rw [e]⟩
    · obtain ⟨t, x, hx, e⟩ := hPt
      obtain ⟨e1', e2'⟩ : va = .int (i : Nat) t ∧ vb = x := by simpa using congrArg Array.toList e
      subst e1' e2'
      have hx' : its[i]? = some vb := by simpa using hx
      obtain ⟨y, hy, ry⟩ := vals_ov m v1 hx'
      exact ⟨t, y, rfl, hy, ry⟩
    · have en : its.toArray.size = m.length := by rw [List.size_toArray, ← v1.length, List.length_map]
      rw [en]
      exact q H2 hH2
end
end BkG
set_option linter.all false
/-! Half pairings (points 10 to 12): in all steady ones those who are alone are the same, and the odd rings too. Core Lean. -/
namespace Bk
/-- a half pairing: s p is whom p follows, f p who follows p -/
structure Half (R : Nat → List Nat) (s f : Nat → Option Nat) : Prop where
  on : ∀ p q, s p = some q → q ∈ R p
  link : ∀ p q, s p = some q ↔ f q = some p
  both : ∀ p, (∃ q, s p = some q) ↔ ∃ r, f p = some r
structure Steady (R : Nat → List Nat) (s f : Nat → Option Nat) : Prop where
  half : Half R s f
  fst : ∀ p q r, s p = some q → f p = some r → rk R p q ≤ rk R p r
  snd : ∀ p q, q ∈ R p → (∀ z, f p = some z → rk R p q < rk R p z) → ∃ z, f q = some z ∧ rk R q z ≤ rk R q p
/-- a would rather be followed as in f than as in g -/
def Bet (R : Nat → List Nat) (f g : Nat → Option Nat) (p : Nat) : Prop := ∃ r, f p = some r ∧ ∀ z, g p = some z → rk R p r < rk R p z
theorem Bet.irr {R : Nat → List Nat} {f g : Nat → Option Nat} {p : Nat} (h : Bet R f g p) (e : f p = g p) : False := by
  obtain ⟨r, h1, h2⟩ := h
  exact Nat.lt_irrefl _ (h2 r (by rw [← e]; exact h1))
theorem Bet.asym {R : Nat → List Nat} {f g : Nat → Option Nat} {p : Nat} (h : Bet R f g p) (h' : Bet R g f p) : False := by
  obtain ⟨r, h1, h2⟩ := h
  obtain ⟨r', h3, h4⟩ := h'
  have := h2 r' h3
  have := h4 r h1
  omega
section
variable {R : Nat → List Nat} {s f s' g : Nat → Option Nat}
theorem Half.back (L : Lists R) (h : Half R s f) {p r : Nat} (e : f p = some r) : r ∈ R p := L.mu _ _ (h.on r p ((h.link r p).mpr e))
theorem three (L : Lists R) (a : Half R s f) (b : Half R s' g) (p : Nat) : Bet R f g p ∨ Bet R g f p ∨ f p = g p := by
  cases h1 : f p with
  | none =>
    cases h2 : g p with
    | none => exact .inr (.inr rfl)
    | some z => exact .inr (.inl ⟨z, h2, fun w hw => by rw [h1] at hw; cases hw⟩)
  | some r =>
    cases h2 : g p with
    | none => exact .inl ⟨r, h1, fun w hw => by rw [h2] at hw; cases hw⟩
    | some z =>
      rcases Nat.lt_trichotomy (rk R p r) (rk R p z) with h | h | h
      · exact .inl ⟨r, h1, fun w hw => by rw [h2] at hw; cases hw; exact h⟩
      · exact .inr (.inr (by rw [idx_inj (a.back L h1) h]))
      · exact .inr (.inl ⟨z, h2, fun w hw => by rw [h1] at hw; cases hw; exact h⟩)
/-- whom such a one follows -/
theorem step_s (L : Lists R) (a : Steady R s f) (b : Steady R s' g) {p q : Nat} (h : Bet R f g p) (e : s p = some q) : Bet R g f q ∨ (f q = g q ∧ s' p = some q) := by
  obtain ⟨r, h1, h2⟩ := h
  have hq : f q = some p := (a.half.link p q).mp e
  obtain ⟨z, hz, hle⟩ := b.snd p q (a.half.on p q e) fun z hz => Nat.lt_of_le_of_lt (a.fst p q r e h1) (h2 z hz)
  rcases three L b.half a.half q with h | h | h
  · exact .inl h
  · obtain ⟨w, hw, h3⟩ := h
    rw [hq] at hw
    cases hw
    have := h3 z hz
    omega
  · refine .inr ⟨h.symm, (b.half.link p q).mpr (h.trans hq)⟩
/-- who follows such a one -/
theorem step_f (L : Lists R) (a : Steady R s f) (b : Steady R s' g) {p r : Nat} (h : Bet R f g p) (e : f p = some r) : Bet R g f r ∨ (f r = g r ∧ s p = some r ∧ s' p = some r) := by
  obtain ⟨r', h1, h2⟩ := h
  rw [e] at h1
  cases h1
  have hs : s r = some p := (a.half.link r p).mpr e
  obtain ⟨z, hz, hle⟩ := b.snd p r (a.half.back L e) h2
  obtain ⟨u, hu⟩ := (a.half.both r).mp ⟨p, hs⟩
  have hpu := a.fst r p u hs hu
  rcases three L b.half a.half r with h | h | h
  · exact .inl h
  · obtain ⟨w, hw, h3⟩ := h
    rw [hu] at hw
    cases hw
    have := h3 z hz
    omega
  · have hzu : z = u := by
      rw [hz, hu] at h
      exact Option.some.inj h
    subst hzu
    have : z = p := idx_inj (a.half.back L hu) (by have : rk R r z = rk R r p := by omega
                                                   exact this)
    subst this
    exact .inr ⟨h.symm, (a.half.link z r).mpr hu, (b.half.link z r).mpr hz⟩
/-! ### counting -/
def one1 (R : Nat → List Nat) (f g : Nat → Option Nat) (p : Nat) : Prop := Bet R f g p ∧ ∃ r, f p = some r ∧ f r = g r
def one0 (R : Nat → List Nat) (s f g : Nat → Option Nat) (p : Nat) : Prop := Bet R f g p ∧ ∃ q, s p = some q ∧ f q = g q
theorem one10 (L : Lists R) (a : Steady R s f) (b : Steady R s' g) {p : Nat} (h : one1 R f g p) : one0 R s f g p := by
  obtain ⟨h1, r, h2, h3⟩ := h
  rcases step_f L a b h1 h2 with h | h
  · exact (h.irr h3.symm).elim
  · exact ⟨h1, r, h.2.1, h3⟩
open Classical in
noncomputable def lst (n : Nat) (P : Nat → Prop) : List Nat := (List.range n).filter fun p => decide (P p)
theorem mem_lst {n : Nat} {P : Nat → Prop} {p : Nat} : p ∈ lst n P ↔ p < n ∧ P p := by
  unfold lst
  rw [List.mem_filter, List.mem_range]
  simp
theorem nd_lst {n : Nat} {P : Nat → Prop} : (lst n P).Nodup := List.nodup_range.filter _
theorem full {l1 l2 : List Nat} (h1 : l1.Nodup) (hs : ∀ x ∈ l1, x ∈ l2) (hl : l2.length ≤ l1.length) : ∀ x ∈ l2, x ∈ l1 := fun x hx => by
  apply Classical.byContradiction
  intro hn
  have := len_of_sub (l1 := x :: l1) (l2 := l2) (List.nodup_cons.mpr ⟨hn, h1⟩) fun y hy => by
    rcases List.mem_cons.mp hy with z | z
    · rw [z]; exact hx
    · exact hs y z
  simp at this
  omega
variable {n : Nat}
theorem map_into (L : Lists R) (a : Steady R s f) (b : Steady R s' g) {p r : Nat} (h : Bet R f g p) (h1 : ¬ one1 R f g p) (e : f p = some r) : Bet R g f r ∧ ¬ one0 R s' g f r := by
  rcases step_f L a b h e with h2 | ⟨h2, _⟩
  · refine ⟨h2, fun h3 => ?_⟩
    obtain ⟨_, q, hq, hz⟩ := h3
    have hs : s r = some p := (a.half.link r p).mpr e
    rcases step_s L b a h2 hq with h4 | ⟨_, h4⟩
    · exact h4.irr hz.symm
    · rw [hs] at h4
      cases h4
      exact h.irr hz.symm
  · exact (h1 ⟨h, r, e, h2⟩).elim
theorem le_card (L : Lists R) (hn : ∀ i x, x ∈ R i → i < n) (a : Steady R s f) (b : Steady R s' g) :
    ∃ l : List Nat, l = (lst n fun p => Bet R f g p ∧ ¬ one1 R f g p).map (fun p => (f p).getD 0) ∧ l.Nodup ∧ ∀ x ∈ l, x ∈ lst n fun p => Bet R g f p ∧ ¬ one0 R s' g f p := by
  refine ⟨_, rfl, nodup_map_on nd_lst fun x hx y hy e => ?_, fun x hx => ?_⟩
  · obtain ⟨_, ⟨r, hr, _⟩, _⟩ := mem_lst.mp hx
    obtain ⟨_, ⟨r', hr', _⟩, _⟩ := mem_lst.mp hy
    rw [hr, hr'] at e
    have e' : r = r' := e
    subst e'
    have h1 := (a.half.link r x).mpr hr
    have h2 := (a.half.link r y).mpr hr'
    rw [h1] at h2
    exact Option.some.inj h2
  · obtain ⟨p, hp, rfl⟩ := List.mem_map.mp hx
    obtain ⟨_, hb, h1⟩ := mem_lst.mp hp
    obtain ⟨r, hr, _⟩ := id hb
    rw [hr]
    obtain ⟨h2, h3⟩ := map_into L a b hb h1 hr
    exact mem_lst.mpr ⟨hn r p (a.half.on r p ((a.half.link r p).mpr hr)), h2, h3⟩
theorem len_mono {P Q : Nat → Prop} (h : ∀ p, P p → Q p) : (lst n P).length ≤ (lst n Q).length :=
  len_of_sub nd_lst fun x hx => by
    obtain ⟨h1, h2⟩ := mem_lst.mp hx
    exact mem_lst.mpr ⟨h1, h x h2⟩
theorem counts (L : Lists R) (hn : ∀ i x, x ∈ R i → i < n) (a : Steady R s f) (b : Steady R s' g) :
    (∀ p, one0 R s f g p → one1 R f g p) ∧ ∀ y, Bet R g f y → ¬ one1 R g f y → ∃ x, Bet R f g x ∧ ¬ one1 R f g x ∧ f x = some y := by
  have ltb : ∀ {f' g' : Nat → Option Nat} {s1 : Nat → Option Nat}, Steady R s1 f' → ∀ {p}, Bet R f' g' p → p < n := fun {f' g' s1} h {p} hb => by
    obtain ⟨r, hr, _⟩ := hb
    exact hn p r (h.half.back L hr)
  obtain ⟨l1, e1, d1, i1⟩ := le_card L hn a b
  obtain ⟨l2, e2, d2, i2⟩ := le_card L hn b a
  have c1 : (lst n fun p => Bet R f g p ∧ ¬ one1 R f g p).length ≤ (lst n fun p => Bet R g f p ∧ ¬ one0 R s' g f p).length := by
    have := len_of_sub d1 i1
    rw [e1, List.length_map] at this
    exact this
  have c2 : (lst n fun p => Bet R g f p ∧ ¬ one1 R g f p).length ≤ (lst n fun p => Bet R f g p ∧ ¬ one0 R s f g p).length := by
    have := len_of_sub d2 i2
    rw [e2, List.length_map] at this
    exact this
  have m1 : (lst n fun p => Bet R f g p ∧ ¬ one0 R s f g p).length ≤ (lst n fun p => Bet R f g p ∧ ¬ one1 R f g p).length := len_mono fun p h => ⟨h.1, fun z => h.2 (one10 L a b z)⟩
  have m2 : (lst n fun p => Bet R g f p ∧ ¬ one0 R s' g f p).length ≤ (lst n fun p => Bet R g f p ∧ ¬ one1 R g f p).length := len_mono fun p h => ⟨h.1, fun z => h.2 (one10 L b a z)⟩
  constructor
  · intro p h
    apply Classical.byContradiction
    intro hno
    have := full (l1 := lst n fun p => Bet R f g p ∧ ¬ one0 R s f g p) (l2 := lst n fun p => Bet R f g p ∧ ¬ one1 R f g p) nd_lst (fun x hx => by
      obtain ⟨h1, h2, h3⟩ := mem_lst.mp hx
      exact mem_lst.mpr ⟨h1, h2, fun z => h3 (one10 L a b z)⟩) (by omega) p (mem_lst.mpr ⟨ltb a h.1, h.1, hno⟩)
    exact (mem_lst.mp this).2.2 h
  · intro y hy h1
    have hy0 : y ∈ lst n fun p => Bet R g f p ∧ ¬ one0 R s' g f p := full (l1 := lst n fun p => Bet R g f p ∧ ¬ one0 R s' g f p) (l2 := lst n fun p => Bet R g f p ∧ ¬ one1 R g f p) nd_lst (fun x hx => by
      obtain ⟨h1, h2, h3⟩ := mem_lst.mp hx
      exact mem_lst.mpr ⟨h1, h2, fun z => h3 (one10 L b a z)⟩) (by omega) y (mem_lst.mpr ⟨ltb b hy, hy, h1⟩)
    have := full d1 i1 (by rw [e1, List.length_map]; omega) y hy0
    rw [e1] at this
    obtain ⟨x, hx, e⟩ := List.mem_map.mp this
    obtain ⟨_, h2, h3⟩ := mem_lst.mp hx
    obtain ⟨r, hr, _⟩ := id h2
    rw [hr] at e
    have e' : r = y := e
    exact ⟨x, h2, h3, by rw [hr, e']⟩
/-! ### two colours -/
/-- the ones between -/
def mid (R : Nat → List Nat) (f g : Nat → Option Nat) (p : Nat) : Prop := f p = g p ∧ ∃ y, f p = some y ∧ one1 R g f y
def colC (R : Nat → List Nat) (f g : Nat → Option Nat) (p : Nat) : Prop := (Bet R f g p ∧ ¬ one1 R f g p) ∨ mid R f g p
theorem colour_C (L : Lists R) (hn : ∀ i x, x ∈ R i → i < n) (a : Steady R s f) (b : Steady R s' g) {p q : Nat} (h : colC R f g p) (e : s p = some q) : Bet R g f q := by
  rcases h with ⟨h1, h2⟩ | ⟨h1, y, h2, h3, z, h4, h5⟩
  · rcases step_s L a b h1 e with h | ⟨h, _⟩
    · exact h
    · exact (h2 ((counts L hn a b).1 p ⟨h1, q, e, h⟩)).elim
  · -- y follows p in f; z follows y in g, and is followed alike
    rcases step_f L b a h3 h4 with h | ⟨_, h6, h7⟩
    · exact (h.irr h5.symm).elim
    · have hy : s y = some p := (a.half.link y p).mpr h2
      rw [hy] at h7
      cases h7
      have gp : g p = some y := h1.symm.trans h2
      have hgy : s' p = some y := (b.half.link p y).mpr h4
      have ne : q ≠ y := fun w => by
        subst w
        have fy : f q = some p := (a.half.link p q).mp e
        exact h3.irr (h4.trans fy.symm)
      have hq : f q = some p := (a.half.link p q).mp e
      have lt : rk R p q < rk R p y := by
        have := a.fst p q y e h2
        have : rk R p q ≠ rk R p y := fun w => ne (idx_inj (a.half.on p q e) w)
        omega
      obtain ⟨w, hw, hle⟩ := b.snd p q (a.half.on p q e) fun w hw => by
        rw [gp] at hw
        cases hw
        exact lt
      refine ⟨w, hw, fun u hu => ?_⟩
      rw [hq] at hu
      cases hu
      have : rk R q w ≠ rk R q p := fun v => by
        have := idx_inj (b.half.back L hw) v
        subst this
        have := (b.half.link w q).mpr hw
        rw [hgy] at this
        cases this
        exact ne rfl
      omega
theorem colour_D (L : Lists R) (hn : ∀ i x, x ∈ R i → i < n) (a : Steady R s f) (b : Steady R s' g) {p : Nat} (h : Bet R g f p) : ∃ q, s p = some q ∧ colC R f g q := by
  by_cases h1 : one1 R g f p
  · obtain ⟨_, z, hz, hzz⟩ := id h1
    rcases step_f L b a h hz with h2 | ⟨_, h2, h3⟩
    · exact (h2.irr hzz.symm).elim
    · exact ⟨z, h3, .inr ⟨hzz.symm, p, (a.half.link p z).mp h3, h1⟩⟩
  · obtain ⟨x, hx, hx1, e⟩ := (counts L hn a b).2 p h h1
    exact ⟨x, (a.half.link p x).mpr e, .inl ⟨hx, hx1⟩⟩
theorem colour_CD (h : colC R f g p) (h' : Bet R g f p) : False := by
  rcases h with ⟨h1, _⟩ | ⟨h1, _⟩
  · exact h1.asym h'
  · exact h'.irr h1.symm
/-- k steps on -/
def walk (s : Nat → Option Nat) : Nat → Nat → Option Nat
  | 0, p => some p
  | k + 1, p => (walk s k p).bind s
theorem walk_add (s : Nat → Option Nat) (j k p : Nat) : walk s (j + k) p = (walk s j p).bind (walk s k) := by
  induction k with
  | zero => show walk s j p = (walk s j p).bind some; cases walk s j p <;> rfl
  | succ k ih =>
    show (walk s (j + k) p).bind s = _
    rw [ih]
    cases walk s j p <;> rfl
theorem colours (L : Lists R) (hn : ∀ i x, x ∈ R i → i < n) (a : Steady R s f) (b : Steady R s' g) {p : Nat} : ∀ k q, walk s k p = some q → (colC R f g p → if k % 2 = 0 then colC R f g q else Bet R g f q) ∧ (Bet R g f p → if k % 2 = 0 then Bet R g f q else colC R f g q)
  | 0, q, e => by
    cases e
    exact ⟨fun h => h, fun h => h⟩
  | k + 1, q, e => by
    obtain ⟨w, hw, hq⟩ := Option.bind_eq_some_iff.mp e
    obtain ⟨h1, h2⟩ := colours L hn a b k w hw
    have d : ∀ {w q}, Bet R g f w → s w = some q → colC R f g q := fun {w q} hd e => by
      obtain ⟨q', e', hc⟩ := colour_D L hn a b hd
      rw [e] at e'
      cases e'
      exact hc
    by_cases hk : k % 2 = 0
    · rw [if_pos hk] at h1 h2
      rw [if_neg (by omega), if_neg (by omega)]
      exact ⟨fun h => colour_C L hn a b (h1 h) hq, fun h => d (h2 h) hq⟩
    · rw [if_neg hk] at h1 h2
      rw [if_pos (by omega), if_pos (by omega)]
      exact ⟨fun h => d (h1 h) hq, fun h => colour_C L hn a b (h2 h) hq⟩
/-- on an odd ring nobody is followed otherwise in another steady half pairing -/
theorem odd_same (L : Lists R) (hn : ∀ i x, x ∈ R i → i < n) (a : Steady R s f) (b : Steady R s' g) {p m : Nat} (hm : m % 2 = 1) (e : walk s m p = some p) : f p = g p := by
  rcases three L a.half b.half p with h | h | h
  · by_cases h1 : one1 R f g p
    · -- such a one is one of two who follow one another
      obtain ⟨_, r, hr, hrr⟩ := h1
      rcases step_f L a b h hr with h2 | ⟨_, h2, _⟩
      · exact (h2.irr hrr.symm).elim
      · have hs : s r = some p := (a.half.link r p).mpr hr
        have ev : ∀ k, walk s (2 * k) p = some p := fun k => by
          induction k with
          | zero => rfl
          | succ k ih =>
            show ((walk s (2 * k) p).bind s).bind s = some p
            rw [ih]
            show (s p).bind s = some p
            rw [h2]
            exact hs
        have : walk s m p = some r := by
          rw [show m = 2 * (m / 2) + 1 by omega]
          show (walk s (2 * (m / 2)) p).bind s = some r
          rw [ev]
          exact h2
        rw [e] at this
        cases this
        exact (L.ir p (a.half.on p p h2)).elim
    · have := (colours L hn a b m p e).1 (.inl ⟨h, h1⟩)
      rw [if_neg (by omega)] at this
      exact (h.asym this).elim
  · have := (colours L hn a b m p e).2 h
    rw [if_neg (by omega)] at this
    exact (colour_CD this h).elim
  · exact h
/-- .. so it is followed the same way -/
theorem odd_walk (L : Lists R) (hn : ∀ i x, x ∈ R i → i < n) (a : Steady R s f) (b : Steady R s' g) {p m : Nat} (hm : m % 2 = 1) (e : walk s m p = some p) : ∀ k q, walk s k p = some q → walk s' k p = some q ∧ walk s m q = some q ∧ s' q = s q
  | 0, q, h => by
    cases h
    refine ⟨rfl, e, ?_⟩
    obtain ⟨q, hq⟩ : ∃ q, s p = some q := by
      rw [show m = 1 + (m - 1) by omega, walk_add] at e
      obtain ⟨q, hq, _⟩ := Option.bind_eq_some_iff.mp e
      exact ⟨q, hq⟩
    have e2 : walk s m q = some q := by
      have : walk s (m + 1) p = some q := by
        show (walk s m p).bind s = some q
        rw [e]
        exact hq
      rw [Nat.add_comm, walk_add] at this
      have h1 : walk s 1 p = some q := hq
      rw [h1] at this
      exact this
    have := odd_same L hn a b hm e2
    rw [hq]
    exact (b.half.link p q).mpr (this.symm.trans ((a.half.link p q).mp hq))
  | k + 1, q, h => by
    obtain ⟨w, hw, hq⟩ := Option.bind_eq_some_iff.mp h
    obtain ⟨h1, h2, h3⟩ := odd_walk L hn a b hm e k w hw
    have e2 : walk s m q = some q := by
      have : walk s (m + 1) w = some q := by
        show (walk s m w).bind s = some q
        rw [h2]
        exact hq
      rw [Nat.add_comm, walk_add] at this
      have h1 : walk s 1 w = some q := hq
      rw [h1] at this
      exact this
    refine ⟨?_, e2, ?_⟩
    · show (walk s' k p).bind s' = some q
      rw [h1]
      show s' w = some q
      rw [h3]
      exact hq
    · exact (odd_walk L hn a b hm e2 0 q rfl).2.2
/-- in all steady half pairings the same ones are alone -/
theorem alone_same (L : Lists R) (hn : ∀ i x, x ∈ R i → i < n) (a : Steady R s f) (b : Steady R s' g) {p : Nat} (h : s p = none) : s' p = none := by
  cases e : s' p with
  | none => rfl
  | some q =>
    obtain ⟨r, hr⟩ := (b.half.both p).mp ⟨q, e⟩
    have hf : f p = none := by
      cases e2 : f p with
      | none => rfl
      | some w =>
        obtain ⟨q', hq'⟩ := (a.half.both p).mpr ⟨w, e2⟩
        rw [h] at hq'
        cases hq'
    obtain ⟨q', hq', _⟩ := colour_D L hn a b (p := p) ⟨r, hr, fun z hz => by rw [hf] at hz; cases hz⟩
    rw [h] at hq'
    cases hq'
end
end Bk
set_option linter.all false
/-! Rings in a table (points 6 to 9) and the half pairing of the last one (point 11). Core Lean. -/
namespace Bk
/-- the people of a ring, round and round -/
def At (ps : List Nat) (i : Nat) : Nat := ps.getD (i % ps.length) 0
theorem At_mod (ps : List Nat) (i j : Nat) : At ps (i + j * ps.length) = At ps i := by
  unfold At
  rw [Nat.add_mul_mod_self_right]
theorem At_len (ps : List Nat) (i : Nat) : At ps (i + ps.length) = At ps i := by
  have := At_mod ps i 1
  rw [Nat.one_mul] at this
  exact this
theorem At_mem {ps : List Nat} (h : 0 < ps.length) (i : Nat) : At ps i ∈ ps := by
  have hi := Nat.mod_lt i h
  unfold At
  rw [List.getD_eq_getElem?_getD, List.getElem?_eq_getElem hi]
  exact List.getElem_mem hi
theorem At_of {ps : List Nat} {i : Nat} (h : i < ps.length) : At ps i = ps[i] := by
  unfold At
  rw [Nat.mod_eq_of_lt h, List.getD_eq_getElem?_getD, List.getElem?_eq_getElem h]
  rfl
theorem mem_At {ps : List Nat} {p : Nat} (h : p ∈ ps) : ∃ i, i < ps.length ∧ At ps i = p := by
  obtain ⟨i, hi, e⟩ := List.getElem_of_mem h
  exact ⟨i, hi, by rw [At_of hi, e]⟩
theorem At_inj {ps : List Nat} (hd : ps.Nodup) (h : 0 < ps.length) {i j : Nat} (e : At ps i = At ps j) : i % ps.length = j % ps.length := by
  have hi := Nat.mod_lt i h
  have hj := Nat.mod_lt j h
  unfold At at e
  rw [List.getD_eq_getElem?_getD, List.getD_eq_getElem?_getD, List.getElem?_eq_getElem hi, List.getElem?_eq_getElem hj] at e
  exact (List.getElem_inj (h₀ := hi) (h₁ := hj) hd).mp e
/-- the best one left -/
def best (T : Nat → List Nat) (p : Nat) : Nat := (T p).headD 0
/-- a ring -/
structure Ring (T : Nat → List Nat) (ps : List Nat) : Prop where
  two : 2 ≤ ps.length
  nd : ps.Nodup
  row : ∀ i, ∃ rest, T (At ps i) = best T (At ps i) :: best T (At ps (i + 1)) :: rest
section
variable {R T : Nat → List Nat} {ps : List Nat} {n : Nat}
abbrev bs (T : Nat → List Nat) (ps : List Nat) (i : Nat) : Nat := best T (At ps i)
theorem Ring.head (r : Ring T ps) (i : Nat) : (T (At ps i)).head? = some (bs T ps i) := by
  obtain ⟨rest, e⟩ := r.row i
  rw [e]
  rfl
theorem Ring.last (r : Ring T ps) (d : Done R T) (i : Nat) : (T (bs T ps i)).getLast? = some (At ps i) := d.held _ _ (r.head i)
theorem Ring.inj (r : Ring T ps) (d : Done R T) {i j : Nat} (e : bs T ps i = bs T ps j) : At ps i = At ps j := by
  have h1 := r.last d i
  have h2 := r.last d j
  rw [e, h2] at h1
  exact (Option.some.inj h1).symm
theorem Ring.pos (r : Ring T ps) : 0 < ps.length := by have := r.two; omega
theorem bs_len (T : Nat → List Nat) (ps : List Nat) (i : Nat) : bs T ps (i + ps.length) = bs T ps i := by unfold bs; rw [At_len]
/-- the one ahead in the ring -/
theorem Ring.ahead (r : Ring T ps) (d : Done R T) (i : Nat) : At ps i ∈ T (bs T ps (i + 1)) ∧ (T (At ps i)).idxOf (bs T ps (i + 1)) = 1 ∧ bs T ps i ≠ bs T ps (i + 1) := by
  obtain ⟨rest, e⟩ := r.row i
  have hm : bs T ps (i + 1) ∈ T (At ps i) := by rw [e]; simp
  have ne : bs T ps i ≠ bs T ps (i + 1) := fun z => by
    have h := r.inj d z
    have h2 := At_inj r.nd r.pos h
    have := r.two
    have e1 : (i + 1) % ps.length = if i % ps.length + 1 = ps.length then 0 else i % ps.length + 1 := by
      have hi := Nat.mod_lt i r.pos
      rw [Nat.add_mod]
      by_cases z : i % ps.length + 1 = ps.length
      · rw [if_pos z, Nat.mod_eq_of_lt (show 1 < ps.length by omega), z, Nat.mod_self]
      · rw [if_neg z, Nat.mod_eq_of_lt (show 1 < ps.length by omega), Nat.mod_eq_of_lt (by omega)]
    rw [e1] at h2
    have hi := Nat.mod_lt i r.pos
    split at h2 <;> omega
  refine ⟨d.tab.mu _ _ hm, ?_, ne⟩
  rw [e, idx_ne _ ne]
  simp
/-- b lets x go: x stands behind the one ahead in b's row -/
def lets (T : Nat → List Nat) (ps : List Nat) (b x : Nat) : Prop := ∃ i, b = bs T ps (i + 1) ∧ x ∈ T b ∧ (T b).idxOf (At ps i) < (T b).idxOf x
def gone (T : Nat → List Nat) (ps : List Nat) (x y : Nat) : Prop := lets T ps x y ∨ lets T ps y x
open Classical in
/-- the table behind it -/
noncomputable def outT (T : Nat → List Nat) (ps : List Nat) : Nat → List Nat := fun x => (T x).filter fun y => decide (¬ gone T ps x y)
theorem mem_outT {x y : Nat} : y ∈ outT T ps x ↔ y ∈ T x ∧ ¬ gone T ps x y := by
  unfold outT
  rw [List.mem_filter]
  simp
theorem outT_sub (x : Nat) : (outT T ps x).Sublist (T x) := List.filter_sublist
theorem head_of {l : List Nat} (hd : l.Nodup) {b : Nat} (hb : b ∈ l) (h : ∀ y ∈ l, l.idxOf b ≤ l.idxOf y) : l.head? = some b := by
  cases l with
  | nil => cases hb
  | cons a l =>
    have h1 := h a List.mem_cons_self
    have h2 : (a :: l).idxOf a = 0 := by simp
    have e : b = a := idxOf_inj hb (by omega)
    rw [e]
    rfl
theorem last_of {l : List Nat} (hd : l.Nodup) {b : Nat} (hb : b ∈ l) (h : ∀ y ∈ l, l.idxOf y ≤ l.idxOf b) : l.getLast? = some b := by
  obtain ⟨l', c, rfl⟩ : ∃ l' c, l = l' ++ [c] := ⟨_, _, (List.dropLast_concat_getLast (ne_of_mem hb)).symm⟩
  rw [List.getLast?_concat]
  have hc : c ∈ l' ++ [c] := by simp
  have h1 := h c hc
  have h2 := last_place hd (List.getLast?_concat) hb
  have e : b = c := idxOf_inj hb (by omega)
  rw [e]
/-- least and greatest of a sublist -/
theorem sub_head_of {s r : List Nat} (hs : s.Sublist r) (hd : r.Nodup) {b : Nat} (hb : b ∈ s) (h : ∀ y ∈ s, r.idxOf b ≤ r.idxOf y) : s.head? = some b := by
  refine head_of (hd.sublist hs) hb fun y hy => ?_
  apply Classical.byContradiction
  intro hn
  have := (sub_place hs hd hy hb).mp (by omega)
  have := h y hy
  omega
theorem sub_last_of {s r : List Nat} (hs : s.Sublist r) (hd : r.Nodup) {b : Nat} (hb : b ∈ s) (h : ∀ y ∈ s, r.idxOf y ≤ r.idxOf b) : s.getLast? = some b := by
  refine last_of (hd.sublist hs) hb fun y hy => ?_
  apply Classical.byContradiction
  intro hn
  have := (sub_place hs hd hb hy).mp (by omega)
  have := h y hy
  omega
/-- one without the ring keeps its best one, who keeps it as the worst one -/
theorem keeps (L : Lists R) (hn : ∀ i x, x ∈ R i → i < n) (d : Done R T) (r : Ring T ps) {p b : Nat} (hp : p ∉ ps) (hb : (T p).head? = some b) : (outT T ps p).head? = some b ∧ (outT T ps b).getLast? = some p := by
  have hbm := head_mem hb
  have hl := d.held p b hb
  have ng : ¬ gone T ps p b := by
    rintro (⟨i, e, _, h⟩ | ⟨i, e, _, _⟩)
    · have := head_place hb
      omega
    · have := r.last d (i + 1)
      rw [← e, hl] at this
      have e2 : p = At ps (i + 1) := Option.some.inj this
      exact hp (by rw [e2]; exact At_mem r.pos _)
  have ng' : ¬ gone T ps b p := fun h => ng (Or.symm h)
  refine ⟨sub_head_of (outT_sub p) (d.tab.nd L p) (mem_outT.mpr ⟨hbm, ng⟩) fun y hy => ?_, sub_last_of (outT_sub b) (d.tab.nd L b) (mem_outT.mpr ⟨d.tab.mu _ _ hbm, ng'⟩) fun y hy => ?_⟩
  · rw [head_place hb]
    exact Nat.zero_le _
  · exact last_place (d.tab.nd L b) hl (mem_outT.mp hy).1
/-- one of the ring loses its best one -/
theorem loses (L : Lists R) (hn : ∀ i x, x ∈ R i → i < n) (d : Done R T) (r : Ring T ps) (i : Nat) : gone T ps (At ps (i + 1)) (bs T ps (i + 1)) := by
  obtain ⟨h1, _, _⟩ := r.ahead d i
  have hl := r.last d (i + 1)
  have hm := last_mem hl
  refine .inr ⟨i, rfl, hm, ?_⟩
  have h2 := last_place (d.tab.nd L _) hl h1
  have ne : At ps i ≠ At ps (i + 1) := fun z => (r.ahead d i).2.2 (by unfold bs; rw [z])
  have : (T (bs T ps (i + 1))).idxOf (At ps i) ≠ (T (bs T ps (i + 1))).idxOf (At ps (i + 1)) := fun z => ne (idxOf_inj h1 z)
  omega
/-- .. and its second best one goes only if it is one of the best ones whose one ahead is its own best one -/
theorem second (L : Lists R) (hn : ∀ i x, x ∈ R i → i < n) (d : Done R T) (r : Ring T ps) {i : Nat} (h : gone T ps (At ps i) (bs T ps (i + 1))) : ∃ j, At ps i = bs T ps (j + 1) ∧ At ps j = bs T ps i := by
  obtain ⟨h1, h2, _⟩ := r.ahead d i
  rcases h with ⟨j, e, _, h⟩ | ⟨j, e, _, h⟩
  · refine ⟨j, e, ?_⟩
    have h0 : (T (At ps i)).idxOf (At ps j) = 0 := by omega
    have hm : At ps j ∈ T (At ps i) := by rw [e]; exact (r.ahead d j).1
    have hb := head_mem (r.head i)
    exact idxOf_inj hm (by rw [h0, head_place (r.head i)])
  · -- the one ahead is kept
    have e2 := r.inj d e
    have e3 : At ps i = At ps j := by
      have := At_inj r.nd r.pos e2
      have h4 : At ps (i + 1 + (ps.length - 1)) = At ps (j + 1 + (ps.length - 1)) := by
        unfold At
        congr 1
        rw [Nat.add_mod, this, ← Nat.add_mod]
      have p := r.pos
      rw [show i + 1 + (ps.length - 1) = i + ps.length by omega, show j + 1 + (ps.length - 1) = j + ps.length by omega, At_len, At_len] at h4
      exact h4
    rw [e3] at h
    omega
/-- nobody is lost: the table behind it is done, too -/
theorem out_done (L : Lists R) (hn : ∀ i x, x ∈ R i → i < n) (d : Done R T) (r : Ring T ps) (hl : ∀ p, T p ≠ [] → outT T ps p ≠ []) : Done R (outT T ps) := by
  have tab : Tab R (outT T ps) := ⟨fun x => (outT_sub x).trans (d.tab.sub x), fun x y h => by
    obtain ⟨h1, h2⟩ := mem_outT.mp h
    exact mem_outT.mpr ⟨d.tab.mu _ _ h1, fun z => h2 (Or.symm z)⟩⟩
  refine ⟨tab, fun p b hb hnb => ?_, fun p b hb => ?_⟩
  · -- who went is behind the worst one left
    have old : ∀ {b p q}, (T b).getLast? = some q → rk R b q < rk R b p → ∃ q', (outT T ps b).getLast? = some q' ∧ rk R b q' < rk R b p := fun {b p q} h1 h2 => by
      obtain ⟨q', hq'⟩ : ∃ q', (outT T ps b).getLast? = some q' := ⟨_, List.getLast?_eq_some_getLast (hl b (ne_of_mem (last_mem h1)))⟩
      have := sub_last (d.tab.sub b) (L.nd b) h1 (mem_outT.mp (last_mem hq')).1
      exact ⟨q', hq', by unfold rk at *; omega⟩
    have new : ∀ {b p}, lets T ps b p → ∃ q', (outT T ps b).getLast? = some q' ∧ rk R b q' < rk R b p := fun {b p} h => by
      obtain ⟨i, rfl, hm, hlt⟩ := h
      obtain ⟨q', hq'⟩ : ∃ q', (outT T ps (bs T ps (i + 1))).getLast? = some q' := ⟨_, List.getLast?_eq_some_getLast (hl _ (ne_of_mem hm))⟩
      obtain ⟨h1, h2⟩ := mem_outT.mp (last_mem hq')
      refine ⟨q', hq', (sub_place (d.tab.sub _) (L.nd _) h1 hm).mp ?_⟩
      have : ¬ (T (bs T ps (i + 1))).idxOf (At ps i) < (T (bs T ps (i + 1))).idxOf q' := fun z => h2 (.inl ⟨i, rfl, h1, z⟩)
      omega
    by_cases hT : b ∈ T p
    · have : gone T ps p b := Classical.byContradiction fun z => hnb (mem_outT.mpr ⟨hT, z⟩)
      rcases this with h | h
      · exact .inr (new h)
      · exact .inl (new h)
    · rcases d.stop p b hb hT with ⟨q, h1, h2⟩ | ⟨q, h1, h2⟩
      · exact .inl (old h1 h2)
      · exact .inr (old h1 h2)
  · have hpT : T p ≠ [] := ne_of_mem (mem_outT.mp (head_mem hb)).1
    by_cases hp : p ∈ ps
    · obtain ⟨i, _, rfl⟩ := mem_At hp
      obtain ⟨h1, h2, h3⟩ := r.ahead d i
      -- its best one is gone, its second best one is not
      have ng : ¬ gone T ps (At ps i) (bs T ps (i + 1)) := fun h => by
        obtain ⟨j, e1, e2⟩ := second L hn d r h
        refine hl _ hpT (List.eq_nil_iff_forall_not_mem.mpr fun y hy => ?_)
        obtain ⟨hy1, hy2⟩ := mem_outT.mp hy
        by_cases hyj : y = bs T ps i
        · subst hyj
          have := loses L hn d r (i + ps.length - 1)
          have p := r.pos
          rw [show i + ps.length - 1 + 1 = i + ps.length by omega, At_len, bs_len] at this
          exact hy2 this
        · refine hy2 (.inl ⟨j, e1, hy1, ?_⟩)
          rw [e2, head_place (r.head i)]
          have hb0 := head_mem (r.head i)
          have : (T (At ps i)).idxOf y ≠ 0 := fun z => hyj (idxOf_inj hy1 (by rw [z, head_place (r.head i)]))
          omega
      have hm : bs T ps (i + 1) ∈ T (At ps i) := d.tab.mu _ _ h1
      have hh : (outT T ps (At ps i)).head? = some (bs T ps (i + 1)) := sub_head_of (outT_sub _) (d.tab.nd L _) (mem_outT.mpr ⟨hm, ng⟩) fun y hy => by
        rw [h2]
        obtain ⟨hy1, hy2⟩ := mem_outT.mp hy
        have : (T (At ps i)).idxOf y ≠ 0 := fun z => by
          have hb0 := head_mem (r.head i)
          have e : y = bs T ps i := idxOf_inj hy1 (by rw [z, head_place (r.head i)])
          subst e
          have := loses L hn d r (i + ps.length - 1)
          have p := r.pos
          rw [show i + ps.length - 1 + 1 = i + ps.length by omega, At_len, bs_len] at this
          exact hy2 this
        omega
      rw [hh] at hb
      cases hb
      refine sub_last_of (outT_sub _) (d.tab.nd L _) (mem_outT.mpr ⟨h1, fun z => ng (Or.symm z)⟩) fun y hy => ?_
      obtain ⟨hy1, hy2⟩ := mem_outT.mp hy
      have : ¬ (T (bs T ps (i + 1))).idxOf (At ps i) < (T (bs T ps (i + 1))).idxOf y := fun z => hy2 (.inl ⟨i, rfl, hy1, z⟩)
      omega
    · obtain ⟨c, hc⟩ := head_some hpT
      obtain ⟨h1, h2⟩ := keeps L hn d r hp hc
      rw [h1] at hb
      cases hb
      exact h2
/-! ### odd rings -/
def Rel (T : Nat → List Nat) (ps : List Nat) (a j : Nat) : Prop := At ps a = bs T ps (j + 1) ∧ At ps j = bs T ps a
theorem two_left (L : Lists R) (d : Done R T) (r : Ring T ps) {i : Nat} (h : (T (At ps i)).getLast? = some (bs T ps (i + 1))) : T (At ps i) = [bs T ps i, bs T ps (i + 1)] := by
  obtain ⟨rest, e⟩ := r.row i
  have hd := d.tab.nd L (At ps i)
  rw [e] at h hd ⊢
  cases rest with
  | nil => rfl
  | cons y rest =>
    exfalso
    obtain ⟨l', c, hlc⟩ : ∃ l' c, y :: rest = l' ++ [c] := ⟨_, _, (List.dropLast_concat_getLast (by simp)).symm⟩
    have hd2 := (List.nodup_cons.mp (List.nodup_cons.mp hd).2).1
    rw [hlc, show best T (At ps i) :: best T (At ps (i + 1)) :: (l' ++ [c]) = (best T (At ps i) :: best T (At ps (i + 1)) :: l') ++ [c] from rfl, List.getLast?_concat] at h
    have e2 : c = bs T ps (i + 1) := Option.some.inj h
    rw [hlc, e2] at hd2
    exact hd2 (by simp)
theorem rel_back (L : Lists R) (d : Done R T) (r : Ring T ps) {a j : Nat} (h : Rel T ps (a + 1) (j + 1)) : Rel T ps a j ∧ T (At ps (j + 1)) = [bs T ps (j + 1), bs T ps (j + 2)] := by
  obtain ⟨h1, h2⟩ := h
  have ne : ∀ i, At ps i ≠ At ps (i + 1) := fun i z => (r.ahead d i).2.2 (by unfold bs; rw [z])
  have r1 : T (At ps (j + 1)) = [bs T ps (j + 1), bs T ps (j + 2)] := by
    refine two_left L d r ?_
    have := r.last d (a + 1)
    rw [← h2, h1] at this
    exact this
  have e1 : At ps a = bs T ps (j + 1) := by
    have h3 := (r.ahead d a).1
    rw [← h2, r1] at h3
    simp at h3
    rcases h3 with h3 | h3
    · exact h3
    · exact absurd (h3.trans h1.symm) (ne a)
  have r2 : T (At ps a) = [bs T ps a, bs T ps (a + 1)] := by
    refine two_left L d r ?_
    have := r.last d (j + 1)
    rw [← e1, h2] at this
    exact this
  refine ⟨⟨e1, ?_⟩, r1⟩
  have h3 := (r.ahead d j).1
  rw [← e1, r2] at h3
  simp at h3
  rcases h3 with h3 | h3
  · exact h3
  · exact absurd (h3.trans h2.symm) (ne j)
theorem rel_all (L : Lists R) (d : Done R T) (r : Ring T ps) {a j : Nat} (h : Rel T ps a j) : ∀ t, Rel T ps (a + t * (ps.length - 1)) (j + t * (ps.length - 1)) ∧ T (At ps (j + t * (ps.length - 1))) = [bs T ps (j + t * (ps.length - 1)), bs T ps (j + t * (ps.length - 1) + 1)] := by
  have p := r.pos
  -- a step back, from the same place a turn later
  have back : ∀ x y, Rel T ps x y → Rel T ps (x + (ps.length - 1)) (y + (ps.length - 1)) ∧ T (At ps y) = [bs T ps y, bs T ps (y + 1)] := fun x y hxy => by
    have h2 : Rel T ps (x + (ps.length - 1) + 1) (y + (ps.length - 1) + 1) := by
      have e1 : x + (ps.length - 1) + 1 = x + ps.length := by omega
      have e2 : y + (ps.length - 1) + 1 = y + ps.length := by omega
      rw [e1, e2]
      refine ⟨?_, ?_⟩
      · rw [At_len, show y + ps.length + 1 = y + 1 + ps.length by omega, bs_len]
        exact hxy.1
      · rw [At_len, bs_len]
        exact hxy.2
    obtain ⟨h3, h4⟩ := rel_back L d r h2
    refine ⟨h3, ?_⟩
    have e2 : y + (ps.length - 1) + 1 = y + ps.length := by omega
    have e3 : y + (ps.length - 1) + 2 = y + 1 + ps.length := by omega
    rw [e2, e3, At_len, bs_len, bs_len] at h4
    exact h4
  intro t
  induction t with
  | zero =>
    rw [Nat.zero_mul]
    exact ⟨h, (back _ _ h).2⟩
  | succ t ih =>
    have := (back _ _ ih.1).1
    have e : ∀ z, z + (t + 1) * (ps.length - 1) = z + t * (ps.length - 1) + (ps.length - 1) := fun z => by rw [Nat.succ_mul]; omega
    rw [e, e]
    exact ⟨this, (back _ _ this).2⟩
theorem reach {k : Nat} (hk : 0 < k) (a i : Nat) : ∃ t, (a + t * (k - 1)) % k = i % k := by
  have hi := Nat.mod_lt i hk
  refine ⟨a + (k - i % k), ?_⟩
  have h1 : (a + (k - i % k)) * (k - 1) + (a + (k - i % k)) = (a + (k - i % k)) * k := by
    obtain ⟨c, rfl⟩ : ∃ c, k = c + 1 := ⟨k - 1, by omega⟩
    rw [Nat.add_sub_cancel, Nat.mul_succ]
  have h2 : (a + (k - i % k) - 1) * k + k = (a + (k - i % k)) * k := by
    obtain ⟨c, hc⟩ : ∃ c, a + (k - i % k) = c + 1 := ⟨a + (k - i % k) - 1, by omega⟩
    rw [hc, Nat.add_sub_cancel, Nat.succ_mul]
  have h3 : a + (a + (k - i % k)) * (k - 1) = i % k + (a + (k - i % k) - 1) * k := by omega
  rw [h3, Nat.add_mul_mod_self_right, Nat.mod_mod]
theorem At_cong {ps : List Nat} {i j : Nat} (h : i % ps.length = j % ps.length) : At ps i = At ps j := by
  unfold At
  rw [h]
theorem succ_cong {k i j : Nat} (h : i % k = j % k) : (i + 1) % k = (j + 1) % k := by rw [Nat.add_mod, h, ← Nat.add_mod]
/-- an odd ring: each has two left, and one follows another at a steady distance -/
structure OddRing (T : Nat → List Nat) (ps : List Nat) : Prop where
  ring : Ring T ps
  two : ∀ i, T (At ps i) = [bs T ps i, bs T ps (i + 1)]
  shift : ∃ e, (∀ i, bs T ps i = At ps (i + e)) ∧ (2 * e + 1) % ps.length = 0
theorem odd_of_rel (L : Lists R) (d : Done R T) (r : Ring T ps) {a j : Nat} (h : Rel T ps a j) : OddRing T ps := by
  have p := r.pos
  have all := rel_all L d r h
  have two : ∀ i, T (At ps i) = [bs T ps i, bs T ps (i + 1)] := fun i => by
    obtain ⟨t, ht⟩ := reach p j i
    have := (all t).2
    have e1 : At ps (j + t * (ps.length - 1)) = At ps i := At_cong ht
    have e2 : At ps (j + t * (ps.length - 1) + 1) = At ps (i + 1) := At_cong (succ_cong ht)
    unfold bs at this ⊢
    rw [e1, e2] at this
    exact this
  -- the distance
  have hka : a * (ps.length - 1) + a = a * ps.length := by
    obtain ⟨c, hc⟩ : ∃ c, ps.length = c + 1 := ⟨ps.length - 1, by omega⟩
    rw [hc, Nat.add_sub_cancel, Nat.mul_succ]
  have dist : ∀ i, bs T ps i = At ps (i + (j + a * (ps.length - 1))) := fun i => by
    obtain ⟨t, ht⟩ := reach p a i
    have h1 := (all t).1.2
    have e1 : At ps (a + t * (ps.length - 1)) = At ps i := At_cong ht
    unfold bs at h1 ⊢
    rw [e1] at h1
    rw [← h1]
    -- i + e and j + t (k - 1) differ by turns
    refine At_cong ?_
    have h2 : (i + (j + a * (ps.length - 1))) % ps.length = (a + t * (ps.length - 1) + (j + a * (ps.length - 1))) % ps.length := by rw [Nat.add_mod, ← ht, ← Nat.add_mod]
    rw [h2, show a + t * (ps.length - 1) + (j + a * (ps.length - 1)) = j + t * (ps.length - 1) + a * ps.length by omega, Nat.add_mul_mod_self_right]
  refine ⟨r, two, _, dist, ?_⟩
  generalize he : j + a * (ps.length - 1) = e at dist
  -- At a = bs (j + 1), so a and j + 1 + e are alike; a + e and j too
  have h1 := h.1
  rw [dist] at h1
  have m1 := At_inj r.nd p h1
  have h2 := h.2
  rw [dist] at h2
  have m2 := At_inj r.nd p h2
  have d1 := Nat.div_add_mod a ps.length
  have d2 := Nat.div_add_mod (j + 1 + e) ps.length
  have d3 := Nat.div_add_mod j ps.length
  have d4 := Nat.div_add_mod (a + e) ps.length
  rw [m1] at d1
  rw [m2] at d3
  have key : (ps.length : Int) ∣ ((2 * e + 1 : Nat) : Int) := by
    refine ⟨(((j + 1 + e) / ps.length : Nat) : Int) - ((a / ps.length : Nat) : Int) + ((((a + e) / ps.length : Nat) : Int) - ((j / ps.length : Nat) : Int)), ?_⟩
    have c1 : (ps.length : Int) * ((a / ps.length : Nat) : Int) + (((j + 1 + e) % ps.length : Nat) : Int) = (a : Int) := by exact_mod_cast d1
    have c2 : (ps.length : Int) * (((j + 1 + e) / ps.length : Nat) : Int) + (((j + 1 + e) % ps.length : Nat) : Int) = ((j + 1 + e : Nat) : Int) := by exact_mod_cast d2
    have c3 : (ps.length : Int) * ((j / ps.length : Nat) : Int) + (((a + e) % ps.length : Nat) : Int) = (j : Int) := by exact_mod_cast d3
    have c4 : (ps.length : Int) * (((a + e) / ps.length : Nat) : Int) + (((a + e) % ps.length : Nat) : Int) = ((a + e : Nat) : Int) := by exact_mod_cast d4
    rw [Int.mul_add, Int.mul_sub, Int.mul_sub]
    generalize (ps.length : Int) * ((a / ps.length : Nat) : Int) = x1 at *
    generalize (ps.length : Int) * (((j + 1 + e) / ps.length : Nat) : Int) = x2 at *
    generalize (ps.length : Int) * ((j / ps.length : Nat) : Int) = x3 at *
    generalize (ps.length : Int) * (((a + e) / ps.length : Nat) : Int) = x4 at *
    omega
  exact Nat.mod_eq_zero_of_dvd (Int.ofNat_dvd.mp key)
theorem OddRing.own (o : OddRing T ps) (i : Nat) : ∃ y, bs T ps i = At ps y := by
  obtain ⟨e, h, _⟩ := o.shift
  exact ⟨_, h i⟩
theorem OddRing.odd (o : OddRing T ps) : ps.length % 2 = 1 := by
  obtain ⟨e, _, h⟩ := o.shift
  apply Classical.byContradiction
  intro hk
  obtain ⟨c, hc⟩ : ∃ c, ps.length = 2 * c := ⟨ps.length / 2, by omega⟩
  have := Nat.div_add_mod (2 * e + 1) ps.length
  rw [h, hc, Nat.mul_assoc] at this
  generalize c * ((2 * e + 1) / (2 * c)) = x at this
  omega
theorem OddRing.three (o : OddRing T ps) : 3 ≤ ps.length := by
  have := o.odd
  have := o.ring.two
  omega
/-- somebody is lost: the ring is odd -/
theorem lost_odd (L : Lists R) (hn : ∀ i x, x ∈ R i → i < n) (d : Done R T) (r : Ring T ps) {p : Nat} (h1 : T p ≠ []) (h2 : outT T ps p = []) : OddRing T ps := by
  by_cases hp : p ∈ ps
  · obtain ⟨a, _, rfl⟩ := mem_At hp
    have hm : bs T ps (a + 1) ∈ T (At ps a) := d.tab.mu _ _ (r.ahead d a).1
    have : gone T ps (At ps a) (bs T ps (a + 1)) := Classical.byContradiction fun z => by
      have := mem_outT.mpr ⟨hm, z⟩
      rw [h2] at this
      cases this
    obtain ⟨j, e1, e2⟩ := second L hn d r this
    exact odd_of_rel L d r ⟨e1, e2⟩
  · obtain ⟨c, hc⟩ := head_some h1
    have := (keeps L hn d r hp hc).1
    rw [h2] at this
    cases this
end
end Bk
set_option linter.all false
/-! The last table (points 9 and 11). Core Lean. -/
namespace Bk
section
variable {R T : Nat → List Nat} {ps : List Nat} {n : Nat}
/-- none but odd rings are left -/
structure Last (R T : Nat → List Nat) : Prop where
  dn : Done R T
  odd : ∀ x, 2 ≤ (T x).length → ∃ ps, OddRing T ps ∧ x ∈ ps
theorem OddRing.len (o : OddRing T ps) {x : Nat} (h : x ∈ ps) : (T x).length = 2 := by
  obtain ⟨i, _, rfl⟩ := mem_At h
  rw [o.two]
  rfl
theorem Last.le2 (l : Last R T) (x : Nat) : (T x).length ≤ 2 := by
  by_cases h : 2 ≤ (T x).length
  · obtain ⟨ps, o, hx⟩ := l.odd x h
    rw [o.len hx]
    exact Nat.le_refl _
  · omega
abbrev hd (T : Nat → List Nat) (p : Nat) : Option Nat := (T p).head?
abbrev la (T : Nat → List Nat) (p : Nat) : Option Nat := (T p).getLast?
theorem done_half (L : Lists R) (hn : ∀ i x, x ∈ R i → i < n) (d : Done R T) : Half R (hd T) (la T) where
  on := fun p q h => (d.tab.sub p).subset (head_mem h)
  link := fun p q => ⟨fun h => d.held p q h, fun h => d.back L hn h⟩
  both := fun p => ⟨fun ⟨q, h⟩ => ⟨_, List.getLast?_eq_some_getLast (ne_of_mem (head_mem h))⟩, fun ⟨q, h⟩ => head_some (ne_of_mem (last_mem h))⟩
/-- the best ones left are a steady half pairing -/
theorem last_steady (L : Lists R) (hn : ∀ i x, x ∈ R i → i < n) (l : Last R T) : Steady R (hd T) (la T) where
  half := done_half L hn l.dn
  fst := fun p q r h1 h2 => sub_head (l.dn.tab.sub p) (L.nd p) h1 (last_mem h2)
  snd := fun p q hq h => by
    by_cases hT : q ∈ T p
    · -- one of two left, and not the worst one
      have hqp := l.dn.tab.mu p q hT
      obtain ⟨z, hz⟩ : ∃ z, la T p = some z := ⟨_, List.getLast?_eq_some_getLast (ne_of_mem hT)⟩
      have hlt := h z hz
      have hl := l.le2 p
      have hh : hd T p = some q := by
        cases e : T p with
        | nil => rw [e] at hT; cases hT
        | cons a t =>
          cases t with
          | nil =>
            rw [e] at hT
            simp at hT
            rw [hT]
            show (T p).head? = _
            rw [e]
            rfl
          | cons b t =>
            rw [e] at hl
            have : t = [] := List.length_eq_zero_iff.mp (by simp only [List.length_cons] at hl; omega)
            subst this
            have hz' : z = b := by
              have : (T p).getLast? = some z := hz
              rw [e] at this
              simpa using this.symm
            rw [e] at hT
            simp at hT
            rcases hT with rfl | rfl
            · show (T p).head? = _
              rw [e]
              rfl
            · rw [hz'] at hlt
              exact (Nat.lt_irrefl _ hlt).elim
      exact ⟨p, l.dn.held p q hh, Nat.le_refl _⟩
    · rcases l.dn.stop p q hq hT with ⟨z, h1, h2⟩ | ⟨z, h1, h2⟩
      · exact ⟨z, h1, Nat.le_of_lt h2⟩
      · have := h z h1
        unfold rk at *
        omega
/-! ### following on an odd ring -/
theorem odd_walk_at (o : OddRing T ps) : ∃ e, (2 * e + 1) % ps.length = 0 ∧ (∀ i, bs T ps i = At ps (i + e)) ∧ ∀ t i, walk (hd T) t (At ps i) = some (At ps (i + t * e)) := by
  obtain ⟨e, h1, h2⟩ := o.shift
  refine ⟨e, h2, h1, fun t i => ?_⟩
  induction t with
  | zero => rw [Nat.zero_mul]; rfl
  | succ t ih =>
    show (walk (hd T) t (At ps i)).bind (hd T) = _
    rw [ih]
    show (T (At ps (i + t * e))).head? = _
    rw [o.ring.head, h1, Nat.succ_mul, Nat.add_assoc]
theorem odd_turn (o : OddRing T ps) {t i : Nat} : walk (hd T) t (At ps i) = some (At ps i) ↔ ps.length ∣ t := by
  obtain ⟨e, h1, _, h2⟩ := odd_walk_at o
  rw [h2]
  constructor
  · intro h
    have h3 := At_inj o.ring.nd o.ring.pos (Option.some.inj h)
    have h4 : ps.length ∣ t * e := by
      have d1 := Nat.div_add_mod (i + t * e) ps.length
      have d2 := Nat.div_add_mod i ps.length
      rw [h3] at d1
      have hle : i / ps.length ≤ (i + t * e) / ps.length := Nat.div_le_div_right (by omega)
      refine ⟨(i + t * e) / ps.length - i / ps.length, ?_⟩
      rw [Nat.mul_sub]
      omega
    have h5 : ps.length ∣ t * (2 * e + 1) := Nat.dvd_mul_left_of_dvd (Nat.dvd_of_mod_eq_zero h1) t
    have h6 : t * (2 * e + 1) = 2 * (t * e) + t := by
      rw [Nat.mul_add, Nat.mul_one, Nat.mul_left_comm]
    rw [h6] at h5
    exact (Nat.dvd_add_right (Nat.dvd_mul_left_of_dvd h4 2)).mp h5
  · rintro ⟨c, rfl⟩
    rw [show i + ps.length * c * e = i + (c * e) * ps.length by rw [Nat.mul_assoc, Nat.mul_comm], At_mod]
/-! ### where a row of two and more is, a ring is -/
/-- the second one left -/
def snd2 (T : Nat → List Nat) (x : Nat) : Nat := (T x).getD 1 0
/-- the next one in a ring -/
def nx (T : Nat → List Nat) (x : Nat) : Nat := (T (snd2 T x)).getLastD 0
theorem snd2_of {x a c : Nat} {t : List Nat} (h : T x = a :: c :: t) : snd2 T x = c := by unfold snd2; rw [h]; rfl
theorem two_of {x : Nat} (h : 2 ≤ (T x).length) : ∃ t, T x = best T x :: snd2 T x :: t := by
  cases e : T x with
  | nil => rw [e] at h; simp at h
  | cons a t =>
    cases t with
    | nil => rw [e] at h; simp at h
    | cons c t =>
      refine ⟨t, ?_⟩
      rw [snd2_of e]
      unfold best
      rw [e]
      rfl
theorem nx_ok (L : Lists R) (hn : ∀ i x, x ∈ R i → i < n) (d : Done R T) {x : Nat} (h : 2 ≤ (T x).length) :
    2 ≤ (T (nx T x)).length ∧ snd2 T x = best T (nx T x) ∧ nx T x ≠ x ∧ (T (snd2 T x)).getLast? = some (nx T x) ∧ (T (nx T x)).head? = some (snd2 T x) := by
  obtain ⟨t, e⟩ := two_of h
  have hnd := d.tab.nd L x
  have hm : snd2 T x ∈ T x := by rw [e]; simp
  have hx := d.tab.mu _ _ hm
  have hl : (T (snd2 T x)).getLast? = some (nx T x) := by
    unfold nx
    rw [List.getLastD_eq_getLast?, List.getLast?_eq_some_getLast (ne_of_mem hx)]
    rfl
  have hb := d.back L hn hl
  have hbest : snd2 T x = best T (nx T x) := by
    unfold best
    rw [List.headD_eq_head?_getD, hb]
    rfl
  have hne : nx T x ≠ x := fun z => by
    rw [z, e] at hb
    have : best T x = snd2 T x := Option.some.inj hb
    rw [e, this] at hnd
    exact (List.nodup_cons.mp hnd).1 List.mem_cons_self
  refine ⟨?_, hbest, hne, hl, hb⟩
  apply Classical.byContradiction
  intro h2
  -- else it and the second one have but each other
  have one : T (nx T x) = [snd2 T x] := by
    cases e2 : T (nx T x) with
    | nil => rw [e2] at hb; cases hb
    | cons a t2 =>
      rw [e2] at hb h2
      have ha : a = snd2 T x := Option.some.inj hb
      have : t2 = [] := List.length_eq_zero_iff.mp (by simp only [List.length_cons] at h2; omega)
      rw [ha, this]
  have hl2 : (T (nx T x)).getLast? = some (snd2 T x) := by rw [one]; rfl
  have h3 := d.back L hn hl2
  -- the second one's best one is its worst one
  have h4 := head_place h3
  have h5 := last_place (d.tab.nd L _) hl hx
  have h6 : (T (snd2 T x)).idxOf x = (T (snd2 T x)).idxOf (nx T x) := by omega
  exact hne (idxOf_inj hx h6).symm
/-- people one of whom is the next one of the one ahead, the first one that of the last one -/
theorem ring_of (L : Lists R) (hn : ∀ i x, x ∈ R i → i < n) (d : Done R T) (hp : 0 < ps.length) (nd : ps.Nodup) (h2 : ∀ x ∈ ps, 2 ≤ (T x).length) (hc : ∀ i, At ps (i + 1) = nx T (At ps i)) : Ring T ps := by
  refine ⟨?_, nd, fun i => ?_⟩
  · apply Classical.byContradiction
    intro h
    have h1 : ps.length = 1 := by omega
    have e := hc 0
    have e2 : At ps (0 + 1) = At ps 0 := by
      have := At_len ps 0
      rw [h1] at this
      exact this
    rw [e2] at e
    exact (nx_ok L hn d (h2 _ (At_mem hp 0))).2.2.1 e.symm
  · obtain ⟨t, e⟩ := two_of (h2 _ (At_mem hp i))
    have h3 := (nx_ok L hn d (h2 _ (At_mem hp i))).2.1
    rw [← hc i] at h3
    refine ⟨t, ?_⟩
    rw [← h3]
    exact e
/-- who comes to an odd ring is on it -/
theorem odd_catch (L : Lists R) (hn : ∀ i x, x ∈ R i → i < n) (d : Done R T) (o : OddRing T ps) {x : Nat} (h : 2 ≤ (T x).length) (hx : nx T x ∈ ps) : x ∈ ps := by
  obtain ⟨i, _, e⟩ := mem_At hx
  obtain ⟨_, h1, _⟩ := nx_ok L hn d h
  obtain ⟨t, e2⟩ := two_of h
  have hm : snd2 T x ∈ T x := by rw [e2]; simp
  have hb : snd2 T x = bs T ps i := by rw [h1, ← e]
  obtain ⟨y, hy⟩ := o.own i
  have h3 := d.tab.mu _ _ hm
  rw [hb, hy, o.two] at h3
  simp at h3
  rcases h3 with h3 | h3
  · obtain ⟨z, hz⟩ := o.own y
    rw [h3, hz]
    exact At_mem o.ring.pos _
  · obtain ⟨z, hz⟩ := o.own (y + 1)
    rw [h3, hz]
    exact At_mem o.ring.pos _
end
end Bk
set_option linter.all false
/-! Good pairings, steady half pairings and odd rings (point 12). Core Lean. -/
namespace Bk
section
variable {R T : Nat → List Nat} {ps : List Nat} {n : Nat} {m : Nat → Option Nat}
/-- a good pairing is a steady half pairing -/
theorem good_steady (g : Good R m) : Steady R m m where
  half := {
    on := g.ok.on
    link := fun p q => ⟨g.ok.mu p q, g.ok.mu q p⟩
    both := fun p => Iff.rfl }
  fst := fun p q r h1 h2 => by
    rw [h1] at h2
    cases h2
    exact Nat.le_refl _
  snd := fun p q hq h => by
    apply Classical.byContradiction
    intro hno
    refine g.no p q ⟨hq, h, fun z hz => ?_⟩
    apply Classical.byContradiction
    intro hlt
    exact hno ⟨z, hz, by unfold rk at *; omega⟩
/-- a steady half pairing in which nobody follows another one than who follows it is a good pairing -/
theorem steady_good (s : Steady R m m) : Good R m where
  ok := ⟨s.half.on, fun p q h => (s.half.link p q).mp h⟩
  no := fun p b ⟨h1, h2, h3⟩ => by
    obtain ⟨z, hz, hle⟩ := s.snd p b h1 h2
    have := h3 z hz
    unfold rk at *
    omega
theorem walk_two (pk : PairOk R m) {p q : Nat} (h : m p = some q) : ∀ k, walk m (2 * k) p = some p
  | 0 => rfl
  | k + 1 => by
    show ((walk m (2 * k) p).bind m).bind m = some p
    rw [walk_two pk h k]
    show (m p).bind m = some p
    rw [h]
    exact pk.mu p q h
/-- where there is an odd ring there is no good pairing -/
theorem odd_none (L : Lists R) (hn : ∀ i x, x ∈ R i → i < n) {s f : Nat → Option Nat} (a : Steady R s f) {p k : Nat} (hk : k % 2 = 1) (h : walk s k p = some p) : ¬ Good R m := fun g => by
  have b := good_steady g
  obtain ⟨h1, _, h3⟩ := odd_walk L hn a b hk h k p h
  have h4 := (odd_walk L hn a b hk h 0 p rfl).2.2
  obtain ⟨q, hq⟩ : ∃ q, s p = some q := by
    rw [show k = 1 + (k - 1) by omega, walk_add] at h
    obtain ⟨q, hq, _⟩ := Option.bind_eq_some_iff.mp h
    exact ⟨q, hq⟩
  have hm : m p = some q := by rw [h4]; exact hq
  rw [show k = 2 * (k / 2) + 1 by omega] at h1
  have h5 : (walk m (2 * (k / 2)) p).bind m = some p := h1
  rw [walk_two g.ok hm] at h5
  have h6 : m p = some p := h5
  exact L.ir p (g.ok.on p p h6)
/-- the last table without odd rings tells a good pairing -/
theorem last_good (L : Lists R) (hn : ∀ i x, x ∈ R i → i < n) (l : Last R T) (h1 : ∀ x, (T x).length ≤ 1) : Good R (hd T) := by
  have e : la T = hd T := funext fun p => by
    show (T p).getLast? = (T p).head?
    have := h1 p
    cases ht : T p with
    | nil => rfl
    | cons a t =>
      rw [ht] at this
      have : t = [] := List.length_eq_zero_iff.mp (by simp only [List.length_cons] at this; omega)
      rw [this]
      rfl
  have := last_steady L hn l
  rw [e] at this
  exact steady_good this
/-- .. and where somebody has two left there is none -/
theorem last_none (L : Lists R) (hn : ∀ i x, x ∈ R i → i < n) (l : Last R T) {x : Nat} (h : 2 ≤ (T x).length) : ¬ Good R m := by
  obtain ⟨ps, o, hx⟩ := l.odd x h
  obtain ⟨i, _, rfl⟩ := mem_At hx
  exact odd_none L hn (last_steady L hn l) o.odd ((odd_turn o (i := i)).mpr (Nat.dvd_refl _))
/-- those who are alone in a good pairing are those who have nobody left -/
theorem good_alone (L : Lists R) (hn : ∀ i x, x ∈ R i → i < n) (l : Last R T) (g : Good R m) (p : Nat) : m p = none ↔ T p = [] := by
  have a := last_steady L hn l
  have b := good_steady g
  constructor
  · intro h
    have := alone_same L hn b a h
    cases e : T p with
    | nil => rfl
    | cons x t =>
      have h2 : (T p).head? = none := this
      rw [e] at h2
      cases h2
  · intro h
    refine alone_same L hn a b ?_
    show (T p).head? = none
    rw [h]
    rfl
end
end Bk
set_option Elab.async false
set_option linter.all false
/-! A heap that grows, in which tables of code may have grown, too. -/
namespace Bk
open PySem PySem.Spec PyProof.Rows L2 LamX
def Grow (H H' : Hp) : Prop := ∀ b o, H b = some o → H' b = some o ∨ ∃ ps ps', o = .tbl ps ∧ H' b = some (.tbl ps') ∧ (TriplesOk ps.toList → TriplesOk ps'.toList)
theorem Same.grow {H H' : Hp} (e : Same H H') : Grow H H' := fun b o h => .inl (e b o h)
theorem Grow.refl (H : Hp) : Grow H H := fun b o h => .inl h
theorem Grow.trans {H H' H2 : Hp} (a : Grow H H') (b : Grow H' H2) : Grow H H2 := fun c o h => by
  rcases a c o h with h1 | ⟨ps, ps', rfl, h1, h2⟩
  · exact b c o h1
  · rcases b c _ h1 with h3 | ⟨qs, qs', e, h3, h4⟩
    · exact .inr ⟨ps, ps', rfl, h3, h2⟩
    · cases e
      exact .inr ⟨ps, qs', rfl, h3, fun z => h4 (h2 z)⟩
theorem Grow.keep {H H' : Hp} (a : Grow H H') {b : Addr} {o : HO} (h : H b = some o) (hn : ∀ ps, o ≠ .tbl ps) : H' b = some o := by
  rcases a b o h with h1 | ⟨ps, _, e, _, _⟩
  · exact h1
  · exact absurd e (hn ps)
theorem Grow.extN {H H' : Hp} (a : Grow H H') : ExtN H H' := fun b o h hn => a.keep h hn
theorem Grow.lst {H H' : Hp} (a : Grow H H') {b : Addr} {xs : List V} (h : H b = some (.lst xs)) : H' b = some (.lst xs) := a.keep h fun ps z => by cases z
theorem Grow.tup {H H' : Hp} (a : Grow H H') {b : Addr} {xs : List V} (h : H b = some (.tup xs)) : H' b = some (.tup xs) := a.keep h fun ps z => by cases z
theorem Grow.free {H H' : Hp} (a : Grow H H') {b : Addr} (h : H' b = none) : H b = none := by
  cases hb : H b with
  | none => rfl
  | some o =>
    rcases a b o hb with h1 | ⟨ps, ps', _, h1, _⟩ <;> rw [h] at h1 <;> cases h1
theorem Grow.tab {H H' : Hp} (a : Grow H H') {P : Addr} (h : GxR.TabG H P) : GxR.TabG H' P := by
  obtain ⟨ps, hP, ht⟩ := h
  rcases a P _ hP with h1 | ⟨ps', qs, e, h1, h2⟩
  · exact ⟨ps, h1, ht⟩
  · cases e
    exact ⟨qs, h1, h2 ht⟩
theorem Tbl.grow {H H' : Hp} {t : Addr} {as : List Addr} {rows : List (List Nat)} (T : Tbl H t as rows) (a : Grow H H') : Tbl H' t as rows := T.extN a.extN
theorem PairsAt.grow {H H' : Hp} {D : Addr} {ps : List (Nat × Nat)} (h : PairsAt H D ps) (e : Grow H H') : PairsAt H' D ps := by
  obtain ⟨as, h1, h2, h3⟩ := h.ex
  exact ⟨as, e.lst h1, h2, fun i a p e1 e2 => e.tup (h3 i a p e1 e2)⟩
theorem Grow.seq {K : PySem.W.Frag} {H H' : Hp} {a : Addr} {xs : List V} (e : Grow H H') (h : SqL K H a xs) : SqL K H' a xs := SqL.extN e.extN h
theorem grow_tabbed {H H' : Hp} {P : Addr} (hT : GxR.TabG H P) (h : GxR.Tabbed P H H') : Grow H H' := fun b o e => by
  by_cases hb : b = P
  · obtain ⟨ps, hP, ht⟩ := hT
    obtain ⟨⟨qs, hQ, hq⟩, _⟩ := h
    rw [hb, hP] at e
    cases e
    exact .inr ⟨ps, qs, rfl, by rw [hb]; exact hQ, fun _ => hq⟩
  · exact .inl (by rw [h.2 b hb]; exact e)
theorem grow_upd {H : Hp} {p : Addr} {o : HO} (h : H p = none) : Grow H (upd H p o) := Same.grow (same_upd h)
end Bk
set_option linter.all false
/-! A ring taken out, one by one. Core Lean. -/
namespace Bk
/-- C without these pairs, either way round -/
def minus (C : Nat → List Nat) (S : List (Nat × Nat)) : Nat → List Nat := fun x => (C x).filter fun y => !decide ((x, y) ∈ S) && !decide ((y, x) ∈ S)
theorem minus_nil (C : Nat → List Nat) : minus C [] = C := by
  funext x
  unfold minus
  simp
theorem mem_minus {C : Nat → List Nat} {S : List (Nat × Nat)} {x y : Nat} : y ∈ minus C S x ↔ y ∈ C x ∧ (x, y) ∉ S ∧ (y, x) ∉ S := by
  unfold minus
  rw [List.mem_filter]
  simp
theorem minus_sub (C : Nat → List Nat) (S : List (Nat × Nat)) (x : Nat) : (minus C S x).Sublist (C x) := List.filter_sublist
theorem minus_mu {C : Nat → List Nat} (mu : ∀ i x, x ∈ C i → i ∈ C x) (S : List (Nat × Nat)) {x y : Nat} (h : y ∈ minus C S x) : x ∈ minus C S y := by
  obtain ⟨h1, h2, h3⟩ := mem_minus.mp h
  exact mem_minus.mpr ⟨mu _ _ h1, h3, h2⟩
/-- one pair more -/
theorem minus_snoc {C : Nat → List Nat} (nd : ∀ i, (C i).Nodup) (mu : ∀ i x, x ∈ C i → i ∈ C x) (S : List (Nat × Nat)) {b z : Nat} (hbz : b ≠ z) :
    minus C (S ++ [(b, z)]) = if z ∈ minus C S b then (fun x => if x = z then (minus C S z).erase b else if x = b then (minus C S b).erase z else minus C S x) else minus C S := by
  have key : ∀ x, minus C (S ++ [(b, z)]) x = (minus C S x).filter fun y => !decide ((x, y) = (b, z)) && !decide ((y, x) = (b, z)) := fun x => by
    unfold minus
    rw [List.filter_filter]
    refine List.filter_congr fun y _ => ?_
    simp only [List.mem_append, List.mem_singleton]
    by_cases h1 : (x, y) ∈ S <;> by_cases h2 : (y, x) ∈ S <;> simp [h1, h2]
  have ndm : ∀ x, (minus C S x).Nodup := fun x => (nd x).sublist (minus_sub C S x)
  have at_b : minus C (S ++ [(b, z)]) b = (minus C S b).erase z := by
    rw [key, (ndm b).erase_eq_filter]
    refine List.filter_congr fun y _ => ?_
    by_cases h : y = z
    · subst h; simp
    · simp [h, hbz]
  have at_z : minus C (S ++ [(b, z)]) z = (minus C S z).erase b := by
    rw [key, (ndm z).erase_eq_filter]
    refine List.filter_congr fun y _ => ?_
    by_cases h : y = b
    · subst h; simp
    · simp [h, Ne.symm hbz]
  have else_ : ∀ x, x ≠ b → x ≠ z → minus C (S ++ [(b, z)]) x = minus C S x := fun x h1 h2 => by
    rw [key]
    refine List.filter_eq_self.mpr fun y _ => ?_
    simp [h1, h2]
  funext x
  by_cases hz : z ∈ minus C S b
  · rw [if_pos hz]
    show _ = if x = z then _ else _
    by_cases h1 : x = z
    · subst h1; rw [if_pos rfl]; exact at_z
    · rw [if_neg h1]
      by_cases h2 : x = b
      · subst h2; rw [if_pos rfl]; exact at_b
      · rw [if_neg h2]; exact else_ x h2 h1
  · rw [if_neg hz]
    by_cases h1 : x = z
    · subst h1
      rw [at_z]
      exact List.erase_of_not_mem fun h => hz (minus_mu mu S h)
    · by_cases h2 : x = b
      · subst h2; rw [at_b]; exact List.erase_of_not_mem hz
      · exact else_ x h2 h1
section
variable {R T : Nat → List Nat} {ps : List Nat} {n : Nat}
/-- the one ahead of the k-th -/
def Ah (ps : List Nat) (k : Nat) : Nat := At ps (k + ps.length - 1)
/-- whom the best one of the k-th lets go -/
def dropK (T : Nat → List Nat) (ps : List Nat) (k : Nat) : List Nat := (T (bs T ps k)).drop ((T (bs T ps k)).idxOf (Ah ps k) + 1)
/-- the pairs gone behind k of the ring -/
def goneL (T : Nat → List Nat) (ps : List Nat) (k : Nat) : List (Nat × Nat) := (List.range k).flatMap fun i => (dropK T ps i).map fun y => (bs T ps i, y)
theorem goneL_succ (T : Nat → List Nat) (ps : List Nat) (k : Nat) : goneL T ps (k + 1) = goneL T ps k ++ (dropK T ps k).map fun y => (bs T ps k, y) := by
  unfold goneL
  rw [List.range_succ, List.flatMap_append]
  simp
theorem idx_drop {l : List Nat} (nd : l.Nodup) {k y : Nat} : y ∈ l.drop k ↔ y ∈ l ∧ k ≤ l.idxOf y := by
  constructor
  · intro h
    refine ⟨List.mem_of_mem_drop h, ?_⟩
    obtain ⟨j, hj, e⟩ := List.getElem_of_mem h
    rw [List.getElem_drop] at e
    rw [List.length_drop] at hj
    have : l.idxOf y = k + j := by
      have h2 := nd.idxOf_getElem (k + j) (by omega)
      rw [e] at h2
      exact h2
    omega
  · rintro ⟨h1, h2⟩
    have hl := List.idxOf_lt_length_of_mem h1
    refine List.mem_iff_getElem.mpr ⟨l.idxOf y - k, by rw [List.length_drop]; omega, ?_⟩
    rw [List.getElem_drop]
    have e : k + (l.idxOf y - k) = l.idxOf y := by omega
    simp only [e]
    exact List.getElem_idxOf hl
theorem Ah_at (r : 0 < ps.length) (k : Nat) : At ps (k + ps.length - 1 + 1) = At ps k := by
  rw [show k + ps.length - 1 + 1 = k + ps.length by omega, At_len]
theorem mem_goneL (L : Lists R) (d : Done R T) (r : Ring T ps) {x y : Nat} : (x, y) ∈ goneL T ps ps.length ↔ lets T ps x y := by
  unfold goneL
  rw [List.mem_flatMap]
  constructor
  · rintro ⟨i, hi, h⟩
    rw [List.mem_map] at h
    obtain ⟨z, hz, e⟩ := h
    cases e
    obtain ⟨h1, h2⟩ := (idx_drop (d.tab.nd L _)).mp hz
    refine ⟨i + ps.length - 1, ?_, h1, ?_⟩
    · unfold bs; rw [Ah_at r.pos]
    · have : At ps (i + ps.length - 1) = Ah ps i := rfl
      rw [this]
      omega
  · rintro ⟨i, e, h1, h2⟩
    have hm := Nat.mod_lt (i + 1) r.pos
    refine ⟨(i + 1) % ps.length, List.mem_range.mpr hm, ?_⟩
    have eb : bs T ps ((i + 1) % ps.length) = bs T ps (i + 1) := by unfold bs; rw [At_cong (Nat.mod_mod (i + 1) ps.length)]
    have ea : Ah ps ((i + 1) % ps.length) = At ps i := by
      unfold Ah
      refine At_cong ?_
      have p := r.pos
      rw [show (i + 1) % ps.length + ps.length - 1 = (i + 1) % ps.length + (ps.length - 1) by omega, Nat.add_mod, Nat.mod_mod, ← Nat.add_mod, show i + 1 + (ps.length - 1) = i + ps.length by omega, Nat.add_mod_right]
    rw [List.mem_map]
    refine ⟨y, ?_, by rw [eb, e]⟩
    unfold dropK
    rw [eb, ea]
    subst e
    exact (idx_drop (d.tab.nd L _)).mpr ⟨h1, by omega⟩
theorem out_minus (L : Lists R) (d : Done R T) (r : Ring T ps) : minus T (goneL T ps ps.length) = outT T ps := by
  funext x
  unfold minus outT
  refine List.filter_congr fun y _ => ?_
  have h1 := mem_goneL L d r (x := x) (y := y)
  have h2 := mem_goneL L d r (x := y) (y := x)
  unfold gone
  by_cases a : lets T ps x y <;> by_cases b : lets T ps y x <;> simp [h1, h2, a, b]
end
end Bk
set_option linter.all false
namespace Bk
section
variable {R T : Nat → List Nat} {ps : List Nat} {n : Nat}
/-- round an odd ring, each following its best one -/
theorem odd_list (o : OddRing T ps) {x : Nat} (h : x ∈ ps) : ∃ F : Nat → Nat, F 0 = x ∧ (∀ t, F t ∈ ps) ∧ (∀ t, ∃ y, T (F t) = [F (t + 1), y]) ∧ F ps.length = x ∧
    (∀ a b, a < ps.length → b < ps.length → F a = F b → a = b) ∧ T x = [F 1, F (ps.length - 1)] ∧ ∀ t p, walk (hd T) t (F p) = some (F (p + t)) := by
  obtain ⟨i, _, rfl⟩ := mem_At h
  obtain ⟨e, h1, h2, h3⟩ := odd_walk_at o
  have hpos := o.ring.pos
  have hw : ∀ t p, walk (hd T) t (At ps (i + p * e)) = some (At ps (i + (p + t) * e)) := fun t p => by
    rw [h3, Nat.add_mul, ← Nat.add_assoc]
  have hlen : At ps (i + ps.length * e) = At ps i := by rw [show i + ps.length * e = i + e * ps.length by rw [Nat.mul_comm], At_mod]
  refine ⟨fun t => At ps (i + t * e), by show At ps (i + 0 * e) = _; rw [Nat.zero_mul]; rfl, fun t => At_mem hpos _, fun t => ⟨bs T ps (i + t * e + 1), ?_⟩, hlen, fun a b ha hb hab => ?_, ?_, hw⟩
  · show T (At ps (i + t * e)) = [At ps (i + (t + 1) * e), _]
    rw [o.two, h2, Nat.add_mul, Nat.one_mul, Nat.add_assoc]
  · have key : ∀ a b, a ≤ b → b < ps.length → At ps (i + a * e) = At ps (i + b * e) → a = b := fun a b hle hb hab => by
      have := hw (b - a) a
      rw [show a + (b - a) = b by omega, ← hab] at this
      obtain ⟨c, hc⟩ := (odd_turn o).mp this
      cases c with
      | zero => omega
      | succ c =>
        rw [Nat.mul_succ] at hc
        generalize ps.length * c = z at hc
        omega
    rcases Nat.le_total a b with z | z
    · exact key a b z hb hab
    · exact (key b a z ha hab.symm).symm
  · show T (At ps i) = [At ps (i + 1 * e), At ps (i + (ps.length - 1) * e)]
    rw [o.two, h2, Nat.one_mul]
    congr 1
    congr 1
    rw [h2]
    refine At_cong ?_
    have e1 : i + (ps.length - 1) * e + (2 * e + 1) = i + 1 + e + e * ps.length := by
      have : (ps.length - 1) * e + e = e * ps.length := by
        obtain ⟨c, hc⟩ : ∃ c, ps.length = c + 1 := ⟨ps.length - 1, by omega⟩
        rw [hc, Nat.add_sub_cancel, Nat.mul_succ, Nat.mul_comm]
      omega
    have e2 : (i + (ps.length - 1) * e + (2 * e + 1)) % ps.length = (i + (ps.length - 1) * e) % ps.length := by
      rw [Nat.add_mod, h1, Nat.add_zero, Nat.mod_mod]
    rw [← e2, e1, Nat.add_mul_mod_self_right]
theorem nodup_le : ∀ {n : Nat} {l : List Nat}, l.Nodup → (∀ x ∈ l, x < n) → l.length ≤ n := fun {n l} hd h => by
  have := List.Nodup.length_le_of_subset hd (l₂ := List.range n) (fun x hx => List.mem_range.mpr (h x hx))
  rw [List.length_range] at this
  exact this
theorem OddRing.le (o : OddRing T ps) (hn : ∀ i x, x ∈ T i → i < n ∧ x < n) : ps.length ≤ n ∧ ∀ x ∈ ps, x < n := by
  have hx : ∀ x ∈ ps, x < n := fun x hx => by
    obtain ⟨i, _, rfl⟩ := mem_At hx
    exact (hn _ _ (head_mem (o.ring.head i))).1
  have hnd := o.ring.nd
  refine ⟨?_, hx⟩
  exact nodup_le hnd hx
end
end Bk
set_option linter.all false
/-! Rings taken out one by one, as the program does it: what it tells, and that it tells but one thing. Core Lean. -/
namespace Bk
section
variable {R T : Nat → List Nat} {ps ps' : List Nat} {n : Nat}
theorem ring_nx (d : Done R T) (r : Ring T ps) (i : Nat) : At ps (i + 1) = nx T (At ps i) := by
  obtain ⟨rest, e⟩ := r.row i
  have h1 := r.last d (i + 1)
  have h2 : snd2 T (At ps i) = bs T ps (i + 1) := snd2_of e
  unfold nx
  rw [h2, List.getLastD_eq_getLast?, h1]
  rfl
theorem odd_lost (L : Lists R) (hn : ∀ i x, x ∈ R i → i < n) (d : Done R T) (o : OddRing T ps) {p : Nat} (hp : p ∈ ps) : outT T ps p = [] := by
  obtain ⟨i, _, rfl⟩ := mem_At hp
  have hpos := o.ring.pos
  obtain ⟨e, he, hd⟩ := o.shift
  have hne : bs T ps i ≠ bs T ps (i + 1) := (o.ring.ahead d i).2.2
  have all : ∀ x ∈ T (At ps i), gone T ps (At ps i) x := fun x hx => by
    rw [o.two] at hx
    have hx' : x = bs T ps i ∨ x = bs T ps (i + 1) := by simpa using hx
    rcases hx' with rfl | rfl
    · have h := loses L hn d o.ring (i + ps.length - 1)
      have e1 : i + ps.length - 1 + 1 = i + ps.length := by omega
      rw [e1, At_len, bs_len] at h
      exact h
    · refine .inl ⟨i + e, ?_, ?_, ?_⟩
      · rw [he]
        have : i + e + 1 + e = i + (2 * e + 1) := by omega
        rw [this]
        obtain ⟨q, hq⟩ := Nat.dvd_of_mod_eq_zero hd
        rw [hq, Nat.mul_comm, At_mod]
      · rw [o.two]; simp
      · rw [← he, o.two, idx_ne _ hne]
        simp
  cases hc : outT T ps (At ps i) with
  | nil => rfl
  | cons x r =>
    have hm : x ∈ outT T ps (At ps i) := by rw [hc]; exact List.mem_cons_self
    obtain ⟨h1, h2⟩ := mem_outT.mp hm
    exact absurd (all x h1) h2
/-- two rings with one person are one ring -/
theorem ring_same (d : Done R T) (r : Ring T ps) (r' : Ring T ps') {x : Nat} (h : x ∈ ps) (h' : x ∈ ps') : ps.length = ps'.length ∧ ∃ c, ∀ i, At ps' i = At ps (i + c) := by
  obtain ⟨a, _, ea⟩ := mem_At h
  obtain ⟨b, _, eb⟩ := mem_At h'
  have hp := r.pos
  have hp' := r'.pos
  have step : ∀ t, At ps' (b + t) = At ps (a + t) := fun t => by
    induction t with
    | zero => rw [Nat.add_zero, Nat.add_zero, ea, eb]
    | succ t ih => rw [← Nat.add_assoc, ← Nat.add_assoc, ring_nx d r', ring_nx d r, ih]
  have mv : ∀ i, At ps' i = At ps (i + (a + b * ps'.length - b)) := fun i => by
    have hb : b ≤ b * ps'.length := Nat.le_mul_of_pos_right _ hp'
    have h1 := step (i + b * ps'.length - b)
    have e1 : b + (i + b * ps'.length - b) = i + b * ps'.length := by omega
    have e2 : a + (i + b * ps'.length - b) = i + (a + b * ps'.length - b) := by omega
    rw [e1, e2, At_mod] at h1
    exact h1
  refine ⟨Nat.le_antisymm ?_ ?_, _, mv⟩
  · refine len_of_sub r.nd fun y hy => ?_
    obtain ⟨i, _, rfl⟩ := mem_At hy
    have ha : a ≤ a * ps.length := Nat.le_mul_of_pos_right _ hp
    have h1 := step (i + a * ps.length - a)
    have e2 : a + (i + a * ps.length - a) = i + a * ps.length := by omega
    rw [e2, At_mod] at h1
    rw [← h1]
    exact At_mem hp' _
  · refine len_of_sub r'.nd fun y hy => ?_
    obtain ⟨i, _, rfl⟩ := mem_At hy
    rw [mv]
    exact At_mem hp _
theorem odd_move (o : OddRing T ps) (r' : Ring T ps') (hl : ps.length = ps'.length) {c : Nat} (mv : ∀ i, At ps' i = At ps (i + c)) : OddRing T ps' := by
  have eb : ∀ i, bs T ps' i = bs T ps (i + c) := fun i => by unfold bs; rw [mv]
  obtain ⟨e, he, hd⟩ := o.shift
  refine ⟨r', fun i => ?_, e, fun i => ?_, by rw [← hl]; exact hd⟩
  · rw [mv, o.two, eb, eb]
    have : i + c + 1 = i + 1 + c := by omega
    rw [this]
  · rw [eb, he, mv]
    congr 1
    omega
theorem odd_rows (o : OddRing T ps) {x y : Nat} (h : x ∈ ps) (hy : y ∈ T x) : y ∈ ps := by
  obtain ⟨i, _, rfl⟩ := mem_At h
  rw [o.two] at hy
  have hy' : y = bs T ps i ∨ y = bs T ps (i + 1) := by simpa using hy
  rcases hy' with rfl | rfl
  · obtain ⟨z, hz⟩ := o.own i
    rw [hz]; exact At_mem o.ring.pos _
  · obtain ⟨z, hz⟩ := o.own (i + 1)
    rw [hz]; exact At_mem o.ring.pos _
/-- an odd ring stays where another ring goes and nobody is lost -/
theorem odd_stays (L : Lists R) (hn : ∀ i x, x ∈ R i → i < n) (d : Done R T) (o : OddRing T ps) (r' : Ring T ps') (hl : ∀ p, T p ≠ [] → outT T ps' p ≠ []) {x : Nat} (hx : x ∈ ps) : outT T ps' x = T x := by
  have apart : ∀ y, y ∈ ps → y ∈ ps' → False := fun y h h' => by
    obtain ⟨h1, c, h2⟩ := ring_same d o.ring r' h h'
    have o' := odd_move o r' h1 h2
    have h3 := odd_lost L hn d o' h'
    refine hl y ?_ h3
    obtain ⟨i, _, rfl⟩ := mem_At h
    rw [o.two]; simp
  have no : ∀ z, z ∈ ps → ∀ i, z ≠ bs T ps' (i + 1) := fun z hz i e => by
    have h1 := (r'.ahead d i).1
    rw [← e] at h1
    exact apart _ (odd_rows o hz h1) (At_mem r'.pos _)
  have all : ∀ y ∈ T x, ¬ gone T ps' x y := by
    intro y hy
    rintro (⟨i, e, _⟩ | ⟨i, e, _⟩)
    · exact no x hx i e
    · exact no y (odd_rows o hx hy) i e
  have h1 : (outT T ps' x).Sublist (T x) := outT_sub x
  have h2 : ∀ y, y ∈ outT T ps' x ↔ y ∈ T x := fun y => by
    rw [mem_outT]
    exact ⟨fun z => z.1, fun z => ⟨z, all y z⟩⟩
  exact sub_eq h1 (List.Sublist.refl _) (d.tab.nd L x) h2
theorem odd_congr {T' : Nat → List Nat} (o : OddRing T ps) (h : ∀ x ∈ ps, T' x = T x) : OddRing T' ps := by
  have e : ∀ i, T' (At ps i) = T (At ps i) := fun i => h _ (At_mem o.ring.pos i)
  have eb : ∀ i, bs T' ps i = bs T ps i := fun i => by unfold bs best; rw [e]
  obtain ⟨c, h1, h2⟩ := o.shift
  refine ⟨⟨o.ring.two, o.ring.nd, fun i => ?_⟩, fun i => ?_, c, fun i => ?_, h2⟩
  · obtain ⟨rest, hr⟩ := o.ring.row i
    exact ⟨rest, by rw [e, hr]; show _ = bs T' ps i :: bs T' ps (i + 1) :: rest; rw [eb, eb]⟩
  · rw [e, o.two, eb, eb]
  · rw [eb, h1]

/-! ### the walk -/
def it (C : Nat → List Nat) (s : Nat) : Nat → Nat
  | 0 => s
  | j + 1 => nx C (it C s j)
def orb (C : Nat → List Nat) (s j : Nat) : List Nat := (List.range j).map (it C s)
theorem orb_succ (C : Nat → List Nat) (s j : Nat) : orb C s (j + 1) = orb C s j ++ [it C s j] := by
  unfold orb
  rw [List.range_succ, List.map_append]
  rfl
theorem orb_len (C : Nat → List Nat) (s j : Nat) : (orb C s j).length = j := by simp [orb]
theorem orb_at {C : Nat → List Nat} {s j i : Nat} (h : i < j) : (orb C s j)[i]? = some (it C s i) := by
  unfold orb
  rw [List.getElem?_map, List.getElem?_range h]
  rfl
theorem mem_orb {C : Nat → List Nat} {s j x : Nat} : x ∈ orb C s j ↔ ∃ i, i < j ∧ it C s i = x := by
  unfold orb
  rw [List.mem_map]
  simp only [List.mem_range]
/-- where the walk stops -/
def WStop (C : Nat → List Nat) (s j : Nat) : Prop := it C s j ∈ orb C s j ∧ ∀ i, i < j → it C s i ∉ orb C s i
theorem stop_one {C : Nat → List Nat} {s j j' : Nat} (h : WStop C s j) (h' : WStop C s j') : j = j' := by
  rcases Nat.lt_trichotomy j j' with z | z | z
  · exact absurd h.1 (h'.2 j z)
  · exact z
  · exact absurd h'.1 (h.2 j' z)
theorem orb_nd {C : Nat → List Nat} {s : Nat} : ∀ {j : Nat}, (∀ i, i < j → it C s i ∉ orb C s i) → (orb C s j).Nodup
  | 0, _ => by simp [orb]
  | j + 1, h => by
    rw [orb_succ, List.nodup_append]
    refine ⟨orb_nd fun i hi => h i (by omega), by simp, fun a ha b hb e => ?_⟩
    have hb' : b = it C s j := by simpa using hb
    exact h j (by omega) (by rw [← hb', ← e]; exact ha)
theorem it_two (L : Lists R) (hn : ∀ i x, x ∈ R i → i < n) (d : Done R T) {s : Nat} (h : 2 ≤ (T s).length) : ∀ j, 2 ≤ (T (it T s j)).length
  | 0 => h
  | j + 1 => (nx_ok L hn d (it_two L hn d h j)).1
/-- its people, from the least on -/
def rotAt (l : List Nat) (m : Nat) : List Nat := l.drop (l.idxOf m) ++ l.take (l.idxOf m)
def RingFrom (C : Nat → List Nat) (s : Nat) (ps : List Nat) : Prop := ∃ j m, WStop C s j ∧ m ∈ (orb C s j).drop ((orb C s j).idxOf (it C s j)) ∧ (∀ x ∈ (orb C s j).drop ((orb C s j).idxOf (it C s j)), m ≤ x) ∧ ps = rotAt ((orb C s j).drop ((orb C s j).idxOf (it C s j))) m
theorem ringfrom_one {C : Nat → List Nat} {s : Nat} {a b : List Nat} (h : RingFrom C s a) (h' : RingFrom C s b) : a = b := by
  obtain ⟨j, m, h1, h2, h3, rfl⟩ := h
  obtain ⟨j', m', h1', h2', h3', rfl⟩ := h'
  have e := stop_one h1 h1'
  subst e
  have : m = m' := Nat.le_antisymm (h3 _ h2') (h3' _ h2)
  rw [this]
theorem At_rot {l : List Nat} {q : Nat} (hq : q < l.length) (i : Nat) : At (l.drop q ++ l.take q) i = At l (i + q) := by
  have hl : (l.drop q ++ l.take q).length = l.length := by
    rw [List.length_append, List.length_drop, List.length_take]
    omega
  unfold At
  rw [hl]
  have hi := Nat.mod_lt i (show 0 < l.length by omega)
  have e1 : (i + q) % l.length = (i % l.length + q) % l.length := by rw [Nat.add_mod, Nat.mod_eq_of_lt hq, Nat.add_mod (i % l.length), Nat.mod_mod, Nat.mod_eq_of_lt hq]
  rw [e1]
  rw [List.getD_eq_getElem?_getD, List.getD_eq_getElem?_getD]
  congr 1
  by_cases z : i % l.length < l.length - q
  · rw [List.getElem?_append_left (by rw [List.length_drop]; exact z), List.getElem?_drop, Nat.mod_eq_of_lt (show i % l.length + q < l.length by omega), Nat.add_comm]
  · rw [List.getElem?_append_right (by rw [List.length_drop]; omega), List.length_drop, List.getElem?_take]
    have e2 : (i % l.length + q) % l.length = i % l.length + q - l.length := by
      rw [show i % l.length + q = (i % l.length + q - l.length) + l.length by omega, Nat.add_mod_right, Nat.mod_eq_of_lt (by omega)]
      omega
    rw [e2, if_pos (by omega)]
    congr 1
    omega
theorem ringfrom_ok (L : Lists R) (hn : ∀ i x, x ∈ R i → i < n) (d : Done R T) {s : Nat} (h : 2 ≤ (T s).length) (r : RingFrom T s ps) : Ring T ps ∧ (∀ p ∈ ps, At ps 0 ≤ p) ∧ (OddRing T ps → s ∈ ps) := by
  obtain ⟨j, m, hst, hm, hmin, rfl⟩ := r
  have nd := orb_nd hst.2
  obtain ⟨k, hk⟩ : ∃ k, k = (orb T s j).idxOf (it T s j) := ⟨_, rfl⟩
  rw [← hk] at hm hmin ⊢
  have hkj : k < j := by
    have := idxOf_lt_of_mem hst.1
    rw [orb_len] at this
    rw [hk]; exact this
  have ek : it T s k = it T s j := by
    have h1 : (orb T s j)[k]? = some (it T s j) := by
      have hl : (orb T s j).idxOf (it T s j) < (orb T s j).length := idxOf_lt_of_mem hst.1
      rw [hk, List.getElem?_eq_getElem hl, List.getElem_idxOf]
    rw [orb_at hkj] at h1
    exact Option.some.inj h1
  obtain ⟨pe, hpe⟩ : ∃ pe, pe = (orb T s j).drop k := ⟨_, rfl⟩
  rw [← hpe] at hm hmin ⊢
  have pl : pe.length = j - k := by rw [hpe, List.length_drop, orb_len]
  have pnd : pe.Nodup := by rw [hpe]; exact nd.sublist (List.drop_sublist _ _)
  have pat : ∀ i, At pe i = it T s (k + i % (j - k)) := fun i => by
    have hi := Nat.mod_lt i (show 0 < j - k by omega)
    unfold At
    rw [pl, List.getD_eq_getElem?_getD, hpe, List.getElem?_drop, orb_at (by omega)]
    rfl
  have pn : ∀ i, At pe (i + 1) = nx T (At pe i) := fun i => by
    rw [pat, pat]
    have hi := Nat.mod_lt i (show 0 < j - k by omega)
    have e0 : nx T (it T s (k + i % (j - k))) = it T s (k + i % (j - k) + 1) := rfl
    rw [e0]
    by_cases z : i % (j - k) + 1 < j - k
    · have : (i + 1) % (j - k) = i % (j - k) + 1 := by
        rw [← Nat.mod_add_mod, Nat.mod_eq_of_lt z]
      rw [this]
      rfl
    · have : (i + 1) % (j - k) = 0 := by
        rw [← Nat.mod_add_mod, show i % (j - k) + 1 = j - k by omega, Nat.mod_self]
      rw [this, show k + i % (j - k) + 1 = j by omega, Nat.add_zero]
      exact ek
  have hq : pe.idxOf m < pe.length := idxOf_lt_of_mem hm
  have rat := fun i => At_rot hq i
  have perm : (rotAt pe m).Perm pe := by
    unfold rotAt
    refine List.perm_append_comm.trans ?_
    rw [List.take_append_drop]
  have rpos : 0 < (rotAt pe m).length := by rw [perm.length_eq]; omega
  have ring : Ring T (rotAt pe m) := by
    refine ring_of L hn d rpos (perm.nodup_iff.mpr pnd) (fun x hx => ?_) fun i => ?_
    · have := perm.mem_iff.mp hx
      rw [hpe] at this
      obtain ⟨i, _, rfl⟩ := mem_orb.mp (List.mem_of_mem_drop this)
      exact it_two L hn d h i
    · show At (pe.drop (pe.idxOf m) ++ pe.take (pe.idxOf m)) (i + 1) = nx T (At (pe.drop (pe.idxOf m) ++ pe.take (pe.idxOf m)) i)
      rw [rat, rat, show i + 1 + pe.idxOf m = i + pe.idxOf m + 1 by omega]
      exact pn _
  refine ⟨ring, fun p hp => ?_, fun o => ?_⟩
  · have e0 : At (rotAt pe m) 0 = m := by
      show At (pe.drop (pe.idxOf m) ++ pe.take (pe.idxOf m)) 0 = m
      rw [rat, Nat.zero_add, At_of hq]
      exact List.getElem_idxOf hq
    rw [e0]
    exact hmin p (perm.mem_iff.mp hp)
  · have hin : it T s k ∈ rotAt pe m := by
      refine perm.mem_iff.mpr ?_
      have := pat 0
      rw [Nat.zero_mod, Nat.add_zero] at this
      rw [← this]
      exact At_mem (by omega) 0
    have back : ∀ t, t ≤ k → it T s (k - t) ∈ rotAt pe m := fun t => by
      induction t with
      | zero => intro _; exact hin
      | succ t ih =>
        intro ht
        have h1 := ih (by omega)
        have e : k - t = k - (t + 1) + 1 := by omega
        rw [e] at h1
        exact odd_catch L hn d o (it_two L hn d h _) h1
    have := back k (Nat.le_refl _)
    rw [Nat.sub_self] at this
    exact this

/-! ### one by one -/
def Emptied (n : Nat) (C C' : Nat → List Nat) : Prop := ∃ i, i < n ∧ C i ≠ [] ∧ C' i = []
noncomputable def after (C : Nat → List Nat) (pss : List (List Nat)) : Nat → List Nat := pss.foldl outT C
theorem after_nil (C : Nat → List Nat) : after C [] = C := rfl
theorem after_cons (C : Nat → List Nat) (ps : List Nat) (pss : List (List Nat)) : after C (ps :: pss) = after (outT C ps) pss := rfl
theorem after_append (C : Nat → List Nat) (a b : List (List Nat)) : after C (a ++ b) = after (after C a) b := List.foldl_append ..
/-- the rings told of person p -/
inductive Inn (n p : Nat) : (Nat → List Nat) → List (List Nat) → Prop
  | few {C} (h : ¬ 1 < (C p).length) : Inn n p C []
  | odd {C ps} (h : 1 < (C p).length) (r : RingFrom C p ps) (e : Emptied n C (outT C ps)) : Inn n p C []
  | ring {C ps pss} (h : 1 < (C p).length) (r : RingFrom C p ps) (e : ¬ Emptied n C (outT C ps)) (t : Inn n p (outT C ps) pss) : Inn n p C (ps :: pss)
theorem inn_one {n p : Nat} {C : Nat → List Nat} {a b : List (List Nat)} (h : Inn n p C a) (h' : Inn n p C b) : a = b := by
  induction h generalizing b with
  | few h =>
    cases h' with
    | few => rfl
    | odd h2 => exact absurd h2 h
    | ring h2 => exact absurd h2 h
  | odd h r e =>
    cases h' with
    | few h2 => exact absurd h h2
    | odd => rfl
    | ring _ r2 e2 => rw [ringfrom_one r r2] at e; exact absurd e e2
  | ring h r e t ih =>
    cases h' with
    | few h2 => exact absurd h h2
    | odd _ r2 e2 => rw [ringfrom_one r r2] at e; exact absurd e2 e
    | ring _ r2 e2 t2 =>
      have := ringfrom_one r r2
      subst this
      rw [ih t2]
/-- the rings told from person i on -/
inductive Outs (n : Nat) : Nat → (Nat → List Nat) → List (List Nat) → Prop
  | done {i C} (h : n ≤ i) : Outs n i C []
  | go {i C p1 p2} (h : i < n) (a : Inn n i C p1) (b : Outs n (i + 1) (after C p1) p2) : Outs n i C (p1 ++ p2)
theorem outs_one {n i : Nat} {C : Nat → List Nat} {a b : List (List Nat)} (h : Outs n i C a) (h' : Outs n i C b) : a = b := by
  induction h generalizing b with
  | done h =>
    cases h' with
    | done => rfl
    | go h2 => omega
  | go h x y ih =>
    cases h' with
    | done h2 => omega
    | go _ x2 y2 =>
      have := inn_one x x2
      subst this
      rw [ih y2]
/-- rings taken out one by one, till none are left but odd ones -/
inductive Chain (R : Nat → List Nat) (n : Nat) : (Nat → List Nat) → List (List Nat) → Prop
  | nil {C} (l : Last R C) : Chain R n C []
  | cons {C ps pss} (d : Done R C) (r : Ring C ps) (m : ∀ p ∈ ps, At ps 0 ≤ p) (e : ¬ Emptied n C (outT C ps)) (t : Chain R n (outT C ps) pss) : Chain R n C (ps :: pss)
def Fin1 (C : Nat → List Nat) (i : Nat) : Prop := (C i).length ≤ 1 ∨ ∃ ps, OddRing C ps ∧ i ∈ ps
theorem not_lost (hnC : ∀ i x, x ∈ T i → i < n) (h : ¬ Emptied n T (outT T ps)) (p : Nat) (hp : T p ≠ []) : outT T ps p ≠ [] := fun z => by
  refine h ⟨p, ?_, hp, z⟩
  obtain ⟨b, hb⟩ := head_some hp
  exact hnC p b (head_mem hb)
theorem fin_keep (L : Lists R) (hn : ∀ i x, x ∈ R i → i < n) (d : Done R T) (r : Ring T ps) (hl : ∀ p, T p ≠ [] → outT T ps p ≠ []) {i : Nat} (h : Fin1 T i) : Fin1 (outT T ps) i := by
  rcases h with h | ⟨qs, o, hi⟩
  · exact .inl (Nat.le_trans (outT_sub i).length_le h)
  · exact .inr ⟨qs, odd_congr o fun x hx => odd_stays L hn d o r hl hx, hi⟩
theorem inn_chain (L : Lists R) (hn : ∀ i x, x ∈ R i → i < n) {p : Nat} {C : Nat → List Nat} {pss : List (List Nat)} (h : Inn n p C pss) : Done R C →
    Done R (after C pss) ∧ Fin1 (after C pss) p ∧ (∀ i, Fin1 C i → Fin1 (after C pss) i) ∧ ∀ rest, Chain R n (after C pss) rest → Chain R n C (pss ++ rest) := by
  induction h with
  | few h => exact fun d => ⟨d, .inl (by rw [after_nil]; omega), fun i h => h, fun rest c => c⟩
  | @odd C ps h r e =>
    intro d
    obtain ⟨h1, h2, h3⟩ := ringfrom_ok L hn d (show 2 ≤ (C p).length by omega) r
    obtain ⟨i, _, e1, e2⟩ := e
    have o := lost_odd L hn d h1 e1 e2
    exact ⟨d, .inr ⟨ps, o, h3 o⟩, fun i h => h, fun rest c => c⟩
  | @ring C ps pss h r e t ih =>
    intro d
    obtain ⟨h1, h2, h3⟩ := ringfrom_ok L hn d (show 2 ≤ (C p).length by omega) r
    have hl := not_lost (fun i x hx => hn i x ((d.tab.sub i).subset hx)) e
    have d2 := out_done L hn d h1 hl
    obtain ⟨a, b, c, f⟩ := ih d2
    exact ⟨a, b, fun i hi => c i (fin_keep L hn d h1 hl hi), fun rest ch => .cons d h1 h2 e (f rest ch)⟩
theorem outs_chain (L : Lists R) (hn : ∀ i x, x ∈ R i → i < n) {i : Nat} {C : Nat → List Nat} {pss : List (List Nat)} (h : Outs n i C pss) : Done R C → (∀ q, q < i → Fin1 C q) → Chain R n C pss := by
  induction h with
  | @done i C h =>
    intro d f
    refine .nil ⟨d, fun x hx => ?_⟩
    have hxn : x < n := by
      obtain ⟨b, hb⟩ := head_some (l := C x) (fun z => by rw [z] at hx; simp at hx)
      exact hn x b ((d.tab.sub x).subset (head_mem hb))
    rcases f x (by omega) with z | z
    · omega
    · exact z
  | @go i C p1 p2 h a b ih =>
    intro d f
    obtain ⟨h1, h2, h3, h4⟩ := inn_chain L hn a d
    refine h4 _ (ih h1 fun q hq => ?_)
    by_cases z : q = i
    · rw [z]; exact h2
    · exact h3 q (f q (by omega))
theorem chain_last {C : Nat → List Nat} {pss : List (List Nat)} (h : Chain R n C pss) : Last R (after C pss) := by
  induction h with
  | nil l => exact l
  | cons d r m e t ih => exact ih
end
end Bk
set_option Elab.async false
set_option linter.all false
/-! What rings_out tells, as it lies in the heap. -/
namespace Bk
open PySem PySem.Spec PyProof.Rows L2 LamX
section
variable {R T : Nat → List Nat} {ps : List Nat} {n : Nat}
theorem total_out (L : Lists R) (hn : ∀ i x, x ∈ R i → i < n) (d : Done R T) (r : Ring T ps) : total n (outT T ps) < total n T := by
  have hl := loses L hn d r 0
  have hm := head_mem (r.head (0 + 1))
  have hk : At ps (0 + 1) < n := hn _ _ ((d.tab.sub _).subset hm)
  refine sum_lt (List.range n) (k := At ps (0 + 1)) (fun i _ => (outT_sub i).length_le) (List.mem_range.mpr hk) ?_
  refine Nat.lt_of_le_of_ne (outT_sub _).length_le fun e => ?_
  have := (outT_sub (T := T) (ps := ps) (At ps (0 + 1))).eq_of_length e
  rw [← this] at hm
  exact (mem_outT.mp hm).2 hl
theorem total_le {C : Nat → List Nat} (h : ∀ i, (C i).length ≤ n) : total n C ≤ n * n := by
  have key : ∀ m, ((List.range m).map fun i => (C i).length).sum ≤ m * n := fun m => by
    induction m with
    | zero => simp
    | succ m ih =>
      rw [List.range_succ, List.map_append, List.sum_append]
      simp only [List.map_cons, List.map_nil, List.sum_cons, List.sum_nil]
      have := h m
      rw [Nat.succ_mul]
      omega
  exact key n
end
structure RingsAt (H : Hp) (D : Addr) (n : Nat) (C : Nat → List Nat) (pss : List (List Nat)) (us rs ts : List Addr) (ass : List (List Addr)) : Prop where
  top : H D = some (.lst (us.map V.ref))
  lu : us.length = pss.length
  lr : rs.length = pss.length
  lt : ts.length = pss.length
  la : ass.length = pss.length
  tup : ∀ (j : Nat) (u r t : Addr), us[j]? = some u → rs[j]? = some r → ts[j]? = some t → H u = some (.tup [.ref r, .ref t])
  ring : ∀ (j : Nat) (r : Addr) (ps : List Nat), rs[j]? = some r → pss[j]? = some ps → PairsAt H r (ps.map fun p => (p, best (after C (pss.take j)) p))
  rows : ∀ (j : Nat) (t : Addr) (as : List Addr), ts[j]? = some t → ass[j]? = some as → Tbl H t as (mkL n (after C (pss.take (j + 1))))
  nd : (D :: (rs ++ ts)).Nodup
  ap : ∀ as ∈ ass, ∀ a ∈ as, a ∉ D :: (rs ++ ts)
theorem RingsAt.grow {H H' : Hp} {D : Addr} {n : Nat} {C : Nat → List Nat} {pss : List (List Nat)} {us rs ts : List Addr} {ass : List (List Addr)} (h : RingsAt H D n C pss us rs ts ass) (e : Grow H H') : RingsAt H' D n C pss us rs ts ass :=
  ⟨e.lst h.top, h.lu, h.lr, h.lt, h.la, fun j u r t a b c => e.tup (h.tup j u r t a b c), fun j r ps a b => (h.ring j r ps a b).grow e, fun j t as a b => (h.rows j t as a b).grow e, h.nd, h.ap⟩
theorem RingsAt.nil {H : Hp} {D : Addr} {n : Nat} {C : Nat → List Nat} (h : H D = some (.lst [])) : RingsAt H D n C [] [] [] [] [] :=
  ⟨h, rfl, rfl, rfl, rfl, fun j u r t a => by simp at a, fun j r ps a => by simp at a, fun j t as a => by simp at a, by simp, fun as h => by simp at h⟩
/-- all its lists -/
def allA (D : Addr) (rs ts : List Addr) (ass : List (List Addr)) : List Addr := D :: (rs ++ ts ++ ass.flatten)
theorem mem_allA {D : Addr} {rs ts : List Addr} {ass : List (List Addr)} {a : Addr} : a ∈ allA D rs ts ass ↔ a = D ∨ a ∈ rs ∨ a ∈ ts ∨ ∃ as ∈ ass, a ∈ as := by
  unfold allA
  simp [List.mem_append, List.mem_flatten, or_assoc]
theorem RingsAt.held {H : Hp} {D : Addr} {n : Nat} {C : Nat → List Nat} {pss : List (List Nat)} {us rs ts : List Addr} {ass : List (List Addr)} (h : RingsAt H D n C pss us rs ts ass) {a : Addr} (ha : a ∈ allA D rs ts ass) : ∃ xs, H a = some (.lst xs) := by
  rcases mem_allA.mp ha with rfl | z | z | ⟨as, z, z2⟩
  · exact ⟨_, h.top⟩
  · obtain ⟨j, hj⟩ := List.mem_iff_getElem?.mp z
    have hl : j < pss.length := by
      have := (List.getElem?_eq_some_iff.mp hj).1
      rw [h.lr] at this; exact this
    obtain ⟨_, q, _⟩ := (h.ring j a _ hj (List.getElem?_eq_getElem hl)).ex
    exact ⟨_, q⟩
  · obtain ⟨j, hj⟩ := List.mem_iff_getElem?.mp z
    have hl : j < ass.length := by
      have := (List.getElem?_eq_some_iff.mp hj).1
      rw [h.lt] at this; rw [h.la]; exact this
    exact ⟨_, (h.rows j a _ hj (List.getElem?_eq_getElem hl)).top⟩
  · obtain ⟨j, hj⟩ := List.mem_iff_getElem?.mp z
    have hl : j < ts.length := by
      have := (List.getElem?_eq_some_iff.mp hj).1
      rw [h.la] at this; rw [h.lt]; exact this
    have hT := h.rows j _ as (List.getElem?_eq_getElem hl) hj
    obtain ⟨i, hi⟩ := List.mem_iff_getElem?.mp z2
    have hin : i < (mkL n (after C (pss.take (j + 1)))).length := by
      have := (List.getElem?_eq_some_iff.mp hi).1
      rw [hT.len] at this; exact this
    exact ⟨_, hT.row i a _ hi (fn_at hin)⟩
theorem PairsAt.keep {H H' : Hp} {D : Addr} {ps : List (Nat × Nat)} (h : PairsAt H D ps) (k : H' D = H D) (t : ∀ b xs, H b = some (.tup xs) → H' b = some (.tup xs)) : PairsAt H' D ps := by
  obtain ⟨as, h1, h2, h3⟩ := h.ex
  exact ⟨as, by rw [k]; exact h1, h2, fun i a p e1 e2 => t _ _ (h3 i a p e1 e2)⟩
theorem Tbl.keep {H H' : Hp} {t : Addr} {as : List Addr} {rows : List (List Nat)} (T : Tbl H t as rows) (k1 : H' t = H t) (k2 : ∀ a ∈ as, H' a = H a) : Tbl H' t as rows :=
  ⟨by rw [k1]; exact T.top, T.len, T.nd, T.out, fun i a r h1 h2 => by
    show H' a = _
    rw [k2 a (List.mem_of_getElem? h1)]; exact T.row i a r h1 h2⟩
theorem nodup_snoc {α : Type} {l : List α} {x : α} (h : l.Nodup) (hx : x ∉ l) : (l ++ [x]).Nodup := by
  rw [List.nodup_append]
  refine ⟨h, by simp, fun a ha b hb e => ?_⟩
  have : b = x := by simpa using hb
  exact hx (by rw [← this, ← e]; exact ha)
/-- one more ring -/
theorem RingsAt.snoc {H : Hp} {D : Addr} {n : Nat} {C : Nat → List Nat} {pss : List (List Nat)} {us rs ts : List Addr} {ass : List (List Addr)} (h : RingsAt H D n C pss us rs ts ass) {u r t : Addr} {as : List Addr} {ps : List Nat}
    (hu : H u = none) (hR : PairsAt H r (ps.map fun p => (p, best (after C pss) p))) (hT : Tbl H t as (mkL n (after C (pss ++ [ps]))))
    (fr : r ∉ allA D rs ts ass) (ft : t ∉ allA D rs ts ass) (hrt : t ≠ r) (fa : ∀ a ∈ as, a ∉ allA D rs ts ass ∧ a ≠ r) :
    RingsAt (upd (upd H u (.tup [.ref r, .ref t])) D (.lst (us.map V.ref ++ [.ref u]))) D n C (pss ++ [ps]) (us ++ [u]) (rs ++ [r]) (ts ++ [t]) (ass ++ [as]) := by
  have hDu : u ≠ D := fun z => by rw [z, h.top] at hu; cases hu
  have nr : ∀ {a : Addr}, a ∈ rs → a ∈ allA D rs ts ass := fun z => mem_allA.mpr (.inr (.inl z))
  have nt : ∀ {a : Addr}, a ∈ ts → a ∈ allA D rs ts ass := fun z => mem_allA.mpr (.inr (.inr (.inl z)))
  have na : ∀ {a : Addr} {l}, l ∈ ass → a ∈ l → a ∈ allA D rs ts ass := fun z z2 => mem_allA.mpr (.inr (.inr (.inr ⟨_, z, z2⟩)))
  have nD : D ∈ allA D rs ts ass := mem_allA.mpr (.inl rfl)
  have kt : ∀ b xs, H b = some (.tup xs) → upd (upd H u (.tup [.ref r, .ref t])) D (.lst (us.map V.ref ++ [.ref u])) b = some (.tup xs) := fun b xs hb => by
    rw [upd_ne (fun z => by rw [z, h.top] at hb; cases hb), upd_ne (ne_of_none hb hu)]
    exact hb
  have kk : ∀ b, b ≠ D → (∃ xs, H b = some (.lst xs)) → upd (upd H u (.tup [.ref r, .ref t])) D (.lst (us.map V.ref ++ [.ref u])) b = H b := fun b hb ⟨xs, hx⟩ => by
    rw [upd_ne hb, upd_ne (ne_of_none hx hu)]
  have hnd := List.nodup_cons.mp h.nd
  have hnd2 := List.nodup_append.mp hnd.2
  refine ⟨?_, by simp [h.lu], by simp [h.lr], by simp [h.lt], by simp [h.la], fun j u' r' t' e1 e2 e3 => ?_, fun j r' ps' e1 e2 => ?_, fun j t' as' e1 e2 => ?_, ?_, fun as' has a ha => ?_⟩
  · rw [upd_same, List.map_append]; rfl
  · by_cases hj : j < pss.length
    · rw [List.getElem?_append_left (by rw [h.lu]; exact hj)] at e1
      rw [List.getElem?_append_left (by rw [h.lr]; exact hj)] at e2
      rw [List.getElem?_append_left (by rw [h.lt]; exact hj)] at e3
      exact kt _ _ (h.tup j u' r' t' e1 e2 e3)
    · have hjl : j = pss.length := by
        have := (List.getElem?_eq_some_iff.mp e1).1
        rw [List.length_append, h.lu, List.length_singleton] at this
        omega
      subst hjl
      rw [List.getElem?_append_right (by rw [h.lu]; exact Nat.le_refl _), h.lu, Nat.sub_self] at e1
      rw [List.getElem?_append_right (by rw [h.lr]; exact Nat.le_refl _), h.lr, Nat.sub_self] at e2
      rw [List.getElem?_append_right (by rw [h.lt]; exact Nat.le_refl _), h.lt, Nat.sub_self] at e3
      simp at e1 e2 e3
      subst e1 e2 e3
      rw [upd_ne hDu, upd_same]
  · by_cases hj : j < pss.length
    · rw [List.getElem?_append_left (by rw [h.lr]; exact hj)] at e1
      rw [List.getElem?_append_left hj] at e2
      rw [List.take_append_of_le_length (by omega)]
      have hP := h.ring j r' ps' e1 e2
      have hm := List.mem_of_getElem? e1
      obtain ⟨xs, hx⟩ := h.held (nr hm)
      refine hP.keep (kk r' (fun z => hnd.1 (z ▸ List.mem_append_left _ hm)) ⟨xs, hx⟩) kt
    · have hjl : j = pss.length := by
        have := (List.getElem?_eq_some_iff.mp e2).1
        rw [List.length_append, List.length_singleton] at this
        omega
      subst hjl
      rw [List.getElem?_append_right (by rw [h.lr]; exact Nat.le_refl _), h.lr, Nat.sub_self] at e1
      rw [List.getElem?_append_right (Nat.le_refl _), Nat.sub_self] at e2
      simp at e1 e2
      subst e1 e2
      rw [List.take_left']
      · obtain ⟨_, q, _⟩ := hR.ex
        exact hR.keep (kk _ (fun z => fr (z ▸ nD)) ⟨_, q⟩) kt
      · rfl
  · by_cases hj : j < pss.length
    · rw [List.getElem?_append_left (by rw [h.lt]; exact hj)] at e1
      rw [List.getElem?_append_left (by rw [h.la]; exact hj)] at e2
      rw [List.take_append_of_le_length (by omega)]
      have hP := h.rows j t' as' e1 e2
      have hm := List.mem_of_getElem? e1
      have hma := List.mem_of_getElem? e2
      refine hP.keep (kk t' (fun z => hnd.1 (z ▸ List.mem_append_right _ hm)) ⟨_, hP.top⟩) fun a ha => kk a (fun z => h.ap as' hma a ha (z ▸ List.mem_cons_self)) (h.held (na hma ha))
    · have hjl : j = pss.length := by
        have := (List.getElem?_eq_some_iff.mp e1).1
        rw [List.length_append, h.lt, List.length_singleton] at this
        omega
      subst hjl
      rw [List.getElem?_append_right (by rw [h.lt]; exact Nat.le_refl _), h.lt, Nat.sub_self] at e1
      rw [List.getElem?_append_right (by rw [h.la]; exact Nat.le_refl _), h.la, Nat.sub_self] at e2
      simp at e1 e2
      subst e1 e2
      rw [List.take_of_length_le (by simp)]
      refine hT.keep (kk _ (fun z => ft (z ▸ nD)) ⟨_, hT.top⟩) fun a ha => kk a (fun z => (fa a ha).1 (z ▸ nD)) ?_
      obtain ⟨i, hi⟩ := List.mem_iff_getElem?.mp ha
      have hin : i < (mkL n (after C (pss ++ [ps]))).length := by
        have := (List.getElem?_eq_some_iff.mp hi).1
        rw [hT.len] at this; exact this
      exact ⟨_, hT.row i a _ hi (fn_at hin)⟩
  · rw [List.nodup_cons]
    refine ⟨fun z => ?_, ?_⟩
    · rcases List.mem_append.mp z with z | z
      · rcases List.mem_append.mp z with z | z
        · exact hnd.1 (List.mem_append_left _ z)
        · have : D = r := by simpa using z
          exact fr (this ▸ nD)
      · rcases List.mem_append.mp z with z | z
        · exact hnd.1 (List.mem_append_right _ z)
        · have : D = t := by simpa using z
          exact ft (this ▸ nD)
    · rw [List.nodup_append]
      refine ⟨nodup_snoc hnd2.1 fun z => fr (nr z), nodup_snoc hnd2.2.1 fun z => ft (nt z), fun a ha b hb e => ?_⟩
      subst e
      rcases List.mem_append.mp ha with za | za <;> rcases List.mem_append.mp hb with zb | zb
      · exact hnd2.2.2 a za a zb rfl
      · have : a = t := by simpa using zb
        exact ft (this ▸ nr za)
      · have : a = r := by simpa using za
        exact fr (this ▸ nt zb)
      · have e1 : a = r := by simpa using za
        have e2 : a = t := by simpa using zb
        exact hrt (e2.symm.trans e1)
  · intro z
    have z' : a = D ∨ (a ∈ rs ∨ a = r) ∨ (a ∈ ts ∨ a = t) := by simpa [or_assoc] using z
    rcases List.mem_append.mp has with y | y
    · rcases z' with e | (e | e) | (e | e)
      · exact h.ap as' y a ha (e ▸ List.mem_cons_self)
      · exact h.ap as' y a ha (List.mem_cons_of_mem _ (List.mem_append_left _ e))
      · exact fr (e ▸ na y ha)
      · exact h.ap as' y a ha (List.mem_cons_of_mem _ (List.mem_append_right _ e))
      · exact ft (e ▸ na y ha)
    · have y' : as' = as := by simpa using y
      subst y'
      obtain ⟨f1, f2⟩ := fa a ha
      rcases z' with e | (e | e) | (e | e)
      · exact f1 (e ▸ nD)
      · exact f1 (nr e)
      · exact f2 e
      · exact f1 (nt e)
      · exact hT.out (e ▸ ha)
/-- the table behind all rings -/
def LastOf (R : Nat → List Nat) (n : Nat) (T : Nat → List Nat) : Prop := ∃ C pss, Off R C ∧ Outs n 0 C pss ∧ T = after C pss
theorem lastof_one {R : Nat → List Nat} {n : Nat} {T T' : Nat → List Nat} (L : Lists R) (h : LastOf R n T) (h' : LastOf R n T') : T = T' := by
  obtain ⟨C, pss, h1, h2, rfl⟩ := h
  obtain ⟨C', pss', h1', h2', rfl⟩ := h'
  have := off_one L h1 h1'
  subst this
  rw [outs_one h2 h2']
theorem LastOf.last {R : Nat → List Nat} {n : Nat} {T : Nat → List Nat} (L : Lists R) (hn : ∀ i x, x ∈ R i → i < n) (h : LastOf R n T) : Last R T := by
  obtain ⟨C, pss, h1, h2, rfl⟩ := h
  exact chain_last (outs_chain L hn h2 h1.dn fun q hq => absurd hq (Nat.not_lt_zero _))
/-- whom each one follows in it -/
def halfL (n : Nat) (T : Nat → List Nat) : List (Option Nat) := (List.range n).map (hd T)
theorem halfL_len (n : Nat) (T : Nat → List Nat) : (halfL n T).length = n := by simp [halfL]
theorem halfL_at {n : Nat} {T : Nat → List Nat} {i : Nat} (h : i < n) : (halfL n T)[i]? = some (hd T i) := by
  unfold halfL
  rw [List.getElem?_map, List.getElem?_range h]
  rfl
theorem mO_halfL {n : Nat} {T : Nat → List Nat} (h : ∀ i x, x ∈ T i → i < n) : mO (halfL n T) = hd T := by
  funext i
  by_cases z : i < n
  · exact mO_of (halfL_at z)
  · have : (halfL n T)[i]? = none := List.getElem?_eq_none (by rw [halfL_len]; omega)
    have e : T i = [] := by
      cases hc : T i with
      | nil => rfl
      | cons x r => exact absurd (h i x (by rw [hc]; exact List.mem_cons_self)) z
    unfold mO hd
    rw [List.getD_eq_getElem?_getD, this, e]
    rfl
end Bk
set_option Elab.async false
set_option linter.all false
/-! Half pairings told by lists; whether one is steady. -/
namespace Bk
open PySem PySem.Spec PyProof.Rows L2
/-- what a half pairing is, told by lists -/
structure IsHalf (n : Nat) (R : Nat → List Nat) (m : List (Option Nat)) : Prop where
  len : m.length = n
  on : ∀ i y, mO m i = some y → y ∈ R i
  inj : ∀ i j y, mO m i = some y → mO m j = some y → i = j
  both : ∀ y, (∃ i, mO m i = some y) ↔ ∃ z, mO m y = some z
/-- those followed by the first ones -/
def fl (m : List (Option Nat)) (k : Nat) : List Nat := (m.take k).filterMap id
theorem mO_lt {m : List (Option Nat)} {k y : Nat} (h : mO m k = some y) : k < m.length := by
  apply Decidable.byContradiction
  intro hge
  have h' : m.getD k none = some y := h
  rw [List.getD_eq_getElem?_getD, List.getElem?_eq_none (by omega)] at h'
  cases h'
theorem fl_mem {m : List (Option Nat)} {k y : Nat} : y ∈ fl m k ↔ ∃ i, i < k ∧ mO m i = some y := by
  unfold fl
  rw [List.mem_filterMap]
  refine ⟨fun ⟨o, h1, h2⟩ => ?_, fun ⟨i, h1, h2⟩ => ?_⟩
  · obtain ⟨i, hi⟩ := List.mem_iff_getElem?.mp h1
    have h2 : o = some y := h2
    subst h2
    rw [List.getElem?_take] at hi
    split at hi
    · exact ⟨i, by assumption, mO_of hi⟩
    · cases hi
  · refine ⟨some y, ?_, rfl⟩
    refine List.mem_iff_getElem?.mpr ⟨i, ?_⟩
    rw [List.getElem?_take, if_pos h1, mO_at (mO_lt h2), h2]
theorem fl_some {m : List (Option Nat)} {k y : Nat} (h : mO m k = some y) : fl m (k + 1) = fl m k ++ [y] := by
  unfold fl
  rw [List.take_add_one, mO_at (mO_lt h), h, List.filterMap_append]
  rfl
theorem fl_none {m : List (Option Nat)} {k : Nat} (h : mO m k = none) : fl m (k + 1) = fl m k := by
  unfold fl
  rw [List.take_add_one]
  by_cases hk : k < m.length
  · rw [mO_at hk, h, List.filterMap_append]
    simp
  · rw [List.getElem?_eq_none (by omega)]
    simp
theorem fl_len (m : List (Option Nat)) (k : Nat) : (fl m k).length ≤ k := by
  unfold fl
  have h1 := List.length_filterMap_le id (m.take k)
  have h2 : (m.take k).length ≤ k := List.length_take_le _ _
  omega
/-- who follows whom, the other way round -/
def Behind (m : List (Option Nat)) (f : Nat → Option Nat) : Prop := ∀ y i, f y = some i ↔ mO m i = some y
theorem behind_one {m : List (Option Nat)} {f f' : Nat → Option Nat} (h : Behind m f) (h' : Behind m f') : f = f' := by
  funext y
  cases hc : f y with
  | some i => exact ((h' y i).mpr ((h y i).mp hc)).symm
  | none =>
    cases hd : f' y with
    | none => rfl
    | some i => rw [(h y i).mpr ((h' y i).mp hd)] at hc; cases hc
/-- a function as a list -/
def fL (n : Nat) (f : Nat → Option Nat) : List (Option Nat) := (List.range n).map f
theorem fL_ov (n : Nat) (f : Nat → Option Nat) : (fL n f).map ov = hL n f := by
  unfold fL hL
  rw [List.map_map]
  rfl
theorem fL_len (n : Nat) (f : Nat → Option Nat) : (fL n f).length = n := by simp [fL]
theorem fL_mO {n : Nat} {f : Nat → Option Nat} (h : ∀ i, n ≤ i → f i = none) (i : Nat) : mO (fL n f) i = f i := by
  by_cases hi : i < n
  · refine mO_of ?_
    unfold fL
    rw [List.getElem?_map, List.getElem?_range hi]; rfl
  · show (fL n f).getD i none = _
    rw [List.getD_eq_getElem?_getD, List.getElem?_eq_none (by rw [fL_len]; omega), h i (by omega)]; rfl
section
variable {n : Nat} {R : Nat → List Nat} {m : List (Option Nat)} {f : Nat → Option Nat}
theorem IsHalf.lt (h : IsHalf n R m) (lt : ∀ i x, x ∈ R i → i < n ∧ x < n) {i y : Nat} (e : mO m i = some y) : i < n ∧ y < n := lt _ _ (h.on _ _ e)
theorem Behind.out (b : Behind m f) (h : IsHalf n R m) (lt : ∀ i x, x ∈ R i → i < n ∧ x < n) : ∀ i, n ≤ i → f i = none := fun i hi => by
  cases hc : f i with
  | none => rfl
  | some z =>
    have := (h.lt lt ((b i z).mp hc)).2
    omega
theorem half_of (h : IsHalf n R m) (b : Behind m f) : Half R (mO m) f where
  on := fun p q e => h.on p q e
  link := fun p q => (b q p).symm
  both := fun p => by
    rw [← h.both p]
    refine exists_congr fun i => ?_
    exact (b p i).symm
/-- one is turned well -/
def TOk (R : Nat → List Nat) (m : List (Option Nat)) (f : Nat → Option Nat) (p : Nat) : Prop := ∀ q r, mO m p = some q → f p = some r → rk R p q ≤ rk R p r
/-- two do not spoil -/
def SOk (R : Nat → List Nat) (f : Nat → Option Nat) (p q : Nat) : Prop := ¬ ((∀ z, f p = some z → rk R p q < rk R p z) ∧ ∀ z, f q = some z → rk R q p < rk R q z)
theorem steady_iff (h : IsHalf n R m) (b : Behind m f) (lt : ∀ i x, x ∈ R i → i < n ∧ x < n) : Steady R (mO m) f ↔ (∀ p, p < n → TOk R m f p) ∧ ∀ p q, q ∈ R p → SOk R f p q := by
  refine ⟨fun s => ⟨fun p _ q r h1 h2 => s.fst p q r h1 h2, fun p q hq hs => ?_⟩, fun ⟨s1, s2⟩ => ⟨half_of h b, fun p q r h1 h2 => s1 p (h.lt lt h1).1 q r h1 h2, fun p q hq hz => ?_⟩⟩
  · obtain ⟨z, h1, h2⟩ := s.snd p q hq hs.1
    have := hs.2 z h1
    omega
  · have := s2 p q hq
    apply Decidable.byContradiction
    intro hn
    refine this ⟨hz, fun z e => ?_⟩
    apply Decidable.byContradiction
    intro hle
    exact hn ⟨z, e, by omega⟩
theorem rather_iff {r : List Nat} {o : Nat} {t : Option Nat} : rather r o t = true ↔ ∀ z, t = some z → r.idxOf o < r.idxOf z := by
  cases t with
  | none => simp [rather]
  | some y => simp [rather]
/-- the program's own look -/
theorem look_iff (L : Lists R) (h : IsHalf n R m) (b : Behind m f) (lt : ∀ i x, x ∈ R i → i < n ∧ x < n) :
    ((List.range n).any (BkG.turnB R m (fL n f)) = false ∧ spQ n R (fL n f) n = []) ↔ Steady R (mO m) f := by
  rw [steady_iff h b lt]
  have hout := b.out h lt
  have hm := fL_mO hout
  refine and_congr ?_ ?_
  · rw [List.any_eq_false]
    refine ⟨fun hx p hp q r h1 h2 => ?_, fun hx p hp => ?_⟩
    · have := hx p (List.mem_range.mpr hp)
      unfold BkG.turnB at this
      rw [h1, hm p, h2] at this
      simp [rather] at this
      exact this
    · have hp := List.mem_range.mp hp
      unfold BkG.turnB
      rw [hm p]
      cases h1 : mO m p with
      | none => simp
      | some q =>
        cases h2 : f p with
        | none => simp
        | some r =>
          have := hx p hp q r h1 h2
          simp [rather]
          exact this
  · constructor
    · intro hx p q hq hs
      have hq' := L.mu _ _ hq
      have key : ∀ a c, c ∈ R a → a < c → (∀ z, f a = some z → rk R a c < rk R a z) → (∀ z, f c = some z → rk R c a < rk R c z) → False := fun a c hc hlt h1 h2 => by
        have hmem : (a, c) ∈ spQ n R (fL n f) n := by
          refine mem_spQ.mpr ⟨(lt _ _ hc).1, (lt _ _ hc).2, hc, ?_⟩
          unfold spP
          simp only [Bool.and_eq_true, decide_eq_true_iff, hm]
          exact ⟨hlt, rather_iff.mpr h1, rather_iff.mpr h2⟩
        rw [hx] at hmem
        cases hmem
      rcases Nat.lt_trichotomy p q with z | z | z
      · exact key p q hq z hs.1 hs.2
      · exact L.ir p (by rw [← z] at hq; exact hq)
      · exact key q p hq' z hs.2 hs.1
    · intro hx
      apply List.eq_nil_iff_forall_not_mem.mpr
      rintro ⟨a, c⟩ hmem
      obtain ⟨h1, h2, h3, h4⟩ := mem_spQ.mp hmem
      unfold spP at h4
      simp only [Bool.and_eq_true, decide_eq_true_iff, hm] at h4
      exact hx a c h3 ⟨rather_iff.mp h4.2.1, rather_iff.mp h4.2.2⟩
end
/-- the last table's half pairing -/
theorem last_isHalf {n : Nat} {R T : Nat → List Nat} (L : Lists R) (lt : ∀ i x, x ∈ R i → i < n ∧ x < n) (l : Last R T) : IsHalf n R (halfL n T) := by
  have hn : ∀ i x, x ∈ R i → i < n := fun i x h => (lt i x h).1
  have hT : ∀ i x, x ∈ T i → i < n := fun i x h => hn i x ((l.dn.tab.sub i).subset h)
  have h := done_half L hn l.dn
  refine ⟨halfL_len n T, ?_, ?_, ?_⟩
  · rw [mO_halfL hT]
    exact h.on
  · rw [mO_halfL hT]
    intro i j y h1 h2
    have e1 := (h.link i y).mp h1
    have e2 := (h.link j y).mp h2
    rw [e1] at e2
    exact Option.some.inj e2
  · rw [mO_halfL hT]
    intro y
    rw [h.both y]
    refine exists_congr fun i => ?_
    exact h.link i y
theorem last_behind {n : Nat} {R T : Nat → List Nat} {f : Nat → Option Nat} (L : Lists R) (lt : ∀ i x, x ∈ R i → i < n ∧ x < n) (l : Last R T) (b : Behind (halfL n T) f) : f = la T := by
  have hn : ∀ i x, x ∈ R i → i < n := fun i x h => (lt i x h).1
  have hT : ∀ i x, x ∈ T i → i < n := fun i x h => hn i x ((l.dn.tab.sub i).subset h)
  have h := done_half L hn l.dn
  funext y
  have key : ∀ i, f y = some i ↔ la T y = some i := fun i => by
    rw [b y i, mO_halfL hT, h.link i y]
  cases hc : f y with
  | some i => rw [(key i).mp hc]
  | none =>
    cases hd : la T y with
    | none => rfl
    | some i => rw [(key i).mpr hd] at hc; cases hc
theorem last_std {n : Nat} {R T : Nat → List Nat} {f : Nat → Option Nat} (L : Lists R) (lt : ∀ i x, x ∈ R i → i < n ∧ x < n) (l : Last R T) (b : Behind (halfL n T) f) : Steady R (mO (halfL n T)) f := by
  have hn : ∀ i x, x ∈ R i → i < n := fun i x h => (lt i x h).1
  have hT : ∀ i x, x ∈ T i → i < n := fun i x h => hn i x ((l.dn.tab.sub i).subset h)
  rw [last_behind L lt l b, mO_halfL hT]
  exact last_steady L hn l
end Bk
set_option Elab.async false
set_option linter.all false
/-! The rings of a half pairing, each from one of its people on. -/
namespace Bk
open PySem PySem.Spec PyProof.Rows L2
theorem kminK {X : Cx} {K : PySem.W.Frag} (hK : X.K = K) (hc : X.calm = true) : CallR X (.builtin "min") (rMin K) := by
  subst hK
  exact cr_min hc
/-- the ring from p on -/
structure OrbitOf (s : Nat → Option Nat) (p : Nat) (l : List Nat) : Prop where
  pos : 0 < l.length
  at_ : ∀ i x, l[i]? = some x → walk s i p = some x
  back : walk s l.length p = some p
  fst : ∀ i, 0 < i → i < l.length → walk s i p ≠ some p
theorem orbit_one {s : Nat → Option Nat} {p : Nat} {l l' : List Nat} (h : OrbitOf s p l) (h' : OrbitOf s p l') : l = l' := by
  have hl : l.length = l'.length := by
    rcases Nat.lt_trichotomy l.length l'.length with z | z | z
    · exact absurd h.back (h'.fst _ h.pos z)
    · exact z
    · exact absurd h'.back (h.fst _ h'.pos z)
  refine List.ext_getElem hl fun i h1 h2 => ?_
  have e1 := h.at_ i _ (List.getElem?_eq_getElem h1)
  have e2 := h'.at_ i _ (List.getElem?_eq_getElem h2)
  rw [e1] at e2
  exact Option.some.inj e2
open Classical in
/-- the ring from p on, where there is one -/
noncomputable def orbL (s : Nat → Option Nat) (p : Nat) : List Nat := if h : ∃ l, OrbitOf s p l then h.choose else []
theorem orb_of {s : Nat → Option Nat} {p : Nat} {l : List Nat} (h : OrbitOf s p l) : orbL s p = l := by
  have hx : ∃ l, OrbitOf s p l := ⟨l, h⟩
  unfold orbL
  rw [dif_pos hx]
  exact orbit_one hx.choose_spec h
theorem walk_succ (s : Nat → Option Nat) (k p : Nat) : walk s (k + 1) p = (walk s k p).bind s := rfl
theorem orbit_len {s : Nat → Option Nat} {p : Nat} {l : List Nat} (h : OrbitOf s p l) : l[0]? = some p := by
  have := h.pos
  have e := h.at_ 0 _ (List.getElem?_eq_getElem h.pos)
  have e2 : walk s 0 p = some p := rfl
  rw [e2] at e
  rw [List.getElem?_eq_getElem h.pos]
  exact e.symm
section
variable {n : Nat} {s : Nat → Option Nat}
/-- followers and followed are the same, each followed by one -/
structure Perm1 (n : Nat) (s : Nat → Option Nat) : Prop where
  lt : ∀ i y, s i = some y → i < n ∧ y < n
  inj : ∀ i j y, s i = some y → s j = some y → i = j
  both : ∀ y, (∃ i, s i = some y) ↔ ∃ z, s y = some z
theorem IsHalf.perm {R : Nat → List Nat} {m : List (Option Nat)} (h : IsHalf n R m) (lt : ∀ i x, x ∈ R i → i < n ∧ x < n) : Perm1 n (mO m) := ⟨fun i y e => h.lt lt e, h.inj, h.both⟩
theorem Perm1.def (P : Perm1 n s) {p : Nat} (h : ∃ z, s p = some z) : ∀ k, ∃ x, walk s k p = some x ∧ (∃ z, s x = some z)
  | 0 => ⟨p, rfl, h⟩
  | k + 1 => by
    obtain ⟨x, h1, z, h2⟩ := P.def h k
    refine ⟨z, by rw [walk_succ, h1]; exact h2, (P.both z).mp ⟨x, h2⟩⟩
theorem Perm1.walk_lt (P : Perm1 n s) {p : Nat} (h : ∃ z, s p = some z) {k x : Nat} (e : walk s k p = some x) : x < n := by
  obtain ⟨y, h1, z, h2⟩ := P.def h k
  rw [e] at h1
  cases h1
  exact (P.lt _ _ h2).1
theorem Perm1.walk_inj (P : Perm1 n s) {p q : Nat} : ∀ {k x : Nat}, walk s k p = some x → walk s k q = some x → p = q
  | 0, x, h1, h2 => by
    have h1 : some p = some x := h1
    have h2 : some q = some x := h2
    rw [← h2] at h1
    exact Option.some.inj h1
  | k + 1, x, h1, h2 => by
    rw [walk_succ] at h1 h2
    obtain ⟨a, ha, ha2⟩ := Option.bind_eq_some_iff.mp h1
    obtain ⟨b, hb, hb2⟩ := Option.bind_eq_some_iff.mp h2
    have := P.inj _ _ _ ha2 hb2
    subst this
    exact P.walk_inj ha hb
theorem Perm1.period (P : Perm1 n s) {p : Nat} (h : ∃ z, s p = some z) : ∃ k, k < n + 1 ∧ (0 < k ∧ walk s k p = some p) := by
  apply Classical.byContradiction
  intro hno
  -- the first n + 1 of the walk are all different
  obtain ⟨w, hw⟩ : ∃ w : Nat → Nat, ∀ k, walk s k p = some (w k) := ⟨fun k => (P.def h k).choose, fun k => (P.def h k).choose_spec.1⟩
  have key : ∀ i j, i < j → j < n + 1 → w i ≠ w j := fun i j hij hj e => by
    obtain ⟨d, rfl⟩ : ∃ d, j = d + i := ⟨j - i, by omega⟩
    have h1 := hw (d + i)
    rw [walk_add] at h1
    obtain ⟨x, hx, hx2⟩ := Option.bind_eq_some_iff.mp h1
    have h2 := hw i
    rw [e] at h2
    have := P.walk_inj h2 hx2
    subst this
    exact hno ⟨d, by omega, by omega, hx⟩
  have nd : ((List.range (n + 1)).map w).Nodup := by
    refine List.pairwise_map.mpr (List.Pairwise.imp_of_mem (fun {a b} ha hb hab => ?_) List.pairwise_lt_range)
    exact key a b hab (List.mem_range.mp hb)
  have := nodup_le nd (n := n) fun x hx => by
    obtain ⟨k, _, rfl⟩ := List.mem_map.mp hx
    exact P.walk_lt h (hw k)
  rw [List.length_map, List.length_range] at this
  omega
theorem Perm1.orbit (P : Perm1 n s) {p : Nat} (h : ∃ z, s p = some z) : OrbitOf s p (orbL s p) ∧ (orbL s p).length ≤ n := by
  have hx : ∃ k, (0 < k ∧ walk s k p = some p) ∧ (∀ j, j < k → ¬ (0 < j ∧ walk s j p = some p)) ∧ k ≤ n := by
    obtain ⟨k0, hk0, hp0⟩ := P.period h
    induction k0 using Nat.strongRecOn with
    | _ k ih =>
      by_cases hx : ∃ j, j < k ∧ (0 < j ∧ walk s j p = some p)
      · obtain ⟨j, hj, hpj⟩ := hx
        exact ih j hj (by omega) hpj
      · exact ⟨k, hp0, fun j hj hpj => hx ⟨j, hj, hpj⟩, by omega⟩
  obtain ⟨k, ⟨hk, hb⟩, hl, hkn⟩ := hx
  obtain ⟨w, hw⟩ : ∃ w : Nat → Nat, ∀ k, walk s k p = some (w k) := ⟨fun k => (P.def h k).choose, fun k => (P.def h k).choose_spec.1⟩
  have ho : OrbitOf s p ((List.range k).map w) := by
    refine ⟨by simpa using hk, fun i x hi => ?_, by rw [List.length_map, List.length_range]; exact hb, fun i hi hil e => ?_⟩
    · rw [List.getElem?_map] at hi
      obtain ⟨j, hj, rfl⟩ := Option.map_eq_some_iff.mp hi
      have hjl := (List.getElem?_eq_some_iff.mp hj).1
      rw [List.length_range] at hjl
      rw [List.getElem?_range hjl] at hj
      cases hj
      exact hw i
    · rw [List.length_map, List.length_range] at hil
      exact hl i hil ⟨hi, e⟩
  rw [orb_of ho]
  exact ⟨ho, by simpa using hkn⟩
open Classical in
/-- the rings told: of more than two, from the least one on -/
noncomputable def oddR (s : Nat → Option Nat) (n : Nat) : List (List Nat) := ((List.range n).filter fun p => decide ((∃ z, s p = some z) ∧ 2 < (orbL s p).length ∧ ∀ x ∈ orbL s p, p ≤ x)).map (orbL s)
end
end Bk
set_option Elab.async false
set_option linter.all false
namespace Bk
open PySem PySem.Spec PyProof.Rows L2 LamX
/-! ### any value as a pairing -/
def mateAt (xs : List V) (i : Nat) : V := xs.getD i .non
theorem mateAt_of {xs : List V} {i : Nat} {x : V} (h : xs[i]? = some x) : mateAt xs i = x := by simp [mateAt, List.getD_eq_getElem?_getD, h]
theorem mateAt_at {xs : List V} {i : Nat} (h : i < xs.length) : xs[i]? = some (mateAt xs i) := by simp [mateAt, List.getD_eq_getElem?_getD, h]
theorem mateAt_mem {xs : List V} {i : Nat} (h : i < xs.length) : mateAt xs i ∈ xs := List.mem_of_getElem? (mateAt_at h)
theorem mateAt_ov (m : List (Option Nat)) (i : Nat) : mateAt (m.map ov) i = ov (mO m i) := by
  by_cases h : i < m.length
  · exact mateAt_of (by rw [List.getElem?_map, mO_at h]; rfl)
  · rw [mO_out (by omega)]
    simp [mateAt, List.getD_eq_getElem?_getD, List.getElem?_eq_none (show m.length ≤ i by omega)]
    rfl
/-- whether it is wrong for p -/
def wrongB (R : Nat → List Nat) (xs : List V) (p : Nat) : Bool := match mateAt xs p with
  | .non => false
  | .int k => if 0 ≤ k ∧ k.toNat ∈ R p then (match mateAt xs k.toNat with | .int b => !decide (b = (p : Int)) | _ => true) else true
  | _ => true
theorem inV_int (r : List Nat) (k : Int) : inV (.int k) (r.map nv) = decide (0 ≤ k ∧ k.toNat ∈ r) := by
  by_cases h : 0 ≤ k
  · obtain ⟨j, rfl⟩ := Int.eq_ofNat_of_zero_le h
    rw [show V.int (j : Int) = nv j from rfl, inV_nv]
    simp
  · rw [decide_eq_false (fun z => h z.1)]
    unfold inV
    rw [List.any_map, List.any_eq_false]
    intro y _ e
    have : decide ((y : Int) = k) = true := e
    have := of_decide_eq_true this
    omega
theorem right_of {R : Nat → List Nat} {m : List (Option Nat)} (pk : PairOk R (mO m)) (p : Nat) : wrongB R (m.map ov) p = false := by
  unfold wrongB
  rw [mateAt_ov]
  cases h : mO m p with
  | none => rfl
  | some j =>
    have h1 : j ∈ R p := pk.on p j h
    have h2 : mO m j = some p := pk.mu p j h
    show (if 0 ≤ (j : Int) ∧ (j : Int).toNat ∈ R p then (match mateAt (m.map ov) (j : Int).toNat with | .int b => !decide (b = (p : Int)) | _ => true) else true) = false
    rw [if_pos ⟨by omega, h1⟩, show (j : Int).toNat = j from rfl, mateAt_ov, h2]
    show (!decide ((p : Int) = (p : Int))) = false
    simp
end Bk
set_option Elab.async false
set_option linter.all false
namespace Bk
open PySem PySem.Spec PyProof.Rows L2 LamX
theorem mO_set {m : List (Option Nat)} {i k : Nat} {x : Option Nat} (h : i < m.length) : mO (m.set i x) k = if k = i then x else mO m k := by
  simp only [mO, List.getD_eq_getElem?_getD]
  by_cases e : k = i
  · subst e
    rw [List.getElem?_set_self h, if_pos rfl]
    rfl
  · rw [List.getElem?_set_ne (Ne.symm e), if_neg e]
/-- two who are free and name one another are made mates -/
theorem pair_add {R : Nat → List Nat} {m : List (Option Nat)} (L : Lists R) (pk : PairOk R (mO m)) {i j : Nat} (hi : i < m.length) (hj : j < m.length) (fi : mO m i = none) (fj : mO m j = none) (h : j ∈ R i) :
    PairOk R (mO ((m.set i (some j)).set j (some i))) := by
  have ne : i ≠ j := fun z => L.ir i (by rw [← z] at h; exact h)
  have e : ∀ k, mO ((m.set i (some j)).set j (some i)) k = if k = j then some i else if k = i then some j else mO m k := fun k => by
    rw [mO_set (by rw [List.length_set]; exact hj), mO_set hi]
  refine ⟨fun p q hq => ?_, fun p q hq => ?_⟩
  · rw [e] at hq
    by_cases h1 : p = j
    · rw [if_pos h1] at hq
      cases hq
      rw [h1]
      exact L.mu _ _ h
    · rw [if_neg h1] at hq
      by_cases h2 : p = i
      · rw [if_pos h2] at hq
        cases hq
        rw [h2]
        exact h
      · rw [if_neg h2] at hq
        exact pk.on p q hq
  · rw [e] at hq ⊢
    by_cases h1 : p = j
    · rw [if_pos h1] at hq
      cases hq
      rw [if_neg ne, if_pos rfl, h1]
    · rw [if_neg h1] at hq
      by_cases h2 : p = i
      · rw [if_pos h2] at hq
        cases hq
        rw [if_pos rfl, h2]
      · rw [if_neg h2] at hq
        have hb := pk.mu p q hq
        rw [if_neg (fun z => by rw [z, fj] at hb; cases hb), if_neg (fun z => by rw [z, fi] at hb; cases hb)]
        exact hb
theorem f1 {p : Nat → Bool} {y : Nat} (h : p y = true) : [y].filter p = [y] := by simp [List.filter_cons, h]
theorem f0 {p : Nat → Bool} {y : Nat} (h : p y = false) : [y].filter p = [] := by simp [List.filter_cons, h]
theorem ov_set (m : List (Option Nat)) (i j : Nat) : (m.map ov).set i (nv j) = (m.set i (some j)).map ov := by
  rw [List.map_set]
  rfl
theorem pairs_cat {H : Hp} {a b p : Addr} {ps qs : List (Nat × Nat)} {xs ys : List V} (ha : PairsAt H a ps) (hb : PairsAt H b qs) (hp : H p = none) (h1 : H a = some (.lst xs)) (h2 : H b = some (.lst ys)) : PairsAt (upd H p (.lst (xs ++ ys))) p (ps ++ qs) := by
  obtain ⟨as, e1, l1, g1⟩ := ha.ex
  obtain ⟨bs, e2, l2, g2⟩ := hb.ex
  rw [e1] at h1; cases h1
  rw [e2] at h2; cases h2
  refine ⟨as ++ bs, by rw [upd_same, List.map_append], by simp [l1, l2], fun i c q z1 z2 => ?_⟩
  have : H c = some (.tup [nv q.1, nv q.2]) := by
    by_cases hi : i < as.length
    · rw [List.getElem?_append_left hi] at z1
      rw [List.getElem?_append_left (by omega)] at z2
      exact g1 i c q z1 z2
    · rw [List.getElem?_append_right (by omega)] at z1 z2
      rw [← l1] at z2
      exact g2 _ c q z1 z2
  rw [upd_ne (ne_of_none this hp)]
  exact this
end Bk
set_option Elab.async false
set_option linter.all false
namespace Bk
open PySem PySem.Spec PyProof.Rows L2 LamX
theorem mateAt_set {xs : List V} {p k : Nat} {x : V} (h : p < xs.length) : mateAt (xs.set p x) k = if k = p then x else mateAt xs k := by
  simp only [mateAt, List.getD_eq_getElem?_getD]
  by_cases e : k = p
  · subst e
    rw [List.getElem?_set_self h, if_pos rfl]
    rfl
  · rw [List.getElem?_set_ne (Ne.symm e), if_neg e]
/-- a pairing with one thing wrong at p -/
theorem wrong_set {R : Nat → List Nat} {m : List (Option Nat)} (L : Lists R) (pk : PairOk R (mO m)) {p : Nat} {x : V} (hp : p < m.length) (hx : x ≠ .non) (hb : ∀ k, x = .int k → ¬ (0 ≤ k ∧ k.toNat ∈ R p)) :
    wrongB R ((m.map ov).set p x) p = true ∧ (∀ j, mO m p = some j → wrongB R ((m.map ov).set p x) j = true) ∧ ∀ i, i ≠ p → mO m p ≠ some i → wrongB R ((m.map ov).set p x) i = false := by
  have at_ : ∀ k, mateAt ((m.map ov).set p x) k = if k = p then x else ov (mO m k) := fun k => by
    rw [mateAt_set (by rw [List.length_map]; exact hp), mateAt_ov]
  refine ⟨?_, fun j hj => ?_, fun i hi hne => ?_⟩
  · unfold wrongB
    rw [at_ p, if_pos rfl]
    cases x with
    | non => exact absurd rfl hx
    | int k =>
      show (if 0 ≤ k ∧ k.toNat ∈ R p then _ else true) = true
      rw [if_neg (hb k rfl)]
    | _ => rfl
  · have hjp : j ∈ R p := pk.on p j hj
    have ne : j ≠ p := fun z => L.ir p (by rw [z] at hjp; exact hjp)
    have hback := pk.mu p j hj
    unfold wrongB
    rw [at_ j, if_neg ne, hback]
    show (if 0 ≤ (p : Int) ∧ (p : Int).toNat ∈ R j then (match mateAt ((m.map ov).set p x) (p : Int).toNat with | .int b => !decide (b = (j : Int)) | _ => true) else true) = true
    rw [if_pos ⟨by omega, L.mu _ _ hjp⟩, show (p : Int).toNat = p from rfl, at_ p, if_pos rfl]
    cases x with
    | int k =>
      show (!decide (k = (j : Int))) = true
      rw [decide_eq_false (fun z => hb k rfl ⟨by omega, by rw [z]; exact hjp⟩)]
      rfl
    | _ => rfl
  · unfold wrongB
    rw [at_ i, if_neg hi]
    cases hq : mO m i with
    | none => rfl
    | some q =>
      have h1 := pk.on i q hq
      have h2 := pk.mu i q hq
      have nq : q ≠ p := fun z => hne (by rw [← z]; exact h2)
      show (if 0 ≤ (q : Int) ∧ (q : Int).toNat ∈ R i then (match mateAt ((m.map ov).set p x) (q : Int).toNat with | .int b => !decide (b = (i : Int)) | _ => true) else true) = false
      rw [if_pos ⟨by omega, h1⟩, show (q : Int).toNat = q from rfl, at_ q, if_neg nq, h2]
      show (!decide ((i : Int) = (i : Int))) = false
      simp
end Bk
set_option Elab.async false
set_option linter.all false
/-! Any value as a half pairing: at whom it is wrong. -/
namespace Bk
open PySem PySem.Spec PyProof.Rows L2
theorem ov_inj' {a b : Option Nat} (h : ov a = ov b) : a = b := by
  cases a with
  | none => cases b with
    | none => rfl
    | some y => cases h
  | some x => cases b with
    | none => cases h
    | some y =>
      have h : V.int (x : Int) = V.int (y : Int) := h
      have := V.int.inj h
      rw [show x = y by omega]
theorem map_ov_inj : ∀ {m m' : List (Option Nat)}, m.map ov = m'.map ov → m = m'
  | [], [], _ => rfl
  | [], b :: m', h => by simp at h
  | a :: m, [], h => by simp at h
  | a :: m, b :: m', h => by
    rw [List.map_cons, List.map_cons] at h
    obtain ⟨h1, h2⟩ := List.cons.inj h
    rw [ov_inj' h1, map_ov_inj h2]
theorem least_of {P : Nat → Prop} {n : Nat} (h : ∃ i, i < n ∧ P i) : ∃ i, i < n ∧ P i ∧ ∀ j, j < i → ¬ P j := by
  obtain ⟨i, hi, hp⟩ := h
  induction i using Nat.strongRecOn with
  | _ i ih =>
    by_cases hx : ∃ j, j < i ∧ P j
    · obtain ⟨j, hj, hpj⟩ := hx
      exact ih j hj (by omega) hpj
    · exact ⟨i, hi, hp, fun j hj hpj => hx ⟨j, hj, hpj⟩⟩
/-- whether the entry at p is none that may follow -/
def hb1 (R : Nat → List Nat) (xs : List V) (p : Nat) : Bool := match mateAt xs p with
  | .non => false
  | .int k => !(decide (0 ≤ k ∧ k.toNat ∈ R p) && decide (∀ j, j < p → mateAt xs j ≠ .int k))
  | _ => true
structure PreHalf (n : Nat) (R : Nat → List Nat) (m : List (Option Nat)) : Prop where
  len : m.length = n
  on : ∀ i y, mO m i = some y → y ∈ R i
  inj : ∀ i j y, mO m i = some y → mO m j = some y → i = j
def Mis (m : List (Option Nat)) (i : Nat) : Prop := ¬ ((∃ z, mO m i = some z) ↔ ∃ j, mO m j = some i)
section
variable {n : Nat} {R : Nat → List Nat} {xs : List V}
theorem pre_hb {m : List (Option Nat)} (h : PreHalf n R m) (p : Nat) : hb1 R (m.map ov) p = false := by
  unfold hb1
  rw [mateAt_ov]
  cases hc : mO m p with
  | none => rfl
  | some y =>
    show (!(decide (0 ≤ (y : Int) ∧ (y : Int).toNat ∈ R p) && decide (∀ j, j < p → mateAt (m.map ov) j ≠ V.int (y : Int)))) = false
    rw [decide_eq_true ⟨by omega, h.on _ _ hc⟩, decide_eq_true]
    · rfl
    · intro j hj e
      rw [mateAt_ov] at e
      have := ov_inj' (a := mO m j) (b := some y) e
      have := h.inj _ _ _ this hc
      omega
theorem hb_int {k : Int} {p : Nat} (e : mateAt xs p = .int k) (h : hb1 R xs p = false) : 0 ≤ k ∧ k.toNat ∈ R p ∧ ∀ j, j < p → mateAt xs j ≠ .int k := by
  unfold hb1 at h
  rw [e] at h
  have h : (!(decide (0 ≤ k ∧ k.toNat ∈ R p) && decide (∀ j, j < p → mateAt xs j ≠ V.int k))) = false := h
  rw [Bool.not_eq_false', Bool.and_eq_true, decide_eq_true_iff, decide_eq_true_iff] at h
  exact ⟨h.1.1, h.1.2, h.2⟩
theorem hb_kind {p : Nat} (h : hb1 R xs p = false) : mateAt xs p = .non ∨ ∃ k : Nat, mateAt xs p = nv k ∧ k ∈ R p ∧ ∀ j, j < p → mateAt xs j ≠ nv k := by
  cases hc : mateAt xs p with
  | non => exact .inl rfl
  | int k =>
    obtain ⟨h1, h2, h3⟩ := hb_int hc h
    obtain ⟨j, rfl⟩ := Int.eq_ofNat_of_zero_le h1
    exact .inr ⟨j, rfl, h2, h3⟩
  | _ =>
    unfold hb1 at h
    rw [hc] at h
    cases h
/-- numbers alone -/
def toM (xs : List V) : List (Option Nat) := xs.map fun x => match x with
  | .int k => some k.toNat
  | _ => none
theorem toM_at (xs : List V) (p : Nat) : mO (toM xs) p = match mateAt xs p with
    | .int k => some k.toNat
    | _ => none := by
  unfold toM mO mateAt
  rw [List.getD_eq_getElem?_getD, List.getD_eq_getElem?_getD, List.getElem?_map]
  cases xs[p]? <;> rfl
theorem pre_of (hl : xs.length = n) (h : ∀ p, p < n → hb1 R xs p = false) : xs = (toM xs).map ov ∧ PreHalf n R (toM xs) := by
  have key : ∀ p, p < n → mateAt xs p = ov (mO (toM xs) p) := fun p hp => by
    rw [toM_at]
    rcases hb_kind (h p hp) with e | ⟨k, e, _⟩
    · rw [e]; rfl
    · rw [e]; rfl
  have ltn : ∀ p y, mO (toM xs) p = some y → p < n := fun p y e => by
    have := mO_lt e
    unfold toM at this
    rw [List.length_map] at this
    omega
  refine ⟨List.ext_getElem? fun p => ?_, by unfold toM; rw [List.length_map, hl], fun p y e => ?_, fun p q y e1 e2 => ?_⟩
  · by_cases hp : p < n
    · have := key p hp
      rw [← mateAt_ov] at this
      rw [mateAt_at (by omega), mateAt_at (by unfold toM; rw [List.length_map, List.length_map]; omega), this]
    · rw [List.getElem?_eq_none (by omega), List.getElem?_eq_none (by unfold toM; rw [List.length_map, List.length_map]; omega)]
  · have hp := ltn _ _ e
    have k1 := key p hp
    rw [e] at k1
    have := hb_int (k := (y : Int)) k1 (h p hp)
    exact this.2.1
  · have hp := ltn _ _ e1
    have hq := ltn _ _ e2
    have k1 := key p hp
    have k2 := key q hq
    rw [e1] at k1
    rw [e2] at k2
    rcases Nat.lt_trichotomy p q with z | z | z
    · exact absurd k1 ((hb_int (k := (y : Int)) k2 (h q hq)).2.2 p z)
    · exact z
    · exact absurd k2 ((hb_int (k := (y : Int)) k1 (h p hp)).2.2 q z)
/-- at whom it is wrong -/
inductive HW (n : Nat) (R : Nat → List Nat) (xs : List V) : Option Nat → Prop
  | one (i : Nat) : i < n → hb1 R xs i = true → (∀ j, j < i → hb1 R xs j = false) → HW n R xs (some i)
  | two (m : List (Option Nat)) (i : Nat) : xs = m.map ov → PreHalf n R m → i < n → Mis m i → (∀ j, j < i → ¬ Mis m j) → HW n R xs (some i)
  | ok (m : List (Option Nat)) : xs = m.map ov → IsHalf n R m → HW n R xs none
theorem IsHalf.pre {m : List (Option Nat)} (h : IsHalf n R m) : PreHalf n R m := ⟨h.len, h.on, h.inj⟩
theorem half_mis {m : List (Option Nat)} (h : IsHalf n R m) (i : Nat) : ¬ Mis m i := fun z => z (h.both i).symm
theorem half_of_pre {m : List (Option Nat)} (h : PreHalf n R m) (lt : ∀ i x, x ∈ R i → i < n ∧ x < n) (hm : ∀ i, i < n → ¬ Mis m i) : IsHalf n R m := by
  refine ⟨h.len, h.on, h.inj, fun y => ?_⟩
  by_cases hy : y < n
  · have := hm y hy
    unfold Mis at this
    exact (Classical.not_not.mp this).symm
  · refine ⟨fun ⟨i, e⟩ => absurd (lt _ _ (h.on _ _ e)).2 hy, fun ⟨z, e⟩ => absurd (lt _ _ (h.on _ _ e)).1 hy⟩
theorem hw_total (hl : xs.length = n) (lt : ∀ i x, x ∈ R i → i < n ∧ x < n) : ∃ o, HW n R xs o := by
  by_cases h : ∃ i, i < n ∧ hb1 R xs i = true
  · obtain ⟨i, h1, h2, h3⟩ := least_of h
    exact ⟨_, .one i h1 h2 fun j hj => by simpa using h3 j hj⟩
  · obtain ⟨e, pre⟩ := pre_of (R := R) hl fun p hp => by
      cases hc : hb1 R xs p with
      | false => rfl
      | true => exact absurd ⟨p, hp, hc⟩ h
    by_cases h2 : ∃ i, i < n ∧ Mis (toM xs) i
    · obtain ⟨i, h1, h2, h3⟩ := least_of h2
      exact ⟨_, .two _ i e pre h1 h2 h3⟩
    · exact ⟨_, .ok _ e (half_of_pre pre lt fun i hi hm => h2 ⟨i, hi, hm⟩)⟩
theorem hw_one {o : Option Nat} {i : Nat} (w : HW n R xs o) (hi : i < n) (h : hb1 R xs i = true) (hl : ∀ j, j < i → hb1 R xs j = false) : o = some i := by
  cases w with
  | one j h1 h2 h3 =>
    rcases Nat.lt_trichotomy i j with z | z | z
    · rw [h3 i z] at h; cases h
    · rw [z]
    · rw [hl j z] at h2; cases h2
  | two m j e pre h1 h2 h3 =>
    subst e
    rw [pre_hb pre] at h; cases h
  | ok m e hf =>
    subst e
    rw [pre_hb hf.pre] at h; cases h
theorem hw_two {o : Option Nat} {m : List (Option Nat)} {i : Nat} (w : HW n R (m.map ov) o) (pre : PreHalf n R m) (hi : i < n) (h : Mis m i) (hl : ∀ j, j < i → ¬ Mis m j) : o = some i := by
  generalize he : m.map ov = xs at w
  cases w with
  | one j h1 h2 h3 =>
    subst he
    rw [pre_hb pre] at h2; cases h2
  | two m' j e pre' h1 h2 h3 =>
    rw [← he] at e
    have := map_ov_inj e
    subst this
    rcases Nat.lt_trichotomy i j with z | z | z
    · exact absurd h (h3 i z)
    · rw [z]
    · exact absurd h2 (hl j z)
  | ok m' e hf =>
    rw [← he] at e
    have := map_ov_inj e
    subst this
    exact absurd h (half_mis hf i)
theorem hw_ok {o : Option Nat} {m : List (Option Nat)} (w : HW n R (m.map ov) o) (pre : PreHalf n R m) (hm : ∀ i, i < n → ¬ Mis m i) : o = none := by
  generalize he : m.map ov = xs at w
  cases w with
  | one j h1 h2 h3 =>
    subst he
    rw [pre_hb pre] at h2; cases h2
  | two m' j e pre' h1 h2 h3 =>
    rw [← he] at e
    have := map_ov_inj e
    subst this
    exact absurd h2 (hm j h1)
  | ok m' e hf => rfl
theorem hw_half {m : List (Option Nat)} (h : HW n R (m.map ov) none) : IsHalf n R m := by
  generalize he : m.map ov = xs at h
  cases h with
  | ok m' e hf =>
    rw [← he] at e
    rw [map_ov_inj e]
    exact hf
/-- how many follow somebody -/
def cntS (m : List (Option Nat)) : Nat := m.countP Option.isSome
theorem cnt_set {m : List (Option Nat)} {i y : Nat} (h : mO m i = some y) : cntS (m.set i none) < cntS m := by
  have hi := mO_lt h
  have hat := mO_at hi
  unfold cntS
  rw [List.set_eq_take_append_cons_drop, if_pos hi, List.countP_append, List.countP_cons]
  have e : m = m.take i ++ mO m i :: m.drop (i + 1) := by
    have := List.take_append_drop i m
    have e2 := List.drop_eq_getElem_cons hi
    have e3 : m[i] = mO m i := by
      have := List.getElem?_eq_getElem hi
      rw [hat] at this
      exact (Option.some.inj this).symm
    rw [e3] at e2
    rw [← e2, this]
  conv => rhs; rw [e, List.countP_append, List.countP_cons, h]
  simp
theorem pre_set {m : List (Option Nat)} (h : PreHalf n R m) (i : Nat) : PreHalf n R (m.set i none) := by
  by_cases hi : i < m.length
  · have e : ∀ k y, mO (m.set i none) k = some y → mO m k = some y := fun k y he => by
      rw [mO_set hi] at he
      by_cases z : k = i
      · rw [if_pos z] at he; cases he
      · rwa [if_neg z] at he
    exact ⟨by rw [List.length_set, h.len], fun k y he => h.on _ _ (e _ _ he), fun k j y h1 h2 => h.inj _ _ _ (e _ _ h1) (e _ _ h2)⟩
  · rw [List.set_eq_of_length_le (by omega)]
    exact h
theorem pre_add {m : List (Option Nat)} (h : PreHalf n R m) {i y : Nat} (hi : i < n) (hy : y ∈ R i) (hf : ∀ j, mO m j ≠ some y) : PreHalf n R (m.set i (some y)) := by
  have hl := h.len
  refine ⟨by rw [List.length_set, h.len], fun k z he => ?_, fun k j z h1 h2 => ?_⟩
  · rw [mO_set (by omega)] at he
    by_cases e : k = i
    · rw [if_pos e] at he
      cases he
      rw [e]; exact hy
    · rw [if_neg e] at he
      exact h.on _ _ he
  · rw [mO_set (by omega)] at h1 h2
    by_cases e1 : k = i <;> by_cases e2 : j = i
    · rw [e1, e2]
    · rw [if_pos e1] at h1
      rw [if_neg e2] at h2
      cases h1
      exact absurd h2 (hf j)
    · rw [if_neg e1] at h1
      rw [if_pos e2] at h2
      cases h2
      exact absurd h1 (hf k)
    · rw [if_neg e1] at h1
      rw [if_neg e2] at h2
      exact h.inj _ _ _ h1 h2
end
end Bk
set_option Elab.async false
set_option linter.all false
/-! Two last tables of the same lists tell the same. -/
namespace Bk
section
variable {n : Nat} {R T T' : Nat → List Nat}
theorem last_alone (L : Lists R) (lt : ∀ i x, x ∈ R i → i < n ∧ x < n) (l : Last R T) (l' : Last R T') (p : Nat) : hd T p = none ↔ hd T' p = none := by
  have hn : ∀ i x, x ∈ R i → i < n := fun i x h => (lt i x h).1
  have a := last_steady L hn l
  have b := last_steady L hn l'
  exact ⟨alone_same L hn a b, alone_same L hn b a⟩
theorem hd_some {x : Nat} (h : T x ≠ []) : ∃ z, hd T x = some z := by
  cases hc : T x with
  | nil => exact absurd hc h
  | cons b r => exact ⟨b, by unfold hd; rw [hc]; rfl⟩
/-- in a last table a ring of more than two is odd -/
theorem last_orb (L : Lists R) (lt : ∀ i x, x ∈ R i → i < n ∧ x < n) (l : Last R T) {p : Nat} (hp : ∃ z, hd T p = some z) :
    (2 ≤ (T p).length → ∃ ps, OddRing T ps ∧ p ∈ ps ∧ (orbL (hd T) p).length = ps.length) ∧ ((T p).length ≤ 1 → (orbL (hd T) p).length ≤ 2) := by
  have hn : ∀ i x, x ∈ R i → i < n := fun i x h => (lt i x h).1
  have hT : ∀ i x, x ∈ T i → i < n := fun i x h => hn i x ((l.dn.tab.sub i).subset h)
  have P := (last_isHalf L lt l).perm lt
  rw [mO_halfL hT] at P
  obtain ⟨O, _⟩ := P.orbit hp
  refine ⟨fun h2 => ?_, fun h1 => ?_⟩
  · obtain ⟨ps, o, hm⟩ := l.odd p h2
    refine ⟨ps, o, hm, ?_⟩
    obtain ⟨i, _, rfl⟩ := mem_At hm
    have h1 := (odd_turn o (t := (orbL (hd T) (At ps i)).length) (i := i)).mp O.back
    have hle := Nat.le_of_dvd O.pos h1
    rcases Nat.lt_or_eq_of_le hle with z | z
    · exact absurd ((odd_turn o (t := ps.length) (i := i)).mpr (Nat.dvd_refl _)) (O.fst _ o.ring.pos z)
    · exact z.symm
  · obtain ⟨q, hq⟩ := hp
    have hTp : T p = [q] := by
      cases hc : T p with
      | nil => unfold hd at hq; rw [hc] at hq; cases hq
      | cons b r =>
        unfold hd at hq
        rw [hc] at hq h1
        cases hq
        cases r with
        | nil => rfl
        | cons _ _ => simp at h1
    have hqm : p ∈ T q := l.dn.tab.mu _ _ (by rw [hTp]; simp)
    have hTq : T q = [p] := by
      by_cases h2 : 2 ≤ (T q).length
      · obtain ⟨ps, o, hm⟩ := l.odd q h2
        have := o.len (odd_rows o hm hqm)
        omega
      · cases hc : T q with
        | nil => rw [hc] at hqm; cases hqm
        | cons b r =>
          rw [hc] at h2 hqm
          cases r with
          | nil =>
            have : p = b := by simpa using hqm
            rw [this]
          | cons _ _ => simp at h2
    apply Classical.byContradiction
    intro hne
    refine O.fst 2 (by omega) (by omega) ?_
    have e1 : walk (hd T) 1 p = some q := hq
    rw [walk_succ, e1]
    show hd T q = some p
    unfold hd
    rw [hTq]
    rfl
theorem last_odd (L : Lists R) (lt : ∀ i x, x ∈ R i → i < n ∧ x < n) (l : Last R T) {p : Nat} (hp : ∃ z, hd T p = some z) (h2 : 2 < (orbL (hd T) p).length) : (orbL (hd T) p).length % 2 = 1 := by
  obtain ⟨h3, h4⟩ := last_orb L lt l hp
  by_cases h : 2 ≤ (T p).length
  · obtain ⟨ps, o, _, e⟩ := h3 h
    rw [e]
    exact o.odd
  · have := h4 (by omega)
    omega
theorem last_same (L : Lists R) (lt : ∀ i x, x ∈ R i → i < n ∧ x < n) (l : Last R T) (l' : Last R T') {p : Nat} (hp : ∃ z, hd T p = some z) (h2 : 2 < (orbL (hd T) p).length) : orbL (hd T') p = orbL (hd T) p := by
  have hn : ∀ i x, x ∈ R i → i < n := fun i x h => (lt i x h).1
  have hT : ∀ i x, x ∈ T i → i < n := fun i x h => hn i x ((l.dn.tab.sub i).subset h)
  have P := (last_isHalf L lt l).perm lt
  rw [mO_halfL hT] at P
  obtain ⟨O, _⟩ := P.orbit hp
  have ow := odd_walk L hn (last_steady L hn l) (last_steady L hn l') (last_odd L lt l hp h2) O.back
  have all : ∀ k, walk (hd T') k p = walk (hd T) k p := fun k => by
    obtain ⟨x, hx, _⟩ := P.def hp k
    rw [hx]
    exact (ow k x hx).1
  refine orb_of ⟨O.pos, fun i x hi => by rw [all]; exact O.at_ i x hi, by rw [all]; exact O.back, fun i h1 h2 => by rw [all]; exact O.fst i h1 h2⟩
open Classical in
theorem last_oddR (L : Lists R) (lt : ∀ i x, x ∈ R i → i < n ∧ x < n) (l : Last R T) (l' : Last R T') (k : Nat) : oddR (hd T) k = oddR (hd T') k := by
  have al : ∀ p, (∃ z, hd T p = some z) ↔ ∃ z, hd T' p = some z := fun p => by
    have := last_alone L lt l l' p
    cases h : hd T p with
    | none => rw [this.mp h]
    | some z =>
      cases h' : hd T' p with
      | none => rw [this.mpr h'] at h; cases h
      | some z' => exact ⟨fun _ => ⟨z', rfl⟩, fun _ => ⟨z, rfl⟩⟩
  have key : ∀ p, ((∃ z, hd T p = some z) ∧ 2 < (orbL (hd T) p).length ∧ ∀ x ∈ orbL (hd T) p, p ≤ x) ↔ ((∃ z, hd T' p = some z) ∧ 2 < (orbL (hd T') p).length ∧ ∀ x ∈ orbL (hd T') p, p ≤ x) := fun p => by
    constructor
    · rintro ⟨h1, h2, h3⟩
      rw [last_same L lt l l' h1 h2]
      exact ⟨(al p).mp h1, h2, h3⟩
    · rintro ⟨h1, h2, h3⟩
      rw [last_same L lt l' l h1 h2]
      exact ⟨(al p).mpr h1, h2, h3⟩
  unfold oddR
  rw [List.filter_congr fun p _ => decide_eq_decide.mpr (key p)]
  refine List.map_congr_left fun p hp => ?_
  rw [List.mem_filter] at hp
  obtain ⟨h1, h2, _⟩ := of_decide_eq_true hp.2
  exact last_same L lt l' l h1 h2
open Classical in
theorem last_few (L : Lists R) (lt : ∀ i x, x ∈ R i → i < n ∧ x < n) (l : Last R T) : oddR (hd T) n = [] ↔ ∀ x, (T x).length ≤ 1 := by
  have hn : ∀ i x, x ∈ R i → i < n := fun i x h => (lt i x h).1
  have hT : ∀ i x, x ∈ T i → i < n := fun i x h => hn i x ((l.dn.tab.sub i).subset h)
  have P := (last_isHalf L lt l).perm lt
  rw [mO_halfL hT] at P
  constructor
  · intro h x
    apply Classical.byContradiction
    intro hx
    obtain ⟨ps, o, hm⟩ := l.odd x (by omega)
    -- the least one of the ring
    obtain ⟨m, hm1, hm2⟩ : ∃ m, m ∈ ps ∧ ∀ y ∈ ps, m ≤ y := by
      have : ∃ i, i < n + 1 ∧ i ∈ ps := ⟨x, by
        have : T x ≠ [] := fun z => by rw [z] at hx; simp at hx
        obtain ⟨b, hb⟩ := hd_some this
        have := hT x b (head_mem hb)
        omega, hm⟩
      obtain ⟨i, h1, h2, h3⟩ := least_of this
      exact ⟨i, h2, fun y hy => Nat.le_of_not_lt fun z => h3 y z hy⟩
    have hlen : (T m).length = 2 := o.len hm1
    have hne : T m ≠ [] := fun z => by rw [z] at hlen; simp at hlen
    have hp := hd_some hne
    obtain ⟨ps', o', hm', el⟩ := (last_orb L lt l hp).1 (by omega)
    obtain ⟨O, _⟩ := P.orbit hp
    have hmn : m < n := by
      obtain ⟨b, hb⟩ := hp
      exact hT m b (head_mem hb)
    have hin : ∀ y ∈ orbL (hd T) m, y ∈ ps := fun y hy => by
      obtain ⟨i, hi⟩ := List.mem_iff_getElem?.mp hy
      have hw := O.at_ i y hi
      have all : ∀ k y, walk (hd T) k m = some y → y ∈ ps := fun k => by
        induction k with
        | zero => intro y h; have h : some m = some y := h; cases h; exact hm1
        | succ k ih =>
          intro y h
          rw [walk_succ] at h
          obtain ⟨a, ha, hb⟩ := Option.bind_eq_some_iff.mp h
          exact odd_rows o (ih a ha) (head_mem hb)
      exact all i y hw
    have : orbL (hd T) m ∈ oddR (hd T) n := by
      unfold oddR
      refine List.mem_map.mpr ⟨m, List.mem_filter.mpr ⟨List.mem_range.mpr hmn, decide_eq_true ⟨hp, by rw [el]; have := o'.three; omega, fun y hy => hm2 y (hin y hy)⟩⟩, rfl⟩
    rw [h] at this
    cases this
  · intro h
    unfold oddR
    rw [List.map_eq_nil_iff, List.filter_eq_nil_iff]
    intro p _ hp
    obtain ⟨h1, h2, _⟩ := of_decide_eq_true hp
    have := (last_orb L lt l h1).2 (h p)
    omega
theorem good_nil (L : Lists R) (lt : ∀ i x, x ∈ R i → i < n ∧ x < n) {m : List (Option Nat)} (g : Good R (mO m)) : spL n R m n = [] := by
  rw [← spQ_spL L g.ok fun i x hx => (lt i x hx).2]
  apply List.eq_nil_iff_forall_not_mem.mpr
  rintro ⟨a, c⟩ h
  obtain ⟨_, _, h3, h4⟩ := mem_spQ.mp h
  unfold spP at h4
  simp only [Bool.and_eq_true, decide_eq_true_iff] at h4
  exact g.no a c ⟨h3, rather_iff.mp h4.2.1, rather_iff.mp h4.2.2⟩
theorem half_good (L : Lists R) (lt : ∀ i x, x ∈ R i → i < n ∧ x < n) (l : Last R T) (h : oddR (hd T) n = []) : Good R (mO (halfL n T)) := by
  have hn : ∀ i x, x ∈ R i → i < n := fun i x h => (lt i x h).1
  rw [mO_halfL fun i x h => hn i x ((l.dn.tab.sub i).subset h)]
  exact last_good L hn l ((last_few L lt l).mp h)
end
end Bk
set_option Elab.async false
set_option linter.all false
/-! The same people with other numbers. -/
namespace Bk
/-- two lists in the same strict order with the same members are the same -/
theorem pw_eq {α : Type} {r : α → α → Prop} (as : ∀ a b, r a b → ¬ r b a) : ∀ {l1 l2 : List α}, l1.Pairwise r → l2.Pairwise r → (∀ x, x ∈ l1 ↔ x ∈ l2) → l1 = l2
  | [], [], _, _, _ => rfl
  | [], y :: l2, _, _, h => absurd ((h y).mpr List.mem_cons_self) (by simp)
  | x :: l1, [], _, _, h => absurd ((h x).mp List.mem_cons_self) (by simp)
  | x :: l1, y :: l2, h1, h2, h => by
    obtain ⟨a1, b1⟩ := List.pairwise_cons.mp h1
    obtain ⟨a2, b2⟩ := List.pairwise_cons.mp h2
    have e : x = y := by
      rcases List.mem_cons.mp ((h x).mp List.mem_cons_self) with z | z
      · exact z
      · rcases List.mem_cons.mp ((h y).mpr List.mem_cons_self) with z' | z'
        · exact z'.symm
        · exact absurd (a1 y z') (as _ _ (a2 x z))
    subst e
    have n1 : x ∉ l1 := fun z => as _ _ (a1 x z) (a1 x z)
    have n2 : x ∉ l2 := fun z => as _ _ (a2 x z) (a2 x z)
    have : l1 = l2 := pw_eq as b1 b2 fun z => ⟨fun hz => by
      rcases List.mem_cons.mp ((h z).mp (List.mem_cons_of_mem _ hz)) with e | e
      · subst e; exact absurd hz n1
      · exact e, fun hz => by
      rcases List.mem_cons.mp ((h z).mpr (List.mem_cons_of_mem _ hz)) with e | e
      · subst e; exact absurd hz n2
      · exact e⟩
    rw [this]
structure Ren (n : Nat) (g h : Nat → Nat) : Prop where
  hg : ∀ x, h (g x) = x
  gh : ∀ x, g (h x) = x
  lt : ∀ x, g x < n ↔ x < n
theorem Ren.inv {n : Nat} {g h : Nat → Nat} (r : Ren n g h) : Ren n h g := ⟨r.gh, r.hg, fun x => by rw [← r.lt (h x), r.gh]⟩
theorem Ren.inj {n : Nat} {g h : Nat → Nat} (r : Ren n g h) {x y : Nat} (e : g x = g y) : x = y := by rw [← r.hg x, ← r.hg y, e]
def mv (g h : Nat → Nat) (T : Nat → List Nat) : Nat → List Nat := fun i => (T (h i)).map g
def ms (g h : Nat → Nat) (s : Nat → Option Nat) : Nat → Option Nat := fun i => (s (h i)).map g
section
variable {n : Nat} {g h : Nat → Nat} {R T : Nat → List Nat} {s f : Nat → Option Nat}
theorem mv_at (r : Ren n g h) (T : Nat → List Nat) (i : Nat) : mv g h T (g i) = (T i).map g := by unfold mv; rw [r.hg]
theorem ms_at (r : Ren n g h) (s : Nat → Option Nat) (i : Nat) : ms g h s (g i) = (s i).map g := by unfold ms; rw [r.hg]
theorem mem_map_g (r : Ren n g h) {l : List Nat} {x : Nat} : g x ∈ l.map g ↔ x ∈ l := by
  rw [List.mem_map]
  exact ⟨fun ⟨y, h1, h2⟩ => by rw [← r.inj h2]; exact h1, fun h => ⟨x, h, rfl⟩⟩
theorem mem_mv (r : Ren n g h) {i x : Nat} : g x ∈ mv g h T (g i) ↔ x ∈ T i := by rw [mv_at r, mem_map_g r]
theorem idx_map (r : Ren n g h) (x : Nat) : ∀ l : List Nat, (l.map g).idxOf (g x) = l.idxOf x
  | [] => rfl
  | a :: l => by
    by_cases e : a = x
    · subst e; simp
    · rw [idx_ne _ e, List.map_cons, idx_ne _ (fun z => e (r.inj z)), idx_map r x l]
theorem rk_mv (r : Ren n g h) (p x : Nat) : rk (mv g h R) (g p) (g x) = rk R p x := by
  show (mv g h R (g p)).idxOf (g x) = (R p).idxOf x
  rw [mv_at r, idx_map r]
theorem map_some (r : Ren n g h) {o : Option Nat} {b : Nat} : o.map g = some (g b) ↔ o = some b := by
  cases o with
  | none => simp
  | some c => exact ⟨fun e => by rw [r.inj (Option.some.inj e)], fun e => by rw [Option.some.inj e]; rfl⟩
theorem head_mv (r : Ren n g h) {i b : Nat} : (mv g h T (g i)).head? = some (g b) ↔ (T i).head? = some b := by rw [mv_at r, List.head?_map, map_some r]
theorem last_mv (r : Ren n g h) {i b : Nat} : (mv g h T (g i)).getLast? = some (g b) ↔ (T i).getLast? = some b := by rw [mv_at r, List.getLast?_map, map_some r]
theorem ms_some (r : Ren n g h) {i b : Nat} : ms g h s (g i) = some (g b) ↔ s i = some b := by rw [ms_at r, map_some r]
theorem ms_none (r : Ren n g h) {i : Nat} : ms g h s (g i) = none ↔ s i = none := by rw [ms_at r, Option.map_eq_none_iff]
/-- everybody is somebody under another number -/
theorem every (r : Ren n g h) {P : Nat → Prop} (k : ∀ x, P (g x)) (x : Nat) : P x := by have := k (h x); rwa [r.gh] at this
theorem lists_mv (r : Ren n g h) (L : Lists R) : Lists (mv g h R) where
  nd := every r fun i => by rw [mv_at r]; exact nodup_map_on (L.nd i) fun x _ y _ e => r.inj e
  mu := every r fun i => every r fun j hj => (mem_mv r).mpr (L.mu _ _ ((mem_mv r).mp hj))
  ir := every r fun i hi => L.ir _ ((mem_mv r).mp hi)
theorem mv_lt (r : Ren n g h) (lt : ∀ i x, x ∈ R i → i < n ∧ x < n) : ∀ i x, x ∈ mv g h R i → i < n ∧ x < n :=
  every r fun i => every r fun x hx => by
    obtain ⟨a, b⟩ := lt _ _ ((mem_mv r).mp hx)
    exact ⟨(r.lt _).mpr a, (r.lt _).mpr b⟩
theorem mv_inv (r : Ren n g h) (T : Nat → List Nat) : mv h g (mv g h T) = T := by
  funext i
  unfold mv
  rw [r.hg, List.map_map]
  have : h ∘ g = id := funext r.hg
  rw [this, List.map_id]
theorem done_mv (r : Ren n g h) (d : Done R T) : Done (mv g h R) (mv g h T) where
  tab := ⟨every r fun i => by rw [mv_at r, mv_at r]; exact (d.tab.sub i).map g, every r fun i => every r fun j hj => (mem_mv r).mpr (d.tab.mu _ _ ((mem_mv r).mp hj))⟩
  stop := every r fun p => every r fun b h1 h2 => by
    rcases d.stop p b ((mem_mv r).mp h1) (fun z => h2 ((mem_mv r).mpr z)) with ⟨q, e, hl⟩ | ⟨q, e, hl⟩
    · exact .inl ⟨g q, (last_mv r).mpr e, by rw [rk_mv r, rk_mv r]; exact hl⟩
    · exact .inr ⟨g q, (last_mv r).mpr e, by rw [rk_mv r, rk_mv r]; exact hl⟩
  held := every r fun p => every r fun b e => (last_mv r).mpr (d.held p b ((head_mv r).mp e))
theorem off_mv (r : Ren n g h) (o : Off R T) : Off (mv g h R) (mv g h T) where
  dn := done_mv r o.dn
  max := fun T' d => every r fun i => every r fun x hx => by
    have d' := done_mv r.inv d
    rw [mv_inv r] at d'
    refine (mem_mv r).mpr (o.max _ d' i x ?_)
    show x ∈ (T' (g i)).map h
    rw [List.mem_map]
    exact ⟨g x, hx, r.hg x⟩
theorem steady_mv (r : Ren n g h) (a : Steady R s f) : Steady (mv g h R) (ms g h s) (ms g h f) where
  half := ⟨every r fun p => every r fun q e => (mem_mv r).mpr (a.half.on _ _ ((ms_some r).mp e)), every r fun p => every r fun q => by rw [ms_some r, ms_some r]; exact a.half.link p q, every r fun p => by
    constructor
    · rintro ⟨q, hq⟩
      rw [← r.gh q, ms_some r] at hq
      obtain ⟨z, hz⟩ := (a.half.both p).mp ⟨_, hq⟩
      exact ⟨g z, (ms_some r).mpr hz⟩
    · rintro ⟨q, hq⟩
      rw [← r.gh q, ms_some r] at hq
      obtain ⟨z, hz⟩ := (a.half.both p).mpr ⟨_, hq⟩
      exact ⟨g z, (ms_some r).mpr hz⟩⟩
  fst := every r fun p => every r fun q => every r fun t e1 e2 => by
    rw [rk_mv r, rk_mv r]
    exact a.fst p q t ((ms_some r).mp e1) ((ms_some r).mp e2)
  snd := every r fun p => every r fun q hq hz => by
    obtain ⟨z, h1, h2⟩ := a.snd p q ((mem_mv r).mp hq) fun z e => by
      have := hz (g z) ((ms_some r).mpr e)
      rwa [rk_mv r, rk_mv r] at this
    exact ⟨g z, (ms_some r).mpr h1, by rw [rk_mv r, rk_mv r]; exact h2⟩
theorem walk_ms (r : Ren n g h) (p : Nat) : ∀ k, walk (ms g h s) k (g p) = (walk s k p).map g
  | 0 => rfl
  | k + 1 => by
    rw [walk_succ, walk_succ, walk_ms r p k]
    cases walk s k p with
    | none => rfl
    | some x => exact ms_at r s x
theorem orbit_ms (r : Ren n g h) {p : Nat} {l : List Nat} (O : OrbitOf s p l) : OrbitOf (ms g h s) (g p) (l.map g) := by
  refine ⟨by rw [List.length_map]; exact O.pos, fun i x hi => ?_, by rw [List.length_map, walk_ms r, O.back]; rfl, fun i h1 h2 e => ?_⟩
  · rw [List.getElem?_map] at hi
    obtain ⟨y, hy, rfl⟩ := Option.map_eq_some_iff.mp hi
    rw [walk_ms r, O.at_ i y hy]
    rfl
  · rw [List.length_map] at h2
    rw [walk_ms r, map_some r] at e
    exact O.fst i h1 h2 e
theorem orbit_per {p : Nat} {l : List Nat} (O : OrbitOf s p l) : ∀ k x, l[k % l.length]? = some x → walk s k p = some x := fun k x hx => by
  have hm : ∀ t, walk s (t * l.length) p = some p := fun t => by
    induction t with
    | zero => rw [Nat.zero_mul]; rfl
    | succ t ih => rw [Nat.succ_mul, walk_add, ih]; exact O.back
  have e : k = k / l.length * l.length + k % l.length := by
    have := Nat.div_add_mod k l.length
    rw [Nat.mul_comm] at this
    exact this.symm
  rw [e, walk_add, hm]
  exact O.at_ _ x hx
/-- the same ring from another one of its people on -/
theorem orb_rot (P : Perm1 n s) {p q i : Nat} {l : List Nat} (O : OrbitOf s p l) (hi : l[i]? = some q) : OrbitOf s q (l.drop i ++ l.take i) := by
  have hil : i < l.length := (List.getElem?_eq_some_iff.mp hi).1
  have hw := O.at_ i q hi
  have hlen : (l.drop i ++ l.take i).length = l.length := by rw [List.length_append, List.length_drop, List.length_take]; omega
  have sh : ∀ j, walk s j q = walk s (i + j) p := fun j => by rw [walk_add, hw]; rfl
  refine ⟨by rw [hlen]; exact O.pos, fun j x hj => ?_, ?_, fun j h1 h2 e => ?_⟩
  · rw [sh]
    refine orbit_per O _ x ?_
    have hjl : j < l.length := by rw [← hlen]; exact (List.getElem?_eq_some_iff.mp hj).1
    by_cases c : j < l.length - i
    · rw [List.getElem?_append_left (by rw [List.length_drop]; exact c), List.getElem?_drop] at hj
      rw [Nat.mod_eq_of_lt (by omega)]
      exact hj
    · rw [List.getElem?_append_right (by rw [List.length_drop]; omega), List.length_drop, List.getElem?_take, if_pos (by omega)] at hj
      have : (i + j) % l.length = j - (l.length - i) := by
        rw [show i + j = (j - (l.length - i)) + l.length by omega, Nat.add_mod_right, Nat.mod_eq_of_lt (by omega)]
      rw [this]
      exact hj
  · rw [hlen, sh]
    refine orbit_per O _ q ?_
    rw [Nat.add_mod_right, Nat.mod_eq_of_lt hil]
    exact hi
  · rw [hlen] at h2
    rw [sh, Nat.add_comm, walk_add] at e
    obtain ⟨x, hx, hx2⟩ := Option.bind_eq_some_iff.mp e
    have := P.walk_inj hx2 hw
    subst this
    exact O.fst j h1 h2 hx
theorem rot_mem {l : List Nat} {m x : Nat} : x ∈ rotAt l m ↔ x ∈ l := by
  unfold rotAt
  rw [List.mem_append, or_comm, ← List.mem_append, List.take_append_drop]
/-! ### two last tables, one under other numbers -/
variable {T1 T2 : Nat → List Nat}
theorem walk_all (L : Lists R) (hn : ∀ i x, x ∈ R i → i < n) {s f s' f' : Nat → Option Nat} (a : Steady R s f) (b : Steady R s' f') {p : Nat} {l : List Nat} (O : OrbitOf s p l) (ho : l.length % 2 = 1) : OrbitOf s' p l := by
  have ow := odd_walk L hn a b ho O.back
  have all : ∀ k x, walk s k p = some x → walk s' k p = some x := fun k x e => (ow k x e).1
  refine ⟨O.pos, fun i x hi => all _ _ (O.at_ i x hi), all _ _ O.back, fun i h1 h2 e => ?_⟩
  have := O.at_ i _ (List.getElem?_eq_getElem h2)
  have h3 := all _ _ this
  rw [e] at h3
  refine O.fst i h1 h2 ?_
  rw [this, ← Option.some.inj h3]
theorem moved_alone (r : Ren n g h) (L : Lists R) (lt : ∀ i x, x ∈ R i → i < n ∧ x < n) (l1 : Last R T1) (l2 : Last (mv g h R) T2) (p : Nat) : hd T2 (g p) = none ↔ hd T1 p = none := by
  have hn : ∀ i x, x ∈ R i → i < n := fun i x h => (lt i x h).1
  have hn2 : ∀ i x, x ∈ mv g h R i → i < n := fun i x h => (mv_lt r lt i x h).1
  have a := steady_mv r (last_steady L hn l1)
  have b := last_steady (lists_mv r L) hn2 l2
  exact Iff.trans ⟨alone_same (lists_mv r L) hn2 b a, alone_same (lists_mv r L) hn2 a b⟩ (ms_none r)
theorem moved_orb (r : Ren n g h) (L : Lists R) (lt : ∀ i x, x ∈ R i → i < n ∧ x < n) (l1 : Last R T1) (l2 : Last (mv g h R) T2) {p : Nat} (hp : ∃ z, hd T1 p = some z) (h2 : 2 < (orbL (hd T1) p).length ∨ 2 < (orbL (hd T2) (g p)).length) : orbL (hd T2) (g p) = (orbL (hd T1) p).map g := by
  have hn : ∀ i x, x ∈ R i → i < n := fun i x h => (lt i x h).1
  have hn2 : ∀ i x, x ∈ mv g h R i → i < n := fun i x h => (mv_lt r lt i x h).1
  have hT1 : ∀ i x, x ∈ T1 i → i < n := fun i x h => hn i x ((l1.dn.tab.sub i).subset h)
  have hT2 : ∀ i x, x ∈ T2 i → i < n := fun i x h => hn2 i x ((l2.dn.tab.sub i).subset h)
  have P1 := (last_isHalf L lt l1).perm lt
  rw [mO_halfL hT1] at P1
  have P2 := (last_isHalf (lists_mv r L) (mv_lt r lt) l2).perm (mv_lt r lt)
  rw [mO_halfL hT2] at P2
  have a := steady_mv r (last_steady L hn l1)
  have b := last_steady (lists_mv r L) hn2 l2
  obtain ⟨O1, _⟩ := P1.orbit hp
  have hp2 : ∃ z, hd T2 (g p) = some z := by
    cases hc : hd T2 (g p) with
    | none =>
      obtain ⟨z, hz⟩ := hp
      rw [(moved_alone r L lt l1 l2 p).mp hc] at hz
      cases hz
    | some z => exact ⟨z, rfl⟩
  obtain ⟨O2, _⟩ := P2.orbit hp2
  rcases h2 with h2 | h2
  · have ho := last_odd L lt l1 hp h2
    exact orb_of (walk_all (lists_mv r L) hn2 a b (orbit_ms r O1) (by rw [List.length_map]; exact ho))
  · have ho := last_odd (lists_mv r L) (mv_lt r lt) l2 hp2 h2
    exact orbit_one (walk_all (lists_mv r L) hn2 b a O2 ho) (orbit_ms r O1)
end
end Bk
set_option Elab.async false
set_option linter.all false
/-! All good pairings in order: the law's own list. -/
namespace Bk
abbrev Pg := List (Option Nat)
theorem p_ext {a b : Pg} (hl : a.length = b.length) (h : ∀ i, i < a.length → mO a i = mO b i) : a = b := by
  refine List.ext_getElem hl fun i h1 h2 => ?_
  have := h i h1
  show a[i] = b[i]
  have e1 := mO_at h1
  have e2 := mO_at h2
  rw [List.getElem?_eq_getElem h1] at e1
  rw [List.getElem?_eq_getElem h2] at e2
  rw [Option.some.inj e1, Option.some.inj e2, this]
/-- whose mate stands ahead -/
def Bef (r : List Nat) : Option Nat → Option Nat → Prop
  | some a, some b => r.idxOf a < r.idxOf b
  | some _, none => True
  | none, _ => False
theorem Bef.asym {r : List Nat} : ∀ {x y : Option Nat}, Bef r x y → ¬ Bef r y x
  | some a, some b, h, h' => by
    have h : r.idxOf a < r.idxOf b := h
    have h' : r.idxOf b < r.idxOf a := h'
    omega
  | some _, none, _, h' => h'
  | none, _, h, _ => h
/-- the told order, on the first k people -/
def Ltk (R : Nat → List Nat) (k : Nat) (a b : Pg) : Prop := ∃ p, p < k ∧ (∀ q, q < p → mO a q = mO b q) ∧ Bef (R p) (mO a p) (mO b p)
theorem Ltk.asym {R : Nat → List Nat} {k : Nat} (a b : Pg) (h : Ltk R k a b) : ¬ Ltk R k b a := by
  rintro ⟨p', h1', h2', h3'⟩
  obtain ⟨p, h1, h2, h3⟩ := h
  rcases Nat.lt_trichotomy p p' with z | z | z
  · rw [h2' p z] at h3
    exact h3.asym h3
  · subst z
    exact h3.asym h3'
  · rw [h2 p' z] at h3'
    exact h3'.asym h3'
theorem Ltk.mono {R : Nat → List Nat} {k k' : Nat} {a b a' b' : Pg} (h : Ltk R k a b) (hk : k ≤ k') (ea : ∀ q, q < k → mO a' q = mO a q) (eb : ∀ q, q < k → mO b' q = mO b q) : Ltk R k' a' b' := by
  obtain ⟨p, h1, h2, h3⟩ := h
  refine ⟨p, by omega, fun q hq => ?_, ?_⟩
  · rw [ea q (by omega), eb q (by omega), h2 q hq]
  · rw [ea p h1, eb p h1]
    exact h3
theorem idx_rise {l : List Nat} (nd : l.Nodup) : l.Pairwise fun a b => l.idxOf a < l.idxOf b := by
  rw [List.pairwise_iff_getElem]
  intro i j hi hj hij
  rw [List.Nodup.idxOf_getElem nd i hi, List.Nodup.idxOf_getElem nd j hj]
  exact hij
/-- the law's own: all pairings whose first ones are told -/
def prs (R : Nat → List Nat) : Nat → Pg → List Pg
  | 0, m => [m]
  | e + 1, m => if some m.length ∈ m then prs R e (m ++ [some (m.idxOf (some m.length))])
    else ((R m.length).filter fun z => decide (m.length < z) && !decide (some z ∈ m)).flatMap (fun z => prs R e (m ++ [some z])) ++ prs R e (m ++ [none])
section
variable {R : Nat → List Nat} {n : Nat}
theorem snoc_mO {m : Pg} {x : Option Nat} : mO (m ++ [x]) m.length = x := mO_of snoc_last
theorem snoc_mO_lt {m : Pg} {x : Option Nat} {q : Nat} (h : q < m.length) : mO (m ++ [x]) q = mO m q := by
  unfold mO
  rw [List.getD_eq_getElem?_getD, List.getD_eq_getElem?_getD, snoc_left h]
/-- they go on from there -/
theorem prs_ext : ∀ (e : Nat) (m : Pg), ∀ x ∈ prs R e m, x.length = m.length + e ∧ ∀ q, q < m.length → mO x q = mO m q
  | 0, m, x, h => by
    have : x = m := by simpa [prs] using h
    subst this
    exact ⟨rfl, fun _ _ => rfl⟩
  | e + 1, m, x, h => by
    have key : ∀ y, x ∈ prs R e (m ++ [y]) → x.length = m.length + (e + 1) ∧ ∀ q, q < m.length → mO x q = mO m q := fun y hy => by
      obtain ⟨h1, h2⟩ := prs_ext e (m ++ [y]) x hy
      rw [List.length_append, List.length_singleton] at h1 h2
      exact ⟨by omega, fun q hq => by rw [h2 q (by omega), snoc_mO_lt hq]⟩
    unfold prs at h
    split at h
    · exact key _ h
    · rcases List.mem_append.mp h with z | z
      · obtain ⟨y, _, hy⟩ := List.mem_flatMap.mp z
        exact key _ hy
      · exact key _ z
theorem prs_at {e : Nat} {m : Pg} {y : Option Nat} {x : Pg} (h : x ∈ prs R e (m ++ [y])) : mO x m.length = y ∧ ∀ q, q < m.length → mO x q = mO m q := by
  obtain ⟨_, h2⟩ := prs_ext e (m ++ [y]) x h
  rw [List.length_append, List.length_singleton] at h2
  exact ⟨by rw [h2 _ (by omega), snoc_mO], fun q hq => by rw [h2 q (by omega), snoc_mO_lt hq]⟩
theorem prs_rise (nd : ∀ i, (R i).Nodup) : ∀ (e : Nat) (m : Pg), m.length + e = n → (prs R e m).Pairwise (Ltk R n)
  | 0, m, _ => by unfold prs; exact List.pairwise_singleton _ _
  | e + 1, m, hn => by
    have ih : ∀ y, (prs R e (m ++ [y])).Pairwise (Ltk R n) := fun y => prs_rise nd e (m ++ [y]) (by rw [List.length_append, List.length_singleton]; omega)
    have lt2 : ∀ y y' x x', Bef (R m.length) y y' → x ∈ prs R e (m ++ [y]) → x' ∈ prs R e (m ++ [y']) → Ltk R n x x' := fun y y' x x' hb h h' => by
      obtain ⟨a1, a2⟩ := prs_at h
      obtain ⟨b1, b2⟩ := prs_at h'
      exact ⟨m.length, by omega, fun q hq => by rw [a2 q hq, b2 q hq], by rw [a1, b1]; exact hb⟩
    unfold prs
    split
    · exact ih _
    · rw [List.pairwise_append]
      refine ⟨List.pairwise_flatMap.mpr ⟨fun z _ => ih _, ?_⟩, ih _, fun x hx x' hx' => ?_⟩
      · refine List.Pairwise.imp (fun {a b} hab x hx y hy => lt2 (some a) (some b) x y hab hx hy) ((idx_rise (nd m.length)).filter _)
      · obtain ⟨z, _, hz⟩ := List.mem_flatMap.mp hx
        exact lt2 (some z) none x x' trivial hz hx'
theorem idx_some {m : Pg} {x : Nat} (h : some x ∈ m) : m[m.idxOf (some x)]? = some (some x) := by
  have hl := List.idxOf_lt_length_iff.mpr h
  rw [List.getElem?_eq_getElem hl, List.getElem_idxOf hl]
theorem prs_vp (mu : ∀ i j, j ∈ R i → i ∈ R j) : ∀ (e : Nat) (m : Pg), VP R m → ∀ x ∈ prs R e m, VP R x
  | 0, m, v, x, h => by
    have : x = m := by simpa [prs] using h
    subst this
    exact v
  | e + 1, m, v, x, h => by
    unfold prs at h
    split at h
    · rename_i hs
      exact prs_vp mu e _ (v.chosen mu (idx_some hs)) x h
    · rename_i hs
      have hfree : ∀ i : Nat, m[i]? ≠ some (some m.length) := fun i hi => hs (List.mem_of_getElem? hi)
      rcases List.mem_append.mp h with z | z
      · obtain ⟨y, hy, hx⟩ := List.mem_flatMap.mp z
        rw [List.mem_filter, Bool.and_eq_true, decide_eq_true_iff, Bool.not_eq_true', decide_eq_false_iff_not] at hy
        refine prs_vp mu e _ (v.take hfree fun j hj => ?_) x hx
        cases hj
        exact ⟨hy.1, hy.2.1, fun i hi => hy.2.2 (List.mem_of_getElem? hi)⟩
      · exact prs_vp mu e _ (v.take hfree fun j hj => by cases hj) x z
/-- none is left out -/
theorem prs_all (L : Lists R) {g : Pg} (hg : g.length = n) (pk : PairOk R (mO g)) : ∀ (e k : Nat), k + e = n → g ∈ prs R e (g.take k)
  | 0, k, h => by
    rw [List.take_of_length_le (by omega)]
    simp [prs]
  | e + 1, k, h => by
    have ih := prs_all L hg pk e (k + 1) (by omega)
    have hk : k < g.length := by omega
    have hkl : (g.take k).length = k := by rw [List.length_take]; omega
    have hgk : g[k]? = some (mO g k) := mO_at hk
    have et : g.take (k + 1) = g.take k ++ [mO g k] := by rw [List.take_add_one, hgk]; rfl
    rw [et] at ih
    have tk : ∀ i y, (g.take k)[i]? = some y → i < k ∧ mO g i = y := fun i y hi => by
      rw [List.getElem?_take] at hi
      split at hi
      · exact ⟨by assumption, mO_of hi⟩
      · cases hi
    have memk : ∀ z, some z ∈ g.take k ↔ ∃ i, i < k ∧ mO g i = some z := fun z => by
      constructor
      · intro hz
        obtain ⟨i, hi⟩ := List.mem_iff_getElem?.mp hz
        exact ⟨i, tk i _ hi⟩
      · rintro ⟨i, hi, e⟩
        refine List.mem_iff_getElem?.mpr ⟨i, ?_⟩
        rw [List.getElem?_take, if_pos hi, mO_at (by omega), e]
    unfold prs
    rw [hkl]
    by_cases hs : some k ∈ g.take k
    · rw [if_pos hs]
      obtain ⟨hi1, hi2⟩ := tk _ _ (idx_some hs)
      rw [pk.mu _ _ hi2] at ih
      exact ih
    · rw [if_neg hs]
      have hs' : ¬ ∃ i, i < k ∧ mO g i = some k := fun z => hs ((memk k).mpr z)
      cases hc : mO g k with
      | none =>
        rw [hc] at ih
        exact List.mem_append_right _ ih
      | some z =>
        rw [hc] at ih
        refine List.mem_append_left _ (List.mem_flatMap.mpr ⟨z, ?_, ih⟩)
        rw [List.mem_filter, Bool.and_eq_true, decide_eq_true_iff, Bool.not_eq_true', decide_eq_false_iff_not]
        have hzk := pk.mu _ _ hc
        refine ⟨pk.on _ _ hc, ?_, fun hz => ?_⟩
        · rcases Nat.lt_trichotomy k z with c | c | c
          · exact c
          · exact absurd (pk.on _ _ hc) (by rw [← c]; exact L.ir _)
          · exact absurd ⟨z, c, hzk⟩ hs'
        · obtain ⟨i, hi, e⟩ := (memk z).mp hz
          have := pk.mu _ _ e
          rw [hzk] at this
          have := Option.some.inj this
          omega
/-- those that nobody spoils, by the law's own look -/
def dueL (R : Nat → List Nat) (n : Nat) : List Pg := (prs R n []).filter fun m => decide (spL n R m n = [])
theorem dueL_rise (nd : ∀ i, (R i).Nodup) : (dueL R n).Pairwise (Ltk R n) := (prs_rise nd n [] (by simp)).filter _
theorem good_nil2 (L : Lists R) (lt : ∀ i x, x ∈ R i → i < n ∧ x < n) {m : Pg} (g : Good R (mO m)) : spL n R m n = [] := by
  rw [← spQ_spL L g.ok fun i x hx => (lt i x hx).2]
  apply List.eq_nil_iff_forall_not_mem.mpr
  rintro ⟨a, c⟩ h
  obtain ⟨_, _, h3, h4⟩ := mem_spQ.mp h
  have ri : ∀ {r : List Nat} {o : Nat} {t : Option Nat}, rather r o t = true → ∀ z, t = some z → r.idxOf o < r.idxOf z := fun {r o t} h z e => by
    subst e
    exact of_decide_eq_true h
  unfold spP at h4
  simp only [Bool.and_eq_true, decide_eq_true_iff] at h4
  exact g.no a c ⟨h3, ri h4.2.1, ri h4.2.2⟩
theorem mem_dueL (L : Lists R) (lt : ∀ i x, x ∈ R i → i < n ∧ x < n) {m : Pg} : m ∈ dueL R n ↔ m.length = n ∧ Good R (mO m) := by
  unfold dueL
  rw [List.mem_filter, decide_eq_true_iff]
  constructor
  · rintro ⟨h1, h2⟩
    have hl := (prs_ext n [] m h1).1
    rw [List.length_nil, Nat.zero_add] at hl
    have v := prs_vp L.mu n [] VP.nil m h1
    exact ⟨hl, good_of L lt (v.pair hl fun i x hx => (lt i x hx).2) h2⟩
  · rintro ⟨h1, h2⟩
    have := prs_all L h1 h2.ok n 0 (by omega)
    rw [List.take_zero] at this
    exact ⟨this, good_nil2 L lt h2⟩
end
end Bk
set_option Elab.async false
set_option linter.all false
/-! All good pairings in order: the program's list. -/
namespace Bk
/-- a pairing with each free one of a row as p's mate -/
def wm (m : Pg) (p : Nat) (row : List Nat) : List Pg := if mO m p ≠ none ∨ row = [] then [m] else (row.filter fun z => decide (mO m z = none)).map fun z => (m.set p (some z)).set z (some p)
/-- all pairings in a table, the first k people done -/
def pin (n : Nat) (T : Nat → List Nat) : Nat → List Pg
  | 0 => [List.replicate n none]
  | k + 1 => (pin n T k).flatMap fun m => wm m k (T k)
section
variable {R T : Nat → List Nat} {n : Nat}
theorem mO_set2 {m : Pg} {i k : Nat} {x : Option Nat} (h : i < m.length) : mO (m.set i x) k = if k = i then x else mO m k := mO_set h
/-- what the first k people leave -/
structure Ik (T : Nat → List Nat) (n k : Nat) (m : Pg) : Prop where
  len : m.length = n
  on : ∀ a b, mO m a = some b → b ∈ T a
  mu : ∀ a b, mO m a = some b → mO m b = some a
  set : ∀ q, q < k → T q ≠ [] → mO m q ≠ none
theorem ik_zero : Ik T n 0 (List.replicate n none) := by
  have : ∀ a, mO (List.replicate n (none : Option Nat)) a = none := fun a => by
    unfold mO
    rw [List.getD_eq_getElem?_getD, List.getElem?_replicate]
    split <;> rfl
  exact ⟨List.length_replicate, fun a b h => (by rw [this] at h; cases h), fun a b h => (by rw [this] at h; cases h), fun q hq => by omega⟩
theorem wm_cases {m : Pg} {p : Nat} {row : List Nat} {x : Pg} (h : x ∈ wm m p row) : (x = m ∧ (mO m p ≠ none ∨ row = [])) ∨ ∃ z, z ∈ row ∧ mO m z = none ∧ mO m p = none ∧ x = (m.set p (some z)).set z (some p) := by
  unfold wm at h
  by_cases c : mO m p ≠ none ∨ row = []
  · rw [if_pos c] at h
    exact .inl ⟨by simpa using h, c⟩
  · rw [if_neg c] at h
    obtain ⟨z, hz, rfl⟩ := List.mem_map.mp h
    rw [List.mem_filter, decide_eq_true_iff] at hz
    refine .inr ⟨z, hz.1, hz.2, ?_, rfl⟩
    apply Classical.byContradiction
    exact fun hc => c (.inl hc)
/-- one more -/
theorem ik_step (mu : ∀ i x, x ∈ T i → i ∈ T x) (ir : ∀ i, i ∉ T i) (lt : ∀ i x, x ∈ T i → i < n ∧ x < n) {k : Nat} (hk : k < n) {m : Pg} (I : Ik T n k m) {x : Pg} (h : x ∈ wm m k (T k)) : Ik T n (k + 1) x ∧ ∀ q, q < k → mO x q = mO m q := by
  rcases wm_cases h with ⟨rfl, hc⟩ | ⟨z, hz, hf, hp, rfl⟩
  · refine ⟨⟨I.len, I.on, I.mu, fun q hq hT => ?_⟩, fun _ _ => rfl⟩
    by_cases e : q = k
    · subst e
      rcases hc with hc | hc
      · exact hc
      · exact absurd hc hT
    · exact I.set q (by omega) hT
  · have hzn := (lt k z hz).2
    have hne : z ≠ k := fun e => ir k (by rw [e] at hz; exact hz)
    have hzk : k < z := by
      apply Classical.byContradiction
      intro hc
      exact I.set z (by omega) (ne_of_mem (mu k z hz)) hf
    have l1 : k < m.length := by rw [I.len]; exact hk
    have l2 : z < (m.set k (some z)).length := by rw [List.length_set, I.len]; exact hzn
    have at_ : ∀ q, mO ((m.set k (some z)).set z (some k)) q = if q = z then some k else if q = k then some z else mO m q := fun q => by
      rw [mO_set l2, mO_set l1]
    refine ⟨⟨by rw [List.length_set, List.length_set, I.len], fun a b hab => ?_, fun a b hab => ?_, fun q hq hT => ?_⟩, fun q hq => ?_⟩
    · rw [at_] at hab
      split at hab
      · rename_i e; cases hab; rw [e]; exact mu _ _ hz
      · split at hab
        · rename_i e; cases hab; rw [e]; exact hz
        · exact I.on a b hab
    · rw [at_] at hab ⊢
      split at hab
      · rename_i e
        cases hab
        rw [if_neg (Ne.symm hne), if_pos rfl, e]
      · split at hab
        · rename_i e
          cases hab
          rw [if_pos rfl, e]
        · rename_i c1 c2
          have hb := I.mu a b hab
          have n1 : b ≠ z := fun e => by rw [e, hf] at hb; cases hb
          have n2 : b ≠ k := fun e => by rw [e, hp] at hb; cases hb
          rw [if_neg n1, if_neg n2]
          exact hb
    · rw [at_]
      split
      · simp
      · split
        · simp
        · exact I.set q (by omega) hT
    · rw [at_, if_neg (by omega), if_neg (by omega)]
theorem pin_ik (mu : ∀ i x, x ∈ T i → i ∈ T x) (ir : ∀ i, i ∉ T i) (lt : ∀ i x, x ∈ T i → i < n ∧ x < n) : ∀ k, k ≤ n → ∀ x ∈ pin n T k, Ik T n k x
  | 0, _, x, h => by
    have : x = List.replicate n none := by simpa [pin] using h
    rw [this]
    exact ik_zero
  | k + 1, hk, x, h => by
    obtain ⟨m, hm, hx⟩ := List.mem_flatMap.mp h
    exact (ik_step mu ir lt (by omega) (pin_ik mu ir lt k (by omega) m hm) hx).1
theorem pin_rise (nd : ∀ i, (R i).Nodup) (sub : ∀ i, (T i).Sublist (R i)) (mu : ∀ i x, x ∈ T i → i ∈ T x) (ir : ∀ i, i ∉ T i) (lt : ∀ i x, x ∈ T i → i < n ∧ x < n) : ∀ k, k ≤ n → (pin n T k).Pairwise (Ltk R k)
  | 0, _ => by unfold pin; exact List.pairwise_singleton _ _
  | k + 1, hk => by
    have I := pin_ik mu ir lt k (by omega)
    refine List.pairwise_flatMap.mpr ⟨fun m hm => ?_, ?_⟩
    · have Im := I m hm
      by_cases c : mO m k ≠ none ∨ T k = []
      · unfold wm; rw [if_pos c]; exact List.pairwise_singleton _ _
      · have hsub : ((T k).filter fun z => decide (mO m z = none)).Pairwise fun a b => (R k).idxOf a < (R k).idxOf b := ((idx_rise (nd k)).sublist (sub k)).filter _
        have all : ∀ z ∈ (T k).filter fun z => decide (mO m z = none), mO ((m.set k (some z)).set z (some k)) k = some z ∧ ∀ q, q < k → mO ((m.set k (some z)).set z (some k)) q = mO m q := fun z hz => by
          have hx : (m.set k (some z)).set z (some k) ∈ wm m k (T k) := by unfold wm; rw [if_neg c]; exact List.mem_map.mpr ⟨z, hz, rfl⟩
          refine ⟨?_, (ik_step mu ir lt (by omega) Im hx).2⟩
          rw [List.mem_filter] at hz
          have hne : k ≠ z := fun e => ir k (by have := hz.1; rwa [← e] at this)
          rw [mO_set (by rw [List.length_set, Im.len]; exact (lt k z hz.1).2), if_neg hne, mO_set (by rw [Im.len]; omega), if_pos rfl]
        unfold wm
        rw [if_neg c, List.pairwise_map]
        refine List.Pairwise.imp_of_mem (fun {a b} ha hb hab => ?_) hsub
        obtain ⟨a1, a2⟩ := all a ha
        obtain ⟨b1, b2⟩ := all b hb
        exact ⟨k, by omega, fun q hq => by rw [a2 q hq, b2 q hq], by rw [a1, b1]; exact hab⟩
    · refine List.Pairwise.imp_of_mem (fun {a b} ha hb hab x hx y hy => ?_) (pin_rise nd sub mu ir lt k (by omega))
      exact hab.mono (by omega) (ik_step mu ir lt (by omega) (I a ha) hx).2 (ik_step mu ir lt (by omega) (I b hb) hy).2
/-- a pairing, as far as the first k people say -/
def rst (g : Pg) (n k : Nat) : Pg := (List.range n).map fun a => match mO g a with
  | some b => if a < k ∨ b < k then some b else none
  | none => none
theorem rst_len (g : Pg) (n k : Nat) : (rst g n k).length = n := by unfold rst; rw [List.length_map, List.length_range]
theorem rst_at (g : Pg) {n a : Nat} (k : Nat) (h : a < n) : mO (rst g n k) a = match mO g a with
  | some b => if a < k ∨ b < k then some b else none
  | none => none := by
  refine mO_of ?_
  unfold rst
  rw [List.getElem?_map, List.getElem?_range h]
  rfl
theorem rst_some {g : Pg} {n a b : Nat} (k : Nat) (h : a < n) (e : mO g a = some b) : mO (rst g n k) a = if a < k ∨ b < k then some b else none := by
  rw [rst_at g k h, e]
theorem rst_none {g : Pg} {n a : Nat} (k : Nat) (h : a < n) (e : mO g a = none) : mO (rst g n k) a = none := by
  rw [rst_at g k h, e]
theorem pin_all (ir : ∀ i, i ∉ T i) {g : Pg} (hg : g.length = n) (on : ∀ a b, mO g a = some b → b ∈ T a ∧ b < n) (mu : ∀ a b, mO g a = some b → mO g b = some a) (al : ∀ a, mO g a = none ↔ T a = []) : ∀ k, k ≤ n → rst g n k ∈ pin n T k
  | 0, _ => by
    have : rst g n 0 = List.replicate n none := by
      refine p_ext (by rw [rst_len, List.length_replicate]) fun i hi => ?_
      rw [rst_len] at hi
      have e2 : mO (List.replicate n (none : Option Nat)) i = none := mO_of (by rw [List.getElem?_replicate, if_pos hi])
      rw [e2, rst_at g 0 hi]
      split
      · rw [if_neg (by omega)]
      · rfl
    rw [this]
    simp [pin]
  | k + 1, hk => by
    have ih := pin_all ir hg on mu al k (by omega)
    refine List.mem_flatMap.mpr ⟨_, ih, ?_⟩
    cases hc : mO g k with
    | none =>
      have hT := (al k).mp hc
      have e : rst g n (k + 1) = rst g n k := by
        refine p_ext (by rw [rst_len, rst_len]) fun i hi => ?_
        rw [rst_len] at hi
        cases hi2 : mO g i with
        | none => rw [rst_none _ hi hi2, rst_none _ hi hi2]
        | some b =>
          have hik : i ≠ k := fun z => by rw [z, hc] at hi2; cases hi2
          have hbk : b ≠ k := fun z => by have := mu _ _ hi2; rw [z, hc] at this; cases this
          rw [rst_some _ hi hi2, rst_some _ hi hi2]
          by_cases c : i < k ∨ b < k
          · rw [if_pos c, if_pos (by omega)]
          · rw [if_neg c, if_neg (by omega)]
      rw [e]
      unfold wm
      rw [if_pos (.inr hT)]
      exact List.mem_singleton.mpr rfl
    | some z =>
      have hzk := mu _ _ hc
      obtain ⟨hzT, hzn⟩ := on _ _ hc
      have hne : z ≠ k := fun e => ir k (by rw [e] at hzT; exact hzT)
      by_cases c : z < k
      · have e : rst g n (k + 1) = rst g n k := by
          refine p_ext (by rw [rst_len, rst_len]) fun i hi => ?_
          rw [rst_len] at hi
          cases hi2 : mO g i with
          | none => rw [rst_none _ hi hi2, rst_none _ hi hi2]
          | some b =>
            rw [rst_some _ hi hi2, rst_some _ hi hi2]
            by_cases c2 : i < k ∨ b < k
            · rw [if_pos c2, if_pos (by omega)]
            · rw [if_neg c2]
              have h1 : i ≠ k := fun z2 => by
                rw [z2, hc] at hi2
                have := Option.some.inj hi2
                omega
              have h2 : b ≠ k := fun z2 => by
                have := mu _ _ hi2
                rw [z2, hc] at this
                have := Option.some.inj this
                omega
              rw [if_neg (by omega)]
        rw [e]
        unfold wm
        rw [if_pos (.inl (by rw [rst_some _ (by omega) hc, if_pos (.inr c)]; simp))]
        exact List.mem_singleton.mpr rfl
      · have e : rst g n (k + 1) = ((rst g n k).set k (some z)).set z (some k) := by
          refine p_ext (by rw [rst_len, List.length_set, List.length_set, rst_len]) fun i hi => ?_
          rw [rst_len] at hi
          rw [mO_set (by rw [List.length_set, rst_len]; exact hzn), mO_set (by rw [rst_len]; omega)]
          by_cases h1 : i = z
          · subst h1
            rw [if_pos rfl, rst_some _ hi hzk, if_pos (by omega)]
          · rw [if_neg h1]
            by_cases h2 : i = k
            · subst h2
              rw [if_pos rfl, rst_some _ hi hc, if_pos (by omega)]
            · rw [if_neg h2]
              cases hi2 : mO g i with
              | none => rw [rst_none _ hi hi2, rst_none _ hi hi2]
              | some b =>
                rw [rst_some _ hi hi2, rst_some _ hi hi2]
                have h3 : b ≠ k := fun z2 => by
                  have := mu _ _ hi2
                  rw [z2, hc] at this
                  exact h1 (Option.some.inj this).symm
                by_cases c2 : i < k ∨ b < k
                · rw [if_pos c2, if_pos (by omega)]
                · rw [if_neg c2, if_neg (by omega)]
        rw [e]
        have hfk : mO (rst g n k) k = none := by rw [rst_some _ (by omega) hc, if_neg (by omega)]
        have hfz : mO (rst g n k) z = none := by rw [rst_some _ hzn hzk, if_neg (by omega)]
        unfold wm
        rw [if_neg (fun h => by
          rcases h with h | h
          · exact h hfk
          · rw [h] at hzT; cases hzT)]
        exact List.mem_map.mpr ⟨z, List.mem_filter.mpr ⟨hzT, decide_eq_true hfz⟩, rfl⟩
/-- the program's list is the law's -/
theorem all_good (L : Lists R) (lt : ∀ i x, x ∈ R i → i < n ∧ x < n) (o : Off R T) : ((pin n T n).filter fun m => decide (spQ n R m n = [])) = dueL R n := by
  have sub := o.dn.tab.sub
  have hT : ∀ i x, x ∈ T i → i < n ∧ x < n := fun i x h => lt i x ((sub i).subset h)
  have mu := o.dn.tab.mu
  have ir : ∀ i, i ∉ T i := o.dn.tab.ir L
  refine pw_eq (r := Ltk R n) Ltk.asym ((pin_rise L.nd sub mu ir hT n (Nat.le_refl _)).filter _) (dueL_rise L.nd) fun m => ?_
  rw [mem_dueL L lt, List.mem_filter, decide_eq_true_iff]
  constructor
  · rintro ⟨h1, h2⟩
    have I := pin_ik mu ir hT n (Nat.le_refl _) m h1
    have pk : PairOk R (mO m) := ⟨fun p q e => (sub p).subset (I.on p q e), I.mu⟩
    refine ⟨I.len, good_of L lt pk ?_⟩
    rw [← spQ_spL L pk fun i x hx => (lt i x hx).2]
    exact h2
  · rintro ⟨h1, h2⟩
    obtain ⟨g1, g2⟩ := o.good L (fun i x h => (lt i x h).1) h2
    have := pin_all ir h1 (fun a b e => ⟨g1 a b e, (hT a b (g1 a b e)).2⟩) h2.ok.mu g2 n (Nat.le_refl _)
    have e : rst m n n = m := by
      refine p_ext (by rw [rst_len, h1]) fun i hi => ?_
      rw [rst_len] at hi
      cases hc : mO m i with
      | none => rw [rst_none _ hi hc]
      | some b => rw [rst_some _ hi hc, if_pos (.inl hi)]
    rw [e] at this
    refine ⟨this, ?_⟩
    rw [spQ_spL L h2.ok fun i x hx => (lt i x hx).2]
    exact good_nil2 L lt h2
theorem wm_len (m : Pg) (p : Nat) (row : List Nat) {c : Nat} (h : row.length ≤ c) (h1 : 1 ≤ c) : (wm m p row).length ≤ c := by
  unfold wm
  split
  · exact h1
  · rw [List.length_map]
    exact Nat.le_trans (List.length_filter_le _ _) h
theorem wm_nil (m : Pg) (p : Nat) : wm m p [] = [m] := by
  unfold wm
  rw [if_pos (.inr rfl)]
theorem flatMap_len {α β : Type} {f : α → List β} {c : Nat} : ∀ {l : List α}, (∀ x ∈ l, (f x).length ≤ c) → (l.flatMap f).length ≤ l.length * c
  | [], _ => by simp
  | a :: l, h => by
    have h1 := h a List.mem_cons_self
    have h2 := flatMap_len (f := f) (c := c) (l := l) fun x hx => h x (List.mem_cons_of_mem _ hx)
    rw [List.flatMap_cons, List.length_append, List.length_cons, Nat.succ_mul]
    omega
theorem pin_len (h6 : ∀ i, (T i).length ≤ 6) (h7 : ∀ i, 7 ≤ i → T i = []) : ∀ k, (pin n T k).length ≤ 6 ^ (min k 7)
  | 0 => by simp [pin]
  | k + 1 => by
    have ih := pin_len h6 h7 k
    by_cases c : k < 7
    · have := flatMap_len (f := fun m => wm m k (T k)) (c := 6) (l := pin n T k) fun x _ => wm_len x k (T k) (h6 k) (by decide)
      rw [show min (k + 1) 7 = min k 7 + 1 by omega, Nat.pow_succ]
      exact Nat.le_trans this (Nat.mul_le_mul_right 6 ih)
    · have e : pin n T (k + 1) = pin n T k := by
        show (pin n T k).flatMap (fun m => wm m k (T k)) = pin n T k
        rw [h7 k (by omega)]
        have : (fun m => wm m k ([] : List Nat)) = fun m => [m] := funext fun m => wm_nil m k
        rw [this]
        simp
      rw [e, show min (k + 1) 7 = min k 7 by omega]
      exact ih
theorem prs_len (h6 : ∀ i, (R i).length ≤ 6) : ∀ e m, (prs R e m).length ≤ 7 ^ e
  | 0, m => by simp [prs]
  | e + 1, m => by
    have ih := prs_len h6 e
    unfold prs
    split
    · exact Nat.le_trans (ih _) (Nat.pow_le_pow_right (by decide) (by omega))
    · have h1 := flatMap_len (f := fun z => prs R e (m ++ [some z])) (c := 7 ^ e) (l := (R m.length).filter fun z => decide (m.length < z) && !decide (some z ∈ m)) fun z _ => ih _
      have h2 := ih (m ++ [none])
      have h3 : ((R m.length).filter fun z => decide (m.length < z) && !decide (some z ∈ m)).length ≤ 6 := Nat.le_trans (List.length_filter_le _ _) (h6 _)
      have h4 := Nat.mul_le_mul_right (7 ^ e) h3
      rw [List.length_append, Nat.pow_succ]
      omega
end
end Bk
set_option Elab.async false
set_option linter.all false
/-! A list of pairings in the heap. -/
namespace Bk
open PySem PySem.Spec PyProof.Rows L2
structure PgsAt (H : Hp) (D : Addr) (as : List Addr) (ms : List Pg) : Prop where
  top : H D = some (.lst (as.map V.ref))
  len : as.length = ms.length
  out : D ∉ as
  row : ∀ (i : Nat) (a : Addr) (m : Pg), as[i]? = some a → ms[i]? = some m → H a = some (.lst (m.map ov))
theorem PgsAt.grow {H H' : Hp} {D : Addr} {as : List Addr} {ms : List Pg} (h : PgsAt H D as ms) (e : Grow H H') : PgsAt H' D as ms :=
  ⟨e.lst h.top, h.len, h.out, fun i a m h1 h2 => e.lst (h.row i a m h1 h2)⟩
theorem PgsAt.same {H H' : Hp} {D : Addr} {as : List Addr} {ms : List Pg} (h : PgsAt H D as ms) (e : Same H H') : PgsAt H' D as ms := h.grow (Same.grow e)
theorem PgsAt.nil {H : Hp} {D : Addr} (h : H D = some (.lst [])) : PgsAt H D [] [] := ⟨h, rfl, by simp, fun i a m h1 _ => by simp at h1⟩
theorem PgsAt.at {H : Hp} {D : Addr} {as : List Addr} {ms : List Pg} (h : PgsAt H D as ms) {i : Nat} {m : Pg} (hm : ms[i]? = some m) : ∃ a, as[i]? = some a ∧ H a = some (.lst (m.map ov)) := by
  have hi : i < as.length := by rw [h.len]; exact (List.getElem?_eq_some_iff.mp hm).1
  exact ⟨as[i], List.getElem?_eq_getElem hi, h.row i _ m (List.getElem?_eq_getElem hi) hm⟩
theorem PgsAt.mem {H : Hp} {D : Addr} {as : List Addr} {ms : List Pg} (h : PgsAt H D as ms) {a : Addr} (ha : a ∈ as) : ∃ m, m ∈ ms ∧ H a = some (.lst (m.map ov)) := by
  obtain ⟨i, hi⟩ := List.mem_iff_getElem?.mp ha
  have hl : i < ms.length := by rw [← h.len]; exact (List.getElem?_eq_some_iff.mp hi).1
  exact ⟨ms[i], List.getElem_mem hl, h.row i a _ hi (List.getElem?_eq_getElem hl)⟩
/-- one more, told behind -/
theorem PgsAt.snoc {H : Hp} {D a : Addr} {as : List Addr} {ms : List Pg} {m : Pg} (h : PgsAt H D as ms) (ha : H a = some (.lst (m.map ov))) (hne : a ≠ D) : PgsAt (upd H D (.lst (as.map V.ref ++ [.ref a]))) D (as ++ [a]) (ms ++ [m]) := by
  refine ⟨by rw [upd_same, List.map_append]; rfl, by rw [List.length_append, List.length_append, h.len]; rfl, fun z => ?_, fun i b q h1 h2 => ?_⟩
  · rcases List.mem_append.mp z with z | z
    · exact h.out z
    · exact hne (List.mem_singleton.mp z).symm
  · have hb : b ∈ as ++ [a] := List.mem_of_getElem? h1
    have hbD : b ≠ D := fun e => by
      rw [e] at hb
      rcases List.mem_append.mp hb with z | z
      · exact h.out z
      · exact hne (List.mem_singleton.mp z).symm
    rw [upd_ne hbD]
    by_cases hi : i < as.length
    · rw [List.getElem?_append_left hi] at h1
      rw [List.getElem?_append_left (by rw [← h.len]; exact hi)] at h2
      exact h.row i b q h1 h2
    · have hil := (List.getElem?_eq_some_iff.mp h1).1
      rw [List.length_append, List.length_singleton] at hil
      have : i = as.length := by omega
      subst this
      rw [List.getElem?_append_right (by omega), Nat.sub_self] at h1
      rw [h.len, List.getElem?_append_right (by omega), Nat.sub_self] at h2
      cases h1
      cases h2
      exact ha
/-- two lists, one behind the other -/
theorem PgsAt.cat {H : Hp} {a b p : Addr} {as bs : List Addr} {ms ns : List Pg} (h : PgsAt H a as ms) (h' : PgsAt H b bs ns) (hp : H p = none) : PgsAt (upd H p (.lst (as.map V.ref ++ bs.map V.ref))) p (as ++ bs) (ms ++ ns) := by
  have hrow : ∀ (i : Nat) (c : Addr) (m : Pg), (as ++ bs)[i]? = some c → (ms ++ ns)[i]? = some m → H c = some (.lst (m.map ov)) := fun i c m h1 h2 => by
    by_cases hi : i < as.length
    · rw [List.getElem?_append_left hi] at h1
      rw [List.getElem?_append_left (by rw [← h.len]; exact hi)] at h2
      exact h.row i c m h1 h2
    · rw [List.getElem?_append_right (by omega)] at h1
      rw [List.getElem?_append_right (by rw [← h.len]; omega), ← h.len] at h2
      exact h'.row _ c m h1 h2
  refine ⟨by rw [upd_same, List.map_append], by rw [List.length_append, List.length_append, h.len, h'.len], fun z => ?_, fun i c m h1 h2 => ?_⟩
  · obtain ⟨q, hq⟩ : ∃ q : Pg, H p = some (.lst (q.map ov)) := by
      rcases List.mem_append.mp z with z | z
      · obtain ⟨q, _, hq⟩ := h.mem z; exact ⟨q, hq⟩
      · obtain ⟨q, _, hq⟩ := h'.mem z; exact ⟨q, hq⟩
    rw [hp] at hq
    cases hq
  · have := hrow i c m h1 h2
    rw [upd_ne (ne_of_none this hp)]
    exact this
def dPgs (ms : List Pg) : PyData := .list (ms.map dPair)
theorem lay_pgs : ∀ ms : List Pg, PyData.canLayAll0 (ms.map dPair) = true ∧ PyData.depthAll (ms.map dPair) ≤ 1
  | [] => by simp [PyData.canLayAll0, PyData.depthAll]
  | m :: ms => by
    have ih := lay_pgs ms
    have h : ∀ rs : List (Option Nat), PyData.canLayAll0 (rs.map dO) = true ∧ PyData.depthAll (rs.map dO) = 0 := fun rs => by
      induction rs with
      | nil => simp [PyData.canLayAll0, PyData.depthAll]
      | cons r rs ih => cases r <;> simp [PyData.canLayAll0, PyData.depthAll, dO, PyData.canLay0, PyData.depth, ih.1, ih.2]
    have := h m
    simp only [List.map_cons, PyData.canLayAll0, PyData.depthAll, dPair, PyData.canLay0, PyData.depth, this.1, this.2]
    refine ⟨?_, ?_⟩
    · have e : PyData.canLayAll0 (ms.map fun m => PyData.list (m.map dO)) = true := ih.1
      simpa [dPair] using ih.1
    · have := ih.2
      show max (0 + 1) _ ≤ 1
      exact Nat.max_le.mpr ⟨Nat.le_refl _, this⟩
theorem shaped_pgs (ms : List Pg) : SeqAt.shaped (dPgs ms) = true := by
  have := lay_pgs ms
  unfold SeqAt.shaped dPgs
  simp only [PyData.canLay0, PyData.depth, this.1, Bool.true_and]
  exact decide_eq_true (by omega)
theorem eqv_pgs (a b : List Pg) : PyData.eqv (dPgs a) (dPgs b) = decide (a = b) := by
  have h : ∀ rs qs : List Pg, PyData.eqvAll (rs.map dPair) (qs.map dPair) = decide (rs = qs) := fun rs => by
    induction rs with
    | nil => intro qs; cases qs <;> simp [PyData.eqvAll]
    | cons r rs ih =>
      intro qs
      cases qs with
      | nil => simp [PyData.eqvAll]
      | cons q qs =>
        simp only [List.map_cons, PyData.eqvAll, eqv_pair, ih]
        by_cases h : r = q <;> simp [h]
  unfold dPgs
  simp only [PyData.eqv, h]
section
variable {K : PySem.W.Frag} {H : Hp}
theorem dp_pgs {D : Addr} {as : List Addr} {ms : List Pg} (T : PgsAt H D as ms) : Dp K H (.ref D) (dPgs ms) := by
  refine .lst (SqL.of T.top) ?_
  have h : ∀ (l : List Addr) (rs : List Pg), l.length = rs.length → (∀ (i : Nat) (a : Addr) (r : Pg), l[i]? = some a → rs[i]? = some r → H a = some (.lst (r.map ov))) → DpAll K H (l.map V.ref) (rs.map dPair) := fun l => by
    induction l with
    | nil => intro rs e _; cases rs with
      | nil => exact .nil
      | cons _ _ => simp at e
    | cons a l ih =>
      intro rs e hr
      cases rs with
      | nil => simp at e
      | cons r rs =>
        refine .cons (dp_pair (SqL.of (hr 0 a r rfl rfl))) (ih rs (by simpa using e) fun i b q h1 h2 => hr (i + 1) b q (by simpa using h1) (by simpa using h2))
  exact h as ms T.len T.row
theorem ne_pgs {a b : Addr} {as bs : List Addr} {r s : List Pg} {Q : VK} (h : PgsAt H a as r) (h' : PgsAt H b bs s) (q : Q (.bl (!decide (r = s))) H) : rNeD K (.ref a) (.ref b) H Q :=
  ⟨dPgs r, dPgs s, dp_pgs h, dp_pgs h', shaped_pgs r, shaped_pgs s, by rw [eqv_pgs]; exact q⟩
theorem eq_pgs {a b : Addr} {as bs : List Addr} {r s : List Pg} {Q : VK} (h : PgsAt H a as r) (h' : PgsAt H b bs s) (q : Q (.bl (decide (r = s))) H) : rEqD K (.ref a) (.ref b) H Q :=
  ⟨dPgs r, dPgs s, dp_pgs h, dp_pgs h', shaped_pgs r, shaped_pgs s, by rw [eqv_pgs]; exact q⟩
theorem any_pgs (ms : List Pg) (m : Pg) : (ms.map dPair).any (fun z => PyData.eqv z (dPair m)) = decide (m ∈ ms) := by
  rw [Bool.eq_iff_iff, List.any_map, List.any_eq_true, decide_eq_true_iff]
  constructor
  · rintro ⟨x, h1, h2⟩
    have h2 : PyData.eqv (dPair x) (dPair m) = true := h2
    rw [eqv_pair, decide_eq_true_iff] at h2
    rw [← h2]; exact h1
  · intro h
    refine ⟨m, h, ?_⟩
    show PyData.eqv (dPair m) (dPair m) = true
    rw [eqv_pair, decide_eq_true_iff]
theorem notin_pgs {a D : Addr} {as : List Addr} {m : Pg} {ms : List Pg} {Q : VK} (h : H a = some (.lst (m.map ov))) (h' : PgsAt H D as ms) (q : Q (.bl (!decide (m ∈ ms))) H) : rNotInD K (.ref a) (.ref D) H Q :=
  ⟨dPair m, ms.map dPair, dp_pair (SqL.of h), dp_pgs h', shaped_pair m, shaped_pgs ms, by rw [any_pgs]; exact q⟩
end
theorem units65 {k : Nat} {A : Around} (r : Room k A) : A.units + 65 < cLine := by have := r.un; omega
theorem knotinD {X : Cx} {K : PySem.W.Frag} (hu : X.A.units + 65 < cLine) (h : X.K = K := by rfl) : OpR X (compareOp .NotIn) (rNotInD K) := by
  subst h
  exact op_notInD hu
theorem pg_cat (m : Pg) (x : Option Nat) : m.map ov ++ [ov x] = (m ++ [x]).map ov := by simp
end Bk
set_option Elab.async false
set_option linter.all false
set_option maxRecDepth 100000
set_option maxHeartbeats 4000000
namespace K6g
open K6 PySem PySem.Spec PyProof.Rows L2 LamX Bk
section
variable {P : Program} {w : World} {K : PySem.W.Frag} {mg : Str → Option Value} {base : Heap}

/-- with each free one of a row as a mate -/
def sp_withmate (K : PySem.W.Frag) : Sp := fun vs H Q _ => ∃ (pa ra : Addr) (m : Pg) (p : Nat) (row : List Nat), vs = [.ref pa, nv p, .ref ra] ∧ H pa = some (.lst (m.map ov)) ∧ H ra = some (.lst (row.map nv)) ∧ p < m.length ∧ (∀ z ∈ row, z < m.length) ∧ row.length ≤ 100 ∧ m.length ≤ 100 ∧
  ∀ H' D as, Same H H' → H D = none → PgsAt H' D as (wm m p row) → (∀ a ∈ as, a = pa ∨ H a = none) → Q (.ref D) H'
theorem ok_withmate (T : Txt P K mg) : FnOk P w K mg base CX0 1 T.a_with_mate T.fd_with_mate ["pairing", "person", "row"] (sp_withmate K) := by
  refine T.F_with_mate.ok sc_with_mate (fun vs H Q E h => ?_) (fun cdv A outer s H vs Q E hr h => ?_)
  · obtain ⟨pa, ra, m, p, row, rfl, _⟩ := h
    rfl
  · obtain ⟨pa, ra, m, p, row, rfl, hpa, hra, hp, hlt, hrl, hml, q⟩ := h
    refine ⟨_, (C8.pss_cut (ps_if (PW.pt (pw_or (pt_cmp (pc_notN (pe_ix (kix_list (K := K)) (pv 0) (pv 1) (fun _ _ => rfl)))) (pw_or1 (pt_not (kpt_tru (K := K) (pv 2)))))) (pss_one (ps_ret (pe_lst (pa_cons (pv 0) pa_nil)))) pss_nil)
      (C8.pss_cut (ps_set (i := 3) sc_with_mate.nd rfl (.inl rfl) (pe_lst pa_nil))
      (C8.pss_cut (ps_for PassesOwn.never rfl (kpi_list (K := K) (pv 2)) (pg_name (i := 4) sc_with_mate.nd rfl (.inl rfl)) (pss_one (ps_if (pt_cmp (pc_isN (pe_ix (kix_list (K := K)) (pv 0) (pv 4) (fun _ _ => rfl)))) (pss_cons (ps_set (i := 5) sc_with_mate.nd rfl (.inl rfl) (pe_callTy (klist_of (K := K)) (by rfl) T.m_list (by decide +kernel) (pa_cons (pv 0) pa_nil)))
      (pss_cons (ps_asg (pv 4) (pg_sub (pv 5) (pv 1) set_list))
      (pss_cons (ps_asg (pv 1) (pg_sub (pv 5) (pv 4) set_list))
      (pss_one (ps_expr (pe_bm PySem.F.plainAttrs_list PySem.F.slot_list_append PySem.F.type_list_append mt_append (pv 3) (pa_cons (pv 5) pa_nil))))))) pss_nil)))
      (pss_one (ps_ret (pv 3)))))), ?_⟩
    obtain ⟨M, hM⟩ : ∃ M : L2.St → Hp → Prop, M = (fun σ H1 => σ = [some (.ref pa), some (nv p), some (.ref ra), none, none, none] ∧ H1 = H ∧ ¬ (mO m p ≠ none ∨ row = [])) := ⟨_, rfl⟩
    refine ⟨M, ?_, fun σ H1 h => ?_⟩
    · simp only [tLenSetI, cx_K, cx_w, wipe, Int.zero_add, Bool.false_eq_true, if_false, if_true, Bool.not_true, Bool.not_false, tSeq, tAsg, tOp, tVar, tC, tRet, tRetN, tNext, tDrop, tIfS, tB, tTest, tIf, tAnd, tOr, tNot, tAndV, tOrV, tNotV, tUn, tCons, tNil, tCall, tCB, tBM, tBM0, tNoPart, tPart, tSl, tCont, tNever, tTup, tLst, gName, gNil, gCons, gTup, gSub, rI, rI0, rU, rEq, rNe, rIxL, rSlL, rSetL, rLn, rLs, rTs, rIn, rSet0, tSAdd, rSAdd, rSIn, rSNotIn, rRep, rCat, rAppend, rPop, rPopAt, iList, iRng1, iRng2, iEnum, gTup, tIsN, tNotN, tTru, tLstRg, tRg1, tRg2, L2.start, List.map_cons, List.map_nil, List.length_cons, List.length_nil, List.replicate, List.cons_append, List.nil_append, List.getElem?_cons_zero, List.getElem?_cons_succ, List.set_cons_zero, List.set_cons_succ, Option.some.injEq, exists_eq_left', V.int.injEq, V.ref.injEq, V.bl.injEq, List.cons.injEq, exists_and_left, exists_and_right, and_true, true_and, exists_eq_left, exists_eq, Nat.reduceAdd, Nat.reduceSub]
      have one : ∀ (c : Unit), mO m p ≠ none ∨ row = [] → 1 ≤ sizeLine ∧ ∀ (p : Addr), H p = none → Q (V.ref p) (upd H p (HO.lst [V.ref pa])) := fun _ hc => ⟨by decide, fun D hD => by
        refine q _ D [pa] (same_upd hD) hD ?_ (fun a ha => .inl (List.mem_singleton.mp ha))
        have : wm m p row = [m] := by unfold wm; rw [if_pos hc]
        rw [this]
        refine ⟨upd_same, rfl, fun z => ?_, fun i a x h1 h2 => ?_⟩
        · rw [List.mem_singleton.mp z, hpa] at hD
          cases hD
        · have hi : i = 0 := by
            have := (List.getElem?_eq_some_iff.mp h1).1
            simp at this; omega
          subst hi
          cases h1
          cases h2
          exact (same_upd hD) _ _ hpa⟩
      refine ⟨_, SqL.of hpa, ov (mO m p), atI_nat (by rw [List.getElem?_map, mO_at hp]; rfl), ?_⟩
      rw [isNon_ov]
      by_cases c1 : mO m p = none
      · rw [c1]
        refine iteF ⟨_, .inl ⟨_, SqL.of hra, rfl⟩, ?_⟩
        by_cases c2 : row = []
        · rw [show (!(row.map nv).isEmpty) = false by rw [c2]; rfl]
          exact iteT (one () (.inr c2))
        · rw [show (!(row.map nv).isEmpty) = true by cases row with
            | nil => exact absurd rfl c2
            | cons _ _ => rfl]
          refine iteF ?_
          rw [hM]
          exact ⟨rfl, rfl, fun h => by
            rcases h with h | h
            · exact h c1
            · exact c2 h⟩
      · rw [show (mO m p).isNone = false by cases hc : mO m p with
          | none => exact absurd hc c1
          | some _ => rfl]
        exact iteT (one () (.inl c1))
    rw [hM] at h
    clear hM M
    obtain ⟨rfl, rfl, hno⟩ := h
    obtain ⟨M, hM⟩ : ∃ M : L2.St → Hp → Prop, M = (fun σ H2 => ∃ D, σ = [some (.ref pa), some (nv p), some (.ref ra), some (.ref D), none, none] ∧ Same H1 H2 ∧ H1 D = none ∧ H2 D = some (.lst [])) := ⟨_, rfl⟩
    refine ⟨M, ?_, fun σ H2 h => ?_⟩
    · simp only [tLenSetI, cx_K, cx_w, wipe, Int.zero_add, Bool.false_eq_true, if_false, if_true, Bool.not_true, Bool.not_false, tSeq, tAsg, tOp, tVar, tC, tRet, tRetN, tNext, tDrop, tIfS, tB, tTest, tIf, tAnd, tOr, tNot, tAndV, tOrV, tNotV, tUn, tCons, tNil, tCall, tCB, tBM, tBM0, tNoPart, tPart, tSl, tCont, tNever, tTup, tLst, gName, gNil, gCons, gTup, gSub, rI, rI0, rU, rEq, rNe, rIxL, rSlL, rSetL, rLn, rLs, rTs, rIn, rSet0, tSAdd, rSAdd, rSIn, rSNotIn, rRep, rCat, rAppend, rPop, rPopAt, iList, iRng1, iRng2, iEnum, gTup, tIsN, tNotN, tTru, tLstRg, tRg1, tRg2, L2.start, List.map_cons, List.map_nil, List.length_cons, List.length_nil, List.replicate, List.cons_append, List.nil_append, List.getElem?_cons_zero, List.getElem?_cons_succ, List.set_cons_zero, List.set_cons_succ, Option.some.injEq, exists_eq_left', V.int.injEq, V.ref.injEq, V.bl.injEq, List.cons.injEq, exists_and_left, exists_and_right, and_true, true_and, exists_eq_left, exists_eq, Nat.reduceAdd, Nat.reduceSub]
      refine ⟨Nat.zero_le _, fun D hD => ?_⟩
      rw [hM]
      exact ⟨D, rfl, same_upd hD, hD, upd_same⟩
    rw [hM] at h
    clear hM M
    obtain ⟨D, rfl, e2, hD0, hD⟩ := h
    obtain ⟨M, hM⟩ : ∃ M : L2.St → Hp → Prop, M = (fun σ H2 => ∃ y4 y5 as, σ = [some (.ref pa), some (nv p), some (.ref ra), some (.ref D), y4, y5] ∧ Same H1 H2 ∧ PgsAt H2 D as (wm m p row) ∧ ∀ a ∈ as, H1 a = none) := ⟨_, rfl⟩
    refine ⟨M, ?_, fun σ H2 h => ?_⟩
    · refine ⟨.ref ra, rfl, ra, rfl, ⟨_, SqL.of (e2 _ _ hra)⟩, for_list (K := K) (xs := row.map nv) (fun i σ H2 => ∃ y4 y5 as, σ = [some (.ref pa), some (nv p), some (.ref ra), some (.ref D), y4, y5] ∧ Same H1 H2 ∧ PgsAt H2 D as (((row.take i).filter fun z => decide (mO m z = none)).map fun z => (m.set p (some z)).set z (some p)) ∧ ∀ a ∈ as, H1 a = none) ⟨_, _, [], rfl, e2, .nil hD, by simp⟩ (fun i σ H2 _ h => by obtain ⟨_, _, _, _, e, _⟩ := h; exact SqL.of (e _ _ hra)) (fun i x σ H3 hx h => ?_) (fun σ H2 h => ?_)⟩
      · obtain ⟨y4, y5, as, rfl, e3, hP, has⟩ := h
        rw [List.getElem?_map] at hx
        obtain ⟨z, hz, rfl⟩ := Option.map_eq_some_iff.mp hx
        have hzl := hlt z (List.mem_of_getElem? hz)
        obtain ⟨N, hN⟩ : ∃ N : L2.St → Hp → Prop, N = (fun σ H2 => ∃ y4 y5 as, σ = [some (.ref pa), some (nv p), some (.ref ra), some (.ref D), y4, y5] ∧ Same H1 H2 ∧ PgsAt H2 D as (((row.take (i + 1)).filter fun z => decide (mO m z = none)).map fun z => (m.set p (some z)).set z (some p)) ∧ ∀ a ∈ as, H1 a = none) := ⟨_, rfl⟩
        rw [← hN]
        simp only [tLenSetI, cx_K, cx_w, wipe, Int.zero_add, Bool.false_eq_true, if_false, if_true, Bool.not_true, Bool.not_false, tSeq, tAsg, tOp, tVar, tC, tRet, tRetN, tNext, tDrop, tIfS, tB, tTest, tIf, tAnd, tOr, tNot, tAndV, tOrV, tNotV, tUn, tCons, tNil, tCall, tCB, tBM, tBM0, tNoPart, tPart, tSl, tCont, tNever, tTup, tLst, gName, gNil, gCons, gTup, gSub, rI, rI0, rU, rEq, rNe, rIxL, rSlL, rSetL, rLn, rLs, rTs, rIn, rSet0, tSAdd, rSAdd, rSIn, rSNotIn, rRep, rCat, rAppend, rPop, rPopAt, iList, iRng1, iRng2, iEnum, gTup, tIsN, tNotN, tTru, tLstRg, tRg1, tRg2, L2.start, List.map_cons, List.map_nil, List.length_cons, List.length_nil, List.replicate, List.cons_append, List.nil_append, List.getElem?_cons_zero, List.getElem?_cons_succ, List.set_cons_zero, List.set_cons_succ, Option.some.injEq, exists_eq_left', V.int.injEq, V.ref.injEq, V.bl.injEq, List.cons.injEq, exists_and_left, exists_and_right, and_true, true_and, exists_eq_left, exists_eq, Nat.reduceAdd, Nat.reduceSub]
        have et : ((row.take (i + 1)).filter fun z => decide (mO m z = none)).map (fun z => (m.set p (some z)).set z (some p)) = ((row.take i).filter fun z => decide (mO m z = none)).map (fun z => (m.set p (some z)).set z (some p)) ++ ([z].filter fun z => decide (mO m z = none)).map fun z => (m.set p (some z)).set z (some p) := by
          rw [List.take_add_one, hz, List.filter_append, List.map_append]; rfl
        refine ⟨_, SqL.of (e3 _ _ hpa), ov (mO m z), atI_nat (by rw [List.getElem?_map, mO_at hzl]; rfl), ?_⟩
        rw [isNon_ov]
        by_cases c : mO m z = none
        · rw [c]
          refine iteT ⟨_, .inl (SqL.of (e3 _ _ hpa)), fun l hl => ⟨_, upd_same, p, by rw [List.length_map]; exact ixN_nat hp, ?_⟩⟩
          rw [upd_upd, ov_set]
          refine ⟨_, upd_same, z, by rw [List.length_map, List.length_set]; exact ixN_nat hzl, ?_⟩
          rw [upd_upd, ov_set]
          have e4 := same_upd (o := .lst (((m.set p (some z)).set z (some p)).map ov)) hl
          have hl4 : upd H3 l (.lst (((m.set p (some z)).set z (some p)).map ov)) l = some (.lst (((m.set p (some z)).set z (some p)).map ov)) := upd_same
          generalize upd H3 l (.lst (((m.set p (some z)).set z (some p)).map ov)) = H4 at e4 hl4 ⊢
          have hP4 := hP.same e4
          have hlD : l ≠ D := fun w => by rw [w, hP.top] at hl; cases hl
          refine ⟨.inl ⟨rfl, _, SqL.of hP4.top⟩, _, hP4.top, ?_, ?_⟩
          · rw [List.length_map, hP.len, List.length_map]
            have : ((row.take i).filter fun z => decide (mO m z = none)).length ≤ 100 := Nat.le_trans (List.length_filter_le _ _) (Nat.le_trans (List.length_take_le' _ _) hrl)
            exact small (by omega)
          · rw [hN]
            refine ⟨_, _, as ++ [l], rfl, fun b o ho => ?_, ?_, fun a ha => ?_⟩
            · rw [upd_ne (ne_of_none ho hD0)]
              exact e4 _ _ (e3 _ _ ho)
            · rw [et, List.filter_cons, if_pos (decide_eq_true c), List.filter_nil]
              exact hP4.snoc hl4 hlD
            · rcases List.mem_append.mp ha with w | w
              · exact has a w
              · rw [List.mem_singleton.mp w]; exact e3.free hl
        · rw [show (mO m z).isNone = false by cases hc : mO m z with
            | none => exact absurd hc c
            | some _ => rfl]
          refine iteF ?_
          rw [hN]
          refine ⟨_, _, as, rfl, e3, ?_, has⟩
          rw [et, List.filter_cons, if_neg (by rw [decide_eq_false c]; decide), List.filter_nil, List.map_nil, List.append_nil]
          exact hP
      · obtain ⟨y4, y5, as, rfl, e3, hP, has⟩ := h
        rw [List.length_map, List.take_length] at hP
        show M _ _
        rw [hM]
        refine ⟨_, _, as, rfl, e3, ?_, has⟩
        unfold wm
        rw [if_neg hno]
        exact hP
    rw [hM] at h
    clear hM M
    obtain ⟨y4, y5, as, rfl, e3, hP, has⟩ := h
    simp only [tLenSetI, cx_K, cx_w, wipe, Int.zero_add, Bool.false_eq_true, if_false, if_true, Bool.not_true, Bool.not_false, tSeq, tAsg, tOp, tVar, tC, tRet, tRetN, tNext, tDrop, tIfS, tB, tTest, tIf, tAnd, tOr, tNot, tAndV, tOrV, tNotV, tUn, tCons, tNil, tCall, tCB, tBM, tBM0, tNoPart, tPart, tSl, tCont, tNever, tTup, tLst, gName, gNil, gCons, gTup, gSub, rI, rI0, rU, rEq, rNe, rIxL, rSlL, rSetL, rLn, rLs, rTs, rIn, rSet0, tSAdd, rSAdd, rSIn, rSNotIn, rRep, rCat, rAppend, rPop, rPopAt, iList, iRng1, iRng2, iEnum, gTup, tIsN, tNotN, tTru, tLstRg, tRg1, tRg2, L2.start, List.map_cons, List.map_nil, List.length_cons, List.length_nil, List.replicate, List.cons_append, List.nil_append, List.getElem?_cons_zero, List.getElem?_cons_succ, List.set_cons_zero, List.set_cons_succ, Option.some.injEq, exists_eq_left', V.int.injEq, V.ref.injEq, V.bl.injEq, List.cons.injEq, exists_and_left, exists_and_right, and_true, true_and, exists_eq_left, exists_eq, Nat.reduceAdd, Nat.reduceSub]
    exact q _ D as e3 hD0 hP fun a ha => .inr (has a ha)
end
end K6g

set_option Elab.async false
set_option linter.all false
set_option maxRecDepth 100000
set_option maxHeartbeats 4000000
namespace K6g
open K6 PySem PySem.Spec PyProof.Rows L2 LamX Bk
section
variable {P : Program} {w : World} {K : PySem.W.Frag} {mg : Str → Option Value} {base : Heap}

/-- all pairings in a table -/
def sp_pairingsin (K : PySem.W.Frag) : Sp := fun vs H Q _ => ∃ (t : Addr) (as : List Addr) (n : Nat) (C : Nat → List Nat), vs = [.ref t] ∧ Tbl H t as (mkL n C) ∧ n ≤ 10 ∧ (∀ i x, x ∈ C i → i ∈ C x) ∧ (∀ i, i ∉ C i) ∧ (∀ i x, x ∈ C i → i < n ∧ x < n) ∧ (∀ i, (C i).length ≤ 6) ∧ (∀ i, 7 ≤ i → C i = []) ∧
  ∀ H' D ds, Same H H' → H D = none → PgsAt H' D ds (pin n C n) → (∀ a ∈ ds, H a = none) → Q (.ref D) H'
theorem ok_pairingsin (T : Txt P K mg) : FnOk P w K mg base CX0 2 T.a_pairings_in T.fd_pairings_in ["rows"] (sp_pairingsin K) := by
  have G_with_mate : FnOk P w K mg base CX0 1 T.a_with_mate T.fd_with_mate ["pairing", "person", "row"] (sp_withmate K) := ok_withmate T
  refine T.F_pairings_in.ok sc_pairings_in (fun vs H Q E h => ?_) (fun cdv A outer s H vs Q E hr h => ?_)
  · obtain ⟨t, as, n, C, rfl, _⟩ := h
    rfl
  · obtain ⟨t, as, n, C, rfl, TB, hn, mu, ir, lt, h6, h7, q⟩ := h
    refine ⟨_, (C8.pss_cut (ps_set (i := 1) sc_pairings_in.nd rfl (.inl rfl) (pe_lst (pa_cons (pe_op op_rep (pe_lst (pa_cons pe_non pa_nil)) (pe_callB (klen (K := K)) (by rfl) T.m_len (by decide +kernel) (pa_cons (pv 0) pa_nil))) pa_nil)))
      (C8.pss_cut (ps_for PassesOwn.never rfl (kpi_enum (K := K) (by rfl) T.m_enumerate (pa_cons (pv 0) pa_nil)) (kpg_tup (K := K) (n := 2) rfl (pgs_cons (pg_name (i := 2) sc_pairings_in.nd rfl (.inr rfl)) (pgs_cons (pg_name (i := 3) sc_pairings_in.nd rfl (.inr rfl)) pgs_nil))) (pss_one (ps_setLc2 (i := 1) (own := [("pairing", 4), ("wider", 5)]) (vs1 := [5]) rfl sc_pairings_in.nd rfl rfl (sw_true rfl rfl rfl (by decide +kernel)) (kpi_list (K := K) (pv 1)) (blkOk_by (own := [("pairing", 4), ("wider", 5)]) (N := ["rows", "told", "person", "row", "pairing", "wider"]) (sc := (defScope s_pairings_in)) (by decide +kernel)) (by decide) (fun _ _ _ _ _ => (pg_name (i := 4) sc_pairings_in.nd rfl (by first | exact .inl rfl | exact .inr rfl))) (fun _ _ _ _ _ => pts_nil) (fun _ _ _ _ _ => (kpi_list (K := K) (pe_call G_with_mate (hr.mono (by decide)) (by rfl) T.g_with_mate T.F_with_mate.kp T.b_with_mate .nil pass0 (pa_cons (pv 4) (pa_cons (pv 2) (pa_cons (pv 3) pa_nil)))))) (fun _ _ _ _ _ => (pg_name (i := 5) sc_pairings_in.nd rfl (by first | exact .inl rfl | exact .inr rfl))) (fun _ _ _ _ _ => pts_nil) (fun _ _ _ _ _ => (pv 5)))))
      (pss_one (ps_ret (pv 1))))), ?_⟩
    have big : ∀ k, (pin n C k).length ≤ 300000 := fun k => Nat.le_trans (pin_len h6 h7 k) (Nat.le_trans (Nat.pow_le_pow_right (by decide) (Nat.min_le_right _ _)) (by decide))
    have Ik := fun k (h : k ≤ n) => pin_ik mu ir lt k h
    obtain ⟨M, hM⟩ : ∃ M : L2.St → Hp → Prop, M = (fun σ H1 => ∃ D ds, σ = [some (.ref t), some (.ref D), none, none, none, none] ∧ Same H H1 ∧ H D = none ∧ PgsAt H1 D ds (pin n C 0) ∧ ∀ a ∈ ds, H a = none) := ⟨_, rfl⟩
    refine ⟨M, ?_, fun σ H1 h => ?_⟩
    · simp only [tLenSetI, cx_K, cx_w, wipe, Int.zero_add, Bool.false_eq_true, if_false, if_true, Bool.not_true, Bool.not_false, tSeq, tAsg, tOp, tVar, tC, tRet, tRetN, tNext, tDrop, tIfS, tB, tTest, tIf, tAnd, tOr, tNot, tAndV, tOrV, tNotV, tUn, tCons, tNil, tCall, tCB, tBM, tBM0, tNoPart, tPart, tSl, tCont, tNever, tTup, tLst, gName, gNil, gCons, gTup, gSub, rI, rI0, rU, rEq, rNe, rIxL, rSlL, rSetL, rLn, rLs, rTs, rIn, rSet0, tSAdd, rSAdd, rSIn, rSNotIn, rRep, rCat, rAppend, rPop, rPopAt, iList, iRng1, iRng2, iEnum, gTup, tIsN, tNotN, tTru, tLstRg, tRg1, tRg2, L2.start, List.map_cons, List.map_nil, List.length_cons, List.length_nil, List.replicate, List.cons_append, List.nil_append, List.getElem?_cons_zero, List.getElem?_cons_succ, List.set_cons_zero, List.set_cons_succ, Option.some.injEq, exists_eq_left', V.int.injEq, V.ref.injEq, V.bl.injEq, List.cons.injEq, exists_and_left, exists_and_right, and_true, true_and, exists_eq_left, exists_eq, Nat.reduceAdd, Nat.reduceSub]
      have hl : (as.map V.ref).length = n := by rw [List.length_map, TB.len, mkL_len]
      refine ⟨by decide, fun p hp => ⟨_, .inl ((same_upd hp).seq (SqL.of TB.top)), _, upd_same, by rw [hl]; omega, by rw [hl]; omega, ?_, fun p1 hp1 => ⟨by decide, fun p2 hp2 => ?_⟩⟩⟩
      · rw [hl, Int.toNat_natCast]
        exact Nat.le_of_lt (small (by simp; omega))
      · rw [hl, Int.toNat_natCast, show (List.replicate n [V.non]).flatten = (List.replicate n (none : Option Nat)).map ov by
          rw [List.map_replicate, List.flatten_replicate_singleton]
          rfl] at hp2 ⊢
        have e1 := same_upd2 (o := .lst ((List.replicate n (none : Option Nat)).map ov)) (same_upd (o := .lst [V.non]) hp) ((same_upd hp).free hp1)
        have hp10 : upd (upd H p (.lst [V.non])) p1 (.lst ((List.replicate n (none : Option Nat)).map ov)) p1 = some (.lst ((List.replicate n (none : Option Nat)).map ov)) := upd_same
        generalize upd (upd H p (.lst [V.non])) p1 (.lst ((List.replicate n (none : Option Nat)).map ov)) = H2 at e1 hp10 hp2 ⊢
        rw [hM]
        refine ⟨p2, [p1], rfl, same_upd2 e1 (e1.free hp2), e1.free hp2, ⟨upd_same, rfl, fun z => ?_, fun i a m h1 h2 => ?_⟩, fun a ha => ?_⟩
        · rw [List.mem_singleton.mp z, hp10] at hp2
          cases hp2
        · have hi : i = 0 := by
            have := (List.getElem?_eq_some_iff.mp h1).1
            simp at this; omega
          subst hi
          cases h1
          cases h2
          exact (same_upd hp2) _ _ hp10
        · rw [List.mem_singleton.mp ha]
          exact (same_upd hp).free hp1
    rw [hM] at h
    clear hM M
    obtain ⟨D, ds, rfl, e1, hD0, hP, hds⟩ := h
    obtain ⟨M, hM⟩ : ∃ M : L2.St → Hp → Prop, M = (fun σ H1 => ∃ D ds y2 y3 y4 y5, σ = [some (.ref t), some (.ref D), y2, y3, y4, y5] ∧ Same H H1 ∧ H D = none ∧ PgsAt H1 D ds (pin n C n) ∧ ∀ a ∈ ds, H a = none) := ⟨_, rfl⟩
    refine ⟨M, ?_, fun σ H1 h => ?_⟩
    · refine ⟨.ref t, rfl, t, _, rfl, SqL.of (e1 _ _ TB.top), for_enum (K := K) (xs := as.map V.ref) (fun i σ H1 => ∃ D ds y2 y3 y4 y5, σ = [some (.ref t), some (.ref D), y2, y3, y4, y5] ∧ Same H H1 ∧ H D = none ∧ PgsAt H1 D ds (pin n C i) ∧ ∀ a ∈ ds, H a = none) ⟨D, ds, _, _, _, _, rfl, e1, hD0, hP, hds⟩
          (fun i σ H1 _ h => by obtain ⟨_, _, _, _, _, _, _, e, _⟩ := h; exact SqL.of (e _ _ TB.top)) (fun i x σ H2 TA hx hT h => ?_) (fun σ H1 h => ?_)⟩
      · obtain ⟨D1, ds1, y2, y3, y4, y5, rfl, e2, hD1, hP2, hds1⟩ := h
        rw [List.getElem?_map] at hx
        obtain ⟨c, hc, rfl⟩ := Option.map_eq_some_iff.mp hx
        have hi : i < n := by
          have := (List.getElem?_eq_some_iff.mp hc).1
          rw [TB.len, mkL_len] at this; exact this
        have e3 : Same H (upd H2 TA (.tup [.int (i : Nat), .ref c])) := same_upd2 e2 (e2.free hT)
        have hP3 := hP2.same (same_upd (o := .tup [.int (i : Nat), .ref c]) hT)
        have hrc := e3 _ _ (TB.row i c _ hc (mkL_at hi))
        obtain ⟨N, hN⟩ : ∃ N : L2.St → Hp → Prop, N = (fun σ H1 => ∃ D ds y2 y3 y4 y5, σ = [some (.ref t), some (.ref D), y2, y3, y4, y5] ∧ Same H H1 ∧ H D = none ∧ PgsAt H1 D ds (pin n C (i + 1)) ∧ ∀ a ∈ ds, H a = none) := ⟨_, rfl⟩
        rw [← hN]
        refine ⟨TA, _, rfl, SqT.of upd_same, rfl, _, _, rfl, _, _, rfl, rfl, ?_⟩
        generalize upd H2 TA (.tup [.int (i : Nat), .ref c]) = H3 at e3 hP3 hrc
        obtain ⟨G, hG⟩ : ∃ G : Pg → List Pg, G = fun m => wm m i (C i) := ⟨_, rfl⟩
        obtain ⟨ms, hms⟩ : ∃ ms, ms = pin n C i := ⟨_, rfl⟩
        have hmi : ∀ m ∈ ms, m.length = n := fun m hm => by rw [hms] at hm; exact (Ik i (by omega) m hm).len
        have egn : pin n C (i + 1) = ms.flatMap G := by rw [hms, hG]; rfl
        rw [← hms] at hP3
        have bigG : (ms.flatMap G).length ≤ 300000 := by rw [← egn]; exact big _
        refine ⟨.ref D1, rfl, D1, rfl, ⟨_, SqL.of hP3.top⟩, fun D2 hD2 => ?_⟩
        refine ⟨fun j k H4 => k = ms.length - j ∧ j ≤ ms.length ∧ Same H3 H4 ∧ ∃ es, PgsAt H4 D2 es ((ms.take j).flatMap G) ∧ ∀ a ∈ es, H a = none, ⟨ms.length, by simp, Nat.zero_le _, same_upd hD2, [], by rw [List.take_zero]; exact .nil upd_same, by simp⟩, ?_⟩
        rintro j k H4 ⟨rfl, hj, e4, es, hE, hes⟩
        have hP4 := hP3.same e4
        by_cases hjl : j < ms.length
        rotate_left
        · have : j = ms.length := by omega
          subst this
          rw [List.take_length] at hE
          refine .inl ⟨⟨_, SqL.of hP4.top, by rw [List.length_map, hP4.len]; exact Nat.le_refl _⟩, ?_⟩
          show N _ _
          rw [hN]
          refine ⟨D2, es, _, _, _, _, rfl, e3.trans e4, e3.free hD2, ?_, hes⟩
          rw [egn]
          exact hE
        obtain ⟨m, hm⟩ : ∃ m, ms[j]? = some m := ⟨_, List.getElem?_eq_getElem hjl⟩
        obtain ⟨b, hb, hrb⟩ := hP4.at hm
        have et : (ms.take (j + 1)).flatMap G = (ms.take j).flatMap G ++ G m := by
          rw [List.take_add_one, hm, List.flatMap_append]
          simp
        obtain ⟨Nx, hNx⟩ : ∃ Nx : Hp → Prop, Nx = (fun H' => Same H3 H' ∧ ∃ es, PgsAt H' D2 es ((ms.take (j + 1)).flatMap G) ∧ ∀ a ∈ es, H a = none) := ⟨_, rfl⟩
        refine .inr ⟨⟨ds1.map V.ref, .ref b, SqL.of hP4.top, by rw [List.getElem?_map, hb]; rfl⟩, Nx, fun H' h' => by rw [hNx] at h'; exact ⟨ms.length - (j + 1), by omega, rfl, hjl, h'.1, h'.2⟩, fun v H' hy => ?_⟩
        obtain ⟨rfl, hv⟩ := hy
        have hv' := hv _ (SqL.of hP4.top)
        rw [List.getElem?_map, hb] at hv'
        cases hv'
        refine ⟨rfl, yesI ?_⟩
        refine ⟨_, rfl, _, rfl, _, rfl, ?_⟩
        have hml := hmi m (List.mem_of_getElem? hm)
        have hb3 : H3 b ≠ none := fun z => by
          obtain ⟨q, _, hq⟩ := hP3.mem (List.mem_of_getElem? hb)
          rw [z] at hq; cases hq
        refine ⟨b, c, m, i, C i, rfl, hrb, e4 _ _ hrc, by omega, fun z hz => by rw [hml]; exact (lt i z hz).2, Nat.le_trans (h6 i) (by decide), by omega, fun H5 w ws e5 hw hW hws => ?_⟩
        rw [show wm m i (C i) = G m by rw [hG]] at hW
        have hE5 := hE.same e5
        have nwD : w ≠ D2 := fun z => by rw [z, hE.top] at hw; cases hw
        have naD : ∀ a ∈ ws, a ≠ D2 := fun a ha z => by
          rcases hws a ha with w1 | w1
          · rw [z] at w1
            rw [← w1] at hb3
            exact hb3 hD2
          · rw [z, hE.top] at w1; cases w1
        have naH : ∀ a ∈ ws, H a = none := fun a ha => by
          rcases hws a ha with w1 | w1
          · rw [w1]; exact hds1 b (List.mem_of_getElem? hb)
          · exact (e3.trans e4).free w1
        refine ⟨w, rfl, ⟨_, SqL.of hW.top⟩, fun l k H6 => k = ws.length - l ∧ l ≤ ws.length ∧ Same H3 H6 ∧ H6 w = some (.lst (ws.map V.ref)) ∧ (∀ (i : Nat) (a : Addr) (q : Pg), ws[i]? = some a → (G m)[i]? = some q → H6 a = some (.lst (q.map ov))) ∧ PgsAt H6 D2 (es ++ ws.take l) ((ms.take j).flatMap G ++ (G m).take l),
          ⟨ws.length, by simp, Nat.zero_le _, e4.trans e5, hW.top, hW.row, by rw [List.take_zero, List.take_zero, List.append_nil, List.append_nil]; exact hE5⟩, ?_⟩
        rintro l k H6 ⟨rfl, hl, e6, hw6, hr6, hE6⟩
        by_cases hll : l < ws.length
        rotate_left
        · have : l = ws.length := by omega
          subst this
          refine .inl ⟨⟨_, SqL.of hw6, by rw [List.length_map]; exact Nat.le_refl _⟩, ?_⟩
          rw [hW.len, List.take_length, ← hW.len, List.take_length] at hE6
          rw [hNx]
          refine ⟨e6, es ++ ws, by rw [et]; exact hE6, fun a ha => ?_⟩
          rcases List.mem_append.mp ha with z | z
          · exact hes a z
          · exact naH a z
        obtain ⟨a, ha⟩ : ∃ a, ws[l]? = some a := ⟨_, List.getElem?_eq_getElem hll⟩
        obtain ⟨x, hx⟩ : ∃ x, (G m)[l]? = some x := ⟨_, List.getElem?_eq_getElem (by rw [← hW.len]; exact hll)⟩
        obtain ⟨Nx1, hN1⟩ : ∃ Nx : Hp → Prop, Nx = (fun H6 => Same H3 H6 ∧ H6 w = some (.lst (ws.map V.ref)) ∧ (∀ (i : Nat) (a : Addr) (q : Pg), ws[i]? = some a → (G m)[i]? = some q → H6 a = some (.lst (q.map ov))) ∧ PgsAt H6 D2 (es ++ ws.take (l + 1)) ((ms.take j).flatMap G ++ (G m).take (l + 1))) := ⟨_, rfl⟩
        refine .inr ⟨⟨ws.map V.ref, .ref a, SqL.of hw6, by rw [List.getElem?_map, ha]; rfl⟩, Nx1, fun H' h' => by rw [hN1] at h'; exact ⟨ws.length - (l + 1), by omega, rfl, hll, h'.1, h'.2.1, h'.2.2.1, h'.2.2.2⟩, fun v H' hy => ?_⟩
        obtain ⟨rfl, hv⟩ := hy
        have hv' := hv _ (SqL.of hw6)
        rw [List.getElem?_map, ha] at hv'
        cases hv'
        have hax := hr6 l a x ha hx
        refine ⟨rfl, yesI ⟨_, rfl, _, hE6.top, ?_, ?_⟩⟩
        · rw [List.length_map, hE6.len]
          have h1 : ((ms.take j).flatMap G ++ (G m).take l).length ≤ (ms.flatMap G).length := by
            have : ms.flatMap G = (ms.take j).flatMap G ++ (G m ++ (ms.drop (j + 1)).flatMap G) := by
              rw [← List.append_assoc, ← et, ← List.flatMap_append, List.take_append_drop]
            rw [this, List.length_append, List.length_append, List.length_append, List.length_take]
            omega
          have : 300000 < sizeLine := by decide
          omega
        · have hP7 := hE6.snoc hax (naD a (List.mem_of_getElem? ha))
          rw [hN1]
          refine ⟨fun b' o ho => ?_, ?_, fun i' a' q' h1 h2 => ?_, ?_⟩
          · rw [upd_ne (ne_of_none ho hD2)]
            exact e6 _ _ ho
          · rw [upd_ne nwD]; exact hw6
          · rw [upd_ne (naD a' (List.mem_of_getElem? h1))]
            exact hr6 i' a' q' h1 h2
          · rw [List.take_add_one, ha, List.take_add_one, hx, ← List.append_assoc, ← List.append_assoc]
            exact hP7
      · obtain ⟨D1, ds1, y2, y3, y4, y5, rfl, e2, hD1, hP2, hds1⟩ := h
        rw [List.length_map, TB.len, mkL_len] at hP2
        show M _ _
        rw [hM]
        exact ⟨D1, ds1, y2, y3, y4, y5, rfl, e2, hD1, hP2, hds1⟩
    rw [hM] at h
    clear hM M
    obtain ⟨D1, ds1, y2, y3, y4, y5, rfl, e2, hD1, hP2, hds1⟩ := h
    simp only [tLenSetI, cx_K, cx_w, wipe, Int.zero_add, Bool.false_eq_true, if_false, if_true, Bool.not_true, Bool.not_false, tSeq, tAsg, tOp, tVar, tC, tRet, tRetN, tNext, tDrop, tIfS, tB, tTest, tIf, tAnd, tOr, tNot, tAndV, tOrV, tNotV, tUn, tCons, tNil, tCall, tCB, tBM, tBM0, tNoPart, tPart, tSl, tCont, tNever, tTup, tLst, gName, gNil, gCons, gTup, gSub, rI, rI0, rU, rEq, rNe, rIxL, rSlL, rSetL, rLn, rLs, rTs, rIn, rSet0, tSAdd, rSAdd, rSIn, rSNotIn, rRep, rCat, rAppend, rPop, rPopAt, iList, iRng1, iRng2, iEnum, gTup, tIsN, tNotN, tTru, tLstRg, tRg1, tRg2, L2.start, List.map_cons, List.map_nil, List.length_cons, List.length_nil, List.replicate, List.cons_append, List.nil_append, List.getElem?_cons_zero, List.getElem?_cons_succ, List.set_cons_zero, List.set_cons_succ, Option.some.injEq, exists_eq_left', V.int.injEq, V.ref.injEq, V.bl.injEq, List.cons.injEq, exists_and_left, exists_and_right, and_true, true_and, exists_eq_left, exists_eq, Nat.reduceAdd, Nat.reduceSub]
    exact q _ D1 ds1 e2 hD1 hP2 hds1
end
end K6g

set_option Elab.async false
set_option linter.all false
set_option maxRecDepth 100000
set_option maxHeartbeats 4000000
namespace K6g
open K6 PySem PySem.Spec PyProof.Rows L2 LamX Bk
section
variable {P : Program} {w : World} {K : PySem.W.Frag} {mg : Str → Option Value} {base : Heap}

def sp_rather (K : PySem.W.Frag) : Sp := fun vs H Q _ => ∃ (d : Addr) (kvs : List (L2.Key × V)) (r : List Nat) (o : Nat) (mate : Option Nat), vs = [.ref d, nv o, ov mate] ∧ H d = some (.dK kvs) ∧ PlaceD kvs r ∧ o ∈ r ∧ (∀ y, mate = some y → y ∈ r) ∧ Q (.bl (rather r o mate)) H
theorem ok_rather (T : Txt P K mg) : FnOk P w K mg base CX0 1 T.a_would_rather T.fd_would_rather ["places", "other", "mate"] (sp_rather K) := by
  refine T.F_would_rather.ok sc_would_rather (fun vs H Q E h => ?_) (fun cdv A outer s H vs Q E hr h => ?_)
  · obtain ⟨d, kvs, r, o, mate, rfl, _⟩ := h
    rfl
  · obtain ⟨d, kvs, r, o, mate, rfl, hd, hp, ho, hm, q⟩ := h
    refine ⟨_, (pss_one (ps_ret (pe_or (pe_cmp (pc_isN (pv 2))) (pe_one (pe_cmpR op_lt (pe_dget (hu_of hr) (pv 0) (pv 1) (fun _ _ => rfl)) (pe_dget (hu_of hr) (pv 0) (pv 2) (fun _ _ => rfl)) (nomark _)))))), ?_⟩
    simp only [tLenSetI, cx_K, cx_w, wipe, Int.zero_add, Bool.false_eq_true, if_false, if_true, Bool.not_true, Bool.not_false, tSeq, tAsg, tOp, tVar, tC, tRet, tRetN, tNext, tDrop, tIfS, tB, tTest, tIf, tAnd, tOr, tNot, tAndV, tOrV, tNotV, tUn, tCons, tNil, tCall, tCB, tBM, tBM0, tNoPart, tPart, tSl, tCont, tNever, tTup, tLst, gName, gNil, gCons, gTup, gSub, rI, rI0, rU, rEq, rNe, rIxL, rSlL, rSetL, rLn, rLs, rTs, rIn, rSet0, tSAdd, rSAdd, rSIn, rSNotIn, rRep, rCat, rAppend, rPop, rPopAt, iList, iRng1, iRng2, iEnum, gTup, tIsN, tNotN, tTru, tLstRg, tRg1, tRg2, L2.start, List.map_cons, List.map_nil, List.length_cons, List.length_nil, List.replicate, List.cons_append, List.nil_append, List.getElem?_cons_zero, List.getElem?_cons_succ, List.set_cons_zero, List.set_cons_succ, Option.some.injEq, exists_eq_left', V.int.injEq, V.ref.injEq, V.bl.injEq, List.cons.injEq, exists_and_left, exists_and_right, and_true, true_and, exists_eq_left, exists_eq, Nat.reduceAdd, Nat.reduceSub]
    have look : ∀ x : Nat, x ∈ r → DGet H d (nv x) (some (nv (r.idxOf x))) := fun x hx => by
      have := DGet.k (k := Sum.inl (x : Int)) hd
      rw [hp x, if_pos hx] at this
      exact this
    cases mate with
    | none => exact iteT q
    | some y =>
      refine iteF ⟨.ref d, rfl, nv o, rfl, d, _, rfl, look o ho, .ref d, rfl, nv y, rfl, d, _, rfl, look y (hm y rfl), _, rfl, _, rfl, ?_⟩
      have : decide (((r.idxOf o : Nat) : Int) < ((r.idxOf y : Nat) : Int)) = decide (r.idxOf o < r.idxOf y) := by
        by_cases z : r.idxOf o < r.idxOf y
        · rw [decide_eq_true z, decide_eq_true (by omega)]
        · rw [decide_eq_false z, decide_eq_false (by omega)]
      rw [this]
      exact q
end
end K6g

set_option Elab.async false
set_option linter.all false
set_option maxRecDepth 100000
set_option maxHeartbeats 4000000
namespace K6g
open K6 PySem PySem.Spec PyProof.Rows L2 LamX Bk
section
variable {P : Program} {w : World} {K : PySem.W.Frag} {mg : Str → Option Value} {base : Heap}

/-- who spoils, whoever is told beside each person -/
def sp_spoiling (K : PySem.W.Frag) : Sp := fun vs H Q _ => ∃ (r pa : Addr) (rs : List Addr) (n : Nat) (R : Nat → List Nat) (m : List (Option Nat)), vs = [.ref r, .ref pa] ∧ Tbl H r rs (mkL n R) ∧ Lists R ∧ (∀ i x, x ∈ R i → i < n ∧ x < n) ∧ n ≤ 60 ∧
  H pa = some (.lst (m.map ov)) ∧ m.length = n ∧ (∀ i y, mO m i = some y → y ∈ R i) ∧ ∀ H' D, Same H H' → H D = none → PairsAt H' D (spQ n R m n) → Q (.ref D) H'
theorem ok_spoiling (T : Txt P K mg) : FnOk P w K mg base CX0 2 T.a_spoiling T.fd_spoiling ["rows", "mates"] (sp_spoiling K) := by
  have G_places_in : FnOk P w K mg base CX0 1 T.a_places_in T.fd_places_in ["rows"] (sp_places_in K) := ok_places_in T
  have G_would_rather : FnOk P w K mg base CX0 1 T.a_would_rather T.fd_would_rather ["places", "other", "mate"] (sp_rather K) := ok_rather T
  refine T.F_spoiling.ok sc_spoiling (fun vs H Q E h => ?_) (fun cdv A outer s H1 vs Q E hr h => ?_)
  · obtain ⟨r, pa, rs, n, R, m, rfl, _⟩ := h
    rfl
  · obtain ⟨r, pa, rs, n, R, m, rfl, TR, L, Rlt, hn60, hpa, hm, on, q⟩ := h
    refine ⟨_, (pss_cons (ps_set (i := 2) sc_spoiling.nd rfl (.inr rfl) (pe_call G_places_in (hr.mono (by decide)) (by rfl) T.g_places_in T.F_places_in.kp T.b_places_in .nil pass0 (pa_cons (pv 0) pa_nil)))
      (pss_one (ps_ret (pe_lc2 (own := [("one", 3), ("row", 4), ("other", 5)]) (vs1 := [5]) rfl sc_spoiling.nd (kpi_enum (K := K) (by rfl) T.m_enumerate (pa_cons (pv 0) pa_nil)) (blkOk_by (own := [("one", 3), ("row", 4), ("other", 5)]) (N := ["rows", "mates", "places", "one", "row", "other"]) (sc := (defScope s_spoiling)) (by decide +kernel)) (by decide) (fun _ _ _ _ _ => (kpg_tup (K := K) (n := 2) rfl (pgs_cons (pg_name (i := 3) sc_spoiling.nd rfl (by first | exact .inl rfl | exact .inr rfl)) (pgs_cons (pg_name (i := 4) sc_spoiling.nd rfl (by first | exact .inl rfl | exact .inr rfl)) pgs_nil)))) (fun _ _ _ _ _ => pts_nil) (fun _ _ _ _ _ => (kpi_list (K := K) (pe_callB (ksortedI (K := K)) (by rfl) T.m_sorted (by decide +kernel) (pa_cons (pv 4) pa_nil)))) (fun _ _ _ _ _ => (pg_name (i := 5) sc_spoiling.nd rfl (by first | exact .inl rfl | exact .inr rfl))) (fun _ _ _ _ _ => (pts_one (PW.pt (pw_and (pt_cmpR op_lt (pv 3) (pv 5) (nomark _)) (pw_and (pt_val (pe_call G_would_rather (hr.mono (by decide)) (by rfl) T.g_would_rather T.F_would_rather.kp T.b_would_rather .nil pass0 (pa_cons (pe_ix (kix_list (K := K)) (pv 2) (pv 3) (fun _ _ => rfl)) (pa_cons (pv 5) (pa_cons (pe_ix (kix_list (K := K)) (pv 1) (pv 3) (fun _ _ => rfl)) pa_nil))))) (pw_and1 (pt_val (pe_call G_would_rather (hr.mono (by decide)) (by rfl) T.g_would_rather T.F_would_rather.kp T.b_would_rather .nil pass0 (pa_cons (pe_ix (kix_list (K := K)) (pv 2) (pv 5) (fun _ _ => rfl)) (pa_cons (pv 3) (pa_cons (pe_ix (kix_list (K := K)) (pv 1) (pv 5) (fun _ _ => rfl)) pa_nil))))))))))) (fun _ _ _ _ _ => (pe_tup (pa_cons (pv 3) (pa_cons (pv 5) pa_nil)))))))), ?_⟩
    simp only [tLenSetI, cx_K, cx_w, wipe, Int.zero_add, Bool.false_eq_true, if_false, if_true, Bool.not_true, Bool.not_false, tSeq, tAsg, tOp, tVar, tC, tRet, tRetN, tNext, tDrop, tIfS, tB, tTest, tIf, tAnd, tOr, tNot, tAndV, tOrV, tNotV, tUn, tCons, tNil, tCall, tCB, tBM, tBM0, tNoPart, tPart, tSl, tCont, tNever, tTup, tLst, gName, gNil, gCons, gTup, gSub, rI, rI0, rU, rEq, rNe, rIxL, rSlL, rSetL, rLn, rLs, rTs, rIn, rSet0, tSAdd, rSAdd, rSIn, rSNotIn, rRep, rCat, rAppend, rPop, rPopAt, iList, iRng1, iRng2, iEnum, gTup, tIsN, tNotN, tTru, tLstRg, tRg1, tRg2, L2.start, List.map_cons, List.map_nil, List.length_cons, List.length_nil, List.replicate, List.cons_append, List.nil_append, List.getElem?_cons_zero, List.getElem?_cons_succ, List.set_cons_zero, List.set_cons_succ, Option.some.injEq, exists_eq_left', V.int.injEq, V.ref.injEq, V.bl.injEq, List.cons.injEq, exists_and_left, exists_and_right, and_true, true_and, exists_eq_left, exists_eq, Nat.reduceAdd, Nat.reduceSub]
    refine ⟨r, rs, mkL n R, rfl, TR, fun i => ?_, fun i => ?_, by rw [mkL_len]; omega, fun H2 pl ds e2 hP => ?_⟩
    · by_cases z : i < n
      · rw [fn_mkL z]; exact L.nd i
      · rw [fn_out (by rw [mkL_len]; omega)]; exact List.nodup_nil
    · by_cases z : i < n
      · rw [fn_mkL z]
        have := nodup_len (L.nd i) fun x hx => (Rlt i x hx).2
        omega
      · rw [fn_out (by rw [mkL_len]; omega)]; exact Nat.zero_le _
    obtain ⟨hp1, hp2, hp3⟩ := hP
    rw [mkL_len] at hp2
    have TR2 := TR.same e2
    have e02 : Same H1 H2 := e2
    refine ⟨.ref r, rfl, r, _, rfl, SqL.of TR2.top, fun D hD => ?_⟩
    refine ⟨fun i k H3 => k = n - i ∧ i ≤ n ∧ Same H2 H3 ∧ PairsAt H3 D (spQ n R m i), ⟨n, by simp, Nat.zero_le _, same_upd hD, .nil upd_same⟩, ?_⟩
    rintro i k H3 ⟨rfl, hi, e3, hPa⟩
    by_cases hlt : i < n
    rotate_left
    · have : i = n := by omega
      subst this
      refine .inl ⟨⟨_, SqL.of (e3 _ _ TR2.top), by rw [List.length_map, TR2.len, mkL_len]; exact Nat.le_refl _⟩, q H3 D (e02.trans e3) (e2.free hD) hPa⟩
    obtain ⟨a, ha, hra, _, _⟩ := TR2.at (show i < (mkL n R).length by rw [mkL_len]; exact hlt)
    rw [fn_mkL hlt] at hra
    have hai : (rs.map V.ref)[i]? = some (.ref a) := by rw [List.getElem?_map, ha]; rfl
    obtain ⟨Nx, hNx⟩ : ∃ Nx : Hp → Prop, Nx = (fun H' => Same H2 H' ∧ PairsAt H' D (spQ n R m (i + 1))) := ⟨_, rfl⟩
    refine .inr ⟨⟨rs.map V.ref, _, SqL.of (e3 _ _ TR2.top), hai⟩, Nx, fun H' h' => by rw [hNx] at h'; exact ⟨n - (i + 1), by omega, rfl, hlt, h'.1, h'.2⟩, fun v H' hy => ?_⟩
    obtain ⟨TA, x, rfl, hT, rfl, hx⟩ := hy
    have hx' := hx _ (SqL.of (e3 _ _ TR2.top))
    rw [hai] at hx'
    cases hx'
    have e4 : Same H2 (upd H3 TA (.tup [.int (i : Nat), .ref a])) := same_upd2 e3 (e3.free hT)
    have hPa4 : PairsAt (upd H3 TA (.tup [.int (i : Nat), .ref a])) D (spQ n R m i) := hPa.same (same_upd hT)
    refine ⟨TA, _, rfl, SqT.of upd_same, rfl, _, _, rfl, _, _, rfl, rfl, rfl, ?_⟩
    generalize upd H3 TA (.tup [.int (i : Nat), .ref a]) = H4 at e4 hPa4
    refine yesI ⟨.ref a, rfl, a, (R i).map Int.ofNat, rfl, SqL.of (by rw [map_nv']; exact e4 _ _ hra), fun ns' p hperm hsort hp => ?_⟩
    have hpD : p ≠ D := fun z => by
      obtain ⟨_, z2, _⟩ := hPa4.ex
      rw [z, z2] at hp
      cases hp
    obtain ⟨sr, rfl, hsr⟩ := perm_nat hperm
    have hsr2 : sr.Pairwise (· ≤ ·) := by
      rw [List.pairwise_map] at hsort
      exact hsort.imp fun h => Int.ofNat_le.mp h
    rw [map_nv']
    have hrow := sort_row (m := m) (n := n) L (fun x hx => (Rlt i x hx).2) hsr hsr2
    have slen : sr.length ≤ 60 := by
      rw [hsr.length_eq]
      have := nodup_len (L.nd i) fun x hx => (Rlt i x hx).2
      omega
    refine ⟨p, rfl, ⟨_, SqL.of upd_same⟩, fun j k H5 => k = sr.length - j ∧ j ≤ sr.length ∧ Same H2 H5 ∧ H5 p = some (.lst (sr.map nv)) ∧ PairsAt H5 D (spQ n R m i ++ ((sr.take j).filter (spP R m i)).map fun o => (i, o)), ⟨sr.length, by simp, Nat.zero_le _, same_upd2 e4 (e4.free hp), upd_same, ?_⟩, ?_⟩
    · rw [List.take_zero, List.filter_nil, List.map_nil, List.append_nil]
      exact hPa4.same (same_upd hp)
    rintro j k H5 ⟨rfl, hj, e5, hs5, hP5⟩
    by_cases hjl : j < sr.length
    rotate_left
    · have : j = sr.length := by omega
      subst this
      refine .inl ⟨⟨_, SqL.of hs5, by rw [List.length_map]; exact Nat.le_refl _⟩, ?_⟩
      rw [List.take_length, hrow] at hP5
      rw [hNx]
      exact ⟨e5, by rw [spQ_succ]; exact hP5⟩
    obtain ⟨Nx1, hN1⟩ : ∃ Nx : Hp → Prop, Nx = (fun H' => Same H2 H' ∧ H' p = some (.lst (sr.map nv)) ∧ PairsAt H' D (spQ n R m i ++ ((sr.take (j + 1)).filter (spP R m i)).map fun o => (i, o))) := ⟨_, rfl⟩
    have hjs : sr[j]? = some sr[j] := List.getElem?_eq_getElem hjl
    refine .inr ⟨⟨sr.map nv, nv sr[j], SqL.of hs5, by rw [List.getElem?_map, hjs]; rfl⟩, Nx1, fun H' h' => by rw [hN1] at h'; exact ⟨sr.length - (j + 1), by omega, rfl, hjl, h'.1, h'.2⟩, fun v H' hy => ?_⟩
    obtain ⟨rfl, hv⟩ := hy
    have hv' := hv _ (SqL.of hs5)
    rw [List.getElem?_map, hjs] at hv'
    cases hv'
    have hom : sr[j] ∈ R i := hsr.mem_iff.mp (List.getElem_mem hjl)
    obtain ⟨o, ho⟩ : ∃ o, o = sr[j] := ⟨_, rfl⟩
    rw [← ho] at hom hjs ⊢
    have hon := (Rlt i o hom).2
    refine ⟨rfl, ?_⟩
    have et : sr.take (j + 1) = sr.take j ++ [o] := by rw [List.take_add_one, hjs]; rfl
    have hno : spP R m i o = false → Nx1 H' := fun z => by
      rw [hN1]
      refine ⟨e5, hs5, ?_⟩
      rw [et, List.filter_append, List.filter_cons, z]
      simpa using hP5
    have dict : ∀ x, x < n → ∃ d kvs, atI (ds.map V.ref) (x : Int) = some (.ref d) ∧ H' d = some (.dK kvs) ∧ PlaceD kvs (R x) := fun x hx => by
      have hxd : x < ds.length := by omega
      obtain ⟨kvs, h1, h2⟩ := hp3 x ds[x] (List.getElem?_eq_getElem hxd)
      rw [fn_mkL hx] at h2
      exact ⟨ds[x], kvs, atI_nat (by rw [List.getElem?_map, List.getElem?_eq_getElem hxd]; rfl), e5 _ _ h1, h2⟩
    have hpl : SqL K H' pl (ds.map V.ref) := SqL.of (e5 _ _ hp1)
    have hpm : SqL K H' pa (m.map ov) := SqL.of ((e02.trans e5) _ _ hpa)
    have mat : ∀ x, x < n → atI (m.map ov) (x : Int) = some (ov (mO m x)) := fun x hx => atI_nat (by rw [List.getElem?_map, mO_at (by omega)]; rfl)
    simp only [tLenSetI, cx_K, cx_w, wipe, Int.zero_add, Bool.false_eq_true, if_false, if_true, Bool.not_true, Bool.not_false, tSeq, tAsg, tOp, tVar, tC, tRet, tRetN, tNext, tDrop, tIfS, tB, tTest, tIf, tAnd, tOr, tNot, tAndV, tOrV, tNotV, tUn, tCons, tNil, tCall, tCB, tBM, tBM0, tNoPart, tPart, tSl, tCont, tNever, tTup, tLst, gName, gNil, gCons, gTup, gSub, rI, rI0, rU, rEq, rNe, rIxL, rSlL, rSetL, rLn, rLs, rTs, rIn, rSet0, tSAdd, rSAdd, rSIn, rSNotIn, rRep, rCat, rAppend, rPop, rPopAt, iList, iRng1, iRng2, iEnum, gTup, tIsN, tNotN, tTru, tLstRg, tRg1, tRg2, L2.start, List.map_cons, List.map_nil, List.length_cons, List.length_nil, List.replicate, List.cons_append, List.nil_append, List.getElem?_cons_zero, List.getElem?_cons_succ, List.set_cons_zero, List.set_cons_succ, Option.some.injEq, exists_eq_left', V.int.injEq, V.ref.injEq, V.bl.injEq, List.cons.injEq, exists_and_left, exists_and_right, and_true, true_and, exists_eq_left, exists_eq, Nat.reduceAdd, Nat.reduceSub]
    have spo : spP R m i o = (decide (i < o) && (rather (R i) o (mO m i) && rather (R o) i (mO m o))) := rfl
    by_cases h1 : i < o
    rotate_left
    · rw [decide_eq_false (show ¬ (i : Int) < (o : Int) by omega)]
      exact iteF (hno (by rw [spo, decide_eq_false h1]; rfl))
    rw [decide_eq_true (show (i : Int) < (o : Int) by omega)]
    obtain ⟨d1, kv1, da1, dh1, dp1⟩ := dict i hlt
    obtain ⟨d2, kv2, da2, dh2, dp2⟩ := dict o hon
    refine iteT ⟨_, hpl, _, da1, _, hpm, _, mat i hlt, d1, kv1, R i, o, mO m i, rfl, dh1, dp1, hom, fun y hy => on i y hy, _, rfl, ?_⟩
    cases h2 : rather (R i) o (mO m i) with
    | false => exact iteF (hno (by rw [spo, h2, Bool.false_and, Bool.and_false]))
    | true =>
      refine iteT ⟨_, hpl, _, da2, _, hpm, _, mat o hon, d2, kv2, R o, i, mO m o, rfl, dh2, dp2, L.mu _ _ hom, fun y hy => on o y hy, _, rfl, ?_⟩
      cases h3 : rather (R o) i (mO m o) with
      | false => exact iteF (hno (by rw [spo, h2, h3, Bool.and_false, Bool.and_false]))
      | true =>
        obtain ⟨ps, hps, hl2, h5⟩ := hP5.ex
        refine iteT ⟨by decide, fun TB2 hTB2 => ⟨ps.map V.ref, by rw [upd_ne (ne_of_none hps hTB2)]; exact hps, ?_, ?_⟩⟩
        · rw [List.length_map, hl2, List.length_append, List.length_map]
          have g1 := spQ_len n R m i
          have g2 : ((sr.take j).filter (spP R m i)).length ≤ 60 := Nat.le_trans (List.length_filter_le _ _) (by rw [List.length_take]; omega)
          have g3 : i * n ≤ 60 * 60 := Nat.mul_le_mul (by omega) (by omega)
          exact small (by omega)
        · rw [hN1]
          refine ⟨fun b o' ho' => ?_, ?_, ?_⟩
          · rw [upd_ne (ne_of_none ho' hD), upd_ne (ne_of_none (e5 _ _ ho') hTB2)]
            exact e5 b o' ho'
          · rw [upd_ne hpD, upd_ne (ne_of_none hs5 hTB2)]
            exact hs5
          · rw [et, List.filter_append, List.filter_cons, spo, h2, h3, decide_eq_true h1]
            rw [show ((if (true && (true && true)) = true then o :: List.filter (spP R m i) [] else List.filter (spP R m i) []) : List Nat) = [o] from rfl, List.map_append, ← List.append_assoc]
            exact pairs_snoc hps hl2 h5 hTB2
end
end K6g

set_option Elab.async false
set_option linter.all false
set_option maxRecDepth 100000
set_option maxHeartbeats 4000000
namespace K6
open K6g PySem PySem.Spec PyProof.Rows L2 LamX Bk
section
variable {P : Program} {w : World} {K : PySem.W.Frag} {mg : Str → Option Value} {base : Heap}

/-- all good pairings, or how the lists are refused -/
def sp_allgood (K : PySem.W.Frag) (CL CM : Addr) : Sp := fun vs H Q E => ∃ x : V, vs = [x] ∧ ((∃ v, ListsBad K H x v ∧ Out CL E H v) ∨
  ∃ (t : Addr) (as : List Addr) (rows : List (List Nat)), x = .ref t ∧ Tbl H t as rows ∧ GL rows ∧ rows.length ≤ 60 ∧
    ((10 < rows.length ∧ ∀ H', Same H H' → E (.ref CM) none H') ∨
     (rows.length ≤ 10 ∧ (∀ i, (fn (mutL rows) i).length ≤ 6) ∧ (∀ i, 7 ≤ i → fn (mutL rows) i = []) ∧
      ∀ H' D ds, Same H H' → H D = none → PgsAt H' D ds (dueL (fn (mutL rows)) rows.length) → (∀ a ∈ ds, H a = none) → Q (.ref D) H')))
theorem ok_allgood (T : Txt P K mg) : FnOk P w K mg base (L2.CX P w) 6 T.a_all_good T.fd_all_good ["lists"] (sp_allgood K T.C_BadLists T.C_TooMany) := by
  have G_mutual : FnOk P w K mg base (L2.CX P w) 4 T.a_mutual T.fd_mutual ["lists"] (sp_mutual K T.C_BadLists) := ok_mutual T
  have G_offered : FnOk P w K mg base CX0 5 T.a_offered T.fd_offered ["lists"] (sp_offered K) := ok_offered T
  have G_pairings_in : FnOk P w K mg base CX0 2 T.a_pairings_in T.fd_pairings_in ["rows"] (sp_pairingsin K) := ok_pairingsin T
  have G_spoiling : FnOk P w K mg base CX0 2 T.a_spoiling T.fd_spoiling ["rows", "mates"] (sp_spoiling K) := ok_spoiling T
  refine T.F_all_good.okX sc_all_good (fun vs H Q E h => ?_) (fun cdv A outer s H vs Q E hr h => ?_)
  · obtain ⟨x, rfl, _⟩ := h
    rfl
  · obtain ⟨x, rfl, h⟩ := h
    refine ⟨_, (pss_cons (ps_set (i := 1) sc_all_good.nd rfl (.inr rfl) (pe_callS G_mutual (hr.mono (by decide)) (by rfl) T.g_mutual T.F_mutual.kp T.b_mutual (fun σ => passAt (takes_of rfl rfl rfl rfl) σ) (pa_cons (pv 0) pa_nil)))
      (pss_cons (ps_if (pt_cmpR op_gt (pe_callB (klen (K := K)) (by rfl) T.m_len (by decide +kernel) (pa_cons (pv 1) pa_nil)) (pe_glob (v := .int 10) rfl T.mostSG ⟨_, rfl⟩) (nomark _)) (pss_one (ps_raise rfl (takes_of rfl rfl rfl rfl) (SkE.pmk_own1 PySem.F.excBase_ValueError T.k_TooMany.q T.g_TooMany T.k_TooMany.kC (raises_own T.k_TooMany.b T.k_TooMany.t) (by rfl) (pe_joined (.cons pe_str (.cons (pe_fmt (pe_glob (v := .int 10) rfl T.mostSG ⟨_, rfl⟩)) (.cons pe_str .nil))))))) pss_nil)
      (pss_one (ps_ret (pe_lc (own := [("pairing", 2)]) rfl sc_all_good.nd (kpi_list (K := K) (pe_call G_pairings_in (hr.mono (by decide)) (by rfl) T.g_pairings_in T.F_pairings_in.kp T.b_pairings_in .nil pass0 (pa_cons (pe_call G_offered (hr.mono (by decide)) (by rfl) T.g_offered T.F_offered.kp T.b_offered .nil pass0 (pa_cons (pv 0) pa_nil)) pa_nil))) (blkOk_by (own := [("pairing", 2)]) (N := ["lists", "rows", "pairing"]) (sc := (defScope s_all_good)) (by decide +kernel)) (fun _ _ _ _ _ => (pg_name (i := 2) sc_all_good.nd rfl (by first | exact .inl rfl | exact .inr rfl))) (fun _ _ _ _ _ => (pts_one (pt_not (kpt_tru (K := K) (pe_call G_spoiling (hr.mono (by decide)) (by rfl) T.g_spoiling T.F_spoiling.kp T.b_spoiling .nil pass0 (pa_cons (pv 1) (pa_cons (pv 2) pa_nil))))))) (fun _ _ _ _ _ => (pv 2))))))), ?_⟩
    simp only [tRaiseErr, tMkErr, tCallS, WE, tLenSetI, cx_K, cx_w, wipe, Int.zero_add, Bool.false_eq_true, if_false, if_true, Bool.not_true, Bool.not_false, tSeq, tAsg, tOp, tVar, tC, tRet, tRetN, tNext, tDrop, tIfS, tB, tTest, tIf, tAnd, tOr, tNot, tAndV, tOrV, tNotV, tUn, tCons, tNil, tCall, tCB, tBM, tBM0, tNoPart, tPart, tSl, tCont, tNever, tTup, tLst, gName, gNil, gCons, gTup, gSub, rI, rI0, rU, rEq, rNe, rIxL, rSlL, rSetL, rLn, rLs, rTs, rIn, rSet0, tSAdd, rSAdd, rSIn, rSNotIn, rRep, rCat, rAppend, rPop, rPopAt, iList, iRng1, iRng2, iEnum, gTup, tIsN, tNotN, tTru, tLstRg, tRg1, tRg2, L2.start, List.map_cons, List.map_nil, List.length_cons, List.length_nil, List.replicate, List.cons_append, List.nil_append, List.getElem?_cons_zero, List.getElem?_cons_succ, List.set_cons_zero, List.set_cons_succ, Option.some.injEq, exists_eq_left', V.int.injEq, V.ref.injEq, V.bl.injEq, List.cons.injEq, exists_and_left, exists_and_right, and_true, true_and, exists_eq_left, exists_eq, Nat.reduceAdd, Nat.reduceSub]
    rcases h with ⟨v, hb, q⟩ | ⟨t, as, rows, rfl, TB, g, hl, h⟩
    · exact ⟨x, rfl, .inr ⟨v, hb, q⟩⟩
    obtain ⟨n, hn⟩ : ∃ n, n = rows.length := ⟨_, rfl⟩
    rw [← hn] at hl h
    obtain ⟨R, hR⟩ : ∃ R, R = fn (mutL rows) := ⟨_, rfl⟩
    have L : Lists R := by rw [hR]; exact lists_mut g
    have Rlt : ∀ i x, x ∈ R i → i < n ∧ x < n := fun i x hx => by rw [hR] at hx; rw [hn]; exact mut_lt g hx
    have hmR : mutL rows = mkL n R := by
      have := mkL_fn (mutL rows)
      rw [mutL_len] at this
      rw [hn, hR]
      exact this.symm
    rw [← hR] at h
    refine ⟨_, rfl, .inl ⟨t, as, rows, rfl, TB, g, by omega, fun H1 r rs e1 hr1 hrs1 TR => ?_⟩⟩
    rw [hmR] at TR
    have hrl : (rs.map V.ref).length = n := by rw [List.length_map, TR.len, mkL_len]
    refine ⟨_, rfl, _, .inl (SqL.of TR.top), ?_⟩
    rw [hrl]
    rcases h with ⟨h10, q⟩ | ⟨h10, h6, h7, q⟩
    · rw [decide_eq_true (show (10 : Int) < (n : Int) by omega)]
      refine iteT ⟨_, rfl, by decide +kernel, .inr ⟨10, rfl, by decide, _, rfl, by decide +kernel, _, rfl, by decide +kernel, ?_⟩⟩
      exact q _ e1
    rw [decide_eq_false (show ¬ (10 : Int) < (n : Int) by omega)]
    refine iteF ⟨.ref t, rfl, t, as, rows, rfl, TB.same e1, g, by omega, fun H2 p pas C e2 hp hpas TC off => ?_⟩
    rw [← hn] at TC
    rw [← hR] at off
    have sub := off.dn.tab.sub
    have Clt : ∀ i x, x ∈ C i → i < n ∧ x < n := fun i x hx => Rlt i x ((sub i).subset hx)
    have C6 : ∀ i, (C i).length ≤ 6 := fun i => Nat.le_trans (sub i).length_le (h6 i)
    have C7 : ∀ i, 7 ≤ i → C i = [] := fun i hi => by
      have := sub i
      rw [h7 i hi] at this
      exact List.sublist_nil.mp this
    have ir := off.dn.tab.ir L
    refine ⟨p, pas, n, C, rfl, TC, h10, off.dn.tab.mu, ir, Clt, C6, C7, fun H3 D0 ds e3 hD0 hP hds => ?_⟩
    have e03 : Same H H3 := (e1.trans e2).trans e3
    have Ik := pin_ik off.dn.tab.mu ir Clt n (Nat.le_refl _)
    obtain ⟨Pm, hPm⟩ : ∃ Pm : Pg → Bool, Pm = fun m => decide (spQ n R m n = []) := ⟨_, rfl⟩
    have big : (pin n C n).length ≤ 300000 := Nat.le_trans (pin_len C6 C7 n) (Nat.le_trans (Nat.pow_le_pow_right (by decide) (Nat.min_le_right _ _)) (by decide))
    refine ⟨D0, rfl, ⟨_, SqL.of hP.top⟩, fun D hD => lc_list (K := K) (xs := ds.map V.ref) (fun i H4 => Same H3 H4 ∧ ∃ gs, PgsAt H4 D gs (((pin n C n).take i).filter Pm) ∧ ∀ a ∈ gs, H a = none) ⟨same_upd hD, [], .nil upd_same, by simp⟩ (fun i H4 _ h => h.1.seq (SqL.of hP.top)) (fun i x H4 hx h => ?_) (fun H4 h => ?_)⟩
    · obtain ⟨e4, gs, hG, hgs⟩ := h
      rw [List.getElem?_map] at hx
      obtain ⟨b, hb, rfl⟩ := Option.map_eq_some_iff.mp hx
      have hi : i < (pin n C n).length := by rw [← hP.len]; exact (List.getElem?_eq_some_iff.mp hb).1
      obtain ⟨m, hm⟩ : ∃ m, (pin n C n)[i]? = some m := ⟨_, List.getElem?_eq_getElem hi⟩
      have hrb := e4 _ _ (hP.row i b m hb hm)
      have Im := Ik m (List.mem_of_getElem? hm)
      have et : ((pin n C n).take (i + 1)).filter Pm = ((pin n C n).take i).filter Pm ++ [m].filter Pm := by
        rw [List.take_add_one, hm, List.filter_append]; rfl
      refine ⟨rfl, ?_⟩
      simp only [tRaiseErr, tMkErr, tCallS, WE, tLenSetI, cx_K, cx_w, wipe, Int.zero_add, Bool.false_eq_true, if_false, if_true, Bool.not_true, Bool.not_false, tSeq, tAsg, tOp, tVar, tC, tRet, tRetN, tNext, tDrop, tIfS, tB, tTest, tIf, tAnd, tOr, tNot, tAndV, tOrV, tNotV, tUn, tCons, tNil, tCall, tCB, tBM, tBM0, tNoPart, tPart, tSl, tCont, tNever, tTup, tLst, gName, gNil, gCons, gTup, gSub, rI, rI0, rU, rEq, rNe, rIxL, rSlL, rSetL, rLn, rLs, rTs, rIn, rSet0, tSAdd, rSAdd, rSIn, rSNotIn, rRep, rCat, rAppend, rPop, rPopAt, iList, iRng1, iRng2, iEnum, gTup, tIsN, tNotN, tTru, tLstRg, tRg1, tRg2, L2.start, List.map_cons, List.map_nil, List.length_cons, List.length_nil, List.replicate, List.cons_append, List.nil_append, List.getElem?_cons_zero, List.getElem?_cons_succ, List.set_cons_zero, List.set_cons_succ, Option.some.injEq, exists_eq_left', V.int.injEq, V.ref.injEq, V.bl.injEq, List.cons.injEq, exists_and_left, exists_and_right, and_true, true_and, exists_eq_left, exists_eq, Nat.reduceAdd, Nat.reduceSub]
      refine ⟨r, b, rs, n, R, m, rfl, ((TR.same e2).same e3).same e4, L, Rlt, by omega, hrb, Im.len, fun i y hy => (sub i).subset (Im.on i y hy), fun H5 Ds e5 hDs hPs => ?_⟩
      obtain ⟨us, hus, hul, _⟩ := hPs.ex
      refine ⟨_, .inl ⟨_, SqL.of hus, rfl⟩, ?_⟩
      have hG5 := hG.same e5
      have nbD : b ≠ D := fun z => by
        obtain ⟨q', _, hq'⟩ := hP.mem (List.mem_of_getElem? hb)
        rw [z, hD] at hq'
        cases hq'
      have ePm : Pm m = decide (spQ n R m n = []) := by rw [hPm]
      by_cases c : spQ n R m n = []
      · have : us = [] := List.length_eq_zero_iff.mp (by rw [hul, c]; rfl)
        rw [show (!(us.map V.ref).isEmpty) = false by rw [this]; rfl]
        refine iteT ⟨_, hG5.top, ?_, fun b' o ho => ?_, gs ++ [b], ?_, fun a ha => ?_⟩
        · rw [List.length_map, hG5.len]
          have h1 : (((pin n C n).take i).filter Pm).length ≤ (pin n C n).length := Nat.le_trans (List.length_filter_le _ _) (by rw [List.length_take]; omega)
          have : 300000 < sizeLine := by decide
          omega
        · rw [upd_ne (ne_of_none ho hD)]
          exact e5 _ _ (e4 _ _ ho)
        · rw [et, List.filter_cons, if_pos (by rw [ePm, decide_eq_true c]), List.filter_nil]
          exact hG5.snoc (e5 _ _ hrb) nbD
        · rcases List.mem_append.mp ha with z | z
          · exact hgs a z
          · rw [List.mem_singleton.mp z]
            exact (e1.trans e2).free (hds b (List.mem_of_getElem? hb))
      · rw [show (!(us.map V.ref).isEmpty) = true by
          cases us with
          | nil => exact absurd (List.length_eq_zero_iff.mp hul.symm) c
          | cons _ _ => rfl]
        refine iteF ⟨e4.trans e5, gs, ?_, hgs⟩
        rw [et, List.filter_cons, if_neg (by rw [ePm, decide_eq_false c]; decide), List.filter_nil, List.append_nil]
        exact hG5
    · obtain ⟨e4, gs, hG, hgs⟩ := h
      rw [List.length_map, hP.len, List.take_length, hPm, all_good L Rlt off] at hG
      exact q H4 D gs (e03.trans e4) (e03.free hD) hG hgs
end
end K6

set_option Elab.async false
set_option linter.all false
set_option maxRecDepth 100000
set_option maxHeartbeats 4000000
namespace K6
open K6g PySem PySem.Spec PyProof.Rows L2 LamX Bk
section
variable {P : Program} {w : World} {K : PySem.W.Frag} {mg : Str → Option Value} {base : Heap}

/-- how the lists are refused -/
def sp_refused (K : PySem.W.Frag) : Sp := fun vs H Q _ => ∃ (x : V), vs = [x] ∧ ((∃ v, ListsBad K H x v ∧ ∀ H', Same H H' → Q (.str "lists") H') ∨
  ∃ (t : Addr) (as : List Addr) (rows : List (List Nat)), x = .ref t ∧ Tbl H t as rows ∧ GL rows ∧ rows.length ≤ 60 ∧
    ((10 < rows.length ∧ ∀ H', Same H H' → Q (.str "many") H') ∨ (rows.length ≤ 10 ∧ (∀ i, (fn (mutL rows) i).length ≤ 6) ∧ (∀ i, 7 ≤ i → fn (mutL rows) i = []) ∧ ∀ H', Same H H' → Q (.str "none") H')))
theorem ok_refused (T : Txt P K mg) : FnOk P w K mg base CX0 7 T.a__law_refused T.fd__law_refused ["_law_lists_here"] (sp_refused K) := by
  have G_all_good : FnOk P w K mg base (L2.CX P w) 6 T.a_all_good T.fd_all_good ["lists"] (sp_allgood K T.C_BadLists T.C_TooMany) := ok_allgood T
  refine T.F__law_refused.ok sc__law_refused (fun vs H Q E h => ?_) (fun cdv A outer s H vs Q E hr h => ?_)
  · obtain ⟨x, rfl, _⟩ := h
    rfl
  · obtain ⟨x, rfl, h⟩ := h
    refine ⟨_, (pss_cons (ps_set (i := 1) sc__law_refused.nd rfl (.inl rfl) pe_non)
      (C8.pss_cut (ps_try_asV (i := 2) rfl rfl rfl sc__law_refused.nd rfl rfl ⟨rfl, by decide, .inl T.g_BunkError⟩ L2.takes0 (fun W pn xe tk _ => (pss_one (ps_expr (pe_callS G_all_good (hr.mono (by decide)) (by rfl) T.g_all_good T.F_all_good.kp T.b_all_good (fun σ => passAt tk σ) (pa_cons (pv 0) pa_nil))))) (fun ea oe cls d pn hz hf => (pss_one (ps_set (i := 1) sc__law_refused.nd rfl (.inl rfl) (pv 2)))))
      (pss_cons (ps_if (PW.pt (pw_or (pt_cmp (pc_isN (pv 1))) (pw_or1 (pt_not (pt_val (pe_callB (kish2 (K := K)) (by rfl) T.m_isinstance (by decide +kernel) (pa_cons (pv 1) (pa_cons (pe_bltn (v := .ty "ValueError") (by rfl) T.m_ValueError (by decide +kernel) rfl) pa_nil)))))))) (pss_one (ps_ret pe_str)) pss_nil)
      (pss_cons (ps_set (i := 3) sc__law_refused.nd rfl (.inl rfl) (pe_lst (pa_cons (pe_callB (kish2 (K := K)) (by rfl) T.m_isinstance (by decide +kernel) (pa_cons (pv 1) (pa_cons (pe_glob (v := .ref T.C_TooMany) (by rfl) T.g_TooMany rfl) pa_nil))) (pa_cons (pe_callB (kish2 (K := K)) (by rfl) T.m_isinstance (by decide +kernel) (pa_cons (pv 1) (pa_cons (pe_glob (v := .ref T.C_BadLists) (by rfl) T.g_BadLists rfl) pa_nil))) (pa_cons (pe_callB (kish2 (K := K)) (by rfl) T.m_isinstance (by decide +kernel) (pa_cons (pv 1) (pa_cons (pe_glob (v := .ref T.C_BadPairing) (by rfl) T.g_BadPairing rfl) pa_nil))) pa_nil)))))
      (pss_cons (ps_if (pt_cmpR op_ne (pe_bm PySem.F.plainAttrs_list PySem.F.slot_list_count PySem.F.type_list_count (mt_countF (K := K)) (pv 3) (pa_cons pe_bl pa_nil)) pe_int (nomark _)) (pss_one (ps_ret pe_str)) pss_nil)
      (pss_one (ps_ret (pe_ix (kix_list (K := K)) (pe_lst (pa_cons pe_str (pa_cons pe_str (pa_cons pe_str pa_nil)))) (pe_bm PySem.F.plainAttrs_list PySem.F.slot_list_index PySem.F.type_list_index mt_index (pv 3) (pa_cons pe_bl pa_nil)) (fun _ _ => rfl))))))))), ?_⟩
    obtain ⟨M, hM⟩ : ∃ M : L2.St → Hp → Prop, M = (fun σ H2 => (σ = [some x, some .non, none, none] ∧ Same H H2 ∧ Q (.str "none") H2) ∨ ∃ (ea C : Addr) (d : Option Addr), σ = [some x, some (.ref ea), none, none] ∧ Same H H2 ∧ H2 ea = some (HeldE (.ref C) d ea) ∧ (∀ dd, d = some dd → ∃ fs, H2 dd = some (.xd fs)) ∧
      ((C = T.C_BadLists ∧ ∀ H', Same H H' → Q (.str "lists") H') ∨ (C = T.C_TooMany ∧ ∀ H', Same H H' → Q (.str "many") H'))) := ⟨_, rfl⟩
    refine ⟨M, ?_, fun σ H2 h2 => ?_⟩
    · simp only [tRaiseErr, tMkErr, tCallS, WE, tLenSetI, cx_K, cx_w, wipe, Int.zero_add, Bool.false_eq_true, if_false, if_true, Bool.not_true, Bool.not_false, tSeq, tAsg, tOp, tVar, tC, tRet, tRetN, tNext, tDrop, tIfS, tB, tTest, tIf, tAnd, tOr, tNot, tAndV, tOrV, tNotV, tUn, tCons, tNil, tCall, tCB, tBM, tBM0, tNoPart, tPart, tSl, tCont, tNever, tTup, tLst, gName, gNil, gCons, gTup, gSub, rI, rI0, rU, rEq, rNe, rIxL, rSlL, rSetL, rLn, rLs, rTs, rIn, rSet0, tSAdd, rSAdd, rSIn, rSNotIn, rRep, rCat, rAppend, rPop, rPopAt, iList, iRng1, iRng2, iEnum, gTup, tIsN, tNotN, tTru, tLstRg, tRg1, tRg2, L2.start, List.map_cons, List.map_nil, List.length_cons, List.length_nil, List.replicate, List.cons_append, List.nil_append, List.getElem?_cons_zero, List.getElem?_cons_succ, List.set_cons_zero, List.set_cons_succ, Option.some.injEq, exists_eq_left', V.int.injEq, V.ref.injEq, V.bl.injEq, List.cons.injEq, exists_and_left, exists_and_right, and_true, true_and, exists_eq_left, exists_eq, Nat.reduceAdd, Nat.reduceSub]
      rcases h with ⟨v, hb, q⟩ | ⟨t, as, rows, rfl, TB, g, hl, h⟩
      · refine ⟨x, rfl, .inl ⟨v, hb, fun H' d e h1 h2 => ⟨true, T.k_BadLists.be, fun _ ea hea => ⟨.ref ea, rfl, fun _ => ?_⟩, fun z => by cases z⟩⟩⟩
        rw [hM]
        exact .inr ⟨ea, _, some d, rfl, same_upd2 e (e.free hea), upd_same, (fun dd hdd => by cases hdd; exact ⟨_, by rw [upd_ne (ne_of_none h1 hea)]; exact h1⟩), .inl ⟨rfl, q⟩⟩
      refine ⟨_, rfl, .inr ⟨t, as, rows, rfl, TB, g, hl, ?_⟩⟩
      rcases h with ⟨h10, q⟩ | ⟨h10, h6, h7, q⟩
      · refine .inl ⟨h10, fun H' e => ⟨true, T.k_TooMany.be, fun _ ea hea => ⟨.ref ea, rfl, fun _ => ?_⟩, fun z => by cases z⟩⟩
        rw [hM]
        exact .inr ⟨ea, _, none, rfl, same_upd2 e (e.free hea), upd_same, (fun dd hdd => by cases hdd), .inr ⟨rfl, q⟩⟩
      · refine .inr ⟨h10, h6, h7, fun H' D ds e hD hP hds => ?_⟩
        rw [hM]
        exact .inl ⟨rfl, e, q _ e⟩
    · rw [hM] at h2
      clear h hM M
      rcases h2 with ⟨rfl, e, hq⟩ | ⟨ea, C, d, rfl, e, he, hd, hc⟩
      · simp only [tRaiseErr, tMkErr, tCallS, WE, tLenSetI, cx_K, cx_w, wipe, Int.zero_add, Bool.false_eq_true, if_false, if_true, Bool.not_true, Bool.not_false, tSeq, tAsg, tOp, tVar, tC, tRet, tRetN, tNext, tDrop, tIfS, tB, tTest, tIf, tAnd, tOr, tNot, tAndV, tOrV, tNotV, tUn, tCons, tNil, tCall, tCB, tBM, tBM0, tNoPart, tPart, tSl, tCont, tNever, tTup, tLst, gName, gNil, gCons, gTup, gSub, rI, rI0, rU, rEq, rNe, rIxL, rSlL, rSetL, rLn, rLs, rTs, rIn, rSet0, tSAdd, rSAdd, rSIn, rSNotIn, rRep, rCat, rAppend, rPop, rPopAt, iList, iRng1, iRng2, iEnum, gTup, tIsN, tNotN, tTru, tLstRg, tRg1, tRg2, L2.start, List.map_cons, List.map_nil, List.length_cons, List.length_nil, List.replicate, List.cons_append, List.nil_append, List.getElem?_cons_zero, List.getElem?_cons_succ, List.set_cons_zero, List.set_cons_succ, Option.some.injEq, exists_eq_left', V.int.injEq, V.ref.injEq, V.bl.injEq, List.cons.injEq, exists_and_left, exists_and_right, and_true, true_and, exists_eq_left, exists_eq, Nat.reduceAdd, Nat.reduceSub]
        exact iteT hq
      obtain ⟨isM, isL, kE, kM, kL, kP, kV, hcase⟩ : ∃ isM isL, ExcC K C ∧ PySem.W.kitOne K (.ref C) (.ref T.C_TooMany) = some isM ∧ PySem.W.kitOne K (.ref C) (.ref T.C_BadLists) = some isL ∧ PySem.W.kitOne K (.ref C) (.ref T.C_BadPairing) = some false ∧ PySem.W.kitOne K (.ref C) (.type "ValueError") = some true ∧
          ((isM = true ∧ isL = false ∧ ∀ H', Same H H' → Q (.str "many") H') ∨ (isM = false ∧ isL = true ∧ ∀ H', Same H H' → Q (.str "lists") H')) := by
        rcases hc with ⟨rfl, q⟩ | ⟨rfl, q⟩
        · exact ⟨false, true, T.k_BadLists.e, T.k_BadLists.tm, T.k_BadLists.bl, T.k_BadLists.bp, T.k_BadLists.ve, .inr ⟨rfl, rfl, q⟩⟩
        · exact ⟨true, false, T.k_TooMany.e, T.k_TooMany.tm, T.k_TooMany.bl, T.k_TooMany.bp, T.k_TooMany.ve, .inl ⟨rfl, rfl, q⟩⟩
      simp only [tRaiseErr, tMkErr, tCallS, WE, tLenSetI, cx_K, cx_w, wipe, Int.zero_add, Bool.false_eq_true, if_false, if_true, Bool.not_true, Bool.not_false, tSeq, tAsg, tOp, tVar, tC, tRet, tRetN, tNext, tDrop, tIfS, tB, tTest, tIf, tAnd, tOr, tNot, tAndV, tOrV, tNotV, tUn, tCons, tNil, tCall, tCB, tBM, tBM0, tNoPart, tPart, tSl, tCont, tNever, tTup, tLst, gName, gNil, gCons, gTup, gSub, rI, rI0, rU, rEq, rNe, rIxL, rSlL, rSetL, rLn, rLs, rTs, rIn, rSet0, tSAdd, rSAdd, rSIn, rSNotIn, rRep, rCat, rAppend, rPop, rPopAt, iList, iRng1, iRng2, iEnum, gTup, tIsN, tNotN, tTru, tLstRg, tRg1, tRg2, L2.start, List.map_cons, List.map_nil, List.length_cons, List.length_nil, List.replicate, List.cons_append, List.nil_append, List.getElem?_cons_zero, List.getElem?_cons_succ, List.set_cons_zero, List.set_cons_succ, Option.some.injEq, exists_eq_left', V.int.injEq, V.ref.injEq, V.bl.injEq, List.cons.injEq, exists_and_left, exists_and_right, and_true, true_and, exists_eq_left, exists_eq, Nat.reduceAdd, Nat.reduceSub]
      rw [decide_eq_false (show ¬ V.ref ea = V.non from fun z => by cases z)]
      refine iteF ⟨ea, C, d, .ty "ValueError", .type "ValueError", true, rfl, he, hd, kE, fun u r => r, kV, true, rfl, iteF ?_⟩
      refine ⟨ea, C, d, .ref T.C_TooMany, .ref T.C_TooMany, isM, rfl, he, hd, kE, fun u r => r, kM, ?_⟩
      refine ⟨ea, C, d, .ref T.C_BadLists, .ref T.C_BadLists, isL, rfl, he, hd, kE, fun u r => r, kL, ?_⟩
      refine ⟨ea, C, d, .ref T.C_BadPairing, .ref T.C_BadPairing, false, rfl, he, hd, kE, fun u r => r, kP, by decide, fun p hp => ?_⟩
      refine ⟨.inl ⟨rfl, _, SqL.of upd_same⟩, p, [.bl isM, .bl isL, .bl false], .bl true, rfl, rfl, SqL.of upd_same, rfl, rfl, rfl, ?_⟩
      have cnt : (([V.bl isM, V.bl isL, V.bl false].countP fun z => eqV z (.bl true) : Nat) : Int) = 1 := by
        rcases hcase with ⟨rfl, rfl, _⟩ | ⟨rfl, rfl, _⟩ <;> decide
      rw [cnt, decide_eq_true rfl]
      refine iteF ⟨by decide, fun p1 hp1 => ?_⟩
      have ep : p ≠ p1 := fun z => by rw [← z, upd_same] at hp1; cases hp1
      have sm : Same H (upd (upd H2 p (.lst [.bl isM, .bl isL, .bl false])) p1 (.lst [.str "many", .str "lists", .str "odd"])) := fun b o ho => by
        have h1 := e b o ho
        have h2 : upd H2 p (.lst [.bl isM, .bl isL, .bl false]) b = some o := by rw [upd_ne (ne_of_none h1 hp)]; exact h1
        rw [upd_ne (ne_of_none h2 hp1)]
        exact h2
      have hpp : upd (upd H2 p (.lst [.bl isM, .bl isL, .bl false])) p1 (.lst [.str "many", .str "lists", .str "odd"]) p = some (.lst [.bl isM, .bl isL, .bl false]) := by rw [upd_ne ep, upd_same]
      refine ⟨.inl ⟨rfl, _, SqL.of hpp⟩, ?_⟩
      rcases hcase with ⟨rfl, rfl, q⟩ | ⟨rfl, rfl, q⟩
      · exact ⟨p, _, .bl true, 0, .bl true, rfl, rfl, SqL.of hpp, rfl, rfl, rfl, rfl, fun m z hm _ => absurd hm (Nat.not_lt_zero _), _, 0, rfl, SqL.of upd_same, .str "many", atI_nat (j := 0) rfl, q _ sm⟩
      · refine ⟨p, _, .bl true, 1, .bl true, rfl, rfl, SqL.of hpp, rfl, rfl, rfl, rfl, fun m z hm hz => ?_, _, 1, rfl, SqL.of upd_same, .str "lists", atI_nat (j := 1) rfl, q _ sm⟩
        have : m = 0 := by omega
        subst this
        cases hz
        rfl
end
end K6

set_option Elab.async false
set_option linter.all false
set_option maxRecDepth 100000
set_option maxHeartbeats 4000000
namespace K6g
open K6 PySem PySem.Spec PyProof.Rows L2 LamX Bk
section
variable {P : Program} {w : World} {K : PySem.W.Frag} {mg : Str → Option Value} {base : Heap}

/-- a ring, from one of its people on -/
def sp_ringof (K : PySem.W.Frag) : Sp := fun vs H Q _ => ∃ (h : Addr) (m : List (Option Nat)) (n p : Nat), vs = [.ref h, nv p] ∧ H h = some (.lst (m.map ov)) ∧ m.length = n ∧ n ≤ 60 ∧ Perm1 n (mO m) ∧ (∃ z, mO m p = some z) ∧
  ∀ H' D, Same H H' → H D = none → H' D = some (.lst ((orbL (mO m) p).map nv)) → Q (.ref D) H'
theorem ok_ringof (T : Txt P K mg) : FnOk P w K mg base CX0 1 T.a_ring_of T.fd_ring_of ["half", "first"] (sp_ringof K) := by
  refine T.F_ring_of.ok sc_ring_of (fun vs H Q E h => ?_) (fun cdv A outer s H vs Q E hr h => ?_)
  · obtain ⟨h, m, n, p, rfl, _⟩ := h
    rfl
  · obtain ⟨h, m, n, p, rfl, hh, hl, hn, P1, hp, q⟩ := h
    refine ⟨_, (C8.pss_cut (ps_set (i := 2) sc_ring_of.nd rfl (.inl rfl) (pe_lst (pa_cons (pv 1) pa_nil)))
      (C8.pss_cut (ps_set (i := 3) sc_ring_of.nd rfl (.inl rfl) (pe_ix (kix_list (K := K)) (pv 0) (pv 1) (fun _ _ => rfl)))
      (C8.pss_cut (ps_while PassesOwn.never (pt_cmpR op_ne (pv 3) (pv 1) (nomark _)) (pss_cons (ps_expr (pe_bm PySem.F.plainAttrs_list PySem.F.slot_list_append PySem.F.type_list_append mt_append (pv 2) (pa_cons (pv 3) pa_nil)))
      (pss_one (ps_set (i := 3) sc_ring_of.nd rfl (.inl rfl) (pe_ix (kix_list (K := K)) (pv 0) (pv 3) (fun _ _ => rfl))))))
      (pss_one (ps_ret (pv 2)))))), ?_⟩
    obtain ⟨O, ol⟩ := P1.orbit hp
    obtain ⟨l, hlL⟩ : ∃ l, l = orbL (mO m) p := ⟨_, rfl⟩
    rw [← hlL] at O ol q
    have pn : p < n := by obtain ⟨z, hz⟩ := hp; exact (P1.lt _ _ hz).1
    have mat : ∀ x, x < n → atI (m.map ov) (x : Int) = some (ov (mO m x)) := fun x hx => atI_nat (by rw [List.getElem?_map, mO_at (by omega)]; rfl)
    obtain ⟨wk, hw⟩ : ∃ wk : Nat → Nat, ∀ k, walk (mO m) k p = some (wk k) := ⟨fun k => (P1.def hp k).choose, fun k => (P1.def hp k).choose_spec.1⟩
    have hwl : ∀ k, wk k < n := fun k => P1.walk_lt hp (hw k)
    have hws : ∀ k, mO m (wk k) = some (wk (k + 1)) := fun k => by
      have := hw (k + 1)
      rw [walk_succ, hw k] at this
      exact this
    have hw0 : wk 0 = p := by
      have := hw 0
      exact (Option.some.inj this).symm
    have hlk : ∀ k, k < l.length → l[k]? = some (wk k) := fun k hk => by
      have := O.at_ k _ (List.getElem?_eq_getElem hk)
      rw [hw k] at this
      rw [List.getElem?_eq_getElem hk]
      exact this.symm
    obtain ⟨M, hM⟩ : ∃ M : L2.St → Hp → Prop, M = (fun σ H1 => ∃ D, σ = [some (.ref h), some (nv p), some (.ref D), none] ∧ Same H H1 ∧ H D = none ∧ H1 D = some (.lst ([p].map nv))) := ⟨_, rfl⟩
    refine ⟨M, ?_, fun σ H1 h1 => ?_⟩
    · simp only [tLenSetI, cx_K, cx_w, wipe, Int.zero_add, Bool.false_eq_true, if_false, if_true, Bool.not_true, Bool.not_false, tSeq, tAsg, tOp, tVar, tC, tRet, tRetN, tNext, tDrop, tIfS, tB, tTest, tIf, tAnd, tOr, tNot, tAndV, tOrV, tNotV, tUn, tCons, tNil, tCall, tCB, tBM, tBM0, tNoPart, tPart, tSl, tCont, tNever, tTup, tLst, gName, gNil, gCons, gTup, gSub, rI, rI0, rU, rEq, rNe, rIxL, rSlL, rSetL, rLn, rLs, rTs, rIn, rSet0, tSAdd, rSAdd, rSIn, rSNotIn, rRep, rCat, rAppend, rPop, rPopAt, iList, iRng1, iRng2, iEnum, gTup, tIsN, tNotN, tTru, tLstRg, tRg1, tRg2, L2.start, List.map_cons, List.map_nil, List.length_cons, List.length_nil, List.replicate, List.cons_append, List.nil_append, List.getElem?_cons_zero, List.getElem?_cons_succ, List.set_cons_zero, List.set_cons_succ, Option.some.injEq, exists_eq_left', V.int.injEq, V.ref.injEq, V.bl.injEq, List.cons.injEq, exists_and_left, exists_and_right, and_true, true_and, exists_eq_left, exists_eq, Nat.reduceAdd, Nat.reduceSub]
      refine ⟨by decide, fun D hD => ?_⟩
      rw [hM]
      exact ⟨D, rfl, same_upd hD, hD, upd_same⟩
    rw [hM] at h1
    clear hM M
    obtain ⟨D, rfl, e1, hD0, hD1⟩ := h1
    obtain ⟨M, hM⟩ : ∃ M : L2.St → Hp → Prop, M = (fun σ H2 => σ = [some (.ref h), some (nv p), some (.ref D), some (nv (wk 1))] ∧ H2 = H1) := ⟨_, rfl⟩
    refine ⟨M, ?_, fun σ H2 h2 => ?_⟩
    · simp only [tLenSetI, cx_K, cx_w, wipe, Int.zero_add, Bool.false_eq_true, if_false, if_true, Bool.not_true, Bool.not_false, tSeq, tAsg, tOp, tVar, tC, tRet, tRetN, tNext, tDrop, tIfS, tB, tTest, tIf, tAnd, tOr, tNot, tAndV, tOrV, tNotV, tUn, tCons, tNil, tCall, tCB, tBM, tBM0, tNoPart, tPart, tSl, tCont, tNever, tTup, tLst, gName, gNil, gCons, gTup, gSub, rI, rI0, rU, rEq, rNe, rIxL, rSlL, rSetL, rLn, rLs, rTs, rIn, rSet0, tSAdd, rSAdd, rSIn, rSNotIn, rRep, rCat, rAppend, rPop, rPopAt, iList, iRng1, iRng2, iEnum, gTup, tIsN, tNotN, tTru, tLstRg, tRg1, tRg2, L2.start, List.map_cons, List.map_nil, List.length_cons, List.length_nil, List.replicate, List.cons_append, List.nil_append, List.getElem?_cons_zero, List.getElem?_cons_succ, List.set_cons_zero, List.set_cons_succ, Option.some.injEq, exists_eq_left', V.int.injEq, V.ref.injEq, V.bl.injEq, List.cons.injEq, exists_and_left, exists_and_right, and_true, true_and, exists_eq_left, exists_eq, Nat.reduceAdd, Nat.reduceSub]
      refine ⟨_, SqL.of (e1 _ _ hh), _, mat p pn, ?_⟩
      rw [hM]
      have := hws 0
      rw [hw0] at this
      rw [this]
      exact ⟨rfl, rfl⟩
    rw [hM] at h2
    clear hM M
    obtain ⟨rfl, rfl⟩ := h2
    refine ⟨fun σ H3 => σ[2]? = some (some (.ref D)) ∧ Same H H3 ∧ H3 D = some (.lst (l.map nv)), ?_, fun σ H3 h3 => ⟨_, h3.1, q H3 D h3.2.1 hD0 h3.2.2⟩⟩
    refine ⟨fun k σ H3 => ∃ j, k = l.length - j ∧ 0 < j ∧ j ≤ l.length ∧ σ = [some (.ref h), some (nv p), some (.ref D), some (nv (wk j))] ∧ Same H H3 ∧ H3 D = some (.lst ((l.take j).map nv)), ⟨l.length - 1, 1, rfl, by omega, O.pos, rfl, e1, ?_⟩, fun k σ H3 h3 => ?_⟩
    · rw [hD1]
      have := hlk 0 O.pos
      rw [hw0] at this
      rw [List.take_one, List.head?_eq_getElem?, this]
      rfl
    obtain ⟨j, rfl, hj0, hjl, rfl, e3, hD3⟩ := h3
    simp only [tLenSetI, cx_K, cx_w, wipe, Int.zero_add, Bool.false_eq_true, if_false, if_true, Bool.not_true, Bool.not_false, tSeq, tAsg, tOp, tVar, tC, tRet, tRetN, tNext, tDrop, tIfS, tB, tTest, tIf, tAnd, tOr, tNot, tAndV, tOrV, tNotV, tUn, tCons, tNil, tCall, tCB, tBM, tBM0, tNoPart, tPart, tSl, tCont, tNever, tTup, tLst, gName, gNil, gCons, gTup, gSub, rI, rI0, rU, rEq, rNe, rIxL, rSlL, rSetL, rLn, rLs, rTs, rIn, rSet0, tSAdd, rSAdd, rSIn, rSNotIn, rRep, rCat, rAppend, rPop, rPopAt, iList, iRng1, iRng2, iEnum, gTup, tIsN, tNotN, tTru, tLstRg, tRg1, tRg2, L2.start, List.map_cons, List.map_nil, List.length_cons, List.length_nil, List.replicate, List.cons_append, List.nil_append, List.getElem?_cons_zero, List.getElem?_cons_succ, List.set_cons_zero, List.set_cons_succ, Option.some.injEq, exists_eq_left', V.int.injEq, V.ref.injEq, V.bl.injEq, List.cons.injEq, exists_and_left, exists_and_right, and_true, true_and, exists_eq_left, exists_eq, Nat.reduceAdd, Nat.reduceSub]
    refine ⟨rfl, ?_⟩
    by_cases hjp : wk j = p
    · have hjl2 : j = l.length := by
        apply Classical.byContradiction
        intro hne
        have := O.fst j hj0 (by omega)
        rw [hw j, hjp] at this
        exact this rfl
      rw [decide_eq_true (show (wk j : Int) = (p : Int) by omega)]
      rw [hjl2, List.take_length] at hD3
      exact iteF ⟨e3, hD3⟩
    · have hjl2 : j < l.length := by
        apply Classical.byContradiction
        intro hne
        have hje : j = l.length := by omega
        have := O.back
        rw [← hje, hw j] at this
        exact hjp (Option.some.inj this)
      rw [decide_eq_false (show ¬ (wk j : Int) = (p : Int) by omega)]
      refine iteT ⟨fun σ' H' => ∃ m', m' < l.length - j ∧ ∃ j, m' = l.length - j ∧ 0 < j ∧ j ≤ l.length ∧ σ' = [some (.ref h), some (nv p), some (.ref D), some (nv (wk j))] ∧ Same H H' ∧ H' D = some (.lst ((l.take j).map nv)), fun σ' H' z => z, .inl ⟨rfl, _, SqL.of hD3⟩, _, hD3, ?_, ?_⟩
      · rw [List.length_map, List.length_take]
        exact small (by omega)
      · have e4 : Same H (upd H3 D (.lst ((l.take j).map nv ++ [nv (wk j)]))) := fun b o ho => by
          rw [upd_ne (ne_of_none ho hD0)]; exact e3 b o ho
        refine ⟨_, SqL.of (e4 _ _ hh), _, mat _ (hwl j), l.length - (j + 1), by omega, j + 1, rfl, by omega, hjl2, ?_, e4, ?_⟩
        · rw [hws j]; rfl
        · rw [upd_same, List.take_add_one, hlk j hjl2, List.map_append]
          rfl
end
end K6g

set_option Elab.async false
set_option linter.all false
set_option maxRecDepth 100000
set_option maxHeartbeats 4000000
namespace K6g
open K6 PySem PySem.Spec PyProof.Rows L2 LamX Bk
section
variable {P : Program} {w : World} {K : PySem.W.Frag} {mg : Str → Option Value} {base : Heap}

open Classical in
/-- all rings, from each one on -/
noncomputable def allR (s : Nat → Option Nat) (k : Nat) : List (List Nat) := ((List.range k).filter fun p => decide (∃ z, s p = some z)).map (orbL s)
theorem allR_none {s : Nat → Option Nat} {k : Nat} (h : s k = none) : allR s (k + 1) = allR s k := by
  unfold allR
  rw [List.range_succ, List.filter_append]
  have : ([k] : List Nat).filter (fun p => @decide (∃ z, s p = some z) (Classical.propDecidable _)) = [] := by
    rw [List.filter_cons, if_neg (by simp [h])]
    rfl
  rw [this, List.append_nil]
theorem allR_some {s : Nat → Option Nat} {k z : Nat} (h : s k = some z) : allR s (k + 1) = allR s k ++ [orbL s k] := by
  unfold allR
  rw [List.range_succ, List.filter_append]
  have : ([k] : List Nat).filter (fun p => @decide (∃ z, s p = some z) (Classical.propDecidable _)) = [k] := by
    rw [List.filter_cons, if_pos (by simp [h])]
    rfl
  rw [this, List.map_append]
  rfl
theorem allR_len (s : Nat → Option Nat) (k : Nat) : (allR s k).length ≤ k := by
  unfold allR
  rw [List.length_map]
  exact Nat.le_trans (List.length_filter_le _ _) (by simp)
open Classical in
theorem allR_mem {s : Nat → Option Nat} {k : Nat} {l : List Nat} (h : l ∈ allR s k) : ∃ p, (∃ z, s p = some z) ∧ l = orbL s p := by
  unfold allR at h
  obtain ⟨p, hp, rfl⟩ := List.mem_map.mp h
  rw [List.mem_filter] at hp
  exact ⟨p, of_decide_eq_true hp.2, rfl⟩
open Classical in
noncomputable def isOdd (l : List Nat) : Bool := decide (2 < l.length ∧ ∀ x ∈ l, l.headD 0 ≤ x)
theorem allR_odd {n : Nat} {s : Nat → Option Nat} (P : Perm1 n s) : (allR s n).filter isOdd = oddR s n := by
  unfold allR oddR
  rw [List.filter_map, List.filter_filter]
  congr 1
  refine List.filter_congr fun p _ => ?_
  by_cases h : ∃ z, s p = some z
  · obtain ⟨O, _⟩ := P.orbit h
    have h0 := orbit_len O
    have hh : (orbL s p).headD 0 = p := by
      rw [← List.head?_eq_getElem?] at h0
      cases hc : orbL s p with
      | nil => rw [hc] at h0; cases h0
      | cons x r => rw [hc] at h0; exact Option.some.inj h0
    unfold isOdd
    rw [Bool.eq_iff_iff]
    simp only [Function.comp, Bool.and_eq_true, decide_eq_true_iff, hh]
    exact ⟨fun z => ⟨z.2, z.1⟩, fun z => ⟨z.2, z.1⟩⟩
  · rw [Bool.eq_iff_iff]
    simp only [Function.comp, Bool.and_eq_true, decide_eq_true_iff]
    exact ⟨fun z => absurd z.2 h, fun z => absurd z.1 h⟩
/-- the odd rings of a half pairing -/
def sp_oddin (K : PySem.W.Frag) : Sp := fun vs H Q _ => ∃ (h : Addr) (m : List (Option Nat)) (n : Nat), vs = [.ref h] ∧ H h = some (.lst (m.map ov)) ∧ m.length = n ∧ n ≤ 60 ∧ Perm1 n (mO m) ∧
  ∀ H' D as, Same H H' → H D = none → (∀ a ∈ as, H a = none) → Tbl H' D as (oddR (mO m) n) → Q (.ref D) H'
theorem ok_oddin (T : Txt P K mg) : FnOk P w K mg base CX0 2 T.a_odd_rings_in T.fd_odd_rings_in ["half"] (sp_oddin K) := by
  have G_ring_of : FnOk P w K mg base CX0 1 T.a_ring_of T.fd_ring_of ["half", "first"] (sp_ringof K) := ok_ringof T
  refine T.F_odd_rings_in.ok sc_odd_rings_in (fun vs H Q E h => ?_) (fun cdv A outer s H vs Q E hr h => ?_)
  · obtain ⟨h, m, n, rfl, _⟩ := h
    rfl
  · obtain ⟨h, m, n, rfl, hh, hl, hn, P1, q⟩ := h
    refine ⟨_, (C8.pss_cut (ps_setLc (i := 1) (own := [("person", 2), ("other", 3)]) rfl sc_odd_rings_in.nd rfl rfl (sw_true rfl rfl rfl (by decide +kernel)) (kpi_enum (K := K) (by rfl) T.m_enumerate (pa_cons (pv 0) pa_nil)) (blkOk_by (own := [("person", 2), ("other", 3)]) (N := ["half", "rings", "person", "other", "ring"]) (sc := (defScope s_odd_rings_in)) (by decide +kernel)) (fun _ _ _ _ _ => (kpg_tup (K := K) (n := 2) rfl (pgs_cons (pg_name (i := 2) sc_odd_rings_in.nd rfl (by first | exact .inl rfl | exact .inr rfl)) (pgs_cons (pg_name (i := 3) sc_odd_rings_in.nd rfl (by first | exact .inl rfl | exact .inr rfl)) pgs_nil)))) (fun _ _ _ _ _ => (pts_one (pt_cmp (pc_notN (pv 3))))) (fun _ _ _ _ _ => (pe_call G_ring_of (hr.mono (by decide)) (by rfl) T.g_ring_of T.F_ring_of.kp T.b_ring_of .nil pass0 (pa_cons (pv 0) (pa_cons (pv 2) pa_nil)))))
      (pss_one (ps_ret (pe_lc (own := [("ring", 4)]) rfl sc_odd_rings_in.nd (kpi_list (K := K) (pv 1)) (blkOk_by (own := [("ring", 4)]) (N := ["half", "rings", "person", "other", "ring"]) (sc := (defScope s_odd_rings_in)) (by decide +kernel)) (fun _ _ _ _ _ => (pg_name (i := 4) sc_odd_rings_in.nd rfl (by first | exact .inl rfl | exact .inr rfl))) (fun _ _ _ _ _ => (pts_one (PW.pt (pw_and (pt_cmpR op_gt (pe_callB (klen (K := K)) (by rfl) T.m_len (by decide +kernel) (pa_cons (pv 4) pa_nil)) pe_int (nomark _)) (pw_and1 (pt_cmpR op_eq (pe_ix (kix_list (K := K)) (pv 4) pe_int (fun _ _ => rfl)) (pe_callB (Bk.kminK (K := K) (by rfl) (by rfl)) (by rfl) T.m_min (by decide +kernel) (pa_cons (pv 4) pa_nil)) (nomark _))))))) (fun _ _ _ _ _ => (pv 4)))))), ?_⟩
    have mat : ∀ x, x < n → (m.map ov)[x]? = some (ov (mO m x)) := fun x hx => by rw [List.getElem?_map, mO_at (by omega)]; rfl
    obtain ⟨M, hM⟩ : ∃ M : L2.St → Hp → Prop, M = (fun σ H1 => ∃ D as1 y3 y4 y5, σ = [some (.ref h), some (.ref D), y3, y4, y5] ∧ Same H H1 ∧ H D = none ∧ (∀ a ∈ as1, H a = none) ∧ Tbl H1 D as1 (allR (mO m) n)) := ⟨_, rfl⟩
    refine ⟨M, ?_, fun σ H1 h1 => ?_⟩
    · refine ⟨_, rfl, h, _, rfl, SqL.of hh, fun D hD => lc_enum (K := K) (xs := m.map ov)
        (fun i H3 => Same H H3 ∧ ∃ as', (∀ a ∈ as', H a = none) ∧ Tbl H3 D as' (allR (mO m) i))
        ⟨same_upd hD, [], (fun a ha => by simp at ha), Tbl.nil upd_same⟩ (fun i H3 _ e => SqL.of (e.1 _ _ hh)) (fun i x H3 T3 hx hT hI => ?_) (fun H3 hI => ?_)⟩
      · obtain ⟨e3, as', hnn, TF⟩ := hI
        have hi : i < n := by
          have := (List.getElem?_eq_some_iff.mp hx).1
          rw [List.length_map] at this; omega
        rw [mat i hi] at hx
        cases hx
        have e4 : Same H (upd H3 T3 (.tup [.int (i : Nat), ov (mO m i)])) := same_upd2 e3 (e3.free hT)
        have TF4 : Tbl (upd H3 T3 (.tup [.int (i : Nat), ov (mO m i)])) D as' (allR (mO m) i) := TF.upd_new hT
        refine ⟨T3, _, rfl, SqT.of upd_same, rfl, _, _, rfl, _, _, rfl, rfl, rfl, ?_⟩
        generalize upd H3 T3 (.tup [.int (i : Nat), ov (mO m i)]) = H4 at e4 TF4 ⊢
        simp only [tLenSetI, cx_K, cx_w, wipe, Int.zero_add, Bool.false_eq_true, if_false, if_true, Bool.not_true, Bool.not_false, tSeq, tAsg, tOp, tVar, tC, tRet, tRetN, tNext, tDrop, tIfS, tB, tTest, tIf, tAnd, tOr, tNot, tAndV, tOrV, tNotV, tUn, tCons, tNil, tCall, tCB, tBM, tBM0, tNoPart, tPart, tSl, tCont, tNever, tTup, tLst, gName, gNil, gCons, gTup, gSub, rI, rI0, rU, rEq, rNe, rIxL, rSlL, rSetL, rLn, rLs, rTs, rIn, rSet0, tSAdd, rSAdd, rSIn, rSNotIn, rRep, rCat, rAppend, rPop, rPopAt, iList, iRng1, iRng2, iEnum, gTup, tIsN, tNotN, tTru, tLstRg, tRg1, tRg2, L2.start, List.map_cons, List.map_nil, List.length_cons, List.length_nil, List.replicate, List.cons_append, List.nil_append, List.getElem?_cons_zero, List.getElem?_cons_succ, List.set_cons_zero, List.set_cons_succ, Option.some.injEq, exists_eq_left', V.int.injEq, V.ref.injEq, V.bl.injEq, List.cons.injEq, exists_and_left, exists_and_right, and_true, true_and, exists_eq_left, exists_eq, Nat.reduceAdd, Nat.reduceSub]
        cases hmo : mO m i with
        | none =>
          refine iteF ⟨e4, as', hnn, ?_⟩
          rw [allR_none hmo]
          exact TF4
        | some z =>
          refine iteT ⟨h, m, n, i, rfl, e4 _ _ hh, hl, hn, P1, ⟨z, hmo⟩, fun H5 D2 e5 hD2 hO => ?_⟩
          have TF5 := TF4.same e5
          have fr := TF4.fresh hD2
          refine ⟨as'.map V.ref, TF5.top, ?_, fun b o ho => ?_, as' ++ [D2], fun b hb => ?_, ?_⟩
          · rw [List.length_map, TF.len]
            have := allR_len (mO m) i
            exact small (by omega)
          · rw [upd_ne (ne_of_none ho hD)]
            exact e5 _ _ (e4 _ _ ho)
          · rcases List.mem_append.mp hb with z | z
            · exact hnn b z
            · have : b = D2 := by simpa using z
              subst this
              exact e4.free hD2
          · rw [allR_some hmo]
            have := TF5.snoc (a := D2) (r := orbL (mO m) i) hO fr.2 fr.1
            rw [List.map_append] at this
            exact this
      · obtain ⟨e3, as', hnn, TF⟩ := hI
        rw [List.length_map, hl] at TF
        show M _ _
        rw [hM]
        exact ⟨D, as', _, _, _, rfl, e3, hD, hnn, TF⟩
    rw [hM] at h1
    clear hM M
    obtain ⟨D, as1, y3, y4, y5, rfl, e1, hD0, hn1, T1⟩ := h1
    obtain ⟨rows1, hr1⟩ : ∃ rows1, rows1 = allR (mO m) n := ⟨_, rfl⟩
    have hodd := allR_odd P1
    rw [← hr1] at T1 hodd
    have hpos : ∀ l ∈ rows1, 0 < l.length ∧ l.length ≤ 60 := fun l hl => by
      rw [hr1] at hl
      obtain ⟨p, hp, rfl⟩ := allR_mem hl
      obtain ⟨O, ol⟩ := P1.orbit hp
      exact ⟨O.pos, by omega⟩
    have hrl : rows1.length ≤ 60 := by rw [hr1]; have := allR_len (mO m) n; omega
    refine ⟨.ref D, rfl, D, rfl, ⟨_, SqL.of T1.top⟩, fun D2 hD2 => lc_list (K := K) (xs := as1.map V.ref)
      (fun j H3 => Same H1 H3 ∧ ∃ as2, (∀ a ∈ as2, a ∈ as1.take j) ∧ Tbl H3 D2 as2 ((rows1.take j).filter isOdd))
      ⟨same_upd hD2, [], (fun a ha => by simp at ha), Tbl.nil upd_same⟩ (fun i H3 _ e => SqL.of (e.1 _ _ T1.top)) (fun j x H3 hx hI => ?_) (fun H3 hI => ?_)⟩
    · obtain ⟨e3, as2, hin, T2⟩ := hI
      rw [List.getElem?_map] at hx
      obtain ⟨a, ha, rfl⟩ := Option.map_eq_some_iff.mp hx
      have hj : j < rows1.length := by
        have := (List.getElem?_eq_some_iff.mp ha).1
        rw [T1.len] at this; exact this
      obtain ⟨l, hl2⟩ : ∃ l, rows1[j]? = some l := ⟨_, List.getElem?_eq_getElem hj⟩
      have hra : H3 a = some (.lst (l.map nv)) := e3 _ _ (T1.row j a l ha hl2)
      obtain ⟨p1, p2⟩ := hpos l (List.mem_of_getElem? hl2)
      have et : rows1.take (j + 1) = rows1.take j ++ [l] := by rw [List.take_add_one, hl2]; rfl
      have ea : as1.take (j + 1) = as1.take j ++ [a] := by rw [List.take_add_one, ha]; rfl
      refine ⟨rfl, ?_⟩
      have no : isOdd l = false → Same H1 H3 ∧ ∃ as2, (∀ b ∈ as2, b ∈ as1.take (j + 1)) ∧ Tbl H3 D2 as2 ((rows1.take (j + 1)).filter isOdd) := fun hc => by
        refine ⟨e3, as2, fun b hb => by rw [ea]; exact List.mem_append_left _ (hin b hb), ?_⟩
        rw [et, List.filter_append, List.filter_cons, if_neg (by rw [hc]; decide), List.filter_nil, List.append_nil]
        exact T2
      simp only [tLenSetI, cx_K, cx_w, wipe, Int.zero_add, Bool.false_eq_true, if_false, if_true, Bool.not_true, Bool.not_false, tSeq, tAsg, tOp, tVar, tC, tRet, tRetN, tNext, tDrop, tIfS, tB, tTest, tIf, tAnd, tOr, tNot, tAndV, tOrV, tNotV, tUn, tCons, tNil, tCall, tCB, tBM, tBM0, tNoPart, tPart, tSl, tCont, tNever, tTup, tLst, gName, gNil, gCons, gTup, gSub, rI, rI0, rU, rEq, rNe, rIxL, rSlL, rSetL, rLn, rLs, rTs, rIn, rSet0, tSAdd, rSAdd, rSIn, rSNotIn, rRep, rCat, rAppend, rPop, rPopAt, iList, iRng1, iRng2, iEnum, gTup, tIsN, tNotN, tTru, tLstRg, tRg1, tRg2, L2.start, List.map_cons, List.map_nil, List.length_cons, List.length_nil, List.replicate, List.cons_append, List.nil_append, List.getElem?_cons_zero, List.getElem?_cons_succ, List.set_cons_zero, List.set_cons_succ, Option.some.injEq, exists_eq_left', V.int.injEq, V.ref.injEq, V.bl.injEq, List.cons.injEq, exists_and_left, exists_and_right, and_true, true_and, exists_eq_left, exists_eq, Nat.reduceAdd, Nat.reduceSub]
      refine ⟨_, .inl (SqL.of hra), ?_⟩
      rw [List.length_map]
      by_cases h2 : 2 < l.length
      rotate_left
      · rw [decide_eq_false (show ¬ (2 : Int) < (l.length : Int) by omega)]
        exact iteF (no (by unfold isOdd; exact decide_eq_false fun z => h2 z.1))
      rw [decide_eq_true (show (2 : Int) < (l.length : Int) by omega)]
      obtain ⟨x0, r0, hxl⟩ : ∃ x0 r0, l = x0 :: r0 := by
        cases l with
        | nil => exact absurd p1 (Nat.lt_irrefl _)
        | cons x r => exact ⟨x, r, rfl⟩
      refine iteT ⟨_, SqL.of hra, nv x0, atI_nat (j := 0) (by rw [hxl]; rfl), a, l.map Int.ofNat, rfl, by rw [map_nv']; exact SqL.of hra, by rw [List.length_map]; exact p1, fun mm hmm hmin => ⟨rfl, ?_⟩⟩
      obtain ⟨m1, hm1, rfl⟩ := List.mem_map.mp hmm
      have hmin' : ∀ y ∈ l, m1 ≤ y := fun y hy => by
        have := hmin (Int.ofNat y) (List.mem_map.mpr ⟨y, hy, rfl⟩)
        exact Int.ofNat_le.mp this
      have hh : l.headD 0 = x0 := by rw [hxl]; rfl
      by_cases hx0 : x0 = m1
      · have hc : isOdd l = true := by
          unfold isOdd
          refine decide_eq_true ⟨h2, ?_⟩
          rw [hh, hx0]
          exact hmin'
        rw [decide_eq_true (show nv x0 = V.int (Int.ofNat m1) by rw [hx0]; rfl)]
        have nD : a ≠ D2 := fun z => by
          have h3 := T1.row j a l ha hl2
          rw [z] at h3
          have h3' : H1 D2 = _ := h3
          rw [hD2] at h3'
          cases h3'
        have na : a ∉ as2 := fun z => by
          have := hin a z
          obtain ⟨i, hi, ei⟩ := List.getElem_of_mem this
          rw [List.length_take] at hi
          rw [List.getElem_take] at ei
          obtain ⟨hj1, ej⟩ := List.getElem?_eq_some_iff.mp ha
          have := (List.getElem_inj (h₁ := hj1) (h₀ := (by omega : i < as1.length)) T1.nd).mp (by rw [ei, ej])
          omega
        refine iteT ⟨as2.map V.ref, T2.top, ?_, fun b o ho => ?_, as2 ++ [a], fun b hb => ?_, ?_⟩
        · rw [List.length_map, T2.len]
          have := List.length_filter_le isOdd (rows1.take j)
          rw [List.length_take] at this
          exact small (by omega)
        · rw [upd_ne (ne_of_none ho hD2)]
          exact e3 b o ho
        · rw [ea]
          rcases List.mem_append.mp hb with z | z
          · exact List.mem_append_left _ (hin b z)
          · exact List.mem_append_right _ z
        · rw [et, List.filter_append, List.filter_cons, if_pos hc, List.filter_nil]
          have := T2.snoc (a := a) (r := l) hra nD na
          rw [List.map_append] at this
          exact this
      · have hc : isOdd l = false := by
          unfold isOdd
          refine decide_eq_false fun z => hx0 ?_
          have h4 := z.2 m1 hm1
          rw [hh] at h4
          have h5 := hmin' x0 (by rw [hxl]; simp)
          omega
        rw [decide_eq_false (show ¬ nv x0 = V.int (Int.ofNat m1) from fun z => hx0 (nv_inj z))]
        exact iteF (no hc)
    · obtain ⟨e3, as2, hin, T2⟩ := hI
      rw [List.length_map, T1.len, List.take_length, hodd] at T2
      exact q H3 D2 as2 (e1.trans e3) (e1.free hD2) (fun a ha => hn1 a (List.mem_of_mem_take (hin a ha))) T2
end
end K6g

set_option Elab.async false
set_option linter.all false
set_option maxRecDepth 100000
set_option maxHeartbeats 4000000
namespace K6g
open K6 PySem PySem.Spec PyProof.Rows L2 LamX Bk
section
variable {P : Program} {w : World} {K : PySem.W.Frag} {mg : Str → Option Value} {base : Heap}

/-- the next one in a ring -/
def sp_next (K : PySem.W.Frag) : Sp := fun vs H Q _ => ∃ (t : Addr) (as : List Addr) (n : Nat) (C : Nat → List Nat) (p : Nat), vs = [.ref t, nv p] ∧ Tbl H t as (mkL n C) ∧ p < n ∧ 2 ≤ (C p).length ∧ snd2 C p < n ∧ (C (snd2 C p)).getLast? = some (nx C p) ∧ Q (nv (nx C p)) H
theorem ok_next (T : Txt P K mg) : FnOk P w K mg base CX0 1 T.a_next_in_ring T.fd_next_in_ring ["rows", "person"] (sp_next K) := by
  refine T.F_next_in_ring.ok sc_next_in_ring (fun vs H Q E h => ?_) (fun cdv A outer s H vs Q E hr h => ?_)
  · obtain ⟨t, as, n, C, p, rfl, _⟩ := h
    rfl
  · obtain ⟨t, as, n, C, p, rfl, TB, hp, h2, hs, hl, q⟩ := h
    refine ⟨_, (pss_cons (ps_set (i := 2) sc_next_in_ring.nd rfl (.inl rfl) (pe_ix (kix_list (K := K)) (pe_ix (kix_list (K := K)) (pv 0) (pv 1) (fun _ _ => rfl)) pe_int (fun _ _ => rfl)))
      (pss_one (ps_ret (pe_ix (kix_list (K := K)) (pe_ix (kix_list (K := K)) (pv 0) (pv 2) (fun _ _ => rfl)) (pe_un un_neg pe_int) (fun _ _ => rfl))))), ?_⟩
    obtain ⟨a, ha, hra, _, _⟩ := TB.at (show p < (mkL n C).length by rw [mkL_len]; exact hp)
    rw [fn_mkL hp] at hra
    obtain ⟨b, hb, hrb, _, _⟩ := TB.at (show snd2 C p < (mkL n C).length by rw [mkL_len]; exact hs)
    rw [fn_mkL hs] at hrb
    obtain ⟨r, e⟩ := two_of h2
    obtain ⟨l, el⟩ : ∃ l, C (snd2 C p) = l ++ [nx C p] := List.getLast?_eq_some_iff.mp hl
    simp only [tLenSetI, cx_K, cx_w, wipe, Int.zero_add, Bool.false_eq_true, if_false, if_true, Bool.not_true, Bool.not_false, tSeq, tAsg, tOp, tVar, tC, tRet, tRetN, tNext, tDrop, tIfS, tB, tTest, tIf, tAnd, tOr, tNot, tAndV, tOrV, tNotV, tUn, tCons, tNil, tCall, tCB, tBM, tBM0, tNoPart, tPart, tSl, tCont, tNever, tTup, tLst, gName, gNil, gCons, gTup, gSub, rI, rI0, rU, rEq, rNe, rIxL, rSlL, rSetL, rLn, rLs, rTs, rIn, rSet0, tSAdd, rSAdd, rSIn, rSNotIn, rRep, rCat, rAppend, rPop, rPopAt, iList, iRng1, iRng2, iEnum, gTup, tIsN, tNotN, tTru, tLstRg, tRg1, tRg2, L2.start, List.map_cons, List.map_nil, List.length_cons, List.length_nil, List.replicate, List.cons_append, List.nil_append, List.getElem?_cons_zero, List.getElem?_cons_succ, List.set_cons_zero, List.set_cons_succ, Option.some.injEq, exists_eq_left', V.int.injEq, V.ref.injEq, V.bl.injEq, List.cons.injEq, exists_and_left, exists_and_right, and_true, true_and, exists_eq_left, exists_eq, Nat.reduceAdd, Nat.reduceSub]
    refine ⟨_, SqL.of TB.top, _, TB.atI ha, a, rfl, _, SqL.of hra, nv (snd2 C p), by rw [e]; exact atI_nat (j := 1) rfl, _, _, rfl, SqL.of TB.top, _, TB.atI hb, b, rfl, _, SqL.of hrb, nv (nx C p), ?_, q⟩
    rw [el, List.map_append]
    exact atI_last _ _
end
end K6g

set_option Elab.async false
set_option linter.all false
set_option maxRecDepth 100000
set_option maxHeartbeats 4000000
namespace K6g
open K6 PySem PySem.Spec PyProof.Rows L2 LamX Bk
section
variable {P : Program} {w : World} {K : PySem.W.Frag} {mg : Str → Option Value} {base : Heap}

/-- the ring to which one leads -/
def sp_ringfrom (K : PySem.W.Frag) : Sp := fun vs H Q _ => ∃ (t : Addr) (as : List Addr) (n : Nat) (L0 C : Nat → List Nat) (s : Nat), vs = [.ref t, nv s] ∧ Tbl H t as (mkL n C) ∧ n ≤ 60 ∧ Lists L0 ∧ (∀ i x, x ∈ L0 i → i < n ∧ x < n) ∧ Done L0 C ∧ s < n ∧ 2 ≤ (C s).length ∧
  ∀ H' D ps, Same H H' → H D = none → PairsAt H' D (ps.map fun p => (p, best C p)) → RingFrom C s ps → Q (.ref D) H'
theorem ok_ringfrom (T : Txt P K mg) : FnOk P w K mg base CX0 2 T.a_ring_from T.fd_ring_from ["rows", "start"] (sp_ringfrom K) := by
  have G_next_in_ring : FnOk P w K mg base CX0 1 T.a_next_in_ring T.fd_next_in_ring ["rows", "person"] (sp_next K) := ok_next T
  refine T.F_ring_from.ok sc_ring_from (fun vs H Q E h => ?_) (fun cdv A outer s H vs Q E hr h => ?_)
  · obtain ⟨t, as, n, L0, C, s, rfl, _⟩ := h
    rfl
  · obtain ⟨t, as, n, L0, C, s, rfl, TB, hn, L, Rlt, dn, hs, h2, q⟩ := h
    have hL : ∀ i x, x ∈ L0 i → i < n := fun i x hx => (Rlt i x hx).1
    have lt : ∀ i x, x ∈ C i → i < n ∧ x < n := fun i x hx => Rlt _ _ ((dn.tab.sub i).subset hx)
    have two := it_two L hL dn h2
    have itn : ∀ j, it C s j < n := fun j => by
      obtain ⟨r, e⟩ := two_of (two j)
      exact (lt (it C s j) (best C (it C s j)) (by rw [e]; exact List.mem_cons_self)).1
    refine ⟨_, (C8.pss_cut (ps_set (i := 2) sc_ring_from.nd rfl (.inl rfl) (pe_lst pa_nil))
      (C8.pss_cut (ps_set (i := 3) sc_ring_from.nd rfl (.inl rfl) (pv 1))
      (C8.pss_cut (ps_while PassesOwn.never (pt_cmpR (knotin (K := K)) (pv 3) (pv 2) rfl) (pss_cons (ps_expr (pe_bm PySem.F.plainAttrs_list PySem.F.slot_list_append PySem.F.type_list_append mt_append (pv 2) (pa_cons (pv 3) pa_nil)))
      (pss_one (ps_set (i := 3) sc_ring_from.nd rfl (.inl rfl) (pe_call G_next_in_ring (hr.mono (by decide)) (by rfl) T.g_next_in_ring T.F_next_in_ring.kp T.b_next_in_ring .nil pass0 (pa_cons (pv 0) (pa_cons (pv 3) pa_nil)))))))
      (C8.pss_cut (ps_set (i := 4) sc_ring_from.nd rfl (.inl rfl) (pe_slice (ksl_list (K := K)) (pv 2) (po_some (pe_bm PySem.F.plainAttrs_list PySem.F.slot_list_index PySem.F.type_list_index mt_index (pv 2) (pa_cons (pv 3) pa_nil))) po_none))
      (C8.pss_cut (ps_set (i := 5) sc_ring_from.nd rfl (.inl rfl) (pe_bm PySem.F.plainAttrs_list PySem.F.slot_list_index PySem.F.type_list_index mt_index (pv 4) (pa_cons (pe_callB (cr_min rfl) (by rfl) T.m_min (by decide +kernel) (pa_cons (pv 4) pa_nil)) pa_nil)))
      (pss_one (ps_ret (pe_lc (own := [("each", 6)]) rfl sc_ring_from.nd (kpi_list (K := K) (pe_op op_cat (pe_slice (ksl_list (K := K)) (pv 4) (po_some (pv 5)) po_none) (pe_slice (ksl_list (K := K)) (pv 4) po_none (po_some (pv 5))))) (blkOk_by (own := [("each", 6)]) (N := ["rows", "start", "walk", "person", "people", "least", "each"]) (sc := (defScope s_ring_from)) (by decide +kernel)) (fun _ _ _ _ _ => (pg_name (i := 6) sc_ring_from.nd rfl (by first | exact .inl rfl | exact .inr rfl))) (fun _ _ _ _ _ => pts_nil) (fun _ _ _ _ _ => (pe_tup (pa_cons (pv 6) (pa_cons (pe_ix (kix_list (K := K)) (pe_ix (kix_list (K := K)) (pv 0) (pv 6) (fun _ _ => rfl)) pe_int (fun _ _ => rfl)) pa_nil)))))))))))), ?_⟩
    -- the walk's list
    refine ⟨fun σ H1 => ∃ w, H w = none ∧ H1 = upd H w (.lst []) ∧ σ = [some (.ref t), some (nv s), some (.ref w), none, none, none, none], ?_, fun σ H1 h1 => ?_⟩
    · simp only [tLenSetI, cx_K, cx_w, wipe, Int.zero_add, Bool.false_eq_true, if_false, if_true, Bool.not_true, Bool.not_false, tSeq, tAsg, tOp, tVar, tC, tRet, tRetN, tNext, tDrop, tIfS, tB, tTest, tIf, tAnd, tOr, tNot, tAndV, tOrV, tNotV, tUn, tCons, tNil, tCall, tCB, tBM, tBM0, tNoPart, tPart, tSl, tCont, tNever, tTup, tLst, gName, gNil, gCons, gTup, gSub, rI, rI0, rU, rEq, rNe, rIxL, rSlL, rSetL, rLn, rLs, rTs, rIn, rSet0, tSAdd, rSAdd, rSIn, rSNotIn, rRep, rCat, rAppend, rPop, rPopAt, iList, iRng1, iRng2, iEnum, gTup, tIsN, tNotN, tTru, tLstRg, tRg1, tRg2, L2.start, List.map_cons, List.map_nil, List.length_cons, List.length_nil, List.replicate, List.cons_append, List.nil_append, List.getElem?_cons_zero, List.getElem?_cons_succ, List.set_cons_zero, List.set_cons_succ, Option.some.injEq, exists_eq_left', V.int.injEq, V.ref.injEq, V.bl.injEq, List.cons.injEq, exists_and_left, exists_and_right, and_true, true_and, exists_eq_left, exists_eq, Nat.reduceAdd, Nat.reduceSub]
      exact ⟨Nat.zero_le _, fun p hp => ⟨p, hp, rfl, rfl⟩⟩
    obtain ⟨w, hw, rfl, rfl⟩ := h1
    refine ⟨fun σ H1 => H1 = upd H w (.lst []) ∧ σ = [some (.ref t), some (nv s), some (.ref w), some (nv s), none, none, none], ⟨_, rfl, rfl, rfl⟩, fun σ H1 h1 => ?_⟩
    obtain ⟨rfl, rfl⟩ := h1
    -- the walk
    obtain ⟨M, hM⟩ : ∃ M : L2.St → Hp → Prop, M = (fun σ H2 => ∃ j, WStop C s j ∧ j ≤ n ∧ Same H H2 ∧ H2 w = some (.lst ((orb C s j).map nv)) ∧ σ = [some (.ref t), some (nv s), some (.ref w), some (nv (it C s j)), none, none, none]) := ⟨_, rfl⟩
    refine ⟨M, ?_, fun σ H2 h2 => ?_⟩
    · refine ⟨fun m σ H2 => ∃ j, m + j = n + 1 ∧ j ≤ n ∧ (∀ i, i < j → it C s i ∉ orb C s i) ∧ Same H H2 ∧ H2 w = some (.lst ((orb C s j).map nv)) ∧ σ = [some (.ref t), some (nv s), some (.ref w), some (nv (it C s j)), none, none, none], ⟨n + 1, 0, rfl, Nat.zero_le _, fun i hi => absurd hi (Nat.not_lt_zero _), same_upd hw, upd_same, rfl⟩, fun m σ H2 hW => ?_⟩
      obtain ⟨j, hm, hj, hno, e, hw2, rfl⟩ := hW
      simp only [tLenSetI, cx_K, cx_w, wipe, Int.zero_add, Bool.false_eq_true, if_false, if_true, Bool.not_true, Bool.not_false, tSeq, tAsg, tOp, tVar, tC, tRet, tRetN, tNext, tDrop, tIfS, tB, tTest, tIf, tAnd, tOr, tNot, tAndV, tOrV, tNotV, tUn, tCons, tNil, tCall, tCB, tBM, tBM0, tNoPart, tPart, tSl, tCont, tNever, tTup, tLst, gName, gNil, gCons, gTup, gSub, rI, rI0, rU, rEq, rNe, rIxL, rSlL, rSetL, rLn, rLs, rTs, rIn, rSet0, tSAdd, rSAdd, rSIn, rSNotIn, rRep, rCat, rAppend, rPop, rPopAt, iList, iRng1, iRng2, iEnum, gTup, tIsN, tNotN, tTru, tLstRg, tRg1, tRg2, L2.start, List.map_cons, List.map_nil, List.length_cons, List.length_nil, List.replicate, List.cons_append, List.nil_append, List.getElem?_cons_zero, List.getElem?_cons_succ, List.set_cons_zero, List.set_cons_succ, Option.some.injEq, exists_eq_left', V.int.injEq, V.ref.injEq, V.bl.injEq, List.cons.injEq, exists_and_left, exists_and_right, and_true, true_and, exists_eq_left, exists_eq, Nat.reduceAdd, Nat.reduceSub]
      refine ⟨_, .inl (SqL.of hw2), rfl, flat_nv _, ?_⟩
      rw [inV_nv]
      by_cases hin : it C s j ∈ orb C s j
      · rw [decide_eq_true hin]
        refine iteF ?_
        rw [hM]
        exact ⟨j, ⟨hin, hno⟩, hj, e, hw2, rfl⟩
      · rw [decide_eq_false hin]
        have hno' : ∀ i, i < j + 1 → it C s i ∉ orb C s i := fun i hi => by
          by_cases z : i = j
          · rw [z]; exact hin
          · exact hno i (by omega)
        have hjn : j + 1 ≤ n := by
          have := nodup_le (n := n) (orb_nd hno') (fun x hx => by obtain ⟨i, _, rfl⟩ := mem_orb.mp hx; exact itn i)
          rw [orb_len] at this
          exact this
        obtain ⟨k1, k2, k3, k4, k5⟩ := nx_ok L hL dn (two j)
        obtain ⟨rr, er⟩ := two_of (two j)
        have hsn : snd2 C (it C s j) < n := (lt (it C s j) _ (by rw [er]; simp)).2
        refine iteT ⟨fun σ' H' => ∃ m', m' < m ∧ ∃ j, m' + j = n + 1 ∧ j ≤ n ∧ (∀ i, i < j → it C s i ∉ orb C s i) ∧ Same H H' ∧ H' w = some (.lst ((orb C s j).map nv)) ∧ σ' = [some (.ref t), some (nv s), some (.ref w), some (nv (it C s j)), none, none, none], fun σ' H' z => z, ?_⟩
        have s3 : Same H (upd H2 w (.lst ((orb C s j).map nv ++ [nv (it C s j)]))) := fun b o ho => by
          rw [upd_ne (ne_of_none ho hw)]; exact e b o ho
        have TB3 := TB.same s3
        refine ⟨.inl ⟨rfl, _, SqL.of hw2⟩, _, hw2, by rw [List.length_map, orb_len]; exact small (by omega), t, as, n, C, it C s j, rfl, TB3, itn j, two j, hsn, k4, n - j, by omega, j + 1, by omega, hjn, hno', s3, ?_, rfl⟩
        rw [upd_same, orb_succ, List.map_append]
        rfl
    rw [hM] at h2
    clear hM M
    obtain ⟨j, hst, hj, e2, hw2, rfl⟩ := h2
    -- its people
    obtain ⟨pe, hpe⟩ : ∃ pe, pe = (orb C s j).drop ((orb C s j).idxOf (it C s j)) := ⟨_, rfl⟩
    have hpl : pe.length ≤ n := by rw [hpe, List.length_drop, orb_len]; omega
    have hpos : 0 < pe.length := by
      have := idxOf_lt_of_mem hst.1
      rw [hpe, List.length_drop]; omega
    have hpm : ∀ x ∈ pe, x < n := fun x hx => by
      rw [hpe] at hx
      obtain ⟨i, _, rfl⟩ := mem_orb.mp (List.mem_of_mem_drop hx)
      exact itn i
    obtain ⟨M, hM⟩ : ∃ M : L2.St → Hp → Prop, M = (fun σ H3 => ∃ g, Same H H3 ∧ H3 g = some (.lst (pe.map nv)) ∧ σ = [some (.ref t), some (nv s), some (.ref w), some (nv (it C s j)), some (.ref g), none, none]) := ⟨_, rfl⟩
    refine ⟨M, ?_, fun σ H3 h3 => ?_⟩
    · simp only [tLenSetI, cx_K, cx_w, wipe, Int.zero_add, Bool.false_eq_true, if_false, if_true, Bool.not_true, Bool.not_false, tSeq, tAsg, tOp, tVar, tC, tRet, tRetN, tNext, tDrop, tIfS, tB, tTest, tIf, tAnd, tOr, tNot, tAndV, tOrV, tNotV, tUn, tCons, tNil, tCall, tCB, tBM, tBM0, tNoPart, tPart, tSl, tCont, tNever, tTup, tLst, gName, gNil, gCons, gTup, gSub, rI, rI0, rU, rEq, rNe, rIxL, rSlL, rSetL, rLn, rLs, rTs, rIn, rSet0, tSAdd, rSAdd, rSIn, rSNotIn, rRep, rCat, rAppend, rPop, rPopAt, iList, iRng1, iRng2, iEnum, gTup, tIsN, tNotN, tTru, tLstRg, tRg1, tRg2, L2.start, List.map_cons, List.map_nil, List.length_cons, List.length_nil, List.replicate, List.cons_append, List.nil_append, List.getElem?_cons_zero, List.getElem?_cons_succ, List.set_cons_zero, List.set_cons_succ, Option.some.injEq, exists_eq_left', V.int.injEq, V.ref.injEq, V.bl.injEq, List.cons.injEq, exists_and_left, exists_and_right, and_true, true_and, exists_eq_left, exists_eq, Nat.reduceAdd, Nat.reduceSub]
      refine ⟨.inl ⟨rfl, _, SqL.of hw2⟩, ?_⟩
      refine index_nv (SqL.of hw2) hst.1 ⟨_, rfl, _, SqL.of hw2, fun g hg => ?_⟩
      rw [cutV_drop, ← List.map_drop, ← hpe, hM]
      exact ⟨g, same_upd2 e2 (e2.free hg), upd_same, rfl⟩
    rw [hM] at h3
    clear hM M
    obtain ⟨g, e3, hg3, rfl⟩ := h3
    -- the least one
    obtain ⟨M, hM⟩ : ∃ M : L2.St → Hp → Prop, M = (fun σ H4 => H4 = H3 ∧ ∃ m, m ∈ pe ∧ (∀ x ∈ pe, m ≤ x) ∧ σ = [some (.ref t), some (nv s), some (.ref w), some (nv (it C s j)), some (.ref g), some (nv (pe.idxOf m)), none]) := ⟨_, rfl⟩
    refine ⟨M, ?_, fun σ H4 h4 => ?_⟩
    · simp only [tLenSetI, cx_K, cx_w, wipe, Int.zero_add, Bool.false_eq_true, if_false, if_true, Bool.not_true, Bool.not_false, tSeq, tAsg, tOp, tVar, tC, tRet, tRetN, tNext, tDrop, tIfS, tB, tTest, tIf, tAnd, tOr, tNot, tAndV, tOrV, tNotV, tUn, tCons, tNil, tCall, tCB, tBM, tBM0, tNoPart, tPart, tSl, tCont, tNever, tTup, tLst, gName, gNil, gCons, gTup, gSub, rI, rI0, rU, rEq, rNe, rIxL, rSlL, rSetL, rLn, rLs, rTs, rIn, rSet0, tSAdd, rSAdd, rSIn, rSNotIn, rRep, rCat, rAppend, rPop, rPopAt, iList, iRng1, iRng2, iEnum, gTup, tIsN, tNotN, tTru, tLstRg, tRg1, tRg2, L2.start, List.map_cons, List.map_nil, List.length_cons, List.length_nil, List.replicate, List.cons_append, List.nil_append, List.getElem?_cons_zero, List.getElem?_cons_succ, List.set_cons_zero, List.set_cons_succ, Option.some.injEq, exists_eq_left', V.int.injEq, V.ref.injEq, V.bl.injEq, List.cons.injEq, exists_and_left, exists_and_right, and_true, true_and, exists_eq_left, exists_eq, Nat.reduceAdd, Nat.reduceSub]
      refine ⟨.inl ⟨rfl, _, SqL.of hg3⟩, g, pe.map Int.ofNat, rfl, SqL.of (by rw [map_nv']; exact hg3), by rw [List.length_map]; exact hpos, fun m hm hmin => ?_⟩
      obtain ⟨m', hm', rfl⟩ := List.mem_map.mp hm
      refine index_nv (SqL.of hg3) hm' ?_
      rw [hM]
      exact ⟨rfl, m', hm', fun x hx => Int.ofNat_le.mp (hmin _ (List.mem_map.mpr ⟨x, hx, rfl⟩)), rfl⟩
    rw [hM] at h4
    clear hM M
    obtain ⟨rfl, m, hm, hmin, rfl⟩ := h4
    have hq : RingFrom C s (rotAt pe m) := ⟨j, m, hst, by rw [← hpe]; exact hm, by rw [← hpe]; exact hmin, by rw [← hpe]⟩
    obtain ⟨ps, hps⟩ : ∃ ps, ps = rotAt pe m := ⟨_, rfl⟩
    rw [← hps] at hq
    have ring := (ringfrom_ok L hL dn h2 hq).1
    have hqi : pe.idxOf m < pe.length := idxOf_lt_of_mem hm
    have hpsl : ps.length = pe.length := by
      rw [hps]; unfold rotAt
      rw [List.length_append, List.length_drop, List.length_take]; omega
    have hpsm : ∀ x ∈ ps, x < n := fun x hx => by
      rw [hps] at hx
      rcases List.mem_append.mp hx with z | z
      · exact hpm x (List.mem_of_mem_drop z)
      · exact hpm x (List.mem_of_mem_take z)
    refine ⟨_, rfl, _, rfl, _, rfl, g, _, rfl, SqL.of hg3, fun g1 hg1 => ?_⟩
    rw [cutV_drop, ← List.map_drop]
    have e5 := same_upd2 (o := .lst ((pe.drop (pe.idxOf m)).map nv)) e3 (e3.free hg1)
    have hg5 := (same_upd (o := .lst ((pe.drop (pe.idxOf m)).map nv)) hg1) _ _ hg3
    have h15 : upd H4 g1 (.lst ((pe.drop (pe.idxOf m)).map nv)) g1 = some (.lst ((pe.drop (pe.idxOf m)).map nv)) := upd_same
    generalize upd H4 g1 (.lst ((pe.drop (pe.idxOf m)).map nv)) = H5 at e5 hg5 h15 ⊢
    refine ⟨_, rfl, _, rfl, _, rfl, g, _, rfl, SqL.of hg5, fun g2 hg2 => ?_⟩
    rw [cutV_take, ← List.map_take]
    have e6 := same_upd2 (o := .lst ((pe.take (pe.idxOf m)).map nv)) e5 (e5.free hg2)
    have h16 := (same_upd (o := .lst ((pe.take (pe.idxOf m)).map nv)) hg2) _ _ h15
    have h26 : upd H5 g2 (.lst ((pe.take (pe.idxOf m)).map nv)) g2 = some (.lst ((pe.take (pe.idxOf m)).map nv)) := upd_same
    generalize upd H5 g2 (.lst ((pe.take (pe.idxOf m)).map nv)) = H6 at e6 h16 h26 ⊢
    refine ⟨g1, g2, _, _, rfl, rfl, h16, h26, Nat.le_of_lt (small (by rw [List.length_map, List.length_map, List.length_drop, List.length_take]; omega)), fun g3 hg3' => ?_⟩
    rw [← List.map_append]
    have er : pe.drop (pe.idxOf m) ++ pe.take (pe.idxOf m) = ps := by rw [hps]; rfl
    rw [er]
    have e7 := same_upd2 (o := .lst (ps.map nv)) e6 (e6.free hg3')
    have h37 : upd H6 g3 (.lst (ps.map nv)) g3 = some (.lst (ps.map nv)) := upd_same
    generalize upd H6 g3 (.lst (ps.map nv)) = H7 at e7 h37 ⊢
    refine ⟨g3, rfl, ⟨_, SqL.of h37⟩, fun D hD => lc_list (K := K) (xs := ps.map nv) (fun i H8 => Same H7 H8 ∧ PairsAt H8 D ((ps.take i).map fun p => (p, best C p)))
      ⟨same_upd hD, .nil upd_same⟩ (fun i H8 _ h => SqL.of (h.1 _ _ h37)) (fun i x H8 hx h => ?_) (fun H8 h => ?_)⟩
    · obtain ⟨e8, hP⟩ := h
      rw [List.getElem?_map] at hx
      obtain ⟨y, hy, rfl⟩ := Option.map_eq_some_iff.mp hx
      have hi : i < ps.length := (List.getElem?_eq_some_iff.mp hy).1
      have hym := List.mem_of_getElem? hy
      have hyn := hpsm y hym
      have TB8 := TB.same (e7.trans e8)
      obtain ⟨a, ha, hra, _, _⟩ := TB8.at (show y < (mkL n C).length by rw [mkL_len]; exact hyn)
      rw [fn_mkL hyn] at hra
      have hhead : (C y).head? = some (best C y) := by
        obtain ⟨i', _, e'⟩ := mem_At hym
        rw [← e']
        exact ring.head i'
      obtain ⟨pr, hpr, hl2, h5⟩ := hP.ex
      refine ⟨rfl, yesI ?_⟩
      simp only [tLenSetI, cx_K, cx_w, wipe, Int.zero_add, Bool.false_eq_true, if_false, if_true, Bool.not_true, Bool.not_false, tSeq, tAsg, tOp, tVar, tC, tRet, tRetN, tNext, tDrop, tIfS, tB, tTest, tIf, tAnd, tOr, tNot, tAndV, tOrV, tNotV, tUn, tCons, tNil, tCall, tCB, tBM, tBM0, tNoPart, tPart, tSl, tCont, tNever, tTup, tLst, gName, gNil, gCons, gTup, gSub, rI, rI0, rU, rEq, rNe, rIxL, rSlL, rSetL, rLn, rLs, rTs, rIn, rSet0, tSAdd, rSAdd, rSIn, rSNotIn, rRep, rCat, rAppend, rPop, rPopAt, iList, iRng1, iRng2, iEnum, gTup, tIsN, tNotN, tTru, tLstRg, tRg1, tRg2, L2.start, List.map_cons, List.map_nil, List.length_cons, List.length_nil, List.replicate, List.cons_append, List.nil_append, List.getElem?_cons_zero, List.getElem?_cons_succ, List.set_cons_zero, List.set_cons_succ, Option.some.injEq, exists_eq_left', V.int.injEq, V.ref.injEq, V.bl.injEq, List.cons.injEq, exists_and_left, exists_and_right, and_true, true_and, exists_eq_left, exists_eq, Nat.reduceAdd, Nat.reduceSub]
      refine ⟨_, SqL.of TB8.top, _, TB8.atI ha, a, rfl, _, SqL.of hra, nv (best C y), ?_, by decide, fun TA hTA => ⟨pr.map V.ref, by rw [upd_ne (ne_of_none hpr hTA)]; exact hpr, ?_, ?_, ?_⟩⟩
      · refine atI_nat (j := 0) ?_
        rw [List.getElem?_map, ← List.head?_eq_getElem?, hhead]; rfl
      · rw [List.length_map, hl2, List.length_map, List.length_take]; exact small (by omega)
      · intro b o ho
        rw [upd_ne (ne_of_none ho hD), upd_ne (ne_of_none (e8 _ _ ho) hTA)]
        exact e8 b o ho
      · rw [List.take_add_one, hy, List.map_append]
        exact pairs_snoc hpr hl2 h5 hTA
    · obtain ⟨e8, hP⟩ := h
      rw [List.length_map, List.take_length] at hP
      exact q H8 D ps (e7.trans e8) (e7.free hD) hP hq
end
end K6g

set_option Elab.async false
set_option linter.all false
set_option maxRecDepth 100000
set_option maxHeartbeats 4000000
namespace K6g
open K6 PySem PySem.Spec PyProof.Rows L2 LamX Bk
section
variable {P : Program} {w : World} {K : PySem.W.Frag} {mg : Str → Option Value} {base : Heap}

/-- two let one another go -/
def sp_part (K : PySem.W.Frag) : Sp := fun vs H Q _ => ∃ (p : Addr) (as : List Addr) (n : Nat) (C : Nat → List Nat) (S : List (Nat × Nat)) (b z : Nat), vs = [.ref p, nv b, nv z] ∧ Tbl H p as (mkL n (minus C S)) ∧ (∀ i, (C i).Nodup) ∧ (∀ i x, x ∈ C i → i ∈ C x) ∧ b ≠ z ∧ b < n ∧ z < n ∧
  ∀ H', Tbl H' p as (mkL n (minus C (S ++ [(b, z)]))) → (∀ c, c ∉ as → H' c = H c) → Q .non H'
theorem ok_part (T : Txt P K mg) : FnOk P w K mg base CX0 1 T.a_part T.fd_part ["rows", "one", "other"] (sp_part K) := by
  refine T.F_part.ok sc_part (fun vs H Q E h => ?_) (fun cdv A outer s H vs Q E hr h => ?_)
  · obtain ⟨p, as, n, C, S, b, z, rfl, _⟩ := h
    rfl
  · obtain ⟨p, as, n, C, S, b, z, rfl, TB, nd, mu, hne, hb, hz, q⟩ := h
    refine ⟨_, (pss_one (ps_if (pt_cmpR (kin (K := K)) (pv 2) (pe_ix (kix_list (K := K)) (pv 0) (pv 1) (fun _ _ => rfl)) rfl) (pss_cons (ps_expr (pe_bm PySem.F.plainAttrs_list PySem.F.slot_list_remove PySem.F.type_list_remove mt_remove (pe_ix (kix_list (K := K)) (pv 0) (pv 1) (fun _ _ => rfl)) (pa_cons (pv 2) pa_nil)))
      (pss_one (ps_expr (pe_bm PySem.F.plainAttrs_list PySem.F.slot_list_remove PySem.F.type_list_remove mt_remove (pe_ix (kix_list (K := K)) (pv 0) (pv 2) (fun _ _ => rfl)) (pa_cons (pv 1) pa_nil))))) pss_nil)), ?_⟩
    obtain ⟨c, hc, hrc, hcp, hcm⟩ := TB.at (show b < (mkL n (minus C S)).length by rw [mkL_len]; exact hb)
    rw [fn_mkL hb] at hrc
    rw [minus_snoc nd mu _ hne] at q
    simp only [tLenSetI, cx_K, cx_w, wipe, Int.zero_add, Bool.false_eq_true, if_false, if_true, Bool.not_true, Bool.not_false, tSeq, tAsg, tOp, tVar, tC, tRet, tRetN, tNext, tDrop, tIfS, tB, tTest, tIf, tAnd, tOr, tNot, tAndV, tOrV, tNotV, tUn, tCons, tNil, tCall, tCB, tBM, tBM0, tNoPart, tPart, tSl, tCont, tNever, tTup, tLst, gName, gNil, gCons, gTup, gSub, rI, rI0, rU, rEq, rNe, rIxL, rSlL, rSetL, rLn, rLs, rTs, rIn, rSet0, tSAdd, rSAdd, rSIn, rSNotIn, rRep, rCat, rAppend, rPop, rPopAt, iList, iRng1, iRng2, iEnum, gTup, tIsN, tNotN, tTru, tLstRg, tRg1, tRg2, L2.start, List.map_cons, List.map_nil, List.length_cons, List.length_nil, List.replicate, List.cons_append, List.nil_append, List.getElem?_cons_zero, List.getElem?_cons_succ, List.set_cons_zero, List.set_cons_succ, Option.some.injEq, exists_eq_left', V.int.injEq, V.ref.injEq, V.bl.injEq, List.cons.injEq, exists_and_left, exists_and_right, and_true, true_and, exists_eq_left, exists_eq, Nat.reduceAdd, Nat.reduceSub]
    refine ⟨_, SqL.of TB.top, _, TB.atI hc, c, rfl, _, .inl (SqL.of hrc), rfl, flat_nv _, ?_⟩
    rw [inV_nv]
    by_cases hzm : z ∈ minus C S b
    · rw [decide_eq_true hzm]
      rw [if_pos hzm] at q
      refine iteT ⟨_, SqL.of TB.top, _, TB.atI hc, .inl ⟨rfl, _, SqL.of hrc⟩, ?_⟩
      refine remove_nv hrc hzm ?_
      have TW := TB.write hc ((minus C S b).erase z)
      rw [mkL_set] at TW
      have k5 : ∀ d, d ∉ as → upd H c (.lst (((minus C S b).erase z).map nv)) d = H d := fun d hd => upd_ne (fun e => hd (e ▸ hcm))
      generalize upd H c (.lst (((minus C S b).erase z).map nv)) = H5 at TW k5 ⊢
      obtain ⟨d, hd, hrd, hdp, hdm⟩ := TW.at (show z < (mkL n _).length by rw [mkL_len]; exact hz)
      rw [fn_mkL hz, if_neg (Ne.symm hne)] at hrd
      refine ⟨_, SqL.of TW.top, _, TW.atI hd, .inl ⟨rfl, _, SqL.of hrd⟩, ?_⟩
      refine remove_nv hrd (minus_mu mu S hzm) ?_
      have TX := TW.write hd ((minus C S z).erase b)
      rw [mkL_set] at TX
      exact q _ TX fun d2 h2 => by rw [upd_ne (show d2 ≠ d from fun e => h2 (by rw [e]; exact hdm))]; exact k5 d2 h2
    · rw [decide_eq_false hzm]
      rw [if_neg hzm] at q
      exact iteF (q _ TB fun _ _ => rfl)
end
end K6g

set_option Elab.async false
set_option linter.all false
set_option maxRecDepth 100000
set_option maxHeartbeats 4000000
namespace K6g
open K6 PySem PySem.Spec PyProof.Rows L2 LamX Bk
section
variable {P : Program} {w : World} {K : PySem.W.Frag} {mg : Str → Option Value} {base : Heap}

/-- a ring taken out -/
def sp_takenout (K : PySem.W.Frag) : Sp := fun vs H Q _ => ∃ (t D : Addr) (as : List Addr) (n : Nat) (L0 C : Nat → List Nat) (ps : List Nat), vs = [.ref t, .ref D] ∧ Tbl H t as (mkL n C) ∧ PairsAt H D (ps.map fun p => (p, best C p)) ∧ n ≤ 60 ∧ Lists L0 ∧ (∀ i x, x ∈ L0 i → i < n ∧ x < n) ∧ Done L0 C ∧ Ring C ps ∧
  ∀ H' p as', Same H H' → H p = none → (∀ a ∈ as', H a = none) → Tbl H' p as' (mkL n (outT C ps)) → Q (.ref p) H'
theorem ok_takenout (T : Txt P K mg) : FnOk P w K mg base CX0 2 T.a_taken_out T.fd_taken_out ["rows", "ring"] (sp_takenout K) := by
  have G_part : FnOk P w K mg base CX0 1 T.a_part T.fd_part ["rows", "one", "other"] (sp_part K) := ok_part T
  refine T.F_taken_out.ok sc_taken_out (fun vs H Q E h => ?_) (fun cdv A outer s H vs Q E hr h => ?_)
  · obtain ⟨t, D, as, n, L0, C, ps, rfl, _⟩ := h
    rfl
  · obtain ⟨t, D, as, n, L0, C, ps, rfl, TB, hD, hlen, L, Rlt, dn, R, q⟩ := h
    have hpos := R.pos
    have nd := dn.tab.nd L
    have mu := dn.tab.mu
    have lt : ∀ i x, x ∈ C i → i < n ∧ x < n := fun i x hx => Rlt _ _ ((dn.tab.sub i).subset hx)
    have hps : ∀ x ∈ ps, x < n := fun x hx => by
      obtain ⟨i, _, rfl⟩ := mem_At hx
      exact (lt _ _ (head_mem (R.head i))).1
    have hpl : ps.length ≤ 60 := Nat.le_trans (nodup_le R.nd hps) hlen
    obtain ⟨bs2, hb1, hb2, hb3⟩ := hD.ex
    rw [List.length_map] at hb2
    have hb4 : ∀ (j : Nat) (b : Addr), bs2[j]? = some b → j < ps.length ∧ H b = some (.tup [nv (At ps j), nv (bs C ps j)]) := fun j b hb => by
      have hj : j < ps.length := by
        have := (List.getElem?_eq_some_iff.mp hb).1
        omega
      refine ⟨hj, ?_⟩
      have := hb3 j b (At ps j, bs C ps j) hb (by rw [List.getElem?_map, List.getElem?_eq_getElem hj, ← At_of hj]; rfl)
      exact this
    refine ⟨_, (C8.pss_cut (ps_setLc (i := 2) (own := [("row", 3)]) rfl sc_taken_out.nd rfl rfl (sw_true rfl rfl rfl (by decide +kernel)) (kpi_list (K := K) (pv 0)) (blkOk_by (own := [("row", 3)]) (N := ["rows", "ring", "behind", "row", "ahead", "_", "person", "best", "other"]) (sc := (defScope s_taken_out)) (by decide +kernel)) (fun _ _ _ _ _ => (pg_name (i := 3) sc_taken_out.nd rfl (by first | exact .inl rfl | exact .inr rfl))) (fun _ _ _ _ _ => pts_nil) (fun _ _ _ _ _ => (pe_callTy (klist_of (K := K)) (by rfl) T.m_list (by decide +kernel) (pa_cons (pv 3) pa_nil))))
      (C8.pss_cut (ps_asg (pe_ix (kix_list (K := K)) (pv 1) (pe_un un_neg pe_int) (fun _ _ => rfl)) (kpg_tup (K := K) (n := 2) rfl (pgs_cons (pg_name (i := 4) sc_taken_out.nd rfl (.inl rfl)) (pgs_cons (pg_name (i := 5) sc_taken_out.nd rfl (.inl rfl)) pgs_nil))))
      (C8.pss_cut (ps_for PassesOwn.never rfl (kpi_list (K := K) (pv 1)) (kpg_tup (K := K) (n := 2) rfl (pgs_cons (pg_name (i := 6) sc_taken_out.nd rfl (.inl rfl)) (pgs_cons (pg_name (i := 7) sc_taken_out.nd rfl (.inl rfl)) pgs_nil))) (C8.pss_cut (ps_set (i := 3) sc_taken_out.nd rfl (.inl rfl) (pe_ix (kix_list (K := K)) (pv 0) (pv 7) (fun _ _ => rfl)))
      (C8.pss_cut (ps_for PassesOwn.never rfl (kpi_list (K := K) (pe_slice (ksl_list (K := K)) (pv 3) (po_some (pe_op op_add (pe_bm PySem.F.plainAttrs_list PySem.F.slot_list_index PySem.F.type_list_index mt_index (pv 3) (pa_cons (pv 4) pa_nil)) pe_int)) po_none)) (pg_name (i := 8) sc_taken_out.nd rfl (.inl rfl)) (pss_one (ps_expr (pe_call G_part (hr.mono (by decide)) (by rfl) T.g_part T.F_part.kp T.b_part .nil pass0 (pa_cons (pv 2) (pa_cons (pv 7) (pa_cons (pv 8) pa_nil)))))))
      (pss_one (ps_set (i := 4) sc_taken_out.nd rfl (.inl rfl) (pv 6))))))
      (pss_one (ps_ret (pv 2)))))), ?_⟩
    -- the copy
    obtain ⟨M, hMd⟩ : ∃ M : L2.St → Hp → Prop, M = (fun σ H1 => ∃ p as', H p = none ∧ (∀ a ∈ as', H a = none) ∧ Same H H1 ∧ Tbl H1 p as' (mkL n C) ∧ σ = [some (.ref t), some (.ref D), some (.ref p), none, none, none, none, none, none]) := ⟨_, rfl⟩
    refine ⟨M, ?_, fun σ H1 hM => ?_⟩
    · refine ⟨_, rfl, t, rfl, ⟨_, SqL.of TB.top⟩, fun D2 hD2 => lc_list (K := K) (xs := as.map V.ref) (fun i H1 => Same H H1 ∧ ∃ as', (∀ a ∈ as', H a = none) ∧ Tbl H1 D2 as' (mkL i C))
        ⟨same_upd hD2, [], (fun a ha => by simp at ha), Tbl.nil upd_same⟩ (fun i H1 _ h => h.1.seq (SqL.of TB.top)) (fun i x H1 hx h => ?_) (fun H1 h => ?_)⟩
      · obtain ⟨e, as', hn, T1⟩ := h
        rw [List.getElem?_map] at hx
        obtain ⟨a, ha, rfl⟩ := Option.map_eq_some_iff.mp hx
        have hi : i < n := by
          have := (List.getElem?_eq_some_iff.mp ha).1
          rw [TB.len, mkL_len] at this; exact this
        have hra : H1 a = some (.lst ((C i).map nv)) := e _ _ (TB.row i a _ ha (mkL_at hi))
        refine ⟨rfl, yesI ⟨_, rfl, a, _, rfl, .inl (SqL.of hra), fun d hd => ?_⟩⟩
        have T2 := T1.upd_new (o := .lst ((C i).map nv)) hd
        have fr := T1.fresh hd
        refine ⟨as'.map V.ref, T2.top, ?_, ?_, as' ++ [d], fun b hb => ?_, ?_⟩
        · rw [List.length_map, T1.len, mkL_len]; exact small (by omega)
        · intro b o ho
          rw [upd_ne (ne_of_none ho hD2), upd_ne (ne_of_none ho (e.free hd))]
          exact e b o ho
        · rcases List.mem_append.mp hb with z | z
          · exact hn b z
          · have : b = d := by simpa using z
            subst this; exact e.free hd
        · have := T2.snoc (a := d) (r := C i) upd_same fr.2 fr.1
          rw [List.map_append] at this
          have e : mkL (i + 1) C = mkL i C ++ [C i] := by simp [mkL, List.range_succ]
          rw [e]
          exact this
      · obtain ⟨e, as', hn, T1⟩ := h
        rw [List.length_map, TB.len, mkL_len] at T1
        show M _ _
        rw [hMd]
        exact ⟨D2, as', hD2, hn, e, T1, rfl⟩
    rw [hMd] at hM
    clear hMd M
    obtain ⟨p, as', hp, has, e1, T1, rfl⟩ := hM
    -- the one ahead of the first one
    obtain ⟨M, hMd⟩ : ∃ M : L2.St → Hp → Prop, M = (fun σ H2 => H2 = H1 ∧ ∃ y, σ = [some (.ref t), some (.ref D), some (.ref p), none, some (nv (Ah ps 0)), y, none, none, none]) := ⟨_, rfl⟩
    refine ⟨M, ?_, fun σ H2 hM => ?_⟩
    · obtain ⟨l, x, hlx⟩ : ∃ l x, bs2 = l ++ [x] := ⟨bs2.dropLast, _, (List.dropLast_concat_getLast (List.ne_nil_of_length_pos (by omega))).symm⟩
      have hlast : bs2[ps.length - 1]? = some x := by
        have : ps.length - 1 = l.length := by rw [← hb2, hlx]; simp
        rw [this, hlx]; simp
      obtain ⟨_, htup⟩ := hb4 _ _ hlast
      have e0 : At ps (ps.length - 1) = Ah ps 0 := by unfold Ah; rw [Nat.zero_add]
      rw [e0] at htup
      simp only [tLenSetI, cx_K, cx_w, wipe, Int.zero_add, Bool.false_eq_true, if_false, if_true, Bool.not_true, Bool.not_false, tSeq, tAsg, tOp, tVar, tC, tRet, tRetN, tNext, tDrop, tIfS, tB, tTest, tIf, tAnd, tOr, tNot, tAndV, tOrV, tNotV, tUn, tCons, tNil, tCall, tCB, tBM, tBM0, tNoPart, tPart, tSl, tCont, tNever, tTup, tLst, gName, gNil, gCons, gTup, gSub, rI, rI0, rU, rEq, rNe, rIxL, rSlL, rSetL, rLn, rLs, rTs, rIn, rSet0, tSAdd, rSAdd, rSIn, rSNotIn, rRep, rCat, rAppend, rPop, rPopAt, iList, iRng1, iRng2, iEnum, gTup, tIsN, tNotN, tTru, tLstRg, tRg1, tRg2, L2.start, List.map_cons, List.map_nil, List.length_cons, List.length_nil, List.replicate, List.cons_append, List.nil_append, List.getElem?_cons_zero, List.getElem?_cons_succ, List.set_cons_zero, List.set_cons_succ, Option.some.injEq, exists_eq_left', V.int.injEq, V.ref.injEq, V.bl.injEq, List.cons.injEq, exists_and_left, exists_and_right, and_true, true_and, exists_eq_left, exists_eq, Nat.reduceAdd, Nat.reduceSub]
      refine ⟨_, SqL.of (e1 _ _ hb1), .ref x, by rw [hlx, List.map_append]; exact atI_last _ _, x, rfl, _, SqT.of (e1 _ _ htup), rfl, _, _, rfl, _, _, rfl, rfl, ?_⟩
      rw [hMd]
      exact ⟨rfl, _, rfl⟩
    rw [hMd] at hM
    clear hMd M
    obtain ⟨rfl, y0, rfl⟩ := hM
    -- one by one
    obtain ⟨M, hMd⟩ : ∃ M : L2.St → Hp → Prop, M = (fun σ H3 => Same H H3 ∧ Tbl H3 p as' (mkL n (outT C ps)) ∧ ∃ y1 y2 y3 y4 y5 y6, σ = [some (.ref t), some (.ref D), some (.ref p), y1, y2, y3, y4, y5, y6]) := ⟨_, rfl⟩
    refine ⟨M, ?_, fun σ H3 hM => ?_⟩
    · refine ⟨.ref D, rfl, D, rfl, ⟨_, SqL.of (e1 _ _ hb1)⟩, for_list (K := K) (xs := bs2.map V.ref) (fun k σ H' => Same H H' ∧ Tbl H' p as' (mkL n (minus C (goneL C ps k))) ∧ ∃ y1 y3 y4 y5 y6, σ = [some (.ref t), some (.ref D), some (.ref p), y1, some (nv (Ah ps k)), y3, y4, y5, y6])
        ⟨e1, ?_, none, y0, none, none, none, rfl⟩ (fun k σ H' _ h => SqL.of (h.1 _ _ hb1)) (fun k x σ H' hx h => ?_) (fun σ H' h => ?_)⟩
      · have : goneL C ps 0 = [] := rfl
        rw [this, minus_nil]
        exact T1
      · obtain ⟨e, TF, y1, y3, y4, y5, y6, rfl⟩ := h
        rw [List.getElem?_map] at hx
        obtain ⟨b2, hb, rfl⟩ := Option.map_eq_some_iff.mp hx
        obtain ⟨hk, htup⟩ := hb4 k b2 hb
        obtain ⟨am, ai, _⟩ := R.ahead dn (k + ps.length - 1)
        have eb : bs C ps (k + ps.length - 1 + 1) = bs C ps k := by unfold bs; rw [Ah_at hpos]
        rw [eb] at am
        have ham : Ah ps k ∈ C (bs C ps k) := am
        have hhead := R.head k
        have hbn := (lt _ _ (head_mem hhead)).2
        have eA : Ah ps (k + 1) = At ps k := by
          unfold Ah
          rw [show k + 1 + ps.length - 1 = k + ps.length by omega, At_len]
        obtain ⟨N, hN⟩ : ∃ N : L2.St → Hp → Prop, N = (fun σ H' => Same H H' ∧ Tbl H' p as' (mkL n (minus C (goneL C ps (k + 1)))) ∧ ∃ y1 y3 y4 y5 y6, σ = [some (.ref t), some (.ref D), some (.ref p), y1, some (nv (Ah ps (k + 1))), y3, y4, y5, y6]) := ⟨_, rfl⟩
        rw [← hN]
        have ht2 := SqT.of (K := K) (e _ _ htup)
        refine ⟨b2, _, rfl, ht2, rfl, _, _, rfl, _, _, rfl, rfl, ?_⟩
        have T2 := TB.same e
        obtain ⟨b, hb', hrb, _, _⟩ := T2.at (show bs C ps k < (mkL n C).length by rw [mkL_len]; exact hbn)
        rw [fn_mkL hbn] at hrb
        -- the row of its best one
        refine ⟨fun σ H4 => H4 = H' ∧ σ = [some (.ref t), some (.ref D), some (.ref p), some (.ref b), some (nv (Ah ps k)), y3, some (nv (At ps k)), some (nv (bs C ps k)), y6], ?_, fun σ H4 h4 => ?_⟩
        · simp only [tLenSetI, cx_K, cx_w, wipe, Int.zero_add, Bool.false_eq_true, if_false, if_true, Bool.not_true, Bool.not_false, tSeq, tAsg, tOp, tVar, tC, tRet, tRetN, tNext, tDrop, tIfS, tB, tTest, tIf, tAnd, tOr, tNot, tAndV, tOrV, tNotV, tUn, tCons, tNil, tCall, tCB, tBM, tBM0, tNoPart, tPart, tSl, tCont, tNever, tTup, tLst, gName, gNil, gCons, gTup, gSub, rI, rI0, rU, rEq, rNe, rIxL, rSlL, rSetL, rLn, rLs, rTs, rIn, rSet0, tSAdd, rSAdd, rSIn, rSNotIn, rRep, rCat, rAppend, rPop, rPopAt, iList, iRng1, iRng2, iEnum, gTup, tIsN, tNotN, tTru, tLstRg, tRg1, tRg2, L2.start, List.map_cons, List.map_nil, List.length_cons, List.length_nil, List.replicate, List.cons_append, List.nil_append, List.getElem?_cons_zero, List.getElem?_cons_succ, List.set_cons_zero, List.set_cons_succ, Option.some.injEq, exists_eq_left', V.int.injEq, V.ref.injEq, V.bl.injEq, List.cons.injEq, exists_and_left, exists_and_right, and_true, true_and, exists_eq_left, exists_eq, Nat.reduceAdd, Nat.reduceSub]
          exact ⟨_, SqL.of T2.top, _, T2.atI hb', rfl⟩
        obtain ⟨rfl, rfl⟩ := h4
        have hix := idxOf_lt_of_mem ham
        obtain ⟨M2, hM2⟩ : ∃ M : L2.St → Hp → Prop, M = (fun σ H5 => Same H H5 ∧ Tbl H5 p as' (mkL n (minus C (goneL C ps (k + 1)))) ∧ ∃ y6, σ = [some (.ref t), some (.ref D), some (.ref p), some (.ref b), some (nv (Ah ps k)), y3, some (nv (At ps k)), some (nv (bs C ps k)), y6]) := ⟨_, rfl⟩
        refine ⟨M2, ?_, fun σ H5 h5 => ?_⟩
        · have ek : ((C (bs C ps k)).idxOf (Ah ps k) : Int) + 1 = (((C (bs C ps k)).idxOf (Ah ps k) + 1 : Nat) : Int) := rfl
          have edr : (C (bs C ps k)).drop ((C (bs C ps k)).idxOf (Ah ps k) + 1) = dropK C ps k := rfl
          refine ⟨_, rfl, _, rfl, .inl ⟨rfl, _, SqL.of hrb⟩, _, rfl, ?_⟩
          simp only [tNil, cx_K]
          refine index_nv (SqL.of hrb) ham ?_
          refine ⟨_, _, rfl, rfl, _, rfl, b, _, rfl, SqL.of hrb, fun f hf => ?_⟩
          rw [ek, cutV_drop, ← List.map_drop, edr]
          have frf := TF.fresh hf
          refine ⟨f, rfl, ⟨_, SqL.of upd_same⟩, for_list (K := K) (D := { nx := M2, rt := Q }) (xs := (Bk.dropK C ps k).map nv)
            (fun j σ H5 => Same H H5 ∧ H5 f = some (.lst ((Bk.dropK C ps k).map nv)) ∧ Tbl H5 p as' (mkL n (minus C (goneL C ps k ++ ((Bk.dropK C ps k).take j).map fun y => (bs C ps k, y)))) ∧
              ∃ y6, σ = [some (.ref t), some (.ref D), some (.ref p), some (.ref b), some (nv (Ah ps k)), y3, some (nv (At ps k)), some (nv (bs C ps k)), y6])
            ⟨same_upd2 e (e.free hf), upd_same, ?_, y6, rfl⟩ (fun j σ H5 _ hh => SqL.of hh.2.1) (fun j v σ H5 hv hh => ?_) (fun σ H5 hh => ?_)⟩
          · rw [List.take_zero, List.map_nil, List.append_nil]
            exact TF.upd_new hf
          · obtain ⟨e5, hf5, T5, y6', rfl⟩ := hh
            rw [List.getElem?_map] at hv
            obtain ⟨z, hz, rfl⟩ := Option.map_eq_some_iff.mp hv
            have hzb : z ∈ C (bs C ps k) := by
              have := List.mem_of_getElem? hz
              unfold Bk.dropK at this
              exact List.mem_of_mem_drop this
            have hzn := (lt _ _ hzb).2
            have hne : bs C ps k ≠ z := fun ez => by
              have h3 := (dn.tab.sub (bs C ps k)).subset hzb
              rw [← ez] at h3
              exact L.ir _ h3
            have etk : goneL C ps k ++ ((Bk.dropK C ps k).take (j + 1)).map (fun y => (bs C ps k, y)) = (goneL C ps k ++ ((Bk.dropK C ps k).take j).map fun y => (bs C ps k, y)) ++ [(bs C ps k, z)] := by
              have et : (Bk.dropK C ps k).take (j + 1) = (Bk.dropK C ps k).take j ++ [z] := by rw [List.take_add_one, hz]; rfl
              rw [et, List.map_append, List.append_assoc]
              rfl
            rw [etk]
            simp only [tLenSetI, cx_K, cx_w, wipe, Int.zero_add, Bool.false_eq_true, if_false, if_true, Bool.not_true, Bool.not_false, tSeq, tAsg, tOp, tVar, tC, tRet, tRetN, tNext, tDrop, tIfS, tB, tTest, tIf, tAnd, tOr, tNot, tAndV, tOrV, tNotV, tUn, tCons, tNil, tCall, tCB, tBM, tBM0, tNoPart, tPart, tSl, tCont, tNever, tTup, tLst, gName, gNil, gCons, gTup, gSub, rI, rI0, rU, rEq, rNe, rIxL, rSlL, rSetL, rLn, rLs, rTs, rIn, rSet0, tSAdd, rSAdd, rSIn, rSNotIn, rRep, rCat, rAppend, rPop, rPopAt, iList, iRng1, iRng2, iEnum, gTup, tIsN, tNotN, tTru, tLstRg, tRg1, tRg2, L2.start, List.map_cons, List.map_nil, List.length_cons, List.length_nil, List.replicate, List.cons_append, List.nil_append, List.getElem?_cons_zero, List.getElem?_cons_succ, List.set_cons_zero, List.set_cons_succ, Option.some.injEq, exists_eq_left', V.int.injEq, V.ref.injEq, V.bl.injEq, List.cons.injEq, exists_and_left, exists_and_right, and_true, true_and, exists_eq_left, exists_eq, Nat.reduceAdd, Nat.reduceSub]
            refine ⟨p, as', n, C, _, bs C ps k, z, rfl, T5, nd, mu, hne, hbn, hzn, fun H6 T6 k6 => ⟨fun b' o ho => ?_, ?_, T6, _, rfl⟩⟩
            · rw [k6 b' (fun m => by rw [has b' m] at ho; cases ho)]
              exact e5 b' o ho
            · rw [k6 f frf.1]
              exact hf5
          · obtain ⟨e5, hf5, T5, y6', rfl⟩ := hh
            rw [List.length_map, List.take_length] at T5
            show M2 _ _
            rw [hM2, goneL_succ]
            exact ⟨e5, T5, _, rfl⟩
        · rw [hM2] at h5
          obtain ⟨e5, T5, y6', rfl⟩ := h5
          simp only [tLenSetI, cx_K, cx_w, wipe, Int.zero_add, Bool.false_eq_true, if_false, if_true, Bool.not_true, Bool.not_false, tSeq, tAsg, tOp, tVar, tC, tRet, tRetN, tNext, tDrop, tIfS, tB, tTest, tIf, tAnd, tOr, tNot, tAndV, tOrV, tNotV, tUn, tCons, tNil, tCall, tCB, tBM, tBM0, tNoPart, tPart, tSl, tCont, tNever, tTup, tLst, gName, gNil, gCons, gTup, gSub, rI, rI0, rU, rEq, rNe, rIxL, rSlL, rSetL, rLn, rLs, rTs, rIn, rSet0, tSAdd, rSAdd, rSIn, rSNotIn, rRep, rCat, rAppend, rPop, rPopAt, iList, iRng1, iRng2, iEnum, gTup, tIsN, tNotN, tTru, tLstRg, tRg1, tRg2, L2.start, List.map_cons, List.map_nil, List.length_cons, List.length_nil, List.replicate, List.cons_append, List.nil_append, List.getElem?_cons_zero, List.getElem?_cons_succ, List.set_cons_zero, List.set_cons_succ, Option.some.injEq, exists_eq_left', V.int.injEq, V.ref.injEq, V.bl.injEq, List.cons.injEq, exists_and_left, exists_and_right, and_true, true_and, exists_eq_left, exists_eq, Nat.reduceAdd, Nat.reduceSub]
          rw [hN, eA]
          exact ⟨e5, T5, _, _, _, _, _, rfl⟩
      · obtain ⟨e, TF, y1, y3, y4, y5, y6, rfl⟩ := h
        rw [List.length_map, hb2, out_minus L dn R] at TF
        rw [hMd]
        exact ⟨e, TF, _, _, _, _, _, _, rfl⟩
    rw [hMd] at hM
    obtain ⟨e, TF, y1, y2, y3, y4, y5, y6, rfl⟩ := hM
    simp only [tLenSetI, cx_K, cx_w, wipe, Int.zero_add, Bool.false_eq_true, if_false, if_true, Bool.not_true, Bool.not_false, tSeq, tAsg, tOp, tVar, tC, tRet, tRetN, tNext, tDrop, tIfS, tB, tTest, tIf, tAnd, tOr, tNot, tAndV, tOrV, tNotV, tUn, tCons, tNil, tCall, tCB, tBM, tBM0, tNoPart, tPart, tSl, tCont, tNever, tTup, tLst, gName, gNil, gCons, gTup, gSub, rI, rI0, rU, rEq, rNe, rIxL, rSlL, rSetL, rLn, rLs, rTs, rIn, rSet0, tSAdd, rSAdd, rSIn, rSNotIn, rRep, rCat, rAppend, rPop, rPopAt, iList, iRng1, iRng2, iEnum, gTup, tIsN, tNotN, tTru, tLstRg, tRg1, tRg2, L2.start, List.map_cons, List.map_nil, List.length_cons, List.length_nil, List.replicate, List.cons_append, List.nil_append, List.getElem?_cons_zero, List.getElem?_cons_succ, List.set_cons_zero, List.set_cons_succ, Option.some.injEq, exists_eq_left', V.int.injEq, V.ref.injEq, V.bl.injEq, List.cons.injEq, exists_and_left, exists_and_right, and_true, true_and, exists_eq_left, exists_eq, Nat.reduceAdd, Nat.reduceSub]
    exact q H3 p as' e hp has TF
end
end K6g

set_option Elab.async false
set_option linter.all false
set_option maxRecDepth 100000
set_option maxHeartbeats 4000000
namespace K6g
open K6 PySem PySem.Spec PyProof.Rows L2 LamX Bk
section
variable {P : Program} {w : World} {K : PySem.W.Frag} {mg : Str → Option Value} {base : Heap}

/-- whether somebody who had one left has nobody left -/
def sp_emptied (K : PySem.W.Frag) (P1 : Addr) : Sp := fun vs H Q _ => ∃ (a b : Addr) (as bs : List Addr) (n : Nat) (C C' : Nat → List Nat), vs = [.ref a, .ref b] ∧ Tbl H a as (mkL n C) ∧ Tbl H b bs (mkL n C') ∧ GxR.TabG H P1 ∧ n ≤ 60 ∧ (∀ i, (C i).length ≤ 1000) ∧ (∀ i, (C' i).length ≤ 1000) ∧
  (∀ H', Grow H H' → Emptied n C C' → Q (.bl true) H') ∧ (∀ H', Grow H H' → ¬ Emptied n C C' → Q (.bl false) H')
theorem ok_emptied (T : Txt P K mg) {c P1 : Addr} (FC : FunC K "is_emptied" s_is_emptied T.a_is_emptied T.fd_is_emptied c) (TB : GxR.TabB base mg c P1) : FnOk P w K mg base CX0 2 T.a_is_emptied T.fd_is_emptied ["rows", "behind"] (sp_emptied K P1) := by
  refine FC.ok sc_is_emptied (fun vs H Q E h => ?_) (fun A outer s H vs Q E hr h => ?_)
  · obtain ⟨a, b, as, bs, n, C, C', rfl, _⟩ := h
    rfl
  · obtain ⟨a, b, as, bs, n, C, C', rfl, TA, TBb, hT, hn, l1, l2, q1, q2⟩ := h
    have hr1 := hr
    have hcode : (cxOf CX0 P w K mg base ["rows", "behind", "row", "left"] "is_emptied" (defScope s_is_emptied) T.a_is_emptied (.ref c) A outer s H E).nox.env.code = .ref c := rfl
    refine ⟨_, (pss_one (ps_ret (BkG.pe_emptied hr1 (by rfl) T.m_any (by rfl) T.m_zip TB hcode (by show BkG.genC (defScope s_is_emptied) _ _ _ = true; decide +kernel) (pa_cons (pv 0) (pa_cons (pv 1) pa_nil))))), ?_⟩
    refine ⟨_, rfl, _, rfl, a, b, as, bs, mkL n C, mkL n C', rfl, TA, TBb, hT, fun r hr => ?_, fun r hr => ?_, fun H2 hH2 => ?_⟩
    · obtain ⟨i, _, rfl⟩ := List.mem_map.mp hr
      exact l1 i
    · obtain ⟨i, _, rfl⟩ := List.mem_map.mp hr
      exact l2 i
    · have gr : Grow H H2 := grow_tabbed hT hH2
      rw [mkL_len, mkL_len, Nat.min_self]
      by_cases e : Emptied n C C'
      · have : ((List.range n).any fun i => !(fn (mkL n C) i).isEmpty && (fn (mkL n C') i).isEmpty) = true := by
          rw [List.any_eq_true]
          obtain ⟨i, hi, e1, e2⟩ := e
          refine ⟨i, List.mem_range.mpr hi, ?_⟩
          rw [fn_mkL hi, fn_mkL hi, e2]
          cases hc : C i with
          | nil => exact absurd hc e1
          | cons _ _ => rfl
        rw [this]
        exact q1 H2 gr e
      · have : ((List.range n).any fun i => !(fn (mkL n C) i).isEmpty && (fn (mkL n C') i).isEmpty) = false := by
          rw [List.any_eq_false]
          intro i hi h
          have hi := List.mem_range.mp hi
          rw [fn_mkL hi, fn_mkL hi] at h
          refine e ⟨i, hi, fun z => ?_, ?_⟩
          · rw [z] at h; simp at h
          · simp at h; exact h.2
        rw [this]
        exact q2 H2 gr e
end
end K6g

set_option Elab.async false
set_option linter.all false
set_option maxRecDepth 100000
set_option maxHeartbeats 4000000
namespace K6g
open K6 PySem PySem.Spec PyProof.Rows L2 LamX Bk
section
variable {P : Program} {w : World} {K : PySem.W.Frag} {mg : Str → Option Value} {base : Heap}

/-- the rings, one by one -/
def sp_ringsout (K : PySem.W.Frag) (P1 : Addr) : Sp := fun vs H Q _ => ∃ (t : Addr) (as : List Addr) (rows : List (List Nat)), vs = [.ref t] ∧ Tbl H t as rows ∧ GL rows ∧ rows.length ≤ 60 ∧ GxR.TabG H P1 ∧
  ∀ H' D us rs ts ass C pss, Grow H H' → Off (fn (mutL rows)) C → Outs rows.length 0 C pss → RingsAt H' D rows.length C pss us rs ts ass → (∀ a ∈ allA D rs ts ass, H a = none) → Q (.ref D) H'
/-- what holds between two rings -/
def RO (n : Nat) (H : Hp) (D P1 : Addr) (R C : Nat → List Nat) (pss : List (List Nat)) (rp : Addr) (H' : Hp) : Prop := ∃ us rs ts ass ras,
  Grow H H' ∧ RingsAt H' D n C pss us rs ts ass ∧ (∀ a ∈ allA D rs ts ass, H a = none) ∧ Tbl H' rp ras (mkL n (after C pss)) ∧ D ≠ rp ∧ D ∉ ras ∧ GxR.TabG H' P1 ∧ pss.length + total n (after C pss) ≤ n * n ∧ Done R (after C pss)
theorem ok_ringsout (T : Txt P K mg) {c1 P1 : Addr} (FC1 : FunC K "is_emptied" s_is_emptied T.a_is_emptied T.fd_is_emptied c1) (TB1 : GxR.TabB base mg c1 P1) : FnOk P w K mg base CX0 6 T.a_rings_out T.fd_rings_out ["lists"] (sp_ringsout K P1) := by
  have G_offered : FnOk P w K mg base CX0 5 T.a_offered T.fd_offered ["lists"] (sp_offered K) := ok_offered T
  have G_ring_from : FnOk P w K mg base CX0 2 T.a_ring_from T.fd_ring_from ["rows", "start"] (sp_ringfrom K) := ok_ringfrom T
  have G_taken_out : FnOk P w K mg base CX0 2 T.a_taken_out T.fd_taken_out ["rows", "ring"] (sp_takenout K) := ok_takenout T
  have G_is_emptied : FnOk P w K mg base CX0 2 T.a_is_emptied T.fd_is_emptied ["rows", "behind"] (sp_emptied K P1) := ok_emptied T FC1 TB1
  refine T.F_rings_out.ok sc_rings_out (fun vs H Q E h => ?_) (fun cdv A outer s H vs Q E hr h => ?_)
  · obtain ⟨t, as, rows, rfl, _⟩ := h
    rfl
  · obtain ⟨t, as, rows, rfl, TB, g, hl, hT, q⟩ := h
    obtain ⟨n, hn⟩ : ∃ n, n = rows.length := ⟨_, rfl⟩
    rw [← hn] at hl q
    obtain ⟨R, hR⟩ : ∃ R, R = fn (mutL rows) := ⟨_, rfl⟩
    rw [← hR] at q
    have L : Lists R := by rw [hR]; exact lists_mut g
    have Rlt : ∀ i x, x ∈ R i → i < n ∧ x < n := fun i x hx => by rw [hR] at hx; rw [hn]; exact mut_lt g hx
    have hL : ∀ i x, x ∈ R i → i < n := fun i x hx => (Rlt i x hx).1
    have rlen : ∀ {C : Nat → List Nat} (d : Done R C) (i : Nat), (C i).length ≤ n := fun {C} d i => nodup_le (d.tab.nd L i) fun x hx => (Rlt i x ((d.tab.sub i).subset hx)).2
    refine ⟨_, (C8.pss_cut (ps_set (i := 1) sc_rings_out.nd rfl (.inl rfl) (pe_call G_offered (hr.mono (by decide)) (by rfl) T.g_offered T.F_offered.kp T.b_offered .nil pass0 (pa_cons (pv 0) pa_nil)))
      (C8.pss_cut (ps_set (i := 2) sc_rings_out.nd rfl (.inl rfl) (pe_lst pa_nil))
      (C8.pss_cut (ps_set (i := 3) sc_rings_out.nd rfl (.inl rfl) (pe_callB (klen (K := K)) (by rfl) T.m_len (by decide +kernel) (pa_cons (pv 1) pa_nil)))
      (C8.pss_cut (ps_for PassesOwn.never rfl (pi_range1 (by rfl) T.m_range (pa_cons (pv 3) pa_nil)) (pg_name (i := 4) sc_rings_out.nd rfl (.inl rfl)) (pss_one (ps_while PassesOwn.never (pt_cmpR op_gt (pe_callB (klen (K := K)) (by rfl) T.m_len (by decide +kernel) (pa_cons (pe_ix (kix_list (K := K)) (pv 1) (pv 4) (fun _ _ => rfl)) pa_nil)) pe_int (nomark _)) (pss_cons (ps_set (i := 5) sc_rings_out.nd rfl (.inl rfl) (pe_call G_ring_from (hr.mono (by decide)) (by rfl) T.g_ring_from T.F_ring_from.kp T.b_ring_from .nil pass0 (pa_cons (pv 1) (pa_cons (pv 4) pa_nil))))
      (pss_cons (ps_set (i := 6) sc_rings_out.nd rfl (.inl rfl) (pe_call G_taken_out (hr.mono (by decide)) (by rfl) T.g_taken_out T.F_taken_out.kp T.b_taken_out .nil pass0 (pa_cons (pv 1) (pa_cons (pv 5) pa_nil))))
      (pss_cons (ps_if (pt_val (pe_call G_is_emptied (hr.mono (by decide)) (by rfl) T.g_is_emptied T.F_is_emptied.kp T.b_is_emptied .nil pass0 (pa_cons (pv 1) (pa_cons (pv 6) pa_nil)))) (pss_one ps_break) pss_nil)
      (pss_cons (ps_expr (pe_bm PySem.F.plainAttrs_list PySem.F.slot_list_append PySem.F.type_list_append mt_append (pv 2) (pa_cons (pe_tup (pa_cons (pv 5) (pa_cons (pv 6) pa_nil))) pa_nil)))
      (pss_one (ps_set (i := 1) sc_rings_out.nd rfl (.inl rfl) (pv 6))))))))))
      (pss_one (ps_ret (pv 2))))))), ?_⟩
    -- the table behind all offers
    obtain ⟨M, hM⟩ : ∃ M : L2.St → Hp → Prop, M = (fun σ H1 => ∃ r rs C, σ = [some (.ref t), some (.ref r), none, none, none, none, none] ∧ Same H H1 ∧ Tbl H1 r rs (mkL n C) ∧ Off R C) := ⟨_, rfl⟩
    refine ⟨M, ?_, fun σ H1 h1 => ?_⟩
    · simp only [tLenSetI, cx_K, cx_w, wipe, Int.zero_add, Bool.false_eq_true, if_false, if_true, Bool.not_true, Bool.not_false, tSeq, tAsg, tOp, tVar, tC, tRet, tRetN, tNext, tDrop, tIfS, tB, tTest, tIf, tAnd, tOr, tNot, tAndV, tOrV, tNotV, tUn, tCons, tNil, tCall, tCB, tBM, tBM0, tNoPart, tPart, tSl, tCont, tNever, tTup, tLst, gName, gNil, gCons, gTup, gSub, rI, rI0, rU, rEq, rNe, rIxL, rSlL, rSetL, rLn, rLs, rTs, rIn, rSet0, tSAdd, rSAdd, rSIn, rSNotIn, rRep, rCat, rAppend, rPop, rPopAt, iList, iRng1, iRng2, iEnum, gTup, tIsN, tNotN, tTru, tLstRg, tRg1, tRg2, L2.start, List.map_cons, List.map_nil, List.length_cons, List.length_nil, List.replicate, List.cons_append, List.nil_append, List.getElem?_cons_zero, List.getElem?_cons_succ, List.set_cons_zero, List.set_cons_succ, Option.some.injEq, exists_eq_left', V.int.injEq, V.ref.injEq, V.bl.injEq, List.cons.injEq, exists_and_left, exists_and_right, and_true, true_and, exists_eq_left, exists_eq, Nat.reduceAdd, Nat.reduceSub]
      refine ⟨t, as, rows, rfl, TB, g, by omega, fun H1 p ps C e _ _ TP off => ?_⟩
      rw [hM]
      rw [← hR] at off
      exact ⟨p, ps, C, rfl, e, by rw [hn]; exact TP, off⟩
    rw [hM] at h1
    clear hM M
    obtain ⟨r, rs, C, rfl, e1, TR, off⟩ := h1
    -- nothing told yet
    refine ⟨fun σ H2 => ∃ D, H1 D = none ∧ H2 = upd H1 D (.lst []) ∧ σ = [some (.ref t), some (.ref r), some (.ref D), none, none, none, none], ?_, fun σ H2 h2 => ?_⟩
    · simp only [tLenSetI, cx_K, cx_w, wipe, Int.zero_add, Bool.false_eq_true, if_false, if_true, Bool.not_true, Bool.not_false, tSeq, tAsg, tOp, tVar, tC, tRet, tRetN, tNext, tDrop, tIfS, tB, tTest, tIf, tAnd, tOr, tNot, tAndV, tOrV, tNotV, tUn, tCons, tNil, tCall, tCB, tBM, tBM0, tNoPart, tPart, tSl, tCont, tNever, tTup, tLst, gName, gNil, gCons, gTup, gSub, rI, rI0, rU, rEq, rNe, rIxL, rSlL, rSetL, rLn, rLs, rTs, rIn, rSet0, tSAdd, rSAdd, rSIn, rSNotIn, rRep, rCat, rAppend, rPop, rPopAt, iList, iRng1, iRng2, iEnum, gTup, tIsN, tNotN, tTru, tLstRg, tRg1, tRg2, L2.start, List.map_cons, List.map_nil, List.length_cons, List.length_nil, List.replicate, List.cons_append, List.nil_append, List.getElem?_cons_zero, List.getElem?_cons_succ, List.set_cons_zero, List.set_cons_succ, Option.some.injEq, exists_eq_left', V.int.injEq, V.ref.injEq, V.bl.injEq, List.cons.injEq, exists_and_left, exists_and_right, and_true, true_and, exists_eq_left, exists_eq, Nat.reduceAdd, Nat.reduceSub]
      exact ⟨Nat.zero_le _, fun p hp => ⟨p, hp, rfl, rfl⟩⟩
    obtain ⟨D, hD, rfl, rfl⟩ := h2
    have e2 : Same H (upd H1 D (.lst [])) := same_upd2 e1 (e1.free hD)
    have TR2 := TR.upd_new (o := .lst []) hD
    refine ⟨fun σ H2 => H2 = upd H1 D (.lst []) ∧ σ = [some (.ref t), some (.ref r), some (.ref D), some (nv n), none, none, none], ?_, fun σ H2 h2 => ?_⟩
    · simp only [tLenSetI, cx_K, cx_w, wipe, Int.zero_add, Bool.false_eq_true, if_false, if_true, Bool.not_true, Bool.not_false, tSeq, tAsg, tOp, tVar, tC, tRet, tRetN, tNext, tDrop, tIfS, tB, tTest, tIf, tAnd, tOr, tNot, tAndV, tOrV, tNotV, tUn, tCons, tNil, tCall, tCB, tBM, tBM0, tNoPart, tPart, tSl, tCont, tNever, tTup, tLst, gName, gNil, gCons, gTup, gSub, rI, rI0, rU, rEq, rNe, rIxL, rSlL, rSetL, rLn, rLs, rTs, rIn, rSet0, tSAdd, rSAdd, rSIn, rSNotIn, rRep, rCat, rAppend, rPop, rPopAt, iList, iRng1, iRng2, iEnum, gTup, tIsN, tNotN, tTru, tLstRg, tRg1, tRg2, L2.start, List.map_cons, List.map_nil, List.length_cons, List.length_nil, List.replicate, List.cons_append, List.nil_append, List.getElem?_cons_zero, List.getElem?_cons_succ, List.set_cons_zero, List.set_cons_succ, Option.some.injEq, exists_eq_left', V.int.injEq, V.ref.injEq, V.bl.injEq, List.cons.injEq, exists_and_left, exists_and_right, and_true, true_and, exists_eq_left, exists_eq, Nat.reduceAdd, Nat.reduceSub]
      refine ⟨_, .inl (SqL.of TR2.top), ?_⟩
      rw [List.length_map, TR2.len, mkL_len]
    obtain ⟨rfl, rfl⟩ := h2
    have fr := TR.fresh hD
    have start : RO n H D P1 R C [] r (upd H1 D (.lst [])) := by
      refine ⟨[], [], [], [], rs, Same.grow e2, .nil upd_same, fun a ha => ?_, TR2, fr.2, fr.1, (Same.grow e2).tab hT, ?_, off.dn⟩
      · rcases mem_allA.mp ha with rfl | z | z | ⟨_, z, _⟩
        · exact e1.free hD
        · simp at z
        · simp at z
        · simp at z
      · rw [after_nil]
        have := total_le (n := n) (C := C) (rlen off.dn)
        simpa using this
    -- person by person
    obtain ⟨M, hM⟩ : ∃ M : L2.St → Hp → Prop, M = (fun σ H3 => ∃ pss rp y4 y5 y6, RO n H D P1 R C pss rp H3 ∧ Outs n 0 C pss ∧ σ = [some (.ref t), some (.ref rp), some (.ref D), some (nv n), y4, y5, y6]) := ⟨_, rfl⟩
    refine ⟨M, ?_, fun σ H3 h3 => ?_⟩
    · refine ⟨_, rfl, _, rfl, by omega, by omega, for_rng n (by omega) (fun i σ H3 => ∃ pss rp y4 y5 y6, RO n H D P1 R C pss rp H3 ∧ (∀ rest, Outs n i (after C pss) rest → Outs n 0 C (pss ++ rest)) ∧ σ = [some (.ref t), some (.ref rp), some (.ref D), some (nv n), y4, y5, y6])
        ⟨[], r, none, none, none, start, fun rest h => h, rfl⟩ (fun i σ H3 hi h => ?_) (fun σ H3 h => ?_)⟩
      · obtain ⟨pre, rp, y4, y5, y6, ro, ho, rfl⟩ := h
        obtain ⟨N, hN⟩ : ∃ N : L2.St → Hp → Prop, N = (fun σ H3 => ∃ pss rp y4 y5 y6, RO n H D P1 R C pss rp H3 ∧ (∀ rest, Outs n (i + 1) (after C pss) rest → Outs n 0 C (pss ++ rest)) ∧ σ = [some (.ref t), some (.ref rp), some (.ref D), some (nv n), y4, y5, y6]) := ⟨_, rfl⟩
        rw [← hN]
        have out : ∀ mid rp y4 y5 y6 H4, RO n H D P1 R C (pre ++ mid) rp H4 → Inn n i (after C pre) mid → N [some (.ref t), some (.ref rp), some (.ref D), some (nv n), y4, y5, y6] H4 := fun mid rp y4 y5 y6 H4 h1 h2 => by
          rw [hN]
          refine ⟨pre ++ mid, rp, y4, y5, y6, h1, fun rest hrest => ?_, rfl⟩
          rw [List.append_assoc]
          refine ho _ (.go hi h2 ?_)
          rw [← after_append]
          exact hrest
        rw [Int.zero_add]
        refine ⟨fun m σ H4 => ∃ mid rp y5 y6, RO n H D P1 R C (pre ++ mid) rp H4 ∧ m = total n (after C (pre ++ mid)) ∧ (∀ rest, Inn n i (after C (pre ++ mid)) rest → Inn n i (after C pre) (mid ++ rest)) ∧ σ = [some (.ref t), some (.ref rp), some (.ref D), some (nv n), some (nv i), y5, y6],
          ⟨_, [], rp, y5, y6, by rw [List.append_nil]; exact ro, rfl, fun rest h => by rw [List.append_nil] at h; exact h, rfl⟩, fun m σ H4 hW => ?_⟩
        obtain ⟨mid, rp4, y5', y6', ro4, rfl, hmid, rfl⟩ := hW
        obtain ⟨us, rs4, ts, ass, ras, g4, RA, hfr, T4, nDr, nDras, tab4, tot, dn⟩ := ro4
        obtain ⟨C', hC'⟩ : ∃ C', C' = after C (pre ++ mid) := ⟨_, rfl⟩
        rw [← hC'] at T4 tot dn hmid ⊢
        obtain ⟨a, ha, hra, _, _⟩ := T4.at (show i < (mkL n C').length by rw [mkL_len]; exact hi)
        rw [fn_mkL hi] at hra
        have ro4' : RO n H D P1 R C (pre ++ mid) rp4 H4 := ⟨us, rs4, ts, ass, ras, g4, RA, hfr, by rw [← hC']; exact T4, nDr, nDras, tab4, by rw [← hC']; exact tot, by rw [← hC']; exact dn⟩
        simp only [tLenSetI, cx_K, cx_w, wipe, Int.zero_add, Bool.false_eq_true, if_false, if_true, Bool.not_true, Bool.not_false, tSeq, tAsg, tOp, tVar, tC, tRet, tRetN, tNext, tDrop, tIfS, tB, tTest, tIf, tAnd, tOr, tNot, tAndV, tOrV, tNotV, tUn, tCons, tNil, tCall, tCB, tBM, tBM0, tNoPart, tPart, tSl, tCont, tNever, tTup, tLst, gName, gNil, gCons, gTup, gSub, rI, rI0, rU, rEq, rNe, rIxL, rSlL, rSetL, rLn, rLs, rTs, rIn, rSet0, tSAdd, rSAdd, rSIn, rSNotIn, rRep, rCat, rAppend, rPop, rPopAt, iList, iRng1, iRng2, iEnum, gTup, tIsN, tNotN, tTru, tLstRg, tRg1, tRg2, L2.start, List.map_cons, List.map_nil, List.length_cons, List.length_nil, List.replicate, List.cons_append, List.nil_append, List.getElem?_cons_zero, List.getElem?_cons_succ, List.set_cons_zero, List.set_cons_succ, Option.some.injEq, exists_eq_left', V.int.injEq, V.ref.injEq, V.bl.injEq, List.cons.injEq, exists_and_left, exists_and_right, and_true, true_and, exists_eq_left, exists_eq, Nat.reduceAdd, Nat.reduceSub]
        refine ⟨_, SqL.of T4.top, _, T4.atI ha, a, rfl, _, .inl (SqL.of hra), ?_⟩
        rw [List.length_map]
        by_cases h1 : 1 < (C' i).length
        rotate_left
        · rw [decide_eq_false (show ¬ (1 : Int) < ((C' i).length : Int) by omega)]
          refine iteF ?_
          have := hmid [] (.few h1)
          rw [List.append_nil] at this
          exact out mid rp4 _ _ _ H4 ro4' this
        rw [decide_eq_true (show (1 : Int) < ((C' i).length : Int) by omega)]
        refine iteT ⟨fun σ' H' => ∃ m', m' < total n C' ∧ ∃ mid rp y5 y6, RO n H D P1 R C (pre ++ mid) rp H' ∧ m' = total n (after C (pre ++ mid)) ∧ (∀ rest, Inn n i (after C (pre ++ mid)) rest → Inn n i (after C pre) (mid ++ rest)) ∧ σ' = [some (.ref t), some (.ref rp), some (.ref D), some (nv n), some (nv i), y5, y6], fun σ' H' ⟨m', z1, z2, z3, z4, z5, z6, z7, z8, z9⟩ => ⟨m', z1, z2, z3, z6, z7, z8, z4, z5, z9⟩, ?_⟩
        refine ⟨rp4, ras, n, R, C', i, rfl, T4, hl, L, Rlt, dn, hi, h1, fun H5 D5 ps e5 hD5 hP5 hrf => ?_⟩
        obtain ⟨ring, hmin, _⟩ := ringfrom_ok L hL dn h1 hrf
        refine ⟨rp4, D5, ras, n, R, C', ps, rfl, T4.same e5, hP5, hl, L, Rlt, dn, ring, fun H6 p6 as6 e6 hp6 has6 T6 => ?_⟩
        have T46 := T4.same (e5.trans e6)
        have tab6 := (Same.grow (e5.trans e6)).tab tab4
        refine ⟨rp4, p6, ras, as6, n, C', outT C' ps, rfl, T46, T6, tab6, hl, fun j => Nat.le_trans (rlen dn j) (by omega), fun j => Nat.le_trans (outT_sub j).length_le (Nat.le_trans (rlen dn j) (by omega)), fun H7 g7 hE => ⟨_, rfl, iteT ?_⟩, fun H7 g7 hE => ⟨_, rfl, iteF ?_⟩⟩
        · -- an odd ring
          have g47 : Grow H4 H7 := (Same.grow (e5.trans e6)).trans g7
          have := hmid [] (.odd h1 hrf hE)
          rw [List.append_nil] at this
          refine out mid rp4 _ _ _ H7 ⟨us, rs4, ts, ass, ras, g4.trans g47, RA.grow g47, hfr, ?_, nDr, nDras, g47.tab tab4, ?_, ?_⟩ this
          · rw [← hC']; exact T4.grow g47
          · rw [← hC']; exact tot
          · rw [← hC']; exact dn
        · have g46 : Grow H4 H6 := Same.grow (e5.trans e6)
          have g47 : Grow H4 H7 := g46.trans g7
          have RA7 := RA.grow g47
          have old : ∀ a, a ∈ allA D rs4 ts ass → ∃ xs, H4 a = some (.lst xs) := fun a ha => RA.held ha
          have hD5' := hP5.ex
          obtain ⟨_, hD5t, _⟩ := hD5'
          have np6 : H4 p6 = none := e5.free hp6
          have frD5 : D5 ∉ allA D rs4 ts ass := fun z => by
            obtain ⟨xs, hx⟩ := old _ z
            rw [hD5] at hx; cases hx
          have frp6 : p6 ∉ allA D rs4 ts ass := fun z => by
            obtain ⟨xs, hx⟩ := old _ z
            rw [np6] at hx; cases hx
          have p6D5 : p6 ≠ D5 := fun z => by rw [z, hD5t] at hp6; cases hp6
          have fra : ∀ a ∈ as6, a ∉ allA D rs4 ts ass ∧ a ≠ D5 := by
            intro a ha
            refine ⟨fun z => ?_, fun z => ?_⟩
            · obtain ⟨xs, hx⟩ := old _ z
              rw [e5.free (has6 a ha)] at hx; cases hx
            · have h9 := has6 a ha
              rw [z, hD5t] at h9; cases h9
          have nDp : D ≠ p6 := fun z => frp6 (z ▸ mem_allA.mpr (.inl rfl))
          have nDa : D ∉ as6 := fun z => (fra D z).1 (mem_allA.mpr (.inl rfl))
          have hDnone : H D = none := hfr D (mem_allA.mpr (.inl rfl))
          have T7 : Tbl H7 p6 as6 (mkL n (outT C' ps)) := T6.grow g7
          have tab7 := g7.tab tab6
          have eac : after C (pre ++ (mid ++ [ps])) = outT C' ps := by
            rw [← List.append_assoc, after_append, ← hC']; rfl
          have eac2 : after C (pre ++ mid ++ [ps]) = outT C' ps := by
            rw [after_append, ← hC']; rfl
          have hl7 := not_lost (fun j x hx => hL j x ((dn.tab.sub j).subset hx)) hE
          have dn7 := out_done L hL dn ring hl7
          have tl := total_out L hL dn ring (n := n)
          have nn : n * n ≤ 3600 := Nat.mul_le_mul hl hl
          have hul : us.length ≤ n * n := by rw [RA.lu]; omega
          refine ⟨.inl ⟨rfl, _, SqL.of RA7.top⟩, by decide, fun u hu => ⟨us.map V.ref, by rw [upd_ne (ne_of_none RA7.top hu)]; exact RA7.top, by rw [List.length_map]; exact small (by omega), ?_⟩⟩
          have SN := RA7.snoc (u := u) (r := D5) (t := p6) (as := as6) (ps := ps) hu (by rw [← hC']; exact (hP5.same e6).grow g7) (by rw [eac2]; exact T7) frD5 frp6 p6D5 fra
          have tup7 : ∀ b, b ≠ D → H7 b ≠ none → upd (upd H7 u (.tup [.ref D5, .ref p6])) D (.lst (us.map V.ref ++ [.ref u])) b = H7 b := fun b h1 h2 => by
            rw [upd_ne h1, upd_ne (fun z => h2 (by rw [z]; exact hu))]
          refine ⟨total n (outT C' ps), tl, mid ++ [ps], p6, _, _, ⟨us ++ [u], rs4 ++ [D5], ts ++ [p6], ass ++ [as6], as6, ?_, ?_, ?_, ?_, nDp, nDa, ?_, ?_, ?_⟩, by rw [eac], fun rest hr => ?_, rfl⟩
          · intro b o ho
            have nbD : b ≠ D := fun z => by rw [z, hDnone] at ho; cases ho
            rcases (g4.trans g47) b o ho with h3 | ⟨q1, q2, h3, h4, h5⟩
            · exact .inl (by rw [tup7 b nbD (by rw [h3]; simp)]; exact h3)
            · exact .inr ⟨q1, q2, h3, by rw [tup7 b nbD (by rw [h4]; simp)]; exact h4, h5⟩
          · rw [← List.append_assoc]
            exact SN
          · intro a ha
            rcases mem_allA.mp ha with rfl | z | z | ⟨l, z, z2⟩
            · exact hDnone
            · rcases List.mem_append.mp z with z | z
              · exact hfr a (mem_allA.mpr (.inr (.inl z)))
              · have : a = D5 := by simpa using z
                rw [this]; exact g4.free hD5
            · rcases List.mem_append.mp z with z | z
              · exact hfr a (mem_allA.mpr (.inr (.inr (.inl z))))
              · have : a = p6 := by simpa using z
                rw [this]; exact g4.free np6
            · rcases List.mem_append.mp z with z | z
              · exact hfr a (mem_allA.mpr (.inr (.inr (.inr ⟨l, z, z2⟩))))
              · have : l = as6 := by simpa using z
                subst this
                exact g4.free (e5.free (has6 a z2))
          · rw [eac]
            refine T7.keep (tup7 _ (Ne.symm nDp) (by rw [T7.top]; simp)) fun a ha => tup7 a (fun z => nDa (z ▸ ha)) ?_
            obtain ⟨i', hi'⟩ := List.mem_iff_getElem?.mp ha
            have hin : i' < (mkL n (outT C' ps)).length := by
              have := (List.getElem?_eq_some_iff.mp hi').1
              rw [T7.len] at this; exact this
            have := T7.row i' a _ hi' (fn_at hin)
            rw [show H7 a = _ from this]
            simp
          · obtain ⟨qs, hq, ht⟩ := tab7
            refine ⟨qs, ?_, ht⟩
            rw [tup7 P1 (fun z => by rw [z, RA7.top] at hq; cases hq) (by rw [hq]; simp)]
            exact hq
          · rw [eac, List.length_append, List.length_append, List.length_singleton]
            rw [List.length_append] at tot
            omega
          · rw [eac]; exact dn7
          · rw [eac] at hr
            have := hmid _ (.ring h1 hrf hE hr)
            rw [List.append_assoc]
            exact this
      · obtain ⟨pss, rp, y4, y5, y6, ro, ho, rfl⟩ := h
        rw [hM]
        refine ⟨pss, rp, y4, y5, y6, ro, ?_, rfl⟩
        have := ho [] (.done (Nat.le_refl _))
        rw [List.append_nil] at this
        exact this
    rw [hM] at h3
    obtain ⟨pss, rp, y4, y5, y6, ⟨us, rs2, ts, ass, ras, g3, hRA, hfr, _⟩, ho, rfl⟩ := h3
    simp only [tLenSetI, cx_K, cx_w, wipe, Int.zero_add, Bool.false_eq_true, if_false, if_true, Bool.not_true, Bool.not_false, tSeq, tAsg, tOp, tVar, tC, tRet, tRetN, tNext, tDrop, tIfS, tB, tTest, tIf, tAnd, tOr, tNot, tAndV, tOrV, tNotV, tUn, tCons, tNil, tCall, tCB, tBM, tBM0, tNoPart, tPart, tSl, tCont, tNever, tTup, tLst, gName, gNil, gCons, gTup, gSub, rI, rI0, rU, rEq, rNe, rIxL, rSlL, rSetL, rLn, rLs, rTs, rIn, rSet0, tSAdd, rSAdd, rSIn, rSNotIn, rRep, rCat, rAppend, rPop, rPopAt, iList, iRng1, iRng2, iEnum, gTup, tIsN, tNotN, tTru, tLstRg, tRg1, tRg2, L2.start, List.map_cons, List.map_nil, List.length_cons, List.length_nil, List.replicate, List.cons_append, List.nil_append, List.getElem?_cons_zero, List.getElem?_cons_succ, List.set_cons_zero, List.set_cons_succ, Option.some.injEq, exists_eq_left', V.int.injEq, V.ref.injEq, V.bl.injEq, List.cons.injEq, exists_and_left, exists_and_right, and_true, true_and, exists_eq_left, exists_eq, Nat.reduceAdd, Nat.reduceSub]
    exact q H3 D us rs2 ts ass C pss g3 off ho hRA hfr
end
end K6g

set_option Elab.async false
set_option linter.all false
set_option maxRecDepth 100000
set_option maxHeartbeats 4000000
namespace K6g
open K6 PySem PySem.Spec PyProof.Rows L2 LamX Bk
section
variable {P : Program} {w : World} {K : PySem.W.Frag} {mg : Str → Option Value} {base : Heap}

/-- the rows behind all rings -/
def sp_lastrows (K : PySem.W.Frag) (P1 : Addr) : Sp := fun vs H Q _ => ∃ (t : Addr) (as : List Addr) (rows : List (List Nat)), vs = [.ref t] ∧ Tbl H t as rows ∧ GL rows ∧ rows.length ≤ 60 ∧ GxR.TabG H P1 ∧
  ∀ H' r rs T, Grow H H' → LastOf (fn (mutL rows)) rows.length T → Tbl H' r rs (mkL rows.length T) → (∀ a ∈ r :: rs, H a = none) → Q (.ref r) H'
theorem ok_lastrows (T : Txt P K mg) {c1 P1 : Addr} (FC1 : FunC K "is_emptied" s_is_emptied T.a_is_emptied T.fd_is_emptied c1) (TB1 : GxR.TabB base mg c1 P1) : FnOk P w K mg base CX0 7 T.a_last_rows T.fd_last_rows ["lists"] (sp_lastrows K P1) := by
  have G_offered : FnOk P w K mg base CX0 5 T.a_offered T.fd_offered ["lists"] (sp_offered K) := ok_offered T
  have G_rings_out : FnOk P w K mg base CX0 6 T.a_rings_out T.fd_rings_out ["lists"] (sp_ringsout K P1) := ok_ringsout T FC1 TB1
  refine T.F_last_rows.ok sc_last_rows (fun vs H Q E h => ?_) (fun cdv A outer s H vs Q E hr h => ?_)
  · obtain ⟨t, as, rows, rfl, _⟩ := h
    rfl
  · obtain ⟨t, as, rows, rfl, TB, g, hl, hT, q⟩ := h
    refine ⟨_, (C8.pss_cut (ps_set (i := 1) sc_last_rows.nd rfl (.inl rfl) (pe_call G_rings_out (hr.mono (by decide)) (by rfl) T.g_rings_out T.F_rings_out.kp T.b_rings_out .nil pass0 (pa_cons (pv 0) pa_nil)))
      (C8.pss_cut (ps_if (pt_not (kpt_tru (K := K) (pv 1))) (pss_one (ps_ret (pe_call G_offered (hr.mono (by decide)) (by rfl) T.g_offered T.F_offered.kp T.b_offered .nil pass0 (pa_cons (pv 0) pa_nil)))) pss_nil)
      (C8.pss_cut (ps_asg (pe_ix (kix_list (K := K)) (pv 1) (pe_un un_neg pe_int) (fun _ _ => rfl)) (kpg_tup (K := K) (n := 2) rfl (pgs_cons (pg_name (i := 2) sc_last_rows.nd rfl (.inl rfl)) (pgs_cons (pg_name (i := 3) sc_last_rows.nd rfl (.inl rfl)) pgs_nil))))
      (pss_one (ps_ret (pv 3)))))), ?_⟩
    obtain ⟨M, hM⟩ : ∃ M : L2.St → Hp → Prop, M = (fun σ H1 => ∃ D us rs ts ass C pss, σ = [some (.ref t), some (.ref D), none, none] ∧ Grow H H1 ∧ Off (fn (mutL rows)) C ∧ Outs rows.length 0 C pss ∧ RingsAt H1 D rows.length C pss us rs ts ass ∧ (∀ a ∈ allA D rs ts ass, H a = none)) := ⟨_, rfl⟩
    refine ⟨M, ?_, fun σ H1 h1 => ?_⟩
    · simp only [tLenSetI, cx_K, cx_w, wipe, Int.zero_add, Bool.false_eq_true, if_false, if_true, Bool.not_true, Bool.not_false, tSeq, tAsg, tOp, tVar, tC, tRet, tRetN, tNext, tDrop, tIfS, tB, tTest, tIf, tAnd, tOr, tNot, tAndV, tOrV, tNotV, tUn, tCons, tNil, tCall, tCB, tBM, tBM0, tNoPart, tPart, tSl, tCont, tNever, tTup, tLst, gName, gNil, gCons, gTup, gSub, rI, rI0, rU, rEq, rNe, rIxL, rSlL, rSetL, rLn, rLs, rTs, rIn, rSet0, tSAdd, rSAdd, rSIn, rSNotIn, rRep, rCat, rAppend, rPop, rPopAt, iList, iRng1, iRng2, iEnum, gTup, tIsN, tNotN, tTru, tLstRg, tRg1, tRg2, L2.start, List.map_cons, List.map_nil, List.length_cons, List.length_nil, List.replicate, List.cons_append, List.nil_append, List.getElem?_cons_zero, List.getElem?_cons_succ, List.set_cons_zero, List.set_cons_succ, Option.some.injEq, exists_eq_left', V.int.injEq, V.ref.injEq, V.bl.injEq, List.cons.injEq, exists_and_left, exists_and_right, and_true, true_and, exists_eq_left, exists_eq, Nat.reduceAdd, Nat.reduceSub]
      refine ⟨t, as, rows, rfl, TB, g, hl, hT, fun H1 D us rs ts ass C pss g1 off ho RA hf => ?_⟩
      rw [hM]
      exact ⟨D, us, rs, ts, ass, C, pss, rfl, g1, off, ho, RA, hf⟩
    rw [hM] at h1
    clear hM M
    obtain ⟨D, us, rs, ts, ass, C, pss, rfl, g1, off, ho, RA, hf⟩ := h1
    have TB1' := TB.grow g1
    obtain ⟨M, hM⟩ : ∃ M : L2.St → Hp → Prop, M = (fun σ H2 => H2 = H1 ∧ pss ≠ [] ∧ σ = [some (.ref t), some (.ref D), none, none]) := ⟨_, rfl⟩
    refine ⟨M, ?_, fun σ H2 h2 => ?_⟩
    · simp only [tLenSetI, cx_K, cx_w, wipe, Int.zero_add, Bool.false_eq_true, if_false, if_true, Bool.not_true, Bool.not_false, tSeq, tAsg, tOp, tVar, tC, tRet, tRetN, tNext, tDrop, tIfS, tB, tTest, tIf, tAnd, tOr, tNot, tAndV, tOrV, tNotV, tUn, tCons, tNil, tCall, tCB, tBM, tBM0, tNoPart, tPart, tSl, tCont, tNever, tTup, tLst, gName, gNil, gCons, gTup, gSub, rI, rI0, rU, rEq, rNe, rIxL, rSlL, rSetL, rLn, rLs, rTs, rIn, rSet0, tSAdd, rSAdd, rSIn, rSNotIn, rRep, rCat, rAppend, rPop, rPopAt, iList, iRng1, iRng2, iEnum, gTup, tIsN, tNotN, tTru, tLstRg, tRg1, tRg2, L2.start, List.map_cons, List.map_nil, List.length_cons, List.length_nil, List.replicate, List.cons_append, List.nil_append, List.getElem?_cons_zero, List.getElem?_cons_succ, List.set_cons_zero, List.set_cons_succ, Option.some.injEq, exists_eq_left', V.int.injEq, V.ref.injEq, V.bl.injEq, List.cons.injEq, exists_and_left, exists_and_right, and_true, true_and, exists_eq_left, exists_eq, Nat.reduceAdd, Nat.reduceSub]
      refine ⟨_, .inl ⟨_, SqL.of RA.top, rfl⟩, ?_⟩
      by_cases hp : pss = []
      · have : us = [] := List.length_eq_zero_iff.mp (by rw [RA.lu, hp]; rfl)
        rw [this]
        refine iteT ⟨t, as, rows, rfl, TB1', g, hl, fun H3 p ps C' e hp0 hps TP off' => ?_⟩
        have h := off_one (lists_mut g) off off'
        subst h
        refine q H3 p ps (after C pss) (g1.trans (Same.grow e)) ⟨C, pss, off, ho, rfl⟩ (by rw [hp]; exact TP) fun a ha => ?_
        rcases List.mem_cons.mp ha with rfl | z
        · exact g1.free hp0
        · exact g1.free (hps a z)
      · have : (!(!(us.map V.ref).isEmpty)) = false := by
          cases us with
          | nil => exact absurd (List.length_eq_zero_iff.mp (by rw [← RA.lu]; rfl)) hp
          | cons _ _ => rfl
        rw [this]
        refine iteF ?_
        rw [hM]
        exact ⟨rfl, hp, rfl⟩
    rw [hM] at h2
    clear hM M
    obtain ⟨rfl, hp, rfl⟩ := h2
    obtain ⟨k, hk⟩ : ∃ k, pss.length = k + 1 := ⟨pss.length - 1, by have := List.length_pos_iff.mpr hp; omega⟩
    obtain ⟨u, hu⟩ : ∃ u, us[k]? = some u := ⟨_, List.getElem?_eq_getElem (by rw [RA.lu]; omega)⟩
    obtain ⟨r, hr'⟩ : ∃ u, rs[k]? = some u := ⟨_, List.getElem?_eq_getElem (by rw [RA.lr]; omega)⟩
    obtain ⟨t', ht'⟩ : ∃ u, ts[k]? = some u := ⟨_, List.getElem?_eq_getElem (by rw [RA.lt]; omega)⟩
    obtain ⟨as', has'⟩ : ∃ u, ass[k]? = some u := ⟨_, List.getElem?_eq_getElem (by rw [RA.la]; omega)⟩
    have htup := RA.tup k u r t' hu hr' ht'
    have hrows := RA.rows k t' as' ht' has'
    rw [← hk, List.take_length] at hrows
    obtain ⟨l, x, hlx⟩ : ∃ l x, us = l ++ [x] := ⟨us.dropLast, _, (List.dropLast_concat_getLast (List.ne_nil_of_length_pos (by rw [RA.lu]; omega))).symm⟩
    have hx : x = u := by
      have : l.length = k := by
        have h1 := RA.lu
        rw [hlx, List.length_append, List.length_singleton] at h1
        omega
      rw [hlx, ← this] at hu
      simpa using hu
    subst hx
    refine ⟨fun σ H3 => H3 = H2 ∧ ∃ y, σ = [some (.ref t), some (.ref D), y, some (.ref t')], ?_, fun σ H3 h3 => ?_⟩
    · simp only [tLenSetI, cx_K, cx_w, wipe, Int.zero_add, Bool.false_eq_true, if_false, if_true, Bool.not_true, Bool.not_false, tSeq, tAsg, tOp, tVar, tC, tRet, tRetN, tNext, tDrop, tIfS, tB, tTest, tIf, tAnd, tOr, tNot, tAndV, tOrV, tNotV, tUn, tCons, tNil, tCall, tCB, tBM, tBM0, tNoPart, tPart, tSl, tCont, tNever, tTup, tLst, gName, gNil, gCons, gTup, gSub, rI, rI0, rU, rEq, rNe, rIxL, rSlL, rSetL, rLn, rLs, rTs, rIn, rSet0, tSAdd, rSAdd, rSIn, rSNotIn, rRep, rCat, rAppend, rPop, rPopAt, iList, iRng1, iRng2, iEnum, gTup, tIsN, tNotN, tTru, tLstRg, tRg1, tRg2, L2.start, List.map_cons, List.map_nil, List.length_cons, List.length_nil, List.replicate, List.cons_append, List.nil_append, List.getElem?_cons_zero, List.getElem?_cons_succ, List.set_cons_zero, List.set_cons_succ, Option.some.injEq, exists_eq_left', V.int.injEq, V.ref.injEq, V.bl.injEq, List.cons.injEq, exists_and_left, exists_and_right, and_true, true_and, exists_eq_left, exists_eq, Nat.reduceAdd, Nat.reduceSub]
      refine ⟨_, SqL.of RA.top, .ref x, by rw [hlx, List.map_append]; exact atI_last _ _, x, rfl, _, SqT.of htup, rfl, _, _, rfl, _, _, rfl, rfl, rfl⟩
    obtain ⟨rfl, y, rfl⟩ := h3
    simp only [tLenSetI, cx_K, cx_w, wipe, Int.zero_add, Bool.false_eq_true, if_false, if_true, Bool.not_true, Bool.not_false, tSeq, tAsg, tOp, tVar, tC, tRet, tRetN, tNext, tDrop, tIfS, tB, tTest, tIf, tAnd, tOr, tNot, tAndV, tOrV, tNotV, tUn, tCons, tNil, tCall, tCB, tBM, tBM0, tNoPart, tPart, tSl, tCont, tNever, tTup, tLst, gName, gNil, gCons, gTup, gSub, rI, rI0, rU, rEq, rNe, rIxL, rSlL, rSetL, rLn, rLs, rTs, rIn, rSet0, tSAdd, rSAdd, rSIn, rSNotIn, rRep, rCat, rAppend, rPop, rPopAt, iList, iRng1, iRng2, iEnum, gTup, tIsN, tNotN, tTru, tLstRg, tRg1, tRg2, L2.start, List.map_cons, List.map_nil, List.length_cons, List.length_nil, List.replicate, List.cons_append, List.nil_append, List.getElem?_cons_zero, List.getElem?_cons_succ, List.set_cons_zero, List.set_cons_succ, Option.some.injEq, exists_eq_left', V.int.injEq, V.ref.injEq, V.bl.injEq, List.cons.injEq, exists_and_left, exists_and_right, and_true, true_and, exists_eq_left, exists_eq, Nat.reduceAdd, Nat.reduceSub]
    refine q H3 t' as' _ g1 ⟨C, pss, off, ho, rfl⟩ hrows fun a ha => ?_
    rcases List.mem_cons.mp ha with rfl | z
    · exact hf a (mem_allA.mpr (.inr (.inr (.inl (List.mem_of_getElem? ht')))))
    · exact hf a (mem_allA.mpr (.inr (.inr (.inr ⟨as', List.mem_of_getElem? has', z⟩))))
end
end K6g

set_option Elab.async false
set_option linter.all false
set_option maxRecDepth 100000
set_option maxHeartbeats 4000000
namespace K6g
open K6 PySem PySem.Spec PyProof.Rows L2 LamX Bk
section
variable {P : Program} {w : World} {K : PySem.W.Frag} {mg : Str → Option Value} {base : Heap}

/-- a steady half pairing -/
def sp_half (K : PySem.W.Frag) (P1 : Addr) : Sp := fun vs H Q _ => ∃ (t : Addr) (as : List Addr) (rows : List (List Nat)), vs = [.ref t] ∧ Tbl H t as rows ∧ GL rows ∧ rows.length ≤ 60 ∧ GxR.TabG H P1 ∧
  ∀ H' D T, Grow H H' → H D = none → LastOf (fn (mutL rows)) rows.length T → H' D = some (.lst ((halfL rows.length T).map ov)) → Q (.ref D) H'
theorem ok_half (T : Txt P K mg) {c1 P1 : Addr} (FC1 : FunC K "is_emptied" s_is_emptied T.a_is_emptied T.fd_is_emptied c1) (TB1 : GxR.TabB base mg c1 P1) : FnOk P w K mg base CX0 8 T.a_half_pairing T.fd_half_pairing ["lists"] (sp_half K P1) := by
  have G_last_rows : FnOk P w K mg base CX0 7 T.a_last_rows T.fd_last_rows ["lists"] (sp_lastrows K P1) := ok_lastrows T FC1 TB1
  refine T.F_half_pairing.ok sc_half_pairing (fun vs H Q E h => ?_) (fun cdv A outer s H vs Q E hr h => ?_)
  · obtain ⟨t, as, rows, rfl, _⟩ := h
    rfl
  · obtain ⟨t, as, rows, rfl, TB, g, hl, hT, q⟩ := h
    refine ⟨_, (pss_one (ps_ret (pe_lc (own := [("row", 1)]) rfl sc_half_pairing.nd (kpi_list (K := K) (pe_call G_last_rows (hr.mono (by decide)) (by rfl) T.g_last_rows T.F_last_rows.kp T.b_last_rows .nil pass0 (pa_cons (pv 0) pa_nil))) (blkOk_by (own := [("row", 1)]) (N := ["lists", "row"]) (sc := (defScope s_half_pairing)) (by decide +kernel)) (fun _ _ _ _ _ => (pg_name (i := 1) sc_half_pairing.nd rfl (by first | exact .inl rfl | exact .inr rfl))) (fun _ _ _ _ _ => pts_nil) (fun _ _ _ _ _ => (pe_ifExp (kpt_tru (K := K) (pv 1)) (pe_ix (kix_list (K := K)) (pv 1) pe_int (fun _ _ => rfl)) pe_non))))), ?_⟩
    refine ⟨_, rfl, t, as, rows, rfl, TB, g, hl, hT, fun H1 r rs T' g1 lo TR hf => ?_⟩
    refine ⟨r, rfl, ⟨_, SqL.of TR.top⟩, fun D hD => lc_list (K := K) (xs := rs.map V.ref) (fun i H3 => Same H1 H3 ∧ H3 D = some (.lst (((halfL rows.length T').take i).map ov)))
      ⟨same_upd hD, by rw [upd_same]; rfl⟩ (fun i H3 _ h => SqL.of (h.1 _ _ TR.top)) (fun i x H3 hx h => ?_) (fun H3 h => ?_)⟩
    · obtain ⟨e, hD3⟩ := h
      rw [List.getElem?_map] at hx
      obtain ⟨b, hb, rfl⟩ := Option.map_eq_some_iff.mp hx
      have hi : i < rows.length := by
        have := (List.getElem?_eq_some_iff.mp hb).1
        rw [TR.len, mkL_len] at this; exact this
      have hrb : H3 b = some (.lst ((T' i).map nv)) := e _ _ (TR.row i b _ hb (mkL_at hi))
      refine ⟨rfl, yesI ?_⟩
      have fin : ∀ v : V, v = ov (hd T' i) → ∃ acc, H3 D = some (.lst acc) ∧ acc.length < sizeLine ∧ Same H1 (upd H3 D (.lst (acc ++ [v]))) ∧ upd H3 D (.lst (acc ++ [v])) D = some (.lst (((halfL rows.length T').take (i + 1)).map ov)) := fun v hv => by
        refine ⟨_, hD3, ?_, fun b o ho => ?_, ?_⟩
        · rw [List.length_map, List.length_take]
          exact small (by omega)
        · rw [upd_ne (ne_of_none ho hD)]; exact e b o ho
        · rw [upd_same, List.take_add_one, halfL_at hi, List.map_append, hv]
          rfl
      simp only [tLenSetI, cx_K, cx_w, wipe, Int.zero_add, Bool.false_eq_true, if_false, if_true, Bool.not_true, Bool.not_false, tSeq, tAsg, tOp, tVar, tC, tRet, tRetN, tNext, tDrop, tIfS, tB, tTest, tIf, tAnd, tOr, tNot, tAndV, tOrV, tNotV, tUn, tCons, tNil, tCall, tCB, tBM, tBM0, tNoPart, tPart, tSl, tCont, tNever, tTup, tLst, gName, gNil, gCons, gTup, gSub, rI, rI0, rU, rEq, rNe, rIxL, rSlL, rSetL, rLn, rLs, rTs, rIn, rSet0, tSAdd, rSAdd, rSIn, rSNotIn, rRep, rCat, rAppend, rPop, rPopAt, iList, iRng1, iRng2, iEnum, gTup, tIsN, tNotN, tTru, tLstRg, tRg1, tRg2, L2.start, List.map_cons, List.map_nil, List.length_cons, List.length_nil, List.replicate, List.cons_append, List.nil_append, List.getElem?_cons_zero, List.getElem?_cons_succ, List.set_cons_zero, List.set_cons_succ, Option.some.injEq, exists_eq_left', V.int.injEq, V.ref.injEq, V.bl.injEq, List.cons.injEq, exists_and_left, exists_and_right, and_true, true_and, exists_eq_left, exists_eq, Nat.reduceAdd, Nat.reduceSub]
      refine ⟨_, .inl ⟨_, SqL.of hrb, rfl⟩, ?_⟩
      cases hc : T' i with
      | nil =>
        exact iteF (fin .non (by unfold hd; rw [hc]; rfl))
      | cons y ys =>
        refine iteT ⟨_, SqL.of hrb, nv y, by rw [hc]; exact atI_nat (j := 0) rfl, fin _ (by unfold hd; rw [hc]; rfl)⟩
    · obtain ⟨e, hD3⟩ := h
      rw [List.length_map, TR.len, mkL_len, List.take_of_length_le (by rw [halfL_len]; exact Nat.le_refl _)] at hD3
      exact q H3 D T' (g1.trans (Same.grow e)) (g1.free hD) lo hD3
end
end K6g

set_option Elab.async false
set_option linter.all false
set_option maxRecDepth 100000
set_option maxHeartbeats 4000000
namespace K6g
open K6 PySem PySem.Spec PyProof.Rows L2 LamX Bk
section
variable {P : Program} {w : World} {K : PySem.W.Frag} {mg : Str → Option Value} {base : Heap}

theorem last_perm {n : Nat} {R T' : Nat → List Nat} (L : Lists R) (lt : ∀ i x, x ∈ R i → i < n ∧ x < n) (l : Last R T') : Perm1 n (mO (halfL n T')) := (last_isHalf L lt l).perm lt
/-- a good pairing, or none -/
def sp_paired (K : PySem.W.Frag) (P1 : Addr) : Sp := fun vs H Q _ => ∃ (t : Addr) (as : List Addr) (rows : List (List Nat)), vs = [.ref t] ∧ Tbl H t as rows ∧ GL rows ∧ rows.length ≤ 60 ∧ GxR.TabG H P1 ∧
  ∀ H' D T', Grow H H' → H D = none → LastOf (fn (mutL rows)) rows.length T' → H' D = some (.lst ((halfL rows.length T').map ov)) → (oddR (mO (halfL rows.length T')) rows.length = [] → Q (.ref D) H') ∧ (oddR (mO (halfL rows.length T')) rows.length ≠ [] → Q .non H')
theorem ok_paired (T : Txt P K mg) {c1 P1 : Addr} (FC1 : FunC K "is_emptied" s_is_emptied T.a_is_emptied T.fd_is_emptied c1) (TB1 : GxR.TabB base mg c1 P1) : FnOk P w K mg base CX0 9 T.a_paired T.fd_paired ["lists"] (sp_paired K P1) := by
  have G_half_pairing : FnOk P w K mg base CX0 8 T.a_half_pairing T.fd_half_pairing ["lists"] (sp_half K P1) := ok_half T FC1 TB1
  have G_odd_rings_in : FnOk P w K mg base CX0 2 T.a_odd_rings_in T.fd_odd_rings_in ["half"] (sp_oddin K) := ok_oddin T
  refine T.F_paired.ok sc_paired (fun vs H Q E h => ?_) (fun cdv A outer s H vs Q E hr h => ?_)
  · obtain ⟨t, as, rows, rfl, _⟩ := h
    rfl
  · obtain ⟨t, as, rows, rfl, TB, g, hl, hT, q⟩ := h
    refine ⟨_, (pss_cons (ps_set (i := 1) sc_paired.nd rfl (.inl rfl) (pe_call G_half_pairing (hr.mono (by decide)) (by rfl) T.g_half_pairing T.F_half_pairing.kp T.b_half_pairing .nil pass0 (pa_cons (pv 0) pa_nil)))
      (pss_cons (ps_if (kpt_tru (K := K) (pe_call G_odd_rings_in (hr.mono (by decide)) (by rfl) T.g_odd_rings_in T.F_odd_rings_in.kp T.b_odd_rings_in .nil pass0 (pa_cons (pv 1) pa_nil))) (pss_one (ps_ret pe_non)) pss_nil)
      (pss_one (ps_ret (pv 1))))), ?_⟩
    have L : Lists (fn (mutL rows)) := lists_mut g
    have Rlt : ∀ i x, x ∈ fn (mutL rows) i → i < rows.length ∧ x < rows.length := fun i x hx => mut_lt g hx
    simp only [tLenSetI, cx_K, cx_w, wipe, Int.zero_add, Bool.false_eq_true, if_false, if_true, Bool.not_true, Bool.not_false, tSeq, tAsg, tOp, tVar, tC, tRet, tRetN, tNext, tDrop, tIfS, tB, tTest, tIf, tAnd, tOr, tNot, tAndV, tOrV, tNotV, tUn, tCons, tNil, tCall, tCB, tBM, tBM0, tNoPart, tPart, tSl, tCont, tNever, tTup, tLst, gName, gNil, gCons, gTup, gSub, rI, rI0, rU, rEq, rNe, rIxL, rSlL, rSetL, rLn, rLs, rTs, rIn, rSet0, tSAdd, rSAdd, rSIn, rSNotIn, rRep, rCat, rAppend, rPop, rPopAt, iList, iRng1, iRng2, iEnum, gTup, tIsN, tNotN, tTru, tLstRg, tRg1, tRg2, L2.start, List.map_cons, List.map_nil, List.length_cons, List.length_nil, List.replicate, List.cons_append, List.nil_append, List.getElem?_cons_zero, List.getElem?_cons_succ, List.set_cons_zero, List.set_cons_succ, Option.some.injEq, exists_eq_left', V.int.injEq, V.ref.injEq, V.bl.injEq, List.cons.injEq, exists_and_left, exists_and_right, and_true, true_and, exists_eq_left, exists_eq, Nat.reduceAdd, Nat.reduceSub]
    refine ⟨t, as, rows, rfl, TB, g, hl, hT, fun H1 D T' g1 hD lo hDl => ?_⟩
    have l := lo.last L fun i x hx => (Rlt i x hx).1
    refine ⟨D, halfL rows.length T', rows.length, rfl, hDl, halfL_len _ _, hl, last_perm L Rlt l, fun H2 D2 as2 e2 hD2 hn2 T2 => ?_⟩
    have hq := q H2 D T' (g1.trans (Same.grow e2)) hD lo (e2 _ _ hDl)
    refine ⟨_, .inl ⟨_, SqL.of T2.top, rfl⟩, ?_⟩
    by_cases ho : oddR (mO (halfL rows.length T')) rows.length = []
    · have : as2 = [] := List.length_eq_zero_iff.mp (by rw [T2.len, ho]; rfl)
      rw [this]
      exact iteF (hq.1 ho)
    · have : (!(as2.map V.ref).isEmpty) = true := by
        cases as2 with
        | nil => exact absurd (List.length_eq_zero_iff.mp T2.len.symm) ho
        | cons _ _ => rfl
      rw [this]
      exact iteT (hq.2 ho)
/-- the odd rings -/
def sp_oddrings (K : PySem.W.Frag) (P1 : Addr) : Sp := fun vs H Q _ => ∃ (t : Addr) (as : List Addr) (rows : List (List Nat)), vs = [.ref t] ∧ Tbl H t as rows ∧ GL rows ∧ rows.length ≤ 60 ∧ GxR.TabG H P1 ∧
  ∀ H' D as' T', Grow H H' → H D = none → (∀ a ∈ as', H a = none) → LastOf (fn (mutL rows)) rows.length T' → Tbl H' D as' (oddR (mO (halfL rows.length T')) rows.length) → Q (.ref D) H'
theorem ok_oddrings (T : Txt P K mg) {c1 P1 : Addr} (FC1 : FunC K "is_emptied" s_is_emptied T.a_is_emptied T.fd_is_emptied c1) (TB1 : GxR.TabB base mg c1 P1) : FnOk P w K mg base CX0 9 T.a_odd_rings T.fd_odd_rings ["lists"] (sp_oddrings K P1) := by
  have G_half_pairing : FnOk P w K mg base CX0 8 T.a_half_pairing T.fd_half_pairing ["lists"] (sp_half K P1) := ok_half T FC1 TB1
  have G_odd_rings_in : FnOk P w K mg base CX0 2 T.a_odd_rings_in T.fd_odd_rings_in ["half"] (sp_oddin K) := ok_oddin T
  refine T.F_odd_rings.ok sc_odd_rings (fun vs H Q E h => ?_) (fun cdv A outer s H vs Q E hr h => ?_)
  · obtain ⟨t, as, rows, rfl, _⟩ := h
    rfl
  · obtain ⟨t, as, rows, rfl, TB, g, hl, hT, q⟩ := h
    refine ⟨_, (pss_one (ps_ret (pe_call G_odd_rings_in (hr.mono (by decide)) (by rfl) T.g_odd_rings_in T.F_odd_rings_in.kp T.b_odd_rings_in .nil pass0 (pa_cons (pe_call G_half_pairing (hr.mono (by decide)) (by rfl) T.g_half_pairing T.F_half_pairing.kp T.b_half_pairing .nil pass0 (pa_cons (pv 0) pa_nil)) pa_nil)))), ?_⟩
    have L : Lists (fn (mutL rows)) := lists_mut g
    have Rlt : ∀ i x, x ∈ fn (mutL rows) i → i < rows.length ∧ x < rows.length := fun i x hx => mut_lt g hx
    simp only [tLenSetI, cx_K, cx_w, wipe, Int.zero_add, Bool.false_eq_true, if_false, if_true, Bool.not_true, Bool.not_false, tSeq, tAsg, tOp, tVar, tC, tRet, tRetN, tNext, tDrop, tIfS, tB, tTest, tIf, tAnd, tOr, tNot, tAndV, tOrV, tNotV, tUn, tCons, tNil, tCall, tCB, tBM, tBM0, tNoPart, tPart, tSl, tCont, tNever, tTup, tLst, gName, gNil, gCons, gTup, gSub, rI, rI0, rU, rEq, rNe, rIxL, rSlL, rSetL, rLn, rLs, rTs, rIn, rSet0, tSAdd, rSAdd, rSIn, rSNotIn, rRep, rCat, rAppend, rPop, rPopAt, iList, iRng1, iRng2, iEnum, gTup, tIsN, tNotN, tTru, tLstRg, tRg1, tRg2, L2.start, List.map_cons, List.map_nil, List.length_cons, List.length_nil, List.replicate, List.cons_append, List.nil_append, List.getElem?_cons_zero, List.getElem?_cons_succ, List.set_cons_zero, List.set_cons_succ, Option.some.injEq, exists_eq_left', V.int.injEq, V.ref.injEq, V.bl.injEq, List.cons.injEq, exists_and_left, exists_and_right, and_true, true_and, exists_eq_left, exists_eq, Nat.reduceAdd, Nat.reduceSub]
    refine ⟨t, as, rows, rfl, TB, g, hl, hT, fun H1 D T' g1 hD lo hDl => ?_⟩
    have l := lo.last L fun i x hx => (Rlt i x hx).1
    exact ⟨D, halfL rows.length T', rows.length, rfl, hDl, halfL_len _ _, hl, last_perm L Rlt l, fun H2 D2 as2 e2 hD2 hn2 T2 => q H2 D2 as2 T' (g1.trans (Same.grow e2)) (g1.free hD2) (fun a ha => g1.free (hn2 a ha)) lo T2⟩
/-- who is alone -/
def aloneL (T' : Nat → List Nat) (k : Nat) : List Nat := (List.range k).filter fun p => (hd T' p).isNone
def sp_alone (K : PySem.W.Frag) (P1 : Addr) : Sp := fun vs H Q _ => ∃ (t : Addr) (as : List Addr) (rows : List (List Nat)), vs = [.ref t] ∧ Tbl H t as rows ∧ GL rows ∧ rows.length ≤ 60 ∧ GxR.TabG H P1 ∧
  ∀ H' D T', Grow H H' → H D = none → LastOf (fn (mutL rows)) rows.length T' → H' D = some (.lst ((aloneL T' rows.length).map nv)) → Q (.ref D) H'
theorem ok_alone (T : Txt P K mg) {c1 P1 : Addr} (FC1 : FunC K "is_emptied" s_is_emptied T.a_is_emptied T.fd_is_emptied c1) (TB1 : GxR.TabB base mg c1 P1) : FnOk P w K mg base CX0 9 T.a_alone T.fd_alone ["lists"] (sp_alone K P1) := by
  have G_half_pairing : FnOk P w K mg base CX0 8 T.a_half_pairing T.fd_half_pairing ["lists"] (sp_half K P1) := ok_half T FC1 TB1
  refine T.F_alone.ok sc_alone (fun vs H Q E h => ?_) (fun cdv A outer s H vs Q E hr h => ?_)
  · obtain ⟨t, as, rows, rfl, _⟩ := h
    rfl
  · obtain ⟨t, as, rows, rfl, TB, g, hl, hT, q⟩ := h
    refine ⟨_, (pss_one (ps_ret (pe_lc (own := [("person", 1), ("other", 2)]) rfl sc_alone.nd (kpi_enum (K := K) (by rfl) T.m_enumerate (pa_cons (pe_call G_half_pairing (hr.mono (by decide)) (by rfl) T.g_half_pairing T.F_half_pairing.kp T.b_half_pairing .nil pass0 (pa_cons (pv 0) pa_nil)) pa_nil)) (blkOk_by (own := [("person", 1), ("other", 2)]) (N := ["lists", "person", "other"]) (sc := (defScope s_alone)) (by decide +kernel)) (fun _ _ _ _ _ => (kpg_tup (K := K) (n := 2) rfl (pgs_cons (pg_name (i := 1) sc_alone.nd rfl (by first | exact .inl rfl | exact .inr rfl)) (pgs_cons (pg_name (i := 2) sc_alone.nd rfl (by first | exact .inl rfl | exact .inr rfl)) pgs_nil)))) (fun _ _ _ _ _ => (pts_one (pt_cmp (pc_isN (pv 2))))) (fun _ _ _ _ _ => (pv 1))))), ?_⟩
    refine ⟨.ref t, rfl, t, as, rows, rfl, TB, g, hl, hT, fun H1 r T' g1 hD lo hDl => ?_⟩
    refine ⟨r, _, rfl, SqL.of hDl, fun D hD2 => lc_enum (K := K) (xs := (halfL rows.length T').map ov)
        (fun i H3 => Same H1 H3 ∧ H3 D = some (.lst ((aloneL T' i).map nv))) ⟨same_upd hD2, upd_same⟩ (fun i H3 _ e => SqL.of (e.1 _ _ hDl)) (fun i x H3 T3 hx hT hI => ?_) (fun H3 hI => ?_)⟩
    · obtain ⟨e3, hD3⟩ := hI
      have hi : i < rows.length := by
        have := (List.getElem?_eq_some_iff.mp hx).1
        rw [List.length_map, halfL_len] at this; exact this
      rw [List.getElem?_map, halfL_at hi] at hx
      cases hx
      have e4 : Same H1 (upd H3 T3 (.tup [.int (i : Nat), ov (hd T' i)])) := same_upd2 e3 (e3.free hT)
      have hD4 : upd H3 T3 (.tup [.int (i : Nat), ov (hd T' i)]) D = some (.lst ((aloneL T' i).map nv)) := by rw [upd_ne (ne_of_none hD3 hT)]; exact hD3
      refine ⟨T3, _, rfl, SqT.of upd_same, rfl, _, _, rfl, _, _, rfl, rfl, rfl, ?_⟩
      generalize upd H3 T3 (.tup [.int (i : Nat), ov (hd T' i)]) = H4 at e4 hD4 ⊢
      simp only [tLenSetI, cx_K, cx_w, wipe, Int.zero_add, Bool.false_eq_true, if_false, if_true, Bool.not_true, Bool.not_false, tSeq, tAsg, tOp, tVar, tC, tRet, tRetN, tNext, tDrop, tIfS, tB, tTest, tIf, tAnd, tOr, tNot, tAndV, tOrV, tNotV, tUn, tCons, tNil, tCall, tCB, tBM, tBM0, tNoPart, tPart, tSl, tCont, tNever, tTup, tLst, gName, gNil, gCons, gTup, gSub, rI, rI0, rU, rEq, rNe, rIxL, rSlL, rSetL, rLn, rLs, rTs, rIn, rSet0, tSAdd, rSAdd, rSIn, rSNotIn, rRep, rCat, rAppend, rPop, rPopAt, iList, iRng1, iRng2, iEnum, gTup, tIsN, tNotN, tTru, tLstRg, tRg1, tRg2, L2.start, List.map_cons, List.map_nil, List.length_cons, List.length_nil, List.replicate, List.cons_append, List.nil_append, List.getElem?_cons_zero, List.getElem?_cons_succ, List.set_cons_zero, List.set_cons_succ, Option.some.injEq, exists_eq_left', V.int.injEq, V.ref.injEq, V.bl.injEq, List.cons.injEq, exists_and_left, exists_and_right, and_true, true_and, exists_eq_left, exists_eq, Nat.reduceAdd, Nat.reduceSub]
      rw [isNon_ov]
      have et : aloneL T' (i + 1) = aloneL T' i ++ [i].filter fun p => (hd T' p).isNone := by
        unfold aloneL
        rw [List.range_succ, List.filter_append]
      have hlen : (aloneL T' i).length ≤ 60 := by
        unfold aloneL
        exact Nat.le_trans (List.length_filter_le _ _) (by simp; omega)
      cases hc : (hd T' i).isNone with
      | false =>
        refine iteF ⟨e4, ?_⟩
        rw [et, List.filter_cons, if_neg (by rw [hc]; decide), List.filter_nil, List.append_nil]
        exact hD4
      | true =>
        refine iteT ⟨_, hD4, by rw [List.length_map]; exact small (by omega), fun b o ho => ?_, ?_⟩
        · rw [upd_ne (ne_of_none ho hD2)]
          exact e4 b o ho
        · rw [upd_same, et, List.filter_cons, if_pos hc, List.filter_nil, List.map_append]
          rfl
    · obtain ⟨e3, hD3⟩ := hI
      rw [List.length_map, halfL_len] at hD3
      exact q H3 D T' (g1.trans (Same.grow e3)) (g1.free hD2) lo hD3
end
end K6g

set_option Elab.async false
set_option linter.all false
set_option maxRecDepth 100000
set_option maxHeartbeats 4000000
namespace K6g
open K6 PySem PySem.Spec PyProof.Rows L2 LamX Bk
section
variable {P : Program} {w : World} {K : PySem.W.Frag} {mg : Str → Option Value} {base : Heap}

def mixed (x k : Int) : Int := ((x % 2147483647 + 7919 * k * k + 31 * k) * 48271 % 2147483647) * (69621 + 2 * k) % 2147483629
theorem mixed_bd (x k : Int) : 0 ≤ mixed x k ∧ mixed x k < 2147483629 := ⟨Int.emod_nonneg _ (by decide), Int.emod_lt_of_pos _ (by decide)⟩
def sp_mixed : Sp := fun vs H Q _ => ∃ (x k : Int), vs = [.int x, .int k] ∧ 0 ≤ k ∧ k < 1000 ∧ Q (.int (mixed x k)) H
theorem ok_mixed (T : Txt P K mg) : FnOk P w K mg base CX0 1 T.a__law_mixed T.fd__law_mixed ["_law_number", "_law_k"] sp_mixed := by
  refine T.F__law_mixed.ok sc__law_mixed (fun vs H Q E h => ?_) (fun cdv A outer s H vs Q E hr h => ?_)
  · obtain ⟨x, k, rfl, _⟩ := h
    rfl
  · obtain ⟨x, k, rfl, h0, h1, q⟩ := h
    refine ⟨_, (pss_cons (ps_set (i := 0) sc__law_mixed.nd rfl (.inl rfl) (pe_op op_mod (pe_op op_mul (pe_op op_add (pe_op op_add (pe_op op_mod (pv 0) pe_int) (pe_op op_mul (pe_op op_mul pe_int (pv 1)) (pv 1))) (pe_op op_mul pe_int (pv 1))) pe_int) pe_int))
      (pss_one (ps_ret (pe_op op_mod (pe_op op_mul (pv 0) (pe_op op_add pe_int (pe_op op_mul pe_int (pv 1)))) pe_int)))), ?_⟩
    have e1 := Int.emod_nonneg x (show (2147483647 : Int) ≠ 0 by decide)
    have e2 := Int.emod_lt_of_pos x (show (0 : Int) < 2147483647 by decide)
    have e3 := Int.emod_nonneg ((x % 2147483647 + 7919 * k * k + 31 * k) * 48271) (show (2147483647 : Int) ≠ 0 by decide)
    have e4 := Int.emod_lt_of_pos ((x % 2147483647 + 7919 * k * k + 31 * k) * 48271) (show (0 : Int) < 2147483647 by decide)
    have b1 : 0 ≤ k * k := Int.mul_nonneg h0 h0
    have b2 : k * k ≤ 1000 * 1000 := Int.mul_le_mul (by omega) (by omega) h0 (by decide)
    have b3 : 7919 * k * k = 7919 * (k * k) := by rw [Int.mul_assoc]
    simp only [tLenSetI, cx_K, cx_w, wipe, Int.zero_add, Bool.false_eq_true, if_false, if_true, Bool.not_true, Bool.not_false, tSeq, tAsg, tOp, tVar, tC, tRet, tRetN, tNext, tDrop, tIfS, tB, tTest, tIf, tAnd, tOr, tNot, tAndV, tOrV, tNotV, tUn, tCons, tNil, tCall, tCB, tBM, tBM0, tNoPart, tPart, tSl, tCont, tNever, tTup, tLst, gName, gNil, gCons, gTup, gSub, rI, rI0, rU, rEq, rNe, rIxL, rSlL, rSetL, rLn, rLs, rTs, rIn, rSet0, tSAdd, rSAdd, rSIn, rSNotIn, rRep, rCat, rAppend, rPop, rPopAt, iList, iRng1, iRng2, iEnum, gTup, tIsN, tNotN, tTru, tLstRg, tRg1, tRg2, L2.start, List.map_cons, List.map_nil, List.length_cons, List.length_nil, List.replicate, List.cons_append, List.nil_append, List.getElem?_cons_zero, List.getElem?_cons_succ, List.set_cons_zero, List.set_cons_succ, Option.some.injEq, exists_eq_left', V.int.injEq, V.ref.injEq, V.bl.injEq, List.cons.injEq, exists_and_left, exists_and_right, and_true, true_and, exists_eq_left, exists_eq, Nat.reduceAdd, Nat.reduceSub]
    refine ⟨by decide, .inl (by decide), .inr (by omega), .inl (by decide), .inr (by omega), by decide, .inl (by decide), .inl (by omega), by decide, q⟩
end
end K6g

set_option Elab.async false
set_option linter.all false
set_option maxRecDepth 100000
set_option maxHeartbeats 4000000
namespace K6g
open K6 PySem PySem.Spec PyProof.Rows L2 LamX Bk
section
variable {P : Program} {w : World} {K : PySem.W.Frag} {mg : Str → Option Value} {base : Heap}

def sp_lset (K : PySem.W.Frag) : Sp := fun vs H Q _ => ∃ (t : Addr) (as : List Addr) (rows : List (List Nat)) (one other : Nat) (num : Int), vs = [.ref t, nv one, nv other, .int num] ∧ Tbl H t as rows ∧ GL rows ∧ one < rows.length ∧ other < rows.length ∧ other ≠ one ∧ 0 ≤ num ∧ rows.length ≤ 100 ∧
  ∀ H' as' rows', Tbl H' t as' rows' → rows'.length = rows.length → GL rows' → (∀ x o, x ≠ t → H x = some o → H' x = some o) → (∀ a ∈ as', a ∈ as ∨ H a = none) → Q .non H'
/-- a row with one more put in -/
theorem put_in {r : List Nat} (hd : r.Nodup) {x : Nat} (hx : x ∉ r) (k : Nat) : (r.take k ++ [x] ++ r.drop k).Nodup ∧ ∀ y, y ∈ r.take k ++ [x] ++ r.drop k ↔ y = x ∨ y ∈ r := by
  have hp : (r.take k ++ [x] ++ r.drop k).Perm (x :: r) := by
    have h1 : (r.take k ++ [x] ++ r.drop k).Perm (x :: (r.take k ++ r.drop k)) := by
      rw [List.append_assoc]
      exact List.perm_middle
    rwa [List.take_append_drop] at h1
  exact ⟨hp.nodup_iff.mpr (List.nodup_cons.mpr ⟨hx, hd⟩), fun y => by rw [hp.mem_iff, List.mem_cons]⟩
theorem pick3 {num : Int} (l : Nat) (h0 : 0 ≤ num) : ∃ k : Nat, k ≤ l ∧ atI [V.int 0, V.int (num / 8 % ((l : Int) + 1)), V.int (l : Int)] (num % 3) = some (nv k) := by
  have h1 := Int.emod_nonneg num (show (3 : Int) ≠ 0 by decide)
  have h2 := Int.emod_lt_of_pos num (show (0 : Int) < 3 by decide)
  have h3 := Int.emod_nonneg (num / 8) (show (l : Int) + 1 ≠ 0 by omega)
  have h4 := Int.emod_lt_of_pos (num / 8) (show 0 < (l : Int) + 1 by omega)
  have h : num % 3 = 0 ∨ num % 3 = 1 ∨ num % 3 = 2 := by omega
  rcases h with e | e | e <;> rw [e]
  · exact ⟨0, Nat.zero_le _, rfl⟩
  · refine ⟨(num / 8 % ((l : Int) + 1)).toNat, by omega, ?_⟩
    show some (V.int (num / 8 % ((l : Int) + 1))) = some (V.int (((num / 8 % ((l : Int) + 1)).toNat : Nat) : Int))
    rw [Int.toNat_of_nonneg h3]
  · exact ⟨l, Nat.le_refl _, rfl⟩
theorem ok_lset (T : Txt P K mg) : FnOk P w K mg base CX0 1 T.a__law_set T.fd__law_set ["_law_rows", "_law_one", "_law_other", "_law_number"] (sp_lset K) := by
  refine T.F__law_set.ok sc__law_set (fun vs H Q E h => ?_) (fun cdv A outer s H vs Q E hr h => ?_)
  · obtain ⟨t, as, rows, one, other, num, rfl, _⟩ := h
    rfl
  · obtain ⟨t, as, rows, one, other, num, rfl, TB, g, h1, h2, hne, hnum, hlen, q⟩ := h
    refine ⟨_, (pss_cons (ps_setLc (i := 4) (own := [("_law_person", 5)]) rfl sc__law_set.nd rfl rfl (sw_true rfl rfl rfl (by decide +kernel)) (kpi_list (K := K) (pe_ix (kix_list (K := K)) (pv 0) (pv 1) (fun _ _ => rfl))) (blkOk_by (own := [("_law_person", 5)]) (N := ["_law_rows", "_law_one", "_law_other", "_law_number", "_law_row", "_law_person", "_law_at"]) (sc := (defScope s__law_set)) (by decide +kernel)) (fun _ _ _ _ _ => (pg_name (i := 5) sc__law_set.nd rfl (by first | exact .inl rfl | exact .inr rfl))) (fun _ _ _ _ _ => (pts_one (pt_cmpR op_ne (pv 5) (pv 2) (nomark _)))) (fun _ _ _ _ _ => (pv 5)))
      (pss_cons (ps_if (pt_cmpR op_gt (pe_op op_mod (pv 3) pe_int) pe_int (nomark _)) (pss_cons (ps_set (i := 6) sc__law_set.nd rfl (.inl rfl) (pe_ix (kix_list (K := K)) (pe_lst (pa_cons pe_int (pa_cons (pe_op op_mod (pe_op op_fdiv (pv 3) pe_int) (pe_op op_add (pe_callB (klen (K := K)) (by rfl) T.m_len (by decide +kernel) (pa_cons (pv 4) pa_nil)) pe_int)) (pa_cons (pe_callB (klen (K := K)) (by rfl) T.m_len (by decide +kernel) (pa_cons (pv 4) pa_nil)) pa_nil)))) (pe_op op_mod (pv 3) pe_int) (fun _ _ => rfl)))
      (pss_one (ps_set (i := 4) sc__law_set.nd rfl (.inl rfl) (pe_op op_cat (pe_op op_cat (pe_slice (ksl_list (K := K)) (pv 4) po_none (po_some (pv 6))) (pe_lst (pa_cons (pv 2) pa_nil))) (pe_slice (ksl_list (K := K)) (pv 4) (po_some (pv 6)) po_none))))) pss_nil)
      (pss_one (ps_asg (pv 4) (pg_sub (pv 0) (pv 1) set_list))))), ?_⟩
    obtain ⟨a, ha, hra, hat, ham⟩ := TB.at h1
    have r1d : ((fn rows one).filter fun x => !decide (x = other)).Nodup := (g.nd one).filter _
    have r1m : ∀ x, x ∈ ((fn rows one).filter fun x => !decide (x = other)) ↔ x ∈ fn rows one ∧ x ≠ other := fun x => by simp [List.mem_filter]
    have r1l : ((fn rows one).filter fun x => !decide (x = other)).length ≤ 100 := Nat.le_trans (List.length_filter_le _ _) (by have := g.len one; omega)
    refine ⟨_, rfl, nv one, rfl, t, _, one, .ref a, rfl, rfl, SqL.of TB.top, TB.atI ha, a, rfl, ⟨_, SqL.of hra⟩, fun D hD => lc_keep (r := fn rows one) (fun x => !decide (x = other)) hD (SqL.of hra) (by simp [L2.start]) (by have := g.len one; omega) (fun x hx H5 Qt e5 hq => ?_) ?_⟩
    · refine ⟨_, rfl, _, rfl, rfl, _, rfl, ?_⟩
      rw [eq_nv]
      exact hq
    generalize hr1 : ((fn rows one).filter fun x => !decide (x = other)) = r1 at *
    -- the end: a row r2 at D2
    have fin : ∀ (r2 : List Nat) (D2 : Addr) (H2 : Hp) (Qn : Hp → Prop), H D2 = none → Same H H2 → RowAt H2 D2 r2 → r2.Nodup → (∀ x ∈ r2, x < rows.length ∧ x ≠ one) → (∀ H', Tbl H' t (as.set one D2) (rows.set one r2) → (∀ x o, x ≠ t → H x = some o → H' x = some o) → Qn H') →
        ∃ j, ixN (as.map V.ref).length (one : Int) = some j ∧ Qn (upd H2 t (.lst ((as.map V.ref).set j (.ref D2)))) := fun r2 D2 H2 Qn n2 e2 hr2 d2 m2 hQ => by
      have hol : one < as.length := by rw [TB.len]; exact h1
      refine ⟨one, by rw [List.length_map]; exact ixN_nat hol, hQ _ ?_ fun x o hx ho => by rw [upd_ne hx]; exact e2 x o ho⟩
      have fr := TB.fresh n2
      exact (TB.same e2).replace h1 fr.1 fr.2 hr2
    have e1 : Same H (upd H D (.lst (r1.map nv))) := same_upd hD
    simp only [tLenSetI, cx_K, cx_w, wipe, Int.zero_add, Bool.false_eq_true, if_false, if_true, Bool.not_true, Bool.not_false, tSeq, tAsg, tOp, tVar, tC, tRet, tRetN, tNext, tDrop, tIfS, tB, tTest, tIf, tAnd, tOr, tNot, tAndV, tOrV, tNotV, tUn, tCons, tNil, tCall, tCB, tBM, tBM0, tNoPart, tPart, tSl, tCont, tNever, tTup, tLst, gName, gNil, gCons, gTup, gSub, rI, rI0, rU, rEq, rNe, rIxL, rSlL, rSetL, rLn, rLs, rTs, rIn, rSet0, tSAdd, rSAdd, rSIn, rSNotIn, rRep, rCat, rAppend, rPop, rPopAt, iList, iRng1, iRng2, iEnum, gTup, tIsN, tNotN, tTru, tLstRg, tRg1, tRg2, L2.start, List.map_cons, List.map_nil, List.length_cons, List.length_nil, List.replicate, List.cons_append, List.nil_append, List.getElem?_cons_zero, List.getElem?_cons_succ, List.set_cons_zero, List.set_cons_succ, Option.some.injEq, exists_eq_left', V.int.injEq, V.ref.injEq, V.bl.injEq, List.cons.injEq, exists_and_left, exists_and_right, and_true, true_and, exists_eq_left, exists_eq, Nat.reduceAdd, Nat.reduceSub]
    refine ⟨by decide, ?_⟩
    by_cases hm : 0 < num % 8
    · rw [decide_eq_true hm]
      refine iteT ⟨⟨by decide, by decide⟩, _, .inl (SqL.of upd_same), by omega, _, .inl (SqL.of upd_same), by decide, fun p hp => ⟨by decide, _, SqL.of upd_same, ?_⟩⟩
      rw [List.length_map]
      obtain ⟨k, hkl, hka⟩ := pick3 r1.length hnum
      refine ⟨_, hka, _, rfl, ?_⟩
      have e2 := e1.trans (same_upd (o := .lst [V.int 0, V.int (num / 8 % ((r1.length : Int) + 1)), V.int (r1.length : Int)]) hp)
      have hD2 : upd (upd H D (.lst (r1.map nv))) p (.lst [V.int 0, V.int (num / 8 % ((r1.length : Int) + 1)), V.int (r1.length : Int)]) D = some (.lst (r1.map nv)) := by rw [upd_ne (ne_of_none upd_same hp), upd_same]
      generalize upd (upd H D (.lst (r1.map nv))) p (.lst [V.int 0, V.int (num / 8 % ((r1.length : Int) + 1)), V.int (r1.length : Int)]) = H2 at e2 hD2 ⊢
      refine ⟨_, SqL.of hD2, fun p1 hp1 => ⟨by decide, fun p2 hp2 => ?_⟩⟩
      have e3 := e2.trans (same_upd (o := .lst (cutV (r1.map nv) none (some (k : Int)))) hp1)
      have hD3 : upd H2 p1 (.lst (cutV (r1.map nv) none (some (k : Int)))) D = some (.lst (r1.map nv)) := by rw [upd_ne (ne_of_none hD2 hp1)]; exact hD2
      have h31 : upd H2 p1 (.lst (cutV (r1.map nv) none (some (k : Int)))) p1 = some (.lst ((r1.take k).map nv)) := by rw [upd_same, cutV_take, List.map_take]
      generalize upd H2 p1 (.lst (cutV (r1.map nv) none (some (k : Int)))) = H3 at e3 hD3 h31 hp2 ⊢
      have e4 := e3.trans (same_upd (o := .lst [nv other]) hp2)
      have hD4 : upd H3 p2 (.lst [nv other]) D = some (.lst (r1.map nv)) := by rw [upd_ne (ne_of_none hD3 hp2)]; exact hD3
      have h41 : upd H3 p2 (.lst [nv other]) p1 = some (.lst ((r1.take k).map nv)) := by rw [upd_ne (ne_of_none h31 hp2)]; exact h31
      have h42 : upd H3 p2 (.lst [nv other]) p2 = some (.lst [nv other]) := upd_same
      generalize upd H3 p2 (.lst [nv other]) = H4 at e4 hD4 h41 h42 ⊢
      refine ⟨_, h41, _, h42, by simp [sizeLine_eq]; omega, fun p3 hp3 => ⟨(k : Int), rfl, ?_⟩⟩
      have e5 := e4.trans (same_upd (o := .lst ((r1.take k).map nv ++ [nv other])) hp3)
      have hD5 : upd H4 p3 (.lst ((r1.take k).map nv ++ [nv other])) D = some (.lst (r1.map nv)) := by rw [upd_ne (ne_of_none hD4 hp3)]; exact hD4
      have h53 : upd H4 p3 (.lst ((r1.take k).map nv ++ [nv other])) p3 = some (.lst ((r1.take k).map nv ++ [nv other])) := upd_same
      generalize upd H4 p3 (.lst ((r1.take k).map nv ++ [nv other])) = H5 at e5 hD5 h53 ⊢
      refine ⟨_, SqL.of hD5, fun p4 hp4 => ?_⟩
      have e6 := e5.trans (same_upd (o := .lst (cutV (r1.map nv) (some (k : Int)) none)) hp4)
      have h63 : upd H5 p4 (.lst (cutV (r1.map nv) (some (k : Int)) none)) p3 = some (.lst ((r1.take k).map nv ++ [nv other])) := by rw [upd_ne (ne_of_none h53 hp4)]; exact h53
      have h64 : upd H5 p4 (.lst (cutV (r1.map nv) (some (k : Int)) none)) p4 = some (.lst ((r1.drop k).map nv)) := by rw [upd_same, cutV_drop, List.map_drop]
      generalize upd H5 p4 (.lst (cutV (r1.map nv) (some (k : Int)) none)) = H6 at e6 h63 h64 ⊢
      refine ⟨_, h63, _, h64, by simp [sizeLine_eq]; omega, fun p5 hp5 => ?_⟩
      have hx1 : other ∉ r1 := fun z => ((r1m other).mp z).2 rfl
      obtain ⟨d2, m2⟩ := put_in r1d hx1 k
      have e7 := e6.trans (same_upd (o := .lst ((r1.take k).map nv ++ [nv other] ++ (r1.drop k).map nv)) hp5)
      refine ⟨_, e7 _ _ TB.top, fin (r1.take k ++ [other] ++ r1.drop k) p5 _ (Q .non) (e6.free hp5) e7 ?_ d2 (fun x hx => ?_) fun H' TB' fr' => ?_⟩
      · show upd H6 p5 _ p5 = _
        rw [upd_same, List.map_append, List.map_append]; rfl
      · rcases (m2 x).mp hx with z | z
        · subst z; exact ⟨h2, hne⟩
        · have := g.lt ((r1m x).mp z).1
          exact ⟨this.2.1, this.2.2⟩
      · refine q H' _ _ TB' (by rw [List.length_set]) (gl_set g d2 fun x hx => ?_) fr' fun b hb => ?_
        · rcases (m2 x).mp hx with z | z
          · subst z; exact ⟨h2, hne⟩
          · have := g.lt ((r1m x).mp z).1
            exact ⟨this.2.1, this.2.2⟩
        · rcases List.mem_or_eq_of_mem_set hb with z | z
          · exact .inl z
          · exact .inr (by rw [z]; exact e6.free hp5)
    · rw [decide_eq_false hm]
      have hin : ∀ x ∈ r1, x < rows.length ∧ x ≠ one := fun x hx => by
        have := g.lt ((r1m x).mp hx).1
        exact ⟨this.2.1, this.2.2⟩
      refine iteF ⟨_, e1 _ _ TB.top, fin r1 D _ (Q .non) hD e1 upd_same r1d hin fun H' TB' fr' => ?_⟩
      refine q H' _ _ TB' (by rw [List.length_set]) (gl_set g r1d hin) fr' fun b hb => ?_
      rcases List.mem_or_eq_of_mem_set hb with z | z
      · exact .inl z
      · exact .inr (by rw [z]; exact hD)
end
end K6g

set_option Elab.async false
set_option linter.all false
set_option maxRecDepth 100000
set_option maxHeartbeats 4000000
namespace K6g
open K6 PySem PySem.Spec PyProof.Rows L2 LamX Bk
section
variable {P : Program} {w : World} {K : PySem.W.Frag} {mg : Str → Option Value} {base : Heap}

/-- free, or a table of code -/
def Fr (H : Hp) (b : Addr) : Prop := ∀ o, H b = some o → ∃ ps, o = .tbl ps
theorem Fr.of {H : Hp} {b : Addr} (h : H b = none) : Fr H b := fun o e => by rw [h] at e; cases e
theorem Fr.ext {H H' : Hp} {b : Addr} (x : ExtN H H') (h : H' b = none) : Fr H b := fun o e => by
  apply Classical.byContradiction
  intro hn
  have := x b o e (fun ps z => hn ⟨ps, z⟩)
  rw [h] at this
  cases this
theorem Fr.ne {H : Hp} {b p : Addr} {o : HO} (h : Fr H p) (e : H b = some o) (hn : ∀ ps, o ≠ .tbl ps) : b ≠ p := fun z => by
  subst z
  obtain ⟨ps, z⟩ := h o e
  exact hn ps z
abbrev lamN : Str := ("_law_lists.<locals>.<lambda>" : Str)
def sp_llistsT (K : PySem.W.Frag) (Ts : List (Addr × Str)) : Sp := fun vs H Q _ => ∃ (a : Addr) (ns : List Int) (most : Nat), vs = [.ref a, nv most] ∧ SqL K H a (ns.map V.int) ∧ ns.length ≤ 63 ∧ most ≤ 60 ∧ Tabs (Ts) H ∧
  ∀ H' t as rows, ExtN H H' → Tabs (Ts) H' → Tbl H' t as rows → GL rows → rows.length ≤ most → Q (.ref t) H'
/-- the loops' word: the rows so far -/
def LW (a t : Addr) (Ts : List (Addr × Str)) (most n : Nat) (first : Int) (H : Hp) (σ : L2.St) (H3 : Hp) : Prop := ∃ (as : List Addr) (rows : List (List Nat)) (y5 y6 y8 y9 y10 y11 : Option V),
  ExtN H H3 ∧ Tabs (Ts) H3 ∧ (∀ b ∈ as, Fr H b) ∧ Tbl H3 t as rows ∧ rows.length = n ∧ GL rows ∧ σ = [some (.ref a), some (nv most), some (.int first), some (nv n), some (.ref t), y5, y6, none, y8, y9, y10, y11]
theorem ok_llistsT (T : Txt P K mg) {c P0 : Addr} (FC : FunC K "_law_lists" s__law_lists T.a__law_lists T.fd__law_lists c) (TB : TabB base mg c P0) {Ts : List (Addr × Str)} (hTm0 : (P0, lamN) ∈ Ts) (hTu0 : ∀ p ∈ Ts, p.1 = P0 → p.2 = lamN) : FnOk P w K mg base CX0 4 T.a__law_lists T.fd__law_lists ["_law_script", "_law_most"] (sp_llistsT K Ts) := by
  have G__law_mixed : FnOk P w K mg base CX0 1 T.a__law_mixed T.fd__law_mixed ["_law_number", "_law_k"] sp_mixed := ok_mixed T
  have G__law_set : FnOk P w K mg base CX0 1 T.a__law_set T.fd__law_set ["_law_rows", "_law_one", "_law_other", "_law_number"] (sp_lset K) := ok_lset T
  refine FC.ok sc__law_lists (fun vs H Q E h => ?_) (fun A outer s H vs Q E hr h => ?_)
  · obtain ⟨t, ns, m, rfl, _⟩ := h
    rfl
  · obtain ⟨a, ns, most, rfl, hS, hlen, hmost, hTT, q⟩ := h
    have hr3 : Room 3 (A.deeper (envOfC "_law_lists" (defScope s__law_lists) s.heap.objs.size T.a__law_lists (.ref c))) := hr
    have hcode : (cxOf CX0 P w K mg base ["_law_script", "_law_most", "_law_first", "_law_many", "_law_rows", "_law_person", "_law_others", "_law_k", "_law_cell", "_law_number", "_law_one", "_law_other"] "_law_lists" (defScope s__law_lists) T.a__law_lists (.ref c) A outer s H E).nox.env.code = .ref c := rfl
    have hTm : (P0, (cxOf CX0 P w K mg base ["_law_script", "_law_most", "_law_first", "_law_many", "_law_rows", "_law_person", "_law_others", "_law_k", "_law_cell", "_law_number", "_law_one", "_law_other"] "_law_lists" (defScope s__law_lists) T.a__law_lists (.ref c) A outer s H E).nox.env.qual ++ ("<lambda>" : Str)) ∈ Ts := hTm0
    have hTu : ∀ p ∈ Ts, p.1 = P0 → p.2 = (cxOf CX0 P w K mg base ["_law_script", "_law_most", "_law_first", "_law_many", "_law_rows", "_law_person", "_law_others", "_law_k", "_law_cell", "_law_number", "_law_one", "_law_other"] "_law_lists" (defScope s__law_lists) T.a__law_lists (.ref c) A outer s H E).nox.env.qual ++ ("<lambda>" : Str) := fun p hp e => hTu0 p hp e
    refine ⟨_, (C8.pss_cut (ps_set (i := 2) sc__law_lists.nd rfl (.inr rfl) (pe_call G__law_mixed (hr.mono (by decide)) (by rfl) T.g__law_mixed T.F__law_mixed.kp T.b__law_mixed .nil pass0 (pa_cons (pe_ifExp (pt_cmpR (kneD (K := K) hr.units) (pv 0) (pe_lst pa_nil) (nomark _)) (pe_ix (kix_list (K := K)) (pv 0) pe_int (fun _ _ => rfl)) pe_int) (pa_cons pe_int pa_nil))))
      (C8.pss_cut (ps_set (i := 3) sc__law_lists.nd rfl (.inr rfl) (pe_op op_mod (pv 2) (pe_op op_add (pv 1) pe_int)))
      (C8.pss_cut (ps_setLc (i := 4) (own := [("_law_person", 5)]) rfl sc__law_lists.nd rfl rfl (sw_true rfl rfl rfl (by decide +kernel)) (pi_range1 (by rfl) T.m_range (pa_cons (pv 3) pa_nil)) (blkOk_by (own := [("_law_person", 5)]) (N := ["_law_script", "_law_most", "_law_first", "_law_many", "_law_rows", "_law_person", "_law_others", "_law_k", "_law_cell", "_law_number", "_law_one", "_law_other"]) (sc := (defScope s__law_lists)) (by decide +kernel)) (fun _ _ _ _ _ => (pg_name (i := 5) sc__law_lists.nd rfl (by first | exact .inl rfl | exact .inr rfl))) (fun _ _ _ _ _ => pts_nil) (fun _ _ _ _ _ => (pe_lst pa_nil)))
      (C8.pss_cut (ps_if (pt_cmpR op_gt (pe_op op_mod (pe_op op_fdiv (pv 2) pe_int) pe_int) pe_int (nomark _)) (pss_one (ps_for PassesOwn.never rfl (pi_range1 (by rfl) T.m_range (pa_cons (pv 3) pa_nil)) (pg_name (i := 5) sc__law_lists.nd rfl (.inr rfl)) (pss_cons (ps_setLc (i := 6) (own := [("_law_k", 7)]) rfl sc__law_lists.nd rfl rfl (sw_true rfl rfl rfl (by decide +kernel)) (pi_range1 (by rfl) T.m_range (pa_cons (pe_op op_sub (pv 3) pe_int) pa_nil)) (blkOk_by (own := [("_law_k", 7)]) (N := ["_law_script", "_law_most", "_law_first", "_law_many", "_law_rows", "_law_person", "_law_others", "_law_k", "_law_cell", "_law_number", "_law_one", "_law_other"]) (sc := (defScope s__law_lists)) (by decide +kernel)) (fun _ _ _ _ _ => (pg_name (i := 7) sc__law_lists.nd rfl (by first | exact .inl rfl | exact .inr rfl))) (fun _ _ _ _ _ => pts_nil) (fun _ _ _ _ _ => (pe_op op_mod (pe_op op_add (pe_op op_add (pv 5) pe_int) (pv 7)) (pv 3))))
      (pss_one (ps_asg (pe_sortLam (i1 := 2) (i2 := 5) (by rfl) T.m_sorted (pv 6) TB hcode hTm hTu hr3 (by rfl) (by rfl) (by rfl) (by rfl)) (pg_sub (pv 4) (pv 5) set_list)))))) pss_nil)
      (C8.pss_cut (ps_for PassesOwn.never rfl (kpi_list (K := K) (pv 0)) (pg_name (i := 8) sc__law_lists.nd rfl (.inl rfl)) (pss_cons (ps_set (i := 9) sc__law_lists.nd rfl (.inl rfl) (pe_call G__law_mixed (hr.mono (by decide)) (by rfl) T.g__law_mixed T.F__law_mixed.kp T.b__law_mixed .nil pass0 (pa_cons (pv 8) (pa_cons pe_int pa_nil))))
      (pss_one (ps_if (pt_cmpR op_gt (pv 3) pe_int (nomark _)) (pss_cons (ps_set (i := 10) sc__law_lists.nd rfl (.inl rfl) (pe_op op_mod (pv 9) (pv 3)))
      (pss_cons (ps_set (i := 11) sc__law_lists.nd rfl (.inl rfl) (pe_op op_mod (pe_op op_add (pe_op op_add (pv 10) pe_int) (pe_op op_mod (pe_op op_fdiv (pv 9) (pv 3)) (pe_op op_sub (pv 3) pe_int))) (pv 3)))
      (pss_cons (ps_expr (pe_call G__law_set (hr.mono (by decide)) (by rfl) T.g__law_set T.F__law_set.kp T.b__law_set .nil pass0 (pa_cons (pv 4) (pa_cons (pv 10) (pa_cons (pv 11) (pa_cons (pe_op op_fdiv (pv 9) pe_int) pa_nil))))))
      (pss_one (ps_if (pt_cmpR op_gt (pe_op op_mod (pe_op op_fdiv (pv 9) pe_int) pe_int) pe_int (nomark _)) (pss_one (ps_expr (pe_call G__law_set (hr.mono (by decide)) (by rfl) T.g__law_set T.F__law_set.kp T.b__law_set .nil pass0 (pa_cons (pv 4) (pa_cons (pv 11) (pa_cons (pv 10) (pa_cons (pe_call G__law_mixed (hr.mono (by decide)) (by rfl) T.g__law_mixed T.F__law_mixed.kp T.b__law_mixed .nil pass0 (pa_cons (pv 9) (pa_cons pe_int pa_nil))) pa_nil))))))) pss_nil))))) pss_nil))))
      (pss_one (ps_ret (pv 4)))))))), ?_⟩
    -- the first number
    refine ⟨fun σ H1 => ∃ first : Int, 0 ≤ first ∧ first < 2147483629 ∧ Same H H1 ∧ σ = [some (.ref a), some (nv most), some (.int first), none, none, none, none, none, none, none, none, none], ?_, fun σ H1 hM => ?_⟩
    · simp only [tLenSetI, cx_K, cx_w, wipe, Int.zero_add, Bool.false_eq_true, if_false, if_true, Bool.not_true, Bool.not_false, tSeq, tAsg, tOp, tVar, tC, tRet, tRetN, tNext, tDrop, tIfS, tB, tTest, tIf, tAnd, tOr, tNot, tAndV, tOrV, tNotV, tUn, tCons, tNil, tCall, tCB, tBM, tBM0, tNoPart, tPart, tSl, tCont, tNever, tTup, tLst, gName, gNil, gCons, gTup, gSub, rI, rI0, rU, rEq, rNe, rIxL, rSlL, rSetL, rLn, rLs, rTs, rIn, rSet0, tSAdd, rSAdd, rSIn, rSNotIn, rRep, rCat, rAppend, rPop, rPopAt, iList, iRng1, iRng2, iEnum, gTup, tIsN, tNotN, tTru, tLstRg, tRg1, tRg2, L2.start, List.map_cons, List.map_nil, List.length_cons, List.length_nil, List.replicate, List.cons_append, List.nil_append, List.getElem?_cons_zero, List.getElem?_cons_succ, List.set_cons_zero, List.set_cons_succ, Option.some.injEq, exists_eq_left', V.int.injEq, V.ref.injEq, V.bl.injEq, List.cons.injEq, exists_and_left, exists_and_right, and_true, true_and, exists_eq_left, exists_eq, Nat.reduceAdd, Nat.reduceSub]
      refine ⟨Nat.zero_le _, fun p hp => ?_⟩
      have e1 : Same H (upd H p (.lst [])) := same_upd hp
      refine ne_ints (e1.seq hS) upd_same ⟨_, rfl, ?_⟩
      by_cases hn : ns = []
      · rw [decide_eq_true hn]
        refine iteF ⟨5, 1, rfl, by decide, by decide, _, (mixed_bd _ _).1, (mixed_bd _ _).2, e1, rfl⟩
      · rw [decide_eq_false hn]
        obtain ⟨x, r, rfl⟩ : ∃ x r, ns = x :: r := by
          cases ns with
          | nil => exact absurd rfl hn
          | cons x r => exact ⟨x, r, rfl⟩
        refine iteT ⟨_, e1.seq hS, .int x, atI_nat (j := 0) rfl, x, 1, rfl, by decide, by decide, _, (mixed_bd _ _).1, (mixed_bd _ _).2, e1, rfl⟩
    obtain ⟨first, hf0, hf1, e1, rfl⟩ := hM
    -- how many
    refine ⟨fun σ H2 => ∃ n : Nat, n ≤ most ∧ H2 = H1 ∧ σ = [some (.ref a), some (nv most), some (.int first), some (nv n), none, none, none, none, none, none, none, none], ?_, fun σ H2 hM => ?_⟩
    · simp only [tLenSetI, cx_K, cx_w, wipe, Int.zero_add, Bool.false_eq_true, if_false, if_true, Bool.not_true, Bool.not_false, tSeq, tAsg, tOp, tVar, tC, tRet, tRetN, tNext, tDrop, tIfS, tB, tTest, tIf, tAnd, tOr, tNot, tAndV, tOrV, tNotV, tUn, tCons, tNil, tCall, tCB, tBM, tBM0, tNoPart, tPart, tSl, tCont, tNever, tTup, tLst, gName, gNil, gCons, gTup, gSub, rI, rI0, rU, rEq, rNe, rIxL, rSlL, rSetL, rLn, rLs, rTs, rIn, rSet0, tSAdd, rSAdd, rSIn, rSNotIn, rRep, rCat, rAppend, rPop, rPopAt, iList, iRng1, iRng2, iEnum, gTup, tIsN, tNotN, tTru, tLstRg, tRg1, tRg2, L2.start, List.map_cons, List.map_nil, List.length_cons, List.length_nil, List.replicate, List.cons_append, List.nil_append, List.getElem?_cons_zero, List.getElem?_cons_succ, List.set_cons_zero, List.set_cons_succ, Option.some.injEq, exists_eq_left', V.int.injEq, V.ref.injEq, V.bl.injEq, List.cons.injEq, exists_and_left, exists_and_right, and_true, true_and, exists_eq_left, exists_eq, Nat.reduceAdd, Nat.reduceSub]
      refine ⟨by omega, (first % ((most : Int) + 1)).toNat, ?_, ?_⟩
      · have := Int.emod_lt_of_pos first (show 0 < (most : Int) + 1 by omega)
        have := Int.emod_nonneg first (show (most : Int) + 1 ≠ 0 by omega)
        omega
      · have := Int.emod_nonneg first (show (most : Int) + 1 ≠ 0 by omega)
        exact (Int.toNat_of_nonneg this).symm
    obtain ⟨n, hn, rfl, rfl⟩ := hM
    -- empty rows
    refine ⟨fun σ H2 => ∃ t as, H t = none ∧ (∀ b ∈ as, H b = none) ∧ Same H H2 ∧ Tbl H2 t as (mkL n fun _ => []) ∧ σ = [some (.ref a), some (nv most), some (.int first), some (nv n), some (.ref t), none, none, none, none, none, none, none], ?_, fun σ H2 hM => ?_⟩
    · refine ⟨nv n, rfl, _, rfl, by omega, by omega, fun D hD => lc_rng n (by omega) (fun i H2 => ∃ as, (∀ b ∈ as, H b = none) ∧ Same H H2 ∧ Tbl H2 D as (mkL i fun _ => [])) ⟨[], by simp, same_upd2 e1 (e1.free hD), Tbl.nil upd_same⟩ (fun i H2 hi h => ?_) (fun H2 h => ?_)⟩
      · obtain ⟨as, hn0, e2, T2⟩ := h
        refine ⟨rfl, yesI ⟨Nat.zero_le _, fun d hd => ?_⟩⟩
        have T3 := T2.upd_new (o := .lst []) hd
        have nD : d ≠ D := (T2.fresh hd).2
        refine ⟨as.map V.ref, T3.top, ?_, as ++ [d], fun b hb => ?_, ?_, ?_⟩
        · rw [List.length_map, T2.len, mkL_len]; exact small (by omega)
        · rcases List.mem_append.mp hb with z | z
          · exact hn0 b z
          · have : b = d := by simpa using z
            subst this; exact e2.free hd
        · intro b o ho
          rw [upd_ne (ne_of_none ho (e1.free hD)), upd_ne (ne_of_none ho (e2.free hd))]
          exact e2 b o ho
        · have := T3.snoc (a := d) (r := []) (by show upd H2 d _ d = _; rw [upd_same]; rfl) nD (T2.fresh hd).1
          rw [List.map_append] at this
          have e : mkL (i + 1) (fun _ => ([] : List Nat)) = mkL i (fun _ => []) ++ [[]] := by simp [mkL, List.range_succ]
          rw [e]
          exact this
      · obtain ⟨as, hn0, e2, T2⟩ := h
        exact ⟨D, as, e1.free hD, hn0, e2, T2, rfl⟩
    obtain ⟨t, as, ht, has, e2, T2, rfl⟩ := hM
    have hTT2 : Tabs (Ts) H2 := hTT.ext e2
    have s0 : ∀ {b o}, H b = some o → b ≠ t := fun {b o} ho => ne_of_none ho ht
    -- all by turns, in some order
    refine ⟨LW a t Ts most n first H, ?_, fun σ H3 hM => ?_⟩
    · have g0 : GL (mkL n fun _ => []) := ⟨fun i r h => by
        have hi : i < n := by have := (List.getElem?_eq_some_iff.mp h).1; rwa [mkL_len] at this
        rw [mkL_at hi] at h
        cases h
        exact ⟨List.nodup_nil, by simp⟩⟩
      simp only [tLenSetI, cx_K, cx_w, wipe, Int.zero_add, Bool.false_eq_true, if_false, if_true, Bool.not_true, Bool.not_false, tSeq, tAsg, tOp, tVar, tC, tRet, tRetN, tNext, tDrop, tIfS, tB, tTest, tIf, tAnd, tOr, tNot, tAndV, tOrV, tNotV, tUn, tCons, tNil, tCall, tCB, tBM, tBM0, tNoPart, tPart, tSl, tCont, tNever, tTup, tLst, gName, gNil, gCons, gTup, gSub, rI, rI0, rU, rEq, rNe, rIxL, rSlL, rSetL, rLn, rLs, rTs, rIn, rSet0, tSAdd, rSAdd, rSIn, rSNotIn, rRep, rCat, rAppend, rPop, rPopAt, iList, iRng1, iRng2, iEnum, gTup, tIsN, tNotN, tTru, tLstRg, tRg1, tRg2, L2.start, List.map_cons, List.map_nil, List.length_cons, List.length_nil, List.replicate, List.cons_append, List.nil_append, List.getElem?_cons_zero, List.getElem?_cons_succ, List.set_cons_zero, List.set_cons_succ, Option.some.injEq, exists_eq_left', V.int.injEq, V.ref.injEq, V.bl.injEq, List.cons.injEq, exists_and_left, exists_and_right, and_true, true_and, exists_eq_left, exists_eq, Nat.reduceAdd, Nat.reduceSub]
      refine ⟨⟨by decide, by decide⟩, by decide, ?_⟩
      have w0 : LW a t Ts most n first H [some (.ref a), some (nv most), some (.int first), some (nv n), some (.ref t), none, none, none, none, none, none, none] H2 :=
        ⟨as, mkL n fun _ => [], none, none, none, none, none, none, ExtN.of e2, hTT2, fun b hb => Fr.of (has b hb), T2, mkL_len _ _, g0, rfl⟩
      refine ite2 (fun _ => ?_) (fun _ => w0)
      refine ⟨nv n, rfl, _, rfl, by omega, by omega, for_rng n (by omega) (fun i => LW a t Ts most n first H) w0 (fun i σ H3 hi h => ?_) (fun σ H3 h => h)⟩
      obtain ⟨as3, rows3, y5, y6, y8, y9, y10, y11, x3, t3, has3, T3, l3, g3, rfl⟩ := h
      have hto := turns_ok hi
      refine ⟨nv n, rfl, _, _, rfl, rfl, _, rfl, by omega, by omega, fun D hD => lc_rng (n - 1) (by omega) (fun j H4 => H4 = upd H3 D (.lst (((turns n i).take j).map nv))) rfl (fun j H4 hj h => ?_) (fun H4 h => ?_)⟩
      · subst h
        refine ⟨rfl, yesI ?_⟩
        simp only [tLenSetI, cx_K, cx_w, wipe, Int.zero_add, Bool.false_eq_true, if_false, if_true, Bool.not_true, Bool.not_false, tSeq, tAsg, tOp, tVar, tC, tRet, tRetN, tNext, tDrop, tIfS, tB, tTest, tIf, tAnd, tOr, tNot, tAndV, tOrV, tNotV, tUn, tCons, tNil, tCall, tCB, tBM, tBM0, tNoPart, tPart, tSl, tCont, tNever, tTup, tLst, gName, gNil, gCons, gTup, gSub, rI, rI0, rU, rEq, rNe, rIxL, rSlL, rSetL, rLn, rLs, rTs, rIn, rSet0, tSAdd, rSAdd, rSIn, rSNotIn, rRep, rCat, rAppend, rPop, rPopAt, iList, iRng1, iRng2, iEnum, gTup, tIsN, tNotN, tTru, tLstRg, tRg1, tRg2, L2.start, List.map_cons, List.map_nil, List.length_cons, List.length_nil, List.replicate, List.cons_append, List.nil_append, List.getElem?_cons_zero, List.getElem?_cons_succ, List.set_cons_zero, List.set_cons_succ, Option.some.injEq, exists_eq_left', V.int.injEq, V.ref.injEq, V.bl.injEq, List.cons.injEq, exists_and_left, exists_and_right, and_true, true_and, exists_eq_left, exists_eq, Nat.reduceAdd, Nat.reduceSub]
        refine ⟨by omega, _, upd_same, ?_, ?_⟩
        · rw [List.length_map, List.length_take]; exact small (by omega)
        · rw [upd_upd]
          have e : (turns n i).take (j + 1) = (turns n i).take j ++ [(i + 1 + j) % n] := by
            rw [List.take_add_one]
            congr 1
            simp [turns, hj]
          rw [e, List.map_append]
          congr 3
      · subst h
        have lt : (turns n i).length = n - 1 := by simp [turns]
        rw [List.take_of_length_le (by omega)]
        have s4 : Same H3 (upd H3 D (.lst ((turns n i).map nv))) := same_upd hD
        refine ⟨.ref D, rfl, D, (turns n i).map Int.ofNat, first, (i : Int), rfl, SqL.of (by rw [map_nv', upd_same]), rfl, by show some (some (V.int (0 + (i : Int)))) = _; rw [Int.zero_add], hf0, by omega, t3.ext s4, fun ns' H5 p hperm x5 t5 hp => ?_⟩
        obtain ⟨r, rfl, hr⟩ := perm_nat hperm
        have x35 : ExtN H3 H5 := (ExtN.of s4).trans x5
        have T5 := T3.extN x35
        have fr := T5.fresh hp
        have T6 : Tbl (upd H5 p (.lst ((r.map Int.ofNat).map V.int))) t as3 rows3 := T5.upd_new hp
        have hin : ∀ x ∈ r, x < rows3.length ∧ x ≠ i := fun x hx => by rw [l3]; exact hto.2 x (hr.mem_iff.mp hx)
        have T7 := T6.replace (one := i) (D := p) (r := r) (by rw [l3]; exact hi) fr.1 fr.2 (by show upd H5 p _ p = _; rw [upd_same, map_nv'])
        have hHp : Fr H p := Fr.ext (x3.trans x35) hp
        have t6 : Tabs (Ts) (upd H5 p (.lst ((r.map Int.ofNat).map V.int))) := t5.ext (same_upd hp)
        refine ⟨.ref t, rfl, .int (0 + (i : Int)), rfl, t, _, (i : Int), i, rfl, by rw [Int.zero_add], T6.top, by rw [List.length_map, T3.len, l3]; exact ixN_nat hi, ?_⟩
        refine ⟨as3.set i p, rows3.set i r, _, _, _, _, _, _, fun b o ho hnt => ?_, Tabs.write t6 T6.top, fun b hb => ?_, T7, by rw [List.length_set]; exact l3, gl_set g3 (hr.nodup_iff.mpr hto.1) hin, rfl⟩
        · rw [upd_ne (s0 ho), upd_ne (hHp.ne ho hnt)]
          exact x35 b o (x3 b o ho hnt) hnt
        · rcases List.mem_or_eq_of_mem_set hb with z | z
          · exact has3 b z
          · rw [z]; exact hHp
    · -- the cells
      refine ⟨LW a t Ts most n first H, ?_, fun σ H4 hM4 => ?_⟩
      · have hM' := hM
        obtain ⟨as3, rows3, y5, y6, y8, y9, y10, y11, x3, t3, has3, T3, l3, g3, rfl⟩ := hM'
        refine ⟨.ref a, rfl, a, rfl, ⟨_, SqL.extN x3 hS⟩, for_list (K := K) (xs := ns.map V.int) (fun i => LW a t Ts most n first H) hM (fun i σ H4 _ h => ?_) (fun i x σ H4 hx h => ?_) (fun σ H4 h => h)⟩
        · obtain ⟨as3, rows3, y5, y6, y8, y9, y10, y11, x3, t3, has3, T3, l3, g3, rfl⟩ := h
          exact SqL.extN x3 hS
        · obtain ⟨as3, rows3, y5, y6, y8, y9, y10, y11, x3, t3, has3, T3, l3, g3, rfl⟩ := h
          rw [List.getElem?_map] at hx
          obtain ⟨z, hz, rfl⟩ := Option.map_eq_some_iff.mp hx
          simp only [tLenSetI, cx_K, cx_w, wipe, Int.zero_add, Bool.false_eq_true, if_false, if_true, Bool.not_true, Bool.not_false, tSeq, tAsg, tOp, tVar, tC, tRet, tRetN, tNext, tDrop, tIfS, tB, tTest, tIf, tAnd, tOr, tNot, tAndV, tOrV, tNotV, tUn, tCons, tNil, tCall, tCB, tBM, tBM0, tNoPart, tPart, tSl, tCont, tNever, tTup, tLst, gName, gNil, gCons, gTup, gSub, rI, rI0, rU, rEq, rNe, rIxL, rSlL, rSetL, rLn, rLs, rTs, rIn, rSet0, tSAdd, rSAdd, rSIn, rSNotIn, rRep, rCat, rAppend, rPop, rPopAt, iList, iRng1, iRng2, iEnum, gTup, tIsN, tNotN, tTru, tLstRg, tRg1, tRg2, L2.start, List.map_cons, List.map_nil, List.length_cons, List.length_nil, List.replicate, List.cons_append, List.nil_append, List.getElem?_cons_zero, List.getElem?_cons_succ, List.set_cons_zero, List.set_cons_succ, Option.some.injEq, exists_eq_left', V.int.injEq, V.ref.injEq, V.bl.injEq, List.cons.injEq, exists_and_left, exists_and_right, and_true, true_and, exists_eq_left, exists_eq, Nat.reduceAdd, Nat.reduceSub]
          refine ⟨z, 2, rfl, by decide, by decide, ?_⟩
          have m0 := mixed_bd z 2
          generalize mixed z 2 = m at m0 ⊢
          by_cases h1 : 1 < n
          · show (if decide (1 < (n : Int)) = true then _ else _)
            rw [decide_eq_true (by omega)]
            obtain ⟨o1, o2, d1, d2, d3, d4, d5⟩ := draw2 m0.1 h1
            have dv : ∀ k : Int, 0 < k → 0 ≤ m / k := fun k hk => Int.ediv_nonneg m0.1 (by omega)
            refine iteT ⟨m, rfl, by omega, m, rfl, ⟨by omega, by omega⟩, by omega, by omega, m, rfl, ⟨by decide, by decide⟩, ?_⟩
            rw [d1, d2]
            -- one call of the def that puts one on the list of another
            have call : ∀ (H5 : Hp) (as5 : List Addr) (rows5 : List (List Nat)) (p1 p2 : Nat) (num : Int) (Qc : VK), ExtN H H5 → Tabs (Ts) H5 → (∀ b ∈ as5, Fr H b) → Tbl H5 t as5 rows5 → rows5.length = n → GL rows5 → p1 < n → p2 < n → p2 ≠ p1 → 0 ≤ num →
                (∀ H6 as6 rows6, ExtN H H6 → Tabs (Ts) H6 → (∀ b ∈ as6, Fr H b) → Tbl H6 t as6 rows6 → rows6.length = n → GL rows6 → Qc .non H6) → sp_lset K [.ref t, nv p1, nv p2, .int num] H5 Qc E0 := fun H5 as5 rows5 p1 p2 num Qc x5 t5 h5 T5 l5 g5 q1 q2 q3 q4 hq => by
              refine ⟨t, as5, rows5, p1, p2, num, rfl, T5, g5, by omega, by omega, q3, q4, by omega, fun H6 as6 rows6 T6 l6 g6 f6 h6 => ?_⟩
              refine hq H6 as6 rows6 (fun b o ho hnt => f6 b o (s0 ho) (x5 b o ho hnt)) (Tabs.but t5 T5.top f6) (fun b hb => ?_) T6 (by omega) g6
              rcases h6 b hb with zz | zz
              · exact h5 b zz
              · exact Fr.ext x5 zz
            refine call H4 as3 rows3 o1 o2 (m / 997) _ x3 t3 has3 T3 l3 g3 d3 d4 d5 (dv 997 (by decide)) fun H5 as5 rows5 x5 t5 h5 T5 l5 g5 => ?_
            refine ⟨m, rfl, ⟨by decide, by decide⟩, by decide, ite2 (fun _ => ?_) (fun _ => ⟨as5, rows5, _, _, _, _, _, _, x5, t5, h5, T5, l5, g5, rfl⟩)⟩
            refine ⟨m, 3, rfl, by decide, by decide, ?_⟩
            exact call H5 as5 rows5 o2 o1 _ _ x5 t5 h5 T5 l5 g5 d4 d3 (Ne.symm d5) (mixed_bd m 3).1 fun H6 as6 rows6 x6 t6 h6 T6 l6 g6 => ⟨as6, rows6, _, _, _, _, _, _, x6, t6, h6, T6, l6, g6, rfl⟩
          · show (if decide (1 < (n : Int)) = true then _ else _)
            rw [decide_eq_false (by omega)]
            exact iteF ⟨as3, rows3, _, _, _, _, _, _, x3, t3, has3, T3, l3, g3, rfl⟩
      · obtain ⟨as3, rows3, y5, y6, y8, y9, y10, y11, x3, t3, has3, T3, l3, g3, rfl⟩ := hM4
        exact ⟨.ref t, rfl, q H4 t as3 rows3 x3 t3 T3 g3 (by omega)⟩
end
end K6g

set_option Elab.async false
set_option linter.all false
set_option maxRecDepth 100000
set_option maxHeartbeats 4000000
namespace K6g
open K6 PySem PySem.Spec PyProof.Rows L2 LamX Bk
section
variable {P : Program} {w : World} {K : PySem.W.Frag} {mg : Str → Option Value} {base : Heap}

def sp_better (K : PySem.W.Frag) : Sp := fun vs H Q _ => ∃ (a : Addr) (r : List Nat) (one : Nat) (other : Option Nat), vs = [.ref a, nv one, ov other] ∧ RowAt H a r ∧ Q (.bl (betterF r one other)) H
theorem ok_better (T : Txt P K mg) : FnOk P w K mg base CX0 1 T.a__law_better T.fd__law_better ["_law_row", "_law_one", "_law_other"] (sp_better K) := by
  refine T.F__law_better.ok sc__law_better (fun vs H Q E h => ?_) (fun cdv A outer s H vs Q E hr h => ?_)
  · obtain ⟨a, r, one, other, rfl, _⟩ := h
    rfl
  · obtain ⟨a, r, one, other, rfl, hr, q⟩ := h
    refine ⟨_, (C8.pss_cut (ps_for PassesOwn.never rfl (kpi_list (K := K) (pv 0)) (pg_name (i := 3) sc__law_better.nd rfl (.inl rfl)) (pss_cons (ps_if (pt_cmpR op_eq (pv 3) (pv 1) (nomark _)) (pss_one (ps_ret pe_bl)) pss_nil)
      (pss_one (ps_if (pt_cmpR op_eq (pv 3) (pv 2) (nomark _)) (pss_one (ps_ret pe_bl)) pss_nil))))
      (pss_one (ps_ret pe_bl))), ?_⟩
    refine ⟨fun σ H' => H' = H ∧ betterF r one other = false, ?_, fun σ H' ⟨e1, e2⟩ => ?_⟩
    · refine ⟨_, rfl, a, rfl, ⟨_, SqL.of hr⟩, for_list (K := K) (xs := r.map nv) (fun i σ H' => ∃ y, σ = [some (.ref a), some (nv one), some (ov other), y] ∧ H' = H ∧ betterF r one other = betterF (r.drop i) one other) ⟨none, rfl, rfl, rfl⟩ (fun i σ H' _ h => ?_) (fun i x σ H' hx h => ?_) (fun σ H' h => ?_)⟩
      · obtain ⟨_, _, rfl, _⟩ := h
        exact SqL.of hr
      · obtain ⟨y, rfl, rfl, e⟩ := h
        rw [List.getElem?_map] at hx
        obtain ⟨z, hz, rfl⟩ := Option.map_eq_some_iff.mp hx
        obtain ⟨hi, e2⟩ := List.getElem?_eq_some_iff.mp hz
        have hd : r.drop i = z :: r.drop (i + 1) := by rw [List.drop_eq_getElem_cons hi, e2]
        rw [hd] at e
        simp only [betterF] at e
        simp only [tLenSetI, cx_K, cx_w, wipe, Int.zero_add, Bool.false_eq_true, if_false, if_true, Bool.not_true, Bool.not_false, tSeq, tAsg, tOp, tVar, tC, tRet, tRetN, tNext, tDrop, tIfS, tB, tTest, tIf, tAnd, tOr, tNot, tAndV, tOrV, tNotV, tUn, tCons, tNil, tCall, tCB, tBM, tBM0, tNoPart, tPart, tSl, tCont, tNever, tTup, tLst, gName, gNil, gCons, gTup, gSub, rI, rI0, rU, rEq, rNe, rIxL, rSlL, rSetL, rLn, rLs, rTs, rIn, rSet0, tSAdd, rSAdd, rSIn, rSNotIn, rRep, rCat, rAppend, rPop, rPopAt, iList, iRng1, iRng2, iEnum, gTup, tIsN, tNotN, tTru, tLstRg, tRg1, tRg2, L2.start, List.map_cons, List.map_nil, List.length_cons, List.length_nil, List.replicate, List.cons_append, List.nil_append, List.getElem?_cons_zero, List.getElem?_cons_succ, List.set_cons_zero, List.set_cons_succ, Option.some.injEq, exists_eq_left', V.int.injEq, V.ref.injEq, V.bl.injEq, List.cons.injEq, exists_and_left, exists_and_right, and_true, true_and, exists_eq_left, exists_eq, Nat.reduceAdd, Nat.reduceSub]
        refine ⟨rfl, ?_⟩
        by_cases h1 : z = one
        · subst h1
          rw [if_pos rfl] at e
          simp
          rw [e] at q; exact q
        · rw [if_neg h1] at e
          have d1 : ¬ ((z : Int) = (one : Int)) := by omega
          simp only [d1, decide_false, if_false, Bool.false_eq_true]
          cases other with
          | none =>
            refine ⟨rfl, ?_⟩
            simp [ov]
            simpa using e
          | some o =>
            refine ⟨rfl, ?_⟩
            by_cases h2 : z = o
            · subst h2
              rw [if_pos rfl] at e
              simp [ov]
              rw [e] at q; exact q
            · rw [if_neg (by simpa using h2)] at e
              have d2 : ¬ ((z : Int) = (o : Int)) := by omega
              simp [ov, d2]
              exact e
      · obtain ⟨y, rfl, rfl, e⟩ := h
        refine ⟨rfl, ?_⟩
        rw [e]
        simp [betterF]
    · subst e1
      rw [e2] at q
      exact q
end
end K6g

set_option Elab.async false
set_option linter.all false
set_option maxRecDepth 100000
set_option maxHeartbeats 4000000
namespace K6g
open K6 PySem PySem.Spec PyProof.Rows L2 LamX Bk
section
variable {P : Program} {w : World} {K : PySem.W.Frag} {mg : Str → Option Value} {base : Heap}

/-- all pairings whose first ones are told -/
def sp_lpair (K : PySem.W.Frag) (e : Nat) : Sp := fun vs H Q _ => ∃ (t da : Addr) (as : List Addr) (n : Nat) (R : Nat → List Nat) (m : Pg), vs = [.ref t, .ref da] ∧ Tbl H t as (mkL n R) ∧ H da = some (.lst (m.map ov)) ∧
  VP R m ∧ (∀ i j, j ∈ R i → i ∈ R j) ∧ (∀ i, (R i).length ≤ 6) ∧ n ≤ 7 ∧ m.length + e = n + 1 ∧ m.length ≤ n ∧
  ∀ H' p ps, Same H H' → PgsAt H' p ps (prs R (e - 1) m) → Q (.ref p) H'
theorem ok_lpair (T : Txt P K mg) : ∀ e, FnOk P w K mg base CX0 e T.a__law_pairings T.fd__law_pairings ["_law_rows", "_law_done"] (sp_lpair K e)
  | 0 => by
    refine ⟨fun vs H Q E h => ?_, fun A outer s H args us vs Q E hr _ _ _ h => ?_⟩ <;> obtain ⟨t, da, as, n, R, m, _, _, _, _, _, _, _, h1, h2, _⟩ := h <;> omega
  | e + 1 => by
    have G__law_pairings : FnOk P w K mg base CX0 e T.a__law_pairings T.fd__law_pairings ["_law_rows", "_law_done"] (sp_lpair K e) := ok_lpair T e
    refine T.F__law_pairings.ok sc__law_pairings (fun vs H Q E h => ?_) (fun cdv A outer s H vs Q E hr h => ?_)
    · obtain ⟨t, da, as, n, R, m, rfl, _⟩ := h
      rfl
    · obtain ⟨t, da, as, n, R, m, rfl, TB, hda, vp, mu, h6, hn, he, hm, q⟩ := h
      refine ⟨_, (pss_cons (ps_set (i := 2) sc__law_pairings.nd rfl (.inl rfl) (pe_callB (klen (K := K)) (by rfl) T.m_len (by decide +kernel) (pa_cons (pv 1) pa_nil)))
      (pss_cons (ps_if (pt_cmpR op_eq (pv 2) (pe_callB (klen (K := K)) (by rfl) T.m_len (by decide +kernel) (pa_cons (pv 0) pa_nil)) (nomark _)) (pss_one (ps_ret (pe_lst (pa_cons (pv 1) pa_nil)))) pss_nil)
      (pss_cons (ps_if (pt_cmpR (kin (K := K)) (pv 2) (pv 1) rfl) (pss_one (ps_ret (pe_call G__law_pairings hr (by rfl) T.g__law_pairings T.F__law_pairings.kp T.b__law_pairings .nil pass0 (pa_cons (pv 0) (pa_cons (pe_op op_cat (pv 1) (pe_lst (pa_cons (pe_bm PySem.F.plainAttrs_list PySem.F.slot_list_index PySem.F.type_list_index mt_index (pv 1) (pa_cons (pv 2) pa_nil)) pa_nil))) pa_nil))))) pss_nil)
      (C8.pss_cut (ps_set (i := 3) sc__law_pairings.nd rfl (.inl rfl) (pe_lst pa_nil))
      (C8.pss_cut (ps_for PassesOwn.never rfl (kpi_list (K := K) (pe_ix (kix_list (K := K)) (pv 0) (pv 2) (fun _ _ => rfl))) (pg_name (i := 4) sc__law_pairings.nd rfl (.inl rfl)) (pss_one (ps_if (PW.pt (pw_and (pt_cmpR op_gt (pv 4) (pv 2) (nomark _)) (pw_and1 (pt_cmpR (knotin (K := K)) (pv 4) (pv 1) rfl)))) (pss_one (ps_set (i := 3) sc__law_pairings.nd rfl (.inl rfl) (pe_op op_cat (pv 3) (pe_call G__law_pairings hr (by rfl) T.g__law_pairings T.F__law_pairings.kp T.b__law_pairings .nil pass0 (pa_cons (pv 0) (pa_cons (pe_op op_cat (pv 1) (pe_lst (pa_cons (pv 4) pa_nil))) pa_nil)))))) pss_nil)))
      (pss_one (ps_ret (pe_op op_cat (pv 3) (pe_call G__law_pairings hr (by rfl) T.g__law_pairings T.F__law_pairings.kp T.b__law_pairings .nil pass0 (pa_cons (pv 0) (pa_cons (pe_op op_cat (pv 1) (pe_lst (pa_cons pe_non pa_nil))) pa_nil))))))))))), ?_⟩
      refine ⟨.ref da, rfl, da, _, rfl, .inl (SqL.of hda), ?_⟩
      rw [List.length_map]
      simp only [tLenSetI, cx_K, cx_w, wipe, Int.zero_add, Bool.false_eq_true, if_false, if_true, Bool.not_true, Bool.not_false, tSeq, tAsg, tOp, tVar, tC, tRet, tRetN, tNext, tDrop, tIfS, tB, tTest, tIf, tAnd, tOr, tNot, tAndV, tOrV, tNotV, tUn, tCons, tNil, tCall, tCB, tBM, tBM0, tNoPart, tPart, tSl, tCont, tNever, tTup, tLst, gName, gNil, gCons, gTup, gSub, rI, rI0, rU, rEq, rNe, rIxL, rSlL, rSetL, rLn, rLs, rTs, rIn, rSet0, tSAdd, rSAdd, rSIn, rSNotIn, rRep, rCat, rAppend, rPop, rPopAt, iList, iRng1, iRng2, iEnum, gTup, tIsN, tNotN, tTru, tLstRg, tRg1, tRg2, L2.start, List.map_cons, List.map_nil, List.length_cons, List.length_nil, List.replicate, List.cons_append, List.nil_append, List.getElem?_cons_zero, List.getElem?_cons_succ, List.set_cons_zero, List.set_cons_succ, Option.some.injEq, exists_eq_left', V.int.injEq, V.ref.injEq, V.bl.injEq, List.cons.injEq, exists_and_left, exists_and_right, and_true, true_and, exists_eq_left, exists_eq, Nat.reduceAdd, Nat.reduceSub]
      have hme : m.length + e = n := by omega
      rw [show e + 1 - 1 = e by omega] at q
      have big : ∀ e' ≤ 7, 7 ^ e' ≤ 823543 := fun e' h => Nat.le_trans (Nat.pow_le_pow_right (by decide) h) (by decide)
      have hrec : ∀ (H1 : Hp) (d1 : Addr) (x : Option Nat) (Q1 : VK) (E1 : XK), Same H H1 → m.length < n → H1 d1 = some (.lst ((m ++ [x]).map ov)) → VP R (m ++ [x]) → (∀ H2 p ps, Same H1 H2 → PgsAt H2 p ps (prs R (e - 1) (m ++ [x])) → Q1 (.ref p) H2) → sp_lpair K e [.ref t, .ref d1] H1 Q1 E1 :=
        fun H1 d1 x Q1 E1 e1 hlt hd v k =>
          ⟨t, d1, as, n, R, m ++ [x], rfl, TB.same e1, hd, v, mu, h6, hn, by rw [List.length_append, List.length_singleton]; omega, by rw [List.length_append, List.length_singleton]; omega, k⟩
      refine ⟨_, .inl (SqL.of TB.top), rfl, ?_⟩
      by_cases h1 : m.length = n
      · have : (m.length : Int) = ((as.map V.ref).length : Int) := by rw [List.length_map, TB.len, mkL_len, h1]
        rw [decide_eq_true this]
        have he0 : e = 0 := by omega
        subst he0
        refine iteT ⟨by decide, fun p hp => q _ p [da] (same_upd hp) ⟨upd_same, rfl, fun z => ?_, fun i a x h1 h2 => ?_⟩⟩
        · rw [List.mem_singleton.mp z, hda] at hp
          cases hp
        · have hi : i = 0 := by
            have := (List.getElem?_eq_some_iff.mp h1).1
            simp at this; omega
          subst hi
          cases h1
          cases h2
          exact (same_upd hp) _ _ hda
      have hlt : m.length < n := by omega
      obtain ⟨e', rfl⟩ : ∃ e', e = e' + 1 := ⟨e - 1, by omega⟩
      have he7 : e' ≤ 6 := by omega
      rw [show e' + 1 - 1 = e' by omega] at hrec
      have : ¬ (m.length : Int) = ((as.map V.ref).length : Int) := by rw [List.length_map, TB.len, mkL_len]; omega
      rw [decide_eq_false this]
      refine iteF ⟨_, .inl (SqL.of hda), rfl, flat_ov _, ?_⟩
      rw [show V.int (m.length : Int) = nv m.length from rfl, inV_ov]
      by_cases h2 : some m.length ∈ m
      · rw [decide_eq_true h2]
        have hj := idx_some h2
        have eprs : prs R (e' + 1) m = prs R e' (m ++ [some (m.idxOf (some m.length))]) := by
          show (if some m.length ∈ m then _ else _) = _
          rw [if_pos h2]
        rw [eprs] at q
        generalize m.idxOf (some m.length) = j at hj q
        refine iteT ⟨.inl ⟨rfl, _, SqL.of hda⟩, index_ov (SqL.of hda) hj (fun i hi => vp.one i j _ hi hj) ⟨by decide, fun p hp => ⟨_, by rw [upd_ne (ne_of_none hda hp)]; exact hda, _, upd_same, ?_, fun p1 hp1 => ?_⟩⟩⟩
        · have : (m.map ov).length ≤ 7 := by rw [List.length_map]; omega
          have : ([nv j] : List V).length = 1 := rfl
          have : 8 ≤ sizeLine := by decide
          omega
        · have e1 : Same H (upd (upd H p (.lst [nv j])) p1 (.lst (m.map ov ++ [nv j]))) := same_upd2 (same_upd hp) (by by_cases z : p1 = p; (subst z; exact hp); (rw [upd_ne z] at hp1; exact hp1))
          exact hrec _ _ (some j) _ _ e1 hlt (by rw [upd_same]; exact congrArg _ (congrArg _ (pg_cat m (some j)))) (vp.chosen mu hj) fun H2 p2 ps e2 hP => q _ p2 ps (e1.trans e2) hP
      · rw [decide_eq_false h2]
        refine iteF ?_
        have hfree : ∀ i : Nat, m[i]? ≠ some (some m.length) := fun i hi => h2 (List.mem_of_getElem? hi)
        obtain ⟨Pz, hPz⟩ : ∃ Pz : Nat → Bool, Pz = fun z => decide (m.length < z) && !decide (some z ∈ m) := ⟨_, rfl⟩
        obtain ⟨F, hF⟩ : ∃ F : Nat → List Pg, F = fun z => prs R e' (m ++ [some z]) := ⟨_, rfl⟩
        have eprs : prs R (e' + 1) m = ((R m.length).filter Pz).flatMap F ++ prs R e' (m ++ [none]) := by
          show (if some m.length ∈ m then _ else _) = _
          rw [if_neg h2, hPz, hF]
        rw [eprs] at q
        have lenF : ∀ z, (F z).length ≤ 7 ^ e' := fun z => by rw [hF]; exact prs_len h6 _ _
        have lenT : ∀ i, (((R m.length).take i).filter Pz).length ≤ 6 := fun i => Nat.le_trans (List.length_filter_le _ _) (Nat.le_trans (List.length_take_le' _ _) (h6 _))
        have lenM : ∀ i, ((((R m.length).take i).filter Pz).flatMap F).length ≤ 6 * 7 ^ e' := fun i => Nat.le_trans (flatMap_len (c := 7 ^ e') fun z _ => lenF z) (Nat.mul_le_mul_right _ (lenT i))
        have hbig := big (e' + 1) (by omega)
        rw [Nat.pow_succ] at hbig
        obtain ⟨a, ha, hra, _, _⟩ := TB.at (show m.length < (mkL n R).length by rw [mkL_len]; exact hlt)
        rw [fn_mkL hlt] at hra
        have hstep : ∀ (H' : Hp) (f : Addr) (fs : List Addr) (ms : List Pg) (x : Option Nat) (Q1 : Addr → Hp → Prop), Same H H' → PgsAt H' f fs ms → ms.length ≤ 6 * 7 ^ e' → VP R (m ++ [x]) → (∀ p ps H2, Same H H2 → PgsAt H2 p ps (ms ++ prs R e' (m ++ [x])) → Q1 p H2) →
            1 ≤ sizeLine ∧ ∀ p, H' p = none → ∃ xs, upd H' p (.lst [ov x]) da = some (.lst xs) ∧ ∃ ys, upd H' p (.lst [ov x]) p = some (.lst ys) ∧ xs.length + ys.length ≤ sizeLine ∧ ∀ p1, upd H' p (.lst [ov x]) p1 = none →
              sp_lpair K (e' + 1) [.ref t, .ref p1] (upd (upd H' p (.lst [ov x])) p1 (.lst (xs ++ ys))) (fun y H2 => ∃ g, y = V.ref g ∧ ∃ x2, H2 f = some (.lst x2) ∧ ∃ x3, H2 g = some (.lst x3) ∧ x2.length + x3.length ≤ sizeLine ∧ ∀ p, H2 p = none → Q1 p (upd H2 p (.lst (x2 ++ x3)))) E0 := by
          intro H' f fs ms x Q1 e2 hP hc v k
          refine ⟨by decide, fun p hp => ⟨_, by rw [upd_ne (ne_of_none (e2 _ _ hda) hp)]; exact e2 _ _ hda, _, upd_same, ?_, fun p1 hp1 => ?_⟩⟩
          · have : (m.map ov).length ≤ 7 := by rw [List.length_map]; omega
            have : ([ov x] : List V).length = 1 := rfl
            have : 8 ≤ sizeLine := by decide
            omega
          · have hp1' : H' p1 = none := by by_cases z : p1 = p; (subst z; exact hp); (rw [upd_ne z] at hp1; exact hp1)
            have e3 : Same H' (upd (upd H' p (.lst [ov x])) p1 (.lst (m.map ov ++ [ov x]))) := same_upd2 (same_upd hp) hp1'
            refine hrec _ _ x _ _ (e2.trans e3) hlt (by rw [upd_same]; exact congrArg _ (congrArg _ (pg_cat m x))) v fun H2 g gs e4 hG => ?_
            have hF2 := hP.same (e3.trans e4)
            refine ⟨g, rfl, _, hF2.top, _, hG.top, ?_, fun p2 hp2 => k p2 _ _ (same_upd2 (e2.trans (e3.trans e4)) ((e2.trans (e3.trans e4)).free hp2)) (hF2.cat hG hp2)⟩
            rw [List.length_map, List.length_map, hF2.len, hG.len]
            have h3 := prs_len h6 e' (m ++ [x])
            have : 823543 ≤ sizeLine := by decide
            omega
        obtain ⟨M1, hM1⟩ : ∃ M1 : L2.St → Hp → Prop, M1 = (fun σ H' => ∃ f, σ = [some (.ref t), some (.ref da), some (nv m.length), some (.ref f), none] ∧ Same H H' ∧ H' f = some (.lst [])) := ⟨_, rfl⟩
        refine ⟨M1, ?_, fun σ H' hM => ?_⟩
        · simp only [tLenSetI, cx_K, cx_w, wipe, Int.zero_add, Bool.false_eq_true, if_false, if_true, Bool.not_true, Bool.not_false, tSeq, tAsg, tOp, tVar, tC, tRet, tRetN, tNext, tDrop, tIfS, tB, tTest, tIf, tAnd, tOr, tNot, tAndV, tOrV, tNotV, tUn, tCons, tNil, tCall, tCB, tBM, tBM0, tNoPart, tPart, tSl, tCont, tNever, tTup, tLst, gName, gNil, gCons, gTup, gSub, rI, rI0, rU, rEq, rNe, rIxL, rSlL, rSetL, rLn, rLs, rTs, rIn, rSet0, tSAdd, rSAdd, rSIn, rSNotIn, rRep, rCat, rAppend, rPop, rPopAt, iList, iRng1, iRng2, iEnum, gTup, tIsN, tNotN, tTru, tLstRg, tRg1, tRg2, L2.start, List.map_cons, List.map_nil, List.length_cons, List.length_nil, List.replicate, List.cons_append, List.nil_append, List.getElem?_cons_zero, List.getElem?_cons_succ, List.set_cons_zero, List.set_cons_succ, Option.some.injEq, exists_eq_left', V.int.injEq, V.ref.injEq, V.bl.injEq, List.cons.injEq, exists_and_left, exists_and_right, and_true, true_and, exists_eq_left, exists_eq, Nat.reduceAdd, Nat.reduceSub]
          exact ⟨by decide, fun f hf => by rw [hM1]; exact ⟨f, rfl, same_upd hf, upd_same⟩⟩
        rw [hM1] at hM
        obtain ⟨f, rfl, e1, hf⟩ := hM
        obtain ⟨M2, hM2⟩ : ∃ M2 : L2.St → Hp → Prop, M2 = (fun σ H' => ∃ f fs y, σ = [some (.ref t), some (.ref da), some (nv m.length), some (.ref f), y] ∧ Same H H' ∧ PgsAt H' f fs (((R m.length).filter Pz).flatMap F)) := ⟨_, rfl⟩
        refine ⟨M2, ?_, fun σ H' hM => ?_⟩
        · refine ⟨.ref t, rfl, nv m.length, rfl, t, _, _, .ref a, rfl, rfl, SqL.of (e1 _ _ TB.top), TB.atI ha, a, rfl, ⟨_, SqL.of (e1 _ _ hra)⟩, for_list (K := K) (xs := (R m.length).map nv)
            (fun i σ H' => ∃ f fs y, σ = [some (.ref t), some (.ref da), some (nv m.length), some (.ref f), y] ∧ Same H H' ∧ PgsAt H' f fs ((((R m.length).take i).filter Pz).flatMap F)) ⟨f, [], none, rfl, e1, .nil hf⟩ (fun i σ H' _ h => ?_) (fun i x σ H' hx h => ?_) (fun σ H' h => ?_)⟩
          · obtain ⟨_, _, _, _, e2, _⟩ := h
            exact SqL.of (e2 _ _ hra)
          · obtain ⟨f, fs, y, rfl, e2, hP⟩ := h
            rw [List.getElem?_map] at hx
            obtain ⟨z, hz, rfl⟩ := Option.map_eq_some_iff.mp hx
            have hzm := List.mem_of_getElem? hz
            obtain ⟨M3, hM3⟩ : ∃ M3 : L2.St → Hp → Prop, M3 = (fun σ H' => ∃ f fs y, σ = [some (V.ref t), some (V.ref da), some (nv m.length), some (V.ref f), y] ∧ Same H H' ∧ PgsAt H' f fs ((((R m.length).take (i + 1)).filter Pz).flatMap F)) := ⟨_, rfl⟩
            rw [← hM3]
            have et : (((R m.length).take (i + 1)).filter Pz).flatMap F = (((R m.length).take i).filter Pz).flatMap F ++ ([z].filter Pz).flatMap F := by
              rw [List.take_add_one, hz, List.filter_append, List.flatMap_append]; rfl
            have hno : Pz z = false → M3 [some (V.ref t), some (V.ref da), some (nv m.length), some (V.ref f), some (nv z)] H' := fun hzf => by
              rw [hM3]
              refine ⟨f, fs, _, rfl, e2, ?_⟩
              rw [et, f0 hzf, List.flatMap_nil, List.append_nil]
              exact hP
            have ePz : Pz z = (decide (m.length < z) && !decide (some z ∈ m)) := by rw [hPz]
            simp only [tLenSetI, cx_K, cx_w, wipe, Int.zero_add, Bool.false_eq_true, if_false, if_true, Bool.not_true, Bool.not_false, tSeq, tAsg, tOp, tVar, tC, tRet, tRetN, tNext, tDrop, tIfS, tB, tTest, tIf, tAnd, tOr, tNot, tAndV, tOrV, tNotV, tUn, tCons, tNil, tCall, tCB, tBM, tBM0, tNoPart, tPart, tSl, tCont, tNever, tTup, tLst, gName, gNil, gCons, gTup, gSub, rI, rI0, rU, rEq, rNe, rIxL, rSlL, rSetL, rLn, rLs, rTs, rIn, rSet0, tSAdd, rSAdd, rSIn, rSNotIn, rRep, rCat, rAppend, rPop, rPopAt, iList, iRng1, iRng2, iEnum, gTup, tIsN, tNotN, tTru, tLstRg, tRg1, tRg2, L2.start, List.map_cons, List.map_nil, List.length_cons, List.length_nil, List.replicate, List.cons_append, List.nil_append, List.getElem?_cons_zero, List.getElem?_cons_succ, List.set_cons_zero, List.set_cons_succ, Option.some.injEq, exists_eq_left', V.int.injEq, V.ref.injEq, V.bl.injEq, List.cons.injEq, exists_and_left, exists_and_right, and_true, true_and, exists_eq_left, exists_eq, Nat.reduceAdd, Nat.reduceSub]
            by_cases h3 : m.length < z
            · rw [decide_eq_true (show (m.length : Int) < (z : Int) by omega)]
              refine iteT ⟨_, .inl (SqL.of (e2 _ _ hda)), rfl, flat_ov _, ?_⟩
              rw [inV_ov]
              by_cases h4 : some z ∈ m
              · rw [decide_eq_true h4]
                exact iteF (hno (by rw [ePz, decide_eq_true h4]; simp))
              · rw [decide_eq_false h4]
                refine iteT (hstep H' f fs _ (some z) (fun p H2 => M3 [some (V.ref t), some (V.ref da), some (nv m.length), some (V.ref p), some (nv z)] H2) e2 hP (lenM i) (vp.take hfree fun j hj => ?_) fun p ps H2 e5 hP5 => ?_)
                · cases hj
                  exact ⟨hzm, h3, fun i hi => h4 (List.mem_of_getElem? hi)⟩
                · show M3 _ _
                  rw [hM3]
                  refine ⟨p, ps, _, rfl, e5, ?_⟩
                  rw [et, f1 (show Pz z = true by rw [ePz, decide_eq_true h3, decide_eq_false h4]; rfl), List.flatMap_cons, List.flatMap_nil, List.append_nil, hF]
                  rw [hF] at hP5
                  exact hP5
            · rw [decide_eq_false (show ¬ (m.length : Int) < (z : Int) by omega)]
              exact iteF (hno (by rw [ePz, decide_eq_false h3]; rfl))
          · obtain ⟨f, fs, y, rfl, e2, hP⟩ := h
            rw [List.length_map, List.take_length] at hP
            show M2 _ _
            rw [hM2]
            exact ⟨f, fs, y, rfl, e2, hP⟩
        · rw [hM2] at hM
          obtain ⟨f, fs, y, rfl, e2, hP⟩ := hM
          simp only [tLenSetI, cx_K, cx_w, wipe, Int.zero_add, Bool.false_eq_true, if_false, if_true, Bool.not_true, Bool.not_false, tSeq, tAsg, tOp, tVar, tC, tRet, tRetN, tNext, tDrop, tIfS, tB, tTest, tIf, tAnd, tOr, tNot, tAndV, tOrV, tNotV, tUn, tCons, tNil, tCall, tCB, tBM, tBM0, tNoPart, tPart, tSl, tCont, tNever, tTup, tLst, gName, gNil, gCons, gTup, gSub, rI, rI0, rU, rEq, rNe, rIxL, rSlL, rSetL, rLn, rLs, rTs, rIn, rSet0, tSAdd, rSAdd, rSIn, rSNotIn, rRep, rCat, rAppend, rPop, rPopAt, iList, iRng1, iRng2, iEnum, gTup, tIsN, tNotN, tTru, tLstRg, tRg1, tRg2, L2.start, List.map_cons, List.map_nil, List.length_cons, List.length_nil, List.replicate, List.cons_append, List.nil_append, List.getElem?_cons_zero, List.getElem?_cons_succ, List.set_cons_zero, List.set_cons_succ, Option.some.injEq, exists_eq_left', V.int.injEq, V.ref.injEq, V.bl.injEq, List.cons.injEq, exists_and_left, exists_and_right, and_true, true_and, exists_eq_left, exists_eq, Nat.reduceAdd, Nat.reduceSub]
          have := lenM (R m.length).length
          rw [List.take_length] at this
          exact hstep H' f fs _ none (fun p H2 => Q (.ref p) H2) e2 hP this (vp.take hfree fun j hj => by cases hj) fun p ps H2 e5 hP5 => q _ p ps e5 hP5
end
end K6g

set_option Elab.async false
set_option linter.all false
set_option maxRecDepth 100000
set_option maxHeartbeats 4000000
namespace K6g
open K6 PySem PySem.Spec PyProof.Rows L2 LamX Bk
section
variable {P : Program} {w : World} {K : PySem.W.Frag} {mg : Str → Option Value} {base : Heap}

def sp_lmut (K : PySem.W.Frag) : Sp := fun vs H Q _ => ∃ (t : Addr) (as : List Addr) (rows : List (List Nat)), vs = [.ref t] ∧ Tbl H t as rows ∧ GL rows ∧ rows.length ≤ 100 ∧
  ∀ H' p as', Same H H' → H p = none → (∀ a ∈ as', H a = none) → Tbl H' p as' (mutL rows) → Q (.ref p) H'
theorem ok_lmut (T : Txt P K mg) : FnOk P w K mg base CX0 1 T.a__law_mutual T.fd__law_mutual ["_law_rows"] (sp_lmut K) := by
  refine T.F__law_mutual.ok sc__law_mutual (fun vs H Q E h => ?_) (fun cdv A outer s H vs Q E hr h => ?_)
  · obtain ⟨t, as, rows, rfl, _⟩ := h
    rfl
  · obtain ⟨t, as, rows, rfl, TB, g, hlen, q⟩ := h
    refine ⟨_, (C8.pss_cut (ps_set (i := 1) sc__law_mutual.nd rfl (.inl rfl) (pe_lst pa_nil))
      (C8.pss_cut (ps_for PassesOwn.never rfl (pi_range1 (by rfl) T.m_range (pa_cons (pe_callB (klen (K := K)) (by rfl) T.m_len (by decide +kernel) (pa_cons (pv 0) pa_nil)) pa_nil)) (pg_name (i := 2) sc__law_mutual.nd rfl (.inr rfl)) (pss_one (ps_expr (pe_bm PySem.F.plainAttrs_list PySem.F.slot_list_append PySem.F.type_list_append mt_append (pv 1) (pa_cons (pe_lc (own := [("_law_one", 3)]) rfl sc__law_mutual.nd (kpi_list (K := K) (pe_ix (kix_list (K := K)) (pv 0) (pv 2) (fun _ _ => rfl))) (blkOk_by (own := [("_law_one", 3)]) (N := ["_law_rows", "_law_found", "_law_person", "_law_one"]) (sc := (defScope s__law_mutual)) (by decide +kernel)) (fun _ _ _ _ _ => (pg_name (i := 3) sc__law_mutual.nd rfl (by first | exact .inl rfl | exact .inr rfl))) (fun _ _ _ _ _ => (pts_one (pt_cmpR (kin (K := K)) (pv 2) (pe_ix (kix_list (K := K)) (pv 0) (pv 3) (fun _ _ => rfl)) rfl))) (fun _ _ _ _ _ => (pv 3))) pa_nil)))))
      (pss_one (ps_ret (pv 1))))), ?_⟩
    simp only [tLenSetI, cx_K, cx_w, wipe, Int.zero_add, Bool.false_eq_true, if_false, if_true, Bool.not_true, Bool.not_false, tSeq, tAsg, tOp, tVar, tC, tRet, tRetN, tNext, tDrop, tIfS, tB, tTest, tIf, tAnd, tOr, tNot, tAndV, tOrV, tNotV, tUn, tCons, tNil, tCall, tCB, tBM, tBM0, tNoPart, tPart, tSl, tCont, tNever, tTup, tLst, gName, gNil, gCons, gTup, gSub, rI, rI0, rU, rEq, rNe, rIxL, rSlL, rSetL, rLn, rLs, rTs, rIn, rSet0, tSAdd, rSAdd, rSIn, rSNotIn, rRep, rCat, rAppend, rPop, rPopAt, iList, iRng1, iRng2, iEnum, gTup, tIsN, tNotN, tTru, tLstRg, tRg1, tRg2, L2.start, List.map_cons, List.map_nil, List.length_cons, List.length_nil, List.replicate, List.cons_append, List.nil_append, List.getElem?_cons_zero, List.getElem?_cons_succ, List.set_cons_zero, List.set_cons_succ, Option.some.injEq, exists_eq_left', V.int.injEq, V.ref.injEq, V.bl.injEq, List.cons.injEq, exists_and_left, exists_and_right, and_true, true_and, exists_eq_left, exists_eq, Nat.reduceAdd, Nat.reduceSub]
    refine ⟨fun σ H' => ∃ f, H f = none ∧ H' = upd H f (.lst []) ∧ σ = [some (.ref t), some (.ref f), none, none], ?_, fun σ H' hM => ?_⟩
    · simp only [tLenSetI, cx_K, cx_w, wipe, Int.zero_add, Bool.false_eq_true, if_false, if_true, Bool.not_true, Bool.not_false, tSeq, tAsg, tOp, tVar, tC, tRet, tRetN, tNext, tDrop, tIfS, tB, tTest, tIf, tAnd, tOr, tNot, tAndV, tOrV, tNotV, tUn, tCons, tNil, tCall, tCB, tBM, tBM0, tNoPart, tPart, tSl, tCont, tNever, tTup, tLst, gName, gNil, gCons, gTup, gSub, rI, rI0, rU, rEq, rNe, rIxL, rSlL, rSetL, rLn, rLs, rTs, rIn, rSet0, tSAdd, rSAdd, rSIn, rSNotIn, rRep, rCat, rAppend, rPop, rPopAt, iList, iRng1, iRng2, iEnum, gTup, tIsN, tNotN, tTru, tLstRg, tRg1, tRg2, L2.start, List.map_cons, List.map_nil, List.length_cons, List.length_nil, List.replicate, List.cons_append, List.nil_append, List.getElem?_cons_zero, List.getElem?_cons_succ, List.set_cons_zero, List.set_cons_succ, Option.some.injEq, exists_eq_left', V.int.injEq, V.ref.injEq, V.bl.injEq, List.cons.injEq, exists_and_left, exists_and_right, and_true, true_and, exists_eq_left, exists_eq, Nat.reduceAdd, Nat.reduceSub]
      exact ⟨Nat.zero_le _, fun f hf => ⟨f, hf, rfl, rfl⟩⟩
    obtain ⟨f, hf, rfl, rfl⟩ := hM
    have s0 : Same H (upd H f (.lst [])) := same_upd hf
    refine ⟨fun σ H' => ∃ as', σ[1]? = some (some (.ref f)) ∧ Same H H' ∧ (∀ a ∈ as', H a = none) ∧ Tbl H' f as' (mutL rows), ?_, fun σ H' hM => ?_⟩
    · refine ⟨_, rfl, t, _, rfl, .inl (SqL.of (s0 _ _ TB.top)), _, rfl, (z62 (by rw [List.length_map, TB.len]; omega)).1, (z62 (by rw [List.length_map, TB.len]; omega)).2,
        for_rng rows.length (by rw [toNat_len, List.length_map, TB.len]) (fun i σ H' => ∃ y as', σ = [some (.ref t), some (.ref f), y, none] ∧ Same H H' ∧ (∀ a ∈ as', H a = none) ∧ Tbl H' f as' ((mutL rows).take i))
          ⟨none, [], rfl, s0, (fun a ha => by simp at ha), by rw [List.take_zero]; exact Tbl.nil upd_same⟩ (fun i σ H' hi h => ?_) (fun σ H' h => ?_)⟩
      · obtain ⟨y, as', rfl, e, hn, TF⟩ := h
        obtain ⟨a, ha, hrow, hat, ham⟩ := (TB.same e).at hi
        simp only [tLenSetI, cx_K, cx_w, wipe, Int.zero_add, Bool.false_eq_true, if_false, if_true, Bool.not_true, Bool.not_false, tSeq, tAsg, tOp, tVar, tC, tRet, tRetN, tNext, tDrop, tIfS, tB, tTest, tIf, tAnd, tOr, tNot, tAndV, tOrV, tNotV, tUn, tCons, tNil, tCall, tCB, tBM, tBM0, tNoPart, tPart, tSl, tCont, tNever, tTup, tLst, gName, gNil, gCons, gTup, gSub, rI, rI0, rU, rEq, rNe, rIxL, rSlL, rSetL, rLn, rLs, rTs, rIn, rSet0, tSAdd, rSAdd, rSIn, rSNotIn, rRep, rCat, rAppend, rPop, rPopAt, iList, iRng1, iRng2, iEnum, gTup, tIsN, tNotN, tTru, tLstRg, tRg1, tRg2, L2.start, List.map_cons, List.map_nil, List.length_cons, List.length_nil, List.replicate, List.cons_append, List.nil_append, List.getElem?_cons_zero, List.getElem?_cons_succ, List.set_cons_zero, List.set_cons_succ, Option.some.injEq, exists_eq_left', V.int.injEq, V.ref.injEq, V.bl.injEq, List.cons.injEq, exists_and_left, exists_and_right, and_true, true_and, exists_eq_left, exists_eq, Nat.reduceAdd, Nat.reduceSub]
        refine ⟨.inl ⟨rfl, _, .inl (.inl TF.top)⟩, ?_⟩
        refine ⟨_, rfl, _, rfl, t, _, _, _, rfl, rfl, SqL.of (e _ _ TB.top), Tbl.atI TB ha, a, rfl, ⟨_, SqL.of hrow⟩, fun D hD => lc_keep (r := fn rows i) (fun o => decide (i ∈ fn rows o)) hD (SqL.of hrow) (by simp) (by have := g.len i; omega) (fun x hx H3 Qt e3 hq => ?_) ?_⟩
        · obtain ⟨b, hb, hrb, _, _⟩ := ((TB.same e).same e3).at (g.lt hx).2.1
          simp only [tLenSetI, cx_K, cx_w, wipe, Int.zero_add, Bool.false_eq_true, if_false, if_true, Bool.not_true, Bool.not_false, tSeq, tAsg, tOp, tVar, tC, tRet, tRetN, tNext, tDrop, tIfS, tB, tTest, tIf, tAnd, tOr, tNot, tAndV, tOrV, tNotV, tUn, tCons, tNil, tCall, tCB, tBM, tBM0, tNoPart, tPart, tSl, tCont, tNever, tTup, tLst, gName, gNil, gCons, gTup, gSub, rI, rI0, rU, rEq, rNe, rIxL, rSlL, rSetL, rLn, rLs, rTs, rIn, rSet0, tSAdd, rSAdd, rSIn, rSNotIn, rRep, rCat, rAppend, rPop, rPopAt, iList, iRng1, iRng2, iEnum, gTup, tIsN, tNotN, tTru, tLstRg, tRg1, tRg2, L2.start, List.map_cons, List.map_nil, List.length_cons, List.length_nil, List.replicate, List.cons_append, List.nil_append, List.getElem?_cons_zero, List.getElem?_cons_succ, List.set_cons_zero, List.set_cons_succ, Option.some.injEq, exists_eq_left', V.int.injEq, V.ref.injEq, V.bl.injEq, List.cons.injEq, exists_and_left, exists_and_right, and_true, true_and, exists_eq_left, exists_eq, Nat.reduceAdd, Nat.reduceSub]
          refine ⟨_, SqL.of (e3 _ _ (e _ _ TB.top)), _, Tbl.atI TB hb, _, rfl, _, .inl (SqL.of hrb), rfl, flat_nv _, ?_⟩
          rw [inV_nv]
          exact hq
        · have nfD : f ≠ D := ne_of_none TF.top hD
          have hDa := (TF.fresh hD).1
          refine ⟨as'.map V.ref, by rw [upd_ne nfD]; exact TF.top, ?_, ?_, as' ++ [D], fun a ha => ?_, ?_⟩
          · rw [List.length_map, TF.len]
            exact small (by rw [List.length_take]; omega)
          · intro b o ho
            rw [upd_ne (ne_of_none ho hf), upd_ne (ne_of_none ho (e.free hD))]
            exact e b o ho
          · rcases List.mem_append.mp ha with z | z
            · exact hn a z
            · have : a = D := by simpa using z
              subst this
              exact e.free hD
          · have et : (mutL rows).take (i + 1) = (mutL rows).take i ++ [mutF rows i] := by rw [List.take_add_one, mutL_at hi]; rfl
            rw [et]
            have := (TF.upd_new (o := .lst ((mutF rows i).map nv)) hD).snoc (a := D) (r := mutF rows i) upd_same (Ne.symm nfD) hDa
            rw [List.map_append] at this
            exact this
      · obtain ⟨y, as', rfl, e, hn, TF⟩ := h
        rw [List.take_of_length_le (by rw [mutL_len]; exact Nat.le_refl _)] at TF
        exact ⟨as', rfl, e, hn, TF⟩
    · obtain ⟨as', e1, e, hn, TF⟩ := hM
      exact ⟨_, e1, q H' f as' e hf hn TF⟩
end
end K6g

set_option Elab.async false
set_option linter.all false
set_option maxRecDepth 100000
set_option maxHeartbeats 4000000
namespace K6g
open K6 PySem PySem.Spec PyProof.Rows L2 LamX Bk
section
variable {P : Program} {w : World} {K : PySem.W.Frag} {mg : Str → Option Value} {base : Heap}

def sp_lspoil (K : PySem.W.Frag) : Sp := fun vs H Q _ => ∃ (t pa : Addr) (as : List Addr) (n : Nat) (R : Nat → List Nat) (m : List (Option Nat)), vs = [.ref t, .ref pa] ∧ Tbl H t as (mkL n R) ∧ H pa = some (.lst (m.map ov)) ∧ m.length = n ∧ n ≤ 100 ∧
  ∀ H' D, Same H H' → H D = none → PairsAt H' D (spL n R m n) → Q (.ref D) H'
theorem ok_lspoil (T : Txt P K mg) : FnOk P w K mg base CX0 2 T.a__law_spoilers T.fd__law_spoilers ["_law_rows", "_law_pairing"] (sp_lspoil K) := by
  have G__law_better : FnOk P w K mg base CX0 1 T.a__law_better T.fd__law_better ["_law_row", "_law_one", "_law_other"] (sp_better K) := ok_better T
  refine T.F__law_spoilers.ok sc__law_spoilers (fun vs H Q E h => ?_) (fun cdv A outer s H vs Q E hr h => ?_)
  · obtain ⟨t, pa, as, n, R, m, rfl, _⟩ := h
    rfl
  · obtain ⟨t, pa, as, n, R, m, rfl, TB, hpa, hm, hn, q⟩ := h
    refine ⟨_, (C8.pss_cut (ps_set (i := 2) sc__law_spoilers.nd rfl (.inl rfl) (pe_lst pa_nil))
      (C8.pss_cut (ps_for PassesOwn.never rfl (pi_range1 (by rfl) T.m_range (pa_cons (pe_callB (klen (K := K)) (by rfl) T.m_len (by decide +kernel) (pa_cons (pv 0) pa_nil)) pa_nil)) (pg_name (i := 3) sc__law_spoilers.nd rfl (.inl rfl)) (pss_one (ps_for PassesOwn.never rfl (pi_range2 (by rfl) T.m_range (pa_cons (pe_op op_add (pv 3) pe_int) (pa_cons (pe_callB (klen (K := K)) (by rfl) T.m_len (by decide +kernel) (pa_cons (pv 0) pa_nil)) pa_nil))) (pg_name (i := 4) sc__law_spoilers.nd rfl (.inl rfl)) (pss_one (ps_if (PW.pt (pw_and (pt_val (pe_call G__law_better (hr.mono (by decide)) (by rfl) T.g__law_better T.F__law_better.kp T.b__law_better .nil pass0 (pa_cons (pe_ix (kix_list (K := K)) (pv 0) (pv 3) (fun _ _ => rfl)) (pa_cons (pv 4) (pa_cons (pe_ix (kix_list (K := K)) (pv 1) (pv 3) (fun _ _ => rfl)) pa_nil))))) (pw_and1 (pt_val (pe_call G__law_better (hr.mono (by decide)) (by rfl) T.g__law_better T.F__law_better.kp T.b__law_better .nil pass0 (pa_cons (pe_ix (kix_list (K := K)) (pv 0) (pv 4) (fun _ _ => rfl)) (pa_cons (pv 3) (pa_cons (pe_ix (kix_list (K := K)) (pv 1) (pv 4) (fun _ _ => rfl)) pa_nil)))))))) (pss_one (ps_if (pt_cmpR op_ne (pe_ix (kix_list (K := K)) (pv 1) (pv 3) (fun _ _ => rfl)) (pv 4) (nomark _)) (pss_one (ps_expr (pe_bm PySem.F.plainAttrs_list PySem.F.slot_list_append PySem.F.type_list_append mt_append (pv 2) (pa_cons (pe_tup (pa_cons (pv 3) (pa_cons (pv 4) pa_nil))) pa_nil)))) pss_nil)) pss_nil)))))
      (pss_one (ps_ret (pv 2))))), ?_⟩
    refine ⟨fun σ H' => ∃ D, H D = none ∧ H' = upd H D (.lst []) ∧ σ = [some (.ref t), some (.ref pa), some (.ref D), none, none], ?_, fun σ H' hM => ?_⟩
    · simp only [tLenSetI, cx_K, cx_w, wipe, Int.zero_add, Bool.false_eq_true, if_false, if_true, Bool.not_true, Bool.not_false, tSeq, tAsg, tOp, tVar, tC, tRet, tRetN, tNext, tDrop, tIfS, tB, tTest, tIf, tAnd, tOr, tNot, tAndV, tOrV, tNotV, tUn, tCons, tNil, tCall, tCB, tBM, tBM0, tNoPart, tPart, tSl, tCont, tNever, tTup, tLst, gName, gNil, gCons, gTup, gSub, rI, rI0, rU, rEq, rNe, rIxL, rSlL, rSetL, rLn, rLs, rTs, rIn, rSet0, tSAdd, rSAdd, rSIn, rSNotIn, rRep, rCat, rAppend, rPop, rPopAt, iList, iRng1, iRng2, iEnum, gTup, tIsN, tNotN, tTru, tLstRg, tRg1, tRg2, L2.start, List.map_cons, List.map_nil, List.length_cons, List.length_nil, List.replicate, List.cons_append, List.nil_append, List.getElem?_cons_zero, List.getElem?_cons_succ, List.set_cons_zero, List.set_cons_succ, Option.some.injEq, exists_eq_left', V.int.injEq, V.ref.injEq, V.bl.injEq, List.cons.injEq, exists_and_left, exists_and_right, and_true, true_and, exists_eq_left, exists_eq, Nat.reduceAdd, Nat.reduceSub]
      exact ⟨Nat.zero_le _, fun f hf => ⟨f, hf, rfl, rfl⟩⟩
    obtain ⟨D, hD, rfl, rfl⟩ := hM
    obtain ⟨M, hMd⟩ : ∃ M : L2.St → Hp → Prop, M = (fun σ H2 => Same H H2 ∧ PairsAt H2 D (spL n R m n) ∧ σ[2]? = some (some (.ref D))) := ⟨_, rfl⟩
    refine ⟨M, ?_, fun σ H' hM => ?_⟩
    · refine ⟨_, rfl, t, _, rfl, .inl (SqL.of (same_upd hD _ _ TB.top)), _, rfl, (z62 (by rw [List.length_map, TB.len, mkL_len]; omega)).1, (z62 (by rw [List.length_map, TB.len, mkL_len]; omega)).2,
        for_rng n (by rw [toNat_len, List.length_map, TB.len, mkL_len]) (fun i σ H' => ∃ y1 y2, σ = [some (.ref t), some (.ref pa), some (.ref D), y1, y2] ∧ Same H H' ∧ PairsAt H' D (spL n R m i)) ⟨none, none, rfl, same_upd hD, .nil upd_same⟩ (fun i σ H' hi h => ?_) (fun σ H' h => ?_)⟩
      · obtain ⟨y1, y2, rfl, e, hP⟩ := h
        obtain ⟨M2, hM2⟩ : ∃ M2 : L2.St → Hp → Prop, M2 = (fun σ H' => ∃ y1 y2, σ = [some (V.ref t), some (V.ref pa), some (V.ref D), y1, y2] ∧ Same H H' ∧ PairsAt H' D (spL n R m (i + 1))) := ⟨_, rfl⟩
        rw [← hM2]
        have hl : ((as.map V.ref).length : Int) = (n : Int) := by rw [List.length_map, TB.len, mkL_len]
        refine ⟨.int (0 + (i : Int)), rfl, 0 + (i : Int), 1, rfl, rfl, .ref t, rfl, t, _, rfl, .inl (SqL.of (e _ _ TB.top)), _, _, rfl, ⟨by omega, by omega, by omega, by omega⟩,
          for_rng (n - (i + 1)) (by omega) (fun j σ H' => ∃ y2, σ = [some (.ref t), some (.ref pa), some (.ref D), some (nv i), y2] ∧ Same H H' ∧ PairsAt H' D (spL n R m i ++ spRow R m i (i + 1) j)) ⟨y2, by show [_, _, _, some (V.int (0 + (i : Int))), _] = _; rw [Int.zero_add], e, by rw [show spRow R m i (i + 1) 0 = [] from rfl, List.append_nil]; exact hP⟩ (fun j σ H' hj h => ?_) (fun σ H' h => ?_)⟩
        · clear e hP
          obtain ⟨y2, rfl, e, hP⟩ := h
          have ej : (0 : Int) + (i : Int) + 1 + (j : Int) = ((i + 1 + j : Nat) : Int) := by omega
          rw [ej]
          obtain ⟨z, hz⟩ : ∃ z, z = i + 1 + j := ⟨_, rfl⟩
          rw [← hz]
          have hzn : z < n := by omega
          obtain ⟨a, ha, hra, _, _⟩ := (TB.same e).at (show i < (mkL n R).length by rw [mkL_len]; exact hi)
          obtain ⟨b, hb, hrb, _, _⟩ := (TB.same e).at (show z < (mkL n R).length by rw [mkL_len]; exact hzn)
          rw [fn_mkL hi] at hra
          rw [fn_mkL hzn] at hrb
          obtain ⟨M3, hM3⟩ : ∃ M3 : L2.St → Hp → Prop, M3 = (fun σ H' => ∃ y2, σ = [some (V.ref t), some (V.ref pa), some (V.ref D), some (nv i), y2] ∧ Same H H' ∧ PairsAt H' D (spL n R m i ++ spRow R m i (i + 1) (j + 1))) := ⟨_, rfl⟩
          rw [← hM3]
          simp only [tLenSetI, cx_K, cx_w, wipe, Int.zero_add, Bool.false_eq_true, if_false, if_true, Bool.not_true, Bool.not_false, tSeq, tAsg, tOp, tVar, tC, tRet, tRetN, tNext, tDrop, tIfS, tB, tTest, tIf, tAnd, tOr, tNot, tAndV, tOrV, tNotV, tUn, tCons, tNil, tCall, tCB, tBM, tBM0, tNoPart, tPart, tSl, tCont, tNever, tTup, tLst, gName, gNil, gCons, gTup, gSub, rI, rI0, rU, rEq, rNe, rIxL, rSlL, rSetL, rLn, rLs, rTs, rIn, rSet0, tSAdd, rSAdd, rSIn, rSNotIn, rRep, rCat, rAppend, rPop, rPopAt, iList, iRng1, iRng2, iEnum, gTup, tIsN, tNotN, tTru, tLstRg, tRg1, tRg2, L2.start, List.map_cons, List.map_nil, List.length_cons, List.length_nil, List.replicate, List.cons_append, List.nil_append, List.getElem?_cons_zero, List.getElem?_cons_succ, List.set_cons_zero, List.set_cons_succ, Option.some.injEq, exists_eq_left', V.int.injEq, V.ref.injEq, V.bl.injEq, List.cons.injEq, exists_and_left, exists_and_right, and_true, true_and, exists_eq_left, exists_eq, Nat.reduceAdd, Nat.reduceSub]
          have Sp : SqL K H' pa (m.map ov) := SqL.of (e _ _ hpa)
          have at_i : atI (m.map ov) (i : Int) = some (ov (mO m i)) := atI_nat (by rw [List.getElem?_map, mO_at (by omega)]; rfl)
          have at_z : atI (m.map ov) (z : Int) = some (ov (mO m z)) := atI_nat (by rw [List.getElem?_map, mO_at (by omega)]; rfl)
          have hno : spB R m i z = false → M3 [some (.ref t), some (.ref pa), some (.ref D), some (nv i), some (nv z)] H' := fun hb => by
            rw [hM3]
            refine ⟨_, rfl, e, ?_⟩
            rw [spRow_succ, ← hz, hb]
            exact hP
          refine ⟨_, SqL.of (e _ _ TB.top), _, Tbl.atI TB ha, _, Sp, _, at_i, a, R i, z, mO m i, rfl, hra, _, rfl, ?_⟩
          cases hb1 : betterF (R i) z (mO m i) with
          | false => exact iteF (hno (by unfold spB; rw [hb1]; rfl))
          | true =>
            refine iteT ⟨_, SqL.of (e _ _ TB.top), _, Tbl.atI TB hb, _, Sp, _, at_z, b, R z, i, mO m z, rfl, hrb, _, rfl, ?_⟩
            cases hb2 : betterF (R z) i (mO m z) with
            | false => exact iteF (hno (by unfold spB; rw [hb1, hb2]; rfl))
            | true =>
              refine iteT ⟨_, Sp, _, at_i, scal_ov _ _, ?_⟩
              by_cases hb3 : mO m i = some z
              · rw [ov_eq, decide_eq_true hb3]
                exact iteF (hno (by unfold spB; rw [hb1, hb2, decide_eq_true hb3]; rfl))
              · rw [ov_eq, decide_eq_false hb3]
                have hyes : spB R m i z = true := by unfold spB; rw [hb1, hb2, decide_eq_false hb3]; rfl
                obtain ⟨ps, hps, hl2, h3⟩ := hP.ex
                refine iteT ⟨.inl ⟨rfl, _, SqL.of hps⟩, (by decide), fun T hT => ⟨ps.map V.ref, ?_⟩⟩
                refine ⟨by rw [upd_ne (ne_of_none hps hT)]; exact hps, ?_, ?_⟩
                · rw [List.length_map, hl2, List.length_append]
                  have g1 := spL_len n R m i
                  have g2 := spRow_len R m i (i + 1) j
                  have g3 : i * n ≤ 100 * 100 := Nat.mul_le_mul (by omega) hn
                  exact small (by omega)
                · rw [hM3]
                  refine ⟨_, rfl, fun b o ho => ?_, ?_⟩
                  · rw [upd_ne (ne_of_none ho hD), upd_ne (ne_of_none (e _ _ ho) hT)]
                    exact e b o ho
                  · rw [spRow_succ, ← hz, hyes, if_pos rfl, ← List.append_assoc]
                    exact pairs_snoc hps hl2 h3 hT
        · obtain ⟨y2, rfl, e, hP⟩ := h
          show M2 _ _
          rw [hM2]
          exact ⟨_, _, rfl, e, by rw [spL_succ]; exact hP⟩
      · obtain ⟨y1, y2, rfl, e, hP⟩ := h
        rw [hMd]
        exact ⟨e, hP, rfl⟩
    · rw [hMd] at hM
      obtain ⟨e, hP, hσ⟩ := hM
      exact ⟨_, hσ, q H' D e hD hP⟩
end
end K6g

set_option Elab.async false
set_option linter.all false
/-! What was told of rings, kept and compared. -/
namespace Bk
open PySem PySem.Spec PyProof.Rows L2 LamX
abbrev RD1 := List (Nat × Nat) × List (List Nat)
structure KeptAt (F : Addr → Prop) (H : Hp) (D : Addr) (data : List RD1) : Prop where
  ex : ∃ us : List Addr, H D = some (.lst (us.map V.ref)) ∧ us.length = data.length ∧ ∀ (j : Nat) (u : Addr) (d : RD1), us[j]? = some u → data[j]? = some d → ∃ r t as, H u = some (.tup [.ref r, .ref t]) ∧ PairsAt H r d.1 ∧ Tbl H t as d.2 ∧ (r ≠ D ∧ t ≠ D ∧ D ∉ as) ∧ F r ∧ F t ∧ ∀ a ∈ as, F a
theorem KeptAt.grow {F : Addr → Prop} {H H' : Hp} {D : Addr} {data : List RD1} (h : KeptAt F H D data) (e : Grow H H') : KeptAt F H' D data := by
  obtain ⟨us, h1, h2, h3⟩ := h.ex
  refine ⟨us, e.lst h1, h2, fun j u d a b => ?_⟩
  obtain ⟨r, t, as, k1, k2, k3, k4⟩ := h3 j u d a b
  exact ⟨r, t, as, e.tup k1, k2.grow e, k3.grow e, k4⟩
theorem KeptAt.nil {F : Addr → Prop} {H : Hp} {D : Addr} (h : H D = some (.lst [])) : KeptAt F H D [] := ⟨[], h, rfl, fun j u d a => by simp at a⟩
/-- what is told of all rings -/
noncomputable def toldD (n : Nat) (C : Nat → List Nat) (pss : List (List Nat)) : List RD1 := (List.range pss.length).map fun j => ((pss.getD j []).map fun p => (p, best (after C (pss.take j)) p), mkL n (after C (pss.take (j + 1))))
theorem toldD_len (n : Nat) (C : Nat → List Nat) (pss : List (List Nat)) : (toldD n C pss).length = pss.length := by simp [toldD]
theorem toldD_at {n : Nat} {C : Nat → List Nat} {pss : List (List Nat)} {j : Nat} {ps : List Nat} (h : pss[j]? = some ps) : (toldD n C pss)[j]? = some (ps.map fun p => (p, best (after C (pss.take j)) p), mkL n (after C (pss.take (j + 1)))) := by
  have hj := (List.getElem?_eq_some_iff.mp h).1
  unfold toldD
  rw [List.getElem?_map, List.getElem?_range hj, Option.map_some, List.getD_eq_getElem?_getD, h]
  rfl
def dRing1 (d : RD1) : PyData := .tuple [dPairs d.1, dTbl d.2]
def dRings (data : List RD1) : PyData := .list (data.map dRing1)
theorem dp_kept {F : Addr → Prop} {K : PySem.W.Frag} {H : Hp} {D : Addr} {data : List RD1} (h : KeptAt F H D data) : Dp K H (.ref D) (dRings data) := by
  obtain ⟨as, h1, h2, h3⟩ := h.ex
  refine .lst (SqL.of h1) ?_
  have g : ∀ (l : List Addr) (rs : List RD1), l.length = rs.length → (∀ (i : Nat) (a : Addr) (p : RD1), l[i]? = some a → rs[i]? = some p → ∃ r t as, H a = some (.tup [.ref r, .ref t]) ∧ PairsAt H r p.1 ∧ Tbl H t as p.2 ∧ (r ≠ D ∧ t ≠ D ∧ D ∉ as) ∧ F r ∧ F t ∧ ∀ a ∈ as, F a) → DpAll K H (l.map V.ref) (rs.map dRing1) := fun l => by
    induction l with
    | nil => intro rs e _; cases rs with
      | nil => exact .nil
      | cons _ _ => simp at e
    | cons a l ih =>
      intro rs e hr
      cases rs with
      | nil => simp at e
      | cons r rs =>
        obtain ⟨r', t, as, k1, k2, k3, _⟩ := hr 0 a r rfl rfl
        exact .cons (.tup (SqT.of k1) (.cons (dp_pairs k2) (.cons (dp_tbl k3) .nil))) (ih rs (by simpa using e) fun i b q h1 h2 => hr (i + 1) b q (by simpa using h1) (by simpa using h2))
  exact g as data h2 h3
theorem lay_pairs (ps : List (Nat × Nat)) : PyData.canLay0 (dPairs ps) = true ∧ PyData.depth (dPairs ps) ≤ 2 := by
  have h : PyData.canLayAll0 (ps.map fun p => .tuple [.int p.1, .int p.2]) = true ∧ PyData.depthAll (ps.map fun p => .tuple [.int p.1, .int p.2]) ≤ 1 := by
    induction ps with
    | nil => simp [PyData.canLayAll0, PyData.depthAll]
    | cons r rs ih =>
      simp only [List.map_cons, PyData.canLayAll0, PyData.depthAll, PyData.canLay0, PyData.depth, ih.1]
      refine ⟨by simp, by have := ih.2; omega⟩
  unfold dPairs
  simp only [PyData.canLay0, PyData.depth, h.1]
  exact ⟨trivial, by have := h.2; omega⟩
theorem lay_tbl (rows : List (List Nat)) : PyData.canLay0 (dTbl rows) = true ∧ PyData.depth (dTbl rows) ≤ 2 := by
  have h : ∀ rs : List (List Nat), PyData.canLayAll0 (rs.map dRow) = true ∧ PyData.depthAll (rs.map dRow) ≤ 1 := fun rs => by
    induction rs with
    | nil => simp [PyData.canLayAll0, PyData.depthAll]
    | cons r rs ih =>
      have := lay_ints (r.map Int.ofNat)
      simp only [List.map_cons, PyData.canLayAll0, PyData.depthAll, dRow, PyData.canLay0, PyData.depth, this.1, this.2, ih.1]
      exact ⟨rfl, by omega⟩
  have := h rows
  unfold dTbl
  simp only [PyData.canLay0, PyData.depth, this.1]
  exact ⟨trivial, by omega⟩
theorem shaped_rings (data : List RD1) : SeqAt.shaped (dRings data) = true := by
  have h : ∀ rs : List RD1, PyData.canLayAll0 (rs.map dRing1) = true ∧ PyData.depthAll (rs.map dRing1) ≤ 3 := fun rs => by
    induction rs with
    | nil => simp [PyData.canLayAll0, PyData.depthAll]
    | cons r rs ih =>
      have h1 := lay_pairs r.1
      have h2 := lay_tbl r.2
      simp only [List.map_cons, PyData.canLayAll0, PyData.depthAll, dRing1, PyData.canLay0, PyData.depth, h1.1, h2.1, ih.1]
      refine ⟨rfl, ?_⟩
      have := h1.2
      have := h2.2
      have := ih.2
      omega
  have := h data
  unfold SeqAt.shaped dRings
  simp only [PyData.canLay0, PyData.depth, this.1, Bool.true_and]
  exact decide_eq_true (by omega)
theorem eqv_rings (data : List RD1) : PyData.eqv (dRings data) (dRings data) = true := by
  unfold dRings
  simp only [PyData.eqv]
  induction data with
  | nil => rfl
  | cons d ds ih =>
    simp only [List.map_cons, PyData.eqvAll, dRing1, PyData.eqv, ih, eqv_pairs, eqv_tbl]
    simp
theorem eq_kept {F F' : Addr → Prop} {K : PySem.W.Frag} {H : Hp} {a b : Addr} {data : List RD1} {Q : VK} (h : KeptAt F H a data) (h' : KeptAt F' H b data) (q : Q (.bl true) H) : rEqD K (.ref a) (.ref b) H Q :=
  ⟨dRings data, dRings data, dp_kept h, dp_kept h', shaped_rings data, shaped_rings data, by rw [eqv_rings]; exact q⟩
/-- one more is kept -/
theorem KeptAt.snoc {F : Addr → Prop} {H : Hp} {D u r t : Addr} {data : List RD1} {d : RD1} {as : List Addr} (h : KeptAt F H D data) (hu : H u = none) (hr : PairsAt H r d.1) (ht : Tbl H t as d.2) (nr : r ≠ D) (nt : t ≠ D) (na : D ∉ as) (fr : F r) (ft : F t) (fa : ∀ a ∈ as, F a) :
    ∃ us : List Addr, H D = some (.lst (us.map V.ref)) ∧ us.length = data.length ∧ KeptAt F (upd (upd H u (.tup [.ref r, .ref t])) D (.lst (us.map V.ref ++ [.ref u]))) D (data ++ [d]) := by
  obtain ⟨us, h1, h2, h3⟩ := h.ex
  refine ⟨us, h1, h2, us ++ [u], by rw [upd_same, List.map_append]; rfl, by simp [h2], ?_⟩
  have hDu : u ≠ D := fun z => by rw [z, h1] at hu; cases hu
  have kt : ∀ b xs, H b = some (.tup xs) → upd (upd H u (.tup [.ref r, .ref t])) D (.lst (us.map V.ref ++ [.ref u])) b = some (.tup xs) := fun b xs hb => by
    rw [upd_ne (fun z => by rw [z, h1] at hb; cases hb), upd_ne (ne_of_none hb hu)]
    exact hb
  have kk : ∀ b, b ≠ D → (∃ xs, H b = some (.lst xs)) → upd (upd H u (.tup [.ref r, .ref t])) D (.lst (us.map V.ref ++ [.ref u])) b = H b := fun b hb ⟨xs, hx⟩ => by
    rw [upd_ne hb, upd_ne (ne_of_none hx hu)]
  have kT : ∀ (t2 : Addr) (as2 : List Addr) (rows : List (List Nat)), Tbl H t2 as2 rows → t2 ≠ D → D ∉ as2 → Tbl (upd (upd H u (.tup [.ref r, .ref t])) D (.lst (us.map V.ref ++ [.ref u]))) t2 as2 rows := fun t2 as2 rows T n1 n2 => by
    refine T.keep (kk _ n1 ⟨_, T.top⟩) fun a ha => kk a (fun z => n2 (z ▸ ha)) ?_
    obtain ⟨i, hi⟩ := List.mem_iff_getElem?.mp ha
    have hin : i < rows.length := by
      have := (List.getElem?_eq_some_iff.mp hi).1
      rw [T.len] at this; exact this
    exact ⟨_, T.row i a _ hi (fn_at hin)⟩
  have kP : ∀ (r2 : Addr) (ps : List (Nat × Nat)), PairsAt H r2 ps → r2 ≠ D → PairsAt (upd (upd H u (.tup [.ref r, .ref t])) D (.lst (us.map V.ref ++ [.ref u]))) r2 ps := fun r2 ps hP n1 => by
    obtain ⟨_, q, _⟩ := hP.ex
    exact hP.keep (kk _ n1 ⟨_, q⟩) kt
  intro j u' d' e1 e2
  by_cases hj : j < us.length
  · rw [List.getElem?_append_left hj] at e1
    rw [List.getElem?_append_left (by omega)] at e2
    obtain ⟨r', t', as', k1, k2, k3, ⟨k4, k5, k6⟩, k7⟩ := h3 j u' d' e1 e2
    exact ⟨r', t', as', kt _ _ k1, kP _ _ k2 k4, kT _ _ _ k3 k5 k6, ⟨k4, k5, k6⟩, k7⟩
  · have hjl : j = us.length := by
      have := (List.getElem?_eq_some_iff.mp e1).1
      rw [List.length_append, List.length_singleton] at this
      omega
    subst hjl
    rw [List.getElem?_append_right (Nat.le_refl _), Nat.sub_self] at e1
    rw [List.getElem?_append_right (by omega), h2, Nat.sub_self] at e2
    simp at e1 e2
    subst e1 e2
    exact ⟨r, t, as, by rw [upd_ne hDu, upd_same], kP _ _ hr nr, kT _ _ _ ht nt na, ⟨nr, nt, na⟩, fr, ft, fa⟩
/-- lists of another kind may change -/
theorem KeptAt.but {F : Addr → Prop} {H H' : Hp} {D : Addr} {data : List RD1} (h : KeptAt F H D data) (k1 : ∀ b xs, H b = some (.tup xs) → H' b = some (.tup xs)) (k2 : ∀ b, F b → ∀ o, H b = some o → H' b = some o) (k3 : F D) : KeptAt F H' D data := by
  obtain ⟨us, h1, h2, h3⟩ := h.ex
  refine ⟨us, k2 D k3 _ h1, h2, fun j u d a b => ?_⟩
  obtain ⟨r, t, as, c1, c2, c3, c4, f1, f2, f3⟩ := h3 j u d a b
  obtain ⟨bs, d1, d2, d3⟩ := c2.ex
  exact ⟨r, t, as, k1 _ _ c1, ⟨bs, k2 _ f1 _ d1, d2, fun i a' p e1 e2 => k1 _ _ (d3 i a' p e1 e2)⟩, ⟨k2 _ f2 _ c3.top, c3.len, c3.nd, c3.out, fun i a' r' e1 e2 => k2 _ (f3 a' (List.mem_of_getElem? e1)) _ (c3.row i a' r' e1 e2)⟩, c4, f1, f2, f3⟩
end Bk
set_option Elab.async false
set_option linter.all false
/-! A table copied by a comprehension of list(row). -/
namespace Bk
open PySem PySem.Spec PyProof.Rows L2 LamX
theorem copy_lc {K : PySem.W.Frag} {σ : L2.St} {H : Hp} {t : Addr} {as : List Addr} {rows : List (List Nat)} {j : Nat} {Qd : Hp → Prop} {D : Addr} (T : Tbl H t as rows) (hj : j < σ.length) (hl : rows.length ≤ 1000) (hD : H D = none)
    (hq : ∀ H' as', Same H H' → (∀ a ∈ as', H a = none) → Tbl H' D as' rows → Qd H') :
    ∃ W : Nat → Nat → Hp → Prop, (∃ m, W 0 m (upd H D (.lst []))) ∧ ∀ i m H', W i m H' →
      ((Itl K t).stop i H' ∧ Qd H') ∨ ((Itl K t).go i H' ∧ ∃ Nx : Hp → Prop, (∀ H', Nx H' → ∃ m', m' < m ∧ W (i + 1) m' H') ∧ ∀ x H2, (Itl K t).yld i H' x H2 → gName j x (wipe σ [j]) H2 fun σ2 H3 => wipe σ2 [j] = wipe σ [j] ∧ tYes σ2 H3 fun b H4 =>
        if b = true then tCB (rLs K) (tCons (tVar j) tNil) σ2 H4 fun y H5 => ∃ acc, H5 D = some (.lst acc) ∧ acc.length < sizeLine ∧ Nx (upd H5 D (.lst (acc ++ [y]))) else Nx H4) := by
  refine lc_list (K := K) (xs := as.map V.ref) (fun i H3 => Same H H3 ∧ ∃ as', (∀ a ∈ as', H a = none) ∧ Tbl H3 D as' (rows.take i))
    ⟨same_upd hD, [], (fun a ha => by simp at ha), Tbl.nil upd_same⟩ (fun i H1 _ h => h.1.seq (SqL.of T.top)) (fun i x H3 hx h => ?_) (fun H1 h => ?_)
  · obtain ⟨e, as', hn, T3⟩ := h
    rw [List.getElem?_map] at hx
    obtain ⟨b, hb, rfl⟩ := Option.map_eq_some_iff.mp hx
    have hi : i < rows.length := by
      have := (List.getElem?_eq_some_iff.mp hb).1
      rw [T.len] at this; exact this
    have hra : H3 b = some (.lst ((fn rows i).map nv)) := e _ _ (T.row i b _ hb (fn_at hi))
    refine ⟨?_, yesI ⟨_, ?_, b, _, rfl, .inl (SqL.of hra), fun d hd => ?_⟩⟩
    · show (((σ.set j none).set j (some (V.ref b))).set j none : L2.St) = σ.set j none
      rw [List.set_set, List.set_set]
    · show ((σ.set j none).set j (some (V.ref b)))[j]? = _
      rw [List.getElem?_set_self (by rw [List.length_set]; exact hj)]
    · have T4 := T3.upd_new (o := .lst ((fn rows i).map nv)) hd
      have fr := T3.fresh hd
      refine ⟨as'.map V.ref, T4.top, ?_, ?_, as' ++ [d], fun b hb => ?_, ?_⟩
      · rw [List.length_map, T3.len, List.length_take]; exact small (by omega)
      · intro b o ho
        rw [upd_ne (ne_of_none ho hD), upd_ne (ne_of_none ho (e.free hd))]
        exact e b o ho
      · rcases List.mem_append.mp hb with z | z
        · exact hn b z
        · have : b = d := by simpa using z
          subst this; exact e.free hd
      · have := T4.snoc (a := d) (r := fn rows i) upd_same fr.2 fr.1
        rw [List.map_append] at this
        rw [List.take_add_one, fn_at hi]
        exact this
  · obtain ⟨e, as', hn, T3⟩ := h
    rw [List.length_map, T.len, List.take_length] at T3
    exact hq H1 as' e hn T3
theorem chain_len {R : Nat → List Nat} {n : Nat} (L : Lists R) (hn : ∀ i x, x ∈ R i → i < n) {C : Nat → List Nat} {pss : List (List Nat)} (h : Chain R n C pss) : pss.length ≤ total n C := by
  induction h with
  | nil l => exact Nat.zero_le _
  | cons d r m e t ih =>
    have := total_out L hn d r (n := n)
    rw [List.length_cons]
    omega
/-- the j-th step -/
theorem chain_at {R : Nat → List Nat} {n : Nat} (L : Lists R) (hn : ∀ i x, x ∈ R i → i < n) {C : Nat → List Nat} {pss : List (List Nat)} (h : Chain R n C pss) : ∀ (j : Nat) (ps : List Nat), pss[j]? = some ps →
    Done R (after C (pss.take j)) ∧ Ring (after C (pss.take j)) ps ∧ (∀ p ∈ ps, At ps 0 ≤ p) ∧ ¬ Emptied n (after C (pss.take j)) (outT (after C (pss.take j)) ps) ∧ after C (pss.take (j + 1)) = outT (after C (pss.take j)) ps ∧ Done R (after C (pss.take (j + 1))) := by
  induction h with
  | nil l => intro j ps e; simp at e
  | @cons C ps' pss d r m e t ih =>
    intro j ps hj
    cases j with
    | zero =>
      have : ps' = ps := by simpa using hj
      subst this
      refine ⟨d, r, m, e, rfl, ?_⟩
      exact out_done L hn d r (not_lost (fun i x hx => hn i x ((d.tab.sub i).subset hx)) e)
    | succ j =>
      rw [List.getElem?_cons_succ] at hj
      exact ih j ps hj
end Bk
set_option Elab.async false
set_option linter.all false
/-! Empty rows, one by one. -/
namespace Bk
open PySem PySem.Spec PyProof.Rows L2
/-- a table of i empty rows, all new -/
def Emp (H : Hp) (D : Addr) (i : Nat) (H2 : Hp) : Prop := ∃ as, (∀ b ∈ as, H b = none) ∧ Same H H2 ∧ Tbl H2 D as (mkL i fun _ => [])
theorem emp_zero {H H1 : Hp} {D : Addr} (e : Same H H1) (hD : H1 D = none) : Emp H D 0 (upd H1 D (.lst [])) := ⟨[], by simp, same_upd2 e (e.free hD), Tbl.nil upd_same⟩
theorem emp_step {H H2 : Hp} {D : Addr} {i : Nat} (hD : H D = none) (h : Emp H D i H2) (hi : i ≤ 1000) {d : Addr} (hd : H2 d = none) : ∃ acc, upd H2 d (.lst []) D = some (.lst acc) ∧ acc.length < sizeLine ∧ Emp H D (i + 1) (upd (upd H2 d (.lst [])) D (.lst (acc ++ [.ref d]))) := by
  obtain ⟨as, hn0, e2, T2⟩ := h
  have T3 := T2.upd_new (o := .lst []) hd
  have nD : d ≠ D := (T2.fresh hd).2
  refine ⟨as.map V.ref, T3.top, ?_, as ++ [d], fun b hb => ?_, ?_, ?_⟩
  · rw [List.length_map, T2.len, mkL_len]; exact small (by omega)
  · rcases List.mem_append.mp hb with z | z
    · exact hn0 b z
    · have : b = d := by simpa using z
      subst this; exact e2.free hd
  · intro b o ho
    rw [upd_ne (ne_of_none ho hD), upd_ne (ne_of_none ho (e2.free hd))]
    exact e2 b o ho
  · have := T3.snoc (a := d) (r := []) (by show upd H2 d _ d = _; rw [upd_same]; rfl) nD (T2.fresh hd).1
    rw [List.map_append] at this
    have e : mkL (i + 1) (fun _ => ([] : List Nat)) = mkL i (fun _ => []) ++ [[]] := by simp [mkL, List.range_succ]
    rw [e]
    exact this
end Bk
set_option Elab.async false
set_option linter.all false
/-! More people whom nobody names. -/
namespace Bk
open PySem PySem.Spec PyProof.Rows L2
theorem fn_pad (rows : List (List Nat)) (k : Nat) : fn (rows ++ List.replicate k []) = fn rows := by
  funext i
  show (rows ++ List.replicate k []).getD i [] = rows.getD i []
  rw [List.getD_eq_getElem?_getD, List.getD_eq_getElem?_getD]
  by_cases h : i < rows.length
  · rw [List.getElem?_append_left h]
  · rw [List.getElem?_append_right (by omega), List.getElem?_replicate, List.getElem?_eq_none (by omega)]
    split <;> rfl
theorem gl_pad {rows : List (List Nat)} (g : GL rows) (k : Nat) : GL (rows ++ List.replicate k []) := by
  refine ⟨fun i r h => ?_⟩
  by_cases hi : i < rows.length
  · rw [List.getElem?_append_left hi] at h
    obtain ⟨h1, h2⟩ := g.ok i r h
    exact ⟨h1, fun x hx => ⟨by rw [List.length_append]; have := (h2 x hx).1; omega, (h2 x hx).2⟩⟩
  · rw [List.getElem?_append_right (by omega), List.getElem?_replicate] at h
    split at h
    · cases h
      exact ⟨List.nodup_nil, fun x hx => by cases hx⟩
    · cases h
theorem mut_pad (rows : List (List Nat)) (k : Nat) : fn (mutL (rows ++ List.replicate k [])) = fn (mutL rows) := by
  funext i
  rw [fn_mutL, fn_mutL]
  unfold mutF
  rw [fn_pad]
theorem take_pad {rows : List (List Nat)} {k j : Nat} (h : rows.length ≤ j) (hk : j ≤ rows.length + k) : (rows ++ List.replicate k []).take j = rows ++ List.replicate (j - rows.length) [] := by
  rw [List.take_append, List.take_of_length_le h, List.take_replicate, Nat.min_eq_left (by omega)]
theorem tbl_pad {H : Hp} {t e p : Addr} {as es : List Addr} {rows : List (List Nat)} {k : Nat} (T : Tbl H t as rows) (TE : Tbl H e es (mkL k fun _ => [])) (hd : ∀ a ∈ es, a ∉ as) (hp : H p = none) : Tbl (upd H p (.lst (as.map V.ref ++ es.map V.ref))) p (as ++ es) (rows ++ List.replicate k []) := by
  have hk : mkL k (fun _ => ([] : List Nat)) = List.replicate k [] := by
    unfold mkL
    refine List.ext_getElem (by simp) fun i h1 h2 => by simp
  rw [hk] at TE
  refine ⟨by rw [upd_same, List.map_append], by rw [List.length_append, List.length_append, T.len, TE.len], ?_, fun z => ?_, fun i a r h1 h2 => ?_⟩
  · rw [List.nodup_append]
    exact ⟨T.nd, TE.nd, fun a ha b hb e => hd b hb (e ▸ ha)⟩
  · rcases List.mem_append.mp z with z | z
    · exact (T.fresh hp).1 z
    · exact (TE.fresh hp).1 z
  · have : RowAt H a r := by
      by_cases hi : i < as.length
      · rw [List.getElem?_append_left hi] at h1
        rw [List.getElem?_append_left (by rw [← T.len]; exact hi)] at h2
        exact T.row i a r h1 h2
      · rw [List.getElem?_append_right (by omega)] at h1
        rw [List.getElem?_append_right (by rw [← T.len]; omega), ← T.len] at h2
        exact TE.row _ a r h1 h2
    exact (same_upd hp) _ _ this
theorem tbl_take {H : Hp} {t p : Addr} {as : List Addr} {rows : List (List Nat)} (T : Tbl H t as rows) (k : Nat) (hp : H p = none) : Tbl (upd H p (.lst ((as.take k).map V.ref))) p (as.take k) (rows.take k) := by
  refine ⟨upd_same, by rw [List.length_take, List.length_take, T.len], T.nd.sublist (List.take_sublist _ _), fun z => (T.fresh hp).1 (List.mem_of_mem_take z), fun i a r h1 h2 => ?_⟩
  rw [List.getElem?_take] at h1 h2
  split at h1
  · rename_i hik
    rw [if_pos hik] at h2
    exact (same_upd hp) _ _ (T.row i a r h1 h2)
  · cases h1
section
variable {R T : Nat → List Nat} {n : Nat}
/-- good pairings are where no odd rings are -/
theorem due_odd (L : Lists R) (lt : ∀ i x, x ∈ R i → i < n ∧ x < n) (l : Last R T) : dueL R n = [] ↔ oddR (hd T) n ≠ [] := by
  have hn : ∀ i x, x ∈ R i → i < n := fun i x h => (lt i x h).1
  constructor
  · intro h ho
    have : halfL n T ∈ dueL R n := (mem_dueL L lt).mpr ⟨halfL_len _ _, half_good L lt l ho⟩
    rw [h] at this
    cases this
  · intro ho
    apply List.eq_nil_iff_forall_not_mem.mpr
    intro m hm
    obtain ⟨_, g⟩ := (mem_dueL L lt).mp hm
    refine ho ((last_few L lt l).mpr fun x => ?_)
    apply Decidable.byContradiction
    intro hx
    exact last_none L hn l (x := x) (by omega) g
theorem due_half (L : Lists R) (lt : ∀ i x, x ∈ R i → i < n ∧ x < n) (l : Last R T) (ho : oddR (hd T) n = []) : halfL n T ∈ dueL R n := (mem_dueL L lt).mpr ⟨halfL_len _ _, half_good L lt l ho⟩
theorem due_alone (L : Lists R) (lt : ∀ i x, x ∈ R i → i < n ∧ x < n) (l : Last R T) {m : Pg} (hm : m ∈ dueL R n) (p : Nat) : (mO m p).isNone = (hd T p).isNone := by
  have hn : ∀ i x, x ∈ R i → i < n := fun i x h => (lt i x h).1
  obtain ⟨_, g⟩ := (mem_dueL L lt).mp hm
  have := good_alone L hn l g p
  cases h1 : mO m p with
  | none =>
    have h2 := this.mp h1
    unfold hd
    rw [h2]
    rfl
  | some z =>
    cases h2 : hd T p with
    | none =>
      have h3 : T p = [] := by
        unfold hd at h2
        exact List.head?_eq_none_iff.mp h2
      rw [this.mpr h3] at h1
      cases h1
    | some z' => rfl
end
/-- ninety-nine is nobody out of twelve -/
theorem row99 : rowB 11 12 [] [V.int 99] = false := by decide
end Bk
set_option Elab.async false
set_option linter.all false
set_option maxRecDepth 100000
set_option maxHeartbeats 4000000
namespace K6
open K6g PySem PySem.Spec PyProof.Rows L2 LamX Bk
section
variable {P : Program} {w : World} {K : PySem.W.Frag} {mg : Str → Option Value} {base : Heap}

abbrev TT (P0 P1 : Addr) : List (Addr × Str) := [(P0, lamN), (P1, "")]
theorem tabG_of {H : Hp} {P : Addr} {q : Str} (h : TabS H P q) : GxR.TabG H P := by
  obtain ⟨ps, h1, h2, _⟩ := h
  exact ⟨ps, h1, h2⟩
theorem ok_lpair8 (T : Txt P K mg) : FnOk P w K mg base CX0 8 T.a__law_pairings T.fd__law_pairings ["_law_rows", "_law_done"] (fun vs H Q E => ∃ e, e ≤ 8 ∧ sp_lpair K e vs H Q E) :=
  ⟨fun vs H Q E h => by obtain ⟨e, he, h⟩ := h; exact (ok_lpair (P := P) (w := w) (base := base) T e).len vs H Q E h, fun A outer s H args us vs Q E hr h1 h2 h3 h => by obtain ⟨e, he, h⟩ := h; exact ((ok_lpair T e).mono he).run A outer s H args us vs Q E hr h1 h2 h3 h⟩
def sp_law (K : PySem.W.Frag) (P0 P1 : Addr) : Sp := fun vs H Q _ => ∃ (a : Addr) (ns : List Int), vs = [.ref a] ∧ SqL K H a (ns.map V.int) ∧ ns.length ≤ 63 ∧ Tabs (TT P0 P1) H ∧ ∀ H', Q (.bl true) H'
theorem ok_law (T : Txt P K mg) {c P0 : Addr} (FC : FunC K "_law_lists" s__law_lists T.a__law_lists T.fd__law_lists c) (TB : TabB base mg c P0) {c1 P1 : Addr} (FC1 : FunC K "is_emptied" s_is_emptied T.a_is_emptied T.fd_is_emptied c1) (TB1 : GxR.TabB base mg c1 P1) (hne : P1 ≠ P0) : FnOk P w K mg base CX0 10 T.a_law T.fd_law ["_law_script"] (sp_law K P0 P1) := by
  have G__law_lists : FnOk P w K mg base CX0 4 T.a__law_lists T.fd__law_lists ["_law_script", "_law_most"] (sp_llistsT K (TT P0 P1)) := ok_llistsT T FC TB (List.mem_cons_self) (fun p hp e => by
    rcases List.mem_cons.mp hp with rfl | z
    · rfl
    · have := List.mem_singleton.mp z
      subst this
      exact absurd e hne)
  have G__law_mutual : FnOk P w K mg base CX0 1 T.a__law_mutual T.fd__law_mutual ["_law_rows"] (sp_lmut K) := ok_lmut T
  have G__law_pairings : FnOk P w K mg base CX0 8 T.a__law_pairings T.fd__law_pairings ["_law_rows", "_law_done"] (fun vs H Q E => ∃ e, e ≤ 8 ∧ sp_lpair K e vs H Q E) := ok_lpair8 T
  have G__law_spoilers : FnOk P w K mg base CX0 2 T.a__law_spoilers T.fd__law_spoilers ["_law_rows", "_law_pairing"] (sp_lspoil K) := ok_lspoil T
  have G__law_refused : FnOk P w K mg base CX0 7 T.a__law_refused T.fd__law_refused ["_law_lists_here"] (sp_refused K) := ok_refused T
  have G_all_good : FnOk P w K mg base (L2.CX P w) 6 T.a_all_good T.fd_all_good ["lists"] (sp_allgood K T.C_BadLists T.C_TooMany) := ok_allgood T
  have G_paired : FnOk P w K mg base CX0 9 T.a_paired T.fd_paired ["lists"] (sp_paired K P1) := ok_paired T FC1 TB1
  have G_odd_rings : FnOk P w K mg base CX0 9 T.a_odd_rings T.fd_odd_rings ["lists"] (sp_oddrings K P1) := ok_oddrings T FC1 TB1
  have G_alone : FnOk P w K mg base CX0 9 T.a_alone T.fd_alone ["lists"] (sp_alone K P1) := ok_alone T FC1 TB1
  refine T.F_law.ok sc_law (fun vs H Q E h => ?_) (fun cdv A outer s H vs Q E hr h => ?_)
  · obtain ⟨a, ns, rfl, _⟩ := h
    rfl
  · obtain ⟨a, ns, rfl, hS, hlen, tt, q⟩ := h
    refine ⟨_, (C8.pss_cut (ps_set (i := 1) sc_law.nd rfl (.inl rfl) (pe_call G__law_lists (hr.mono (by decide)) (by rfl) T.g__law_lists T.F__law_lists.kp T.b__law_lists .nil pass0 (pa_cons (pv 0) (pa_cons (pe_ix (kix_list (K := K)) (pe_lst (pa_cons pe_int (pa_cons pe_int (pa_cons pe_int (pa_cons pe_int (pa_cons pe_int (pa_cons pe_int (pa_cons pe_int (pa_cons pe_int pa_nil))))))))) (pe_op op_mod (pe_callB (klen (K := K)) (by rfl) T.m_len (by decide +kernel) (pa_cons (pv 0) pa_nil)) pe_int) (fun _ _ => rfl)) pa_nil))))
      (C8.pss_cut (ps_set (i := 2) sc_law.nd rfl (.inr rfl) (pe_call G__law_mutual (hr.mono (by decide)) (by rfl) T.g__law_mutual T.F__law_mutual.kp T.b__law_mutual .nil pass0 (pa_cons (pv 1) pa_nil)))
      (C8.pss_cut (ps_set (i := 3) sc_law.nd rfl (.inr rfl) (pe_lc (own := [("_law_pairing", 4)]) rfl sc_law.nd (kpi_list (K := K) (pe_call G__law_pairings (hr.mono (by decide)) (by rfl) T.g__law_pairings T.F__law_pairings.kp T.b__law_pairings .nil pass0 (pa_cons (pv 2) (pa_cons (pe_lst pa_nil) pa_nil)))) (blkOk_by (own := [("_law_pairing", 4)]) (N := ["_law_script", "_law_lists_here", "_law_rows", "_law_due", "_law_pairing", "_law_handed", "_law_row", "_law_found", "_law_told", "_law_rings", "_law_lonely", "_law_person", "_law_more", "_law_k"]) (sc := (defScope s_law)) (by decide +kernel)) (fun _ _ _ _ _ => (pg_name (i := 4) sc_law.nd rfl (by first | exact .inl rfl | exact .inr rfl))) (fun _ _ _ _ _ => (pts_one (pt_cmpR (keqD (K := K) hr.units) (pe_call G__law_spoilers (hr.mono (by decide)) (by rfl) T.g__law_spoilers T.F__law_spoilers.kp T.b__law_spoilers .nil pass0 (pa_cons (pv 2) (pa_cons (pv 4) pa_nil))) (pe_lst pa_nil) (nomark _)))) (fun _ _ _ _ _ => (pv 4))))
      (C8.pss_cut (ps_setLc (i := 5) (own := [("_law_row", 6)]) rfl sc_law.nd rfl rfl (sw_true rfl rfl rfl (by decide +kernel)) (kpi_list (K := K) (pv 1)) (blkOk_by (own := [("_law_row", 6)]) (N := ["_law_script", "_law_lists_here", "_law_rows", "_law_due", "_law_pairing", "_law_handed", "_law_row", "_law_found", "_law_told", "_law_rings", "_law_lonely", "_law_person", "_law_more", "_law_k"]) (sc := (defScope s_law)) (by decide +kernel)) (fun _ _ _ _ _ => (pg_name (i := 6) sc_law.nd rfl (by first | exact .inl rfl | exact .inr rfl))) (fun _ _ _ _ _ => pts_nil) (fun _ _ _ _ _ => (pe_callTy (klist_of (K := K)) (by rfl) T.m_list (by decide +kernel) (pa_cons (pv 6) pa_nil))))
      (C8.pss_cut (ps_set (i := 7) sc_law.nd rfl (.inl rfl) (pe_call G_all_good (hr.mono (by decide)) (by rfl) T.g_all_good T.F_all_good.kp T.b_all_good .nil passL (pa_cons (pv 5) pa_nil)))
      (C8.pss_cut (ps_if (PW.pt (pw_or (pt_not (pt_val (pe_callB (kisi (K := K)) (by rfl) T.m_isinstance (by decide +kernel) (pa_cons (pv 7) (pa_cons (pe_bltn (v := .ty "list") (by rfl) T.m_list (by decide +kernel) rfl) pa_nil))))) (pw_or (pt_cmpR (kneD (K := K) hr.units) (pv 7) (pv 3) (nomark _)) (pw_or1 (pt_cmpR (kneD (K := K) hr.units) (pv 5) (pv 1) (nomark _)))))) (pss_one (ps_ret pe_bl)) pss_nil)
      (C8.pss_cut (ps_for PassesOwn.never rfl (kpi_list (K := K) (pv 7)) (pg_name (i := 4) sc_law.nd rfl (.inr rfl)) (pss_one (ps_expr (pe_bm PySem.F.plainAttrs_list PySem.F.slot_list_append PySem.F.type_list_append mt_append (pv 4) (pa_cons pe_int pa_nil)))))
      (C8.pss_cut (ps_if (pt_cmpR (kneD (K := K) hr.units) (pe_call G_all_good (hr.mono (by decide)) (by rfl) T.g_all_good T.F_all_good.kp T.b_all_good .nil passL (pa_cons (pv 1) pa_nil)) (pv 3) (nomark _)) (pss_one (ps_ret pe_bl)) pss_nil)
      (C8.pss_cut (ps_set (i := 8) sc_law.nd rfl (.inl rfl) (pe_call G_paired (hr.mono (by decide)) (by rfl) T.g_paired T.F_paired.kp T.b_paired .nil pass0 (pa_cons (pv 5) pa_nil)))
      (C8.pss_cut (ps_set (i := 9) sc_law.nd rfl (.inl rfl) (pe_call G_odd_rings (hr.mono (by decide)) (by rfl) T.g_odd_rings T.F_odd_rings.kp T.b_odd_rings .nil pass0 (pa_cons (pv 5) pa_nil)))
      (C8.pss_cut (ps_if (pt_cmpR (kneD (K := K) hr.units) (pv 5) (pv 1) (nomark _)) (pss_one (ps_ret pe_bl)) pss_nil)
      (C8.pss_cut (ps_if (pt_cmpR (keqD (K := K) hr.units) (pv 3) (pe_lst pa_nil) (nomark _)) (pss_one (ps_if (PW.pt (pw_or (pt_cmp (pc_notN (pv 8))) (pw_or1 (pt_cmpR (keqD (K := K) hr.units) (pv 9) (pe_lst pa_nil) (nomark _))))) (pss_one (ps_ret pe_bl)) pss_nil)) (pss_cons (ps_setLc (i := 10) (own := [("_law_person", 11)]) rfl sc_law.nd rfl rfl (sw_true rfl rfl rfl (by decide +kernel)) (pi_range1 (by rfl) T.m_range (pa_cons (pe_callB (klen (K := K)) (by rfl) T.m_len (by decide +kernel) (pa_cons (pv 2) pa_nil)) pa_nil)) (blkOk_by (own := [("_law_person", 11)]) (N := ["_law_script", "_law_lists_here", "_law_rows", "_law_due", "_law_pairing", "_law_handed", "_law_row", "_law_found", "_law_told", "_law_rings", "_law_lonely", "_law_person", "_law_more", "_law_k"]) (sc := (defScope s_law)) (by decide +kernel)) (fun _ _ _ _ _ => (pg_name (i := 11) sc_law.nd rfl (by first | exact .inl rfl | exact .inr rfl))) (fun _ _ _ _ _ => (pts_one (pt_cmp (pc_isN (pe_ix (kix_list (K := K)) (pe_ix (kix_list (K := K)) (pv 3) pe_int (fun _ _ => rfl)) (pv 11) (fun _ _ => rfl)))))) (fun _ _ _ _ _ => (pv 11)))
      (C8.pss_cut (ps_if (PW.pt (pw_or (pt_cmpR (knotinD (K := K) (units65 hr)) (pv 8) (pv 3) rfl) (pw_or (pt_cmpR (kneD (K := K) hr.units) (pv 9) (pe_lst pa_nil) (nomark _)) (pw_or1 (pt_cmpR (kneD (K := K) hr.units) (pe_call G_alone (hr.mono (by decide)) (by rfl) T.g_alone T.F_alone.kp T.b_alone .nil pass0 (pa_cons (pv 1) pa_nil)) (pv 10) (nomark _)))))) (pss_one (ps_ret pe_bl)) pss_nil)
      (pss_one (ps_for PassesOwn.never rfl (kpi_list (K := K) (pv 3)) (pg_name (i := 4) sc_law.nd rfl (.inr rfl)) (pss_one (ps_if (pt_cmpR (kneD (K := K) hr.units) (pe_lc (own := [("_law_person", 11)]) rfl sc_law.nd (pi_range1 (by rfl) T.m_range (pa_cons (pe_callB (klen (K := K)) (by rfl) T.m_len (by decide +kernel) (pa_cons (pv 2) pa_nil)) pa_nil)) (blkOk_by (own := [("_law_person", 11)]) (N := ["_law_script", "_law_lists_here", "_law_rows", "_law_due", "_law_pairing", "_law_handed", "_law_row", "_law_found", "_law_told", "_law_rings", "_law_lonely", "_law_person", "_law_more", "_law_k"]) (sc := (defScope s_law)) (by decide +kernel)) (fun _ _ _ _ _ => (pg_name (i := 11) sc_law.nd rfl (by first | exact .inl rfl | exact .inr rfl))) (fun _ _ _ _ _ => (pts_one (pt_cmp (pc_isN (pe_ix (kix_list (K := K)) (pv 4) (pv 11) (fun _ _ => rfl)))))) (fun _ _ _ _ _ => (pv 11))) (pv 10) (nomark _)) (pss_one (ps_ret pe_bl)) pss_nil)))))))
      (C8.pss_cut (ps_set (i := 12) sc_law.nd rfl (.inl rfl) (pe_op op_cat (pv 1) (pe_lc (own := [("_law_k", 13)]) rfl sc_law.nd (pi_range1 (by rfl) T.m_range (pa_cons (pe_op op_sub pe_int (pe_callB (klen (K := K)) (by rfl) T.m_len (by decide +kernel) (pa_cons (pv 1) pa_nil))) pa_nil)) (blkOk_by (own := [("_law_k", 13)]) (N := ["_law_script", "_law_lists_here", "_law_rows", "_law_due", "_law_pairing", "_law_handed", "_law_row", "_law_found", "_law_told", "_law_rings", "_law_lonely", "_law_person", "_law_more", "_law_k"]) (sc := (defScope s_law)) (by decide +kernel)) (fun _ _ _ _ _ => (pg_name (i := 13) sc_law.nd rfl (by first | exact .inl rfl | exact .inr rfl))) (fun _ _ _ _ _ => pts_nil) (fun _ _ _ _ _ => (pe_lst pa_nil)))))
      (C8.pss_cut (ps_if (PW.pt (pw_or (pt_cmpR op_ne (pe_call G__law_refused (hr.mono (by decide)) (by rfl) T.g__law_refused T.F__law_refused.kp T.b__law_refused .nil pass0 (pa_cons (pv 12) pa_nil)) pe_str (nomark _)) (pw_or1 (pt_cmpR op_ne (pe_call G__law_refused (hr.mono (by decide)) (by rfl) T.g__law_refused T.F__law_refused.kp T.b__law_refused .nil pass0 (pa_cons (pe_op op_cat (pv 12) (pe_lst (pa_cons (pe_lst (pa_cons pe_int pa_nil)) pa_nil))) pa_nil)) pe_str (nomark _))))) (pss_one (ps_ret pe_bl)) pss_nil)
      (pss_one (ps_ret (pe_cmpR op_eq (pe_call G__law_refused (hr.mono (by decide)) (by rfl) T.g__law_refused T.F__law_refused.kp T.b__law_refused .nil pass0 (pa_cons (pe_slice (ksl_list (K := K)) (pv 12) po_none (po_some pe_int)) pa_nil)) pe_str (nomark _)))))))))))))))))), ?_⟩
    -- the lists
    obtain ⟨M, hM⟩ : ∃ M : L2.St → Hp → Prop, M = (fun σ H1 => ∃ t as rows, σ = [some (.ref a), some (.ref t), none, none, none, none, none, none, none, none, none, none, none, none] ∧ GxR.TabG H1 P1 ∧ Tbl H1 t as rows ∧ GL rows ∧ rows.length ≤ 7) := ⟨_, rfl⟩
    refine ⟨M, ?_, fun σ H1 h => ?_⟩
    · simp only [tRaiseErr, tMkErr, tCallS, WE, tLenSetI, cx_K, cx_w, wipe, Int.zero_add, Bool.false_eq_true, if_false, if_true, Bool.not_true, Bool.not_false, tSeq, tAsg, tOp, tVar, tC, tRet, tRetN, tNext, tDrop, tIfS, tB, tTest, tIf, tAnd, tOr, tNot, tAndV, tOrV, tNotV, tUn, tCons, tNil, tCall, tCB, tBM, tBM0, tNoPart, tPart, tSl, tCont, tNever, tTup, tLst, gName, gNil, gCons, gTup, gSub, rI, rI0, rU, rEq, rNe, rIxL, rSlL, rSetL, rLn, rLs, rTs, rIn, rSet0, tSAdd, rSAdd, rSIn, rSNotIn, rRep, rCat, rAppend, rPop, rPopAt, iList, iRng1, iRng2, iEnum, gTup, tIsN, tNotN, tTru, tLstRg, tRg1, tRg2, L2.start, List.map_cons, List.map_nil, List.length_cons, List.length_nil, List.replicate, List.cons_append, List.nil_append, List.getElem?_cons_zero, List.getElem?_cons_succ, List.set_cons_zero, List.set_cons_succ, Option.some.injEq, exists_eq_left', V.int.injEq, V.ref.injEq, V.bl.injEq, List.cons.injEq, exists_and_left, exists_and_right, and_true, true_and, exists_eq_left, exists_eq, Nat.reduceAdd, Nat.reduceSub]
      refine ⟨by decide, fun p hp => ⟨_, .inl ((same_upd hp).seq hS), by decide, _, SqL.of upd_same, ?_⟩⟩
      have hm : ∃ most : Nat, most ≤ 7 ∧ atI [V.int 6, V.int 6, V.int 6, V.int 6, V.int 6, V.int 6, V.int 6, V.int 7] (((ns.map V.int).length : Int) % 8) = some (nv most) := by
        rw [List.length_map]
        have e : ((ns.length : Int) % 8) = ((ns.length % 8 : Nat) : Int) := by omega
        rw [e]
        have h8 : ns.length % 8 < 8 := Nat.mod_lt _ (by decide)
        generalize ns.length % 8 = j at h8
        have hj : j = 0 ∨ j = 1 ∨ j = 2 ∨ j = 3 ∨ j = 4 ∨ j = 5 ∨ j = 6 ∨ j = 7 := by omega
        rcases hj with z | z | z | z | z | z | z | z <;> rw [z]
        · exact ⟨6, by decide, atI_nat (j := 0) rfl⟩
        · exact ⟨6, by decide, atI_nat (j := 1) rfl⟩
        · exact ⟨6, by decide, atI_nat (j := 2) rfl⟩
        · exact ⟨6, by decide, atI_nat (j := 3) rfl⟩
        · exact ⟨6, by decide, atI_nat (j := 4) rfl⟩
        · exact ⟨6, by decide, atI_nat (j := 5) rfl⟩
        · exact ⟨6, by decide, atI_nat (j := 6) rfl⟩
        · exact ⟨7, by decide, atI_nat (j := 7) rfl⟩
      obtain ⟨most, hm1, hm2⟩ := hm
      refine ⟨_, hm2, a, ns, most, rfl, (same_upd hp).seq hS, hlen, by omega, tt.ext (same_upd hp), fun H1 t as rows x1 t1 T1 g1 l1 => ?_⟩
      rw [hM]
      exact ⟨t, as, rows, rfl, tabG_of (t1 (P1, "") (by simp)), T1, g1, by omega⟩
    rw [hM] at h
    clear hM M
    obtain ⟨t, as, rows, rfl, tg1, T1, g, hrl⟩ := h
    obtain ⟨n, hn⟩ : ∃ n, n = rows.length := ⟨_, rfl⟩
    rw [← hn] at hrl
    obtain ⟨R, hR⟩ : ∃ R, R = fn (mutL rows) := ⟨_, rfl⟩
    have L : Lists R := by rw [hR]; exact lists_mut g
    have Rlt : ∀ i x, x ∈ R i → i < n ∧ x < n := fun i x hx => by rw [hR] at hx; rw [hn]; exact mut_lt g hx
    have hL : ∀ i x, x ∈ R i → i < n := fun i x hx => (Rlt i x hx).1
    have hmR : mutL rows = mkL n R := by
      have := mkL_fn (mutL rows)
      rw [mutL_len] at this
      rw [hn, hR]
      exact this.symm
    have R6 : ∀ i, (R i).length ≤ 6 := fun i => by
      by_cases hi : i < n
      · have h1 : (i :: R i).Nodup := List.nodup_cons.mpr ⟨L.ir i, L.nd i⟩
        have := nodup_le (n := n) h1 fun x hx => by
          rcases List.mem_cons.mp hx with z | z
          · omega
          · exact (Rlt i x z).2
        rw [List.length_cons] at this
        omega
      · cases hc : R i with
        | nil => simp
        | cons x r => exact absurd (hL i x (by rw [hc]; simp)) hi
    have R7 : ∀ i, 7 ≤ i → R i = [] := fun i hi => by
      cases hc : R i with
      | nil => rfl
      | cons x r =>
        have := hL i x (by rw [hc]; simp)
        omega
    -- the mutual lists
    obtain ⟨M, hM⟩ : ∃ M : L2.St → Hp → Prop, M = (fun σ H2 => ∃ r rs, σ = [some (.ref a), some (.ref t), some (.ref r), none, none, none, none, none, none, none, none, none, none, none] ∧ Same H1 H2 ∧ Tbl H2 r rs (mkL n R)) := ⟨_, rfl⟩
    refine ⟨M, ?_, fun σ H2 h => ?_⟩
    · simp only [tRaiseErr, tMkErr, tCallS, WE, tLenSetI, cx_K, cx_w, wipe, Int.zero_add, Bool.false_eq_true, if_false, if_true, Bool.not_true, Bool.not_false, tSeq, tAsg, tOp, tVar, tC, tRet, tRetN, tNext, tDrop, tIfS, tB, tTest, tIf, tAnd, tOr, tNot, tAndV, tOrV, tNotV, tUn, tCons, tNil, tCall, tCB, tBM, tBM0, tNoPart, tPart, tSl, tCont, tNever, tTup, tLst, gName, gNil, gCons, gTup, gSub, rI, rI0, rU, rEq, rNe, rIxL, rSlL, rSetL, rLn, rLs, rTs, rIn, rSet0, tSAdd, rSAdd, rSIn, rSNotIn, rRep, rCat, rAppend, rPop, rPopAt, iList, iRng1, iRng2, iEnum, gTup, tIsN, tNotN, tTru, tLstRg, tRg1, tRg2, L2.start, List.map_cons, List.map_nil, List.length_cons, List.length_nil, List.replicate, List.cons_append, List.nil_append, List.getElem?_cons_zero, List.getElem?_cons_succ, List.set_cons_zero, List.set_cons_succ, Option.some.injEq, exists_eq_left', V.int.injEq, V.ref.injEq, V.bl.injEq, List.cons.injEq, exists_and_left, exists_and_right, and_true, true_and, exists_eq_left, exists_eq, Nat.reduceAdd, Nat.reduceSub]
      refine ⟨t, as, rows, rfl, T1, g, by omega, fun H2 r rs e _ _ TR => ?_⟩
      rw [hM]
      exact ⟨r, rs, rfl, e, by rw [← hmR]; exact TR⟩
    rw [hM] at h
    clear hM M
    obtain ⟨r, rs, rfl, e2, TR⟩ := h
    -- what is due
    obtain ⟨M, hM⟩ : ∃ M : L2.St → Hp → Prop, M = (fun σ H3 => ∃ (D : Addr) (ds : List Addr) (y4 : Option V), σ = [some (.ref a), some (.ref t), some (.ref r), some (.ref D), y4, none, none, none, none, none, none, none, none, none] ∧ Same H2 H3 ∧ PgsAt H3 D ds (dueL R n)) := ⟨_, rfl⟩
    refine ⟨M, ?_, fun σ H3 h => ?_⟩
    · obtain ⟨Pm, hPm⟩ : ∃ Pm : Pg → Bool, Pm = fun m => decide (spL n R m n = []) := ⟨_, rfl⟩
      refine ⟨_, rfl, Nat.zero_le _, fun p0 hp0 => ?_⟩
      have e3 := same_upd (o := .lst []) hp0
      refine ⟨n + 1, by omega, r, p0, rs, n, R, [], rfl, TR.same e3, upd_same, VP.nil, L.mu, R6, by omega, by simp, Nat.zero_le _, fun H4 p ps e4 hP => ?_⟩
      rw [show n + 1 - 1 = n by omega] at hP
      have e24 := e3.trans e4
      have big : (prs R n []).length ≤ 823543 := Nat.le_trans (prs_len R6 n []) (Nat.le_trans (Nat.pow_le_pow_right (by decide) (show n ≤ 7 by omega)) (by decide))
      refine ⟨p, rfl, ⟨_, SqL.of hP.top⟩, fun D hD => lc_list (K := K) (xs := ps.map V.ref) (fun i H5 => Same H4 H5 ∧ ∃ gs, PgsAt H5 D gs (((prs R n []).take i).filter Pm)) ⟨same_upd hD, [], .nil upd_same⟩ (fun i H5 _ h => h.1.seq (SqL.of hP.top)) (fun i x H5 hx h => ?_) (fun H5 h => ?_)⟩
      · obtain ⟨e5, gs, hG⟩ := h
        rw [List.getElem?_map] at hx
        obtain ⟨b, hb, rfl⟩ := Option.map_eq_some_iff.mp hx
        have hi : i < (prs R n []).length := by rw [← hP.len]; exact (List.getElem?_eq_some_iff.mp hb).1
        obtain ⟨m, hm⟩ : ∃ m, (prs R n [])[i]? = some m := ⟨_, List.getElem?_eq_getElem hi⟩
        have hrb := e5 _ _ (hP.row i b m hb hm)
        have hml : m.length = n := by have := (prs_ext n [] m (List.mem_of_getElem? hm)).1; rw [List.length_nil, Nat.zero_add] at this; exact this
        have et : ((prs R n []).take (i + 1)).filter Pm = ((prs R n []).take i).filter Pm ++ [m].filter Pm := by
          rw [List.take_add_one, hm, List.filter_append]; rfl
        have ePm : Pm m = decide (spL n R m n = []) := by rw [hPm]
        refine ⟨rfl, ?_⟩
        simp only [tRaiseErr, tMkErr, tCallS, WE, tLenSetI, cx_K, cx_w, wipe, Int.zero_add, Bool.false_eq_true, if_false, if_true, Bool.not_true, Bool.not_false, tSeq, tAsg, tOp, tVar, tC, tRet, tRetN, tNext, tDrop, tIfS, tB, tTest, tIf, tAnd, tOr, tNot, tAndV, tOrV, tNotV, tUn, tCons, tNil, tCall, tCB, tBM, tBM0, tNoPart, tPart, tSl, tCont, tNever, tTup, tLst, gName, gNil, gCons, gTup, gSub, rI, rI0, rU, rEq, rNe, rIxL, rSlL, rSetL, rLn, rLs, rTs, rIn, rSet0, tSAdd, rSAdd, rSIn, rSNotIn, rRep, rCat, rAppend, rPop, rPopAt, iList, iRng1, iRng2, iEnum, gTup, tIsN, tNotN, tTru, tLstRg, tRg1, tRg2, L2.start, List.map_cons, List.map_nil, List.length_cons, List.length_nil, List.replicate, List.cons_append, List.nil_append, List.getElem?_cons_zero, List.getElem?_cons_succ, List.set_cons_zero, List.set_cons_succ, Option.some.injEq, exists_eq_left', V.int.injEq, V.ref.injEq, V.bl.injEq, List.cons.injEq, exists_and_left, exists_and_right, and_true, true_and, exists_eq_left, exists_eq, Nat.reduceAdd, Nat.reduceSub]
        refine ⟨r, b, rs, n, R, m, rfl, (TR.same e24).same e5, hrb, hml, by omega, fun H6 Ds e6 hDs hPs => ⟨Nat.zero_le _, fun p1 hp1 => ?_⟩⟩
        refine eq_pairs (s := []) (hPs.same (same_upd hp1)) (.nil upd_same) ?_
        have e16 := e6.trans (same_upd (o := .lst []) hp1)
        generalize upd H6 p1 (.lst []) = H7 at e16 ⊢
        have hG7 := hG.same e16
        have nbD : b ≠ D := fun z => by
          obtain ⟨q', _, hq'⟩ := hP.mem (List.mem_of_getElem? hb)
          rw [z, hD] at hq'
          cases hq'
        refine ⟨_, rfl, ?_⟩
        by_cases c : spL n R m n = []
        · rw [decide_eq_true c]
          refine iteT ⟨_, hG7.top, ?_, fun b' o ho => ?_, gs ++ [b], ?_⟩
          · rw [List.length_map, hG7.len]
            have h1 : (((prs R n []).take i).filter Pm).length ≤ (prs R n []).length := Nat.le_trans (List.length_filter_le _ _) (by rw [List.length_take]; omega)
            have : 823543 < sizeLine := by decide
            omega
          · rw [upd_ne (ne_of_none ho hD)]
            exact e16 _ _ (e5 _ _ ho)
          · rw [et, List.filter_cons, if_pos (by rw [ePm, decide_eq_true c]), List.filter_nil]
            exact hG7.snoc (e16 _ _ hrb) nbD
        · rw [decide_eq_false c]
          refine iteF ⟨e5.trans e16, gs, ?_⟩
          rw [et, List.filter_cons, if_neg (by rw [ePm, decide_eq_false c]; decide), List.filter_nil, List.append_nil]
          exact hG7
      · obtain ⟨e5, gs, hG⟩ := h
        rw [List.length_map, hP.len, List.take_length] at hG
        show M _ _
        rw [hM]
        refine ⟨D, gs, _, rfl, e24.trans e5, ?_⟩
        unfold dueL
        rw [hPm] at hG
        exact hG
    rw [hM] at h
    clear hM M
    obtain ⟨D, ds, y4, rfl, e3, hD⟩ := h
    have T3 := T1.same (e2.trans e3)
    have TR3 := TR.same e3
    have tg3 := (Same.grow (e2.trans e3)).tab tg1
    -- a copy
    obtain ⟨M, hM⟩ : ∃ M : L2.St → Hp → Prop, M = (fun σ H4 => ∃ (hd_ : Addr) (hs : List Addr) (y6 : Option V), σ = [some (.ref a), some (.ref t), some (.ref r), some (.ref D), y4, some (.ref hd_), y6, none, none, none, none, none, none, none] ∧ Same H3 H4 ∧ Tbl H4 hd_ hs rows) := ⟨_, rfl⟩
    refine ⟨M, ?_, fun σ H4 h => ?_⟩
    · refine ⟨_, rfl, t, rfl, ⟨_, SqL.of T3.top⟩, fun D2 hD2 => copy_lc T3 (by simp) (by omega) hD2 fun H9 as9 e9 hn9 T9 => ?_⟩
      show M _ _
      rw [hM]
      exact ⟨D2, as9, _, rfl, e9, T9⟩
    rw [hM] at h
    clear hM M
    obtain ⟨hd_, hs, y6, rfl, e4, TH⟩ := h
    have T4 := T3.same e4
    have TR4 := TR3.same e4
    have tg4 := (Same.grow e4).tab tg3
    have hD4 := hD.same e4
    have R6' : ∀ i, (fn (mutL rows) i).length ≤ 6 := fun i => by rw [← hR]; exact R6 i
    have R7' : ∀ i, 7 ≤ i → fn (mutL rows) i = [] := fun i hi => by rw [← hR]; exact R7 i hi
    have askall : ∀ {H' : Hp} {Q' : VK} {E' : XK} {t' : Addr} {as' : List Addr}, Tbl H' t' as' rows → (∀ H2 F fs, Same H' H2 → H' F = none → PgsAt H2 F fs (dueL R n) → (∀ a ∈ fs, H' a = none) → Q' (.ref F) H2) → sp_allgood K T.C_BadLists T.C_TooMany [.ref t'] H' Q' E' := fun {H' Q' E' t' as'} TT k =>
      ⟨_, rfl, .inr ⟨t', as', rows, rfl, TT, g, by omega, .inr ⟨by omega, R6', R7', fun H2 F fs e hF hP hfs => k H2 F fs e hF (by rw [← hR, ← hn] at hP; exact hP) hfs⟩⟩⟩
    -- found
    obtain ⟨M, hM⟩ : ∃ M : L2.St → Hp → Prop, M = (fun σ H5 => ∃ (F : Addr) (fs : List Addr), σ = [some (.ref a), some (.ref t), some (.ref r), some (.ref D), y4, some (.ref hd_), y6, some (.ref F), none, none, none, none, none, none] ∧ Same H4 H5 ∧ H4 F = none ∧ (∀ x ∈ fs, H4 x = none) ∧ PgsAt H5 F fs (dueL R n)) := ⟨_, rfl⟩
    refine ⟨M, ?_, fun σ H5 h => ?_⟩
    · simp only [tRaiseErr, tMkErr, tCallS, WE, tLenSetI, cx_K, cx_w, wipe, Int.zero_add, Bool.false_eq_true, if_false, if_true, Bool.not_true, Bool.not_false, tSeq, tAsg, tOp, tVar, tC, tRet, tRetN, tNext, tDrop, tIfS, tB, tTest, tIf, tAnd, tOr, tNot, tAndV, tOrV, tNotV, tUn, tCons, tNil, tCall, tCB, tBM, tBM0, tNoPart, tPart, tSl, tCont, tNever, tTup, tLst, gName, gNil, gCons, gTup, gSub, rI, rI0, rU, rEq, rNe, rIxL, rSlL, rSetL, rLn, rLs, rTs, rIn, rSet0, tSAdd, rSAdd, rSIn, rSNotIn, rRep, rCat, rAppend, rPop, rPopAt, iList, iRng1, iRng2, iEnum, gTup, tIsN, tNotN, tTru, tLstRg, tRg1, tRg2, L2.start, List.map_cons, List.map_nil, List.length_cons, List.length_nil, List.replicate, List.cons_append, List.nil_append, List.getElem?_cons_zero, List.getElem?_cons_succ, List.set_cons_zero, List.set_cons_succ, Option.some.injEq, exists_eq_left', V.int.injEq, V.ref.injEq, V.bl.injEq, List.cons.injEq, exists_and_left, exists_and_right, and_true, true_and, exists_eq_left, exists_eq, Nat.reduceAdd, Nat.reduceSub]
      refine askall TH fun H5 F fs e hF hP hfs => ?_
      rw [hM]
      exact ⟨F, fs, rfl, e, hF, hfs, hP⟩
    rw [hM] at h
    clear hM M
    obtain ⟨F, fs, rfl, e5, hF0, hfs, hF⟩ := h
    -- it is what is due
    obtain ⟨M, hM⟩ : ∃ M : L2.St → Hp → Prop, M = (fun σ H6 => σ = [some (.ref a), some (.ref t), some (.ref r), some (.ref D), y4, some (.ref hd_), y6, some (.ref F), none, none, none, none, none, none] ∧ H6 = H5) := ⟨_, rfl⟩
    refine ⟨M, ?_, fun σ H6 h => ?_⟩
    · simp only [tRaiseErr, tMkErr, tCallS, WE, tLenSetI, cx_K, cx_w, wipe, Int.zero_add, Bool.false_eq_true, if_false, if_true, Bool.not_true, Bool.not_false, tSeq, tAsg, tOp, tVar, tC, tRet, tRetN, tNext, tDrop, tIfS, tB, tTest, tIf, tAnd, tOr, tNot, tAndV, tOrV, tNotV, tUn, tCons, tNil, tCall, tCB, tBM, tBM0, tNoPart, tPart, tSl, tCont, tNever, tTup, tLst, gName, gNil, gCons, gTup, gSub, rI, rI0, rU, rEq, rNe, rIxL, rSlL, rSetL, rLn, rLs, rTs, rIn, rSet0, tSAdd, rSAdd, rSIn, rSNotIn, rRep, rCat, rAppend, rPop, rPopAt, iList, iRng1, iRng2, iEnum, gTup, tIsN, tNotN, tTru, tLstRg, tRg1, tRg2, L2.start, List.map_cons, List.map_nil, List.length_cons, List.length_nil, List.replicate, List.cons_append, List.nil_append, List.getElem?_cons_zero, List.getElem?_cons_succ, List.set_cons_zero, List.set_cons_succ, Option.some.injEq, exists_eq_left', V.int.injEq, V.ref.injEq, V.bl.injEq, List.cons.injEq, exists_and_left, exists_and_right, and_true, true_and, exists_eq_left, exists_eq, Nat.reduceAdd, Nat.reduceSub]
      refine isi (.base (.lst hF.top)) (b := true) (by decide +kernel) ⟨true, rfl, iteF ?_⟩
      refine ne_pgs hF (hD4.same e5) ⟨_, rfl, ?_⟩
      rw [decide_eq_true rfl]
      refine iteF (ne_tbl (TH.same e5) (T4.same e5) ⟨_, rfl, ?_⟩)
      rw [decide_eq_true rfl]
      refine iteF ?_
      rw [hM]
      exact ⟨rfl, rfl⟩
    rw [hM] at h
    clear hM M
    obtain ⟨rfl, rfl⟩ := h
    -- it is changed
    obtain ⟨M, hM⟩ : ∃ M : L2.St → Hp → Prop, M = (fun σ H7 => ∃ (y4 : Option V), σ = [some (.ref a), some (.ref t), some (.ref r), some (.ref D), y4, some (.ref hd_), y6, some (.ref F), none, none, none, none, none, none] ∧ Grow H4 H7) := ⟨_, rfl⟩
    refine ⟨M, ?_, fun σ H7 h => ?_⟩
    · have dl : ∀ m ∈ dueL R n, m.length = n := fun m hm => ((mem_dueL L Rlt).mp hm).1
      refine ⟨.ref F, rfl, F, rfl, ⟨_, SqL.of hF.top⟩, for_list (K := K) (xs := fs.map V.ref) (fun i σ H7 => ∃ (y4 : Option V), σ = [some (.ref a), some (.ref t), some (.ref r), some (.ref D), y4, some (.ref hd_), y6, some (.ref F), none, none, none, none, none, none] ∧ Grow H4 H7 ∧ H7 F = some (.lst (fs.map V.ref)) ∧ ∀ x ∈ fs, ∃ xs, H7 x = some (.lst xs) ∧ xs.length ≤ 10 + i) ⟨_, rfl, Same.grow e5, hF.top, fun x hx => by
          obtain ⟨m, hm, hxm⟩ := hF.mem hx
          exact ⟨_, hxm, by rw [List.length_map, dl m hm]; omega⟩⟩ (fun i σ H7 _ h => by obtain ⟨_, _, _, h, _⟩ := h; exact SqL.of h) (fun i x σ H7 hx h => ?_) (fun σ H7 h => by show M _ _; rw [hM]; obtain ⟨y, h1, h2, _⟩ := h; exact ⟨y, h1, h2⟩)⟩
      obtain ⟨y4, rfl, g7, hF7, hx7⟩ := h
      rw [List.getElem?_map] at hx
      obtain ⟨c, hc, rfl⟩ := Option.map_eq_some_iff.mp hx
      have hcm := List.mem_of_getElem? hc
      have hil : i < fs.length := (List.getElem?_eq_some_iff.mp hc).1
      have hfl : fs.length ≤ 823543 := by
        rw [hF.len]
        unfold dueL
        exact Nat.le_trans (List.length_filter_le _ _) (Nat.le_trans (prs_len R6 n []) (Nat.le_trans (Nat.pow_le_pow_right (by decide) (show n ≤ 7 by omega)) (by decide)))
      obtain ⟨xs, h1, h2⟩ := hx7 c hcm
      simp only [tRaiseErr, tMkErr, tCallS, WE, tLenSetI, cx_K, cx_w, wipe, Int.zero_add, Bool.false_eq_true, if_false, if_true, Bool.not_true, Bool.not_false, tSeq, tAsg, tOp, tVar, tC, tRet, tRetN, tNext, tDrop, tIfS, tB, tTest, tIf, tAnd, tOr, tNot, tAndV, tOrV, tNotV, tUn, tCons, tNil, tCall, tCB, tBM, tBM0, tNoPart, tPart, tSl, tCont, tNever, tTup, tLst, gName, gNil, gCons, gTup, gSub, rI, rI0, rU, rEq, rNe, rIxL, rSlL, rSetL, rLn, rLs, rTs, rIn, rSet0, tSAdd, rSAdd, rSIn, rSNotIn, rRep, rCat, rAppend, rPop, rPopAt, iList, iRng1, iRng2, iEnum, gTup, tIsN, tNotN, tTru, tLstRg, tRg1, tRg2, L2.start, List.map_cons, List.map_nil, List.length_cons, List.length_nil, List.replicate, List.cons_append, List.nil_append, List.getElem?_cons_zero, List.getElem?_cons_succ, List.set_cons_zero, List.set_cons_succ, Option.some.injEq, exists_eq_left', V.int.injEq, V.ref.injEq, V.bl.injEq, List.cons.injEq, exists_and_left, exists_and_right, and_true, true_and, exists_eq_left, exists_eq, Nat.reduceAdd, Nat.reduceSub]
      refine ⟨.inl ⟨rfl, _, SqL.of h1⟩, xs, h1, ?_, ?_⟩
      · have : 823543 + 100 < sizeLine := by decide
        omega
      · refine ⟨fun b o ho => ?_, ?_, fun x hx => ?_⟩
        · rw [upd_ne (ne_of_none ho (hfs c hcm))]
          exact g7 b o ho
        · rw [upd_ne (fun z => hF.out (by rw [z]; exact hcm))]
          exact hF7
        · by_cases z : x = c
          · rw [z]
            exact ⟨_, upd_same, by rw [List.length_append, List.length_singleton]; omega⟩
          · rw [upd_ne z]
            obtain ⟨xs', e1, e2⟩ := hx7 x hx
            exact ⟨xs', e1, by omega⟩
    rw [hM] at h
    clear hM M
    obtain ⟨y4, rfl, g7⟩ := h
    -- asked again
    obtain ⟨M, hM⟩ : ∃ M : L2.St → Hp → Prop, M = (fun σ H8 => σ = [some (.ref a), some (.ref t), some (.ref r), some (.ref D), y4, some (.ref hd_), y6, some (.ref F), none, none, none, none, none, none] ∧ Grow H4 H8) := ⟨_, rfl⟩
    refine ⟨M, ?_, fun σ H8 h => ?_⟩
    · simp only [tRaiseErr, tMkErr, tCallS, WE, tLenSetI, cx_K, cx_w, wipe, Int.zero_add, Bool.false_eq_true, if_false, if_true, Bool.not_true, Bool.not_false, tSeq, tAsg, tOp, tVar, tC, tRet, tRetN, tNext, tDrop, tIfS, tB, tTest, tIf, tAnd, tOr, tNot, tAndV, tOrV, tNotV, tUn, tCons, tNil, tCall, tCB, tBM, tBM0, tNoPart, tPart, tSl, tCont, tNever, tTup, tLst, gName, gNil, gCons, gTup, gSub, rI, rI0, rU, rEq, rNe, rIxL, rSlL, rSetL, rLn, rLs, rTs, rIn, rSet0, tSAdd, rSAdd, rSIn, rSNotIn, rRep, rCat, rAppend, rPop, rPopAt, iList, iRng1, iRng2, iEnum, gTup, tIsN, tNotN, tTru, tLstRg, tRg1, tRg2, L2.start, List.map_cons, List.map_nil, List.length_cons, List.length_nil, List.replicate, List.cons_append, List.nil_append, List.getElem?_cons_zero, List.getElem?_cons_succ, List.set_cons_zero, List.set_cons_succ, Option.some.injEq, exists_eq_left', V.int.injEq, V.ref.injEq, V.bl.injEq, List.cons.injEq, exists_and_left, exists_and_right, and_true, true_and, exists_eq_left, exists_eq, Nat.reduceAdd, Nat.reduceSub]
      refine askall (T4.grow g7) fun H8 F2 fs2 e hF2 hP hfs2 => ?_
      refine ne_pgs hP ((hD4.grow g7).same e) ⟨_, rfl, ?_⟩
      rw [decide_eq_true rfl]
      refine iteF ?_
      rw [hM]
      exact ⟨rfl, g7.trans (Same.grow e)⟩
    rw [hM] at h
    clear hM M
    obtain ⟨rfl, g8⟩ := h
    -- a good pairing
    obtain ⟨M, hM⟩ : ∃ M : L2.St → Hp → Prop, M = (fun σ H9 => ∃ (v9 : V) (T1' : Nat → List Nat), σ = [some (.ref a), some (.ref t), some (.ref r), some (.ref D), y4, some (.ref hd_), y6, some (.ref F), some (v9), none, none, none, none, none] ∧ Grow H4 H9 ∧ LastOf (fn (mutL rows)) rows.length T1' ∧ ((oddR (hd T1') n ≠ [] ∧ v9 = .non) ∨ (oddR (hd T1') n = [] ∧ ∃ D, v9 = .ref D ∧ H9 D = some (.lst ((halfL n T1').map ov))))) := ⟨_, rfl⟩
    refine ⟨M, ?_, fun σ H9 h => ?_⟩
    · simp only [tRaiseErr, tMkErr, tCallS, WE, tLenSetI, cx_K, cx_w, wipe, Int.zero_add, Bool.false_eq_true, if_false, if_true, Bool.not_true, Bool.not_false, tSeq, tAsg, tOp, tVar, tC, tRet, tRetN, tNext, tDrop, tIfS, tB, tTest, tIf, tAnd, tOr, tNot, tAndV, tOrV, tNotV, tUn, tCons, tNil, tCall, tCB, tBM, tBM0, tNoPart, tPart, tSl, tCont, tNever, tTup, tLst, gName, gNil, gCons, gTup, gSub, rI, rI0, rU, rEq, rNe, rIxL, rSlL, rSetL, rLn, rLs, rTs, rIn, rSet0, tSAdd, rSAdd, rSIn, rSNotIn, rRep, rCat, rAppend, rPop, rPopAt, iList, iRng1, iRng2, iEnum, gTup, tIsN, tNotN, tTru, tLstRg, tRg1, tRg2, L2.start, List.map_cons, List.map_nil, List.length_cons, List.length_nil, List.replicate, List.cons_append, List.nil_append, List.getElem?_cons_zero, List.getElem?_cons_succ, List.set_cons_zero, List.set_cons_succ, Option.some.injEq, exists_eq_left', V.int.injEq, V.ref.injEq, V.bl.injEq, List.cons.injEq, exists_and_left, exists_and_right, and_true, true_and, exists_eq_left, exists_eq, Nat.reduceAdd, Nat.reduceSub]
      refine ⟨hd_, hs, rows, rfl, TH.grow g8, g, by omega, g8.tab tg4, fun H9 D T' g9 hD0 lo hDl => ?_⟩
      have l' : Last R T' := by
        have lo2 := lo
        rw [← hR, ← hn] at lo2
        exact lo2.last L hL
      rw [← hn, mO_halfL fun i x h => hL i x ((l'.dn.tab.sub i).subset h)]
      rw [← hn] at hDl
      refine ⟨fun ho => ?_, fun ho => ?_⟩
      · rw [hM]
        exact ⟨_, T', rfl, g8.trans g9, lo, .inr ⟨ho, D, rfl, hDl⟩⟩
      · rw [hM]
        exact ⟨_, T', rfl, g8.trans g9, lo, .inl ⟨ho, rfl⟩⟩
    rw [hM] at h
    clear hM M
    obtain ⟨v9, T1', rfl, g9, lo1, hv⟩ := h
    have l1 : Last R T1' := by
      have lo2 := lo1
      rw [← hR, ← hn] at lo2
      exact lo2.last L hL
    have same1 : ∀ {T' : Nat → List Nat}, LastOf (fn (mutL rows)) rows.length T' → T' = T1' := fun lo => lastof_one (lists_mut g) lo lo1
    have hO : oddR (mO (halfL n T1')) n = oddR (hd T1') n := by rw [mO_halfL fun i x h => hL i x ((l1.dn.tab.sub i).subset h)]
    have hdue := due_odd L Rlt l1
    -- the rings
    obtain ⟨M, hM⟩ : ∃ M : L2.St → Hp → Prop, M = (fun σ H10 => ∃ (rr : Addr) (ras : List Addr), σ = [some (.ref a), some (.ref t), some (.ref r), some (.ref D), y4, some (.ref hd_), y6, some (.ref F), some (v9), some (.ref rr), none, none, none, none] ∧ Grow H9 H10 ∧ Tbl H10 rr ras (oddR (hd T1') n)) := ⟨_, rfl⟩
    refine ⟨M, ?_, fun σ H10 h => ?_⟩
    · simp only [tRaiseErr, tMkErr, tCallS, WE, tLenSetI, cx_K, cx_w, wipe, Int.zero_add, Bool.false_eq_true, if_false, if_true, Bool.not_true, Bool.not_false, tSeq, tAsg, tOp, tVar, tC, tRet, tRetN, tNext, tDrop, tIfS, tB, tTest, tIf, tAnd, tOr, tNot, tAndV, tOrV, tNotV, tUn, tCons, tNil, tCall, tCB, tBM, tBM0, tNoPart, tPart, tSl, tCont, tNever, tTup, tLst, gName, gNil, gCons, gTup, gSub, rI, rI0, rU, rEq, rNe, rIxL, rSlL, rSetL, rLn, rLs, rTs, rIn, rSet0, tSAdd, rSAdd, rSIn, rSNotIn, rRep, rCat, rAppend, rPop, rPopAt, iList, iRng1, iRng2, iEnum, gTup, tIsN, tNotN, tTru, tLstRg, tRg1, tRg2, L2.start, List.map_cons, List.map_nil, List.length_cons, List.length_nil, List.replicate, List.cons_append, List.nil_append, List.getElem?_cons_zero, List.getElem?_cons_succ, List.set_cons_zero, List.set_cons_succ, Option.some.injEq, exists_eq_left', V.int.injEq, V.ref.injEq, V.bl.injEq, List.cons.injEq, exists_and_left, exists_and_right, and_true, true_and, exists_eq_left, exists_eq, Nat.reduceAdd, Nat.reduceSub]
      refine ⟨hd_, hs, rows, rfl, TH.grow g9, g, by omega, g9.tab tg4, fun H10 D as' T' g10 hD0 hna lo TD => ?_⟩
      rw [same1 lo, ← hn, hO] at TD
      rw [hM]
      exact ⟨D, as', rfl, g10, TD⟩
    rw [hM] at h
    clear hM M
    obtain ⟨rr, ras, rfl, g10, TR10⟩ := h
    have g410 := g9.trans g10
    obtain ⟨M, hM⟩ : ∃ M : L2.St → Hp → Prop, M = (fun σ H11 => σ = [some (.ref a), some (.ref t), some (.ref r), some (.ref D), y4, some (.ref hd_), y6, some (.ref F), some (v9), some (.ref rr), none, none, none, none] ∧ H11 = H10) := ⟨_, rfl⟩
    refine ⟨M, ?_, fun σ H11 h => ?_⟩
    · simp only [tRaiseErr, tMkErr, tCallS, WE, tLenSetI, cx_K, cx_w, wipe, Int.zero_add, Bool.false_eq_true, if_false, if_true, Bool.not_true, Bool.not_false, tSeq, tAsg, tOp, tVar, tC, tRet, tRetN, tNext, tDrop, tIfS, tB, tTest, tIf, tAnd, tOr, tNot, tAndV, tOrV, tNotV, tUn, tCons, tNil, tCall, tCB, tBM, tBM0, tNoPart, tPart, tSl, tCont, tNever, tTup, tLst, gName, gNil, gCons, gTup, gSub, rI, rI0, rU, rEq, rNe, rIxL, rSlL, rSetL, rLn, rLs, rTs, rIn, rSet0, tSAdd, rSAdd, rSIn, rSNotIn, rRep, rCat, rAppend, rPop, rPopAt, iList, iRng1, iRng2, iEnum, gTup, tIsN, tNotN, tTru, tLstRg, tRg1, tRg2, L2.start, List.map_cons, List.map_nil, List.length_cons, List.length_nil, List.replicate, List.cons_append, List.nil_append, List.getElem?_cons_zero, List.getElem?_cons_succ, List.set_cons_zero, List.set_cons_succ, Option.some.injEq, exists_eq_left', V.int.injEq, V.ref.injEq, V.bl.injEq, List.cons.injEq, exists_and_left, exists_and_right, and_true, true_and, exists_eq_left, exists_eq, Nat.reduceAdd, Nat.reduceSub]
      refine ne_tbl (TH.grow g410) (T4.grow g410) ⟨_, rfl, ?_⟩
      rw [decide_eq_true rfl]
      refine iteF ?_
      rw [hM]
      exact ⟨rfl, rfl⟩
    rw [hM] at h
    clear hM M
    obtain ⟨rfl, rfl⟩ := h
    -- what was told
    obtain ⟨M, hM⟩ : ∃ M : L2.St → Hp → Prop, M = (fun σ H12 => ∃ (y4 y10 y11 : Option V), σ = [some (.ref a), some (.ref t), some (.ref r), some (.ref D), y4, some (.ref hd_), y6, some (.ref F), some (v9), some (.ref rr), y10, y11, none, none] ∧ Grow H4 H12) := ⟨_, rfl⟩
    refine ⟨M, ?_, fun σ H12 h => ?_⟩
    · simp only [tRaiseErr, tMkErr, tCallS, WE, tLenSetI, cx_K, cx_w, wipe, Int.zero_add, Bool.false_eq_true, if_false, if_true, Bool.not_true, Bool.not_false, tSeq, tAsg, tOp, tVar, tC, tRet, tRetN, tNext, tDrop, tIfS, tB, tTest, tIf, tAnd, tOr, tNot, tAndV, tOrV, tNotV, tUn, tCons, tNil, tCall, tCB, tBM, tBM0, tNoPart, tPart, tSl, tCont, tNever, tTup, tLst, gName, gNil, gCons, gTup, gSub, rI, rI0, rU, rEq, rNe, rIxL, rSlL, rSetL, rLn, rLs, rTs, rIn, rSet0, tSAdd, rSAdd, rSIn, rSNotIn, rRep, rCat, rAppend, rPop, rPopAt, iList, iRng1, iRng2, iEnum, gTup, tIsN, tNotN, tTru, tLstRg, tRg1, tRg2, L2.start, List.map_cons, List.map_nil, List.length_cons, List.length_nil, List.replicate, List.cons_append, List.nil_append, List.getElem?_cons_zero, List.getElem?_cons_succ, List.set_cons_zero, List.set_cons_succ, Option.some.injEq, exists_eq_left', V.int.injEq, V.ref.injEq, V.bl.injEq, List.cons.injEq, exists_and_left, exists_and_right, and_true, true_and, exists_eq_left, exists_eq, Nat.reduceAdd, Nat.reduceSub]
      refine ⟨Nat.zero_le _, fun p hp => ?_⟩
      have e12 := same_upd (o := .lst []) hp
      have g12 := g410.trans (Same.grow e12)
      have hD12 := hD4.grow g12
      refine eq_pgs (s := []) hD12 (.nil upd_same) ⟨_, rfl, ?_⟩
      generalize upd H11 p (.lst []) = H12 at e12 g12 hD12 ⊢
      by_cases hdu : dueL R n = []
      · rw [decide_eq_true hdu]
        have ho := hdue.mp hdu
        rcases hv with ⟨_, rfl⟩ | ⟨ho2, _⟩
        rotate_left
        · exact absurd ho2 ho
        refine iteT ?_
        rw [decide_eq_true (rfl : V.non = V.non)]
        refine iteF ⟨Nat.zero_le _, fun p2 hp2 => ?_⟩
        refine eq_tbl (s := []) ((TR10.same e12).same (same_upd hp2)) (Tbl.nil upd_same) ⟨_, rfl, ?_⟩
        rw [decide_eq_false ho]
        refine iteF ?_
        rw [hM]
        exact ⟨_, _, _, rfl, g12.trans (Same.grow (same_upd hp2))⟩
      · rw [decide_eq_false hdu]
        have ho : oddR (hd T1') n = [] := by
          apply Classical.byContradiction
          exact fun z => hdu (hdue.mpr z)
        rcases hv with ⟨ho2, _⟩ | ⟨_, Dt, rfl, hDt⟩
        · exact absurd ho ho2
        obtain ⟨m0, hm0⟩ : ∃ m0, (dueL R n)[0]? = some m0 := by
          cases hc : dueL R n with
          | nil => exact absurd hc hdu
          | cons x r => exact ⟨x, rfl⟩
        have hlr : (rs.map V.ref).length = n := by rw [List.length_map, TR.len, mkL_len]
        have dl : ∀ m ∈ dueL R n, m.length = n := fun m hm => ((mem_dueL L Rlt).mp hm).1
        have alen : ∀ j, (aloneL T1' j).length ≤ j := fun j => by
          unfold aloneL
          exact Nat.le_trans (List.length_filter_le _ _) (by rw [List.length_range]; exact Nat.le_refl _)
        have asucc : ∀ j, aloneL T1' (j + 1) = aloneL T1' j ++ [j].filter fun p => (hd T1' p).isNone := fun j => by
          unfold aloneL
          rw [List.range_succ, List.filter_append]
        obtain ⟨d0, hd0, hr0⟩ := hD12.at hm0
        have TR12 := TR4.grow g12
        refine iteF ⟨.ref r, rfl, r, _, rfl, .inl (SqL.of TR12.top), _, rfl, by rw [hlr]; omega, by rw [hlr]; omega, fun D2 hD2 => lc_rng n (by rw [hlr]; omega)
          (fun j H3 => Same H12 H3 ∧ H3 D2 = some (.lst ((aloneL T1' j).map nv))) ⟨same_upd hD2, upd_same⟩ (fun j H3 hj h => ?_) (fun H13 h => ?_)⟩
        · obtain ⟨e3, hD3⟩ := h
          refine ⟨rfl, ?_⟩
          rw [Int.zero_add]
          simp only [tRaiseErr, tMkErr, tCallS, WE, tLenSetI, cx_K, cx_w, wipe, Int.zero_add, Bool.false_eq_true, if_false, if_true, Bool.not_true, Bool.not_false, tSeq, tAsg, tOp, tVar, tC, tRet, tRetN, tNext, tDrop, tIfS, tB, tTest, tIf, tAnd, tOr, tNot, tAndV, tOrV, tNotV, tUn, tCons, tNil, tCall, tCB, tBM, tBM0, tNoPart, tPart, tSl, tCont, tNever, tTup, tLst, gName, gNil, gCons, gTup, gSub, rI, rI0, rU, rEq, rNe, rIxL, rSlL, rSetL, rLn, rLs, rTs, rIn, rSet0, tSAdd, rSAdd, rSIn, rSNotIn, rRep, rCat, rAppend, rPop, rPopAt, iList, iRng1, iRng2, iEnum, gTup, tIsN, tNotN, tTru, tLstRg, tRg1, tRg2, L2.start, List.map_cons, List.map_nil, List.length_cons, List.length_nil, List.replicate, List.cons_append, List.nil_append, List.getElem?_cons_zero, List.getElem?_cons_succ, List.set_cons_zero, List.set_cons_succ, Option.some.injEq, exists_eq_left', V.int.injEq, V.ref.injEq, V.bl.injEq, List.cons.injEq, exists_and_left, exists_and_right, and_true, true_and, exists_eq_left, exists_eq, Nat.reduceAdd, Nat.reduceSub]
          have hml := dl m0 (List.mem_of_getElem? hm0)
          refine ⟨_, SqL.of (e3 _ _ hD12.top), .ref d0, atI_nat (j := 0) (by rw [List.getElem?_map, hd0]; rfl), d0, rfl, _, SqL.of (e3 _ _ hr0), ov (mO m0 j), atI_nat (by rw [List.getElem?_map, mO_at (by omega)]; rfl), ?_⟩
          rw [isNon_ov, due_alone L Rlt l1 (List.mem_of_getElem? hm0) j]
          have hlen := alen j
          cases hc : (hd T1' j).isNone with
          | false =>
            refine iteF ⟨e3, ?_⟩
            rw [asucc, List.filter_cons, if_neg (by rw [hc]; decide), List.filter_nil, List.append_nil]
            exact hD3
          | true =>
            refine iteT ⟨_, hD3, by rw [List.length_map]; exact small (by omega), fun b o ho => ?_, ?_⟩
            · rw [upd_ne (ne_of_none ho hD2)]
              exact e3 b o ho
            · rw [upd_same, asucc, List.filter_cons, if_pos hc, List.filter_nil, List.map_append]
              rfl
        · obtain ⟨e13, hD13⟩ := h
          have g13 := g12.trans (Same.grow e13)
          have hD3_ := hD12.same e13
          obtain ⟨N, hN⟩ : ∃ N : L2.St → Hp → Prop, N = (fun σ H14 => σ = [some (.ref a), some (.ref t), some (.ref r), some (.ref D), y4, some (.ref hd_), y6, some (.ref F), some (.ref Dt), some (.ref rr), some (.ref D2), none, none, none] ∧ Grow H13 H14) := ⟨_, rfl⟩
          refine ⟨N, ?_, fun σ H14 h => ?_⟩
          · simp only [tRaiseErr, tMkErr, tCallS, WE, tLenSetI, cx_K, cx_w, wipe, Int.zero_add, Bool.false_eq_true, if_false, if_true, Bool.not_true, Bool.not_false, tSeq, tAsg, tOp, tVar, tC, tRet, tRetN, tNext, tDrop, tIfS, tB, tTest, tIf, tAnd, tOr, tNot, tAndV, tOrV, tNotV, tUn, tCons, tNil, tCall, tCB, tBM, tBM0, tNoPart, tPart, tSl, tCont, tNever, tTup, tLst, gName, gNil, gCons, gTup, gSub, rI, rI0, rU, rEq, rNe, rIxL, rSlL, rSetL, rLn, rLs, rTs, rIn, rSet0, tSAdd, rSAdd, rSIn, rSNotIn, rRep, rCat, rAppend, rPop, rPopAt, iList, iRng1, iRng2, iEnum, gTup, tIsN, tNotN, tTru, tLstRg, tRg1, tRg2, L2.start, List.map_cons, List.map_nil, List.length_cons, List.length_nil, List.replicate, List.cons_append, List.nil_append, List.getElem?_cons_zero, List.getElem?_cons_succ, List.set_cons_zero, List.set_cons_succ, Option.some.injEq, exists_eq_left', V.int.injEq, V.ref.injEq, V.bl.injEq, List.cons.injEq, exists_and_left, exists_and_right, and_true, true_and, exists_eq_left, exists_eq, Nat.reduceAdd, Nat.reduceSub]
            refine notin_pgs (e13 _ _ (e12 _ _ (g10.lst hDt))) hD3_ ⟨_, rfl, ?_⟩
            rw [decide_eq_true (due_half L Rlt l1 ho)]
            refine iteF ⟨Nat.zero_le _, fun p2 hp2 => ?_⟩
            refine ne_tbl (s := []) (((TR10.same e12).same e13).same (same_upd hp2)) (Tbl.nil upd_same) ⟨_, rfl, ?_⟩
            rw [decide_eq_true ho]
            have e14 := same_upd (o := .lst []) hp2
            refine iteF ⟨t, as, rows, rfl, (T4.grow g13).same e14, g, by omega, (g13.trans (Same.grow e14)).tab tg4, fun H14 D5 T' g14 hD5 lo hDl => ?_⟩
            rw [same1 lo, ← hn] at hDl
            refine ne_row (SqL.of hDl) (SqL.of (g14.lst (e14 _ _ hD13))) ⟨_, rfl, ?_⟩
            rw [decide_eq_true rfl]
            refine iteF ?_
            rw [hN]
            exact ⟨rfl, (Same.grow e14).trans g14⟩
          rw [hN] at h
          clear hN N
          obtain ⟨rfl, g14⟩ := h
          have hD14 := hD3_.grow g14
          have TR14 := (TR12.same e13).grow g14
          refine ⟨.ref D, rfl, D, rfl, ⟨_, SqL.of hD14.top⟩, for_list (K := K) (xs := ds.map V.ref) (fun i σ H15 => ∃ (y4 y11 : Option V), σ = [some (.ref a), some (.ref t), some (.ref r), some (.ref D), y4, some (.ref hd_), y6, some (.ref F), some (.ref Dt), some (.ref rr), some (.ref D2), y11, none, none] ∧ Same H14 H15) ⟨_, _, rfl, Same.refl _⟩ (fun i σ H15 _ h => by obtain ⟨_, _, _, e⟩ := h; exact SqL.of (e _ _ hD14.top)) (fun i x σ H15 hx h => ?_) (fun σ H15 h => ?_)⟩
          · obtain ⟨y4, y11, rfl, e15⟩ := h
            rw [List.getElem?_map] at hx
            obtain ⟨b, hb, rfl⟩ := Option.map_eq_some_iff.mp hx
            have hi : i < (dueL R n).length := by rw [← hD14.len]; exact (List.getElem?_eq_some_iff.mp hb).1
            obtain ⟨m, hm⟩ : ∃ m, (dueL R n)[i]? = some m := ⟨_, List.getElem?_eq_getElem hi⟩
            have hrb := e15 _ _ (hD14.row i b m hb hm)
            have hml := dl m (List.mem_of_getElem? hm)
            simp only [tRaiseErr, tMkErr, tCallS, WE, tLenSetI, cx_K, cx_w, wipe, Int.zero_add, Bool.false_eq_true, if_false, if_true, Bool.not_true, Bool.not_false, tSeq, tAsg, tOp, tVar, tC, tRet, tRetN, tNext, tDrop, tIfS, tB, tTest, tIf, tAnd, tOr, tNot, tAndV, tOrV, tNotV, tUn, tCons, tNil, tCall, tCB, tBM, tBM0, tNoPart, tPart, tSl, tCont, tNever, tTup, tLst, gName, gNil, gCons, gTup, gSub, rI, rI0, rU, rEq, rNe, rIxL, rSlL, rSetL, rLn, rLs, rTs, rIn, rSet0, tSAdd, rSAdd, rSIn, rSNotIn, rRep, rCat, rAppend, rPop, rPopAt, iList, iRng1, iRng2, iEnum, gTup, tIsN, tNotN, tTru, tLstRg, tRg1, tRg2, L2.start, List.map_cons, List.map_nil, List.length_cons, List.length_nil, List.replicate, List.cons_append, List.nil_append, List.getElem?_cons_zero, List.getElem?_cons_succ, List.set_cons_zero, List.set_cons_succ, Option.some.injEq, exists_eq_left', V.int.injEq, V.ref.injEq, V.bl.injEq, List.cons.injEq, exists_and_left, exists_and_right, and_true, true_and, exists_eq_left, exists_eq, Nat.reduceAdd, Nat.reduceSub]
            have TR15 := TR14.same e15
            refine ⟨.ref r, rfl, r, _, rfl, .inl (SqL.of TR15.top), _, rfl, by rw [hlr]; omega, by rw [hlr]; omega, fun D6 hD6 => lc_rng n (by rw [hlr]; omega)
              (fun j H3 => Same H15 H3 ∧ H3 D6 = some (.lst ((aloneL T1' j).map nv))) ⟨same_upd hD6, upd_same⟩ (fun j H3 hj h => ?_) (fun H16 h => ?_)⟩
            · obtain ⟨e3, hD3⟩ := h
              refine ⟨rfl, ?_⟩
              rw [Int.zero_add]
              simp only [tRaiseErr, tMkErr, tCallS, WE, tLenSetI, cx_K, cx_w, wipe, Int.zero_add, Bool.false_eq_true, if_false, if_true, Bool.not_true, Bool.not_false, tSeq, tAsg, tOp, tVar, tC, tRet, tRetN, tNext, tDrop, tIfS, tB, tTest, tIf, tAnd, tOr, tNot, tAndV, tOrV, tNotV, tUn, tCons, tNil, tCall, tCB, tBM, tBM0, tNoPart, tPart, tSl, tCont, tNever, tTup, tLst, gName, gNil, gCons, gTup, gSub, rI, rI0, rU, rEq, rNe, rIxL, rSlL, rSetL, rLn, rLs, rTs, rIn, rSet0, tSAdd, rSAdd, rSIn, rSNotIn, rRep, rCat, rAppend, rPop, rPopAt, iList, iRng1, iRng2, iEnum, gTup, tIsN, tNotN, tTru, tLstRg, tRg1, tRg2, L2.start, List.map_cons, List.map_nil, List.length_cons, List.length_nil, List.replicate, List.cons_append, List.nil_append, List.getElem?_cons_zero, List.getElem?_cons_succ, List.set_cons_zero, List.set_cons_succ, Option.some.injEq, exists_eq_left', V.int.injEq, V.ref.injEq, V.bl.injEq, List.cons.injEq, exists_and_left, exists_and_right, and_true, true_and, exists_eq_left, exists_eq, Nat.reduceAdd, Nat.reduceSub]
              refine ⟨_, SqL.of (e3 _ _ hrb), ov (mO m j), atI_nat (by rw [List.getElem?_map, mO_at (by omega)]; rfl), ?_⟩
              rw [isNon_ov, due_alone L Rlt l1 (List.mem_of_getElem? hm) j]
              have hlen := alen j
              cases hc : (hd T1' j).isNone with
              | false =>
                refine iteF ⟨e3, ?_⟩
                rw [asucc, List.filter_cons, if_neg (by rw [hc]; decide), List.filter_nil, List.append_nil]
                exact hD3
              | true =>
                refine iteT ⟨_, hD3, by rw [List.length_map]; exact small (by omega), fun b o ho => ?_, ?_⟩
                · rw [upd_ne (ne_of_none ho hD6)]
                  exact e3 b o ho
                · rw [upd_same, asucc, List.filter_cons, if_pos hc, List.filter_nil, List.map_append]
                  rfl
            · obtain ⟨e16, hD16⟩ := h
              refine ne_row (SqL.of hD16) (SqL.of (e16 _ _ (e15 _ _ (g14.lst hD13)))) ⟨_, rfl, ?_⟩
              rw [decide_eq_true rfl]
              exact iteF ⟨⟨_, rfl⟩, e15.trans e16⟩
          · obtain ⟨y4, y11, rfl, e15⟩ := h
            rw [hM]
            exact ⟨_, _, _, rfl, (g13.trans g14).trans (Same.grow e15)⟩
    rw [hM] at h
    clear hM M
    obtain ⟨y4, y10, y11, rfl, g12⟩ := h
    have T12 := T4.grow g12
    -- more of them
    obtain ⟨M, hM⟩ : ∃ M : L2.St → Hp → Prop, M = (fun σ H13 => ∃ (mo : Addr) (mas : List Addr), σ = [some (.ref a), some (.ref t), some (.ref r), some (.ref D), y4, some (.ref hd_), y6, some (.ref F), some (v9), some (.ref rr), y10, y11, some (.ref mo), none] ∧ Same H12 H13 ∧ Tbl H13 mo mas (rows ++ List.replicate (11 - n) [])) := ⟨_, rfl⟩
    refine ⟨M, ?_, fun σ H13 h => ?_⟩
    · simp only [tRaiseErr, tMkErr, tCallS, WE, tLenSetI, cx_K, cx_w, wipe, Int.zero_add, Bool.false_eq_true, if_false, if_true, Bool.not_true, Bool.not_false, tSeq, tAsg, tOp, tVar, tC, tRet, tRetN, tNext, tDrop, tIfS, tB, tTest, tIf, tAnd, tOr, tNot, tAndV, tOrV, tNotV, tUn, tCons, tNil, tCall, tCB, tBM, tBM0, tNoPart, tPart, tSl, tCont, tNever, tTup, tLst, gName, gNil, gCons, gTup, gSub, rI, rI0, rU, rEq, rNe, rIxL, rSlL, rSetL, rLn, rLs, rTs, rIn, rSet0, tSAdd, rSAdd, rSIn, rSNotIn, rRep, rCat, rAppend, rPop, rPopAt, iList, iRng1, iRng2, iEnum, gTup, tIsN, tNotN, tTru, tLstRg, tRg1, tRg2, L2.start, List.map_cons, List.map_nil, List.length_cons, List.length_nil, List.replicate, List.cons_append, List.nil_append, List.getElem?_cons_zero, List.getElem?_cons_succ, List.set_cons_zero, List.set_cons_succ, Option.some.injEq, exists_eq_left', V.int.injEq, V.ref.injEq, V.bl.injEq, List.cons.injEq, exists_and_left, exists_and_right, and_true, true_and, exists_eq_left, exists_eq, Nat.reduceAdd, Nat.reduceSub]
      have hal : (as.map V.ref).length = n := by rw [List.length_map, T12.len, ← hn]
      refine ⟨.ref t, rfl, t, _, rfl, .inl (SqL.of T12.top), 11, _, rfl, rfl, _, rfl, by rw [hal]; omega, by rw [hal]; omega, fun D5 hD5 => lc_rng (11 - n) (by rw [hal]; omega) (Emp H12 D5) (emp_zero (Same.refl H12) hD5) (fun i H2 hi h => ?_) (fun H13 h => ?_)⟩
      · refine ⟨rfl, yesI ⟨Nat.zero_le _, fun d hd => ?_⟩⟩
        exact emp_step hD5 h (by omega) hd
      · obtain ⟨es, hes, e13, TE⟩ := h
        have TE' := TE.len
        rw [mkL_len] at TE'
        refine ⟨D5, rfl, _, (T12.same e13).top, _, TE.top, ?_, fun p hp => ?_⟩
        · rw [hal, List.length_map, TE']
          exact Nat.le_of_lt (small (by omega))
        · rw [hM]
          refine ⟨p, _, rfl, same_upd2 e13 (e13.free hp), tbl_pad (T12.same e13) TE (fun a ha hb => ?_) hp⟩
          obtain ⟨i, hi⟩ := List.mem_iff_getElem?.mp hb
          have hil := (List.getElem?_eq_some_iff.mp hi).1
          have := T12.row i a _ hi (fn_at (by rw [← T12.len]; exact hil))
          have this : H12 a = some _ := this
          rw [hes a ha] at this
          cases this
    rw [hM] at h
    clear hM M
    obtain ⟨mo, mas, rfl, e13, TM⟩ := h
    have gM := gl_pad g (11 - n)
    have hml : (rows ++ List.replicate (11 - n) ([] : List Nat)).length = 11 := by rw [List.length_append, List.length_replicate]; omega
    -- they are refused
    obtain ⟨M, hM⟩ : ∃ M : L2.St → Hp → Prop, M = (fun σ H14 => σ = [some (.ref a), some (.ref t), some (.ref r), some (.ref D), y4, some (.ref hd_), y6, some (.ref F), some (v9), some (.ref rr), y10, y11, some (.ref mo), none] ∧ Same H13 H14) := ⟨_, rfl⟩
    refine ⟨M, ?_, fun σ H14 h => ?_⟩
    · simp only [tRaiseErr, tMkErr, tCallS, WE, tLenSetI, cx_K, cx_w, wipe, Int.zero_add, Bool.false_eq_true, if_false, if_true, Bool.not_true, Bool.not_false, tSeq, tAsg, tOp, tVar, tC, tRet, tRetN, tNext, tDrop, tIfS, tB, tTest, tIf, tAnd, tOr, tNot, tAndV, tOrV, tNotV, tUn, tCons, tNil, tCall, tCB, tBM, tBM0, tNoPart, tPart, tSl, tCont, tNever, tTup, tLst, gName, gNil, gCons, gTup, gSub, rI, rI0, rU, rEq, rNe, rIxL, rSlL, rSetL, rLn, rLs, rTs, rIn, rSet0, tSAdd, rSAdd, rSIn, rSNotIn, rRep, rCat, rAppend, rPop, rPopAt, iList, iRng1, iRng2, iEnum, gTup, tIsN, tNotN, tTru, tLstRg, tRg1, tRg2, L2.start, List.map_cons, List.map_nil, List.length_cons, List.length_nil, List.replicate, List.cons_append, List.nil_append, List.getElem?_cons_zero, List.getElem?_cons_succ, List.set_cons_zero, List.set_cons_succ, Option.some.injEq, exists_eq_left', V.int.injEq, V.ref.injEq, V.bl.injEq, List.cons.injEq, exists_and_left, exists_and_right, and_true, true_and, exists_eq_left, exists_eq, Nat.reduceAdd, Nat.reduceSub]
      refine ⟨_, rfl, .inr ⟨mo, mas, _, rfl, TM, gM, by rw [hml]; decide, .inl ⟨by rw [hml]; decide, fun H14 e14 => ⟨rfl, ?_⟩⟩⟩⟩
      rw [decide_eq_true rfl]
      have TM14 := TM.same e14
      have hmal : (mas.map V.ref).length = 11 := by rw [List.length_map, TM14.len, hml]
      refine iteF ⟨by decide, fun p hp => ⟨by decide, fun p1 hp1 => ?_⟩⟩
      have e15 := same_upd (o := .lst [V.int 99]) hp
      have h99 : upd H14 p (.lst [V.int 99]) p = some (.lst [V.int 99]) := upd_same
      generalize upd H14 p (.lst [V.int 99]) = H15 at e15 h99 hp1 ⊢
      have e16 := same_upd (o := .lst [V.ref p]) hp1
      have h1 : upd H15 p1 (.lst [V.ref p]) p1 = some (.lst [V.ref p]) := upd_same
      have h99' := e16 _ _ h99
      generalize upd H15 p1 (.lst [V.ref p]) = H16 at e16 h1 h99' ⊢
      have TM16 := (TM14.same e15).same e16
      refine ⟨_, TM16.top, _, h1, by rw [hmal]; exact (by decide : 12 ≤ sizeLine), fun p2 hp2 => ?_⟩
      have e17 := same_upd (o := .lst (mas.map V.ref ++ [V.ref p])) hp2
      have h2 : upd H16 p2 (.lst (mas.map V.ref ++ [V.ref p])) p2 = some (.lst (mas.map V.ref ++ [V.ref p])) := upd_same
      have h99'' := e17 _ _ h99'
      have TM17 := TM16.same e17
      have e47 := ((e15.trans e16).trans e17)
      generalize upd H16 p2 (.lst (mas.map V.ref ++ [V.ref p])) = H17 at e17 h2 h99'' TM17 e47 ⊢
      have hl12 : (mas.map V.ref ++ [V.ref p]).length = 12 := by rw [List.length_append, hmal]; rfl
      refine ⟨_, rfl, .inl ⟨nv 11, .inl ⟨p2, _, fun i => decide (i < 11), 11, rfl, h2, by rw [hl12]; decide, fun i y hy => ?_, by rw [hl12]; decide, by decide, fun j hj => decide_eq_true hj, rfl⟩, fun H18 e18 => ⟨rfl, ?_⟩⟩⟩
      · rw [hl12]
        by_cases hi : i < 11
        · rw [List.getElem?_append_left (by rw [hmal]; exact hi), List.getElem?_map] at hy
          obtain ⟨b, hb, rfl⟩ := Option.map_eq_some_iff.mp hy
          have hrow := fn_at (rows := rows ++ List.replicate (11 - n) ([] : List Nat)) (i := i) (by rw [hml]; exact hi)
          have hrb := TM17.row i b _ hb hrow
          obtain ⟨gd, gl⟩ := gM.ok i _ hrow
          refine .inl ⟨b, _, rfl, hrb, fun y hy => ?_, ?_, ?_⟩
          · obtain ⟨z, _, rfl⟩ := List.mem_map.mp hy
            obtain ⟨k, hk, _⟩ := kd_flat (K := K) (H := H17) (x := nv z) rfl
            exact ⟨k, hk⟩
          · rw [List.length_map]
            have := gM.len i
            rw [hml] at this
            omega
          · show decide (i < 11) = _
            rw [decide_eq_true hi]
            exact (rowB_good gd (fun x hx => ⟨by have := (gl x hx).1; rw [hml] at this; omega, (gl x hx).2⟩) fun x _ z => by simp at z).symm
        · have hil := (List.getElem?_eq_some_iff.mp hy).1
          rw [hl12] at hil
          have : i = 11 := by omega
          subst this
          rw [List.getElem?_append_right (by rw [hmal]; exact Nat.le_refl _), hmal] at hy
          cases hy
          refine .inl ⟨p, _, rfl, h99'', fun y hy => ?_, by decide, row99.symm⟩
          have : y = nv 99 := List.mem_singleton.mp hy
          subst this
          obtain ⟨k, hk, _⟩ := kd_flat (K := K) (H := H17) (x := nv 99) rfl
          exact ⟨k, hk⟩
      · rw [decide_eq_true rfl]
        refine iteF ?_
        rw [hM]
        exact ⟨rfl, (e14.trans e47).trans e18⟩
    rw [hM] at h
    clear hM M
    obtain ⟨rfl, e14⟩ := h
    simp only [tRaiseErr, tMkErr, tCallS, WE, tLenSetI, cx_K, cx_w, wipe, Int.zero_add, Bool.false_eq_true, if_false, if_true, Bool.not_true, Bool.not_false, tSeq, tAsg, tOp, tVar, tC, tRet, tRetN, tNext, tDrop, tIfS, tB, tTest, tIf, tAnd, tOr, tNot, tAndV, tOrV, tNotV, tUn, tCons, tNil, tCall, tCB, tBM, tBM0, tNoPart, tPart, tSl, tCont, tNever, tTup, tLst, gName, gNil, gCons, gTup, gSub, rI, rI0, rU, rEq, rNe, rIxL, rSlL, rSetL, rLn, rLs, rTs, rIn, rSet0, tSAdd, rSAdd, rSIn, rSNotIn, rRep, rCat, rAppend, rPop, rPopAt, iList, iRng1, iRng2, iEnum, gTup, tIsN, tNotN, tTru, tLstRg, tRg1, tRg2, L2.start, List.map_cons, List.map_nil, List.length_cons, List.length_nil, List.replicate, List.cons_append, List.nil_append, List.getElem?_cons_zero, List.getElem?_cons_succ, List.set_cons_zero, List.set_cons_succ, Option.some.injEq, exists_eq_left', V.int.injEq, V.ref.injEq, V.bl.injEq, List.cons.injEq, exists_and_left, exists_and_right, and_true, true_and, exists_eq_left, exists_eq, Nat.reduceAdd, Nat.reduceSub]
    have TM14 := TM.same e14
    refine ⟨_, SqL.of TM14.top, fun p hp => ?_⟩
    have T15 := tbl_take TM14 10 hp
    rw [take_pad (by omega) (by omega), ← hn] at T15
    have hc : cutV (mas.map V.ref) none (some 10) = (mas.take 10).map V.ref := by
      rw [show (10 : Int) = ((10 : Nat) : Int) from rfl, cutV_take, List.map_take]
    rw [hc]
    have hl10 : (rows ++ List.replicate (10 - n) ([] : List Nat)).length = 10 := by rw [List.length_append, List.length_replicate]; omega
    refine ⟨_, rfl, .inr ⟨p, _, _, rfl, T15, gl_pad g _, by rw [hl10]; decide, .inr ⟨by rw [hl10]; exact Nat.le_refl _, fun i => by rw [mut_pad]; exact R6' i, fun i hi => by rw [mut_pad]; exact R7' i hi, fun H16 e16 => ⟨rfl, ?_⟩⟩⟩⟩
    rw [decide_eq_true rfl]
    exact q _
end
end K6

set_option Elab.async false
set_option linter.all false
set_option maxRecDepth 100000
set_option maxHeartbeats 4000000
namespace K6
open PySem PySem.Spec PyProof.Rows L2 LamX Bk
theorem tab_nil {H : Hp} {P0 : Addr} {q : Str} (h : H P0 = some (.tbl #[])) : TabS H P0 q := ⟨#[], h, trivial, fun pos cv hc => by cases hc⟩
theorem all_mk {l : PySem.W.OpenLaw} {w : World} {K : PySem.W.Frag} {h : Heap} {mg : Str → Option Value} {fa : Addr} (X : K.In h) (G : h.Ns mainGlobals mg) (hfa : mg "law" = some (.ref fa)) {P0 c_0 : Addr} {P1 c_1 : Addr} (hP0 : h.get? P0 = some { cls := .none, data := .fields #[] }) (hP1 : h.get? P1 = some { cls := .none, data := .fields #[] })
    {od0 an0 : Option Addr} {sl0 : Array (Option Value)} {oc0 kV0 dc0 pm0 cd0 ct0 : Value} {f0 : Addr}
    {od1 an1 : Option Addr} {sl1 : Array (Option Value)} {oc1 kV1 dc1 pm1 cd1 ct1 : Value} {f1 : Addr}
    {od2 an2 : Option Addr} {sl2 : Array (Option Value)} {oc2 kV2 dc2 pm2 cd2 ct2 : Value} {f2 : Addr}
    {od3 an3 : Option Addr} {sl3 : Array (Option Value)} {oc3 kV3 dc3 pm3 cd3 ct3 : Value} {f3 : Addr}
    {od4 an4 : Option Addr} {sl4 : Array (Option Value)} {oc4 kV4 dc4 pm4 cd4 ct4 : Value} {f4 : Addr}
    {od5 an5 : Option Addr} {sl5 : Array (Option Value)} {oc5 kV5 dc5 pm5 cd5 ct5 : Value} {f5 : Addr}
    {od6 an6 : Option Addr} {sl6 : Array (Option Value)} {oc6 kV6 dc6 pm6 cd6 ct6 : Value} {f6 : Addr}
    {od7 an7 : Option Addr} {sl7 : Array (Option Value)} {oc7 kV7 dc7 pm7 cd7 ct7 : Value} {f7 : Addr}
    {od8 an8 : Option Addr} {sl8 : Array (Option Value)} {oc8 kV8 dc8 pm8 cd8 ct8 : Value} {f8 : Addr}
    {od9 an9 : Option Addr} {sl9 : Array (Option Value)} {oc9 kV9 dc9 pm9 cd9 ct9 : Value} {f9 : Addr}
    {od10 an10 : Option Addr} {sl10 : Array (Option Value)} {oc10 kV10 dc10 pm10 cd10 ct10 : Value} {f10 : Addr}
    {od11 an11 : Option Addr} {sl11 : Array (Option Value)} {oc11 kV11 dc11 pm11 cd11 ct11 : Value} {f11 : Addr}
    {od12 an12 : Option Addr} {sl12 : Array (Option Value)} {oc12 kV12 dc12 pm12 cd12 ct12 : Value} {f12 : Addr}
    {od13 an13 : Option Addr} {sl13 : Array (Option Value)} {oc13 kV13 dc13 pm13 cd13 ct13 : Value} {f13 : Addr}
    {od14 an14 : Option Addr} {sl14 : Array (Option Value)} {oc14 kV14 dc14 pm14 cd14 ct14 : Value} {f14 : Addr}
    {od15 an15 : Option Addr} {sl15 : Array (Option Value)} {oc15 kV15 dc15 pm15 cd15 ct15 : Value} {f15 : Addr}
    {od16 an16 : Option Addr} {sl16 : Array (Option Value)} {oc16 kV16 dc16 pm16 ct16 : Value} {f16 : Addr}
    {od17 an17 : Option Addr} {sl17 : Array (Option Value)} {oc17 kV17 dc17 pm17 cd17 ct17 : Value} {f17 : Addr}
    {od18 an18 : Option Addr} {sl18 : Array (Option Value)} {oc18 kV18 dc18 pm18 cd18 ct18 : Value} {f18 : Addr}
    {od19 an19 : Option Addr} {sl19 : Array (Option Value)} {oc19 kV19 dc19 pm19 cd19 ct19 : Value} {f19 : Addr}
    {od20 an20 : Option Addr} {sl20 : Array (Option Value)} {oc20 kV20 dc20 pm20 cd20 ct20 : Value} {f20 : Addr}
    {od21 an21 : Option Addr} {sl21 : Array (Option Value)} {oc21 kV21 dc21 pm21 cd21 ct21 : Value} {f21 : Addr}
    {od22 an22 : Option Addr} {sl22 : Array (Option Value)} {oc22 kV22 dc22 pm22 cd22 ct22 : Value} {f22 : Addr}
    {od23 an23 : Option Addr} {sl23 : Array (Option Value)} {oc23 kV23 dc23 pm23 cd23 ct23 : Value} {f23 : Addr}
    {od24 an24 : Option Addr} {sl24 : Array (Option Value)} {oc24 kV24 dc24 pm24 cd24 ct24 : Value} {f24 : Addr}
    {od25 an25 : Option Addr} {sl25 : Array (Option Value)} {oc25 kV25 dc25 pm25 cd25 ct25 : Value} {f25 : Addr}
    {od26 an26 : Option Addr} {sl26 : Array (Option Value)} {oc26 kV26 dc26 pm26 ct26 : Value} {f26 : Addr}
    {od27 an27 : Option Addr} {sl27 : Array (Option Value)} {oc27 kV27 dc27 pm27 cd27 ct27 : Value} {f27 : Addr}
    {od28 an28 : Option Addr} {sl28 : Array (Option Value)} {oc28 kV28 dc28 pm28 cd28 ct28 : Value} {f28 : Addr}
    {od29 an29 : Option Addr} {sl29 : Array (Option Value)} {oc29 kV29 dc29 pm29 cd29 ct29 : Value} {f29 : Addr}
    {od30 an30 : Option Addr} {sl30 : Array (Option Value)} {oc30 kV30 dc30 pm30 cd30 ct30 : Value} {f30 : Addr}
    {od31 an31 : Option Addr} {sl31 : Array (Option Value)} {oc31 kV31 dc31 pm31 cd31 ct31 : Value} {f31 : Addr}
    {od32 an32 : Option Addr} {sl32 : Array (Option Value)} {oc32 kV32 dc32 pm32 cd32 ct32 : Value} {f32 : Addr}
    {od33 an33 : Option Addr} {sl33 : Array (Option Value)} {oc33 kV33 dc33 pm33 cd33 ct33 : Value} {f33 : Addr}
    {tm : Tok}
    {tms : Tok}
    {CB CM CL CP : Addr}
    {nmCL qCL : Str} {NCL : Addr} {bsCL bmCL : List Value} {snCL : List Str} {suCL : List Value} {abCL : Bool} {coCL : Option Bool} {ddCL : Option Addr} {u0CL u1CL u2CL u3CL u5CL : Option Value}
    {fiCL cdaCL ccCL : Addr} {ocCL docCL pmCL ctCL cclCL clCL : Value} {odCL anCL cddCL cldCL : Option Addr} {oslCL ccsCL cslCL : Array (Option Value)} {p1CL p2CL q1CL q2CL q3CL q4CL q5CL q6CL q7CL q8CL q9CL r1CL r2CL r3CL r4CL : Pos} {vsCL : Array Value} {fileCL : Str} {tfCL : Tok}
    {nmCP qCP : Str} {NCP : Addr} {bsCP bmCP : List Value} {snCP : List Str} {suCP : List Value} {abCP : Bool} {coCP : Option Bool} {ddCP : Option Addr} {u0CP u1CP u2CP u3CP u5CP : Option Value}
    {fiCP cdaCP ccCP : Addr} {ocCP docCP pmCP ctCP cclCP clCP : Value} {odCP anCP cddCP cldCP : Option Addr} {oslCP ccsCP cslCP : Array (Option Value)} {p1CP p2CP q1CP q2CP q3CP q4CP q5CP q6CP q7CP q8CP q9CP r1CP r2CP r3CP r4CP : Pos} {vsCP : Array Value} {fileCP : Str} {tfCP : Tok}
    (a0 : PySem.W.nsIn K mainGlobals "is_number" = some (some (.ref f0))) (l0 : K.lookup f0 = some ⟨oc0, od0, .func (PySem.W.fnOf "is_number" "is_number" (defArgs s_is_number) (defBody s_is_number) (defScope s_is_number) .none kV0 dc0 pm0 an0 cd0 ct0), sl0⟩) (c0 : PySem.W.codeIn K cd0 "is_number" = true) (k0 : PySem.W.keepIn K (.ref f0) = true)
    (a1 : PySem.W.nsIn K mainGlobals "is_row" = some (some (.ref f1))) (l1 : K.lookup f1 = some ⟨oc1, od1, .func (PySem.W.fnOf "is_row" "is_row" (defArgs s_is_row) (defBody s_is_row) (defScope s_is_row) .none kV1 dc1 pm1 an1 cd1 ct1), sl1⟩) (c1 : PySem.W.codeIn K cd1 "is_row" = true) (k1 : PySem.W.keepIn K (.ref f1) = true)
    (a2 : PySem.W.nsIn K mainGlobals "check_lists" = some (some (.ref f2))) (l2 : K.lookup f2 = some ⟨oc2, od2, .func (PySem.W.fnOf "check_lists" "check_lists" (defArgs s_check_lists) (defBody s_check_lists) (defScope s_check_lists) .none kV2 dc2 pm2 an2 cd2 ct2), sl2⟩) (c2 : PySem.W.codeIn K cd2 "check_lists" = true) (k2 : PySem.W.keepIn K (.ref f2) = true)
    (a3 : PySem.W.nsIn K mainGlobals "places_in" = some (some (.ref f3))) (l3 : K.lookup f3 = some ⟨oc3, od3, .func (PySem.W.fnOf "places_in" "places_in" (defArgs s_places_in) (defBody s_places_in) (defScope s_places_in) .none kV3 dc3 pm3 an3 cd3 ct3), sl3⟩) (c3 : PySem.W.codeIn K cd3 "places_in" = true) (k3 : PySem.W.keepIn K (.ref f3) = true)
    (a4 : PySem.W.nsIn K mainGlobals "mutual" = some (some (.ref f4))) (l4 : K.lookup f4 = some ⟨oc4, od4, .func (PySem.W.fnOf "mutual" "mutual" (defArgs s_mutual) (defBody s_mutual) (defScope s_mutual) .none kV4 dc4 pm4 an4 cd4 ct4), sl4⟩) (c4 : PySem.W.codeIn K cd4 "mutual" = true) (k4 : PySem.W.keepIn K (.ref f4) = true)
    (a5 : PySem.W.nsIn K mainGlobals "cut_behind" = some (some (.ref f5))) (l5 : K.lookup f5 = some ⟨oc5, od5, .func (PySem.W.fnOf "cut_behind" "cut_behind" (defArgs s_cut_behind) (defBody s_cut_behind) (defScope s_cut_behind) .none kV5 dc5 pm5 an5 cd5 ct5), sl5⟩) (c5 : PySem.W.codeIn K cd5 "cut_behind" = true) (k5 : PySem.W.keepIn K (.ref f5) = true)
    (a6 : PySem.W.nsIn K mainGlobals "offered" = some (some (.ref f6))) (l6 : K.lookup f6 = some ⟨oc6, od6, .func (PySem.W.fnOf "offered" "offered" (defArgs s_offered) (defBody s_offered) (defScope s_offered) .none kV6 dc6 pm6 an6 cd6 ct6), sl6⟩) (c6 : PySem.W.codeIn K cd6 "offered" = true) (k6 : PySem.W.keepIn K (.ref f6) = true)
    (a7 : PySem.W.nsIn K mainGlobals "would_rather" = some (some (.ref f7))) (l7 : K.lookup f7 = some ⟨oc7, od7, .func (PySem.W.fnOf "would_rather" "would_rather" (defArgs s_would_rather) (defBody s_would_rather) (defScope s_would_rather) .none kV7 dc7 pm7 an7 cd7 ct7), sl7⟩) (c7 : PySem.W.codeIn K cd7 "would_rather" = true) (k7 : PySem.W.keepIn K (.ref f7) = true)
    (a8 : PySem.W.nsIn K mainGlobals "spoiling" = some (some (.ref f8))) (l8 : K.lookup f8 = some ⟨oc8, od8, .func (PySem.W.fnOf "spoiling" "spoiling" (defArgs s_spoiling) (defBody s_spoiling) (defScope s_spoiling) .none kV8 dc8 pm8 an8 cd8 ct8), sl8⟩) (c8 : PySem.W.codeIn K cd8 "spoiling" = true) (k8 : PySem.W.keepIn K (.ref f8) = true)
    (a9 : PySem.W.nsIn K mainGlobals "with_mate" = some (some (.ref f9))) (l9 : K.lookup f9 = some ⟨oc9, od9, .func (PySem.W.fnOf "with_mate" "with_mate" (defArgs s_with_mate) (defBody s_with_mate) (defScope s_with_mate) .none kV9 dc9 pm9 an9 cd9 ct9), sl9⟩) (c9 : PySem.W.codeIn K cd9 "with_mate" = true) (k9 : PySem.W.keepIn K (.ref f9) = true)
    (a10 : PySem.W.nsIn K mainGlobals "pairings_in" = some (some (.ref f10))) (l10 : K.lookup f10 = some ⟨oc10, od10, .func (PySem.W.fnOf "pairings_in" "pairings_in" (defArgs s_pairings_in) (defBody s_pairings_in) (defScope s_pairings_in) .none kV10 dc10 pm10 an10 cd10 ct10), sl10⟩) (c10 : PySem.W.codeIn K cd10 "pairings_in" = true) (k10 : PySem.W.keepIn K (.ref f10) = true)
    (a11 : PySem.W.nsIn K mainGlobals "all_good" = some (some (.ref f11))) (l11 : K.lookup f11 = some ⟨oc11, od11, .func (PySem.W.fnOf "all_good" "all_good" (defArgs s_all_good) (defBody s_all_good) (defScope s_all_good) .none kV11 dc11 pm11 an11 cd11 ct11), sl11⟩) (c11 : PySem.W.codeIn K cd11 "all_good" = true) (k11 : PySem.W.keepIn K (.ref f11) = true)
    (a12 : PySem.W.nsIn K mainGlobals "next_in_ring" = some (some (.ref f12))) (l12 : K.lookup f12 = some ⟨oc12, od12, .func (PySem.W.fnOf "next_in_ring" "next_in_ring" (defArgs s_next_in_ring) (defBody s_next_in_ring) (defScope s_next_in_ring) .none kV12 dc12 pm12 an12 cd12 ct12), sl12⟩) (c12 : PySem.W.codeIn K cd12 "next_in_ring" = true) (k12 : PySem.W.keepIn K (.ref f12) = true)
    (a13 : PySem.W.nsIn K mainGlobals "ring_from" = some (some (.ref f13))) (l13 : K.lookup f13 = some ⟨oc13, od13, .func (PySem.W.fnOf "ring_from" "ring_from" (defArgs s_ring_from) (defBody s_ring_from) (defScope s_ring_from) .none kV13 dc13 pm13 an13 cd13 ct13), sl13⟩) (c13 : PySem.W.codeIn K cd13 "ring_from" = true) (k13 : PySem.W.keepIn K (.ref f13) = true)
    (a14 : PySem.W.nsIn K mainGlobals "part" = some (some (.ref f14))) (l14 : K.lookup f14 = some ⟨oc14, od14, .func (PySem.W.fnOf "part" "part" (defArgs s_part) (defBody s_part) (defScope s_part) .none kV14 dc14 pm14 an14 cd14 ct14), sl14⟩) (c14 : PySem.W.codeIn K cd14 "part" = true) (k14 : PySem.W.keepIn K (.ref f14) = true)
    (a15 : PySem.W.nsIn K mainGlobals "taken_out" = some (some (.ref f15))) (l15 : K.lookup f15 = some ⟨oc15, od15, .func (PySem.W.fnOf "taken_out" "taken_out" (defArgs s_taken_out) (defBody s_taken_out) (defScope s_taken_out) .none kV15 dc15 pm15 an15 cd15 ct15), sl15⟩) (c15 : PySem.W.codeIn K cd15 "taken_out" = true) (k15 : PySem.W.keepIn K (.ref f15) = true)
    (a16 : PySem.W.nsIn K mainGlobals "is_emptied" = some (some (.ref f16))) (l16 : K.lookup f16 = some ⟨oc16, od16, .func (PySem.W.fnOf "is_emptied" "is_emptied" (defArgs s_is_emptied) (defBody s_is_emptied) (defScope s_is_emptied) .none kV16 dc16 pm16 an16 (.ref c_1) ct16), sl16⟩) (c16 : PySem.W.codeIn K (.ref c_1) "is_emptied" = true) (k16 : PySem.W.keepIn K (.ref f16) = true)
    (a17 : PySem.W.nsIn K mainGlobals "rings_out" = some (some (.ref f17))) (l17 : K.lookup f17 = some ⟨oc17, od17, .func (PySem.W.fnOf "rings_out" "rings_out" (defArgs s_rings_out) (defBody s_rings_out) (defScope s_rings_out) .none kV17 dc17 pm17 an17 cd17 ct17), sl17⟩) (c17 : PySem.W.codeIn K cd17 "rings_out" = true) (k17 : PySem.W.keepIn K (.ref f17) = true)
    (a18 : PySem.W.nsIn K mainGlobals "last_rows" = some (some (.ref f18))) (l18 : K.lookup f18 = some ⟨oc18, od18, .func (PySem.W.fnOf "last_rows" "last_rows" (defArgs s_last_rows) (defBody s_last_rows) (defScope s_last_rows) .none kV18 dc18 pm18 an18 cd18 ct18), sl18⟩) (c18 : PySem.W.codeIn K cd18 "last_rows" = true) (k18 : PySem.W.keepIn K (.ref f18) = true)
    (a19 : PySem.W.nsIn K mainGlobals "half_pairing" = some (some (.ref f19))) (l19 : K.lookup f19 = some ⟨oc19, od19, .func (PySem.W.fnOf "half_pairing" "half_pairing" (defArgs s_half_pairing) (defBody s_half_pairing) (defScope s_half_pairing) .none kV19 dc19 pm19 an19 cd19 ct19), sl19⟩) (c19 : PySem.W.codeIn K cd19 "half_pairing" = true) (k19 : PySem.W.keepIn K (.ref f19) = true)
    (a20 : PySem.W.nsIn K mainGlobals "ring_of" = some (some (.ref f20))) (l20 : K.lookup f20 = some ⟨oc20, od20, .func (PySem.W.fnOf "ring_of" "ring_of" (defArgs s_ring_of) (defBody s_ring_of) (defScope s_ring_of) .none kV20 dc20 pm20 an20 cd20 ct20), sl20⟩) (c20 : PySem.W.codeIn K cd20 "ring_of" = true) (k20 : PySem.W.keepIn K (.ref f20) = true)
    (a21 : PySem.W.nsIn K mainGlobals "odd_rings_in" = some (some (.ref f21))) (l21 : K.lookup f21 = some ⟨oc21, od21, .func (PySem.W.fnOf "odd_rings_in" "odd_rings_in" (defArgs s_odd_rings_in) (defBody s_odd_rings_in) (defScope s_odd_rings_in) .none kV21 dc21 pm21 an21 cd21 ct21), sl21⟩) (c21 : PySem.W.codeIn K cd21 "odd_rings_in" = true) (k21 : PySem.W.keepIn K (.ref f21) = true)
    (a22 : PySem.W.nsIn K mainGlobals "paired" = some (some (.ref f22))) (l22 : K.lookup f22 = some ⟨oc22, od22, .func (PySem.W.fnOf "paired" "paired" (defArgs s_paired) (defBody s_paired) (defScope s_paired) .none kV22 dc22 pm22 an22 cd22 ct22), sl22⟩) (c22 : PySem.W.codeIn K cd22 "paired" = true) (k22 : PySem.W.keepIn K (.ref f22) = true)
    (a23 : PySem.W.nsIn K mainGlobals "odd_rings" = some (some (.ref f23))) (l23 : K.lookup f23 = some ⟨oc23, od23, .func (PySem.W.fnOf "odd_rings" "odd_rings" (defArgs s_odd_rings) (defBody s_odd_rings) (defScope s_odd_rings) .none kV23 dc23 pm23 an23 cd23 ct23), sl23⟩) (c23 : PySem.W.codeIn K cd23 "odd_rings" = true) (k23 : PySem.W.keepIn K (.ref f23) = true)
    (a24 : PySem.W.nsIn K mainGlobals "alone" = some (some (.ref f24))) (l24 : K.lookup f24 = some ⟨oc24, od24, .func (PySem.W.fnOf "alone" "alone" (defArgs s_alone) (defBody s_alone) (defScope s_alone) .none kV24 dc24 pm24 an24 cd24 ct24), sl24⟩) (c24 : PySem.W.codeIn K cd24 "alone" = true) (k24 : PySem.W.keepIn K (.ref f24) = true)
    (a25 : PySem.W.nsIn K mainGlobals "_law_mixed" = some (some (.ref f25))) (l25 : K.lookup f25 = some ⟨oc25, od25, .func (PySem.W.fnOf "_law_mixed" "_law_mixed" (defArgs s__law_mixed) (defBody s__law_mixed) (defScope s__law_mixed) .none kV25 dc25 pm25 an25 cd25 ct25), sl25⟩) (c25 : PySem.W.codeIn K cd25 "_law_mixed" = true) (k25 : PySem.W.keepIn K (.ref f25) = true)
    (a26 : PySem.W.nsIn K mainGlobals "_law_lists" = some (some (.ref f26))) (l26 : K.lookup f26 = some ⟨oc26, od26, .func (PySem.W.fnOf "_law_lists" "_law_lists" (defArgs s__law_lists) (defBody s__law_lists) (defScope s__law_lists) .none kV26 dc26 pm26 an26 (.ref c_0) ct26), sl26⟩) (c26 : PySem.W.codeIn K (.ref c_0) "_law_lists" = true) (k26 : PySem.W.keepIn K (.ref f26) = true)
    (a27 : PySem.W.nsIn K mainGlobals "_law_set" = some (some (.ref f27))) (l27 : K.lookup f27 = some ⟨oc27, od27, .func (PySem.W.fnOf "_law_set" "_law_set" (defArgs s__law_set) (defBody s__law_set) (defScope s__law_set) .none kV27 dc27 pm27 an27 cd27 ct27), sl27⟩) (c27 : PySem.W.codeIn K cd27 "_law_set" = true) (k27 : PySem.W.keepIn K (.ref f27) = true)
    (a28 : PySem.W.nsIn K mainGlobals "_law_mutual" = some (some (.ref f28))) (l28 : K.lookup f28 = some ⟨oc28, od28, .func (PySem.W.fnOf "_law_mutual" "_law_mutual" (defArgs s__law_mutual) (defBody s__law_mutual) (defScope s__law_mutual) .none kV28 dc28 pm28 an28 cd28 ct28), sl28⟩) (c28 : PySem.W.codeIn K cd28 "_law_mutual" = true) (k28 : PySem.W.keepIn K (.ref f28) = true)
    (a29 : PySem.W.nsIn K mainGlobals "_law_better" = some (some (.ref f29))) (l29 : K.lookup f29 = some ⟨oc29, od29, .func (PySem.W.fnOf "_law_better" "_law_better" (defArgs s__law_better) (defBody s__law_better) (defScope s__law_better) .none kV29 dc29 pm29 an29 cd29 ct29), sl29⟩) (c29 : PySem.W.codeIn K cd29 "_law_better" = true) (k29 : PySem.W.keepIn K (.ref f29) = true)
    (a30 : PySem.W.nsIn K mainGlobals "_law_spoilers" = some (some (.ref f30))) (l30 : K.lookup f30 = some ⟨oc30, od30, .func (PySem.W.fnOf "_law_spoilers" "_law_spoilers" (defArgs s__law_spoilers) (defBody s__law_spoilers) (defScope s__law_spoilers) .none kV30 dc30 pm30 an30 cd30 ct30), sl30⟩) (c30 : PySem.W.codeIn K cd30 "_law_spoilers" = true) (k30 : PySem.W.keepIn K (.ref f30) = true)
    (a31 : PySem.W.nsIn K mainGlobals "_law_pairings" = some (some (.ref f31))) (l31 : K.lookup f31 = some ⟨oc31, od31, .func (PySem.W.fnOf "_law_pairings" "_law_pairings" (defArgs s__law_pairings) (defBody s__law_pairings) (defScope s__law_pairings) .none kV31 dc31 pm31 an31 cd31 ct31), sl31⟩) (c31 : PySem.W.codeIn K cd31 "_law_pairings" = true) (k31 : PySem.W.keepIn K (.ref f31) = true)
    (a32 : PySem.W.nsIn K mainGlobals "_law_refused" = some (some (.ref f32))) (l32 : K.lookup f32 = some ⟨oc32, od32, .func (PySem.W.fnOf "_law_refused" "_law_refused" (defArgs s__law_refused) (defBody s__law_refused) (defScope s__law_refused) .none kV32 dc32 pm32 an32 cd32 ct32), sl32⟩) (c32 : PySem.W.codeIn K cd32 "_law_refused" = true) (k32 : PySem.W.keepIn K (.ref f32) = true)
    (a33 : PySem.W.nsIn K mainGlobals "law" = some (some (.ref f33))) (l33 : K.lookup f33 = some ⟨oc33, od33, .func (PySem.W.fnOf "law" "law" (defArgs s_law) (defBody s_law) (defScope s_law) .none kV33 dc33 pm33 an33 cd33 ct33), sl33⟩) (c33 : PySem.W.codeIn K cd33 "law" = true) (k33 : PySem.W.keepIn K (.ref f33) = true)
    (z0 : PySem.W.nsIn K mainGlobals "ValueError" = some none)
    (z1 : PySem.W.nsIn K mainGlobals "any" = some none)
    (z2 : PySem.W.nsIn K mainGlobals "bool" = some none)
    (z3 : PySem.W.nsIn K mainGlobals "enumerate" = some none)
    (z4 : PySem.W.nsIn K mainGlobals "int" = some none)
    (z5 : PySem.W.nsIn K mainGlobals "isinstance" = some none)
    (z6 : PySem.W.nsIn K mainGlobals "len" = some none)
    (z7 : PySem.W.nsIn K mainGlobals "list" = some none)
    (z8 : PySem.W.nsIn K mainGlobals "min" = some none)
    (z9 : PySem.W.nsIn K mainGlobals "range" = some none)
    (z10 : PySem.W.nsIn K mainGlobals "set" = some none)
    (z11 : PySem.W.nsIn K mainGlobals "sorted" = some none)
    (z12 : PySem.W.nsIn K mainGlobals "zip" = some none)
    (gm : PySem.W.nsIn K mainGlobals "MOST_PEOPLE" = some (some (.int 60 tm)))
    (gms : PySem.W.nsIn K mainGlobals "MOST_SEARCHED" = some (some (.int 10 tms)))
    (nP0 : K.lookup P0 = none) (cP0 : PySem.W.codeHdIn K c_0 P0 = true)
    (nP1 : K.lookup P1 = none) (cP1 : PySem.W.codeHdIn K c_1 P1 = true)
    (ne1 : P1 ≠ P0)
    (gCB : PySem.W.nsIn K mainGlobals "BunkError" = some (some (.ref CB)))
    (gCM : PySem.W.nsIn K mainGlobals "TooMany" = some (some (.ref CM)))
    (gCL : PySem.W.nsIn K mainGlobals "BadLists" = some (some (.ref CL)))
    (gCP : PySem.W.nsIn K mainGlobals "BadPairing" = some (some (.ref CP)))
    (zs : PySem.W.nsIn K mainGlobals "super" = some none) (opq : PySem.W.nsIn K cStatics "thirdparty.any" = some none) (top : (l.prog.main.scope.names.lookup ("super" : Str)).isSome = false)
    (hB : PySem.W.subIn K (.ref CB) (.type "BaseException") = some true) (hdB : PySem.W.hasDictIn K CB = true) (tyB : PySem.W.typeIn K (.ref CB) = some (.type "type"))
    (gs : PySem.W.specialIn K (.builtin "object.__class__") "__get__" = some (some (.builtin "getset_descriptor.__get__"))) (tks : PySem.W.takesIn K (.builtin "object.__class__") = some true)
    (gaT : PySem.W.findIn K (.ref CM) "__getattribute__" = some (some (.builtin "BaseException.__getattribute__")))
    (ggT : PySem.W.findIn K (.ref CM) "__getattr__" = some none)
    (eCT : PySem.W.subIn K (.ref CM) (.type "BaseException") = some true)
    (hdT : PySem.W.hasDictIn K CM = true)
    (clsT : PySem.W.findIn K (.ref CM) "__class__" = some (some (.builtin "object.__class__")))
    (moT : PySem.W.mroIn K CM (.type "object") = some true)
    (excT : PySem.W.excIn K CM [.type "ValueError", .type "Exception", .type "BaseException", .type "object"] "ValueError.__new__" = true)
    (keT : PySem.W.keepIn K (.ref CM) = true)
    (tyT : PySem.W.typeIn K (.ref CM) = some (.type "type"))
    (ktmT : PySem.W.kitOne K (.ref CM) (.ref CM) = some true)
    (kveT : PySem.W.kitOne K (.ref CM) (.type "ValueError") = some true)
    (kbpT : PySem.W.kitOne K (.ref CM) (.ref CP) = some false)
    (kblT : PySem.W.kitOne K (.ref CM) (.ref CL) = some false)
    (sbT : PySem.W.subIn K (.ref CM) (.ref CB) = some true)
    (xLCL : K.lookup CL = some (excClassObj nmCL qCL CL NCL bsCL bmCL true snCL suCL abCL coCL ddCL u0CL u1CL u2CL u3CL u5CL "ValueError.__new__"))
    (rvCL : PySem.HandSPX.refsVE bmCL = true)
    (upCL : PySem.W.ks_superIn K CL CL "__init__" = some (some (.builtin "ValueError.__init__")))
    (vECL : PySem.W.subIn K (.ref CL) (.type "ValueError") = some true)
    (meCL : PySem.W.mroIn K CL (.ref CL) = some true)
    (saCL : PySem.W.findIn K (.ref CL) "__setattr__" = some (some (.builtin "object.__setattr__")))
    (gaCL : PySem.W.findIn K (.ref CL) "__getattribute__" = some (some (.builtin "BaseException.__getattribute__")))
    (ggCL : PySem.W.findIn K (.ref CL) "__getattr__" = some none)
    (noCL : PySem.W.findIn K (.ref CL) "at" = some none)
    (iCCL : PySem.W.findIn K (.ref CL) "__init__" = some (some (.ref fiCL)))
    (tCCL : PySem.W.typeIn K (.ref fiCL) = some (.type "function"))
    (kCCL : PySem.W.keepIn K (.ref CL) = true)
    (eCCL : PySem.W.subIn K (.ref CL) (.type "BaseException") = some true)
    (tyCL : PySem.W.typeIn K (.ref CL) = some (.type "type"))
    (hdCL : PySem.W.hasDictIn K CL = true)
    (fnCL : K.lookup fiCL = some ⟨ocCL, odCL, .func (PySem.W.ksFn "__init__" "BadLists.__init__" (eA p1CL p2CL) (eB "no lists, at " q1CL q2CL q3CL q4CL q5CL q6CL q7CL q8CL q9CL r1CL r2CL r3CL r4CL) eS .none .none docCL pmCL anCL (.ref cdaCL) ctCL ccCL), oslCL⟩)
    (cdCL : PySem.W.codeIn K (.ref cdaCL) "BadLists.__init__" = true)
    (lnCL : (q3CL.endLine == q8CL.line) = true)
    (cqCL : K.lookup cdaCL = some ⟨cclCL, cddCL, .fields vsCL, ccsCL⟩)
    (v2CL : vsCL[2]? = some (.str fileCL tfCL))
    (flCL : ((l.prog.main.file : Str) == fileCL) = true)
    (ceCL : K.lookup ccCL = some ⟨clCL, cldCL, .cell (some (.ref CL)), cslCL⟩)
    (clsCL : PySem.W.findIn K (.ref CL) "__class__" = some (some (.builtin "object.__class__")))
    (moCL : PySem.W.mroIn K CL (.type "object") = some true)
    (sbCL : PySem.W.subIn K (.ref CL) (.ref CB) = some true)
    (tmCL : PySem.W.kitOne K (.ref CL) (.ref CM) = some false)
    (kvCL : PySem.W.kitOne K (.ref CL) (.type "ValueError") = some true)
    (kpCL : PySem.W.kitOne K (.ref CL) (.ref CP) = some false)
    (klCL : PySem.W.kitOne K (.ref CL) (.ref CL) = some true)
    (xLCP : K.lookup CP = some (excClassObj nmCP qCP CP NCP bsCP bmCP true snCP suCP abCP coCP ddCP u0CP u1CP u2CP u3CP u5CP "ValueError.__new__"))
    (rvCP : PySem.HandSPX.refsVE bmCP = true)
    (upCP : PySem.W.ks_superIn K CP CP "__init__" = some (some (.builtin "ValueError.__init__")))
    (vECP : PySem.W.subIn K (.ref CP) (.type "ValueError") = some true)
    (meCP : PySem.W.mroIn K CP (.ref CP) = some true)
    (saCP : PySem.W.findIn K (.ref CP) "__setattr__" = some (some (.builtin "object.__setattr__")))
    (gaCP : PySem.W.findIn K (.ref CP) "__getattribute__" = some (some (.builtin "BaseException.__getattribute__")))
    (ggCP : PySem.W.findIn K (.ref CP) "__getattr__" = some none)
    (noCP : PySem.W.findIn K (.ref CP) "at" = some none)
    (iCCP : PySem.W.findIn K (.ref CP) "__init__" = some (some (.ref fiCP)))
    (tCCP : PySem.W.typeIn K (.ref fiCP) = some (.type "function"))
    (kCCP : PySem.W.keepIn K (.ref CP) = true)
    (eCCP : PySem.W.subIn K (.ref CP) (.type "BaseException") = some true)
    (tyCP : PySem.W.typeIn K (.ref CP) = some (.type "type"))
    (hdCP : PySem.W.hasDictIn K CP = true)
    (fnCP : K.lookup fiCP = some ⟨ocCP, odCP, .func (PySem.W.ksFn "__init__" "BadPairing.__init__" (eA p1CP p2CP) (eB "no pairing, at " q1CP q2CP q3CP q4CP q5CP q6CP q7CP q8CP q9CP r1CP r2CP r3CP r4CP) eS .none .none docCP pmCP anCP (.ref cdaCP) ctCP ccCP), oslCP⟩)
    (cdCP : PySem.W.codeIn K (.ref cdaCP) "BadPairing.__init__" = true)
    (lnCP : (q3CP.endLine == q8CP.line) = true)
    (cqCP : K.lookup cdaCP = some ⟨cclCP, cddCP, .fields vsCP, ccsCP⟩)
    (v2CP : vsCP[2]? = some (.str fileCP tfCP))
    (flCP : ((l.prog.main.file : Str) == fileCP) = true)
    (ceCP : K.lookup ccCP = some ⟨clCP, cldCP, .cell (some (.ref CP)), cslCP⟩)
    (clsCP : PySem.W.findIn K (.ref CP) "__class__" = some (some (.builtin "object.__class__")))
    (moCP : PySem.W.mroIn K CP (.type "object") = some true)
    (sbCP : PySem.W.subIn K (.ref CP) (.ref CB) = some true)
    (tmCP : PySem.W.kitOne K (.ref CP) (.ref CM) = some false)
    (kvCP : PySem.W.kitOne K (.ref CP) (.type "ValueError") = some true)
    (kpCP : PySem.W.kitOne K (.ref CP) (.ref CP) = some true)
    (klCP : PySem.W.kitOne K (.ref CP) (.ref CL) = some false) :
    LamX.LawAtS l w K CX0 10 63 "_law_script" mg fa h := by
  have e := hfa.symm.trans (PySem.W.mg_of X G a33)
  cases e
  have F0 := fun_mk (st := s_is_number) l0 c0 k0
  have F1 := fun_mk (st := s_is_row) l1 c1 k1
  have F2 := fun_mk (st := s_check_lists) l2 c2 k2
  have F3 := fun_mk (st := s_places_in) l3 c3 k3
  have F4 := fun_mk (st := s_mutual) l4 c4 k4
  have F5 := fun_mk (st := s_cut_behind) l5 c5 k5
  have F6 := fun_mk (st := s_offered) l6 c6 k6
  have F7 := fun_mk (st := s_would_rather) l7 c7 k7
  have F8 := fun_mk (st := s_spoiling) l8 c8 k8
  have F9 := fun_mk (st := s_with_mate) l9 c9 k9
  have F10 := fun_mk (st := s_pairings_in) l10 c10 k10
  have F11 := fun_mk (st := s_all_good) l11 c11 k11
  have F12 := fun_mk (st := s_next_in_ring) l12 c12 k12
  have F13 := fun_mk (st := s_ring_from) l13 c13 k13
  have F14 := fun_mk (st := s_part) l14 c14 k14
  have F15 := fun_mk (st := s_taken_out) l15 c15 k15
  have F16 := fun_mk (st := s_is_emptied) l16 c16 k16
  have F17 := fun_mk (st := s_rings_out) l17 c17 k17
  have F18 := fun_mk (st := s_last_rows) l18 c18 k18
  have F19 := fun_mk (st := s_half_pairing) l19 c19 k19
  have F20 := fun_mk (st := s_ring_of) l20 c20 k20
  have F21 := fun_mk (st := s_odd_rings_in) l21 c21 k21
  have F22 := fun_mk (st := s_paired) l22 c22 k22
  have F23 := fun_mk (st := s_odd_rings) l23 c23 k23
  have F24 := fun_mk (st := s_alone) l24 c24 k24
  have F25 := fun_mk (st := s__law_mixed) l25 c25 k25
  have F26 := fun_mk (st := s__law_lists) l26 c26 k26
  have F27 := fun_mk (st := s__law_set) l27 c27 k27
  have F28 := fun_mk (st := s__law_mutual) l28 c28 k28
  have F29 := fun_mk (st := s__law_better) l29 c29 k29
  have F30 := fun_mk (st := s__law_spoilers) l30 c30 k30
  have F31 := fun_mk (st := s__law_pairings) l31 c31 k31
  have F32 := fun_mk (st := s__law_refused) l32 c32 k32
  have F33 := fun_mk (st := s_law) l33 c33 k33
  have ECL : ErrTxt l.prog K mg "BadLists" "BadLists.__init__" "no lists, at " CL fiCL := { gC := PySem.W.mg_of X G gCL, cls := ⟨_, _, _, _, _, _, _, _, _, _, _, _, _, _, _, xLCL, rvCL⟩, up := upCL, opq := opq, vE := vECL, self := meCL, sa := saCL, ga := gaCL, gg := ggCL, noN := noCL, iC := iCCL, tC := tCCL, kC := kCCL, exC := eCCL, tyC := tyCL, hdC := hdCL, noS := PySem.W.mg_none_of X G zs, top := top, pre1 := by decide, fn := ⟨_, _, _, _, _, _, _, _, _, _, _, _, _, _, _, _, _, _, _, _, _, _, _, _, _, _, _, _, _, _, _, _, _, fnCL, cdCL, lnCL, cqCL, v2CL, flCL, ceCL⟩ }
  have XCL : KitF K CL CM CP CL CB false true := { e := ⟨gaCL, ggCL, eCCL, hdCL, clsCL, gs, tks, moCL⟩, x := ⟨gaCL, ggCL, eCCL, hdCL⟩, no := noCL, tm := tmCL, ve := kvCL, bp := kpCL, bl := klCL, be := PySem.W.exm_ref hB hdB tyB sbCL }
  have ECP : ErrTxt l.prog K mg "BadPairing" "BadPairing.__init__" "no pairing, at " CP fiCP := { gC := PySem.W.mg_of X G gCP, cls := ⟨_, _, _, _, _, _, _, _, _, _, _, _, _, _, _, xLCP, rvCP⟩, up := upCP, opq := opq, vE := vECP, self := meCP, sa := saCP, ga := gaCP, gg := ggCP, noN := noCP, iC := iCCP, tC := tCCP, kC := kCCP, exC := eCCP, tyC := tyCP, hdC := hdCP, noS := PySem.W.mg_none_of X G zs, top := top, pre1 := by decide, fn := ⟨_, _, _, _, _, _, _, _, _, _, _, _, _, _, _, _, _, _, _, _, _, _, _, _, _, _, _, _, _, _, _, _, _, fnCP, cdCP, lnCP, cqCP, v2CP, flCP, ceCP⟩ }
  have XCP : KitF K CP CM CP CL CB true false := { e := ⟨gaCP, ggCP, eCCP, hdCP, clsCP, gs, tks, moCP⟩, x := ⟨gaCP, ggCP, eCCP, hdCP⟩, no := noCP, tm := tmCP, ve := kvCP, bp := kpCP, bl := klCP, be := PySem.W.exm_ref hB hdB tyB sbCP }
  have XT : TmF K CM CP CL CB := { e := ⟨gaT, ggT, eCT, hdT, clsT, gs, tks, moT⟩, q := excT, kC := keT, b := eCT, t := tyT, tm := ktmT, ve := kveT, bp := kbpT, bl := kblT, be := PySem.W.exm_ref hB hdB tyB sbT }
  let T : Txt l.prog K mg := { a_is_number := f0, fd_is_number := _, F_is_number := F0, b_is_number := F0.binds (ps := ["value"]) (fun _ _ _ _ _ _ us hl => match us, hl with | [_], _ => rfl), g_is_number := PySem.W.mg_of X G a0, a_is_row := f1, fd_is_row := _, F_is_row := F1, b_is_row := F1.binds (ps := ["row", "person", "many"]) (fun _ _ _ _ _ _ us hl => match us, hl with | [_, _, _], _ => rfl), g_is_row := PySem.W.mg_of X G a1, a_check_lists := f2, fd_check_lists := _, F_check_lists := F2, b_check_lists := F2.binds (ps := ["lists"]) (fun _ _ _ _ _ _ us hl => match us, hl with | [_], _ => rfl), g_check_lists := PySem.W.mg_of X G a2, a_places_in := f3, fd_places_in := _, F_places_in := F3, b_places_in := F3.binds (ps := ["rows"]) (fun _ _ _ _ _ _ us hl => match us, hl with | [_], _ => rfl), g_places_in := PySem.W.mg_of X G a3, a_mutual := f4, fd_mutual := _, F_mutual := F4, b_mutual := F4.binds (ps := ["lists"]) (fun _ _ _ _ _ _ us hl => match us, hl with | [_], _ => rfl), g_mutual := PySem.W.mg_of X G a4, a_cut_behind := f5, fd_cut_behind := _, F_cut_behind := F5, b_cut_behind := F5.binds (ps := ["rows", "person", "kept"]) (fun _ _ _ _ _ _ us hl => match us, hl with | [_, _, _], _ => rfl), g_cut_behind := PySem.W.mg_of X G a5, a_offered := f6, fd_offered := _, F_offered := F6, b_offered := F6.binds (ps := ["lists"]) (fun _ _ _ _ _ _ us hl => match us, hl with | [_], _ => rfl), g_offered := PySem.W.mg_of X G a6, a_would_rather := f7, fd_would_rather := _, F_would_rather := F7, b_would_rather := F7.binds (ps := ["places", "other", "mate"]) (fun _ _ _ _ _ _ us hl => match us, hl with | [_, _, _], _ => rfl), g_would_rather := PySem.W.mg_of X G a7, a_spoiling := f8, fd_spoiling := _, F_spoiling := F8, b_spoiling := F8.binds (ps := ["rows", "mates"]) (fun _ _ _ _ _ _ us hl => match us, hl with | [_, _], _ => rfl), g_spoiling := PySem.W.mg_of X G a8, a_with_mate := f9, fd_with_mate := _, F_with_mate := F9, b_with_mate := F9.binds (ps := ["pairing", "person", "row"]) (fun _ _ _ _ _ _ us hl => match us, hl with | [_, _, _], _ => rfl), g_with_mate := PySem.W.mg_of X G a9, a_pairings_in := f10, fd_pairings_in := _, F_pairings_in := F10, b_pairings_in := F10.binds (ps := ["rows"]) (fun _ _ _ _ _ _ us hl => match us, hl with | [_], _ => rfl), g_pairings_in := PySem.W.mg_of X G a10, a_all_good := f11, fd_all_good := _, F_all_good := F11, b_all_good := F11.binds (ps := ["lists"]) (fun _ _ _ _ _ _ us hl => match us, hl with | [_], _ => rfl), g_all_good := PySem.W.mg_of X G a11, a_next_in_ring := f12, fd_next_in_ring := _, F_next_in_ring := F12, b_next_in_ring := F12.binds (ps := ["rows", "person"]) (fun _ _ _ _ _ _ us hl => match us, hl with | [_, _], _ => rfl), g_next_in_ring := PySem.W.mg_of X G a12, a_ring_from := f13, fd_ring_from := _, F_ring_from := F13, b_ring_from := F13.binds (ps := ["rows", "start"]) (fun _ _ _ _ _ _ us hl => match us, hl with | [_, _], _ => rfl), g_ring_from := PySem.W.mg_of X G a13, a_part := f14, fd_part := _, F_part := F14, b_part := F14.binds (ps := ["rows", "one", "other"]) (fun _ _ _ _ _ _ us hl => match us, hl with | [_, _, _], _ => rfl), g_part := PySem.W.mg_of X G a14, a_taken_out := f15, fd_taken_out := _, F_taken_out := F15, b_taken_out := F15.binds (ps := ["rows", "ring"]) (fun _ _ _ _ _ _ us hl => match us, hl with | [_, _], _ => rfl), g_taken_out := PySem.W.mg_of X G a15, a_is_emptied := f16, fd_is_emptied := _, F_is_emptied := F16, b_is_emptied := F16.binds (ps := ["rows", "behind"]) (fun _ _ _ _ _ _ us hl => match us, hl with | [_, _], _ => rfl), g_is_emptied := PySem.W.mg_of X G a16, a_rings_out := f17, fd_rings_out := _, F_rings_out := F17, b_rings_out := F17.binds (ps := ["lists"]) (fun _ _ _ _ _ _ us hl => match us, hl with | [_], _ => rfl), g_rings_out := PySem.W.mg_of X G a17, a_last_rows := f18, fd_last_rows := _, F_last_rows := F18, b_last_rows := F18.binds (ps := ["lists"]) (fun _ _ _ _ _ _ us hl => match us, hl with | [_], _ => rfl), g_last_rows := PySem.W.mg_of X G a18, a_half_pairing := f19, fd_half_pairing := _, F_half_pairing := F19, b_half_pairing := F19.binds (ps := ["lists"]) (fun _ _ _ _ _ _ us hl => match us, hl with | [_], _ => rfl), g_half_pairing := PySem.W.mg_of X G a19, a_ring_of := f20, fd_ring_of := _, F_ring_of := F20, b_ring_of := F20.binds (ps := ["half", "first"]) (fun _ _ _ _ _ _ us hl => match us, hl with | [_, _], _ => rfl), g_ring_of := PySem.W.mg_of X G a20, a_odd_rings_in := f21, fd_odd_rings_in := _, F_odd_rings_in := F21, b_odd_rings_in := F21.binds (ps := ["half"]) (fun _ _ _ _ _ _ us hl => match us, hl with | [_], _ => rfl), g_odd_rings_in := PySem.W.mg_of X G a21, a_paired := f22, fd_paired := _, F_paired := F22, b_paired := F22.binds (ps := ["lists"]) (fun _ _ _ _ _ _ us hl => match us, hl with | [_], _ => rfl), g_paired := PySem.W.mg_of X G a22, a_odd_rings := f23, fd_odd_rings := _, F_odd_rings := F23, b_odd_rings := F23.binds (ps := ["lists"]) (fun _ _ _ _ _ _ us hl => match us, hl with | [_], _ => rfl), g_odd_rings := PySem.W.mg_of X G a23, a_alone := f24, fd_alone := _, F_alone := F24, b_alone := F24.binds (ps := ["lists"]) (fun _ _ _ _ _ _ us hl => match us, hl with | [_], _ => rfl), g_alone := PySem.W.mg_of X G a24, a__law_mixed := f25, fd__law_mixed := _, F__law_mixed := F25, b__law_mixed := F25.binds (ps := ["_law_number", "_law_k"]) (fun _ _ _ _ _ _ us hl => match us, hl with | [_, _], _ => rfl), g__law_mixed := PySem.W.mg_of X G a25, a__law_lists := f26, fd__law_lists := _, F__law_lists := F26, b__law_lists := F26.binds (ps := ["_law_script", "_law_most"]) (fun _ _ _ _ _ _ us hl => match us, hl with | [_, _], _ => rfl), g__law_lists := PySem.W.mg_of X G a26, a__law_set := f27, fd__law_set := _, F__law_set := F27, b__law_set := F27.binds (ps := ["_law_rows", "_law_one", "_law_other", "_law_number"]) (fun _ _ _ _ _ _ us hl => match us, hl with | [_, _, _, _], _ => rfl), g__law_set := PySem.W.mg_of X G a27, a__law_mutual := f28, fd__law_mutual := _, F__law_mutual := F28, b__law_mutual := F28.binds (ps := ["_law_rows"]) (fun _ _ _ _ _ _ us hl => match us, hl with | [_], _ => rfl), g__law_mutual := PySem.W.mg_of X G a28, a__law_better := f29, fd__law_better := _, F__law_better := F29, b__law_better := F29.binds (ps := ["_law_row", "_law_one", "_law_other"]) (fun _ _ _ _ _ _ us hl => match us, hl with | [_, _, _], _ => rfl), g__law_better := PySem.W.mg_of X G a29, a__law_spoilers := f30, fd__law_spoilers := _, F__law_spoilers := F30, b__law_spoilers := F30.binds (ps := ["_law_rows", "_law_pairing"]) (fun _ _ _ _ _ _ us hl => match us, hl with | [_, _], _ => rfl), g__law_spoilers := PySem.W.mg_of X G a30, a__law_pairings := f31, fd__law_pairings := _, F__law_pairings := F31, b__law_pairings := F31.binds (ps := ["_law_rows", "_law_done"]) (fun _ _ _ _ _ _ us hl => match us, hl with | [_, _], _ => rfl), g__law_pairings := PySem.W.mg_of X G a31, a__law_refused := f32, fd__law_refused := _, F__law_refused := F32, b__law_refused := F32.binds (ps := ["_law_lists_here"]) (fun _ _ _ _ _ _ us hl => match us, hl with | [_], _ => rfl), g__law_refused := PySem.W.mg_of X G a32, a_law := fa, fd_law := _, F_law := F33, b_law := F33.binds (ps := ["_law_script"]) (fun _ _ _ _ _ _ us hl => match us, hl with | [_], _ => rfl), g_law := PySem.W.mg_of X G a33, m_ValueError := PySem.W.mg_none_of X G z0, m_any := PySem.W.mg_none_of X G z1, m_bool := PySem.W.mg_none_of X G z2, m_enumerate := PySem.W.mg_none_of X G z3, m_int := PySem.W.mg_none_of X G z4, m_isinstance := PySem.W.mg_none_of X G z5, m_len := PySem.W.mg_none_of X G z6, m_list := PySem.W.mg_none_of X G z7, m_min := PySem.W.mg_none_of X G z8, m_range := PySem.W.mg_none_of X G z9, m_set := PySem.W.mg_none_of X G z10, m_sorted := PySem.W.mg_none_of X G z11, m_zip := PySem.W.mg_none_of X G z12, C_BunkError := CB, g_BunkError := PySem.W.mg_of X G gCB, C_TooMany := CM, g_TooMany := PySem.W.mg_of X G gCM, C_BadLists := CL, g_BadLists := PySem.W.mg_of X G gCL, C_BadPairing := CP, g_BadPairing := PySem.W.mg_of X G gCP, f_BadLists := fiCL, E_BadLists := ECL, k_BadLists := XCL, f_BadPairing := fiCP, E_BadPairing := ECP, k_BadPairing := XCP, k_TooMany := XT, mostT := tm, mostG := PySem.W.mg_of X G gm, mostST := tms, mostSG := PySem.W.mg_of X G gms }
  refine ⟨PySem.W.fnOf "law" "law" (defArgs s_law) (defBody s_law) (defScope s_law) .none kV33 dc33 pm33 an33 cd33 ct33, [(c_0, P0), (c_1, P1)], sp_law K P0 P1, ?_, ?_, ?_, fun s v => .of_eq rfl, ?_, fun base hK hN hT => ok_law (P := l.prog) (w := w) (base := base) T (FC := ⟨⟨_, _, _, _, _, _, _, _, rfl, l26, c26⟩⟩) (TB := hT (c_0, P0) (List.mem_cons_self)) (FC1 := ⟨⟨_, _, _, _, _, _, _, _, rfl, l16, c16⟩⟩) (TB1 := ⟨(hT (c_1, P1) (List.mem_cons_of_mem _ (List.mem_cons_self))).code, (hT (c_1, P1) (List.mem_cons_of_mem _ (List.mem_cons_self))).bm, (hT (c_1, P1) (List.mem_cons_of_mem _ (List.mem_cons_self))).gP⟩) ne1⟩
  · intro p hp; simp only [List.mem_cons, List.not_mem_nil, or_false] at hp; rcases hp with rfl | rfl <;> first | exact hP0 | exact hP1
  · intro p hp; simp only [List.mem_cons, List.not_mem_nil, or_false] at hp; rcases hp with rfl | rfl <;> first | exact nP0 | exact nP1
  · intro p hp; simp only [List.mem_cons, List.not_mem_nil, or_false] at hp; rcases hp with rfl | rfl <;> first | exact PySem.W.codeHd_of_K X cP0 | exact PySem.W.codeHd_of_K X cP1
  · intro H a ns hl _ ht hs
    refine ⟨a, ns, rfl, hs, hl, fun p hp => ?_, fun _ => rfl⟩
    simp only [List.mem_cons, List.not_mem_nil, or_false] at hp
    rcases hp with rfl | rfl <;> first | exact tab_nil (ht (c_0, P0) (List.mem_cons_self)) | exact tab_nil (ht (c_1, P1) (List.mem_cons_of_mem _ (List.mem_cons_self)))
end K6
open PySem PySem.W PyProof.Rows
local macro_rules
  | `(tactic| o_head ($f:ident $K $a $e $t)) => `(tactic| o_head ($f $K $a $e (181 :: $t) : PySem.W.Hook))
set_option maxHeartbeats 0 in
theorem PySem.Challenge.cw_bunkmates_k06_whole_few_people_holds : PySem.Challenge.rw_bunkmates_k06_whole_few_people.Holds := by
  w_on; o_law; k_head; (case hw => w_witness2)
  k_fill
  refine LamX.walk_ofTs (l := PySem.Challenge.rw_bunkmates_k06_whole_few_people) (n := 63) (k := 10) (x := "_law_script") (CX := fun _ => L2.CX0) rfl (by decide) rfl ⟨rfl, by decide, by decide⟩ (fun w h Y => PySem.W.km_in_of Y) ?F (fun _ _ _ _ _ h => h)
  case F =>
    intro w mg fa h Y KX G hmg
    have hT8 := PySem.W.km_tabs_of Y
    refine' K6.all_mk KX G hmg (hT8 _ (List.mem_cons_of_mem _ (List.mem_cons_self))) (hT8 _ (List.mem_cons_self)) ?a0 ?l0 ?c0 ?k0 ?a1 ?l1 ?c1 ?k1 ?a2 ?l2 ?c2 ?k2 ?a3 ?l3 ?c3 ?k3 ?a4 ?l4 ?c4 ?k4 ?a5 ?l5 ?c5 ?k5 ?a6 ?l6 ?c6 ?k6 ?a7 ?l7 ?c7 ?k7 ?a8 ?l8 ?c8 ?k8 ?a9 ?l9 ?c9 ?k9 ?a10 ?l10 ?c10 ?k10 ?a11 ?l11 ?c11 ?k11 ?a12 ?l12 ?c12 ?k12 ?a13 ?l13 ?c13 ?k13 ?a14 ?l14 ?c14 ?k14 ?a15 ?l15 ?c15 ?k15 ?a16 ?l16 ?c16 ?k16 ?a17 ?l17 ?c17 ?k17 ?a18 ?l18 ?c18 ?k18 ?a19 ?l19 ?c19 ?k19 ?a20 ?l20 ?c20 ?k20 ?a21 ?l21 ?c21 ?k21 ?a22 ?l22 ?c22 ?k22 ?a23 ?l23 ?c23 ?k23 ?a24 ?l24 ?c24 ?k24 ?a25 ?l25 ?c25 ?k25 ?a26 ?l26 ?c26 ?k26 ?a27 ?l27 ?c27 ?k27 ?a28 ?l28 ?c28 ?k28 ?a29 ?l29 ?c29 ?k29 ?a30 ?l30 ?c30 ?k30 ?a31 ?l31 ?c31 ?k31 ?a32 ?l32 ?c32 ?k32 ?a33 ?l33 ?c33 ?k33 ?z0 ?z1 ?z2 ?z3 ?z4 ?z5 ?z6 ?z7 ?z8 ?z9 ?z10 ?z11 ?z12 ?gm ?gms ?nP0 ?cP0 ?nP1 ?cP1 ?ne1 ?gCB ?gCM ?gCL ?gCP ?zs ?opq ?top ?hB ?hdB ?tyB ?gs ?tks ?gaT ?ggT ?eCT ?hdT ?clsT ?moT ?excT ?keT ?tyT ?ktmT ?kveT ?kbpT ?kblT ?sbT ?xLCL ?rvCL ?upCL ?vECL ?meCL ?saCL ?gaCL ?ggCL ?noCL ?iCCL ?tCCL ?kCCL ?eCCL ?tyCL ?hdCL ?fnCL ?cdCL ?lnCL ?cqCL ?v2CL ?flCL ?ceCL ?clsCL ?moCL ?sbCL ?tmCL ?kvCL ?kpCL ?klCL ?xLCP ?rvCP ?upCP ?vECP ?meCP ?saCP ?gaCP ?ggCP ?noCP ?iCCP ?tCCP ?kCCP ?eCCP ?tyCP ?hdCP ?fnCP ?cdCP ?lnCP ?cqCP ?v2CP ?flCP ?ceCP ?clsCP ?moCP ?sbCP ?tmCP ?kvCP ?kpCP ?klCP
    (case a0 => k_is)
    (case l0 => k_is)
    (case c0 => k_is)
    (case k0 => k_is)
    (case a1 => k_is)
    (case l1 => k_is)
    (case c1 => k_is)
    (case k1 => k_is)
    (case a2 => k_is)
    (case l2 => k_is)
    (case c2 => k_is)
    (case k2 => k_is)
    (case a3 => k_is)
    (case l3 => k_is)
    (case c3 => k_is)
    (case k3 => k_is)
    (case a4 => k_is)
    (case l4 => k_is)
    (case c4 => k_is)
    (case k4 => k_is)
    (case a5 => k_is)
    (case l5 => k_is)
    (case c5 => k_is)
    (case k5 => k_is)
    (case a6 => k_is)
    (case l6 => k_is)
    (case c6 => k_is)
    (case k6 => k_is)
    (case a7 => k_is)
    (case l7 => k_is)
    (case c7 => k_is)
    (case k7 => k_is)
    (case a8 => k_is)
    (case l8 => k_is)
    (case c8 => k_is)
    (case k8 => k_is)
    (case a9 => k_is)
    (case l9 => k_is)
    (case c9 => k_is)
    (case k9 => k_is)
    (case a10 => k_is)
    (case l10 => k_is)
    (case c10 => k_is)
    (case k10 => k_is)
    (case a11 => k_is)
    (case l11 => k_is)
    (case c11 => k_is)
    (case k11 => k_is)
    (case a12 => k_is)
    (case l12 => k_is)
    (case c12 => k_is)
    (case k12 => k_is)
    (case a13 => k_is)
    (case l13 => k_is)
    (case c13 => k_is)
    (case k13 => k_is)
    (case a14 => k_is)
    (case l14 => k_is)
    (case c14 => k_is)
    (case k14 => k_is)
    (case a15 => k_is)
    (case l15 => k_is)
    (case c15 => k_is)
    (case k15 => k_is)
    (case a16 => k_is)
    (case l16 => k_is)
    (case c16 => k_is)
    (case k16 => k_is)
    (case a17 => k_is)
    (case l17 => k_is)
    (case c17 => k_is)
    (case k17 => k_is)
    (case a18 => k_is)
    (case l18 => k_is)
    (case c18 => k_is)
    (case k18 => k_is)
    (case a19 => k_is)
    (case l19 => k_is)
    (case c19 => k_is)
    (case k19 => k_is)
    (case a20 => k_is)
    (case l20 => k_is)
    (case c20 => k_is)
    (case k20 => k_is)
    (case a21 => k_is)
    (case l21 => k_is)
    (case c21 => k_is)
    (case k21 => k_is)
    (case a22 => k_is)
    (case l22 => k_is)
    (case c22 => k_is)
    (case k22 => k_is)
    (case a23 => k_is)
    (case l23 => k_is)
    (case c23 => k_is)
    (case k23 => k_is)
    (case a24 => k_is)
    (case l24 => k_is)
    (case c24 => k_is)
    (case k24 => k_is)
    (case a25 => k_is)
    (case l25 => k_is)
    (case c25 => k_is)
    (case k25 => k_is)
    (case a26 => k_is)
    (case l26 => k_is)
    (case c26 => k_is)
    (case k26 => k_is)
    (case a27 => k_is)
    (case l27 => k_is)
    (case c27 => k_is)
    (case k27 => k_is)
    (case a28 => k_is)
    (case l28 => k_is)
    (case c28 => k_is)
    (case k28 => k_is)
    (case a29 => k_is)
    (case l29 => k_is)
    (case c29 => k_is)
    (case k29 => k_is)
    (case a30 => k_is)
    (case l30 => k_is)
    (case c30 => k_is)
    (case k30 => k_is)
    (case a31 => k_is)
    (case l31 => k_is)
    (case c31 => k_is)
    (case k31 => k_is)
    (case a32 => k_is)
    (case l32 => k_is)
    (case c32 => k_is)
    (case k32 => k_is)
    (case a33 => k_is)
    (case l33 => k_is)
    (case c33 => k_is)
    (case k33 => k_is)
    (case z0 => k_is)
    (case z1 => k_is)
    (case z2 => k_is)
    (case z3 => k_is)
    (case z4 => k_is)
    (case z5 => k_is)
    (case z6 => k_is)
    (case z7 => k_is)
    (case z8 => k_is)
    (case z9 => k_is)
    (case z10 => k_is)
    (case z11 => k_is)
    (case z12 => k_is)
    (case gm => k_is)
    (case gms => k_is)
    (case nP0 => kernel_rfl)
    (case cP0 => kernel_rfl)
    (case nP1 => kernel_rfl)
    (case cP1 => kernel_rfl)
    (case ne1 => decide)
    (case gCB => k_is)
    (case gCM => k_is)
    (case gCL => k_is)
    (case gCP => k_is)
    (case zs => k_is)
    (case opq => k_is)
    (case top => first | rfl | kernel_rfl | decide +kernel)
    (case hB => k_is)
    (case hdB => k_is)
    (case tyB => k_is)
    (case gs => k_is)
    (case tks => k_is)
    (case gaT => k_is)
    (case ggT => k_is)
    (case eCT => k_is)
    (case hdT => k_is)
    (case clsT => k_is)
    (case moT => first | k_is | kernel_rfl)
    (case excT => first | k_exc | kernel_rfl)
    (case keT => k_is)
    (case tyT => k_is)
    (case ktmT => first | kit_is | k_is | kernel_rfl)
    (case kveT => first | kit_is | k_is | kernel_rfl)
    (case kbpT => first | kit_is | k_is | kernel_rfl)
    (case kblT => first | kit_is | k_is | kernel_rfl)
    (case sbT => first | k_is | kernel_rfl)
    (case xLCL => k_is)
    (case rvCL => first | rfl | kernel_rfl | decide +kernel)
    (case upCL => first | ks_is | k_is | kernel_rfl)
    (case vECL => first | k_is | kernel_rfl)
    (case meCL => first | k_is | kernel_rfl)
    (case saCL => k_is)
    (case gaCL => k_is)
    (case ggCL => k_is)
    (case noCL => k_is)
    (case iCCL => k_is)
    (case tCCL => k_is)
    (case kCCL => k_is)
    (case eCCL => k_is)
    (case tyCL => k_is)
    (case hdCL => k_is)
    (case fnCL => k_is)
    (case cdCL => k_is)
    (case lnCL => first | rfl | kernel_rfl | decide +kernel)
    (case cqCL => k_is)
    (case v2CL => first | rfl | kernel_rfl)
    (case flCL => first | rfl | kernel_rfl | decide +kernel)
    (case ceCL => k_is)
    (case clsCL => k_is)
    (case moCL => first | k_is | kernel_rfl)
    (case sbCL => first | k_is | kernel_rfl)
    (case tmCL => first | kit_is | k_is | kernel_rfl)
    (case kvCL => first | kit_is | k_is | kernel_rfl)
    (case kpCL => first | kit_is | k_is | kernel_rfl)
    (case klCL => first | kit_is | k_is | kernel_rfl)
    (case xLCP => k_is)
    (case rvCP => first | rfl | kernel_rfl | decide +kernel)
    (case upCP => first | ks_is | k_is | kernel_rfl)
    (case vECP => first | k_is | kernel_rfl)
    (case meCP => first | k_is | kernel_rfl)
    (case saCP => k_is)
    (case gaCP => k_is)
    (case ggCP => k_is)
    (case noCP => k_is)
    (case iCCP => k_is)
    (case tCCP => k_is)
    (case kCCP => k_is)
    (case eCCP => k_is)
    (case tyCP => k_is)
    (case hdCP => k_is)
    (case fnCP => k_is)
    (case cdCP => k_is)
    (case lnCP => first | rfl | kernel_rfl | decide +kernel)
    (case cqCP => k_is)
    (case v2CP => first | rfl | kernel_rfl)
    (case flCP => first | rfl | kernel_rfl | decide +kernel)
    (case ceCP => k_is)
    (case clsCP => k_is)
    (case moCP => first | k_is | kernel_rfl)
    (case sbCP => first | k_is | kernel_rfl)
    (case tmCP => first | kit_is | k_is | kernel_rfl)
    (case kvCP => first | kit_is | k_is | kernel_rfl)
    (case kpCP => first | kit_is | k_is | kernel_rfl)
    (case klCP => first | kit_is | k_is | kernel_rfl)
