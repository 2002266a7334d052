import PyProof.Rows.All
import Wide.All
import OpenK.AllK
import Wide.FinOn
import HandS.ForMost
import PySem.Challenge.RW_boughwebs_k05_roots_and_mirrored_rows
import HandS.TryOnly
import HandS.IsInst
import HandS.Exc
import KE.KExcSuper
import HandS.ExcInit
import HandS.Nested
import HandS.ExcValue
import HandS.MakeKwOnly
import HandS.ExcIs
import HandS.Lambda
import HandS.WordsExc
import HandS.OwnEq
import PyProof.InstNe
import HandS.Style
import HandS.ExcOwn
import PyProof.ExcBaseAll.ValueError
import KE.GoesMore
import HandS.Zip
import KE.GoesEnum
import KE.DataMinMax
import HandS.TupMul
import HandS.TupAny
import HandS.Conv
import HandS.RaiseMore
import PyProof.StrBlock2
import HandS.SortOrd
import HandS.SortRule
import HandS.TupSets
import KE.KTupSum
import HandS.Walk
import KE.KNestM
import HandS.EndBits
/-! Nets as lists of pairs: what is come to, by rounds and by a stack; an order from the ends. Pure. -/
namespace NetM
abbrev Prs := List (Int × Int)
/-- b can be come to from a along pairs -/
inductive Rch (E : Prs) : Int → Int → Prop
  | refl (a : Int) : Rch E a a
  | step {a b c : Int} (h : Rch E a b) (e : (b, c) ∈ E) : Rch E a c
theorem Rch.trans {E : Prs} {a b c : Int} (h : Rch E a b) (k : Rch E b c) : Rch E a c := by
  induction k with
  | refl => exact h
  | step _ e ih => exact .step ih e
theorem Rch.one {E : Prs} {a b : Int} (e : (a, b) ∈ E) : Rch E a b := .step (.refl a) e
def both (E : Prs) : Prs := E ++ E.map fun p => (p.2, p.1)
theorem mem_both {E : Prs} {a b : Int} : (a, b) ∈ both E ↔ (a, b) ∈ E ∨ (b, a) ∈ E := by
  unfold both
  rw [List.mem_append, List.mem_map]
  constructor
  · rintro (h | ⟨⟨x, y⟩, h, e⟩)
    · exact .inl h
    · cases e; exact .inr h
  · rintro (h | h)
    · exact .inl h
    · exact .inr ⟨(b, a), h, rfl⟩
/-- a set that holds a and is closed holds all that is come to -/
theorem Rch.closed {E : Prs} {S : List Int} (c : ∀ t h, (t, h) ∈ E → t ∈ S → h ∈ S) {a b : Int} (ha : a ∈ S) (h : Rch E a b) : b ∈ S := by
  induction h with
  | refl => exact ha
  | step _ e ih => exact c _ _ e ih
/-! ### numbers below n -/
def InR (n : Nat) (x : Int) : Prop := 0 ≤ x ∧ x < n
def rng (n : Nat) : List Int := (List.range n).map fun (k : Nat) => (k : Int)
theorem mem_rng {n : Nat} {x : Int} : x ∈ rng n ↔ InR n x := by
  unfold rng InR
  rw [List.mem_map]
  constructor
  · rintro ⟨k, h, rfl⟩
    have := List.mem_range.mp h
    omega
  · intro h
    exact ⟨x.toNat, List.mem_range.mpr (by omega), by omega⟩
theorem rng_len (n : Nat) : (rng n).length = n := by unfold rng; rw [List.length_map, List.length_range]
theorem rng_nodup (n : Nat) : (rng n).Nodup := by
  unfold rng
  exact (List.nodup_range).map _ (fun a b h e => h (by omega))
/-- as many different numbers as a list that holds them has -/
theorem sub_len {l m : List Int} (nd : l.Nodup) (s : ∀ x ∈ l, x ∈ m) : l.length ≤ m.length := by
  induction l generalizing m with
  | nil => exact Nat.zero_le _
  | cons x r ih =>
    have nx : x ∉ r := (List.nodup_cons.mp nd).1
    have hx := s x List.mem_cons_self
    have h2 : r.length ≤ (m.erase x).length := ih (List.nodup_cons.mp nd).2 fun y hy => by
      have ne : y ≠ x := fun z => nx (z ▸ hy)
      exact (List.mem_erase_of_ne ne).mpr (s y (List.mem_cons_of_mem _ hy))
    have h3 : (m.erase x).length = m.length - 1 := by rw [List.length_erase]; simp [hx]
    have h4 : 0 < m.length := List.length_pos_of_mem hx
    rw [List.length_cons]
    omega
/-- if there are as many, all of them are there -/
theorem full_of {l m : List Int} (nd : l.Nodup) (s : ∀ x ∈ l, x ∈ m) (e : m.length ≤ l.length) : ∀ x ∈ m, x ∈ l := by
  intro x hx
  by_cases c : x ∈ l
  · exact c
  · have := sub_len (l := x :: l) (m := m) (List.nodup_cons.mpr ⟨c, nd⟩) fun y hy => by
      rcases List.mem_cons.mp hy with rfl | hy
      · exact hx
      · exact s y hy
    rw [List.length_cons] at this
    omega
/-! ### by a stack: the law's own search -/
/-- one look at all pairs from here -/
def look (here : Int) : Prs → List Int × List Int → List Int × List Int
  | [], s => s
  | (t, h) :: r, (found, line) => if t = here ∧ h ∉ found then look here r (found ++ [h], line ++ [h]) else look here r (found, line)
structure Stk (E : Prs) (a : Int) (found line : List Int) : Prop where
  nd : found.Nodup
  sub : ∀ x ∈ line, x ∈ found
  beg : a ∈ found
  snd : ∀ x ∈ found, Rch E a x
  don : ∀ x ∈ found, x ∉ line → ∀ h, (x, h) ∈ E → h ∈ found
structure Lk (E : Prs) (a here : Int) (L : Prs) (found line : List Int) : Prop where
  nd : found.Nodup
  sub : ∀ x ∈ line, x ∈ found
  her : here ∈ found
  beg : a ∈ found
  snd : ∀ x ∈ found, Rch E a x
  don : ∀ x ∈ found, x ∉ line → x ≠ here → ∀ h, (x, h) ∈ E → h ∈ found
  now : ∀ h, (here, h) ∈ E → (here, h) ∉ L → h ∈ found
theorem look_ok {E : Prs} {a here : Int} : ∀ (L : Prs) (found line : List Int), (∀ p ∈ L, p ∈ E) → Lk E a here L found line → Lk E a here [] (look here L (found, line)).1 (look here L (found, line)).2 ∧ (∀ x ∈ found, x ∈ (look here L (found, line)).1) ∧ ∃ more, (look here L (found, line)).1 = found ++ more ∧ (look here L (found, line)).2 = line ++ more
  | [], found, line, _, k => ⟨k, fun _ h => h, [], by simp [look], by simp [look]⟩
  | (t, h) :: r, found, line, hs, k => by
    have hr : ∀ p ∈ r, p ∈ E := fun p hp => hs p (List.mem_cons_of_mem _ hp)
    unfold look
    by_cases c : t = here ∧ h ∉ found
    · rw [if_pos c]
      obtain ⟨rfl, c2⟩ := c
      have k' : Lk E a t r (found ++ [h]) (line ++ [h]) :=
        { nd := by
            rw [List.nodup_append]
            refine ⟨k.nd, List.nodup_cons.mpr ⟨by simp, List.nodup_nil⟩, fun x hx y hy e => ?_⟩
            rw [List.mem_singleton] at hy
            exact c2 (hy ▸ e ▸ hx)
          sub := fun x hx => by
            rcases List.mem_append.mp hx with hx | hx
            · exact List.mem_append_left _ (k.sub x hx)
            · exact List.mem_append_right _ hx
          her := List.mem_append_left _ k.her
          beg := List.mem_append_left _ k.beg
          snd := fun x hx => by
            rcases List.mem_append.mp hx with hx | hx
            · exact k.snd x hx
            · rw [List.mem_singleton] at hx
              subst hx
              exact .step (k.snd t k.her) (hs _ List.mem_cons_self)
          don := fun x hx hl hn g e => by
            rcases List.mem_append.mp hx with hx | hx
            · exact List.mem_append_left _ (k.don x hx (fun z => hl (List.mem_append_left _ z)) hn g e)
            · exact absurd (List.mem_append_right _ hx) hl
          now := fun g e n => by
            by_cases z : g = h
            · subst z
              exact List.mem_append_right _ (List.mem_singleton.mpr rfl)
            · refine List.mem_append_left _ (k.now g e fun m => ?_)
              rcases List.mem_cons.mp m with m | m
              · exact z (Prod.mk.inj m).2
              · exact n m }
      obtain ⟨i1, i2, more, i3, i4⟩ := look_ok r (found ++ [h]) (line ++ [h]) hr k'
      exact ⟨i1, fun x hx => i2 x (List.mem_append_left _ hx), h :: more, by rw [i3]; simp, by rw [i4]; simp⟩
    · rw [if_neg c]
      have k' : Lk E a here r found line :=
        { k with
          now := fun g e n => by
            by_cases z : (here, g) = (t, h)
            · obtain ⟨z1, z2⟩ := Prod.mk.inj z
              by_cases c3 : h ∈ found
              · rw [z2]; exact c3
              · exact absurd ⟨z1.symm, c3⟩ c
            · refine k.now g e fun m => ?_
              rcases List.mem_cons.mp m with m | m
              · exact z m
              · exact n m }
      exact look_ok r found line hr k'
/-- the search: as long as the line is not empty -/
def run (E : Prs) : Nat → List Int × List Int → List Int
  | 0, s => s.1
  | m + 1, (found, line) => match line.getLast? with
    | none => found
    | some here => run E m (look here E (found, line.dropLast))
theorem stk_step {E : Prs} {a here : Int} {found line : List Int} (k : Stk E a found (line ++ [here])) : Stk E a (look here E (found, line)).1 (look here E (found, line)).2 ∧ (∀ x ∈ found, x ∈ (look here E (found, line)).1) ∧ ∃ more, (look here E (found, line)).1 = found ++ more ∧ (look here E (found, line)).2 = line ++ more := by
  have hh : here ∈ found := k.sub here (List.mem_append_right _ (List.mem_singleton.mpr rfl))
  have k0 : Lk E a here E found line :=
    { nd := k.nd, sub := fun x hx => k.sub x (List.mem_append_left _ hx), her := hh, beg := k.beg, snd := k.snd
      don := fun x hx hl hn => k.don x hx fun m => by
        rcases List.mem_append.mp m with m | m
        · exact hl m
        · exact hn (List.mem_singleton.mp m)
      now := fun g e n => absurd e n }
  obtain ⟨i1, i2, i3⟩ := look_ok E found line (fun _ h => h) k0
  refine ⟨⟨i1.nd, i1.sub, i1.beg, i1.snd, fun x hx hl h e => ?_⟩, i2, i3⟩
  by_cases z : x = here
  · subst z
    exact i1.now h e (by simp)
  · exact i1.don x hx hl z h e
/-- an empty line: all that is come to -/
theorem stk_end {E : Prs} {a : Int} {found : List Int} (k : Stk E a found []) : ∀ x, x ∈ found ↔ Rch E a x := fun x =>
  ⟨k.snd x, fun h => Rch.closed (fun t g e ht => k.don t ht (by simp) g e) k.beg h⟩
theorem stk_beg (E : Prs) (a : Int) : Stk E a [a] [a] :=
  ⟨List.nodup_cons.mpr ⟨by simp, List.nodup_nil⟩, fun _ h => h, List.mem_singleton.mpr rfl, fun x hx => by rw [List.mem_singleton.mp hx]; exact .refl a, fun x hx hl => absurd hx hl⟩
end NetM


namespace NetM
/-! ### by rounds: the program's own look -/
def ins (x : Int) (l : List Int) : List Int := if x ∈ l then l else l ++ [x]
theorem mem_ins {x y : Int} {l : List Int} : y ∈ ins x l ↔ y = x ∨ y ∈ l := by
  unfold ins
  by_cases c : x ∈ l
  · rw [if_pos c]
    exact ⟨.inr, fun h => h.elim (fun e => e ▸ c) id⟩
  · rw [if_neg c, List.mem_append, List.mem_singleton]
    exact Or.comm
theorem ins_nodup {x : Int} {l : List Int} (n : l.Nodup) : (ins x l).Nodup := by
  unfold ins
  by_cases c : x ∈ l
  · rw [if_pos c]; exact n
  · rw [if_neg c, List.nodup_append]
    refine ⟨n, List.nodup_cons.mpr ⟨by simp, List.nodup_nil⟩, fun a ha b hb e => ?_⟩
    rw [List.mem_singleton] at hb
    exact c (hb ▸ e ▸ ha)
/-- one round over the pairs -/
def round : Prs → List Int → List Int
  | [], l => l
  | (t, h) :: r, l => if t ∈ l ∨ h ∈ l then round r (ins h (ins t l)) else round r l
def rounds (E : Prs) : Nat → List Int → List Int
  | 0, l => l
  | m + 1, l => rounds E m (round E l)
theorem round_sub : ∀ (E : Prs) (l : List Int), ∀ x ∈ l, x ∈ round E l
  | [], _, _, h => h
  | (t, h) :: r, l, x, hx => by
    unfold round
    by_cases c : t ∈ l ∨ h ∈ l
    · rw [if_pos c]
      exact round_sub r _ x (mem_ins.mpr (.inr (mem_ins.mpr (.inr hx))))
    · rw [if_neg c]
      exact round_sub r l x hx
theorem round_nodup : ∀ (E : Prs) (l : List Int), l.Nodup → (round E l).Nodup
  | [], _, n => n
  | (t, h) :: r, l, n => by
    unfold round
    by_cases c : t ∈ l ∨ h ∈ l
    · rw [if_pos c]; exact round_nodup r _ (ins_nodup (ins_nodup n))
    · rw [if_neg c]; exact round_nodup r l n
theorem round_snd {E0 : Prs} {a : Int} : ∀ (E : Prs) (l : List Int), (∀ p ∈ E, p ∈ E0) → (∀ x ∈ l, Rch (both E0) a x) → ∀ x ∈ round E l, Rch (both E0) a x
  | [], _, _, k => k
  | (t, h) :: r, l, s, k => by
    have hr : ∀ p ∈ r, p ∈ E0 := fun p hp => s p (List.mem_cons_of_mem _ hp)
    have e : (t, h) ∈ E0 := s _ List.mem_cons_self
    unfold round
    by_cases c : t ∈ l ∨ h ∈ l
    · rw [if_pos c]
      refine round_snd r _ hr fun x hx => ?_
      have kt : Rch (both E0) a t := c.elim (k t) fun z => .step (k h z) (mem_both.mpr (.inr e))
      rcases mem_ins.mp hx with rfl | hx
      · exact .step kt (mem_both.mpr (.inl e))
      · rcases mem_ins.mp hx with rfl | hx
        · exact kt
        · exact k x hx
    · rw [if_neg c]
      exact round_snd r l hr k
/-- a round that adds nothing has looked at a closed set -/
theorem round_same : ∀ (E : Prs) (l : List Int), (∀ x ∈ round E l, x ∈ l) → ∀ t h, (t, h) ∈ E → (t ∈ l ↔ h ∈ l)
  | [], _, _, _, _, m => by simp at m
  | (t, h) :: r, l, k, t', h', m => by
    unfold round at k
    by_cases c : t ∈ l ∨ h ∈ l
    · rw [if_pos c] at k
      have k2 : ∀ x ∈ ins h (ins t l), x ∈ l := fun x hx => k x (round_sub r _ x hx)
      have ht := k2 t (mem_ins.mpr (.inr (mem_ins.mpr (.inl rfl))))
      have hh := k2 h (mem_ins.mpr (.inl rfl))
      have e : ins h (ins t l) = l := by
        have e1 : ins t l = l := if_pos ht
        rw [e1]
        exact if_pos hh
      rw [e] at k
      rcases List.mem_cons.mp m with m | m
      · cases m
        exact ⟨fun _ => hh, fun _ => ht⟩
      · exact round_same r l k t' h' m
    · rw [if_neg c] at k
      rcases List.mem_cons.mp m with m | m
      · obtain ⟨m1, m2⟩ := Prod.mk.inj m
        subst m1 m2
        exact ⟨fun z => absurd (.inl z) c, fun z => absurd (.inr z) c⟩
      · exact round_same r l k t' h' m
theorem round_len {E : Prs} {l : List Int} (n : l.Nodup) : l.length ≤ (round E l).length := sub_len n (round_sub E l)
theorem round_eq_of_len {E : Prs} {l : List Int} (n : l.Nodup) (e : (round E l).length ≤ l.length) : ∀ x ∈ round E l, x ∈ l := full_of n (round_sub E l) e
theorem rounds_sub (E : Prs) : ∀ (m : Nat) (l : List Int), ∀ x ∈ l, x ∈ rounds E m l
  | 0, _, _, h => h
  | m + 1, l, x, h => rounds_sub E m _ x (round_sub E l x h)
theorem rounds_nodup (E : Prs) : ∀ (m : Nat) (l : List Int), l.Nodup → (rounds E m l).Nodup
  | 0, _, n => n
  | m + 1, l, n => rounds_nodup E m _ (round_nodup E l n)
theorem rounds_snd {E : Prs} {a : Int} : ∀ (m : Nat) (l : List Int), (∀ x ∈ l, Rch (both E) a x) → ∀ x ∈ rounds E m l, Rch (both E) a x
  | 0, _, k => k
  | m + 1, l, k => rounds_snd m _ (round_snd E l (fun _ h => h) k)
/-- a closed set is what it was behind a round, as far as who is in it -/
theorem closed_round : ∀ (E : Prs) (l : List Int), (∀ t h, (t, h) ∈ E → (t ∈ l ↔ h ∈ l)) → round E l = l
  | [], _, _ => rfl
  | (t, h) :: r, l, k => by
    have kr := fun t' h' m => k t' h' (List.mem_cons_of_mem _ m)
    unfold round
    by_cases c : t ∈ l ∨ h ∈ l
    · rw [if_pos c]
      have e := k t h List.mem_cons_self
      have ht : t ∈ l := c.elim id e.mpr
      have hh : h ∈ l := e.mp ht
      have e1 : ins t l = l := if_pos ht
      have e2 : ins h l = l := if_pos hh
      rw [e1, e2]
      exact closed_round r l kr
    · rw [if_neg c]
      exact closed_round r l kr
theorem closed_rounds {E : Prs} {l : List Int} (k : ∀ t h, (t, h) ∈ E → (t ∈ l ↔ h ∈ l)) : ∀ m, rounds E m l = l
  | 0 => rfl
  | m + 1 => by
    show rounds E m (round E l) = l
    rw [closed_round E l k]
    exact closed_rounds k m
/-- enough rounds: closed, or longer by one each -/
theorem rounds_end (E : Prs) : ∀ (m : Nat) (l : List Int), l.Nodup → (∀ t h, (t, h) ∈ E → (t ∈ rounds E m l ↔ h ∈ rounds E m l)) ∨ l.length + m ≤ (rounds E m l).length
  | 0, l, _ => .inr (by show l.length + 0 ≤ l.length; omega)
  | m + 1, l, n => by
    show (∀ t h, (t, h) ∈ E → (t ∈ rounds E m (round E l) ↔ h ∈ rounds E m (round E l))) ∨ l.length + (m + 1) ≤ (rounds E m (round E l)).length
    by_cases c : (round E l).length ≤ l.length
    · left
      have k := round_same E l (round_eq_of_len n c)
      have e := closed_round E l k
      rw [e, closed_rounds k m]
      exact k
    · rcases rounds_end E m (round E l) (round_nodup E l n) with h | h
      · exact .inl h
      · right; omega
/-- as many rounds as there are places: the places that hang together with the first -/
theorem rounds_all {E : Prs} {n : Nat} (hn : 0 < n) (hE : ∀ t h, (t, h) ∈ E → InR n t ∧ InR n h) : ∀ x, x ∈ rounds E n [0] ↔ Rch (both E) 0 x := by
  have snd : ∀ x ∈ rounds E n [0], Rch (both E) 0 x := rounds_snd n [0] fun x hx => by rw [List.mem_singleton.mp hx]; exact .refl 0
  have nd := rounds_nodup E n [0] (List.nodup_cons.mpr ⟨by simp, List.nodup_nil⟩)
  have inr : ∀ x, Rch (both E) 0 x → InR n x := fun x h => by
    cases h with
    | refl => unfold InR; omega
    | step _ e =>
      rcases mem_both.mp e with e | e
      · exact (hE _ _ e).2
      · exact (hE _ _ e).1
  have le : (rounds E n [0]).length ≤ n := by
    have := sub_len (m := rng n) nd fun x hx => mem_rng.mpr (inr x (snd x hx))
    rwa [rng_len] at this
  rcases rounds_end E n [0] (List.nodup_cons.mpr ⟨by simp, List.nodup_nil⟩) with k | k
  · intro x
    refine ⟨snd x, fun h => Rch.closed (E := both E) (fun t g e ht => ?_) (rounds_sub E n [0] 0 (List.mem_singleton.mpr rfl)) h⟩
    rcases mem_both.mp e with e | e
    · exact (k t g e).mp ht
    · exact (k g t e).mpr ht
  · simp only [List.length_singleton] at k
    omega
/-- the program's answer and the law's -/
theorem hangs_iff {E : Prs} {n : Nat} {f : List Int} (hn : 0 < n) (hE : ∀ t h, (t, h) ∈ E → InR n t ∧ InR n h) (nf : f.Nodup) (hf : ∀ x, x ∈ f ↔ Rch (both E) 0 x) : (rounds E n [0]).length = n ↔ ¬ f.length < n := by
  have nd := rounds_nodup E n [0] (List.nodup_cons.mpr ⟨by simp, List.nodup_nil⟩)
  have h := rounds_all hn hE
  have e1 := sub_len nd fun x hx => (hf x).mpr ((h x).mp hx)
  have e2 := sub_len nf fun x hx => (h x).mpr ((hf x).mp hx)
  have le : (rounds E n [0]).length ≤ n := by
    have := sub_len (m := rng n) nd fun x hx => mem_rng.mpr (by
      have r := (h x).mp hx
      cases r with
      | refl => unfold InR; omega
      | step _ e =>
        rcases mem_both.mp e with e | e
        · exact (hE _ _ e).2
        · exact (hE _ _ e).1)
    rwa [rng_len] at this
  omega
end NetM


namespace NetM
/-! ### an order from the ends -/
def free (E : Prs) (o : List Int) (p : Int) : Bool := decide (p ∉ o) && (E.all fun q => !(decide (q.1 = p)) || decide (q.2 ∈ o))
def ready (E : Prs) (n : Nat) (o : List Int) : List Int := (rng n).filter (free E o)
def ordr (E : Prs) (n : Nat) : Nat → List Int → List Int
  | 0, o => o
  | m + 1, o => match ready E n o with
    | [] => ordr E n m o
    | p :: _ => ordr E n m (o ++ [p])
theorem free_iff {E : Prs} {o : List Int} {p : Int} : free E o p = true ↔ p ∉ o ∧ ∀ h, (p, h) ∈ E → h ∈ o := by
  unfold free
  rw [Bool.and_eq_true, decide_eq_true_eq, List.all_eq_true]
  constructor
  · rintro ⟨a, b⟩
    refine ⟨a, fun h m => ?_⟩
    have := b _ m
    simpa using this
  · rintro ⟨a, b⟩
    refine ⟨a, fun q m => ?_⟩
    by_cases c : q.1 = p
    · have := b q.2 (by rw [← c]; exact m)
      simp [this]
    · simp [c]
/-- the order so far: below n, different, and what stands behind a place stands ahead of it -/
structure Ord (E : Prs) (n : Nat) (o : List Int) : Prop where
  nd : o.Nodup
  inr : ∀ x ∈ o, InR n x
  clo : ∀ t h, (t, h) ∈ E → t ∈ o → h ∈ o
  low : ∀ t h, (t, h) ∈ E → t ∈ o → o.idxOf h < o.idxOf t
theorem idx_app {l : List Int} {x p : Int} (h : x ∈ l) : (l ++ [p]).idxOf x = l.idxOf x := by rw [List.idxOf_append, if_pos h]
theorem idx_new {l : List Int} {p : Int} (h : p ∉ l) : (l ++ [p]).idxOf p = l.length := by
  rw [List.idxOf_append, if_neg h]
  simp
theorem ord_step {E : Prs} {n : Nat} {o r : List Int} {p : Int} (k : Ord E n o) (e : ready E n o = p :: r) : Ord E n (o ++ [p]) := by
  have hp : p ∈ ready E n o := by rw [e]; exact List.mem_cons_self
  unfold ready at hp
  obtain ⟨h1, h2⟩ := List.mem_filter.mp hp
  obtain ⟨h3, h4⟩ := free_iff.mp h2
  have mem : ∀ {x : Int}, x ∈ o ++ [p] ↔ x ∈ o ∨ x = p := fun {x} => by rw [List.mem_append, List.mem_singleton]
  refine ⟨?_, fun x hx => ?_, fun t h m ht => ?_, fun t h m ht => ?_⟩
  · rw [List.nodup_append]
    refine ⟨k.nd, List.nodup_cons.mpr ⟨by simp, List.nodup_nil⟩, fun a ha b hb e => ?_⟩
    rw [List.mem_singleton] at hb
    exact h3 (hb ▸ e ▸ ha)
  · rcases mem.mp hx with hx | rfl
    · exact k.inr x hx
    · exact mem_rng.mp h1
  · rcases mem.mp ht with ht | rfl
    · exact mem.mpr (.inl (k.clo t h m ht))
    · exact mem.mpr (.inl (h4 h m))
  · rcases mem.mp ht with ht | rfl
    · rw [idx_app ht, idx_app (k.clo t h m ht)]
      exact k.low t h m ht
    · have hh := h4 h m
      rw [idx_app hh, idx_new h3]
      exact List.idxOf_lt_length_of_mem hh
theorem ord_nil (E : Prs) (n : Nat) : Ord E n [] := ⟨List.nodup_nil, fun x h => by simp at h, fun t h _ m => by simp at m, fun t h _ m => by simp at m⟩
theorem ordr_ok {E : Prs} {n : Nat} : ∀ (m : Nat) (o : List Int), Ord E n o → Ord E n (ordr E n m o)
  | 0, _, k => k
  | m + 1, o, k => by
    unfold ordr
    cases e : ready E n o with
    | nil => exact ordr_ok m o k
    | cons p r => exact ordr_ok m (o ++ [p]) (ord_step k e)
/-- no pair leads back -/
def Acy (E : Prs) : Prop := ∀ t h, (t, h) ∈ E → ¬ Rch E h t
theorem low_rch {E : Prs} {n : Nat} {o : List Int} (k : Ord E n o) {a b : Int} (h : Rch E a b) : a ∈ o → b ∈ o ∧ o.idxOf b ≤ o.idxOf a := by
  intro ha
  induction h with
  | refl => exact ⟨ha, Nat.le_refl _⟩
  | step _ e ih =>
    obtain ⟨m, l⟩ := ih
    have := k.low _ _ e m
    exact ⟨k.clo _ _ e m, by omega⟩
theorem acy_of_full {E : Prs} {n : Nat} {o : List Int} (hE : ∀ t h, (t, h) ∈ E → InR n t ∧ InR n h) (k : Ord E n o) (e : o.length = n) : Acy E := by
  have all : ∀ x, InR n x → x ∈ o := fun x hx => full_of k.nd (m := rng n) (fun y hy => mem_rng.mpr (k.inr y hy)) (by rw [rng_len, e]; exact Nat.le_refl _) x (mem_rng.mpr hx)
  intro t h m r
  have ht := all t (hE t h m).1
  have hh := all h (hE t h m).2
  have l1 := k.low t h m ht
  have l2 := (low_rch k r hh).2
  omega
/-! a place that is left and none free: some way leads back -/
def nxt (E : Prs) (o : List Int) (p : Int) : Int := match E.find? (fun q => decide (q.1 = p) && decide (q.2 ∉ o)) with
  | some q => q.2
  | none => p
theorem nxt_ok {E : Prs} {o : List Int} {p : Int} (h : free E o p = false) (hp : p ∉ o) : (p, nxt E o p) ∈ E ∧ nxt E o p ∉ o := by
  have hx : ∃ g, (p, g) ∈ E ∧ g ∉ o := by
    by_cases c : ∃ g, (p, g) ∈ E ∧ g ∉ o
    · exact c
    · exfalso
      have : free E o p = true := free_iff.mpr ⟨hp, fun g m => by
        by_cases z : g ∈ o
        · exact z
        · exact absurd ⟨g, m, z⟩ c⟩
      rw [h] at this
      cases this
  obtain ⟨g, m, ng⟩ := hx
  unfold nxt
  cases e : E.find? (fun q => decide (q.1 = p) && decide (q.2 ∉ o)) with
  | none =>
    have := List.find?_eq_none.mp e _ m
    simp [ng] at this
  | some q =>
    have h1 := List.find?_some e
    have h2 := List.mem_of_find?_eq_some e
    simp only [Bool.and_eq_true, decide_eq_true_eq] at h1
    obtain ⟨h3, h4⟩ := h1
    exact ⟨by rw [← h3]; exact h2, h4⟩
def iter (f : Int → Int) : Nat → Int → Int
  | 0, x => x
  | m + 1, x => iter f m (f x)
theorem iter_succ (f : Int → Int) : ∀ (m : Nat) (x : Int), iter f (m + 1) x = f (iter f m x)
  | 0, _ => rfl
  | m + 1, x => iter_succ f m (f x)
/-- so many steps in so few places: some place twice -/
theorem pigeon (n : Nat) (g : Nat → Int) (h : ∀ i, i ≤ n → InR n (g i)) : ∃ i j, i < j ∧ j ≤ n ∧ g i = g j := by
  by_cases c : ∃ i j, i < j ∧ j ≤ n ∧ g i = g j
  · exact c
  · exfalso
    have nd : ((List.range (n + 1)).map g).Nodup := by
      refine List.pairwise_iff_getElem.mpr fun i j hi hj hij e => ?_
      rw [List.length_map, List.length_range] at hi hj
      rw [List.getElem_map, List.getElem_map, List.getElem_range, List.getElem_range] at e
      exact c ⟨i, j, hij, by omega, e⟩
    have := sub_len nd (m := rng n) fun x hx => by
      obtain ⟨i, hi, rfl⟩ := List.mem_map.mp hx
      have := List.mem_range.mp hi
      exact mem_rng.mpr (h i (by omega))
    rw [List.length_map, List.length_range, rng_len] at this
    omega
theorem some_free {E : Prs} {n : Nat} {o : List Int} (hE : ∀ t h, (t, h) ∈ E → InR n t ∧ InR n h) (ac : Acy E) {x : Int} (hx : InR n x) (nx : x ∉ o) : ready E n o ≠ [] := by
  intro e
  have nf : ∀ p, InR n p → p ∉ o → free E o p = false := fun p hp _ => by
    cases c : free E o p with
    | false => rfl
    | true =>
      have : p ∈ ready E n o := List.mem_filter.mpr ⟨mem_rng.mpr hp, c⟩
      rw [e] at this
      simp at this
  have inv : ∀ m, InR n (iter (nxt E o) m x) ∧ iter (nxt E o) m x ∉ o := fun m => by
    induction m with
    | zero => exact ⟨hx, nx⟩
    | succ m ih =>
      rw [iter_succ]
      have := nxt_ok (nf _ ih.1 ih.2) ih.2
      exact ⟨(hE _ _ this.1).2, this.2⟩
  have edge : ∀ m, (iter (nxt E o) m x, iter (nxt E o) (m + 1) x) ∈ E := fun m => by
    rw [iter_succ]
    exact (nxt_ok (nf _ (inv m).1 (inv m).2) (inv m).2).1
  have way : ∀ i d, Rch E (iter (nxt E o) i x) (iter (nxt E o) (i + d) x) := fun i d => by
    induction d with
    | zero => exact .refl _
    | succ d ih => exact .step ih (edge (i + d))
  obtain ⟨i, j, hij, _, ee⟩ := pigeon n (fun m => iter (nxt E o) m x) fun m _ => (inv m).1
  have r := way (i + 1) (j - (i + 1))
  rw [show i + 1 + (j - (i + 1)) = j by omega] at r
  have ee' : iter (nxt E o) i x = iter (nxt E o) j x := ee
  rw [← ee'] at r
  exact ac _ _ (edge i) r
theorem ordr_len {E : Prs} {n : Nat} (hE : ∀ t h, (t, h) ∈ E → InR n t ∧ InR n h) (ac : Acy E) : ∀ (m : Nat) (o : List Int), Ord E n o → o.length + m = n → (ordr E n m o).length = n
  | 0, o, _, e => by show o.length = n; omega
  | m + 1, o, k, e => by
    have hx : ∃ x, InR n x ∧ x ∉ o := by
      by_cases c : ∃ x, InR n x ∧ x ∉ o
      · exact c
      · exfalso
        have := sub_len (rng_nodup n) (m := o) fun y hy => by
          by_cases z : y ∈ o
          · exact z
          · exact absurd ⟨y, mem_rng.mp hy, z⟩ c
        rw [rng_len] at this
        omega
    obtain ⟨x, h1, h2⟩ := hx
    unfold ordr
    cases e2 : ready E n o with
    | nil => exact absurd e2 (some_free hE ac h1 h2)
    | cons p r => exact ordr_len hE ac m (o ++ [p]) (ord_step k e2) (by rw [List.length_append, List.length_singleton]; omega)
theorem order_iff {E : Prs} {n : Nat} (hE : ∀ t h, (t, h) ∈ E → InR n t ∧ InR n h) : (ordr E n n []).length = n ↔ Acy E :=
  ⟨fun e => acy_of_full hE (ordr_ok n [] (ord_nil E n)) e, fun a => ordr_len hE a n [] (ord_nil E n) (by simp)⟩
/-- each place but the first has a pair from one below it: all hangs together -/
theorem tree_all {E : Prs} {n : Nat} (h : ∀ k : Nat, 0 < k → k < n → ∃ a : Int, 0 ≤ a ∧ a < k ∧ (a, (k : Int)) ∈ E) : ∀ k : Nat, k < n → Rch (both E) 0 k := by
  intro k
  induction k using Nat.strongRecOn with
  | _ k ih =>
    intro hk
    by_cases c : k = 0
    · subst c; exact .refl _
    · obtain ⟨a, h0, h1, e⟩ := h k (by omega) hk
      have r := ih a.toNat (by omega) (by omega)
      rw [show ((a.toNat : Nat) : Int) = a by omega] at r
      exact .step r (mem_both.mpr (.inl e))
/-- pairs that go up lead nowhere back -/
theorem up_acy {E : Prs} (h : ∀ t g, (t, g) ∈ E → t < g) : Acy E := by
  have up : ∀ {a b : Int}, Rch E a b → a ≤ b := fun r => by
    induction r with
    | refl => exact Int.le_refl _
    | step _ e ih => have := h _ _ e; omega
  intro t g m r
  have := up r
  have := h t g m
  omega
theorem look_app (here : Int) (t h : Int) : ∀ (L : Prs) (s : List Int × List Int), look here (L ++ [(t, h)]) s = if t = here ∧ h ∉ (look here L s).1 then ((look here L s).1 ++ [h], (look here L s).2 ++ [h]) else look here L s
  | [], (found, line) => by rw [List.nil_append]; rfl
  | (a, b) :: r, (found, line) => by
    rw [List.cons_append]
    unfold look
    by_cases c : a = here ∧ b ∉ found
    · rw [if_pos c, if_pos c]
      exact look_app here t h r _
    · rw [if_neg c, if_neg c]
      exact look_app here t h r _
theorem look_len (here : Int) : ∀ (L : Prs) (f l : List Int), (look here L (f, l)).1.length ≤ f.length + L.length ∧ (look here L (f, l)).2.length ≤ l.length + L.length
  | [], f, l => by simp [look]
  | (a, b) :: r, f, l => by
    unfold look
    by_cases c : a = here ∧ b ∉ f
    · rw [if_pos c]
      have := look_len here r (f ++ [b]) (l ++ [b])
      rw [List.length_append, List.length_append, List.length_singleton] at this
      rw [List.length_cons]
      omega
    · rw [if_neg c]
      have := look_len here r f l
      simp only [List.length_cons] at *
      omega
theorem round_app (t h : Int) : ∀ (L : Prs) (l : List Int), round (L ++ [(t, h)]) l = if t ∈ round L l ∨ h ∈ round L l then ins h (ins t (round L l)) else round L l
  | [], l => by rw [List.nil_append]; rfl
  | (a, b) :: r, l => by
    rw [List.cons_append]
    unfold round
    by_cases c : a ∈ l ∨ b ∈ l
    · rw [if_pos c, if_pos c]
      exact round_app t h r _
    · rw [if_neg c, if_neg c]
      exact round_app t h r _
theorem rounds_succ (E : Prs) : ∀ (m : Nat) (l : List Int), rounds E (m + 1) l = round E (rounds E m l)
  | 0, _ => rfl
  | m + 1, l => rounds_succ E m (round E l)
theorem ordr_succ (E : Prs) (n : Nat) : ∀ (m : Nat) (o : List Int), ordr E n (m + 1) o = (match ready E n (ordr E n m o) with | [] => ordr E n m o | p :: _ => ordr E n m o ++ [p])
  | 0, o => by
    show (match ready E n o with | [] => ordr E n 0 o | p :: _ => ordr E n 0 (o ++ [p])) = _
    rfl
  | m + 1, o => by
    show (match ready E n o with | [] => ordr E n (m + 1) o | p :: _ => ordr E n (m + 1) (o ++ [p])) = (match ready E n (match ready E n o with | [] => ordr E n m o | p :: _ => ordr E n m (o ++ [p])) with | [] => (match ready E n o with | [] => ordr E n m o | p :: _ => ordr E n m (o ++ [p])) | p :: _ => (match ready E n o with | [] => ordr E n m o | p :: _ => ordr E n m (o ++ [p])) ++ [p])
    cases ready E n o with
    | nil => exact ordr_succ E n m o
    | cons p r => exact ordr_succ E n m (o ++ [p])
theorem ordr_le {E : Prs} {n : Nat} (h : n ≤ 8) (m : Nat) : (ordr E n m []).length ≤ 8 := by
  have k := ordr_ok (E := E) (n := n) m [] (ord_nil E n)
  have := sub_len k.nd fun x hx => mem_rng.mpr (k.inr x hx)
  rw [rng_len] at this
  omega
end NetM


set_option Elab.async false
set_option maxRecDepth 100000
namespace K03
open PySem PySem.Spec PyProof.Rows L2
def top (i : Nat) : Stmt := PySem.Challenge.pw_boughwebs_k05_roots_and_mirrored_rows.main.body.getD i (.Pass ⟨0, 0, 0, 0⟩)
abbrev sBegun : Stmt := top 38
abbrev sMixed : Stmt := top 39
abbrev sTake : Stmt := top 40
abbrev sPick : Stmt := top 41
theorem scBegun : FnScope ["script", "large", "grain"] ["script"] (defScope sBegun) := ⟨rfl, rfl, rfl, by decide +kernel, rfl, by decide +kernel, by decide +kernel⟩
theorem scMixed : FnScope ["draw", "turn", "found", "great", "blend", "grain"] ["draw"] (defScope sMixed) := ⟨rfl, rfl, rfl, by decide +kernel, rfl, by decide +kernel, by decide +kernel⟩
theorem scTake : FnScope ["draw", "amount", "found"] ["draw", "amount"] (defScope sTake) := ⟨rfl, rfl, rfl, by decide +kernel, rfl, by decide +kernel, by decide +kernel⟩
theorem scPick : FnScope ["draw", "some"] ["draw", "some"] (defScope sPick) := ⟨rfl, rfl, rfl, by decide +kernel, rfl, by decide +kernel, by decide +kernel⟩
/-- the pairs of a state of draws -/
def drawL (lg cl : Addr) (r t : Int) : List (Key × V) := [(.inr "large", .ref lg), (.inr "rest", .int r), (.inr "cells", .ref cl), (.inr "turn", .int t)]
structure DrawAt (H : Hp) (d lg cl : Addr) : Prop where
  dc : ∃ r t : Int, H d = some (.dK (drawL lg cl r t))
  la : ∃ L : List Int, L.length ≤ 63 ∧ H lg = some (.lst (L.map V.int))
  ce : ∃ L : List Int, L.length ≤ 63 ∧ H cl = some (.lst (L.map V.int))
  ne : cl ≠ lg
/-- what the state of draws may change -/
def Kept (d lg : Addr) (H H' : Hp) : Prop := ∀ b o, H b = some o → b ≠ d → b ≠ lg → H' b = some o
def spBegun (K : PySem.W.Frag) : Sp := fun vs H Q _ => ∃ (a : Addr) (ns : List Int), vs = [.ref a] ∧ SqL K H a (ns.map V.int) ∧ ns.length ≤ 63 ∧
  ∀ (d lg cl : Addr) (H' : Hp), DrawAt H' d lg cl → Same H H' → H d = none → H lg = none → H cl = none → Q (.ref d) H'
section
variable {P : Program} {w : World} {K : PySem.W.Frag} {mg : Str → Option Value} {base : Heap}
theorem same_upd {H : Hp} {p : Addr} {o : HO} (h : H p = none) : Same H (upd H p o) := fun b x e => by
  rw [upd_ne (ne_of_none e h)]
  exact e
theorem int_at {ns : List Int} {i : Nat} {x : V} (h : (ns.map V.int)[i]? = some x) : ∃ z, ns[i]? = some z ∧ x = .int z := by
  rw [List.getElem?_map] at h
  cases e : ns[i]? with
  | none => rw [e] at h; cases h
  | some z => rw [e] at h; exact ⟨z, rfl, (Option.some.inj h).symm⟩
theorem cpow18 : CPow 10 18 := ⟨by decide, by decide, by decide⟩
theorem ok_begun {f : Addr} {fd : FuncData} (F : Fun K "_law_begun" "_law_begun" sBegun f fd) (mAbs : mg "abs" = none) : FnOk P w K mg base CX0 1 f fd ["script"] (spBegun K) := by
  refine F.ok scBegun (fun vs H Q E h => ?_) (fun cdv A outer s H vs Q E hr h => ?_)
  · obtain ⟨a, ns, rfl, _⟩ := h
    rfl
  · obtain ⟨a, ns, rfl, hS, hlen, k⟩ := h
    have nd := scBegun.nd
    refine ⟨_, pss_cons (ps_setLc (i := 1) (own := [("grain", 2)]) (g := gName 2) (by rfl) nd rfl rfl (sw_true rfl rfl rfl (by decide +kernel)) (pi_list (pv 0)) (blkOk_by (N := ["script", "large", "grain"]) (sc := defScope sBegun) (by decide +kernel)) (fun _ _ _ _ _ => pg_name (i := 2) nd rfl (Or.inl rfl))
        (fun _ _ _ _ _ => pts_one (pt_cmpR op_ge (pe_callB call_abs (by rfl) mAbs (by decide +kernel) (pa_cons (pv 2) pa_nil)) (pe_op op_pow pe_int pe_int) (nomark _)))
        (fun _ _ _ _ _ => pe_op op_sub (pe_callB call_abs (by rfl) mAbs (by decide +kernel) (pa_cons (pv 2) pa_nil)) (pe_op op_pow pe_int pe_int)))
      (pss_one (ps_ret (pe_disp (pps_cons pe_str (pv 1) (pps_cons pe_str pe_int (pps_cons pe_str
        (pe_lc (own := [("grain", 2)]) (g := gName 2) (by rfl) nd (pi_list (pv 0)) (blkOk_by (N := ["script", "large", "grain"]) (sc := defScope sBegun) (by decide +kernel)) (fun _ _ _ _ _ => pg_name (i := 2) nd rfl (Or.inl rfl)) (fun _ _ _ _ _ => pts_nil)
          (fun _ _ _ _ _ => pe_callB call_abs (by rfl) mAbs (by decide +kernel) (pa_cons (pv 2) pa_nil))) (pps_cons pe_str pe_int pps_nil)))) (by rfl) (by rfl) (fun z => by cases z) (by decide)))), ?_⟩
    refine ⟨_, rfl, a, rfl, ⟨_, hS⟩, fun lg nlg => lc_list (K := K) (a := a) (xs := ns.map V.int) (fun i H1 => Same H H1 ∧ ∃ L : List Int, L.length ≤ i ∧ H1 lg = some (.lst (L.map V.int)))
      ⟨same_upd nlg, [], Nat.le_refl _, upd_same⟩ (fun i H1 _ hp => hp.1.seq hS) ?_ ?_⟩
    · rintro i x H1 hi ⟨s1, L, hL, eL⟩
      obtain ⟨z, hz, rfl⟩ := int_at hi
      have hil : i < ns.length := (List.getElem?_eq_some_iff.mp hz).1
      refine ⟨rfl, _, rfl, _, rfl, _, _, rfl, rfl, cpow18, _, _, rfl, rfl, _, rfl, ?_⟩
      refine ite2 (fun _ => ?_) (fun _ => ⟨s1, L, by omega, eL⟩)
      refine ⟨_, rfl, _, rfl, _, _, rfl, rfl, cpow18, _, _, rfl, rfl, _, eL, small1000 (by rw [List.length_map]; omega), ?_, L ++ [(if z < 0 then -z else z) - 10 ^ (18 : Int).toNat], ?_, ?_⟩
      · intro b o e
        rw [upd_ne (ne_of_none e nlg)]
        exact s1 b o e
      · rw [List.length_append]
        show L.length + 1 ≤ i + 1
        omega
      · rw [upd_same, List.map_append]
        rfl
    · rintro H1 ⟨s1, L, hL, eL⟩
      rw [List.length_map] at hL
      refine fun d hd => ⟨_, rfl, ?_⟩
      have ndlg : lg ≠ d := ne_of_none eL hd
      have s2 : Same H (upd H1 d (.dK [])) := fun b o e => same_upd hd b o (s1 b o e)
      refine ⟨_, rfl, a, rfl, ⟨_, s2.seq hS⟩, fun cl ncl => lc_list (K := K) (a := a) (xs := ns.map V.int) (fun i H2 => Same (upd H1 d (.dK [])) H2 ∧ ∃ M : List Int, M.length ≤ i ∧ H2 cl = some (.lst (M.map V.int)))
        ⟨same_upd ncl, [], Nat.le_refl _, upd_same⟩ (fun i H2 _ hp => (Same.trans s2 hp.1).seq hS) ?_ ?_⟩
      · rintro i x H2 hi ⟨s3, M, hM, eM⟩
        obtain ⟨z, hz, rfl⟩ := int_at hi
        have hil : i < ns.length := (List.getElem?_eq_some_iff.mp hz).1
        refine ⟨rfl, ?_⟩
        dsimp only [tYes]
        refine iteT ?_
        refine ⟨_, rfl, _, rfl, _, eM, small1000 (by rw [List.length_map]; omega), ?_, M ++ [if z < 0 then -z else z], ?_, ?_⟩
        · intro b o e
          rw [upd_ne (ne_of_none e ncl)]
          exact s3 b o e
        · rw [List.length_append]
          show M.length + 1 ≤ i + 1
          omega
        · rw [upd_same, List.map_append]
          rfl
      · rintro H2 ⟨s3, M, hM, eM⟩
        rw [List.length_map] at hM
        have ed : H2 d = some (.dK []) := s3 d _ upd_same
        have el : H2 lg = some (.lst (L.map V.int)) := s3 lg _ (by rw [upd_ne ndlg]; exact eL)
        refine ⟨ed, drawL lg cl 0 0, rfl, (by show 4 ≤ 15; decide), ?_⟩
        have ncd : cl ≠ d := ne_of_none (o := .lst (M.map V.int)) (H := fun b => if b = cl then some (.lst (M.map V.int)) else none) (by simp) (by
          have : d ≠ cl := ne_of_none upd_same ncl
          simp [this]) 
        have ncg : cl ≠ lg := fun z => by
          rw [z, upd_ne ndlg, eL] at ncl
          cases ncl
        have s4 : Same H H2 := fun b o e => s3 b o (s2 b o e)
        refine k d lg cl _ ⟨⟨0, 0, ?_⟩, ⟨L, by omega, ?_⟩, ⟨M, by omega, ?_⟩, ncg⟩ ?_ ?_ nlg ?_
        · rw [upd_same]
          rfl
        · rw [upd_ne ndlg]
          exact el
        · rw [upd_ne ncd]
          exact eM
        · intro b o e
          have : b ≠ d := fun z => by
            subst z
            have := s1 b _ e
            rw [hd] at this
            cases this
          rw [upd_ne this]
          exact s4 b o e
        · cases e : H d with
          | none => rfl
          | some o => 
            have := s1 d _ e
            rw [hd] at this
            cases this
        · cases e : H cl with
          | none => rfl
          | some o => 
            have := s2 cl _ e
            rw [ncl] at this
            cases this
end
end K03


set_option Elab.async false
set_option maxRecDepth 100000
namespace K03
open PySem PySem.Spec PyProof.Rows L2
theorem kne {a b : Str} (h : ¬ a = b) : ¬ (Sum.inr a : Key) = Sum.inr b := fun z => h (Sum.inr.inj z)
theorem n_lr : ¬ (("large" : Str) = "rest") := by decide +kernel
theorem n_lc : ¬ (("large" : Str) = "cells") := by decide +kernel
theorem n_lt : ¬ (("large" : Str) = "turn") := by decide +kernel
theorem n_rc : ¬ (("rest" : Str) = "cells") := by decide +kernel
theorem n_rt : ¬ (("rest" : Str) = "turn") := by decide +kernel
theorem n_ct : ¬ (("cells" : Str) = "turn") := by decide +kernel
variable (lg cl : Addr) (r t z : Int)
theorem g_large : valV (drawL lg cl r t) (.inr "large") = some (.ref lg) := valV_pos rfl
theorem g_rest : valV (drawL lg cl r t) (.inr "rest") = some (.int r) := (valV_neg (kne n_lr)).trans (valV_pos rfl)
theorem g_cells : valV (drawL lg cl r t) (.inr "cells") = some (.ref cl) := (valV_neg (kne n_lc)).trans ((valV_neg (kne n_rc)).trans (valV_pos rfl))
theorem g_turn : valV (drawL lg cl r t) (.inr "turn") = some (.int t) := (valV_neg (kne n_lt)).trans ((valV_neg (kne n_rt)).trans ((valV_neg (kne n_ct)).trans (valV_pos rfl)))
theorem p_rest : putK (drawL lg cl r t) (.inr "rest") (.int z) = drawL lg cl z t := by
  simp [putK, drawL, n_lr, Ne.symm n_rc, Ne.symm n_rt]
theorem p_turn : putK (drawL lg cl r t) (.inr "turn") (.int z) = drawL lg cl r z := by
  simp [putK, drawL, n_lt, n_rt, n_ct]
theorem dl4 : (drawL lg cl r t).length < sizeLine := by show 4 < sizeLine; decide
end K03


set_option Elab.async false
set_option maxRecDepth 100000
namespace K03
open PySem PySem.Spec PyProof.Rows L2
section
variable {P : Program} {w : World} {K : PySem.W.Frag} {mg : Str → Option Value} {base : Heap}
theorem Kept.refl {d lg : Addr} {H : Hp} : Kept d lg H H := fun _ _ e _ _ => e
theorem Kept.trans {d lg : Addr} {H H1 H2 : Hp} (a : Kept d lg H H1) (b : Kept d lg H1 H2) : Kept d lg H H2 := fun x o e h1 h2 => b x o (a x o e h1 h2) h1 h2
theorem Kept.d {d lg : Addr} {H : Hp} {o : HO} : Kept d lg H (upd H d o) := fun x u e h1 _ => by rw [upd_ne h1]; exact e
theorem Kept.l {d lg : Addr} {H : Hp} {o : HO} : Kept d lg H (upd H lg o) := fun x u e _ h2 => by rw [upd_ne h2]; exact e
theorem Kept.new {d lg p : Addr} {H : Hp} {o : HO} (h : H p = none) : Kept d lg H (upd H p o) := fun x u e _ _ => by rw [upd_ne (ne_of_none e h)]; exact e
theorem dne {H : Hp} {d p : Addr} {kvs : List (Key × V)} {xs : List V} (h : H d = some (.dK kvs)) (h' : H p = some (.lst xs)) : d ≠ p := ne_of h h' (by intro z; cases z)
/-- mixed: some int; the state's turn has changed, nothing else -/
def spMixed : Sp := fun vs H Q _ => ∃ (d lg cl : Addr), vs = [.ref d] ∧ DrawAt H d lg cl ∧
  ∀ (z : Int) (H' : Hp), DrawAt H' d lg cl → Kept d lg H H' → H' lg = H lg → Q (.int z) H'
theorem ok_mixed {f : Addr} {fd : FuncData} (F : Fun K "_law_mixed" "_law_mixed" sMixed f fd) (mInt : mg "int" = none) : FnOk P w K mg base CX0 1 f fd ["draw"] spMixed := by
  refine F.ok scMixed (fun vs H Q E h => ?_) (fun cdv A outer s H vs Q E hr h => ?_)
  · obtain ⟨d, lg, cl, rfl, _⟩ := h
    rfl
  · obtain ⟨d, lg, cl, rfl, D, k⟩ := h
    have nd := scMixed.nd
    have hu := hu_of hr
    obtain ⟨⟨r, t, hd⟩, ⟨L, hL, hl⟩, ⟨M, hM, hc⟩, ncl⟩ := id D
    have ndl := dne hd hl
    have ndc := dne hd hc
    refine ⟨_, pss_cons (ps_dput hu (pv 0) pe_str (pe_op op_add (pe_dget hu (pv 0) pe_str (fun _ _ => rfl)) pe_int) rfl)
      (pss_cons (ps_par (i := 1) (j := 2) (by rfl) nd rfl rfl (by decide) rfl rfl (pa_cons (pe_callTy call_int1 (by rfl) mInt (by decide +kernel) (pa_cons (pe_dget hu (pv 0) pe_str (fun _ _ => rfl)) pa_nil)) (pa_cons pe_int pa_nil)) (by rfl))
      (pss_cons (ps_for PassesOwn.never rfl (pi_list (pe_lst (pa_cons pe_int (pa_cons pe_int (pa_cons pe_int pa_nil))))) (pg_name (i := 3) nd rfl (Or.inl rfl))
        (pss_cons (ps_set (i := 4) nd rfl (Or.inl rfl) (pe_op op_modN (pe_op op_add (pe_op op_mul (pv 1) pe_int) (pe_op op_fdivN (pv 3) pe_int)) (pv 3)))
        (pss_cons (ps_for PassesOwn.never rfl (pi_list (pe_dget hu (pv 0) pe_str (fun _ _ => rfl))) (pg_name (i := 5) nd rfl (Or.inl rfl))
          (pss_one (ps_set (i := 4) nd rfl (Or.inl rfl) (pe_op op_modN (pe_op op_add (pe_op op_mul (pv 4) pe_int) (pe_callTy call_int1 (by rfl) mInt (by decide +kernel) (pa_cons (pv 5) pa_nil))) (pv 3)))))
        (pss_one (ps_set (i := 2) nd rfl (Or.inl rfl) (pe_op op_add (pe_op op_mul (pv 2) pe_int) (pe_op op_modN (pe_op op_pow (pv 4) pe_int) (pv 3))))))))
      (pss_one (ps_ret (pv 2))))), ?_⟩
    -- draw['turn'] = draw['turn'] + 1
    refine ⟨_, rfl, d, _, rfl, (g_turn lg cl r t) ▸ DGet.k (k := Sum.inr "turn") hd, _, _, rfl, rfl, _, rfl, d, _, rfl, DPut.k (k := Sum.inr "turn") hd (dl4 lg cl r t), ?_⟩
    rw [p_turn]
    have k1 : Kept d lg H (upd H d (.dK (drawL lg cl r (t + 1)))) := Kept.d
    have hd1 : (upd H d (.dK (drawL lg cl r (t + 1)))) d = some (.dK (drawL lg cl r (t + 1))) := upd_same
    -- turn, found
    refine ⟨_, rfl, d, _, rfl, (g_turn lg cl r (t + 1)) ▸ DGet.k (k := Sum.inr "turn") hd1, .inl ⟨_, rfl, _, _, rfl, ?_⟩⟩
    -- for great in ..
    refine ⟨by decide, fun p np => ?_⟩
    have ndp : d ≠ p := ne_of_none hd1 np
    have hl1 : (upd H d (.dK (drawL lg cl r (t + 1)))) lg = some (.lst (L.map V.int)) := by rw [upd_ne ndl.symm]; exact hl
    have hc1 : (upd H d (.dK (drawL lg cl r (t + 1)))) cl = some (.lst (M.map V.int)) := by rw [upd_ne ndc.symm]; exact hc
    have nlp : lg ≠ p := ne_of_none hl1 np
    have ncp : cl ≠ p := ne_of_none hc1 np
    let H2 := upd (upd H d (.dK (drawL lg cl r (t + 1)))) p (.lst (([2147483629, 2147483587, 2147483579] : List Int).map V.int))
    have hp2 : H2 p = some (.lst (([2147483629, 2147483587, 2147483579] : List Int).map V.int)) := upd_same
    have hd2 : H2 d = some (.dK (drawL lg cl r (t + 1))) := by show upd _ p _ d = _; rw [upd_ne ndp]; exact hd1
    have hl2 : H2 lg = some (.lst (L.map V.int)) := by show upd _ p _ lg = _; rw [upd_ne nlp]; exact hl1
    have hc2 : H2 cl = some (.lst (M.map V.int)) := by show upd _ p _ cl = _; rw [upd_ne ncp]; exact hc1
    have D2 : DrawAt H2 d lg cl := ⟨⟨_, _, hd2⟩, ⟨L, hL, hl2⟩, ⟨M, hM, hc2⟩, ncl⟩
    have k2 : Kept d lg H H2 := k1.trans (Kept.new np)
    refine ⟨p, rfl, ⟨_, SqL.of hp2⟩, for_list (K := K) (a := p) (xs := ([2147483629, 2147483587, 2147483579] : List Int).map V.int) (fun i σ H3 => ∃ (x : Int) (v3 v4 v5 : Option V), σ = [some (.ref d), some (.int (t + 1)), some (.int x), v3, v4, v5] ∧ H3 = H2)
      ⟨0, _, _, _, rfl, rfl⟩ (fun i σ H3 _ ⟨_, _, _, _, _, e⟩ => by rw [e]; exact SqL.of hp2) ?_ ?_⟩
    · rintro i y σ H3 hi ⟨x, v3, v4, v5, rfl, rfl⟩
      obtain ⟨g, hg, rfl⟩ := int_at hi
      have hgb : 0 < g ∧ g < 2147483648 := by
        have := List.mem_of_getElem? hg
        simp only [List.mem_cons, List.mem_nil_iff, or_false] at this
        omega
      refine ⟨_, rfl, _, _, rfl, rfl, .inr (by decide), _, rfl, _, _, rfl, rfl, ⟨by decide, by decide⟩, _, _, rfl, rfl, _, rfl, _, _, rfl, rfl, (by omega), ?_⟩
      have b0 : 0 ≤ ((t + 1) * 69621 + g.fdiv 7).fmod g ∧ ((t + 1) * 69621 + g.fdiv 7).fmod g < g := ⟨Int.fmod_nonneg_of_pos _ hgb.1, Int.fmod_lt_of_pos _ hgb.1⟩
      -- the inner loop
      refine ⟨_, rfl, d, _, rfl, (g_cells lg cl r (t + 1)) ▸ DGet.k (k := Sum.inr "cells") hd2, cl, rfl, ⟨_, SqL.of hc2⟩, for_list (K := K) (a := cl) (xs := M.map V.int) (fun j σ H4 => ∃ (b : Int) (v5 : Option V), σ = [some (.ref d), some (.int (t + 1)), some (.int x), some (.int g), some (.int b), v5] ∧ H4 = H2 ∧ 0 ≤ b ∧ b < g)
        ⟨_, _, rfl, rfl, b0⟩ (fun i σ H3 _ ⟨_, _, _, e, _⟩ => by rw [e]; exact SqL.of hc2) ?_ ?_⟩
      · rintro j y σ H4 hj ⟨b, v5, rfl, rfl, hb1, hb2⟩
        obtain ⟨m, hm, rfl⟩ := int_at hj
        refine ⟨_, rfl, _, _, rfl, rfl, .inr (by decide), _, rfl, .inl ⟨_, rfl, _, _, rfl, rfl, _, rfl, _, _, rfl, rfl, (by omega), ?_⟩⟩
        exact ⟨_, _, rfl, rfl, Int.fmod_nonneg_of_pos _ hgb.1, Int.fmod_lt_of_pos _ hgb.1⟩
      · rintro σ H4 ⟨b, v5, rfl, rfl, hb1, hb2⟩
        refine ⟨_, rfl, _, _, rfl, rfl, .inr (by decide), _, rfl, _, _, rfl, rfl, ⟨by decide, by decide, by omega⟩, _, rfl, _, _, rfl, rfl, (by omega), _, _, rfl, rfl, ?_⟩
        exact ⟨_, _, _, _, rfl, rfl⟩
    · rintro σ H3 ⟨x, v3, v4, v5, rfl, rfl⟩
      exact ⟨_, rfl, k x H2 D2 k2 (hl2.trans hl.symm)⟩
end
end K03


set_option Elab.async false
set_option maxRecDepth 100000
namespace K03
open PySem PySem.Spec PyProof.Rows L2
/-- a draw below n -/
def spTake : Sp := fun vs H Q _ => ∃ (d lg cl : Addr) (n : Int), vs = [.ref d, .int n] ∧ DrawAt H d lg cl ∧ 0 < n ∧ n < 1000000 ∧
  ∀ (z : Int) (H' : Hp), 0 ≤ z → z < n → DrawAt H' d lg cl → Kept d lg H H' → Q (.int z) H'
theorem dp_ints {K : PySem.W.Frag} {H : Hp} {a : Addr} {L : List Int} (h : SqL K H a (L.map V.int)) : Dp K H (.ref a) (.list (L.map PyData.int)) := by
  refine .lst h ?_
  clear h
  induction L with
  | nil => exact .nil
  | cons x r ih => exact .cons (.int x) ih
theorem lay_ints (L : List Int) : PyData.canLayAll0 (L.map PyData.int) = true := by
  induction L with
  | nil => rfl
  | cons x r ih => simp [PyData.canLayAll0, PyData.canLay0, ih]
theorem dep_ints (L : List Int) : PyData.depthAll (L.map PyData.int) ≤ 1 := by
  induction L with
  | nil => simp [PyData.depthAll]
  | cons x r ih => simp [PyData.depthAll, PyData.depth]; omega
theorem shp_ints (L : List Int) : SeqAt.shaped (.list (L.map PyData.int)) = true := by
  have h := dep_ints L
  simp [SeqAt.shaped, PyData.canLay0, lay_ints, PyData.depth]
  omega
section
variable {P : Program} {w : World} {K : PySem.W.Frag} {mg : Str → Option Value} {base : Heap}
theorem ok_take {f fM : Addr} {fd fdM : FuncData} (F : Fun K "_law_take" "_law_take" sTake f fd) (FM : Fun K "_law_mixed" "_law_mixed" sMixed fM fdM) (bM : Binds K fdM ["draw"] []) (gM : mg "_law_mixed" = some (.ref fM)) (mInt : mg "int" = none) : FnOk P w K mg base CX0 2 f fd ["draw", "amount"] spTake := by
  have GM : FnOk P w K mg base CX0 1 fM fdM ["draw"] spMixed := ok_mixed FM mInt
  refine F.ok scTake (fun vs H Q E h => ?_) (fun cdv A outer s H vs Q E hr h => ?_)
  · obtain ⟨d, lg, cl, n, rfl, _⟩ := h
    rfl
  · obtain ⟨d, lg, cl, n, rfl, D, hn, hn2, k⟩ := h
    have nd := scTake.nd
    have hu := hu_of hr
    refine ⟨_, pss_cons (ps_if (pt_cmpR op_eq (pe_dget hu (pv 0) pe_str (fun _ _ => rfl)) pe_int (nomark _))
        (pss_one (ps_dput hu (pv 0) pe_str (pe_ifExp (pt_cmpR (op_neD hr.units) (pe_dget hu (pv 0) pe_str (fun _ _ => rfl)) (pe_lst pa_nil) (nomark _))
          (pe_bm PySem.F.plainAttrs_list PySem.F.slot_list_pop PySem.F.type_list_pop mt_popAt (pe_dget hu (pv 0) pe_str (fun _ _ => rfl)) (pa_cons pe_int pa_nil))
          (pe_call GM hr rfl gM FM.kp bM .nil pass0 (pa_cons (pv 0) pa_nil))) rfl)) pss_nil)
      (pss_cons (ps_set (i := 2) nd rfl (Or.inl rfl) (pe_op op_modN (pe_callTy call_int1 (by rfl) mInt (by decide +kernel) (pa_cons (pe_dget hu (pv 0) pe_str (fun _ _ => rfl)) pa_nil)) (pv 1)))
      (pss_cons (ps_dput hu (pv 0) pe_str (pe_op op_fdivN (pe_callTy call_int1 (by rfl) mInt (by decide +kernel) (pa_cons (pe_dget hu (pv 0) pe_str (fun _ _ => rfl)) pa_nil)) (pv 1)) rfl)
      (pss_one (ps_ret (pv 2))))), ?_⟩
    -- what follows the if, from any state of draws
    have after : ∀ H1 : Hp, DrawAt H1 d lg cl → Kept d lg H H1 →
        tAsg (tOp (rI (fun _ j => j ≠ 0) fun i j => .int (i.fmod j)) (tCB (fun xs H Q => (∃ i, xs = [.int i] ∧ Q (.int i) H) ∨ ∃ k, xs = [.bl k] ∧ Q (.int (if k then 1 else 0)) H) (tCons (tDGet (tVar 0) (tC (.str "rest"))) tNil)) (tVar 1)) (gName 2)
          { nx := fun σ2 H2 => sDPut (tVar 0) (tC (.str "rest")) (tOp (rI CDivN fun i j => .int (i.fdiv j)) (tCB (fun xs H Q => (∃ i, xs = [.int i] ∧ Q (.int i) H) ∨ ∃ k, xs = [.bl k] ∧ Q (.int (if k then 1 else 0)) H) (tCons (tDGet (tVar 0) (tC (.str "rest"))) tNil)) (tVar 1))
              { nx := fun σ3 H3 => tRet (tVar 2) { nx := fun _ H' => Q .non H', rt := Q } σ3 H3, rt := Q } σ2 H2, rt := Q } (start ["draw", "amount", "found"] [.ref d, .int n]) H1 := by
      intro H1 D1 k1
      obtain ⟨⟨r, t, hd⟩, ⟨L, hL, hl⟩, ⟨M, hM, hc⟩, ncl⟩ := id D1
      have ndl := dne hd hl
      have ndc := dne hd hc
      refine ⟨_, rfl, d, _, rfl, (g_rest lg cl r t) ▸ DGet.k (k := Sum.inr "rest") hd, .inl ⟨_, rfl, _, rfl, _, _, rfl, rfl, (by omega), ?_⟩⟩
      refine ⟨_, rfl, d, _, rfl, (g_rest lg cl r t) ▸ DGet.k (k := Sum.inr "rest") hd, .inl ⟨_, rfl, _, rfl, _, _, rfl, rfl, ⟨by omega, by omega⟩, _, rfl, d, _, rfl, DPut.k (k := Sum.inr "rest") hd (dl4 lg cl r t), ?_⟩⟩
      rw [p_rest]
      refine ⟨_, rfl, k _ _ (Int.fmod_nonneg_of_pos _ hn) (Int.fmod_lt_of_pos _ hn) ⟨⟨_, _, upd_same⟩, ⟨L, hL, by rw [upd_ne ndl.symm]; exact hl⟩, ⟨M, hM, by rw [upd_ne ndc.symm]; exact hc⟩, ncl⟩ (k1.trans Kept.d)⟩
    obtain ⟨⟨r, t, hd⟩, ⟨L, hL, hl⟩, ⟨M, hM, hc⟩, ncl⟩ := id D
    have ndl := dne hd hl
    have ndc := dne hd hc
    refine ⟨_, rfl, d, _, rfl, (g_rest lg cl r t) ▸ DGet.k (k := Sum.inr "rest") hd, rfl, _, rfl, ite2 (fun _ => ?_) (fun _ => after H D Kept.refl)⟩
    -- draw['large'] != []
    refine ⟨_, rfl, d, _, rfl, (g_large lg cl r t) ▸ DGet.k (k := Sum.inr "large") hd, by decide, fun e ne => ?_⟩
    have hd1 : (upd H e (.lst [])) d = some (.dK (drawL lg cl r t)) := by rw [upd_ne (ne_of_none hd ne)]; exact hd
    have hl1 : (upd H e (.lst [])) lg = some (.lst (L.map V.int)) := by rw [upd_ne (ne_of_none hl ne)]; exact hl
    have hc1 : (upd H e (.lst [])) cl = some (.lst (M.map V.int)) := by rw [upd_ne (ne_of_none hc ne)]; exact hc
    have D1 : DrawAt (upd H e (.lst [])) d lg cl := ⟨⟨_, _, hd1⟩, ⟨L, hL, hl1⟩, ⟨M, hM, hc1⟩, ncl⟩
    refine ⟨_, _, dp_ints (SqL.of hl1), .lst (SqL.of upd_same) .nil, shp_ints L, rfl, _, rfl, ?_⟩
    cases L with
    | nil =>
      refine iteF ?_
      refine ⟨_, rfl, d, lg, cl, rfl, D1, fun z H2 D2 k2 e2 => ?_⟩
      obtain ⟨⟨r2, t2, hd2⟩, ⟨L2, hL2, hl2⟩, ⟨M2, hM2, hc2⟩, _⟩ := id D2
      refine ⟨_, rfl, d, _, rfl, DPut.k (k := Sum.inr "rest") hd2 (dl4 lg cl r2 t2), ?_⟩
      rw [p_rest]
      exact after _ ⟨⟨_, _, upd_same⟩, ⟨L2, hL2, by rw [upd_ne ndl.symm]; exact hl2⟩, ⟨M2, hM2, by rw [upd_ne ndc.symm]; exact hc2⟩, ncl⟩ ((Kept.new ne).trans (k2.trans Kept.d))
    | cons x L =>
      refine iteT ?_
      refine ⟨_, rfl, d, .ref lg, rfl, (g_large lg cl r t) ▸ DGet.k (k := Sum.inr "large") hd1, .inl ⟨rfl, _, SqL.of hl1⟩, lg, _, 0, 0, .int x, rfl, rfl, hl1, by decide, by decide, ?_, rfl, ?_⟩
      · show seqIndex? 0 (L.map V.int).length.succ = some 0
        simp [seqIndex?]
      · have hd3 : (upd (upd H e (.lst [])) lg (.lst (((x :: L).map V.int).eraseIdx 0))) d = some (.dK (drawL lg cl r t)) := by rw [upd_ne ndl]; exact hd1
        refine ⟨_, rfl, d, _, rfl, DPut.k (k := Sum.inr "rest") hd3 (dl4 lg cl r t), ?_⟩
        rw [p_rest]
        refine after _ ⟨⟨_, _, upd_same⟩, ⟨L, by simp at hL; omega, by rw [upd_ne ndl.symm, upd_same]; rfl⟩, ⟨M, hM, by rw [upd_ne ndc.symm, upd_ne ncl]; exact hc1⟩, ncl⟩ ((Kept.new ne).trans (Kept.l.trans Kept.d))
end
end K03


set_option Elab.async false
set_option maxRecDepth 100000
namespace K03
open PySem PySem.Spec PyProof.Rows L2
/-- one of a list's items -/
def spPick : Sp := fun vs H Q _ => ∃ (d lg cl a : Addr) (xs : List V), vs = [.ref d, .ref a] ∧ DrawAt H d lg cl ∧ H a = some (.lst xs) ∧ a ≠ lg ∧ 0 < xs.length ∧ xs.length < 1000 ∧
  ∀ (i : Nat) (x : V) (H' : Hp), xs[i]? = some x → DrawAt H' d lg cl → Kept d lg H H' → Q x H'
section
variable {P : Program} {w : World} {K : PySem.W.Frag} {mg : Str → Option Value} {base : Heap}
theorem ok_pick {f fT fM : Addr} {fd fdT fdM : FuncData} (F : Fun K "_law_pick" "_law_pick" sPick f fd) (FT : Fun K "_law_take" "_law_take" sTake fT fdT) (bT : Binds K fdT ["draw", "amount"] []) (gT : mg "_law_take" = some (.ref fT))
    (FM : Fun K "_law_mixed" "_law_mixed" sMixed fM fdM) (bM : Binds K fdM ["draw"] []) (gM : mg "_law_mixed" = some (.ref fM)) (mInt : mg "int" = none) (mLen : mg "len" = none) : FnOk P w K mg base CX0 3 f fd ["draw", "some"] spPick := by
  have GT : FnOk P w K mg base CX0 2 fT fdT ["draw", "amount"] spTake := ok_take FT FM bM gM mInt
  refine F.ok scPick (fun vs H Q E h => ?_) (fun cdv A outer s H vs Q E hr h => ?_)
  · obtain ⟨d, lg, cl, a, xs, rfl, _⟩ := h
    rfl
  · obtain ⟨d, lg, cl, a, xs, rfl, D, ha, nal, h0, h1, k⟩ := h
    have nda : d ≠ a := by
      obtain ⟨⟨r, t, hd⟩, _⟩ := D
      exact dne hd ha
    refine ⟨_, pss_one (ps_ret (pe_ix ix_list (pv 1) (pe_call GT hr rfl gT FT.kp bT .nil pass0 (pa_cons (pv 0) (pa_cons (pe_callB call_len_seq (by rfl) mLen PySem.boot_len (pa_cons (pv 1) pa_nil)) pa_nil))) (fun _ _ => rfl))), ?_⟩
    refine ⟨_, rfl, _, rfl, _, rfl, a, xs, rfl, .inl (SqL.of ha), d, lg, cl, _, rfl, D, (by omega), (by omega), fun z H' hz1 hz2 D' k' => ?_⟩
    obtain ⟨j, rfl⟩ := Int.eq_ofNat_of_zero_le hz1
    have hj : j < xs.length := by omega
    have ex := List.getElem?_eq_getElem hj
    exact ⟨a, xs, _, _, rfl, rfl, SqL.of (k' a _ ha nda.symm nal), atI_nat ex, k j _ H' ex D' k'⟩
end
end K03


set_option Elab.async false
set_option maxRecDepth 100000
set_option maxHeartbeats 1000000
set_option linter.all false
namespace GL
open PySem PySem.Spec PyProof.Rows L2
/-! Promises of defs that may ask for repr: nothing is being shown around the call -/
structure FnG (P : Program) (w : World) (K : PySem.W.Frag) (mg : Str → Option Value) (base : Heap) (CX : CXT) (k : Nat) (f : Addr) (fd : FuncData) (ps : List Str) (sp : Sp) : Prop where
  len : ∀ vs H Q E, sp vs H Q E → vs.length = ps.length
  run : ∀ (A : Around) (outer : List Env) (s : Shared) (H : Hp) (args : Args) (us : List Value) (vs : List V) (Q : VK) (E : XK), A.guards = some [] → Room k A → Env0 P w K mg base A outer s H → BindsTo s fd args (ps.zip us) → Vals vs us → sp vs H Q E →
    codeAny (model P w) A (.call (.ref f) args) (CR CX outer P w H s Q E) s
section
variable {P : Program} {w : World} {K : PySem.W.Frag} {mg : Str → Option Value} {base : Heap} {CX : CXT}
theorem FnG.of {k : Nat} {f : Addr} {fd : FuncData} {ps : List Str} {sp : Sp} (F : FnOk P w K mg base CX k f fd ps sp) : FnG P w K mg base CX k f fd ps sp :=
  ⟨F.len, fun A outer s H args us vs Q E _ => F.run A outer s H args us vs Q E⟩
/-- a def by its body -/
theorem fng_of {k : Nat} {f : Addr} {name qual : Str} {st : Stmt} {dV kV doc pm cdv ct oc : Value} {an od : Option Addr} {osl : Array (Option Value)} {N ps : List Str} {sp : Sp}
    (lk : K.lookup f = some ⟨oc, od, .func (PySem.W.fnOf name qual (defArgs st) (defBody st) (defScope st) dV kV doc pm an cdv ct), osl⟩) (hcd : PySem.W.codeIn K cdv qual = true) (S : FnScope N ps (defScope st))
    (len : ∀ vs H Q E, sp vs H Q E → vs.length = ps.length)
    (hbody : ∀ (A : Around) (outer : List Env) (s : Shared) (H : Hp) (vs : List V) (Q : VK) (E : XK), A.guards = some [] → Room k (A.deeper (envOfC qual (defScope st) s.heap.objs.size f cdv)) → sp vs H Q E →
      ∃ t, PSs (cxOf CX P w K mg base N qual (defScope st) f cdv A outer s H E) (defBody st) t ∧ t { nx := fun _ H' => Q .non H', rt := Q } (start N vs) H) :
    FnG P w K mg base CX (k + 1) f (PySem.W.fnOf name qual (defArgs st) (defBody st) (defScope st) dV kV doc pm an cdv ct) ps sp := by
  refine ⟨len, fun A outer s H args us vs Q E hga hr e0 hb r hsp => ?_⟩
  have KX : K.In s.heap := e0.mod.kin.keeps fun b o e => (e0.bs b o e).1
  have lim : s.heap.NoLimit := e0.mod.nolimit.keeps fun b o e => (e0.bs b o e).1
  refine codeAny_call_function hr.depth (KX _ _ lk) rfl S.co S.gen rfl (PySem.W.codeRec_of KX hcd) (hb _ _ _ _ (wpAny_newFunctionEnv_cells S.kind (fun y hy => ?_) fun env he s1 x => ?_))
  · obtain ⟨n, v⟩ := y
    rcases S.par n (List.of_mem_zip hy).1 with q | q
    · exact .inl q
    · exact .inr ⟨q, PySem.W.cellsFrom_some _ _ _ (.inl q)⟩
  · subst he
    refine ⟨lim.keeps x.toInCall.keep, codeAny_func ?_⟩
    obtain ⟨t, ht, hq⟩ := hbody A outer s H vs Q E hga (hr.deeper _) hsp
    have I : Inv (cxOf CX P w K mg base N qual (defScope st) f cdv A outer s H E) [] (start N vs) H s1 := inv_start S hr.hd e0 (len _ _ _ _ hsp) r x
    refine wpAny_mono (ht.run [] s1 (start N vs) H _ I hq) (fun fl s' hs => ?_) fun e s' hs => hs
    cases fl with
    | ret u => exact (by obtain ⟨v, σ', H', J', rv, q'⟩ := hs; exact ⟨v, H', J'.os, J'.bare, J'.base, J'.hok, rv, q'⟩)
    | next => exact (by obtain ⟨σ', H', J', q'⟩ := hs; exact ⟨V.non, H', J'.os, J'.bare, J'.base, J'.hok, rfl, q'⟩)
    | brk => exact (by obtain ⟨_, _, _, q'⟩ := hs; exact q'.elim)
    | cont => exact (by obtain ⟨_, _, _, q'⟩ := hs; exact q'.elim)
theorem okG {x qual : Str} {st : Stmt} {f : Addr} {fd : FuncData} {N ps : List Str} {k : Nat} {sp : Sp} (F : Fun K x qual st f fd) (S : FnScope N ps (defScope st)) (len : ∀ vs H Q E, sp vs H Q E → vs.length = ps.length)
    (hbody : ∀ (cdv : Value) (A : Around) (outer : List Env) (s : Shared) (H : Hp) (vs : List V) (Q : VK) (E : XK), A.guards = some [] → Room k (A.deeper (envOfC qual (defScope st) s.heap.objs.size f cdv)) → sp vs H Q E →
      ∃ t, PSs (cxOf CX0 P w K mg base N qual (defScope st) f cdv A outer s H E).nox (defBody st) t ∧ t { nx := fun _ H' => Q .non H', rt := Q } (start N vs) H) : FnG P w K mg base CX0 (k + 1) f fd ps sp := by
  obtain ⟨oc, od, kV, doc, pm, an, cdv, ct, osl, rfl, lk, hcd⟩ := F.ex
  refine fng_of lk hcd S len fun A outer s H vs Q E hga hr hsp => ?_
  obtain ⟨t, h, q⟩ := hbody cdv A outer s H vs Q E hga hr hsp
  exact ⟨t, h.nox, q⟩
end
section
variable {X : Cx} {CX : CXT} {k : Nat} {f : Addr} {fd : FuncData} {ps : List Str} {sp : Sp} {dvs : List V} {ds : List Value} {E : XK} {x : Str} {p pos : Pos} {e : Expr} {es : List Expr} {t : TA}
theorem run_g {pins : List (Addr × Obj)} {σ : L2.St} {H : Hp} {s : Shared} {Q : VK} {us : List Value} {vs : List V} (F : FnG X.prog X.w X.K X.mg X.base CX k f fd ps sp) (hga : X.A.guards = some []) (hr : Room k X.A) (hb : L2.Binds X.K fd ps ds) (hd : Vals dvs ds) (hx : Passes CX X E)
    (I : Inv X pins σ H s) (r : Vals vs us) (h : sp (vs ++ dvs) H Q E) : wpAny (model X.prog X.w) X.A (call (.ref f) us) (EP X pins σ Q) X.xe s := by
  have r2 : Vals (vs ++ dvs) (us ++ ds) := r.append hd
  have hl : (us ++ ds).length = ps.length := by rw [← r2.length]; exact F.len _ _ _ _ h
  refine wpAny_call (codeAny_mono (F.run X.A X.stack s H ⟨us, []⟩ (us ++ ds) (vs ++ dvs) Q E hga hr I.env0 (hb s us I.kIn hl) r2 h) fun r s' hq => ?_)
  cases r with
  | error e => exact hx pins σ H s e s' I hq
  | ok fl =>
    cases fl with
    | ret u => exact I.after hq
    | next => exact False.elim hq
    | brk => exact False.elim hq
    | cont => exact False.elim hq
/-- f(e, ..) where f may ask for repr -/
theorem pe_callG (F : FnG X.prog X.w X.K X.mg X.base CX k f fd ps sp) (hga : X.A.guards = some []) (hr : Room k X.A) (hg : Gl X x) (hm : X.mg x = some (.ref f)) (hk : PySem.W.keepIn X.K (.ref f) = true) (hb : L2.Binds X.K fd ps ds) (hd : Vals dvs ds) (hx : Passes CX X E)
    (ha : PA X (e :: es) t) (hdb : (x == ("__debug__" : Str)) = false := by decide) (he : starEach (e :: es) X.env = (false, eval e X.env) :: starEach es X.env := by rfl) (hpl : (backTo pos (starEach es X.env)).any (·.1) = false := by rfl) :
    PE X (.Call (.Name x p) (e :: es) [] pos) (tCall sp dvs E t) :=
  ⟨fun pins s σ H Q I h => wpAny_Call_Name_kw (ld_glob I hg hm (PySem.W.callWith_K (h₀ := X.base) I.ok.mod.kin hk (thn (ha.run pos pins s σ H _ I h) fun us s1 ⟨vs, H1, I1, r, q⟩ => ⟨I1.kIn, run_g F hga hr hb hd hx I1 r q⟩) he hpl) hdb)⟩
end
/-- a value that reads as the data d, whatever the state -/
def RdV (K : PySem.W.Frag) (H : Hp) (v : V) (d : PyData) : Prop := ∀ (X : Cx) (pins : List (Addr × Obj)) (σ : L2.St) (s : Shared) (u : Value), X.K = K → Inv X pins σ H s → RelV v u → ∃ as, Reads s.heap u d as ∧ (d.hasDict = true → sysModules ∉ as)
/-- what is asked of data that is shown -/
structure Shown (d : PyData) : Prop where
  sh : d.showable = true
  dp : d.depth ≤ 60
  sz : d.shown.length ≤ sizeLine
section
variable {X : Cx}
theorem call_repr {K : PySem.W.Frag} (hk : X.K = K) (hga : X.A.guards = some []) (hu : X.A.units + 70 < cLine) : CallR X (.builtin "repr") (fun xs H Q => ∃ (v : V) (d : PyData), xs = [v] ∧ RdV K H v d ∧ Shown d ∧ Q (.str d.shown) H) := by
  intro pins s σ H xs us Q I r h
  obtain ⟨v, d, rfl, hd, ⟨hs, hdp, hz⟩, q⟩ := h
  cases r with
  | @cons _ u _ _ r1 rr =>
    cases rr
    obtain ⟨as, R, hm⟩ := hd X pins σ s u hk I r1
    cases R with
    | none => exact P.repr_of_none ⟨.str _, H, I.tok _, ⟨_, rfl⟩, q⟩
    | bool b => exact P.repr_of_bool ⟨.str _, H, I.tok _, ⟨_, rfl⟩, q⟩
    | int i t => exact P.repr_of_int (by simpa [PyData.showable] using hs) ⟨.str _, H, I.tok _, ⟨_, rfl⟩, q⟩
    | str x t => exact P.repr_of_str ⟨.str _, H, I.tok _, ⟨_, rfl⟩, q⟩ hz
    | list h1 h2 h3 h4 => exact repr_of_reads' (.list h1 h2 h3 h4) hs hm hga (by omega) (fun _ _ e => e) (fun h' u tk k => ⟨.str _, H, I.kept (t' := tk) k, ⟨_, rfl⟩, q⟩) hz
    | tuple h1 h2 h3 h4 => exact repr_of_reads' (.tuple h1 h2 h3 h4) hs hm hga (by omega) (fun _ _ e => e) (fun h' u tk k => ⟨.str _, H, I.kept (t' := tk) k, ⟨_, rfl⟩, q⟩) hz
    | dict h1 h2 h3 h4 h5 => exact repr_of_reads' (.dict h1 h2 h3 h4 h5) hs hm hga (by omega) (fun _ _ e => e) (fun h' u tk k => ⟨.str _, H, I.kept (t' := tk) k, ⟨_, rfl⟩, q⟩) hz
end
/-! ### new lists that are not the table of modules -/
section
variable {X : Cx} {pins : List (Addr × Obj)} {σ : L2.St} {H : Hp} {s : Shared}
theorem new_ne (I : Inv X pins σ H s) : s.heap.objs.size ≠ sysModules := by
  obtain ⟨o, es, ep, e, _⟩ := I.mod.glob
  have h1 := Heap.lt_size (I.bk _ _ e)
  have h2 : sysModules < mainGlobals := by decide
  exact Nat.ne_of_gt (Nat.lt_trans h2 h1)
def rCatN : R2 := fun x y H Q => ∃ l b xs zs, x = .ref l ∧ y = .ref b ∧ H l = some (.lst xs) ∧ H b = some (.lst zs) ∧ xs.length + zs.length ≤ sizeLine ∧ ∀ p, H p = none → p ≠ sysModules → Q (.ref p) (upd H p (.lst (xs ++ zs)))
theorem op_catN : OpR X (binaryOp .Add) rCatN := by
  intro pins s σ H x y v u Q I rx ry h
  obtain ⟨l, b, xs, zs, rfl, rfl, hl, hb, hz, q⟩ := h
  cases rx
  cases ry
  obtain ⟨_, its, n, r, e1, e⟩ := I.lstM hl
  obtain ⟨_, its2, n2, r2, e2, e'⟩ := I.lstM hb
  apply PySem.P.add_list e e' _ (by rw [List.size_toArray, List.size_toArray]; omega)
  · rw [show its.toArray ++ its2.toArray = (its ++ its2).toArray by simp]
    exact ⟨.ref _, _, I.lnew (t' := s.toks) (r.append r2) (by rw [List.length_append]; omega), rfl, q _ I.fresh (new_ne I)⟩
theorem rep_flat (its : List Value) (m : Nat) : ∀ acc : List Value, List.foldl (fun a b => a ++ b) acc.toArray (List.replicate m its.toArray) = (acc ++ (List.replicate m its).flatten).toArray := by
  induction m with
  | zero => intro acc; simp
  | succ m ih =>
    intro acc
    rw [List.replicate_succ, List.foldl_cons, List.replicate_succ, List.flatten_cons, show acc.toArray ++ its.toArray = (acc ++ its).toArray by simp, ih (acc ++ its), List.append_assoc]
def rRepN : R2 := fun x y H Q => ∃ l k xs, x = .ref l ∧ y = .int k ∧ H l = some (.lst xs) ∧ xs ≠ [] ∧ 0 ≤ k ∧ k < 1000 ∧ xs.length ≤ 1000 ∧
  ∀ p, H p = none → p ≠ sysModules → Q (.ref p) (upd H p (.lst (List.replicate k.toNat xs).flatten))
theorem op_repN : OpR X (binaryOp .Mult) rRepN := by
  intro pins s σ H x y v u Q I rx ry h
  obtain ⟨l, k, xs, rfl, rfl, hl, hne, k0, k1, hx, q⟩ := h
  cases rx
  obtain ⟨t, rfl⟩ := ry
  obtain ⟨_, its, n, r, e1, e⟩ := I.lstM hl
  have big : (1000000 : Nat) ≤ sizeLine := by decide
  have hm : its.length * k.toNat ≤ 1000 * 1000 := Nat.mul_le_mul (by omega) (by omega)
  have hsz : its.toArray.size * k.toNat ≤ sizeLine := by rw [List.size_toArray]; omega
  have hcap : ¬ its.toArray.size * k.toNat > (2 ^ 63 - 1) / 8 := by rw [List.size_toArray]; omega
  have hfit : ¬ (!Builtin.List.listFitsIndex k) = true := by
    rw [fitsIndex_both (by omega) (by omega)]
    exact Bool.false_ne_true
  have hlong : ¬ Builtin.List.listTooLong (its.toArray.size * k.toNat) = true := by
    rw [notLongL hsz]
    exact Bool.false_ne_true
  have hi : its ≠ [] := fun z => by
    subst z
    cases xs with
    | nil => exact hne rfl
    | cons _ _ => simp at e1
  have hnew : List.foldl (fun x1 x2 => x1 ++ x2) #[] (List.replicate (if its.toArray.isEmpty = true then 0 else k.toNat) its.toArray) = (List.replicate k.toNat its).flatten.toArray := by
    rw [if_neg (by simpa using hi)]
    have z := rep_flat its k.toNat []
    simpa using z
  refine wpAny_binaryOp_repeat_ref (T := "list") (U := "int") (by decide) ⟨_, e, rfl⟩ (fun s' => typeIs_int s' k t) noFill_list_mul F.fills_int_mul F.slot_int_rmul repeat_list F.slot_int_index.lookup ?_
  refine call_meets F.slot_int_rmul (typeIs_int s k t) F.entry_int_rmul (F.args_int_rmul_2 _ _) (int___rmul___int_list k t l its.toArray n) ⟨e, rfl, ⟨_, e, rfl⟩, ?_⟩
  refine call_meets F.slot_list_mul ⟨_, e, rfl⟩ F.entry_list_mul (F.args_list_mul_2 _ _) (AutoListH.list___mul___list_int_3 l its.toArray n k t hfit hcap hlong) ⟨e, ?_⟩
  rw [hnew]
  refine ⟨.ref _, _, I.lnew (t' := s.toks) (r.rep k.toNat) ?_, rfl, q _ I.fresh (new_ne I)⟩
  rw [PyProof.Rows.lm_len_rep_flat, e1, Nat.mul_comm]
  omega
end
/-! ### the law's own head, where the law may ask for repr -/
theorem law_callG {P : Program} {w : World} {K : PySem.W.Frag} {mg mb : Str → Option Value} {k : Nat} {fa a : Addr} {fd : FuncData} {x : Str} {sp : Sp} {s₁ : Shared} {vs : List Value} {ns : List Int}
    (KX : K.In s₁.heap) (hns : s₁.heap.Ns mainGlobals mg) (hb : s₁.heap.Ns builtinsNs mb) (hbb : ∀ x : Str, x ≠ "__name__" → mb x = bootBuiltins x) (hlim : s₁.heap.NoLimit) (hg : s₁.gens = #[])
    (ha : s₁.heap.get? a = some { cls := .type "list", data := .seq vs.toArray }) (hi : IntsAre vs ns) (hl : ns.length ≤ sizeLine) (hr : Room k callerA)
    (F : ∀ base : Heap, K.In base → base.Ns mainGlobals mg → FnG P w K mg base CX0 k fa fd [x] sp) (hbind : ∀ (s : Shared) (u : Value), BindsTo s fd ⟨[u], []⟩ [(x, u)])
    (hsp : ∀ H : Hp, Only H → SqL K H a (ns.map V.int) → sp [.ref a] H (fun v _ => v = .bl true) fun _ _ _ => False) :
    codeAny (model P w) callerA (.call (.ref fa) ⟨[.ref a], []⟩) (fun r s' => r = .ok (.ret (.bool true)) ∧ OldK s₁.heap s'.heap ∧ s'.os = s₁.os ∧ AllBare s'.gens) s₁ := by
  have rv := vals_ints hi
  have nolst : ∀ {b : Addr} {o : Obj} {es : Array DictEntry} {ep : Nat}, s₁.heap.get? b = some o → o.data = .dict es ep → b ≠ a := fun {b o es ep} e d z => by
    rw [z, ha] at e
    rw [← Option.some.inj e] at d
    cases d
  -- what may be tracked at first: the script's object, where it is not of the written part
  have main : ∀ H : Hp, Only H → SqL K H a (ns.map V.int) → HOk P w H s₁.heap → (∀ b, b ≠ a → H b = none) → (K.lookup a ≠ none → H a = none) →
      codeAny (model P w) callerA (.call (.ref fa) ⟨[.ref a], []⟩) (fun r s' => r = .ok (.ret (.bool true)) ∧ OldK s₁.heap s'.heap ∧ s'.os = s₁.os ∧ AllBare s'.gens) s₁ := by
    intro H hO hS hok hA hK
    have keepNs : ∀ {b : Addr} {m : Str → Option Value}, s₁.heap.Ns b m → (hidT s₁.heap H).Ns b m := fun {b m} ⟨o, es, ep, e, d, r⟩ => ⟨o, es, ep, hidT_get e (hA b (nolst e d)), d, r⟩
    have hKb : K.In (hidT s₁.heap H) := fun b o e => hidT_get (KX b o e) (by
      by_cases z : b = a
      · subst z
        exact hK (by rw [show K.lookup b = some o from e]; intro y; cases y)
      · exact hA b z)
    have hM : Mod K mg (hidT s₁.heap H) := ⟨hKb, keepNs hns, ⟨mb, keepNs hb, hbb⟩, let ⟨mc, h1, h2⟩ := hlim; ⟨mc, keepNs h1, h2⟩⟩
    have e0 : Env0 P w K mg (hidT s₁.heap H) callerA [] s₁ H := ⟨rfl, hM, fun b o e => of_hidT e, Nat.le_of_eq (hidT_size _ _), trivial, fun b z => absurd (show b ∈ ([] : List Addr) from z) (by simp), hok, .of_eq hg⟩
    refine codeAny_mono ((F _ hKb (keepNs hns)).run callerA [] s₁ H ⟨[.ref a], []⟩ [.ref a] [.ref a] _ _ rfl hr e0 (hbind s₁ (.ref a)) (.cons rfl .nil) (hsp H hO hS)) fun r s' h => ?_
    cases r with
    | error e => exact False.elim h
    | ok fl =>
      cases fl with
      | next => exact False.elim h
      | brk => exact False.elim h
      | cont => exact False.elim h
      | ret u =>
        obtain ⟨v, H', os, bare, un, hok', r', q⟩ := h
        obtain rfl : v = .bl true := q
        obtain rfl : u = Value.bool true := r'
        refine ⟨rfl, OldK.of_keep fun b o e => ?_, os, bare⟩
        rcases hO b with z | ⟨ob, xs, z⟩
        · exact un.keep b o e z (by intro y; exact absurd (show b ∈ ([] : List Addr) from y) (by simp)) (by simp)
        · obtain ⟨e1, _⟩ := hok b _ z
          obtain ⟨e2, _⟩ := hok' b _ (un.frzs b ob _ z)
          rw [e2, ← Option.some.inj (e1.symm.trans e)]
  cases hk : K.lookup a with
  | some o =>
    have e := KX a o hk
    rw [ha] at e
    cases e
    exact main (fun _ => none) (fun _ => .inl rfl) (.inr ⟨_, vs.toArray, _, hk, rfl, rfl, rfl, by rw [List.size_toArray, hi.length]; exact hl, by simpa using rv⟩) (fun b u z => nomatch (show (none : Option HO) = some u from z)) (fun _ _ => rfl) fun _ => rfl
  | none =>
    have q1 : ∀ b : Addr, b ≠ a → (fun b => if b = a then some (HO.frz { cls := .type "list", data := .seq vs.toArray } (.lst (ns.map V.int))) else none : Hp) b = none := fun b z => if_neg z
    have q2 : (fun b => if b = a then some (HO.frz { cls := .type "list", data := .seq vs.toArray } (.lst (ns.map V.int))) else none : Hp) a = some (HO.frz { cls := .type "list", data := .seq vs.toArray } (.lst (ns.map V.int))) := if_pos rfl
    refine main _ (fun b => ?_) (.inl (.inr ⟨_, q2⟩)) (fun b u z => ?_) q1 fun z => absurd hk z
    · by_cases hb : b = a
      · subst hb; exact .inr ⟨_, _, q2⟩
      · exact .inl (q1 b hb)
    · by_cases hb : b = a
      · subst hb
        have z' := q2.symm.trans z
        cases z'
        exact ⟨ha, by rw [List.length_map]; exact hl, vs, _, rv, ha⟩
      · have z' := (q1 b hb).symm.trans z
        cases z'
theorem walk_ofG {l : PySem.W.OpenLaw} {n k : Nat} {q : Program} {loose : List Str} {XP : (Str → Option Value) → Heap → Prop} {YP : World → Heap → Prop} {d : DefRec} {K : Params → PySem.W.Frag} {sp : World → Sp} {x : Str}
    (hn : l.most = some n) (hn2 : n ≤ sizeLine) (hdf : d.params.defaults = []) (hr : Room k callerA) (hY : ∀ (w : World) (h : Heap), YP w h → (K w.params).In h)
    (F : ∀ (w : World) (mg : Str → Option Value) (fa : Addr) (h : Heap), (K w.params).In h → h.Ns mainGlobals mg → mg d.name = some (.ref fa) →
      ∃ fd : FuncData, (∀ (s : Shared) (u : Value), BindsTo s fd ⟨[u], []⟩ [(x, u)]) ∧ ∀ base : Heap, (K w.params).In base → base.Ns mainGlobals mg → FnG l.prog w (K w.params) mg base CX0 k fa fd [x] (sp w))
    (hsp : ∀ (w : World) (H : Hp) (a : Addr) (ns : List Int), ns.length ≤ n → Only H → SqL (K w.params) H a (ns.map V.int) → sp w [.ref a] H (fun v _ => v = .bl true) fun _ _ _ => False) :
    PySem.W.WalkO q loose XP YP l.row.toRowW d [] (fun f vs => PySem.call f vs) := by
  refine Att.attach_call hn hdf fun w s₀ s₁ mg mb fa o pm cd doc a vs ns G Y ho hd hcd hmg hobj hints hlen hg => ?_
  have KX := hY w _ Y
  obtain ⟨fd, hb, hF⟩ := F w mg fa _ KX G.T.g hmg
  exact law_callG KX G.T.g G.T.b G.T.builtins G.T.nolimit hg hobj hints (Nat.le_trans hlen hn2) hr hF hb fun H hO hS => hsp w H a ns hlen hO hS
end GL


set_option Elab.async false
set_option maxRecDepth 100000
set_option maxHeartbeats 1000000
set_option linter.all false
namespace K03
open PySem PySem.Spec PyProof.Rows L2
abbrev sShuf : Stmt := top 42
/-- pairs of numbers, with where they stand -/
abbrev Zs := List (Addr × Int × Int)
def rf (zs : Zs) : List V := zs.map fun z => .ref z.1
def nums (zs : Zs) : List (Int × Int) := zs.map fun z => z.2
def PL (H : Hp) (zs : Zs) : Prop := ∀ z ∈ zs, H z.1 = some (.tup [.int z.2.1, .int z.2.2])
theorem PL.kept {d lg cl : Addr} {H H' : Hp} {zs : Zs} (D : DrawAt H d lg cl) (k : Kept d lg H H') (p : PL H zs) : PL H' zs := fun z m => by
  obtain ⟨⟨r, t, hd⟩, ⟨L, hL, hl⟩, _, _⟩ := D
  refine k _ _ (p z m) (fun e => ?_) fun e => ?_
  · have := p z m
    rw [e, hd] at this
    cases this
  · have := p z m
    rw [e, hl] at this
    cases this
theorem PL.same {H H' : Hp} {zs : Zs} (s : Same H H') (p : PL H zs) : PL H' zs := fun z m => s _ _ (p z m)
theorem PL.put {H : Hp} {zs : Zs} {l : Addr} {xs : List V} {o : HO} (p : PL H zs) (h : H l = some (.lst xs)) : PL (upd H l o) zs := fun z m => by
  have q := p z m
  rw [upd_ne fun e => by rw [e, h] at q; cases q]
  exact q
theorem dp_prs {K : PySem.W.Frag} {H : Hp} {a : Addr} {zs : Zs} (h : SqL K H a (rf zs)) (p : PL H zs) : Dp K H (.ref a) (.list (zs.map fun z => PyData.tuple [.int z.2.1, .int z.2.2])) := by
  refine .lst h ?_
  clear h
  induction zs with
  | nil => exact .nil
  | cons x r ih => exact .cons (.tup (.inl (.inl (p x List.mem_cons_self))) (.cons (.int _) (.cons (.int _) .nil))) (ih fun z m => p z (List.mem_cons_of_mem _ m))
theorem shp_prs (zs : Zs) : SeqAt.shaped (.list (zs.map fun z => PyData.tuple [.int z.2.1, .int z.2.2])) = true := by
  have h1 : PyData.canLayAll0 (zs.map fun z => PyData.tuple [.int z.2.1, .int z.2.2]) = true := by
    induction zs with
    | nil => rfl
    | cons x r ih => simp [PyData.canLayAll0, PyData.canLay0, ih]
  have h2 : PyData.depthAll (zs.map fun z => PyData.tuple [.int z.2.1, .int z.2.2]) ≤ 2 := by
    clear h1
    induction zs with
    | nil => simp [PyData.depthAll]
    | cons x r ih => simp [PyData.depthAll, PyData.depth]; omega
  simp [SeqAt.shaped, PyData.canLay0, h1, PyData.depth]
  omega
/-- a list of pairs, in another order, new -/
def spShuf (K : PySem.W.Frag) : Sp := fun vs H Q _ => ∃ (d lg cl a : Addr) (zs : Zs), vs = [.ref d, .ref a] ∧ DrawAt H d lg cl ∧ SqL K H a (rf zs) ∧ PL H zs ∧ zs.length < 1000 ∧
  ∀ (ys : Zs) (p : Addr) (H' : Hp), ys.Perm zs → DrawAt H' d lg cl → Kept d lg H H' → H p = none → H' p = some (.lst (rf ys)) → Q (.ref p) H'
theorem scShuf : FnScope ["draw", "some", "left", "found"] ["draw", "some"] (defScope sShuf) := ⟨rfl, rfl, rfl, by decide +kernel, rfl, by decide +kernel, by decide +kernel⟩
theorem rf_get {zs : Zs} {i : Nat} {z : Addr × Int × Int} (h : zs[i]? = some z) : (rf zs)[i]? = some (.ref z.1) := by unfold rf; rw [List.getElem?_map, h]; rfl
theorem rf_erase (zs : Zs) (i : Nat) : (rf zs).eraseIdx i = rf (zs.eraseIdx i) := by
  unfold rf
  rw [List.eraseIdx_eq_take_drop_succ, List.eraseIdx_eq_take_drop_succ, List.map_append, List.map_take, List.map_drop]
theorem perm_erase {α : Type} {l : List α} {i : Nat} {x : α} (h : l[i]? = some x) : (x :: l.eraseIdx i).Perm l := by
  obtain ⟨hi, e⟩ := List.getElem?_eq_some_iff.mp h
  rw [List.eraseIdx_eq_take_drop_succ]
  have z : l = l.take i ++ x :: l.drop (i + 1) := by
    rw [← e, List.getElem_cons_drop, List.take_append_drop]
  exact (List.perm_middle.symm.trans (List.Perm.of_eq z.symm))
section
variable {P : Program} {w : World} {K : PySem.W.Frag} {mg : Str → Option Value} {base : Heap}
theorem ok_shuf {f fT : Addr} {fd fdT : FuncData} (F : Fun K "_law_shuffled" "_law_shuffled" sShuf f fd) (GT : FnOk P w K mg base CX0 2 fT fdT ["draw", "amount"] spTake) (FT : Fun K "_law_take" "_law_take" sTake fT fdT) (bT : L2.Binds K fdT ["draw", "amount"] []) (gT : mg "_law_take" = some (.ref fT))
    (mLen : mg "len" = none) (mList : mg "list" = none) : FnOk P w K mg base CX0 3 f fd ["draw", "some"] (spShuf K) := by
  refine F.ok scShuf (fun vs H Q E h => ?_) (fun cdv A outer s H vs Q E hr h => ?_)
  · obtain ⟨d, lg, cl, a, zs, rfl, _⟩ := h
    rfl
  · obtain ⟨d, lg, cl, a, zs, rfl, D, ha, hp, hl, k⟩ := h
    have nd := scShuf.nd
    refine ⟨_, pss_cons (ps_par (i := 2) (j := 3) (by rfl) nd rfl rfl (by decide) rfl rfl (pa_cons (pe_callTy call_list_of (by rfl) mList (by decide +kernel) (pa_cons (pv 1) pa_nil)) (pa_cons (pe_lst pa_nil) pa_nil)) (by rfl))
      (pss_cons (ps_while PassesOwn.never (pt_cmpR (op_neD hr.units) (pv 2) (pe_lst pa_nil) (nomark _))
        (pss_one (ps_expr (pe_bm PySem.F.plainAttrs_list PySem.F.slot_list_append PySem.F.type_list_append mt_append (pv 3)
          (pa_cons (pe_bm PySem.F.plainAttrs_list PySem.F.slot_list_pop PySem.F.type_list_pop mt_popAt (pv 2) (pa_cons (pe_call GT hr rfl gT FT.kp bT .nil pass0 (pa_cons (pv 0) (pa_cons (pe_callB call_len_seq (by rfl) mLen PySem.boot_len (pa_cons (pv 2) pa_nil)) pa_nil))) pa_nil)) pa_nil)))))
      (pss_one (ps_ret (pv 3)))), ?_⟩
    refine ⟨_, rfl, a, _, rfl, .inl ha, fun l nl => ⟨Nat.zero_le _, fun fo nf => ?_⟩⟩
    refine ⟨_, _, rfl, ?_⟩
    have hd0 : H d ≠ none := by obtain ⟨⟨r, t, e⟩, _⟩ := id D; rw [e]; simp
    have hlg0 : H lg ≠ none := by obtain ⟨_, ⟨L, _, e⟩, _⟩ := id D; rw [e]; simp
    have hcl0 : H cl ≠ none := by obtain ⟨_, _, ⟨M, _, e⟩, _⟩ := id D; rw [e]; simp
    have nef : fo ≠ l := fun z => by rw [z, upd_same] at nf; cases nf
    have nf0 : H fo = none := by rw [upd_ne nef] at nf; exact nf
    have new : ∀ {p : Addr}, H p = none → p ≠ d ∧ p ≠ lg ∧ p ≠ cl := fun {p} z => ⟨fun e => hd0 (by rw [← e]; exact z), fun e => hlg0 (by rw [← e]; exact z), fun e => hcl0 (by rw [← e]; exact z)⟩
    obtain ⟨ld, llg, lcl⟩ := new nl
    obtain ⟨fd', flg, fcl⟩ := new nf0
    have Dput : ∀ {Hx : Hp} {p : Addr} {o : HO}, p ≠ d → p ≠ lg → p ≠ cl → DrawAt Hx d lg cl → DrawAt (upd Hx p o) d lg cl := fun {Hx p o} a b c D => by
      obtain ⟨⟨r, t, hd⟩, ⟨L, hL, hl⟩, ⟨M, hM, hc⟩, ncl⟩ := D
      exact ⟨⟨r, t, by rw [upd_ne a.symm]; exact hd⟩, ⟨L, hL, by rw [upd_ne b.symm]; exact hl⟩, ⟨M, hM, by rw [upd_ne c.symm]; exact hc⟩, ncl⟩
    have Kput : ∀ {Hx : Hp} {p : Addr} {o : HO}, H p = none → Kept d lg H Hx → Kept d lg H (upd Hx p o) := fun {Hx p o} z k b x e h1 h2 => by
      rw [upd_ne (ne_of_none e z)]
      exact k b x e h1 h2
    refine ⟨fun m σ Hx => ∃ zl zf : Zs, σ = [some (.ref d), some (.ref a), some (.ref l), some (.ref fo)] ∧ m = zl.length ∧ DrawAt Hx d lg cl ∧ Hx l = some (.lst (rf zl)) ∧ Hx fo = some (.lst (rf zf)) ∧ (zf ++ zl).Perm zs ∧ PL Hx zs ∧ Kept d lg H Hx,
      ⟨_, zs, [], rfl, rfl, Dput fd' flg fcl (Dput ld llg lcl D), by rw [upd_ne nef.symm, upd_same], upd_same, List.Perm.refl _, (hp.same (same_upd nl)).same (same_upd nf), Kput nf0 (Kput nl Kept.refl)⟩, ?_⟩
    rintro m σ Hx ⟨zl, zf, rfl, rfl, Dx, el, ef, pm, px, kx⟩
    have pl : PL Hx zl := fun z mz => px z (pm.subset (List.mem_append_right _ mz))
    have hlen : zf.length + zl.length = zs.length := by rw [← List.length_append]; exact pm.length_eq
    refine ⟨_, rfl, Nat.zero_le _, fun e ne => ?_⟩
    have se : Same Hx (upd Hx e (.lst [])) := same_upd ne
    have eE : (upd Hx e (.lst [])) e = some (.lst []) := upd_same
    have De : DrawAt (upd Hx e (.lst [])) d lg cl := by
      obtain ⟨⟨r, t, hd⟩, ⟨L, hL, hl⟩, ⟨M, hM, hc⟩, ncl⟩ := Dx
      exact ⟨⟨r, t, se _ _ hd⟩, ⟨L, hL, se _ _ hl⟩, ⟨M, hM, se _ _ hc⟩, ncl⟩
    have ke : Kept d lg H (upd Hx e (.lst [])) := fun b o h h1 h2 => se _ _ (kx b o h h1 h2)
    have elE := se _ _ el
    have efE := se _ _ ef
    have pxE := px.same se
    have plE := pl.same se
    generalize upd Hx e (.lst []) = He at se eE De ke elE efE pxE plE
    refine ⟨_, _, dp_prs (SqL.of elE) plE, .lst (SqL.of eE) .nil, shp_prs zl, rfl, _, rfl, ?_⟩
    cases zl with
    | nil =>
      refine iteF ?_
      rw [List.append_nil] at pm
      exact ⟨_, rfl, k zf fo He pm De ke nf0 efE⟩
    | cons z0 zr =>
      refine iteT ?_
      refine ⟨fun σ' H' => ∃ zl zf : Zs, σ' = [some (.ref d), some (.ref a), some (.ref l), some (.ref fo)] ∧ zl.length = zr.length ∧ DrawAt H' d lg cl ∧ H' l = some (.lst (rf zl)) ∧ H' fo = some (.lst (rf zf)) ∧ (zf ++ zl).Perm zs ∧ PL H' zs ∧ Kept d lg H H', fun σ' H' hN => ?_, ?_⟩
      · obtain ⟨zl', zf', e1, e2, rest⟩ := hN
        exact ⟨_, by rw [List.length_cons]; exact Nat.lt_succ_self _, zl', zf', e1, e2.symm, rest⟩
      · have hl2 : (rf (z0 :: zr)).length = zr.length + 1 := by unfold rf; rw [List.length_map, List.length_cons]
        refine ⟨_, rfl, .inl ⟨rfl, _, SqL.of efE⟩, _, rfl, .inl ⟨rfl, _, SqL.of elE⟩, _, rfl, _, rfl, l, _, rfl, .inl (SqL.of elE), d, lg, cl, _, rfl, De, by rw [hl2]; omega, by rw [hl2]; rw [List.length_cons] at hlen; omega, fun z H2 z1 z2 D2 k2 => ?_⟩
        obtain ⟨j, rfl⟩ := Int.eq_ofNat_of_zero_le z1
        have hj : j < (z0 :: zr).length := by rw [hl2] at z2; rw [List.length_cons]; omega
        have ej : (z0 :: zr)[j]? = some ((z0 :: zr)[j]) := List.getElem?_eq_getElem hj
        generalize (z0 :: zr)[j] = zj at ej
        have el2 := k2 _ _ elE ld llg
        have ef2 := k2 _ _ efE fd' flg
        have hs : seqIndex? (j : Int) (rf (z0 :: zr)).length = some j := by
          rw [hl2]
          rw [List.length_cons] at hj
          simp [seqIndex?]
          omega
        refine ⟨l, _, _, j, _, rfl, rfl, el2, by omega, by rw [hl2] at z2; rw [List.length_cons] at hlen; omega, hs, rf_get ej, ?_⟩
        have ef3 : (upd H2 l (.lst ((rf (z0 :: zr)).eraseIdx j))) fo = some (.lst (rf zf)) := by rw [upd_ne nef]; exact ef2
        have hf2 : (rf zf).length < sizeLine := small1000 (by unfold rf; rw [List.length_map]; omega)
        refine ⟨fo, _, _, rfl, rfl, ef3, hf2, ?_⟩
        have hpm : (zj :: (z0 :: zr).eraseIdx j).Perm (z0 :: zr) := perm_erase ej
        refine ⟨(z0 :: zr).eraseIdx j, zf ++ [zj], rfl, ?_, Dput fd' flg fcl (Dput ld llg lcl D2), ?_, ?_, ?_, ?_, Kput nf0 (Kput nl (ke.trans k2))⟩
        · have := hpm.length_eq
          rw [List.length_cons, List.length_cons] at this
          omega
        · rw [upd_ne nef.symm, upd_same, rf_erase]
        · rw [upd_same]
          unfold rf
          rw [List.map_append]
          rfl
        · refine List.Perm.trans ?_ pm
          rw [List.append_assoc]
          exact List.Perm.append_left zf hpm
        · exact ((pxE.kept De k2).put el2).put ef3
end
end K03


set_option Elab.async false
set_option maxRecDepth 100000
set_option maxHeartbeats 1000000
set_option linter.all false
namespace K03
open PySem PySem.Spec PyProof.Rows L2
/-- pairs that go up, one to each place but the first -/
structure Up (n : Nat) (m : Nat) (zs : Zs) : Prop where
  tree : ∀ k : Nat, 0 < k → k < m → ∃ a : Int, 0 ≤ a ∧ a < k ∧ (a, (k : Int)) ∈ nums zs
  up : ∀ q ∈ nums zs, 0 ≤ q.1 ∧ q.1 < q.2 ∧ q.2 < n
theorem Up.more {n m : Nat} {zs : Zs} (u : Up n m zs) {t : Addr} {a b : Int} (h0 : 0 ≤ a) (h1 : a < b) (h2 : b < n) : Up n m (zs ++ [(t, a, b)]) := by
  have e : nums (zs ++ [(t, a, b)]) = nums zs ++ [(a, b)] := by unfold nums; rw [List.map_append]; rfl
  refine ⟨fun k hk hm => ?_, fun q hq => ?_⟩
  · obtain ⟨c, c0, c1, c2⟩ := u.tree k hk hm
    exact ⟨c, c0, c1, by rw [e]; exact List.mem_append_left _ c2⟩
  · rw [e] at hq
    rcases List.mem_append.mp hq with hq | hq
    · exact u.up q hq
    · rw [List.mem_singleton] at hq
      subst hq
      exact ⟨h0, h1, h2⟩
theorem Up.next {n m : Nat} {zs : Zs} (u : Up n m zs) {t : Addr} {a : Int} (h0 : 0 ≤ a) (h1 : a < (m : Int)) (h2 : m < n) : Up n (m + 1) (zs ++ [(t, a, (m : Int))]) := by
  have u' := u.more (t := t) (b := (m : Int)) h0 h1 (by omega)
  have e : nums (zs ++ [(t, a, (m : Int))]) = nums zs ++ [(a, (m : Int))] := by unfold nums; rw [List.map_append]; rfl
  refine ⟨fun k hk hm => ?_, u'.up⟩
  by_cases c : k = m
  · subst c
    exact ⟨a, h0, h1, by rw [e]; exact List.mem_append_right _ (List.mem_singleton.mpr rfl)⟩
  · exact u'.tree k hk (by omega)
theorem Up.perm {n m : Nat} {zs ys : Zs} (u : Up n m zs) (p : ys.Perm zs) : Up n m ys := by
  have e : ∀ q, q ∈ nums ys ↔ q ∈ nums zs := fun q => (p.map _).mem_iff
  exact ⟨fun k hk hm => by
    obtain ⟨a, a0, a1, a2⟩ := u.tree k hk hm
    exact ⟨a, a0, a1, (e _).mpr a2⟩, fun q hq => u.up q ((e q).mp hq)⟩
theorem PL.app {H : Hp} {zs : Zs} {t : Addr} {a b : Int} (p : PL H zs) (h : H t = some (.tup [.int a, .int b])) : PL H (zs ++ [(t, a, b)]) := fun z m => by
  rcases List.mem_append.mp m with m | m
  · exact p z m
  · rw [List.mem_singleton] at m
    subst m
    exact h
theorem rf_app (zs : Zs) (t : Addr) (a b : Int) : rf zs ++ [V.ref t] = rf (zs ++ [(t, a, b)]) := by unfold rf; rw [List.map_append]; rfl
theorem rf_len (zs : Zs) : (rf zs).length = zs.length := by unfold rf; rw [List.length_map]
theorem draw_same {H H' : Hp} {d lg cl : Addr} (s : Same H H') (D : DrawAt H d lg cl) : DrawAt H' d lg cl := by
  obtain ⟨⟨r, t, hd⟩, ⟨L, hL, hl⟩, ⟨M, hM, hc⟩, ncl⟩ := D
  exact ⟨⟨r, t, s _ _ hd⟩, ⟨L, hL, s _ _ hl⟩, ⟨M, hM, s _ _ hc⟩, ncl⟩
theorem draw_put {H : Hp} {d lg cl p : Addr} {o : HO} (a : p ≠ d) (b : p ≠ lg) (c : p ≠ cl) (D : DrawAt H d lg cl) : DrawAt (upd H p o) d lg cl := by
  obtain ⟨⟨r, t, hd⟩, ⟨L, hL, hl⟩, ⟨M, hM, hc⟩, ncl⟩ := D
  exact ⟨⟨r, t, by rw [upd_ne a.symm]; exact hd⟩, ⟨L, hL, by rw [upd_ne b.symm]; exact hl⟩, ⟨M, hM, by rw [upd_ne c.symm]; exact hc⟩, ncl⟩
theorem draw_new {H : Hp} {d lg cl p : Addr} (D : DrawAt H d lg cl) (h : H p = none) : p ≠ d ∧ p ≠ lg ∧ p ≠ cl := by
  obtain ⟨⟨r, t, hd⟩, ⟨L, hL, hl⟩, ⟨M, hM, hc⟩, ncl⟩ := D
  exact ⟨fun e => (by rw [e, hd] at h; cases h), fun e => (by rw [e, hl] at h; cases h), fun e => (by rw [e, hc] at h; cases h)⟩
theorem kept_put {H Hx : Hp} {d lg p : Addr} {o : HO} (z : H p = none) (k : Kept d lg H Hx) : Kept d lg H (upd Hx p o) := fun b x e h1 h2 => by
  rw [upd_ne (ne_of_none e z)]
  exact k b x e h1 h2
theorem kept_none {H Hx : Hp} {d lg p : Addr} (k : Kept d lg H Hx) (h1 : p ≠ d) (h2 : p ≠ lg) (z : Hx p = none) : H p = none := by
  cases e : H p with
  | none => rfl
  | some u => rw [k p u e h1 h2] at z; cases z
theorem cut12 {xs : List V} (h : xs.length ≤ 12) : cutV xs none (some 12) = xs := by
  unfold cutV
  rw [HT.sIx_none, show ((12 : Int)) = ((12 : Nat) : Int) from rfl, HT.sIx_nat, List.drop_zero]
  exact List.take_of_length_le (by omega)
section
variable {P : Program} {w : World} {K : PySem.W.Frag} {mg : Str → Option Value} {base : Heap}
end
end K03


set_option Elab.async false
set_option maxRecDepth 100000
set_option maxHeartbeats 1000000
set_option linter.all false
namespace K03
open PySem PySem.Spec PyProof.Rows L2 NetM
theorem inV_ints (h : Int) (l : List Int) : inV (.int h) (l.map V.int) = decide (h ∈ l) := by
  unfold inV
  induction l with
  | nil => simp
  | cons x r ih =>
    rw [List.map_cons, List.any_cons, ih]
    by_cases c : x = h
    · subst c; simp [eqV]
    · have c' : ¬ h = x := fun e => c e.symm
      simp [eqV, c, c']
theorem flat_ints (l : List Int) : (l.map V.int).all flatV = true := by
  rw [List.all_map]
  exact List.all_eq_true.mpr fun x _ => rfl
theorem small_2000 {n : Nat} (h : n ≤ 2000) : n < sizeLine := Nat.lt_of_le_of_lt h (by decide)
theorem nums_get {zs : Zs} {i : Nat} {z : Addr × Int × Int} (h : zs[i]? = some z) : (nums zs)[i]? = some z.2 := by unfold nums; rw [List.getElem?_map, h]; rfl
theorem same_put {H0 H : Hp} {p : Addr} {o : HO} (s : Same H0 H) (n : H0 p = none) : Same H0 (upd H p o) := fun b x e => by
  rw [upd_ne (ne_of_none e n)]
  exact s b x e
section
variable {P : Program} {w : World} {K : PySem.W.Frag} {mg : Str → Option Value} {base : Heap}
end
end K03


set_option Elab.async false
set_option maxRecDepth 100000
set_option maxHeartbeats 1000000
set_option linter.all false
namespace K03
open PySem PySem.Spec PyProof.Rows L2 NetM
def tEi (t t' : TE) : TE := fun σ H Q => t σ H Q ∨ t' σ H Q
def iEi (t t' : TI) : TI := fun σ H R => t σ H R ∨ t' σ H R
def gEi (t t' : TG) : TG := fun v σ H Q => t v σ H Q ∨ t' v σ H Q
/-! either reading, whichever holds -/
section
variable {X : Cx}
theorem pe_either {e : Expr} {t t' : TE} (h : PE X e t) (h' : PE X e t') : PE X e (tEi t t') := ⟨fun pins s σ H Q I q => q.elim (h.run pins s σ H Q I) (h'.run pins s σ H Q I)⟩
theorem pi_either {tg e : Expr} {t t' : TI} (h : PI X tg e t) (h' : PI X tg e t') : PI X tg e (iEi t t') := ⟨fun pins s σ H R I q => q.elim (h.run pins s σ H R I) (h'.run pins s σ H R I)⟩
theorem pg_either {e : Expr} {t t' : TG} (h : PG X e t) (h' : PG X e t') : PG X e (gEi t t') := ⟨fun pins s σ H v u Q I r q => q.elim (h.run pins s σ H v u Q I r) (h'.run pins s σ H v u Q I r)⟩
end
end K03


set_option Elab.async false
set_option maxRecDepth 100000
set_option maxHeartbeats 1000000
set_option linter.all false
namespace K03
open PySem PySem.Spec PyProof.Rows L2 NetM
abbrev sHangs : Stmt := top 14
def SqA (K : PySem.W.Frag) (H : Hp) (a : Addr) (xs : List V) : Prop := SqL K H a xs ∨ SqT K H a xs
theorem SqA.same {K : PySem.W.Frag} {H H' : Hp} {a : Addr} {xs : List V} (s : Same H H') (h : SqA K H a xs) : SqA K H' a xs := by
  rcases h with h | (h | ⟨o, h⟩) | h
  · exact .inl (s.seq h)
  · exact .inr (.inl (.inl (s _ _ h)))
  · exact .inr (.inl (.inr ⟨o, s _ _ h⟩))
  · exact .inr (.inr h)
theorem sqt_same {K : PySem.W.Frag} {H H' : Hp} (s : Same H H') {a : Addr} {xs : List V} (h : SqT K H a xs) : SqT K H' a xs := by
  rcases h with (h | ⟨o, h⟩) | h
  · exact .inl (.inl (s _ _ h))
  · exact .inl (.inr ⟨o, s _ _ h⟩)
  · exact .inr h
/-- pairs as lists or tuples -/
def PrA (K : PySem.W.Frag) (H : Hp) (zs : Zs) : Prop := ∀ z ∈ zs, SqA K H z.1 [.int z.2.1, .int z.2.2]
theorem PrA.same {K : PySem.W.Frag} {H H' : Hp} {zs : Zs} (s : Same H H') (p : PrA K H zs) : PrA K H' zs := fun z m => (p z m).same s
def dk (l : List Int) : List (Key × V) := l.map fun x => (Sum.inl x, V.bl true)
theorem dk_get (l : List Int) (t : Int) : (valV (dk l) (Sum.inl t)).isSome = decide (t ∈ l) := by
  induction l with
  | nil => rfl
  | cons x r ih =>
    by_cases c : x = t
    · subst c
      have : valV (dk (x :: r)) (Sum.inl x) = some (.bl true) := valV_pos rfl
      rw [this]
      simp
    · have : valV (dk (x :: r)) (Sum.inl t) = valV (dk r) (Sum.inl t) := valV_neg fun e => c (Sum.inl.inj e)
      rw [this, ih]
      have c' : ¬ t = x := fun e => c e.symm
      simp [c']
theorem dk_put (l : List Int) (t : Int) : putK (dk l) (Sum.inl t) (.bl true) = dk (ins t l) := by
  unfold putK ins
  have e : ((dk l).any fun kv => decide (kv.1 = (Sum.inl t : Key))) = decide (t ∈ l) := by
    unfold dk
    rw [List.any_map]
    induction l with
    | nil => rfl
    | cons x r ih =>
      rw [List.any_cons, ih]
      by_cases c : x = t
      · subst c; simp
      · have c' : ¬ t = x := fun e => c e.symm
        simp [c, c']
  rw [e]
  by_cases c : t ∈ l
  · rw [if_pos (decide_eq_true c), if_pos c]
    unfold dk
    rw [List.map_map]
    refine List.map_congr_left fun x _ => ?_
    show (if (Sum.inl x : Key) = Sum.inl t then ((Sum.inl x : Key), V.bl true) else (Sum.inl x, V.bl true)) = _
    by_cases d : (Sum.inl x : Key) = Sum.inl t
    · rw [if_pos d]
    · rw [if_neg d]
  · rw [decide_eq_false c, if_neg (by simp), if_neg c]
    unfold dk
    rw [List.map_append]
    rfl
theorem ins_le {l : List Int} {x : Int} (h : l.length ≤ 8) : (ins x l).length ≤ 9 := by
  unfold ins
  by_cases c : x ∈ l
  · rw [if_pos c]; omega
  · rw [if_neg c, List.length_append, List.length_singleton]; omega
theorem scHangs : FnScope ["places", "arrows", "found", "_", "tail", "head"] ["places", "arrows"] (defScope sHangs) := ⟨rfl, rfl, rfl, by decide +kernel, rfl, by decide +kernel, by decide +kernel⟩
def spHangs (K : PySem.W.Frag) : Sp := fun vs H Q _ => ∃ (a : Addr) (n : Nat) (zs : Zs), vs = [.int n, .ref a] ∧ SqA K H a (rf zs) ∧ PrA K H zs ∧ zs.length ≤ 400 ∧ 0 < n ∧ n ≤ 8 ∧ (∀ t h, (t, h) ∈ nums zs → InR n t ∧ InR n h) ∧
  ∀ H' : Hp, Same H H' → Q (.bl (decide (V.int (rounds (nums zs) n [0]).length = V.int n))) H'
section
variable {P : Program} {w : World} {K : PySem.W.Frag} {mg : Str → Option Value} {base : Heap}
theorem ok_hangs {f : Addr} {fd : FuncData} (F : Fun K "_hangs_together" "_hangs_together" sHangs f fd) (mRa : mg "range" = none) (mLen : mg "len" = none) : FnOk P w K mg base CX0 1 f fd ["places", "arrows"] (spHangs K) := by
  refine F.ok scHangs (fun vs H Q E h => ?_) (fun cdv A outer s H vs Q E hr h => ?_)
  · obtain ⟨a, n, zs, rfl, _⟩ := h
    rfl
  · obtain ⟨a, n, zs, rfl, hS, hp, hz, n0, n8, hE, k⟩ := h
    have nd := scHangs.nd
    have hu := hu_of hr
    refine ⟨_, pss_cons (ps_set (i := 2) nd rfl (Or.inl rfl) (pe_disp (pps_cons pe_int pe_bl pps_nil) (by rfl) (by rfl) (fun z => by cases z) (by decide)))
      (pss_cons (ps_for PassesOwn.never rfl (pi_range1 (by rfl) mRa (pa_cons (pv 0) pa_nil)) (pg_name (i := 3) nd rfl (Or.inl rfl))
        (pss_one (ps_for PassesOwn.never rfl (pi_either (pi_list (pv 1)) (pi_tup (pv 1))) (pg_either (pg_tup (by rfl) (pgs_cons (pg_name (i := 4) nd rfl (Or.inl rfl)) (pgs_cons (pg_name (i := 5) nd rfl (Or.inl rfl)) pgs_nil))) (pg_lst (by rfl) (pgs_cons (pg_name (i := 4) nd rfl (Or.inl rfl)) (pgs_cons (pg_name (i := 5) nd rfl (Or.inl rfl)) pgs_nil))))
          (pss_one (ps_if (PW.pt (pw_or (pt_cmp (pc_din hu (pv 4) (pv 2))) (pw_or1 (pt_cmp (pc_din hu (pv 5) (pv 2)))))) (pss_cons (ps_dput hu (pv 2) (pv 4) pe_bl rfl) (pss_one (ps_dput hu (pv 2) (pv 5) pe_bl rfl))) pss_nil)))))
      (pss_one (ps_ret (pe_cmpR op_eq (pe_callB call_lenD (by rfl) mLen PySem.boot_len (pa_cons (pv 2) pa_nil)) (pv 0) (nomark _))))), ?_⟩
    intro fo nf
    refine ⟨upd_same, [(Sum.inl 0, .bl true)], rfl, by decide, ?_⟩
    have s0' : Same H (upd (upd H fo (.dK [])) fo (.dK (mergeK [] [((Sum.inl 0 : Key), V.bl true)]))) := same_put (same_put (Same.refl _) nf) nf
    have e0 : (upd (upd H fo (.dK [])) fo (.dK (mergeK [] [((Sum.inl 0 : Key), V.bl true)]))) fo = some (.dK (dk [0])) := upd_same
    generalize upd (upd H fo (.dK [])) fo (.dK (mergeK [] [((Sum.inl 0 : Key), V.bl true)])) = H0 at s0' e0
    have bnd : ∀ l : List Int, l.Nodup → (∀ x ∈ l, Rch (both (nums zs)) 0 x) → l.length ≤ 8 := fun l ndl h => by
      have := sub_len (m := rng n) ndl fun x hx => mem_rng.mpr (by
        have r := h x hx
        cases r with
        | refl => unfold InR; omega
        | step _ e =>
          rcases mem_both.mp e with e | e
          · exact (hE _ _ e).2
          · exact (hE _ _ e).1)
      rw [rng_len] at this
      omega
    have lenb : ∀ m i : Nat, (round ((nums zs).take i) (rounds (nums zs) m [0])).length ≤ 8 := fun m i =>
      bnd _ (round_nodup _ _ (rounds_nodup _ m _ (List.nodup_cons.mpr ⟨by simp, List.nodup_nil⟩))) (round_snd _ _ (fun p hp => List.mem_of_mem_take hp) (rounds_snd m _ fun x hx => by rw [List.mem_singleton.mp hx]; exact .refl 0))
    refine ⟨_, rfl, (n : Int), rfl, by omega, by omega, ?_⟩
    rw [Int.toNat_natCast]
    refine for_range (lo := 0) (n := n) (fun m σ Hx => ∃ v3 v4 v5 : Option V, σ = [some (.int n), some (.ref a), some (.ref fo), v3, v4, v5] ∧ Hx fo = some (.dK (dk (rounds (nums zs) m [0]))) ∧ Same H Hx) ⟨none, none, none, rfl, e0, s0'⟩ ?_ ?_
    · rintro m σ Hx hm ⟨v3, v4, v5, rfl, ef, s0⟩
      have hln : (rf zs).length = (nums zs).length := by unfold rf nums; rw [List.length_map, List.length_map]
      rcases id hS with h | h
      · refine .inl ⟨_, rfl, a, rfl, ⟨_, s0.seq h⟩, ?_⟩
        refine for_list (K := K) (a := a) (xs := rf zs) (fun i σ Hy => ∃ v4 v5 : Option V, σ = [some (.int n), some (.ref a), some (.ref fo), some (.int (0 + (m : Int))), v4, v5] ∧ Hy fo = some (.dK (dk (round ((nums zs).take i) (rounds (nums zs) m [0])))) ∧ Same H Hy)
          ⟨v4, v5, rfl, by rw [List.take_zero]; exact ef, s0⟩ (fun i σ Hy _ hh => by obtain ⟨_, _, _, _, s⟩ := hh; exact s.seq h) ?_ ?_
        · skip
          rintro i x σ Hy hi ⟨v4, v5, rfl, hf, sy⟩
          have hzi : ∃ z, zs[i]? = some z ∧ x = .ref z.1 := by
            unfold rf at hi
            rw [List.getElem?_map] at hi
            cases e : zs[i]? with
            | none => rw [e] at hi; cases hi
            | some z => rw [e] at hi; cases hi; exact ⟨z, rfl, rfl⟩
          obtain ⟨⟨t, p1, p2⟩, hz1, rfl⟩ := hzi
          have hmem : (t, p1, p2) ∈ zs := List.mem_of_getElem? hz1
          have htk : (nums zs).take (i + 1) = (nums zs).take i ++ [(p1, p2)] := by
            rw [List.take_add_one, nums_get hz1]; rfl
          have hra := round_app p1 p2 ((nums zs).take i) (rounds (nums zs) m [0])
          rw [← htk] at hra
          have hlen := lenb m i
          generalize round ((nums zs).take i) (rounds (nums zs) m [0]) = l at hf hra hlen
          rcases hp.same sy _ hmem with pt | pt
          · refine .inr ⟨t, _, rfl, pt, rfl, .int p1, [.int p2], rfl, .int p2, [], rfl, rfl, ?_⟩
            refine ⟨_, rfl, _, rfl, fo, _, rfl, DGet.k (k := Sum.inl p1) hf, _, rfl, ?_⟩
            rw [dk_get]
            by_cases c1 : p1 ∈ l
            · rw [decide_eq_true c1]
              refine iteT ?_
              refine iteT ?_
              refine ⟨_, rfl, _, rfl, fo, _, rfl, DPut.k (k := Sum.inl p1) hf (small_2000 (by unfold dk; rw [List.length_map]; omega)), ?_⟩
              rw [dk_put]
              have hf2 : (upd Hy fo (.dK (dk (ins p1 l)))) fo = some (.dK (dk (ins p1 l))) := upd_same
              have h9 : (ins p1 l).length ≤ 9 := ins_le hlen
              refine ⟨_, rfl, _, rfl, fo, _, rfl, DPut.k (k := Sum.inl p2) hf2 (small_2000 (by unfold dk; rw [List.length_map]; omega)), ?_⟩
              rw [dk_put]
              refine ⟨_, _, rfl, ?_, same_put (same_put sy nf) nf⟩
              rw [upd_same, hra, if_pos (.inl c1)]
            · rw [decide_eq_false c1]
              refine iteF ?_
              refine ⟨_, rfl, _, rfl, fo, _, rfl, DGet.k (k := Sum.inl p2) hf, _, rfl, ?_⟩
              rw [dk_get]
              by_cases c2 : p2 ∈ l
              · rw [decide_eq_true c2]
                refine iteT ?_
                refine ⟨_, rfl, _, rfl, fo, _, rfl, DPut.k (k := Sum.inl p1) hf (small_2000 (by unfold dk; rw [List.length_map]; omega)), ?_⟩
                rw [dk_put]
                have hf2 : (upd Hy fo (.dK (dk (ins p1 l)))) fo = some (.dK (dk (ins p1 l))) := upd_same
                have h9 : (ins p1 l).length ≤ 9 := ins_le hlen
                refine ⟨_, rfl, _, rfl, fo, _, rfl, DPut.k (k := Sum.inl p2) hf2 (small_2000 (by unfold dk; rw [List.length_map]; omega)), ?_⟩
                rw [dk_put]
                refine ⟨_, _, rfl, ?_, same_put (same_put sy nf) nf⟩
                rw [upd_same, hra, if_pos (.inr c2)]
              · rw [decide_eq_false c2]
                refine iteF ?_
                exact ⟨_, _, rfl, by rw [hra, if_neg (fun z => z.elim c1 c2)]; exact hf, sy⟩
          · refine .inl ⟨t, _, rfl, pt, rfl, .int p1, [.int p2], rfl, .int p2, [], rfl, rfl, ?_⟩
            refine ⟨_, rfl, _, rfl, fo, _, rfl, DGet.k (k := Sum.inl p1) hf, _, rfl, ?_⟩
            rw [dk_get]
            by_cases c1 : p1 ∈ l
            · rw [decide_eq_true c1]
              refine iteT ?_
              refine iteT ?_
              refine ⟨_, rfl, _, rfl, fo, _, rfl, DPut.k (k := Sum.inl p1) hf (small_2000 (by unfold dk; rw [List.length_map]; omega)), ?_⟩
              rw [dk_put]
              have hf2 : (upd Hy fo (.dK (dk (ins p1 l)))) fo = some (.dK (dk (ins p1 l))) := upd_same
              have h9 : (ins p1 l).length ≤ 9 := ins_le hlen
              refine ⟨_, rfl, _, rfl, fo, _, rfl, DPut.k (k := Sum.inl p2) hf2 (small_2000 (by unfold dk; rw [List.length_map]; omega)), ?_⟩
              rw [dk_put]
              refine ⟨_, _, rfl, ?_, same_put (same_put sy nf) nf⟩
              rw [upd_same, hra, if_pos (.inl c1)]
            · rw [decide_eq_false c1]
              refine iteF ?_
              refine ⟨_, rfl, _, rfl, fo, _, rfl, DGet.k (k := Sum.inl p2) hf, _, rfl, ?_⟩
              rw [dk_get]
              by_cases c2 : p2 ∈ l
              · rw [decide_eq_true c2]
                refine iteT ?_
                refine ⟨_, rfl, _, rfl, fo, _, rfl, DPut.k (k := Sum.inl p1) hf (small_2000 (by unfold dk; rw [List.length_map]; omega)), ?_⟩
                rw [dk_put]
                have hf2 : (upd Hy fo (.dK (dk (ins p1 l)))) fo = some (.dK (dk (ins p1 l))) := upd_same
                have h9 : (ins p1 l).length ≤ 9 := ins_le hlen
                refine ⟨_, rfl, _, rfl, fo, _, rfl, DPut.k (k := Sum.inl p2) hf2 (small_2000 (by unfold dk; rw [List.length_map]; omega)), ?_⟩
                rw [dk_put]
                refine ⟨_, _, rfl, ?_, same_put (same_put sy nf) nf⟩
                rw [upd_same, hra, if_pos (.inr c2)]
              · rw [decide_eq_false c2]
                refine iteF ?_
                exact ⟨_, _, rfl, by rw [hra, if_neg (fun z => z.elim c1 c2)]; exact hf, sy⟩
        · rintro σ Hy ⟨v4, v5, rfl, hf, sy⟩
          rw [hln, List.take_length, ← rounds_succ] at hf
          exact ⟨_, _, _, rfl, hf, sy⟩
      · refine .inr ⟨_, rfl, a, rfl, ⟨_, sqt_same s0 h⟩, ?_⟩
        refine for_tup (K := K) (a := a) (xs := rf zs) (fun i σ Hy => ∃ v4 v5 : Option V, σ = [some (.int n), some (.ref a), some (.ref fo), some (.int (0 + (m : Int))), v4, v5] ∧ Hy fo = some (.dK (dk (round ((nums zs).take i) (rounds (nums zs) m [0])))) ∧ Same H Hy)
          ⟨v4, v5, rfl, by rw [List.take_zero]; exact ef, s0⟩ (fun i σ Hy _ hh => by obtain ⟨_, _, _, _, s⟩ := hh; exact sqt_same s h) ?_ ?_
        · skip
          rintro i x σ Hy hi ⟨v4, v5, rfl, hf, sy⟩
          have hzi : ∃ z, zs[i]? = some z ∧ x = .ref z.1 := by
            unfold rf at hi
            rw [List.getElem?_map] at hi
            cases e : zs[i]? with
            | none => rw [e] at hi; cases hi
            | some z => rw [e] at hi; cases hi; exact ⟨z, rfl, rfl⟩
          obtain ⟨⟨t, p1, p2⟩, hz1, rfl⟩ := hzi
          have hmem : (t, p1, p2) ∈ zs := List.mem_of_getElem? hz1
          have htk : (nums zs).take (i + 1) = (nums zs).take i ++ [(p1, p2)] := by
            rw [List.take_add_one, nums_get hz1]; rfl
          have hra := round_app p1 p2 ((nums zs).take i) (rounds (nums zs) m [0])
          rw [← htk] at hra
          have hlen := lenb m i
          generalize round ((nums zs).take i) (rounds (nums zs) m [0]) = l at hf hra hlen
          rcases hp.same sy _ hmem with pt | pt
          · refine .inr ⟨t, _, rfl, pt, rfl, .int p1, [.int p2], rfl, .int p2, [], rfl, rfl, ?_⟩
            refine ⟨_, rfl, _, rfl, fo, _, rfl, DGet.k (k := Sum.inl p1) hf, _, rfl, ?_⟩
            rw [dk_get]
            by_cases c1 : p1 ∈ l
            · rw [decide_eq_true c1]
              refine iteT ?_
              refine iteT ?_
              refine ⟨_, rfl, _, rfl, fo, _, rfl, DPut.k (k := Sum.inl p1) hf (small_2000 (by unfold dk; rw [List.length_map]; omega)), ?_⟩
              rw [dk_put]
              have hf2 : (upd Hy fo (.dK (dk (ins p1 l)))) fo = some (.dK (dk (ins p1 l))) := upd_same
              have h9 : (ins p1 l).length ≤ 9 := ins_le hlen
              refine ⟨_, rfl, _, rfl, fo, _, rfl, DPut.k (k := Sum.inl p2) hf2 (small_2000 (by unfold dk; rw [List.length_map]; omega)), ?_⟩
              rw [dk_put]
              refine ⟨_, _, rfl, ?_, same_put (same_put sy nf) nf⟩
              rw [upd_same, hra, if_pos (.inl c1)]
            · rw [decide_eq_false c1]
              refine iteF ?_
              refine ⟨_, rfl, _, rfl, fo, _, rfl, DGet.k (k := Sum.inl p2) hf, _, rfl, ?_⟩
              rw [dk_get]
              by_cases c2 : p2 ∈ l
              · rw [decide_eq_true c2]
                refine iteT ?_
                refine ⟨_, rfl, _, rfl, fo, _, rfl, DPut.k (k := Sum.inl p1) hf (small_2000 (by unfold dk; rw [List.length_map]; omega)), ?_⟩
                rw [dk_put]
                have hf2 : (upd Hy fo (.dK (dk (ins p1 l)))) fo = some (.dK (dk (ins p1 l))) := upd_same
                have h9 : (ins p1 l).length ≤ 9 := ins_le hlen
                refine ⟨_, rfl, _, rfl, fo, _, rfl, DPut.k (k := Sum.inl p2) hf2 (small_2000 (by unfold dk; rw [List.length_map]; omega)), ?_⟩
                rw [dk_put]
                refine ⟨_, _, rfl, ?_, same_put (same_put sy nf) nf⟩
                rw [upd_same, hra, if_pos (.inr c2)]
              · rw [decide_eq_false c2]
                refine iteF ?_
                exact ⟨_, _, rfl, by rw [hra, if_neg (fun z => z.elim c1 c2)]; exact hf, sy⟩
          · refine .inl ⟨t, _, rfl, pt, rfl, .int p1, [.int p2], rfl, .int p2, [], rfl, rfl, ?_⟩
            refine ⟨_, rfl, _, rfl, fo, _, rfl, DGet.k (k := Sum.inl p1) hf, _, rfl, ?_⟩
            rw [dk_get]
            by_cases c1 : p1 ∈ l
            · rw [decide_eq_true c1]
              refine iteT ?_
              refine iteT ?_
              refine ⟨_, rfl, _, rfl, fo, _, rfl, DPut.k (k := Sum.inl p1) hf (small_2000 (by unfold dk; rw [List.length_map]; omega)), ?_⟩
              rw [dk_put]
              have hf2 : (upd Hy fo (.dK (dk (ins p1 l)))) fo = some (.dK (dk (ins p1 l))) := upd_same
              have h9 : (ins p1 l).length ≤ 9 := ins_le hlen
              refine ⟨_, rfl, _, rfl, fo, _, rfl, DPut.k (k := Sum.inl p2) hf2 (small_2000 (by unfold dk; rw [List.length_map]; omega)), ?_⟩
              rw [dk_put]
              refine ⟨_, _, rfl, ?_, same_put (same_put sy nf) nf⟩
              rw [upd_same, hra, if_pos (.inl c1)]
            · rw [decide_eq_false c1]
              refine iteF ?_
              refine ⟨_, rfl, _, rfl, fo, _, rfl, DGet.k (k := Sum.inl p2) hf, _, rfl, ?_⟩
              rw [dk_get]
              by_cases c2 : p2 ∈ l
              · rw [decide_eq_true c2]
                refine iteT ?_
                refine ⟨_, rfl, _, rfl, fo, _, rfl, DPut.k (k := Sum.inl p1) hf (small_2000 (by unfold dk; rw [List.length_map]; omega)), ?_⟩
                rw [dk_put]
                have hf2 : (upd Hy fo (.dK (dk (ins p1 l)))) fo = some (.dK (dk (ins p1 l))) := upd_same
                have h9 : (ins p1 l).length ≤ 9 := ins_le hlen
                refine ⟨_, rfl, _, rfl, fo, _, rfl, DPut.k (k := Sum.inl p2) hf2 (small_2000 (by unfold dk; rw [List.length_map]; omega)), ?_⟩
                rw [dk_put]
                refine ⟨_, _, rfl, ?_, same_put (same_put sy nf) nf⟩
                rw [upd_same, hra, if_pos (.inr c2)]
              · rw [decide_eq_false c2]
                refine iteF ?_
                exact ⟨_, _, rfl, by rw [hra, if_neg (fun z => z.elim c1 c2)]; exact hf, sy⟩
        · rintro σ Hy ⟨v4, v5, rfl, hf, sy⟩
          rw [hln, List.take_length, ← rounds_succ] at hf
          exact ⟨_, _, _, rfl, hf, sy⟩
    · rintro σ Hx ⟨v3, v4, v5, rfl, ef, s0⟩
      refine ⟨_, rfl, fo, _, rfl, ef, _, rfl, rfl, ?_⟩
      have := k Hx s0
      unfold dk
      rw [List.length_map]
      exact this
end
end K03


set_option Elab.async false
set_option maxRecDepth 100000
set_option maxHeartbeats 1000000
set_option linter.all false
namespace K03
open PySem PySem.Spec PyProof.Rows L2 NetM
abbrev sBehind : Stmt := top 15
theorem scBehind : FnScope ["places", "arrows", "order", "_", "ready", "place", "tail", "head"] ["places", "arrows"] (defScope sBehind) := ⟨rfl, rfl, rfl, by decide +kernel, rfl, by decide +kernel, by decide +kernel⟩
def spBehind (K : PySem.W.Frag) : Sp := fun vs H Q _ => ∃ (a : Addr) (n : Nat) (zs : Zs), vs = [.int n, .ref a] ∧ SqA K H a (rf zs) ∧ PrA K H zs ∧ zs.length ≤ 400 ∧ 0 < n ∧ n ≤ 8 ∧
  ∀ (p : Addr) (H' : Hp), Same H H' → H p = none → H' p = some (.lst ((ordr (nums zs) n n []).map V.int)) → Q (.ref p) H'
theorem rf_inv {zs : Zs} {i : Nat} {x : V} (hi : (rf zs)[i]? = some x) : ∃ z, zs[i]? = some z ∧ x = .ref z.1 := by
  unfold rf at hi
  rw [List.getElem?_map] at hi
  cases e : zs[i]? with
  | none => rw [e] at hi; cases hi
  | some z => rw [e] at hi; cases hi; exact ⟨z, rfl, rfl⟩
theorem rng_succ (i : Nat) : rng (i + 1) = rng i ++ [(i : Int)] := by unfold rng; rw [List.range_succ, List.map_append]; rfl
section
variable {P : Program} {w : World} {K : PySem.W.Frag} {mg : Str → Option Value} {base : Heap}
theorem ok_behind {f : Addr} {fd : FuncData} (F : Fun K "places_behind" "places_behind" sBehind f fd) (mRa : mg "range" = none) (mAll : mg "all" = none) : FnOk P w K mg base CX0 1 f fd ["places", "arrows"] (spBehind K) := by
  refine F.ok scBehind (fun vs H Q E h => ?_) (fun cdv A outer s H vs Q E hr h => ?_)
  · obtain ⟨a, n, zs, rfl, _⟩ := h
    rfl
  · obtain ⟨a, n, zs, rfl, hS, hp, hz, n0, n8, k⟩ := h
    have nd := scBehind.nd
    refine ⟨_, pss_cons (ps_set (i := 2) nd rfl (Or.inr rfl) (pe_lst pa_nil))
      (pss_cons (ps_for PassesOwn.never rfl (pi_range1 (by rfl) mRa (pa_cons (pv 0) pa_nil)) (pg_name (i := 3) nd rfl (Or.inl rfl))
        (pss_cons (ps_setLc (i := 4) (own := [("place", 5)]) (g := gName 5) (by rfl) nd rfl rfl (sw_true rfl rfl rfl (by decide +kernel)) (pi_range1 (by rfl) mRa (pa_cons (pv 0) pa_nil)) (blkOk_by (N := ["places", "arrows", "order", "_", "ready", "place", "tail", "head"]) (sc := defScope sBehind) (by decide +kernel)) (fun _ _ _ _ _ => pg_name (i := 5) nd rfl (Or.inr rfl))
            (fun _ _ _ _ _ => pts_one (PW.pt (pw_and (pt_cmpR (show OpR _ _ (rIn K true) from op_notIn_seq) (pv 5) (pv 2) rfl)
              (pw_and1 (pt_val (pe_callB (show CallR _ _ (rAll K) from cr_all (by rfl)) (by rfl) mAll (by decide +kernel) (pa_cons
                (pe_lc (own := [("tail", 6), ("head", 7)]) (g := gEi (gTup K 2 (gCons (gName 6) (gCons (gName 7) gNil))) (gLst K 2 (gCons (gName 6) (gCons (gName 7) gNil)))) (by rfl) nd (show PI _ _ _ (iEi (iList K (tVar 1)) (iTup K (tVar 1))) from pi_either (pi_list (pv 1)) (pi_tup (pv 1)))
                  (blkOk_by (N := ["places", "arrows", "order", "_", "ready", "place", "tail", "head"]) (by kernel_rfl))
                  (fun _ _ _ _ _ => pg_either (pg_tup (by rfl) (pgs_cons (pg_name (i := 6) nd rfl (Or.inl rfl)) (pgs_cons (pg_name (i := 7) nd rfl (Or.inl rfl)) pgs_nil))) (pg_lst (by rfl) (pgs_cons (pg_name (i := 6) nd rfl (Or.inl rfl)) (pgs_cons (pg_name (i := 7) nd rfl (Or.inl rfl)) pgs_nil))))
                  (fun _ _ _ _ _ => pts_one (pt_cmpR op_eq (pv 6) (pv 5) (nomark _)))
                  (fun _ _ _ _ _ => pe_cmpR (show OpR _ _ (rIn K false) from op_in_seq) (pv 7) (pv 2) rfl)) pa_nil)))))))
            (fun _ _ _ _ _ => pv 5))
          (pss_one (ps_if (pt_truth (pv 4) (fun _ => rfl)) (pss_one (ps_expr (pe_bm PySem.F.plainAttrs_list PySem.F.slot_list_append PySem.F.type_list_append mt_append (pv 2) (pa_cons (pe_ix ix_list (pv 4) pe_int (fun _ _ => rfl)) pa_nil)))) pss_nil))))
      (pss_one (ps_ret (pv 2)))), ?_⟩
    refine ⟨Nat.zero_le _, fun od nod => ?_⟩
    have e0 : (upd H od (.lst [])) od = some (.lst (([] : List Int).map V.int)) := upd_same
    have s0' : Same H (upd H od (.lst [])) := same_upd nod
    generalize upd H od (.lst []) = H0 at e0 s0'
    refine ⟨_, rfl, (n : Int), rfl, by omega, by omega, ?_⟩
    rw [Int.toNat_natCast]
    have ordS : ∀ m, ordr (nums zs) n (m + 1) [] = (match ready (nums zs) n (ordr (nums zs) n m []) with | [] => ordr (nums zs) n m [] | p :: _ => ordr (nums zs) n m [] ++ [p]) := fun m => ordr_succ _ _ m []
    refine for_range (lo := 0) (n := n) (fun m σ Hx => ∃ v3 v4 v5 v6 v7 : Option V, σ = [some (.int n), some (.ref a), some (.ref od), v3, v4, v5, v6, v7] ∧ Hx od = some (.lst ((ordr (nums zs) n m []).map V.int)) ∧ Same H Hx) ⟨none, none, none, none, none, rfl, e0, s0'⟩ ?_ ?_
    · rintro m σ Hx hm ⟨v3, v4, v5, v6, v7, rfl, ef, s0⟩
      have os := ordS m
      have olen : (ordr (nums zs) n m []).length ≤ 8 := ordr_le n8 m
      generalize ordr (nums zs) n m [] = o at ef os olen
      refine ⟨_, rfl, (n : Int), rfl, by omega, by omega, fun rd nrd => ?_⟩
      rw [Int.toNat_natCast]
      have hln : (rf zs).length = (nums zs).length := by unfold rf nums; rw [List.length_map, List.length_map]
      refine lc_range (lo := 0) (n := n) (fun i Hc => Hc rd = some (.lst (((rng i).filter (free (nums zs) o)).map V.int)) ∧ Same Hx Hc) ⟨upd_same, same_upd nrd⟩ ?_ ?_
      · rintro i Hc hi ⟨ec, sc⟩
        refine ⟨rfl, ?_⟩
        refine ⟨_, rfl, _, rfl, od, _, rfl, .inl (SqL.of (sc _ _ ef)), rfl, flat_ints _, _, rfl, ?_⟩
        rw [inV_ints]
        have ei : (0 + (i : Int)) = (i : Int) := by omega
        rw [ei]
        by_cases c1 : (i : Int) ∈ o
        · rw [decide_eq_true c1]
          refine iteF ?_
          refine iteF ?_
          have fi : free (nums zs) o (i : Int) = false := by
            cases q : free (nums zs) o (i : Int) with
            | false => rfl
            | true => exact absurd c1 (free_iff.mp q).1
          refine ⟨?_, sc⟩
          rw [ec, rng_succ, List.filter_append, List.filter_cons, fi]
          simp
        · rw [decide_eq_false c1]
          refine iteT ?_
          rcases id hS with h | h
          · skip
            refine .inl ⟨_, rfl, a, rfl, ⟨_, (s0.trans sc).seq h⟩, fun D nD => ?_⟩
            refine lc_list (K := K) (a := a) (xs := rf zs) (fun j Hd => ∃ bs : List Bool, Hd D = some (.lst (bs.map V.bl)) ∧ (bs.all id = true ↔ ∀ h, ((i : Int), h) ∈ (nums zs).take j → h ∈ o) ∧ bs.length ≤ j ∧ Same Hc Hd) ⟨[], upd_same, ⟨fun _ h m => by simp at m, fun _ => rfl⟩, Nat.le_refl _, same_upd nD⟩ (fun j Hd _ hh => by obtain ⟨_, _, _, _, s⟩ := hh; exact ((s0.trans sc).trans s).seq h) ?_ ?_
            · rintro j x Hd hj ⟨bs, eD, ib, lb, sd⟩
              obtain ⟨⟨t, p1, p2⟩, hz1, rfl⟩ := rf_inv hj
              have hmem : (t, p1, p2) ∈ zs := List.mem_of_getElem? hz1
              have hjl : j < zs.length := (List.getElem?_eq_some_iff.mp hz1).1
              have htk : (nums zs).take (j + 1) = (nums zs).take j ++ [(p1, p2)] := by
                rw [List.take_add_one, nums_get hz1]; rfl
              have sH : Same H Hd := s0.trans (sc.trans sd)
              have eo := (sc.trans sd) _ _ ef
              rcases hp.same sH _ hmem with pt | pt
              · refine .inr ⟨t, _, rfl, pt, rfl, .int p1, [.int p2], rfl, .int p2, [], rfl, rfl, rfl, ?_⟩
                refine ⟨_, rfl, _, rfl, rfl, _, rfl, ?_⟩
                by_cases c3 : p1 = (i : Int)
                · refine (if_pos (decide_eq_true (by rw [c3]))).mpr ?_
                  refine ⟨_, rfl, _, rfl, od, _, rfl, .inl (SqL.of eo), rfl, flat_ints _, ?_⟩
                  refine ⟨_, eD, small_2000 (by rw [List.length_map]; omega), bs ++ [decide (p2 ∈ o)], by rw [upd_same, List.map_append, inV_ints]; rfl, ?_, by rw [List.length_append]; exact Nat.succ_le_succ lb, same_put sd nD⟩
                  rw [List.all_append, Bool.and_eq_true, ib, htk]
                  constructor
                  · rintro ⟨z1, z2⟩ h m
                    rcases List.mem_append.mp m with m | m
                    · exact z1 h m
                    · rw [List.mem_singleton] at m
                      obtain ⟨_, m2⟩ := Prod.mk.inj m
                      rw [m2]
                      simpa using z2
                  · intro z
                    refine ⟨fun h m => z h (List.mem_append_left _ m), ?_⟩
                    have := z p2 (List.mem_append_right _ (by rw [c3]; exact List.mem_singleton.mpr rfl))
                    simpa using this
                · refine (if_neg (fun z => c3 (by have := of_decide_eq_true z; simpa using V.int.inj this))).mpr ?_
                  refine ⟨bs, eD, ?_, by omega, sd⟩
                  rw [ib, htk]
                  constructor
                  · intro z h m
                    rcases List.mem_append.mp m with m | m
                    · exact z h m
                    · rw [List.mem_singleton] at m
                      exact absurd (Prod.mk.inj m).1.symm c3
                  · exact fun z h m => z h (List.mem_append_left _ m)
              · refine .inl ⟨t, _, rfl, pt, rfl, .int p1, [.int p2], rfl, .int p2, [], rfl, rfl, rfl, ?_⟩
                refine ⟨_, rfl, _, rfl, rfl, _, rfl, ?_⟩
                by_cases c3 : p1 = (i : Int)
                · refine (if_pos (decide_eq_true (by rw [c3]))).mpr ?_
                  refine ⟨_, rfl, _, rfl, od, _, rfl, .inl (SqL.of eo), rfl, flat_ints _, ?_⟩
                  refine ⟨_, eD, small_2000 (by rw [List.length_map]; omega), bs ++ [decide (p2 ∈ o)], by rw [upd_same, List.map_append, inV_ints]; rfl, ?_, by rw [List.length_append]; exact Nat.succ_le_succ lb, same_put sd nD⟩
                  rw [List.all_append, Bool.and_eq_true, ib, htk]
                  constructor
                  · rintro ⟨z1, z2⟩ h m
                    rcases List.mem_append.mp m with m | m
                    · exact z1 h m
                    · rw [List.mem_singleton] at m
                      obtain ⟨_, m2⟩ := Prod.mk.inj m
                      rw [m2]
                      simpa using z2
                  · intro z
                    refine ⟨fun h m => z h (List.mem_append_left _ m), ?_⟩
                    have := z p2 (List.mem_append_right _ (by rw [c3]; exact List.mem_singleton.mpr rfl))
                    simpa using this
                · refine (if_neg (fun z => c3 (by have := of_decide_eq_true z; simpa using V.int.inj this))).mpr ?_
                  refine ⟨bs, eD, ?_, by omega, sd⟩
                  rw [ib, htk]
                  constructor
                  · intro z h m
                    rcases List.mem_append.mp m with m | m
                    · exact z h m
                    · rw [List.mem_singleton] at m
                      exact absurd (Prod.mk.inj m).1.symm c3
                  · exact fun z h m => z h (List.mem_append_left _ m)
            · rintro Hd ⟨bs, eD, ib, lb, sd⟩
              rw [hln, List.take_length] at ib
              refine ⟨D, bs, rfl, SqL.of eD, _, rfl, ?_⟩
              have fi : free (nums zs) o (i : Int) = bs.all id := by
                cases q : bs.all id with
                | true => exact free_iff.mpr ⟨c1, ib.mp q⟩
                | false =>
                  cases q2 : free (nums zs) o (i : Int) with
                  | false => rfl
                  | true => rw [ib.mpr (free_iff.mp q2).2] at q; cases q
              cases q : bs.all id with
              | true =>
                refine iteT ?_
                refine ⟨_, rfl, _, sd _ _ ec, small_2000 (by rw [List.length_map]; exact Nat.le_trans (List.length_filter_le _ _) (by rw [rng_len]; omega)), ?_, same_put (sc.trans sd) nrd⟩
                rw [upd_same, rng_succ, List.filter_append, List.map_append, List.filter_cons, fi, q]
                simp
              | false =>
                refine iteF ?_
                refine ⟨?_, sc.trans sd⟩
                rw [sd _ _ ec, rng_succ, List.filter_append, List.filter_cons, fi, q]
                simp
          · skip
            refine .inr ⟨_, rfl, a, rfl, ⟨_, sqt_same (s0.trans sc) h⟩, fun D nD => ?_⟩
            refine lc_tup (K := K) (a := a) (xs := rf zs) (fun j Hd => ∃ bs : List Bool, Hd D = some (.lst (bs.map V.bl)) ∧ (bs.all id = true ↔ ∀ h, ((i : Int), h) ∈ (nums zs).take j → h ∈ o) ∧ bs.length ≤ j ∧ Same Hc Hd) ⟨[], upd_same, ⟨fun _ h m => by simp at m, fun _ => rfl⟩, Nat.le_refl _, same_upd nD⟩ (fun j Hd _ hh => by obtain ⟨_, _, _, _, s⟩ := hh; exact sqt_same ((s0.trans sc).trans s) h) ?_ ?_
            · rintro j x Hd hj ⟨bs, eD, ib, lb, sd⟩
              obtain ⟨⟨t, p1, p2⟩, hz1, rfl⟩ := rf_inv hj
              have hmem : (t, p1, p2) ∈ zs := List.mem_of_getElem? hz1
              have hjl : j < zs.length := (List.getElem?_eq_some_iff.mp hz1).1
              have htk : (nums zs).take (j + 1) = (nums zs).take j ++ [(p1, p2)] := by
                rw [List.take_add_one, nums_get hz1]; rfl
              have sH : Same H Hd := s0.trans (sc.trans sd)
              have eo := (sc.trans sd) _ _ ef
              rcases hp.same sH _ hmem with pt | pt
              · refine .inr ⟨t, _, rfl, pt, rfl, .int p1, [.int p2], rfl, .int p2, [], rfl, rfl, rfl, ?_⟩
                refine ⟨_, rfl, _, rfl, rfl, _, rfl, ?_⟩
                by_cases c3 : p1 = (i : Int)
                · refine (if_pos (decide_eq_true (by rw [c3]))).mpr ?_
                  refine ⟨_, rfl, _, rfl, od, _, rfl, .inl (SqL.of eo), rfl, flat_ints _, ?_⟩
                  refine ⟨_, eD, small_2000 (by rw [List.length_map]; omega), bs ++ [decide (p2 ∈ o)], by rw [upd_same, List.map_append, inV_ints]; rfl, ?_, by rw [List.length_append]; exact Nat.succ_le_succ lb, same_put sd nD⟩
                  rw [List.all_append, Bool.and_eq_true, ib, htk]
                  constructor
                  · rintro ⟨z1, z2⟩ h m
                    rcases List.mem_append.mp m with m | m
                    · exact z1 h m
                    · rw [List.mem_singleton] at m
                      obtain ⟨_, m2⟩ := Prod.mk.inj m
                      rw [m2]
                      simpa using z2
                  · intro z
                    refine ⟨fun h m => z h (List.mem_append_left _ m), ?_⟩
                    have := z p2 (List.mem_append_right _ (by rw [c3]; exact List.mem_singleton.mpr rfl))
                    simpa using this
                · refine (if_neg (fun z => c3 (by have := of_decide_eq_true z; simpa using V.int.inj this))).mpr ?_
                  refine ⟨bs, eD, ?_, by omega, sd⟩
                  rw [ib, htk]
                  constructor
                  · intro z h m
                    rcases List.mem_append.mp m with m | m
                    · exact z h m
                    · rw [List.mem_singleton] at m
                      exact absurd (Prod.mk.inj m).1.symm c3
                  · exact fun z h m => z h (List.mem_append_left _ m)
              · refine .inl ⟨t, _, rfl, pt, rfl, .int p1, [.int p2], rfl, .int p2, [], rfl, rfl, rfl, ?_⟩
                refine ⟨_, rfl, _, rfl, rfl, _, rfl, ?_⟩
                by_cases c3 : p1 = (i : Int)
                · refine (if_pos (decide_eq_true (by rw [c3]))).mpr ?_
                  refine ⟨_, rfl, _, rfl, od, _, rfl, .inl (SqL.of eo), rfl, flat_ints _, ?_⟩
                  refine ⟨_, eD, small_2000 (by rw [List.length_map]; omega), bs ++ [decide (p2 ∈ o)], by rw [upd_same, List.map_append, inV_ints]; rfl, ?_, by rw [List.length_append]; exact Nat.succ_le_succ lb, same_put sd nD⟩
                  rw [List.all_append, Bool.and_eq_true, ib, htk]
                  constructor
                  · rintro ⟨z1, z2⟩ h m
                    rcases List.mem_append.mp m with m | m
                    · exact z1 h m
                    · rw [List.mem_singleton] at m
                      obtain ⟨_, m2⟩ := Prod.mk.inj m
                      rw [m2]
                      simpa using z2
                  · intro z
                    refine ⟨fun h m => z h (List.mem_append_left _ m), ?_⟩
                    have := z p2 (List.mem_append_right _ (by rw [c3]; exact List.mem_singleton.mpr rfl))
                    simpa using this
                · refine (if_neg (fun z => c3 (by have := of_decide_eq_true z; simpa using V.int.inj this))).mpr ?_
                  refine ⟨bs, eD, ?_, by omega, sd⟩
                  rw [ib, htk]
                  constructor
                  · intro z h m
                    rcases List.mem_append.mp m with m | m
                    · exact z h m
                    · rw [List.mem_singleton] at m
                      exact absurd (Prod.mk.inj m).1.symm c3
                  · exact fun z h m => z h (List.mem_append_left _ m)
            · rintro Hd ⟨bs, eD, ib, lb, sd⟩
              rw [hln, List.take_length] at ib
              refine ⟨D, bs, rfl, SqL.of eD, _, rfl, ?_⟩
              have fi : free (nums zs) o (i : Int) = bs.all id := by
                cases q : bs.all id with
                | true => exact free_iff.mpr ⟨c1, ib.mp q⟩
                | false =>
                  cases q2 : free (nums zs) o (i : Int) with
                  | false => rfl
                  | true => rw [ib.mpr (free_iff.mp q2).2] at q; cases q
              cases q : bs.all id with
              | true =>
                refine iteT ?_
                refine ⟨_, rfl, _, sd _ _ ec, small_2000 (by rw [List.length_map]; exact Nat.le_trans (List.length_filter_le _ _) (by rw [rng_len]; omega)), ?_, same_put (sc.trans sd) nrd⟩
                rw [upd_same, rng_succ, List.filter_append, List.map_append, List.filter_cons, fi, q]
                simp
              | false =>
                refine iteF ?_
                refine ⟨?_, sc.trans sd⟩
                rw [sd _ _ ec, rng_succ, List.filter_append, List.filter_cons, fi, q]
                simp
      · rintro Hc ⟨ec, sc⟩
        have eo := sc _ _ ef
        have hR : ready (nums zs) n o = (rng n).filter (free (nums zs) o) := rfl
        rw [← hR] at ec
        cases q : ready (nums zs) n o with
        | nil =>
          rw [q] at ec os
          refine ⟨_, rfl, false, .inl ⟨_, SqL.of ec, rfl⟩, ?_⟩
          refine iteF ?_
          exact ⟨_, _, _, _, _, rfl, by rw [os]; exact eo, s0.trans sc⟩
        | cons p r =>
          rw [q] at ec os
          refine ⟨_, rfl, true, .inl ⟨_, SqL.of ec, rfl⟩, ?_⟩
          refine iteT ?_
          refine ⟨_, rfl, .inl ⟨rfl, _, SqL.of eo⟩, _, rfl, rd, _, 0, .int p, rfl, rfl, SqL.of ec, atI_nat (j := 0) rfl, od, _, _, rfl, rfl, eo, small_2000 (by rw [List.length_map]; omega), ?_⟩
          refine ⟨_, _, _, _, _, rfl, ?_, same_put (s0.trans sc) nod⟩
          rw [upd_same, os, List.map_append]
          rfl
    · rintro σ Hx ⟨v3, v4, v5, v6, v7, rfl, ef, s0⟩
      exact ⟨_, rfl, k od Hx s0 nod ef⟩
end
end K03


set_option Elab.async false
set_option maxRecDepth 100000
set_option maxHeartbeats 1000000
set_option linter.all false
namespace K03
open PySem PySem.Spec PyProof.Rows L2 NetM
abbrev sIsNum : Stmt := top 1
abbrev sIsNumTo : Stmt := top 2
abbrev sIsList : Stmt := top 3
theorem scIsNum : FnScope ["thing"] ["thing"] (defScope sIsNum) := ⟨rfl, rfl, rfl, by decide +kernel, rfl, by decide +kernel, by decide +kernel⟩
theorem scIsNumTo : FnScope ["thing", "most"] ["thing", "most"] (defScope sIsNumTo) := ⟨rfl, rfl, rfl, by decide +kernel, rfl, by decide +kernel, by decide +kernel⟩
theorem scIsList : FnScope ["thing"] ["thing"] (defScope sIsList) := ⟨rfl, rfl, rfl, by decide +kernel, rfl, by decide +kernel, by decide +kernel⟩
/-- the type, and whether it is what is asked -/
def spIsNum (K : PySem.W.Frag) : Sp := fun vs H Q _ => ∃ (x : V) (t : Value) (b c : Bool), vs = [x] ∧ TyX K H x t ∧ PySem.W.kitOne K t (.type "int") = some b ∧ PySem.W.kitOne K t (.type "bool") = some c ∧ Q (.bl (b && !c)) H
theorem num_int (K : PySem.W.Frag) : PySem.W.kitOne K (.type "int") (.type "int") = some true ∧ PySem.W.kitOne K (.type "int") (.type "bool") = some false := ⟨by kernel_rfl, by kernel_rfl⟩
theorem num_bool (K : PySem.W.Frag) : PySem.W.kitOne K (.type "bool") (.type "int") = some true ∧ PySem.W.kitOne K (.type "bool") (.type "bool") = some true := ⟨by kernel_rfl, by kernel_rfl⟩
section
variable {P : Program} {w : World} {K : PySem.W.Frag} {mg : Str → Option Value} {base : Heap}
theorem ok_isnum {f : Addr} {fd : FuncData} (F : Fun K "is_number" "is_number" sIsNum f fd) (mIs : mg "isinstance" = none) (mInt : mg "int" = none) (mBo : mg "bool" = none) : FnOk P w K mg base CX0 1 f fd ["thing"] (spIsNum K) := by
  refine F.ok scIsNum (fun vs H Q E h => ?_) (fun cdv A outer s H vs Q E hr h => ?_)
  · obtain ⟨x, t, b, c, rfl, _⟩ := h
    rfl
  · obtain ⟨x, t, b, c, rfl, ht, hb, hc, k⟩ := h
    have nd := scIsNum.nd
    refine ⟨_, pss_one (ps_ret (pe_and (pe_callB call_isi (by rfl) mIs (by decide +kernel) (pa_cons (pv 0) (pa_cons (pe_bltn (v := .ty "int") (by rfl) mInt (by decide +kernel) rfl) pa_nil)))
      (pe_one (pe_not (pe_callB call_isi (by rfl) mIs (by decide +kernel) (pa_cons (pv 0) (pa_cons (pe_bltn (v := .ty "bool") (by rfl) mBo (by decide +kernel) rfl) pa_nil))))))), ?_⟩
    refine ⟨_, rfl, x, _, t, _, b, rfl, .ty "int", ht, hb, _, rfl, ?_⟩
    cases b with
    | true =>
      refine iteT ?_
      exact ⟨_, rfl, x, _, t, _, c, rfl, .ty "bool", ht, hc, _, rfl, k⟩
    | false =>
      refine iteF ?_
      exact k
/-- x is told by its type; a number from 0 to m -/
def spIsNumTo (K : PySem.W.Frag) : Sp := fun vs H Q _ => ∃ (x : V) (t : Value) (b c : Bool) (m : Int), vs = [x, .int m] ∧ TyX K H x t ∧ PySem.W.kitOne K t (.type "int") = some b ∧ PySem.W.kitOne K t (.type "bool") = some c ∧
  (((b && !c) = false ∧ Q (.bl false) H) ∨ ((b && !c) = true ∧ ∃ i : Int, x = .int i ∧ Q (.bl (decide (0 ≤ i ∧ i ≤ m))) H))
theorem ok_isnumto {f fN : Addr} {fd fdN : FuncData} (F : Fun K "is_number_to" "is_number_to" sIsNumTo f fd) (GN : FnOk P w K mg base CX0 1 fN fdN ["thing"] (spIsNum K)) (FN : Fun K "is_number" "is_number" sIsNum fN fdN) (bN : L2.Binds K fdN ["thing"] []) (gN : mg "is_number" = some (.ref fN)) : FnOk P w K mg base CX0 2 f fd ["thing", "most"] (spIsNumTo K) := by
  refine F.ok scIsNumTo (fun vs H Q E h => ?_) (fun cdv A outer s H vs Q E hr h => ?_)
  · obtain ⟨x, t, b, c, m, rfl, _⟩ := h
    rfl
  · obtain ⟨x, t, b, c, m, rfl, ht, hb, hc, k⟩ := h
    refine ⟨_, pss_one (ps_ret (pe_and (pe_call GN hr (by rfl) gN FN.kp bN .nil pass0 (pa_cons (pv 0) pa_nil)) (pe_one (pe_chain op_le op_le pe_int (pv 0) (pv 1))))), ?_⟩
    refine ⟨_, rfl, x, t, b, c, rfl, ht, hb, hc, _, rfl, ?_⟩
    rcases k with ⟨e, k⟩ | ⟨e, i, rfl, k⟩
    · rw [e]
      refine iteF ?_
      exact k
    · rw [e]
      refine iteT ?_
      refine ⟨_, rfl, _, _, rfl, rfl, _, rfl, ite2 (fun c1 => ?_) (fun c1 => ?_)⟩
      · have h0 := of_decide_eq_true c1
        refine ⟨_, rfl, _, _, rfl, rfl, ?_⟩
        have e2 : decide (i ≤ m) = decide (0 ≤ i ∧ i ≤ m) := by
          by_cases z : i ≤ m
          · rw [decide_eq_true z, decide_eq_true ⟨h0, z⟩]
          · rw [decide_eq_false z, decide_eq_false fun y => z y.2]
        show Q (.bl (decide (i ≤ m))) H
        rw [e2]
        exact k
      · have h0 : ¬ 0 ≤ i := fun z => c1 (decide_eq_true z)
        rw [decide_eq_false fun y => h0 y.1] at k
        exact k
theorem TyX.same {H H' : Hp} (s : Same H H') {x : V} {t : Value} (h : TyX K H x t) : TyX K H' x t := by
  cases h with
  | base h =>
    refine .base ?_
    cases h with
    | non => exact .non
    | bl x => exact .bl x
    | int x => exact .int x
    | str x => exact .str x
    | flt x => exact .flt x
    | lst e => exact .lst (s _ _ e)
    | frz e => exact .frz (s _ _ e)
    | tup e => exact .tup (s _ _ e)
    | dK e => exact .dK (s _ _ e)
    | dT e => exact .dT (s _ _ e)
    | ins e c a b d f => exact .ins (s _ _ e) c a b d f
  | byt b => exact .byt b
  | set e => exact .set (s _ _ e)
  | kList e c => exact .kList e c
  | kTuple e c => exact .kTuple e c
  | kDict e c => exact .kDict e c
  | fTuple e => exact .fTuple (s _ _ e)
  | fDict e => exact .fDict (s _ _ e)
theorem ty_lst {H : Hp} {a : Addr} {xs : List V} (h : SqL K H a xs) : TyX K H (.ref a) (.type "list") := by
  rcases h with (h | ⟨o, h⟩) | ⟨o, its, n, h, c, _⟩
  · exact .base (.lst h)
  · exact .base (.frz h)
  · exact .kList h c
theorem ty_tup {H : Hp} {a : Addr} {xs : List V} (h : SqT K H a xs) : TyX K H (.ref a) (.type "tuple") := by
  rcases h with (h | ⟨o, h⟩) | ⟨o, its, n, h, c, _⟩
  · exact .base (.tup h)
  · exact .fTuple h
  · exact .kTuple h c
def spIsList (K : PySem.W.Frag) : Sp := fun vs H Q _ => ∃ (x : V) (t : Value) (b : Bool), vs = [x] ∧ TyX K H x t ∧ PySem.W.kitAny K t [.type "list", .type "tuple"] = some b ∧ ∀ H' : Hp, Same H H' → Q (.bl b) H'
theorem ok_islist {f : Addr} {fd : FuncData} (F : Fun K "is_list" "is_list" sIsList f fd) (mIs : mg "isinstance" = none) (mLi : mg "list" = none) (mTu : mg "tuple" = none) : FnOk P w K mg base CX0 1 f fd ["thing"] (spIsList K) := by
  refine F.ok scIsList (fun vs H Q E h => ?_) (fun cdv A outer s H vs Q E hr h => ?_)
  · obtain ⟨x, t, b, rfl, _⟩ := h
    rfl
  · obtain ⟨x, t, b, rfl, ht, hb, k⟩ := h
    refine ⟨_, pss_one (ps_ret (pe_callB call_isiT (by rfl) mIs (by decide +kernel) (pa_cons (pv 0) (pa_cons (pe_tup (pa_cons (pe_bltn (v := .ty "list") (by rfl) mLi (by decide +kernel) rfl) (pa_cons (pe_bltn (v := .ty "tuple") (by rfl) mTu (by decide +kernel) rfl) pa_nil))) pa_nil)))), ?_⟩
    refine ⟨_, rfl, by show 2 ≤ sizeLine; decide, fun tp np => ?_⟩
    exact ⟨x, tp, _, t, [.type "list", .type "tuple"], b, rfl, upd_same, .cons (.ty "list") (.cons (.ty "tuple") .nil), TyX.same (same_upd np) ht, hb, k _ (same_upd np)⟩
end
end K03


set_option Elab.async false
set_option maxRecDepth 100000
set_option maxHeartbeats 2000000
set_option linter.all false
namespace K03
open PySem PySem.Spec PyProof.Rows L2 NetM
abbrev sAre : Stmt := top 13
theorem scAre : FnScope ["places", "thing", "arrow", "end"] ["places", "thing"] (defScope sAre) := ⟨rfl, rfl, rfl, by decide +kernel, rfl, by decide +kernel, by decide +kernel⟩
/-- an end: a number below n, or not -/
inductive EndJ (K : PySem.W.Frag) (H : Hp) (n : Int) : V → Option Int → Prop
  | ok {i : Int} (h : 0 ≤ i ∧ i ≤ n - 1) : EndJ K H n (.int i) (some i)
  | out {i : Int} (h : ¬ (0 ≤ i ∧ i ≤ n - 1)) : EndJ K H n (.int i) none
  | no {x : V} {t : Value} {b c : Bool} (h : TyX K H x t) (hb : PySem.W.kitOne K t (.type "int") = some b) (hc : PySem.W.kitOne K t (.type "bool") = some c) (z : (b && !c) = false) : EndJ K H n x none
theorem EndJ.same {K : PySem.W.Frag} {H H' : Hp} (s : Same H H') {n : Int} {x : V} {o : Option Int} : EndJ K H n x o → EndJ K H' n x o
  | .ok h => .ok h
  | .out h => .out h
  | .no h hb hc z => .no (TyX.same s h) hb hc z
def twoOk : Option Int → Option Int → Bool
  | some i, some j => !decide (V.int i = V.int j)
  | _, _ => false
/-- an item: an arrow, or not -/
inductive ArJ (K : PySem.W.Frag) (H : Hp) (n : Int) : V → Bool → Prop
  | no {x : V} {t : Value} (h : TyX K H x t) (z : PySem.W.kitAny K t [.type "list", .type "tuple"] = some false) : ArJ K H n x false
  | many {a : Addr} {ys : List V} (h : SqA K H a ys) (z : ys.length ≠ 2) : ArJ K H n (.ref a) false
  | two {a : Addr} {y0 y1 : V} {e0 e1 : Option Int} (h : SqA K H a [y0, y1]) (h0 : EndJ K H n y0 e0) (h1 : EndJ K H n y1 e1) : ArJ K H n (.ref a) (twoOk e0 e1)
theorem ArJ.same {K : PySem.W.Frag} {H H' : Hp} (s : Same H H') {n : Int} {x : V} {o : Bool} : ArJ K H n x o → ArJ K H' n x o
  | .no h z => .no (TyX.same s h) z
  | .many h z => .many (h.same s) z
  | .two h h0 h1 => .two (h.same s) (h0.same s) (h1.same s)
inductive ArL (K : PySem.W.Frag) (H : Hp) (n : Int) : List V → List Bool → Prop
  | nil : ArL K H n [] []
  | cons {x : V} {xs : List V} {b : Bool} {bs : List Bool} (h : ArJ K H n x b) (r : ArL K H n xs bs) : ArL K H n (x :: xs) (b :: bs)
theorem ArL.at {K : PySem.W.Frag} {H : Hp} {n : Int} : ∀ {xs : List V} {bs : List Bool} {i : Nat} {x : V}, ArL K H n xs bs → xs[i]? = some x → ∃ b, bs[i]? = some b ∧ ArJ K H n x b
  | _, _, _, _, .nil, e => by simp at e
  | _, _, 0, _, .cons h r, e => by cases e; exact ⟨_, rfl, h⟩
  | _, _, i + 1, _, .cons h r, e => ArL.at (i := i) r e
theorem ArL.len {K : PySem.W.Frag} {H : Hp} {n : Int} : ∀ {xs : List V} {bs : List Bool}, ArL K H n xs bs → bs.length = xs.length
  | _, _, .nil => rfl
  | _, _, .cons _ r => by rw [List.length_cons, List.length_cons, r.len]
theorem kit_list (K : PySem.W.Frag) : PySem.W.kitAny K (.type "list") [.type "list", .type "tuple"] = some true := by kernel_rfl
theorem kit_tup (K : PySem.W.Frag) : PySem.W.kitAny K (.type "tuple") [.type "list", .type "tuple"] = some true := by kernel_rfl
theorem ty_sqa {K : PySem.W.Frag} {H : Hp} {a : Addr} {xs : List V} (h : SqA K H a xs) : ∃ t, TyX K H (.ref a) t ∧ PySem.W.kitAny K t [.type "list", .type "tuple"] = some true := by
  rcases h with h | h
  · exact ⟨_, ty_lst h, kit_list K⟩
  · exact ⟨_, ty_tup h, kit_tup K⟩
def spAre (K : PySem.W.Frag) : Sp := fun vs H Q _ => ∃ (n : Int) (x : V), vs = [.int n, x] ∧
  ((∃ t, TyX K H x t ∧ PySem.W.kitAny K t [.type "list", .type "tuple"] = some false ∧ ∀ H', Same H H' → Q (.bl false) H') ∨
   ∃ (a : Addr) (xs : List V) (bs : List Bool), x = .ref a ∧ SqA K H a xs ∧ ArL K H n xs bs ∧ xs.length < 1000 ∧ ∀ H', Same H H' → Q (.bl (decide (xs.length ≤ 12) && bs.all id)) H')
theorem endj_sp {K : PySem.W.Frag} {H : Hp} {n : Int} {y : V} {e : Option Int} {Q : VK} {E : XK} (h : EndJ K H n y e) (q : Q (.bl e.isSome) H) : spIsNumTo K [y, .int (n - 1)] H Q E := by
  cases h with
  | @ok i h => exact ⟨_, _, true, false, n - 1, rfl, .base (.int i), (num_int K).1, (num_int K).2, .inr ⟨rfl, i, rfl, by rw [decide_eq_true h]; exact q⟩⟩
  | @out i h => exact ⟨_, _, true, false, n - 1, rfl, .base (.int i), (num_int K).1, (num_int K).2, .inr ⟨rfl, i, rfl, by rw [decide_eq_false h]; exact q⟩⟩
  | no ht hb hc z => exact ⟨_, _, _, _, n - 1, rfl, ht, hb, hc, .inl ⟨z, q⟩⟩
section
variable {P : Program} {w : World} {K : PySem.W.Frag} {mg : Str → Option Value} {base : Heap}
theorem ok_are {f fN fL : Addr} {fd fdN fdL : FuncData} {tk : Nat} (F : Fun K "_are_arrows" "_are_arrows" sAre f fd) (GN : FnOk P w K mg base CX0 2 fN fdN ["thing", "most"] (spIsNumTo K)) (FN : Fun K "is_number_to" "is_number_to" sIsNumTo fN fdN) (bN : L2.Binds K fdN ["thing", "most"] []) (gN : mg "is_number_to" = some (.ref fN))
    (GL : FnOk P w K mg base CX0 1 fL fdL ["thing"] (spIsList K)) (FL : Fun K "is_list" "is_list" sIsList fL fdL) (bL : L2.Binds K fdL ["thing"] []) (gL : mg "is_list" = some (.ref fL)) (gM : mg "MOST_ARROWS" = some (.int 12 tk)) (mAll : mg "all" = none) (mLen : mg "len" = none) : FnOk P w K mg base CX0 3 f fd ["places", "thing"] (spAre K) := by
  refine F.ok scAre (fun vs H Q E h => ?_) (fun cdv A outer s H vs Q E hr h => ?_)
  · obtain ⟨n, x, rfl, _⟩ := h
    rfl
  · obtain ⟨n, x, rfl, h⟩ := h
    have nd := scAre.nd
    have r1 : Room 1 _ := hr.mono (by decide)
    refine ⟨_, pss_cons (ps_if (PW.pt (pw_or (pt_not (pt_val (pe_call GL r1 (by rfl) gL FL.kp bL .nil pass0 (pa_cons (pv 1) pa_nil)))) (pw_or1 (pt_cmpR op_gt (pe_callB call_len_seq (by rfl) mLen PySem.boot_len (pa_cons (pv 1) pa_nil)) (pe_glob (v := .int 12) (by rfl) gM ⟨tk, rfl⟩) (nomark _))))) (pss_one (ps_ret pe_bl)) pss_nil)
      (pss_cons (ps_for PassesOwn.never rfl (pi_either (pi_list (pv 1)) (pi_tup (pv 1))) (pg_name (i := 2) nd rfl (Or.inl rfl))
        (pss_cons (ps_if (PW.pt (pw_or (pt_not (pt_val (pe_call GL r1 (by rfl) gL FL.kp bL .nil pass0 (pa_cons (pv 2) pa_nil)))) (pw_or1 (pt_cmpR op_ne (pe_callB call_len_seq (by rfl) mLen PySem.boot_len (pa_cons (pv 2) pa_nil)) pe_int (nomark _))))) (pss_one (ps_ret pe_bl)) pss_nil)
          (pss_one (ps_if (PW.pt (pw_or (pt_not (pt_val (pe_callB (show CallR _ _ (rAll K) from cr_all (by rfl)) (by rfl) mAll (by decide +kernel) (pa_cons (pe_lc (own := [("end", 3)]) (g := gName 3) (by rfl) nd (pi_either (pi_list (pv 2)) (pi_tup (pv 2))) (blkOk_by (N := ["places", "thing", "arrow", "end"]) (sc := defScope sAre) (by decide +kernel)) (fun _ _ _ _ _ => pg_name (i := 3) nd rfl (Or.inl rfl)) (fun _ _ _ _ _ => pts_nil)
              (fun _ _ _ _ _ => pe_call GN hr (by rfl) gN FN.kp bN .nil pass0 (pa_cons (pv 3) (pa_cons (pe_op op_sub (pv 0) pe_int) pa_nil)))) pa_nil))))
            (pw_or1 (pt_cmpR op_eq (pe_either (pe_ix ix_list (pv 2) pe_int (fun _ _ => rfl)) (pe_ix ix_tup (pv 2) pe_int (fun _ _ => rfl))) (pe_either (pe_ix ix_list (pv 2) pe_int (fun _ _ => rfl)) (pe_ix ix_tup (pv 2) pe_int (fun _ _ => rfl))) (nomark _))))) (pss_one (ps_ret pe_bl)) pss_nil))))
      (pss_one (ps_ret pe_bl))), ?_⟩
    rcases h with ⟨t, ht, hk, k⟩ | ⟨a, xs, bs, rfl, hS, hA, hl, k⟩
    · refine ⟨_, rfl, x, t, false, rfl, ht, hk, fun H' s' => ⟨_, rfl, ?_⟩⟩
      refine iteT ?_
      refine iteT ?_
      exact k H' s'
    · obtain ⟨t, ht, hk⟩ := ty_sqa hS
      refine ⟨_, rfl, .ref a, t, true, rfl, ht, hk, fun H1 s1 => ⟨_, rfl, ?_⟩⟩
      refine iteF ?_
      refine ⟨_, rfl, a, xs, rfl, hS.same s1, _, _, rfl, rfl, _, rfl, ?_⟩
      by_cases c : xs.length ≤ 12
      · refine (if_neg (fun z => by have := of_decide_eq_true z; omega)).mpr ?_
        have kf : ∀ i, bs[i]? = some false → ∀ H', Same H H' → Q (.bl false) H' := fun i e H' s' => by
          have := k H' s'
          have z : bs.all id = false := by
            cases q : bs.all id with
            | false => rfl
            | true => exact absurd (List.all_eq_true.mp q false (List.mem_of_getElem? e)) (by simp)
          rw [z, Bool.and_false] at this
          exact this
        rcases id hS with h | h
        · skip
          refine .inl ⟨_, rfl, a, rfl, ⟨_, s1.seq h⟩, ?_⟩
          refine for_list (K := K) (a := a) (xs := xs) (fun i σ Hx => ∃ v2 v3 : Option V, σ = [some (.int n), some (.ref a), v2, v3] ∧ (bs.take i).all id = true ∧ Same H Hx) ⟨none, none, rfl, rfl, s1⟩ (fun i σ Hx _ hh => by obtain ⟨_, _, _, _, s⟩ := hh; exact s.seq h) ?_ ?_
          · skip
            rintro i x σ Hx hi ⟨v2, v3, rfl, hb, sx⟩
            obtain ⟨b, eb, ja⟩ := hA.at hi
            have jx := ja.same sx
            cases jx with
            | @no x t ht hk2 =>
              refine ⟨_, rfl, _, t, false, rfl, ht, hk2, fun H2 s2 => ⟨_, rfl, ?_⟩⟩
              refine iteT ?_
              refine iteT ?_
              exact kf _ eb _ (sx.trans s2)
            | @many a2 ys hy hz =>
              obtain ⟨t2, ht2, hk2⟩ := ty_sqa hy
              refine ⟨_, rfl, _, t2, true, rfl, ht2, hk2, fun H2 s2 => ⟨_, rfl, ?_⟩⟩
              refine iteF ?_
              refine ⟨_, rfl, a2, ys, rfl, hy.same s2, rfl, _, rfl, ?_⟩
              have z2 : ¬ (V.int (ys.length : Int) = V.int 2) := fun z => hz (by have := V.int.inj z; omega)
              refine (if_pos (by rw [decide_eq_false z2]; rfl)).mpr ?_
              exact kf _ eb _ (sx.trans s2)
            | @two a2 y0 y1 e0 e1 hy h0 h1 =>
              obtain ⟨t2, ht2, hk2⟩ := ty_sqa hy
              refine ⟨_, rfl, _, t2, true, rfl, ht2, hk2, fun H2 s2 => ⟨_, rfl, ?_⟩⟩
              refine iteF ?_
              refine ⟨_, rfl, a2, [y0, y1], rfl, hy.same s2, rfl, _, rfl, ?_⟩
              refine iteNS rfl ?_
              rcases id hy with q | q
              · skip
                refine .inl ⟨_, rfl, a2, rfl, ⟨_, Same.seq s2 q⟩, fun D nD => ?_⟩
                refine lc_list (K := K) (a := a2) (xs := [y0, y1]) (fun j Hd => Hd D = some (.lst (([e0.isSome, e1.isSome].take j).map V.bl)) ∧ Same H2 Hd) ⟨upd_same, same_upd nD⟩ (fun j Hd _ hh => Same.seq (s2.trans hh.2) q) ?_ ?_
                · rintro j x Hd hj ⟨eD, sd⟩
                  refine ⟨rfl, ?_⟩
                  dsimp only [tYes]
                  refine iteT ?_
                  match j, hj, eD with
                  | 0, hj, eD =>
                    cases hj
                    refine ⟨_, rfl, _, rfl, _, _, rfl, rfl, ?_⟩
                    dsimp only [tNil, List.cons_append, List.nil_append]
                    exact endj_sp (h0.same (s2.trans sd)) ⟨_, eD, small_2000 (by rw [List.length_map]; exact Nat.le_trans (List.length_take_le' _ _) (show 2 ≤ 2000 by decide)), upd_same, fun b o e => same_put (H0 := H2) sd nD b o e⟩
                  | 1, hj, eD =>
                    cases hj
                    refine ⟨_, rfl, _, rfl, _, _, rfl, rfl, ?_⟩
                    dsimp only [tNil, List.cons_append, List.nil_append]
                    exact endj_sp (h1.same (s2.trans sd)) ⟨_, eD, small_2000 (by rw [List.length_map]; exact Nat.le_trans (List.length_take_le' _ _) (show 2 ≤ 2000 by decide)), upd_same, fun b o e => same_put (H0 := H2) sd nD b o e⟩
                  | j + 2, hj, eD => simp at hj
                · rintro Hd ⟨eD, sd⟩
                  have sHd : Same H Hd := sx.trans (s2.trans sd)
                  cases h0 with
                  | @ok i0 _ =>
                    cases h1 with
                    | @ok i1 _ =>
                      refine ⟨D, [true, true], rfl, SqL.of eD, _, rfl, ?_⟩
                      refine iteF ?_
                      refine .inl ⟨_, rfl, a2, _, 0, _, rfl, rfl, Same.seq (s2.trans sd) q, atI_nat (j := 0) rfl, ?_⟩
                      refine .inl ⟨_, rfl, a2, _, 1, _, rfl, rfl, Same.seq (s2.trans sd) q, atI_nat (j := 1) rfl, ?_⟩
                      refine ⟨rfl, _, rfl, ite2 (fun c5 => ?_) (fun c5 => ?_)⟩
                      · have e9 : bs[i]? = some (!decide (V.int i0 = V.int i1)) := eb
                        rw [c5] at e9
                        exact kf _ e9 _ sHd
                      · refine ⟨_, _, rfl, ?_, sHd⟩
                        have e9 : bs[i]? = some (!decide (V.int i0 = V.int i1)) := eb
                        rw [Bool.eq_false_iff.mpr c5] at e9
                        rw [List.take_add_one, e9, List.all_append, hb]
                        rfl
                    | out i1 =>
                      refine ⟨D, [true, false], rfl, SqL.of eD, _, rfl, ?_⟩
                      refine iteT ?_
                      refine iteT ?_
                      exact kf _ eb _ sHd
                    | no _ _ _ _ =>
                      refine ⟨D, [true, false], rfl, SqL.of eD, _, rfl, ?_⟩
                      refine iteT ?_
                      refine iteT ?_
                      exact kf _ eb _ sHd
                  | out i0 =>
                    refine ⟨D, [false, e1.isSome], rfl, SqL.of eD, _, rfl, ?_⟩
                    refine iteT ?_
                    refine iteT ?_
                    exact kf _ eb _ sHd
                  | no _ _ _ _ =>
                    refine ⟨D, [false, e1.isSome], rfl, SqL.of eD, _, rfl, ?_⟩
                    refine iteT ?_
                    refine iteT ?_
                    exact kf _ eb _ sHd
              · skip
                refine .inr ⟨_, rfl, a2, rfl, ⟨_, sqt_same s2 q⟩, fun D nD => ?_⟩
                refine lc_tup (K := K) (a := a2) (xs := [y0, y1]) (fun j Hd => Hd D = some (.lst (([e0.isSome, e1.isSome].take j).map V.bl)) ∧ Same H2 Hd) ⟨upd_same, same_upd nD⟩ (fun j Hd _ hh => sqt_same (s2.trans hh.2) q) ?_ ?_
                · rintro j x Hd hj ⟨eD, sd⟩
                  refine ⟨rfl, ?_⟩
                  dsimp only [tYes]
                  refine iteT ?_
                  match j, hj, eD with
                  | 0, hj, eD =>
                    cases hj
                    refine ⟨_, rfl, _, rfl, _, _, rfl, rfl, ?_⟩
                    dsimp only [tNil, List.cons_append, List.nil_append]
                    exact endj_sp (h0.same (s2.trans sd)) ⟨_, eD, small_2000 (by rw [List.length_map]; exact Nat.le_trans (List.length_take_le' _ _) (show 2 ≤ 2000 by decide)), upd_same, fun b o e => same_put (H0 := H2) sd nD b o e⟩
                  | 1, hj, eD =>
                    cases hj
                    refine ⟨_, rfl, _, rfl, _, _, rfl, rfl, ?_⟩
                    dsimp only [tNil, List.cons_append, List.nil_append]
                    exact endj_sp (h1.same (s2.trans sd)) ⟨_, eD, small_2000 (by rw [List.length_map]; exact Nat.le_trans (List.length_take_le' _ _) (show 2 ≤ 2000 by decide)), upd_same, fun b o e => same_put (H0 := H2) sd nD b o e⟩
                  | j + 2, hj, eD => simp at hj
                · rintro Hd ⟨eD, sd⟩
                  have sHd : Same H Hd := sx.trans (s2.trans sd)
                  cases h0 with
                  | @ok i0 _ =>
                    cases h1 with
                    | @ok i1 _ =>
                      refine ⟨D, [true, true], rfl, SqL.of eD, _, rfl, ?_⟩
                      refine iteF ?_
                      refine .inr ⟨_, rfl, a2, _, 0, _, rfl, rfl, sqt_same (s2.trans sd) q, atI_nat (j := 0) rfl, ?_⟩
                      refine .inr ⟨_, rfl, a2, _, 1, _, rfl, rfl, sqt_same (s2.trans sd) q, atI_nat (j := 1) rfl, ?_⟩
                      refine ⟨rfl, _, rfl, ite2 (fun c5 => ?_) (fun c5 => ?_)⟩
                      · have e9 : bs[i]? = some (!decide (V.int i0 = V.int i1)) := eb
                        rw [c5] at e9
                        exact kf _ e9 _ sHd
                      · refine ⟨_, _, rfl, ?_, sHd⟩
                        have e9 : bs[i]? = some (!decide (V.int i0 = V.int i1)) := eb
                        rw [Bool.eq_false_iff.mpr c5] at e9
                        rw [List.take_add_one, e9, List.all_append, hb]
                        rfl
                    | out i1 =>
                      refine ⟨D, [true, false], rfl, SqL.of eD, _, rfl, ?_⟩
                      refine iteT ?_
                      refine iteT ?_
                      exact kf _ eb _ sHd
                    | no _ _ _ _ =>
                      refine ⟨D, [true, false], rfl, SqL.of eD, _, rfl, ?_⟩
                      refine iteT ?_
                      refine iteT ?_
                      exact kf _ eb _ sHd
                  | out i0 =>
                    refine ⟨D, [false, e1.isSome], rfl, SqL.of eD, _, rfl, ?_⟩
                    refine iteT ?_
                    refine iteT ?_
                    exact kf _ eb _ sHd
                  | no _ _ _ _ =>
                    refine ⟨D, [false, e1.isSome], rfl, SqL.of eD, _, rfl, ?_⟩
                    refine iteT ?_
                    refine iteT ?_
                    exact kf _ eb _ sHd
          · rintro σ Hx ⟨v2, v3, rfl, hb, sx⟩
            rw [← hA.len, List.take_length] at hb
            have := k Hx sx
            rw [hb, decide_eq_true (by omega : xs.length ≤ 12)] at this
            exact this
        · skip
          refine .inr ⟨_, rfl, a, rfl, ⟨_, sqt_same s1 h⟩, ?_⟩
          refine for_tup (K := K) (a := a) (xs := xs) (fun i σ Hx => ∃ v2 v3 : Option V, σ = [some (.int n), some (.ref a), v2, v3] ∧ (bs.take i).all id = true ∧ Same H Hx) ⟨none, none, rfl, rfl, s1⟩ (fun i σ Hx _ hh => by obtain ⟨_, _, _, _, s⟩ := hh; exact sqt_same s h) ?_ ?_
          · skip
            rintro i x σ Hx hi ⟨v2, v3, rfl, hb, sx⟩
            obtain ⟨b, eb, ja⟩ := hA.at hi
            have jx := ja.same sx
            cases jx with
            | @no x t ht hk2 =>
              refine ⟨_, rfl, _, t, false, rfl, ht, hk2, fun H2 s2 => ⟨_, rfl, ?_⟩⟩
              refine iteT ?_
              refine iteT ?_
              exact kf _ eb _ (sx.trans s2)
            | @many a2 ys hy hz =>
              obtain ⟨t2, ht2, hk2⟩ := ty_sqa hy
              refine ⟨_, rfl, _, t2, true, rfl, ht2, hk2, fun H2 s2 => ⟨_, rfl, ?_⟩⟩
              refine iteF ?_
              refine ⟨_, rfl, a2, ys, rfl, hy.same s2, rfl, _, rfl, ?_⟩
              have z2 : ¬ (V.int (ys.length : Int) = V.int 2) := fun z => hz (by have := V.int.inj z; omega)
              refine (if_pos (by rw [decide_eq_false z2]; rfl)).mpr ?_
              exact kf _ eb _ (sx.trans s2)
            | @two a2 y0 y1 e0 e1 hy h0 h1 =>
              obtain ⟨t2, ht2, hk2⟩ := ty_sqa hy
              refine ⟨_, rfl, _, t2, true, rfl, ht2, hk2, fun H2 s2 => ⟨_, rfl, ?_⟩⟩
              refine iteF ?_
              refine ⟨_, rfl, a2, [y0, y1], rfl, hy.same s2, rfl, _, rfl, ?_⟩
              refine iteNS rfl ?_
              rcases id hy with q | q
              · skip
                refine .inl ⟨_, rfl, a2, rfl, ⟨_, Same.seq s2 q⟩, fun D nD => ?_⟩
                refine lc_list (K := K) (a := a2) (xs := [y0, y1]) (fun j Hd => Hd D = some (.lst (([e0.isSome, e1.isSome].take j).map V.bl)) ∧ Same H2 Hd) ⟨upd_same, same_upd nD⟩ (fun j Hd _ hh => Same.seq (s2.trans hh.2) q) ?_ ?_
                · rintro j x Hd hj ⟨eD, sd⟩
                  refine ⟨rfl, ?_⟩
                  dsimp only [tYes]
                  refine iteT ?_
                  match j, hj, eD with
                  | 0, hj, eD =>
                    cases hj
                    refine ⟨_, rfl, _, rfl, _, _, rfl, rfl, ?_⟩
                    dsimp only [tNil, List.cons_append, List.nil_append]
                    exact endj_sp (h0.same (s2.trans sd)) ⟨_, eD, small_2000 (by rw [List.length_map]; exact Nat.le_trans (List.length_take_le' _ _) (show 2 ≤ 2000 by decide)), upd_same, fun b o e => same_put (H0 := H2) sd nD b o e⟩
                  | 1, hj, eD =>
                    cases hj
                    refine ⟨_, rfl, _, rfl, _, _, rfl, rfl, ?_⟩
                    dsimp only [tNil, List.cons_append, List.nil_append]
                    exact endj_sp (h1.same (s2.trans sd)) ⟨_, eD, small_2000 (by rw [List.length_map]; exact Nat.le_trans (List.length_take_le' _ _) (show 2 ≤ 2000 by decide)), upd_same, fun b o e => same_put (H0 := H2) sd nD b o e⟩
                  | j + 2, hj, eD => simp at hj
                · rintro Hd ⟨eD, sd⟩
                  have sHd : Same H Hd := sx.trans (s2.trans sd)
                  cases h0 with
                  | @ok i0 _ =>
                    cases h1 with
                    | @ok i1 _ =>
                      refine ⟨D, [true, true], rfl, SqL.of eD, _, rfl, ?_⟩
                      refine iteF ?_
                      refine .inl ⟨_, rfl, a2, _, 0, _, rfl, rfl, Same.seq (s2.trans sd) q, atI_nat (j := 0) rfl, ?_⟩
                      refine .inl ⟨_, rfl, a2, _, 1, _, rfl, rfl, Same.seq (s2.trans sd) q, atI_nat (j := 1) rfl, ?_⟩
                      refine ⟨rfl, _, rfl, ite2 (fun c5 => ?_) (fun c5 => ?_)⟩
                      · have e9 : bs[i]? = some (!decide (V.int i0 = V.int i1)) := eb
                        rw [c5] at e9
                        exact kf _ e9 _ sHd
                      · refine ⟨_, _, rfl, ?_, sHd⟩
                        have e9 : bs[i]? = some (!decide (V.int i0 = V.int i1)) := eb
                        rw [Bool.eq_false_iff.mpr c5] at e9
                        rw [List.take_add_one, e9, List.all_append, hb]
                        rfl
                    | out i1 =>
                      refine ⟨D, [true, false], rfl, SqL.of eD, _, rfl, ?_⟩
                      refine iteT ?_
                      refine iteT ?_
                      exact kf _ eb _ sHd
                    | no _ _ _ _ =>
                      refine ⟨D, [true, false], rfl, SqL.of eD, _, rfl, ?_⟩
                      refine iteT ?_
                      refine iteT ?_
                      exact kf _ eb _ sHd
                  | out i0 =>
                    refine ⟨D, [false, e1.isSome], rfl, SqL.of eD, _, rfl, ?_⟩
                    refine iteT ?_
                    refine iteT ?_
                    exact kf _ eb _ sHd
                  | no _ _ _ _ =>
                    refine ⟨D, [false, e1.isSome], rfl, SqL.of eD, _, rfl, ?_⟩
                    refine iteT ?_
                    refine iteT ?_
                    exact kf _ eb _ sHd
              · skip
                refine .inr ⟨_, rfl, a2, rfl, ⟨_, sqt_same s2 q⟩, fun D nD => ?_⟩
                refine lc_tup (K := K) (a := a2) (xs := [y0, y1]) (fun j Hd => Hd D = some (.lst (([e0.isSome, e1.isSome].take j).map V.bl)) ∧ Same H2 Hd) ⟨upd_same, same_upd nD⟩ (fun j Hd _ hh => sqt_same (s2.trans hh.2) q) ?_ ?_
                · rintro j x Hd hj ⟨eD, sd⟩
                  refine ⟨rfl, ?_⟩
                  dsimp only [tYes]
                  refine iteT ?_
                  match j, hj, eD with
                  | 0, hj, eD =>
                    cases hj
                    refine ⟨_, rfl, _, rfl, _, _, rfl, rfl, ?_⟩
                    dsimp only [tNil, List.cons_append, List.nil_append]
                    exact endj_sp (h0.same (s2.trans sd)) ⟨_, eD, small_2000 (by rw [List.length_map]; exact Nat.le_trans (List.length_take_le' _ _) (show 2 ≤ 2000 by decide)), upd_same, fun b o e => same_put (H0 := H2) sd nD b o e⟩
                  | 1, hj, eD =>
                    cases hj
                    refine ⟨_, rfl, _, rfl, _, _, rfl, rfl, ?_⟩
                    dsimp only [tNil, List.cons_append, List.nil_append]
                    exact endj_sp (h1.same (s2.trans sd)) ⟨_, eD, small_2000 (by rw [List.length_map]; exact Nat.le_trans (List.length_take_le' _ _) (show 2 ≤ 2000 by decide)), upd_same, fun b o e => same_put (H0 := H2) sd nD b o e⟩
                  | j + 2, hj, eD => simp at hj
                · rintro Hd ⟨eD, sd⟩
                  have sHd : Same H Hd := sx.trans (s2.trans sd)
                  cases h0 with
                  | @ok i0 _ =>
                    cases h1 with
                    | @ok i1 _ =>
                      refine ⟨D, [true, true], rfl, SqL.of eD, _, rfl, ?_⟩
                      refine iteF ?_
                      refine .inr ⟨_, rfl, a2, _, 0, _, rfl, rfl, sqt_same (s2.trans sd) q, atI_nat (j := 0) rfl, ?_⟩
                      refine .inr ⟨_, rfl, a2, _, 1, _, rfl, rfl, sqt_same (s2.trans sd) q, atI_nat (j := 1) rfl, ?_⟩
                      refine ⟨rfl, _, rfl, ite2 (fun c5 => ?_) (fun c5 => ?_)⟩
                      · have e9 : bs[i]? = some (!decide (V.int i0 = V.int i1)) := eb
                        rw [c5] at e9
                        exact kf _ e9 _ sHd
                      · refine ⟨_, _, rfl, ?_, sHd⟩
                        have e9 : bs[i]? = some (!decide (V.int i0 = V.int i1)) := eb
                        rw [Bool.eq_false_iff.mpr c5] at e9
                        rw [List.take_add_one, e9, List.all_append, hb]
                        rfl
                    | out i1 =>
                      refine ⟨D, [true, false], rfl, SqL.of eD, _, rfl, ?_⟩
                      refine iteT ?_
                      refine iteT ?_
                      exact kf _ eb _ sHd
                    | no _ _ _ _ =>
                      refine ⟨D, [true, false], rfl, SqL.of eD, _, rfl, ?_⟩
                      refine iteT ?_
                      refine iteT ?_
                      exact kf _ eb _ sHd
                  | out i0 =>
                    refine ⟨D, [false, e1.isSome], rfl, SqL.of eD, _, rfl, ?_⟩
                    refine iteT ?_
                    refine iteT ?_
                    exact kf _ eb _ sHd
                  | no _ _ _ _ =>
                    refine ⟨D, [false, e1.isSome], rfl, SqL.of eD, _, rfl, ?_⟩
                    refine iteT ?_
                    refine iteT ?_
                    exact kf _ eb _ sHd
          · rintro σ Hx ⟨v2, v3, rfl, hb, sx⟩
            rw [← hA.len, List.take_length] at hb
            have := k Hx sx
            rw [hb, decide_eq_true (by omega : xs.length ≤ 12)] at this
            exact this
      · refine (if_pos (decide_eq_true (by omega))).mpr ?_
        have := k H1 s1
        rw [decide_eq_false c, Bool.false_and] at this
        exact this
end
end K03


set_option Elab.async false
set_option maxRecDepth 100000
set_option maxHeartbeats 2000000
set_option linter.all false
namespace K03
open PySem PySem.Spec PyProof.Rows L2
/-! a caught exception that outlives its except suite -/
def ExR (cls : Value) (d : Option Addr) (a : Addr) : HO := .ext fun h => ∃ (oe : Obj) (vs : Array Value), h.get? a = some oe ∧ Zc cls d oe ∧ oe.data = .fields vs
theorem exR_ok {P : Program} {w : World} {H : Hp} {h : Heap} {a : Addr} {cls : Value} {d : Option Addr} {oe : Obj} {vs : Array Value} (e : h.get? a = some oe) (z : Zc cls d oe) (hd : oe.data = .fields vs) : ObjOk P w H h a (ExR cls d a) :=
  ⟨⟨oe, vs, e, z, hd⟩, ⟨oe, e⟩, fun _ _ ⟨o, v, q, r⟩ k => ⟨o, v, k o q, r⟩⟩
theorem exR_at {P : Program} {w : World} {H : Hp} {h : Heap} {a : Addr} {cls : Value} {d : Option Addr} (hok : HOk P w H h) (e : H a = some (ExR cls d a)) : ∃ (oe : Obj) (vs : Array Value), h.get? a = some oe ∧ Zc cls d oe ∧ oe.data = .fields vs := by
  have x : ObjOk P w H h a (.ext fun h => ∃ (oe : Obj) (vs : Array Value), h.get? a = some oe ∧ Zc cls d oe ∧ oe.data = .fields vs) := hok a _ e
  exact x.1
section
variable {X : Cx} {pins : List (Addr × Obj)} {σ : L2.St} {H : Hp} {s : Shared}
theorem track {a : Addr} {oe : Obj} {vs : Array Value} {cls : Value} {d : Option Addr} (I : Inv X ((a, oe) :: pins) σ H s) (h0 : X.s_0.heap.get? a = none) (hp : ∀ p ∈ X.pn ++ pins, p.1 ≠ a) (hz : Zc cls d oe) (hd : oe.data = .fields vs) :
    H a = none ∧ Inv X pins σ (upd H a (ExR cls d a)) s := by
  obtain ⟨he, na, nL, nF, nC⟩ := I.pin (a, oe) (by simp)
  refine ⟨na, I.ok, I.os, I.bare, ⟨I.base.keep, I.base.slot, fun b o e n hx => ?_, I.base.there, fun b xs e => ?_, fun b o u e => ?_, fun b ps e => ?_⟩, I.loc, I.cell, ?_, fun x c e => ?_, fun p m => ?_, fun b o e => ?_, I.len⟩
  · have hb : b ≠ a := fun z => by
      rw [z, h0] at e
      cases e
    rw [upd_ne hb]
    exact I.base.free b o e n hx
  · have e' := I.base.tups b xs e
    rw [upd_ne (ne_of_none e' na)]
    exact e'
  · have e' := I.base.frzs b o u e
    rw [upd_ne (ne_of_none e' na)]
    exact e'
  · obtain ⟨more, e'⟩ := I.base.tbls b ps e
    exact ⟨more, by rw [upd_ne (ne_of_none e' na)]; exact e'⟩
  · rw [upd_ne (Ne.symm nL)]
    exact I.free
  · have hc : c ≠ a := fun z => by
      obtain ⟨v, o, ho, hd'⟩ := I.cell x c e
      rw [z] at ho
      have he' : s.heap.get? a = some oe := he
      rw [he'] at ho
      cases ho
      exact nC v hd'
    rw [upd_ne hc]
    exact I.freeC x c e
  · have hm : p ∈ X.pn ++ (a, oe) :: pins := by
      rcases List.mem_append.mp m with m | m
      · exact List.mem_append_left _ m
      · exact List.mem_append_right _ (List.mem_cons_of_mem _ m)
    obtain ⟨e, n, r⟩ := I.pin p hm
    exact ⟨e, by rw [upd_ne (hp p m)]; exact n, r⟩
  · by_cases hb : b = a
    · subst hb
      rw [upd_same] at e
      cases e
      exact exR_ok he hz hd
    · rw [upd_ne hb] at e
      exact (I.hok b o e).stay (fun c v hc q => q) (fun c q => by rw [upd_ne (ne_of_none q na)]; exact q) (fun c xs q => by rw [upd_ne (ne_of_none q na)]; exact q)
end
/-- the wish of a clause 'except x as n' whose exception lives on -/
def wKp (K : PySem.W.Frag) (c : Value) (i : Nat) (ts : Addr → Value → Option Addr → TS) (Wout : WX) (D : Ends) : WX := fun cls d σ H =>
  ∃ b, PySem.W.exmOne K cls c = some b ∧ (b = true → ∀ a, H a = none → ts a cls d { nx := fun σ' H' => H' a = none → D.nx (σ'.set i none) (upd H' a (ExR cls d a)), rt := fun v H' => H' a = none → D.rt v (upd H' a (ExR cls d a)), bk := fun σ' H' => H' a = none → D.bk (σ'.set i none) (upd H' a (ExR cls d a)), ct := fun σ' H' => H' a = none → D.ct (σ'.set i none) (upd H' a (ExR cls d a)) } (σ.set i (some (.ref a))) H) ∧
    (b = false → Wout cls d σ H)
section
variable {X : Cx} {x n : Str} {c : Value} {i : Nat} {body suite : List Stmt} {b₀ : Stmt} {np pos pos' : Pos} {tb : WX → TS} {ts : Addr → Value → Option Addr → TS} {Wout : WX}
theorem ps_try_keep (hs : X.stack = X.env :: X.outer) (hf : X.env.frame = some X.env.locals) (hex : X.ex = []) (hN : X.N.Nodup) (hi : X.N[i]? = some n) (hln : X.env.kindOf n = some .local) (hc : Names X x c) (tk : Takes X Wout)
    (hb : ∀ (W : WX) (pn : List (Addr × Obj)) (xe : Value → Shared → Prop), Takes (X.tr pn xe) W → PassesOwn (model X.prog X.w) X.A X.env xe → PSs (X.tr pn xe) body (tb W))
    (hsu : ∀ (a : Addr) (oe : Obj) (cls : Value) (d : Option Addr) (pn : List (Addr × Obj)), Zc cls d oe → (∃ vs, oe.data = .fields vs) → PSs (X.suite a ((a, oe) :: pn)) (b₀ :: suite) (ts a cls d)) :
    PS X (.Try body [.ExceptHandler (some (.Name x np)) (some n) (b₀ :: suite) pos'] [] [] pos) (fun D σ H => tb (wKp X.K c i ts Wout D) D σ H) := by
  refine ⟨fun pins s σ H D I h => ?_⟩
  have ok := I.ok
  have hfr : X.A.frames = some (X.env :: X.outer) := by rw [ok.frames, hs]
  have hloc : Loc X.env.scope n := .inl hln
  refine wpAny_Try_except ?_
  refine wpAny_mono ((hb (wKp X.K c i ts Wout D) (X.pn ++ pins) (fun e s₁ => wpAny (model X.prog X.w) X.A (noteFrame e X.env) (fun _ s₂ => wpAny (model X.prog X.w) X.A (setFlight e none) (fun _ s₃ =>
    wpAny (model X.prog X.w) X.A (handleBy e X.env [.ExceptHandler (some (.Name x np)) (some n) (b₀ :: suite) pos']) (SP X pins D) X.xe s₃) X.xe s₂) X.xe s₁) (fun u s' xx => ?_) PassesOwn.looking).run [] s σ H D (I.toTry _) h) (fun f s1 hsp => ?_) (fun e s1 he => he)
  · obtain ⟨a, B, sI, pins', σ', H', cls, d, rfl, J', nb, up, sky, na, os, ag, b, hb1, hyes, hno⟩ := xx
    have J : Inv X pins σ' H' sI := J'.ofTry ok
    have sky' : Sky B (X.env :: X.outer) a (Zc cls d) X.env.locals s'.heap := by rw [← hs]; exact sky
    show wpAny (model X.prog X.w) X.A (noteFrame (.ref a) X.env) _ _ _
    refine Sky.land Zc.steady hfr hf sky' fun h3 fl3 up3 => ?_
    have J3 : Inv X pins σ' H' { s' with heap := h3 } := J.landed nb fl3.1 (up.trans up3) os ag
    obtain ⟨oe3, vs3, he3, hz3, hd3⟩ := fl3.there
    have notFr : ∀ {h : Heap} {o : Obj} {vs : Array Value}, h.FunFrames B (X.env :: X.outer) → h.get? a = some o → o.data = .fields vs → a ∉ frs (X.env :: X.outer) := fun {h o vs} ff e dd hm => by
      obtain ⟨_, o', e', hnf⟩ := ff.mem hm
      rw [e] at e'; cases e'
      exact hnf _ dd
    have nfr := notFr fl3.2.2.1 he3 hd3
    have nI : sI.heap.get? a = none := by
      cases q : sI.heap.get? a with
      | none => rfl
      | some o =>
        have z := nb a o q (by rw [hs]; exact nfr)
        rw [fl3.2.1] at z
        cases z
    have n0 : X.s_0.heap.get? a = none := by
      cases q : X.s_0.heap.get? a with
      | none => rfl
      | some o =>
        obtain ⟨o', z⟩ := J.base.there a o q (by rw [hex]; simp)
        rw [nI] at z
        cases z
    have npn : ∀ p ∈ X.pn ++ pins, p.1 ≠ a := fun p m z => by
      have e := (J.pin p m).1
      rw [z, nI] at e
      cases e
    have nL : a ≠ X.env.locals := fun z => nfr (List.mem_filterMap.mpr ⟨X.env, List.mem_cons_self, by rw [hf, z]⟩)
    have nF : a ∉ X.fs := fun hm => by
      obtain ⟨e, he, q⟩ := List.mem_filterMap.mp hm
      exact nfr (List.mem_filterMap.mpr ⟨e, List.mem_cons_of_mem _ he, q⟩)
    have S3 := J3.suite he3 hd3 na nL nF
    refine wpAny_handleBy_cons (codeAny_handlers_test ?_) (by intro q; cases q)
    have LT : PySem.W.Looks (model X.prog X.w) h3 (typeOf (.ref a)) cls := fun A Q E s k q => wpAny_typeOf_ref (k _ _ he3) (by rw [hz3.1]; exact q)
    have LM := PySem.W.exm_one (M := model X.prog X.w) (J3.kIn) LT hb1
    have test : ∀ {Q : Value → Shared → Prop} {E : Value → Shared → Prop}, Q c { s' with heap := h3 } → wpAny (model X.prog X.w) (X.A.mark (some (.ref a))) (eval (.Name x np) X.env) Q E { s' with heap := h3 } := fun {Q E} q => by
      obtain ⟨hg, hdbg, hm | ⟨hm, hv, hnn⟩⟩ := hc
      · exact ld_glob (X := X.suite a ((a, oe3) :: (X.pn ++ pins))) S3 hg hm q hdbg
      · exact ld_blt (X := X.suite a ((a, oe3) :: (X.pn ++ pins))) S3 hg hm hv q hnn hdbg
    refine test (LM.here ?_)
    cases b with
    | true =>
      refine codeAny_handlers_suite_as ?_
      refine HandSPX.lands_againZ fl3 fun h4 fl4 up4 => ?_
      have J4 : Inv X pins σ' H' { s' with heap := h4 } := J.landed nb fl4.1 ((up.trans up3).trans up4) os ag
      obtain ⟨oe4, vs4, he4, hz4, hd4⟩ := fl4.there
      have S4 := J4.suite he4 hd4 na nL nF
      refine store_ok (X := X.suite a ((a, oe4) :: (X.pn ++ pins))) (v := .ref a) S4 hN hi hloc rfl (fun s5 S5 => ?_) (.inr hln)
      refine wpAny_mono ((hsu a oe4 cls d (X.pn ++ pins) hz4 ⟨_, hd4⟩).run [] s5 _ H' _ S5 (hyes rfl a na)) (fun f s6 hsp => ?_) (fun _ _ z => False.elim z)
      have end_ : ∀ {σ6 : L2.St} {H6 : Hp} {Q : Shared → Prop}, Inv (X.suite a ((a, oe4) :: (X.pn ++ pins))) [] σ6 H6 s6 → (∀ s7, H6 a = none → Inv X pins (σ6.set i none) (upd H6 a (ExR cls d a)) s7 → Q s7) →
          wpAny (model X.prog X.w) X.A (do bindName X.env n .none; unbindBehindTheSuite X.env n pos') (fun _ s7 => Q s7) X.xe s6 := fun {σ6 H6 Q} S6 hq => by
        have U : Inv X ((a, oe4) :: pins) σ6 H6 s6 := ⟨ok, S6.os, S6.bare, S6.base, S6.loc, S6.cell, S6.free, S6.freeC, fun p hp => S6.pin p (by
          have hp' : p ∈ X.pn ++ (a, oe4) :: pins := hp
          show p ∈ ((a, oe4) :: (X.pn ++ pins)) ++ []
          simp only [List.mem_append, List.mem_cons, List.append_nil] at hp' ⊢
          rcases hp' with z | z | z
          · exact .inr (.inl z)
          · exact .inl z
          · exact .inr (.inr z)), S6.hok, S6.len⟩
        refine gone_ok U hN hi hln fun s7 J7 => ?_
        obtain ⟨n7, T7⟩ := track (cls := cls) (d := d) J7 n0 npn hz4 hd4
        exact hq s7 n7 T7
      cases f with
      | next =>
        obtain ⟨σ6, H6, S6, q6⟩ := hsp
        exact end_ S6 fun s7 n7 J7 => ⟨_, _, J7, q6 n7⟩
      | brk =>
        obtain ⟨σ6, H6, S6, q6⟩ := hsp
        exact end_ S6 fun s7 n7 J7 => ⟨_, _, J7, q6 n7⟩
      | cont =>
        obtain ⟨σ6, H6, S6, q6⟩ := hsp
        exact end_ S6 fun s7 n7 J7 => ⟨_, _, J7, q6 n7⟩
      | ret u =>
        obtain ⟨v6, σ6, H6, S6, r6, q6⟩ := hsp
        exact end_ S6 fun s7 n7 J7 => ⟨_, _, _, J7, r6, q6 n7⟩
    | false =>
      show wpAny _ X.A (handleBy (.ref a) X.env []) _ _ _
      refine wpAny_handleBy_nil ?_
      obtain ⟨k1, k2, k3, oe, vs, T, oT, ts', he, hz, hd, h1, hr⟩ := id fl3
      unfold PySem.passOn
      refine wpAny_bind (wpAny_field he hd h1 ?_)
      rw [if_neg (show ¬ ((Value.ref T == Value.none) = true) from by simp)]
      have fin : wpAny (model X.prog X.w) X.A (setFlight (.ref a) X.env.frame) (fun _ s4 => wpAny (model X.prog X.w) X.A (throw (.ref a) : Sem Flow) (SP X pins D) X.xe s4) X.xe { s' with heap := h3 } := by
        rw [hf]
        refine HandSPX.setFlight_upZ fl3 fun h4 hh4 up4 => wpAny_throw (tk _ _ ?_)
        exact ⟨a, B, sI, pins, σ', H', cls, d, rfl, J, nb, (up.trans up3).trans up4, .inr (.inr (by rw [hs]; exact hh4)), na, os, ag, hno rfl⟩
      first
        | exact wpAny_bind (wpAny_pure (wpAny_bind fin))
        | exact wpAny_bind fin
  · cases f with
    | next =>
      obtain ⟨σ', H', J', q⟩ := hsp
      exact wpAny_execs_nil ⟨σ', H', J'.ofTry ok, q⟩
    | brk =>
      obtain ⟨σ', H', J', q⟩ := hsp
      exact ⟨σ', H', J'.ofTry ok, q⟩
    | cont =>
      obtain ⟨σ', H', J', q⟩ := hsp
      exact ⟨σ', H', J'.ofTry ok, q⟩
    | ret u =>
      obtain ⟨v, σ', H', J', r, q⟩ := hsp
      exact ⟨v, σ', H', J'.ofTry ok, r, q⟩
end
end K03


set_option Elab.async false
set_option maxRecDepth 100000
set_option maxHeartbeats 1000000
namespace K03
open PySem PySem.Spec PyProof.Rows L2
/-! super().__init__('..') in the __init__ of an own exception class, the exception being made -/
section
open PySem.W
variable {prog : Program} {w : World} {A : Around} {E : Value → Shared → Prop} {h : Heap} {g : Array GenState} {d : Drawn} {tk : Nat} {os : OsState}
theorem call_mw {nm q : Str} {C N u x t : Addr} {bs bm : List Value} {hdct : Bool} {sn : List Str} {sub : List Value} {ab : Bool} {col : Option Bool} {dd dv : Option Addr} {k0 k1 k2 k3 k5 : Option Value} {rest : List Value} {Q : Value → Shared → Prop}
    (hC : h.get? C = some (excClassObj nm q C N bs bm hdct sn sub ab col dd k0 k1 k2 k3 k5 "ValueError.__new__")) (hu : h.get? u = some (kxs_mw "ValueError.__init__" x)) (hx : h.get? x = some (W.excObj C t dv .none)) (hz : rest.length ≤ sizeLine)
    (fin : ∀ h', (∀ b o, b ≠ x → h.get? b = some o → h'.get? b = some o) → h'.get? x = some (W.excObj C h.objs.size dv .none) → Q .none ⟨h', g, d, tk, os⟩) :
    wpAny (model prog w) A (call (.ref u) rest) Q E ⟨h, g, d, tk, os⟩ := by
  apply wpAny_call
  apply codeAny_of_tree
  show wpAny _ A.in1 (callAny (.ref u) ⟨rest, []⟩) _ _ _
  simp only [callAny]
  apply wpAny_bind
  refine wpAny_load hu ?_
  simp only [show (Value.type "method-wrapper" == Value.type "method" || Value.type "method-wrapper" == Value.type "builtin_function_or_method" || Value.type "method-wrapper" == Value.type "method-wrapper") = true by decide, if_true]
  refine KFB.if_so (by decide) (wpAny_bind (check_bound_init F.excBase_ValueError.toExcCallFacts hC hx rfl (wpAny_bind (wpAny_pure (wpAny_pure ⟨plainId_quiet F.excBase_ValueError.init.plain _, codeAny_builtin F.excBase_ValueError.initEntry ?_⟩)))))
  exact exc_init_tree (cls := .ref C) (t0 := t) (dv := dv) (c2 := .none) (c3 := .none) (b4 := .bool false) hx hz fun h' k e _ => fin h' k e
end
/-- what the written part says of an __init__ that says super(): the def at f, its code at c, the cell of its class C at cc -/
structure SupDef (P : Program) (K : PySem.W.Frag) (mg : Str → Option Value) (C f c cc : Addr) : Prop where
  fn : ∃ oc od fd osl ar, K.lookup f = some ⟨oc, od, .func fd, osl⟩ ∧ (fd.params.posonlyargs ++ fd.params.args).head? = some ar ∧ ar.arg = "self"
  code : ∃ ccl cdd vs ccs file tf, K.lookup c = some ⟨ccl, cdd, .fields vs, ccs⟩ ∧ vs[2]? = some (.str file tf) ∧ ((P.main.file : Str) == file) = true
  cell : ∃ cl cld csl, K.lookup cc = some ⟨cl, cld, .cell (some (.ref C)), csl⟩
  cls : ∃ cd, PySem.W.clsIn K C = some cd
  top : (P.main.scope.names.lookup ("super" : Str)).isSome = false
  third : PySem.W.nsIn K cStatics "thirdparty.any" = some none
  mro : PySem.W.mroIn K C (.ref C) = some true
  sup : PySem.W.ks_superIn K C C "__init__" = some (some (.builtin "ValueError.__init__"))
  ve : PySem.W.subIn K (.ref C) (.type "ValueError") = some true
  mgS : mg "super" = none
theorem sup_stmt {X : Cx} {σ : L2.St} {H : Hp} {s : Shared} {C f c cc x L : Addr} {q : Str} {sc : Scope} {msg : Str} {kk : Nat} {body : List Stmt} {p0 p1 p2 p3 p4 p5 : Pos}
    (S : SupDef X.prog X.K X.mg C f c cc) (T : OexC X.K C) (he : X.env = PySem.W.envX q sc L f (.ref c) [("__class__", cc)]) (hk : sc.kind = .function) (h1 : sc.names.lookup ("super" : Str) = some .globalImplicit) (h2 : sc.names.lookup ("__class__" : Str) = some .free) (h3 : sc.names.lookup ("self" : Str) = some .local)
    (I : Inv X [] σ H s) (hN : X.N[0]? = some ("self" : Str)) (hσ : σ[0]? = some (some (.ref x))) (hx : H x = some (exo x C none)) {pl : Sem Bool} (hi : interactive X.env = false)
    (hs : swapsWith (.Call (.Attribute (.Call (.Name "super" p0) [] [] p1) "__init__" p2) [.Constant (.str msg) kk p5] [] p3) none p4.line X.env = pure false)
    (hev : eval (.Call (.Attribute (.Call (.Name "super" p0) [] [] p1) "__init__" p2) [.Constant (.str msg) kk p5] [] p3) X.env = (do
      let ov ← attributeBase (.Call (.Name "super" p0) [] [] p1) "__init__" X.env (eval (.Call (.Name "super" p0) [] [] p1) X.env)
      standAt p2.atName
      let (f, first) ← holding [ov] (getMethod ov "__init__" pl)
      callWith p3 f first (backTo p3 (starEach [.Constant (.str msg) kk p5] X.env)) []))
    (ha : starEach [.Constant (.str msg) kk p5] X.env = [(false, eval (.Constant (.str msg) kk p5) X.env)]) :
    _root_.PySem.wpAt (model X.prog X.w) X.A (.func body X.env) (exec (.Expr (.Call (.Attribute (.Call (.Name "super" p0) [] [] p1) "__init__" p2) [.Constant (.str msg) kk p5] [] p3) p4) X.env) (fun fl s' => fl = .next ∧ Inv X [] σ H s') X.xe s := by
  obtain ⟨oc, od, fd, osl, ar, lf, hp, hself⟩ := S.fn
  obtain ⟨ccl, cdd, vs, ccs, file, tf, lc, hvs, hfile⟩ := S.code
  obtain ⟨cl, cld, csl, lcell⟩ := S.cell
  obtain ⟨cd, hcd⟩ := S.cls
  have KX := I.kIn
  refine ks_wpAt_Expr_any (ks_wpAt_MethodCall ?_ hev) hi hs
  have e1 : X.env.kindOf "super" = some .globalImplicit := by rw [he]; exact h1
  have e2 : X.env.kindOf "__class__" = some .free := by rw [he]; exact h2
  have e3 : X.env.kindOf ar.arg = some .local := by rw [he, hself]; exact h3
  have hkk : X.env.scope.kind = .function := by rw [he]; exact hk
  refine ks_wpAt_super_base e1 e2 (by decide) (by rw [he]) (KX _ _ lf) rfl hp (by rw [he]) (KX _ _ lc) rfl hvs hfile S.top ?_
  -- the three names
  obtain ⟨mb, hb, hbb⟩ := I.mod.blt
  refine PySem.W.ks_loadName_global hkk e1 (Calls.loadGlobal_builtin (by rw [I.ok.glob]; exact I.mod.glob.keeps I.bk) S.mgS (by rw [I.ok.blt]; exact hb.keeps I.bk) ((hbb _ (by decide +kernel)).trans (show bootBuiltins "super" = some (.type "super") by rfl)) ⟨rfl, ?_⟩)
  refine wpAny_loadName_free hkk e2 (by rw [he]; rfl) ⟨_, KX _ _ lcell, rfl⟩ ?_
  obtain ⟨m, hns, hloc⟩ := I.loc
  obtain ⟨u, ru, hlk⟩ := hloc 0 "self" _ hN hσ (.inl (by rw [he]; exact h3))
  obtain rfl : u = Value.ref x := ru
  have hmx : m ar.arg = some (.ref x) := by
    rcases hlk with ⟨_, z⟩ | ⟨z, _⟩
    · rw [hself]; exact z
    · have e4 : X.env.kindOf "self" = some .local := by rw [← hself]; exact e3
      rw [e4] at z
      rcases z with z | z <;> cases z
  refine wpAny_loadName_local hkk e3 hns hmx ?_
  obtain ⟨oD, hD1, hD2⟩ : ∃ oD, s.heap.get? C = some oD ∧ oD.data = .cls cd := by
    unfold PySem.W.clsIn at hcd
    split at hcd
    · rename_i a b cd' sl ho
      cases hcd
      exact ⟨_, KX _ _ ho, rfl⟩
    · cases hcd
  obtain ⟨t1, hox⟩ := exo_at I.hok hx
  obtain ⟨nm, qn, N, bs, bm, sn, sub, ab, col, dd, k0, k1, k2, k3, k5, hC, hbm⟩ := T.cls
  have hxC : x ≠ C := fun z => by
    have y := KX _ _ hC
    rw [← z, hox] at y
    have y1 := congrArg Obj.data (Option.some.inj y)
    cases y1
  obtain ⟨hh, gg, dr, tk, os⟩ := s
  refine ks_wpAny_isType_cls hD1 hD2 ⟨rfl, ?_⟩
  refine ks_wpAny_call_super hD1 hD2 hox rfl (fun z e => by cases e) (PySem.W.looks_mroIn KX S.mro) (fun hp1 e1' k1' => ?_)
  have I1 : Inv X [] σ H ⟨hp1, gg, dr, tk, os⟩ := I.kept k1'
  have KX1 := I1.kIn
  -- .__init__
  have hal : PySem.W.alongIn X.K "__init__" ((cd.mro.dropWhile (· != .ref C)).drop 1) = some (some (.builtin "ValueError.__init__")) := by
    have y := S.sup
    unfold PySem.W.ks_superIn at y
    rw [hcd] at y
    exact y
  have IA : PySem.W.InstAt hp1 x { cls := .ref C, dict := none, data := .fields #[.ref t1, .none, .none, .none, .bool false, .none] } C none := ⟨k1' _ _ hox, rfl, rfl, trivial⟩
  refine PySem.W.kxs_getMethod PySem.W.kxs_ValueError e1' (PySem.W.looks_opaque KX1 S.third) (l₀ := cd.mro) (fun A Q E s k q => wpAny_bind ((PySem.W.looks_clsIn KX1 hcd) A _ E s k (wpAny_pure q))) rfl KX1 hal (IA.type.andThen (PySem.W.looks_subIn KX1 S.ve)) hxC (by decide) ?_
  have k2' : ∀ b o, hp1.get? b = some o → (hp1.push (PySem.W.kxs_mw "ValueError.__init__" x)).get? b = some o := fun b o e => Heap.get?_push_of_some _ e
  have hu2 : (hp1.push (PySem.W.kxs_mw "ValueError.__init__" x)).get? hp1.objs.size = some (PySem.W.kxs_mw "ValueError.__init__" x) := Heap.get?_push_at rfl rfl
  have I2 : Inv X [] σ H ⟨hp1.push (PySem.W.kxs_mw "ValueError.__init__" x), gg, dr, tk + 1, os⟩ := I1.kept k2'
  -- the call
  show wpAny _ _ (callWith p3 (Value.ref hp1.objs.size) [] (backTo p3 (starEach [Expr.Constant (Const.str msg) kk p5] X.env)) []) _ _ _
  rw [ha]
  refine PySem.W.kxs_callWith (i := "ValueError.__init__") (x := x) rfl ?_
  refine Calls.evalArgs_plain ?_
  show wpAny _ _ (spliced [(false, eval (.Constant (.str msg) kk p5) X.env)]) _ _ _
  refine Calls.spliced_cons ?_
  refine Calls.Constant_str (Calls.spliced_nil ⟨hu2, ?_⟩)
  have I4 : Inv X [] σ H ⟨hp1.push (PySem.W.kxs_mw "ValueError.__init__" x), gg, dr, tk + 1 + 1, os⟩ := I2.tok _
  have hx4 := k2' _ _ (k1' _ _ hox)
  refine call_mw (I4.kIn _ _ hC) hu2 hx4 (by show 1 ≤ sizeLine; decide) fun h' kk' hx' => ⟨rfl, ?_⟩
  have J := I4.write (h' := h') (t' := tk + 1 + 1) (x := x) (e := x) (o := exo x C none) (by rw [hx]; exact True.intro) (.inl rfl) kk' ⟨_, hx'⟩ (exo_ok hx')
  have eu : upd H x (exo x C none) = H := by
    funext b
    by_cases hb : b = x
    · rw [hb, upd_same, hx]
    · rw [upd_ne hb]
  rw [eu] at J
  exact J
end K03


set_option Elab.async false
set_option maxRecDepth 100000
set_option maxHeartbeats 1000000
namespace K03
open PySem PySem.Spec PyProof.Rows L2 NdefX
/-! an own exception's __init__: super().__init__('..'); self.f = v -/
def spInitX (C : Addr) (fld : Str) : Sp := fun vs H Q _ => ∃ (x : Addr) (y : V), vs = [.ref x, y] ∧ H x = some (exo x C none) ∧
  ∀ d : Addr, H d = none → d ≠ x → Q .non (upd (upd H d (exd d [(fld, y)])) x (exo x C (some d)))
structure SupTxt (P : Program) (K : PySem.W.Frag) (mg : Str → Option Value) (C : Addr) (fld : Str) : Prop where
  oex : OexC K C
  nofld : PySem.W.findIn K (.ref C) fld = some none
section
variable {P : Program} {w : World} {K : PySem.W.Frag} {mg : Str → Option Value} {base : Heap}
theorem ok_initx {CX : CXT} {C f c cc : Addr} {qual fld : Str} {params : Arguments} {scope : Scope} {doc pm ct oc : Value} {an od : Option Addr} {osl : Array (Option Value)} {msg : Str} {kk : Nat} {p0 p1 p2 p3 p4 p5 p6 p7 p8 p9 : Pos}
    (T : SupTxt P K mg C fld) (S : SupDef P K mg C f c cc)
    (lk : K.lookup f = some ⟨oc, od, .func (PySem.W.ksFn "__init__" qual params
      [.Expr (.Call (.Attribute (.Call (.Name "super" p0) [] [] p1) "__init__" p2) [.Constant (.str msg) kk p5] [] p3) p4, .Assign [.Attribute (.Name "self" p6) fld p7] (.Name fld p8) p9] scope .none .none doc pm an (.ref c) ct cc), osl⟩)
    (hcd : PySem.W.codeIn K (.ref c) qual = true) (hS : nscB ["self", fld, "__class__"] ["self", fld] ["__class__"] scope = true) (h1 : scope.names.lookup ("super" : Str) = some .globalImplicit) (hdb : (fld == ("__debug__" : Str)) = false) (hdc : (fld == ("__classdict__" : Str)) = false) {pl : Sem Bool}
    (hev : ∀ L : Addr, eval (.Call (.Attribute (.Call (.Name "super" p0) [] [] p1) "__init__" p2) [.Constant (.str msg) kk p5] [] p3) (PySem.W.envX qual scope L f (.ref c) [("__class__", cc)]) = (do
      let ov ← attributeBase (.Call (.Name "super" p0) [] [] p1) "__init__" (PySem.W.envX qual scope L f (.ref c) [("__class__", cc)]) (eval (.Call (.Name "super" p0) [] [] p1) (PySem.W.envX qual scope L f (.ref c) [("__class__", cc)]))
      standAt p2.atName
      let (fn, first) ← holding [ov] (getMethod ov "__init__" pl)
      callWith p3 fn first (backTo p3 (starEach [.Constant (.str msg) kk p5] (PySem.W.envX qual scope L f (.ref c) [("__class__", cc)]))) []))
    (hin : ∀ L : Addr, interactive (PySem.W.envX qual scope L f (.ref c) [("__class__", cc)]) = false)
    (hsn : ∀ L : Addr, swapsWith (.Call (.Attribute (.Call (.Name "super" p0) [] [] p1) "__init__" p2) [.Constant (.str msg) kk p5] [] p3) none p4.line (PySem.W.envX qual scope L f (.ref c) [("__class__", cc)]) = pure false)
    (hsw : ∀ L : Addr, swapsWith (.Name fld p8) (some (.Attribute (.Name "self" p6) fld p7)) p9.line (PySem.W.envX qual scope L f (.ref c) [("__class__", cc)]) = pure false) :
    FnOk P w K mg base CX 2 f (PySem.W.ksFn "__init__" qual params
      [.Expr (.Call (.Attribute (.Call (.Name "super" p0) [] [] p1) "__init__" p2) [.Constant (.str msg) kk p5] [] p3) p4, .Assign [.Attribute (.Name "self" p6) fld p7] (.Name fld p8) p9] scope .none .none doc pm an (.ref c) ct cc) ["self", fld] (spInitX C fld) := by
  have N := nscope_by hS
  have len : ∀ vs H Q E, spInitX C fld vs H Q E → vs.length = (["self", fld] : List Str).length := by
    rintro vs H Q E ⟨x, y, rfl, _⟩
    rfl
  refine ⟨len, fun A outer s H args us vs Q E hr e0 hb r hsp => ?_⟩
  have KX : K.In s.heap := e0.mod.kin.keeps fun b o e => (e0.bs b o e).1
  have lim : s.heap.NoLimit := e0.mod.nolimit.keeps fun b o e => (e0.bs b o e).1
  have hl := len _ _ _ _ hsp
  obtain ⟨x, y, rfl, hx, q⟩ := hsp
  refine ks_codeAny_call_defAt hr.depth (KX _ _ lk) rfl lim (PySem.W.codeRec_of KX hcd) rfl hb N.nocell (fun z hz => ?_) (fun h₁ hns kp => ?_) N.co N.gen N.kind
  · obtain ⟨n, v⟩ := z
    exact N.par n (List.of_mem_zip hz).1
  · obtain ⟨cl, cld, csl, lcell⟩ := S.cell
    have C0 : CellsAt [(("__class__" : Str), cc)] ["__class__"] [some (.ref C)] s.heap H := {
      len := rfl
      all := fun y c e => by
        by_cases z : y = ("__class__" : Str)
        · subst z
          have : cc = c := by simpa [List.lookup] using e
          subst this
          exact ⟨(e0.bs _ _ (e0.mod.kin _ _ lcell)).2, _, _, KX _ _ lcell, rfl⟩
        · have : (y == ("__class__" : Str)) = false := by simpa using z
          simp [List.lookup, this] at e
      inj := fun a b c e1 e2 => by
        have key : ∀ y : Str, ([(("__class__" : Str), cc)] : List (Str × Addr)).lookup y = some c → y = "__class__" := fun y e => by
          by_cases z : y = ("__class__" : Str)
          · exact z
          · have : (y == ("__class__" : Str)) = false := by simpa using z
            simp [List.lookup, this] at e
        rw [key a e1, key b e2]
      has := fun i y e => by
        have z : i = 0 ∧ y = "__class__" := by
          cases i with
          | zero => exact ⟨rfl, (Option.some.inj e).symm⟩
          | succ i => simp at e
        obtain ⟨rfl, rfl⟩ := z
        exact ⟨cc, by simp [List.lookup], fun v hv => by
          cases hv
          exact ⟨_, rfl, _, KX _ _ lcell, rfl⟩⟩ }
    let F : NF := ⟨"__init__", qual, params, [.Expr (.Call (.Attribute (.Call (.Name "super" p0) [] [] p1) "__init__" p2) [.Constant (.str msg) kk p5] [] p3) p4, .Assign [.Attribute (.Name "self" p6) fld p7] (.Name fld p8) p9], scope, [("__class__", cc)], c⟩
    have I : Inv (ncx CX P w K mg base ["self", fld, "__class__"] F f A outer s H E) [] (startF ["self", fld, "__class__"] [.ref x, y] [some (.ref C)]) H { s with heap := h₁, toks := s.toks + ((["self", fld] : List Str).zip us).length } :=
      inv_startN (F := F) N hr.hd e0 hl r C0 hns kp
    refine ks_wpAt_execs_cons (ks_wpAt_mono (sup_stmt (X := ncx CX P w K mg base ["self", fld, "__class__"] F f A outer s H E) S T.oex rfl N.kind h1 (N.frk _ (by simp)) (N.par _ (by simp)) I rfl rfl hx (hin _) (hsn _) (hev _) rfl) (fun fl s' hs => ?_) fun _ _ z => z)
    obtain ⟨rfl, J⟩ := hs
    refine wpAt_of_wpAny ?_
    have ht : PSs (ncx CX P w K mg base ["self", fld, "__class__"] F f A outer s H E) [.Assign [.Attribute (.Name "self" p6) fld p7] (.Name fld p8) p9] (tOst K fld (tVar 0) (tVar 1)) :=
      pss_one (ps_ost (pe_var (i := 0) rfl (.inl (N.par _ (by simp)))) (pe_var (i := 1) rfl (.inl (N.par _ (by simp))) hdb hdc) (hsw _))
    have hq : (tOst K fld (tVar 0) (tVar 1)) { nx := fun _ H' => Q .non H', rt := Q } (startF ["self", fld, "__class__"] [.ref x, y] [some (.ref C)]) H :=
      ⟨_, rfl, _, rfl, x, C, rfl, T.oex, T.nofld, .inl ⟨hx, q⟩⟩
    refine wpAny_mono (ht.run [] _ _ H _ J hq) (fun fl s' hs => ?_) fun e s' hs => hs
    cases fl with
    | ret u => exact (by obtain ⟨v, σ', H', J', rv, q'⟩ := hs; exact ⟨v, H', J'.os, J'.bare, J'.base, J'.hok, rv, q'⟩)
    | next => exact (by obtain ⟨σ', H', J', q'⟩ := hs; exact ⟨V.non, H', J'.os, J'.bare, J'.base, J'.hok, rfl, q'⟩)
    | brk => exact (by obtain ⟨_, _, _, q'⟩ := hs; exact q'.elim)
    | cont => exact (by obtain ⟨_, _, _, q'⟩ := hs; exact q'.elim)
end
end K03


set_option Elab.async false
set_option maxRecDepth 100000
set_option maxHeartbeats 1000000
namespace K03
open PySem PySem.Spec PyProof.Rows PySem.HandSPX
section
variable {prog : Program} {w : World} {A : Around} {E : Value → Shared → Prop} {R : Result → Shared → Prop} {h : Heap} {g : Array GenState} {d : Drawn} {t : Nat} {os : OsState}
variable {nm q : Str} {C N fI : Addr} {bs bm : List Value} {hdct : Bool} {sn : List Str} {sub : List Value} {ab : Bool} {col : Option Bool} {dd : Option Addr} {k0 k1 k2 k3 k5 : Option Value} {kn : Str} {kv : Value}
/-- an own exception class is called with one keyword: the look at what is handed to __new__ -/
theorem xk_look {Q : Unit → Shared → Prop} (hT : ∀ X : String, bm.contains (.type X) = ([.type "ValueError", .type "Exception", .type "BaseException", .type "object"] : List Value).contains (.type X))
    (hC : h.get? C = some (excClassObj nm q C N bs bm hdct sn sub ab col dd k0 k1 k2 k3 k5 "ValueError.__new__")) (hq : Q () ⟨h, g, d, t, os⟩) :
    wpAny (model prog w) A (checkBuiltinCall "ValueError.__new__" ⟨[.ref C], [(kn, kv)]⟩) Q E ⟨h, g, d, t, os⟩ := by
  have Z := F.excBase_ValueError
  have c1 : (Value.ref C :: bm).contains (.type "ValueError") = true := by rw [List.contains_cons, hT]; rfl
  have st := Z.noStar
  simp only [checkBuiltinCall, Z.newKind, Z.newSplit, Z.newRow]
  repeat (first | refine wpAny_loadPart_at hC ?_ | (refine wpAny_isSubtype_exc hC ?_; rw [c1]) | refine wpAny_staticBase_exc hC ?_ | refine wpAny_madeBy_exc hC ?_ | simp only [bne_self_eq_false, Bool.false_eq_true, if_false] | wp_step)
  exact hq
/-- .. the object is made -/
theorem xk_new (hT : ∀ X : String, bm.contains (.type X) = ([.type "ValueError", .type "Exception", .type "BaseException", .type "object"] : List Value).contains (.type X))
    (hC : h.get? C = some (excClassObj nm q C N bs bm hdct sn sub ab col dd k0 k1 k2 k3 k5 "ValueError.__new__"))
    (hq : R (.ok (.ret (.ref (h.objs.size + 1)))) ⟨(h.push (PySem.W.kdv_tup [])).push (excO C h.objs.size), g, d, t, os⟩) :
    codeAny (model prog w) A (.builtin "ValueError.__new__" ⟨[.ref C], [(kn, kv)]⟩) R ⟨h, g, d, t, os⟩ := by
  have Z := F.excBase_ValueError
  have ends := Z.ends
  have c1 : (Value.ref C :: bm).contains (.type "ValueError") = true := by rw [List.contains_cons, hT]; rfl
  have c2 : (Value.ref C :: bm).contains (.type "AttributeError") = false := by rw [List.contains_cons, hT]; rfl
  have c3 : (Value.ref C :: bm).contains (.type "NameError") = false := by rw [List.contains_cons, hT]; rfl
  apply codeAny_builtinAt Z.entry
  unfold Builtin.«BaseException.__new__»
  apply PySem.wpAt_bind
  show PySem.wpAt _ _ _ (stack >>= _) _ _ _
  apply PySem.wpAt_bind
  apply PySem.wpAt_stack
  intro p below
  apply PySem.wpAt_of_wpAny
  wp_walk
  apply PySem.wpAt_of_wpAny
  rw [Z.owner]
  repeat (first | with_reducible refine wpAny_madeHere_exc Z.canon hC ?_ | with_reducible refine wpAny_loadPart_at hC ?_ | (with_reducible refine wpAny_isSubtype_exc hC ?_; first | rw [c1] | rw [c2] | rw [c3]) | wp_step)
  rw [← Heap.size_push] at hq
  exact hq
/-- type.__call__ itself is looked at -/
theorem xk_check {Q : Unit → Shared → Prop} (hC : h.get? C = some (excClassObj nm q C N bs bm hdct sn sub ab col dd k0 k1 k2 k3 k5 "ValueError.__new__")) (hq : Q () ⟨h, g, d, t, os⟩) :
    wpAny (model prog w) A (checkBuiltinCall "type.__call__" ⟨[.ref C], [(kn, kv)]⟩) Q E ⟨h, g, d, t, os⟩ := by
  have y3 := tc_sub
  have yT : (⟨h, g, d, t, os⟩ : Shared).TypeIs (.ref C) "type" := ⟨_, hC, rfl⟩
  simp only [checkBuiltinCall, tc_kind, tc_split]
  repeat (any_goals (first | assumption | with_reducible refine wpAny_loadPart_at hC ?_ | with_reducible refine wpAny_onRaise ?_ | with_reducible refine wpAny_map ?_ | wp_step))
theorem xk_type {Q : PySem.Fin → Shared → Prop} (hT : ∀ X : String, bm.contains (.type X) = ([.type "ValueError", .type "Exception", .type "BaseException", .type "object"] : List Value).contains (.type X))
    (hC : h.get? C = some (excClassObj nm q C N bs bm hdct sn sub ab col dd k0 k1 k2 k3 k5 "ValueError.__new__"))
    (hi : PySem.W.Looks (model prog w) h (typeLookup (.ref C) "__init__") (some (.ref fI))) (hb : ∀ self, PySem.W.Looks (model prog w) h (bindSpecial (.ref fI) self) (.ref fI, [self]))
    (hq : codeAny (model prog w) A (.call (.ref fI) ⟨[.ref (h.objs.size + 1)], [(kn, kv)]⟩)
      (fun r s' => match r with | .ok (.ret v) => v = .none ∧ Q (.done (.ret (.ref (h.objs.size + 1)))) s' | .ok _ => False | .error e => E e s')
      ⟨(h.push (PySem.W.kdv_tup [])).push (excO C h.objs.size), g, d, t, os⟩) :
    wpAny (model prog w) A (Builtin.«type.__call__» ⟨[.ref C], [(kn, kv)]⟩) Q E ⟨h, g, d, t, os⟩ := by
  have Z := F.excBase_ValueError
  repeat (first | with_reducible refine wpAny_loadPart_at hC ?_ | with_reducible refine wpAny_madeBy_exc hC ?_ | wp_step)
  apply codeAny_call_builtin_code (Code.quiet_builtin _ Z.quiet) (xk_look hT hC (xk_new hT hC _))
  have k : ∀ b o, h.get? b = some o → ((h.push (PySem.W.kdv_tup [])).push (excO C h.objs.size)).get? b = some o := fun b o e => Heap.get?_push_of_some _ (Heap.get?_push_of_some _ e)
  have hC1 := k _ _ hC
  have hget : ((h.push (PySem.W.kdv_tup [])).push (excO C h.objs.size)).get? (h.objs.size + 1) = some (excO C h.objs.size) := by heap_get
  have hcC : (Value.ref C :: bm).contains (.ref C) = true := by simp
  have i1 := hi.keeps k
  have b1 := (hb (.ref (h.objs.size + 1))).keeps k
  show wpAny _ _ _ _ _ _
  unfold isInstance
  repeat (first | with_reducible refine wpAny_loadPart_at hget ?_ | (with_reducible refine wpAny_isSubtype_exc hC1 ?_; rw [hcC]) | wp_step)
  show wpAny _ _ (typeLookup (.ref C) _) _ _ _
  apply i1.at
  apply wpAny_holding
  apply wpAny_bind
  apply b1.at
  apply wpAny_bind
  apply wpAny_call
  refine codeAny_mono hq fun r s' z => ?_
  rcases r with e | (v | _ | _ | _) <;> first | exact z | exact z.elim | skip
  obtain ⟨rfl, z⟩ := z
  first
    | exact wpAny_pure (wpAny_pure z)
    | (wp_walk; exact z)
/-- .. the class is called: __new__, then its own __init__ with the keyword -/
theorem xk_call (hT : ∀ X : String, bm.contains (.type X) = ([.type "ValueError", .type "Exception", .type "BaseException", .type "object"] : List Value).contains (.type X))
    (hC : h.get? C = some (excClassObj nm q C N bs bm hdct sn sub ab col dd k0 k1 k2 k3 k5 "ValueError.__new__"))
    (hi : PySem.W.Looks (model prog w) h (typeLookup (.ref C) "__init__") (some (.ref fI))) (hb : ∀ self, PySem.W.Looks (model prog w) h (bindSpecial (.ref fI) self) (.ref fI, [self]))
    (hq : codeAny (model prog w) (A.under (.builtin "type.__call__" ⟨[.ref C], [(kn, kv)]⟩)) (.call (.ref fI) ⟨[.ref (h.objs.size + 1)], [(kn, kv)]⟩) (PySem.W.InitBack (h.objs.size + 1) R)
      ⟨(h.push (PySem.W.kdv_tup [])).push (excO C h.objs.size), g, d, t, os⟩) :
    codeAny (model prog w) A (.call (.ref C) ⟨[], [(kn, kv)]⟩) R ⟨h, g, d, t, os⟩ := by
  have Z := F.excBase_ValueError
  have y1 := tc_lookup
  have y2 := tc_bind (.ref C)
  have yT : (⟨h, g, d, t, os⟩ : Shared).TypeIs (.ref C) "type" := ⟨_, hC, rfl⟩
  apply codeAny_of_tree
  show wpAny _ _ (callAny (.ref C) _) _ _ _
  repeat (any_goals (first | assumption | with_reducible refine wpAny_loadPart_at hC ?_ | wp_step))
  refine ⟨rfl, codeAny_call_builtin_at (Code.quiet_builtin _ (by decide +kernel)) entry_typeCall (xk_check hC (xk_type hT hC hi hb ?_))⟩
  refine codeAny_mono hq fun r s' z => ?_
  rcases r with e | (v | _ | _ | _) <;> exact z
end
end K03


set_option Elab.async false
set_option maxRecDepth 100000
set_option maxHeartbeats 1000000
namespace K03
open PySem PySem.Spec PyProof.Rows L2
/-- what the text says of an own exception class with an __init__ (at fI, its function fd) that keeps one field -/
structure XCls (P : Program) (w : World) (K : PySem.W.Frag) (mg : Str → Option Value) (base : Heap) (C fI : Addr) (fd : FuncData) (fld : Str) : Prop where
  oex : OexC K C
  ini : PySem.W.findIn K (.ref C) "__init__" = some (some (.ref fI))
  tyI : PySem.W.typeIn K (.ref fI) = some (.type "function")
  ok : FnOk P w K mg base CX0 2 fI fd ["self", fld] (spInitX C fld)
  bind : ∀ (s : Shared) (u v : Value), BindsTo s fd ⟨[u, v], []⟩ [("self", u), (fld, v)]
  bindK : ∀ (s : Shared) (u v : Value), BindsTo s fd ⟨[u], [(fld, v)]⟩ [("self", u), (fld, v)]
/-- C(e): a new exception with its dict -/
def tXMk (C : Addr) (fld : Str) (te : TE) : TE := fun σ H Q => te σ H fun y H1 => ∀ a d : Addr, H1 a = none → H1 d = none → d ≠ a → Q (.ref a) (upd (upd H1 d (exd d [(fld, y)])) a (exo a C (some d)))
theorem upd_comm {H : Hp} {a b : Addr} {o u : HO} (h : a ≠ b) : upd (upd H a o) b u = upd (upd H b u) a o := by
  funext c
  unfold upd
  by_cases h1 : c = b
  · rw [if_pos h1, if_neg (fun z => h (z.symm.trans h1)), if_pos h1]
  · rw [if_neg h1]
    by_cases h2 : c = a
    · rw [if_pos h2, if_pos h2]
    · rw [if_neg h2, if_neg h2, if_neg h1]
section
variable {X : Cx} {C fI : Addr} {fd : FuncData} {fld : Str} {x : Str} {e : Expr} {te : TE} {p pos kpos : Pos}
theorem xmk_after {pins : List (Addr × Obj)} {σ : L2.St} {H1 : Hp} {s1 s' : Shared} {Q : VK} {a : Addr} {v : V} {r : Value} (q : ∀ d : Addr, H1 a = none → H1 d = none → d ≠ a → Q (.ref a) (upd (upd H1 d (exd d [(fld, v)])) a (exo a C (some d)))) (hn : H1 a = none)
    (I2 : Inv X pins σ (upd H1 a (exo a C none)) s1)
    (hc : CE X.stack X.prog X.w (upd H1 a (exo a C none)) s1 (fun v2 H2 => v2 = .non ∧ ∃ d : Addr, H1 d = none ∧ d ≠ a ∧ H2 = upd (upd (upd H1 a (exo a C none)) d (exd d [(fld, v)])) a (exo a C (some d))) r s') :
    r = .none ∧ EP X pins σ Q (.ref a) s' := by
  obtain ⟨v3, H2, I3, rv, ev, d, hd, hda, rfl⟩ := I2.after hc
  subst ev
  refine ⟨rv, .ref a, _, I3, rfl, ?_⟩
  rw [upd_comm (H := H1) hda.symm, upd_upd]
  exact q d hn hd hda
/-- a new exception of an own class by one value -/
theorem pe_xmk (T : XCls X.prog X.w X.K X.mg X.base C fI fd fld) (hr : Room 3 X.A) (hg : Gl X x) (hm : X.mg x = some (.ref C)) (he : PE X e te) (hdb : (x == ("__debug__" : Str)) = false := by decide)
    (hs : starEach [e] X.env = (false, eval e X.env) :: starEach [] X.env := by rfl) (hpl : (backTo pos (starEach [] X.env)).any (·.1) = false := by rfl) :
    PE X (.Call (.Name x p) [e] [] pos) (tXMk C fld te) := by
  obtain ⟨nm, q, N, bs, bm, sn, sub, ab, col, dd, k0, k1, k2, k3, k5, hC, hbm⟩ := T.oex.cls
  refine ⟨fun pins s σ H Q I h => wpAny_Call_Name_kw (ld_glob I hg hm ?_ hdb)⟩
  refine PySem.W.callWith_K (h₀ := X.base) I.ok.mod.kin T.oex.kC ?_ hs hpl
  rw [hs]
  show wpAny _ _ (spliced ((false, eval e X.env) :: backTo pos (starEach [] X.env))) _ _ s
  refine Calls.spliced_cons (thn (he.run pins s σ H _ I h) fun u s1 ⟨v, H1, I1, r1, q1⟩ => Calls.spliced_nil ⟨I1.kIn, ?_⟩)
  show wpAny _ _ (call (.ref C) [u]) _ _ _
  obtain ⟨hp, g, dr, tk, os⟩ := s1
  have hsz : hp.objs.size ≤ hp.objs.size + 1 := Nat.le_succ _
  have hn : H1 (hp.objs.size + 1) = none := I1.hok.fresh hsz
  have kk : ∀ b o, hp.get? b = some o → ((hp.push (PySem.W.kdv_tup [u])).push (PySem.HandSPX.excO C hp.objs.size)).get? b = some o := fun b o e => Heap.get?_push_of_some _ (Heap.get?_push_of_some _ e)
  have hget : ((hp.push (PySem.W.kdv_tup [u])).push (PySem.HandSPX.excO C hp.objs.size)).get? (hp.objs.size + 1) = some (PySem.HandSPX.excO C hp.objs.size) := by heap_get
  have I2 : Inv X pins σ (upd H1 (hp.objs.size + 1) (exo (hp.objs.size + 1) C none)) ⟨(hp.push (PySem.W.kdv_tup [u])).push (PySem.HandSPX.excO C hp.objs.size), g, dr, tk, os⟩ :=
    I1.laid (t' := tk) (a := hp.objs.size + 1) (o := exo (hp.objs.size + 1) C none) (h' := (hp.push (PySem.W.kdv_tup [u])).push (PySem.HandSPX.excO C hp.objs.size)) kk hsz (exo_ok hget)
  have hsp : spInitX C fld [.ref (hp.objs.size + 1), v] (upd H1 (hp.objs.size + 1) (exo (hp.objs.size + 1) C none))
      (fun v2 H2 => v2 = .non ∧ ∃ d : Addr, H1 d = none ∧ d ≠ hp.objs.size + 1 ∧ H2 = upd (upd (upd H1 (hp.objs.size + 1) (exo (hp.objs.size + 1) C none)) d (exd d [(fld, v)])) (hp.objs.size + 1) (exo (hp.objs.size + 1) C (some d))) (fun _ _ _ => False) :=
    ⟨_, _, rfl, upd_same, fun d hd hda => ⟨rfl, d, by rw [upd_ne hda] at hd; exact hd, hda, rfl⟩⟩
  have hus : ([u] : List Value).length ≤ sizeLine := by show 1 ≤ sizeLine; decide
  apply wpAny_call
  refine PySem.HandSPX.call_own F.excBase_ValueError (fun Y => PySem.HandSPX.refsVE_contains Y bm hbm) (I1.kIn _ _ hC) (PySem.W.looks_findIn I1.kIn T.ini) (fun self => PySem.W.bind_fn I1.kIn self T.tyI) hus
    (codeAny_mono (T.ok.run _ X.stack _ _ ⟨[Value.ref (hp.objs.size + 1), u], []⟩ [Value.ref (hp.objs.size + 1), u] _ _ (fun _ _ _ => False) ((hr.make C [u] [])) (I2.env0.make C [u] []) (T.bind _ _ _) (show Vals [V.ref (hp.objs.size + 1), v] [Value.ref (hp.objs.size + 1), u] from .cons rfl (.cons r1 .nil)) hsp) fun r s' hq' => ?_)
  cases r with
  | error er => exact False.elim hq'
  | ok fl =>
    cases fl with
    | ret u' => exact xmk_after (q1 _) hn I2 hq'
    | next => exact False.elim hq'
    | brk => exact False.elim hq'
    | cont => exact False.elim hq'
/-- .. by one keyword -/
theorem pe_xmkK (T : XCls X.prog X.w X.K X.mg X.base C fI fd fld) (hr : Room 3 X.A) (hg : Gl X x) (hm : X.mg x = some (.ref C)) (he : PE X e te) (hdb : (x == ("__debug__" : Str)) = false := by decide)
    (hall : (backToKw pos (keywordEach [⟨some fld, e, kpos⟩] X.env)).all (·.1.isSome) = true := by rfl) (hks : (backToKw pos (keywordEach [⟨some fld, e, kpos⟩] X.env)).filterMap (·.1) = [fld] := by rfl)
    (hpl : (backToKw pos (keywordEach [⟨some fld, e, kpos⟩] X.env)).any (·.1.isNone) = false := by rfl) :
    PE X (.Call (.Name x p) [] [⟨some fld, e, kpos⟩] pos) (tXMk C fld te) := by
  obtain ⟨nm, q, N, bs, bm, sn, sub, ab, col, dd, k0, k1, k2, k3, k5, hC, hbm⟩ := T.oex.cls
  refine ⟨fun pins s σ H Q I h => wpAny_Call_Name_kw (ld_glob I hg hm ?_ hdb)⟩
  refine PySem.W.callWith_KW0 (h₀ := X.base) I.ok.mod.kin T.oex.kC hall ?_ hpl
  have hk : PK X [⟨some fld, e, kpos⟩] (tCons te tNil) := pk_cons he pk_nil
  refine thn (hk.run pos pins s σ H (fun zs H' => match zs with | [y] => ∀ a d : Addr, H' a = none → H' d = none → d ≠ a → Q (.ref a) (upd (upd H' d (exd d [(fld, y)])) a (exo a C (some d))) | _ => False) I h) fun ws s1 ⟨zs, H1, I1, rz, q1⟩ => ⟨I1.kIn, ?_⟩
  rw [hks]
  cases rz with
  | nil => exact q1.elim
  | @cons v u _ _ r1 rz =>
    cases rz with
    | cons _ _ => exact q1.elim
    | nil =>
      show wpAny _ _ (call (.ref C) [] [(fld, u)]) _ _ _
      obtain ⟨hp, g, dr, tk, os⟩ := s1
      have hsz : hp.objs.size ≤ hp.objs.size + 1 := Nat.le_succ _
      have hn : H1 (hp.objs.size + 1) = none := I1.hok.fresh hsz
      have kk : ∀ b o, hp.get? b = some o → ((hp.push (PySem.W.kdv_tup [])).push (PySem.HandSPX.excO C hp.objs.size)).get? b = some o := fun b o e => Heap.get?_push_of_some _ (Heap.get?_push_of_some _ e)
      have hget : ((hp.push (PySem.W.kdv_tup [])).push (PySem.HandSPX.excO C hp.objs.size)).get? (hp.objs.size + 1) = some (PySem.HandSPX.excO C hp.objs.size) := by heap_get
      have I2 : Inv X pins σ (upd H1 (hp.objs.size + 1) (exo (hp.objs.size + 1) C none)) ⟨(hp.push (PySem.W.kdv_tup [])).push (PySem.HandSPX.excO C hp.objs.size), g, dr, tk, os⟩ :=
        I1.laid (t' := tk) (a := hp.objs.size + 1) (o := exo (hp.objs.size + 1) C none) (h' := (hp.push (PySem.W.kdv_tup [])).push (PySem.HandSPX.excO C hp.objs.size)) kk hsz (exo_ok hget)
      have hsp : spInitX C fld [.ref (hp.objs.size + 1), v] (upd H1 (hp.objs.size + 1) (exo (hp.objs.size + 1) C none))
          (fun v2 H2 => v2 = .non ∧ ∃ d : Addr, H1 d = none ∧ d ≠ hp.objs.size + 1 ∧ H2 = upd (upd (upd H1 (hp.objs.size + 1) (exo (hp.objs.size + 1) C none)) d (exd d [(fld, v)])) (hp.objs.size + 1) (exo (hp.objs.size + 1) C (some d))) (fun _ _ _ => False) :=
        ⟨_, _, rfl, upd_same, fun d hd hda => ⟨rfl, d, by rw [upd_ne hda] at hd; exact hd, hda, rfl⟩⟩
      apply wpAny_call
      refine xk_call (fun Y => PySem.HandSPX.refsVE_contains Y bm hbm) (I1.kIn _ _ hC) (PySem.W.looks_findIn I1.kIn T.ini) (fun self => PySem.W.bind_fn I1.kIn self T.tyI)
        (codeAny_mono (T.ok.run _ X.stack _ _ ⟨[Value.ref (hp.objs.size + 1)], [(fld, u)]⟩ [Value.ref (hp.objs.size + 1), u] _ _ (fun _ _ _ => False) ((hr.make C [] [(fld, u)])) (I2.env0.make C [] [(fld, u)]) (T.bindK _ _ _) (show Vals [V.ref (hp.objs.size + 1), v] [Value.ref (hp.objs.size + 1), u] from .cons rfl (.cons r1 .nil)) hsp) fun r s' hq' => ?_)
      cases r with
      | error er => exact False.elim hq'
      | ok fl =>
        cases fl with
        | ret u' => exact xmk_after (q1 _) hn I2 hq'
        | next => exact False.elim hq'
        | brk => exact False.elim hq'
        | cont => exact False.elim hq'
end
end K03


set_option Elab.async false
set_option maxRecDepth 100000
set_option maxHeartbeats 4000000
namespace K03
open PySem PySem.Spec PyProof.Rows L2
open PySem.W (KitX InstAt Looks)
section
variable {prog : Program} {w : World} {A : Around} {E : Value → Shared → Prop} {s : Shared} {K : PySem.W.Frag} {x D : Addr} {ox : Obj} {od : Option Obj}
/-- e.__class__ of an exception with or without a dict -/
theorem cls_of_exc {Q : Option Value → Shared → Prop} (C : ExcC K D) (hf : PySem.W.findObj K D od "__class__" = some (.bind (.builtin "getset_descriptor.__get__") (.builtin "object.__class__")))
    (X : K.In s.heap) (I : InstAt s.heap x ox D od) (h : Q (some (.ref D)) { s with toks := s.toks + 1 }) : wpAny (model prog w) A (getAttr? (.ref x) "__class__") Q E s := by
  obtain ⟨hp, g, d, t, os⟩ := s
  have M0 := I.type (M := model prog w)
  have M1 := PySem.W.looks_findIn (M := model prog w) X C.hg
  have M2 := PySem.W.looks_findIn (M := model prog w) X C.hk
  have M3 := PySem.W.looks_find (M := model prog w) X I hf
  have sb : Looks (model prog w) hp (isInstance (.ref x) (.type "BaseException")) true := M0.andThen (PySem.W.looks_subIn X C.hs)
  have z1 : (onTheHeap (Value.ref D) && Value.builtin "BaseException.__getattribute__" == Value.builtin "object.__getattribute__") = false := by
    rw [show (Value.builtin "BaseException.__getattribute__" == Value.builtin "object.__getattribute__") = false by decide +kernel]; rfl
  unfold getAttr? getAttrBy? getAttrBy
  apply wpAny_bind; apply wpAny_mkText; apply wpAny_bind; apply wpAny_attempt; apply wpAny_holding; apply wpAny_bind
  apply M0.at; apply wpAny_bind; apply M1.at
  show wpAny _ _ (if (onTheHeap (Value.ref D) && Value.builtin "BaseException.__getattribute__" == Value.builtin "object.__getattribute__") = true then _ else _) _ _ _
  rw [z1, if_neg Bool.false_ne_true]
  unfold getAttrByItsOwn hookBefore
  apply wpAny_bind
  rw [if_pos (show onTheHeap (Value.ref D) = true from rfl)]
  apply M2.at
  apply wpAny_bind; apply wpAny_attempt; apply wpAny_holding
  unfold callGetattribute
  rw [show (false && onTheHeap (Value.builtin "BaseException.__getattribute__")) = false from rfl, if_neg Bool.false_ne_true]
  unfold boundAndCalled
  rw [PySem.F.excAttr_ValueError.ga.bind (.ref x)]
  apply wpAny_bind; apply wpAny_pure
  show wpAny _ _ (call (.builtin "BaseException.__getattribute__") [.ref x, .str "__class__" t]) _ _ _
  apply wpAny_call
  apply codeAny_call_builtin PySem.F.excAttr_ValueError.ga.plain PySem.F.entry_bexc_ga
  refine @PySem.W.check_slot (model prog w) _ _ ⟨hp, g, d, t + 1, os⟩ "BaseException.__getattribute__" "BaseException" "__getattribute__" (.ref x) [.str "__class__" t] [] _ (by decide +kernel) (by decide +kernel) sb (PySem.F.args_bexc_ga (.ref x) (.str "__class__" t)) ?_
  unfold Builtin.«object.__getattribute__»
  apply wpAny_bind
  refine wpAny_of_eq (a := ((Value.ref x : Value), [Value.str "__class__" t])) (by first | rfl | (simp only [slotArgs]; rfl)) ?_
  apply wpAny_bind; apply wpAny_pure; apply wpAny_bind; apply M0.at; apply wpAny_bind; apply M3.at
  show wpAny _ _ (holding [Value.builtin "object.__class__"] (call (.builtin "getset_descriptor.__get__") [.builtin "object.__class__", .ref x, .ref D]) >>= ret) _ _ _
  apply wpAny_bind; apply wpAny_holding; apply wpAny_call
  refine PySem.W.class_get (s := ⟨hp, g, d, t + 1, os⟩) (ox := ox) (od := od) X I C.hm ?_
  apply wpAny_pure
  show wpAny _ _ (handedOut (.ref D)) _ _ _
  rw [PySem.W.handedOut_of (v := .ref D) rfl]
  first
    | exact wpAny_pure (wpAny_pure h)
    | exact wpAny_pure h
    | exact wpAny_pure (wpAny_bind (wpAny_pure (wpAny_pure h)))
/-- isinstance asks an exception with or without a dict -/
theorem kit_exc (C : ExcC K D) (hf : PySem.W.findObj K D od "__class__" = some (.bind (.builtin "getset_descriptor.__get__") (.builtin "object.__class__"))) : KitX K (.ref x) (.ref D) (fun h => InstAt h x ox D od) := by
  obtain ⟨cd, hcd, _⟩ := PySem.W.any_some C.hd
  have at_ : ∀ h : Heap, K.In h → ∃ o, h.get? D = some o ∧ o.data = .cls cd := fun h X => by
    unfold PySem.W.clsIn at hcd
    split at hcd
    · rename_i a b c' sl ho
      cases hcd
      exact ⟨_, X _ _ ho, rfl⟩
    · cases hcd
  refine ⟨fun _ _ _ I => I.type, fun M h X _ => ?_, fun h tp dd its n sl X htp => ?_, fun X I k => cls_of_exc C hf X I k⟩
  · obtain ⟨o, ho, hd⟩ := at_ h X
    intro A' Q' E' s' k q
    unfold isType loadHead
    refine wpAny_bind (wpAny_loadPart (k _ _ ho) ?_)
    rw [hd]
    exact wpAny_pure q
  · obtain ⟨o, ho, hd⟩ := at_ h X
    refine Bool.eq_false_iff.mpr fun q => ?_
    have e : D = tp := Value.ref.inj (beq_iff_eq.mp q)
    rw [e, htp] at ho
    rw [← Option.some.inj ho] at hd
    cases hd
end
/-- isinstance(e, c), e an exception that is held as a value: c's value cv, the answer b -/
def rIsX (K : PySem.W.Frag) : List V → Hp → VK → Prop := fun xs H Q => ∃ (a D : Addr) (c : V) (cv : Value) (b : Bool), xs = [.ref a, c] ∧ (H a = some (ExO (.ref D) a) ∨ ∃ (d : Addr) (fs : List (Str × V)), H a = some (exo a D (some d)) ∧ H d = some (exd d fs)) ∧ ExcC K D ∧
  (∀ u, RelV c u → u = cv) ∧ PySem.W.kitOne K (.ref D) cv = some b ∧ Q (.bl b) H
theorem call_isX {X : Cx} : CallR X (.builtin "isinstance") (rIsX X.K) := by
  intro pins s σ H xs us Q I r h
  obtain ⟨a, D, c, cv, b, rfl, ha, C, hcv, e, q⟩ := h
  cases r with
  | cons rx rr =>
    cases rr with
    | cons rt rr =>
      cases rr
      cases rx
      have ec := hcv _ rt
      subst ec
      have hcl : (PySem.W.clsIn X.K D).isSome = true := by
        obtain ⟨cd, hc, _⟩ := PySem.W.any_some C.hd
        rw [hc]; rfl
      rcases ha with ha | ⟨d, fs, ha, hd⟩
      · obtain ⟨⟨oe, vs, ho, hz, hdt, _⟩, _, _⟩ := I.hok a _ ha
        have J : InstAt s.heap a oe D none := by
          obtain ⟨oc, od, oda, osl⟩ := oe
          obtain ⟨h1, h2⟩ := hz
          dsimp only at h1 h2 hdt
          subst h1 h2 hdt
          exact ⟨ho, rfl, rfl, trivial⟩
        exact PySem.W.kia_one (kit_exc C (PySem.W.findObj_dataN hcl C.ha C.hn C.ht)) I.kIn J e (fun z => nomatch z) fun tk => ⟨.bl b, H, I.kept (t' := tk) fun _ _ z => z, rfl, q⟩
      · obtain ⟨t1, ho⟩ := exo_at I.hok ha
        obtain ⟨mA, ⟨od, es, ep, e1, _⟩, _⟩ := exd_at I.hok hd
        have J : InstAt s.heap a { cls := .ref D, dict := some d, data := .fields #[.ref t1, .none, .none, .none, .bool false, .none] } D (some od) := ⟨ho, rfl, rfl, e1⟩
        exact PySem.W.kia_one (kit_exc C (PySem.W.findObj_data hcl C.ha C.hn C.ht)) I.kIn J e (fun z => nomatch z) fun tk => ⟨.bl b, H, I.kept (t' := tk) fun _ _ z => z, rfl, q⟩
/-- e.f of such an exception -/
structure XGet (K : PySem.W.Frag) (C : Addr) (fld : Str) : Prop where
  ex : ExcC K C
  no : PySem.W.findIn K (.ref C) fld = some none
def tXFld (K : PySem.W.Frag) (fld : Str) (te : TE) : TE := fun σ H Q => te σ H fun x H1 => ∃ (a C d : Addr) (fs : List (Str × V)) (v : V), x = .ref a ∧ XGet K C fld ∧ H1 a = some (exo a C (some d)) ∧ H1 d = some (exd d fs) ∧ fs.lookup fld = some v ∧ Q v H1
theorem pe_xfld {X : Cx} {e : Expr} {te : TE} {fld : Str} {pos : Pos} (he : PE X e te) (hb : attributeBase e fld X.env (eval e X.env) = eval e X.env := by rfl) : PE X (.Attribute e fld pos) (tXFld X.K fld te) := by
  refine ⟨fun pins s σ H Q I h => ?_⟩
  refine attr_of hb (thn (he.run pins s σ H _ I h) fun u s1 ⟨x, H1, I1, rx, a, C, d, fs, v, ex, T, ha, hd, hl, q⟩ => ?_)
  subst ex
  obtain rfl : u = Value.ref a := rx
  obtain ⟨t1, ho⟩ := exo_at I1.hok ha
  obtain ⟨mA, hns, rel⟩ := exd_at I1.hok hd
  obtain ⟨od, e1, l⟩ := lookIn_ns hns
  have rl := rel fld
  rw [hl] at rl
  cases hm : mA fld with
  | none => rw [hm] at rl; exact rl.elim
  | some y =>
    rw [hm] at rl
    have J : InstAt s1.heap a { cls := .ref C, dict := some d, data := .fields #[.ref t1, .none, .none, .none, .bool false, .none] } C (some od) := ⟨ho, rfl, rfl, e1⟩
    exact HandSPX.exc_get I1.kIn J T.ex.hg T.ex.hk T.ex.hs (PySem.W.findObj_own T.ex.hd T.no rfl (by rw [l, hm])) (handed_of rl) ⟨v, H1, I1.tok _, rl, q⟩
end K03


set_option Elab.async false
set_option maxRecDepth 100000
set_option maxHeartbeats 4000000
set_option linter.all false
namespace K03
open PySem PySem.Spec PyProof.Rows L2
open PySem.W (KitX InstAt Looks)
/-- the fields of an exception, at d -/
theorem xd_at {P : Program} {w : World} {H : Hp} {h : Heap} {d : Addr} {fs : List (Str × V)} (hok : HOk P w H h) (e : H d = some (.xd fs)) : ∃ mA, h.Ns1 d mA ∧ ∀ f, RelO (fs.lookup f) (mA f) := by
  have x : ObjOk P w H h d (.xd fs) := hok d _ e
  exact x
/-- isinstance(e, c), e a caught exception that lives on -/
def rIsR (K : PySem.W.Frag) : List V → Hp → VK → Prop := fun xs H Q => ∃ (a D d : Addr) (fs : List (Str × V)) (c : V) (cv : Value) (b : Bool), xs = [.ref a, c] ∧ H a = some (ExR (.ref D) (some d) a) ∧ H d = some (.xd fs) ∧ ExcC K D ∧
  (∀ u, RelV c u → u = cv) ∧ PySem.W.kitOne K (.ref D) cv = some b ∧ Q (.bl b) H
theorem instR {X : Cx} {pins : List (Addr × Obj)} {σ : L2.St} {H : Hp} {s : Shared} {a D d : Addr} {fs : List (Str × V)} (I : Inv X pins σ H s) (ha : H a = some (ExR (.ref D) (some d) a)) (hd : H d = some (.xd fs)) : ∃ (oe : Obj) (od : Obj) (mA : Str → Option Value), InstAt s.heap a oe D (some od) ∧ oe.dict = some d ∧ (∀ f, RelO (fs.lookup f) (mA f)) ∧ s.heap.Ns1 d mA ∧ s.heap.get? d = some od := by
  obtain ⟨oe, vs, ho, ⟨z1, z2⟩, hdt⟩ := exR_at I.hok ha
  obtain ⟨mA, hns, rel⟩ := xd_at I.hok hd
  obtain ⟨od, es, ep, e1, r⟩ := id hns
  exact ⟨oe, od, mA, ⟨ho, z1, by unfold PySem.W.notCls; rw [hdt], by rw [z2]; exact e1⟩, z2, rel, hns, e1⟩
theorem call_isR {X : Cx} : CallR X (.builtin "isinstance") (rIsR X.K) := by
  intro pins s σ H xs us Q I r h
  obtain ⟨a, D, d, fs, c, cv, b, rfl, ha, hd, C, hcv, e, q⟩ := h
  cases r with
  | cons rx rr =>
    cases rr with
    | cons rt rr =>
      cases rr
      cases rx
      have ec := hcv _ rt
      subst ec
      have hcl : (PySem.W.clsIn X.K D).isSome = true := by
        obtain ⟨cd, hc, _⟩ := PySem.W.any_some C.hd
        rw [hc]; rfl
      obtain ⟨oe, od, mA, J, _⟩ := instR I ha hd
      exact PySem.W.kia_one (kit_exc C (PySem.W.findObj_data hcl C.ha C.hn C.ht)) I.kIn J e (fun z => nomatch z) fun tk => ⟨.bl b, H, I.kept (t' := tk) fun _ _ z => z, rfl, q⟩
/-- e.f of such an exception -/
def tRFld (K : PySem.W.Frag) (fld : Str) (te : TE) : TE := fun σ H Q => te σ H fun x H1 => ∃ (a C d : Addr) (fs : List (Str × V)) (v : V), x = .ref a ∧ XGet K C fld ∧ H1 a = some (ExR (.ref C) (some d) a) ∧ H1 d = some (.xd fs) ∧ fs.lookup fld = some v ∧ Q v H1
theorem pe_rfld {X : Cx} {e : Expr} {te : TE} {fld : Str} {pos : Pos} (he : PE X e te) (hb : attributeBase e fld X.env (eval e X.env) = eval e X.env := by rfl) : PE X (.Attribute e fld pos) (tRFld X.K fld te) := by
  refine ⟨fun pins s σ H Q I h => ?_⟩
  refine attr_of hb (thn (he.run pins s σ H _ I h) fun u s1 ⟨x, H1, I1, rx, a, C, d, fs, v, ex, T, ha, hd, hl, q⟩ => ?_)
  subst ex
  obtain rfl : u = Value.ref a := rx
  obtain ⟨oe, od, mA, J, hdd, rel, hns, hod⟩ := instR I1 ha hd
  obtain ⟨od', e1, l⟩ := lookIn_ns hns
  rw [hod] at e1
  cases e1
  have rl := rel fld
  rw [hl] at rl
  cases hm : mA fld with
  | none => rw [hm] at rl; exact rl.elim
  | some y =>
    rw [hm] at rl
    exact HandSPX.exc_get I1.kIn J T.ex.hg T.ex.hk T.ex.hs (PySem.W.findObj_own T.ex.hd T.no rfl (by rw [l, hm])) (handed_of rl) ⟨v, H1, I1.tok _, rl, q⟩
end K03


set_option Elab.async false
set_option maxRecDepth 100000
set_option maxHeartbeats 2000000
set_option linter.all false
namespace K03
open PySem PySem.Spec PyProof.Rows L2 LamX
/-! function values that are handed along and called later -/
/-- from (s0, H0) on: what stood there untracked stands still; the frames that came in between are new -/
structure From (fs0 : List Addr) (s0 : Shared) (H0 : Hp) (fs : List Addr) (s : Shared) (H : Hp) : Prop where
  un : Un fs0 [] H0 H s0.heap s.heap
  nw : ∀ L ∈ fs, L ∈ fs0 ∨ s0.heap.get? L = none
theorem From.refl (fs0 : List Addr) (s0 : Shared) (H0 : Hp) : From fs0 s0 H0 fs0 s0 H0 :=
  ⟨⟨fun _ _ e _ _ _ => e, fun _ o e _ _ _ => ⟨o.slots, e⟩, fun _ _ _ n _ => n, fun _ o e _ => ⟨o, e⟩, fun _ _ e => e, fun _ _ _ e => e, fun _ ps e => ⟨#[], by rw [e]; simp⟩⟩, fun _ m => .inl m⟩
/-- what is asked of the state at which such a value is called -/
def Acts (P : Program) (w : World) (K : PySem.W.Frag) (mg : Str → Option Value) (base : Heap) (fs0 : List Addr) (s0 : Shared) (H0 : Hp) (k : Nat) (f : Addr) (pre : Hp → Prop) (tl : XK → Hp → VK → Prop) : Prop :=
  ∀ (A : Around) (outer : List Env) (s : Shared) (H : Hp) (Q : VK) (E : XK), Room k A → Env0 P w K mg base A outer s H → From fs0 s0 H0 (frs outer) s H → pre H → tl E H Q →
    codeAny (model P w) A (.call (.ref f) ⟨[], []⟩) (CR (L2.CX P w) outer P w H s Q E) s
/-- the value itself -/
structure FunV (fs0 : List Addr) (s0 : Shared) (H0 : Hp) (f : Addr) : Prop where
  ob : PySem.W.FnAt f s0.heap
  nt : H0 f = none
  nf : f ∉ fs0
/-- a def that takes such a value and calls it -/
def TakesV (P : Program) (w : World) (K : PySem.W.Frag) (mg : Str → Option Value) (base : Heap) (j : Nat) (g : Addr) (TT : (XK → Hp → VK → Prop) → Hp → VK → Prop) : Prop :=
  ∀ (kl : Nat) (fs0 : List Addr) (s0 : Shared) (H0 : Hp) (f : Addr) (pre : Hp → Prop) (tl : XK → Hp → VK → Prop) (A : Around) (outer : List Env) (s : Shared) (H : Hp) (Q : VK), Room (kl + j) A → Env0 P w K mg base A outer s H → From fs0 s0 H0 (frs outer) s H →
    FunV fs0 s0 H0 f → Acts P w K mg base fs0 s0 H0 kl f pre tl → pre H → TT tl H Q → codeAny (model P w) A (.call (.ref g) ⟨[.ref f], []⟩) (CR L2.CX0 outer P w H s Q (fun _ _ _ => False)) s
section
variable {Z : Cx} {pins : List (Addr × Obj)} {σ : L2.St} {H : Hp} {s : Shared} {fs0 : List Addr} {s0 : Shared} {H0 : Hp}
theorem From.step (F : From fs0 s0 H0 Z.fs Z.s_0 Z.H_0) (hex : Z.ex = []) (I : Inv Z pins σ H s) : From fs0 s0 H0 (frs Z.stack) s H := by
  have nfs : ∀ b o, s0.heap.get? b = some o → b ∉ fs0 → b ∉ Z.fs := fun b o e hb m => by
    rcases F.nw b m with z | z
    · exact hb z
    · rw [e] at z; cases z
  have nx : ∀ b : Addr, b ∉ Z.ex := fun b => by rw [hex]; simp
  refine ⟨⟨fun b o e n hb hx => ?_, fun b o e n hb hx => ?_, fun b o e n hx => ?_, fun b o e hx => ?_, fun b xs e => I.base.tups b xs (F.un.tups b xs e), fun b o u e => I.base.frzs b o u (F.un.frzs b o u e), fun b ps e => ?_⟩, fun L m => ?_⟩
  · exact I.base.keep b o (F.un.keep b o e n hb hx) (F.un.free b o e n hx) (nfs b o e hb) (nx b)
  · obtain ⟨sl, e1⟩ := F.un.any e n hx
    obtain ⟨sl2, e2⟩ := I.base.any e1 (F.un.free b o e n hx) (nx b)
    exact ⟨sl2, e2⟩
  · obtain ⟨o', e1⟩ := F.un.there b o e hx
    exact I.base.free b o' e1 (F.un.free b o e n hx) (nx b)
  · obtain ⟨o', e1⟩ := F.un.there b o e hx
    exact I.base.there b o' e1 (nx b)
  · obtain ⟨m1, e1⟩ := F.un.tbls b ps e
    obtain ⟨m2, e2⟩ := I.base.tbls b _ e1
    exact ⟨m1 ++ m2, by rw [e2]; simp⟩
  · have m' := I.stkSub L m
    rcases List.mem_cons.mp m' with z | z
    · right
      cases q : s0.heap.get? L with
      | none => rfl
      | some o =>
        obtain ⟨o', e1⟩ := F.un.there L o q (by simp)
        have h1 := Heap.lt_size e1
        have h2 := I.ok.above
        rw [z] at h1
        exact absurd (Nat.lt_of_lt_of_le h1 h2) (Nat.lt_irrefl _)
    · exact F.nw L z
theorem FunV.at (V : FunV fs0 s0 H0 f) {fs : List Addr} {s : Shared} {H : Hp} (F : From fs0 s0 H0 fs s H) : PySem.W.FnAt f s.heap := by
  obtain ⟨cls, d, fd, sl, e⟩ := V.ob
  exact ⟨cls, d, fd, sl, F.un.keep f _ e V.nt V.nf (by simp)⟩
end
section
variable {Z : Cx} {fs0 : List Addr} {s0 : Shared} {H0 : Hp} {k : Nat} {f : Addr} {pre : Hp → Prop} {tl : XK → Hp → VK → Prop}
/-- a(), a holding such a value -/
theorem pe_actV {W : WX} {i : Nat} {a : Str} {p1 p2 : Pos} (F : From fs0 s0 H0 Z.fs Z.s_0 Z.H_0) (hex : Z.ex = []) (V : FunV fs0 s0 H0 f) (AC : Acts Z.prog Z.w Z.K Z.mg Z.base fs0 s0 H0 k f pre tl) (tk : Takes Z W) (hr : Room k Z.A)
    (hN : Z.N[i]? = some a) (hv : Vis Z.env.scope a) (hd : (a == ("__debug__" : Str)) = false := by decide) (hcd : (a == ("__classdict__" : Str)) = false := by decide) :
    PE Z (.Call (.Name a p1) [] [] p2) (fun σZ HZ Q => ∃ (E : XK) (Q0 : VK), (∀ cls d H', E cls d H' → W cls d σZ H') ∧ (∀ v H', Q0 v H' → Q v H') ∧ σZ[i]? = some (some (.ref f)) ∧ pre HZ ∧ tl E HZ Q0) := by
  refine ⟨fun pinsZ sZ σZ HZ Q IZ h => ?_⟩
  obtain ⟨E, Q0, hW, hQ, hs, hc, ht⟩ := h
  refine wpAny_Call_Name_kw (thn ((pe_var (pos := p1) (i := i) hN hv hd hcd).run pinsZ sZ σZ HZ (fun v H1 => v = .ref f ∧ H1 = HZ) IZ ⟨.ref f, hs, rfl, rfl⟩) fun u s1 ⟨v, H1, I1, r1, q1⟩ => ?_)
  obtain ⟨ev, eH⟩ := q1
  subst ev
  rw [eH] at I1
  obtain rfl : u = Value.ref f := r1
  have F1 := F.step hex I1
  refine PySem.W.callWith_F0 (V.at F1) ?_
  refine wpAny_call (codeAny_mono (AC Z.A Z.stack s1 HZ Q0 E hr I1.env0 F1 hc ht) fun r s' hq => ?_)
  cases r with
  | error e => exact tk e s' (XE.of_call I1 hW hq)
  | ok fl =>
    cases fl with
    | ret u => exact (let ⟨v, H', J, rv, q⟩ := I1.after hq; ⟨v, H', J, rv, hQ _ _ q⟩)
    | next => exact False.elim hq
    | brk => exact False.elim hq
    | cont => exact False.elim hq
/-- x(a), a holding such a value, x a def that takes it -/
theorem pe_passV {j i : Nat} {g : Addr} {TT : (XK → Hp → VK → Prop) → Hp → VK → Prop} {x a : Str} {p pa pos : Pos} (F : From fs0 s0 H0 Z.fs Z.s_0 Z.H_0) (hex : Z.ex = []) (V : FunV fs0 s0 H0 f) (AC : Acts Z.prog Z.w Z.K Z.mg Z.base fs0 s0 H0 k f pre tl) (hG : TakesV Z.prog Z.w Z.K Z.mg Z.base j g TT) (hr : Room (k + j) Z.A)
    (hg : Gl Z x) (hm : Z.mg x = some (.ref g)) (hk : PySem.W.keepIn Z.K (.ref g) = true) (hN : Z.N[i]? = some a) (hv : Vis Z.env.scope a) (hdb : (x == ("__debug__" : Str)) = false := by decide) (hd : (a == ("__debug__" : Str)) = false := by decide) (hcd : (a == ("__classdict__" : Str)) = false := by decide) :
    PE Z (.Call (.Name x p) [.Name a pa] [] pos) (fun σZ HZ Q => ∃ Q0 : VK, (∀ v H', Q0 v H' → Q v H') ∧ σZ[i]? = some (some (.ref f)) ∧ pre HZ ∧ TT tl HZ Q0) := by
  refine ⟨fun pinsZ sZ σZ HZ Q IZ h => ?_⟩
  obtain ⟨Q0, hQ, hs, hc, ht⟩ := h
  refine wpAny_Call_Name_kw (ld_glob IZ hg hm ?_ hdb)
  refine PySem.W.callWith_K (h₀ := Z.base) IZ.ok.mod.kin hk ?_ (by rfl) (by rfl)
  show wpAny _ _ (spliced ((false, eval (.Name a pa) Z.env) :: backTo pos (starEach [] Z.env))) _ _ sZ
  refine Calls.spliced_cons (thn ((pe_var (pos := pa) (i := i) hN hv hd hcd).run pinsZ sZ σZ HZ (fun v H1 => v = .ref f ∧ H1 = HZ) IZ ⟨.ref f, hs, rfl, rfl⟩) fun u s1 ⟨v, H1, I1, r1, q1⟩ => ?_)
  obtain ⟨ev, eH⟩ := q1
  subst ev
  rw [eH] at I1
  obtain rfl : u = Value.ref f := r1
  refine Calls.spliced_nil ⟨I1.kIn, ?_⟩
  refine wpAny_call (codeAny_mono (hG k fs0 s0 H0 f pre tl Z.A Z.stack s1 HZ Q0 hr I1.env0 (F.step hex I1) V AC hc ht) fun r s' hq => ?_)
  cases r with
  | error e => exact (show False from hq).elim
  | ok fl =>
    cases fl with
    | ret u => exact (let ⟨v, H', J, rv, q⟩ := I1.after hq; ⟨v, H', J, rv, hQ _ _ q⟩)
    | next => exact False.elim hq
    | brk => exact False.elim hq
    | cont => exact False.elim hq
end
/-! a lambda handed to such a def -/
def tLamV (T : List (Addr × Str)) (q : Str) (TT : (XK → Hp → VK → Prop) → Hp → VK → Prop) (t : XK → TE) : TE := fun σ H Q => Tabs T H ∧ ∀ H1, ExtN H H1 → Tabs T H1 → TT (fun E H' Q' => t E σ H' Q') H1 Q
section
variable {X : Cx} {pins : List (Addr × Obj)} {σ : L2.St} {H : Hp} {s : Shared}
theorem lam_acts {f c' : Addr} {pm ctv : Value} {params : Arguments} {body : Expr} {scope : Scope} {k : Nat} {t : XK → TE} (I : Inv X pins σ H s) (L : LamS X.env.scope scope) (hf : s.heap.get? f = some (PySem.W.kla_obj "<lambda>" (X.env.qual ++ "<lambda>") params body scope (cloFrom X.env.cells scope.names []) pm c' ctv)) (hfn : H f = none) (hfr : f ∉ frs X.stack)
    (hbind : bindArgs (PySem.W.kla_fn "<lambda>" (X.env.qual ++ "<lambda>") params body scope (cloFrom X.env.cells scope.names []) pm (.ref c') ctv) ⟨[], []⟩ = pure [])
    (hbody : ∀ (A : Around) (outer : List Env) (s : Shared) (H : Hp) (E : XK), Room k (A.deeper (lamEnv X scope s.heap.objs.size f c')) → PE (lamCx X A outer s H E scope f c') body (t E)) :
    FunV (frs X.stack) s H f ∧ Acts X.prog X.w X.K X.mg X.base (frs X.stack) s H (k + 1) f (fun HZ => HZ c' = some (CodeO c' (X.env.qual ++ "<lambda>"))) (fun E H' Q' => t E σ H' Q') := by
  refine ⟨⟨⟨_, _, _, _, hf⟩, hfn, hfr⟩, fun A outer s1 HZ Q E hr e0 FR hc ht => ?_⟩
  have of1 := FR.un.keep f _ hf hfn hfr (by simp)
  obtain ⟨⟨oc, vs, t', hoc, hdc, hvc⟩, _, _⟩ := e0.hok c' _ hc
  have lim : s1.heap.NoLimit := e0.mod.nolimit.keeps fun b o e => (e0.bs b o e).1
  refine PySem.W.kla_callFunE hr.depth of1 rfl L.co L.gen rfl ⟨c', oc, vs, t', rfl, hoc, hdc, hvc⟩ ?_
  rw [hbind]
  refine wpAny_pure (wpAny_newFunctionEnv (fun y hy => (L.own y hy).2) (fun y hy => absurd hy (by simp)) (fun h₁ hns hsb => ⟨lim.fresh _ hsb, ?_⟩) L.kind)
  show codeAny _ _ (.expr body (lamEnv X scope s1.heap.objs.size f c')) _ _
  have kp : ∀ b o, s1.heap.get? b = some o → h₁.get? b = some o := fun b o e => hsb.extBut b o (Nat.ne_of_lt (Heap.lt_size e)) (Heap.get?_push_of_some _ e)
  have J : Inv (lamCx X A outer s1 HZ E scope f c') [] σ HZ { s1 with heap := h₁, toks := s1.toks + ([] : List (Str × Value)).length } :=
    lam_start2 I L e0 hr.hd FR.un hns kp
  refine PySem.W.kla_codeExpr (wpAny_mono ((hbody _ _ s1 HZ E (hr.deeper _)).run [] _ _ HZ Q J ht) (fun v s' hq => ?_) fun e s' hq => hq)
  obtain ⟨w', H', J', rv, q⟩ := hq
  exact ⟨w', H', J'.os, J'.bare, J'.base, J'.hok, rv, q⟩
theorem pe_lamV {T : List (Addr × Str)} {TT : (XK → Hp → VK → Prop) → Hp → VK → Prop} {x : Str} {g c P : Addr} {j k : Nat} {params : Arguments} {body : Expr} {scope : Scope} {t : XK → TE} {p lpos pos : Pos} (hg : Gl X x) (hm : X.mg x = some (.ref g)) (hk : PySem.W.keepIn X.K (.ref g) = true)
    (hG : TakesV X.prog X.w X.K X.mg X.base j g TT) (TB : TabB X.base X.mg c P) (hcode : X.env.code = .ref c) (hmT : (P, X.env.qual ++ "<lambda>") ∈ T) (hu : ∀ p ∈ T, p.1 = P → p.2 = X.env.qual ++ "<lambda>") (hr : Room (k + 1 + j) X.A) (L : LamS X.env.scope scope) (hdef : defaultsOf params X.env = ([], []))
    (hbind : ∀ (q : Str) (cl : List (Str × Addr)) (pm cv ctv : Value), bindArgs (PySem.W.kla_fn "<lambda>" q params body scope cl pm cv ctv) ⟨[], []⟩ = pure [])
    (hbody : ∀ (A : Around) (outer : List Env) (s : Shared) (H : Hp) (E : XK) (f c' : Addr), Room k (A.deeper (lamEnv X scope s.heap.objs.size f c')) → PE (lamCx X A outer s H E scope f c') body (t E))
    (hdb : (x == ("__debug__" : Str)) = false := by decide) :
    PE X (.Call (.Name x p) [.Lambda params body scope lpos] [] pos) (tLamV T (X.env.qual ++ "<lambda>") TT t) := by
  refine ⟨fun pins s σ H Q I h => ?_⟩
  obtain ⟨hT, h⟩ := h
  refine wpAny_Call_Name_kw (ld_glob I hg hm ?_ hdb)
  refine PySem.W.callWith_K (h₀ := X.base) I.ok.mod.kin hk ?_ (by rfl) (by rfl)
  show wpAny _ _ (spliced ((false, eval (.Lambda params body scope lpos) X.env) :: backTo pos (starEach [] X.env))) _ _ s
  refine Calls.spliced_cons (lam_make2 I TB hcode hmT hu hT hdef (L.has I.ok) fun f c' pm' ctv H1 s' I1 eN T1 hf hfn hfr hco => ?_)
  refine Calls.spliced_nil ⟨I1.kIn, ?_⟩
  obtain ⟨V, AC⟩ := lam_acts I1 L hf hfn hfr (hbind _ _ _ _ _) fun A outer s H E hr2 => hbody A outer s H E f c' hr2
  refine wpAny_call (codeAny_mono (hG (k + 1) _ s' H1 f _ _ X.A X.stack s' H1 Q hr I1.env0 (From.refl _ _ _) V AC hco (h H1 eN T1)) fun r s2 hq => ?_)
  cases r with
  | error e => exact (show False from hq).elim
  | ok fl =>
    cases fl with
    | ret u => exact I1.after hq
    | next => exact False.elim hq
    | brk => exact False.elim hq
    | cont => exact False.elim hq
end
end K03


set_option Elab.async false
set_option maxRecDepth 100000
set_option maxHeartbeats 2000000
set_option linter.all false
namespace K03
open PySem PySem.Spec PyProof.Rows L2 LamX
abbrev sCaught : Stmt := top 49
theorem scCaught : FnScope ["work", "caught", "error"] ["work"] (defScope sCaught) := ⟨rfl, rfl, rfl, by decide +kernel, rfl, by decide +kernel, by decide +kernel⟩
/-- what is caught is given back -/
def TTc (K : PySem.W.Frag) (CW : Addr) : (XK → Hp → VK → Prop) → Hp → VK → Prop := fun tl H Q =>
  ∃ (E0 : XK) (Q0 : VK), tl E0 H Q0 ∧ (∀ cls d H', E0 cls d H' → PySem.W.exmOne K cls (.ref CW) = some true ∧ ∀ a, H' a = none → Q (.ref a) (upd H' a (ExR cls d a))) ∧ ∀ v H', Q0 v H' → Q .non H'
section
variable {P : Program} {w : World} {K : PySem.W.Frag} {mg : Str → Option Value} {base : Heap}
theorem caught_takes {g CW : Addr} {fd : FuncData} (F : Fun K "_law_caught" "_law_caught" sCaught g fd) (b : L2.Binds K fd ["work"] []) (gW : mg "WebError" = some (.ref CW)) : TakesV P w K mg base 1 g (TTc K CW) := by
  intro kl fs0 s0 H0 f pre tl A outer s H Q hr e0 FR Vf AC hp ht
  obtain ⟨oc, od, kV, doc, pm, an, cdv, ct, osl, rfl, lk, hcd⟩ := F.ex
  have KX : K.In s.heap := e0.mod.kin.keeps fun b o e => (e0.bs b o e).1
  refine run_ofS (N := ["work", "caught", "error"]) (ps := ["work"]) (us := [.ref f]) (vs := [.ref f]) lk hcd scCaught hr e0 (b s [.ref f] KX rfl) (.cons rfl .nil) rfl fun hr' => ?_
  have nd := scCaught.nd
  have key : ∃ t, PSs (cxOf L2.CX0 P w K mg base ["work", "caught", "error"] "_law_caught" (defScope sCaught) g cdv A outer s H (fun _ _ _ => False)).nox (defBody sCaught) t ∧ t { nx := fun _ H' => Q .non H', rt := Q } (L2.start ["work", "caught", "error"] [.ref f]) H := by
    refine ⟨_, pss_cons (ps_set (i := 1) nd rfl (Or.inl rfl) pe_non) (pss_cons (ps_try_keep (X := (cxOf L2.CX0 P w K mg base ["work", "caught", "error"] "_law_caught" (defScope sCaught) g cdv A outer s H (fun _ _ _ => False)).nox) (c := .ref CW) (i := 2)
        (tb := fun W D σ H => ∃ (Ech : XK) (Q0 : VK), (∀ cls d H', Ech cls d H' → W cls d σ H') ∧ (∀ (v : V) H', Q0 v H' → D.nx σ H') ∧ σ[0]? = some (some (.ref f)) ∧ pre H ∧ tl Ech H Q0)
        rfl rfl rfl nd rfl rfl ⟨rfl, by decide, .inl gW⟩ LamX.takes0 (fun W pn xe tk _ => ?_) (fun a oe cls d pn _ _ => pss_one (ps_set (i := 1) nd rfl (Or.inl rfl) (pv 2))))
      (pss_one (ps_ret (pv 1)))), ?_⟩
    · exact pss_one (ps_expr (pe_actV (i := 0) (a := "work") FR rfl Vf AC tk hr' rfl (.inl rfl)))
    · obtain ⟨E0, Q0, ht, hE, hQ⟩ := ht
      refine ⟨E0, Q0, fun cls d H' q => ?_, fun v H' q => ⟨_, rfl, hQ v H' q⟩, rfl, hp, ht⟩
      obtain ⟨e1, e2⟩ := hE cls d H' q
      exact ⟨true, e1, fun _ a na => ⟨_, rfl, fun _ => ⟨_, rfl, e2 a na⟩⟩, fun z => by cases z⟩
  obtain ⟨t, h1, h2⟩ := key
  exact ⟨t, h1.nox, h2⟩
theorem cr_either {X : Cx} {f : Value} {r r' : List L2.V → Hp → VK → Prop} (h : CallR X f r) (h' : CallR X f r') : CallR X f (fun xs H Q => r xs H Q ∨ r' xs H Q) :=
  fun pins s σ H xs us Q I rv q => q.elim (h pins s σ H xs us Q I rv) (h' pins s σ H xs us Q I rv)
/-- what the text says of BadNet -/
structure BadN (K : PySem.W.Frag) (CB CW : Addr) : Prop where
  get : XGet K CB "part"
  exm : PySem.W.exmOne K (.ref CB) (.ref CW) = some true
  one : PySem.W.kitOne K (.ref CB) (.ref CB) = some true
  non : PySem.W.kitOne K (.type "NoneType") (.ref CB) = some false
end
end K03


set_option Elab.async false
set_option maxRecDepth 100000
set_option maxHeartbeats 4000000
set_option linter.all false
namespace K03
open PySem PySem.Spec PyProof.Rows L2 NetM
abbrev sNetInit : Stmt := inClass (top 16) 0
abbrev sNetEq : Stmt := inClass (top 16) 1
theorem scNetInit : FnScope ["self", "places", "arrows", "arrow"] ["self", "places", "arrows"] (defScope sNetInit) := ⟨rfl, rfl, rfl, by decide +kernel, rfl, by decide +kernel, by decide +kernel⟩
/-- the way out: a BadNet of this part -/
def Rz (CB : Addr) (H : Hp) (E : XK) (v : L2.V) : Prop := ∀ (d : Addr) (H' : Hp), H d = none → Same H H' → H' d = some (.xd [("part", v)]) → E (.ref CB) (some d) H'
def Good (zs : Zs) (n : Nat) : Prop := (rounds (nums zs) n [0]).length = n ∧ (ordr (nums zs) n n []).length = n
def PrT (K : PySem.W.Frag) (H : Hp) (zs : Zs) : Prop := ∀ z ∈ zs, SqT K H z.1 [.int z.2.1, .int z.2.2]
theorem PrT.same {K : PySem.W.Frag} {H H' : Hp} {zs : Zs} (s : Same H H') (p : PrT K H zs) : PrT K H' zs := fun z m => sqt_same s (p z m)
/-- a Net of these places and arrows -/
def NetAt (K : PySem.W.Frag) (CN : Addr) (H : Hp) (x : Addr) (n : Nat) (zs : List (Int × Int)) : Prop :=
  ∃ (dx t : Addr) (ws : Zs), H x = some (.ins CN dx [("places", .int n), ("arrows", .ref t)]) ∧ H t = some (.tup (rf ws)) ∧ PrT K H ws ∧ nums ws = zs
theorem NetAt.same {K : PySem.W.Frag} {CN : Addr} {H H' : Hp} {x : Addr} {n : Nat} {zs : List (Int × Int)} (s : Same H H') (h : NetAt K CN H x n zs) : NetAt K CN H' x n zs := by
  obtain ⟨dx, t, ws, a, b, c, d⟩ := h
  exact ⟨dx, t, ws, s _ _ a, s _ _ b, c.same s, d⟩
def BadPl (K : PySem.W.Frag) (H : Hp) (x : L2.V) : Prop := ∃ (t : Value) (b c : Bool), TyX K H x t ∧ PySem.W.kitOne K t (.type "int") = some b ∧ PySem.W.kitOne K t (.type "bool") = some c ∧ ((b && !c) = false ∨ ((b && !c) = true ∧ ∃ i : Int, x = .int i ∧ ¬ (1 ≤ i ∧ i ≤ 8)))
/-- what is handed in as arrows, and what becomes of it -/
inductive ArV (K : PySem.W.Frag) (H : Hp) (n : Nat) : L2.V → Option Zs → Prop
  | no {x : L2.V} {t : Value} (h : TyX K H x t) (z : PySem.W.kitAny K t [.type "list", .type "tuple"] = some false) : ArV K H n x none
  | bad {a : Addr} {xs : List L2.V} {bs : List Bool} (h : SqA K H a xs) (ha : ArL K H n xs bs) (hl : xs.length < 1000) (z : (decide (xs.length ≤ 12) && bs.all id) = false) : ArV K H n (.ref a) none
  | ok {a : Addr} {zs : Zs} (h : SqA K H a (rf zs)) (hp : PrA K H zs) (hl : zs.length ≤ 12) (hE : ∀ t h, (t, h) ∈ nums zs → InR n t ∧ InR n h ∧ t ≠ h) : ArV K H n (.ref a) (some zs)
def spNetInit (K : PySem.W.Frag) (CN CB : Addr) : Sp := fun vs H Q E => ∃ (x dx : Addr) (pl ar : L2.V), vs = [.ref x, pl, ar] ∧ H x = some (.ins CN dx []) ∧
  ((BadPl K H pl ∧ Rz CB H E (.str "places")) ∨ ∃ (n : Nat) (o : Option Zs), pl = .int n ∧ 0 < n ∧ n ≤ 8 ∧ ArV K H n ar o ∧ ((∀ zs, o = some zs → ¬ Good zs n) → Rz CB H E (.str "arrows")) ∧
    (∀ zs, o = some zs → Good zs n → ∀ H', NetAt K CN H' x n (nums zs) → (∀ b o, H b = some o → b ≠ x → H' b = some o) → Q .non H'))
/-- what the text says of BadNet's making -/
structure BadM (P : Program) (w : World) (K : PySem.W.Frag) (mg : Str → Option Value) (base : Heap) (CB fB : Addr) (fdB : FuncData) : Prop where
  oex : OexC K CB
  ini : PySem.W.findIn K (.ref CB) "__init__" = some (some (.ref fB))
  tyI : PySem.W.typeIn K (.ref fB) = some (.type "function")
  ok : FnOk P w K mg base CX0 2 fB fdB ["self", "part"] (spInitX CB "part")
  bd : L2.Binds K fdB ["self", "part"] []
  g : mg "BadNet" = some (.ref CB)
theorem mko_of {C : Addr} {fld : Str} {σ : L2.St} {H : Hp} {E : XK} {ta : TA} {v : L2.V} (ht : ∀ Q, Q [v] H → ta σ H Q) (k : ∀ (d : Addr) (H' : Hp), H d = none → Same H H' → H' d = some (.xd [(fld, v)]) → E (.ref C) (some d) H') : tMkO C (spInitX C fld) [] ta σ H E := by
  refine ht _ ⟨by show 1 ≤ 1000; decide, fun a na => ⟨a, v, rfl, upd_same, fun d hd hda => ⟨rfl, d, [(fld, v)], upd_same, ?_, ?_, ?_⟩⟩⟩
  · rw [upd_ne hda, upd_same]
  · rw [upd_ne hda] at hd; exact hd
  · have nd : H d = none := by rw [upd_ne hda] at hd; exact hd
    refine k d _ nd (fun b o e => ?_) upd_same
    have ha : b ≠ a := ne_of_none e na
    have hb : b ≠ d := ne_of_none e nd
    rw [upd_ne hb, del_ne ha, upd_ne ha, upd_ne hb, upd_ne ha]
    exact e
/-- good pairs, as _are_arrows sees them -/
theorem arl_of {K : PySem.W.Frag} {H : Hp} {n : Nat} : ∀ {zs : Zs}, PrA K H zs → (∀ t h, (t, h) ∈ nums zs → InR n t ∧ InR n h ∧ t ≠ h) → ArL K H n (rf zs) (zs.map fun _ => true)
  | [], _, _ => .nil
  | z :: zs, hp, hE => by
    obtain ⟨a, t, h⟩ := z
    obtain ⟨⟨t0, t1⟩, ⟨h0, h1⟩, ne⟩ := hE t h (List.mem_cons_self ..)
    refine .cons ?_ (arl_of (fun z m => hp z (List.mem_cons_of_mem _ m)) fun t h m => hE t h (List.mem_cons_of_mem _ m))
    have h2 : SqA K H a [.int t, .int h] := hp _ (List.mem_cons_self ..)
    have := ArJ.two (K := K) (H := H) (n := n) h2 (EndJ.ok (i := t) ⟨t0, by omega⟩) (EndJ.ok (i := h) ⟨h0, by omega⟩)
    have e : twoOk (some t) (some h) = true := by
      show (!decide (V.int t = V.int h)) = true
      rw [decide_eq_false (fun z => ne (V.int.inj z))]
      rfl
    rw [e] at this
    exact this
end K03


set_option Elab.async false
set_option maxRecDepth 100000
set_option maxHeartbeats 4000000
set_option linter.all false
namespace K03
open PySem PySem.Spec PyProof.Rows L2 NetM
/-- all but the instances stay -/
def Sm (H H' : Hp) : Prop := ∀ b o, H b = some o → (∀ C dx fs, o ≠ .ins C dx fs) → H' b = some o
theorem Sm.of {H H' : Hp} (s : Same H H') : Sm H H' := fun b o e _ => s b o e
theorem Sm.put {H : Hp} {x C dx : Addr} {fs : List (Str × L2.V)} {o : HO} (h : H x = some (.ins C dx fs)) : Sm H (upd H x o) := fun b u e n => by
  have hb : b ≠ x := fun z => by
    rw [z, h] at e
    exact n _ _ _ (Option.some.inj e).symm
  rw [upd_ne hb]
  exact e
theorem Sm.trans {H H1 H2 : Hp} (a : Sm H H1) (b : Sm H1 H2) : Sm H H2 := fun c o e n => b c o (a c o e n) n
theorem Sm.sqt {K : PySem.W.Frag} {H H' : Hp} (s : Sm H H') {a : Addr} {xs : List L2.V} (h : SqT K H a xs) : SqT K H' a xs := by
  rcases h with (h | ⟨o, h⟩) | h
  · exact .inl (.inl (s _ _ h (fun _ _ _ z => by cases z)))
  · exact .inl (.inr ⟨o, s _ _ h (fun _ _ _ z => by cases z)⟩)
  · exact .inr h
theorem Sm.sql {K : PySem.W.Frag} {H H' : Hp} (s : Sm H H') {a : Addr} {xs : List L2.V} (h : SqL K H a xs) : SqL K H' a xs := by
  rcases h with (h | ⟨o, h⟩) | h
  · exact .inl (.inl (s _ _ h (fun _ _ _ z => by cases z)))
  · exact .inl (.inr ⟨o, s _ _ h (fun _ _ _ z => by cases z)⟩)
  · exact .inr h
theorem Sm.sqa {K : PySem.W.Frag} {H H' : Hp} (s : Sm H H') {a : Addr} {xs : List L2.V} (h : SqA K H a xs) : SqA K H' a xs := by
  rcases h with h | h
  · exact .inl (s.sql h)
  · exact .inr (s.sqt h)
theorem PrT.put {K : PySem.W.Frag} {H : Hp} {zs : Zs} {l : Addr} {xs : List L2.V} {o : HO} (p : PrT K H zs) (h : H l = some (.lst xs)) : PrT K (upd H l o) zs := fun z m => by
  rcases p z m with (q | ⟨o', q⟩) | q
  · exact .inl (.inl (by rw [upd_ne (fun e => by rw [e, h] at q; cases q)]; exact q))
  · exact .inl (.inr ⟨o', by rw [upd_ne (fun e => by rw [e, h] at q; cases q)]; exact q⟩)
  · exact .inr q
theorem PrT.app {K : PySem.W.Frag} {H : Hp} {zs : Zs} {t : Addr} {a b : Int} (p : PrT K H zs) (h : SqT K H t [.int a, .int b]) : PrT K H (zs ++ [(t, a, b)]) := fun z m => by
  rcases List.mem_append.mp m with m | m
  · exact p z m
  · rw [List.mem_singleton] at m
    subst m
    exact h
/-- the program's own small defs -/
structure Small (P : Program) (w : World) (K : PySem.W.Frag) (mg : Str → Option Value) (base : Heap) where
  fN : Addr
  fL : Addr
  fT : Addr
  fA : Addr
  fH : Addr
  fO : Addr
  dN : FuncData
  dA : FuncData
  dH : FuncData
  dO : FuncData
  tk : Nat
  okN : FnOk P w K mg base CX0 1 fN dN ["thing"] (spIsNum K)
  okA : FnOk P w K mg base CX0 3 fA dA ["places", "thing"] (spAre K)
  okH : FnOk P w K mg base CX0 1 fH dH ["places", "arrows"] (spHangs K)
  okO : FnOk P w K mg base CX0 1 fO dO ["places", "arrows"] (spBehind K)
  bN : L2.Binds K dN ["thing"] []
  bA : L2.Binds K dA ["places", "thing"] []
  bH : L2.Binds K dH ["places", "arrows"] []
  bO : L2.Binds K dO ["places", "arrows"] []
  gN : mg "is_number" = some (.ref fN)
  gA : mg "_are_arrows" = some (.ref fA)
  gH : mg "_hangs_together" = some (.ref fH)
  gO : mg "places_behind" = some (.ref fO)
  kN : PySem.W.keepIn K (.ref fN) = true
  kA : PySem.W.keepIn K (.ref fA) = true
  kH : PySem.W.keepIn K (.ref fH) = true
  kO : PySem.W.keepIn K (.ref fO) = true
  gMP : mg "MOST_PLACES" = some (.int 8 tk)
  mLen : mg "len" = none
  mTup : mg "tuple" = none
/-- what the text says of the class Net -/
structure NetT (K : PySem.W.Frag) (mg : Str → Option Value) (CN : Addr) : Prop where
  cl : Cls K CN
  nP : NoAttr K CN "places"
  nA : NoAttr K CN "arrows"
  g : mg "Net" = some (.ref CN)
theorem Rz.same {CB : Addr} {H H' : Hp} {E : XK} {v : L2.V} (s : Same H H') (h : Rz CB H E v) : Rz CB H' E v := fun d H2 nd s2 e => h d H2 (by
  cases q : H d with
  | none => rfl
  | some o => rw [s d o q] at nd; cases nd) (s.trans s2) e
theorem iteTb {c : Bool} {A B : Prop} (e : c = true) (h : A) : if c = true then A else B := by rw [if_pos e]; exact h
theorem iteFb {c : Bool} {A B : Prop} (e : c = false) (h : B) : if c = true then A else B := by rw [if_neg (by rw [e]; exact Bool.false_ne_true)]; exact h
section
variable {P : Program} {w : World} {K : PySem.W.Frag} {mg : Str → Option Value} {base : Heap}
theorem ok_netinit {f CN CB fB : Addr} {fd fdB : FuncData} (F : Fun K "__init__" "Net.__init__" sNetInit f fd) (BM : BadM P w K mg base CB fB fdB) (T : NetT K mg CN) (S : Small P w K mg base) : FnOk P w K mg base (L2.CX P w) 4 f fd ["self", "places", "arrows"] (spNetInit K CN CB) := by
  refine F.okX scNetInit (fun vs H Q E h => ?_) (fun cdv A outer s H vs Q E hr h => ?_)
  · obtain ⟨x, dx, pl, ar, rfl, _⟩ := h
    rfl
  · obtain ⟨x, dx, pl, ar, rfl, hx, h⟩ := h
    have nd := scNetInit.nd
    have r1 : Room 1 _ := hr.mono (by decide)
    refine ⟨_, pss_cons (ps_if (PW.pt (pw_or (pt_not (pt_val (pe_call S.okN r1 (by rfl) S.gN S.kN S.bN .nil pass0 (pa_cons (pv 1) pa_nil)))) (pw_or1 (pt_not (pt_chain op_le op_le pe_int (pv 1) (pe_glob (v := .int 8) (by rfl) S.gMP ⟨S.tk, rfl⟩))))))
        (pss_one (ps_raise rfl (takes_of rfl rfl rfl rfl) (pmk_oex BM.oex BM.ini BM.tyI BM.ok hr BM.bd .nil pass0 (by rfl) BM.g (pa_cons pe_str pa_nil)))) pss_nil)
      (pss_cons (ps_if (PW.pt (pw_or (pt_not (pt_val (pe_call S.okA hr (by rfl) S.gA S.kA S.bA .nil pass0 (pa_cons (pv 1) (pa_cons (pv 2) pa_nil))))) (pw_or1 (pt_not (pt_val (pe_call S.okH r1 (by rfl) S.gH S.kH S.bH .nil pass0 (pa_cons (pv 1) (pa_cons (pv 2) pa_nil))))))))
        (pss_one (ps_raise rfl (takes_of rfl rfl rfl rfl) (pmk_oex BM.oex BM.ini BM.tyI BM.ok hr BM.bd .nil pass0 (by rfl) BM.g (pa_cons pe_str pa_nil)))) pss_nil)
      (pss_cons (ps_if (pt_cmpR op_ne (pe_callB call_len_seq (by rfl) S.mLen PySem.boot_len (pa_cons (pe_call S.okO r1 (by rfl) S.gO S.kO S.bO .nil pass0 (pa_cons (pv 1) (pa_cons (pv 2) pa_nil))) pa_nil)) (pv 1) (nomark _))
        (pss_one (ps_raise rfl (takes_of rfl rfl rfl rfl) (pmk_oex BM.oex BM.ini BM.tyI BM.ok hr BM.bd .nil pass0 (by rfl) BM.g (pa_cons pe_str pa_nil)))) pss_nil)
      (pss_cons (ps_fld (pv 0) (pv 1) rfl)
      (pss_one (ps_fld (pv 0) (pe_callTy call_tuple_of (by rfl) S.mTup (by decide +kernel) (pa_cons
        (pe_lc (own := [("arrow", 3)]) (g := gName 3) (by rfl) nd (pi_either (pi_list (pv 2)) (pi_tup (pv 2))) (blkOk_by (N := ["self", "places", "arrows", "arrow"]) (sc := defScope sNetInit) (by decide +kernel)) (fun _ _ _ _ _ => pg_name (i := 3) nd rfl (Or.inl rfl)) (fun _ _ _ _ _ => pts_nil)
          (fun _ _ _ _ _ => pe_callTy (show CallR _ _ (fun xs H Q => ∃ p ys, xs = [.ref p] ∧ ((SqL K H p ys ∧ ∀ l, H l = none → Q (.ref l) (upd H l (.tup ys))) ∨ (SqT K H p ys ∧ Q (.ref p) H))) from call_tuple_of) (by rfl) S.mTup (by decide +kernel) (pa_cons (pv 3) pa_nil))) pa_nil)) rfl))))), ?_⟩
    rcases h with ⟨⟨t, b, c, ht, hb, hc, hbc⟩, hR⟩ | ⟨n, o, rfl, n0, n8, hA, hR, k⟩
    · refine ⟨_, rfl, pl, t, b, c, rfl, ht, hb, hc, ?_⟩
      rcases hbc with e | ⟨e, i, rfl, hi⟩
      · rw [e]
        refine ⟨_, rfl, ?_⟩
        refine iteT ?_
        refine iteT ?_
        exact mko_of (fun Q q => q) hR
      · rw [e]
        refine ⟨_, rfl, ?_⟩
        refine iteF ?_
        refine ⟨_, rfl, _, _, rfl, rfl, _, rfl, ite2 (fun c1 => ?_) (fun c1 => ?_)⟩
        · have h0 := of_decide_eq_true c1
          refine ⟨_, _, rfl, rfl, _, rfl, ?_⟩
          refine iteTb (by rw [decide_eq_false fun z => hi ⟨h0, z⟩]; rfl) ?_
          exact mko_of (fun Q q => q) hR
        · refine ⟨_, rfl, ?_⟩
          refine iteT ?_
          exact mko_of (fun Q q => q) hR
    · refine ⟨_, rfl, .int n, .type "int", true, false, rfl, .base (.int n), (num_int K).1, (num_int K).2, ?_⟩
      refine ⟨_, rfl, ?_⟩
      refine iteF ?_
      refine ⟨_, rfl, _, _, rfl, rfl, _, rfl, iteTb (decide_eq_true (by omega)) ?_⟩
      refine ⟨_, _, rfl, rfl, _, rfl, ?_⟩
      refine iteFb (by rw [decide_eq_true (by omega)]; rfl) ?_
      cases hA with
      | no ht hk =>
        refine ⟨_, rfl, _, rfl, n, _, rfl, .inl ⟨_, ht, hk, fun H1 s1 => ⟨_, rfl, ?_⟩⟩⟩
        refine iteT ?_
        refine iteT ?_
        exact mko_of (fun Q q => q) (Rz.same s1 (hR fun zs e => by cases e))
      | @bad a xs bs hS hb hl z =>
        refine ⟨_, rfl, _, rfl, n, _, rfl, .inr ⟨a, xs, bs, rfl, hS, hb, hl, fun H1 s1 => ⟨_, rfl, ?_⟩⟩⟩
        rw [z]
        refine iteT ?_
        refine iteT ?_
        exact mko_of (fun Q q => q) (Rz.same s1 (hR fun zs e => by cases e))
      | @ok a zs hS hp hl hE =>
        have hal : ((zs.map fun _ => true).all id) = true := by simp
        refine ⟨_, rfl, _, rfl, n, _, rfl, .inr ⟨a, rf zs, zs.map fun _ => true, rfl, hS, arl_of hp hE, by unfold rf; rw [List.length_map]; omega, fun H1 s1 => ⟨_, rfl, ?_⟩⟩⟩
        rw [hal, decide_eq_true (by unfold rf; rw [List.length_map]; omega)]
        refine iteF ?_
        refine ⟨_, rfl, _, rfl, a, n, zs, rfl, hS.same s1, hp.same s1, by omega, n0, n8, fun t h m => ⟨(hE t h m).1, (hE t h m).2.1⟩, fun H2 s2 => ⟨_, rfl, ?_⟩⟩
        by_cases g1 : (rounds (nums zs) n [0]).length = n
        · rw [g1, decide_eq_true rfl]
          refine iteF ?_
          refine ⟨_, rfl, _, rfl, a, n, zs, rfl, (hS.same s1).same s2, (hp.same s1).same s2, by omega, n0, n8, fun p H3 s3 np hpp => ?_⟩
          refine ⟨p, _, rfl, .inl (SqL.of hpp), _, rfl, rfl, _, rfl, ?_⟩
          rw [List.length_map]
          have s03 : Same H H3 := (s1.trans s2).trans s3
          by_cases g2 : (ordr (nums zs) n n []).length = n
          · rw [g2, decide_eq_true rfl]
            refine iteF ?_
            refine ⟨_, rfl, _, rfl, x, CN, dx, [], rfl, s03 _ _ hx, T.cl, T.nP, (by show 0 < 1000; decide), ?_⟩
            have hxa : (upd H3 x (.ins CN dx (putF "places" (.int n) []))) x = some (.ins CN dx [("places", .int n)]) := upd_same
            have sma : Sm H (upd H3 x (.ins CN dx (putF "places" (.int n) []))) := (Sm.of s03).trans (Sm.put (s03 _ _ hx))
            have kea : ∀ b o, H b = some o → b ≠ x → (upd H3 x (.ins CN dx (putF "places" (.int n) []))) b = some o := fun b o e hb => by
              rw [upd_ne hb]
              exact s03 _ _ e
            generalize upd H3 x (.ins CN dx (putF "places" (.int n) [])) = Ha at hxa sma kea
            have hSa : SqA K Ha a (rf zs) := sma.sqa hS
            have hpa : PrA K Ha zs := fun z m => sma.sqa (hp z m)
            have fin : ∀ (D : Addr) (Hd : Hp) (ws : Zs), nums ws = nums zs → PrT K Hd ws → Hd D = some (.lst (rf ws)) → Same Ha Hd → ∀ l, Hd l = none → Q .non (upd (upd Hd l (.tup (rf ws))) x (.ins CN dx (putF "arrows" (.ref l) [("places", .int n)]))) := by
              intro D Hd ws hw pw eD sd l nl
              have nxl : x ≠ l := ne_of_none (sd _ _ hxa) nl
              have sml : Sm Hd (upd (upd Hd l (.tup (rf ws))) x (.ins CN dx (putF "arrows" (.ref l) [("places", .int n)]))) := (Sm.of (same_upd nl)).trans (Sm.put (same_upd nl _ _ (sd _ _ hxa)))
              refine k zs rfl ⟨g1, g2⟩ _ ⟨dx, l, ws, by rw [upd_same]; rfl, by rw [upd_ne nxl.symm, upd_same], fun z m => sml.sqt (pw z m), hw⟩ fun b o e hb => ?_
              rw [upd_ne hb]
              exact same_upd nl _ _ (sd _ _ (kea b o e hb))
            rcases hSa with hSa | hSa
            · skip
              refine .inl ⟨_, rfl, a, rfl, ⟨_, hSa⟩, fun D nD => ?_⟩
              refine lc_list (K := K) (a := a) (xs := rf zs) (fun j Hd => ∃ ws : Zs, nums ws = (nums zs).take j ∧ PrT K Hd ws ∧ Hd D = some (.lst (rf ws)) ∧ Same Ha Hd) ⟨[], rfl, fun z m => by simp at m, upd_same, same_upd nD⟩ (fun j Hd _ hh => by obtain ⟨_, _, _, _, s⟩ := hh; exact s.seq hSa) ?_ ?_
              · rintro j y Hd hj ⟨ws, hw, pw, eD, sd⟩
                obtain ⟨⟨z, z1, z2⟩, hz, rfl⟩ := rf_inv hj
                have hzm : (z, z1, z2) ∈ zs := List.mem_of_getElem? hz
                have hil : j < zs.length := (List.getElem?_eq_some_iff.mp hz).1
                have hwl : ws.length ≤ j := by
                  have := congrArg List.length hw
                  unfold nums at this
                  rw [List.length_map, List.length_take, List.length_map] at this
                  omega
                have htk : (nums zs).take (j + 1) = (nums zs).take j ++ [(z1, z2)] := by
                  rw [List.take_add_one, nums_get hz]; rfl
                have hnw : ∀ l : Addr, nums (ws ++ [(l, z1, z2)]) = (nums zs).take (j + 1) := fun l => by
                  rw [htk, ← hw]
                  unfold nums
                  rw [List.map_append]
                  rfl
                have hq : SqA K Hd z [.int z1, .int z2] := (hpa _ hzm).same sd
                refine ⟨rfl, ?_⟩
                dsimp only [tYes]
                refine iteT ?_
                refine ⟨_, rfl, z, [.int z1, .int z2], rfl, ?_⟩
                rcases hq with q | q
                · refine .inl ⟨q, fun l nl => ⟨_, same_upd nl _ _ eD, small_2000 (by rw [rf_len]; omega), ?_⟩⟩
                  refine ⟨ws ++ [(l, z1, z2)], hnw l, ((pw.same (same_upd nl)).app (.inl (.inl upd_same))).put (same_upd nl _ _ eD), by rw [upd_same, rf_app], same_put (sd.trans (same_upd nl)) nD⟩
                · refine .inr ⟨q, ⟨_, eD, small_2000 (by rw [rf_len]; omega), ?_⟩⟩
                  refine ⟨ws ++ [(z, z1, z2)], hnw z, (pw.app q).put eD, by rw [upd_same, rf_app], same_put sd nD⟩
              · rintro Hd ⟨ws, hw, pw, eD, sd⟩
                have hln : (rf zs).length = (nums zs).length := by unfold rf nums; rw [List.length_map, List.length_map]
                rw [hln, List.take_length] at hw
                exact ⟨D, rf ws, rfl, .inl ⟨SqL.of eD, fun l nl => ⟨_, rfl, x, CN, dx, [("places", .int n)], rfl, same_upd nl _ _ (sd _ _ hxa), T.cl, T.nA, (by show 1 < 1000; decide), fin D Hd ws hw pw eD sd l nl⟩⟩⟩
            · skip
              refine .inr ⟨_, rfl, a, rfl, ⟨_, hSa⟩, fun D nD => ?_⟩
              refine lc_tup (K := K) (a := a) (xs := rf zs) (fun j Hd => ∃ ws : Zs, nums ws = (nums zs).take j ∧ PrT K Hd ws ∧ Hd D = some (.lst (rf ws)) ∧ Same Ha Hd) ⟨[], rfl, fun z m => by simp at m, upd_same, same_upd nD⟩ (fun j Hd _ hh => by obtain ⟨_, _, _, _, s⟩ := hh; exact sqt_same s hSa) ?_ ?_
              · rintro j y Hd hj ⟨ws, hw, pw, eD, sd⟩
                obtain ⟨⟨z, z1, z2⟩, hz, rfl⟩ := rf_inv hj
                have hzm : (z, z1, z2) ∈ zs := List.mem_of_getElem? hz
                have hil : j < zs.length := (List.getElem?_eq_some_iff.mp hz).1
                have hwl : ws.length ≤ j := by
                  have := congrArg List.length hw
                  unfold nums at this
                  rw [List.length_map, List.length_take, List.length_map] at this
                  omega
                have htk : (nums zs).take (j + 1) = (nums zs).take j ++ [(z1, z2)] := by
                  rw [List.take_add_one, nums_get hz]; rfl
                have hnw : ∀ l : Addr, nums (ws ++ [(l, z1, z2)]) = (nums zs).take (j + 1) := fun l => by
                  rw [htk, ← hw]
                  unfold nums
                  rw [List.map_append]
                  rfl
                have hq : SqA K Hd z [.int z1, .int z2] := (hpa _ hzm).same sd
                refine ⟨rfl, ?_⟩
                dsimp only [tYes]
                refine iteT ?_
                refine ⟨_, rfl, z, [.int z1, .int z2], rfl, ?_⟩
                rcases hq with q | q
                · refine .inl ⟨q, fun l nl => ⟨_, same_upd nl _ _ eD, small_2000 (by rw [rf_len]; omega), ?_⟩⟩
                  refine ⟨ws ++ [(l, z1, z2)], hnw l, ((pw.same (same_upd nl)).app (.inl (.inl upd_same))).put (same_upd nl _ _ eD), by rw [upd_same, rf_app], same_put (sd.trans (same_upd nl)) nD⟩
                · refine .inr ⟨q, ⟨_, eD, small_2000 (by rw [rf_len]; omega), ?_⟩⟩
                  refine ⟨ws ++ [(z, z1, z2)], hnw z, (pw.app q).put eD, by rw [upd_same, rf_app], same_put sd nD⟩
              · rintro Hd ⟨ws, hw, pw, eD, sd⟩
                have hln : (rf zs).length = (nums zs).length := by unfold rf nums; rw [List.length_map, List.length_map]
                rw [hln, List.take_length] at hw
                exact ⟨D, rf ws, rfl, .inl ⟨SqL.of eD, fun l nl => ⟨_, rfl, x, CN, dx, [("places", .int n)], rfl, same_upd nl _ _ (sd _ _ hxa), T.cl, T.nA, (by show 1 < 1000; decide), fin D Hd ws hw pw eD sd l nl⟩⟩⟩
          · refine iteTb (by rw [decide_eq_false fun z => g2 (by have := V.int.inj z; omega)]; rfl) ?_
            exact mko_of (fun Q q => q) (Rz.same s03 (hR fun zs' e g => by cases e; exact g2 g.2))
        · refine iteTb (by rw [decide_eq_false fun z => g1 (by have := V.int.inj z; omega)]; rfl) ?_
          exact mko_of (fun Q q => q) (Rz.same (s1.trans s2) (hR fun zs' e g => by cases e; exact g1 g.1))
end
end K03


set_option Elab.async false
set_option maxRecDepth 100000
set_option maxHeartbeats 4000000
set_option linter.all false
namespace K03
open PySem PySem.Spec PyProof.Rows L2 NetM
open PySem.W (KitX InstAt Looks Frag findIn subIn typeIn)
section
variable {prog : Program} {w : World} {A : Around} {E : Value → Shared → Prop} {s : Shared} {K : Frag} {x C L f : Addr} {h₀ : Heap} {m : Str → Option Value} {ox : Obj} {od : Option Obj} {name : Str} {b tb : Value}
/-- a special method that is a builtin slot of object -/
theorem ifBound_B {M : Model} {args : List Value} {Q : Option Value → Shared → Prop} {id : String} (X : K.In s.heap) (I : InstAt s.heap x ox C od) (hs : findIn K (.ref C) name = some (some (.builtin id))) (hb : ∀ self, bindSpecial (.builtin id) self = pure (.builtin id, [self]))
    (h : wpAny M A (call (.builtin id) (.ref x :: args)) (fun v => Q (some v)) E s) : wpAny M A (callSpecialIfBound? (.ref x) name args) Q E s := by
  simp only [callSpecialIfBound?, bindSpecialIfBound?]
  refine wpAny_holding (wpAny_bind (wpAny_bind (wpAny_bind (I.type.here ((PySem.W.looks_findIn X hs).here ?_)))))
  simp only [hb]
  refine wpAny_bind (wpAny_askSetting (wpAny_ite ?_))
  have fin : wpAny M A (call (.builtin id) ([.ref x] ++ args) >>= fun v => pure (some v)) Q E s := wpAny_bind (wpAny_mono h (fun v s' h' => wpAny_pure h') fun _ _ h' => h')
  split
  · exact wpAny_bind (wpAny_pure (wpAny_pure fin))
  · exact wpAny_tryCatch (wpAny_bind (wpAny_pure (wpAny_pure fin)))
theorem objNe_K (X : K.In s.heap) (I : InstAt s.heap x ox C od) (he : findIn K (.ref C) "__eq__" = some (some (.ref f))) (hf : PySem.W.isFn K (.ref f) = true) (hu : A.units < cLine) {Q : Fin → Shared → Prop}
    (hcall : wpAny (model prog w) A (call (.ref f) [.ref x, b]) (fun v s' => ∃ c, v = .bool c ∧ Q (.done (.ret (.bool (!c)))) s') E s) :
    wpAny (model prog w) A (Builtin.«object.__ne__» ⟨[.ref x, b], []⟩) Q E s := by
  obtain ⟨hp, g, d, t, os⟩ := s
  unfold Builtin.«object.__ne__»
  repeat (first
    | with_reducible refine wpAny_cRoomFor hu ?_
    | (refine wpAny_bind (m := callSpecialIfBound? (.ref x) (Str.ofString "__eq__") [b])
        (PySem.W.ifBound_K X I he hf (wpAny_mono hcall (fun r s' hr => by
          obtain ⟨c, rfl, hq⟩ := hr
          repeat (first | exact hq | exact wpAny_pure hq | exact wpAny_truthy_bool hq | (refine wpAny_bind (m := truthy (.bool _)) (wpAny_truthy_bool ?_)) | wp_step)) fun _ _ e => e)))
    | wp_step)
/-- a != b, a of an own class with its own == alone -/
theorem ne_K {Q : Value → Shared → Prop} (hu : A.units + 1 < cLine) (F : Fr h₀ L s.heap m) (X₀ : K.In h₀) (I : InstAt s.heap x ox C od) (hb : Looks (model prog w) s.heap (typeOf b) tb) (hn : PySem.W.notFirst K C tb = true)
    (he : findIn K (.ref C) "__eq__" = some (some (.ref f))) (hf : PySem.W.isFn K (.ref f) = true) (hs : findIn K (.ref C) "__ne__" = some (some (.builtin "object.__ne__"))) (ho : subIn K (.ref C) (.type "object") = some true)
    (h : wpAny (model prog w) A.in1 (call (.ref f) [.ref x, b]) (fun v s' => ∃ c, v = .bool c ∧ Q (.bool (!c)) s') E s) : wpAny (model prog w) A (richCompare .NotEq (.ref x) b) Q E s := by
  have X := X₀.keeps F.keep
  have S := PySem.F.slot_object_ne
  have one : wpAny (model prog w) A (tryCompare (.ref x) (cmpInfo .NotEq).2.1 b) (fun r s' => ∃ v, r = some v ∧ Q v s') E s := by
    unfold tryCompare
    refine wpAny_bind (ifBound_B X I (id := "object.__ne__") hs S.bind (wpAny_call (codeAny_call_builtin S.plain PySem.F.cmpEntry_ne (PySem.W.check_slot PySem.F.cmpKind_ne PySem.F.cmpSplit_ne (I.type.andThen (PySem.W.looks_subIn X ho)) (PySem.F.cmpArgs_ne _ _)
      (objNe_K (A := A.in1) X I he hf (by show A.units + 1 < _; exact hu) (wpAny_mono h (fun v s' hv => ?_) fun _ _ e => e))))))
    obtain ⟨c, rfl, hq⟩ := hv
    first | exact ⟨c, rfl, wpAny_pure ⟨_, rfl, hq⟩⟩ | exact ⟨c, rfl, wpAny_pure (wpAny_pure ⟨_, rfl, hq⟩)⟩
  unfold richCompare
  simp only [oneThing_ref]
  refine wpAny_holding (wpAny_bind (wpAny_cRoomFor (Nat.lt_of_succ_lt hu) ?_))
  refine wpAny_bind (I.type.here (wpAny_bind (hb.here ?_)))
  split
  · rename_i q
    have e : subIn K tb (.ref C) = some false := by
      rcases Bool.or_eq_true_iff.mp hn with e | e
      · rw [beq_iff_eq.mp e] at q; simp at q
      · exact beq_iff_eq.mp e
    refine wpAny_bind ((PySem.W.looks_subIn X e).here ?_)
    simp only [Bool.false_eq_true, if_false]
    refine wpAny_bind (wpAny_mono one (fun r s' z => ?_) fun _ _ e => e)
    obtain ⟨v, rfl, hq⟩ := z
    exact wpAny_pure hq
  · refine wpAny_bind (wpAny_pure ?_)
    simp only [Bool.false_eq_true, if_false]
    refine wpAny_bind (wpAny_mono one (fun r s' z => ?_) fun _ _ e => e)
    obtain ⟨v, rfl, hq⟩ := z
    exact wpAny_pure hq
end
end K03


set_option Elab.async false
set_option maxRecDepth 100000
set_option maxHeartbeats 4000000
set_option linter.all false
namespace K03
open PySem PySem.Spec PyProof.Rows L2 NetM
theorem scNetEq : FnScope ["self", "other"] ["self", "other"] (defScope sNetEq) := ⟨rfl, rfl, rfl, by decide +kernel, rfl, by decide +kernel, by decide +kernel⟩
abbrev pd (p : Int × Int) : PyData := .tuple [.int p.1, .int p.2]
theorem dpall_prs {K : PySem.W.Frag} {H : Hp} : ∀ {zs : Zs}, PrA K H zs → (∀ z ∈ zs, SqT K H z.1 [.int z.2.1, .int z.2.2]) → DpAll K H (rf zs) ((nums zs).map pd)
  | [], _, _ => .nil
  | z :: zs, h, p => .cons (.tup (p z (List.mem_cons_self ..)) (.cons (.int _) (.cons (.int _) .nil))) (dpall_prs (fun z m => h z (List.mem_cons_of_mem _ m)) fun z m => p z (List.mem_cons_of_mem _ m))
theorem PrT.pra {K : PySem.W.Frag} {H : Hp} {zs : Zs} (p : PrT K H zs) : PrA K H zs := fun z m => .inr (p z m)
theorem PL.prt {K : PySem.W.Frag} {H : Hp} {zs : Zs} (p : PL H zs) : PrT K H zs := fun z m => .inl (.inl (p z m))
theorem dp_tup {K : PySem.W.Frag} {H : Hp} {t : Addr} {zs : Zs} (h : SqT K H t (rf zs)) (p : PrT K H zs) : Dp K H (.ref t) (.tuple ((nums zs).map pd)) := .tup h (dpall_prs p.pra p)
theorem dp_lst {K : PySem.W.Frag} {H : Hp} {t : Addr} {zs : Zs} (h : SqL K H t (rf zs)) (p : PrT K H zs) : Dp K H (.ref t) (.list ((nums zs).map pd)) := .lst h (dpall_prs p.pra p)
theorem lay_pd (l : List (Int × Int)) : PyData.canLayAll0 (l.map pd) = true := by
  induction l with
  | nil => rfl
  | cons x r ih => simp [PyData.canLayAll0, PyData.canLay0, ih]
theorem dep_pd (l : List (Int × Int)) : PyData.depthAll (l.map pd) ≤ 2 := by
  induction l with
  | nil => simp [PyData.depthAll]
  | cons x r ih => simp [PyData.depthAll, PyData.depth]; omega
theorem shp_tup (l : List (Int × Int)) : SeqAt.shaped (.tuple (l.map pd)) = true := by
  have h1 := lay_pd l
  have h2 := dep_pd l
  simp [SeqAt.shaped, PyData.canLay0, h1, PyData.depth]
  omega
theorem shp_lst (l : List (Int × Int)) : SeqAt.shaped (.list (l.map pd)) = true := by
  have h1 := lay_pd l
  have h2 := dep_pd l
  simp [SeqAt.shaped, PyData.canLay0, h1, PyData.depth]
  omega
theorem eqvAll_pd : ∀ l m : List (Int × Int), PyData.eqvAll (l.map pd) (m.map pd) = decide (l = m)
  | [], [] => rfl
  | [], _ :: _ => rfl
  | _ :: _, [] => rfl
  | (a, b) :: l, (c, d) :: m => by
    show (PyData.eqv (pd (a, b)) (pd (c, d)) && PyData.eqvAll (l.map pd) (m.map pd)) = _
    rw [eqvAll_pd l m]
    show ((a == c) && ((b == d) && true) && decide (l = m)) = _
    by_cases h1 : a = c
    · by_cases h2 : b = d
      · by_cases h3 : l = m
        · subst h1; subst h2; subst h3; simp
        · subst h1; subst h2
          rw [decide_eq_false h3, decide_eq_false (fun z => h3 (List.cons.inj z).2)]; simp
      · rw [beq_eq_false_iff_ne.mpr h2]
        simp [h2]
    · rw [beq_eq_false_iff_ne.mpr h1]
      simp [h1]
theorem eqv_tup (l m : List (Int × Int)) : PyData.eqv (.tuple (l.map pd)) (.tuple (m.map pd)) = decide (l = m) := eqvAll_pd l m
theorem eqv_lst (l m : List (Int × Int)) : PyData.eqv (.list (l.map pd)) (.list (m.map pd)) = decide (l = m) := eqvAll_pd l m
/-- what the text says of comparing Nets -/
structure NetE (K : PySem.W.Frag) (mg : Str → Option Value) (CN fE : Addr) : Prop where
  t : NetT K mg CN
  eq : PySem.W.findIn K (.ref CN) "__eq__" = some (some (.ref fE))
  fn : PySem.W.isFn K (.ref fE) = true
  ne : PySem.W.findIn K (.ref CN) "__ne__" = some (some (.builtin "object.__ne__"))
  ob : PySem.W.subIn K (.ref CN) (.type "object") = some true
  ha : PySem.W.findIn K (.ref CN) "__class__" = some (some (.builtin "object.__class__"))
  hn : PySem.W.specialIn K (.builtin "object.__class__") "__get__" = some (some (.builtin "getset_descriptor.__get__"))
  hk : PySem.W.takesIn K (.builtin "object.__class__") = some true
  hm : PySem.W.mroIn K CN (.type "object") = some true
  one : PySem.W.kitOne K (.ref CN) (.ref CN) = some true
  tup : PySem.W.kitOne K (.type "tuple") (.ref CN) = some false
  nf : PySem.W.notFirst K CN (.type "tuple") = true
theorem NetE.ty {K : PySem.W.Frag} {mg : Str → Option Value} {CN fE : Addr} (T : NetE K mg CN fE) {H : Hp} {a : Addr} {n : Nat} {zs : List (Int × Int)} (h : NetAt K CN H a n zs) : TyX K H (.ref a) (.ref CN) := by
  obtain ⟨dx, t, ws, e, _⟩ := h
  exact .base (.ins e T.t.cl T.ha T.hn T.hk T.hm)
/-- whether both are Nets of the same parts; other values are tuples -/
def spNetEq (K : PySem.W.Frag) (CN : Addr) : Sp := fun vs H Q _ => ∃ (a : Addr) (n : Nat) (zs : List (Int × Int)) (y : L2.V), vs = [.ref a, y] ∧ NetAt K CN H a n zs ∧
  ((∃ (b : Addr) (m : Nat) (ws : List (Int × Int)), y = .ref b ∧ NetAt K CN H b m ws ∧ ∀ H', Same H H' → Q (.bl (decide (n = m ∧ zs = ws))) H') ∨ (∃ (b : Addr) (xs : List L2.V), y = .ref b ∧ SqT K H b xs ∧ ∀ H', Same H H' → Q (.bl false) H'))
section
variable {P : Program} {w : World} {K : PySem.W.Frag} {mg : Str → Option Value} {base : Heap}
theorem ok_neteq {f CN : Addr} {fd : FuncData} (F : Fun K "__eq__" "Net.__eq__" sNetEq f fd) (T : NetE K mg CN f) (mIs : mg "isinstance" = none) : FnOk P w K mg base CX0 1 f fd ["self", "other"] (spNetEq K CN) := by
  refine F.ok scNetEq (fun vs H Q E h => ?_) (fun cdv A outer s H vs Q E hr h => ?_)
  · obtain ⟨a, n, zs, y, rfl, _⟩ := h
    rfl
  · obtain ⟨a, n, zs, y, rfl, hA, h⟩ := h
    refine ⟨_, pss_one (ps_ret (pe_and (pe_callB call_isi (by rfl) mIs (by decide +kernel) (pa_cons (pv 1) (pa_cons (pe_glob (v := .ref CN) (by rfl) T.t.g rfl) pa_nil)))
      (pe_and (pe_cmpR op_eq (pe_fld (pv 0) rfl) (pe_fld (pv 1) rfl) (nomark _)) (pe_one (pe_cmpR (op_eqD hr.units) (pe_fld (pv 0) rfl) (pe_fld (pv 1) rfl) (nomark _)))))), ?_⟩
    rcases h with ⟨b, m, ws, rfl, hB, k⟩ | ⟨b, xs, rfl, hB, k⟩
    · refine ⟨_, rfl, _, _, _, _, true, rfl, .own CN, T.ty hB, T.one, _, rfl, ?_⟩
      refine iteT ?_
      obtain ⟨dx, t, us, e, et, p, rfl⟩ := hA
      obtain ⟨dx2, t2, us2, e2, et2, p2, rfl⟩ := hB
      refine ⟨_, rfl, a, CN, dx, _, _, rfl, e, T.t.cl, T.t.nP, rfl, _, rfl, b, CN, dx2, _, _, rfl, e2, T.t.cl, T.t.nP, rfl, rfl, _, rfl, ite2 (fun c => ?_) (fun c => ?_)⟩
      · have hnm : n = m := by
          have := V.int.inj (of_decide_eq_true c)
          omega
        refine ⟨_, rfl, a, CN, dx, _, _, rfl, e, T.t.cl, T.t.nA, rfl, _, rfl, b, CN, dx2, _, _, rfl, e2, T.t.cl, T.t.nA, rfl, _, _, dp_tup (SqT.of et) p, dp_tup (SqT.of et2) p2, shp_tup _, shp_tup _, ?_⟩
        rw [eqv_tup]
        have := k H fun _ _ z => z
        rw [decide_eq_decide.mpr (show (n = m ∧ nums us = nums us2) ↔ nums us = nums us2 from ⟨fun z => z.2, fun z => ⟨hnm, z⟩⟩)] at this
        exact this
      · have hnm : ¬ n = m := fun z => c (decide_eq_true (by rw [z]))
        have := k H fun _ _ z => z
        rw [decide_eq_false (fun z => hnm z.1)] at this
        exact this
    · refine ⟨_, rfl, _, _, _, _, false, rfl, .own CN, ?_, T.tup, _, rfl, ?_⟩
      · exact ty_tup hB
      refine iteF ?_
      exact k H fun _ _ z => z
end
section
variable {X : Cx} {CN fE : Addr} {fd : FuncData}
/-- a call of the own ==, wherever one stands -/
theorem run_neteq (F : FnOk X.prog X.w X.K X.mg X.base CX0 1 fE fd ["self", "other"] (spNetEq X.K CN)) (hb : L2.Binds X.K fd ["self", "other"] []) {A : Around} {pins : List (Addr × Obj)} {σ : L2.St} {H : Hp} {s : Shared} {a : Addr} {y : L2.V} {v : Value} {Q : L2.V → Hp → Prop} (sb : Sub X 1 A) (I : Inv X pins σ H s) (ry : RelV y v)
    (h : spNetEq X.K CN [.ref a, y] H (fun u H' => (∃ c, u = .bl c) ∧ Q u H') (fun _ _ _ => False)) : wpAny (model X.prog X.w) A (call (.ref fE) [.ref a, v]) (fun u s' => ∃ c, u = .bool c ∧ ∃ H', Inv X pins σ H' s' ∧ Q (.bl c) H') X.xe s := by
  have e0 : Env0 X.prog X.w X.K X.mg X.base A X.stack s H := by
    have e := I.env0
    exact ⟨by rw [sb.fr]; exact e.frames, e.mod, e.bs, e.bsz, e.funs, e.frf, e.hok, e.bare⟩
  have r2 : Vals [V.ref a, y] [Value.ref a, v] := .cons rfl (.cons ry .nil)
  refine wpAny_call (codeAny_mono (F.run A X.stack s H ⟨[.ref a, v], []⟩ [.ref a, v] [.ref a, y] _ _ sb.room e0 (hb s [.ref a, v] I.kIn rfl) r2 h) fun r s' hq => ?_)
  cases r with
  | error e => exact (show False from hq).elim
  | ok fl =>
    cases fl with
    | ret w =>
      obtain ⟨z, H', I', rz, ⟨c, rfl⟩, q⟩ := I.after hq
      cases rz
      exact ⟨c, rfl, H', I', q⟩
    | next => exact False.elim hq
    | brk => exact False.elim hq
    | cont => exact False.elim hq
def rEqN (K : PySem.W.Frag) (CN : Addr) (f : Bool → Bool) : R2 := fun x y H Q => ∃ (a : Addr) (n : Nat) (zs : List (Int × Int)), x = .ref a ∧ NetAt K CN H a n zs ∧
  ((∃ (b : Addr) (m : Nat) (ws : List (Int × Int)), y = .ref b ∧ NetAt K CN H b m ws ∧ ∀ H', Same H H' → Q (.bl (f (decide (n = m ∧ zs = ws)))) H') ∨ (∃ (b : Addr) (xs : List L2.V), y = .ref b ∧ SqT K H b xs ∧ ∀ H', Same H H' → Q (.bl (f false)) H'))
/-- what the other one is, as its type is asked -/
theorem other_ty {mg : Str → Option Value} (T : NetE X.K mg CN fE) {pins : List (Addr × Obj)} {σ : L2.St} {H : Hp} {s : Shared} (I : Inv X pins σ H s) {y : L2.V} {u : Value} (ry : RelV y u)
    (h : (∃ (b : Addr) (m : Nat) (ws : List (Int × Int)), y = .ref b ∧ NetAt X.K CN H b m ws) ∨ ∃ (b : Addr) (xs : List L2.V), y = .ref b ∧ SqT X.K H b xs) :
    ∃ tb, PySem.W.Looks (model X.prog X.w) s.heap (typeOf u) tb ∧ PySem.W.notFirst X.K CN tb = true := by
  rcases h with ⟨b, m, ws, rfl, dx, t, us, e, _⟩ | ⟨b, xs, rfl, h⟩
  · cases ry
    obtain ⟨mB, J', _⟩ := ins_get I.hok e
    obtain ⟨od', J', _⟩ := J'.look
    exact ⟨_, J'.type, by simp [PySem.W.notFirst]⟩
  · cases ry
    obtain ⟨its, r, ⟨o, ho, hc, _⟩, z⟩ := I.tuple h
    exact ⟨.type "tuple", fun A Q E s' k q => wpAny_typeOf_ref (k _ _ ho) (by rw [hc]; exact q), T.nf⟩
theorem op_eqN {mg : Str → Option Value} (T : NetE X.K mg CN fE) (F : FnOk X.prog X.w X.K X.mg X.base CX0 1 fE fd ["self", "other"] (spNetEq X.K CN)) (hb : L2.Binds X.K fd ["self", "other"] []) (hr : Room 1 X.A) : OpR X (compareOp .Eq) (rEqN X.K CN id) := by
  intro pins s σ H x y v u Q I rx ry hq
  obtain ⟨a, n, zs, rfl, hA, h⟩ := hq
  cases rx
  obtain ⟨dx, t, us, e, et, p, hzs⟩ := id hA
  obtain ⟨mA, J, _⟩ := ins_get I.hok e
  obtain ⟨od, J, _⟩ := J.look
  obtain ⟨m0, hF⟩ := I.fr
  obtain ⟨tb, L, nf⟩ := other_ty T I ry (h.imp (fun ⟨b, m, ws, e, h, _⟩ => ⟨b, m, ws, e, h⟩) fun ⟨b, xs, e, h, _⟩ => ⟨b, xs, e, h⟩)
  show wpAny (model X.prog X.w) X.A (richCompare .Eq (.ref a) u) (EP X pins σ Q) X.xe s
  refine PySem.W.cmp_K (op := .Eq) (tb := tb) (show X.A.units < cLine by have := hr.un; omega) hF I.ok.mod.kin J L nf T.eq T.fn ?_
  refine wpAny_mono (run_neteq (Q := fun u H' => Q u H') F hb ⟨hr, rfl⟩ I ry ?_) (fun r s' z => ?_) fun _ _ x => x
  · refine ⟨a, n, zs, y, rfl, hA, h.imp (fun ⟨b, m, ws, e, h, k⟩ => ⟨b, m, ws, e, h, fun H' s' => ⟨⟨_, rfl⟩, k H' s'⟩⟩) fun ⟨b, xs, e, h, k⟩ => ⟨b, xs, e, h, fun H' s' => ⟨⟨_, rfl⟩, k H' s'⟩⟩⟩
  · obtain ⟨c, rfl, H', I', q⟩ := z
    exact ⟨.bl c, H', I', rfl, q⟩
theorem op_neN {mg : Str → Option Value} (T : NetE X.K mg CN fE) (F : FnOk X.prog X.w X.K X.mg X.base CX0 1 fE fd ["self", "other"] (spNetEq X.K CN)) (hb : L2.Binds X.K fd ["self", "other"] []) (hr : Room 2 X.A) : OpR X (compareOp .NotEq) (rEqN X.K CN not) := by
  intro pins s σ H x y v u Q I rx ry hq
  obtain ⟨a, n, zs, rfl, hA, h⟩ := hq
  cases rx
  obtain ⟨dx, t, us, e, et, p, hzs⟩ := id hA
  obtain ⟨mA, J, _⟩ := ins_get I.hok e
  obtain ⟨od, J, _⟩ := J.look
  obtain ⟨m0, hF⟩ := I.fr
  obtain ⟨tb, L, nf⟩ := other_ty T I ry (h.imp (fun ⟨b, m, ws, e, h, _⟩ => ⟨b, m, ws, e, h⟩) fun ⟨b, xs, e, h, _⟩ => ⟨b, xs, e, h⟩)
  show wpAny (model X.prog X.w) X.A (richCompare .NotEq (.ref a) u) (EP X pins σ Q) X.xe s
  refine ne_K (tb := tb) (show X.A.units + 1 < cLine by have := hr.un; omega) hF I.ok.mod.kin J L nf T.eq T.fn T.ne T.ob ?_
  refine wpAny_mono (run_neteq (Q := fun u H' => ∃ c, u = .bl c ∧ Q (.bl (!c)) H') F hb ⟨hr.in1, rfl⟩ I ry ?_) (fun r s' z => ?_) fun _ _ x => x
  · refine ⟨a, n, zs, y, rfl, hA, h.imp (fun ⟨b, m, ws, e, h, k⟩ => ⟨b, m, ws, e, h, fun H' s' => ⟨⟨_, rfl⟩, _, rfl, k H' s'⟩⟩) fun ⟨b, xs, e, h, k⟩ => ⟨b, xs, e, h, fun H' s' => ⟨⟨_, rfl⟩, _, rfl, k H' s'⟩⟩⟩
  · obtain ⟨c, rfl, H', I', c', ec, q⟩ := z
    cases ec
    exact ⟨c, rfl, .bl (!c), H', I', rfl, q⟩
end
end K03


set_option Elab.async false
set_option maxRecDepth 100000
set_option maxHeartbeats 4000000
set_option linter.all false
namespace K03
open PySem PySem.Spec PyProof.Rows L2 NetM
abbrev sCheck : Stmt := top 17
theorem scCheck : FnScope ["net"] ["net"] (defScope sCheck) := ⟨rfl, rfl, rfl, by decide +kernel, rfl, by decide +kernel, by decide +kernel⟩
/-- what is no Net -/
def NoNet (K : PySem.W.Frag) (CN : Addr) (H : Hp) (x : L2.V) : Prop := ∃ t, TyX K H x t ∧ PySem.W.kitOne K t (.ref CN) = some false
def spCheck (K : PySem.W.Frag) (CN CB : Addr) : Sp := fun vs H Q E => ∃ x : L2.V, vs = [x] ∧ ((NoNet K CN H x ∧ Rz CB H E .non) ∨ ∃ (a : Addr) (n : Nat) (zs : List (Int × Int)), x = .ref a ∧ NetAt K CN H a n zs ∧ Q .non H)
def ends (f : Int × Int → Int) (n : Nat) (zs : List (Int × Int)) : List Int := (rng n).filter fun k => decide (k ∉ zs.map f)
def swp (l : List (Int × Int)) : List (Int × Int) := l.map fun p => (p.2, p.1)
def GoodN (l : List (Int × Int)) (n : Nat) : Prop := (rounds l n [0]).length = n ∧ (ordr l n n []).length = n
def spTurned (K : PySem.W.Frag) (CN CB : Addr) : Sp := fun vs H Q E => ∃ x : L2.V, vs = [x] ∧ ((NoNet K CN H x ∧ Rz CB H E .non) ∨ ∃ (a : Addr) (n : Nat) (zs : List (Int × Int)), x = .ref a ∧ NetAt K CN H a n zs ∧ 0 < n ∧ n ≤ 8 ∧ zs.length ≤ 12 ∧ (∀ t h, (t, h) ∈ zs → InR n t ∧ InR n h ∧ t ≠ h) ∧ GoodN (swp zs) n ∧
  ∀ (y : Addr) (H' : Hp), NetAt K CN H' y n (swp zs) → Same H H' → Q (.ref y) H')
section
variable {P : Program} {w : World} {K : PySem.W.Frag} {mg : Str → Option Value} {base : Heap}
theorem ok_check {f CN CB fB fE : Addr} {fd fdB : FuncData} (F : Fun K "check_net" "check_net" sCheck f fd) (BM : BadM P w K mg base CB fB fdB) (T : NetE K mg CN fE) (mIs : mg "isinstance" = none) : FnOk P w K mg base (L2.CX P w) 4 f fd ["net"] (spCheck K CN CB) := by
  refine F.okX scCheck (fun vs H Q E h => ?_) (fun cdv A outer s H vs Q E hr h => ?_)
  · obtain ⟨x, rfl, _⟩ := h
    rfl
  · obtain ⟨x, rfl, h⟩ := h
    refine ⟨_, pss_one (ps_if (pt_not (pt_val (pe_callB call_isi (by rfl) mIs (by decide +kernel) (pa_cons (pv 0) (pa_cons (pe_glob (v := .ref CN) (by rfl) T.t.g rfl) pa_nil)))))
      (pss_one (ps_raise rfl (takes_of rfl rfl rfl rfl) (pmk_oex BM.oex BM.ini BM.tyI BM.ok hr BM.bd .nil pass0 (by rfl) BM.g (pa_cons pe_non pa_nil)))) pss_nil), ?_⟩
    rcases h with ⟨⟨t, ht, hk⟩, hR⟩ | ⟨a, n, zs, rfl, hA, k⟩
    · refine ⟨_, rfl, _, _, _, _, false, rfl, .own CN, ht, hk, _, rfl, ?_⟩
      refine iteT ?_
      exact mko_of (fun Q q => q) hR
    · refine ⟨_, rfl, _, _, _, _, true, rfl, .own CN, T.ty hA, T.one, _, rfl, ?_⟩
      refine iteF ?_
      exact k
/-- the small def check_net, as it is called -/
structure ChkF (P : Program) (w : World) (K : PySem.W.Frag) (mg : Str → Option Value) (base : Heap) (CN CB : Addr) where
  f : Addr
  fd : FuncData
  ok : FnOk P w K mg base (L2.CX P w) 4 f fd ["net"] (spCheck K CN CB)
  b : L2.Binds K fd ["net"] []
  g : mg "check_net" = some (.ref f)
  kp : PySem.W.keepIn K (.ref f) = true
end
end K03


set_option Elab.async false
set_option maxRecDepth 100000
set_option maxHeartbeats 4000000
set_option linter.all false
namespace K03
open PySem PySem.Spec PyProof.Rows L2 NetM
theorem BadPl.same {K : PySem.W.Frag} {H H' : Hp} (s : Same H H') {x : L2.V} (h : BadPl K H x) : BadPl K H' x := by
  obtain ⟨t, b, c, a1, a2, a3, a4⟩ := h
  exact ⟨t, b, c, TyX.same s a1, a2, a3, a4⟩
theorem ArL.same {K : PySem.W.Frag} {H H' : Hp} (s : Same H H') {n : Int} : ∀ {xs : List L2.V} {bs : List Bool}, ArL K H n xs bs → ArL K H' n xs bs
  | _, _, .nil => .nil
  | _, _, .cons h r => .cons (h.same s) (r.same s)
theorem ArV.same {K : PySem.W.Frag} {H H' : Hp} (s : Same H H') {n : Nat} {x : L2.V} {o : Option Zs} (h : ArV K H n x o) : ArV K H' n x o := by
  cases h with
  | no h z => exact .no (TyX.same s h) z
  | bad h ha hl z => exact .bad (h.same s) (ha.same s) hl z
  | ok h hp hl hE => exact .ok (h.same s) (hp.same s) hl hE
/-- what is asked where a Net is made -/
def MakeN (K : PySem.W.Frag) (CN CB : Addr) (pl ar : L2.V) (H : Hp) (Q : VK) (E : XK) : Prop :=
  (BadPl K H pl ∧ Rz CB H E (.str "places")) ∨ ∃ (n : Nat) (o : Option Zs), pl = .int n ∧ 0 < n ∧ n ≤ 8 ∧ ArV K H n ar o ∧ ((∀ zs, o = some zs → ¬ Good zs n) → Rz CB H E (.str "arrows")) ∧
    (∀ zs, o = some zs → Good zs n → ∀ (x : Addr) (H' : Hp), H x = none → NetAt K CN H' x n (nums zs) → Same H H' → Q (.ref x) H')
theorem MakeN.sp {K : PySem.W.Frag} {CN CB : Addr} {pl ar : L2.V} {H : Hp} {Q : VK} {E : XK} (h : MakeN K CN CB pl ar H Q E) (x dx : Addr) (nx : H x = none) (ndx : H dx = none) (ne : dx ≠ x) :
    spNetInit K CN CB [.ref x, pl, ar] (upd (upd H dx (.own x)) x (.ins CN dx [])) (fun v H2 => v = .non ∧ Q (.ref x) H2) E := by
  have s : Same H (upd (upd H dx (.own x)) x (.ins CN dx [])) := fun b o e => by
    rw [upd_ne (ne_of_none e nx), upd_ne (ne_of_none e ndx)]
    exact e
  refine ⟨x, dx, pl, ar, rfl, upd_same, ?_⟩
  rcases h with ⟨h, hR⟩ | ⟨n, o, rfl, n0, n8, hA, hR, k⟩
  · exact .inl ⟨h.same s, hR.same s⟩
  · refine .inr ⟨n, o, rfl, n0, n8, hA.same s, fun z => (hR z).same s, fun zs e g H' hN k' => ⟨rfl, k zs e g x H' nx hN fun b u eb => k' b u (s b u eb) (ne_of_none eb nx)⟩⟩
/-- Net's making, as it is called -/
structure MkN (P : Program) (w : World) (K : PySem.W.Frag) (mg : Str → Option Value) (base : Heap) (CN CB : Addr) where
  f : Addr
  fd : FuncData
  m : L2.Mk K CN f
  ok : FnOk P w K mg base (L2.CX P w) 4 f fd ["self", "places", "arrows"] (spNetInit K CN CB)
  b : L2.Binds K fd ["self", "places", "arrows"] []
section
variable {P : Program} {w : World} {K : PySem.W.Frag} {mg : Str → Option Value} {base : Heap}
end
end K03


set_option Elab.async false
set_option maxRecDepth 100000
set_option maxHeartbeats 4000000
set_option linter.all false
namespace K03
open PySem PySem.Spec PyProof.Rows L2 NetM
section
open HT
variable {prog : Program} {w : World} {A : Around} {E : Value → Shared → Prop} {s : Shared}
/-- t[::-1] of a pair: how many places -/
theorem sliceApplied_rev {sl : Addr} {vl vu vs : Value} {Q : Int × Int × Nat → Shared → Prop} (hs : s.heap.IsSliceOf sl vl vu vs) (pl : IsPart vl none) (pu : IsPart vu none) (ps : IsPart vs (some (-1)))
    (h : Q (1, -1, 2) s) : wpAny (model prog w) A (Builtin.Slice.sliceApplied (.ref sl) (pure (2 : Int))) Q E s := by
  obtain ⟨os, hos, hcs, hds⟩ := id hs
  unfold Builtin.Slice.sliceApplied Builtin.Slice.sliceFields
  refine wpAny_bind (wpAny_bind (wpAny_field hos hds (x := vl) rfl (wpAny_bind (wpAny_field hos hds (x := vu) rfl (wpAny_bind (wpAny_field hos hds (x := vs) rfl (wpAny_pure ?_)))))))
  refine wpAny_bind (slicePart_ ps ?_)
  show wpAny _ _ (if ((-1 : Int) == 0) = true then _ else _) _ _ s
  rw [if_neg (by decide)]
  refine wpAny_bind (slicePart_ pl (wpAny_bind (slicePart_ pu (wpAny_bind (wpAny_pure ?_)))))
  show wpAny _ _ (match Builtin.Slice.sliceAdjust none none (-1) (2 : Int) with | (lo, hi) => pure (lo, (-1 : Int), Builtin.Slice.slicePlaces lo hi (-1))) _ _ s
  rw [show Builtin.Slice.sliceAdjust none none (-1) (2 : Int) = (1, -1) by decide]
  show wpAny _ _ (pure ((1 : Int), (-1 : Int), Builtin.Slice.slicePlaces 1 (-1) (-1))) _ _ s
  rw [show Builtin.Slice.slicePlaces 1 (-1) (-1) = 2 by decide]
  exact wpAny_pure h
theorem getItem_pair_rev {t sl : Addr} {u v : Value} {vl vu vs : Value} {Q : Value → Shared → Prop} (ht : IsTup s.heap t #[u, v]) (hs : s.heap.IsSliceOf sl vl vu vs) (pl : IsPart vl none) (pu : IsPart vu none) (ps : IsPart vs (some (-1)))
    (h : Q (.ref s.heap.objs.size) { s with heap := s.heap.push { cls := .type "tuple", data := .seq #[v, u] } }) : wpAny (model prog w) A (getItem (.ref t) (.ref sl)) Q E s := by
  have htake : sizeOk (.seq #[v, u]) := by
    show 2 ≤ sizeLine
    decide
  obtain ⟨os, hos, hcs, hds⟩ := id hs
  have hTs : s.TypeIs (.ref sl) "slice" := ⟨os, hos, hcs⟩
  unfold getItem
  try with_reducible refine wpAny_holding ?_
  first | refine wpAny_bind (wpAny_pure ?_) | skip
  refine wpAny_bind (wpAny_sequenceKey ht.typeIs (by decide) ?_)
  refine wpAny_bind (wpAny_callSpecial?_slot (name := Str.ofString "__getitem__") ht.typeIs PyProof.Rows.slot_tuple_getitem
    (wpAny_call_entry PyProof.Rows.slot_tuple_getitem ht.typeIs entry_tuple_getitem ?_ (args_tuple_getitem _ _)))
  show wpAny _ _ (Builtin.Tuple.tupleItemsOf (.ref t) >>= _) _ _ s
  refine wpAny_bind (tupleItemsOf_ ht ?_)
  refine wpAny_bind (wpAny_typeOf hTs ?_)
  rw [if_pos (by decide)]
  refine wpAny_bind (sliceApplied_rev hs pl pu ps ?_)
  show wpAny _ _ (if ((1 : Int) == 0 && (-1 : Int) == 1 && 2 == (#[u, v] : Array Value).size) = true then _ else _) _ _ s
  rw [if_neg (by show ¬ ((false && (-1 : Int) == 1 && 2 == (#[u, v] : Array Value).size) = true); simp)]
  have e : ((List.range 2).filterMap fun (k : Nat) => (#[u, v] : Array Value)[((1 : Int) + (k : Int) * (-1)).toNat]?).toArray = #[v, u] := rfl
  rw [e]
  first
    | exact wpAny_bind (m := Builtin.Tuple.tupleExact _) (wpAny_newObj_type (wpAny_pure ⟨_, rfl, wpAny_pure h⟩) htake)
    | exact wpAny_bind (m := Builtin.Tuple.tupleExact _) (wpAny_newObj_type (wpAny_bind (wpAny_pure (wpAny_pure ⟨_, rfl, wpAny_pure h⟩))) htake)
    | exact wpAny_bind (wpAny_bind (m := Builtin.Tuple.tupleExact _) (wpAny_newObj_type (wpAny_pure (wpAny_pure ⟨_, rfl, wpAny_pure h⟩)) htake))
    | exact wpAny_bind (wpAny_bind (m := Builtin.Tuple.tupleExact _) (wpAny_newObj_type (wpAny_pure ⟨_, rfl, wpAny_pure h⟩) htake))
end
/-! t[::-1], t a pair -/
def tRevP (K : PySem.W.Frag) (te : TE) : TE := fun σ H Q => te σ H fun x H1 => ∃ (a : Addr) (y z : L2.V), x = .ref a ∧ SqT K H1 a [y, z] ∧ ∀ p, H1 p = none → Q (.ref p) (upd H1 p (.tup [z, y]))
theorem pe_revP {X : Cx} {e : Expr} {te : TE} {k : Nat} {p1 p2 p3 pos : Pos} (he : PE X e te) : PE X (.Subscript e (.Slice none none (some (.UnaryOp .USub (.Constant (.int 1) k p1) p2)) p3) pos) (tRevP X.K te) := by
  refine ⟨fun pins s σ H Q I h => ?_⟩
  refine Subscript_ (thn (he.run pins s σ H _ I h) fun v s1 ⟨x, H1, I1, r1, q1⟩ => ?_)
  obtain ⟨a, y, z, ex, hx, q⟩ := q1
  subst ex
  cases r1
  have hst : PO X (some (.UnaryOp .USub (.Constant (.int 1) k p1) p2)) (tPart (tUn (rU fun i => .int (-i)) (tC (.int 1)))) := po_some (pe_un un_neg pe_int)
  refine wpAny_Slice (thn (po_none.run pins s1 σ H1 (fun o H2 => o = none ∧ H2 = H1) I1 ⟨rfl, rfl⟩) fun vl s2 ⟨l, H2, I2, pl, el, e2⟩ => ?_)
  subst el e2
  refine thn (po_none.run pins s2 σ H2 (fun o H3 => o = none ∧ H3 = H2) I2 ⟨rfl, rfl⟩) fun vu s3 ⟨u, H3, I3, pu, eu, e3⟩ => ?_
  subst eu e3
  refine thn (hst.run pins s3 σ H3 (fun o H4 => o = some (-1) ∧ H4 = H3) I3 ⟨1, rfl, -1, rfl, rfl, rfl⟩) fun vs s4 ⟨o, H4, I4, ps, eo, e4⟩ => ?_
  subst eo e4
  have I5 : Inv X pins σ H4 { s4 with heap := s4.heap.push { cls := .type "slice", data := .fields #[vl, vu, vs] } } := I4.kept (t' := s4.toks) fun b ob q => Heap.get?_push_of_some _ q
  obtain ⟨its, r, ht, hz⟩ := I5.tuple hx
  cases r with
  | @cons _ u0 _ _ r0 rr =>
    cases rr with
    | @cons _ u1 _ _ r1 rr =>
      cases rr
      show wpAny (model X.prog X.w) X.A (subscriptTail e (.Slice none none (some (.UnaryOp .USub (.Constant (.int 1) k p1) p2)) p3) (.ref a) (.ref s4.heap.objs.size)) (EP X pins σ Q) X.xe { s4 with heap := s4.heap.push { cls := .type "slice", data := .fields #[vl, vu, vs] } }
      refine tail_any (ops := [.ref a, .ref s4.heap.objs.size]) ht.typeIs (PyProof.Rows.slot_tuple_getitem.lookup) ?_ (by with_unfolding_all rfl)
      refine getItem_pair_rev (u := u0) (v := u1) ht (Heap.IsSliceOf.new _ vl vu vs) pl pu ps ?_
      refine ⟨.ref _, _, I5.laid (t' := s4.toks) (o := .tup [z, y]) (fun b ob q => Heap.get?_push_of_some _ q) (Nat.le_refl _) ?_, rfl, q _ (I5.hok.fresh (Nat.le_refl _))⟩
      exact ⟨by show 2 ≤ sizeLine; decide, [u1, u0], .cons r1 (.cons r0 .nil), IsTup.new _ _⟩
end K03


set_option Elab.async false
set_option maxRecDepth 100000
set_option maxHeartbeats 2000000
set_option linter.all false
namespace K03
open PySem PySem.Spec PyProof.Rows L2
/-! ### a list or a tuple, whichever it is -/
/-- what stood at a stands there still -/
def Stay (K : PySem.W.Frag) (a : Addr) (H H' : Hp) : Prop := (∀ ys, SqL K H a ys → SqL K H' a ys) ∧ ∀ ys, SqT K H a ys → SqT K H' a ys
theorem Stay.of {K : PySem.W.Frag} {a : Addr} {H H' : Hp} (s : Same H H') : Stay K a H H' := ⟨fun _ h => s.seq h, fun _ h => sqt_same s h⟩
theorem Stay.sqa {K : PySem.W.Frag} {a : Addr} {H H' : Hp} (s : Stay K a H H') {xs : List V} (h : SqA K H a xs) : SqA K H' a xs := h.elim (fun h => .inl (s.1 _ h)) fun h => .inr (s.2 _ h)
/-- J walks the items xs that stood at a -/
def IsW (K : PySem.W.Frag) (a : Addr) (xs : List V) (H1 : Hp) (J : It) : Prop := ∀ i H, Stay K a H1 H → (∀ x, xs[i]? = some x → J.go i H) ∧ (∀ x H', J.yld i H x H' → H' = H ∧ xs[i]? = some x) ∧ (xs.length ≤ i → J.stop i H)
def iSeq (K : PySem.W.Frag) (tl : TE) : TI := fun σ H R => tl σ H fun x H1 => ∃ a xs, x = .ref a ∧ SqA K H1 a xs ∧ ∀ J, IsW K a xs H1 J → R J H1
section
variable {X : Cx}
theorem pi_seq {tg l : Expr} {tl : TE} (hl : PE X l tl) : PI X tg l (iSeq X.K tl) := by
  refine ⟨fun pins s σ H R I h => ?_⟩
  refine thn (hl.run pins s σ H _ I h) fun v s1 ⟨x, H1, I1, r1, q1⟩ => ?_
  obtain ⟨a, xs, rfl, hs, q⟩ := q1
  rcases hs with hs | hs
  · have w : IsW X.K a xs H1 (Itl X.K a) := fun i H st => ⟨fun x e => ⟨xs, x, st.1 _ hs, e⟩, fun x H' y => ⟨y.1, y.2 xs (st.1 _ hs)⟩, fun e => ⟨xs, st.1 _ hs, e⟩⟩
    cases r1
    obtain ⟨its, rv, p, hz⟩ := I1.list hs
    refine wpAny_pyIter_list p.isList ?_
    refine ⟨s1.heap.objs.size, [s1.heap.objs.size], _, _, H1, rfl, I1.kept (t' := s1.toks) fun b o e => Heap.get?_push_of_some _ e, turn_list a _, ⟨_, Heap.get?_push_size _ rfl, rfl, rfl⟩, fun b hb => ?_, q _ w⟩
    obtain rfl : b = s1.heap.objs.size := by simpa using hb
    exact I1.fpOk (Nat.le_refl _) (I1.hok.fresh (Nat.le_refl _))
  · have w : IsW X.K a xs H1 (Itt X.K a) := fun i H st => ⟨fun x e => ⟨xs, x, st.2 _ hs, e⟩, fun x H' y => ⟨y.1, y.2 xs (st.2 _ hs)⟩, fun e => ⟨xs, st.2 _ hs, e⟩⟩
    cases r1
    obtain ⟨its, rv, p, hz⟩ := I1.tuple hs
    refine wpAny_pyIter_tuple (show s1.heap.IsTuple a its.toArray from p) ?_
    refine ⟨s1.heap.objs.size, [s1.heap.objs.size], _, _, H1, rfl, I1.kept (t' := s1.toks) fun b o e => Heap.get?_push_of_some _ e, turn_tuple a _, ⟨_, Heap.get?_push_size _ rfl, rfl, rfl⟩, fun b hb => ?_, q _ w⟩
    obtain rfl : b = s1.heap.objs.size := by simpa using hb
    exact I1.fpOk (Nat.le_refl _) (I1.hok.fresh (Nat.le_refl _))
end
theorem for_seq {K : PySem.W.Frag} {a : Addr} {xs : List V} {H1 : Hp} {J : It} (Wk : IsW K a xs H1 J) {g : TG} {tb : TS} {D : Ends} {σ : L2.St} {H : Hp} (Pv : Nat → L2.St → Hp → Prop) (h0 : Pv 0 σ H) (hl : ∀ i σ H, i ≤ xs.length → Pv i σ H → Stay K a H1 H)
    (hs : ∀ i x σ H, xs[i]? = some x → Pv i σ H → g x σ H fun σ2 H2 => tb { D with nx := Pv (i + 1), ct := Pv (i + 1), bk := D.nx } σ2 H2) (hd : ∀ σ H, Pv xs.length σ H → D.nx σ H) :
    ∃ W : Nat → Nat → L2.St → Hp → Prop, (∃ m, W 0 m σ H) ∧ ∀ i m σ H, W i m σ H →
      (J.stop i H ∧ D.nx σ H) ∨ (J.go i H ∧ ∃ N : L2.St → Hp → Prop, (∀ σ' H', N σ' H' → ∃ m', m' < m ∧ W (i + 1) m' σ' H') ∧ ∀ x H', J.yld i H x H' → g x σ H' fun σ2 H2 => tb { D with nx := N, ct := N, bk := D.nx } σ2 H2) := by
  refine ⟨fun i m σ H => m + i = xs.length ∧ Pv i σ H, ⟨xs.length, rfl, h0⟩, fun i m σ H h => ?_⟩
  obtain ⟨hm, p⟩ := h
  obtain ⟨w1, w2, w3⟩ := Wk i H (hl i σ H (by omega) p)
  rcases Nat.lt_or_ge i xs.length with lt | ge
  · refine .inr ⟨w1 xs[i] (List.getElem?_eq_getElem lt), Pv (i + 1), fun σ' H' p' => ⟨m - 1, by omega, by omega, p'⟩, fun x H' y => ?_⟩
    obtain ⟨rfl, e⟩ := w2 x H' y
    exact hs i x σ _ e p
  · have e : i = xs.length := by omega
    subst e
    exact .inl ⟨w3 (Nat.le_refl _), hd σ H p⟩
theorem lc_seq {K : PySem.W.Frag} {a : Addr} {xs : List V} {H0 : Hp} {J : It} (Wk : IsW K a xs H0 J) {g : TG} {tt : TT} {te : TE} {vs : List Nat} {σ : L2.St} {H1 : Hp} {D : Addr} {Qd : Hp → Prop} (Pv : Nat → Hp → Prop) (h0 : Pv 0 (upd H1 D (.lst []))) (hl : ∀ i H, i ≤ xs.length → Pv i H → Stay K a H0 H)
    (hs : ∀ i x H, xs[i]? = some x → Pv i H → g x (wipe σ vs) H fun σ2 H2 => wipe σ2 vs = wipe σ vs ∧ tt σ2 H2 fun b H3 =>
      if b = true then te σ2 H3 fun y H4 => ∃ acc, H4 D = some (.lst acc) ∧ acc.length < sizeLine ∧ Pv (i + 1) (upd H4 D (.lst (acc ++ [y]))) else Pv (i + 1) H3) (hd : ∀ H, Pv xs.length H → Qd H) :
    ∃ W : Nat → Nat → Hp → Prop, (∃ m, W 0 m (upd H1 D (.lst []))) ∧ ∀ i m H, W i m H →
      (J.stop i H ∧ Qd H) ∨ (J.go i H ∧ ∃ Nx : Hp → Prop, (∀ H', Nx H' → ∃ m', m' < m ∧ W (i + 1) m' H') ∧ ∀ x H', J.yld i H x H' → g x (wipe σ vs) H' fun σ2 H2 => wipe σ2 vs = wipe σ vs ∧ tt σ2 H2 fun b H3 =>
        if b = true then te σ2 H3 fun y H4 => ∃ acc, H4 D = some (.lst acc) ∧ acc.length < sizeLine ∧ Nx (upd H4 D (.lst (acc ++ [y]))) else Nx H3) := by
  refine ⟨fun i m H => m + i = xs.length ∧ Pv i H, ⟨xs.length, rfl, h0⟩, fun i m H h => ?_⟩
  obtain ⟨hm, p⟩ := h
  obtain ⟨w1, w2, w3⟩ := Wk i H (hl i H (by omega) p)
  rcases Nat.lt_or_ge i xs.length with lt | ge
  · refine .inr ⟨w1 xs[i] (List.getElem?_eq_getElem lt), Pv (i + 1), fun H' p' => ⟨m - 1, by omega, by omega, p'⟩, fun x H' y => ?_⟩
    obtain ⟨rfl, e⟩ := w2 x H' y
    exact hs i x _ e p
  · have e : i = xs.length := by omega
    subst e
    exact .inl ⟨w3 (Nat.le_refl _), hd H p⟩
/-! ### x is True -/
def rIsT : R2 := fun x y H Q => ∃ b : Bool, y = .bl b ∧ ((∃ i, x = .int i ∧ Q (.bl false) H) ∨ ∃ c : Bool, x = .bl c ∧ Q (.bl (decide (c = b))) H)
theorem op_isT {X : Cx} : OpR X (compareOp .Is) rIsT := by
  intro pins s σ H x y v u Q I rx ry h
  obtain ⟨b, rfl, h⟩ := h
  cases (show u = Value.bool b from ry)
  rcases h with ⟨i, rfl, q⟩ | ⟨c, rfl, q⟩
  · obtain ⟨t, e⟩ := (show ∃ t, v = Value.int i t from rx)
    subst e
    exact wpAny_is_other rfl (fun z => by cases z) ⟨.bl false, H, I, rfl, q⟩
  · cases (show v = Value.bool c from rx)
    by_cases e : c = b
    · subst e
      exact wpAny_is_self rfl ⟨.bl true, H, I, rfl, by simpa using q⟩
    · exact wpAny_is_other rfl (fun z => e (Value.bool.inj z)) ⟨.bl false, H, I, rfl, by simpa [e] using q⟩
/-! ### own errors without an __init__ -/
/-- what the text says of such a class -/
structure PlX (K : PySem.W.Frag) (mg : Str → Option Value) (x : Str) (C : Addr) : Prop where
  q : PySem.W.excIn K C [.type "ValueError", .type "Exception", .type "BaseException", .type "object"] "ValueError.__new__" = true
  g : mg x = some (.ref C)
  k : PySem.W.keepIn K (.ref C) = true
  s : PySem.W.subIn K (.ref C) (.type "BaseException") = some true
  t : PySem.W.typeIn K (.ref C) = some (.type "type")
/-- the way out: this error -/
def Rp (C : Addr) (H : Hp) (E : XK) : Prop := ∀ H', Same H H' → E (.ref C) none H'
theorem Rp.same {C : Addr} {H H' : Hp} {E : XK} (s : Same H H') (h : Rp C H E) : Rp C H' E := fun H2 s2 => h H2 (s.trans s2)
end K03


set_option Elab.async false
set_option maxRecDepth 100000
set_option maxHeartbeats 4000000
set_option linter.all false
namespace K03
open PySem PySem.Spec PyProof.Rows L2
/-! zip of two, each of them a list or a tuple -/
def sk (k : Bool) (K : PySem.W.Frag) (H : Hp) (a : Addr) (xs : List V) : Prop := match k with | true => SqT K H a xs | false => SqL K H a xs
def ik (k : Bool) (h : Heap) (it a : Addr) (i : Nat) : Prop := match k with | true => h.IsTupleIter it a i | false => h.IsListIter it a i
def hk (k : Bool) (h : Heap) (a : Addr) (items : Array Value) : Prop := match k with | true => h.IsTuple a items | false => h.IsList a items
theorem dr_k {prog : Program} {w : World} {A : Around} (k : Bool) (hh : A.handled = none) (it a : Addr) (hne : a ≠ it) (items : Array Value) : Draws prog w A it [it, a] items.size (fun i v => items[i]? = some v) (fun i h => ik k h it a i ∧ hk k h a items) := by
  cases k
  · exact Draws.list hh it a hne items
  · exact Draws.tuple hh it a hne items
theorem ik_obj {k : Bool} {h : Heap} {it a : Addr} {i : Nat} (x : ik k h it a i) : ∃ o, h.get? it = some o ∧ ∀ v, o.data ≠ .cell v := by
  cases k <;> exact (let ⟨o, e, _, d⟩ := x; ⟨o, e, fun v z => by rw [d] at z; cases z⟩)
theorem ik_keep {k : Bool} {h h' : Heap} {it a : Addr} {i : Nat} (x : ik k h it a i) (e : ∀ o, h.get? it = some o → h'.get? it = some o) : ik k h' it a i := by
  cases k
  · exact Heap.IsListIter.at x fun o q => e o q
  · exact Heap.IsTupleIter.at x fun o q => e o q
theorem ik_beg {k : Bool} {h : Heap} {it a : Addr} (e : h.get? it = some { cls := .type (match k with | true => "tuple_iterator" | false => "list_iterator"), data := .fields #[.ref a, .int 0 0] }) : ik k h it a 0 := by
  cases k <;> exact ⟨_, e, rfl, rfl⟩
theorem bg_k (k : Bool) (a : Addr) (items : Array Value) : Begins (.ref a) { cls := .type (match k with | true => "tuple_iterator" | false => "list_iterator"), data := .fields #[.ref a, .int 0 0] } fun h => hk k h a items := by
  cases k
  · exact begins_list a items
  · exact begins_tuple a items
section
variable {X : Cx} {pins : List (Addr × Obj)} {σ : L2.St} {H : Hp} {s : Shared}
theorem src_k {k : Bool} (I : Inv X pins σ H s) {a : Addr} {xs : List V} (h : sk k X.K H a xs) : ∃ its : List Value, Vals xs its ∧ hk k s.heap a its.toArray ∧ a < s.heap.objs.size := by
  cases k
  · obtain ⟨its, rv, p, _⟩ := I.list h
    exact ⟨its, rv, p.isList, p.lt⟩
  · obtain ⟨its, rv, p, _⟩ := I.tuple h
    obtain ⟨o, e, _⟩ := id p
    exact ⟨its, rv, p, Heap.lt_size e⟩
theorem sk_inj {k : Bool} (I : Inv X pins σ H s) {a : Addr} {xs ys : List V} (h : sk k X.K H a xs) (h' : sk k X.K H a ys) : xs = ys := by
  cases k
  · exact I.list_inj h h'
  · exact I.tuple_inj h h'
end
/-- the two as they stand at each turn, the items in new pairs -/
def Iz2 (k1 k2 : Bool) (K : PySem.W.Frag) (a b : Addr) : It where
  go i H := ∃ (xs ys : List V) (x y : V), sk k1 K H a xs ∧ sk k2 K H b ys ∧ xs[i]? = some x ∧ ys[i]? = some y
  yld i H v H' := ∃ T x y, v = .ref T ∧ H T = none ∧ H' = upd H T (.tup [x, y]) ∧ (∀ xs, sk k1 K H a xs → xs[i]? = some x) ∧ ∀ ys, sk k2 K H b ys → ys[i]? = some y
  stop i H := ∃ xs ys : List V, sk k1 K H a xs ∧ sk k2 K H b ys ∧ i ≤ xs.length ∧ i ≤ ys.length ∧ (i = xs.length ∨ i = ys.length)
theorem sep_of {z TI TO i1 i2 a b : Addr} (D : ZipApart z TI TO i1 i2 a b) : ZipSep2 z TI TO i1 i2 [i1, a] [i2, b] where
  TIz := D.TIz
  TOz := D.TOz
  TITO := D.TITO
  TIi1 := D.TIi1
  mem1 := by simp
  zf1 := by
    have := D.i1z
    have := D.l1z
    simp only [List.mem_cons, List.not_mem_nil, or_false, not_or]
    exact ⟨fun e => D.i1z e.symm, fun e => D.l1z e.symm⟩
  Tf1 := by
    simp only [List.mem_cons, List.not_mem_nil, or_false, not_or]
    exact ⟨D.TOi1, fun e => D.l1TO e.symm⟩
  TIi2 := D.TIi2
  mem2 := by simp
  zf2 := by
    simp only [List.mem_cons, List.not_mem_nil, or_false, not_or]
    exact ⟨fun e => D.i2z e.symm, fun e => D.l2z e.symm⟩
  Tf2 := by
    simp only [List.mem_cons, List.not_mem_nil, or_false, not_or]
    exact ⟨D.TOi2, fun e => D.l2TO e.symm⟩
  sep1_2 := by
    simp only [List.mem_cons, List.not_mem_nil, or_false, not_or]
    exact ⟨D.i12, fun e => D.l2i1 e.symm⟩
  sep2_1 := by
    simp only [List.mem_cons, List.not_mem_nil, or_false, not_or]
    exact ⟨fun e => D.i12 e.symm, fun e => D.l1i2 e.symm⟩
theorem turn_z2 {P : Program} {w : World} {K : PySem.W.Frag} {elts : List Expr} {kk : Nat} {tpos : Pos} {k1 k2 : Bool} {a b z TI TO i1 i2 : Addr} (D : ZipApart z TI TO i1 i2 a b) :
    Turn P w K (.Tuple elts kk tpos) (Iz2 k1 k2 K a b) [z, TI, TO, i1, i2] z (fun i h => IsZip h z TI TO .none ∧ IsTupOf2 h TI (.ref i1) (.ref i2) ∧ (∃ x y, IsTupOf2 h TO x y) ∧ ik k1 h i1 a i ∧ ik k2 h i2 b i) where
  mem := by simp
  obj := fun i h st c hc => by
    obtain ⟨q1, q2, ⟨x, y, q3⟩, q4, q5⟩ := st
    simp only [List.mem_cons, List.not_mem_nil, or_false] at hc
    rcases hc with rfl | rfl | rfl | rfl | rfl
    · exact ⟨_, q1, fun v q => nomatch q⟩
    · exact ⟨_, q2, fun v q => nomatch q⟩
    · exact ⟨_, q3, fun v q => nomatch q⟩
    · exact ik_obj q4
    · exact ik_obj q5
  keep := fun i h h' st e => by
    obtain ⟨q1, q2, ⟨x, y, q3⟩, q4, q5⟩ := st
    exact ⟨e z (by simp) _ q1, e TI (by simp) _ q2, ⟨x, y, e TO (by simp) _ q3⟩, ik_keep q4 (e i1 (by simp)), ik_keep q5 (e i2 (by simp))⟩
  item := by
    intro X hP hw hK hc i pins s σ H E I hf st hg
    subst hP hw hK
    obtain ⟨q1, q2, ⟨x0, y0, q3⟩, q4, q5⟩ := st
    obtain ⟨xs, ys, x, y, hqx, hqy, hx, hy⟩ := hg
    obtain ⟨its, rx, px, _⟩ := src_k I hqx
    obtain ⟨its2, ry, py, _⟩ := src_k I hqy
    obtain ⟨u, hu, ru⟩ := rx.get hx
    obtain ⟨u2, hu2, ru2⟩ := ry.get hy
    have hin : X.A.in1.handled = none := I.ok.hd hc
    refine wpAny_pyNext_zipD2_item (sep_of D) (dr_k k1 hin i1 a D.l1i1 its.toArray) (dr_k k2 hin i2 b D.l2i2 its2.toArray) q1 q2 q3 ⟨q4, px⟩ ⟨q5, py⟩ (by simpa using (List.getElem?_eq_some_iff.mp hu).1) (by simpa using (List.getElem?_eq_some_iff.mp hu2).1) fun v1 v2 h' tk e1 e2 z' TO' d1 d2 hT hsz ke => ?_
    obtain rfl : u = v1 := by
      have e1' : its.toArray[i]? = some v1 := e1
      simp only [List.getElem?_toArray] at e1'
      rw [hu] at e1'
      exact Option.some.inj e1'
    obtain rfl : u2 = v2 := by
      have e2' : its2.toArray[i]? = some v2 := e2
      simp only [List.getElem?_toArray] at e2'
      rw [hu2] at e2'
      exact Option.some.inj e2'
    refine ⟨_, rfl, wpAny_letOwnedTupleGo_zip (s := { s with heap := h', toks := tk }) z' fun h'' z'' sb => ?_⟩
    have hzl : z < s.heap.objs.size := Heap.lt_size q1
    have hT2 : h''.get? s.heap.objs.size = some { cls := .type "tuple", data := .seq #[u, u2] } := (sb.2 _ (Nat.ne_of_gt hzl)).trans hT
    have kp : ∀ c o, c ∉ [z, TI, TO, i1, i2] → s.heap.get? c = some o → h''.get? c = some o := fun c o nc e => by
      simp only [List.mem_cons, List.not_mem_nil, or_false, not_or] at nc
      exact (sb.2 c nc.1).trans (ke c o nc.1 nc.2.2.1 nc.2.2.2.1 nc.2.2.2.2 e)
    have nw : ObjOk X.prog X.w (upd H s.heap.objs.size (.tup [x, y])) h'' s.heap.objs.size (.tup [x, y]) := ⟨by show 2 ≤ sizeLine; decide, [u, u2], .cons ru (.cons ru2 .nil), ⟨_, hT2, rfl, _, rfl⟩⟩
    refine ⟨.ref s.heap.objs.size, _, I.turnedNew (t' := tk) (ch := [z, TI, TO, i1, i2]) kp hf (Nat.le_refl _) nw, rfl, ⟨_, x, y, rfl, I.hok.fresh (Nat.le_refl _), rfl, fun l hl => by rw [sk_inj I hl hqx]; exact hx, fun l hl => by rw [sk_inj I hl hqy]; exact hy⟩, ⟨z'', ?_, ⟨u, u2, (sb.2 _ D.TOz).trans TO'⟩, ?_, ?_⟩, fun c hcm => ?_⟩
    · exact (sb.2 _ D.TIz).trans (ke _ _ D.TIz D.TITO D.TIi1 D.TIi2 q2)
    · exact ik_keep d1.1 fun o q => (sb.2 _ D.i1z).trans q
    · exact ik_keep d2.1 fun o q => (sb.2 _ D.i2z).trans q
    · have hlt : c < s.heap.objs.size := by
        have hcm2 := hcm
        simp only [List.mem_cons, List.not_mem_nil, or_false] at hcm2
        rcases hcm2 with rfl | rfl | rfl | rfl | rfl
        · exact hzl
        · exact Heap.lt_size q2
        · exact Heap.lt_size q3
        · obtain ⟨o, e, _⟩ := ik_obj q4; exact Heap.lt_size e
        · obtain ⟨o, e, _⟩ := ik_obj q5; exact Heap.lt_size e
      rw [upd_ne (Nat.ne_of_lt hlt)]
      exact (hf c hcm).1
  done := by
    intro X hP hw hK hc i pins s σ H E I hf st hg
    subst hP hw hK
    obtain ⟨q1, q2, ⟨x0, y0, q3⟩, q4, q5⟩ := st
    obtain ⟨xs, ys, hqx, hqy, l1, l2, hend⟩ := hg
    obtain ⟨its, rx, px, _⟩ := src_k I hqx
    obtain ⟨its2, ry, py, _⟩ := src_k I hqy
    have e1 := rx.length
    have e2 := ry.length
    have hin : X.A.in1.handled = none := I.ok.hd hc
    refine wpAny_pyNext_zipD2_end (sep_of D) (dr_k k1 hin i1 a D.l1i1 its.toArray) (dr_k k2 hin i2 b D.l2i2 its2.toArray) q1 q2 q3 ⟨q4, px⟩ ⟨q5, py⟩ (by simp; omega) (by simp; omega) (by simp; omega) fun h' tk ke => ⟨rfl, I.turnedL (t' := tk) (ch := [z, TI, TO, i1, i2]) (fun c o nc e => ?_) hf⟩
    simp only [List.mem_cons, List.not_mem_nil, or_false, not_or] at nc
    exact ke c o nc.1 nc.2.2.1 nc.2.2.2.1 nc.2.2.2.2 e
  self := fun A i s Q E st h => wpAny_pyIter_zip st.1 h
/-- J walks the pairs of the items xs that stood at a and ys that stood at b -/
def IsZ (K : PySem.W.Frag) (a b : Addr) (xs ys : List V) (H1 : Hp) (J : It) : Prop := ∀ i H, Stay K a H1 H → Stay K b H1 H → (∀ x y, xs[i]? = some x → ys[i]? = some y → J.go i H) ∧ (∀ v H', J.yld i H v H' → ∃ T x y, v = .ref T ∧ H T = none ∧ H' = upd H T (.tup [x, y]) ∧ xs[i]? = some x ∧ ys[i]? = some y) ∧
  (i ≤ xs.length → i ≤ ys.length → (i = xs.length ∨ i = ys.length) → J.stop i H)
def iZ2 (K : PySem.W.Frag) (ta : TA) : TI := fun σ H R => ta σ H fun vs H1 => ∃ a b xs ys, vs = [.ref a, .ref b] ∧ SqA K H1 a xs ∧ SqA K H1 b ys ∧ ∀ J, IsZ K a b xs ys H1 J → R J H1
theorem sk_of {K : PySem.W.Frag} {H : Hp} {a : Addr} {xs : List V} (h : SqA K H a xs) : ∃ k, sk k K H a xs := h.elim (fun h => ⟨false, h⟩) fun h => ⟨true, h⟩
theorem sk_stay {K : PySem.W.Frag} {H H' : Hp} {a : Addr} {xs : List V} {k : Bool} (s : Stay K a H H') (h : sk k K H a xs) : sk k K H' a xs := by
  cases k
  · exact s.1 _ h
  · exact s.2 _ h
theorem pi_z2 {X : Cx} {e e2 : Expr} {ta : TA} {p pos tpos : Pos} {elts : List Expr} {kk : Nat} (hg : Gl X "zip") (hm : X.mg "zip" = none) (ha : PA X [e, e2] ta)
    (hs : starEach [e, e2] X.env = (false, eval e X.env) :: starEach [e2] X.env := by rfl) (hpl : (backTo pos (starEach [e2] X.env)).any (·.1) = false := by rfl) :
    PI X (.Tuple elts kk tpos) (.Call (.Name "zip" p) [e, e2] [] pos) (iZ2 X.K ta) := by
  refine ⟨fun pins s σ H R I h => ?_⟩
  refine Call_ (ld_blt I hg hm PyProof.Rows.boot_zip (PyProof.Rows.callWith_type1 (thn (ha.run pos pins s σ H _ I h) fun us s1 ⟨vs, H1, I1, r1, q1⟩ => ?_) hs hpl))
  obtain ⟨a, b, xs, ys, rfl, hx, hy, q⟩ := q1
  obtain ⟨k1, hx⟩ := sk_of hx
  obtain ⟨k2, hy⟩ := sk_of hy
  have wk : IsZ X.K a b xs ys H1 (Iz2 k1 k2 X.K a b) := fun i H s1 s2 => ⟨fun x y e1 e2 => ⟨xs, ys, x, y, sk_stay s1 hx, sk_stay s2 hy, e1, e2⟩, fun v H' ⟨T, x, y, e1, e2, e3, f1, f2⟩ => ⟨T, x, y, e1, e2, e3, f1 _ (sk_stay s1 hx), f2 _ (sk_stay s2 hy)⟩, fun l1 l2 e => ⟨xs, ys, sk_stay s1 hx, sk_stay s2 hy, l1, l2, e⟩⟩
  obtain ⟨its, rx, px, la⟩ := src_k I1 hx
  obtain ⟨its2, ry, py, lb⟩ := src_k I1 hy
  cases r1 with
  | cons r rr =>
    cases rr with
    | cons r' rr =>
      cases rr
      cases r
      cases r'
      refine zip_begins2 (bg_k k1 a its.toArray) (bg_k k2 b its2.toArray) px py fun h' hz hTI hTO h1 h2 hsz kp => wpAny_pyIter_zip hz ?_
      refine ⟨s1.heap.objs.size + 4, [s1.heap.objs.size + 4, s1.heap.objs.size + 2, s1.heap.objs.size + 3, s1.heap.objs.size, s1.heap.objs.size + 1], _, _, H1, rfl, I1.kept (t' := s1.toks) kp, turn_z2 (PySem.W.ktu_apart s1.heap.objs.size a b la lb), ⟨hz, hTI, ⟨_, _, hTO⟩, ik_beg h1, ik_beg h2⟩, fun c hcm => ?_, q _ wk⟩
      have hle : s1.heap.objs.size ≤ c := by
        simp only [List.mem_cons, List.not_mem_nil, or_false] at hcm
        rcases hcm with e | e | e | e | e <;> rw [e] <;> first | exact Nat.le_add_right _ _ | exact Nat.le_refl _
      exact I1.fpOk hle (I1.hok.fresh hle)
end K03
namespace K03
open PySem PySem.Spec PyProof.Rows L2
theorem lc_z2 {K : PySem.W.Frag} {a b : Addr} {xs ys : List V} {H0 : Hp} {J : It} (Wk : IsZ K a b xs ys H0 J) (hl : xs.length = ys.length) {g : TG} {tt : TT} {te : TE} {vs : List Nat} {σ : L2.St} {H1 : Hp} {D : Addr} {Qd : Hp → Prop} (Pv : Nat → Hp → Prop) (h0 : Pv 0 (upd H1 D (.lst [])))
    (hq : ∀ i H, i ≤ xs.length → Pv i H → Stay K a H0 H ∧ Stay K b H0 H)
    (hs : ∀ i x y T H, xs[i]? = some x → ys[i]? = some y → Pv i H → H T = none → g (.ref T) (wipe σ vs) (upd H T (.tup [x, y])) fun σ2 H2 => wipe σ2 vs = wipe σ vs ∧ tt σ2 H2 fun b H3 =>
      if b = true then te σ2 H3 fun y H4 => ∃ acc, H4 D = some (.lst acc) ∧ acc.length < sizeLine ∧ Pv (i + 1) (upd H4 D (.lst (acc ++ [y]))) else Pv (i + 1) H3) (hd : ∀ H, Pv xs.length H → Qd H) :
    ∃ W : Nat → Nat → Hp → Prop, (∃ m, W 0 m (upd H1 D (.lst []))) ∧ ∀ i m H, W i m H →
      (J.stop i H ∧ Qd H) ∨ (J.go i H ∧ ∃ Nx : Hp → Prop, (∀ H', Nx H' → ∃ m', m' < m ∧ W (i + 1) m' H') ∧ ∀ x H', J.yld i H x H' → g x (wipe σ vs) H' fun σ2 H2 => wipe σ2 vs = wipe σ vs ∧ tt σ2 H2 fun b H3 =>
        if b = true then te σ2 H3 fun y H4 => ∃ acc, H4 D = some (.lst acc) ∧ acc.length < sizeLine ∧ Nx (upd H4 D (.lst (acc ++ [y]))) else Nx H3) := by
  refine ⟨fun i m H => m + i = xs.length ∧ Pv i H, ⟨xs.length, rfl, h0⟩, fun i m H h => ?_⟩
  obtain ⟨hm, p⟩ := h
  obtain ⟨s1, s2⟩ := hq i H (by omega) p
  obtain ⟨w1, w2, w3⟩ := Wk i H s1 s2
  rcases Nat.lt_or_ge i xs.length with lt | ge
  · refine .inr ⟨w1 xs[i] (ys[i]'(by omega)) (List.getElem?_eq_getElem lt) (List.getElem?_eq_getElem (by omega)), Pv (i + 1), fun H' p' => ⟨m - 1, by omega, by omega, p'⟩, fun v H' hv => ?_⟩
    obtain ⟨T, x, y, rfl, hT, rfl, e1, e2⟩ := w2 v H' hv
    exact hs i x y T _ e1 e2 p hT
  · have e : i = xs.length := by omega
    subst e
    exact .inl ⟨w3 (Nat.le_refl _) (by omega) (.inl rfl), hd H p⟩
end K03


set_option Elab.async false
set_option maxRecDepth 100000
set_option maxHeartbeats 4000000
set_option linter.all false
namespace K03
open PySem PySem.Spec PyProof.Rows L2
/-! enumerate of a list or a tuple -/
theorem meets_enum1 {v : Value} {o : Obj} {H : Heap → Prop} (B : Begins v o H) :
    Meets (Builtin.«enumerate.__new__» ⟨[.type "enumerate", v], []⟩) (fun _ R s => H s.heap ∧
      R (.ok (.ret (.ref (s.heap.push o).objs.size))) { s with heap := (s.heap.push o).push { cls := .type "enumerate", data := .fields #[.none, .bool false, .ref s.heap.objs.size, rawInt 0, .none, .none] } }) :=
  .of_wp fun prog w A R s h => by
    obtain ⟨hp, g, d, tk, os⟩ := s; obtain ⟨h1, h⟩ := h
    have hsub := sub_enumerate
    have q1 : ∀ {A' : Around} {E : Value → Shared → Prop} {Q : Value → Shared → Prop}, Q (.ref hp.objs.size) ⟨hp.push o, g, d, tk, os⟩ → wpAny (model prog w) A' (pyIter v) Q E ⟨hp, g, d, tk, os⟩ :=
      fun q => B.iter prog w _ _ ⟨hp, g, d, tk, os⟩ _ h1 q
    wp_walk using q1
    refine wpAny_stack_any fun st => wpAny_pure ?_
    split
    · rename_i c _ _ _ _ _
      cases (c == Value.type "enumerate")
      · wp_walk using q1
        exact ⟨_, rfl, h⟩
      · wp_walk using q1
        exact ⟨_, rfl, h⟩
    · wp_walk using q1
      exact ⟨_, rfl, h⟩
theorem enum_begins1 {prog : Program} {w : World} {A : Around} {E : Value → Shared → Prop} {s : Shared} {v : Value} {o : Obj} {H : Heap → Prop} {Q : Value → Shared → Prop} (B : Begins v o H) (h1 : H s.heap)
    (h : ∀ h', IsEnum h' (s.heap.objs.size + 1) s.heap.objs.size 0 .none → h'.get? s.heap.objs.size = some o → h'.objs.size = s.heap.objs.size + 2 →
      (∀ b o, s.heap.get? b = some o → h'.get? b = some o) → Q (.ref (s.heap.objs.size + 1)) { s with heap := h' }) :
    wpAny (model prog w) A (call (.type "enumerate") [v]) Q E s := by
  refine callType_new F.called_enumerate (by decide) (F.typeCall_enumerate_1 _) (F.newCall_enumerate_1 _) (fun obj => F.args_object_init_2 obj _) F.entry_enumerate_new
    (meets_enum1 B) ⟨h1, ?_⟩
  have hz : (s.heap.push o).objs.size = s.heap.objs.size + 1 := Heap.size_push ..
  show _ ∧ _
  rw [hz]
  have he : IsEnum ((s.heap.push o).push { cls := .type "enumerate", data := .fields #[.none, .bool false, .ref s.heap.objs.size, rawInt 0, .none, .none] }) (s.heap.objs.size + 1) s.heap.objs.size 0 .none := by
    have := Heap.get?_push_size (s.heap.push o) (o := { cls := .type "enumerate", data := .fields #[.none, .bool false, .ref s.heap.objs.size, rawInt 0, .none, .none] }) rfl
    rw [hz] at this; exact this
  refine ⟨⟨_, he, rfl⟩, h _ he (Heap.get?_push_of_some _ (Heap.get?_push_size _ B.free)) (by rw [Heap.size_push, hz]) fun b o x => Heap.get?_push_of_some _ (Heap.get?_push_of_some _ x)⟩
/-- the items as they stand at each turn, in new pairs -/
def Iek (k : Bool) (K : PySem.W.Frag) (a : Addr) : It where
  go i H := ∃ (xs : List V) (x : V), sk k K H a xs ∧ xs[i]? = some x
  yld i H v H' := ∃ T x, v = .ref T ∧ H T = none ∧ H' = upd H T (.tup [.int (i : Nat), x]) ∧ ∀ xs, sk k K H a xs → xs[i]? = some x
  stop i H := ∃ xs : List V, sk k K H a xs ∧ i = xs.length
theorem turn_ek {P : Program} {w : World} {K : PySem.W.Frag} {elts : List Expr} {kk : Nat} {tpos : Pos} {k : Bool} {a e it : Addr} (hne : e ≠ it) (hai : a ≠ it) (hae : a ≠ e) :
    Turn P w K (.Tuple elts kk tpos) (Iek k K a) [e, it] e (fun i h => (∃ old, IsEnum h e it ((i : Nat) : Int) old) ∧ ik k h it a i) where
  mem := by simp
  obj := fun i h st b hb => by
    obtain ⟨⟨old, he⟩, q⟩ := st
    have e' : b = e ∨ b = it := by simpa using hb
    rcases e' with z | z
    · rw [z]; exact ⟨_, he, fun v q => nomatch q⟩
    · rw [z]; exact ik_obj q
  keep := fun i h h' st kp => by
    obtain ⟨⟨old, he⟩, q⟩ := st
    exact ⟨⟨old, kp e (by simp) _ he⟩, ik_keep q (kp it (by simp))⟩
  item := by
    intro X hP hw hK hc i pins s σ H E I hf st hg
    subst hP hw hK
    obtain ⟨⟨old, he⟩, hit⟩ := st
    obtain ⟨xs, x, hq, hx⟩ := hg
    obtain ⟨its, rv, p, _⟩ := src_k I hq
    obtain ⟨u, hu, ru⟩ := rv.get hx
    have hin : X.A.in1.handled = none := I.ok.hd hc
    have hel : e < s.heap.objs.size := Heap.lt_size he
    have hil : it < s.heap.objs.size := by obtain ⟨o, q, _⟩ := ik_obj hit; exact Heap.lt_size q
    refine wpAny_pyNext_enum_itemC (dr_k k hin it a hai its.toArray) he ⟨hit, p⟩ (by simpa using (List.getElem?_eq_some_iff.mp hu).1) hne (by simp [hne, Ne.symm hae]) fun v1 h' tk e1 ho d1 hT hsz hk => ?_
    obtain rfl : u = v1 := by
      have e1' : its.toArray[i]? = some v1 := e1
      simp only [List.getElem?_toArray] at e1'
      rw [hu] at e1'
      exact Option.some.inj e1'
    refine ⟨_, rfl, wpAny_letOwnedTupleGo_enum (s := { s with heap := h', toks := tk + 1 }) ho fun h'' he' sb => ?_⟩
    have hT2 : h''.get? s.heap.objs.size = some { cls := .type "tuple", data := .seq #[.int i tk, u] } := (sb.2 _ (Nat.ne_of_gt hel)).trans hT
    have new : ObjOk X.prog X.w (upd H s.heap.objs.size (.tup [.int (i : Nat), x])) h'' s.heap.objs.size (.tup [.int (i : Nat), x]) :=
      ⟨by show 2 ≤ sizeLine; decide, [.int i tk, u], .cons ⟨_, rfl⟩ (.cons ru .nil), ⟨_, hT2, rfl, _, rfl⟩⟩
    have I1 : Inv X pins σ (upd H s.heap.objs.size (.tup [.int (i : Nat), x])) { s with heap := h'', toks := tk + 1 } :=
      I.turnedNew (ch := [e, it]) (fun b ob hb q => (sb.2 b (fun z => hb (by simp [z]))).trans (hk b ob (fun z => hb (by simp [z])) (fun z => hb (by simp [z])) q)) hf (Nat.le_refl _) new
    refine ⟨.ref s.heap.objs.size, _, I1, rfl, ⟨_, x, rfl, I.hok.fresh (Nat.le_refl _), rfl, fun ys hy => by rw [sk_inj I hy hq]; exact hx⟩, ⟨⟨u, ?_⟩, ik_keep d1.1 fun o q => (sb.2 it (Ne.symm hne)).trans q⟩, fun b hb => ?_⟩
    · have e1 : ((i + 1 : Nat) : Int) = (i : Int) + 1 := by omega
      rw [e1]; exact he'
    · have hb' : b < s.heap.objs.size := by
        have e' : b = e ∨ b = it := by simpa using hb
        rcases e' with z | z
        · rw [z]; exact hel
        · rw [z]; exact hil
      rw [upd_ne (Nat.ne_of_lt hb')]
      exact (hf b hb).1
  done := by
    intro X hP hw hK hc i pins s σ H E I hf st hg
    subst hP hw hK
    obtain ⟨⟨old, he⟩, hit⟩ := st
    obtain ⟨xs, hq, hx⟩ := hg
    obtain ⟨its, rv, p, _⟩ := src_k I hq
    obtain ⟨f0, f1, f2, f3, f4, f5⟩ := hf it (by simp)
    have hl := rv.length
    have hin : X.A.in1.handled = none := I.ok.hd hc
    have ei : i = its.toArray.size := by simp; omega
    subst ei
    exact wpAny_pyNext_enum_endD (dr_k k hin it a hai its.toArray) he ⟨hit, p⟩ fun h' eb => ⟨rfl, I.turned (t' := s.toks) (fun b o hb q => eb b o hb q) f0 f1 f3 f4 f5⟩
  self := fun A i s Q E st h => let ⟨⟨_, he⟩, _⟩ := st; wpAny_pyIter_enum he h
/-- J walks the items xs that stood at a, with their indexes -/
def IsE (K : PySem.W.Frag) (a : Addr) (xs : List V) (H1 : Hp) (J : It) : Prop := ∀ i H, Stay K a H1 H → (∀ x, xs[i]? = some x → J.go i H) ∧ (∀ v H', J.yld i H v H' → ∃ T x, v = .ref T ∧ H T = none ∧ H' = upd H T (.tup [.int (i : Nat), x]) ∧ xs[i]? = some x) ∧
  (i = xs.length → J.stop i H)
def iE2 (K : PySem.W.Frag) (ta : TA) : TI := fun σ H R => ta σ H fun vs H1 => ∃ a xs, vs = [.ref a] ∧ SqA K H1 a xs ∧ ∀ J, IsE K a xs H1 J → R J H1
theorem pi_e2 {X : Cx} {e : Expr} {ta : TA} {p pos tpos : Pos} {elts : List Expr} {kk : Nat} (hg : Gl X "enumerate") (hm : X.mg "enumerate" = none) (ha : PA X [e] ta) (hs : starEach [e] X.env = [(false, eval e X.env)] := by rfl) :
    PI X (.Tuple elts kk tpos) (.Call (.Name "enumerate" p) [e] [] pos) (iE2 X.K ta) := by
  refine ⟨fun pins s σ H R I h => ?_⟩
  refine Call_ (ld_blt I hg hm boot_enumerate (PyProof.Rows.callWith_type1 (thn (ha.run pos pins s σ H _ I h) fun us s1 ⟨vs, H1, I1, r1, q1⟩ => ?_) hs rfl))
  obtain ⟨a, xs, ex, hq, q⟩ := q1
  subst ex
  obtain ⟨k, hq⟩ := sk_of hq
  have wk : IsE X.K a xs H1 (Iek k X.K a) := fun i H st => ⟨fun x e => ⟨xs, x, sk_stay st hq, e⟩, fun v H' ⟨T, x, e1, e2, e3, f⟩ => ⟨T, x, e1, e2, e3, f _ (sk_stay st hq)⟩, fun e => ⟨xs, sk_stay st hq, e⟩⟩
  obtain ⟨its, rx, px, la⟩ := src_k I1 hq
  cases r1 with
  | cons r rr =>
    cases rr
    cases r
    refine enum_begins1 (bg_k k a its.toArray) px fun h' he h1 hsz kp => wpAny_pyIter_enum he ?_
    refine ⟨s1.heap.objs.size + 1, [s1.heap.objs.size + 1, s1.heap.objs.size], _, _, H1, rfl, I1.kept (t' := s1.toks) kp, turn_ek (Nat.succ_ne_self _) (Nat.ne_of_lt la) (Nat.ne_of_lt (Nat.lt_succ_of_lt la)), ⟨⟨.none, he⟩, ik_beg h1⟩, fun c hcm => ?_, q _ wk⟩
    have hle : s1.heap.objs.size ≤ c := by
      have e' : c = s1.heap.objs.size + 1 ∨ c = s1.heap.objs.size := by simpa using hcm
      rcases e' with z | z
      · rw [z]; exact Nat.le_add_right _ _
      · rw [z]; exact Nat.le_refl _
    exact I1.fpOk hle (I1.hok.fresh hle)
end K03


/-! rows over pairs: what stands at the other ends, rows that have settled, the least of them. Pure. -/
set_option linter.all false
namespace NetM
abbrev Rw := Int → Int
def nearS (E : Prs) (r : Rw) (p : Int) : Int := (E.map fun q => (if q.1 = p then r q.2 else 0) + (if q.2 = p then r q.1 else 0)).sum
theorem nearS_nil (r : Rw) (p : Int) : nearS [] r p = 0 := rfl
theorem nearS_cons (q : Int × Int) (E : Prs) (r : Rw) (p : Int) : nearS (q :: E) r p = ((if q.1 = p then r q.2 else 0) + (if q.2 = p then r q.1 else 0)) + nearS E r p := by
  unfold nearS
  rw [List.map_cons, List.sum_cons]
theorem nearS_app (E F : Prs) (r : Rw) (p : Int) : nearS (E ++ F) r p = nearS E r p + nearS F r p := by
  induction E with
  | nil => rw [List.nil_append, nearS_nil]; omega
  | cons q E ih => rw [List.cons_append, nearS_cons, nearS_cons, ih]; omega
theorem nearS_perm {E F : Prs} (h : E.Perm F) (r : Rw) (p : Int) : nearS E r p = nearS F r p := by
  induction h with
  | nil => rfl
  | cons q _ ih => rw [nearS_cons, nearS_cons, ih]
  | swap a b l => rw [nearS_cons, nearS_cons, nearS_cons, nearS_cons]; omega
  | trans _ _ i1 i2 => rw [i1, i2]
/-- pairs some of which stand the other way round -/
inductive Flip : Prs → Prs → Prop
  | nil : Flip [] []
  | same {E F : Prs} (q : Int × Int) (h : Flip E F) : Flip (q :: E) (q :: F)
  | turn {E F : Prs} (q : Int × Int) (h : Flip E F) : Flip (q :: E) ((q.2, q.1) :: F)
theorem Flip.refl : ∀ E : Prs, Flip E E
  | [] => .nil
  | q :: E => .same q (Flip.refl E)
theorem Flip.near {E F : Prs} (h : Flip E F) (r : Rw) (p : Int) : nearS E r p = nearS F r p := by
  induction h with
  | nil => rfl
  | same q _ ih => rw [nearS_cons, nearS_cons, ih]
  | turn q _ ih => rw [nearS_cons, nearS_cons, ih]; dsimp only; omega
theorem Flip.app {E F E2 F2 : Prs} (h : Flip E F) (k : Flip E2 F2) : Flip (E ++ E2) (F ++ F2) := by
  induction h with
  | nil => exact k
  | same q _ ih => exact .same q ih
  | turn q _ ih => exact .turn q ih
theorem Flip.len {E F : Prs} (h : Flip E F) : F.length = E.length := by
  induction h with
  | nil => rfl
  | same q _ ih => rw [List.length_cons, List.length_cons, ih]
  | turn q _ ih => rw [List.length_cons, List.length_cons, ih]
theorem Flip.mem {E F : Prs} (h : Flip E F) : ∀ q ∈ F, q ∈ E ∨ (q.2, q.1) ∈ E := by
  induction h with
  | nil => intro q m; cases m
  | same q _ ih =>
    intro x m
    rcases List.mem_cons.mp m with rfl | m
    · exact .inl (List.mem_cons_self ..)
    · exact (ih x m).imp (List.mem_cons_of_mem _) (List.mem_cons_of_mem _)
  | turn q _ ih =>
    intro x m
    rcases List.mem_cons.mp m with rfl | m
    · exact .inr (List.mem_cons_self ..)
    · exact (ih x m).imp (List.mem_cons_of_mem _) (List.mem_cons_of_mem _)
theorem Flip.mem2 {E F : Prs} (h : Flip E F) : ∀ q ∈ E, q ∈ F ∨ (q.2, q.1) ∈ F := by
  induction h with
  | nil => intro q m; cases m
  | same q _ ih =>
    intro x m
    rcases List.mem_cons.mp m with rfl | m
    · exact .inl (List.mem_cons_self ..)
    · exact (ih x m).imp (List.mem_cons_of_mem _) (List.mem_cons_of_mem _)
  | turn q _ ih =>
    intro x m
    rcases List.mem_cons.mp m with rfl | m
    · exact .inr (List.mem_cons_self ..)
    · exact (ih x m).imp (List.mem_cons_of_mem _) (List.mem_cons_of_mem _)
def nam (f : Int → Int) (E : Prs) : Prs := E.map fun q => (f q.1, f q.2)
/-- pairs within n -/
def In (n : Nat) (E : Prs) : Prop := ∀ t h, (t, h) ∈ E → InR n t ∧ InR n h
theorem In.cons {n : Nat} {q : Int × Int} {E : Prs} (h : In n (q :: E)) : (InR n q.1 ∧ InR n q.2) ∧ In n E := ⟨h q.1 q.2 (List.mem_cons_self ..), fun t g m => h t g (List.mem_cons_of_mem _ m)⟩
structure Bij (n : Nat) (f : Int → Int) : Prop where
  to : ∀ x, InR n x → InR n (f x)
  inj : ∀ x y, InR n x → InR n y → f x = f y → x = y
theorem Bij.perm {n : Nat} {f : Int → Int} (b : Bij n f) : ((rng n).map f).Perm (rng n) := by
  have nd : ((rng n).map f).Nodup := by
    have h := rng_nodup n
    have hr : ∀ x ∈ rng n, InR n x := fun x m => mem_rng.mp m
    generalize rng n = l at h hr
    induction l with
    | nil => exact List.nodup_nil
    | cons a l ih =>
      rw [List.map_cons]
      rw [List.nodup_cons] at h ⊢
      refine ⟨fun m => ?_, ih h.2 fun x m => hr x (List.mem_cons_of_mem _ m)⟩
      obtain ⟨y, my, e⟩ := List.mem_map.mp m
      have := b.inj y a (hr y (List.mem_cons_of_mem _ my)) (hr a (List.mem_cons_self ..)) e
      exact h.1 (this ▸ my)
  refine (List.perm_ext_iff_of_nodup nd (rng_nodup n)).mpr fun x => ⟨fun m => ?_, fun m => ?_⟩
  · obtain ⟨y, my, rfl⟩ := List.mem_map.mp m
    exact mem_rng.mpr (b.to y (mem_rng.mp my))
  · exact full_of nd (fun y my => by obtain ⟨z, mz, rfl⟩ := List.mem_map.mp my; exact mem_rng.mpr (b.to z (mem_rng.mp mz))) (by rw [List.length_map]; exact Nat.le_refl _) x m
theorem Bij.sur {n : Nat} {f : Int → Int} (b : Bij n f) {y : Int} (h : InR n y) : ∃ x, InR n x ∧ f x = y := by
  have := b.perm.mem_iff.mpr (mem_rng.mpr h)
  obtain ⟨x, mx, e⟩ := List.mem_map.mp this
  exact ⟨x, mem_rng.mp mx, e⟩
theorem near_nam {n : Nat} {f : Int → Int} (b : Bij n f) : ∀ {E : Prs}, In n E → ∀ (r : Rw) {p : Int}, InR n p → nearS (nam f E) r (f p) = nearS E (fun x => r (f x)) p
  | [], _, r, p, hp => rfl
  | q :: E, h, r, p, hp => by
    obtain ⟨⟨h1, h2⟩, hE⟩ := h.cons
    show nearS ((f q.1, f q.2) :: nam f E) r (f p) = _
    rw [nearS_cons, nearS_cons, near_nam b hE r hp]
    have e1 : (f q.1 = f p) ↔ q.1 = p := ⟨b.inj _ _ h1 hp, fun e => by rw [e]⟩
    have e2 : (f q.2 = f p) ↔ q.2 = p := ⟨b.inj _ _ h2 hp, fun e => by rw [e]⟩
    congr 2
    · by_cases c : q.1 = p
      · rw [if_pos (e1.mpr c), if_pos c]
      · rw [if_neg (fun z => c (e1.mp z)), if_neg c]
    · by_cases c : q.2 = p
      · rw [if_pos (e2.mpr c), if_pos c]
      · rw [if_neg (fun z => c (e2.mp z)), if_neg c]
/-- F is E in other names, in another order, some pairs the other way round -/
structure Ren (n : Nat) (f : Int → Int) (E F : Prs) : Prop where
  b : Bij n f
  hE : In n E
  ex : ∃ G, G.Perm (nam f E) ∧ Flip G F
theorem Ren.near {n : Nat} {f : Int → Int} {E F : Prs} (R : Ren n f E F) (r : Rw) {p : Int} (hp : InR n p) : nearS F r (f p) = nearS E (fun x => r (f x)) p := by
  obtain ⟨G, g1, g2⟩ := R.ex
  rw [← g2.near, nearS_perm g1, near_nam R.b R.hE r hp]
/-! ### rows that have settled -/
def Setl (E : Prs) (n : Nat) (r : Rw) : Prop := ∀ p, InR n p → 1 ≤ r p ∧ nearS E r p ≤ 2 * r p
theorem Ren.setl {n : Nat} {f : Int → Int} {E F : Prs} (R : Ren n f E F) (r : Rw) : Setl F n r ↔ Setl E n fun x => r (f x) := by
  constructor
  · intro h p hp
    have := h (f p) (R.b.to p hp)
    rw [R.near r hp] at this
    exact this
  · intro h y hy
    obtain ⟨x, hx, rfl⟩ := R.b.sur hy
    rw [R.near r hx]
    exact h x hx
theorem near_mono {n : Nat} : ∀ {E : Prs}, In n E → ∀ {r s : Rw}, (∀ p, InR n p → r p ≤ s p) → ∀ p, nearS E r p ≤ nearS E s p
  | [], _, r, s, h, p => Int.le_refl _
  | q :: E, hE, r, s, h, p => by
    obtain ⟨⟨h1, h2⟩, hE'⟩ := hE.cons
    rw [nearS_cons, nearS_cons]
    have i1 := h _ h1
    have i2 := h _ h2
    have ih := near_mono hE' h p
    split <;> split <;> omega
theorem near_congr {n : Nat} : ∀ {E : Prs}, In n E → ∀ {r s : Rw}, (∀ p, InR n p → r p = s p) → ∀ p, nearS E r p = nearS E s p
  | [], _, r, s, h, p => rfl
  | q :: E, hE, r, s, h, p => by
    obtain ⟨⟨h1, h2⟩, hE'⟩ := hE.cons
    rw [nearS_cons, nearS_cons, near_congr hE' h p, h _ h1, h _ h2]
/-- below all rows that have settled -/
def Low (E : Prs) (n : Nat) (r : Rw) : Prop := ∀ s, Setl E n s → ∀ p, InR n p → r p ≤ s p
theorem low_one (E : Prs) (n : Nat) : Low E n fun _ => 1 := fun s h p hp => (h p hp).1
theorem low_up {E : Prs} {n : Nat} (hE : In n E) {r : Rw} (l : Low E n r) {p : Int} (hp : InR n p) (c : 2 * r p < nearS E r p) : Low E n fun x => if x = p then r p + 1 else r x := fun s h x hx => by
  have h1 := near_mono hE (l s h) p
  have h2 := (h p hp).2
  have h3 := l s h x hx
  show (if x = p then _ else _) ≤ _
  by_cases e : x = p
  · rw [if_pos e, e]
    omega
  · rw [if_neg e]; exact h3
/-- the least of the rows that have settled -/
def Lst (E : Prs) (n : Nat) (r : Rw) : Prop := Setl E n r ∧ Low E n r
theorem Lst.uniq {E : Prs} {n : Nat} {r s : Rw} (h : Lst E n r) (k : Lst E n s) : ∀ p, InR n p → r p = s p := fun p hp => by
  have := h.2 s k.1 p hp
  have := k.2 r h.1 p hp
  omega
theorem setl_congr {E : Prs} {n : Nat} (hE : In n E) {r s : Rw} (e : ∀ p, InR n p → r p = s p) (h : Setl E n r) : Setl E n s := fun p hp => by
  rw [← near_congr hE e p, ← e p hp]
  exact h p hp
theorem Ren.back {n : Nat} {f : Int → Int} {E F : Prs} (R : Ren n f E F) : ∃ g : Int → Int, ∀ x, InR n x → InR n (g x) ∧ f (g x) = x ∧ g (f x) = x := by
  refine ⟨fun y => Classical.epsilon fun x => InR n x ∧ f x = y, fun x hx => ?_⟩
  have h1 : InR n (Classical.epsilon fun z => InR n z ∧ f z = x) ∧ f (Classical.epsilon fun z => InR n z ∧ f z = x) = x := Classical.epsilon_spec (p := fun z => InR n z ∧ f z = x) (R.b.sur hx)
  have h2 : InR n (Classical.epsilon fun z => InR n z ∧ f z = f x) ∧ f (Classical.epsilon fun z => InR n z ∧ f z = f x) = f x := Classical.epsilon_spec (p := fun z => InR n z ∧ f z = f x) (R.b.sur (R.b.to x hx))
  exact ⟨h1.1, h1.2, R.b.inj _ _ h2.1 hx h2.2⟩
theorem Ren.inF {n : Nat} {f : Int → Int} {E F : Prs} (R : Ren n f E F) : In n F := fun t h m => by
  obtain ⟨G, g1, g2⟩ := R.ex
  have key : ∀ a b, (a, b) ∈ G → InR n a ∧ InR n b := fun a b m => by
    have := g1.mem_iff.mp m
    obtain ⟨q, mq, e⟩ := List.mem_map.mp this
    obtain ⟨i1, i2⟩ := R.hE q.1 q.2 mq
    cases e
    exact ⟨R.b.to _ i1, R.b.to _ i2⟩
  rcases g2.mem _ m with m | m
  · exact key _ _ m
  · exact (key _ _ m).symm
/-- the least row goes along -/
theorem Ren.lst {n : Nat} {f : Int → Int} {E F : Prs} (R : Ren n f E F) {r : Rw} (h : Lst F n r) : Lst E n fun x => r (f x) := by
  refine ⟨(R.setl r).mp h.1, fun s hs p hp => ?_⟩
  obtain ⟨g, hg⟩ := R.back
  have h1 : Setl F n fun y => s (g y) := (R.setl _).mpr (setl_congr R.hE (fun q hq => by show s q = s (g (f q)); rw [(hg q hq).2.2]) hs)
  have h2 := h.2 _ h1 (f p) (R.b.to p hp)
  rw [show s (g (f p)) = s p by rw [(hg p hp).2.2]] at h2
  exact h2
end NetM


/-! the form, the row that settles step by step, the row that grows. Pure. -/
set_option linter.all false
namespace NetM
def frm (E : Prs) (n : Nat) (r : Rw) : Int := ((rng n).map fun p => r p * r p).sum - (E.map fun q => r q.1 * r q.2).sum
theorem sum_perm {l m : List Int} (h : l.Perm m) : l.sum = m.sum := by
  induction h with
  | nil => rfl
  | cons a _ ih => rw [List.sum_cons, List.sum_cons, ih]
  | swap a b l => rw [List.sum_cons, List.sum_cons, List.sum_cons, List.sum_cons]; omega
  | trans _ _ i j => rw [i, j]
theorem Flip.prod {E F : Prs} (h : Flip E F) (r : Rw) : (E.map fun q => r q.1 * r q.2).sum = (F.map fun q => r q.1 * r q.2).sum := by
  induction h with
  | nil => rfl
  | same q _ ih => rw [List.map_cons, List.map_cons, List.sum_cons, List.sum_cons, ih]
  | turn q _ ih => rw [List.map_cons, List.map_cons, List.sum_cons, List.sum_cons, ih, Int.mul_comm]
theorem Ren.frm {n : Nat} {f : Int → Int} {E F : Prs} (R : Ren n f E F) (r : Rw) : frm F n r = NetM.frm E n fun x => r (f x) := by
  obtain ⟨G, g1, g2⟩ := R.ex
  unfold NetM.frm
  rw [← g2.prod, sum_perm (g1.map fun q => r q.1 * r q.2), ← sum_perm (R.b.perm.map fun p => r p * r p)]
  unfold nam
  rw [List.map_map, List.map_map]
  rfl
theorem frm_congr {E : Prs} {n : Nat} (hE : In n E) {r s : Rw} (e : ∀ p, InR n p → r p = s p) : frm E n r = frm E n s := by
  unfold frm
  rw [List.map_congr_left (f := fun p => r p * r p) (g := fun p => s p * s p) fun p m => by rw [e p (mem_rng.mp m)],
    List.map_congr_left (f := fun q : Int × Int => r q.1 * r q.2) (g := fun q => s q.1 * s q.2) fun q m => by
      obtain ⟨h1, h2⟩ := hE q.1 q.2 m
      rw [e _ h1, e _ h2]]
/-! ### the row that settles -/
def rowF (L : List Int) : Rw := fun p => L.getD p.toNat 0
def lowAt (E : Prs) (L : List Int) (j : Nat) : Bool := decide (2 * L.getD j 0 < nearS E (rowF L) j)
def stepL (E : Prs) (L : List Int) (j : Nat) : List Int := if lowAt E L j then L.set j (L.getD j 0 + 1) else L
def passTo (E : Prs) (L : List Int) : Nat → List Int
  | 0 => L
  | j + 1 => stepL E (passTo E L j) j
def raisTo (E : Prs) (L : List Int) : Nat → Bool
  | 0 => false
  | j + 1 => raisTo E L j || lowAt E (passTo E L j) j
theorem step_len (E : Prs) (L : List Int) (j : Nat) : (stepL E L j).length = L.length := by
  unfold stepL
  split
  · rw [List.length_set]
  · rfl
theorem pass_len (E : Prs) (L : List Int) : ∀ j, (passTo E L j).length = L.length
  | 0 => rfl
  | j + 1 => by show (stepL E _ j).length = _; rw [step_len, pass_len E L j]
theorem rowF_set {L : List Int} {j : Nat} {v : Int} (h : j < L.length) {p : Int} (hp : 0 ≤ p) : rowF (L.set j v) p = if p = (j : Int) then v else rowF L p := by
  unfold rowF
  by_cases c : p = (j : Int)
  · rw [if_pos c, c, Int.toNat_natCast, List.getD_eq_getElem?_getD, List.getElem?_set_self h]
    rfl
  · rw [if_neg c, List.getD_eq_getElem?_getD, List.getElem?_set_ne (by omega), ← List.getD_eq_getElem?_getD]
theorem rowF_nat (L : List Int) (j : Nat) : rowF L j = L.getD j 0 := by unfold rowF; rw [Int.toNat_natCast]
theorem inr_nat {n j : Nat} (h : j < n) : InR n (j : Int) := ⟨by omega, by omega⟩
theorem step_low {E : Prs} {n : Nat} (hE : In n E) {L : List Int} (hl : L.length = n) (l : Low E n (rowF L)) {j : Nat} (hj : j < n) : Low E n (rowF (stepL E L j)) := by
  unfold stepL
  by_cases c : lowAt E L j = true
  · rw [if_pos c]
    have c2 := of_decide_eq_true c
    rw [← rowF_nat] at c2
    have := low_up hE l (inr_nat hj) c2
    intro s hs p hp
    have h2 := this s hs p hp
    rw [rowF_set (by omega) hp.1, ← rowF_nat]
    exact h2
  · rw [if_neg c]; exact l
theorem pass_low {E : Prs} {n : Nat} (hE : In n E) {L : List Int} (hl : L.length = n) (l : Low E n (rowF L)) : ∀ j, j ≤ n → Low E n (rowF (passTo E L j))
  | 0, _ => l
  | j + 1, h => step_low hE (by rw [pass_len]; exact hl) (pass_low hE hl l j (by omega)) (by omega)
theorem raise_no {E : Prs} {L : List Int} : ∀ {j : Nat}, raisTo E L j = false → passTo E L j = L ∧ ∀ k, k < j → lowAt E L k = false
  | 0, _ => ⟨rfl, fun k h => by omega⟩
  | j + 1, h => by
    have h1 : (raisTo E L j || lowAt E (passTo E L j) j) = false := h
    rw [Bool.or_eq_false_iff] at h1
    obtain ⟨i1, i2⟩ := raise_no h1.1
    rw [i1] at h1
    refine ⟨?_, fun k hk => ?_⟩
    · show stepL E (passTo E L j) j = L
      rw [i1]
      unfold stepL
      rw [h1.2, if_neg (by decide)]
    · rcases Nat.lt_or_ge k j with c | c
      · exact i2 k c
      · rw [show k = j by omega]; exact h1.2
theorem setl_of {E : Prs} {n : Nat} {L : List Int} (hl : L.length = n) (h1 : ∀ i ∈ L, 1 ≤ i) (h : ∀ k, k < n → lowAt E L k = false) : Setl E n (rowF L) := fun p hp => by
  obtain ⟨k, rfl⟩ : ∃ k : Nat, p = k := ⟨p.toNat, by have := hp.1; omega⟩
  have hk : k < n := by have := hp.2; omega
  have h2 := of_decide_eq_false (h k hk)
  rw [rowF_nat] at *
  refine ⟨?_, by omega⟩
  rw [List.getD_eq_getElem?_getD, List.getElem?_eq_getElem (by omega)]
  exact h1 _ (List.getElem_mem (by omega))
/-- each number stays at least as great, and rises by 1 at most, up to j -/
theorem step_le {E : Prs} {L : List Int} {j : Nat} {a b : Int} (h : ∀ i ∈ L, a ≤ i ∧ i ≤ b) (hj : j < L.length) : ∀ i ∈ stepL E L j, a ≤ i ∧ i ≤ b + 1 := fun i m => by
  unfold stepL at m
  split at m
  · rcases List.mem_or_eq_of_mem_set m with m | m
    · have := h i m; omega
    · rw [m, List.getD_eq_getElem?_getD, List.getElem?_eq_getElem hj]
      have := h _ (List.getElem_mem hj)
      show a ≤ L[j] + 1 ∧ L[j] + 1 ≤ b + 1
      omega
  · have := h i m; omega
theorem pass_ge {E : Prs} {L : List Int} {a : Int} (h : ∀ i ∈ L, a ≤ i) : ∀ j, j ≤ L.length → ∀ i ∈ passTo E L j, a ≤ i
  | 0, _ => h
  | j + 1, hj => fun i m => by
    have ih := pass_ge (E := E) h j (by omega)
    have m2 : i ∈ stepL E (passTo E L j) j := m
    unfold stepL at m2
    split at m2
    · rcases List.mem_or_eq_of_mem_set m2 with m2 | m2
      · exact ih i m2
      · have hl : j < (passTo E L j).length := by rw [pass_len]; omega
        rw [m2, List.getD_eq_getElem?_getD, List.getElem?_eq_getElem hl]
        have := ih _ (List.getElem_mem hl)
        show a ≤ (passTo E L j)[j] + 1
        omega
    · exact ih i m2
/-- numbers not yet come to are what they were; the others rise by 1 at most -/
theorem pass_at {E : Prs} {L : List Int} : ∀ (j k : Nat), j ≤ L.length → (j ≤ k → (passTo E L j).getD k 0 = L.getD k 0) ∧ L.getD k 0 ≤ (passTo E L j).getD k 0 ∧ (passTo E L j).getD k 0 ≤ L.getD k 0 + 1
  | 0, k, _ => ⟨fun _ => rfl, Int.le_refl _, by show L.getD k 0 ≤ L.getD k 0 + 1; omega⟩
  | j + 1, k, hj => by
    obtain ⟨i1, i2, i3⟩ := pass_at (E := E) (L := L) j k (by omega)
    have hl : j < (passTo E L j).length := by rw [pass_len]; omega
    show (j + 1 ≤ k → (stepL E (passTo E L j) j).getD k 0 = _) ∧ _ ≤ (stepL E (passTo E L j) j).getD k 0 ∧ (stepL E (passTo E L j) j).getD k 0 ≤ _
    unfold stepL
    split
    · by_cases c : j = k
      · subst c
        have e : ((passTo E L j).set j ((passTo E L j).getD j 0 + 1)).getD j 0 = (passTo E L j).getD j 0 + 1 := by
          rw [List.getD_eq_getElem?_getD, List.getElem?_set_self hl]; rfl
        rw [e]
        have := i1 (Nat.le_refl _)
        exact ⟨fun h => by omega, by omega, by omega⟩
      · have e : ((passTo E L j).set j ((passTo E L j).getD j 0 + 1)).getD k 0 = (passTo E L j).getD k 0 := by
          rw [List.getD_eq_getElem?_getD, List.getElem?_set_ne c, ← List.getD_eq_getElem?_getD]
        rw [e]
        exact ⟨fun h => i1 (by omega), i2, i3⟩
    · exact ⟨fun h => i1 (by omega), i2, i3⟩
theorem sum_set : ∀ {L : List Int} {j : Nat} {v : Int}, j < L.length → (L.set j v).sum = L.sum - L.getD j 0 + v
  | [], _, _, h => by simp at h
  | a :: L, 0, v, _ => by rw [List.set_cons_zero, List.sum_cons, List.sum_cons]; show _ = a + L.sum - a + v; omega
  | a :: L, j + 1, v, h => by
    rw [List.set_cons_succ, List.sum_cons, List.sum_cons, sum_set (by simpa using h)]
    show _ = a + L.sum - L.getD j 0 + v
    omega
theorem pass_sum {E : Prs} {L : List Int} : ∀ j, j ≤ L.length → L.sum ≤ (passTo E L j).sum ∧ (raisTo E L j = true → L.sum < (passTo E L j).sum)
  | 0, _ => ⟨Int.le_refl _, fun h => by cases h⟩
  | j + 1, hj => by
    obtain ⟨i1, i2⟩ := pass_sum (E := E) (L := L) j (by omega)
    have hl : j < (passTo E L j).length := by rw [pass_len]; omega
    show L.sum ≤ (stepL E (passTo E L j) j).sum ∧ ((raisTo E L j || lowAt E (passTo E L j) j) = true → L.sum < (stepL E (passTo E L j) j).sum)
    unfold stepL
    by_cases c : lowAt E (passTo E L j) j = true
    · rw [if_pos c, sum_set hl]
      exact ⟨by omega, fun _ => by omega⟩
    · rw [if_neg c]
      refine ⟨i1, fun h => i2 ?_⟩
      rw [Bool.or_eq_true] at h
      exact h.resolve_right c
theorem sum_le : ∀ {L : List Int} {b : Int}, (∀ i ∈ L, i ≤ b) → L.sum ≤ b * L.length
  | [], b, _ => by simp
  | a :: L, b, h => by
    have h1 := h a (List.mem_cons_self ..)
    have ih := sum_le fun i m => h i (List.mem_cons_of_mem _ m)
    rw [List.sum_cons, List.length_cons]
    have : b * ((L.length + 1 : Nat) : Int) = b * L.length + b := by rw [Int.natCast_add, Int.mul_add]; simp
    omega
/-- what settled_row tells -/
def SetR (E : Prs) (n : Nat) : Option (List Int) → Prop
  | some L => L.length = n ∧ Lst E n (rowF L) ∧ ∀ i ∈ L, 1 ≤ i ∧ i ≤ 6
  | none => ∀ s, Setl E n s → ∃ p, InR n p ∧ 6 < s p
theorem big_none {E : Prs} {n : Nat} {L : List Int} (hl : L.length = n) (l : Low E n (rowF L)) {i : Int} (m : i ∈ L) (h : 6 < i) : SetR E n none := fun s hs => by
  obtain ⟨k, hk, e⟩ := List.getElem_of_mem m
  refine ⟨k, inr_nat (by omega), ?_⟩
  have := l s hs k (inr_nat (by omega))
  rw [rowF_nat, List.getD_eq_getElem?_getD, List.getElem?_eq_getElem hk] at this
  have e2 : (some L[k]).getD 0 = L[k] := rfl
  rw [e2, e] at this
  omega
theorem SetR.ren {n : Nat} {f : Int → Int} {E F : Prs} (R : Ren n f E F) {o o' : Option (List Int)} (h : SetR E n o) (h' : SetR F n o') : (o = none ∧ o' = none) ∨ ∃ L L', o = some L ∧ o' = some L' ∧ ∀ p, InR n p → rowF L' (f p) = rowF L p := by
  cases o with
  | none =>
    cases o' with
    | none => exact .inl ⟨rfl, rfl⟩
    | some L' =>
      obtain ⟨l1, l2, l3⟩ := h'
      obtain ⟨p, hp, h6⟩ := h _ (R.lst l2).1
      obtain ⟨k, e⟩ : ∃ k : Nat, f p = k := ⟨(f p).toNat, by have := (R.b.to p hp).1; omega⟩
      have hk : k < n := by have := (R.b.to p hp).2; omega
      have h6' : 6 < rowF L' (f p) := h6
      rw [e, rowF_nat, List.getD_eq_getElem?_getD, List.getElem?_eq_getElem (by omega)] at h6'
      have := (l3 _ (List.getElem_mem (show k < L'.length by omega))).2
      have e2 : (some L'[k]).getD 0 = L'[k] := rfl
      rw [e2] at h6'
      omega
  | some L =>
    obtain ⟨l1, l2, l3⟩ := h
    cases o' with
    | none =>
      obtain ⟨g, hg⟩ := R.back
      have hs : Setl F n fun y => rowF L (g y) := (R.setl _).mpr (setl_congr R.hE (fun q hq => by show rowF L q = rowF L (g (f q)); rw [(hg q hq).2.2]) l2.1)
      obtain ⟨p, hp, h6⟩ := h' _ hs
      obtain ⟨k, e⟩ : ∃ k : Nat, g p = k := ⟨(g p).toNat, by have := (hg p hp).1.1; omega⟩
      have hk : k < n := by have := (hg p hp).1.2; omega
      have h6' : 6 < rowF L (g p) := h6
      rw [e, rowF_nat, List.getD_eq_getElem?_getD, List.getElem?_eq_getElem (by omega)] at h6'
      have := (l3 _ (List.getElem_mem (show k < L.length by omega))).2
      have e2 : (some L[k]).getD 0 = L[k] := rfl
      rw [e2] at h6'
      omega
    | some L' => exact .inr ⟨L, L', rfl, rfl, fun p hp => (R.lst h'.2.1).uniq l2 p hp⟩
/-! ### worked out on one net -/
def anyBig (L : List Int) : Bool := L.any fun i => decide (6 < i)
def runS (E : Prs) (n : Nat) : Nat → List Int → Option (Option (List Int))
  | 0, _ => none
  | k + 1, L => if raisTo E L n then (if anyBig (passTo E L n) then some none else runS E n k (passTo E L n)) else some (some L)
theorem runS_ok {E : Prs} {n : Nat} (hE : In n E) : ∀ (k : Nat) {L : List Int}, L.length = n → Low E n (rowF L) → (∀ i ∈ L, 1 ≤ i ∧ i ≤ 6) → ∀ {o}, runS E n k L = some o → SetR E n o
  | 0, L, _, _, _, o, e => by cases e
  | k + 1, L, hl, l, h, o, e => by
    unfold runS at e
    by_cases c : raisTo E L n = true
    · rw [if_pos c] at e
      have l2 := pass_low hE hl l n (Nat.le_refl _)
      have hl2 : (passTo E L n).length = n := by rw [pass_len, hl]
      by_cases d : anyBig (passTo E L n) = true
      · rw [if_pos d] at e
        cases e
        obtain ⟨i, m, hi⟩ := List.any_eq_true.mp d
        exact big_none hl2 l2 m (of_decide_eq_true hi)
      · rw [if_neg d] at e
        refine runS_ok hE k hl2 l2 (fun i m => ⟨pass_ge (fun i m => (h i m).1) n (by omega) i m, ?_⟩) e
        have : ¬ 6 < i := fun z => d (List.any_eq_true.mpr ⟨i, m, decide_eq_true z⟩)
        omega
    · rw [if_neg c] at e
      cases e
      have c' : raisTo E L n = false := by cases q : raisTo E L n with
        | true => exact absurd q c
        | false => rfl
      exact ⟨hl, ⟨setl_of hl (fun i m => (h i m).1) (raise_no c').2, l⟩, h⟩
end NetM


/-! nets in other names: connected, without ways round. Pure. -/
set_option linter.all false
namespace NetM
theorem near_nonneg {r : Rw} (h : ∀ x, 0 ≤ r x) (p : Int) : ∀ F : Prs, 0 ≤ nearS F r p
  | [] => Int.le_refl _
  | q :: F => by
    have := near_nonneg h p F
    have := h q.1
    have := h q.2
    rw [nearS_cons]
    split <;> split <;> omega
theorem near_one {r : Rw} (h : ∀ x, 0 ≤ r x) {p : Int} : ∀ {F : Prs} {a : Int × Int}, a ∈ F → (if a.1 = p then r a.2 else 0) + (if a.2 = p then r a.1 else 0) ≤ nearS F r p
  | q :: F, a, m => by
    rw [nearS_cons]
    have n1 := near_nonneg h p F
    rcases List.mem_cons.mp m with rfl | m
    · omega
    · have ih := near_one h (p := p) m
      have := h q.1
      have := h q.2
      have : 0 ≤ (if q.1 = p then r q.2 else 0) + (if q.2 = p then r q.1 else 0) := by split <;> split <;> omega
      omega
theorem near_two {r : Rw} (h : ∀ x, 0 ≤ r x) {p : Int} : ∀ {F : Prs} {a b : Int × Int}, a ∈ F → b ∈ F → a ≠ b →
    ((if a.1 = p then r a.2 else 0) + (if a.2 = p then r a.1 else 0)) + ((if b.1 = p then r b.2 else 0) + (if b.2 = p then r b.1 else 0)) ≤ nearS F r p
  | q :: F, a, b, ma, mb, ne => by
    rw [nearS_cons]
    rcases List.mem_cons.mp ma with rfl | ma1
    · rcases List.mem_cons.mp mb with rfl | mb1
      · exact absurd rfl ne
      · have := near_one h (p := p) mb1
        omega
    · rcases List.mem_cons.mp mb with rfl | mb1
      · have := near_one h (p := p) ma1
        omega
      · have ih := near_two h (p := p) ma1 mb1 ne
        have := h q.1
        have := h q.2
        have : 0 ≤ (if q.1 = p then r q.2 else 0) + (if q.2 = p then r q.1 else 0) := by split <;> split <;> omega
        omega
def ind (b : Int) : Rw := fun x => if x = b then 1 else 0
theorem ind_nn (b : Int) : ∀ x, 0 ≤ ind b x := fun x => by unfold ind; split <;> omega
/-- a pair and the same one turned: two between both places -/
theorem two_of {F : Prs} {a b : Int} (ne : a ≠ b) (h1 : (a, b) ∈ F) (h2 : (b, a) ∈ F) : 2 ≤ nearS F (ind b) a := by
  have := near_two (ind_nn b) (p := a) h1 h2 (fun z => ne (Prod.mk.inj z).1)
  have e : ind b b = 1 := if_pos rfl
  dsimp only at this
  simp only [e, if_neg (Ne.symm ne), ↓reduceIte] at this
  omega
theorem acy_pot {F : Prs} (φ : Int → Int) (h : ∀ t g, (t, g) ∈ F → φ t < φ g) : Acy F := fun t g m k => by
  have key : ∀ {a b : Int}, Rch F a b → φ a ≤ φ b := fun k => by
    induction k with
    | refl => exact Int.le_refl _
    | step _ e ih => have := h _ _ e; omega
  have := h t g m
  have := key k
  omega
/-- pairs that bring in one place after another -/
inductive Tre : Nat → Prs → Prop
  | nil : Tre 1 []
  | add {n : Nat} {E : Prs} (a : Int) (h : Tre n E) (ha : InR n a) : Tre (n + 1) (E ++ [(a, (n : Int))])
theorem Tre.inn {n : Nat} {E : Prs} (h : Tre n E) : In n E := by
  induction h with
  | nil => intro t g m; cases m
  | @add n E a _ ha ih =>
    intro t g m
    rcases List.mem_append.mp m with m | m
    · obtain ⟨i, j⟩ := ih t g m
      exact ⟨⟨i.1, by have := i.2; omega⟩, ⟨j.1, by have := j.2; omega⟩⟩
    · cases List.mem_singleton.mp m
      exact ⟨⟨ha.1, by have := ha.2; omega⟩, ⟨by omega, by omega⟩⟩
theorem Tre.pot {n : Nat} {E : Prs} (h : Tre n E) (o : Int × Int → Bool) : ∃ φ : Int → Int, ∀ q ∈ E, if o q = true then φ q.1 < φ q.2 else φ q.2 < φ q.1 := by
  induction h with
  | nil => exact ⟨fun _ => 0, fun q m => by cases m⟩
  | @add n E a h ha ih =>
    obtain ⟨φ, hφ⟩ := ih
    refine ⟨fun x => if x = (n : Int) then (if o (a, (n : Int)) = true then φ a + 1 else φ a - 1) else φ x, fun q m => ?_⟩
    have na : a ≠ (n : Int) := fun z => by have := ha.2; omega
    rcases List.mem_append.mp m with m | m
    · obtain ⟨i, j⟩ := h.inn q.1 q.2 m
      have n1 : q.1 ≠ (n : Int) := fun z => by have := i.2; omega
      have n2 : q.2 ≠ (n : Int) := fun z => by have := j.2; omega
      have := hφ q m
      dsimp only
      rw [if_neg n1, if_neg n2]
      exact this
    · cases List.mem_singleton.mp m
      dsimp only
      rw [if_neg na, if_pos rfl]
      split <;> rename_i c
      · omega
      · omega
theorem Ren.two {n : Nat} {f : Int → Int} {E F : Prs} (R : Ren n f E F) : ∀ q ∈ F, ∃ e ∈ E, q = (f e.1, f e.2) ∨ q = (f e.2, f e.1) := fun q m => by
  obtain ⟨G, g1, g2⟩ := R.ex
  rcases g2.mem q m with m | m
  · obtain ⟨e, me, h⟩ := List.mem_map.mp (g1.mem_iff.mp m)
    exact ⟨e, me, .inl h.symm⟩
  · obtain ⟨e, me, h⟩ := List.mem_map.mp (g1.mem_iff.mp m)
    refine ⟨e, me, .inr ?_⟩
    have := Prod.mk.inj h
    exact Prod.ext this.2.symm this.1.symm
theorem Ren.one {n : Nat} {f : Int → Int} {E F : Prs} (R : Ren n f E F) : ∀ e ∈ E, (f e.1, f e.2) ∈ F ∨ (f e.2, f e.1) ∈ F := fun e m => by
  obtain ⟨G, g1, g2⟩ := R.ex
  have := g1.mem_iff.mpr (List.mem_map.mpr ⟨e, m, rfl⟩)
  exact (g2.mem2 _ this)
/-- a tree has no ways round, however its pairs stand -/
theorem Ren.acy {n : Nat} {f : Int → Int} {E F : Prs} (R : Ren n f E F) (T : Tre n E) (sim : ∀ a b, InR n a → InR n b → nearS E (ind b) a ≤ 1) (nl : ∀ a b, (a, b) ∈ E → a ≠ b) : Acy F := by
  obtain ⟨φ, hφ⟩ := T.pot fun q => decide ((f q.1, f q.2) ∈ F)
  obtain ⟨g, hg⟩ := R.back
  refine acy_pot (fun y => φ (g y)) fun t h m => ?_
  obtain ⟨e, me, he⟩ := R.two _ m
  obtain ⟨i1, i2⟩ := R.hE e.1 e.2 me
  have hq := hφ e me
  rcases he with he | he
  · cases he
    show φ (g _) < φ (g _)
    rw [(hg _ i1).2.2, (hg _ i2).2.2]
    rw [if_pos (decide_eq_true m)] at hq
    exact hq
  · cases he
    show φ (g _) < φ (g _)
    rw [(hg _ i1).2.2, (hg _ i2).2.2]
    by_cases c : (f e.1, f e.2) ∈ F
    · exfalso
      have nf : f e.1 ≠ f e.2 := fun z => nl e.1 e.2 me (R.b.inj _ _ i1 i2 z)
      have h2 := two_of nf c m
      have h3 := R.near (ind (f e.2)) i1
      rw [h3] at h2
      have h4 : nearS E (fun x => ind (f e.2) (f x)) e.1 = nearS E (ind e.2) e.1 := near_congr R.hE (fun p hp => by
        unfold ind
        by_cases z : p = e.2
        · rw [z, if_pos rfl, if_pos rfl]
        · rw [if_neg z, if_neg (fun y => z (R.b.inj _ _ hp i2 y))]) _
      rw [h4] at h2
      have := sim e.1 e.2 i1 i2
      omega
    · rw [if_neg (by rw [decide_eq_false c]; exact Bool.false_ne_true)] at hq
      exact hq
theorem both_sym {E : Prs} {a b : Int} (h : Rch (both E) a b) : Rch (both E) b a := by
  induction h with
  | refl => exact .refl _
  | step _ e ih => exact (Rch.one (mem_both.mpr (mem_both.mp e).symm)).trans ih
theorem Ren.rch {n : Nat} {f : Int → Int} {E F : Prs} (R : Ren n f E F) {a b : Int} (h : Rch (both E) a b) : Rch (both F) (f a) (f b) := by
  induction h with
  | refl => exact .refl _
  | @step b c _ e ih =>
    refine ih.trans (Rch.one (mem_both.mpr ?_))
    rcases mem_both.mp e with m | m
    · exact (R.one _ m)
    · exact (R.one _ m).symm
theorem Ren.hangs {n : Nat} {f : Int → Int} {E F : Prs} (R : Ren n f E F) (hn : 0 < n) (h : (rounds E n [0]).length = n) : (rounds F n [0]).length = n := by
  have ne := rounds_all hn R.hE
  have nf := rounds_all hn R.inF
  have z0 : InR n 0 := ⟨Int.le_refl _, by omega⟩
  have rE : ∀ l : Prs, In n l → ∀ x, Rch (both l) 0 x → InR n x := fun l hl x k => by
    induction k with
    | refl => exact z0
    | step _ e _ =>
      rcases mem_both.mp e with m | m
      · exact (hl _ _ m).2
      · exact (hl _ _ m).1
  have nd1 : (rounds E n [0]).Nodup := rounds_nodup E n [0] (by simp)
  have nd2 : (rounds F n [0]).Nodup := rounds_nodup F n [0] (by simp)
  have allE : ∀ x, InR n x → Rch (both E) 0 x := fun x hx => (ne x).mp (full_of nd1 (fun y m => mem_rng.mpr (rE E R.hE y ((ne y).mp m))) (by rw [rng_len, h]; exact Nat.le_refl _) x (mem_rng.mpr hx))
  have allF : ∀ y, InR n y → Rch (both F) 0 y := fun y hy => by
    obtain ⟨x, hx, rfl⟩ := R.b.sur hy
    obtain ⟨w, hw, e⟩ := R.b.sur z0
    have h1 := R.rch (allE x hx)
    have h2 := both_sym (R.rch (allE w hw))
    rw [e] at h2
    exact h2.trans h1
  have s1 : (rng n).length ≤ (rounds F n [0]).length := sub_len (rng_nodup n) fun x m => (nf x).mpr (allF x (mem_rng.mp m))
  have s2 : (rounds F n [0]).length ≤ (rng n).length := sub_len nd2 fun x m => mem_rng.mpr (rE F R.inF x ((nf x).mp m))
  rw [rng_len] at s1 s2
  omega
end NetM


/-! the nets that are drawn, in their first names: what is worked out on each of them. Pure. -/
set_option linter.all false
set_option maxRecDepth 100000
namespace NetM
def lineP (n : Nat) : Prs := (List.range (n - 1)).map fun (k : Nat) => ((k : Int), (k : Int) + 1)
def goodP (n w : Nat) : Prs := if w = 1 ∧ 3 < n then (lineP n).dropLast ++ [((n : Int) - 3, (n : Int) - 1)] else if w = 2 ∧ 5 < n then (lineP n).dropLast ++ [(2, (n : Int) - 1)] else lineP n
def goodW (n w : Nat) : Nat := if w = 1 ∧ 3 < n then 1 else if w = 2 ∧ 5 < n then 2 else 0
/-- pairs, row; w, k as they are drawn -/
def roundP (w k : Nat) : Nat × Prs × List Int :=
  if w = 0 then (2, [(0, 1), (0, 1)], [1, 1])
  else if w = 1 then (3 + k, (List.range (3 + k)).map (fun (i : Nat) => ((i : Int), ((i : Int) + 1) % ((3 + k : Nat) : Int))), List.replicate (3 + k) 1)
  else if w = 2 then (1 + k + 4, (List.range k).map (fun (i : Nat) => ((i : Int), (i : Int) + 1)) ++ [(0, ((1 + k : Nat) : Int)), (0, ((1 + k : Nat) : Int) + 1), (((1 + k : Nat) : Int) - 1, ((1 + k : Nat) : Int) + 2), (((1 + k : Nat) : Int) - 1, ((1 + k : Nat) : Int) + 3)], List.replicate (1 + k) 2 ++ [1, 1, 1, 1])
  else if w = 3 then (7, [(0, 1), (1, 2), (0, 3), (3, 4), (0, 5), (5, 6)], [3, 2, 1, 2, 1, 2, 1])
  else if w = 4 then (8, [(0, 1), (1, 2), (2, 3), (0, 4), (4, 5), (5, 6), (0, 7)], [4, 3, 2, 1, 3, 2, 1, 2])
  else (5, [(0, 1), (0, 2), (0, 3), (0, 4)], [2, 1, 1, 1, 1])
/-- which w, k are drawn -/
def rdIx : List (Nat × Nat) := (0, 0) :: (List.range 6).map (fun k => (1, k)) ++ (List.range 4).map (fun k => (2, k)) ++ [(3, 0), (4, 0), (5, 0)]
/-- with one place more at j, or one pair more -/
def wildP (w k : Nat) (more : Bool) (j : Nat) : Nat × Prs :=
  let b := roundP w k
  if more then (b.1 + 1, b.2.1 ++ [((j : Int), (b.1 : Int))]) else (b.1, b.2.1 ++ [((j : Int), ((j : Int) + 1) % (b.1 : Int))])
def wdIx : List (Nat × Nat × Bool × Nat) := rdIx.flatMap fun q => let n := (roundP q.1 q.2).1
  (if n < 8 then (List.range n).map (fun j => (q.1, q.2, true, j)) else []) ++ (List.range n).map (fun j => (q.1, q.2, false, j))
def inB (n : Nat) (E : Prs) : Bool := E.all fun q => decide (0 ≤ q.1) && decide (q.1 < n) && decide (0 ≤ q.2) && decide (q.2 < n) && decide (q.1 ≠ q.2)
theorem in_of {n : Nat} {E : Prs} (h : inB n E = true) : In n E ∧ ∀ a b, (a, b) ∈ E → a ≠ b := by
  unfold inB at h
  rw [List.all_eq_true] at h
  have key : ∀ a b, (a, b) ∈ E → (InR n a ∧ InR n b) ∧ a ≠ b := fun a b m => by
    have := h _ m
    simp only [Bool.and_eq_true, decide_eq_true_eq] at this
    exact ⟨⟨⟨this.1.1.1.1, this.1.1.1.2⟩, ⟨this.1.1.2, this.1.2⟩⟩, this.2⟩
  exact ⟨fun a b m => (key a b m).1, fun a b m => (key a b m).2⟩
def treG : Nat → Prs → Bool
  | _, [] => true
  | n, q :: E => decide (q.2 = (n : Int)) && decide (0 ≤ q.1) && decide (q.1 < n) && treG (n + 1) E
theorem tre_of : ∀ {E : Prs} {n : Nat} {E0 : Prs}, Tre n E0 → treG n E = true → Tre (n + E.length) (E0 ++ E)
  | [], n, E0, h, _ => by rw [List.append_nil]; exact h
  | q :: E, n, E0, h, g => by
    unfold treG at g
    simp only [Bool.and_eq_true, decide_eq_true_eq] at g
    have e : q = (q.1, (n : Int)) := Prod.ext rfl g.1.1.1
    have h2 : Tre (n + 1) (E0 ++ [q]) := by rw [e]; exact .add q.1 h ⟨g.1.1.2, g.1.2⟩
    have := tre_of h2 g.2
    rw [List.append_assoc] at this
    rw [List.length_cons, show n + (E.length + 1) = n + 1 + E.length by omega]
    exact this
def simB (n : Nat) (E : Prs) : Bool := (rng n).all fun a => (rng n).all fun b => decide (nearS E (ind b) a ≤ 1)
theorem sim_of {n : Nat} {E : Prs} (h : simB n E = true) : ∀ a b, InR n a → InR n b → nearS E (ind b) a ≤ 1 := fun a b ha hb =>
  of_decide_eq_true (List.all_eq_true.mp (List.all_eq_true.mp h a (mem_rng.mpr ha)) b (mem_rng.mpr hb))
def maxL (L : List Int) : Int := L.foldl max 0
def ones (n : Nat) : List Int := List.replicate n 1
/-- all facts of a good net -/
def goodB (n w : Nat) : Bool := let E := goodP n w
  inB n E && treG 1 E && decide (E.length + 1 = n) && simB n E && decide ((rounds E n [0]).length = n) &&
    (match runS E n 60 (ones n) with | some (some L) => decide (min (maxL L) 3 - 1 = (goodW n w : Int)) && decide (frm E n (rowF L) ≠ 0) | _ => false)
theorem good_all : ((List.range 8).all fun n => (List.range 3).all fun w => goodB (n + 1) w) = true := by decide +kernel
def roundB (q : Nat × Nat) : Bool := let b := roundP q.1 q.2; let E := b.2.1; let n := b.1
  inB n E && decide (n ≤ 8) && decide (0 < n) && decide (E.length ≤ 12) && decide ((rounds E n [0]).length = n) && decide (b.2.2.length = n) &&
    decide (runS E n 60 (ones n) = some (some b.2.2)) && decide (frm E n (rowF b.2.2) = 0) && (rng n).all fun p => decide (2 * rowF b.2.2 p = nearS E (rowF b.2.2) p)
theorem round_all : (rdIx.all roundB) = true := by decide +kernel
def nextL (E : Prs) (n : Nat) (L : List Int) : List Int := (List.range n).map fun j => L.getD j 0 + nearS E (rowF L) j
def wildL (E : Prs) (n : Nat) : Nat → List Int → Option (List Int)
  | 0, _ => none
  | k + 1, L => if frm E n (rowF L) < 0 then some L else if L.all (fun i => decide (0 < i) && decide (i < 2 ^ 40)) then wildL E n k (nextL E n L) else none
def wildB (z : Nat × Nat × Bool × Nat) : Bool := let b := wildP z.1 z.2.1 z.2.2.1 z.2.2.2; let E := b.2; let n := b.1
  inB n E && decide (n ≤ 8) && decide (0 < n) && decide (E.length ≤ 12) && decide ((rounds E n [0]).length = n) &&
    decide (runS E n 60 (ones n) = some none) && (match wildL E n 60 (ones n) with | some L => L.all (fun i => decide (i < 2 ^ 40)) | none => false)
theorem wild_all : (wdIx.all wildB) = true := by decide +kernel
end NetM


/-! the row that grows, in other names. Pure. -/
set_option linter.all false
namespace NetM
def itR (E : Prs) : Nat → Rw
  | 0 => fun _ => 1
  | k + 1 => fun p => itR E k p + nearS E (itR E k) p
theorem Ren.it {n : Nat} {f : Int → Int} {E F : Prs} (R : Ren n f E F) : ∀ (k : Nat) {p : Int}, InR n p → itR F k (f p) = itR E k p
  | 0, p, _ => rfl
  | k + 1, p, hp => by
    show itR F k (f p) + nearS F (itR F k) (f p) = itR E k p + nearS E (itR E k) p
    rw [R.it k hp, R.near _ hp, near_congr R.hE fun q hq => R.it k hq]
/-- the row grows k times until its form is below 0 -/
structure Wl (E : Prs) (n k : Nat) : Prop where
  up : ∀ j, j < k → 0 ≤ frm E n (itR E j)
  lo : frm E n (itR E k) < 0
  sm : ∀ j, j ≤ k → ∀ p, InR n p → itR E j p < 2 ^ 40
theorem itR_pos (E : Prs) : ∀ (k : Nat) (p : Int), 1 ≤ itR E k p
  | 0, p => Int.le_refl _
  | k + 1, p => by
    have h1 := itR_pos E k p
    have h2 := near_nonneg (r := itR E k) (fun x => by have := itR_pos E k x; omega) p E
    show 1 ≤ itR E k p + nearS E (itR E k) p
    omega
theorem Ren.wl {n : Nat} {f : Int → Int} {E F : Prs} (R : Ren n f E F) {k : Nat} (h : Wl E n k) : Wl F n k := by
  have key : ∀ j, NetM.frm F n (itR F j) = NetM.frm E n (itR E j) := fun j => by
    rw [R.frm, frm_congr R.hE fun p hp => R.it j hp]
  refine ⟨fun j hj => by rw [key]; exact h.up j hj, by rw [key]; exact h.lo, fun j hj p hp => ?_⟩
  obtain ⟨x, hx, rfl⟩ := R.b.sur hp
  rw [R.it j hx]
  exact h.sm j hj x hx
def rowL (n : Nat) (r : Rw) : List Int := (rng n).map r
theorem rowL_len (n : Nat) (r : Rw) : (rowL n r).length = n := by unfold rowL; rw [List.length_map, rng_len]
theorem rowL_get {n : Nat} {r : Rw} {j : Nat} (h : j < n) : (rowL n r)[j]? = some (r j) := by
  unfold rowL rng
  rw [List.map_map, List.getElem?_map, List.getElem?_range h]
  rfl
theorem rowF_rowL {n : Nat} {r : Rw} {p : Int} (hp : InR n p) : rowF (rowL n r) p = r p := by
  obtain ⟨j, rfl⟩ : ∃ j : Nat, p = j := ⟨p.toNat, by have := hp.1; omega⟩
  rw [rowF_nat, List.getD_eq_getElem?_getD, rowL_get (by have := hp.2; omega)]
  rfl
theorem next_rowL {E : Prs} {n : Nat} (hE : In n E) (r : Rw) : nextL E n (rowL n r) = rowL n fun p => r p + nearS E r p := by
  unfold nextL
  have e0 : (rowL n fun p => r p + nearS E r p) = (List.range n).map fun (j : Nat) => r j + nearS E r j := by
    unfold rowL rng
    rw [List.map_map]
    rfl
  rw [e0]
  refine List.map_congr_left fun j mj => ?_
  have hj := List.mem_range.mp mj
  show (rowL n r).getD j 0 + nearS E (rowF (rowL n r)) j = r j + nearS E r j
  rw [near_congr hE (fun p hp => rowF_rowL hp), List.getD_eq_getElem?_getD, rowL_get hj]
  rfl
theorem ones_rowL (n : Nat) : ones n = rowL n fun _ => 1 := by
  unfold ones rowL
  rw [List.map_const', rng_len]
theorem wildL_ok {E : Prs} {n : Nat} (hE : In n E) : ∀ (m k : Nat) {L : List Int}, (∀ j, j < k → 0 ≤ frm E n (itR E j)) → (∀ j, j < k → ∀ p, InR n p → itR E j p < 2 ^ 40) → wildL E n m (rowL n (itR E k)) = some L → (∀ i ∈ L, i < 2 ^ 40) → ∃ k2, Wl E n k2 ∧ L = rowL n (itR E k2)
  | 0, k, L, _, _, e, _ => by cases e
  | m + 1, k, L, hu, hs, e, hL => by
    have ef : frm E n (rowF (rowL n (itR E k))) = frm E n (itR E k) := frm_congr hE fun p hp => rowF_rowL hp
    unfold wildL at e
    rw [ef] at e
    by_cases c : frm E n (itR E k) < 0
    · rw [if_pos c] at e
      cases e
      refine ⟨k, ⟨hu, c, fun j hj p hp => ?_⟩, rfl⟩
      rcases Nat.lt_or_ge j k with d | d
      · exact hs j d p hp
      · rw [show j = k by omega]
        exact hL _ (List.mem_map.mpr ⟨p, mem_rng.mpr hp, rfl⟩)
    · rw [if_neg c] at e
      split at e
      · rename_i c2
        rw [next_rowL hE] at e
        refine wildL_ok hE m (k + 1) (fun j hj => ?_) (fun j hj p hp => ?_) e hL
        · rcases Nat.lt_or_ge j k with d | d
          · exact hu j d
          · rw [show j = k by omega]; omega
        · rcases Nat.lt_or_ge j k with d | d
          · exact hs j d p hp
          · rw [show j = k by omega]
            have := List.all_eq_true.mp c2 _ (List.mem_map.mpr ⟨p, mem_rng.mpr hp, rfl⟩)
            rw [Bool.and_eq_true, decide_eq_true_eq, decide_eq_true_eq] at this
            exact this.2
      · cases e
theorem low_ones (E : Prs) (n : Nat) : Low E n (rowF (ones n)) := fun s hs p hp => by
  rw [ones_rowL, rowF_rowL hp]
  exact (hs p hp).1
theorem set_of {E : Prs} {n : Nat} (hE : In n E) {o : Option (List Int)} (h : runS E n 60 (ones n) = some o) : SetR E n o := runS_ok hE 60 List.length_replicate (low_ones E n) (fun i m => by rw [List.eq_of_mem_replicate m]; omega) h
/-- what is told of a wild net in its first names -/
theorem wild_of {z : Nat × Nat × Bool × Nat} (m : z ∈ wdIx) : let b := wildP z.1 z.2.1 z.2.2.1 z.2.2.2; (In b.1 b.2 ∧ ∀ x y, (x, y) ∈ b.2 → x ≠ y) ∧ b.1 ≤ 8 ∧ 0 < b.1 ∧ b.2.length ≤ 12 ∧ (rounds b.2 b.1 [0]).length = b.1 ∧ SetR b.2 b.1 none ∧ ∃ k, Wl b.2 b.1 k := by
  have h := List.all_eq_true.mp wild_all z m
  unfold wildB at h
  simp only [Bool.and_eq_true, decide_eq_true_eq] at h
  obtain ⟨⟨⟨⟨⟨⟨h1, h2⟩, h3⟩, h4⟩, h5⟩, h6⟩, h7⟩ := h
  have hi := in_of h1
  refine ⟨hi, h2, h3, h4, h5, set_of hi.1 h6, ?_⟩
  split at h7
  · rename_i L e
    rw [ones_rowL] at e
    obtain ⟨k, hk, _⟩ := wildL_ok hi.1 60 0 (fun j hj => absurd hj (Nat.not_lt_zero _)) (fun j hj => absurd hj (Nat.not_lt_zero _)) e (fun i mi => of_decide_eq_true (List.all_eq_true.mp h7 i mi))
    exact ⟨k, hk⟩
  · cases h7
theorem round_of {q : Nat × Nat} (m : q ∈ rdIx) : let b := roundP q.1 q.2; (In b.1 b.2.1 ∧ ∀ x y, (x, y) ∈ b.2.1 → x ≠ y) ∧ b.1 ≤ 8 ∧ 0 < b.1 ∧ b.2.1.length ≤ 12 ∧ (rounds b.2.1 b.1 [0]).length = b.1 ∧ b.2.2.length = b.1 ∧ SetR b.2.1 b.1 (some b.2.2) ∧ frm b.2.1 b.1 (rowF b.2.2) = 0 ∧ ∀ p, InR b.1 p → 2 * rowF b.2.2 p = nearS b.2.1 (rowF b.2.2) p := by
  have h := List.all_eq_true.mp round_all q m
  unfold roundB at h
  simp only [Bool.and_eq_true, decide_eq_true_eq] at h
  obtain ⟨⟨⟨⟨⟨⟨⟨⟨h1, h2⟩, h3⟩, h4⟩, h5⟩, h6⟩, h7⟩, h8⟩, h9⟩ := h
  have hi := in_of h1
  exact ⟨hi, h2, h3, h4, h5, h6, set_of hi.1 h7, h8, fun p hp => of_decide_eq_true (List.all_eq_true.mp h9 p (mem_rng.mpr hp))⟩
theorem good_of {n w : Nat} (h1 : 0 < n) (h2 : n ≤ 8) (h3 : w < 3) : let E := goodP n w; (In n E ∧ ∀ x y, (x, y) ∈ E → x ≠ y) ∧ Tre n E ∧ E.length + 1 = n ∧ (∀ a b, InR n a → InR n b → nearS E (ind b) a ≤ 1) ∧ (rounds E n [0]).length = n ∧ ∃ L, SetR E n (some L) ∧ min (maxL L) 3 - 1 = (goodW n w : Int) ∧ frm E n (rowF L) ≠ 0 := by
  have h := List.all_eq_true.mp (List.all_eq_true.mp good_all (n - 1) (List.mem_range.mpr (by omega))) w (List.mem_range.mpr h3)
  rw [show n - 1 + 1 = n by omega] at h
  unfold goodB at h
  simp only [Bool.and_eq_true, decide_eq_true_eq] at h
  obtain ⟨⟨⟨⟨⟨h1, h2⟩, h3⟩, h4⟩, h5⟩, h6⟩ := h
  have hi := in_of h1
  have ht := tre_of .nil h2
  rw [show 1 + (goodP n w).length = n by omega, List.nil_append] at ht
  refine ⟨hi, ht, h3, sim_of h4, h5, ?_⟩
  split at h6
  · rename_i L e
    rw [Bool.and_eq_true, decide_eq_true_eq, decide_eq_true_eq] at h6
    exact ⟨L, set_of hi.1 e, h6.1, h6.2⟩
  · cases h6
end NetM


set_option Elab.async false
set_option maxRecDepth 100000
set_option maxHeartbeats 4000000
set_option linter.all false
namespace K03
open PySem PySem.Spec PyProof.Rows L2 NetM

theorem ix_at {K : PySem.W.Frag} {H : Hp} {a : Addr} {v : V} {xs : List V} {j : Nat} (h : SqA K H a xs) (e : xs[j]? = some v) {Q : VK} (q : Q v H) : rIx K (.ref a) (.int (j : Nat)) H Q := by
  rcases h with h | h
  · exact .inl ⟨a, _, j, v, rfl, rfl, h, atI_nat e, q⟩
  · exact .inr (.inl ⟨a, _, j, v, rfl, rfl, h, atI_nat e, q⟩)
theorem map_inv {α : Type} {f : α → V} {l : List α} {i : Nat} {x : V} (h : (l.map f)[i]? = some x) : ∃ z, l[i]? = some z ∧ x = f z := by
  rw [List.getElem?_map] at h
  cases e : l[i]? with
  | none => rw [e] at h; cases h
  | some z => rw [e] at h; cases h; exact ⟨z, rfl, rfl⟩
abbrev sPairV : Stmt := top 25
abbrev N23 : List Str := ["net", "one", "other", "places", "a", "b", "tail", "head"]
theorem scPairV : FnScope N23 ["net", "one", "other"] (defScope sPairV) := ⟨rfl, rfl, rfl, by decide +kernel, rfl, by decide +kernel, by decide +kernel⟩
def pairV (E : Prs) (L M : List Int) : Int := (List.zipWith (fun a b => a * b) L M).sum - (E.map fun q => rowF L q.1 * rowF M q.2).sum
def spPairV (K : PySem.W.Frag) (CN : Addr) : Sp := fun vs H Q _ => ∃ (x a b : Addr) (n : Nat) (zs : Prs) (L M : List Int), vs = [.ref x, .ref a, .ref b] ∧ NetAt K CN H x n zs ∧ In n zs ∧ zs.length ≤ 12 ∧ n ≤ 8 ∧ SqA K H a (L.map V.int) ∧ SqA K H b (M.map V.int) ∧ L.length = n ∧ M.length = n ∧ (∀ i ∈ L, -(2 ^ 64) < i ∧ i < 2 ^ 64) ∧
  ∀ H', Same H H' → Q (.int (pairV zs L M)) H'
theorem rowF_get {L : List Int} {p : Int} (h : InR L.length p) : ∃ h2 : p.toNat < L.length, L[p.toNat] = rowF L p := by
  have h1 := h.1
  have h2 := h.2
  refine ⟨by omega, ?_⟩
  unfold rowF
  rw [List.getD_eq_getElem?_getD, List.getElem?_eq_getElem (by omega)]
  rfl
section
variable {P : Program} {w : World} {K : PySem.W.Frag} {mg : Str → Option Value} {base : Heap}
theorem ok_pairv {f CN : Addr} {fd : FuncData} (F : Fun K "pair_value" "pair_value" sPairV f fd) (T : NetT K mg CN) (mSum : mg "sum" = none) (mZ : mg "zip" = none) : FnOk P w K mg base CX0 1 f fd ["net", "one", "other"] (spPairV K CN) := by
  refine F.ok scPairV (fun vs H Q E h => ?_) (fun cdv A outer s H vs Q E hr h => ?_)
  · obtain ⟨x, a, b, n, zs, L, M, rfl, _⟩ := h
    rfl
  · obtain ⟨x, a, b, n, zs, L, M, rfl, hN, hE, hzl, hn, hA, hB, hL, hM, hb, k⟩ := h
    have nd := scPairV.nd
    refine ⟨_, pss_cons (ps_set (i := 3) nd rfl (by first | exact Or.inl rfl | exact Or.inr rfl) (pe_callB (show CallR _ _ (rSum K) from cr_sum (by rfl)) (by rfl) mSum (by decide +kernel) (pa_cons
          (pe_lc (own := [("a", 4), ("b", 5)]) (g := gTup K 2 (gCons (gName 4) (gCons (gName 5) gNil))) (by rfl) nd (pi_z2 (by rfl) mZ (pa_cons (pv 1) (pa_cons (pv 2) pa_nil))) (blkOk_by (own := [("a", 4), ("b", 5)]) (N := N23) (sc := defScope sPairV) (by decide +kernel))
            (fun _ _ _ _ _ => pg_tup (by rfl) (pgs_cons (pg_name (i := 4) nd rfl (by first | exact Or.inl rfl | exact Or.inr rfl)) (pgs_cons (pg_name (i := 5) nd rfl (by first | exact Or.inl rfl | exact Or.inr rfl)) pgs_nil))) (fun _ _ _ _ _ => pts_nil)
            (fun _ _ _ _ _ => pe_op op_mul (pv 4) (pv 5))) pa_nil)))
      (pss_one (ps_ret (pe_op op_sub (pv 3) (pe_callB (show CallR _ _ (rSum K) from cr_sum (by rfl)) (by rfl) mSum (by decide +kernel) (pa_cons
          (pe_lc (own := [("tail", 6), ("head", 7)]) (g := gTup K 2 (gCons (gName 6) (gCons (gName 7) gNil))) (by rfl) nd (pi_seq (pe_fld (pv 0) rfl)) (blkOk_by (own := [("tail", 6), ("head", 7)]) (N := N23) (sc := defScope sPairV) (by decide +kernel))
            (fun _ _ _ _ _ => pg_tup (by rfl) (pgs_cons (pg_name (i := 6) nd rfl (by first | exact Or.inl rfl | exact Or.inr rfl)) (pgs_cons (pg_name (i := 7) nd rfl (by first | exact Or.inl rfl | exact Or.inr rfl)) pgs_nil))) (fun _ _ _ _ _ => pts_nil)
            (fun _ _ _ _ _ => pe_op op_mul (pe_ix (show IxR _ (rIx K) from ix_seq) (pv 1) (pv 6) (fun _ _ => rfl)) (pe_ix (show IxR _ (rIx K) from ix_seq) (pv 2) (pv 7) (fun _ _ => rfl)))) pa_nil))))), ?_⟩
    refine ⟨_, rfl, _, rfl, a, b, L.map V.int, M.map V.int, rfl, hA, hB, fun J hJ D nD => ?_⟩
    refine lc_z2 hJ (by rw [List.length_map, List.length_map, hL, hM]) (fun i Hd => Hd D = some (.lst (((List.zipWith (fun a b => a * b) L M).take i).map V.int)) ∧ Same H Hd) ⟨upd_same, same_upd nD⟩ (fun i Hd _ hh => ⟨.of hh.2, .of hh.2⟩) ?_ ?_
    · rintro i xv yv U Hd hx hy ⟨eD, sd⟩ nU
      obtain ⟨u, hu, rfl⟩ := map_inv hx
      obtain ⟨v, hv, rfl⟩ := map_inv hy
      have hil : i < L.length := (List.getElem?_eq_some_iff.mp hu).1
      have hub := hb u (List.mem_of_getElem? hu)
      have sU : Same Hd (upd Hd U (.tup [.int u, .int v])) := same_upd nU
      refine ⟨U, [.int u, .int v], rfl, .inl (.inl upd_same), rfl, .int u, [.int v], rfl, .int v, [], rfl, rfl, rfl, ?_⟩
      dsimp only [tYes]
      refine iteT ?_
      refine ⟨_, rfl, _, rfl, _, _, rfl, rfl, .inl hub, _, sU _ _ eD, small_2000 (by rw [List.length_map, List.length_take]; omega), ?_, same_put (sd.trans sU) nD⟩
      rw [upd_same, List.take_add_one, List.getElem?_zipWith, hu, hv, List.map_append]
      rfl
    rintro Hd ⟨eD, sd⟩
    rw [List.take_of_length_le (by rw [List.length_zipWith, List.length_map]; omega)] at eD
    refine ⟨D, _, rfl, SqL.of eD, ?_⟩
    obtain ⟨dx, t, us, e, et, p, rfl⟩ := hN.same sd
    have hul : us.length ≤ 12 := by unfold nums at hzl; rw [List.length_map] at hzl; exact hzl
    refine ⟨_, rfl, _, rfl, x, CN, dx, _, _, rfl, e, T.cl, T.nA, rfl, t, rf us, rfl, .inr (SqT.of et), fun J2 hJ2 D2 nD2 => ?_⟩
    refine lc_seq hJ2 (fun i He => He D2 = some (.lst ((((nums us).map fun q => rowF L q.1 * rowF M q.2).take i).map V.int)) ∧ Same Hd He) ⟨upd_same, same_upd nD2⟩ (fun i He _ hh => .of hh.2) ?_ ?_
    · rintro j y He hj ⟨eD2, se⟩
      obtain ⟨⟨z, z1, z2⟩, hz, rfl⟩ := rf_inv hj
      have hil : j < us.length := (List.getElem?_eq_some_iff.mp hz).1
      obtain ⟨i1, i2⟩ := hE z1 z2 (List.mem_of_getElem? (nums_get hz))
      obtain ⟨g1, g2⟩ := rowF_get (L := L) (p := z1) (by rw [hL]; exact i1)
      obtain ⟨g3, g4⟩ := rowF_get (L := M) (p := z2) (by rw [hM]; exact i2)
      refine ⟨z, [.int z1, .int z2], rfl, sqt_same se (p _ (List.mem_of_getElem? hz)), rfl, .int z1, [.int z2], rfl, .int z2, [], rfl, rfl, rfl, ?_⟩
      dsimp only [tYes]
      refine iteT ?_
      refine ⟨_, rfl, _, rfl, ?_⟩
      rw [show z1 = ((z1.toNat : Nat) : Int) by have := i1.1; omega, show z2 = ((z2.toNat : Nat) : Int) by have := i2.1; omega]
      refine ix_at ((hA.same (sd.trans se))) (v := .int (rowF L z1)) (by rw [List.getElem?_map, List.getElem?_eq_getElem g1, g2]; rfl) ?_
      refine ⟨_, rfl, _, rfl, ?_⟩
      refine ix_at ((hB.same (sd.trans se))) (v := .int (rowF M z2)) (by rw [List.getElem?_map, List.getElem?_eq_getElem g3, g4]; rfl) ?_
      refine ⟨_, _, rfl, rfl, .inl (by rw [← g2]; exact hb _ (List.getElem_mem g1)), _, eD2, small_2000 (by rw [List.length_map, List.length_take, List.length_map]; omega), ?_, same_put se nD2⟩
      rw [upd_same, List.take_add_one, List.getElem?_map, nums_get hz, List.map_append]
      rfl
    · rintro He ⟨eD2, se⟩
      have hln : (rf us).length = (nums us).length := by unfold rf nums; rw [List.length_map, List.length_map]
      rw [hln, List.take_of_length_le (by rw [List.length_map]; exact Nat.le_refl _)] at eD2
      exact ⟨D2, _, rfl, SqL.of eD2, _, _, rfl, rfl, k He (sd.trans se)⟩
end
end K03


set_option Elab.async false
set_option maxRecDepth 100000
set_option maxHeartbeats 4000000
set_option linter.all false
namespace K03
open PySem PySem.Spec PyProof.Rows L2 NetM
abbrev sIsRow : Stmt := top 19
abbrev sChkRow : Stmt := top 20
abbrev sForm : Stmt := top 26
theorem scIsRow : FnScope ["net", "thing", "number"] ["net", "thing"] (defScope sIsRow) := ⟨rfl, rfl, rfl, by decide +kernel, rfl, by decide +kernel, by decide +kernel⟩
theorem scChkRow : FnScope ["net", "row"] ["net", "row"] (defScope sChkRow) := ⟨rfl, rfl, rfl, by decide +kernel, rfl, by decide +kernel, by decide +kernel⟩
theorem scForm : FnScope ["net", "row"] ["net", "row"] (defScope sForm) := ⟨rfl, rfl, rfl, by decide +kernel, rfl, by decide +kernel, by decide +kernel⟩
/-- a number, or not -/
inductive NuJ (K : PySem.W.Frag) (H : Hp) : V → Option Int → Prop
  | int (i : Int) : NuJ K H (.int i) (some i)
  | bl (b : Bool) : NuJ K H (.bl b) none
  | no {x : V} {t : Value} (h : TyX K H x t) (z : PySem.W.kitOne K t (.type "int") = some false) {c : Bool} (zb : PySem.W.kitOne K t (.type "bool") = some c) : NuJ K H x none
theorem NuJ.same {K : PySem.W.Frag} {H H' : Hp} (s : Same H H') {x : V} {o : Option Int} : NuJ K H x o → NuJ K H' x o
  | .int i => .int i
  | .bl b => .bl b
  | .no h z zb => .no (TyX.same s h) z zb
theorem nu_isnum {K : PySem.W.Frag} {H : Hp} {x : V} {o : Option Int} {Q : VK} {E : XK} (h : NuJ K H x o) (q : Q (.bl o.isSome) H) : spIsNum K [x] H Q E := by
  cases h with
  | int i => exact ⟨_, _, true, false, rfl, .base (.int i), (num_int K).1, (num_int K).2, q⟩
  | bl b => exact ⟨_, _, true, true, rfl, .base (.bl b), (num_bool K).1, (num_bool K).2, q⟩
  | no h z zb => exact ⟨_, _, false, _, rfl, h, z, zb, q⟩
inductive NuL (K : PySem.W.Frag) (H : Hp) : List V → List (Option Int) → Prop
  | nil : NuL K H [] []
  | cons {x : V} {xs : List V} {o : Option Int} {os : List (Option Int)} (h : NuJ K H x o) (r : NuL K H xs os) : NuL K H (x :: xs) (o :: os)
theorem NuL.at {K : PySem.W.Frag} {H : Hp} : ∀ {xs : List V} {os : List (Option Int)} {i : Nat} {x : V}, NuL K H xs os → xs[i]? = some x → ∃ o, os[i]? = some o ∧ NuJ K H x o
  | _, _, _, _, .nil, e => by simp at e
  | _, _, 0, _, .cons h r, e => by cases e; exact ⟨_, rfl, h⟩
  | _, _, i + 1, _, .cons h r, e => NuL.at (i := i) r e
theorem NuL.len {K : PySem.W.Frag} {H : Hp} : ∀ {xs : List V} {os : List (Option Int)}, NuL K H xs os → os.length = xs.length
  | _, _, .nil => rfl
  | _, _, .cons _ r => by rw [List.length_cons, List.length_cons, r.len]
theorem NuL.same {K : PySem.W.Frag} {H H' : Hp} (s : Same H H') : ∀ {xs : List V} {os : List (Option Int)}, NuL K H xs os → NuL K H' xs os
  | _, _, .nil => .nil
  | _, _, .cons h r => .cons (h.same s) (r.same s)
theorem nul_ints {K : PySem.W.Frag} {H : Hp} : ∀ l : List Int, NuL K H (l.map V.int) (l.map some)
  | [] => .nil
  | i :: l => .cons (.int i) (nul_ints l)
def allS (os : List (Option Int)) : Bool := (os.map Option.isSome).all id
theorem alls_ints (l : List Int) : allS (l.map some) = true := by
  unfold allS
  rw [List.map_map, List.all_eq_true]
  intro b m
  obtain ⟨i, _, rfl⟩ := List.mem_map.mp m
  rfl
/-- what may be handed in as a row, and whether it is one -/
inductive RowV (K : PySem.W.Frag) (H : Hp) (n : Nat) : V → Bool → Prop
  | no {x : V} {t : Value} (h : TyX K H x t) (z : PySem.W.kitOne K t (.type "tuple") = some false) : RowV K H n x false
  | len {a : Addr} {xs : List V} (h : SqT K H a xs) (z : xs.length ≠ n) (hl : xs.length ≤ 1000) : RowV K H n (.ref a) false
  | row {a : Addr} {xs : List V} {os : List (Option Int)} (h : SqT K H a xs) (l : xs.length = n) (nl : NuL K H xs os) : RowV K H n (.ref a) (allS os)
theorem RowV.same {K : PySem.W.Frag} {H H' : Hp} (s : Same H H') {n : Nat} {x : V} {b : Bool} : RowV K H n x b → RowV K H' n x b
  | .no h z => .no (TyX.same s h) z
  | .len h z l => .len (sqt_same s h) z l
  | .row h l nl => .row (sqt_same s h) l (nl.same s)
theorem row_ok {K : PySem.W.Frag} {H : Hp} {a : Addr} {L : List Int} (h : SqT K H a (L.map V.int)) : RowV K H L.length (.ref a) true := by
  have := RowV.row (n := L.length) h (List.length_map ..) (nul_ints L)
  rw [alls_ints] at this
  exact this
theorem kit_tt (K : PySem.W.Frag) : PySem.W.kitOne K (.type "tuple") (.type "tuple") = some true := by kernel_rfl
def spIsRow (K : PySem.W.Frag) (CN : Addr) : Sp := fun vs H Q _ => ∃ (x : Addr) (y : V) (n : Nat) (zs : Prs) (b : Bool), vs = [.ref x, y] ∧ NetAt K CN H x n zs ∧ n ≤ 8 ∧ RowV K H n y b ∧ ∀ H', Same H H' → Q (.bl b) H'
def spChkRow (K : PySem.W.Frag) (CN CR : Addr) : Sp := fun vs H Q E => ∃ (x : Addr) (y : V) (n : Nat) (zs : Prs) (b : Bool), vs = [.ref x, y] ∧ NetAt K CN H x n zs ∧ n ≤ 8 ∧ RowV K H n y b ∧ ((b = false ∧ Rp CR H E) ∨ (b = true ∧ ∀ H', Same H H' → Q .non H'))
section
variable {P : Program} {w : World} {K : PySem.W.Frag} {mg : Str → Option Value} {base : Heap} {CN CB CR : Addr}
theorem ok_isrow {f fN : Addr} {fd dN : FuncData} (F : Fun K "is_row" "is_row" sIsRow f fd) (T : NetT K mg CN) (GN : FnOk P w K mg base CX0 1 fN dN ["thing"] (spIsNum K)) (bN : L2.Binds K dN ["thing"] []) (gN : mg "is_number" = some (.ref fN)) (kN : PySem.W.keepIn K (.ref fN) = true) (mIs : mg "isinstance" = none) (mTup : mg "tuple" = none) (mLen : mg "len" = none) (mAll : mg "all" = none) : FnOk P w K mg base CX0 2 f fd ["net", "thing"] (spIsRow K CN) := by
  refine F.ok scIsRow (fun vs H Q E h => ?_) (fun cdv A outer s H vs Q E hr h => ?_)
  · obtain ⟨x, y, n, zs, b, rfl, _⟩ := h
    rfl
  · obtain ⟨x, y, n, zs, b, rfl, hN, hn, hy, k⟩ := h
    have nd := scIsRow.nd
    refine ⟨_, pss_one (ps_ret (pe_and (pe_callB call_isi (by rfl) mIs (by decide +kernel) (pa_cons (pv 1) (pa_cons (pe_bltn (v := .ty "tuple") (by rfl) mTup (by decide +kernel) rfl) pa_nil)))
      (pe_and (pe_cmpR op_eq (pe_callB call_len_seq (by rfl) mLen PySem.boot_len (pa_cons (pv 1) pa_nil)) (pe_fld (pv 0) rfl) (nomark _))
      (pe_one (pe_callB (show CallR _ _ (rAll K) from cr_all (by rfl)) (by rfl) mAll (by decide +kernel) (pa_cons
        (pe_lc (own := [("number", 2)]) (g := gName 2) (by rfl) nd (pi_seq (pv 1)) (blkOk_by (own := [("number", 2)]) (N := ["net", "thing", "number"]) (sc := defScope sIsRow) (by decide +kernel)) (fun _ _ _ _ _ => pg_name (i := 2) nd rfl (by first | exact Or.inl rfl | exact Or.inr rfl)) (fun _ _ _ _ _ => pts_nil)
          (fun _ _ _ _ _ => pe_call GN hr (by rfl) gN kN bN .nil pass0 (pa_cons (pv 2) pa_nil))) pa_nil)))))), ?_⟩
    have fin : ∀ (a : Addr) (xs : List V), SqT K H a xs → TyX K H (.ref a) (.type "tuple") := fun a xs h => ty_tup h
    obtain ⟨dx, t, us, e, et, p, rfl⟩ := id hN
    cases hy with
    | no h z => exact ⟨_, rfl, _, _, _, _, false, rfl, .ty "tuple", h, z, _, rfl, iteF (k H (Same.refl _))⟩
    | @len a xs h z hl =>
      refine ⟨_, rfl, _, _, _, _, true, rfl, .ty "tuple", ty_tup h, kit_tt K, _, rfl, ?_⟩
      refine iteT ?_
      refine ⟨_, rfl, a, xs, rfl, .inr h, _, rfl, x, CN, dx, _, _, rfl, e, T.cl, T.nP, rfl, rfl, _, rfl, ?_⟩
      refine iteFb (decide_eq_false (fun q => z (by have := V.int.inj q; omega))) ?_
      exact k H (Same.refl _)
    | @row a xs os h l nl =>
      refine ⟨_, rfl, _, _, _, _, true, rfl, .ty "tuple", ty_tup h, kit_tt K, _, rfl, ?_⟩
      refine iteT ?_
      refine ⟨_, rfl, a, xs, rfl, .inr h, _, rfl, x, CN, dx, _, _, rfl, e, T.cl, T.nP, rfl, rfl, _, rfl, ?_⟩
      refine iteTb (decide_eq_true (by rw [l])) ?_
      refine ⟨_, rfl, a, xs, rfl, .inr h, fun J hJ D nD => ?_⟩
      refine lc_seq hJ (fun i Hd => Hd D = some (.lst (((os.map Option.isSome).take i).map V.bl)) ∧ Same H Hd) ⟨upd_same, same_upd nD⟩ (fun i Hd _ hh => .of hh.2) ?_ ?_
      · rintro i y Hd hi ⟨eD, sd⟩
        obtain ⟨o, ho, hj⟩ := nl.at hi
        have hil : i < xs.length := (List.getElem?_eq_some_iff.mp hi).1
        refine ⟨rfl, ?_⟩
        dsimp only [tYes]
        refine iteT ?_
        refine ⟨_, rfl, ?_⟩
        refine nu_isnum (E := E0) (Q := fun z H4 => ∃ acc, H4 D = some (.lst acc) ∧ acc.length < sizeLine ∧ ((upd H4 D (.lst (acc ++ [z]))) D = some (.lst (((os.map Option.isSome).take (i + 1)).map V.bl)) ∧ Same H (upd H4 D (.lst (acc ++ [z]))))) (hj.same sd) ⟨_, eD, small_2000 (by rw [List.length_map, List.length_take, List.length_map, nl.len]; omega), ?_, same_put sd nD⟩
        rw [upd_same, List.take_add_one, List.getElem?_map, ho, List.map_append]
        rfl
      · rintro Hd ⟨eD, sd⟩
        rw [List.take_of_length_le (by rw [List.length_map, nl.len]; exact Nat.le_refl _)] at eD
        exact ⟨D, _, rfl, SqL.of eD, k Hd sd⟩
theorem ok_chkrow {f fN : Addr} {fd dN : FuncData} (F : Fun K "check_row" "check_row" sChkRow f fd) (GN : FnOk P w K mg base CX0 2 fN dN ["net", "thing"] (spIsRow K CN)) (bN : L2.Binds K dN ["net", "thing"] []) (gN : mg "is_row" = some (.ref fN)) (kN : PySem.W.keepIn K (.ref fN) = true) (B : PlX K mg "BadRow" CR) : FnOk P w K mg base (L2.CX P w) 3 f fd ["net", "row"] (spChkRow K CN CR) := by
  refine F.okX scChkRow (fun vs H Q E h => ?_) (fun cdv A outer s H vs Q E hr h => ?_)
  · obtain ⟨x, y, n, zs, b, rfl, _⟩ := h
    rfl
  · obtain ⟨x, y, n, zs, b, rfl, hN, hn, hy, k⟩ := h
    have nd := scChkRow.nd
    refine ⟨_, pss_one (ps_if (pt_not (pt_val (pe_call GN hr (by rfl) gN kN bN .nil pass0 (pa_cons (pv 0) (pa_cons (pv 1) pa_nil)))))
      (pss_one (ps_raise rfl (takes_of rfl rfl rfl rfl) (pmk_own PySem.F.excBase_ValueError B.q B.g B.k (raises_own B.s B.t) (by rfl)))) pss_nil), ?_⟩
    refine ⟨_, rfl, _, rfl, x, y, n, zs, b, rfl, hN, hn, hy, fun H' s' => ⟨_, rfl, ?_⟩⟩
    rcases k with ⟨e, k⟩ | ⟨e, k⟩
    · rw [e]
      refine iteT ?_
      exact k H' s'
    · rw [e]
      refine iteF ?_
      exact k H' s'
end
end K03


set_option Elab.async false
set_option maxRecDepth 100000
set_option maxHeartbeats 4000000
set_option linter.all false
namespace K03
open PySem PySem.Spec PyProof.Rows L2 NetM
def spForm (K : PySem.W.Frag) (CN CB CR : Addr) : Sp := fun vs H Q E => ∃ x y : V, vs = [x, y] ∧ ((NoNet K CN H x ∧ Rz CB H E .non) ∨ ∃ (a : Addr) (n : Nat) (zs : Prs), x = .ref a ∧ NetAt K CN H a n zs ∧ In n zs ∧ zs.length ≤ 12 ∧ n ≤ 8 ∧
  ((RowV K H n y false ∧ Rp CR H E) ∨ ∃ (b : Addr) (L : List Int), y = .ref b ∧ SqT K H b (L.map V.int) ∧ L.length = n ∧ (∀ i ∈ L, -(2 ^ 64) < i ∧ i < 2 ^ 64) ∧ ∀ H', Same H H' → Q (.int (pairV zs L L)) H'))
section
variable {P : Program} {w : World} {K : PySem.W.Frag} {mg : Str → Option Value} {base : Heap} {CN CB CR : Addr}
/-- what both defs call -/
structure SubF (P : Program) (w : World) (K : PySem.W.Frag) (mg : Str → Option Value) (base : Heap) (CN CB CR : Addr) where
  C : ChkF P w K mg base CN CB
  fR : Addr
  dR : FuncData
  okR : FnOk P w K mg base (L2.CX P w) 3 fR dR ["net", "row"] (spChkRow K CN CR)
  bR : L2.Binds K dR ["net", "row"] []
  gR : mg "check_row" = some (.ref fR)
  kR : PySem.W.keepIn K (.ref fR) = true
  fV : Addr
  dV : FuncData
  okV : FnOk P w K mg base CX0 1 fV dV ["net", "one", "other"] (spPairV K CN)
  bV : L2.Binds K dV ["net", "one", "other"] []
  gV : mg "pair_value" = some (.ref fV)
  kV : PySem.W.keepIn K (.ref fV) = true
theorem ok_form {f : Addr} {fd : FuncData} (F : Fun K "form" "form" sForm f fd) (Y : SubF P w K mg base CN CB CR) : FnOk P w K mg base (L2.CX P w) 5 f fd ["net", "row"] (spForm K CN CB CR) := by
  refine F.okX scForm (fun vs H Q E h => ?_) (fun cdv A outer s H vs Q E hr h => ?_)
  · obtain ⟨x, y, rfl, _⟩ := h
    rfl
  · obtain ⟨x, y, rfl, h⟩ := h
    have nd := scForm.nd
    have r1 : Room 1 _ := hr.mono (by decide)
    have r3 : Room 3 _ := hr.mono (by decide)
    refine ⟨_, pss_cons (ps_expr (pe_call Y.C.ok hr (by rfl) Y.C.g Y.C.kp Y.C.b .nil (passes_call (takes_of rfl rfl rfl rfl) fun _ _ _ _ h => h) (pa_cons (pv 0) pa_nil)))
      (pss_cons (ps_expr (pe_call Y.okR r3 (by rfl) Y.gR Y.kR Y.bR .nil (passes_call (takes_of rfl rfl rfl rfl) fun _ _ _ _ h => h) (pa_cons (pv 0) (pa_cons (pv 1) pa_nil))))
      (pss_one (ps_ret (pe_call Y.okV r1 (by rfl) Y.gV Y.kV Y.bV .nil pass0 (pa_cons (pv 0) (pa_cons (pv 1) (pa_cons (pv 1) pa_nil))))))), ?_⟩
    rcases h with ⟨h, hR⟩ | ⟨a, n, zs, rfl, hN, hE, hz, hn, h⟩
    · exact ⟨_, rfl, _, rfl, .inl ⟨h, hR⟩⟩
    refine ⟨_, rfl, _, rfl, .inr ⟨a, n, zs, rfl, hN, ?_⟩⟩
    rcases h with ⟨h, hR⟩ | ⟨b, L, rfl, hb, hL, hbd, k⟩
    · exact ⟨_, rfl, _, rfl, a, _, n, zs, false, rfl, hN, hn, h, .inl ⟨rfl, hR⟩⟩
    refine ⟨_, rfl, _, rfl, a, _, n, zs, true, rfl, hN, hn, by rw [← hL]; exact row_ok hb, .inr ⟨rfl, fun H1 s1 => ?_⟩⟩
    exact ⟨_, rfl, _, rfl, _, rfl, a, b, b, n, zs, L, L, rfl, hN.same s1, hE, hz, hn, .inr (sqt_same s1 hb), .inr (sqt_same s1 hb), hL, hL, hbd, fun H3 s3 => k H3 (s1.trans s3)⟩
end
end K03


set_option Elab.async false
set_option maxRecDepth 100000
set_option maxHeartbeats 4000000
set_option linter.all false
namespace K03
open PySem PySem.Spec PyProof.Rows L2 NetM
abbrev sOther : Stmt := top 28
abbrev N27 : List Str := ["net", "found", "_", "tail", "head"]
theorem scOther : FnScope N27 ["net"] (defScope sOther) := ⟨rfl, rfl, rfl, by decide +kernel, rfl, by decide +kernel, by decide +kernel⟩
def near1 (q : Int × Int) (p : Int) : List Int := (if q.1 = p then [q.2] else []) ++ (if q.2 = p then [q.1] else [])
def nearL (E : Prs) (p : Int) : List Int := E.flatMap fun q => near1 q p
theorem nearL_sum (E : Prs) (r : Rw) (p : Int) : ((nearL E p).map r).sum = nearS E r p := by
  unfold nearL
  induction E with
  | nil => rfl
  | cons q E ih =>
    rw [List.flatMap_cons, List.map_append, List.sum_append, ih, nearS_cons]
    congr 1
    unfold near1
    rw [List.map_append, List.sum_append]
    congr 1
    · split <;> simp
    · split <;> simp
theorem nearL_in {n : Nat} {E : Prs} (hE : In n E) (p : Int) : ∀ i ∈ nearL E p, InR n i := fun i m => by
  unfold nearL at m
  obtain ⟨q, mq, mi⟩ := List.mem_flatMap.mp m
  obtain ⟨h1, h2⟩ := hE q.1 q.2 mq
  unfold near1 at mi
  rcases List.mem_append.mp mi with m | m
  · split at m
    · rw [List.mem_singleton.mp m]; exact h2
    · cases m
  · split at m
    · rw [List.mem_singleton.mp m]; exact h1
    · cases m
theorem near1_len (q : Int × Int) (p : Int) : (near1 q p).length ≤ 2 := by
  unfold near1
  rw [List.length_append]
  split <;> split <;> simp
theorem nearL_len (E : Prs) (p : Int) : (nearL E p).length ≤ 2 * E.length := by
  unfold nearL
  induction E with
  | nil => simp
  | cons q E ih =>
    rw [List.flatMap_cons, List.length_append, List.length_cons]
    have := near1_len q p
    omega
theorem stay_tup {K : PySem.W.Frag} {H H' : Hp} {t : Addr} {xs : List V} (h : H t = some (.tup xs)) (h' : H' t = some (.tup xs)) : Stay K t H H' := by
  refine ⟨fun ys q => ?_, fun ys q => ?_⟩
  · rcases q with (q | ⟨o, q⟩) | q
    · rw [h] at q; cases q
    · rw [h] at q; cases q
    · exact .inr q
  · rcases q with (q | ⟨o, q⟩) | q
    · rw [h] at q; cases q; exact .inl (.inl h')
    · rw [h] at q; cases q
    · exact .inr q
/-- a list of lists, all of them new -/
structure Rows0 (H0 : Hp) (D : Addr) (as : List Addr) (g : Nat → List Int) (H : Hp) : Prop where
  at_ : H D = some (.lst (as.map V.ref))
  row : ∀ i, ∀ h : i < as.length, H as[i] = some (.lst ((g i).map V.int))
  nd : as.Nodup
  nD : D ∉ as
  nw : H0 D = none ∧ ∀ a ∈ as, H0 a = none
  sm : Same H0 H
theorem Rows0.put {H0 : Hp} {D : Addr} {as : List Addr} {g : Nat → List Int} {H : Hp} (R : Rows0 H0 D as g H) {i : Nat} (h : i < as.length) (l : List Int) : Rows0 H0 D as (fun k => if k = i then l else g k) (upd H as[i] (.lst (l.map V.int))) where
  at_ := by rw [upd_ne (fun z => R.nD (by rw [z]; exact List.getElem_mem h))]; exact R.at_
  row := fun k hk => by
    by_cases c : k = i
    · subst c
      rw [upd_same, if_pos rfl]
    · rw [upd_ne (fun z => c ((List.getElem?_inj hk R.nd).mp (by rw [List.getElem?_eq_getElem hk, List.getElem?_eq_getElem h, z]))), if_neg c]
      exact R.row k hk
  nd := R.nd
  nD := R.nD
  nw := R.nw
  sm := same_put R.sm (R.nw.2 _ (List.getElem_mem h))
def spOther (K : PySem.W.Frag) (CN : Addr) : Sp := fun vs H Q _ => ∃ (x : Addr) (n : Nat) (zs : Prs), vs = [.ref x] ∧ NetAt K CN H x n zs ∧ In n zs ∧ zs.length ≤ 12 ∧ n ≤ 8 ∧ (∀ a b, (a, b) ∈ zs → a ≠ b) ∧
  ∀ D as g H', Rows0 H D as g H' → as.length = n → (∀ i, g i = nearL zs i) → Q (.ref D) H'
section
variable {P : Program} {w : World} {K : PySem.W.Frag} {mg : Str → Option Value} {base : Heap} {CN : Addr}
theorem ok_other {f : Addr} {fd : FuncData} (F : Fun K "other_ends" "other_ends" sOther f fd) (T : NetT K mg CN) (mRa : mg "range" = none) : FnOk P w K mg base CX0 1 f fd ["net"] (spOther K CN) := by
  refine F.ok scOther (fun vs H Q E h => ?_) (fun cdv A outer s H vs Q E hr h => ?_)
  · obtain ⟨x, n, zs, rfl, _⟩ := h
    rfl
  · obtain ⟨x, n, zs, rfl, hN, hE, hz, hn, nl, k⟩ := h
    have nd := scOther.nd
    refine ⟨_, pss_cons (ps_setLc (i := 1) (own := [("_", 2)]) (g := gName 2) (by rfl) nd rfl rfl (sw_true rfl rfl rfl (by decide +kernel)) (pi_range1 (by rfl) mRa (pa_cons (pe_fld (pv 0) rfl) pa_nil)) (blkOk_by (own := [("_", 2)]) (N := N27) (sc := defScope sOther) (by decide +kernel)) (fun _ _ _ _ _ => pg_name (i := 2) nd rfl (by first | exact Or.inl rfl | exact Or.inr rfl)) (fun _ _ _ _ _ => pts_nil) (fun _ _ _ _ _ => pe_lst pa_nil))
      (pss_cons (ps_for PassesOwn.never rfl (pi_seq (pe_fld (pv 0) rfl)) (pg_tup (by rfl) (pgs_cons (pg_name (i := 3) nd rfl (by first | exact Or.inl rfl | exact Or.inr rfl)) (pgs_cons (pg_name (i := 4) nd rfl (by first | exact Or.inl rfl | exact Or.inr rfl)) pgs_nil)))
        (pss_cons (ps_expr (pe_bm PySem.F.plainAttrs_list PySem.F.slot_list_append PySem.F.type_list_append mt_append (pe_ix ix_list (pv 1) (pv 3) (fun _ _ => rfl)) (pa_cons (pv 4) pa_nil)))
        (pss_one (ps_expr (pe_bm PySem.F.plainAttrs_list PySem.F.slot_list_append PySem.F.type_list_append mt_append (pe_ix ix_list (pv 1) (pv 4) (fun _ _ => rfl)) (pa_cons (pv 3) pa_nil))))))
      (pss_one (ps_ret (pv 1)))), ?_⟩
    obtain ⟨dx, t, us, e, et, p, rfl⟩ := id hN
    have hul : us.length ≤ 12 := by unfold nums at hz; rw [List.length_map] at hz; exact hz
    refine ⟨_, rfl, x, CN, dx, _, _, rfl, e, T.cl, T.nP, rfl, n, rfl, by omega, by omega, fun D nD => ?_⟩
    rw [Int.toNat_natCast]
    refine lc_range (lo := 0) (n := n) (fun i Hd => ∃ as : List Addr, as.length = i ∧ Rows0 H D as (fun _ => []) Hd) ⟨[], rfl, ⟨upd_same, fun i h => absurd h (Nat.not_lt_zero _), List.nodup_nil, by simp, ⟨nD, fun a m => by cases m⟩, same_upd nD⟩⟩ ?_ ?_
    · rintro i Hd hi ⟨as, hl, R⟩
      refine ⟨rfl, ?_⟩
      dsimp only [tYes]
      refine iteT ?_
      refine ⟨Nat.zero_le _, fun q nq => ?_⟩
      have nqD : q ≠ D := fun z => by rw [z, R.at_] at nq; cases nq
      have nqa : ∀ a ∈ as, q ≠ a := fun a m z => by
        obtain ⟨j, hj, e⟩ := List.getElem_of_mem m
        have := R.row j hj
        rw [e, ← z, nq] at this
        cases this
      have hq0 : H q = none := by
        cases c : H q with
        | none => rfl
        | some o => rw [R.sm _ _ c] at nq; cases nq
      refine ⟨_, same_upd nq _ _ R.at_, small_2000 (by rw [List.length_map]; omega), as ++ [q], by rw [List.length_append, hl]; rfl, ?_, ?_, ?_, ?_, ?_, ?_⟩
      · rw [upd_same, List.map_append]; rfl
      · intro j hj
        by_cases c : j < as.length
        · rw [List.getElem_append_left c, upd_ne (fun z => R.nD (by rw [← z]; exact List.getElem_mem c)), upd_ne (fun z => nqa _ (List.getElem_mem c) z.symm)]
          exact R.row j c
        · have hj2 : j = as.length := by rw [List.length_append] at hj; have : j < as.length + 1 := hj; omega
          subst hj2
          rw [List.getElem_append_right (Nat.le_refl _)]
          simp only [Nat.sub_self, List.getElem_cons_zero]
          rw [upd_ne nqD, upd_same]
          rfl
      · refine List.nodup_append.mpr ⟨R.nd, by simp, fun a m b mb => ?_⟩
        rw [List.mem_singleton.mp mb]
        exact fun z => nqa a m z.symm
      · intro m
        rcases List.mem_append.mp m with m | m
        · exact R.nD m
        · exact nqD (List.mem_singleton.mp m).symm
      · refine ⟨nD, fun a m => ?_⟩
        rcases List.mem_append.mp m with m | m
        · exact R.nw.2 a m
        · rw [List.mem_singleton.mp m]; exact hq0
      · exact same_put (R.sm.trans (same_upd nq)) nD
    rintro Hd ⟨as, hl, R⟩
    refine ⟨_, rfl, x, CN, dx, _, _, rfl, R.sm _ _ e, T.cl, T.nA, rfl, t, rf us, rfl, .inr (SqT.of (R.sm _ _ et)), fun J hJ => ?_⟩
    refine for_seq hJ (fun j σ Hx => ∃ (v3 v4 : Option V) (g : Nat → List Int), σ = [some (.ref x), some (.ref D), none, v3, v4] ∧ Rows0 H D as g Hx ∧ (∀ i : Nat, g i = nearL ((nums us).take j) i)) ⟨none, none, _, rfl, R, fun i => rfl⟩ (fun j σ Hx _ hh => by obtain ⟨_, _, _, _, Rx, _⟩ := hh; exact stay_tup (R.sm _ _ et) (Rx.sm _ _ et)) ?_ ?_
    · rintro j y σ Hx hj ⟨v3, v4, g, rfl, Rx, hg⟩
      obtain ⟨⟨z, z1, z2⟩, hz, rfl⟩ := rf_inv hj
      have mz := List.mem_of_getElem? hz
      have mn : (z1, z2) ∈ nums us := List.mem_of_getElem? (nums_get hz)
      obtain ⟨i1, i2⟩ := hE z1 z2 mn
      have ne := nl z1 z2 mn
      have htk : (nums us).take (j + 1) = (nums us).take j ++ [(z1, z2)] := by rw [List.take_add_one, nums_get hz]; rfl
      obtain ⟨a1, rfl⟩ : ∃ k : Nat, z1 = k := ⟨z1.toNat, by have := i1.1; omega⟩
      obtain ⟨a2, rfl⟩ : ∃ k : Nat, z2 = k := ⟨z2.toNat, by have := i2.1; omega⟩
      have h1 : a1 < as.length := by have := i1.2; omega
      have h2 : a2 < as.length := by have := i2.2; omega
      have hne : a2 ≠ a1 := fun z => ne (by rw [z])
      refine ⟨z, [.int a1, .int a2], rfl, sqt_same Rx.sm (p _ mz), rfl, .int a1, [.int a2], rfl, .int a2, [], rfl, rfl, ?_⟩
      have hgl : ∀ i, (g i).length ≤ 24 := fun i => by
        rw [hg i]
        have := nearL_len ((nums us).take j) i
        have h3 : ((nums us).take j).length ≤ 12 := by rw [List.length_take]; exact Nat.le_trans (Nat.min_le_right _ _) (by unfold nums; rw [List.length_map]; exact hul)
        omega
      have eg1 := Rx.row a1 h1
      refine ⟨_, rfl, _, rfl, D, _, (a1 : Int), .ref as[a1], rfl, rfl, SqL.of Rx.at_, atI_nat (by rw [List.getElem?_map, List.getElem?_eq_getElem h1]; rfl), .inl ⟨rfl, _, SqL.of eg1⟩, _, rfl, as[a1], _, _, rfl, rfl, eg1, small_2000 (by rw [List.length_map]; have := hgl a1; omega), ?_⟩
      have R1 := Rx.put h1 (g a1 ++ [(a2 : Int)])
      rw [List.map_append] at R1
      have eg2 := R1.row a2 h2
      rw [if_neg hne] at eg2
      refine ⟨_, rfl, _, rfl, D, _, (a2 : Int), .ref as[a2], rfl, rfl, SqL.of R1.at_, atI_nat (by rw [List.getElem?_map, List.getElem?_eq_getElem h2]; rfl), .inl ⟨rfl, _, SqL.of eg2⟩, _, rfl, as[a2], _, _, rfl, rfl, eg2, small_2000 (by rw [List.length_map]; have := hgl a2; omega), ?_⟩
      have R2 := R1.put h2 (g a2 ++ [(a1 : Int)])
      rw [List.map_append] at R2
      refine ⟨_, _, _, rfl, R2, fun i => ?_⟩
      · rw [htk]
        unfold nearL
        rw [List.flatMap_append, List.flatMap_cons, List.flatMap_nil, List.append_nil]
        have hgi := hg i
        unfold nearL at hgi
        rw [← hgi]
        unfold near1
        have c1 : ((a1 : Int) = (i : Int)) ↔ i = a1 := ⟨fun z => by omega, fun z => by rw [z]⟩
        have c2 : ((a2 : Int) = (i : Int)) ↔ i = a2 := ⟨fun z => by omega, fun z => by rw [z]⟩
        by_cases d2 : i = a2
        · rw [if_pos d2, if_pos (c2.mpr d2), if_neg (fun z => hne (d2.symm.trans (c1.mp z))), List.nil_append, d2]
        · rw [if_neg d2, if_neg (fun z => d2 (c2.mp z)), List.append_nil]
          by_cases d1 : i = a1
          · rw [if_pos d1, if_pos (c1.mpr d1), d1]
          · rw [if_neg d1, if_neg (fun z => d1 (c1.mp z)), List.append_nil]
    · rintro σ Hx ⟨v3, v4, g, rfl, Rx, hg⟩
      have hln : (rf us).length = (nums us).length := by unfold rf nums; rw [List.length_map, List.length_map]
      rw [hln, List.take_length] at hg
      exact ⟨_, rfl, k D as g Hx Rx hl hg⟩
end
end K03


set_option Elab.async false
set_option maxRecDepth 100000
set_option maxHeartbeats 4000000
set_option linter.all false
namespace K03
open PySem PySem.Spec PyProof.Rows L2 NetM
abbrev sSettled : Stmt := top 29
abbrev N28 : List Str := ["net", "ends", "row", "raised", "place", "near", "k"]
theorem scSettled : FnScope N28 ["net"] (defScope sSettled) := ⟨rfl, rfl, rfl, by decide +kernel, rfl, by decide +kernel, by decide +kernel⟩
/-- enumerate of what is walked -/
theorem for_e2 {K : PySem.W.Frag} {a : Addr} {xs : List V} {H1 : Hp} {J : It} (Wk : IsE K a xs H1 J) {g : TG} {tb : TS} {D : Ends} {σ : L2.St} {H : Hp} (Pv : Nat → L2.St → Hp → Prop) (h0 : Pv 0 σ H) (hl : ∀ i σ H, i ≤ xs.length → Pv i σ H → Stay K a H1 H)
    (hs : ∀ i x U σ H, xs[i]? = some x → Pv i σ H → H U = none → g (.ref U) σ (upd H U (.tup [.int (i : Nat), x])) fun σ2 H2 => tb { D with nx := Pv (i + 1), ct := Pv (i + 1), bk := D.nx } σ2 H2) (hd : ∀ σ H, Pv xs.length σ H → D.nx σ H) :
    ∃ W : Nat → Nat → L2.St → Hp → Prop, (∃ m, W 0 m σ H) ∧ ∀ i m σ H, W i m σ H →
      (J.stop i H ∧ D.nx σ H) ∨ (J.go i H ∧ ∃ N : L2.St → Hp → Prop, (∀ σ' H', N σ' H' → ∃ m', m' < m ∧ W (i + 1) m' σ' H') ∧ ∀ x H', J.yld i H x H' → g x σ H' fun σ2 H2 => tb { D with nx := N, ct := N, bk := D.nx } σ2 H2) := by
  refine ⟨fun i m σ H => m + i = xs.length ∧ Pv i σ H, ⟨xs.length, rfl, h0⟩, fun i m σ H h => ?_⟩
  obtain ⟨hm, p⟩ := h
  obtain ⟨w1, w2, w3⟩ := Wk i H (hl i σ H (by omega) p)
  rcases Nat.lt_or_ge i xs.length with lt | ge
  · refine .inr ⟨w1 xs[i] (List.getElem?_eq_getElem lt), Pv (i + 1), fun σ' H' p' => ⟨m - 1, by omega, by omega, p'⟩, fun v H' y => ?_⟩
    obtain ⟨T, x, rfl, hT, rfl, e⟩ := w2 v H' y
    exact hs i x T σ _ e p hT
  · have e : i = xs.length := by omega
    subst e
    exact .inl ⟨w3 rfl, hd σ H p⟩
/-- what a net's settled row is, or that there is none -/
def spSettled (K : PySem.W.Frag) (CN : Addr) : Sp := fun vs H Q _ => ∃ (x : Addr) (n : Nat) (zs : Prs), vs = [.ref x] ∧ NetAt K CN H x n zs ∧ In n zs ∧ zs.length ≤ 12 ∧ n ≤ 8 ∧ 0 < n ∧ (∀ a b, (a, b) ∈ zs → a ≠ b) ∧
  (SetR zs n none → ∀ H', Same H H' → Q .non H') ∧ ∀ L, SetR zs n (some L) → ∀ T H', Same H H' → H' T = some (.tup (L.map V.int)) → Q (.ref T) H'
section
variable {X : Cx}
theorem get_list : PGet X (rIxL X.K) := by
  intro pins s σ H o i ov iv Q I ro ri h
  obtain ⟨p, xs, i, z, rfl, rfl, hq, he, q⟩ := h
  cases ro
  obtain ⟨t, rfl⟩ := ri
  obtain ⟨its, r, pl, hz⟩ := I.list hq
  obtain ⟨j, h1, h2, h3, h4, h5⟩ := atI_get he
  obtain ⟨w, ew, rw'⟩ := r.get h2
  have hl := r.length
  have hn := line63
  have fin : EP X pins σ Q w s := ⟨z, H, I, rw', q⟩
  by_cases h0 : 0 ≤ i
  · have hj : i.toNat = j := by
      rw [seqIndex_of h0 h5] at h1
      exact Option.some.inj h1
    exact wpAny_getItem_list pl.isList h0 (by omega) (by rw [hj]; simpa using ew) fin
  · have hj : (i + (its.toArray.size : Int)).toNat = j := by
      rw [seqIndex_neg (by omega) h4] at h1
      rw [List.size_toArray, ← hl]
      exact Option.some.inj h1
    exact wpAny_getItem_list_neg pl.isList (by omega) (by rw [List.size_toArray] <;> omega) (by omega) (by rw [hj]; simpa using ew) fin
end
theorem rep1 (v : V) : ∀ n : Nat, (List.replicate n [v]).flatten = List.replicate n v
  | 0 => rfl
  | n + 1 => by rw [List.replicate_succ, List.flatten_cons, rep1 v n]; rfl
theorem ixN_n {n j : Nat} (h : j < n) : ixN n (j : Int) = some j := by
  unfold ixN
  rw [if_pos (by omega), if_pos (by omega), Int.toNat_natCast]
theorem stay_lst {K : PySem.W.Frag} {H H' : Hp} {t : Addr} {xs : List V} (h : H t = some (.lst xs)) (h' : H' t = some (.lst xs)) : Stay K t H H' := by
  refine ⟨fun ys q => ?_, fun ys q => ?_⟩
  · rcases q with (q | ⟨o, q⟩) | q
    · rw [h] at q; cases q; exact .inl (.inl h')
    · rw [h] at q; cases q
    · exact .inr q
  · rcases q with (q | ⟨o, q⟩) | q
    · rw [h] at q; cases q
    · rw [h] at q; cases q
    · exact .inr q
def sumV : List V → Int
  | [] => 0
  | .int i :: xs => i + sumV xs
  | _ :: xs => sumV xs
theorem sumV_int : ∀ L : List Int, sumV (L.map V.int) = L.sum
  | [] => rfl
  | i :: L => by rw [List.sum_cons, ← sumV_int L]; rfl
def mu (Rq : Addr) (σ : L2.St) (H : Hp) : Nat := match σ, H Rq with
  | [_, _, _, some (.bl true), _, _, _], some (.lst xs) => (49 - sumV xs).toNat + 1
  | _, _ => 0
/-- what stays while the row is worked on -/
structure Kp (H : Hp) (De Rq : Addr) (as : List Addr) (g : Nat → List Int) (Hx : Hp) : Prop where
  at_ : Hx De = some (.lst (as.map V.ref))
  row : ∀ i, ∀ h : i < as.length, Hx as[i] = some (.lst ((g i).map V.int))
  sm : Same H Hx
  nw : H Rq = none
  n1 : De ≠ Rq
  n2 : ∀ a ∈ as, a ≠ Rq
theorem Kp.same {H : Hp} {De Rq : Addr} {as : List Addr} {g : Nat → List Int} {Hx Hy : Hp} (k : Kp H De Rq as g Hx) (s : Same Hx Hy) : Kp H De Rq as g Hy := ⟨s _ _ k.at_, fun i h => s _ _ (k.row i h), k.sm.trans s, k.nw, k.n1, k.n2⟩
theorem Kp.put {H : Hp} {De Rq : Addr} {as : List Addr} {g : Nat → List Int} {Hx : Hp} (k : Kp H De Rq as g Hx) (o : HO) : Kp H De Rq as g (upd Hx Rq o) := ⟨by rw [upd_ne k.n1]; exact k.at_, fun i h => by rw [upd_ne (k.n2 _ (List.getElem_mem h))]; exact k.row i h, same_put k.sm k.nw, k.nw, k.n1, k.n2⟩
theorem max_ex : ∀ {L : List Int}, 0 < L.length → ∃ m ∈ L, ∀ y ∈ L, y ≤ m
  | [a], _ => ⟨a, by simp, fun y h => by rw [List.mem_singleton.mp h]; exact Int.le_refl _⟩
  | a :: b :: L, _ => by
    obtain ⟨m, h1, h2⟩ := max_ex (L := b :: L) (by simp)
    by_cases c : m ≤ a
    · exact ⟨a, by simp, fun y h => by
        rcases List.mem_cons.mp h with rfl | h
        · exact Int.le_refl _
        · have := h2 y h; omega⟩
    · exact ⟨m, List.mem_cons_of_mem _ h1, fun y h => by
        rcases List.mem_cons.mp h with rfl | h
        · omega
        · exact h2 y h⟩
section
variable {P : Program} {w : World} {K : PySem.W.Frag} {mg : Str → Option Value} {base : Heap} {CN : Addr}
theorem ok_settled {f fO : Addr} {fd dO : FuncData} {tk : Nat} (F : Fun K "settled_row" "settled_row" sSettled f fd) (T : NetT K mg CN) (GO : FnOk P w K mg base CX0 1 fO dO ["net"] (spOther K CN)) (bO : L2.Binds K dO ["net"] []) (gO : mg "other_ends" = some (.ref fO)) (kO : PySem.W.keepIn K (.ref fO) = true) (gG : mg "GREATEST_SETTLED" = some (.int 6 tk)) (mEn : mg "enumerate" = none) (mSum : mg "sum" = none) (mMax : mg "max" = none) (mTup : mg "tuple" = none) : FnOk P w K mg base CX0 2 f fd ["net"] (spSettled K CN) := by
  refine F.ok scSettled (fun vs H Q E h => ?_) (fun cdv A outer s H vs Q E hr h => ?_)
  · obtain ⟨x, n, zs, rfl, _⟩ := h
    rfl
  · obtain ⟨x, n, zs, rfl, hN, hE, hz, hn, n0, nl, kN, kS⟩ := h
    have nd := scSettled.nd
    refine ⟨_, pss_cons (ps_set (i := 1) nd rfl (by first | exact Or.inl rfl | exact Or.inr rfl) (pe_call GO hr (by rfl) gO kO bO .nil pass0 (pa_cons (pv 0) pa_nil)))
      (pss_cons (ps_set (i := 2) nd rfl (by first | exact Or.inl rfl | exact Or.inr rfl) (pe_op op_rep (pe_lst (pa_cons pe_int pa_nil)) (pe_fld (pv 0) rfl)))
      (pss_cons (ps_set (i := 3) nd rfl (by first | exact Or.inl rfl | exact Or.inr rfl) pe_bl)
      (pss_cons (ps_while PassesOwn.never (pt_val (pv 3))
        (pss_cons (ps_set (i := 3) nd rfl (by first | exact Or.inl rfl | exact Or.inr rfl) pe_bl)
        (pss_cons (ps_for PassesOwn.never rfl (show PI _ _ _ (iE2 K (tCons (tVar 1) tNil)) from pi_e2 (by rfl) mEn (pa_cons (pv 1) pa_nil)) (pg_tup (by rfl) (pgs_cons (pg_name (i := 4) nd rfl (by first | exact Or.inl rfl | exact Or.inr rfl)) (pgs_cons (pg_name (i := 5) nd rfl (by first | exact Or.inl rfl | exact Or.inr rfl)) pgs_nil)))
          (pss_one (ps_if (pt_cmpR op_lt (pe_op op_mul pe_int (pe_ix ix_list (pv 2) (pv 4) (fun _ _ => rfl))) (pe_callB (show CallR _ _ (rSum K) from cr_sum (by rfl)) (by rfl) mSum (by decide +kernel) (pa_cons
              (pe_lc (own := [("k", 6)]) (g := gName 6) (by rfl) nd (pi_seq (pv 5)) (blkOk_by (own := [("k", 6)]) (N := N28) (sc := defScope sSettled) (by decide +kernel)) (fun _ _ _ _ _ => pg_name (i := 6) nd rfl (by first | exact Or.inl rfl | exact Or.inr rfl)) (fun _ _ _ _ _ => pts_nil)
                (fun _ _ _ _ _ => pe_ix (show IxR _ (rIx K) from ix_seq) (pv 2) (pv 6) (fun _ _ => rfl))) pa_nil)) (nomark _))
            (pss_cons (ps_augS (pv 2) (pv 4) get_list pe_int ip_add set_list) (pss_one (ps_set (i := 3) nd rfl (by first | exact Or.inl rfl | exact Or.inr rfl) pe_bl))) pss_nil)))
        (pss_one (ps_if (pt_cmpR op_gt (pe_callB (show CallR _ _ (rMax K) from cr_max (by rfl)) (by rfl) mMax (by decide +kernel) (pa_cons (pv 2) pa_nil)) (pe_glob (v := .int 6) (by rfl) gG ⟨tk, rfl⟩) (nomark _)) (pss_one (ps_ret pe_non)) pss_nil)))))
      (pss_one (ps_ret (pe_callTy (show CallR _ _ (fun xs H Q => ∃ p ys, xs = [.ref p] ∧ ((SqL K H p ys ∧ ∀ l, H l = none → Q (.ref l) (upd H l (.tup ys))) ∨ (SqT K H p ys ∧ Q (.ref p) H))) from call_tuple_of) (by rfl) mTup (by decide +kernel) (pa_cons (pv 2) pa_nil))))))), ?_⟩
    obtain ⟨dx, t, us, e, et, p, _⟩ := id hN
    refine ⟨_, rfl, x, n, zs, rfl, hN, hE, hz, hn, nl, fun De as g H1 R1 hal hg => ?_⟩
    refine ⟨by show 1 ≤ sizeLine; decide, fun q0 nq0 => ?_⟩
    have s1 := same_upd (o := .lst [.int 1]) nq0
    refine ⟨_, rfl, x, CN, dx, _, _, rfl, s1 _ _ (R1.sm _ _ e), T.cl, T.nP, rfl, ?_⟩
    refine ⟨q0, (n : Int), [.int 1], rfl, rfl, upd_same, by omega, by omega, by rw [Int.toNat_natCast]; exact Nat.le_of_lt (small_2000 (by show 1 * _ ≤ 2000; omega)), fun Rq nR => ?_⟩
    have hal' := hal
    obtain ⟨H2, eH2⟩ : ∃ H2 : Hp, H2 = upd (upd H1 q0 (.lst [.int 1])) Rq (.lst (List.replicate (n : Int).toNat [V.int 1]).flatten) := ⟨_, rfl⟩
    rw [← eH2]
    have s2 := s1.trans (same_upd (o := .lst (List.replicate (n : Int).toNat [V.int 1]).flatten) nR)
    rw [← eH2] at s2
    have eR : H2 Rq = some (.lst ((ones n).map V.int)) := by rw [eH2, upd_same, Int.toNat_natCast, rep1]; unfold ones; rw [List.map_replicate]
    have nR1 : H1 Rq = none := by
      cases c : H1 Rq with
      | none => rfl
      | some o => rw [s1 _ _ c] at nR; cases nR
    have nRH : H Rq = none := by
      cases c : H Rq with
      | none => rfl
      | some o => rw [R1.sm _ _ c] at nR1; cases nR1
    have n1 : De ≠ Rq := fun z => by
      have := R1.at_
      rw [z, nR1] at this
      cases this
    have n2 : ∀ a ∈ as, a ≠ Rq := fun a m z => by
      obtain ⟨j, hj, ej⟩ := List.getElem_of_mem m
      have := R1.row j hj
      rw [ej, z, nR1] at this
      cases this
    have KP : Kp H De Rq as g H2 := ⟨s2 _ _ R1.at_, fun i h => s2 _ _ (R1.row i h), R1.sm.trans s2, nRH, n1, n2⟩
    clear nR nR1 eH2 s1 s2
    refine while_by (fun σ Hx => ∃ (b : Bool) (v4 v5 : Option V) (L : List Int), σ = [some (.ref x), some (.ref De), some (.ref Rq), some (.bl b), v4, v5, none] ∧ Hx Rq = some (.lst (L.map V.int)) ∧ L.length = n ∧ Low zs n (rowF L) ∧ (∀ i ∈ L, 1 ≤ i ∧ i ≤ 6) ∧ (b = false → Setl zs n (rowF L)) ∧ Kp H De Rq as g Hx)
      (mu Rq) ?_ ?_ ?_
    · exact ⟨true, none, none, ones n, rfl, eR, List.length_replicate, low_ones zs n, (fun i m => by rw [List.eq_of_mem_replicate m]; omega), (fun h => by cases h), KP⟩
    · rintro σ Hx ⟨b, v4, v5, L, rfl, eL, hL, low, hb, hst, kp⟩
      refine ⟨_, rfl, b, rfl, ?_⟩
      cases b with
      | false =>
        refine iteF ?_
        refine ⟨_, rfl, Rq, _, rfl, .inl ⟨SqL.of eL, fun Tq nT => ?_⟩⟩
        exact kS L ⟨hL, ⟨hst rfl, low⟩, hb⟩ Tq _ (kp.sm.trans (same_upd nT)) upd_same
      | true =>
        refine iteT ?_
        refine ⟨_, rfl, De, _, rfl, .inl (SqL.of kp.at_), fun J hJ => ?_⟩
        refine for_e2 hJ (fun j σ Hy => ∃ (v4 v5 : Option V), σ = [some (.ref x), some (.ref De), some (.ref Rq), some (.bl (raisTo zs L j)), v4, v5, none] ∧ Hy Rq = some (.lst ((passTo zs L j).map V.int)) ∧ Kp H De Rq as g Hy) ⟨_, _, rfl, eL, kp⟩ (fun j σ Hy _ hh => by
          obtain ⟨_, _, _, _, ky⟩ := hh
          exact stay_lst kp.at_ ky.at_) ?_ ?_
        · rintro j y U σ Hy hj ⟨v4, v5, rfl, ey, ky⟩ nU
          rw [List.getElem?_map] at hj
          cases haj : as[j]? with
          | none => rw [haj] at hj; cases hj
          | some a =>
            rw [haj] at hj
            cases hj
            have hjl : j < as.length := (List.getElem?_eq_some_iff.mp haj).1
            have haje : as[j] = a := (List.getElem?_eq_some_iff.mp haj).2
            have hjn : j < n := by omega
            have hpl : (passTo zs L j).length = n := by rw [pass_len, hL]
            have sU : Same Hy (upd Hy U (.tup [.int (j : Nat), .ref a])) := same_upd nU
            have kU := ky.same sU
            have eyU := sU _ _ ey
            have rj := kU.row j hjl
            rw [haje, hg j] at rj
            refine ⟨U, [.int j, .ref a], rfl, .inl (.inl upd_same), rfl, .int j, [.ref a], rfl, .ref a, [], rfl, rfl, ?_⟩
            generalize upd Hy U (.tup [.int (j : Nat), .ref a]) = Hu at kU eyU rj
            have hjv : (passTo zs L j)[j]? = some ((passTo zs L j).getD j 0) := by
              rw [List.getElem?_eq_getElem (by omega), List.getD_eq_getElem?_getD, List.getElem?_eq_getElem (by omega)]; rfl
            refine ⟨_, rfl, _, rfl, Rq, _, (j : Int), .int ((passTo zs L j).getD j 0), rfl, rfl, SqL.of eyU, atI_nat (by rw [List.getElem?_map, hjv]; rfl), 2, (passTo zs L j).getD j 0, rfl, rfl, .inl ⟨by decide, by decide⟩, ?_⟩
            refine ⟨_, rfl, a, _, rfl, .inl (SqL.of rj), fun J2 hJ2 D nD => ?_⟩
            refine lc_seq hJ2 (fun i Hd => Hd D = some (.lst ((((nearL zs j).map (rowF (passTo zs L j))).take i).map V.int)) ∧ Same Hu Hd) ⟨upd_same, same_upd nD⟩ (fun i Hd _ hh => .of hh.2) ?_ ?_
            · rintro i y Hd hi ⟨eD, sd⟩
              obtain ⟨m, hm, rfl⟩ := map_inv hi
              have hil : i < (nearL zs j).length := (List.getElem?_eq_some_iff.mp hm).1
              have him := nearL_in hE j m (List.mem_of_getElem? hm)
              obtain ⟨g1, g2⟩ := rowF_get (L := passTo zs L j) (p := m) (by rw [hpl]; exact him)
              have hnl := nearL_len zs j
              refine ⟨rfl, ?_⟩
              dsimp only [tYes]
              refine iteT ?_
              refine ⟨_, rfl, _, rfl, ?_⟩
              rw [show m = ((m.toNat : Nat) : Int) by have := him.1; omega]
              refine ix_at (.inl (SqL.of (sd _ _ eyU))) (v := .int (rowF (passTo zs L j) m)) (by rw [List.getElem?_map, List.getElem?_eq_getElem g1, g2]; rfl) ?_
              refine ⟨_, eD, small_2000 (by rw [List.length_map, List.length_take, List.length_map]; omega), ?_, same_put sd nD⟩
              rw [upd_same, List.take_add_one, List.getElem?_map, hm, List.map_append]
              rfl
            rintro Hd ⟨eD, sd⟩
            rw [List.take_of_length_le (by rw [List.length_map, List.length_map]; exact Nat.le_refl _)] at eD
            have kd := kU.same sd
            have eyd := sd _ _ eyU
            refine ⟨D, _, rfl, SqL.of eD, ?_⟩
            rw [nearL_sum]
            refine ⟨_, _, rfl, rfl, _, rfl, ?_⟩
            by_cases c : lowAt zs (passTo zs L j) j = true
            · refine iteTb (by unfold lowAt at c; exact c) ?_
              refine ⟨_, rfl, _, rfl, Rq, _, (j : Int), .int ((passTo zs L j).getD j 0), rfl, rfl, SqL.of eyd, atI_nat (by rw [List.getElem?_map, hjv]; rfl), _, _, rfl, rfl, Rq, _, (j : Int), j, rfl, rfl, eyd, ?_, ?_⟩
              · rw [List.length_map]; exact ixN_n (by omega)
              refine ⟨some (.int (j : Int)), some (.ref a), ?_, ?_, kd.put _⟩
              · rw [show raisTo zs L (j + 1) = true by show (raisTo zs L j || lowAt zs (passTo zs L j) j) = true; rw [c, Bool.or_true]]
                rfl
              · rw [upd_same]
                show _ = some (HO.lst ((stepL zs (passTo zs L j) j).map V.int))
                unfold stepL
                rw [if_pos c, List.map_set]
            · refine iteFb (by unfold lowAt at c; cases q : decide (2 * (passTo zs L j).getD j 0 < nearS zs (rowF (passTo zs L j)) j) with
                | true => exact absurd q c
                | false => rfl) ?_
              have c' : lowAt zs (passTo zs L j) j = false := by
                cases q : lowAt zs (passTo zs L j) j with
                | true => exact absurd q c
                | false => rfl
              refine ⟨some (.int (j : Int)), some (.ref a), ?_, ?_, kd⟩
              · rw [show raisTo zs L (j + 1) = raisTo zs L j by show (raisTo zs L j || lowAt zs (passTo zs L j) j) = _; rw [c', Bool.or_false]]
                rfl
              · rw [eyd]
                show _ = some (HO.lst ((stepL zs (passTo zs L j) j).map V.int))
                unfold stepL
                rw [if_neg c]
        · rintro σ Hy ⟨v4', v5', rfl, ey, ky⟩
          rw [List.length_map, hal] at ey ⊢
          have low2 := pass_low hE hL low n (Nat.le_refl _)
          have hl2 : (passTo zs L n).length = n := by rw [pass_len, hL]
          have ge2 : ∀ i ∈ passTo zs L n, 1 ≤ i := pass_ge (fun i m => (hb i m).1) n (by omega)
          obtain ⟨m, mm, hmax⟩ := max_ex (L := passTo zs L n) (by omega)
          refine ⟨_, rfl, Rq, _, rfl, SqL.of ey, by omega, fun m' h1 h2 => ?_⟩
          have em : m' = m := Int.le_antisymm (hmax _ h1) (h2 _ mm)
          subst em
          refine ⟨_, _, rfl, rfl, _, rfl, ?_⟩
          by_cases c : 6 < m'
          · refine iteTb (decide_eq_true (by omega)) ?_
            exact kN (big_none hl2 low2 mm c) Hy ky.sm
          · refine iteFb (decide_eq_false (by omega)) ?_
            refine ⟨⟨raisTo zs L n, _, _, passTo zs L n, rfl, ey, hl2, low2, fun i mi => ⟨ge2 i mi, by have := hmax i mi; omega⟩, fun hf => ?_, ky⟩, ?_⟩
            · obtain ⟨h3, h4⟩ := raise_no hf
              rw [h3]
              exact setl_of hL (fun i m => (hb i m).1) h4
            · have hsum := pass_sum (E := zs) (L := L) n (by omega)
              have hle := sum_le (L := passTo zs L n) (b := 6) fun i mi => by have := hmax i mi; omega
              rw [hl2] at hle
              unfold mu
              rw [ey, eL]
              cases q : raisTo zs L n with
              | false => exact Nat.succ_pos _
              | true =>
                have := hsum.2 q
                show (49 - sumV ((passTo zs L n).map V.int)).toNat + 1 < (49 - sumV (L.map V.int)).toNat + 1
                rw [sumV_int, sumV_int]
                omega
    · rintro σ Hx Q Q' hQ ⟨v, e, b, e2, q⟩
      exact ⟨v, e, b, e2, hQ _ _ q⟩
end
end K03


set_option Elab.async false
set_option maxRecDepth 100000
set_option maxHeartbeats 4000000
set_option linter.all false
namespace K03
open PySem PySem.Spec PyProof.Rows L2 NetM
abbrev sAround : Stmt := top 27
abbrev sWild : Stmt := top 30
abbrev N26 : List Str := ["net", "place", "row", "ahead", "tail", "head"]
theorem scAround : FnScope N26 ["net", "place", "row"] (defScope sAround) := ⟨rfl, rfl, rfl, by decide +kernel, rfl, by decide +kernel, by decide +kernel⟩
theorem scWild : FnScope ["net", "row", "place"] ["net"] (defScope sWild) := ⟨rfl, rfl, rfl, by decide +kernel, rfl, by decide +kernel, by decide +kernel⟩
def spAround (K : PySem.W.Frag) (CN : Addr) : Sp := fun vs H Q _ => ∃ (x a : Addr) (j : Int) (n : Nat) (zs : Prs) (L : List Int), vs = [.ref x, .int j, .ref a] ∧ NetAt K CN H x n zs ∧ In n zs ∧ zs.length ≤ 12 ∧ SqA K H a (L.map V.int) ∧ L.length = n ∧ ∀ H', Same H H' → Q (.int (nearS zs (rowF L) j)) H'
def spWildR (K : PySem.W.Frag) (CN : Addr) : Sp := fun vs H Q _ => ∃ (x : Addr) (n : Nat) (zs : Prs) (k0 : Nat), vs = [.ref x] ∧ NetAt K CN H x n zs ∧ In n zs ∧ zs.length ≤ 12 ∧ n ≤ 8 ∧ Wl zs n k0 ∧ ∀ T H', Same H H' → H' T = some (.tup ((rowL n (itR zs k0)).map V.int)) → Q (.ref T) H'
def picks (f g : Int × Int → Int) (r : Rw) (j : Int) (E : Prs) : List Int := (E.filter fun q => decide (f q = j)).map fun q => r (g q)
theorem picks_sum (r : Rw) (j : Int) : ∀ E : Prs, (picks Prod.snd Prod.fst r j E).sum + (picks Prod.fst Prod.snd r j E).sum = nearS E r j
  | [] => rfl
  | q :: E => by
    have ih := picks_sum r j E
    unfold picks at ih ⊢
    rw [nearS_cons, List.filter_cons, List.filter_cons]
    by_cases c1 : q.1 = j
    · by_cases c2 : q.2 = j
      · rw [if_pos (decide_eq_true c2), if_pos (decide_eq_true c1), if_pos c1, if_pos c2, List.map_cons, List.map_cons, List.sum_cons, List.sum_cons]; omega
      · rw [if_neg (by simpa using c2), if_pos (decide_eq_true c1), if_pos c1, if_neg c2, List.map_cons, List.sum_cons]; omega
    · by_cases c2 : q.2 = j
      · rw [if_pos (decide_eq_true c2), if_neg (by simpa using c1), if_neg c1, if_pos c2, List.map_cons, List.sum_cons]; omega
      · rw [if_neg (by simpa using c2), if_neg (by simpa using c1), if_neg c1, if_neg c2]; omega
theorem picks_app (f g : Int × Int → Int) (r : Rw) (j : Int) (E : Prs) (q : Int × Int) : picks f g r j (E ++ [q]) = picks f g r j E ++ if f q = j then [r (g q)] else [] := by
  unfold picks
  rw [List.filter_append, List.map_append]
  congr 1
  rw [List.filter_cons]
  by_cases c : f q = j
  · rw [if_pos (decide_eq_true c), if_pos c]; rfl
  · rw [if_neg (by simpa using c), if_neg c]; rfl
theorem picks_len (f g : Int × Int → Int) (r : Rw) (j : Int) (E : Prs) : (picks f g r j E).length ≤ E.length := by
  unfold picks
  rw [List.length_map]
  exact List.length_filter_le _ _
theorem pairV_row {n : Nat} {zs : Prs} (hE : In n zs) (r : Rw) : pairV zs (rowL n r) (rowL n r) = frm zs n r := by
  unfold pairV frm
  have e1 : List.zipWith (fun a b => a * b) (rowL n r) (rowL n r) = (rng n).map fun p => r p * r p := by
    unfold rowL
    rw [List.zipWith_map]
    generalize rng n = l
    induction l with
    | nil => rfl
    | cons a l ih => rw [List.zipWith_cons_cons, ih, List.map_cons]
  have e2 : (zs.map fun q => rowF (rowL n r) q.1 * rowF (rowL n r) q.2) = zs.map fun q => r q.1 * r q.2 := List.map_congr_left fun q m => by
    obtain ⟨h1, h2⟩ := hE q.1 q.2 m
    rw [rowF_rowL h1, rowF_rowL h2]
  rw [e1, e2]
section
variable {P : Program} {w : World} {K : PySem.W.Frag} {mg : Str → Option Value} {base : Heap} {CN : Addr}
theorem ok_around {f : Addr} {fd : FuncData} (F : Fun K "around" "around" sAround f fd) (T : NetT K mg CN) (mSum : mg "sum" = none) : FnOk P w K mg base CX0 1 f fd ["net", "place", "row"] (spAround K CN) := by
  refine F.ok scAround (fun vs H Q E h => ?_) (fun cdv A outer s H vs Q E hr h => ?_)
  · obtain ⟨x, a, j, n, zs, L, rfl, _⟩ := h
    rfl
  · obtain ⟨x, a, pl, n, zs, L, rfl, hN, hE, hz, hA, hL, k⟩ := h
    have nd := scAround.nd
    refine ⟨_, pss_cons (ps_set (i := 3) nd rfl (by first | exact Or.inl rfl | exact Or.inr rfl) (pe_callB (show CallR _ _ (rSum K) from cr_sum (by rfl)) (by rfl) mSum (by decide +kernel) (pa_cons
          (pe_lc (own := [("tail", 4), ("head", 5)]) (g := gTup K 2 (gCons (gName 4) (gCons (gName 5) gNil))) (by rfl) nd (pi_seq (pe_fld (pv 0) rfl)) (blkOk_by (own := [("tail", 4), ("head", 5)]) (N := N26) (sc := defScope sAround) (by decide +kernel))
            (fun _ _ _ _ _ => pg_tup (by rfl) (pgs_cons (pg_name (i := 4) nd rfl (by first | exact Or.inl rfl | exact Or.inr rfl)) (pgs_cons (pg_name (i := 5) nd rfl (by first | exact Or.inl rfl | exact Or.inr rfl)) pgs_nil))) (fun _ _ _ _ _ => pts_one (pt_cmpR op_eq (pv 5) (pv 1) (nomark _)))
            (fun _ _ _ _ _ => pe_ix (show IxR _ (rIx K) from ix_seq) (pv 2) (pv 4) (fun _ _ => rfl))) pa_nil)))
      (pss_one (ps_ret (pe_op op_add (pv 3) (pe_callB (show CallR _ _ (rSum K) from cr_sum (by rfl)) (by rfl) mSum (by decide +kernel) (pa_cons
          (pe_lc (own := [("tail", 4), ("head", 5)]) (g := gTup K 2 (gCons (gName 4) (gCons (gName 5) gNil))) (by rfl) nd (pi_seq (pe_fld (pv 0) rfl)) (blkOk_by (own := [("tail", 4), ("head", 5)]) (N := N26) (sc := defScope sAround) (by decide +kernel))
            (fun _ _ _ _ _ => pg_tup (by rfl) (pgs_cons (pg_name (i := 4) nd rfl (by first | exact Or.inl rfl | exact Or.inr rfl)) (pgs_cons (pg_name (i := 5) nd rfl (by first | exact Or.inl rfl | exact Or.inr rfl)) pgs_nil))) (fun _ _ _ _ _ => pts_one (pt_cmpR op_eq (pv 4) (pv 1) (nomark _)))
            (fun _ _ _ _ _ => pe_ix (show IxR _ (rIx K) from ix_seq) (pv 2) (pv 5) (fun _ _ => rfl))) pa_nil))))), ?_⟩
    obtain ⟨dx, t, us, e, et, p, rfl⟩ := id hN
    have hul : us.length ≤ 12 := by unfold nums at hz; rw [List.length_map] at hz; exact hz
    have hln : (rf us).length = (nums us).length := by unfold rf nums; rw [List.length_map, List.length_map]
    have tk : ∀ {j : Nat} {z : Addr × Int × Int}, us[j]? = some z → (nums us).take (j + 1) = (nums us).take j ++ [z.2] := fun h => by rw [List.take_add_one, nums_get h]; rfl
    have tl : ∀ j, ((nums us).take j).length ≤ 12 := fun j => by rw [List.length_take]; unfold nums; rw [List.length_map]; omega
    refine ⟨_, rfl, x, CN, dx, _, _, rfl, e, T.cl, T.nA, rfl, t, rf us, rfl, .inr (SqT.of et), fun J hJ D nD => ?_⟩
    refine lc_seq hJ (fun i Hd => Hd D = some (.lst ((picks Prod.snd Prod.fst (rowF L) pl ((nums us).take i)).map V.int)) ∧ Same H Hd) ⟨upd_same, same_upd nD⟩ (fun i Hd _ hh => .of hh.2) ?_ ?_
    · rintro j y Hd hj ⟨eD, sd⟩
      obtain ⟨⟨z, z1, z2⟩, hz2, rfl⟩ := rf_inv hj
      obtain ⟨i1, i2⟩ := hE z1 z2 (List.mem_of_getElem? (nums_get hz2))
      obtain ⟨g1, g2⟩ := rowF_get (L := L) (p := z1) (by rw [hL]; exact i1)
      refine ⟨z, [.int z1, .int z2], rfl, sqt_same sd (p _ (List.mem_of_getElem? hz2)), rfl, .int z1, [.int z2], rfl, .int z2, [], rfl, rfl, rfl, ?_⟩
      refine ⟨_, rfl, _, rfl, rfl, _, rfl, ?_⟩
      rw [tk hz2, picks_app]
      by_cases c : z2 = pl
      · refine iteTb (decide_eq_true (by rw [c])) ?_
        refine ⟨_, rfl, _, rfl, ?_⟩
        rw [show z1 = ((z1.toNat : Nat) : Int) by have := i1.1; omega]
        refine ix_at (hA.same sd) (v := .int (rowF L z1)) (by rw [List.getElem?_map, List.getElem?_eq_getElem g1, g2]; rfl) ?_
        refine ⟨_, eD, small_2000 (by rw [List.length_map]; have := picks_len Prod.snd Prod.fst (rowF L) pl ((nums us).take j); have := tl j; omega), ?_, same_put sd nD⟩
        rw [upd_same, if_pos c, List.map_append, show ((z1.toNat : Nat) : Int) = z1 by have := i1.1; omega]
        rfl
      · refine iteFb (decide_eq_false (fun q => c (V.int.inj q))) ?_
        rw [if_neg c, List.append_nil]
        exact ⟨eD, sd⟩
    rintro Hd ⟨eD, sd⟩
    rw [hln, List.take_length] at eD
    refine ⟨D, _, rfl, SqL.of eD, ?_⟩
    refine ⟨_, rfl, _, rfl, x, CN, dx, _, _, rfl, sd _ _ e, T.cl, T.nA, rfl, t, rf us, rfl, .inr (SqT.of (sd _ _ et)), fun J2 hJ2 D2 nD2 => ?_⟩
    refine lc_seq hJ2 (fun i He => He D2 = some (.lst ((picks Prod.fst Prod.snd (rowF L) pl ((nums us).take i)).map V.int)) ∧ Same Hd He) ⟨upd_same, same_upd nD2⟩ (fun i He _ hh => .of hh.2) ?_ ?_
    · rintro j y He hj ⟨eD2, se⟩
      obtain ⟨⟨z, z1, z2⟩, hz2, rfl⟩ := rf_inv hj
      obtain ⟨i1, i2⟩ := hE z1 z2 (List.mem_of_getElem? (nums_get hz2))
      obtain ⟨g1, g2⟩ := rowF_get (L := L) (p := z2) (by rw [hL]; exact i2)
      refine ⟨z, [.int z1, .int z2], rfl, sqt_same (sd.trans se) (p _ (List.mem_of_getElem? hz2)), rfl, .int z1, [.int z2], rfl, .int z2, [], rfl, rfl, rfl, ?_⟩
      refine ⟨_, rfl, _, rfl, rfl, _, rfl, ?_⟩
      rw [tk hz2, picks_app]
      by_cases c : z1 = pl
      · refine iteTb (decide_eq_true (by rw [c])) ?_
        refine ⟨_, rfl, _, rfl, ?_⟩
        rw [show z2 = ((z2.toNat : Nat) : Int) by have := i2.1; omega]
        refine ix_at (hA.same (sd.trans se)) (v := .int (rowF L z2)) (by rw [List.getElem?_map, List.getElem?_eq_getElem g1, g2]; rfl) ?_
        refine ⟨_, eD2, small_2000 (by rw [List.length_map]; have := picks_len Prod.fst Prod.snd (rowF L) pl ((nums us).take j); have := tl j; omega), ?_, same_put se nD2⟩
        rw [upd_same, if_pos c, List.map_append, show ((z2.toNat : Nat) : Int) = z2 by have := i2.1; omega]
        rfl
      · refine iteFb (decide_eq_false (fun q => c (V.int.inj q))) ?_
        rw [if_neg c, List.append_nil]
        exact ⟨eD2, se⟩
    rintro He ⟨eD2, se⟩
    rw [hln, List.take_length] at eD2
    refine ⟨D2, _, rfl, SqL.of eD2, _, _, rfl, rfl, ?_⟩
    have := k He (sd.trans se)
    rw [← picks_sum] at this
    exact this
end
end K03


set_option Elab.async false
set_option maxRecDepth 100000
set_option maxHeartbeats 4000000
set_option linter.all false
namespace K03
open PySem PySem.Spec PyProof.Rows L2 NetM
section
variable {P : Program} {w : World} {K : PySem.W.Frag} {mg : Str → Option Value} {base : Heap} {CN : Addr}
theorem ok_wildr {f fV fA : Addr} {fd dV dA : FuncData} (F : Fun K "_wild_row" "_wild_row" sWild f fd) (T : NetT K mg CN) (GV : FnOk P w K mg base CX0 1 fV dV ["net", "one", "other"] (spPairV K CN)) (bV : L2.Binds K dV ["net", "one", "other"] []) (gV : mg "pair_value" = some (.ref fV)) (kV : PySem.W.keepIn K (.ref fV) = true)
    (GA : FnOk P w K mg base CX0 1 fA dA ["net", "place", "row"] (spAround K CN)) (bA : L2.Binds K dA ["net", "place", "row"] []) (gA : mg "around" = some (.ref fA)) (kA : PySem.W.keepIn K (.ref fA) = true) (mTup : mg "tuple" = none) (mRa : mg "range" = none) : FnOk P w K mg base CX0 2 f fd ["net"] (spWildR K CN) := by
  refine F.ok scWild (fun vs H Q E h => ?_) (fun cdv A outer s H vs Q E hr h => ?_)
  · obtain ⟨x, n, zs, k0, rfl, _⟩ := h
    rfl
  · obtain ⟨x, n, zs, k0, rfl, hN, hE, hz, hn, W, k⟩ := h
    have nd := scWild.nd
    refine ⟨_, pss_cons (ps_set (i := 1) nd rfl (by first | exact Or.inl rfl | exact Or.inr rfl) (pe_callTy (show CallR _ _ (fun xs H Q => ∃ p ys, xs = [.ref p] ∧ ((SqL K H p ys ∧ ∀ l, H l = none → Q (.ref l) (upd H l (.tup ys))) ∨ (SqT K H p ys ∧ Q (.ref p) H))) from call_tuple_of) (by rfl) mTup (by decide +kernel) (pa_cons (pe_op op_rep (pe_lst (pa_cons pe_int pa_nil)) (pe_fld (pv 0) rfl)) pa_nil)))
      (pss_cons (ps_while PassesOwn.never (pt_cmpR op_ge (pe_call GV hr (by rfl) gV kV bV .nil pass0 (pa_cons (pv 0) (pa_cons (pv 1) (pa_cons (pv 1) pa_nil)))) pe_int (nomark _))
        (pss_one (ps_set (i := 1) nd rfl (by first | exact Or.inl rfl | exact Or.inr rfl) (pe_callTy (show CallR _ _ (fun xs H Q => ∃ p ys, xs = [.ref p] ∧ ((SqL K H p ys ∧ ∀ l, H l = none → Q (.ref l) (upd H l (.tup ys))) ∨ (SqT K H p ys ∧ Q (.ref p) H))) from call_tuple_of) (by rfl) mTup (by decide +kernel) (pa_cons
          (pe_lc (own := [("place", 2)]) (g := gName 2) (by rfl) nd (pi_range1 (by rfl) mRa (pa_cons (pe_fld (pv 0) rfl) pa_nil)) (blkOk_by (own := [("place", 2)]) (N := ["net", "row", "place"]) (sc := defScope sWild) (by decide +kernel)) (fun _ _ _ _ _ => pg_name (i := 2) nd rfl (by first | exact Or.inl rfl | exact Or.inr rfl)) (fun _ _ _ _ _ => pts_nil)
            (fun _ _ _ _ _ => pe_op op_add (pe_ix (show IxR _ (rIx K) from ix_seq) (pv 1) (pv 2) (fun _ _ => rfl)) (pe_call GA hr (by rfl) gA kA bA .nil pass0 (pa_cons (pv 0) (pa_cons (pv 2) (pa_cons (pv 1) pa_nil)))))) pa_nil)))))
      (pss_one (ps_ret (pv 1)))), ?_⟩
    obtain ⟨dx, t, us, e, et, p, _⟩ := id hN
    refine ⟨by show 1 ≤ sizeLine; decide, fun q0 nq0 => ?_⟩
    have s1 := same_upd (o := .lst [.int 1]) nq0
    refine ⟨_, rfl, x, CN, dx, _, _, rfl, s1 _ _ e, T.cl, T.nP, rfl, ?_⟩
    refine ⟨q0, (n : Int), [.int 1], rfl, rfl, upd_same, by omega, by omega, by rw [Int.toNat_natCast]; exact Nat.le_of_lt (small_2000 (by show 1 * _ ≤ 2000; omega)), fun q1 nq1 => ?_⟩
    refine ⟨q1, _, rfl, .inl ⟨SqL.of upd_same, fun T0 nT0 => ?_⟩⟩
    have s3 := (s1.trans (same_upd (o := .lst (List.replicate (n : Int).toNat [V.int 1]).flatten) nq1)).trans (same_upd (o := .tup (List.replicate (n : Int).toNat [V.int 1]).flatten) nT0)
    have e3 : (upd (upd (upd H q0 (.lst [.int 1])) q1 (.lst (List.replicate (n : Int).toNat [V.int 1]).flatten)) T0 (.tup (List.replicate (n : Int).toNat [V.int 1]).flatten)) T0 = some (.tup ((rowL n (itR zs 0)).map V.int)) := by
      rw [upd_same, Int.toNat_natCast, rep1]
      show _ = some (HO.tup ((rowL n fun _ => 1).map V.int))
      rw [← ones_rowL]
      unfold ones
      rw [List.map_replicate]
    generalize upd (upd (upd H q0 (.lst [.int 1])) q1 (.lst (List.replicate (n : Int).toNat [V.int 1]).flatten)) T0 (.tup (List.replicate (n : Int).toNat [V.int 1]).flatten) = H3 at s3 e3
    refine ⟨fun m σ Hx => ∃ j, j ≤ k0 ∧ m = k0 - j ∧ ∃ Tj : Addr, σ = [some (.ref x), some (.ref Tj), none] ∧ Hx Tj = some (.tup ((rowL n (itR zs j)).map V.int)) ∧ Same H Hx, ⟨k0, 0, Nat.zero_le _, rfl, T0, rfl, e3, s3⟩, ?_⟩
    rintro m σ Hx ⟨j, hj, rfl, Tj, rfl, eT, sx⟩
    have hbd : ∀ i ∈ rowL n (itR zs j), -(2 ^ 64) < i ∧ i < 2 ^ 64 := fun i mi => by
      obtain ⟨q, mq, rfl⟩ := List.mem_map.mp mi
      have h1 := W.sm j hj q (mem_rng.mp mq)
      have h2 := itR_pos zs j q
      have h3 : (2 : Int) ^ 40 < 2 ^ 64 := by decide
      constructor
      · have h4 : -(2 ^ 64 : Int) < 0 := by decide
        omega
      · omega
    refine ⟨_, rfl, _, rfl, _, rfl, x, Tj, Tj, n, zs, _, _, rfl, hN.same sx, hE, hz, hn, .inr (SqT.of eT), .inr (SqT.of eT), rowL_len .., rowL_len .., hbd, fun H4 s4 => ?_⟩
    rw [pairV_row hE]
    have s04 := sx.trans s4
    refine ⟨_, _, rfl, rfl, _, rfl, ?_⟩
    by_cases c : 0 ≤ frm zs n (itR zs j)
    · have hjk : j < k0 := by
        rcases Nat.lt_or_ge j k0 with d | d
        · exact d
        · have := W.lo
          rw [show k0 = j by omega] at this
          omega
      refine iteTb (decide_eq_true (by omega)) ?_
      refine ⟨fun σ' H' => ∃ Tj : Addr, σ' = [some (.ref x), some (.ref Tj), none] ∧ H' Tj = some (.tup ((rowL n (itR zs (j + 1))).map V.int)) ∧ Same H H', fun σ' H' ⟨T1, h1, h2, h3⟩ => ⟨k0 - (j + 1), by omega, j + 1, hjk, rfl, T1, h1, h2, h3⟩, ?_⟩
      refine ⟨_, rfl, x, CN, dx, _, _, rfl, s04 _ _ e, T.cl, T.nP, rfl, n, rfl, by omega, by omega, fun D nD => ?_⟩
      rw [Int.toNat_natCast]
      refine lc_range (lo := 0) (n := n) (fun i Hd => Hd D = some (.lst (((rowL n (itR zs (j + 1))).take i).map V.int)) ∧ Same H4 Hd) ⟨upd_same, same_upd nD⟩ ?_ ?_
      · rintro i Hd hi ⟨eD, sd⟩
        refine ⟨rfl, ?_⟩
        dsimp only [tYes]
        refine iteT ?_
        refine ⟨_, rfl, _, rfl, ?_⟩
        rw [Int.zero_add]
        have eTd := sd _ _ (s4 _ _ eT)
        refine ix_at (.inr (SqT.of eTd)) (v := .int (itR zs j i)) (by rw [List.getElem?_map, rowL_get hi]; rfl) ?_
        refine ⟨_, rfl, _, rfl, _, rfl, x, Tj, (i : Int), n, zs, rowL n (itR zs j), rfl, hN.same (s04.trans sd), hE, hz, .inr (SqT.of eTd), rowL_len .., fun He se => ?_⟩
        have en : nearS zs (rowF (rowL n (itR zs j))) i = nearS zs (itR zs j) i := near_congr hE (fun p hp => rowF_rowL hp) _
        rw [en]
        refine ⟨_, _, rfl, rfl, _, se _ _ eD, small_2000 (by rw [List.length_map, List.length_take]; omega), ?_, same_put (sd.trans se) nD⟩
        rw [upd_same, List.take_add_one, rowL_get hi, List.map_append]
        rfl
      · rintro Hd ⟨eD, sd⟩
        rw [List.take_of_length_le (by rw [rowL_len]; exact Nat.le_refl _)] at eD
        refine ⟨D, _, rfl, .inl ⟨SqL.of eD, fun T1 nT1 => ?_⟩⟩
        exact ⟨T1, rfl, upd_same, (s04.trans sd).trans (same_upd nT1)⟩
    · refine iteFb (decide_eq_false (by omega)) ?_
      have hjk : j = k0 := by
        rcases Nat.lt_or_ge j k0 with d | d
        · exact absurd (W.up j d) c
        · omega
      subst hjk
      exact ⟨_, rfl, k Tj H4 s04 (s4 _ _ eT)⟩
end
end K03


set_option Elab.async false
set_option maxRecDepth 100000
set_option maxHeartbeats 4000000
set_option linter.all false
namespace K03
open PySem PySem.Spec PyProof.Rows L2 NetM
section
variable {X : Cx}
theorem cr_maxT (hc : X.calm = true) (hu : X.A.units + 100 < cLine) : CallR X (.builtin "max") (fun vs H Q => ∃ (a : Addr) (n : Int) (ns : List Int), vs = [.ref a] ∧ SqT X.K H a ((n :: ns).map V.int) ∧ Q (.int (ns.foldl max n)) H) := by
  intro pins s σ H vs us Q I r h
  obtain ⟨a, n, ns, rfl, hs, q⟩ := h
  obtain ⟨its, rv, hl, _⟩ := I.tuple hs
  rw [Vals.ref1 r]
  have hr : ReadsAll s.heap its.toArray.toList ((n :: ns).map PyData.int) [] := by
    rw [List.toList_toArray]
    exact ints_readAll s.heap rv.ints
  have hd := dep_ints (n :: ns)
  refine PySem.W.max_tuple_data (x := .int n) (xs := ns.map PyData.int) (I.ok.hd hc) hl hr ⟨fun x mx y my => ?_, fun x mx => ?_⟩ (by
    show X.A.units + 1 + PyData.depthAll ((n :: ns).map PyData.int) < _
    omega) fun i v h' tk bs hi rd hk => ?_
  · obtain ⟨i, _, rfl⟩ := List.mem_map.mp (show x ∈ (n :: ns).map PyData.int from mx)
    obtain ⟨j, _, rfl⟩ := List.mem_map.mp (show y ∈ (n :: ns).map PyData.int from my)
    rfl
  · obtain ⟨i, _, rfl⟩ := List.mem_map.mp (show x ∈ (n :: ns).map PyData.int from mx)
    intro z; cases z
  · rw [PySem.W.maxD_ints] at rd
    cases rd with
    | int i t => exact ⟨.int _, H, I.kept (t' := tk) hk, ⟨t, rfl⟩, q⟩
end
end K03


set_option Elab.async false
set_option maxRecDepth 100000
set_option maxHeartbeats 4000000
set_option linter.all false
namespace K03
open PySem PySem.Spec PyProof.Rows L2 NetM
abbrev sShape : Stmt := top 31
theorem scShape : FnScope ["net", "row"] ["net"] (defScope sShape) := ⟨rfl, rfl, rfl, by decide +kernel, rfl, by decide +kernel, by decide +kernel⟩
def wordS : Nat → Str
  | 0 => "line"
  | 1 => "fork"
  | _ => "arms"
structure GoodC (K : PySem.W.Frag) (mg : Str → Option Value) where
  aG : Addr
  g : mg "GOOD_SHAPES" = some (.ref aG)
  s : ∀ H : Hp, SqT K H aG [.str "line", .str "fork", .str "arms"]
/-- what a net's shape is -/
structure ShpQ (H : Hp) (n : Nat) (zs : Prs) (Q : VK) : Prop where
  wild : SetR zs n none → ∃ k0, Wl zs n k0 ∧ ∀ T R H', Same H H' → H' T = some (.tup [.str "wild", .ref R]) → H' R = some (.tup ((rowL n (itR zs k0)).map V.int)) → Q (.ref T) H'
  rnd : ∀ L, SetR zs n (some L) → frm zs n (rowF L) = 0 → ∀ T R H', Same H H' → H' T = some (.tup [.str "round", .ref R]) → H' R = some (.tup (L.map V.int)) → Q (.ref T) H'
  good : ∀ L, SetR zs n (some L) → frm zs n (rowF L) ≠ 0 → ∀ m : Nat, m < 3 → min (maxL L) 3 - 1 = (m : Int) → ∀ T H', Same H H' → H' T = some (.tup [.str (wordS m), .int n]) → Q (.ref T) H'
/-- a net whose shape may be asked -/
structure NetG (K : PySem.W.Frag) (CN : Addr) (H : Hp) (a : Addr) (n : Nat) (zs : Prs) : Prop where
  at_ : NetAt K CN H a n zs
  inn : In n zs
  len : zs.length ≤ 12
  n8 : n ≤ 8
  n0 : 0 < n
  nl : ∀ x y, (x, y) ∈ zs → x ≠ y
def spShape (K : PySem.W.Frag) (CN CB : Addr) : Sp := fun vs H Q E => ∃ x : V, vs = [x] ∧ ((NoNet K CN H x ∧ Rz CB H E .non) ∨ ∃ (a : Addr) (n : Nat) (zs : Prs), x = .ref a ∧ NetG K CN H a n zs ∧ ShpQ H n zs Q)
theorem row_id {L : List Int} {n : Nat} (h : L.length = n) : rowL n (rowF L) = L := by
  unfold rowL rng
  rw [List.map_map]
  refine List.ext_getElem (by rw [List.length_map, List.length_range, h]) fun k h1 h2 => ?_
  rw [List.getElem_map, List.getElem_range]
  show rowF L k = _
  rw [rowF_nat, List.getD_eq_getElem?_getD, List.getElem?_eq_getElem h2]
  rfl
section
variable {P : Program} {w : World} {K : PySem.W.Frag} {mg : Str → Option Value} {base : Heap} {CN CB : Addr}
theorem ok_shape {f fS fW fV : Addr} {fd dS dW dV : FuncData} (F : Fun K "shape" "shape" sShape f fd) (C : ChkF P w K mg base CN CB) (T : NetT K mg CN) (G : GoodC K mg)
    (GS : FnOk P w K mg base CX0 2 fS dS ["net"] (spSettled K CN)) (bS : L2.Binds K dS ["net"] []) (gS : mg "settled_row" = some (.ref fS)) (kS : PySem.W.keepIn K (.ref fS) = true)
    (GW : FnOk P w K mg base CX0 2 fW dW ["net"] (spWildR K CN)) (bW : L2.Binds K dW ["net"] []) (gW : mg "_wild_row" = some (.ref fW)) (kW : PySem.W.keepIn K (.ref fW) = true)
    (GV : FnOk P w K mg base CX0 1 fV dV ["net", "one", "other"] (spPairV K CN)) (bV : L2.Binds K dV ["net", "one", "other"] []) (gV : mg "pair_value" = some (.ref fV)) (kV : PySem.W.keepIn K (.ref fV) = true) (mMin : mg "min" = none) (mMax : mg "max" = none) : FnOk P w K mg base (L2.CX P w) 5 f fd ["net"] (spShape K CN CB) := by
  refine F.okX scShape (fun vs H Q E h => ?_) (fun cdv A outer s H vs Q E hr h => ?_)
  · obtain ⟨x, rfl, _⟩ := h
    rfl
  · obtain ⟨x, rfl, h⟩ := h
    have nd := scShape.nd
    have r1 : Room 1 _ := hr.mono (by decide)
    have r2 : Room 2 _ := hr.mono (by decide)
    have hu := hr.un
    refine ⟨_, pss_cons (ps_expr (pe_call C.ok hr (by rfl) C.g C.kp C.b .nil (passes_call (takes_of rfl rfl rfl rfl) fun _ _ _ _ h => h) (pa_cons (pv 0) pa_nil)))
      (pss_cons (ps_set (i := 1) nd rfl (by first | exact Or.inl rfl | exact Or.inr rfl) (pe_call GS r2 (by rfl) gS kS bS .nil pass0 (pa_cons (pv 0) pa_nil)))
      (pss_cons (ps_if (pt_cmpR op_isN (pv 1) pe_non (nomark _)) (pss_one (ps_ret (pe_tup (pa_cons pe_str (pa_cons (pe_call GW r2 (by rfl) gW kW bW .nil pass0 (pa_cons (pv 0) pa_nil)) pa_nil))))) pss_nil)
      (pss_cons (ps_if (pt_cmpR op_eq (pe_call GV r1 (by rfl) gV kV bV .nil pass0 (pa_cons (pv 0) (pa_cons (pv 1) (pa_cons (pv 1) pa_nil)))) pe_int (nomark _)) (pss_one (ps_ret (pe_tup (pa_cons pe_str (pa_cons (pv 1) pa_nil))))) pss_nil)
      (pss_one (ps_ret (pe_tup (pa_cons (pe_ix ix_tup (pe_glob (v := .ref G.aG) (by rfl) G.g rfl) (pe_op op_sub (pe_callB (call_min2 rfl) (by rfl) mMin (by decide +kernel) (pa_cons (pe_callB (show CallR _ _ (fun vs H Q => ∃ (a : Addr) (n : Int) (ns : List Int), vs = [.ref a] ∧ SqT K H a ((n :: ns).map V.int) ∧ Q (.int (ns.foldl max n)) H) from cr_maxT (by rfl) (by have := hu; show (A.deeper _).units + 100 < cLine; omega)) (by rfl) mMax (by decide +kernel) (pa_cons (pv 1) pa_nil)) (pa_cons pe_int pa_nil))) pe_int) (fun _ _ => rfl)) (pa_cons (pe_fld (pv 0) rfl) pa_nil)))))))), ?_⟩
    rcases h with ⟨h, hR⟩ | ⟨a, n, zs, rfl, N, q⟩
    · exact ⟨_, rfl, _, rfl, .inl ⟨h, hR⟩⟩
    refine ⟨_, rfl, _, rfl, .inr ⟨a, n, zs, rfl, N.at_, ?_⟩⟩
    refine ⟨_, rfl, a, n, zs, rfl, N.at_, N.inn, N.len, N.n8, N.n0, N.nl, fun hS H1 s1 => ?_, fun L hS Tq H1 s1 e1 => ?_⟩
    · refine ⟨_, rfl, rfl, _, rfl, ?_⟩
      refine iteT ?_
      obtain ⟨k0, W, k⟩ := q.wild hS
      refine ⟨_, rfl, a, n, zs, k0, rfl, N.at_.same s1, N.inn, N.len, N.n8, W, fun R H2 s2 eR => ?_⟩
      refine ⟨by show 2 ≤ sizeLine; decide, fun T2 nT2 => ?_⟩
      exact k T2 R _ ((s1.trans s2).trans (same_upd nT2)) upd_same (same_upd nT2 _ _ eR)
    · refine ⟨_, rfl, rfl, _, rfl, ?_⟩
      refine iteF ?_
      obtain ⟨hL, hLs, hb⟩ := id hS
      have hbd : ∀ i ∈ L, -(2 ^ 64) < i ∧ i < 2 ^ 64 := fun i m => by
        have h1 := hb i m
        have h3 : (6 : Int) < 2 ^ 64 := by decide
        have h4 : -(2 ^ 64 : Int) < 0 := by decide
        omega
      refine ⟨_, rfl, _, rfl, _, rfl, a, Tq, Tq, n, zs, L, L, rfl, N.at_.same s1, N.inn, N.len, N.n8, .inr (SqT.of e1), .inr (SqT.of e1), hL, hL, hbd, fun H2 s2 => ?_⟩
      have ep : pairV zs L L = frm zs n (rowF L) := by
        have := pairV_row N.inn (rowF L)
        rw [row_id hL] at this
        exact this
      rw [ep]
      have e2 := s2 _ _ e1
      refine ⟨rfl, _, rfl, ?_⟩
      by_cases c : frm zs n (rowF L) = 0
      · refine iteTb (decide_eq_true (by rw [c])) ?_
        refine ⟨_, rfl, by show 2 ≤ sizeLine; decide, fun T2 nT2 => ?_⟩
        exact q.rnd L hS c T2 Tq _ ((s1.trans s2).trans (same_upd nT2)) upd_same (same_upd nT2 _ _ e2)
      · refine iteFb (decide_eq_false (fun z => c (V.int.inj z))) ?_
        obtain ⟨v, vs, rfl⟩ : ∃ v vs, L = v :: vs := by
          cases L with
          | nil => have := N.n0; rw [← hL] at this; exact absurd this (Nat.lt_irrefl 0)
          | cons v vs => exact ⟨v, vs, rfl⟩
        have hv := hb v (List.mem_cons_self ..)
        have em : vs.foldl max v = maxL (v :: vs) := by
          unfold maxL
          rw [List.foldl_cons, show max 0 v = v by omega]
        have hge : 1 ≤ vs.foldl max v := by
          have : ∀ (l : List Int) (a : Int), a ≤ l.foldl max a := by
            intro l
            induction l with
            | nil => intro a; exact Int.le_refl _
            | cons b l ih => intro a; rw [List.foldl_cons]; exact Int.le_trans (by omega) (ih _)
          have := this vs v
          omega
        obtain ⟨m, hm⟩ : ∃ m : Nat, min (vs.foldl max v) 3 - 1 = (m : Int) := ⟨(min (vs.foldl max v) 3 - 1).toNat, by omega⟩
        have hm3 : m < 3 := by omega
        refine ⟨_, rfl, Tq, v, vs, rfl, SqT.of e2, _, _, rfl, _, _, rfl, rfl, ?_⟩
        have hi : (if (3 : Int) < vs.foldl max v then (3 : Int) else vs.foldl max v) - 1 = (m : Int) := by
          split <;> omega
        refine ⟨G.aG, _, (m : Int), .str (wordS m), rfl, congrArg V.int hi, G.s _, ?_, ?_⟩
        · match m, hm3 with
          | 0, _ => rfl
          | 1, _ => rfl
          | 2, _ => rfl
        obtain ⟨dx, t, us, eN, _⟩ := N.at_.same (s1.trans s2)
        refine ⟨_, rfl, a, CN, dx, _, _, rfl, eN, T.cl, T.nP, rfl, by show 2 ≤ sizeLine; decide, fun T2 nT2 => ?_⟩
        exact q.good (v :: vs) hS c m hm3 (by rw [← em]; exact hm) T2 _ ((s1.trans s2).trans (same_upd nT2)) upd_same
end
end K03


set_option Elab.async false
set_option maxRecDepth 100000
set_option maxHeartbeats 4000000
set_option linter.all false
namespace K03
open PySem PySem.Spec PyProof.Rows L2 NetM
abbrev sLPair : Stmt := top 45
abbrev N40 : List Str := ["net", "one", "other", "found", "here", "there", "tail", "head"]
theorem scLPair : FnScope N40 ["net", "one", "other"] (defScope sLPair) := ⟨rfl, rfl, rfl, by decide +kernel, rfl, by decide +kernel, by decide +kernel⟩
def netL (n : Nat) (ps : Addr) : List (Key × V) := [(Sum.inr "many", V.int n), (Sum.inr "pairs", V.ref ps)]
/-- the law's own net: a dict of how many places and a list of pairs -/
structure LNet (H : Hp) (x ps : Addr) (n : Nat) (us : Zs) : Prop where
  e : H x = some (.dK (netL n ps))
  et : H ps = some (.lst (rf us))
  p : PL H us
theorem LNet.same {H H' : Hp} {x ps : Addr} {n : Nat} {us : Zs} (s : Same H H') (h : LNet H x ps n us) : LNet H' x ps n us := ⟨s _ _ h.e, s _ _ h.et, fun z m => s _ _ (h.p z m)⟩
def spLPair (K : PySem.W.Frag) : Sp := fun vs H Q _ => ∃ (x ps a b : Addr) (n : Nat) (us : Zs) (L M : List Int), vs = [.ref x, .ref a, .ref b] ∧ LNet H x ps n us ∧ In n (nums us) ∧ us.length ≤ 12 ∧ n ≤ 8 ∧ SqA K H a (L.map V.int) ∧ SqA K H b (M.map V.int) ∧ L.length = n ∧ M.length = n ∧ (∀ i ∈ L, -(2 ^ 64) < i ∧ i < 2 ^ 64) ∧
  ∀ H', Same H H' → Q (.int (pairV (nums us) L M)) H'
section
variable {P : Program} {w : World} {K : PySem.W.Frag} {mg : Str → Option Value} {base : Heap}
theorem ok_lawpair {f : Addr} {fd : FuncData} (F : Fun K "_law_pair" "_law_pair" sLPair f fd) (mSum : mg "sum" = none) (mZ : mg "zip" = none) : FnOk P w K mg base CX0 1 f fd ["net", "one", "other"] (spLPair K) := by
  refine F.ok scLPair (fun vs H Q E h => ?_) (fun cdv A outer s H vs Q E hr h => ?_)
  · obtain ⟨x, ps, a, b, n, us, L, M, rfl, _⟩ := h
    rfl
  · obtain ⟨x, ps, a, b, n, us, L, M, rfl, hN, hE, hzl, hn, hA, hB, hL, hM, hb, k⟩ := h
    have nd := scLPair.nd
    have hu := hu_of hr
    refine ⟨_, pss_cons (ps_set (i := 3) nd rfl (by first | exact Or.inl rfl | exact Or.inr rfl) (pe_callB (show CallR _ _ (rSum K) from cr_sum (by rfl)) (by rfl) mSum (by decide +kernel) (pa_cons
          (pe_lc (own := [("here", 4), ("there", 5)]) (g := gTup K 2 (gCons (gName 4) (gCons (gName 5) gNil))) (by rfl) nd (pi_z2 (by rfl) mZ (pa_cons (pv 1) (pa_cons (pv 2) pa_nil))) (blkOk_by (own := [("here", 4), ("there", 5)]) (N := N40) (sc := defScope sLPair) (by decide +kernel))
            (fun _ _ _ _ _ => pg_tup (by rfl) (pgs_cons (pg_name (i := 4) nd rfl (by first | exact Or.inl rfl | exact Or.inr rfl)) (pgs_cons (pg_name (i := 5) nd rfl (by first | exact Or.inl rfl | exact Or.inr rfl)) pgs_nil))) (fun _ _ _ _ _ => pts_nil)
            (fun _ _ _ _ _ => pe_op op_mul (pv 4) (pv 5))) pa_nil)))
      (pss_one (ps_ret (pe_op op_sub (pv 3) (pe_callB (show CallR _ _ (rSum K) from cr_sum (by rfl)) (by rfl) mSum (by decide +kernel) (pa_cons
          (pe_lc (own := [("tail", 6), ("head", 7)]) (g := gTup K 2 (gCons (gName 6) (gCons (gName 7) gNil))) (by rfl) nd (pi_seq (pe_dget hu (pv 0) pe_str (fun _ _ => rfl))) (blkOk_by (own := [("tail", 6), ("head", 7)]) (N := N40) (sc := defScope sLPair) (by decide +kernel))
            (fun _ _ _ _ _ => pg_tup (by rfl) (pgs_cons (pg_name (i := 6) nd rfl (by first | exact Or.inl rfl | exact Or.inr rfl)) (pgs_cons (pg_name (i := 7) nd rfl (by first | exact Or.inl rfl | exact Or.inr rfl)) pgs_nil))) (fun _ _ _ _ _ => pts_nil)
            (fun _ _ _ _ _ => pe_op op_mul (pe_ix (show IxR _ (rIx K) from ix_seq) (pv 1) (pv 6) (fun _ _ => rfl)) (pe_ix (show IxR _ (rIx K) from ix_seq) (pv 2) (pv 7) (fun _ _ => rfl)))) pa_nil))))), ?_⟩
    refine ⟨_, rfl, _, rfl, a, b, L.map V.int, M.map V.int, rfl, hA, hB, fun J hJ D nD => ?_⟩
    refine lc_z2 hJ (by rw [List.length_map, List.length_map, hL, hM]) (fun i Hd => Hd D = some (.lst (((List.zipWith (fun a b => a * b) L M).take i).map V.int)) ∧ Same H Hd) ⟨upd_same, same_upd nD⟩ (fun i Hd _ hh => ⟨.of hh.2, .of hh.2⟩) ?_ ?_
    · rintro i xv yv U Hd hx hy ⟨eD, sd⟩ nU
      obtain ⟨u, hu, rfl⟩ := map_inv hx
      obtain ⟨v, hv, rfl⟩ := map_inv hy
      have hil : i < L.length := (List.getElem?_eq_some_iff.mp hu).1
      have hub := hb u (List.mem_of_getElem? hu)
      have sU : Same Hd (upd Hd U (.tup [.int u, .int v])) := same_upd nU
      refine ⟨U, [.int u, .int v], rfl, .inl (.inl upd_same), rfl, .int u, [.int v], rfl, .int v, [], rfl, rfl, rfl, ?_⟩
      dsimp only [tYes]
      refine iteT ?_
      refine ⟨_, rfl, _, rfl, _, _, rfl, rfl, .inl hub, _, sU _ _ eD, small_2000 (by rw [List.length_map, List.length_take]; omega), ?_, same_put (sd.trans sU) nD⟩
      rw [upd_same, List.take_add_one, List.getElem?_zipWith, hu, hv, List.map_append]
      rfl
    rintro Hd ⟨eD, sd⟩
    rw [List.take_of_length_le (by rw [List.length_zipWith, List.length_map]; omega)] at eD
    refine ⟨D, _, rfl, SqL.of eD, ?_⟩
    obtain ⟨e, et, p⟩ := hN.same sd
    have hul : us.length ≤ 12 := hzl
    refine ⟨_, rfl, _, rfl, x, _, rfl, DGet.k (k := Sum.inr "pairs") e, ps, rf us, rfl, .inl (SqL.of et), fun J2 hJ2 D2 nD2 => ?_⟩
    refine lc_seq hJ2 (fun i He => He D2 = some (.lst ((((nums us).map fun q => rowF L q.1 * rowF M q.2).take i).map V.int)) ∧ Same Hd He) ⟨upd_same, same_upd nD2⟩ (fun i He _ hh => .of hh.2) ?_ ?_
    · rintro j y He hj ⟨eD2, se⟩
      obtain ⟨⟨z, z1, z2⟩, hz, rfl⟩ := rf_inv hj
      have hil : j < us.length := (List.getElem?_eq_some_iff.mp hz).1
      obtain ⟨i1, i2⟩ := hE z1 z2 (List.mem_of_getElem? (nums_get hz))
      obtain ⟨g1, g2⟩ := rowF_get (L := L) (p := z1) (by rw [hL]; exact i1)
      obtain ⟨g3, g4⟩ := rowF_get (L := M) (p := z2) (by rw [hM]; exact i2)
      refine ⟨z, [.int z1, .int z2], rfl, SqT.of (se _ _ (p _ (List.mem_of_getElem? hz))), rfl, .int z1, [.int z2], rfl, .int z2, [], rfl, rfl, rfl, ?_⟩
      dsimp only [tYes]
      refine iteT ?_
      refine ⟨_, rfl, _, rfl, ?_⟩
      rw [show z1 = ((z1.toNat : Nat) : Int) by have := i1.1; omega, show z2 = ((z2.toNat : Nat) : Int) by have := i2.1; omega]
      refine ix_at ((hA.same (sd.trans se))) (v := .int (rowF L z1)) (by rw [List.getElem?_map, List.getElem?_eq_getElem g1, g2]; rfl) ?_
      refine ⟨_, rfl, _, rfl, ?_⟩
      refine ix_at ((hB.same (sd.trans se))) (v := .int (rowF M z2)) (by rw [List.getElem?_map, List.getElem?_eq_getElem g3, g4]; rfl) ?_
      refine ⟨_, _, rfl, rfl, .inl (by rw [← g2]; exact hb _ (List.getElem_mem g1)), _, eD2, small_2000 (by rw [List.length_map, List.length_take, List.length_map]; omega), ?_, same_put se nD2⟩
      rw [upd_same, List.take_add_one, List.getElem?_map, nums_get hz, List.map_append]
      rfl
    · rintro He ⟨eD2, se⟩
      have hln : (rf us).length = (nums us).length := by unfold rf nums; rw [List.length_map, List.length_map]
      rw [hln, List.take_of_length_le (by rw [List.length_map]; exact Nat.le_refl _)] at eD2
      exact ⟨D2, _, rfl, SqL.of eD2, _, _, rfl, rfl, k He (sd.trans se)⟩
end
end K03


set_option Elab.async false
set_option maxRecDepth 100000
set_option maxHeartbeats 4000000
set_option linter.all false
namespace K03
open PySem PySem.Spec PyProof.Rows L2 NetM
abbrev sLean : Stmt := top 46
abbrev N41 : List Str := ["net", "row", "place", "found", "tail", "head"]
theorem scLean : FnScope N41 ["net", "row", "place"] (defScope sLean) := ⟨rfl, rfl, rfl, by decide +kernel, rfl, by decide +kernel, by decide +kernel⟩
def spLean (K : PySem.W.Frag) : Sp := fun vs H Q _ => ∃ (x ps a : Addr) (n : Nat) (us : Zs) (L : List Int) (j : Nat), vs = [.ref x, .ref a, .int j] ∧ LNet H x ps n us ∧ In n (nums us) ∧ us.length ≤ 12 ∧ SqA K H a (L.map V.int) ∧ L.length = n ∧ j < n ∧ ∀ H', Same H H' → Q (.int (2 * rowF L j - nearS (nums us) (rowF L) j)) H'
section
variable {P : Program} {w : World} {K : PySem.W.Frag} {mg : Str → Option Value} {base : Heap}
theorem ok_lean {f : Addr} {fd : FuncData} (F : Fun K "_law_lean" "_law_lean" sLean f fd) : FnOk P w K mg base CX0 1 f fd ["net", "row", "place"] (spLean K) := by
  refine F.ok scLean (fun vs H Q E h => ?_) (fun cdv A outer s H vs Q E hr h => ?_)
  · obtain ⟨x, ps, a, n, us, L, j, rfl, _⟩ := h
    rfl
  · obtain ⟨x, ps, a, n, us, L, pl, rfl, hN, hE, hul, hA, hL, hpl, k⟩ := h
    have nd := scLean.nd
    have hu := hu_of hr
    refine ⟨_, pss_cons (ps_set (i := 3) nd rfl (by first | exact Or.inl rfl | exact Or.inr rfl) (pe_op op_mul pe_int (pe_ix (show IxR _ (rIx K) from ix_seq) (pv 1) (pv 2) (fun _ _ => rfl))))
      (pss_cons (ps_for PassesOwn.never rfl (pi_seq (pe_dget hu (pv 0) pe_str (fun _ _ => rfl))) (pg_tup (by rfl) (pgs_cons (pg_name (i := 4) nd rfl (by first | exact Or.inl rfl | exact Or.inr rfl)) (pgs_cons (pg_name (i := 5) nd rfl (by first | exact Or.inl rfl | exact Or.inr rfl)) pgs_nil)))
        (pss_one (ps_set (i := 3) nd rfl (by first | exact Or.inl rfl | exact Or.inr rfl) (pe_op op_sub (pe_op op_sub (pv 3) (pe_ifExp (pt_cmpR op_eq (pv 4) (pv 2) (nomark _)) (pe_ix (show IxR _ (rIx K) from ix_seq) (pv 1) (pv 5) (fun _ _ => rfl)) pe_int)) (pe_ifExp (pt_cmpR op_eq (pv 5) (pv 2) (nomark _)) (pe_ix (show IxR _ (rIx K) from ix_seq) (pv 1) (pv 4) (fun _ _ => rfl)) pe_int)))))
      (pss_one (ps_ret (pv 3)))), ?_⟩
    obtain ⟨e, et, p⟩ := hN
    have hgp : (L.map V.int)[pl]? = some (.int (rowF L pl)) := by
      rw [List.getElem?_map, List.getElem?_eq_getElem (by omega), rowF_nat, List.getD_eq_getElem?_getD, List.getElem?_eq_getElem (by omega)]
      rfl
    refine ⟨_, rfl, _, rfl, ix_at hA hgp ?_⟩
    refine ⟨2, rowF L pl, rfl, rfl, .inl ⟨by decide, by decide⟩, ?_⟩
    refine ⟨_, rfl, x, _, rfl, DGet.k (k := Sum.inr "pairs") e, ps, rf us, rfl, .inl (SqL.of et), fun J hJ => ?_⟩
    refine for_seq hJ (fun i σ Hx => ∃ (v4 v5 : Option V), σ = [some (.ref x), some (.ref a), some (.int pl), some (.int (2 * rowF L pl - nearS ((nums us).take i) (rowF L) pl)), v4, v5] ∧ Same H Hx) ⟨none, none, (by show _ = [_, _, _, some (V.int (2 * rowF L pl - 0)), _, _]; rw [Int.sub_zero]; rfl), Same.refl _⟩ (fun i σ Hx _ hh => by obtain ⟨_, _, _, s⟩ := hh; exact .of s) ?_ ?_
    · rintro j y σ Hx hj ⟨v4, v5, rfl, sx⟩
      obtain ⟨⟨z, z1, z2⟩, hz, rfl⟩ := rf_inv hj
      obtain ⟨i1, i2⟩ := hE z1 z2 (List.mem_of_getElem? (nums_get hz))
      have htk : (nums us).take (j + 1) = (nums us).take j ++ [(z1, z2)] := by rw [List.take_add_one, nums_get hz]; rfl
      obtain ⟨a1, rfl⟩ : ∃ k : Nat, z1 = k := ⟨z1.toNat, by have := i1.1; omega⟩
      obtain ⟨a2, rfl⟩ : ∃ k : Nat, z2 = k := ⟨z2.toNat, by have := i2.1; omega⟩
      have g1 : (L.map V.int)[a1]? = some (.int (rowF L a1)) := by
        have := i1.2
        rw [List.getElem?_map, List.getElem?_eq_getElem (by omega), rowF_nat, List.getD_eq_getElem?_getD, List.getElem?_eq_getElem (by omega)]
        rfl
      have g2 : (L.map V.int)[a2]? = some (.int (rowF L a2)) := by
        have := i2.2
        rw [List.getElem?_map, List.getElem?_eq_getElem (by omega), rowF_nat, List.getD_eq_getElem?_getD, List.getElem?_eq_getElem (by omega)]
        rfl
      have hA' := hA.same sx
      refine ⟨z, [.int a1, .int a2], rfl, SqT.of (sx _ _ (p _ (List.mem_of_getElem? hz))), rfl, .int a1, [.int a2], rfl, .int a2, [], rfl, rfl, ?_⟩
      refine ⟨_, rfl, _, rfl, _, rfl, rfl, _, rfl, ?_⟩
      have fin : ∀ (s t : Int), s = (if (a1 : Int) = (pl : Int) then rowF L a2 else 0) → t = (if (a2 : Int) = (pl : Int) then rowF L a1 else 0) → 2 * rowF L pl - nearS ((nums us).take j) (rowF L) pl - s - t = 2 * rowF L pl - nearS ((nums us).take (j + 1)) (rowF L) pl := fun s t h1 h2 => by
        rw [htk, nearS_app, nearS_cons, nearS_nil, h1, h2]
        dsimp only
        omega
      by_cases c : (a1 : Int) = (pl : Int)
      · refine iteTb (decide_eq_true (by rw [c])) ?_
        refine ⟨_, rfl, _, rfl, ix_at hA' g2 ?_⟩
        refine ⟨_, _, rfl, rfl, _, rfl, _, rfl, rfl, _, rfl, ?_⟩
        by_cases d : (a2 : Int) = (pl : Int)
        · refine iteTb (decide_eq_true (by rw [d])) ?_
          refine ⟨_, rfl, _, rfl, ix_at hA' g1 ?_⟩
          refine ⟨_, _, rfl, rfl, some (.int a1), some (.int a2), ?_, sx⟩
          rw [← fin (rowF L a2) (rowF L a1) (if_pos c).symm (if_pos d).symm]
          rfl
        · refine iteFb (decide_eq_false (fun z => d (V.int.inj z))) ?_
          refine ⟨_, _, rfl, rfl, some (.int a1), some (.int a2), ?_, sx⟩
          rw [← fin (rowF L a2) 0 (if_pos c).symm (if_neg d).symm]
          rfl
      · refine iteFb (decide_eq_false (fun z => c (V.int.inj z))) ?_
        refine ⟨_, _, rfl, rfl, _, rfl, _, rfl, rfl, _, rfl, ?_⟩
        by_cases d : (a2 : Int) = (pl : Int)
        · refine iteTb (decide_eq_true (by rw [d])) ?_
          refine ⟨_, rfl, _, rfl, ix_at hA' g1 ?_⟩
          refine ⟨_, _, rfl, rfl, some (.int a1), some (.int a2), ?_, sx⟩
          rw [← fin 0 (rowF L a1) (if_neg c).symm (if_pos d).symm]
          rfl
        · refine iteFb (decide_eq_false (fun z => d (V.int.inj z))) ?_
          refine ⟨_, _, rfl, rfl, some (.int a1), some (.int a2), ?_, sx⟩
          rw [← fin 0 0 (if_neg c).symm (if_neg d).symm]
          rfl
    · rintro σ Hx ⟨v4, v5, rfl, sx⟩
      have hln : (rf us).length = (nums us).length := by unfold rf nums; rw [List.length_map, List.length_map]
      rw [hln, List.take_length]
      exact ⟨_, rfl, k Hx sx⟩
end
end K03


set_option Elab.async false
set_option maxRecDepth 100000
set_option maxHeartbeats 4000000
set_option linter.all false
namespace K03
open PySem PySem.Spec PyProof.Rows L2 NetM
abbrev sMade : Stmt := top 48
theorem scMade : FnScope ["net"] ["net"] (defScope sMade) := ⟨rfl, rfl, rfl, by decide +kernel, rfl, by decide +kernel, by decide +kernel⟩
/-- the Net of the law's own net -/
def spMade (K : PySem.W.Frag) (CN : Addr) : Sp := fun vs H Q _ => ∃ (x ps : Addr) (n : Nat) (us : Zs), vs = [.ref x] ∧ LNet H x ps n us ∧ In n (nums us) ∧ us.length ≤ 12 ∧ n ≤ 8 ∧ 0 < n ∧ (∀ a b, (a, b) ∈ nums us → a ≠ b) ∧ GoodN (nums us) n ∧ ∀ y H', NetG K CN H' y n (nums us) → Same H H' → Q (.ref y) H'
section
variable {P : Program} {w : World} {K : PySem.W.Frag} {mg : Str → Option Value} {base : Heap} {CN CB : Addr}
theorem ok_made {f : Addr} {fd : FuncData} (F : Fun K "_law_made_net" "_law_made_net" sMade f fd) (T : NetT K mg CN) (M : MkN P w K mg base CN CB) : FnOk P w K mg base CX0 6 f fd ["net"] (spMade K CN) := by
  refine F.ok scMade (fun vs H Q E h => ?_) (fun cdv A outer s H vs Q E hr h => ?_)
  · obtain ⟨x, ps, n, us, rfl, _⟩ := h
    rfl
  · obtain ⟨x, ps, n, us, rfl, hN, hE, hul, hn, n0, nl, hG, k⟩ := h
    have nd := scMade.nd
    have hu := hu_of hr
    refine ⟨_, pss_one (ps_ret (pe_make M.m M.ok hr (by rfl) T.g M.b .nil (passes_call L2.takes0 fun _ _ _ _ h => h) (pa_cons (pe_dget hu (pv 0) pe_str (fun _ _ => rfl)) (pa_cons (pe_dget hu (pv 0) pe_str (fun _ _ => rfl)) pa_nil)))), ?_⟩
    refine ⟨_, rfl, x, _, rfl, DGet.k (k := Sum.inr "many") hN.e, _, rfl, x, _, rfl, DGet.k (k := Sum.inr "pairs") hN.e, ?_⟩
    refine fun y dy ny ndy ne => MakeN.sp (K := K) (CN := CN) (CB := CB) (.inr ⟨n, some us, rfl, n0, hn, .ok (.inl (SqL.of hN.et)) hN.p.prt.pra hul (fun t h m => ⟨(hE t h m).1, (hE t h m).2, nl t h m⟩), fun z => absurd (show Good us n from hG) (z us rfl), fun zs' e' g x' H' nx hN' s' => ?_⟩) y dy ny ndy ne
    cases e'
    refine k x' H' ⟨hN', hE, ?_, hn, n0, nl⟩ s'
    unfold nums
    rw [List.length_map]
    exact hul
end
end K03


set_option Elab.async false
set_option maxRecDepth 100000
set_option maxHeartbeats 4000000
set_option linter.all false
namespace K03
open PySem PySem.Spec PyProof.Rows L2
/-- a list of numbers, in another order, new -/
def spShufI (K : PySem.W.Frag) : Sp := fun vs H Q _ => ∃ (d lg cl a : Addr) (zs : List Int), vs = [.ref d, .ref a] ∧ DrawAt H d lg cl ∧ SqL K H a (zs.map V.int) ∧ zs.length < 1000 ∧
  ∀ (ys : List Int) (p : Addr) (H' : Hp), ys.Perm zs → DrawAt H' d lg cl → Kept d lg H H' → H p = none → H' p = some (.lst (ys.map V.int)) → Q (.ref p) H'
section
variable {P : Program} {w : World} {K : PySem.W.Frag} {mg : Str → Option Value} {base : Heap}
theorem ok_shufi {f fT : Addr} {fd fdT : FuncData} (F : Fun K "_law_shuffled" "_law_shuffled" sShuf f fd) (GT : FnOk P w K mg base CX0 2 fT fdT ["draw", "amount"] spTake) (FT : Fun K "_law_take" "_law_take" sTake fT fdT) (bT : L2.Binds K fdT ["draw", "amount"] []) (gT : mg "_law_take" = some (.ref fT))
    (mLen : mg "len" = none) (mList : mg "list" = none) : FnOk P w K mg base CX0 3 f fd ["draw", "some"] (spShufI K) := by
  refine F.ok scShuf (fun vs H Q E h => ?_) (fun cdv A outer s H vs Q E hr h => ?_)
  · obtain ⟨d, lg, cl, a, zs, rfl, _⟩ := h
    rfl
  · obtain ⟨d, lg, cl, a, zs, rfl, D, ha, hl, k⟩ := h
    have nd := scShuf.nd
    refine ⟨_, pss_cons (ps_par (i := 2) (j := 3) (by rfl) nd rfl rfl (by decide) rfl rfl (pa_cons (pe_callTy call_list_of (by rfl) mList (by decide +kernel) (pa_cons (pv 1) pa_nil)) (pa_cons (pe_lst pa_nil) pa_nil)) (by rfl))
      (pss_cons (ps_while PassesOwn.never (pt_cmpR (op_neD hr.units) (pv 2) (pe_lst pa_nil) (nomark _))
        (pss_one (ps_expr (pe_bm PySem.F.plainAttrs_list PySem.F.slot_list_append PySem.F.type_list_append mt_append (pv 3)
          (pa_cons (pe_bm PySem.F.plainAttrs_list PySem.F.slot_list_pop PySem.F.type_list_pop mt_popAt (pv 2) (pa_cons (pe_call GT hr rfl gT FT.kp bT .nil pass0 (pa_cons (pv 0) (pa_cons (pe_callB call_len_seq (by rfl) mLen PySem.boot_len (pa_cons (pv 2) pa_nil)) pa_nil))) pa_nil)) pa_nil)))))
      (pss_one (ps_ret (pv 3)))), ?_⟩
    refine ⟨_, rfl, a, _, rfl, .inl ha, fun l nl => ⟨Nat.zero_le _, fun fo nf => ?_⟩⟩
    refine ⟨_, _, rfl, ?_⟩
    have hd0 : H d ≠ none := by obtain ⟨⟨r, t, e⟩, _⟩ := id D; rw [e]; simp
    have hlg0 : H lg ≠ none := by obtain ⟨_, ⟨L, _, e⟩, _⟩ := id D; rw [e]; simp
    have hcl0 : H cl ≠ none := by obtain ⟨_, _, ⟨M, _, e⟩, _⟩ := id D; rw [e]; simp
    have nef : fo ≠ l := fun z => by rw [z, upd_same] at nf; cases nf
    have nf0 : H fo = none := by rw [upd_ne nef] at nf; exact nf
    have new : ∀ {p : Addr}, H p = none → p ≠ d ∧ p ≠ lg ∧ p ≠ cl := fun {p} z => ⟨fun e => hd0 (by rw [← e]; exact z), fun e => hlg0 (by rw [← e]; exact z), fun e => hcl0 (by rw [← e]; exact z)⟩
    obtain ⟨ld, llg, lcl⟩ := new nl
    obtain ⟨fd', flg, fcl⟩ := new nf0
    have Dput : ∀ {Hx : Hp} {p : Addr} {o : HO}, p ≠ d → p ≠ lg → p ≠ cl → DrawAt Hx d lg cl → DrawAt (upd Hx p o) d lg cl := fun {Hx p o} a b c D => by
      obtain ⟨⟨r, t, hd⟩, ⟨L, hL, hl⟩, ⟨M, hM, hc⟩, ncl⟩ := D
      exact ⟨⟨r, t, by rw [upd_ne a.symm]; exact hd⟩, ⟨L, hL, by rw [upd_ne b.symm]; exact hl⟩, ⟨M, hM, by rw [upd_ne c.symm]; exact hc⟩, ncl⟩
    have Kput : ∀ {Hx : Hp} {p : Addr} {o : HO}, H p = none → Kept d lg H Hx → Kept d lg H (upd Hx p o) := fun {Hx p o} z k b x e h1 h2 => by
      rw [upd_ne (ne_of_none e z)]
      exact k b x e h1 h2
    refine ⟨fun m σ Hx => ∃ zl zf : List Int, σ = [some (.ref d), some (.ref a), some (.ref l), some (.ref fo)] ∧ m = zl.length ∧ DrawAt Hx d lg cl ∧ Hx l = some (.lst (zl.map V.int)) ∧ Hx fo = some (.lst (zf.map V.int)) ∧ (zf ++ zl).Perm zs ∧ Kept d lg H Hx,
      ⟨_, zs, [], rfl, rfl, Dput fd' flg fcl (Dput ld llg lcl D), by rw [upd_ne nef.symm, upd_same], upd_same, List.Perm.refl _, Kput nf0 (Kput nl Kept.refl)⟩, ?_⟩
    rintro m σ Hx ⟨zl, zf, rfl, rfl, Dx, el, ef, pm, kx⟩
    have hlen : zf.length + zl.length = zs.length := by rw [← List.length_append]; exact pm.length_eq
    refine ⟨_, rfl, Nat.zero_le _, fun e ne => ?_⟩
    have se : Same Hx (upd Hx e (.lst [])) := same_upd ne
    have eE : (upd Hx e (.lst [])) e = some (.lst []) := upd_same
    have De : DrawAt (upd Hx e (.lst [])) d lg cl := by
      obtain ⟨⟨r, t, hd⟩, ⟨L, hL, hl⟩, ⟨M, hM, hc⟩, ncl⟩ := Dx
      exact ⟨⟨r, t, se _ _ hd⟩, ⟨L, hL, se _ _ hl⟩, ⟨M, hM, se _ _ hc⟩, ncl⟩
    have ke : Kept d lg H (upd Hx e (.lst [])) := fun b o h h1 h2 => se _ _ (kx b o h h1 h2)
    have elE := se _ _ el
    have efE := se _ _ ef
    generalize upd Hx e (.lst []) = He at se eE De ke elE efE
    refine ⟨_, _, dp_ints (SqL.of elE), .lst (SqL.of eE) .nil, shp_ints zl, rfl, _, rfl, ?_⟩
    cases zl with
    | nil =>
      refine iteF ?_
      rw [List.append_nil] at pm
      exact ⟨_, rfl, k zf fo He pm De ke nf0 efE⟩
    | cons z0 zr =>
      refine iteT ?_
      refine ⟨fun σ' H' => ∃ zl zf : List Int, σ' = [some (.ref d), some (.ref a), some (.ref l), some (.ref fo)] ∧ zl.length = zr.length ∧ DrawAt H' d lg cl ∧ H' l = some (.lst (zl.map V.int)) ∧ H' fo = some (.lst (zf.map V.int)) ∧ (zf ++ zl).Perm zs ∧ Kept d lg H H', fun σ' H' hN => ?_, ?_⟩
      · obtain ⟨zl', zf', e1, e2, rest⟩ := hN
        exact ⟨_, by rw [List.length_cons]; exact Nat.lt_succ_self _, zl', zf', e1, e2.symm, rest⟩
      · have hl2 : ((z0 :: zr).map V.int).length = zr.length + 1 := by rw [List.length_map, List.length_cons]
        refine ⟨_, rfl, .inl ⟨rfl, _, SqL.of efE⟩, _, rfl, .inl ⟨rfl, _, SqL.of elE⟩, _, rfl, _, rfl, l, _, rfl, .inl (SqL.of elE), d, lg, cl, _, rfl, De, by rw [hl2]; omega, by rw [hl2]; rw [List.length_cons] at hlen; omega, fun z H2 z1 z2 D2 k2 => ?_⟩
        obtain ⟨j, rfl⟩ := Int.eq_ofNat_of_zero_le z1
        have hj : j < (z0 :: zr).length := by rw [hl2] at z2; rw [List.length_cons]; omega
        have ej : (z0 :: zr)[j]? = some ((z0 :: zr)[j]) := List.getElem?_eq_getElem hj
        generalize (z0 :: zr)[j] = zj at ej
        have el2 := k2 _ _ elE ld llg
        have ef2 := k2 _ _ efE fd' flg
        have hs : seqIndex? (j : Int) ((z0 :: zr).map V.int).length = some j := by
          rw [hl2]
          rw [List.length_cons] at hj
          simp [seqIndex?]
          omega
        refine ⟨l, _, _, j, _, rfl, rfl, el2, by omega, by rw [hl2] at z2; rw [List.length_cons] at hlen; omega, hs, (by rw [List.getElem?_map, ej]; rfl), ?_⟩
        have ef3 : (upd H2 l (.lst (((z0 :: zr).map V.int).eraseIdx j))) fo = some (.lst (zf.map V.int)) := by rw [upd_ne nef]; exact ef2
        have hf2 : (zf.map V.int).length < sizeLine := small1000 (by rw [List.length_map]; omega)
        refine ⟨fo, _, _, rfl, rfl, ef3, hf2, ?_⟩
        have hpm : (zj :: (z0 :: zr).eraseIdx j).Perm (z0 :: zr) := perm_erase ej
        refine ⟨(z0 :: zr).eraseIdx j, zf ++ [zj], rfl, ?_, Dput fd' flg fcl (Dput ld llg lcl D2), ?_, ?_, ?_, Kput nf0 (Kput nl (ke.trans k2))⟩
        · have := hpm.length_eq
          rw [List.length_cons, List.length_cons] at this
          omega
        · rw [upd_ne nef.symm, upd_same, List.eraseIdx_eq_take_drop_succ, List.eraseIdx_eq_take_drop_succ, List.map_append, List.map_take, List.map_drop]
        · rw [upd_same]
          rw [List.map_append]
          rfl
        · refine List.Perm.trans ?_ pm
          rw [List.append_assoc]
          exact List.Perm.append_left zf hpm
end
end K03


set_option Elab.async false
set_option maxRecDepth 100000
set_option maxHeartbeats 4000000
set_option linter.all false
namespace K03
open PySem PySem.Spec PyProof.Rows L2 NetM
abbrev sShPairs : Stmt := top 43
abbrev N38 : List Str := ["draw", "most", "many_here", "pairs_here", "way", "k"]
theorem scShPairs : FnScope N38 ["draw", "most"] (defScope sShPairs) := ⟨rfl, rfl, rfl, by decide +kernel, rfl, by decide +kernel, by decide +kernel⟩
theorem lineP_take (n j : Nat) (h : j < n - 1) : (lineP n).take (j + 1) = (lineP n).take j ++ [((j : Int), (j : Int) + 1)] := by
  unfold lineP
  rw [List.take_add_one, List.getElem?_map, List.getElem?_range h]
  rfl
theorem lineP_len (n : Nat) : (lineP n).length = n - 1 := by unfold lineP; rw [List.length_map, List.length_range]
theorem rf_dropLast (us : Zs) : cutV (rf us) none (some (-1)) = rf us.dropLast := by
  unfold cutV
  rw [HT.sIx_none, List.drop_zero, Nat.sub_zero]
  have hix : HT.sIx (rf us).length (rf us).length (some (-1)) = us.length - 1 := by
    have e : (rf us).length = us.length := by unfold rf; rw [List.length_map]
    rw [e]
    show (if (-1 : Int) < 0 then ((-1 : Int) + (us.length : Int)).toNat else min (-1 : Int).toNat us.length) = _
    rw [if_pos (by decide)]
    omega
  rw [hix, List.dropLast_eq_take]
  unfold rf
  rw [List.map_take]
def spShPairs : Sp := fun vs H Q _ => ∃ (d lg cl : Addr), vs = [.ref d, .int 8] ∧ DrawAt H d lg cl ∧
  ∀ (T D : Addr) (n w : Nat) (us : Zs) (H' : Hp), 0 < n → n ≤ 8 → w < 3 → H' T = some (.tup [.int n, .ref D]) → H' D = some (.lst (rf us)) → D ≠ lg → PL H' us → nums us = goodP n w → DrawAt H' d lg cl → Kept d lg H H' → Q (.ref T) H'
section
variable {P : Program} {w : World} {K : PySem.W.Frag} {mg : Str → Option Value} {base : Heap}
theorem ok_shpairs {f fT : Addr} {fd fdT : FuncData} (F : Fun K "_law_shape_pairs" "_law_shape_pairs" sShPairs f fd) (GT : FnOk P w K mg base CX0 2 fT fdT ["draw", "amount"] spTake) (bT : L2.Binds K fdT ["draw", "amount"] []) (gT : mg "_law_take" = some (.ref fT)) (kT : PySem.W.keepIn K (.ref fT) = true) (mRa : mg "range" = none) : FnOk P w K mg base CX0 3 f fd ["draw", "most"] spShPairs := by
  refine F.ok scShPairs (fun vs H Q E h => ?_) (fun cdv A outer s H vs Q E hr h => ?_)
  · obtain ⟨d, lg, cl, rfl, _⟩ := h
    rfl
  · obtain ⟨d, lg, cl, rfl, DR, k⟩ := h
    have nd := scShPairs.nd
    refine ⟨_, pss_cons (ps_set (i := 2) nd rfl (by first | exact Or.inl rfl | exact Or.inr rfl) (pe_op op_add pe_int (pe_call GT hr (by rfl) gT kT bT .nil pass0 (pa_cons (pv 0) (pa_cons (pv 1) pa_nil)))))
      (pss_cons (ps_par (i := 3) (j := 4) (by rfl) nd rfl rfl (by decide) rfl rfl (pa_cons (pe_lc (own := [("k", 5)]) (g := gName 5) (by rfl) nd (pi_range1 (by rfl) mRa (pa_cons (pe_op op_sub (pv 2) pe_int) pa_nil)) (blkOk_by (own := [("k", 5)]) (N := N38) (sc := defScope sShPairs) (by decide +kernel)) (fun _ _ _ _ _ => pg_name (i := 5) nd rfl (by first | exact Or.inl rfl | exact Or.inr rfl)) (fun _ _ _ _ _ => pts_nil)
          (fun _ _ _ _ _ => pe_tup (pa_cons (pv 5) (pa_cons (pe_op op_add (pv 5) pe_int) pa_nil)))) (pa_cons (pe_call GT hr (by rfl) gT kT bT .nil pass0 (pa_cons (pv 0) (pa_cons pe_int pa_nil))) pa_nil)) (by rfl))
      (pss_cons (ps_if (PW.pt (pw_and (pt_cmpR op_eq (pv 4) pe_int (nomark _)) (pw_and1 (pt_cmpR op_gt (pv 2) pe_int (nomark _))))) (pss_one (ps_set (i := 3) nd rfl (by first | exact Or.inl rfl | exact Or.inr rfl) (pe_op op_cat (pe_slice sl_list (pv 3) po_none (po_some (pe_un un_neg pe_int))) (pe_lst (pa_cons (pe_tup (pa_cons (pe_op op_sub (pv 2) pe_int) (pa_cons (pe_op op_sub (pv 2) pe_int) pa_nil))) pa_nil))))) pss_nil)
      (pss_cons (ps_if (PW.pt (pw_and (pt_cmpR op_eq (pv 4) pe_int (nomark _)) (pw_and1 (pt_cmpR op_gt (pv 2) pe_int (nomark _))))) (pss_one (ps_set (i := 3) nd rfl (by first | exact Or.inl rfl | exact Or.inr rfl) (pe_op op_cat (pe_slice sl_list (pv 3) po_none (po_some (pe_un un_neg pe_int))) (pe_lst (pa_cons (pe_tup (pa_cons pe_int (pa_cons (pe_op op_sub (pv 2) pe_int) pa_nil))) pa_nil))))) pss_nil)
      (pss_one (ps_ret (pe_tup (pa_cons (pv 2) (pa_cons (pv 3) pa_nil)))))))), ?_⟩
    refine ⟨_, rfl, _, rfl, d, lg, cl, 8, rfl, DR, by decide, by decide, fun z H1 z0 z1 D1 k1 => ?_⟩
    obtain ⟨n, hn⟩ : ∃ n : Nat, 1 + z = (n : Int) := ⟨(1 + z).toNat, by omega⟩
    have n0 : 0 < n := by omega
    have n8 : n ≤ 8 := by omega
    have hv : V.int (1 + z) = V.int (n : Int) := congrArg V.int hn
    refine ⟨_, _, rfl, rfl, ?_⟩
    refine ⟨_, rfl, (n : Int), 1, hv, rfl, (n : Int) - 1, rfl, by omega, by omega, fun D nD => ?_⟩
    rw [show ((n : Int) - 1).toNat = n - 1 by omega]
    refine lc_range (lo := 0) (n := n - 1) (fun i Hd => ∃ us : Zs, nums us = (lineP n).take i ∧ PL Hd us ∧ Hd D = some (.lst (rf us)) ∧ Same H1 Hd) ⟨[], rfl, (fun _ m => nomatch m), upd_same, same_upd nD⟩ ?_ ?_
    · rintro i Hd hi ⟨us, hus, pw, eD, sd⟩
      have hul : us.length ≤ i := by
        have := congrArg List.length hus
        unfold nums at this
        rw [List.length_map, List.length_take] at this
        omega
      refine ⟨rfl, ?_⟩
      dsimp only [tYes]
      refine iteT ?_
      refine ⟨_, rfl, _, rfl, _, _, rfl, rfl, by show 2 ≤ sizeLine; decide, fun q nq => ?_⟩
      rw [Int.zero_add]
      refine ⟨_, same_upd nq _ _ eD, small_2000 (by rw [rf_len]; omega), us ++ [(q, (i : Int), (i : Int) + 1)], ?_, ((pw.same (same_upd nq)).app upd_same).put (same_upd nq _ _ eD), by rw [upd_same, rf_app], same_put (sd.trans (same_upd nq)) nD⟩
      rw [lineP_take n i hi, ← hus]
      unfold nums
      rw [List.map_append]
      rfl
    rintro H2 ⟨us, hus, pw, eD, sd⟩
    rw [List.take_of_length_le (by rw [lineP_len]; exact Nat.le_refl _)] at hus
    have hul : us.length = n - 1 := by
      have := congrArg List.length hus
      unfold nums at this
      rw [List.length_map, lineP_len] at this
      exact this
    have D2 := draw_same sd D1
    obtain ⟨nd1, nd2, _⟩ := draw_new D1 nD
    refine ⟨_, rfl, d, lg, cl, 3, rfl, D2, by decide, by decide, fun w1 H3 w0 w2 D3 k3 => ?_⟩
    obtain ⟨wn, rfl⟩ : ∃ m : Nat, w1 = m := ⟨w1.toNat, by omega⟩
    have eD3 := k3 _ _ eD nd1 nd2
    have p3 := pw.kept D2 k3
    have k03 : Kept d lg H H3 := (k1.trans (fun b o h _ _ => sd b o h)).trans k3
    refine ⟨_, _, rfl, ?_⟩
    have fin : ∀ (G : Addr) (vs : Zs) (H4 : Hp) (v5 : Option V), G ≠ lg → nums vs = goodP n wn → PL H4 vs → H4 G = some (.lst (rf vs)) → Same H3 H4 → ∃ x : V, [some (V.ref d), some (V.int 8), some (V.int (1 + z)), some (V.ref G), some (V.int (wn : Int)), v5][2]? = some (some x) ∧ ∃ y : V, [some (V.ref d), some (V.int 8), some (V.int (1 + z)), some (V.ref G), some (V.int (wn : Int)), v5][3]? = some (some y) ∧ [x, y].length ≤ sizeLine ∧ ∀ p, H4 p = none → Q (.ref p) (upd H4 p (.tup [x, y])) := fun G vs H4 v5 gl hvs pv' eG s4 => by
      refine ⟨_, rfl, _, rfl, by show 2 ≤ sizeLine; decide, fun T nT => ?_⟩
      have sT := same_upd (o := .tup [V.int (1 + z), V.ref G]) nT
      exact k T G n wn vs _ n0 n8 (by omega) (by rw [upd_same, hv]) (sT _ _ eG) gl (pv'.same sT) hvs (draw_same (s4.trans sT) D3) (k03.trans (fun b o h _ _ => (s4.trans sT) b o h))

    by_cases c1 : wn = 1
    · subst c1
      refine ⟨_, rfl, rfl, _, rfl, ?_⟩
      refine iteTb (decide_eq_true rfl) ?_
      refine ⟨_, rfl, (n : Int), 3, hv, rfl, _, rfl, ?_⟩
      by_cases c2 : 3 < n
      · refine iteTb (decide_eq_true (by omega)) ?_
        refine ⟨_, rfl, _, rfl, -1, rfl, D, _, rfl, SqL.of eD3, fun S nS => ?_⟩
        rw [rf_dropLast]
        have sS := same_upd (o := .lst (rf us.dropLast)) nS
        have eS : (upd H3 S (.lst (rf us.dropLast))) S = some (.lst (rf us.dropLast)) := upd_same
        generalize upd H3 S (.lst (rf us.dropLast)) = H4 at sS eS
        refine ⟨_, rfl, (n : Int), 3, hv, rfl, _, rfl, (n : Int), 1, hv, rfl, by show 2 ≤ sizeLine; decide, fun T1 nT1 => ?_⟩
        have sT := same_upd (o := .tup [.int ((n : Int) - 3), .int ((n : Int) - 1)]) nT1
        have eT1 : (upd H4 T1 (.tup [.int ((n : Int) - 3), .int ((n : Int) - 1)])) T1 = some (.tup [.int ((n : Int) - 3), .int ((n : Int) - 1)]) := upd_same
        have eS2 := sT _ _ eS
        refine ⟨by show 1 ≤ sizeLine; decide, fun L1 nL1 => ?_⟩
        have sL := same_upd (o := .lst [.ref T1]) nL1
        refine ⟨S, L1, _, _, rfl, rfl, sL _ _ eS2, upd_same, Nat.le_of_lt (small_2000 (by rw [rf_len, List.length_dropLast]; show _ + 1 ≤ 2000; omega)), fun G nG => ?_⟩
        rw [rf_app us.dropLast T1 ((n : Int) - 3) ((n : Int) - 1)]
        have sG := same_upd (o := .lst (rf (us.dropLast ++ [(T1, (n : Int) - 3, (n : Int) - 1)]))) nG
        have s34 := sS.trans (sT.trans (sL.trans sG))
        have pG : PL _ (us.dropLast ++ [(T1, (n : Int) - 3, (n : Int) - 1)]) := PL.app (fun z m => s34 _ _ (p3 z (List.dropLast_subset _ m))) (sG _ _ (sL _ _ eT1))
        have hG : nums (us.dropLast ++ [(T1, (n : Int) - 3, (n : Int) - 1)]) = (lineP n).dropLast ++ [((n : Int) - 3, (n : Int) - 1)] := by
          unfold nums at hus ⊢
          rw [List.map_append, List.map_dropLast, hus]
          rfl
        refine ⟨_, rfl, rfl, _, rfl, ?_⟩
        refine iteFb (decide_eq_false (by simp)) ?_
        refine iteF ?_
        exact fin G _ _ none (draw_new (draw_same (sS.trans (sT.trans sL)) D3) nG).2.1 (by rw [hG]; unfold goodP; rw [if_pos ⟨rfl, c2⟩]) pG upd_same s34
      · refine iteFb (decide_eq_false (by omega)) ?_
        refine ⟨_, rfl, rfl, _, rfl, ?_⟩
        refine iteFb (decide_eq_false (by simp)) ?_
        refine iteF ?_
        exact fin D us H3 none nd2 (by rw [hus]; unfold goodP; rw [if_neg (fun h => c2 h.2), if_neg (fun h => by simp at h)]) p3 eD3 (Same.refl _)
    · refine ⟨_, rfl, rfl, _, rfl, ?_⟩
      refine iteFb (decide_eq_false (fun q => c1 (by have := V.int.inj q; omega))) ?_
      refine iteF ?_
      refine ⟨_, rfl, rfl, _, rfl, ?_⟩
      by_cases c3 : wn = 2
      · subst c3
        refine iteTb (decide_eq_true rfl) ?_
        refine ⟨_, rfl, (n : Int), 5, hv, rfl, _, rfl, ?_⟩
        by_cases c2 : 5 < n
        · refine iteTb (decide_eq_true (by omega)) ?_
          refine ⟨_, rfl, _, rfl, -1, rfl, D, _, rfl, SqL.of eD3, fun S nS => ?_⟩
          rw [rf_dropLast]
          have sS := same_upd (o := .lst (rf us.dropLast)) nS
          have eS : (upd H3 S (.lst (rf us.dropLast))) S = some (.lst (rf us.dropLast)) := upd_same
          generalize upd H3 S (.lst (rf us.dropLast)) = H4 at sS eS
          refine ⟨_, rfl, (n : Int), 1, hv, rfl, by show 2 ≤ sizeLine; decide, fun T1 nT1 => ?_⟩
          have sT := same_upd (o := .tup [.int (2), .int ((n : Int) - 1)]) nT1
          have eT1 : (upd H4 T1 (.tup [.int (2), .int ((n : Int) - 1)])) T1 = some (.tup [.int (2), .int ((n : Int) - 1)]) := upd_same
          have eS2 := sT _ _ eS
          refine ⟨by show 1 ≤ sizeLine; decide, fun L1 nL1 => ?_⟩
          have sL := same_upd (o := .lst [.ref T1]) nL1
          refine ⟨S, L1, _, _, rfl, rfl, sL _ _ eS2, upd_same, Nat.le_of_lt (small_2000 (by rw [rf_len, List.length_dropLast]; show _ + 1 ≤ 2000; omega)), fun G nG => ?_⟩
          rw [rf_app us.dropLast T1 (2) ((n : Int) - 1)]
          have sG := same_upd (o := .lst (rf (us.dropLast ++ [(T1, 2, (n : Int) - 1)]))) nG
          have s34 := sS.trans (sT.trans (sL.trans sG))
          have pG : PL _ (us.dropLast ++ [(T1, 2, (n : Int) - 1)]) := PL.app (fun z m => s34 _ _ (p3 z (List.dropLast_subset _ m))) (sG _ _ (sL _ _ eT1))
          have hG : nums (us.dropLast ++ [(T1, 2, (n : Int) - 1)]) = (lineP n).dropLast ++ [(2, (n : Int) - 1)] := by
            unfold nums at hus ⊢
            rw [List.map_append, List.map_dropLast, hus]
            rfl
          skip
          exact fin G _ _ none (draw_new (draw_same (sS.trans (sT.trans sL)) D3) nG).2.1 (by rw [hG]; unfold goodP; rw [if_neg (fun h => c1 h.1), if_pos ⟨rfl, c2⟩]) pG upd_same s34
        · refine iteFb (decide_eq_false (by omega)) ?_
          exact fin D us H3 none nd2 (by rw [hus]; unfold goodP; rw [if_neg (fun h => c1 h.1), if_neg (fun h => c2 h.2)]) p3 eD3 (Same.refl _)
      · refine iteFb (decide_eq_false (fun q => c3 (by have := V.int.inj q; omega))) ?_
        refine iteF ?_
        exact fin D us H3 none nd2 (by rw [hus]; unfold goodP; rw [if_neg (fun h => c1 h.1), if_neg (fun h => c3 h.1)]) p3 eD3 (Same.refl _)
end
end K03


set_option Elab.async false
set_option maxRecDepth 100000
set_option maxHeartbeats 4000000
set_option linter.all false
/-! a tuple once over is itself; lists of pairs as they stand in the text -/
namespace K03
open PySem PySem.Spec PyProof.Rows L2 NetM
theorem tuple_mul1 (l : Addr) (items : Array Value) (n : Nat) (sl : Array (Option Value)) (dd : Option Addr) (u : Tok) : 
    Meets (Builtin.«tuple.__mul__» ⟨[.ref l, .int 1 u], []⟩) (fun _ R s => s.heap.get? l = some { cls := .type "tuple", dict := dd, data := .seq items n, slots := sl } ∧ R (.ok (.ret (Value.ref l))) s) :=
  .of_wp fun prog w A R s h => by
    obtain ⟨hp, g, d, tk, os⟩ := s
    obtain ⟨hl, h⟩ := h
    have f1 := AutoSeq1.idx_int
    have c0 : (decide ((1 : Int) < -(2 ^ 63)) || decide ((1 : Int) ≥ 2 ^ 63)) = false := by decide
    have c1 : (items.isEmpty || (1 : Int) == 1) = true := by rw [Bool.or_eq_true]; exact .inr rfl
    wp_walk using wpAny_loadPart' hl
    repeat (first
      | (refine wpAny_ite_false (decide_eq_false (by rw [c0]; exact Bool.false_ne_true)) ?_; wp_walk using wpAny_loadPart' hl)
      | (refine wpAny_ite_true (decide_eq_true c1) ?_; wp_walk using wpAny_loadPart' hl))
    exact ⟨_, rfl, h⟩
def rRep1 (K : PySem.W.Frag) : R2 := fun x y H Q => ∃ l xs, x = .ref l ∧ y = .int 1 ∧ SqT K H l xs ∧ Q (.ref l) H
theorem op_rep1 {X : Cx} : OpR X (binaryOp .Mult) (rRep1 X.K) := by
  intro pins s σ H x y v u Q I rx ry h
  obtain ⟨l, xs, rfl, rfl, hT, q⟩ := h
  cases rx
  obtain ⟨t, rfl⟩ := ry
  obtain ⟨its, r, ⟨⟨cls, dd, data, sl⟩, ho, hc, n, hd⟩, hs⟩ := I.tuple hT
  simp only at hc hd
  subst hc hd
  refine wpAny_binaryOp_repeat_ref (T := "tuple") (U := "int") (by decide) ⟨_, ho, rfl⟩ (fun s' => typeIs_int s' 1 t) noFill_tuple_mul F.fills_int_mul F.slot_int_rmul repeat_tuple F.slot_int_index.lookup
    (call_meets F.slot_int_rmul (typeIs_int s 1 t) F.entry_int_rmul (F.args_int_rmul_2 _ _) (int_rmul_tuple 1 t l its.toArray n dd sl)
      ⟨ho, rfl, ⟨_, ho, rfl⟩, call_meets F.slot_tuple_mul ⟨_, ho, rfl⟩ F.entry_tuple_mul (F.args_tuple_mul_2 _ _) (tuple_mul1 l its.toArray n sl dd t) ⟨ho, ?_⟩⟩)
  exact ⟨.ref l, H, I, rfl, q⟩
def rRepA (K : PySem.W.Frag) : R2 := fun x y H Q => rRepT K x y H Q ∨ rRep1 K x y H Q
theorem op_repA {X : Cx} : OpR X (binaryOp .Mult) (rRepA X.K) := by
  intro pins s σ H x y v u Q I rx ry h
  rcases h with h | h
  · exact op_repT pins s σ H x y v u Q I rx ry h
  · exact op_rep1 pins s σ H x y v u Q I rx ry h
/-- (v,) * n, n from 1 on -/
theorem rep_rd {K : PySem.W.Frag} {H : Hp} {l : Addr} {v : V} {n : Nat} {Q : VK} (h : H l = some (.tup [v])) (n1 : 1 ≤ n) (n2 : n ≤ 1000) (q : ∀ p H', H' p = some (.tup (List.replicate n v)) → Same H H' → Q (.ref p) H') : rRepA K (.ref l) (.int n) H Q := by
  by_cases c : n = 1
  · subst c
    exact .inr ⟨l, _, rfl, rfl, SqT.of h, q l H h (Same.refl _)⟩
  · refine .inl ⟨l, (n : Int), _, rfl, rfl, SqT.of h, by simp, by omega, by omega, by show 1 ≤ 1000; decide, fun p np => ?_⟩
    rw [Int.toNat_natCast, rep1]
    exact q p _ upd_same (same_upd np)
theorem rep_rdz {K : PySem.W.Frag} {H : Hp} {l : Addr} {v : V} {n : Nat} {z : Int} {Q : VK} (hz : z = (n : Int)) (h : H l = some (.tup [v])) (n1 : 1 ≤ n) (n2 : n ≤ 1000) (q : ∀ p H', H' p = some (.tup (List.replicate n v)) → Same H H' → Q (.ref p) H') : rRepA K (.ref l) (.int z) H Q := by
  subst hz
  exact rep_rd h n1 n2 q
/-! ### [(a, b), ..] -/
def Val (te : TE) (σ : L2.St) (v : Int) : Prop := ∀ H Q, Q (.int v) H → te σ H Q
theorem Val.c {σ : L2.St} (v : Int) : Val (tC (.int v)) σ v := fun H Q h => h
theorem Val.v {σ : L2.St} {i : Nat} {v : Int} (h : σ[i]? = some (some (.int v))) : Val (tVar i) σ v := fun H Q q => ⟨_, h, q⟩
def litP : List (TE × TE) → TA
  | [] => tNil
  | q :: l => tCons (tTup (tCons q.1 (tCons q.2 tNil))) (litP l)
theorem lit_rd {σ : L2.St} : ∀ (l : List ((TE × TE) × (Int × Int))), (∀ q ∈ l, Val q.1.1 σ q.2.1 ∧ Val q.1.2 σ q.2.2) → ∀ (H : Hp) (Q : List V → Hp → Prop),
    (∀ us H', nums us = l.map (·.2) → PL H' us → Same H H' → Q (rf us) H') → litP (l.map (·.1)) σ H Q
  | [], _, H, Q, h => h [] H rfl (fun z m => by cases m) (Same.refl _)
  | q :: l, hv, H, Q, h => by
    obtain ⟨h1, h2⟩ := hv q (List.mem_cons_self ..)
    refine h1 _ _ (h2 _ _ ⟨by show 2 ≤ sizeLine; decide, fun T nT => ?_⟩)
    refine lit_rd l (fun z m => hv z (List.mem_cons_of_mem _ m)) _ _ fun us H' hn hp hs => ?_
    refine h ((T, q.2) :: us) H' (by unfold nums at hn ⊢; rw [List.map_cons, List.map_cons, hn]) (fun z m => ?_) ((same_upd nT).trans hs)
    rcases List.mem_cons.mp m with rfl | m
    · exact hs _ _ upd_same
    · exact hp z m
theorem lit_c {σ : L2.St} (prs : Prs) (H : Hp) (Q : List V → Hp → Prop) (h : ∀ us H', nums us = prs → PL H' us → Same H H' → Q (rf us) H') : litP (prs.map fun q => (tC (.int q.1), tC (.int q.2))) σ H Q := by
  have := lit_rd (σ := σ) (prs.map fun q => ((tC (.int q.1), tC (.int q.2)), q)) (fun z m => by
    obtain ⟨q, _, rfl⟩ := List.mem_map.mp m
    exact ⟨Val.c _, Val.c _⟩) H Q (fun us H' hn => h us H' (by rw [hn, List.map_map]; exact List.map_id prs))
  rw [List.map_map] at this
  exact this
theorem ret_lit {v : V} {rest : TA} {D : Ends} {σ : L2.St} {H : Hp} (prs : Prs) (hl : prs.length ≤ 2000) (h : ∀ us H' p, nums us = prs → PL H' us → Same H H' → H' p = none → rest σ (upd H' p (.lst (rf us))) fun xs H2 => (v :: .ref p :: xs).length ≤ sizeLine ∧ ∀ q, H2 q = none → D.rt (.ref q) (upd H2 q (.tup (v :: .ref p :: xs)))) :
    tRet (tTup (tCons (tC v) (tCons (tLst (litP (prs.map fun q => (tC (.int q.1), tC (.int q.2))))) rest))) D σ H :=
  lit_c prs _ _ fun us H2 hn p2 s2 => ⟨Nat.le_of_lt (small_2000 (by have := congrArg List.length hn; unfold nums at this; rw [List.length_map] at this; rw [rf_len, this]; exact hl)), fun p np => h us H2 p hn p2 s2 np⟩
theorem asg_lit {g : TG} {tb : TS} {D : Ends} {σ : L2.St} {H : Hp} (prs : Prs) (hl : prs.length ≤ 2000) (h : ∀ us H' p, nums us = prs → PL H' us → Same H H' → H' p = none → g (.ref p) σ (upd H' p (.lst (rf us))) (tb D)) :
    tSeq (tAsg (tLst (litP (prs.map fun q => (tC (.int q.1), tC (.int q.2))))) g) tb D σ H :=
  lit_c prs _ _ fun us H2 hn p2 s2 => ⟨Nat.le_of_lt (small_2000 (by have := congrArg List.length hn; unfold nums at this; rw [List.length_map] at this; rw [rf_len, this]; exact hl)), fun p np => h us H2 p hn p2 s2 np⟩
theorem Val.o {σ : L2.St} {i : Nat} {v b : Int} (h : σ[i]? = some (some (.int v))) (f : Int → Int → Int) {u : Int} (e : f v b = u) : Val (tOp (rI0 fun i j => .int (f i j)) (tVar i) (tC (.int b))) σ u := fun H Q q => ⟨_, h, v, b, rfl, rfl, by show Q (V.int (f v b)) H; rw [e]; exact q⟩
theorem asg_lits {g : TG} {tb : TS} {D : Ends} {σ : L2.St} {H : Hp} (l : List ((TE × TE) × (Int × Int))) (hl : l.length ≤ 2000) (hv : ∀ q ∈ l, Val q.1.1 σ q.2.1 ∧ Val q.1.2 σ q.2.2) (h : ∀ us H' p, nums us = l.map (·.2) → PL H' us → Same H H' → H' p = none → g (.ref p) σ (upd H' p (.lst (rf us))) (tb D)) :
    tSeq (tAsg (tLst (litP (l.map (·.1)))) g) tb D σ H :=
  lit_rd l hv _ _ fun us H2 hn p2 s2 => ⟨Nat.le_of_lt (small_2000 (by have := congrArg List.length hn; unfold nums at this; rw [List.length_map, List.length_map] at this; rw [rf_len, this]; exact hl)), fun p np => h us H2 p hn p2 s2 np⟩
end K03


set_option Elab.async false
set_option maxRecDepth 100000
set_option maxHeartbeats 4000000
set_option linter.all false
/-! the word of a good net, by its branches; names. Pure. -/
namespace K03
open PySem PySem.Spec PyProof.Rows L2 NetM
def dg (E : Prs) (p : Int) : Nat := (nearL E p).length
def lf (E : Prs) (p : Int) : Nat := ((nearL E p).filter fun y => decide (dg E y = 1)).length
theorem dg_near (E : Prs) (p : Int) : (dg E p : Int) = nearS E (fun _ => 1) p := by
  rw [← nearL_sum]
  unfold dg
  induction nearL E p with
  | nil => rfl
  | cons a l ih => rw [List.map_cons, List.sum_cons, ← ih, List.length_cons]; omega
theorem lf_near (E : Prs) (p : Int) : (lf E p : Int) = nearS E (fun y => if dg E y = 1 then 1 else 0) p := by
  rw [← nearL_sum]
  unfold lf
  induction nearL E p with
  | nil => rfl
  | cons a l ih =>
    rw [List.map_cons, List.sum_cons, List.filter_cons]
    by_cases c : dg E a = 1
    · rw [if_pos (decide_eq_true c), if_pos c, List.length_cons]; omega
    · rw [if_neg (by simpa using c), if_neg c]; omega
theorem Ren.dg {n : Nat} {f : Int → Int} {E F : Prs} (R : Ren n f E F) {p : Int} (hp : InR n p) : K03.dg F (f p) = K03.dg E p := by
  have h := R.near (fun _ => 1) hp
  rw [← dg_near, ← dg_near] at h
  omega
theorem Ren.lf {n : Nat} {f : Int → Int} {E F : Prs} (R : Ren n f E F) {p : Int} (hp : InR n p) : K03.lf F (f p) = K03.lf E p := by
  have h := R.near (fun y => if K03.dg F y = 1 then 1 else 0) hp
  rw [← lf_near] at h
  have h2 : nearS E (fun x => if K03.dg F (f x) = 1 then 1 else 0) p = nearS E (fun y => if K03.dg E y = 1 then 1 else 0) p := near_congr R.hE (fun q hq => by rw [Ren.dg R hq]) p
  rw [h2, ← lf_near] at h
  omega
/-- places of three arrows or more -/
def brs (F : Prs) (n : Nat) : List Nat := (List.range n).filter fun j => decide (2 < dg F j)
def wordN (F : Prs) (n : Nat) : Nat := match brs F n with
  | [] => 0
  | j :: _ => if 1 < lf F j then 1 else 2
def wordB (n w : Nat) : Bool := let E := goodP n w
  (List.range n).all (fun j => decide (2 < dg E j → (if 1 < lf E j then 1 else 2) = goodW n w)) && ((brs E n).isEmpty == decide (goodW n w = 0))
theorem word_all : ((List.range 8).all fun n => (List.range 3).all fun w => wordB (n + 1) w) = true := by decide +kernel
theorem word_of {n w : Nat} (h1 : 0 < n) (h2 : n ≤ 8) (h3 : w < 3) {f : Int → Int} {F : Prs} (R : Ren n f (goodP n w) F) : wordN F n = goodW n w := by
  have h := List.all_eq_true.mp (List.all_eq_true.mp word_all (n - 1) (List.mem_range.mpr (by omega))) w (List.mem_range.mpr h3)
  rw [show n - 1 + 1 = n by omega] at h
  unfold wordB at h
  rw [Bool.and_eq_true] at h
  obtain ⟨h4, h5⟩ := h
  have key : ∀ j : Nat, j < n → 2 < dg (goodP n w) j → (if 1 < lf (goodP n w) j then 1 else 2) = goodW n w := fun j hj => of_decide_eq_true (List.all_eq_true.mp h4 j (List.mem_range.mpr hj))
  unfold wordN
  cases e : brs F n with
  | nil =>
    show 0 = goodW n w
    have h6 := eq_of_beq h5
    cases e2 : brs (goodP n w) n with
    | nil =>
      rw [e2] at h6
      exact (of_decide_eq_true h6.symm).symm
    | cons j l =>
      exfalso
      have m : j ∈ brs (goodP n w) n := by rw [e2]; exact List.mem_cons_self ..
      unfold brs at m
      obtain ⟨m1, m2⟩ := List.mem_filter.mp m
      have hj := List.mem_range.mp m1
      have m3 := of_decide_eq_true m2
      rw [← Ren.dg R (inr_nat hj)] at m3
      obtain ⟨k, ek⟩ : ∃ k : Nat, f j = k := ⟨(f j).toNat, by have := (R.b.to _ (inr_nat hj)).1; omega⟩
      have hk : k < n := by have := (R.b.to _ (inr_nat hj)).2; omega
      rw [ek] at m3
      have : k ∈ brs F n := List.mem_filter.mpr ⟨List.mem_range.mpr hk, decide_eq_true m3⟩
      rw [e] at this
      cases this
  | cons j l =>
    show (if 1 < lf F j then 1 else 2) = goodW n w
    have m : j ∈ brs F n := by rw [e]; exact List.mem_cons_self ..
    unfold brs at m
    obtain ⟨m1, m2⟩ := List.mem_filter.mp m
    have hj := List.mem_range.mp m1
    have m3 := of_decide_eq_true m2
    obtain ⟨x, hx, ex⟩ := R.b.sur (inr_nat hj)
    obtain ⟨k, rfl⟩ : ∃ k : Nat, x = k := ⟨x.toNat, by have := hx.1; omega⟩
    rw [← ex, Ren.dg R hx] at m3
    rw [← ex, Ren.lf R hx]
    exact key k (by have := hx.2; omega) m3
theorem wordN_lt (F : Prs) (n : Nat) : wordN F n < 3 := by
  unfold wordN
  split
  · decide
  · split <;> decide
/-! ### names that are drawn -/
theorem bij_of {n : Nat} {ys : List Int} (h : ys.Perm (rng n)) : Bij n (rowF ys) := by
  have hl : ys.length = n := by rw [h.length_eq, rng_len]
  have nd : ys.Nodup := h.nodup_iff.mpr (rng_nodup n)
  have at_ : ∀ x, InR n x → ∃ k : Nat, ∃ hk : k < ys.length, x = k ∧ rowF ys x = ys[k] := fun x hx => by
    have h0 := hx.1
    have h1 := hx.2
    obtain ⟨k, rfl⟩ : ∃ k : Nat, x = k := ⟨x.toNat, by omega⟩
    refine ⟨k, by omega, rfl, ?_⟩
    rw [rowF_nat, List.getD_eq_getElem?_getD, List.getElem?_eq_getElem (by omega)]
    rfl
  refine ⟨fun x hx => ?_, fun x y hx hy e => ?_⟩
  · obtain ⟨k, hk, _, e⟩ := at_ x hx
    rw [e]
    exact mem_rng.mp (h.mem_iff.mp (List.getElem_mem hk))
  · obtain ⟨k, hk, ex, e1⟩ := at_ x hx
    obtain ⟨m, hm, ey, e2⟩ := at_ y hy
    rw [e1, e2] at e
    have := (List.getElem_inj nd).mp e
    omega
theorem rng_range (n : Nat) : rng n = (List.range n).map fun (k : Nat) => (k : Int) := rfl
theorem Flip.trans {E F G : Prs} (h : Flip E F) (k : Flip F G) : Flip E G := by
  induction h generalizing G with
  | nil => exact k
  | same q _ ih =>
    cases k with
    | same _ k => exact .same q (ih k)
    | turn _ k => exact .turn q (ih k)
  | turn q _ ih =>
    cases k with
    | same _ k => exact .turn q (ih k)
    | turn _ k => exact .same q (ih k)
theorem Ren.flip {n : Nat} {f : Int → Int} {E F G : Prs} (R : Ren n f E F) (k : Flip F G) : Ren n f E G := by
  obtain ⟨D, d1, d2⟩ := R.ex
  exact ⟨R.b, R.hE, D, d1, Flip.trans d2 k⟩
theorem Flip.all {E : Prs} : Flip E (E.map fun q => (q.2, q.1)) := by
  induction E with
  | nil => exact .nil
  | cons q E ih => exact .turn q ih
/-- pairs, each kept or turned -/
theorem Flip.pick (c : Nat → Bool) : ∀ (E : Prs) (i : Nat), Flip E (E.mapIdx fun j q => if c (i + j) = true then q else (q.2, q.1))
  | [], i => by rw [List.mapIdx_nil]; exact .nil
  | q :: E, i => by
    rw [List.mapIdx_cons]
    have ih := Flip.pick c E (i + 1)
    have e : (fun (j : Nat) (q : Int × Int) => if c (i + (j + 1)) = true then q else (q.2, q.1)) = fun j q => if c (i + 1 + j) = true then q else (q.2, q.1) := by
      funext j q
      rw [show i + (j + 1) = i + 1 + j by omega]
    show Flip (q :: E) ((if c (i + 0) = true then q else (q.2, q.1)) :: E.mapIdx fun j q => if c (i + (j + 1)) = true then q else (q.2, q.1))
    rw [e]
    by_cases z : c (i + 0) = true
    · rw [if_pos z]; exact .same q ih
    · rw [if_neg z]; exact .turn q ih
theorem Ren.nl {n : Nat} {f : Int → Int} {E F : Prs} (R : Ren n f E F) (h : ∀ a b, (a, b) ∈ E → a ≠ b) : ∀ a b, (a, b) ∈ F → a ≠ b := fun a b m z => by
  obtain ⟨e, me, he⟩ := R.two _ m
  obtain ⟨i1, i2⟩ := R.hE e.1 e.2 me
  rcases he with he | he
  · cases he
    exact h e.1 e.2 me (R.b.inj _ _ i1 i2 z)
  · cases he
    exact h e.1 e.2 me (R.b.inj _ _ i1 i2 z.symm)
theorem Ren.len {n : Nat} {f : Int → Int} {E F : Prs} (R : Ren n f E F) : F.length = E.length := by
  obtain ⟨D, d1, d2⟩ := R.ex
  rw [d2.len, d1.length_eq]
  unfold nam
  rw [List.length_map]
/-- one new row more -/
theorem Rows0.push {H0 : Hp} {D : Addr} {as : List Addr} {Hd : Hp} (R : Rows0 H0 D as (fun _ => []) Hd) {q : Addr} (nq : Hd q = none) : Rows0 H0 D (as ++ [q]) (fun _ => []) (upd (upd Hd q (.lst [])) D (.lst (as.map V.ref ++ [V.ref q]))) := by
  have nqD : q ≠ D := fun z => by rw [z, R.at_] at nq; cases nq
  have nqa : ∀ a ∈ as, q ≠ a := fun a m z => by
    obtain ⟨j, hj, e⟩ := List.getElem_of_mem m
    have := R.row j hj
    rw [e, ← z, nq] at this
    cases this
  have hq0 : H0 q = none := by
    cases c : H0 q with
    | none => rfl
    | some o => rw [R.sm _ _ c] at nq; cases nq
  refine ⟨?_, ?_, ?_, ?_, ?_, ?_⟩
  · rw [upd_same, List.map_append]; rfl
  · intro j hj
    by_cases c : j < as.length
    · rw [List.getElem_append_left c, upd_ne (fun z => R.nD (by rw [← z]; exact List.getElem_mem c)), upd_ne (fun z => nqa _ (List.getElem_mem c) z.symm)]
      exact R.row j c
    · have hj2 : j = as.length := by rw [List.length_append] at hj; have : j < as.length + 1 := hj; omega
      subst hj2
      rw [List.getElem_append_right (Nat.le_refl _)]
      simp only [Nat.sub_self, List.getElem_cons_zero]
      rw [upd_ne nqD, upd_same]
      rfl
  · refine List.nodup_append.mpr ⟨R.nd, by simp, fun a m b mb => ?_⟩
    rw [List.mem_singleton.mp mb]
    exact fun z => nqa a m z.symm
  · intro m
    rcases List.mem_append.mp m with m | m
    · exact R.nD m
    · exact nqD (List.mem_singleton.mp m).symm
  · refine ⟨R.nw.1, fun a m => ?_⟩
    rcases List.mem_append.mp m with m | m
    · exact R.nw.2 a m
    · rw [List.mem_singleton.mp m]; exact hq0
  · exact same_put (R.sm.trans (same_upd nq)) R.nw.1
end K03


set_option Elab.async false
set_option maxRecDepth 100000
set_option maxHeartbeats 4000000
set_option linter.all false
namespace K03
open PySem PySem.Spec PyProof.Rows L2 NetM
abbrev sLNet : Stmt := top 44
abbrev N39 : List Str := ["draw", "most", "many_here", "pairs_here", "names_here", "found", "one", "two", "pair"]
theorem scLNet : FnScope N39 ["draw", "most"] (defScope sLNet) := ⟨rfl, rfl, rfl, by decide +kernel, rfl, by decide +kernel, by decide +kernel⟩
theorem rgV_rng (n : Nat) : rgV 0 (n : Int) = (rng n).map V.int := by
  unfold rgV rng
  rw [Int.sub_zero, Int.toNat_natCast, List.map_map]
  refine List.map_congr_left fun j _ => ?_
  show V.int (0 + (j : Int)) = V.int j
  rw [Int.zero_add]
def spLNet : Sp := fun vs H Q _ => ∃ (d lg cl : Addr), vs = [.ref d, .int 8] ∧ DrawAt H d lg cl ∧
  ∀ (x ps : Addr) (n w : Nat) (us : Zs) (f : Int → Int) (H' : Hp), 0 < n → n ≤ 8 → w < 3 → LNet H' x ps n us → ps ≠ lg → Ren n f (goodP n w) (nums us) → DrawAt H' d lg cl → Kept d lg H H' → Q (.ref x) H'
theorem flip_snoc {E F : Prs} (h : Flip E F) (q : Int × Int) : Flip (E ++ [q]) (F ++ [q]) := h.app (.same q .nil)
theorem flip_turn {E F : Prs} (h : Flip E F) (q : Int × Int) : Flip (E ++ [q]) (F ++ [(q.2, q.1)]) := h.app (.turn q .nil)
theorem nums_app (us : Zs) (z : Addr × Int × Int) : nums (us ++ [z]) = nums us ++ [z.2] := by unfold nums; rw [List.map_append]; rfl
theorem nam_app (f : Int → Int) (E F : Prs) : nam f (E ++ F) = nam f E ++ nam f F := List.map_append
theorem row_at {ys : List Int} {k : Nat} (h : k < ys.length) : (ys.map V.int)[k]? = some (.int (rowF ys k)) := by
  rw [List.getElem?_map, List.getElem?_eq_getElem h, rowF_nat, List.getD_eq_getElem?_getD, List.getElem?_eq_getElem h]
  rfl
section
variable {P : Program} {w : World} {K : PySem.W.Frag} {mg : Str → Option Value} {base : Heap}
theorem ok_lnet {f fT fS fU : Addr} {fd fdT dS dU : FuncData} (F : Fun K "_law_net" "_law_net" sLNet f fd) (GT : FnOk P w K mg base CX0 2 fT fdT ["draw", "amount"] spTake) (bT : L2.Binds K fdT ["draw", "amount"] []) (gT : mg "_law_take" = some (.ref fT)) (kT : PySem.W.keepIn K (.ref fT) = true)
    (GS : FnOk P w K mg base CX0 3 fS dS ["draw", "most"] spShPairs) (bS : L2.Binds K dS ["draw", "most"] []) (gS : mg "_law_shape_pairs" = some (.ref fS)) (kS : PySem.W.keepIn K (.ref fS) = true)
    (GU : FnOk P w K mg base CX0 3 fU dU ["draw", "some"] (spShuf K)) (GI : FnOk P w K mg base CX0 3 fU dU ["draw", "some"] (spShufI K)) (bU : L2.Binds K dU ["draw", "some"] []) (gU : mg "_law_shuffled" = some (.ref fU)) (kU : PySem.W.keepIn K (.ref fU) = true)
    (mRa : mg "range" = none) (mLi : mg "list" = none) : FnOk P w K mg base CX0 4 f fd ["draw", "most"] spLNet := by
  refine F.ok scLNet (fun vs H Q E h => ?_) (fun cdv A outer s H vs Q E hr h => ?_)
  · obtain ⟨d, lg, cl, rfl, _⟩ := h
    rfl
  · obtain ⟨d, lg, cl, rfl, DR, k⟩ := h
    have nd := scLNet.nd
    have r3 : Room 3 _ := hr.mono (by decide)
    have r2 : Room 2 _ := hr.mono (by decide)
    refine ⟨_, pss_cons (ps_asg (pe_call GS r3 (by rfl) gS kS bS .nil pass0 (pa_cons (pv 0) (pa_cons (pv 1) pa_nil))) (pg_tup (by rfl) (pgs_cons (pg_name (i := 2) nd rfl (by first | exact Or.inl rfl | exact Or.inr rfl)) (pgs_cons (pg_name (i := 3) nd rfl (by first | exact Or.inl rfl | exact Or.inr rfl)) pgs_nil))))
      (pss_cons (ps_par (i := 4) (j := 5) (by rfl) nd rfl rfl (by decide) rfl rfl (pa_cons (pe_call GI r3 (by rfl) gU kU bU .nil pass0 (pa_cons (pv 0) (pa_cons (pe_listRg (by rfl) (by rfl) mLi (prg_1 (by rfl) mRa (pv 2))) pa_nil))) (pa_cons (pe_lst pa_nil) pa_nil)) (by rfl))
      (pss_cons (ps_for PassesOwn.never rfl (pi_seq (pe_call GU r3 (by rfl) gU kU bU .nil pass0 (pa_cons (pv 0) (pa_cons (pv 3) pa_nil)))) (pg_tup (by rfl) (pgs_cons (pg_name (i := 6) nd rfl (by first | exact Or.inl rfl | exact Or.inr rfl)) (pgs_cons (pg_name (i := 7) nd rfl (by first | exact Or.inl rfl | exact Or.inr rfl)) pgs_nil)))
        (pss_cons (ps_set (i := 8) nd rfl (by first | exact Or.inl rfl | exact Or.inr rfl) (pe_tup (pa_cons (pe_ix ix_list (pv 4) (pv 6) (fun _ _ => rfl)) (pa_cons (pe_ix ix_list (pv 4) (pv 7) (fun _ _ => rfl)) pa_nil))))
        (pss_one (ps_expr (pe_bm PySem.F.plainAttrs_list PySem.F.slot_list_append PySem.F.type_list_append mt_append (pv 5) (pa_cons (pe_ifExp (pt_cmpR op_eq (pe_call GT r2 (by rfl) gT kT bT .nil pass0 (pa_cons (pv 0) (pa_cons pe_int pa_nil))) pe_int (nomark _)) (pv 8) (pe_revP (pv 8))) pa_nil))))))
      (pss_one (ps_ret (pe_disp (pps_cons pe_str (pv 2) (pps_cons pe_str (pv 5) pps_nil)) (by rfl) (by rfl) (fun z => by cases z) (by decide)))))), ?_⟩
    refine ⟨_, rfl, _, rfl, d, lg, cl, rfl, DR, fun T D n w us H1 n0 n8 w3 eT eD nDl pU hU D1 k1 => ?_⟩
    refine ⟨T, [.int n, .ref D], rfl, SqT.of eT, rfl, .int n, [.ref D], rfl, .ref D, [], rfl, rfl, ?_⟩
    have hfL : (goodP n w).length ≤ 7 := by
      have := (good_of n0 n8 w3).2.2.1
      omega
    obtain ⟨⟨hEg, _⟩, _⟩ := good_of n0 n8 w3
    refine ⟨_, rfl, _, rfl, n, rfl, RgOk.of_le (by omega) (by omega) (by omega) (by omega), fun q nq => ?_⟩
    rw [rgV_rng]
    have sq := same_upd (o := .lst ((rng n).map V.int)) nq
    have eq_ : (upd H1 q (.lst ((rng n).map V.int))) q = some (.lst ((rng n).map V.int)) := upd_same
    have Dq := draw_same sq D1
    have eDq := sq _ _ eD
    have pq := pU.same sq
    have kq : Kept d lg H (upd H1 q (.lst ((rng n).map V.int))) := k1.trans (fun b o h _ _ => sq b o h)
    generalize upd H1 q (.lst ((rng n).map V.int)) = H2 at sq eq_ Dq eDq pq kq
    refine ⟨d, lg, cl, q, rng n, rfl, Dq, SqL.of eq_, by rw [rng_len]; omega, fun ys NA H3 hys D3 k3 nNA eNA => ?_⟩
    have nNl : NA ≠ lg := (draw_new Dq nNA).2.1
    have nNd : NA ≠ d := (draw_new Dq nNA).1
    have eD3 : H3 D = some (.lst (rf us)) := k3 _ _ eDq (fun z => by obtain ⟨⟨r, t, hd⟩, _⟩ := Dq; rw [z, hd] at eDq; cases eDq) nDl
    have p3 := pq.kept Dq k3
    have k03 := kq.trans k3
    refine ⟨by show 0 ≤ sizeLine; decide, fun Fo nF => ⟨_, _, rfl, ?_⟩⟩
    have sF := same_upd (o := .lst []) nF
    have eF : (upd H3 Fo (.lst [])) Fo = some (.lst []) := upd_same
    have D4 := draw_same sF D3
    have eD4 := sF _ _ eD3
    have p4 := p3.same sF
    have eN4 := sF _ _ eNA
    have nF0 : H Fo = none := kept_none k03 (draw_new D3 nF).1 (draw_new D3 nF).2.1 nF
    have nFl : Fo ≠ lg := (draw_new D3 nF).2.1
    have nFd : Fo ≠ d := (draw_new D3 nF).1
    have nFN : Fo ≠ NA := fun z => by rw [z, eNA] at nF; cases nF
    have k04 : Kept d lg H (upd H3 Fo (.lst [])) := k03.trans (fun b o h _ _ => sF b o h)
    generalize upd H3 Fo (.lst []) = H4 at sF eF D4 eD4 p4 eN4 k04
    have hul : us.length ≤ 7 := by
      have := congrArg List.length hU
      unfold nums at this
      rw [List.length_map] at this
      omega
    refine ⟨_, rfl, _, rfl, d, lg, cl, D, us, rfl, D4, SqL.of eD4, p4, by omega, fun us2 A2 H5 hp2 D5 k5 nA2 eA2 => ?_⟩
    have eF5 := k5 _ _ eF nFd nFl
    have eN5 := k5 _ _ eN4 nNd nNl
    have p5 : PL H5 us2 := fun z m => (p4.kept D4 k5) z (hp2.mem_iff.mp m)
    have k05 := k04.trans k5
    have hu2 : (nums us2).Perm (goodP n w) := by
      have := hp2.map (fun z : Addr × Int × Int => z.2)
      unfold nums at hU ⊢
      rw [← hU]
      exact this
    have hE2 : NetM.In n (nums us2) := fun t h m => hEg t h (hu2.mem_iff.mp m)
    have hl2 : us2.length ≤ 7 := by rw [hp2.length_eq]; exact hul
    have bf := bij_of hys
    have hyl : ys.length = n := by rw [hys.length_eq, rng_len]
    refine ⟨A2, rf us2, rfl, .inl (SqL.of eA2), fun J hJ => ?_⟩
    refine for_seq hJ (fun j σ Hx => ∃ (v6 v7 v8 : Option V) (vs : Zs), σ = [some (.ref d), some (.int 8), some (.int n), some (.ref D), some (.ref NA), some (.ref Fo), v6, v7, v8] ∧ Hx Fo = some (.lst (rf vs)) ∧ PL Hx vs ∧ Flip (nam (rowF ys) ((nums us2).take j)) (nums vs) ∧ DrawAt Hx d lg cl ∧ Kept d lg H Hx ∧ Hx A2 = some (.lst (rf us2)) ∧ PL Hx us2 ∧ Hx NA = some (.lst (ys.map V.int)))
      ⟨none, none, none, [], rfl, eF5, (fun z m => by cases m), .nil, D5, k05, eA2, p5, eN5⟩ (fun j σ Hx _ hh => by obtain ⟨_, _, _, _, _, _, _, _, _, _, e, _⟩ := hh; exact stay_lst eA2 e) ?_ ?_
    · rintro j y σ Hx hj ⟨v6, v7, v8, vs, rfl, eFx, pvx, hfx, Dx, kx, eAx, pux, eNx⟩
      obtain ⟨⟨z, z1, z2⟩, hz, rfl⟩ := rf_inv hj
      have mz := List.mem_of_getElem? hz
      have mn : (z1, z2) ∈ nums us2 := List.mem_of_getElem? (nums_get hz)
      obtain ⟨i1, i2⟩ := hE2 z1 z2 mn
      have htk : (nums us2).take (j + 1) = (nums us2).take j ++ [(z1, z2)] := by rw [List.take_add_one, nums_get hz]; rfl
      obtain ⟨a1, rfl⟩ : ∃ k : Nat, z1 = k := ⟨z1.toNat, by have := i1.1; omega⟩
      obtain ⟨a2, rfl⟩ : ∃ k : Nat, z2 = k := ⟨z2.toNat, by have := i2.1; omega⟩
      have h1 : a1 < ys.length := by have := i1.2; omega
      have h2 : a2 < ys.length := by have := i2.2; omega
      refine ⟨z, [.int a1, .int a2], rfl, SqT.of (pux _ mz), rfl, .int a1, [.int a2], rfl, .int a2, [], rfl, rfl, ?_⟩
      refine ⟨_, rfl, _, rfl, NA, _, (a1 : Int), _, rfl, rfl, SqL.of eNx, atI_nat (row_at h1), _, rfl, _, rfl, NA, _, (a2 : Int), _, rfl, rfl, SqL.of eNx, atI_nat (row_at h2), by show 2 ≤ sizeLine; decide, fun T nT => ?_⟩
      have sT := same_upd (o := .tup [.int (rowF ys a1), .int (rowF ys a2)]) nT
      have eT : (upd Hx T (.tup [.int (rowF ys a1), .int (rowF ys a2)])) T = some (.tup [.int (rowF ys a1), .int (rowF ys a2)]) := upd_same
      have DT := draw_same sT Dx
      have eFT := sT _ _ eFx
      have pvT := pvx.same sT
      have kT' : Kept d lg H (upd Hx T (.tup [.int (rowF ys a1), .int (rowF ys a2)])) := kx.trans (fun b o h _ _ => sT b o h)
      have eAT := sT _ _ eAx
      have puT := pux.same sT
      have eNT := sT _ _ eNx
      generalize upd Hx T (.tup [.int (rowF ys a1), .int (rowF ys a2)]) = H6 at sT eT DT eFT pvT kT' eAT puT eNT
      refine ⟨_, rfl, .inl ⟨rfl, _, SqL.of eFT⟩, _, rfl, d, lg, cl, 2, rfl, DT, by decide, by decide, fun b H7 b0 b1 D7 k7 => ?_⟩
      have eF7 := k7 _ _ eFT nFd nFl
      have eA7 : H7 A2 = some (.lst (rf us2)) := k7 _ _ eAT (draw_new D4 nA2).1 (draw_new D4 nA2).2.1
      have eN7 := k7 _ _ eNT nNd nNl
      have pv7 := pvT.kept DT k7
      have pu7 := puT.kept DT k7
      have k07 := kT'.trans k7
      have eT7 : H7 T = some (.tup [.int (rowF ys a1), .int (rowF ys a2)]) := k7 _ _ eT (fun z => by obtain ⟨⟨r, t, hd⟩, _⟩ := DT; rw [z, hd] at eT; cases eT) (fun z => by obtain ⟨_, ⟨L, _, hl⟩, _⟩ := DT; rw [z, hl] at eT; cases eT)
      have nAF : A2 ≠ Fo := fun z => by rw [z] at nA2; rw [eF] at nA2; cases nA2
      have nNF : NA ≠ Fo := fun z => nFN z.symm
      have hvl : vs.length = min j us2.length := by
        have := hfx.len
        unfold nam nums at this
        rw [List.length_map, List.length_map, List.length_take, List.length_map] at this
        exact this
      have hsm : (rf vs).length < sizeLine := small_2000 (by rw [rf_len]; omega)
      refine ⟨rfl, _, rfl, ?_⟩
      have fin : ∀ (T2 : Addr) (x y : Int) (H8 : Hp), Same H7 H8 → H8 T2 = some (.tup [.int x, .int y]) → Flip [(rowF ys a1, rowF ys a2)] [(x, y)] → ∃ (v6 v7 v8 : Option V) (ws : Zs), [some (V.ref d), some (V.int 8), some (V.int n), some (V.ref D), some (V.ref NA), some (V.ref Fo), some (V.int a1), some (V.int a2), some (V.ref T)] = [some (.ref d), some (.int 8), some (.int n), some (.ref D), some (.ref NA), some (.ref Fo), v6, v7, v8] ∧ (upd H8 Fo (.lst (rf vs ++ [.ref T2]))) Fo = some (.lst (rf ws)) ∧ PL (upd H8 Fo (.lst (rf vs ++ [.ref T2]))) ws ∧ Flip (nam (rowF ys) ((nums us2).take (j + 1))) (nums ws) ∧ DrawAt (upd H8 Fo (.lst (rf vs ++ [.ref T2]))) d lg cl ∧ Kept d lg H (upd H8 Fo (.lst (rf vs ++ [.ref T2]))) ∧ (upd H8 Fo (.lst (rf vs ++ [.ref T2]))) A2 = some (.lst (rf us2)) ∧ PL (upd H8 Fo (.lst (rf vs ++ [.ref T2]))) us2 ∧ (upd H8 Fo (.lst (rf vs ++ [.ref T2]))) NA = some (.lst (ys.map V.int)) := fun T2 x y H8 s8 e8 hxy => by
        refine ⟨_, _, _, vs ++ [(T2, x, y)], rfl, by rw [upd_same, rf_app], ((pv7.same s8).app e8).put (s8 _ _ eF7), ?_, draw_put nFd nFl (draw_new D3 nF).2.2 (draw_same s8 D7), kept_put nF0 (k07.trans (fun b o h _ _ => s8 b o h)), by rw [upd_ne nAF]; exact s8 _ _ eA7, (pu7.same s8).put (s8 _ _ eF7), by rw [upd_ne nNF]; exact s8 _ _ eN7⟩
        rw [htk, nam_app, nums_app]
        exact hfx.app hxy
      by_cases c : b = 0
      · refine iteTb (decide_eq_true (by rw [c])) ?_
        exact ⟨_, rfl, Fo, _, _, rfl, rfl, eF7, hsm, fin T _ _ H7 (Same.refl _) eT7 (.same _ .nil)⟩
      · refine iteFb (decide_eq_false (fun q => c (V.int.inj q))) ?_
        refine ⟨_, rfl, T, _, _, rfl, SqT.of eT7, fun T2 nT2 => ?_⟩
        have s8 := same_upd (o := .tup [.int (rowF ys a2), .int (rowF ys a1)]) nT2
        exact ⟨Fo, _, _, rfl, rfl, s8 _ _ eF7, hsm, fin T2 _ _ _ s8 upd_same (.turn _ .nil)⟩
    · rintro σ Hx ⟨v6, v7, v8, vs, rfl, eFx, pvx, hfx, Dx, kx, eAx, pux, eNx⟩
      have hln : (rf us2).length = (nums us2).length := by unfold rf nums; rw [List.length_map, List.length_map]
      rw [hln, List.take_length] at hfx
      refine fun x nx => ⟨_, rfl, _, rfl, upd_same, netL n Fo, rfl, (by show 2 ≤ 15; decide), ?_⟩
      have xF : Fo ≠ x := fun z => by rw [z, nx] at eFx; cases eFx
      have sx : Same Hx (upd (upd Hx x (.dK [])) x (.dK (netL n Fo))) := fun b o h => by
        have nb : b ≠ x := fun z => by rw [z, nx] at h; cases h
        rw [upd_ne nb, upd_ne nb]
        exact h
      have R : Ren n (rowF ys) (goodP n w) (nums vs) := ⟨bf, hEg, _, hu2.map (fun q : Int × Int => (rowF ys q.1, rowF ys q.2)), hfx⟩
      exact k x Fo n w vs (rowF ys) _ n0 n8 w3 ⟨upd_same, sx _ _ eFx, pvx.same sx⟩ nFl R (draw_same sx Dx) (kx.trans (fun b o h _ _ => sx b o h))
end
end K03


set_option Elab.async false
set_option maxRecDepth 100000
set_option maxHeartbeats 4000000
set_option linter.all false
namespace K03
open PySem PySem.Spec PyProof.Rows L2 NetM LamX
/-! what stays where tables of code may grow -/
section
variable {K : PySem.W.Frag} {H H' : Hp}
theorem TyX.ext (s : ExtN H H') {x : L2.V} {t : Value} (h : TyX K H x t) : TyX K H' x t := by
  cases h with
  | base h =>
    refine .base ?_
    cases h with
    | non => exact .non
    | bl x => exact .bl x
    | int x => exact .int x
    | str x => exact .str x
    | flt x => exact .flt x
    | lst e => exact .lst (s _ _ e (fun _ z => by cases z))
    | frz e => exact .frz (s _ _ e (fun _ z => by cases z))
    | tup e => exact .tup (s _ _ e (fun _ z => by cases z))
    | dK e => exact .dK (s _ _ e (fun _ z => by cases z))
    | dT e => exact .dT (s _ _ e (fun _ z => by cases z))
    | ins e c a b d f => exact .ins (s _ _ e (fun _ z => by cases z)) c a b d f
  | byt b => exact .byt b
  | set e => exact .set (s _ _ e (fun _ z => by cases z))
  | kList e c => exact .kList e c
  | kTuple e c => exact .kTuple e c
  | kDict e c => exact .kDict e c
  | fTuple e => exact .fTuple (s _ _ e (fun _ z => by cases z))
  | fDict e => exact .fDict (s _ _ e (fun _ z => by cases z))
theorem sqt_ext (s : ExtN H H') {a : Addr} {xs : List L2.V} (h : SqT K H a xs) : SqT K H' a xs := by
  rcases h with (h | ⟨o, h⟩) | h
  · exact .inl (.inl (s _ _ h (fun _ z => by cases z)))
  · exact .inl (.inr ⟨o, s _ _ h (fun _ z => by cases z)⟩)
  · exact .inr h
theorem sql_ext (s : ExtN H H') {a : Addr} {xs : List L2.V} (h : SqL K H a xs) : SqL K H' a xs := by
  rcases h with (h | ⟨o, h⟩) | h
  · exact .inl (.inl (s _ _ h (fun _ z => by cases z)))
  · exact .inl (.inr ⟨o, s _ _ h (fun _ z => by cases z)⟩)
  · exact .inr h
theorem sqa_ext (s : ExtN H H') {a : Addr} {xs : List L2.V} (h : SqA K H a xs) : SqA K H' a xs := by
  rcases h with h | h
  · exact .inl (sql_ext s h)
  · exact .inr (sqt_ext s h)
theorem prt_ext (s : ExtN H H') {zs : Zs} (p : PrT K H zs) : PrT K H' zs := fun z m => sqt_ext s (p z m)
theorem pra_ext (s : ExtN H H') {zs : Zs} (p : PrA K H zs) : PrA K H' zs := fun z m => sqa_ext s (p z m)
theorem pl_ext (s : ExtN H H') {zs : Zs} (p : PL H zs) : PL H' zs := fun z m => s _ _ (p z m) (fun _ z => by cases z)
theorem EndJ.ext (s : ExtN H H') {n : Int} {x : L2.V} {o : Option Int} : EndJ K H n x o → EndJ K H' n x o
  | .ok h => .ok h
  | .out h => .out h
  | .no h hb hc z => .no (TyX.ext s h) hb hc z
theorem ArJ.ext (s : ExtN H H') {n : Int} {x : L2.V} {o : Bool} : ArJ K H n x o → ArJ K H' n x o
  | .no h z => .no (TyX.ext s h) z
  | .many h z => .many (sqa_ext s h) z
  | .two h h0 h1 => .two (sqa_ext s h) (h0.ext s) (h1.ext s)
theorem ArL.ext (s : ExtN H H') {n : Int} : ∀ {xs : List L2.V} {bs : List Bool}, ArL K H n xs bs → ArL K H' n xs bs
  | _, _, .nil => .nil
  | _, _, .cons h r => .cons (h.ext s) (r.ext s)
theorem ArV.ext (s : ExtN H H') {n : Nat} {x : L2.V} {o : Option Zs} (h : ArV K H n x o) : ArV K H' n x o := by
  cases h with
  | no h z => exact .no (TyX.ext s h) z
  | bad h ha hl z => exact .bad (sqa_ext s h) (ha.ext s) hl z
  | ok h hp hl hE => exact .ok (sqa_ext s h) (pra_ext s hp) hl hE
theorem BadPl.ext (s : ExtN H H') {x : L2.V} (h : BadPl K H x) : BadPl K H' x := by
  obtain ⟨t, b, c, a1, a2, a3, a4⟩ := h
  exact ⟨t, b, c, TyX.ext s a1, a2, a3, a4⟩
theorem NetAt.ext {CN : Addr} (s : ExtN H H') {x : Addr} {n : Nat} {zs : List (Int × Int)} (h : NetAt K CN H x n zs) : NetAt K CN H' x n zs := by
  obtain ⟨dx, t, ws, a, b, c, d⟩ := h
  exact ⟨dx, t, ws, s _ _ a (fun _ z => by cases z), s _ _ b (fun _ z => by cases z), prt_ext s c, d⟩
theorem NoNet.ext {CN : Addr} (s : ExtN H H') {x : L2.V} (h : NoNet K CN H x) : NoNet K CN H' x := by
  obtain ⟨t, a, b⟩ := h
  exact ⟨t, TyX.ext s a, b⟩
theorem draw_ext (s : ExtN H H') {d lg cl : Addr} (D : DrawAt H d lg cl) : DrawAt H' d lg cl := by
  obtain ⟨⟨r, t, hd⟩, ⟨L, hL, hl⟩, ⟨M, hM, hc⟩, ncl⟩ := D
  exact ⟨⟨r, t, s _ _ hd (fun _ z => by cases z)⟩, ⟨L, hL, s _ _ hl (fun _ z => by cases z)⟩, ⟨M, hM, s _ _ hc (fun _ z => by cases z)⟩, ncl⟩
end
/-- kept but for the draws and the tables -/
def KeptN (d lg : Addr) (H H' : Hp) : Prop := ∀ b o, H b = some o → b ≠ d → b ≠ lg → (∀ ps, o ≠ .tbl ps) → H' b = some o
theorem KeptN.refl {d lg : Addr} {H : Hp} : KeptN d lg H H := fun _ _ e _ _ _ => e
theorem KeptN.trans {d lg : Addr} {H H1 H2 : Hp} (a : KeptN d lg H H1) (b : KeptN d lg H1 H2) : KeptN d lg H H2 := fun x o e h1 h2 n => b x o (a x o e h1 h2 n) h1 h2 n
theorem Kept.n {d lg : Addr} {H H' : Hp} (k : Kept d lg H H') : KeptN d lg H H' := fun b o e h1 h2 _ => k b o e h1 h2
theorem KeptN.ext {d lg : Addr} {H H' : Hp} (k : ExtN H H') : KeptN d lg H H' := fun b o e _ _ n => k b o e n
theorem KeptN.same {d lg : Addr} {H H' : Hp} (k : Same H H') : KeptN d lg H H' := fun b o e _ _ _ => k b o e
theorem ExtN.same {H H' : Hp} (k : Same H H') : ExtN H H' := fun b o e _ => k b o e
theorem Tabs.kept {T : List (Addr × Str)} {d lg cl : Addr} {H H' : Hp} (D : DrawAt H d lg cl) (k : Kept d lg H H') (t : Tabs T H) : Tabs T H' := fun p hp => by
  obtain ⟨⟨r, t', hd⟩, ⟨L, hL, hl⟩, _, _⟩ := D
  obtain ⟨ps, h1, h2, h3⟩ := t p hp
  have key : ∀ b o, H b = some o → (∀ kvs, o ≠ .dK kvs) → (∀ xs, o ≠ .lst xs) → H' b = some o := fun b o e n1 n2 => k b o e (fun z => by rw [z, hd] at e; exact n1 _ (Option.some.inj e).symm) (fun z => by rw [z, hl] at e; exact n2 _ (Option.some.inj e).symm)
  refine ⟨ps, key _ _ h1 (fun _ z => by cases z) (fun _ z => by cases z), h2, fun pos cv hc => ?_⟩
  obtain ⟨c, e1, e2⟩ := h3 pos cv hc
  exact ⟨c, e1, key _ _ e2 (fun _ z => by unfold CodeO at z; cases z) (fun _ z => by unfold CodeO at z; cases z)⟩
/-! a(e, ..), a holding a def of the text -/
def tCallV (P : Program) (w : World) (K : PySem.W.Frag) (mg : Str → Option Value) (base : Heap) (CX : CXT) (k i : Nat) (E : XK) (t : TA) : TE := fun σ H Q => ∃ (f : Addr) (fd : FuncData) (ps : List Str) (sp : Sp), FnOk P w K mg base CX k f fd ps sp ∧ PySem.W.keepIn K (.ref f) = true ∧ L2.Binds K fd ps [] ∧
  σ[i]? = some (some (.ref f)) ∧ t σ H fun vs H1 => sp vs H1 Q E
theorem pe_callVar {X : Cx} {CX : CXT} {k i : Nat} {E : XK} {a : Str} {e : Expr} {es : List Expr} {t : TA} {p pos : Pos} (hr : Room k X.A) (hx : Passes CX X E) (hN : X.N[i]? = some a) (hv : Vis X.env.scope a) (ha : PA X (e :: es) t)
    (hd : (a == ("__debug__" : Str)) = false := by decide) (hcd : (a == ("__classdict__" : Str)) = false := by decide) (he : starEach (e :: es) X.env = (false, eval e X.env) :: starEach es X.env := by rfl) (hpl : (backTo pos (starEach es X.env)).any (·.1) = false := by rfl) :
    PE X (.Call (.Name a p) (e :: es) [] pos) (tCallV X.prog X.w X.K X.mg X.base CX k i E t) := by
  refine ⟨fun pins s σ H Q I h => ?_⟩
  obtain ⟨f, fd, ps, sp, F, hk, hb, hs, ht⟩ := h
  refine wpAny_Call_Name_kw (thn ((pe_var (pos := p) (i := i) hN hv hd hcd).run pins s σ H (fun v H1 => v = .ref f ∧ H1 = H) I ⟨.ref f, hs, rfl, rfl⟩) fun u s1 ⟨v, H1, I1, r1, q1⟩ => ?_)
  obtain ⟨ev, eH⟩ := q1
  subst ev
  rw [eH] at I1
  obtain rfl : u = Value.ref f := r1
  refine PySem.W.callWith_K (h₀ := X.base) I1.ok.mod.kin hk (thn (ha.run pos pins s1 σ H _ I1 ht) fun us s2 ⟨vs, H2, I2, r, q⟩ => ⟨I2.kIn, ?_⟩) he hpl
  exact run_fn (dvs := []) F hr hb .nil hx I2 r (by rw [List.append_nil]; exact q)
/-! a def whose code object is known -/
structure FunC (K : PySem.W.Frag) (x qual : Str) (st : Stmt) (f : Addr) (fd : FuncData) (c : Addr) : Prop where
  ex : ∃ (oc : Value) (od : Option Addr) (kV doc pm : Value) (an : Option Addr) (ct : Value) (osl : Array (Option Value)),
    fd = PySem.W.fnOf x qual (defArgs st) (defBody st) (defScope st) .none kV doc pm an (.ref c) ct ∧ K.lookup f = some ⟨oc, od, .func fd, osl⟩ ∧ PySem.W.codeIn K (.ref c) qual = true
  kp : PySem.W.keepIn K (.ref f) = true
theorem FunC.f {K : PySem.W.Frag} {x qual : Str} {st : Stmt} {f : Addr} {fd : FuncData} {c : Addr} (F : FunC K x qual st f fd c) : Fun K x qual st f fd := by
  obtain ⟨oc, od, kV, doc, pm, an, ct, osl, a, b, d⟩ := F.ex
  exact ⟨⟨oc, od, kV, doc, pm, an, _, ct, osl, a, b, d⟩, F.kp⟩
theorem FunC.ok {P : Program} {w : World} {K : PySem.W.Frag} {mg : Str → Option Value} {base : Heap} {x qual : Str} {st : Stmt} {f c : Addr} {fd : FuncData} {N ps : List Str} {k : Nat} {sp : Sp} (F : FunC K x qual st f fd c) (S : FnScope N ps (defScope st)) (len : ∀ vs H Q E, sp vs H Q E → vs.length = ps.length)
    (hbody : ∀ (A : Around) (outer : List Env) (s : Shared) (H : Hp) (vs : List L2.V) (Q : VK) (E : XK), Room k (A.deeper (envOfC qual (defScope st) s.heap.objs.size f (.ref c))) → sp vs H Q E →
      ∃ t, PSs (cxOf L2.CX0 P w K mg base N qual (defScope st) f (.ref c) A outer s H E).nox (defBody st) t ∧ t { nx := fun _ H' => Q .non H', rt := Q } (L2.start N vs) H) : FnOk P w K mg base L2.CX0 (k + 1) f fd ps sp := by
  obtain ⟨oc, od, kV, doc, pm, an, ct, osl, rfl, lk, hcd⟩ := F.ex
  refine fn_of lk hcd S len fun A outer s H vs Q E hr hsp => ?_
  obtain ⟨t, h, q⟩ := hbody A outer s H vs Q E hr hsp
  exact ⟨t, h.nox, q⟩
end K03


set_option Elab.async false
set_option maxRecDepth 100000
set_option maxHeartbeats 4000000
set_option linter.all false
namespace K03
open PySem PySem.Spec PyProof.Rows L2 NetM GL
/-! how long what is shown may be -/
def Sz (m : Nat) (d : PyData) : Prop := d.shown.length ≤ m
theorem from_le (m : Nat) : ∀ (ts : List Str) (k : Nat) (acc : Str), (∀ t ∈ ts, t.length ≤ m) → (textFrom k acc ts).length ≤ acc.length + ts.length * (m + 2)
  | [], k, acc, _ => by show acc.length ≤ _; omega
  | t :: r, k, acc, h => by
    have ih := from_le m r (k + 1) (acc ++ (if k > 0 then ", " else "" : String) ++ t) fun x hx => h x (List.mem_cons_of_mem _ hx)
    have e : (acc ++ (if k > 0 then ", " else "" : String) ++ t).length = acc.length + (if k > 0 then 2 else 0) + t.length := by
      rw [strLen_append, strLen_append]
      split <;> rfl
    have ht := h t (List.mem_cons_self ..)
    rw [e] at ih
    have e2 : (t :: r).length * (m + 2) = r.length * (m + 2) + (m + 2) := by rw [List.length_cons, Nat.add_mul, Nat.one_mul]
    rw [e2]
    show (textFrom (k + 1) (acc ++ (if k > 0 then ", " else "" : String) ++ t) r).length ≤ _
    have h2 : (if k > 0 then 2 else 0 : Nat) ≤ 2 := by split <;> omega
    exact Nat.le_trans ih (by omega)
theorem list_le {m : Nat} {ts : List Str} (h : ∀ t ∈ ts, t.length ≤ m) : (listText ts).length ≤ ts.length * (m + 2) + 2 := by
  have := from_le m ts 0 "[" h
  unfold listText
  rw [strLen_append]
  have e1 : (("[" : String) : Str).length = 1 := rfl
  have e2 : (("]" : String) : Str).length = 1 := rfl
  rw [e1] at this
  rw [e2]
  omega
theorem piled_le {m : Nat} : ∀ {ts : List Str}, (∀ t ∈ ts, t.length ≤ m) → piled ts ≤ ts.length * (m + 2)
  | [], _ => by simp [piled]
  | t :: r, h => by
    have ih := piled_le (m := m) (ts := r) fun x hx => h x (List.mem_cons_of_mem _ hx)
    have ht := h t (List.mem_cons_self ..)
    rw [piled_cons, List.length_cons, Nat.add_mul, Nat.one_mul]
    omega
theorem tup_le {m : Nat} {ts : List Str} (h : ∀ t ∈ ts, t.length ≤ m) : (tupleText ts).length ≤ ts.length * (m + 2) + 3 := by
  unfold tupleText
  rw [strLen_append, strLen_append]
  have e1 : (("(" : String) : Str).length = 1 := rfl
  have e2 : ∀ c : Bool, (((if c = true then ",)" else ")" : String)) : Str).length ≤ 2 := fun c => by cases c <;> decide
  have e3 := e2 (ts.length == 1)
  rw [e1]
  cases ts with
  | nil =>
    have : (Str.join ", " ([] : List Str)).length = 0 := rfl
    omega
  | cons t r =>
    have h1 := join_length_add (t :: r) (by simp)
    have h2 := piled_le h
    omega
theorem all_mem {ds : List PyData} : ∀ {t : Str}, t ∈ PyData.shownAll ds → ∃ d ∈ ds, t = d.shown := by
  induction ds with
  | nil => intro t h; cases h
  | cons d r ih =>
    intro t h
    rcases List.mem_cons.mp h with h | h
    · exact ⟨d, List.mem_cons_self .., h⟩
    · obtain ⟨d', hd, e⟩ := ih h
      exact ⟨d', List.mem_cons_of_mem _ hd, e⟩
theorem all_len (ds : List PyData) : (PyData.shownAll ds).length = ds.length := by
  induction ds with
  | nil => rfl
  | cons d r ih => show (PyData.shownAll r).length + 1 = _; rw [ih]; rfl
theorem sz_list {m : Nat} {ds : List PyData} (h : ∀ d ∈ ds, Sz m d) : Sz (ds.length * (m + 2) + 2) (.list ds) := by
  show (listText (PyData.shownAll ds)).length ≤ _
  rw [← all_len ds]
  exact list_le fun t ht => by obtain ⟨d, hd, e⟩ := all_mem ht; rw [e]; exact h d hd
theorem sz_tup {m : Nat} {ds : List PyData} (h : ∀ d ∈ ds, Sz m d) : Sz (ds.length * (m + 2) + 3) (.tuple ds) := by
  show (tupleText (PyData.shownAll ds)).length ≤ _
  rw [← all_len ds]
  exact tup_le fun t ht => by obtain ⟨d, hd, e⟩ := all_mem ht; rw [e]; exact h d hd
/-- small numbers, pairs of them, lists of these -/
theorem sz_int {i : Int} (h : 0 ≤ i ∧ i < 1000) : Sz 3 (.int i) := by
  obtain ⟨k, rfl⟩ := Int.eq_ofNat_of_zero_le h.1
  have hk : k < 1000 := by omega
  have key : ((List.range 1000).all fun k => decide ((PyData.int (k : Int)).shown.length ≤ 3)) = true := by decide +kernel
  show (PyData.int (k : Int)).shown.length ≤ 3
  exact of_decide_eq_true (List.all_eq_true.mp key k (List.mem_range.mpr hk))
theorem sh_int {i : Int} (h : 0 ≤ i ∧ i < 1000) : (PyData.int i).showable = true := by
  obtain ⟨k, rfl⟩ := Int.eq_ofNat_of_zero_le h.1
  have hk : k < 1000 := by omega
  have key : ((List.range 1000).all fun k => (PyData.int (k : Int)).showable) = true := by decide +kernel
  exact List.all_eq_true.mp key k (List.mem_range.mpr hk)
end K03


set_option Elab.async false
set_option maxRecDepth 100000
set_option maxHeartbeats 4000000
set_option linter.all false
namespace K03
open PySem PySem.Spec PyProof.Rows L2 NetM LamX GL
open PySem.W (KitX InstAt Looks)

section
variable {X : Cx} {CX : CXT} {k : Nat} {f : Addr} {fd : FuncData} {ps ks : List Str} {sp : Sp} {E : XK} {x : Str} {p pos : Pos} {kws : List Keyword} {tk : TA} {g : List Value → List Value → List Value} {gV : List L2.V → List L2.V → List L2.V}
/-- f(k = v, ..) -/
theorem pe_callK0 (F : FnOk X.prog X.w X.K X.mg X.base CX k f fd ps sp) (hr : Room k X.A) (hg : Gl X x) (hm : X.mg x = some (.ref f)) (hk : PySem.W.keepIn X.K (.ref f) = true) (hb : KBinds X.K fd ps ks g gV) (hx : Passes CX X E) (hkw : PK X kws tk)
    (hall : (backToKw pos (keywordEach kws X.env)).all (·.1.isSome) = true := by rfl) (hks : (backToKw pos (keywordEach kws X.env)).filterMap (·.1) = ks := by rfl) (hdb : (x == ("__debug__" : Str)) = false := by decide)
    (hpl : (backToKw pos (keywordEach kws X.env)).any (·.1.isNone) = false := by rfl) : PE X (.Call (.Name x p) [] kws pos) (tCallK sp gV E tNil tk) := by
  refine ⟨fun pins s σ H Q I h => ?_⟩
  refine wpAny_Call_Name_kw (ld_glob I hg hm ?_ hdb)
  refine PySem.W.callWith_KW0 (h₀ := X.base) I.ok.mod.kin hk hall ?_ hpl
  refine thn (hkw.run pos pins s σ H _ I h) fun ws s1 ⟨zs, H1, I1, rz, q1⟩ => ⟨I1.kIn, ?_⟩
  rw [hks]
  exact run_fnk (us := []) (vs := []) F hr hb hx I1 .nil rz q1
end

theorem rdv {K : PySem.W.Frag} {H : Hp} {v : L2.V} {d : PyData} (h : Dp K H v d) (n : d.hasDict = false) : RdV K H v d := fun X pins σ s u e I r => by
  subst e
  obtain ⟨as, R⟩ := Dp.reads I d v u h r
  exact ⟨as, R, fun z => by rw [n] at z; cases z⟩
theorem nd_ints (l : List Int) : PyData.hasDictAll (l.map PyData.int) = false := by
  induction l with
  | nil => rfl
  | cons x r ih => simp [PyData.hasDictAll, PyData.hasDict, ih]
def Sm9 (i : Int) : Prop := 0 ≤ i ∧ i < 1000
theorem sh_ints {l : List Int} (h : ∀ i ∈ l, Sm9 i) : PyData.showableAll (l.map PyData.int) = true := by
  induction l with
  | nil => rfl
  | cons x r ih =>
    show ((PyData.int x).showable && PyData.showableAll (r.map PyData.int)) = true
    rw [sh_int (h x (List.mem_cons_self ..)), ih fun i m => h i (List.mem_cons_of_mem _ m)]
    rfl
theorem Sz.mono {m m' : Nat} {d : PyData} (h : Sz m d) (e : m ≤ m') : Sz m' d := Nat.le_trans h e
theorem sz_ints {l : List Int} (h : ∀ i ∈ l, Sm9 i) (hl : l.length ≤ 8) : Sz 42 (.list (l.map PyData.int)) := by
  refine (sz_list (m := 3) (ds := l.map PyData.int) fun d hd => ?_).mono ?_
  · obtain ⟨i, hi, rfl⟩ := List.mem_map.mp hd
    exact sz_int (h i hi)
  · rw [List.length_map]; omega
theorem shown_bl (b : Bool) : Shown (.bool b) := by
  refine ⟨rfl, by simp [PyData.depth], ?_⟩
  cases b <;> decide
def bk {α : Type} (us ws : List α) : List α := us ++ ws.reverse
theorem vals_rev : ∀ {zs : List L2.V} {ws : List Value}, Vals zs ws → Vals zs.reverse ws.reverse
  | _, _, .nil => .nil
  | _, _, .cons a r => by
    rw [List.reverse_cons, List.reverse_cons]
    exact (vals_rev r).append (.cons a .nil)
theorem bk_rel {vs : List L2.V} {us : List Value} {zs : List L2.V} {ws : List Value} (r1 : Vals vs us) (r2 : Vals zs ws) : Vals (bk vs zs) (bk us ws) := r1.append (vals_rev r2)
abbrev fnT (x : Str) (st : Stmt) (kV doc pm : Value) (an : Option Addr) (cdv ct : Value) : FuncData := PySem.W.fnOf x x (defArgs st) (defBody st) (defScope st) .none kV doc pm an cdv ct
theorem len_bk {us ws : List Value} : (bk us ws).length = us.length + ws.length := by unfold bk; rw [List.length_append, List.length_reverse]
theorem two1 {us ws : List Value} (h : us.length + ws.length = 1) : (∃ u, us = [u] ∧ ws = []) ∨ (∃ u, us = [] ∧ ws = [u]) := by
  match us, ws with
  | [], [u] => exact .inr ⟨u, rfl, rfl⟩
  | [u], [] => exact .inl ⟨u, rfl, rfl⟩
  | [], [] => simp at h
  | [], _ :: _ :: _ => simp at h
  | [_], _ :: _ => simp at h
  | _ :: _ :: _, _ => simp at h; omega
theorem two2 {us ws : List Value} (h : us.length + ws.length = 2) : (∃ u v, us = [u, v] ∧ ws = []) ∨ (∃ u v, us = [u] ∧ ws = [v]) ∨ (∃ u v, us = [] ∧ ws = [v, u]) := by
  cases us with
  | nil => 
    match ws with
    | [v, u] => exact .inr (.inr ⟨u, v, rfl, rfl⟩)
    | [] => simp at h
    | [_] => simp at h
    | _ :: _ :: _ :: _ => simp at h
  | cons u us =>
    have h1 : us.length + ws.length = 1 := by rw [List.length_cons] at h; omega
    rcases two1 h1 with ⟨v, rfl, rfl⟩ | ⟨v, rfl, rfl⟩
    · exact .inl ⟨u, v, rfl, rfl⟩
    · exact .inr (.inl ⟨u, v, rfl, rfl⟩)
theorem two3 {us ws : List Value} (h : us.length + ws.length = 3) : (∃ u v w, us = [u, v, w] ∧ ws = []) ∨ (∃ u v w, us = [u, v] ∧ ws = [w]) ∨ (∃ u v w, us = [u] ∧ ws = [w, v]) ∨ (∃ u v w, us = [] ∧ ws = [w, v, u]) := by
  cases us with
  | nil => 
    match ws with
    | [w, v, u] => exact .inr (.inr (.inr ⟨u, v, w, rfl, rfl⟩))
    | [] => simp at h
    | [_] => simp at h
    | [_, _] => simp at h
    | _ :: _ :: _ :: _ :: _ => simp at h
  | cons u us =>
    have h1 : us.length + ws.length = 2 := by rw [List.length_cons] at h; omega
    rcases two2 h1 with ⟨v, w, rfl, rfl⟩ | ⟨v, w, rfl, rfl⟩ | ⟨v, w, rfl, rfl⟩
    · exact .inl ⟨u, v, w, rfl, rfl⟩
    · exact .inr (.inl ⟨u, v, w, rfl, rfl⟩)
    · exact .inr (.inr (.inl ⟨u, v, w, rfl, rfl⟩))
theorem kb1 {K : PySem.W.Frag} {x a : Str} {st : Stmt} {f : Addr} {fd : FuncData} (F : Fun K x x st f fd)
    (h : ∀ (kV doc pm : Value) (an : Option Addr) (cdv ct u : Value), bindArgs (fnT x st kV doc pm an cdv ct) ⟨[u], []⟩ = pure [(a, u)] ∧ bindArgs (fnT x st kV doc pm an cdv ct) ⟨[], [(a, u)]⟩ = pure [(a, u)]) : KBinds K fd [a] [a] bk bk := by
  obtain ⟨oc, od, kV, doc, pm, an, cdv, ct, osl, rfl, lk, hcd⟩ := F.ex
  refine ⟨fun s us ws _ hl => ?_, bk_rel⟩
  rw [len_bk] at hl
  rcases two1 hl with ⟨u, rfl, rfl⟩ | ⟨u, rfl, rfl⟩
  · exact .of_eq (h kV doc pm an cdv ct u).1
  · exact .of_eq (h kV doc pm an cdv ct u).2
theorem kb2 {K : PySem.W.Frag} {x a b : Str} {st : Stmt} {f : Addr} {fd : FuncData} (F : Fun K x x st f fd)
    (h : ∀ (kV doc pm : Value) (an : Option Addr) (cdv ct u v : Value), bindArgs (fnT x st kV doc pm an cdv ct) ⟨[u, v], []⟩ = pure [(a, u), (b, v)] ∧ bindArgs (fnT x st kV doc pm an cdv ct) ⟨[u], [(b, v)]⟩ = pure [(a, u), (b, v)] ∧ bindArgs (fnT x st kV doc pm an cdv ct) ⟨[], [(b, v), (a, u)]⟩ = pure [(a, u), (b, v)]) : KBinds K fd [a, b] [b, a] bk bk := by
  obtain ⟨oc, od, kV, doc, pm, an, cdv, ct, osl, rfl, lk, hcd⟩ := F.ex
  refine ⟨fun s us ws _ hl => ?_, bk_rel⟩
  rw [len_bk] at hl
  rcases two2 hl with ⟨u, v, rfl, rfl⟩ | ⟨u, v, rfl, rfl⟩ | ⟨u, v, rfl, rfl⟩
  · exact .of_eq (h kV doc pm an cdv ct u v).1
  · exact .of_eq (h kV doc pm an cdv ct u v).2.1
  · exact .of_eq (h kV doc pm an cdv ct u v).2.2
theorem kb3 {K : PySem.W.Frag} {x a b c : Str} {st : Stmt} {f : Addr} {fd : FuncData} (F : Fun K x x st f fd)
    (h : ∀ (kV doc pm : Value) (an : Option Addr) (cdv ct u v w : Value), bindArgs (fnT x st kV doc pm an cdv ct) ⟨[u, v, w], []⟩ = pure [(a, u), (b, v), (c, w)] ∧ bindArgs (fnT x st kV doc pm an cdv ct) ⟨[u, v], [(c, w)]⟩ = pure [(a, u), (b, v), (c, w)] ∧ bindArgs (fnT x st kV doc pm an cdv ct) ⟨[u], [(c, w), (b, v)]⟩ = pure [(a, u), (b, v), (c, w)] ∧ bindArgs (fnT x st kV doc pm an cdv ct) ⟨[], [(c, w), (b, v), (a, u)]⟩ = pure [(a, u), (b, v), (c, w)]) : KBinds K fd [a, b, c] [c, b, a] bk bk := by
  obtain ⟨oc, od, kV, doc, pm, an, cdv, ct, osl, rfl, lk, hcd⟩ := F.ex
  refine ⟨fun s us ws _ hl => ?_, bk_rel⟩
  rw [len_bk] at hl
  rcases two3 hl with ⟨u, v, w, rfl, rfl⟩ | ⟨u, v, w, rfl, rfl⟩ | ⟨u, v, w, rfl, rfl⟩ | ⟨u, v, w, rfl, rfl⟩
  · exact .of_eq (h kV doc pm an cdv ct u v w).1
  · exact .of_eq (h kV doc pm an cdv ct u v w).2.1
  · exact .of_eq (h kV doc pm an cdv ct u v w).2.2.1
  · exact .of_eq (h kV doc pm an cdv ct u v w).2.2.2
/-- isinstance(e, c), e a caught exception without a dict that lives on -/
def rIsR0 (K : PySem.W.Frag) : List V → Hp → VK → Prop := fun xs H Q => ∃ (a D : Addr) (c : V) (cv : Value) (b : Bool), xs = [.ref a, c] ∧ H a = some (ExR (.ref D) none a) ∧ ExcC K D ∧ (∀ u, RelV c u → u = cv) ∧ PySem.W.kitOne K (.ref D) cv = some b ∧ Q (.bl b) H
theorem call_isR0 {X : Cx} : CallR X (.builtin "isinstance") (rIsR0 X.K) := by
  intro pins s σ H xs us Q I r h
  obtain ⟨a, D, c, cv, b, rfl, ha, C, hcv, e, q⟩ := h
  cases r with
  | cons rx rr =>
    cases rr with
    | cons rt rr =>
      cases rr
      cases rx
      have ec := hcv _ rt
      subst ec
      obtain ⟨oe, vs, ho, ⟨z1, z2⟩, hdt⟩ := exR_at I.hok ha
      have J : InstAt s.heap a oe D none := by
        obtain ⟨oc, od, oda, osl⟩ := oe
        dsimp only at z1 z2 hdt
        subst z1 z2 hdt
        exact ⟨ho, rfl, rfl, trivial⟩
      exact PySem.W.kia_one (PySem.W.handS_kitx_exc C.hg C.hk C.hs C.hd C.ha C.hn C.ht C.hm) I.kIn J e (fun z => nomatch z) fun tk => ⟨.bl b, H, I.kept (t' := tk) fun _ _ z => z, rfl, q⟩
/-- one that doesn't -/
structure Fn0 (P : Program) (w : World) (K : PySem.W.Frag) (mg : Str → Option Value) (base : Heap) (n : Nat) (x : Str) (ps : List Str) (sp : Sp) where
  f : Addr
  fd : FuncData
  ok : FnOk P w K mg base CX0 n f fd ps sp
  b : L2.Binds K fd ps []
  g : mg x = some (.ref f)
  kp : PySem.W.keepIn K (.ref f) = true
structure FnG1 (P : Program) (w : World) (K : PySem.W.Frag) (mg : Str → Option Value) (base : Heap) (n : Nat) (x : Str) (ps : List Str) (sp : Sp) where
  f : Addr
  fd : FuncData
  ok : FnG P w K mg base CX0 n f fd ps sp
  b : L2.Binds K fd ps []
  g : mg x = some (.ref f)
  kp : PySem.W.keepIn K (.ref f) = true
/-- a def that may raise, as it is called -/
structure FnX (P : Program) (w : World) (K : PySem.W.Frag) (mg : Str → Option Value) (base : Heap) (n : Nat) (x : Str) (ps : List Str) (sp : Sp) where
  f : Addr
  fd : FuncData
  ok : FnOk P w K mg base (L2.CX P w) n f fd ps sp
  b : L2.Binds K fd ps []
  g : mg x = some (.ref f)
  kp : PySem.W.keepIn K (.ref f) = true
theorem NuJ.ext {K : PySem.W.Frag} {H H' : Hp} (s : ExtN H H') {x : L2.V} {o : Option Int} : NuJ K H x o → NuJ K H' x o
  | .int i => .int i
  | .bl b => .bl b
  | .no h z zb => .no (TyX.ext s h) z zb
theorem ko_non (K : PySem.W.Frag) : PySem.W.kitOne K (.type "NoneType") (.type "int") = some false ∧ PySem.W.kitOne K (.type "NoneType") (.type "bool") = some false := ⟨by kernel_rfl, by kernel_rfl⟩
theorem ko_str (K : PySem.W.Frag) : PySem.W.kitOne K (.type "str") (.type "int") = some false ∧ PySem.W.kitOne K (.type "str") (.type "bool") = some false := ⟨by kernel_rfl, by kernel_rfl⟩
theorem ko_tup (K : PySem.W.Frag) : PySem.W.kitOne K (.type "tuple") (.type "int") = some false ∧ PySem.W.kitOne K (.type "tuple") (.type "bool") = some false := ⟨by kernel_rfl, by kernel_rfl⟩
theorem KeptN.put {d lg q : Addr} {H0 Hn Hx : Hp} {o : HO} (n : KeptN d lg H0 Hn) (nq : Hn q = none) (k : KeptN d lg H0 Hx) : KeptN d lg H0 (upd Hx q o) := fun b u e h1 h2 ht => by
  rw [upd_ne (fun z => by have := n b u e h1 h2 ht; rw [z, nq] at this; cases this)]
  exact k b u e h1 h2 ht
theorem Tabs.put {T : List (Addr × Str)} {H : Hp} {q : Addr} {xs : List L2.V} {o : HO} (e : H q = some (.lst xs)) (t : Tabs T H) : Tabs T (upd H q o) := fun p hp => by
  obtain ⟨ps, h1, h2, h3⟩ := t p hp
  refine ⟨ps, by rw [upd_ne (fun z => by rw [z, e] at h1; cases h1)]; exact h1, h2, fun pos cv hc => ?_⟩
  obtain ⟨c, e1, e2⟩ := h3 pos cv hc
  exact ⟨c, e1, by rw [upd_ne (fun z => by rw [z, e] at e2; unfold CodeO at e2; cases e2)]; exact e2⟩
theorem exr_ne {cls : Value} {d : Option Addr} {a : Addr} : (∀ ps, ExR cls d a ≠ .tbl ps) ∧ (∀ xs, ExR cls d a ≠ .lst xs) ∧ ∀ ks, ExR cls d a ≠ .dK ks := ⟨fun _ z => (by unfold ExR at z; cases z), fun _ z => (by unfold ExR at z; cases z), fun _ z => (by unfold ExR at z; cases z)⟩
structure Tc (base : Heap) (mg : Str → Option Value) (T : List (Addr × Str)) (q : Str) (c Pt : Addr) : Prop where
  TB : TabB base mg c Pt
  mem : (Pt, q ++ ".<locals>." ++ "<lambda>") ∈ T
  uq : ∀ p ∈ T, p.1 = Pt → p.2 = q ++ ".<locals>." ++ "<lambda>"
theorem rp_bad {CB : Addr} {H H1 : Hp} (s : Same H H1) : Rp CB H1 (fun cls dd H' => cls = .ref CB ∧ dd = none ∧ Same H H') := fun H' s' => ⟨rfl, rfl, s.trans s'⟩
theorem FunC.okG {P : Program} {w : World} {K : PySem.W.Frag} {mg : Str → Option Value} {base : Heap} {x qual : Str} {st : Stmt} {f c : Addr} {fd : FuncData} {N ps : List Str} {k : Nat} {sp : Sp} (F : FunC K x qual st f fd c) (S : FnScope N ps (defScope st)) (len : ∀ vs H Q E, sp vs H Q E → vs.length = ps.length)
    (hbody : ∀ (A : Around) (outer : List Env) (s : Shared) (H : Hp) (vs : List L2.V) (Q : VK) (E : XK), A.guards = some [] → Room k (A.deeper (envOfC qual (defScope st) s.heap.objs.size f (.ref c))) → sp vs H Q E →
      ∃ t, PSs (cxOf L2.CX0 P w K mg base N qual (defScope st) f (.ref c) A outer s H E).nox (defBody st) t ∧ t { nx := fun _ H' => Q .non H', rt := Q } (L2.start N vs) H) : FnG P w K mg base L2.CX0 (k + 1) f fd ps sp := by
  obtain ⟨oc, od, kV, doc, pm, an, ct, osl, rfl, lk, hcd⟩ := F.ex
  refine fng_of lk hcd S len fun A outer s H vs Q E hga hr hsp => ?_
  obtain ⟨t, h, q⟩ := hbody A outer s H vs Q E hga hr hsp
  exact ⟨t, h.nox, q⟩
theorem op_addK {X : Cx} : OpR X (binaryOp .Add) (fun x y H Q => ∃ i j k : Int, x = .int i ∧ y = .int j ∧ i + j = k ∧ Q (.int k) H) := by
  intro pins s σ H x y v u Q I rx ry h
  obtain ⟨i, j, k, ex, ey, rfl, q⟩ := h
  exact op_add pins s σ H x y v u Q I rx ry ⟨i, j, ex, ey, q⟩
end K03


set_option Elab.async false
set_option maxRecDepth 100000
set_option maxHeartbeats 4000000
set_option linter.all false
/-! what stays where tables of code grow; errors that are caught; wrong rows -/
namespace K03
open PySem PySem.Spec PyProof.Rows L2 NetM LamX GL
theorem NuL.ext {K : PySem.W.Frag} {H H' : Hp} (s : ExtN H H') : ∀ {xs : List V} {os : List (Option Int)}, NuL K H xs os → NuL K H' xs os
  | _, _, .nil => .nil
  | _, _, .cons h r => .cons (NuJ.ext s h) (r.ext s)
theorem RowV.ext {K : PySem.W.Frag} {H H' : Hp} (s : ExtN H H') {n : Nat} {x : V} {b : Bool} : RowV K H n x b → RowV K H' n x b
  | .no h z => .no (TyX.ext s h) z
  | .len h z l => .len (sqt_ext s h) z l
  | .row h l nl => .row (sqt_ext s h) l (nl.ext s)
theorem NetG.ext {K : PySem.W.Frag} {CN : Addr} {H H' : Hp} {a : Addr} {n : Nat} {zs : Prs} (s : ExtN H H') (N : NetG K CN H a n zs) : NetG K CN H' a n zs := { N with at_ := NetAt.ext s N.at_ }
theorem NetG.same {K : PySem.W.Frag} {CN : Addr} {H H' : Hp} {a : Addr} {n : Nat} {zs : Prs} (s : Same H H') (N : NetG K CN H a n zs) : NetG K CN H' a n zs := N.ext (ExtN.same s)
theorem LNet.ext {H H' : Hp} {x ps : Addr} {n : Nat} {us : Zs} (s : ExtN H H') (h : LNet H x ps n us) : LNet H' x ps n us := ⟨s _ _ h.e (fun _ z => by cases z), s _ _ h.et (fun _ z => by cases z), pl_ext s h.p⟩
/-- a dict of another shape than the draws' -/
theorem netL_ne {n : Nat} {ps lg cl : Addr} {r t : Int} : HO.dK (netL n ps) ≠ HO.dK (drawL lg cl r t) := fun z => by
  have := HO.dK.inj z
  unfold netL drawL at this
  simp at this
theorem LNet.kept {H H' : Hp} {d lg cl x ps : Addr} {n : Nat} {us : Zs} (D : DrawAt H d lg cl) (k : KeptN d lg H H') (pl : ps ≠ lg) (h : LNet H x ps n us) : LNet H' x ps n us := by
  obtain ⟨⟨r, t, hd⟩, ⟨L, hL, hl⟩, _, _⟩ := id D
  refine ⟨k _ _ h.e (fun z => ?_) (fun z => ?_) (fun _ z => by cases z), k _ _ h.et (fun z => ?_) pl (fun _ z => by cases z), fun z m => k _ _ (h.p z m) (fun e => ?_) (fun e => ?_) (fun _ z => by cases z)⟩
  · have := h.e
    rw [z, hd] at this
    exact netL_ne (Option.some.inj this).symm
  · have := h.e
    rw [z, hl] at this
    cases this
  · have := h.et
    rw [z, hd] at this
    cases this
  · have := h.p z m
    rw [e, hd] at this
    cases this
  · have := h.p z m
    rw [e, hl] at this
    cases this
theorem NetAt.kept {K : PySem.W.Frag} {CN : Addr} {H H' : Hp} {d lg cl a : Addr} {n : Nat} {zs : Prs} (D : DrawAt H d lg cl) (k : KeptN d lg H H') (N : NetAt K CN H a n zs) : NetAt K CN H' a n zs := by
  obtain ⟨⟨r, t0, hd⟩, ⟨L, hL, hl⟩, _, _⟩ := id D
  obtain ⟨dx, t, us, e, et, p, rfl⟩ := N
  have key : ∀ {b : Addr} {o : HO}, H b = some o → (∀ ks, o ≠ .dK ks) → (∀ xs, o ≠ .lst xs) → (∀ ps, o ≠ .tbl ps) → H' b = some o := fun {b o} e n1 n2 n3 => k b o e (fun z => by rw [z, hd] at e; exact n1 _ (Option.some.inj e).symm) (fun z => by rw [z, hl] at e; exact n2 _ (Option.some.inj e).symm) n3
  refine ⟨dx, t, us, key e (fun _ z => by cases z) (fun _ z => by cases z) (fun _ z => by cases z), key et (fun _ z => by cases z) (fun _ z => by cases z) (fun _ z => by cases z), fun z m => ?_, rfl⟩
  rcases p z m with (h | ⟨o, h⟩) | h
  · exact .inl (.inl (key h (fun _ z => by cases z) (fun _ z => by cases z) (fun _ z => by cases z)))
  · exact .inl (.inr ⟨o, key h (fun _ z => by cases z) (fun _ z => by cases z) (fun _ z => by cases z)⟩)
  · exact .inr h
theorem NetG.kept {K : PySem.W.Frag} {CN : Addr} {H H' : Hp} {d lg cl a : Addr} {n : Nat} {zs : Prs} (D : DrawAt H d lg cl) (k : KeptN d lg H H') (N : NetG K CN H a n zs) : NetG K CN H' a n zs := { N with at_ := NetAt.kept D k N.at_ }
theorem tup_kept {H H' : Hp} {d lg cl a : Addr} {xs : List V} (D : DrawAt H d lg cl) (k : KeptN d lg H H') (e : H a = some (.tup xs)) : H' a = some (.tup xs) := by
  obtain ⟨⟨r, t0, hd⟩, ⟨L, hL, hl⟩, _, _⟩ := id D
  exact k _ _ e (fun z => by rw [z, hd] at e; cases e) (fun z => by rw [z, hl] at e; cases e) (fun _ z => by cases z)
theorem tup_ext {H H' : Hp} {a : Addr} {xs : List V} (s : ExtN H H') (e : H a = some (.tup xs)) : H' a = some (.tup xs) := s _ _ e (fun _ z => by cases z)
theorem lst_ext {H H' : Hp} {a : Addr} {xs : List V} (s : ExtN H H') (e : H a = some (.lst xs)) : H' a = some (.lst xs) := s _ _ e (fun _ z => by cases z)
/-! ### errors that are caught -/
/-- what the text says of BadRow where it is caught -/
structure BadR (K : PySem.W.Frag) (CR CW : Addr) : Prop where
  ex : ExcC K CR
  exm : PySem.W.exmOne K (.ref CR) (.ref CW) = some true
  one : PySem.W.kitOne K (.ref CR) (.ref CR) = some true
theorem ttc_row {K : PySem.W.Frag} {CR CW : Addr} {tl : XK → Hp → VK → Prop} {H : Hp} {Q : VK} (N : BadR K CR CW) (h : tl (fun cls dd H' => cls = .ref CR ∧ dd = none ∧ Same H H') H (fun _ _ => False))
    (k : ∀ a H', Same H H' → H' a = some (ExR (.ref CR) none a) → Q (.ref a) H') : TTc K CW tl H Q :=
  ⟨_, _, h, fun cls dd H' q => by
    obtain ⟨rfl, rfl, r⟩ := q
    exact ⟨N.exm, fun a na => k a _ (r.trans (same_upd na)) upd_same⟩, fun v H' q => q.elim⟩
theorem ttc_net {K : PySem.W.Frag} {CB CW : Addr} {tl : XK → Hp → VK → Prop} {H : Hp} {Q : VK} (N : BadN K CB CW) (h : tl (fun cls dd H' => cls = .ref CB ∧ ∃ d', dd = some d' ∧ H' d' = some (.xd [("part", .non)]) ∧ Same H H') H (fun _ _ => False))
    (k : ∀ a d' H', Same H H' → H' a = some (ExR (.ref CB) (some d') a) → H' d' = some (.xd [("part", .non)]) → Q (.ref a) H') : TTc K CW tl H Q :=
  ⟨_, _, h, fun cls dd H' q => by
    obtain ⟨rfl, d', rfl, e, r⟩ := q
    refine ⟨N.exm, fun a na => k a d' _ (r.trans (same_upd na)) upd_same ?_⟩
    rw [upd_ne (ne_of_none e na)]
    exact e, fun v H' q => q.elim⟩
theorem rz_non {CB : Addr} {H H1 : Hp} (s : Same H H1) : Rz CB H1 (fun cls dd H' => cls = .ref CB ∧ ∃ d', dd = some d' ∧ H' d' = some (.xd [("part", .non)]) ∧ Same H H') .non := fun d H' _ s' e => ⟨rfl, d, rfl, e, s.trans s'⟩
theorem op_mulS {X : Cx} : OpR X (binaryOp .Mult) (fun x y H Q => ∃ n : Nat, x = .str "1" ∧ y = .int n ∧ 1 ≤ n ∧ n ≤ 8 ∧ ∀ z, Q (.str z) H) := by
  intro pins s σ H x y v u Q I rx ry h
  obtain ⟨n, rfl, rfl, h1, h8, q⟩ := h
  obtain ⟨t, rfl⟩ := rx
  obtain ⟨t', rfl⟩ := ry
  have key : ∀ m, 1 ≤ m → m ≤ 8 → MulOk "1" ((m : Nat) : Int) := fun m a b => by
    have : m = 1 ∨ m = 2 ∨ m = 3 ∨ m = 4 ∨ m = 5 ∨ m = 6 ∨ m = 7 ∨ m = 8 := by omega
    rcases this with rfl | rfl | rfl | rfl | rfl | rfl | rfl | rfl <;> exact ⟨by decide, fun _ _ => by decide, fun _ _ => by decide⟩
  exact SB.mul (key n h1 h8) fun t2 k => ⟨.str _, H, I.tok _, ⟨_, rfl⟩, q _⟩
/-- a wrong row -/
def RowBad (n : Nat) (H : Hp) (x : V) : Prop := x = .non ∨ (∃ z, x = .str z) ∨ (∃ a xs, x = .ref a ∧ H a = some (.lst xs)) ∨ (∃ a xs, x = .ref a ∧ H a = some (.tup xs) ∧ xs.length ≠ n ∧ xs.length ≤ 1000) ∨ ∃ (a : Addr) (xs : List Int), x = .ref a ∧ H a = some (.tup (.bl true :: xs.map V.int)) ∧ xs.length + 1 = n
theorem RowBad.ext {n : Nat} {H H' : Hp} {x : V} (s : ExtN H H') (h : RowBad n H x) : RowBad n H' x := by
  rcases h with h | h | ⟨a, xs, e, h⟩ | ⟨a, xs, e, h, g⟩ | ⟨a, xs, e, h, g⟩
  · exact .inl h
  · exact .inr (.inl h)
  · exact .inr (.inr (.inl ⟨a, xs, e, lst_ext s h⟩))
  · exact .inr (.inr (.inr (.inl ⟨a, xs, e, tup_ext s h, g⟩)))
  · exact .inr (.inr (.inr (.inr ⟨a, xs, e, tup_ext s h, g⟩)))
theorem kt_non (K : PySem.W.Frag) : PySem.W.kitOne K (.type "NoneType") (.type "tuple") = some false := by kernel_rfl
theorem kt_strt (K : PySem.W.Frag) : PySem.W.kitOne K (.type "str") (.type "tuple") = some false := by kernel_rfl
theorem kt_lst (K : PySem.W.Frag) : PySem.W.kitOne K (.type "list") (.type "tuple") = some false := by kernel_rfl
theorem RowBad.row {K : PySem.W.Frag} {n : Nat} {H : Hp} {x : V} (h : RowBad n H x) : RowV K H n x false := by
  rcases h with rfl | ⟨z, rfl⟩ | ⟨a, xs, rfl, h⟩ | ⟨a, xs, rfl, h, g, g2⟩ | ⟨a, xs, rfl, h, g⟩
  · exact .no (.base .non) (kt_non K)
  · exact .no (.base (.str z)) (kt_strt K)
  · exact .no (.base (.lst h)) (kt_lst K)
  · exact .len (SqT.of h) g g2
  · have : RowV K H n (.ref a) (allS (none :: xs.map some)) := .row (SqT.of h) (by rw [List.length_cons, List.length_map]; exact g) (.cons (.bl true) (nul_ints xs))
    exact this
end K03


set_option Elab.async false
set_option maxRecDepth 100000
set_option maxHeartbeats 4000000
set_option linter.all false
/-! sorted(xs) of tuples of ints, and of pairs of an int and such a tuple: any number of them -/
namespace SrtO
open PySem PyProof.Rows
theorem swo_rank (r : Value → Int) : Swo fun v u => decide (r v < r u) := by
  refine ⟨fun x y h => ?_, fun x y z h1 h2 => ?_⟩
  · have := of_decide_eq_true h
    exact decide_eq_false (by omega)
  · have a := of_decide_eq_false h1
    have b := of_decide_eq_false h2
    exact decide_eq_false (by omega)
section
variable {prog : Program} {w : World} {A : Around} {E : Value → Shared → Prop} {s : Shared}
theorem rows_sortableO {a : Addr} {vs : List Value} {d : Nat} {B : Int} (hd : 1 ≤ d) (h0 : 0 < vs.length) (x : TS.TupsOk s.heap d B vs) (r : Value → Int) (hr : ∀ v ∈ vs, ∀ ns, TS.TupInts s.heap v ns → r v = TS.code B ns) (ha : ∀ o, s.heap.get? a = some o → o.cls ≠ .type "tuple") :
    SortableO prog w A s a vs fun v u => decide (r v < r u) := by
  intro h' keep
  have kp : ∀ b o, s.heap.get? b = some o → o.cls = .type "tuple" → h'.get? b = some o := fun b o e c => keep b o (fun z => by subst z; exact ha o e c) e
  have x' : TS.TupsOk h' d B vs := x.keeps kp
  obtain ⟨fs, h1, h2, h3⟩ := TS.firsts_of hd vs x'
  refine ⟨tuples' true, fun Q E hq => ?_, ?_⟩
  · refine PySem.W.kat_kind (T := .type "int") h1 (by omega) (fun f hm => ?_) (by rfl) ?_
    · obtain ⟨x, t, rfl⟩ := h3 f hm
      exact PySem.W.Looks.now
    · have e : (Value.type "int" != Value.type "tuple") = true := by first | decide +kernel | rfl | decide
      rw [e]
      exact hq
  · intro p q hm hm'
    have g1 := x p.1 hm
    have g2 := x q.1 hm'
    obtain ⟨ns, t1, l1, b1⟩ := g1
    obtain ⟨ms, t2, l2, b2⟩ := g2
    have r1 := hr _ hm ns t1
    have r2 := hr _ hm' ms t2
    show wpAny (model prog w) A (keyLt' (tuples' true) p.1 q.1) (fun c s' => s' = { s with heap := h' } ∧ c = decide (r p.1 < r q.1)) (fun _ _ => False) { s with heap := h' }
    rw [r1, r2]
    obtain ⟨c1, xs, e1, ⟨o1, ho1, hc1, n1, hd1⟩, i1⟩ := t1.keeps kp
    obtain ⟨c2, ys, e2, ⟨o2, ho2, hc2, n2, hd2⟩, i2⟩ := t2.keeps kp
    rw [e1, e2]
    refine PySem.W.kat_lt ho1 hd1 ho2 hd2 ?_
    have hsz : ¬ xs.size < ys.size := by
      have z1 := i1.length
      have z2 := i2.length
      rw [Array.length_toList] at z1 z2
      omega
    rw [decide_eq_false hsz]
    exact TS.lex_ints 0 i1 i2 (by omega) b1 b2 ⟨rfl, rfl⟩
/-- sorted(l), any number of rows -/
theorem sorted_rowsO {l : Addr} {vs : List Value} {d : Nat} {B : Int} {Q : Value → Shared → Prop} (hl : s.heap.IsList l vs.toArray) (hz : vs.length ≤ sizeLine) (hd : 1 ≤ d) (x : TS.TupsOk s.heap d B vs)
    (h : ∀ out : Array Value, out.toList.Perm vs → out.toList.Pairwise (fun u v => TS.code B (TS.intsOf s.heap u) ≤ TS.code B (TS.intsOf s.heap v)) → Q (.ref (s.heap.objs.size + 1)) { s with heap := sortedAll s.heap vs out }) :
    wpAny (model prog w) A (call (.builtin "sorted") [.ref l]) Q E s := by
  refine sorted_ord (ltv := fun v u => decide (TS.code B (TS.intsOf s.heap v) < TS.code B (TS.intsOf s.heap u))) (swo_rank _) hl hz (fun h2 h₁ a ha kk => ?_) fun out hs hb => ?_
  · have kp : ∀ b o, s.heap.get? b = some o → o.cls = .type "tuple" → h₁.get? b = some o := fun b o e _ => (kk b o e).2
    refine rows_sortableO (s := { s with heap := h₁ }) hd (by omega) (x.keeps kp) (fun v => TS.code B (TS.intsOf s.heap v)) (fun v hm ns t => ?_) fun o e => ?_
    · obtain ⟨ns0, t0, _⟩ := x v hm
      have e : ns = ns0 := t.ints.symm.trans (t0.keeps kp).ints
      rw [e]
      show TS.code B (TS.intsOf s.heap v) = TS.code B ns0
      rw [t0.ints]
    · have e' : some o = some (seqObj "list" vs.toArray 0) := e.symm.trans ha
      cases e'
      intro c
      exact absurd (Value.type.inj c) (by decide)
  · have h1 : out.toArray.toList = out := by simp
    refine h out.toArray (by rw [h1]; exact hb.perm) ?_
    rw [h1]
    refine List.Pairwise.imp (fun {u v} huv => ?_) hs
    have := of_decide_eq_false huv
    omega
end
end SrtO
namespace K03
open PySem PySem.Spec PyProof.Rows L2
section
variable {X : Cx}
def rSortR (K : PySem.W.Frag) (d : Nat) (B : Int) : List V → Hp → VK → Prop := fun vs H Q => ∃ (a : Addr) (xs : List V), vs = [V.ref a] ∧ SqL K H a xs ∧ (∀ x ∈ xs, ∃ ns, TupI K H x ns ∧ ns.length = d ∧ TS.Bd B ns) ∧
  ∀ (ys : List V) (p : Addr), ys.Perm xs → ys.Pairwise (fun x y => ∀ n m, TupI K H x n → TupI K H y m → TS.code B n ≤ TS.code B m) → H p = none → Q (.ref p) (upd H p (.lst ys))
theorem cr_sortR {d : Nat} {B : Int} (hd : 1 ≤ d) : CallR X (.builtin "sorted") (rSortR X.K d B) := by
  intro pins s σ H vs us Q I r h
  obtain ⟨a, xs, rfl, hs, hx, q⟩ := h
  obtain ⟨its, rv, hl, hz⟩ := I.list hs
  rw [Vals.ref1 r]
  obtain ⟨e1, e2⟩ := bkV_refs rv fun x m => by
    obtain ⟨ns, ⟨t, e, _⟩, _⟩ := hx x m
    exact ⟨t, e⟩
  refine SrtO.sorted_rowsO (d := d) (B := B) hl.isList (by rw [← rv.length]; exact hz) hd (fun v hv => ?_) fun out h1 h2 => ?_
  · obtain ⟨t, rfl⟩ := e2 v hv
    have hm : V.ref t ∈ xs := by
      rw [e1]
      exact List.mem_map.mpr ⟨_, hv, rfl⟩
    obtain ⟨ns, ⟨t', e, ht⟩, hn, hb⟩ := hx _ hm
    cases e
    exact ⟨ns, tupI_raw I ht, hn, hb⟩
  · obtain ⟨ep, he'⟩ := PyProof.Rows.sortedAll_at s.heap its out
    have h3 : ∀ u ∈ out.toList, ∃ a, u = Value.ref a := fun u hu => e2 u (h1.mem_iff.mp hu)
    have hp : (out.toList.map bkV).Perm xs := by
      rw [e1]
      exact h1.map bkV
    have hlen : (out.toList.map bkV).length ≤ sizeLine := by
      rw [hp.length_eq]
      exact hz
    refine ⟨.ref _, upd H (s.heap.objs.size + 1) (.lst (out.toList.map bkV)), I.laid (t' := s.toks) (fun _ _ => PyProof.Rows.sortedAll_old) (Nat.le_succ _) ⟨hlen, out.toList, ep, bkV_vals h3, he'⟩, rfl, q _ _ hp ?_ (I.hok.fresh (Nat.le_succ _))⟩
    rw [List.pairwise_map]
    refine List.Pairwise.imp (fun {u v} huv n m hn hm => ?_) h2
    obtain ⟨t, et, ht⟩ := hn
    obtain ⟨t', et', ht'⟩ := hm
    have eu := bkV_ref et
    have ev := bkV_ref et'
    have i1 : TS.intsOf s.heap u = n := by
      rw [eu]
      exact (tupI_raw I ht).ints
    have i2 : TS.intsOf s.heap v = m := by
      rw [ev]
      exact (tupI_raw I ht').ints
    rw [← i1, ← i2]
    exact huv
end
end K03


set_option Elab.async false
set_option maxRecDepth 100000
set_option maxHeartbeats 4000000
set_option linter.all false
/-! sorted(xs) of pairs of an int and a tuple of ints -/
namespace SrtO
open PySem PyProof.Rows
/-- the value is a pair (m, (n, ..)) -/
def PrI (h : Heap) (v : Value) (m : Int) (ns : List Int) : Prop := ∃ (a b : Addr) (t : Tok), v = .ref a ∧ IsTup h a #[.int m t, .ref b] ∧ TS.TupInts h (.ref b) ns
theorem PrI.keeps {h h' : Heap} {v : Value} {m : Int} {ns : List Int} (x : PrI h v m ns) (k : ∀ b o, h.get? b = some o → o.cls = .type "tuple" → h'.get? b = some o) : PrI h' v m ns := by
  obtain ⟨a, b, t, e, ⟨o, ho, hc, hd⟩, i⟩ := x
  exact ⟨a, b, t, e, ⟨o, k _ _ ho hc, hc, hd⟩, i.keeps k⟩
theorem PrI.inj {h : Heap} {v : Value} {m m' : Int} {ns ns' : List Int} (x : PrI h v m ns) (y : PrI h v m' ns') : m = m' ∧ ns = ns' := by
  obtain ⟨a, b, t, e, ⟨o, ho, hc, n, hd⟩, i⟩ := x
  obtain ⟨a', b', t', e', ⟨o', ho', hc', n', hd'⟩, i'⟩ := y
  rw [e] at e'
  cases e'
  rw [ho] at ho'
  cases ho'
  rw [hd] at hd'
  injection hd' with h1 h2
  have h3 := congrArg Array.toList h1
  simp only [List.cons.injEq] at h3
  obtain ⟨h4, h5, _⟩ := h3
  cases h4
  cases h5
  exact ⟨rfl, i.ints.symm.trans i'.ints⟩
def PrsOk (h : Heap) (d : Nat) (B : Int) (vs : List Value) : Prop := ∀ v ∈ vs, ∃ m ns, PrI h v m ns ∧ ns.length = d ∧ TS.Bd B (m :: ns)
theorem PrsOk.keeps {h h' : Heap} {d : Nat} {B : Int} {vs : List Value} (x : PrsOk h d B vs) (k : ∀ b o, h.get? b = some o → o.cls = .type "tuple" → h'.get? b = some o) : PrsOk h' d B vs := fun v m => by
  obtain ⟨a, ns, p, r⟩ := x v m
  exact ⟨a, ns, p.keeps k, r⟩
theorem firsts_prs {h : Heap} {d : Nat} {B : Int} : ∀ vs : List Value, PrsOk h d B vs → ∃ fs, PySem.W.KatTups h vs fs ∧ fs.length = vs.length ∧ ∀ f ∈ fs, ∃ n t, f = Value.int n t
  | [], _ => ⟨[], PySem.W.KatTups.nil, rfl, fun f hf => by simp at hf⟩
  | v :: vs, x => by
    obtain ⟨fs, k, hl, hi⟩ := firsts_prs vs fun u hu => x u (List.mem_cons_of_mem _ hu)
    obtain ⟨m, ns, ⟨a, b, t, rfl, ⟨o, ho, hc, n, hdt⟩, i⟩, hn, _⟩ := x v (List.mem_cons_self ..)
    refine ⟨.int m t :: fs, PySem.W.KatTups.cons ho hc hdt rfl k, by simp [hl], fun f hf => ?_⟩
    rcases List.mem_cons.mp hf with rfl | hf
    · exact ⟨m, t, rfl⟩
    · exact hi f hf
theorem lexLt_code {B : Int} : ∀ (ns ms : List Int), ns.length = ms.length → TS.Bd B ns → TS.Bd B ms → HT.lexLt ns ms = decide (TS.code B ns < TS.code B ms)
  | [], [], _, _, _ => by
    rw [HT.lexLt_nil_nil]
    exact (decide_eq_false (Int.lt_irrefl _)).symm
  | x :: xs, y :: ys, hl, h1, h2 => by
    have hl' : xs.length = ys.length := by simpa using hl
    rw [HT.lexLt_cons]
    by_cases e : x = y
    · subst e
      rw [if_pos rfl, lexLt_code xs ys hl' h1.tail h2.tail]
      exact decide_eq_decide.mpr (TS.code_same hl').symm
    · rw [if_neg e]
      refine decide_eq_decide.mpr ⟨fun q => TS.code_lt hl' h1.tail h2.tail q, fun q => ?_⟩
      rcases Int.lt_trichotomy x y with z | z | z
      · exact z
      · exact absurd z e
      · have := TS.code_lt hl'.symm h2.tail h1.tail z
        omega
section
variable {prog : Program} {w : World} {A : Around} {E : Value → Shared → Prop} {s : Shared}
theorem isT_of {h : Heap} {b : Addr} {ns : List Int} (x : TS.TupInts h (.ref b) ns) : L2.IsT prog w h ns b := by
  obtain ⟨a, xs, e, ⟨o, ho, hc, n, hd⟩, i⟩ := x
  cases e
  refine ⟨o, xs, n, ho, hc, hd, ?_⟩
  generalize xs.toList = l at i
  induction i with
  | nil => exact .nil
  | cons k t _ ih => exact .cons (by show Value.isInt k (.int k t) = true; exact beq_self_eq_true k) ih
theorem prs_sortableO {a : Addr} {vs : List Value} {d : Nat} {B : Int} (hu : A.units < cLine) (h0 : 0 < vs.length) (x : PrsOk s.heap d B vs) (r : Value → Int) (hr : ∀ v ∈ vs, ∀ m ns, PrI s.heap v m ns → r v = TS.code B (m :: ns)) (ha : ∀ o, s.heap.get? a = some o → o.cls ≠ .type "tuple") :
    SortableO prog w A s a vs fun v u => decide (r v < r u) := by
  intro h' keep
  have kp : ∀ b o, s.heap.get? b = some o → o.cls = .type "tuple" → h'.get? b = some o := fun b o e c => keep b o (fun z => by subst z; exact ha o e c) e
  have x' : PrsOk h' d B vs := x.keeps kp
  obtain ⟨fs, h1, h2, h3⟩ := firsts_prs vs x'
  refine ⟨tuples' true, fun Q E hq => ?_, ?_⟩
  · refine PySem.W.kat_kind (T := .type "int") h1 (by omega) (fun f hm => ?_) (by rfl) ?_
    · obtain ⟨x, t, rfl⟩ := h3 f hm
      exact PySem.W.Looks.now
    · have e : (Value.type "int" != Value.type "tuple") = true := by first | decide +kernel | rfl | decide
      rw [e]
      exact hq
  · intro p q hm hm'
    obtain ⟨m1, ns, t1, l1, b1⟩ := x p.1 hm
    obtain ⟨m2, ms, t2, l2, b2⟩ := x q.1 hm'
    have r1 := hr _ hm m1 ns t1
    have r2 := hr _ hm' m2 ms t2
    show wpAny (model prog w) A (keyLt' (tuples' true) p.1 q.1) (fun c s' => s' = { s with heap := h' } ∧ c = decide (r p.1 < r q.1)) (fun _ _ => False) { s with heap := h' }
    rw [r1, r2]
    obtain ⟨c1, d1, u1, e1, ⟨o1, ho1, hc1, n1, hd1⟩, i1⟩ := t1.keeps kp
    obtain ⟨c2, d2, u2, e2, ⟨o2, ho2, hc2, n2, hd2⟩, i2⟩ := t2.keeps kp
    rw [e1, e2]
    refine PySem.W.kat_lt ho1 hd1 ho2 hd2 ?_
    show PySem.W.KatLex prog w A true (decide (2 < 2)) _ [(.int m1 u1, .int m2 u2), (.ref d1, .ref d2)] 0 _
    refine PySem.W.kat_cons (wpAny_eqBool_int ?_)
    by_cases e : m1 = m2
    · subst e
      rw [beq_self_eq_true]
      refine PySem.W.kat_yes (PySem.W.kat_cons (PySem.wpAny_eqBool_tuple hu (isT_of i1) (isT_of i2) ?_))
      have ec : decide (TS.code B (m1 :: ns) < TS.code B (m1 :: ms)) = decide (TS.code B ns < TS.code B ms) := decide_eq_decide.mpr (TS.code_same (by omega))
      by_cases e3 : ns = ms
      · rw [decide_eq_true e3]
        refine PySem.W.kat_yes (PySem.W.kat_nil ⟨rfl, ?_⟩)
        rw [ec, e3]
        exact (decide_eq_false (Int.lt_irrefl _)).symm
      · rw [decide_eq_false e3]
        obtain ⟨a1, x1, ea1, T1, j1⟩ := i1
        obtain ⟨a2, x2, ea2, T2, j2⟩ := i2
        cases ea1
        cases ea2
        refine PySem.W.kat_no (PySem.W.kat_one _ _ (HT.lt_tupInts T1 T2 j1 j2 hu ?_))
        refine ⟨rfl, ?_⟩
        rw [ec]
        exact lexLt_code ns ms (by omega) b1.tail b2.tail
    · rw [show (m1 == m2) = false from beq_eq_false_iff_ne.mpr e]
      refine PySem.W.kat_no (TS.oneLt_ints _ ?_)
      refine ⟨rfl, ?_⟩
      refine decide_eq_decide.mpr ⟨fun z => TS.code_lt (by omega) b1.tail b2.tail z, fun z => ?_⟩
      rcases Int.lt_trichotomy m1 m2 with y | y | y
      · exact y
      · exact absurd y e
      · have := TS.code_lt (B := B) (show ms.length = ns.length by omega) b2.tail b1.tail y
        omega
theorem sorted_prsO {l : Addr} {vs : List Value} {d : Nat} {B : Int} {Q : Value → Shared → Prop} (hu : A.units + 2 < cLine) (hl : s.heap.IsList l vs.toArray) (hz : vs.length ≤ sizeLine) (x : PrsOk s.heap d B vs) (r : Value → Int) (hr : ∀ v ∈ vs, ∀ m ns, PrI s.heap v m ns → r v = TS.code B (m :: ns))
    (h : ∀ out : Array Value, out.toList.Perm vs → out.toList.Pairwise (fun u v => r u ≤ r v) → Q (.ref (s.heap.objs.size + 1)) { s with heap := sortedAll s.heap vs out }) :
    wpAny (model prog w) A (call (.builtin "sorted") [.ref l]) Q E s := by
  refine sorted_ord (ltv := fun v u => decide (r v < r u)) (swo_rank _) hl hz (fun h2 h₁ a ha kk => ?_) fun out hs hb => ?_
  · have kp : ∀ b o, s.heap.get? b = some o → o.cls = .type "tuple" → h₁.get? b = some o := fun b o e _ => (kk b o e).2
    refine prs_sortableO (s := { s with heap := h₁ }) (by show A.units + 1 + 1 < cLine; omega) (by omega) (x.keeps kp) r (fun v hm m ns t => ?_) fun o e => ?_
    · obtain ⟨m0, ns0, t0, _⟩ := x v hm
      obtain ⟨e1, e2⟩ := t.inj (t0.keeps kp)
      rw [e1, e2]
      exact hr v hm m0 ns0 t0
    · have e' : some o = some (seqObj "list" vs.toArray 0) := e.symm.trans ha
      cases e'
      intro c
      exact absurd (Value.type.inj c) (by decide)
  · have h1 : out.toArray.toList = out := by simp
    refine h out.toArray (by rw [h1]; exact hb.perm) ?_
    rw [h1]
    refine List.Pairwise.imp (fun {u v} huv => ?_) hs
    have := of_decide_eq_false huv
    omega
end
end SrtO


set_option Elab.async false
set_option maxRecDepth 100000
set_option maxHeartbeats 4000000
set_option linter.all false
namespace K03
open PySem PySem.Spec PyProof.Rows L2
/-- x is a pair of m and a tuple of ns -/
def PrV (K : PySem.W.Frag) (H : Hp) (x : V) (m : Int) (ns : List Int) : Prop := ∃ t b, x = .ref t ∧ SqT K H t [.int m, .ref b] ∧ SqT K H b (ns.map V.int)
section
variable {X : Cx} {pins : List (Addr × Obj)} {σ : L2.St} {H : Hp} {s : Shared}
theorem prV_raw (I : Inv X pins σ H s) {t b : Addr} {m : Int} {ns : List Int} (h : SqT X.K H t [.int m, .ref b]) (h2 : SqT X.K H b (ns.map V.int)) : SrtO.PrI s.heap (.ref t) m ns := by
  obtain ⟨its, rv, hT, _⟩ := I.tuple h
  cases rv with
  | cons r1 rr =>
    cases rr with
    | cons r2 rn =>
      cases rn
      obtain ⟨tk, rfl⟩ := r1
      cases r2
      exact ⟨t, b, tk, rfl, hT, tupI_raw I h2⟩
def rSortQ (K : PySem.W.Frag) (d : Nat) (B : Int) : List V → Hp → VK → Prop := fun vs H Q => ∃ (a : Addr) (xs : List V), vs = [V.ref a] ∧ SqL K H a xs ∧ (∀ x ∈ xs, ∃ m ns, PrV K H x m ns ∧ ns.length = d ∧ TS.Bd B (m :: ns)) ∧
  ∀ (ys : List V) (p : Addr), ys.Perm xs → ys.Pairwise (fun x y => ∀ m ns m' ns', PrV K H x m ns → PrV K H y m' ns' → TS.code B (m :: ns) ≤ TS.code B (m' :: ns')) → H p = none → Q (.ref p) (upd H p (.lst ys))
theorem cr_sortQ {d : Nat} {B : Int} (hu : X.A.units + 2 < cLine) : CallR X (.builtin "sorted") (rSortQ X.K d B) := by
  intro pins s σ H vs us Q I r h
  obtain ⟨a, xs, rfl, hs, hx, q⟩ := h
  obtain ⟨its, rv, hl, hz⟩ := I.list hs
  rw [Vals.ref1 r]
  obtain ⟨e1, e2⟩ := bkV_refs rv fun x m => by
    obtain ⟨_, ns, ⟨t, b, e, _⟩, _⟩ := hx x m
    exact ⟨t, e⟩
  have got : ∀ v ∈ its, ∃ m ns, SrtO.PrI s.heap v m ns ∧ ns.length = d ∧ TS.Bd B (m :: ns) := fun v hv => by
    obtain ⟨t, rfl⟩ := e2 v hv
    have hm : V.ref t ∈ xs := by
      rw [e1]
      exact List.mem_map.mpr ⟨_, hv, rfl⟩
    obtain ⟨m, ns, ⟨t', b, e, ht, hb⟩, hn, hbd⟩ := hx _ hm
    cases e
    exact ⟨m, ns, prV_raw I ht hb, hn, hbd⟩
  let r0 : Value → Int := fun v => Classical.epsilon fun i => ∃ m ns, SrtO.PrI s.heap v m ns ∧ i = TS.code B (m :: ns)
  have hr : ∀ v m ns, SrtO.PrI s.heap v m ns → r0 v = TS.code B (m :: ns) := fun v m ns p => by
    obtain ⟨m', ns', p', e⟩ := Classical.epsilon_spec (p := fun i => ∃ m ns, SrtO.PrI s.heap v m ns ∧ i = TS.code B (m :: ns)) ⟨_, m, ns, p, rfl⟩
    obtain ⟨z1, z2⟩ := p.inj p'
    show Classical.epsilon _ = _
    rw [e, z1, z2]
  refine SrtO.sorted_prsO (d := d) (B := B) hu hl.isList (by rw [← rv.length]; exact hz) got r0 (fun v _ m ns p => hr v m ns p) fun out h1 h2 => ?_
  obtain ⟨ep, he'⟩ := PyProof.Rows.sortedAll_at s.heap its out
  have h3 : ∀ u ∈ out.toList, ∃ a, u = Value.ref a := fun u hu => e2 u (h1.mem_iff.mp hu)
  have hp : (out.toList.map bkV).Perm xs := by
    rw [e1]
    exact h1.map bkV
  have hlen : (out.toList.map bkV).length ≤ sizeLine := by
    rw [hp.length_eq]
    exact hz
  refine ⟨.ref _, upd H (s.heap.objs.size + 1) (.lst (out.toList.map bkV)), I.laid (t' := s.toks) (fun _ _ => PyProof.Rows.sortedAll_old) (Nat.le_succ _) ⟨hlen, out.toList, ep, bkV_vals h3, he'⟩, rfl, q _ _ hp ?_ (I.hok.fresh (Nat.le_succ _))⟩
  rw [List.pairwise_map]
  refine List.Pairwise.imp (fun {u v} huv m ns m' ns' hn hm => ?_) h2
  obtain ⟨t, b, et, ht, hb⟩ := hn
  obtain ⟨t', b', et', ht', hb'⟩ := hm
  have eu := bkV_ref et
  have ev := bkV_ref et'
  rw [← hr u m ns (by rw [eu]; exact prV_raw I ht hb), ← hr v m' ns' (by rw [ev]; exact prV_raw I ht' hb')]
  exact huv
end
end K03


set_option Elab.async false
set_option maxRecDepth 100000
set_option maxHeartbeats 4000000
set_option linter.all false
/-! the roots of a good net: all that is told of them, worked out on the nets in their first names, and carried along. Pure. -/
namespace K03
open PySem PySem.Spec PyProof.Rows L2 NetM
theorem rowL_congr {n : Nat} {f g : Rw} (h : ∀ p, InR n p → f p = g p) : rowL n f = rowL n g := List.map_congr_left fun p m => h p (mem_rng.mp m)
theorem mem_row {L : List Int} {n : Nat} (hL : L.length = n) {i : Int} (m : i ∈ L) : ∃ p, InR n p ∧ rowF L p = i := by
  obtain ⟨k, hk, e⟩ := List.getElem_of_mem m
  refine ⟨k, inr_nat (by omega), ?_⟩
  rw [rowF_nat, List.getD_eq_getElem?_getD, List.getElem?_eq_getElem hk]
  exact e
theorem row_mem {L : List Int} {n : Nat} (hL : L.length = n) {p : Int} (hp : InR n p) : rowF L p ∈ L := by
  obtain ⟨k, rfl⟩ : ∃ k : Nat, p = k := ⟨p.toNat, by have := hp.1; omega⟩
  have hk : k < L.length := by have := hp.2; omega
  rw [rowF_nat, List.getD_eq_getElem?_getD, List.getElem?_eq_getElem hk]
  exact List.getElem_mem hk
theorem row_ext {L M : List Int} {n : Nat} (hL : L.length = n) (hM : M.length = n) (h : ∀ p, InR n p → rowF L p = rowF M p) : L = M := by
  have e1 := row_id hL
  have e2 := row_id hM
  rw [← e1, ← e2]
  exact rowL_congr h
abbrev Rows := List (List Int)
def unitR (n p : Nat) : List Int := (List.range n).map fun k => if k = p then 1 else 0
def upR (r : List Int) (p : Nat) : List Int := r.set p (r.getD p 0 + 1)
theorem unit_len (n p : Nat) : (unitR n p).length = n := by unfold unitR; rw [List.length_map, List.length_range]
theorem unit_row {n p : Nat} {x : Int} (hx : InR n x) : rowF (unitR n p) x = if x = (p : Int) then 1 else 0 := by
  obtain ⟨k, rfl⟩ : ∃ k : Nat, x = k := ⟨x.toNat, by have := hx.1; omega⟩
  have hk : k < n := by have := hx.2; omega
  rw [rowF_nat, List.getD_eq_getElem?_getD]
  unfold unitR
  rw [List.getElem?_map, List.getElem?_range hk]
  show (if k = p then (1 : Int) else 0) = _
  by_cases c : k = p
  · rw [if_pos c, if_pos (by rw [c])]
  · rw [if_neg c, if_neg (by omega)]
theorem up_len (r : List Int) (p : Nat) : (upR r p).length = r.length := by unfold upR; rw [List.length_set]
theorem up_row {n p : Nat} {r : List Int} (hr : r.length = n) (hp : p < n) {x : Int} (hx : InR n x) : rowF (upR r p) x = if x = (p : Int) then rowF r p + 1 else rowF r x := by
  unfold upR
  rw [rowF_set (by omega) hx.1, rowF_nat]
/-- all that is told of the roots -/
structure RtS (F : Prs) (n : Nat) (top : List Int) (S : Rows) : Prop where
  nd : S.Nodup
  len : ∀ r ∈ S, r.length = n
  bd : ∀ r ∈ S, ∀ i ∈ r, 0 ≤ i ∧ i ≤ 6
  unit : ∀ p, p < n → unitR n p ∈ S
  up : ∀ r ∈ S, ∀ p, p < n → nearS F (rowF r) p ≤ 2 * rowF r p + 1 ∧ (nearS F (rowF r) p = 2 * rowF r p + 1 → upR r p ∈ S)
  dn : ∀ r ∈ S, (∃ p, p < n ∧ r = unitR n p) ∨ ∃ q ∈ S, ∃ p, p < n ∧ nearS F (rowF q) p = 2 * rowF q p + 1 ∧ r = upR q p
  one : ∀ r ∈ S, 1 ≤ r.sum
  topm : top ∈ S
  tops : ∀ r ∈ S, r ≠ top → r.sum < top.sum
  tople : ∀ r ∈ S, ∀ p, p < n → rowF r p ≤ rowF top p
  refl : ∀ r ∈ S, ∀ p, p < n → r ≠ unitR n p → r.set p (nearS F (rowF r) p - rowF r p) ∈ S
  frm1 : ∀ r ∈ S, frm F n (rowF r) = 1
  smb : n < 5 → ∀ r ∈ S, ∀ i ∈ r, i ≤ 3
  small : n < 5 → ∀ r, r.length = n → (∀ i ∈ r, 0 ≤ i ∧ i ≤ 3) → frm F n (rowF r) = 1 → r ∈ S
/-! ### on one net -/
def nextLv (E : Prs) (n : Nat) (Lv : Rows) : Rows := (Lv.flatMap fun r => (List.range n).filterMap fun (p : Nat) => if nearS E (rowF r) p = 2 * rowF r p + 1 then some (upR r p) else none).eraseDups
def lvls (E : Prs) (n : Nat) : Nat → Rows → Rows
  | 0, _ => []
  | k + 1, Lv => if Lv.isEmpty then [] else Lv ++ lvls E n k (nextLv E n Lv)
def rtE (E : Prs) (n : Nat) : Rows := lvls E n 40 ((List.range n).map fun p => unitR n p)
/-- all rows of numbers up to 3 -/
def all3 : Nat → Rows
  | 0 => [[]]
  | n + 1 => (all3 n).flatMap fun r => [0, 1, 2, 3].map fun (i : Int) => i :: r
theorem mem_all3 : ∀ (n : Nat) (r : List Int), r.length = n → (∀ i ∈ r, 0 ≤ i ∧ i ≤ 3) → r ∈ all3 n
  | 0, [], _, _ => List.mem_singleton.mpr rfl
  | n + 1, i :: r, hl, h => by
    have hi := h i (List.mem_cons_self ..)
    refine List.mem_flatMap.mpr ⟨r, mem_all3 n r (by simpa using hl) fun j m => h j (List.mem_cons_of_mem _ m), List.mem_map.mpr ⟨i, ?_, rfl⟩⟩
    have : i = 0 ∨ i = 1 ∨ i = 2 ∨ i = 3 := by omega
    rcases this with rfl | rfl | rfl | rfl <;> simp
def topE (E : Prs) (n : Nat) : List Int := match runS E n 60 (ones n) with
  | some (some L) => L
  | _ => []
def manyW (n w : Nat) : Nat := if goodW n w = 0 then n * (n + 1) / 2 else if goodW n w = 1 then n * (n - 1) else if n = 6 then 36 else if n = 7 then 63 else 120
def rtB (n w : Nat) : Bool := let E := goodP n w; let S := rtE E n; let T := topE E n
  decide S.Nodup && S.all (fun r => decide (r.length = n)) && S.all (fun r => r.all fun i => decide (0 ≤ i) && decide (i ≤ 6)) &&
  ((List.range n).all fun p => S.contains (unitR n p)) &&
  (S.all fun r => (List.range n).all fun (p : Nat) => decide (nearS E (rowF r) p ≤ 2 * rowF r p + 1) && (decide (nearS E (rowF r) p ≠ 2 * rowF r p + 1) || S.contains (upR r p))) &&
  (S.all fun r => ((List.range n).any fun p => r == unitR n p) || (List.range n).any fun (p : Nat) => let q := r.set p (rowF r p - 1); S.contains q && decide (nearS E (rowF q) p = 2 * rowF q p + 1)) &&
  (S.all fun r => decide (1 ≤ r.sum)) && S.contains T && (S.all fun r => r == T || decide (r.sum < T.sum)) && (S.all fun r => (List.range n).all fun (p : Nat) => decide (rowF r p ≤ rowF T p)) &&
  (S.all fun r => (List.range n).all fun (p : Nat) => r == unitR n p || S.contains (r.set p (nearS E (rowF r) p - rowF r p))) && (S.all fun r => decide (frm E n (rowF r) = 1)) &&
  (decide (5 ≤ n) || ((S.all fun r => r.all fun i => decide (i ≤ 3)) && (all3 n).all fun r => decide (frm E n (rowF r) ≠ 1) || S.contains r)) && decide (S.length = manyW n w) && decide (T.length = n)
def rtB0 (n w : Nat) : Bool := let E := goodP n w; let S := rtE E n; let T := topE E n
  decide S.Nodup && S.all (fun r => decide (r.length = n)) && S.all (fun r => r.all fun i => decide (0 ≤ i) && decide (i ≤ 6)) &&
  ((List.range n).all fun p => S.contains (unitR n p)) && (S.all fun r => decide (1 ≤ r.sum)) && S.contains T && (S.all fun r => r == T || decide (r.sum < T.sum)) && (S.all fun r => (List.range n).all fun (p : Nat) => decide (rowF r p ≤ rowF T p)) &&
  (S.all fun r => decide (frm E n (rowF r) = 1)) && (decide (5 ≤ n) || ((S.all fun r => r.all fun i => decide (i ≤ 3)) && (all3 n).all fun r => decide (frm E n (rowF r) ≠ 1) || S.contains r)) && decide (S.length = manyW n w) && decide (T.length = n)
def rtB1 (n w : Nat) : Bool := let E := goodP n w; let S := rtE E n
  S.all fun r => (List.range n).all fun (p : Nat) => decide (nearS E (rowF r) p ≤ 2 * rowF r p + 1) && (decide (nearS E (rowF r) p ≠ 2 * rowF r p + 1) || S.contains (upR r p))
def rtB2 (n w : Nat) : Bool := let E := goodP n w; let S := rtE E n
  S.all fun r => ((List.range n).any fun p => r == unitR n p) || (List.range n).any fun (p : Nat) => let q := r.set p (rowF r p - 1); S.contains q && decide (nearS E (rowF q) p = 2 * rowF q p + 1)
def rtB3 (n w : Nat) : Bool := let E := goodP n w; let S := rtE E n
  S.all fun r => (List.range n).all fun (p : Nat) => r == unitR n p || S.contains (r.set p (nearS E (rowF r) p - rowF r p))
/-- in pieces: the kernel's memory is freed between them -/
theorem rtB_mk {n w : Nat} (h0 : rtB0 n w = true) (h1 : rtB1 n w = true) (h2 : rtB2 n w = true) (h3 : rtB3 n w = true) : rtB n w = true := by
  unfold rtB0 at h0
  dsimp only at h0
  rw [Bool.and_eq_true, Bool.and_eq_true, Bool.and_eq_true, Bool.and_eq_true, Bool.and_eq_true, Bool.and_eq_true, Bool.and_eq_true, Bool.and_eq_true, Bool.and_eq_true, Bool.and_eq_true, Bool.and_eq_true] at h0
  obtain ⟨⟨⟨⟨⟨⟨⟨⟨⟨⟨⟨a1, a2⟩, a3⟩, a4⟩, a7⟩, a8⟩, a9⟩, a10⟩, a12⟩, a13⟩, a14⟩, a15⟩ := h0
  unfold rtB1 at h1
  unfold rtB2 at h2
  unfold rtB3 at h3
  unfold rtB
  dsimp only
  rw [Bool.and_eq_true, Bool.and_eq_true, Bool.and_eq_true, Bool.and_eq_true, Bool.and_eq_true, Bool.and_eq_true, Bool.and_eq_true, Bool.and_eq_true, Bool.and_eq_true, Bool.and_eq_true, Bool.and_eq_true, Bool.and_eq_true, Bool.and_eq_true, Bool.and_eq_true]
  exact ⟨⟨⟨⟨⟨⟨⟨⟨⟨⟨⟨⟨⟨⟨a1, a2⟩, a3⟩, a4⟩, h1⟩, h2⟩, a7⟩, a8⟩, a9⟩, a10⟩, h3⟩, a12⟩, a13⟩, a14⟩, a15⟩
theorem rt_lo : ((List.range 6).all fun n => (List.range 3).all fun w => rtB (n + 1) w) = true := by decide +kernel
theorem rt70 : rtB 7 0 = true := by decide +kernel
theorem rt71 : rtB 7 1 = true := by decide +kernel
theorem rt720 : rtB0 7 2 = true := by decide +kernel
theorem rt721 : rtB1 7 2 = true := by decide +kernel
theorem rt722 : rtB2 7 2 = true := by decide +kernel
theorem rt723 : rtB3 7 2 = true := by decide +kernel
theorem rt80 : rtB 8 0 = true := by decide +kernel
theorem rt810 : rtB0 8 1 = true := by decide +kernel
theorem rt811 : rtB1 8 1 = true := by decide +kernel
theorem rt812 : rtB2 8 1 = true := by decide +kernel
theorem rt813 : rtB3 8 1 = true := by decide +kernel
theorem rt820 : rtB0 8 2 = true := by decide +kernel
theorem rt821 : rtB1 8 2 = true := by decide +kernel
theorem rt822 : rtB2 8 2 = true := by decide +kernel
theorem rt823 : rtB3 8 2 = true := by decide +kernel
theorem rt_all : ((List.range 8).all fun n => (List.range 3).all fun w => rtB (n + 1) w) = true := by
  refine List.all_eq_true.mpr fun n mn => ?_
  have hn := List.mem_range.mp mn
  by_cases c : n < 6
  · exact List.all_eq_true.mp rt_lo n (List.mem_range.mpr c)
  · refine List.all_eq_true.mpr fun w mw => ?_
    have hw := List.mem_range.mp mw
    have hn2 : n = 6 ∨ n = 7 := by omega
    have hw2 : w = 0 ∨ w = 1 ∨ w = 2 := by omega
    rcases hn2 with rfl | rfl
    · rcases hw2 with rfl | rfl | rfl
      · exact rt70
      · exact rt71
      · exact rtB_mk rt720 rt721 rt722 rt723
    · rcases hw2 with rfl | rfl | rfl
      · exact rt80
      · exact rtB_mk rt810 rt811 rt812 rt813
      · exact rtB_mk rt820 rt821 rt822 rt823
end K03


set_option Elab.async false
set_option maxRecDepth 100000
set_option maxHeartbeats 4000000
set_option linter.all false
/-! the roots in other names. Pure. -/
namespace K03
open PySem PySem.Spec PyProof.Rows L2 NetM
theorem contains_mem {S : Rows} {r : List Int} (h : S.contains r = true) : r ∈ S := List.contains_iff_mem.mp h
theorem set_up {r : List Int} {n p : Nat} (hl : r.length = n) (hp : p < n) : upR (r.set p (rowF r p - 1)) p = r := by
  unfold upR
  have e1 : (r.set p (rowF r p - 1)).getD p 0 = rowF r p - 1 := by
    rw [List.getD_eq_getElem?_getD, List.getElem?_set_self (by omega)]; rfl
  rw [e1, List.set_set, show rowF r p - 1 + 1 = rowF r p by omega, rowF_nat, List.getD_eq_getElem?_getD, List.getElem?_eq_getElem (by omega)]
  exact List.set_getElem_self (by omega)
/-- the roots of a good net in its first names -/
theorem rt_of {n w : Nat} (h1 : 0 < n) (h2 : n ≤ 8) (h3 : w < 3) : RtS (goodP n w) n (topE (goodP n w) n) (rtE (goodP n w) n) ∧ (rtE (goodP n w) n).length = manyW n w := by
  have h := List.all_eq_true.mp (List.all_eq_true.mp rt_all (n - 1) (List.mem_range.mpr (by omega))) w (List.mem_range.mpr h3)
  rw [show n - 1 + 1 = n by omega] at h
  unfold rtB at h
  dsimp only at h
  generalize goodP n w = E at h ⊢
  generalize rtE E n = S at h ⊢
  generalize topE E n = T at h ⊢
  simp only [Bool.and_eq_true, Bool.or_eq_true, decide_eq_true_eq, beq_iff_eq] at h
  obtain ⟨⟨⟨⟨⟨⟨⟨⟨⟨⟨⟨⟨⟨⟨a1, a2⟩, a3⟩, a4⟩, a5⟩, a6⟩, a7⟩, a8⟩, a9⟩, a10⟩, a11⟩, a12⟩, a13⟩, a14⟩, a15⟩ := h
  have len : ∀ r ∈ S, r.length = n := fun r m => of_decide_eq_true (List.all_eq_true.mp a2 r m)
  refine ⟨⟨a1, len, fun r m i mi => ?_, fun p hp => contains_mem (List.all_eq_true.mp a4 p (List.mem_range.mpr hp)), fun r m p hp => ?_, fun r m => ?_, fun r m => of_decide_eq_true (List.all_eq_true.mp a7 r m), contains_mem a8, fun r m ne => ?_, fun r m p hp => of_decide_eq_true (List.all_eq_true.mp (List.all_eq_true.mp a10 r m) p (List.mem_range.mpr hp)), fun r m p hp ne => ?_, fun r m => of_decide_eq_true (List.all_eq_true.mp a12 r m), fun h5 r m i mi => ?_, fun h5 r hl hb hf => ?_⟩, a14⟩
  · have := List.all_eq_true.mp (List.all_eq_true.mp a3 r m) i mi
    rw [Bool.and_eq_true, decide_eq_true_eq, decide_eq_true_eq] at this
    exact this
  · have := List.all_eq_true.mp (List.all_eq_true.mp a5 r m) p (List.mem_range.mpr hp)
    rw [Bool.and_eq_true, Bool.or_eq_true, decide_eq_true_eq, decide_eq_true_eq] at this
    exact ⟨this.1, fun e => contains_mem (this.2.resolve_left fun z => z e)⟩
  · have := List.all_eq_true.mp a6 r m
    rw [Bool.or_eq_true] at this
    rcases this with h | h
    · obtain ⟨p, mp, e⟩ := List.any_eq_true.mp h
      exact .inl ⟨p, List.mem_range.mp mp, eq_of_beq e⟩
    · obtain ⟨p, mp, e⟩ := List.any_eq_true.mp h
      rw [Bool.and_eq_true, decide_eq_true_eq] at e
      have hp := List.mem_range.mp mp
      exact .inr ⟨_, contains_mem e.1, p, hp, e.2, (set_up (len r m) hp).symm⟩
  · have := List.all_eq_true.mp a9 r m
    rw [Bool.or_eq_true, beq_iff_eq, decide_eq_true_eq] at this
    exact this.resolve_left ne
  · have := List.all_eq_true.mp (List.all_eq_true.mp a11 r m) p (List.mem_range.mpr hp)
    rw [Bool.or_eq_true, beq_iff_eq] at this
    exact contains_mem (this.resolve_left ne)
  · rcases a13 with h | h
    · omega
    · exact of_decide_eq_true (List.all_eq_true.mp (List.all_eq_true.mp h.1 r m) i mi)
  · rcases a13 with h | h
    · omega
    · have := List.all_eq_true.mp h.2 r (mem_all3 n r hl hb)
      rw [Bool.or_eq_true, decide_eq_true_eq] at this
      exact contains_mem (this.resolve_left fun z => z hf)
/-! ### in other names -/
theorem natI {n : Nat} {y : Int} (h : InR n y) : ((y.toNat : Nat) : Int) = y ∧ y.toNat < n := by
  have h1 := h.1
  have h2 := h.2
  omega
theorem near_row {E : Prs} {n : Nat} (hE : In n E) {r s : Rw} (e : ∀ p, InR n p → r p = s p) (p : Int) : nearS E r p = nearS E s p := near_congr hE e p
def trR (n : Nat) (g : Int → Int) (r : List Int) : List Int := rowL n fun y => rowF r (g y)
section
variable {n : Nat} {f g : Int → Int} {E F : Prs}
theorem tr_len (r : List Int) : (trR n g r).length = n := rowL_len n _
theorem tr_row (r : List Int) {y : Int} (h : InR n y) : rowF (trR n g r) y = rowF r (g y) := rowF_rowL h
theorem tr_f (hg : ∀ x, InR n x → InR n (g x) ∧ f (g x) = x ∧ g (f x) = x) (b : Bij n f) (r : List Int) {x : Int} (h : InR n x) : rowF (trR n g r) (f x) = rowF r x := by rw [tr_row r (b.to x h), (hg x h).2.2]
theorem tr_inj (hg : ∀ x, InR n x → InR n (g x) ∧ f (g x) = x ∧ g (f x) = x) (b : Bij n f) {r r' : List Int} (h : r.length = n) (h' : r'.length = n) (e : trR n g r = trR n g r') : r = r' :=
  row_ext h h' fun p hp => by rw [← tr_f hg b r hp, ← tr_f hg b r' hp, e]
theorem tr_near (hg : ∀ x, InR n x → InR n (g x) ∧ f (g x) = x ∧ g (f x) = x) (R : Ren n f E F) (r : List Int) {x : Int} (h : InR n x) : nearS F (rowF (trR n g r)) (f x) = nearS E (rowF r) x := by
  rw [R.near _ h]
  exact near_congr R.hE (fun p hp => tr_f hg R.b r hp) x
theorem tr_unit (hg : ∀ x, InR n x → InR n (g x) ∧ f (g x) = x ∧ g (f x) = x) (b : Bij n f) {p : Nat} (hp : p < n) : trR n g (unitR n p) = unitR n (f p).toNat := by
  refine row_ext (tr_len _) (unit_len _ _) fun y hy => ?_
  have hf := natI (b.to _ (inr_nat hp))
  rw [tr_row _ hy, unit_row (hg y hy).1, unit_row hy, hf.1]
  by_cases c : g y = p
  · rw [if_pos c, if_pos (by rw [← c, (hg y hy).2.1])]
  · rw [if_neg c, if_neg fun z => c (by rw [z, (hg _ (inr_nat hp)).2.2])]
theorem tr_set (hg : ∀ x, InR n x → InR n (g x) ∧ f (g x) = x ∧ g (f x) = x) (b : Bij n f) {r : List Int} (hr : r.length = n) {p : Nat} (hp : p < n) (v : Int) : trR n g (r.set p v) = (trR n g r).set (f p).toNat v := by
  refine row_ext (tr_len _) (by rw [List.length_set]; exact tr_len _) fun y hy => ?_
  have hf := natI (b.to _ (inr_nat hp))
  rw [tr_row _ hy, rowF_set (by omega) (hg y hy).1.1, rowF_set (by rw [tr_len]; exact hf.2) hy.1, hf.1, tr_row _ hy]
  by_cases c : g y = p
  · rw [if_pos c, if_pos (by rw [← c, (hg y hy).2.1])]
  · rw [if_neg c, if_neg fun z => c (by rw [z, (hg _ (inr_nat hp)).2.2])]
theorem tr_up (hg : ∀ x, InR n x → InR n (g x) ∧ f (g x) = x ∧ g (f x) = x) (b : Bij n f) {r : List Int} (hr : r.length = n) {p : Nat} (hp : p < n) : trR n g (upR r p) = upR (trR n g r) (f p).toNat := by
  unfold upR
  rw [tr_set hg b hr hp]
  have e : (trR n g r).getD (f p).toNat 0 = r.getD p 0 := by
    have := tr_f hg b r (inr_nat hp)
    rw [rowF_nat] at this
    exact this
  rw [e]
theorem tr_perm (hg : ∀ x, InR n x → InR n (g x) ∧ f (g x) = x ∧ g (f x) = x) (b : Bij n f) {r : List Int} (hr : r.length = n) : (trR n g r).Perm r := by
  have h1 := b.perm.map fun y => rowF r (g y)
  have e : ((rng n).map f).map (fun y => rowF r (g y)) = rowL n (rowF r) := by
    rw [List.map_map]
    exact rowL_congr fun p hp => by show rowF r (g (f p)) = _; rw [(hg p hp).2.2]
  rw [e, show rowL n (rowF r) = r from by have := row_id hr; exact this] at h1
  exact h1.symm
theorem RtS.ren {T : List Int} {S : Rows} (R : Ren n f E F) (hg : ∀ x, InR n x → InR n (g x) ∧ f (g x) = x ∧ g (f x) = x) (lT : T.length = n) (h : RtS E n T S) : RtS F n (trR n g T) (S.map (trR n g)) := by
  have inj : ∀ r ∈ S, ∀ r' ∈ S, trR n g r = trR n g r' → r = r' := fun r m r' m' e => tr_inj hg R.b (h.len r m) (h.len r' m') e
  have back : ∀ q : Nat, q < n → ∃ x : Nat, x < n ∧ f x = q ∧ (f x).toNat = q := fun q hq => by
    have := hg _ (inr_nat hq)
    have e := natI this.1
    exact ⟨(g q).toNat, e.2, by rw [e.1, this.2.1], by rw [e.1, this.2.1, Int.toNat_natCast]⟩
  refine ⟨?_, fun r m => ?_, fun r m i mi => ?_, fun q hq => ?_, fun r m q hq => ?_, fun r m => ?_, fun r m => ?_, List.mem_map_of_mem h.topm, fun r m ne => ?_, fun r m q hq => ?_, fun r m q hq ne => ?_, fun r m => ?_, fun h5 r m i mi => ?_, fun h5 r hl hb hf => ?_⟩
  · have nd := h.nd
    refine List.pairwise_map.mpr (List.Pairwise.imp_of_mem (fun {a b} ma mb ne e => ne (inj a ma b mb e)) nd)
  · obtain ⟨r, mr, rfl⟩ := List.mem_map.mp m; replace m := mr
    exact tr_len _
  · obtain ⟨r, mr, rfl⟩ := List.mem_map.mp m; replace m := mr
    exact h.bd r m i ((tr_perm hg R.b (h.len r m)).mem_iff.mp mi)
  · obtain ⟨x, hx, e, e'⟩ := back q hq
    rw [← e', ← tr_unit hg R.b hx]
    exact List.mem_map_of_mem (h.unit x hx)
  · obtain ⟨r, mr, rfl⟩ := List.mem_map.mp m; replace m := mr
    obtain ⟨x, hx, e, e'⟩ := back q hq
    rw [← e, tr_near hg R r (inr_nat hx), tr_f hg R.b r (inr_nat hx), ← e', ← tr_up hg R.b (h.len r m) hx]
    exact ⟨(h.up r m x hx).1, fun z => List.mem_map_of_mem ((h.up r m x hx).2 z)⟩
  · obtain ⟨r, mr, rfl⟩ := List.mem_map.mp m; replace m := mr
    rcases h.dn r m with ⟨p, hp, rfl⟩ | ⟨q, mq, p, hp, e, rfl⟩
    · exact .inl ⟨_, (natI (R.b.to _ (inr_nat hp))).2, tr_unit hg R.b hp⟩
    · refine .inr ⟨_, List.mem_map_of_mem mq, _, (natI (R.b.to _ (inr_nat hp))).2, ?_, tr_up hg R.b (h.len q mq) hp⟩
      rw [(natI (R.b.to _ (inr_nat hp))).1, tr_near hg R q (inr_nat hp), tr_f hg R.b q (inr_nat hp)]
      exact e
  · obtain ⟨r, mr, rfl⟩ := List.mem_map.mp m; replace m := mr
    rw [sum_perm (tr_perm hg R.b (h.len r m))]
    exact h.one r m
  · obtain ⟨r, mr, rfl⟩ := List.mem_map.mp m; replace m := mr
    rw [sum_perm (tr_perm hg R.b (h.len r m)), sum_perm (tr_perm hg R.b lT)]
    exact h.tops r m fun e => ne (by rw [e])
  · obtain ⟨r, mr, rfl⟩ := List.mem_map.mp m; replace m := mr
    obtain ⟨x, hx, e, e'⟩ := back q hq
    rw [← e, tr_f hg R.b r (inr_nat hx), tr_f hg R.b T (inr_nat hx)]
    exact h.tople r m x hx
  · obtain ⟨r, mr, rfl⟩ := List.mem_map.mp m; replace m := mr
    obtain ⟨x, hx, e, e'⟩ := back q hq
    rw [← e] at *
    rw [tr_near hg R r (inr_nat hx), tr_f hg R.b r (inr_nat hx), ← e', ← tr_set hg R.b (h.len r m) hx]
    exact List.mem_map_of_mem (h.refl r m x hx fun z => ne (by rw [z, tr_unit hg R.b hx, e']))
  · obtain ⟨r, mr, rfl⟩ := List.mem_map.mp m; replace m := mr
    rw [R.frm, frm_congr R.hE fun p hp => tr_f hg R.b r hp]
    exact h.frm1 r m
  · obtain ⟨r, mr, rfl⟩ := List.mem_map.mp m; replace m := mr
    exact h.smb h5 r m i ((tr_perm hg R.b (h.len r m)).mem_iff.mp mi)
  · have e : trR n g (rowL n fun x => rowF r (f x)) = r := row_ext (tr_len _) hl fun y hy => by
      rw [tr_row _ hy, rowF_rowL (hg y hy).1, (hg y hy).2.1]
    rw [← e]
    refine List.mem_map_of_mem (h.small h5 _ (rowL_len n _) (fun i mi => ?_) ?_)
    · obtain ⟨x, mx, rfl⟩ := List.mem_map.mp mi
      exact hb _ (row_mem hl (R.b.to x (mem_rng.mp mx)))
    · rw [frm_congr R.hE fun p hp => rowF_rowL (r := fun x => rowF r (f x)) hp, ← R.frm]
      exact hf
end
end K03


set_option Elab.async false
set_option maxRecDepth 100000
set_option maxHeartbeats 4000000
set_option linter.all false
/-! the order of roots; levels; what is reached; mirrors; rows that are tried; branches. Pure. -/
namespace K03
open PySem PySem.Spec PyProof.Rows L2 NetM
abbrev BB : Int := 100
def cd (r : List Int) : Int := TS.code BB r
def rk (r : List Int) : Int := TS.code BB (r.sum :: r)
theorem sorted_uniq {κ : List Int → Int} : ∀ {l m : Rows}, l.Pairwise (fun a b => κ a < κ b) → m.Pairwise (fun a b => κ a < κ b) → (∀ x, x ∈ l ↔ x ∈ m) → l = m
  | [], [], _, _, _ => rfl
  | [], b :: m, _, _, h => absurd ((h b).mpr (List.mem_cons_self ..)) (by simp)
  | a :: l, [], _, _, h => absurd ((h a).mp (List.mem_cons_self ..)) (by simp)
  | a :: l, b :: m, h1, h2, h => by
    rw [List.pairwise_cons] at h1 h2
    have e : a = b := by
      rcases List.mem_cons.mp ((h a).mp (List.mem_cons_self ..)) with e | m1
      · exact e
      · rcases List.mem_cons.mp ((h b).mpr (List.mem_cons_self ..)) with e | m2
        · exact e.symm
        · have := h1.1 b m2
          have := h2.1 a m1
          omega
    subst e
    congr 1
    refine sorted_uniq h1.2 h2.2 fun x => ⟨fun hx => ?_, fun hx => ?_⟩
    · rcases List.mem_cons.mp ((h x).mp (List.mem_cons_of_mem _ hx)) with e | hm
      · subst e
        have := h1.1 x hx
        omega
      · exact hm
    · rcases List.mem_cons.mp ((h x).mpr (List.mem_cons_of_mem _ hx)) with e | hm
      · subst e
        have := h2.1 x hx
        omega
      · exact hm
theorem code_inj : ∀ {l m : List Int}, l.length = m.length → TS.Bd BB l → TS.Bd BB m → TS.code BB l = TS.code BB m → l = m
  | [], [], _, _, _, _ => rfl
  | [], b :: m, h, _, _, _ => by cases h
  | a :: l, [], h, _, _, _ => by cases h
  | a :: l, b :: m, h, h1, h2, e => by
    have hl : l.length = m.length := by simpa using h
    rcases Int.lt_trichotomy a b with z | z | z
    · have := TS.code_lt hl h1.tail h2.tail z
      omega
    · subst z
      congr 1
      refine code_inj hl h1.tail h2.tail ?_
      have i1 := TS.code_same (B := BB) (d := a) hl
      have i2 := TS.code_same (B := BB) (d := a) hl.symm
      omega
    · have := TS.code_lt hl.symm h2.tail h1.tail z
      omega
/-- rows of length n with numbers from 0 to 6 -/
structure ROk (n : Nat) (r : List Int) : Prop where
  len : r.length = n
  bd : ∀ i ∈ r, 0 ≤ i ∧ i ≤ 6
theorem ROk.bB {n : Nat} {r : List Int} (h : ROk n r) : TS.Bd BB r := fun i m => by have := h.bd i m; show 0 ≤ i ∧ i < 100; omega
theorem sum_ge0 : ∀ {l : List Int}, (∀ i ∈ l, 0 ≤ i) → 0 ≤ l.sum
  | [], _ => Int.le_refl _
  | a :: l, h => by
    rw [List.sum_cons]
    have := h a (List.mem_cons_self ..)
    have := sum_ge0 (l := l) fun i m => h i (List.mem_cons_of_mem _ m)
    omega
theorem ROk.sum {n : Nat} {r : List Int} (h : ROk n r) (hn : n ≤ 8) : 0 ≤ r.sum ∧ r.sum ≤ 48 := by
  have h1 := sum_ge0 fun i m => (h.bd i m).1
  have h2 := sum_le fun i m => (h.bd i m).2
  rw [h.len] at h2
  omega
theorem ROk.sB {n : Nat} {r : List Int} (h : ROk n r) (hn : n ≤ 8) : TS.Bd BB (r.sum :: r) := fun i m => by
  rcases List.mem_cons.mp m with rfl | m
  · have := h.sum hn; show 0 ≤ _ ∧ _ < 100; omega
  · exact h.bB i m
theorem cd_inj {n : Nat} {r q : List Int} (h : ROk n r) (k : ROk n q) (e : cd r = cd q) : r = q := code_inj (by rw [h.len, k.len]) h.bB k.bB e
theorem rk_inj {n : Nat} (hn : n ≤ 8) {r q : List Int} (h : ROk n r) (k : ROk n q) (e : rk r = rk q) : r = q := by
  have := code_inj (by rw [List.length_cons, List.length_cons, h.len, k.len]) (h.sB hn) (k.sB hn) e
  exact (List.cons.inj this).2
theorem rk_lt {n : Nat} {r q : List Int} (h : ROk n r) (k : ROk n q) (e : r.sum < q.sum) : rk r < rk q := TS.code_lt (by rw [h.len, k.len]) h.bB k.bB e
theorem rk_same {n : Nat} {r q : List Int} (h : ROk n r) (k : ROk n q) (e : r.sum = q.sum) (l : cd r < cd q) : rk r < rk q := by
  unfold rk
  rw [e]
  exact (TS.code_same (by rw [h.len, k.len])).mpr l
theorem strict_of {κ : List Int → Int} {l : Rows} (h : l.Pairwise fun a b => κ a ≤ κ b) (nd : l.Nodup) (inj : ∀ a ∈ l, ∀ b ∈ l, κ a = κ b → a = b) : l.Pairwise fun a b => κ a < κ b := by
  have := List.Pairwise.and h nd
  refine List.Pairwise.imp_of_mem (fun {a b} ma mb z => ?_) this
  have h1 := z.1
  have h2 : a ≠ b := z.2
  have : κ a ≠ κ b := fun e => h2 (inj a ma b mb e)
  omega
theorem strict_nodup {κ : List Int → Int} {l : Rows} (h : l.Pairwise fun a b => κ a < κ b) : l.Nodup := List.Pairwise.imp (fun {a b} z e => by subst e; omega) h
theorem nodup_len {l m : Rows} (h1 : l.Nodup) (h2 : m.Nodup) (h : ∀ x, x ∈ l ↔ x ∈ m) : l.length = m.length := ((List.perm_ext_iff_of_nodup h1 h2).mpr h).length_eq
/-! ### levels -/
section
variable {F : Prs} {n : Nat} {T : List Int} {S : Rows}
theorem RtS.ok (h : RtS F n T S) {r : List Int} (m : r ∈ S) : ROk n r := ⟨h.len r m, h.bd r m⟩
theorem unit_sum {n p : Nat} (h : p < n) : (unitR n p).sum = 1 := by
  have e : unitR n p = (List.replicate n (0 : Int)).set p 1 := by
    refine row_ext (unit_len _ _) (by rw [List.length_set, List.length_replicate]) fun x hx => ?_
    rw [unit_row hx, rowF_set (by rw [List.length_replicate]; exact h) hx.1]
    by_cases c : x = (p : Int)
    · rw [if_pos c, if_pos c]
    · rw [if_neg c, if_neg c]
      unfold rowF
      rw [List.getD_eq_getElem?_getD, List.getElem?_replicate]
      split <;> rfl
  rw [e, sum_set (by rw [List.length_replicate]; exact h)]
  have e1 : ∀ n : Nat, (List.replicate n (0 : Int)).sum = 0 := fun n => by
    induction n with
    | zero => rfl
    | succ n ih => rw [List.replicate_succ, List.sum_cons, ih]; rfl
  have e2 : (List.replicate n (0 : Int)).getD p 0 = 0 := by
    rw [List.getD_eq_getElem?_getD, List.getElem?_replicate]
    split <;> rfl
  rw [e1, e2]
  omega
theorem up_sum {r : List Int} {p : Nat} (h : p < r.length) : (upR r p).sum = r.sum + 1 := by
  unfold upR
  rw [sum_set h]
  omega
structure LvOk (S : Rows) (k : Int) (Lv : Rows) : Prop where
  nd : Lv.Nodup
  mem : ∀ r, r ∈ Lv ↔ r ∈ S ∧ r.sum = k
structure FdOk (S : Rows) (k : Int) (Fd : Rows) : Prop where
  st : Fd.Pairwise fun a b => rk a < rk b
  mem : ∀ r, r ∈ Fd ↔ r ∈ S ∧ r.sum < k
theorem RtS.lv_one (h : RtS F n T S) {Lv : Rows} (nd : Lv.Nodup) (e : ∀ r, r ∈ Lv ↔ ∃ p, p < n ∧ r = unitR n p) : LvOk S 1 Lv := by
  refine ⟨nd, fun r => ⟨fun m => ?_, fun m => ?_⟩⟩
  · obtain ⟨p, hp, rfl⟩ := (e r).mp m
    exact ⟨h.unit p hp, unit_sum hp⟩
  · rcases h.dn r m.1 with z | ⟨q, mq, p, hp, _, rfl⟩
    · exact (e r).mpr z
    · have h1 := up_sum (r := q) (p := p) (by rw [h.len q mq]; exact hp)
      have h2 := h.one q mq
      have h3 := m.2
      omega
theorem RtS.lv_next (h : RtS F n T S) {k : Int} (hk : 1 ≤ k) {Lv Nx : Rows} (l : LvOk S k Lv) (nd : Nx.Nodup) (e : ∀ r, r ∈ Nx ↔ ∃ q ∈ Lv, ∃ p, p < n ∧ nearS F (rowF q) p = 2 * rowF q p + 1 ∧ r = upR q p) : LvOk S (k + 1) Nx := by
  refine ⟨nd, fun r => ⟨fun m => ?_, fun m => ?_⟩⟩
  · obtain ⟨q, mq, p, hp, e, rfl⟩ := (e r).mp m
    have hq := (l.mem q).mp mq
    exact ⟨(h.up q hq.1 p hp).2 e, by rw [up_sum (by rw [h.len q hq.1]; exact hp), hq.2]⟩
  · rcases h.dn r m.1 with ⟨p, hp, rfl⟩ | ⟨q, mq, p, hp, e1, rfl⟩
    · have := unit_sum hp
      have := m.2
      omega
    · have h1 := up_sum (r := q) (p := p) (by rw [h.len q mq]; exact hp)
      have h3 := m.2
      exact (e _).mpr ⟨q, (l.mem q).mpr ⟨mq, by omega⟩, p, hp, e1, rfl⟩
theorem FdOk.next (h : RtS F n T S) {k : Int} {Fd Lv Ls : Rows} (f : FdOk S k Fd) (l : LvOk S k Lv) (p : Ls.Perm Lv) (s : Ls.Pairwise fun a b => cd a ≤ cd b) : FdOk S (k + 1) (Fd ++ Ls) := by
  have mem : ∀ r, r ∈ Ls ↔ r ∈ S ∧ r.sum = k := fun r => p.mem_iff.trans (l.mem r)
  have st := strict_of s (p.nodup_iff.mpr l.nd) fun a ma b mb e => cd_inj (h.ok ((mem a).mp ma).1) (h.ok ((mem b).mp mb).1) e
  refine ⟨List.pairwise_append.mpr ⟨f.st, List.Pairwise.imp_of_mem (fun {a b} ma mb z => ?_) st, fun a ma b mb => ?_⟩, fun r => ?_⟩
  · have h1 := (mem a).mp ma
    have h2 := (mem b).mp mb
    exact rk_same (h.ok h1.1) (h.ok h2.1) (by rw [h1.2, h2.2]) z
  · have h1 := (f.mem a).mp ma
    have h2 := (mem b).mp mb
    exact rk_lt (h.ok h1.1) (h.ok h2.1) (by rw [h2.2]; exact h1.2)
  · rw [List.mem_append, f.mem, mem]
    constructor
    · rintro (⟨h1, h2⟩ | ⟨h1, h2⟩)
      · exact ⟨h1, by omega⟩
      · exact ⟨h1, by omega⟩
    · rintro ⟨h1, h2⟩
      by_cases c : r.sum < k
      · exact .inl ⟨h1, c⟩
      · exact .inr ⟨h1, by omega⟩
theorem RtS.lv_end (h : RtS F n T S) {k : Int} (hk : 1 ≤ k) (l : LvOk S k []) : ∀ r ∈ S, r.sum < k := by
  have key : ∀ (d : Nat) (r : List Int), r ∈ S → r.sum = k + d → False := by
    intro d
    induction d with
    | zero => exact fun r m e => absurd ((l.mem r).mpr ⟨m, by omega⟩) (by simp)
    | succ d ih =>
      intro r m e
      rcases h.dn r m with ⟨p, hp, rfl⟩ | ⟨q, mq, p, hp, _, rfl⟩
      · have := unit_sum hp
        omega
      · have h1 := up_sum (r := q) (p := p) (by rw [h.len q mq]; exact hp)
        exact ih q mq (by omega)
  intro r m
  by_cases c : r.sum < k
  · exact c
  · exact (key (r.sum - k).toNat r m (by omega)).elim
/-- the roots in their order -/
structure Rts (S : Rows) (L : Rows) : Prop where
  st : L.Pairwise fun a b => rk a < rk b
  mem : ∀ r, r ∈ L ↔ r ∈ S
theorem FdOk.rts (h : RtS F n T S) {k : Int} (hk : 1 ≤ k) {Fd : Rows} (f : FdOk S k Fd) (l : LvOk S k []) : Rts S Fd := ⟨f.st, fun r => (f.mem r).trans ⟨fun z => z.1, fun z => ⟨z, h.lv_end hk l r z⟩⟩⟩
theorem Rts.uniq {L M : Rows} (h : Rts S L) (k : Rts S M) : L = M := sorted_uniq h.st k.st fun x => (h.mem x).trans (k.mem x).symm
theorem Rts.count (h : RtS F n T S) {L : Rows} (r : Rts S L) : L.length = S.length := nodup_len (strict_nodup r.st) h.nd r.mem
/-- the last is the highest -/
theorem Rts.last (h : RtS F n T S) {L : Rows} (r : Rts S L) : ∃ L0, L = L0 ++ [T] := by
  have m := (r.mem T).mpr h.topm
  obtain ⟨a, b, rfl⟩ := List.append_of_mem m
  cases b with
  | nil => exact ⟨a, rfl⟩
  | cons q b =>
    have st := r.st
    rw [List.pairwise_append] at st
    have h1 := (List.pairwise_cons.mp st.2.1).1 q (List.mem_cons_self ..)
    have mq := (r.mem q).mp (List.mem_append_right _ (List.mem_cons_of_mem _ (List.mem_cons_self ..)))
    have ne : q ≠ T := fun e => by subst e; omega
    have := rk_lt (h.ok mq) (h.ok h.topm) (h.tops q mq ne)
    omega
/-! ### what is reached -/
structure Cl (F : Prs) (n : Nat) (S Fo Li : Rows) : Prop where
  nd : Fo.Nodup
  fo : ∀ r ∈ Fo, r ∈ S
  li : ∀ r ∈ Li, r ∈ S
  un : ∀ p, p < n → unitR n p ∈ Fo ∨ unitR n p ∈ Li
  up : ∀ r ∈ Fo, ∀ p, p < n → nearS F (rowF r) p = 2 * rowF r p + 1 → upR r p ∈ Fo ∨ upR r p ∈ Li
theorem Cl.full (h : RtS F n T S) {Fo : Rows} (c : Cl F n S Fo []) : ∀ r, r ∈ Fo ↔ r ∈ S := by
  have key : ∀ (d : Nat) (r : List Int), r ∈ S → r.sum = 1 + d → r ∈ Fo := by
    intro d
    induction d with
    | zero =>
      intro r m e
      rcases h.dn r m with ⟨p, hp, rfl⟩ | ⟨q, mq, p, hp, _, rfl⟩
      · exact (c.un p hp).resolve_right (by simp)
      · have h1 := up_sum (r := q) (p := p) (by rw [h.len q mq]; exact hp)
        have := h.one q mq
        omega
    | succ d ih =>
      intro r m e
      rcases h.dn r m with ⟨p, hp, rfl⟩ | ⟨q, mq, p, hp, e1, rfl⟩
      · exact (c.un p hp).resolve_right (by simp)
      · have h1 := up_sum (r := q) (p := p) (by rw [h.len q mq]; exact hp)
        exact (c.up q (ih q mq (by omega)) p hp e1).resolve_right (by simp)
  intro r
  refine ⟨c.fo r, fun m => ?_⟩
  have := h.one r m
  exact key (r.sum - 1).toNat r m (by omega)
theorem Cl.len {Fo Li : Rows} (c : Cl F n S Fo Li) : Fo.length ≤ S.length := by
  have key : ∀ {l m : Rows}, l.Nodup → (∀ r ∈ l, r ∈ m) → l.length ≤ m.length := by
    intro l
    induction l with
    | nil => exact fun _ _ => Nat.zero_le _
    | cons a l ih =>
      intro m nd h
      rw [List.nodup_cons] at nd
      obtain ⟨m1, m2, rfl⟩ := List.append_of_mem (h a (List.mem_cons_self ..))
      have := ih (m := m1 ++ m2) nd.2 fun r hr => by
        have := h r (List.mem_cons_of_mem _ hr)
        rw [List.mem_append, List.mem_cons] at this
        rw [List.mem_append]
        rcases this with z | z | z
        · exact .inl z
        · subst z; exact absurd hr nd.1
        · exact .inr z
      rw [List.length_append] at this ⊢
      rw [List.length_cons, List.length_cons]
      omega
  exact key c.nd c.fo
theorem Cl.old {Fo Li : Rows} {r : List Int} (c : Cl F n S Fo (Li ++ [r])) (m : r ∈ Fo) : Cl F n S Fo Li := by
  have hm : ∀ q, q ∈ Fo ∨ q ∈ Li ++ [r] → q ∈ Fo ∨ q ∈ Li := fun q z => by
    rcases z with z | z
    · exact .inl z
    · rcases List.mem_append.mp z with z | z
      · exact .inr z
      · rw [List.mem_singleton.mp z]; exact .inl m
  exact ⟨c.nd, c.fo, fun q hq => c.li q (List.mem_append_left _ hq), fun p hp => hm _ (c.un p hp), fun q mq p hp e => hm _ (c.up q mq p hp e)⟩
theorem Cl.new (h : RtS F n T S) {Fo Li Ad : Rows} {r : List Int} (c : Cl F n S Fo (Li ++ [r])) (m : r ∉ Fo) (ad : ∀ q, q ∈ Ad ↔ ∃ p, p < n ∧ nearS F (rowF r) p = 2 * rowF r p + 1 ∧ q = upR r p) : Cl F n S (Fo ++ [r]) (Li ++ Ad) := by
  have mr : r ∈ S := c.li r (List.mem_append_right _ (List.mem_singleton.mpr rfl))
  have hm : ∀ q, q ∈ Fo ∨ q ∈ Li ++ [r] → q ∈ Fo ++ [r] ∨ q ∈ Li ++ Ad := fun q z => by
    rcases z with z | z
    · exact .inl (List.mem_append_left _ z)
    · rcases List.mem_append.mp z with z | z
      · exact .inr (List.mem_append_left _ z)
      · exact .inl (List.mem_append_right _ z)
  refine ⟨List.nodup_append.mpr ⟨c.nd, List.pairwise_singleton _ _, fun a ha b hb e => ?_⟩, fun q hq => ?_, fun q hq => ?_, fun p hp => hm _ (c.un p hp), fun q mq p hp e => ?_⟩
  · rw [List.mem_singleton] at hb
    subst hb
    subst e
    exact m ha
  · rcases List.mem_append.mp hq with z | z
    · exact c.fo q z
    · rw [List.mem_singleton.mp z]; exact mr
  · rcases List.mem_append.mp hq with z | z
    · exact c.li q (List.mem_append_left _ z)
    · obtain ⟨p, hp, e, rfl⟩ := (ad q).mp z
      exact (h.up r mr p hp).2 e
  · rcases List.mem_append.mp mq with z | z
    · exact hm _ (c.up q z p hp e)
    · rw [List.mem_singleton] at z
      subst z
      exact .inr (List.mem_append_right _ ((ad _).mpr ⟨p, hp, e, rfl⟩))
end
end K03


set_option Elab.async false
set_option maxRecDepth 100000
set_option maxHeartbeats 4000000
set_option linter.all false
namespace K03
open PySem PySem.Spec PyProof.Rows L2 NetM
abbrev sChkPl : Stmt := top 18
abbrev sUnitR : Stmt := top 21
abbrev sMirr : Stmt := top 35
abbrev NMirr : List Str := ["net", "place", "row", "number", "k"]
theorem scChkPl : FnScope ["net", "place"] ["net", "place"] (defScope sChkPl) := ⟨rfl, rfl, rfl, by decide +kernel, rfl, by decide +kernel, by decide +kernel⟩
theorem scUnitR : FnScope ["net", "place", "k"] ["net", "place"] (defScope sUnitR) := ⟨rfl, rfl, rfl, by decide +kernel, rfl, by decide +kernel, by decide +kernel⟩
theorem scMirr : FnScope NMirr ["net", "place", "row"] (defScope sMirr) := ⟨rfl, rfl, rfl, by decide +kernel, rfl, by decide +kernel, by decide +kernel⟩
def spChkPl (K : PySem.W.Frag) (CN CP : Addr) : Sp := fun vs H Q E => ∃ (x : Addr) (y : V) (n : Nat) (zs : Prs), vs = [.ref x, y] ∧ NetAt K CN H x n zs ∧ n ≤ 8 ∧
  ((∃ o, NuJ K H y o ∧ (∀ i, o = some i → ¬ InR n i) ∧ Rp CP H E) ∨ ∃ i : Int, y = .int i ∧ InR n i ∧ ∀ H', Same H H' → Q .non H')
def spUnitR (K : PySem.W.Frag) (CN : Addr) : Sp := fun vs H Q _ => ∃ (x : Addr) (p n : Nat) (zs : Prs), vs = [.ref x, .int p] ∧ NetAt K CN H x n zs ∧ n ≤ 8 ∧ ∀ T H', Same H H' → H' T = some (.tup ((unitR n p).map V.int)) → Q (.ref T) H'
/-- the row mirrored -/
def mirR (E : Prs) (r : List Int) (p : Nat) : List Int := r.set p (nearS E (rowF r) p - rowF r p)
def spMirr (K : PySem.W.Frag) (CN CB CP CR : Addr) : Sp := fun vs H Q E => ∃ x y z : V, vs = [x, y, z] ∧ ((NoNet K CN H x ∧ Rz CB H E .non) ∨ ∃ (a : Addr) (n : Nat) (zs : Prs), x = .ref a ∧ NetAt K CN H a n zs ∧ In n zs ∧ zs.length ≤ 12 ∧ n ≤ 8 ∧
  ((∃ o, NuJ K H y o ∧ (∀ i, o = some i → ¬ InR n i) ∧ Rp CP H E) ∨ ∃ p : Nat, y = .int p ∧ p < n ∧
  ((RowV K H n z false ∧ Rp CR H E) ∨ ∃ (b : Addr) (L : List Int), z = .ref b ∧ SqT K H b (L.map V.int) ∧ L.length = n ∧ ∀ T H', Same H H' → H' T = some (.tup ((mirR zs L p).map V.int)) → Q (.ref T) H')))
theorem take_unit {n p i : Nat} (h : i < n) : (unitR n p).take (i + 1) = (unitR n p).take i ++ [if i = p then 1 else 0] := by
  rw [List.take_add_one]
  unfold unitR
  rw [List.getElem?_map, List.getElem?_range h]
  rfl
theorem take_mir {E : Prs} {r : List Int} {p i : Nat} (h : i < r.length) : (mirR E r p).take (i + 1) = (mirR E r p).take i ++ [if i = p then nearS E (rowF r) p - rowF r p else rowF r i] := by
  have e : (mirR E r p)[i]? = some (if i = p then nearS E (rowF r) p - rowF r p else rowF r i) := by
    unfold mirR
    rw [List.getElem?_set]
    by_cases c : p = i
    · rw [if_pos c, if_pos c.symm, if_pos (by rw [c]; exact h)]
    · rw [if_neg c, if_neg (fun z => c z.symm), rowF_nat, List.getD_eq_getElem?_getD, List.getElem?_eq_getElem h]
      rfl
  rw [List.take_add_one, e]
  rfl
section
variable {P : Program} {w : World} {K : PySem.W.Frag} {mg : Str → Option Value} {base : Heap} {CN CB CP CR : Addr}
theorem ok_chkpl {f fN : Addr} {fd dN : FuncData} (F : Fun K "check_place" "check_place" sChkPl f fd) (T : NetT K mg CN) (GN : FnOk P w K mg base CX0 2 fN dN ["thing", "most"] (spIsNumTo K)) (bN : L2.Binds K dN ["thing", "most"] []) (gN : mg "is_number_to" = some (.ref fN)) (kN : PySem.W.keepIn K (.ref fN) = true) (B : PlX K mg "BadPlace" CP) : FnOk P w K mg base (L2.CX P w) 3 f fd ["net", "place"] (spChkPl K CN CP) := by
  refine F.okX scChkPl (fun vs H Q E h => ?_) (fun cdv A outer s H vs Q E hr h => ?_)
  · obtain ⟨x, y, n, zs, rfl, _⟩ := h
    rfl
  · obtain ⟨x, y, n, zs, rfl, hN, hn, k⟩ := h
    have nd := scChkPl.nd
    refine ⟨_, pss_one (ps_if (pt_not (pt_val (pe_call GN hr (by rfl) gN kN bN .nil pass0 (pa_cons (pv 1) (pa_cons (pe_op op_sub (pe_fld (pv 0) rfl) pe_int) pa_nil)))))
      (pss_one (ps_raise rfl (takes_of rfl rfl rfl rfl) (pmk_own PySem.F.excBase_ValueError B.q B.g B.k (raises_own B.s B.t) (by rfl)))) pss_nil), ?_⟩
    obtain ⟨dx, t, us, e, et, p, rfl⟩ := id hN
    refine ⟨_, rfl, _, rfl, x, CN, dx, _, _, rfl, e, T.cl, T.nP, rfl, _, _, rfl, rfl, ?_⟩
    rcases k with ⟨o, hy, hno, hR⟩ | ⟨i, rfl, hi, k⟩
    · cases hy with
      | int i =>
        refine ⟨_, _, true, false, _, rfl, .base (.int i), (num_int K).1, (num_int K).2, .inr ⟨rfl, i, rfl, _, rfl, ?_⟩⟩
        have : ¬ (0 ≤ i ∧ i ≤ (n : Int) - 1) := fun z => hno i rfl ⟨z.1, by omega⟩
        rw [decide_eq_false this]
        refine iteT ?_
        exact hR H (Same.refl _)
      | bl b =>
        refine ⟨_, _, true, true, _, rfl, .base (.bl b), (num_bool K).1, (num_bool K).2, .inl ⟨rfl, _, rfl, ?_⟩⟩
        refine iteT ?_
        exact hR H (Same.refl _)
      | no h z zb =>
        refine ⟨_, _, false, _, _, rfl, h, z, zb, .inl ⟨rfl, _, rfl, ?_⟩⟩
        refine iteT ?_
        exact hR H (Same.refl _)
    · refine ⟨_, _, true, false, _, rfl, .base (.int i), (num_int K).1, (num_int K).2, .inr ⟨rfl, i, rfl, _, rfl, ?_⟩⟩
      have : 0 ≤ i ∧ i ≤ (n : Int) - 1 := ⟨hi.1, by have := hi.2; omega⟩
      rw [decide_eq_true this]
      refine iteF ?_
      exact k H (Same.refl _)
theorem ok_unitr {f : Addr} {fd : FuncData} (F : Fun K "unit_row" "unit_row" sUnitR f fd) (T : NetT K mg CN) (mTup : mg "tuple" = none) (mRa : mg "range" = none) : FnOk P w K mg base CX0 1 f fd ["net", "place"] (spUnitR K CN) := by
  refine F.ok scUnitR (fun vs H Q E h => ?_) (fun cdv A outer s H vs Q E hr h => ?_)
  · obtain ⟨x, p, n, zs, rfl, _⟩ := h
    rfl
  · obtain ⟨x, p, n, zs, rfl, hN, hn, k⟩ := h
    have nd := scUnitR.nd
    refine ⟨_, pss_one (ps_ret (pe_callTy (show CallR _ _ (fun xs H Q => ∃ p ys, xs = [.ref p] ∧ ((SqL K H p ys ∧ ∀ l, H l = none → Q (.ref l) (upd H l (.tup ys))) ∨ (SqT K H p ys ∧ Q (.ref p) H))) from call_tuple_of) (by rfl) mTup (by decide +kernel) (pa_cons
          (pe_lc (own := [("k", 2)]) (g := gName 2) (by rfl) nd (pi_range1 (by rfl) mRa (pa_cons (pe_fld (pv 0) rfl) pa_nil)) (blkOk_by (own := [("k", 2)]) (N := ["net", "place", "k"]) (sc := defScope sUnitR) (by decide +kernel)) (fun _ _ _ _ _ => pg_name (i := 2) nd rfl (by first | exact Or.inl rfl | exact Or.inr rfl)) (fun _ _ _ _ _ => pts_nil)
            (fun _ _ _ _ _ => pe_ifExp (pt_cmpR op_eq (pv 2) (pv 1) (nomark _)) pe_int pe_int)) pa_nil))), ?_⟩
    obtain ⟨dx, t, us, e, et, q, rfl⟩ := id hN
    refine ⟨_, rfl, x, CN, dx, _, _, rfl, e, T.cl, T.nP, rfl, n, rfl, by omega, by omega, fun D nD => ?_⟩
    rw [Int.toNat_natCast]
    refine lc_range (lo := 0) (n := n) (fun i Hd => Hd D = some (.lst (((unitR n p).take i).map V.int)) ∧ Same H Hd) ⟨upd_same, same_upd nD⟩ ?_ ?_
    · rintro i Hd hi ⟨eD, sd⟩
      refine ⟨rfl, ?_⟩
      dsimp only [tYes]
      refine iteT ?_
      rw [Int.zero_add]
      refine ⟨_, rfl, _, rfl, rfl, _, rfl, ?_⟩
      have fin : ∀ z : Int, z = (if i = p then 1 else 0) → ∃ acc, Hd D = some (.lst acc) ∧ acc.length < sizeLine ∧ ((upd Hd D (.lst (acc ++ [.int z]))) D = some (.lst (((unitR n p).take (i + 1)).map V.int)) ∧ Same H (upd Hd D (.lst (acc ++ [.int z])))) := fun z hz => by
        refine ⟨_, eD, small_2000 (by rw [List.length_map, List.length_take]; omega), ?_, same_put sd nD⟩
        rw [upd_same, take_unit hi, List.map_append, hz]
        rfl
      by_cases c : i = p
      · refine iteTb (decide_eq_true (by rw [c])) ?_
        exact fin 1 (by rw [if_pos c])
      · refine iteFb (decide_eq_false (fun z => c (by have := V.int.inj z; omega))) ?_
        exact fin 0 (by rw [if_neg c])
    rintro Hd ⟨eD, sd⟩
    rw [List.take_of_length_le (by rw [unit_len]; omega)] at eD
    exact ⟨D, _, rfl, .inl ⟨SqL.of eD, fun l nl => k l _ (sd.trans (same_upd nl)) upd_same⟩⟩
theorem ok_mirr {f fP fA : Addr} {fd dP dA : FuncData} (F : Fun K "mirrored_row" "mirrored_row" sMirr f fd) (T : NetT K mg CN) (Y : SubF P w K mg base CN CB CR) (GP : FnOk P w K mg base (L2.CX P w) 3 fP dP ["net", "place"] (spChkPl K CN CP)) (bP : L2.Binds K dP ["net", "place"] []) (gP : mg "check_place" = some (.ref fP)) (kP : PySem.W.keepIn K (.ref fP) = true)
    (GA : FnOk P w K mg base CX0 1 fA dA ["net", "place", "row"] (spAround K CN)) (bA : L2.Binds K dA ["net", "place", "row"] []) (gA : mg "around" = some (.ref fA)) (kA : PySem.W.keepIn K (.ref fA) = true) (mTup : mg "tuple" = none) (mRa : mg "range" = none) : FnOk P w K mg base (L2.CX P w) 5 f fd ["net", "place", "row"] (spMirr K CN CB CP CR) := by
  refine F.okX scMirr (fun vs H Q E h => ?_) (fun cdv A outer s H vs Q E hr h => ?_)
  · obtain ⟨x, y, z, rfl, _⟩ := h
    rfl
  · obtain ⟨x, y, z, rfl, h⟩ := h
    have nd := scMirr.nd
    have r1 : Room 1 _ := hr.mono (by decide)
    have r3 : Room 3 _ := hr.mono (by decide)
    refine ⟨_, pss_cons (ps_expr (pe_call Y.C.ok hr (by rfl) Y.C.g Y.C.kp Y.C.b .nil (passes_call (takes_of rfl rfl rfl rfl) fun _ _ _ _ h => h) (pa_cons (pv 0) pa_nil)))
      (pss_cons (ps_expr (pe_call GP r3 (by rfl) gP kP bP .nil (passes_call (takes_of rfl rfl rfl rfl) fun _ _ _ _ h => h) (pa_cons (pv 0) (pa_cons (pv 1) pa_nil))))
      (pss_cons (ps_expr (pe_call Y.okR r3 (by rfl) Y.gR Y.kR Y.bR .nil (passes_call (takes_of rfl rfl rfl rfl) fun _ _ _ _ h => h) (pa_cons (pv 0) (pa_cons (pv 2) pa_nil))))
      (pss_cons (ps_set (i := 3) nd rfl (by first | exact Or.inl rfl | exact Or.inr rfl) (pe_op op_sub (pe_call GA r1 (by rfl) gA kA bA .nil pass0 (pa_cons (pv 0) (pa_cons (pv 1) (pa_cons (pv 2) pa_nil)))) (pe_ix (show IxR _ (rIx K) from ix_seq) (pv 2) (pv 1) (fun _ _ => rfl))))
      (pss_one (ps_ret (pe_callTy (show CallR _ _ (fun xs H Q => ∃ p ys, xs = [.ref p] ∧ ((SqL K H p ys ∧ ∀ l, H l = none → Q (.ref l) (upd H l (.tup ys))) ∨ (SqT K H p ys ∧ Q (.ref p) H))) from call_tuple_of) (by rfl) mTup (by decide +kernel) (pa_cons
          (pe_lc (own := [("k", 4)]) (g := gName 4) (by rfl) nd (pi_range1 (by rfl) mRa (pa_cons (pe_fld (pv 0) rfl) pa_nil)) (blkOk_by (own := [("k", 4)]) (N := NMirr) (sc := defScope sMirr) (by decide +kernel)) (fun _ _ _ _ _ => pg_name (i := 4) nd rfl (by first | exact Or.inl rfl | exact Or.inr rfl)) (fun _ _ _ _ _ => pts_nil)
            (fun _ _ _ _ _ => pe_ifExp (pt_cmpR op_eq (pv 4) (pv 1) (nomark _)) (pv 3) (pe_ix (show IxR _ (rIx K) from ix_seq) (pv 2) (pv 4) (fun _ _ => rfl)))) pa_nil))))))), ?_⟩
    rcases h with ⟨h, hR⟩ | ⟨a, n, zs, rfl, hN, hE, hz, hn, h⟩
    · exact ⟨_, rfl, _, rfl, .inl ⟨h, hR⟩⟩
    refine ⟨_, rfl, _, rfl, .inr ⟨a, n, zs, rfl, hN, ?_⟩⟩
    rcases h with ⟨o, hy, hno, hR⟩ | ⟨p, rfl, hp, h⟩
    · exact ⟨_, rfl, _, rfl, a, _, n, zs, rfl, hN, hn, .inl ⟨o, hy, hno, hR⟩⟩
    refine ⟨_, rfl, _, rfl, a, _, n, zs, rfl, hN, hn, .inr ⟨p, rfl, inr_nat hp, fun H1 s1 => ?_⟩⟩
    rcases h with ⟨h, hR⟩ | ⟨b, L, rfl, hb, hL, k⟩
    · exact ⟨_, rfl, _, rfl, a, _, n, zs, false, rfl, hN.same s1, hn, h.same s1, .inl ⟨rfl, hR.same s1⟩⟩
    refine ⟨_, rfl, _, rfl, a, _, n, zs, true, rfl, hN.same s1, hn, by rw [← hL]; exact row_ok (sqt_same s1 hb), .inr ⟨rfl, fun H2 s2 => ?_⟩⟩
    have s12 := s1.trans s2
    refine ⟨_, rfl, _, rfl, _, rfl, a, b, p, n, zs, L, rfl, hN.same s12, hE, hz, .inr (sqt_same s12 hb), hL, fun H3 s3 => ?_⟩
    have s13 := s12.trans s3
    refine ⟨_, rfl, _, rfl, ?_⟩
    refine ix_at (.inr (sqt_same s13 hb)) (v := .int (rowF L p)) (by rw [List.getElem?_map, List.getElem?_eq_getElem (by omega : p < L.length), rowF_nat, List.getD_eq_getElem?_getD, List.getElem?_eq_getElem (by omega : p < L.length)]; rfl) ?_
    refine ⟨_, _, rfl, rfl, ?_⟩
    obtain ⟨dx, t, us, e, et, q, rfl⟩ := id (hN.same s13)
    refine ⟨_, rfl, a, CN, dx, _, _, rfl, e, T.cl, T.nP, rfl, n, rfl, by omega, by omega, fun D nD => ?_⟩
    rw [Int.toNat_natCast]
    refine lc_range (lo := 0) (n := n) (fun i Hd => Hd D = some (.lst (((mirR (nums us) L p).take i).map V.int)) ∧ Same H3 Hd) ⟨upd_same, same_upd nD⟩ ?_ ?_
    · rintro i Hd hi ⟨eD, sd⟩
      refine ⟨rfl, ?_⟩
      dsimp only [tYes]
      refine iteT ?_
      rw [Int.zero_add]
      refine ⟨_, rfl, _, rfl, rfl, _, rfl, ?_⟩
      have fin : ∀ z : Int, z = (if i = p then nearS (nums us) (rowF L) p - rowF L p else rowF L i) → ∃ acc, Hd D = some (.lst acc) ∧ acc.length < sizeLine ∧ ((upd Hd D (.lst (acc ++ [.int z]))) D = some (.lst (((mirR (nums us) L p).take (i + 1)).map V.int)) ∧ Same H3 (upd Hd D (.lst (acc ++ [.int z])))) := fun z hz => by
        refine ⟨_, eD, small_2000 (by rw [List.length_map, List.length_take]; omega), ?_, same_put sd nD⟩
        rw [upd_same, take_mir (by omega), List.map_append, hz]
        rfl
      by_cases c : i = p
      · refine iteTb (decide_eq_true (by rw [c])) ?_
        exact ⟨_, rfl, fin _ (by rw [if_pos c])⟩
      · refine iteFb (decide_eq_false (fun z => c (by have := V.int.inj z; omega))) ?_
        refine ⟨_, rfl, _, rfl, ?_⟩
        refine ix_at (.inr (sqt_same (s13.trans sd) hb)) (v := .int (rowF L i)) (by rw [List.getElem?_map, List.getElem?_eq_getElem (by omega : i < L.length), rowF_nat, List.getD_eq_getElem?_getD, List.getElem?_eq_getElem (by omega : i < L.length)]; rfl) ?_
        exact fin _ (by rw [if_neg c])
    rintro Hd ⟨eD, sd⟩
    rw [List.take_of_length_le (by unfold mirR; rw [List.length_set]; omega)] at eD
    exact ⟨D, _, rfl, .inl ⟨SqL.of eD, fun l nl => k l _ ((s13.trans sd).trans (same_upd nl)) upd_same⟩⟩
end
end K03


set_option Elab.async false
set_option maxRecDepth 100000
set_option maxHeartbeats 4000000
set_option linter.all false
namespace K03
open PySem PySem.Spec PyProof.Rows L2 NetM
abbrev sIsGood : Stmt := top 32
abbrev sChkGood : Stmt := top 33
abbrev sHigh : Stmt := top 36
theorem scIsGood : FnScope ["net"] ["net"] (defScope sIsGood) := ⟨rfl, rfl, rfl, by decide +kernel, rfl, by decide +kernel, by decide +kernel⟩
theorem scChkGood : FnScope ["net"] ["net"] (defScope sChkGood) := ⟨rfl, rfl, rfl, by decide +kernel, rfl, by decide +kernel, by decide +kernel⟩
theorem scHigh : FnScope ["net"] ["net"] (defScope sHigh) := ⟨rfl, rfl, rfl, by decide +kernel, rfl, by decide +kernel, by decide +kernel⟩
/-- good with this highest row, or not good -/
inductive KdN (n : Nat) (zs : Prs) : Option (List Int) → Prop
  | good (L : List Int) (m : Nat) (h : SetR zs n (some L)) (f : frm zs n (rowF L) ≠ 0) (hm : m < 3) (e : min (maxL L) 3 - 1 = (m : Int)) : KdN n zs (some L)
  | round (L : List Int) (h : SetR zs n (some L)) (f : frm zs n (rowF L) = 0) : KdN n zs none
  | wild (k : Nat) (h : SetR zs n none) (W : Wl zs n k) : KdN n zs none
theorem ren_id {n : Nat} {E : Prs} (h : In n E) : Ren n (fun x => x) E E := ⟨⟨fun _ h => h, fun _ _ _ _ e => e⟩, h, E, by unfold nam; rw [show (E.map fun q => (q.1, q.2)) = E from List.map_id' E], Flip.refl E⟩
theorem setr_uniq {n : Nat} {E : Prs} (hE : In n E) {o o' : Option (List Int)} (h : SetR E n o) (h' : SetR E n o') : o = o' := by
  rcases h.ren (ren_id hE) h' with ⟨rfl, rfl⟩ | ⟨L, L', rfl, rfl, e⟩
  · rfl
  · rw [row_ext h.1 h'.1 fun p hp => (e p hp).symm]
theorem ShpQ.mono {H : Hp} {n : Nat} {zs : Prs} {Q Q' : VK} (h : ∀ v H', Q v H' → Q' v H') (q : ShpQ H n zs Q) : ShpQ H n zs Q' where
  wild := fun hS => by
    obtain ⟨k0, W, k⟩ := q.wild hS
    exact ⟨k0, W, fun T R H' s e1 e2 => h _ _ (k T R H' s e1 e2)⟩
  rnd := fun L hS hf T R H' s e1 e2 => h _ _ (q.rnd L hS hf T R H' s e1 e2)
  good := fun L hS hf m hm e T H' s e1 => h _ _ (q.good L hS hf m hm e T H' s e1)
/-- what a shape tells of being good -/
def GdW (H : Hp) (o : Option (List Int)) (v : V) (H' : Hp) : Prop := ∃ (T : Addr) (z : Str) (y : V), v = .ref T ∧ H' T = some (.tup [.str z, y]) ∧ Same H H' ∧ inV (.str z) [.str "line", .str "fork", .str "arms"] = o.isSome
theorem KdN.shp {H : Hp} {n : Nat} {zs : Prs} {o : Option (List Int)} (hE : In n zs) (k : KdN n zs o) : ShpQ H n zs (GdW H o) := by
  cases k with
  | good L m h f hm e =>
    refine ⟨fun h' => ?_, fun L' h' f' => ?_, fun L' h' f' m' hm' _ T H' s e => ⟨T, wordS m', _, rfl, e, s, ?_⟩⟩
    · cases setr_uniq hE h h'
    · cases setr_uniq hE h h'
      exact absurd f' f
    · match m', hm' with
      | 0, _ => rfl
      | 1, _ => rfl
      | 2, _ => rfl
  | round L h f =>
    refine ⟨fun h' => ?_, fun L' h' f' T R H' s e _ => ⟨T, "round", _, rfl, e, s, rfl⟩, fun L' h' f' => ?_⟩
    · cases setr_uniq hE h h'
    · cases setr_uniq hE h h'
      exact absurd f f'
  | wild k h W =>
    refine ⟨fun h' => ⟨k, W, fun T R H' s e _ => ⟨T, "wild", _, rfl, e, s, rfl⟩⟩, fun L' h' => ?_, fun L' h' => ?_⟩
    · cases setr_uniq hE h h'
    · cases setr_uniq hE h h'
def spIsGood (K : PySem.W.Frag) (CN CB : Addr) : Sp := fun vs H Q E => ∃ x : V, vs = [x] ∧ ((NoNet K CN H x ∧ Rz CB H E .non) ∨ ∃ (a : Addr) (n : Nat) (zs : Prs) (o : Option (List Int)), x = .ref a ∧ NetG K CN H a n zs ∧ KdN n zs o ∧ ∀ H', Same H H' → Q (.bl o.isSome) H')
def spChkGood (K : PySem.W.Frag) (CN CB CG : Addr) : Sp := fun vs H Q E => ∃ x : V, vs = [x] ∧ ((NoNet K CN H x ∧ Rz CB H E .non) ∨ ∃ (a : Addr) (n : Nat) (zs : Prs) (o : Option (List Int)), x = .ref a ∧ NetG K CN H a n zs ∧ KdN n zs o ∧ ((o = none ∧ Rp CG H E) ∨ (o.isSome = true ∧ ∀ H', Same H H' → Q .non H')))
def spHigh (K : PySem.W.Frag) (CN CB CG : Addr) : Sp := fun vs H Q E => ∃ x : V, vs = [x] ∧ ((NoNet K CN H x ∧ Rz CB H E .non) ∨ ∃ (a : Addr) (n : Nat) (zs : Prs) (o : Option (List Int)), x = .ref a ∧ NetG K CN H a n zs ∧ KdN n zs o ∧ ((o = none ∧ Rp CG H E) ∨ ∃ L, o = some L ∧ ∀ T H', Same H H' → H' T = some (.tup (L.map V.int)) → Q (.ref T) H'))
theorem KdN.set {n : Nat} {zs : Prs} {L : List Int} (k : KdN n zs (some L)) : SetR zs n (some L) := by
  cases k with
  | good _ m h f hm e => exact h
section
variable {P : Program} {w : World} {K : PySem.W.Frag} {mg : Str → Option Value} {base : Heap} {CN CB CG : Addr}
theorem ok_isgood {f fS : Addr} {fd dS : FuncData} (F : Fun K "is_good" "is_good" sIsGood f fd) (G : GoodC K mg) (GS : FnOk P w K mg base (L2.CX P w) 5 fS dS ["net"] (spShape K CN CB)) (bS : L2.Binds K dS ["net"] []) (gS : mg "shape" = some (.ref fS)) (kS : PySem.W.keepIn K (.ref fS) = true) : FnOk P w K mg base (L2.CX P w) 6 f fd ["net"] (spIsGood K CN CB) := by
  refine F.okX scIsGood (fun vs H Q E h => ?_) (fun cdv A outer s H vs Q E hr h => ?_)
  · obtain ⟨x, rfl, _⟩ := h
    rfl
  · obtain ⟨x, rfl, h⟩ := h
    refine ⟨_, pss_one (ps_ret (pe_cmpR (show OpR _ _ (rIn K false) from op_in_seq) (pe_ix ix_tup (pe_call GS hr (by rfl) gS kS bS .nil (passes_call (takes_of rfl rfl rfl rfl) fun _ _ _ _ h => h) (pa_cons (pv 0) pa_nil)) pe_int (fun _ _ => rfl)) (pe_glob (v := .ref G.aG) (by rfl) G.g rfl) rfl)), ?_⟩
    rcases h with ⟨h, hR⟩ | ⟨a, n, zs, o, rfl, N, k, q⟩
    · exact ⟨_, rfl, _, rfl, .inl ⟨h, hR⟩⟩
    refine ⟨_, rfl, _, rfl, .inr ⟨a, n, zs, rfl, N, (k.shp N.inn).mono fun v H' g => ?_⟩⟩
    obtain ⟨T, z, y, rfl, e, s', hz⟩ := g
    refine ⟨T, _, 0, .str z, rfl, rfl, SqT.of e, rfl, ?_⟩
    refine ⟨_, _, rfl, .inr (G.s _), rfl, rfl, ?_⟩
    show Q (.bl (inV (.str z) [.str "line", .str "fork", .str "arms"])) H'
    rw [hz]
    exact q H' s'
theorem ok_chkgood {f fS : Addr} {fd dS : FuncData} (F : Fun K "check_good" "check_good" sChkGood f fd) (GS : FnOk P w K mg base (L2.CX P w) 6 fS dS ["net"] (spIsGood K CN CB)) (bS : L2.Binds K dS ["net"] []) (gS : mg "is_good" = some (.ref fS)) (kS : PySem.W.keepIn K (.ref fS) = true) (B : PlX K mg "NotGood" CG) : FnOk P w K mg base (L2.CX P w) 7 f fd ["net"] (spChkGood K CN CB CG) := by
  refine F.okX scChkGood (fun vs H Q E h => ?_) (fun cdv A outer s H vs Q E hr h => ?_)
  · obtain ⟨x, rfl, _⟩ := h
    rfl
  · obtain ⟨x, rfl, h⟩ := h
    refine ⟨_, pss_one (ps_if (pt_not (pt_val (pe_call GS hr (by rfl) gS kS bS .nil (passes_call (takes_of rfl rfl rfl rfl) fun _ _ _ _ h => h) (pa_cons (pv 0) pa_nil))))
      (pss_one (ps_raise rfl (takes_of rfl rfl rfl rfl) (pmk_own PySem.F.excBase_ValueError B.q B.g B.k (raises_own B.s B.t) (by rfl)))) pss_nil), ?_⟩
    rcases h with ⟨h, hR⟩ | ⟨a, n, zs, o, rfl, N, k, q⟩
    · exact ⟨_, rfl, _, rfl, .inl ⟨h, hR⟩⟩
    refine ⟨_, rfl, _, rfl, .inr ⟨a, n, zs, o, rfl, N, k, fun H' s' => ⟨_, rfl, ?_⟩⟩⟩
    rcases q with ⟨rfl, q⟩ | ⟨e, q⟩
    · refine iteT ?_
      exact q H' s'
    · rw [e]
      refine iteF ?_
      exact q H' s'
theorem ok_high {f fS fC : Addr} {fd dS dC : FuncData} (F : Fun K "highest" "highest" sHigh f fd) (GC : FnOk P w K mg base (L2.CX P w) 7 fC dC ["net"] (spChkGood K CN CB CG)) (bC : L2.Binds K dC ["net"] []) (gC : mg "check_good" = some (.ref fC)) (kC : PySem.W.keepIn K (.ref fC) = true)
    (GS : FnOk P w K mg base CX0 2 fS dS ["net"] (spSettled K CN)) (bS : L2.Binds K dS ["net"] []) (gS : mg "settled_row" = some (.ref fS)) (kS : PySem.W.keepIn K (.ref fS) = true) : FnOk P w K mg base (L2.CX P w) 8 f fd ["net"] (spHigh K CN CB CG) := by
  refine F.okX scHigh (fun vs H Q E h => ?_) (fun cdv A outer s H vs Q E hr h => ?_)
  · obtain ⟨x, rfl, _⟩ := h
    rfl
  · obtain ⟨x, rfl, h⟩ := h
    have r2 : Room 2 _ := hr.mono (by decide)
    refine ⟨_, pss_cons (ps_expr (pe_call GC hr (by rfl) gC kC bC .nil (passes_call (takes_of rfl rfl rfl rfl) fun _ _ _ _ h => h) (pa_cons (pv 0) pa_nil)))
      (pss_one (ps_ret (pe_call GS r2 (by rfl) gS kS bS .nil pass0 (pa_cons (pv 0) pa_nil)))), ?_⟩
    rcases h with ⟨h, hR⟩ | ⟨a, n, zs, o, rfl, N, k, q⟩
    · exact ⟨_, rfl, _, rfl, .inl ⟨h, hR⟩⟩
    refine ⟨_, rfl, _, rfl, .inr ⟨a, n, zs, o, rfl, N, k, ?_⟩⟩
    rcases q with ⟨e, q⟩ | ⟨L, rfl, q⟩
    · exact .inl ⟨e, q⟩
    · refine .inr ⟨rfl, fun H1 s1 => ?_⟩
      refine ⟨_, rfl, a, n, zs, rfl, N.at_.same s1, N.inn, N.len, N.n8, N.n0, N.nl, fun h => ?_, fun L' h T H2 s2 e2 => ?_⟩
      · cases setr_uniq N.inn k.set h
      · cases setr_uniq N.inn k.set h
        exact q T H2 (s1.trans s2) e2
end
end K03


set_option Elab.async false
set_option maxRecDepth 100000
set_option maxHeartbeats 4000000
set_option linter.all false
/-! rows in memory: lists of them, sorted lists, dicts whose keys they are; a row with one number changed -/
namespace K03
open PySem PySem.Spec PyProof.Rows L2 NetM
/-- tuples of these rows -/
inductive RowsH (H : Hp) : List Addr → Rows → Prop
  | nil : RowsH H [] []
  | cons {a : Addr} {as : List Addr} {r : List Int} {rs : Rows} (h : H a = some (.tup (r.map V.int))) (t : RowsH H as rs) : RowsH H (a :: as) (r :: rs)
theorem RowsH.len {H : Hp} : ∀ {as : List Addr} {rs : Rows}, RowsH H as rs → as.length = rs.length
  | _, _, .nil => rfl
  | _, _, .cons _ t => by rw [List.length_cons, List.length_cons, t.len]
theorem RowsH.same {H H' : Hp} (s : Same H H') : ∀ {as : List Addr} {rs : Rows}, RowsH H as rs → RowsH H' as rs
  | _, _, .nil => .nil
  | _, _, .cons h t => .cons (s _ _ h) (t.same s)
theorem RowsH.put {H : Hp} {d : Addr} (hd : ∀ xs, H d ≠ some (.tup xs)) (o : HO) : ∀ {as : List Addr} {rs : Rows}, RowsH H as rs → RowsH (upd H d o) as rs
  | _, _, .nil => .nil
  | _, _, .cons h t => .cons (by rw [upd_ne (fun z => hd _ (by rw [← z]; exact h))]; exact h) (t.put hd o)
theorem RowsH.app {H : Hp} : ∀ {as bs : List Addr} {rs qs : Rows}, RowsH H as rs → RowsH H bs qs → RowsH H (as ++ bs) (rs ++ qs)
  | _, _, _, _, .nil, k => k
  | _, _, _, _, .cons h t, k => .cons h (t.app k)
theorem RowsH.at {H : Hp} : ∀ {as : List Addr} {rs : Rows} {i : Nat} {a : Addr}, RowsH H as rs → as[i]? = some a → ∃ r, rs[i]? = some r ∧ H a = some (.tup (r.map V.int))
  | _, _, _, _, .nil, e => by simp at e
  | _, _, 0, _, .cons h _, e => by cases e; exact ⟨_, rfl, h⟩
  | _, _, i + 1, _, .cons _ t, e => RowsH.at (i := i) t e
theorem RowsH.perm {H : Hp} {as bs : List Addr} (p : as.Perm bs) : ∀ {rs : Rows}, RowsH H as rs → ∃ qs, rs.Perm qs ∧ RowsH H bs qs := by
  induction p with
  | nil => exact fun h => ⟨_, .refl _, h⟩
  | cons a _ ih =>
    intro rs h
    cases h with
    | cons h t =>
      obtain ⟨qs, p, k⟩ := ih t
      exact ⟨_ :: qs, p.cons _, .cons h k⟩
  | swap a b l =>
    intro rs h
    cases h with
    | cons h t =>
      cases t with
      | cons h2 t => exact ⟨_, .swap _ _ _, .cons h2 (.cons h t)⟩
  | trans _ _ i j =>
    intro rs h
    obtain ⟨qs, p, k⟩ := i h
    obtain ⟨ps, p2, k2⟩ := j k
    exact ⟨ps, p.trans p2, k2⟩
theorem refs_perm {ys : List V} {as : List Addr} (p : ys.Perm (as.map V.ref)) : ∃ bs : List Addr, ys = bs.map V.ref ∧ as.Perm bs := by
  let u : V → Addr := fun v => match v with | .ref a => a | _ => 0
  refine ⟨ys.map u, ?_, ?_⟩
  · rw [List.map_map]
    have : ∀ y ∈ ys, y = V.ref (u y) := fun y m => by
      obtain ⟨a, _, rfl⟩ := List.mem_map.mp (p.mem_iff.mp m)
      rfl
    have e : ys.map (V.ref ∘ u) = ys.map fun y => y := List.map_congr_left fun y m => (this y m).symm
    rw [e, List.map_id' ys]
  · have := p.map u
    rw [List.map_map] at this
    have e : as.map (u ∘ V.ref) = as := by
      have : as.map (u ∘ V.ref) = as.map fun a => a := rfl
      rw [this, List.map_id' as]
    rw [e] at this
    exact this.symm
theorem tupI_at {K : PySem.W.Frag} {H : Hp} {a : Addr} {r : List Int} (h : H a = some (.tup (r.map V.int))) : TupI K H (.ref a) r := ⟨a, rfl, SqT.of h⟩
theorem RowsH.pw {K : PySem.W.Frag} {H : Hp} {κ : List Int → Int} : ∀ {bs : List Addr} {qs : Rows}, RowsH H bs qs → (bs.map V.ref).Pairwise (fun x y => ∀ n m, TupI K H x n → TupI K H y m → κ n ≤ κ m) → qs.Pairwise fun a b => κ a ≤ κ b
  | _, _, .nil, _ => List.Pairwise.nil
  | _, _, .cons (as := as) (rs := rs) h t, p => by
    rw [List.map_cons, List.pairwise_cons] at p
    refine List.pairwise_cons.mpr ⟨fun q mq => ?_, t.pw p.2⟩
    obtain ⟨i, hi, e⟩ := List.getElem_of_mem mq
    have hl := t.len
    obtain ⟨r, hr, hx⟩ := t.at (i := i) (a := as[i]'(by omega)) (List.getElem?_eq_getElem (by omega))
    rw [List.getElem?_eq_getElem hi, e] at hr
    cases hr
    exact p.1 _ (List.mem_map.mpr ⟨_, List.getElem_mem (by omega), rfl⟩) _ _ (tupI_at h) (tupI_at hx)
/-- sorted(l) of rows -/
theorem sort_rd {K : PySem.W.Frag} {H : Hp} {l : Addr} {as : List Addr} {rs : Rows} {n : Nat} {Q : VK} (hl : H l = some (.lst (as.map V.ref))) (h : RowsH H as rs) (ok : ∀ r ∈ rs, ROk n r)
    (q : ∀ bs qs p Hx, rs.Perm qs → qs.Pairwise (fun a b => cd a ≤ cd b) → H p = none → Same H Hx → Hx p = some (.lst (bs.map V.ref)) → RowsH Hx bs qs → Q (.ref p) Hx) : rSortR K n BB [.ref l] H Q := by
  refine ⟨l, as.map V.ref, rfl, SqL.of hl, fun x mx => ?_, fun ys p hp hs np => ?_⟩
  · obtain ⟨a, ma, rfl⟩ := List.mem_map.mp mx
    obtain ⟨i, hi, e⟩ := List.getElem_of_mem ma
    obtain ⟨r, hr, hx⟩ := h.at (i := i) (a := a) (by rw [List.getElem?_eq_getElem hi, e])
    have o := ok r (List.mem_of_getElem? hr)
    exact ⟨r, tupI_at hx, o.len, o.bB⟩
  · obtain ⟨bs, rfl, pb⟩ := refs_perm hp
    obtain ⟨qs, pq, hq⟩ := h.perm pb
    exact q bs qs p _ pq (hq.pw hs) np (same_upd np) upd_same (hq.same (same_upd np))
/-! ### dicts whose keys are rows -/
def kr (r : List Int) : List Key := r.map Sum.inl
theorem kr_kV (r : List Int) : (kr r).map kV = r.map V.int := by unfold kr; rw [List.map_map]; rfl
theorem kr_inj {r q : List Int} (h : kr r = kr q) : r = q := by
  have := congrArg (fun l => l.map fun (k : Key) => match k with | .inl i => i | .inr _ => 0) h
  unfold kr at this
  simpa [List.map_map, Function.comp_def] using this
def kd (rs : Rows) : List (List Key × V) := rs.map fun r => (kr r, .bl true)
def addR (rs : Rows) (r : List Int) : Rows := if r ∈ rs then rs else rs ++ [r]
theorem kd_val (rs : Rows) (r : List Int) : (valV (kd rs) (kr r)).isSome = decide (r ∈ rs) := by
  induction rs with
  | nil => rfl
  | cons q rs ih =>
    show (valV ((kr q, V.bl true) :: kd rs) (kr r)).isSome = _
    by_cases c : q = r
    · subst c
      rw [valV_pos (by rfl)]
      exact (decide_eq_true (List.mem_cons_self ..)).symm
    · rw [valV_neg (fun z => c (kr_inj z)), ih]
      exact decide_eq_decide.mpr ⟨List.mem_cons_of_mem _, fun m => (List.mem_cons.mp m).resolve_left fun z => c z.symm⟩
theorem kd_put (rs : Rows) (r : List Int) : putK (kd rs) (kr r) (.bl true) = kd (addR rs r) := by
  have e : ((kd rs).any fun kv => decide (kv.1 = kr r)) = decide (r ∈ rs) := by rw [valV_any]; exact kd_val rs r
  unfold putK addR
  rw [e]
  by_cases c : r ∈ rs
  · rw [if_pos (decide_eq_true c), if_pos c]
    unfold kd
    rw [List.map_map]
    refine List.map_congr_left fun q _ => ?_
    show (if kr q = kr r then (kr q, V.bl true) else (kr q, V.bl true)) = _
    split <;> rfl
  · rw [if_neg (by simpa using c), if_neg c]
    unfold kd
    rw [List.map_append]
    rfl
theorem addR_nd {rs : Rows} (h : rs.Nodup) (r : List Int) : (addR rs r).Nodup := by
  unfold addR
  by_cases c : r ∈ rs
  · rw [if_pos c]; exact h
  · rw [if_neg c]
    refine List.nodup_append.mpr ⟨h, List.pairwise_singleton _ _, fun a ha b hb e => ?_⟩
    rw [List.mem_singleton] at hb
    subst hb
    subst e
    exact c ha
theorem addR_mem {rs : Rows} {r q : List Int} : q ∈ addR rs r ↔ q ∈ rs ∨ q = r := by
  unfold addR
  by_cases c : r ∈ rs
  · rw [if_pos c]
    exact ⟨.inl, fun h => h.elim id fun z => by rw [z]; exact c⟩
  · rw [if_neg c, List.mem_append, List.mem_singleton]
theorem keys_rows {H : Hp} : ∀ {rs : Rows} {bs : List Addr}, IsKeys H (kd rs) bs → RowsH H bs rs
  | [], _, h => by cases h; exact .nil
  | r :: rs, _, h => by
    cases h with
    | cons h t =>
      refine .cons ?_ (keys_rows t)
      have : H _ = some (.tup ((kr r).map kV)) := h
      rw [kr_kV] at this
      exact this
/-! ### a row with one number changed -/
theorem slA_to {K : PySem.W.Frag} {H : Hp} {t : Addr} {xs : List V} {k : Nat} {Q : VK} (ht : H t = some (.tup xs)) (hk : k ≤ xs.length) (q : ∀ a Hx, Same H Hx → Hx a = some (.tup (xs.take k)) → Q (.ref a) Hx) : rSlA K (.ref t) none (some (k : Int)) H Q := by
  refine ⟨t, xs, rfl, SqT.of ht, fun z => ?_, fun z p np => ?_⟩
  · refine q t H (Same.refl _) ?_
    have := z.2
    rw [HT.sIx_nat] at this
    rw [List.take_of_length_le (by omega)]
    exact ht
  · refine q p _ (same_upd np) ?_
    rw [upd_same]
    unfold cutV
    rw [HT.sIx_none, HT.sIx_nat, List.drop_zero, Nat.sub_zero, Nat.min_eq_left hk]
theorem slA_from {K : PySem.W.Frag} {H : Hp} {t : Addr} {xs : List V} {k : Nat} {Q : VK} (ht : H t = some (.tup xs)) (hk : k ≤ xs.length) (q : ∀ a Hx, Same H Hx → Hx a = some (.tup (xs.drop k)) → Q (.ref a) Hx) : rSlA K (.ref t) (some (k : Int)) none H Q := by
  refine ⟨t, xs, rfl, SqT.of ht, fun z => ?_, fun z p np => ?_⟩
  · refine q t H (Same.refl _) ?_
    have := z.1
    rw [HT.sIx_nat, Nat.min_eq_left hk] at this
    rw [this, List.drop_zero]
    exact ht
  · refine q p _ (same_upd np) ?_
    rw [upd_same]
    unfold cutV
    rw [HT.sIx_none, HT.sIx_nat, Nat.min_eq_left hk, List.take_of_length_le (by rw [List.length_drop]; omega)]
theorem catA_any {K : PySem.W.Frag} {H : Hp} {t S : Addr} {xs ys : List V} {Q : VK} (ht : H t = some (.tup xs)) (hS : H S = some (.tup ys)) (hl : xs.length + ys.length ≤ 1000) (q : ∀ a Hx, Same H Hx → Hx a = some (.tup (xs ++ ys)) → Q (.ref a) Hx) : rCatA K (.ref t) (.ref S) H Q := by
  refine ⟨t, S, _, _, rfl, rfl, SqT.of ht, SqT.of hS, Nat.le_of_lt (small_2000 (by omega)), fun z => ?_, fun _ z => ?_, fun _ _ p np => q p _ (same_upd np) upd_same⟩
  · subst z
    exact q S H (Same.refl _) hS
  · subst z
    exact q t H (Same.refl _) (by rw [List.append_nil]; exact ht)
theorem set_cut {r : List Int} {p : Nat} (h : p < r.length) (v : Int) : (r.map V.int).take p ++ [V.int v] ++ (r.map V.int).drop (p + 1) = (r.set p v).map V.int := by
  rw [List.set_eq_take_append_cons_drop, if_pos h, List.map_append, List.map_cons, List.map_take, List.map_drop, List.append_assoc]
  rfl
theorem sub_len {l m : Rows} (nd : l.Nodup) (h : ∀ r ∈ l, r ∈ m) : l.length ≤ m.length := by
  induction l generalizing m with
  | nil => exact Nat.zero_le _
  | cons a l ih =>
    rw [List.nodup_cons] at nd
    obtain ⟨m1, m2, rfl⟩ := List.append_of_mem (h a (List.mem_cons_self ..))
    have := ih (m := m1 ++ m2) nd.2 fun r hr => by
      have := h r (List.mem_cons_of_mem _ hr)
      rw [List.mem_append, List.mem_cons] at this
      rw [List.mem_append]
      rcases this with z | z | z
      · exact .inl z
      · subst z; exact absurd hr nd.1
      · exact .inr z
    rw [List.length_append] at this ⊢
    rw [List.length_cons, List.length_cons]
    omega
end K03


set_option Elab.async false
set_option maxRecDepth 100000
set_option maxHeartbeats 4000000
set_option linter.all false
namespace K03
open PySem PySem.Spec PyProof.Rows L2 NetM
abbrev sRoots : Stmt := top 34
abbrev NRoots : List Str := ["net", "ends", "place", "level", "found", "higher", "row", "near", "k"]
theorem scRoots : FnScope NRoots ["net"] (defScope sRoots) := ⟨rfl, rfl, rfl, by decide +kernel, rfl, by decide +kernel, by decide +kernel⟩
def spRoots (K : PySem.W.Frag) (CN CB CG : Addr) : Sp := fun vs H Q E => ∃ x : V, vs = [x] ∧ ((NoNet K CN H x ∧ Rz CB H E .non) ∨ ∃ (a : Addr) (n : Nat) (zs : Prs) (o : Option (List Int)), x = .ref a ∧ NetG K CN H a n zs ∧ KdN n zs o ∧ ((o = none ∧ Rp CG H E) ∨ ∃ (T : List Int) (S : Rows), o = some T ∧ RtS zs n T S ∧ S.length ≤ 120 ∧
  ∀ L l as H', Rts S L → Same H H' → H l = none → H' l = some (.lst (as.map V.ref)) → RowsH H' as L → Q (.ref l) H'))
theorem none_of {H H' : Hp} {a : Addr} (s : Same H H') (h : H' a = none) : H a = none := by
  cases c : H a with
  | none => rfl
  | some o => rw [s _ _ c] at h; cases h
/-- rows above those of a level -/
def Abv (E : Prs) (n : Nat) (Lv : Rows) (r : List Int) : Prop := ∃ q ∈ Lv, ∃ p, p < n ∧ nearS E (rowF q) p = 2 * rowF q p + 1 ∧ r = upR q p
def AbvJ (E : Prs) (q : List Int) (j : Nat) (r : List Int) : Prop := ∃ p, p < j ∧ nearS E (rowF q) p = 2 * rowF q p + 1 ∧ r = upR q p
theorem abvJ_yes {E : Prs} {q : List Int} {j : Nat} (e : nearS E (rowF q) j = 2 * rowF q j + 1) (r : List Int) : AbvJ E q (j + 1) r ↔ AbvJ E q j r ∨ r = upR q j := by
  constructor
  · rintro ⟨p, hp, e1, e2⟩
    rcases Nat.lt_or_ge p j with c | c
    · exact .inl ⟨p, c, e1, e2⟩
    · rw [show p = j by omega] at e2; exact .inr e2
  · rintro (⟨p, hp, e1, e2⟩ | e2)
    · exact ⟨p, by omega, e1, e2⟩
    · exact ⟨j, by omega, e, e2⟩
theorem abvJ_no {E : Prs} {q : List Int} {j : Nat} (e : nearS E (rowF q) j ≠ 2 * rowF q j + 1) (r : List Int) : AbvJ E q (j + 1) r ↔ AbvJ E q j r := by
  constructor
  · rintro ⟨p, hp, e1, e2⟩
    rcases Nat.lt_or_ge p j with c | c
    · exact ⟨p, c, e1, e2⟩
    · rw [show p = j by omega] at e1; exact absurd e1 e
  · rintro ⟨p, hp, e1, e2⟩
    exact ⟨p, by omega, e1, e2⟩
theorem row_v {r : List Int} {j : Nat} (h : j < r.length) : (r.map V.int)[j]? = some (.int (rowF r j)) := by
  rw [List.getElem?_map, List.getElem?_eq_getElem h, rowF_nat, List.getD_eq_getElem?_getD, List.getElem?_eq_getElem h]
  rfl
section
variable {P : Program} {w : World} {K : PySem.W.Frag} {mg : Str → Option Value} {base : Heap} {CN CB CG : Addr}
theorem ok_roots {f fC fO fU : Addr} {fd dC dO dU : FuncData} (F : Fun K "roots" "roots" sRoots f fd) (T : NetT K mg CN) (GC : FnOk P w K mg base (L2.CX P w) 7 fC dC ["net"] (spChkGood K CN CB CG)) (bC : L2.Binds K dC ["net"] []) (gC : mg "check_good" = some (.ref fC)) (kC : PySem.W.keepIn K (.ref fC) = true)
    (GO : FnOk P w K mg base CX0 1 fO dO ["net"] (spOther K CN)) (bO : L2.Binds K dO ["net"] []) (gO : mg "other_ends" = some (.ref fO)) (kO : PySem.W.keepIn K (.ref fO) = true)
    (GU : FnOk P w K mg base CX0 1 fU dU ["net", "place"] (spUnitR K CN)) (bU : L2.Binds K dU ["net", "place"] []) (gU : mg "unit_row" = some (.ref fU)) (kU : PySem.W.keepIn K (.ref fU) = true)
    (mRa : mg "range" = none) (mSo : mg "sorted" = none) (mEn : mg "enumerate" = none) (mSum : mg "sum" = none) (mLi : mg "list" = none) : FnOk P w K mg base (L2.CX P w) 8 f fd ["net"] (spRoots K CN CB CG) := by
  refine F.okX scRoots (fun vs H Q E h => ?_) (fun cdv A outer s H vs Q E hr h => ?_)
  · obtain ⟨x, rfl, _⟩ := h
    rfl
  · obtain ⟨x, rfl, h⟩ := h
    have nd := scRoots.nd
    have r1 : Room 1 _ := hr.mono (by decide)
    have hu := hu_of hr
    have h : ∃ d : Nat, 1 ≤ d ∧ ((NoNet K CN H x ∧ Rz CB H E .non) ∨ ∃ (a : Addr) (zs : Prs) (o : Option (List Int)), x = .ref a ∧ NetG K CN H a d zs ∧ KdN d zs o ∧ ((o = none ∧ Rp CG H E) ∨ ∃ (T : List Int) (S : Rows), o = some T ∧ RtS zs d T S ∧ S.length ≤ 120 ∧
        ∀ L l as H', Rts S L → Same H H' → H l = none → H' l = some (.lst (as.map V.ref)) → RowsH H' as L → Q (.ref l) H')) := by
      rcases h with h | ⟨a, n, zs, o, e, N, r⟩
      · exact ⟨1, Nat.le_refl _, .inl h⟩
      · exact ⟨n, N.n0, .inr ⟨a, zs, o, e, N, r⟩⟩
    obtain ⟨n, hn1, h⟩ := h
    refine ⟨_, pss_cons (ps_expr (pe_call GC hr (by rfl) gC kC bC .nil (passes_call (takes_of rfl rfl rfl rfl) fun _ _ _ _ h => h) (pa_cons (pv 0) pa_nil)))
      (pss_cons (ps_set (i := 1) nd rfl (by first | exact Or.inl rfl | exact Or.inr rfl) (pe_call GO r1 (by rfl) gO kO bO .nil pass0 (pa_cons (pv 0) pa_nil)))
      (pss_cons (ps_setLc (i := 3) (own := [("place", 2)]) (g := gName 2) (by rfl) nd rfl rfl (sw_true rfl rfl rfl (by decide +kernel)) (pi_range1 (by rfl) mRa (pa_cons (pe_fld (pv 0) rfl) pa_nil)) (blkOk_by (own := [("place", 2)]) (N := NRoots) (sc := defScope sRoots) (by decide +kernel)) (fun _ _ _ _ _ => pg_name (i := 2) nd rfl (by first | exact Or.inl rfl | exact Or.inr rfl)) (fun _ _ _ _ _ => pts_nil)
          (fun _ _ _ _ _ => pe_call GU r1 (by rfl) gU kU bU .nil pass0 (pa_cons (pv 0) (pa_cons (pv 2) pa_nil))))
      (pss_cons (ps_set (i := 4) nd rfl (by first | exact Or.inl rfl | exact Or.inr rfl) (pe_lst pa_nil))
      (pss_cons (ps_while (passes_of rfl) (pt_truth (pv 3) (fun _ => rfl))
        (pss_cons (ps_set (i := 4) nd rfl (by first | exact Or.inl rfl | exact Or.inr rfl) (pe_op op_cat (pv 4) (pe_callB (show CallR _ _ (rSortR K n BB) from cr_sortR hn1) (by rfl) mSo (by decide +kernel) (pa_cons (pv 3) pa_nil))))
        (pss_cons (ps_set (i := 5) nd rfl (by first | exact Or.inl rfl | exact Or.inr rfl) pe_dnewT)
        (pss_cons (ps_for (passes_of rfl) rfl (pi_seq (pv 3)) (pg_name (i := 6) nd rfl (by first | exact Or.inl rfl | exact Or.inr rfl))
          (pss_one (ps_for (passes_of rfl) rfl (show PI _ _ _ (iE2 K (tCons (tVar 1) tNil)) from pi_e2 (by rfl) mEn (pa_cons (pv 1) pa_nil)) (pg_tup (by rfl) (pgs_cons (pg_name (i := 2) nd rfl (by first | exact Or.inl rfl | exact Or.inr rfl)) (pgs_cons (pg_name (i := 7) nd rfl (by first | exact Or.inl rfl | exact Or.inr rfl)) pgs_nil)))
            (pss_one (ps_if (pt_cmpR op_eq (pe_callB (show CallR _ _ (rSum K) from cr_sum (by rfl)) (by rfl) mSum (by decide +kernel) (pa_cons
                (pe_lc (own := [("k", 8)]) (g := gName 8) (by rfl) nd (pi_seq (pv 7)) (blkOk_by (own := [("k", 8)]) (N := NRoots) (sc := defScope sRoots) (by decide +kernel)) (fun _ _ _ _ _ => pg_name (i := 8) nd rfl (by first | exact Or.inl rfl | exact Or.inr rfl)) (fun _ _ _ _ _ => pts_nil)
                  (fun _ _ _ _ _ => pe_ix (show IxR _ (rIx K) from ix_seq) (pv 6) (pv 8) (fun _ _ => rfl))) pa_nil)) (pe_op op_add (pe_op op_mul pe_int (pe_ix (show IxR _ (rIx K) from ix_seq) (pv 6) (pv 2) (fun _ _ => rfl))) pe_int) (nomark _))
              (pss_one (ps_dput hu (pv 5) (pe_op (show OpR _ _ (rCatA K) from op_catA) (pe_op (show OpR _ _ (rCatA K) from op_catA) (pe_slice (show SlR _ (rSlA K) from sl_tupA) (pv 6) po_none (po_some (pv 2))) (pe_tup (pa_cons (pe_op op_add (pe_ix (show IxR _ (rIx K) from ix_seq) (pv 6) (pv 2) (fun _ _ => rfl)) pe_int) pa_nil))) (pe_slice (show SlR _ (rSlA K) from sl_tupA) (pv 6) (po_some (pe_op op_add (pv 2) pe_int)) po_none)) pe_bl (by rfl))) pss_nil)))))
        (pss_one (ps_set (i := 3) nd rfl (by first | exact Or.inl rfl | exact Or.inr rfl) (pe_callTy (show CallR _ _ (fun xs H Q => ∃ d kvs, xs = [V.ref d] ∧ Rd H d (.dT kvs) ∧ ∀ p bs, H p = none → IsKeys H kvs bs → Q (.ref p) (upd H p (.lst (bs.map V.ref)))) from call_list_dT (by rfl)) (by rfl) mLi (by decide +kernel) (pa_cons (pv 5) pa_nil))))))))
      (pss_one (ps_ret (pv 4))))))), ?_⟩
    rcases h with ⟨h, hR⟩ | ⟨a, zs, o, rfl, N, k, q⟩
    · exact ⟨_, rfl, _, rfl, .inl ⟨h, hR⟩⟩
    refine ⟨_, rfl, _, rfl, .inr ⟨a, n, zs, o, rfl, N, k, ?_⟩⟩
    rcases q with ⟨e, q⟩ | ⟨Tp, S, rfl, RS, hS, q⟩
    · exact .inl ⟨e, q⟩
    refine .inr ⟨rfl, fun H0 s0 => ?_⟩
    have N0 := N.same s0
    refine ⟨_, rfl, a, n, zs, rfl, N0.at_, N0.inn, N0.len, N0.n8, N0.nl, fun De as g H1 R1 hal hg => ?_⟩
    have N1 := N0.same R1.sm
    have hn := N1.n8
    obtain ⟨dx, t, us, e, et, pz, _⟩ := id N1.at_
    refine ⟨_, rfl, a, CN, dx, _, _, rfl, e, T.cl, T.nP, rfl, n, rfl, by omega, by omega, fun D nD => ?_⟩
    rw [Int.toNat_natCast]
    refine lc_range (lo := 0) (n := n) (fun i Hd => ∃ bs : List Addr, Hd D = some (.lst (bs.map V.ref)) ∧ RowsH Hd bs ((List.range i).map fun p => unitR n p) ∧ Same H1 Hd) ⟨[], upd_same, .nil, same_upd nD⟩ ?_ ?_
    · rintro i Hd hi ⟨bs, eD, hb, sd⟩
      refine ⟨rfl, ?_⟩
      dsimp only [tYes]
      refine iteT ?_
      rw [Int.zero_add]
      have hbl : bs.length = i := by rw [hb.len, List.length_map, List.length_range]
      refine ⟨_, rfl, _, rfl, a, i, n, zs, rfl, (N1.same sd).at_, hn, fun Tq He se eT => ?_⟩
      have sP : Same He (upd He D (.lst ((bs ++ [Tq]).map V.ref))) ∨ True := .inr trivial
      refine ⟨bs.map V.ref, se _ _ eD, small_2000 (by rw [List.length_map]; omega), bs ++ [Tq], by rw [upd_same, List.map_append]; rfl, ?_, same_put (sd.trans se) nD⟩
      have hne : ∀ xs, He D ≠ some (.tup xs) := fun xs z => by rw [se _ _ eD] at z; cases z
      rw [List.range_succ, List.map_append]
      exact ((hb.same se).app (.cons eT .nil)).put hne _
    rintro Hd ⟨bs, eD, hb, sd⟩
    refine ⟨Nat.zero_le _, fun Fo nFo => ?_⟩
    have sF := same_upd (o := .lst []) nFo
    have nF0 : H Fo = none := none_of (s0.trans (R1.sm.trans sd)) nFo
    have w0 : LvOk S 1 ((List.range n).map fun p => unitR n p) := by
      refine RS.lv_one ?_ fun r => ?_
      · refine List.pairwise_map.mpr (List.Pairwise.imp_of_mem (fun {p p'} mp mp' ne e => ne ?_) (List.nodup_range (n := n)))
        have hp := List.mem_range.mp mp
        have h1 := unit_row (n := n) (p := p) (inr_nat hp)
        have h2 := unit_row (n := n) (p := p') (inr_nat hp)
        rw [if_pos rfl] at h1
        rw [← e, h1] at h2
        by_cases c : (p : Int) = p'
        · omega
        · rw [if_neg c] at h2; omega
      · rw [List.mem_map]
        exact ⟨fun ⟨p, m, e⟩ => ⟨p, List.mem_range.mp m, e.symm⟩, fun ⟨p, m, e⟩ => ⟨p, List.mem_range.mpr m, e.symm⟩⟩
    have w1 : FdOk S 1 [] := ⟨List.Pairwise.nil, fun r => ⟨fun m => (by cases m), fun m => by have := RS.one r m.1; have := m.2; omega⟩⟩
    have eF : upd Hd Fo (.lst []) Fo = some (.lst (([] : List Addr).map V.ref)) := upd_same
    have eD' := sF _ _ eD
    have hb' := hb.same sF
    have sH := sd.trans sF
    generalize upd Hd Fo (.lst []) = H2 at eF eD' hb' sH
    clear eD hb sd nFo sF nD
    refine ⟨fun m σ Hx => ∃ (kk : Int) (Lv Fd : Rows) (la fa : Addr) (las fas : List Addr) (v2 v5 v6 v7 : Option V), 1 ≤ kk ∧ m = (50 - kk).toNat ∧ σ = [some (.ref a), some (.ref De), v2, some (.ref la), some (.ref fa), v5, v6, v7, none] ∧ Hx la = some (.lst (las.map V.ref)) ∧ RowsH Hx las Lv ∧ LvOk S kk Lv ∧ Hx fa = some (.lst (fas.map V.ref)) ∧ RowsH Hx fas Fd ∧ FdOk S kk Fd ∧ H fa = none ∧ Same H1 Hx, ⟨49, 1, _, _, D, Fo, bs, [], none, none, none, none, by decide, rfl, rfl, eD', hb', w0, eF, .nil, w1, nF0, sH⟩, ?_⟩
    rintro m σ Hx ⟨kk, Lv, Fd, la, fa, las, fas, v2, v5, v6, v7, hk1, rfl, rfl, ela, hla, lv, efa, hfa, fdo, nfa, sx⟩
    refine ⟨_, rfl, _, .inl ⟨_, SqL.of ela, rfl⟩, ?_⟩
    cases Lv with
    | nil =>
      cases hla
      refine iteF ?_
      refine ⟨_, rfl, ?_⟩
      exact q Fd fa fas Hx (fdo.rts RS hk1 lv) (s0.trans (R1.sm.trans sx)) nfa efa hfa
    | cons r0 Lv0 =>
      have hne : (!(las.map V.ref).isEmpty) = true := by
        cases hla
        rfl
      refine iteTb hne ?_
      have lvS : ∀ r ∈ r0 :: Lv0, r ∈ S := fun r m => ((lv.mem r).mp m).1
      have fdS : ∀ r ∈ Fd, r ∈ S := fun r m => ((fdo.mem r).mp m).1
      have hk48 : kk ≤ 48 := by
        have h1 := (lv.mem r0).mp (List.mem_cons_self ..)
        have := (RS.ok h1.1).sum hn
        omega
      have l1 := sub_len lv.nd lvS
      have l2 := sub_len (strict_nodup fdo.st) fdS
      have l3 := hla.len
      have l4 := hfa.len
      generalize hLv : r0 :: Lv0 = Lv at hla lv lvS l1 l3
      refine ⟨fun σ Hx => ∃ (Lv Fd : Rows) (la fa : Addr) (las fas : List Addr) (v2 v5 v6 v7 : Option V), σ = [some (.ref a), some (.ref De), v2, some (.ref la), some (.ref fa), v5, v6, v7, none] ∧ Hx la = some (.lst (las.map V.ref)) ∧ RowsH Hx las Lv ∧ LvOk S (kk + 1) Lv ∧ Hx fa = some (.lst (fas.map V.ref)) ∧ RowsH Hx fas Fd ∧ FdOk S (kk + 1) Fd ∧ H fa = none ∧ Same H1 Hx, fun σ' H' h => ?_, ?_⟩
      · obtain ⟨Lv, Fd, la, fa, las, fas, v2, v5, v6, v7, h1, h2⟩ := h
        exact ⟨(50 - (kk + 1)).toNat, by omega, kk + 1, Lv, Fd, la, fa, las, fas, v2, v5, v6, v7, by omega, rfl, h1, h2⟩
      refine ⟨_, rfl, _, rfl, ?_⟩
      simp only [tNil]
      refine sort_rd ela hla (fun r m => RS.ok (lvS r m)) fun cs qs pS H3 pq sq nS s3 eS hS3 => ?_
      have l5 := hS3.len
      have l6 := pq.length_eq
      refine ⟨fa, pS, _, _, rfl, rfl, s3 _ _ efa, eS, Nat.le_of_lt (small_2000 (by rw [List.length_map, List.length_map]; omega)), fun F2 nF2 => ?_⟩
      have eF2 : upd H3 F2 (.lst (fas.map V.ref ++ cs.map V.ref)) F2 = some (.lst ((fas ++ cs).map V.ref)) := by rw [upd_same, List.map_append]
      have s4 := same_upd (o := .lst (fas.map V.ref ++ cs.map V.ref)) nF2
      have hfa4 := (hfa.same (s3.trans s4)).app (hS3.same s4)
      have fd4 := fdo.next RS lv pq.symm sq
      have nF2H : H F2 = none := none_of (s0.trans (R1.sm.trans (sx.trans s3))) nF2
      have s14 := sx.trans (s3.trans s4)
      have ela4 := (s3.trans s4) _ _ ela
      have hla4 := hla.same (s3.trans s4)
      generalize upd H3 F2 (.lst (fas.map V.ref ++ cs.map V.ref)) = Hb at eF2 s4 hfa4 s14 ela4 hla4
      clear nF2 eS hS3 nS s3 s4
      refine fun d ndb => ?_
      have sb := same_upd (o := .dT []) ndb
      refine ⟨_, rfl, la, _, rfl, .inl (SqL.of (sb _ _ ela4)), fun J hJ => ?_⟩
      refine for_seq hJ (fun i σ Hy => ∃ (v2 v6 v7 : Option V) (hs : Rows), σ = [some (.ref a), some (.ref De), v2, some (.ref la), some (.ref F2), some (.ref d), v6, v7, none] ∧ Hy d = some (.dT (kd hs)) ∧ Same Hb Hy ∧ hs.Nodup ∧ ∀ r, r ∈ hs ↔ Abv zs n (Lv.take i) r) ⟨_, _, _, [], rfl, upd_same, sb, List.nodup_nil, fun r => ⟨fun m => (by cases m), fun ⟨_, m, _⟩ => (by cases m)⟩⟩ (fun i σ Hy _ hh => by obtain ⟨_, _, _, _, _, _, sy, _⟩ := hh; exact stay_lst (sb _ _ ela4) (sy _ _ ela4)) ?_ ?_
      · rintro i y σ Hy hi ⟨v2, v6, v7, hs, rfl, ed, sy, nhs, mhs⟩
        obtain ⟨ra, hra, rfl⟩ := map_inv hi
        obtain ⟨r, hr2, hrT⟩ := hla4.at hra
        have mr : r ∈ Lv := List.mem_of_getElem? hr2
        have rS := lvS r mr
        have okr := RS.ok rS
        have htk : Lv.take (i + 1) = Lv.take i ++ [r] := by rw [List.take_add_one, hr2]; rfl
        have hsS : ∀ r' ∈ hs, r' ∈ S := fun r' m => by
          obtain ⟨q2, mq, p, hp, e1, rfl⟩ := (mhs r').mp m
          exact (RS.up q2 (lvS q2 (List.mem_of_mem_take mq)) p hp).2 e1
        have eDe := (s14.trans sy) _ _ R1.at_
        refine ⟨_, rfl, De, _, rfl, .inl (SqL.of eDe), fun J2 hJ2 => ?_⟩
        refine for_e2 hJ2 (fun j σ Hz => ∃ (v2 v7 : Option V) (hs' : Rows), σ = [some (.ref a), some (.ref De), v2, some (.ref la), some (.ref F2), some (.ref d), some (.ref ra), v7, none] ∧ Hz d = some (.dT (kd hs')) ∧ Same Hb Hz ∧ hs'.Nodup ∧ ∀ r', r' ∈ hs' ↔ r' ∈ hs ∨ AbvJ zs r j r') ⟨_, _, hs, rfl, ed, sy, nhs, fun r' => ⟨.inl, fun h => h.elim id fun ⟨_, h, _⟩ => absurd h (Nat.not_lt_zero _)⟩⟩ (fun j σ Hz _ hh => by obtain ⟨_, _, _, _, _, sz, _⟩ := hh; exact stay_lst eDe ((s14.trans sz) _ _ R1.at_)) ?_ ?_
        · rintro j y U σ Hz hj ⟨v2, v7, hs', rfl, edz, sz, nhs', mhs'⟩ nU
          obtain ⟨na, hna, rfl⟩ := map_inv hj
          have hjl : j < as.length := (List.getElem?_eq_some_iff.mp hna).1
          have hjn : j < n := by omega
          have hnae : as[j] = na := (List.getElem?_eq_some_iff.mp hna).2
          have hjr : j < r.length := by rw [okr.len]; exact hjn
          have sU : Same Hz (upd Hz U (.tup [.int (j : Nat), .ref na])) := same_upd nU
          refine ⟨U, [.int j, .ref na], rfl, .inl (.inl upd_same), rfl, .int j, [.ref na], rfl, .ref na, [], rfl, rfl, ?_⟩
          have su := sz.trans sU
          have edu := sU _ _ edz
          generalize upd Hz U (.tup [.int (j : Nat), .ref na]) = Hu at sU su edu
          have rj := (s14.trans su) _ _ (R1.row j hjl)
          rw [hnae, hg j] at rj
          have erT := su _ _ hrT
          refine ⟨_, rfl, na, _, rfl, .inl (SqL.of rj), fun J3 hJ3 D3 nD3 => ?_⟩
          refine lc_seq hJ3 (fun i Hd => Hd D3 = some (.lst ((((nearL zs j).map (rowF r)).take i).map V.int)) ∧ Same Hu Hd) ⟨upd_same, same_upd nD3⟩ (fun i Hd _ hh => .of hh.2) ?_ ?_
          · rintro i y Hd hi ⟨eD, sd⟩
            obtain ⟨m, hm, rfl⟩ := map_inv hi
            have hil : i < (nearL zs j).length := (List.getElem?_eq_some_iff.mp hm).1
            have him := nearL_in N.inn j m (List.mem_of_getElem? hm)
            have hnl := nearL_len zs j
            have hzl := N.len
            refine ⟨rfl, ?_⟩
            dsimp only [tYes]
            refine iteT ?_
            refine ⟨_, rfl, _, rfl, ?_⟩
            have hmm := natI him
            rw [← hmm.1]
            refine ix_at (.inr (SqT.of (sd _ _ erT))) (row_v (by rw [okr.len]; exact hmm.2)) ?_
            refine ⟨_, eD, small_2000 (by rw [List.length_map, List.length_take, List.length_map]; omega), ?_, same_put sd nD3⟩
            rw [upd_same, List.take_add_one, List.getElem?_map, hm, List.map_append, hmm.1]
            rfl
          rintro Hd ⟨eD, sd⟩
          rw [List.take_of_length_le (by rw [List.length_map, List.length_map]; exact Nat.le_refl _)] at eD
          refine ⟨D3, _, rfl, SqL.of eD, ?_⟩
          rw [nearL_sum]
          have erd := sd _ _ erT
          have edd := sd _ _ edu
          have sbd := su.trans sd
          refine ⟨_, rfl, _, rfl, ?_⟩
          refine ix_at (.inr (SqT.of erd)) (row_v hjr) ?_
          have hb6 := okr.bd _ (row_mem okr.len (inr_nat hjn))
          refine ⟨_, _, rfl, rfl, .inl ⟨by decide, by decide⟩, ?_⟩
          refine ⟨_, _, rfl, rfl, rfl, _, rfl, ?_⟩
          by_cases c : nearS zs (rowF r) j = 2 * rowF r j + 1
          · refine iteTb (decide_eq_true (by rw [c])) ?_
            refine ⟨_, rfl, _, rfl, ?_⟩
            dsimp only [tNoPart]
            refine ⟨_, rfl, _, rfl, ?_⟩
            refine slA_to erd (by rw [List.length_map]; omega) fun t1 Ha sa e1 => ?_
            refine ⟨_, rfl, _, rfl, ?_⟩
            refine ix_at (.inr (SqT.of (sa _ _ erd))) (row_v hjr) ?_
            refine ⟨_, _, rfl, rfl, by show 1 ≤ sizeLine; decide, fun t2 nt2 => ?_⟩
            have s2 := same_upd (o := .tup [.int (rowF r j + 1)]) nt2
            refine catA_any (s2 _ _ e1) upd_same (by rw [List.length_take, List.length_map, okr.len]; show _ + 1 ≤ 1000; omega) fun t3 Hc sc e3 => ?_
            have sac := sa.trans (s2.trans sc)
            refine ⟨_, rfl, _, rfl, _, _, rfl, rfl, _, rfl, ?_⟩
            dsimp only [tNoPart]
            refine slA_from (k := j + 1) (sac _ _ erd) (by rw [List.length_map]; omega) fun t4 Hf sf e4 => ?_
            refine catA_any (sf _ _ e3) e4 (by rw [List.length_append, List.length_take, List.length_drop, List.length_map, okr.len]; show _ + 1 + _ ≤ 1000; omega) fun t5 Hg sg e5 => ?_
            rw [set_cut hjr] at e5
            have sag := sac.trans (sf.trans sg)
            have hup : r.set j (rowF r j + 1) = upR r j := by unfold upR; rw [rowF_nat]
            rw [hup, ← kr_kV] at e5
            have hs'S : ∀ r' ∈ hs', r' ∈ S := fun r' m => by
              rcases (mhs' r').mp m with m | ⟨p, hp, e1, rfl⟩
              · exact hsS r' m
              · exact (RS.up r rS p (by omega)).2 e1
            have hl := sub_len nhs' hs'S
            refine ⟨d, _, rfl, DPut.t (sag _ _ edd) e5 (small_2000 (by unfold kd; rw [List.length_map]; omega)), ?_⟩
            rw [kd_put]
            refine ⟨_, _, addR hs' (upR r j), rfl, upd_same, same_put (sbd.trans sag) ndb, addR_nd nhs' _, fun r' => ?_⟩
            rw [addR_mem, mhs' r', abvJ_yes c, or_assoc]
          · refine iteFb (decide_eq_false (fun z => c (V.int.inj z))) ?_
            refine ⟨_, _, hs', rfl, edd, sbd, nhs', fun r' => ?_⟩
            rw [mhs' r', abvJ_no c]
        · rintro σ Hz ⟨v2, v7, hs', rfl, edz, sz, nhs', mhs'⟩
          refine ⟨_, _, _, hs', rfl, edz, sz, nhs', fun r' => ?_⟩
          rw [mhs' r', mhs r', htk, List.length_map, hal]
          constructor
          · rintro (⟨q2, m, h⟩ | ⟨p, hp, h⟩)
            · exact ⟨q2, List.mem_append_left _ m, h⟩
            · exact ⟨r, List.mem_append_right _ (List.mem_singleton.mpr rfl), p, hp, h⟩
          · rintro ⟨q2, m, p, hp, h⟩
            rcases List.mem_append.mp m with m | m
            · exact .inl ⟨q2, m, p, hp, h⟩
            · rw [List.mem_singleton] at m
              subst m
              exact .inr ⟨p, hp, h⟩
      · rintro σ Hy ⟨v2, v6, v7, hs, rfl, ed, sy, nhs, mhs⟩
        rw [List.length_map, l3, List.take_length] at mhs
        refine ⟨_, rfl, d, _, rfl, .inl ed, fun p ks np hk => ?_⟩
        have sp := same_upd (o := .lst (ks.map V.ref)) np
        exact ⟨hs, Fd ++ qs, p, F2, ks, fas ++ cs, _, _, _, _, rfl, upd_same, (keys_rows hk).same sp, RS.lv_next hk1 lv nhs mhs, (sy.trans sp) _ _ eF2, hfa4.same (sy.trans sp), fd4, nF2H, s14.trans (sy.trans sp)⟩
end
end K03


set_option Elab.async false
set_option maxRecDepth 100000
set_option maxHeartbeats 4000000
set_option linter.all false
namespace K03
open PySem PySem.Spec PyProof.Rows L2 NetM
/-- sum of a tuple of ints -/
def rSumT (K : PySem.W.Frag) : List V → Hp → VK → Prop := fun vs H Q => ∃ (a : Addr) (ns : List Int), vs = [V.ref a] ∧ SqT K H a (ns.map V.int) ∧ Q (.int ns.sum) H
theorem cr_sumT {X : Cx} (hc : X.calm = true) : CallR X (.builtin "sum") (rSumT X.K) := by
  intro pins s σ H vs us Q I r h
  obtain ⟨a, ns, rfl, hs, q⟩ := h
  obtain ⟨its, rv, hl, _⟩ := I.tuple hs
  rw [Vals.ref1 r]
  have hi : IntsAre its ns := rv.ints
  obtain ⟨xs, e⟩ := hi.allInts.items
  have hn : numsOf (intItems xs).toList = ns := by rw [← e]; exact hi.numsOf
  rw [nums_intItems] at hn
  have hT : s.heap.IsTuple a (intItems xs) := by
    rw [← e]
    obtain ⟨o, h1, h2, n, h3⟩ := hl
    exact ⟨o, h1, h2, n, h3⟩
  refine PySem.W.ktm_sumG (I.ok.hd hc) hT fun h' tk t' hk => ?_
  rw [preSum_eq, List.take_of_length_le (by simp), hn]
  exact ⟨.int _, H, I.kept hk, ⟨_, rfl⟩, q⟩
/-! ### rows as data -/
def rowD (r : List Int) : PyData := .tuple (r.map PyData.int)
def rowsD (rs : Rows) : PyData := .list (rs.map rowD)
theorem dpAll_ints {K : PySem.W.Frag} {H : Hp} : ∀ L : List Int, DpAll K H (L.map V.int) (L.map PyData.int)
  | [] => .nil
  | i :: L => .cons (.int i) (dpAll_ints L)
theorem dp_row {K : PySem.W.Frag} {H : Hp} {a : Addr} {r : List Int} (h : SqT K H a (r.map V.int)) : Dp K H (.ref a) (rowD r) := .tup h (dpAll_ints r)
theorem dpAll_rows {K : PySem.W.Frag} {H : Hp} : ∀ {as : List Addr} {rs : Rows}, RowsH H as rs → DpAll K H (as.map V.ref) (rs.map rowD)
  | _, _, .nil => .nil
  | _, _, .cons h t => .cons (dp_row (SqT.of h)) (dpAll_rows t)
theorem dp_rows {K : PySem.W.Frag} {H : Hp} {l : Addr} {as : List Addr} {rs : Rows} (e : SqL K H l (as.map V.ref)) (h : RowsH H as rs) : Dp K H (.ref l) (rowsD rs) := .lst e (dpAll_rows h)
theorem row_facts (r : List Int) : PyData.canLayAll0 (r.map PyData.int) = true ∧ PyData.depthAll (r.map PyData.int) ≤ 1 := by
  induction r with
  | nil => exact ⟨rfl, by simp [PyData.depthAll]⟩
  | cons x r ih => exact ⟨by simp [PyData.canLayAll0, PyData.canLay0, ih.1], by simp [PyData.depthAll, PyData.depth]; omega⟩
theorem lay_row (r : List Int) : (rowD r).canLay0 = true := by
  have := (row_facts r).1
  simp [rowD, PyData.canLay0, this]
theorem shp_row (r : List Int) : SeqAt.shaped (rowD r) = true := by
  obtain ⟨h1, h2⟩ := row_facts r
  simp [SeqAt.shaped, rowD, PyData.canLay0, h1, PyData.depth]
  omega
theorem rows_facts (rs : Rows) : PyData.canLayAll0 (rs.map rowD) = true ∧ PyData.depthAll (rs.map rowD) ≤ 2 := by
  induction rs with
  | nil => exact ⟨rfl, by simp [PyData.depthAll]⟩
  | cons x r ih =>
    have h0 := (row_facts x).2
    refine ⟨by simp [PyData.canLayAll0, lay_row, ih.1], ?_⟩
    simp [PyData.depthAll, rowD, PyData.depth] at ih ⊢
    omega
theorem lay_rows (rs : Rows) : (rowsD rs).canLay0 = true := by
  have := (rows_facts rs).1
  simp [rowsD, PyData.canLay0, this]
theorem shp_rows (rs : Rows) : SeqAt.shaped (rowsD rs) = true := by
  obtain ⟨h1, h2⟩ := rows_facts rs
  simp [SeqAt.shaped, rowsD, PyData.canLay0, h1, PyData.depth]
  omega
theorem eqvAll_ints : ∀ l m : List Int, PyData.eqvAll (l.map PyData.int) (m.map PyData.int) = decide (l = m)
  | [], [] => rfl
  | [], _ :: _ => rfl
  | _ :: _, [] => rfl
  | a :: l, b :: m => by
    show (PyData.eqv (.int a) (.int b) && PyData.eqvAll (l.map PyData.int) (m.map PyData.int)) = _
    rw [eqvAll_ints l m]
    have e : PyData.eqv (.int a) (.int b) = decide (a = b) := by simp only [PyData.eqv]; rw [Bool.eq_iff_iff]; simp
    rw [e]
    by_cases c : a = b
    · subst c
      by_cases d : l = m
      · subst d; simp
      · simp [d]
    · simp [c]
theorem eqv_row (l m : List Int) : PyData.eqv (rowD l) (rowD m) = decide (l = m) := eqvAll_ints l m
theorem eqv_rows0 (rs : Rows) : PyData.eqv (rowsD rs) (.list []) = rs.isEmpty := by cases rs <;> rfl
theorem eqv_rowsR (rs : Rows) : PyData.eqv (rowsD rs) (rowsD rs) = true := PySem.SeqAt.eqv_refl _ (lay_rows rs)
end K03


set_option Elab.async false
set_option maxRecDepth 100000
set_option maxHeartbeats 4000000
set_option linter.all false
namespace K03
open PySem PySem.Spec PyProof.Rows L2 NetM
abbrev sLRoots : Stmt := top 47
abbrev NLR : List Str := ["net", "place", "found", "line", "row", "k", "pair"]
theorem scLRoots : FnScope NLR ["net"] (defScope sLRoots) := ⟨rfl, rfl, rfl, by decide +kernel, rfl, by decide +kernel, by decide +kernel⟩
def spLRoots (K : PySem.W.Frag) : Sp := fun vs H Q _ => ∃ (x ps : Addr) (n : Nat) (us : Zs) (T : List Int) (S : Rows), vs = [.ref x] ∧ LNet H x ps n us ∧ In n (nums us) ∧ us.length ≤ 12 ∧ 0 < n ∧ n ≤ 8 ∧ RtS (nums us) n T S ∧ S.length ≤ 120 ∧
  ∀ L l as H', Rts S L → Same H H' → H l = none → H' l = some (.lst (as.map V.ref)) → RowsH H' as L → Q (.ref l) H'
theorem perm_map_inv {α β : Type} {f : α → β} : ∀ {l : List α} {ys : List β}, ys.Perm (l.map f) → ∃ l' : List α, ys = l'.map f ∧ l'.Perm l
  | [], ys, h => by
    rw [List.map_nil] at h
    exact ⟨[], List.Perm.eq_nil h, .refl _⟩
  | a :: l, ys, h => by
    rw [List.map_cons] at h
    obtain ⟨s, t, rfl⟩ := List.append_of_mem (h.mem_iff.mpr (List.mem_cons_self ..))
    have h2 : (s ++ t).Perm (l.map f) := (List.perm_cons _).mp (List.perm_middle.symm.trans h)
    obtain ⟨l', e, p⟩ := perm_map_inv h2
    obtain ⟨l1, l2, rfl, rfl, rfl⟩ := List.append_eq_map_iff.mp e
    exact ⟨l1 ++ a :: l2, by rw [List.map_append, List.map_cons], List.perm_middle.trans (p.cons a)⟩
theorem RowsH.split {H : Hp} : ∀ {as : List Addr} {rs : Rows} {r : List Int}, RowsH H as (rs ++ [r]) → ∃ as0 a, as = as0 ++ [a] ∧ RowsH H as0 rs ∧ H a = some (.tup (r.map V.int))
  | _, [], _, .cons h .nil => ⟨[], _, rfl, .nil, h⟩
  | _, _ :: rs, _, .cons h t => by
    obtain ⟨as0, a, rfl, h1, h2⟩ := t.split
    exact ⟨_ :: as0, a, rfl, .cons h h1, h2⟩
abbrev Ts := List (Addr × Addr × List Int)
/-- pairs of a sum and a row -/
def PrH (H : Hp) (zs : Ts) : Prop := ∀ z ∈ zs, H z.1 = some (.tup [.int z.2.2.sum, .ref z.2.1]) ∧ H z.2.1 = some (.tup (z.2.2.map V.int))
theorem PrH.same {H H' : Hp} {zs : Ts} (s : Same H H') (h : PrH H zs) : PrH H' zs := fun z m => ⟨s _ _ (h z m).1, s _ _ (h z m).2⟩
theorem PrH.put {H : Hp} {zs : Ts} {d : Addr} (hd : ∀ xs, H d ≠ some (.tup xs)) (o : HO) (h : PrH H zs) : PrH (upd H d o) zs := fun z m => ⟨by rw [upd_ne (fun e => hd _ (by rw [← e]; exact (h z m).1))]; exact (h z m).1, by rw [upd_ne (fun e => hd _ (by rw [← e]; exact (h z m).2))]; exact (h z m).2⟩
theorem PrH.rows {H : Hp} : ∀ {zs : Ts}, PrH H zs → RowsH H (zs.map (·.2.1)) (zs.map (·.2.2))
  | [], _ => .nil
  | z :: zs, h => .cons (h z (List.mem_cons_self ..)).2 (PrH.rows fun y m => h y (List.mem_cons_of_mem _ m))
theorem prV_at {K : PySem.W.Frag} {H : Hp} {zs : Ts} (h : PrH H zs) {z : Addr × Addr × List Int} (m : z ∈ zs) : PrV K H (.ref z.1) z.2.2.sum z.2.2 := ⟨z.1, z.2.1, rfl, SqT.of (h z m).1, SqT.of (h z m).2⟩
/-- sorted(l) of such pairs -/
theorem sortQ_rd {K : PySem.W.Frag} {H : Hp} {l : Addr} {zs : Ts} {n : Nat} {Q : VK} (hn : n ≤ 8) (hl : H l = some (.lst (zs.map fun z => V.ref z.1))) (h : PrH H zs) (ok : ∀ z ∈ zs, ROk n z.2.2)
    (q : ∀ ys p Hx, ys.Perm zs → (ys.map (·.2.2)).Pairwise (fun a b => rk a ≤ rk b) → H p = none → Same H Hx → Hx p = some (.lst (ys.map fun z => V.ref z.1)) → PrH Hx ys → Q (.ref p) Hx) : rSortQ K n BB [.ref l] H Q := by
  refine ⟨l, _, rfl, SqL.of hl, fun x mx => ?_, fun ys p hp hs np => ?_⟩
  · obtain ⟨z, m, rfl⟩ := List.mem_map.mp mx
    exact ⟨_, _, prV_at h m, (ok z m).len, (ok z m).sB hn⟩
  · obtain ⟨ys', rfl, pm⟩ := perm_map_inv hp
    have h' : PrH H ys' := fun z m => h z (pm.mem_iff.mp m)
    refine q ys' p _ pm ?_ np (same_upd np) upd_same (h'.same (same_upd np))
    rw [List.pairwise_map] at hs ⊢
    exact List.Pairwise.imp_of_mem (fun {a b} ma mb z => z _ _ _ _ (prV_at h' ma) (prV_at h' mb)) hs
section
variable {P : Program} {w : World} {K : PySem.W.Frag} {mg : Str → Option Value} {base : Heap}
theorem ok_lroots {f fL : Addr} {fd dL : FuncData} (F : Fun K "_law_roots" "_law_roots" sLRoots f fd) (GL : FnOk P w K mg base CX0 1 fL dL ["net", "row", "place"] (spLean K)) (bL : L2.Binds K dL ["net", "row", "place"] []) (gL : mg "_law_lean" = some (.ref fL)) (kL : PySem.W.keepIn K (.ref fL) = true)
    (mRa : mg "range" = none) (mTup : mg "tuple" = none) (mInt : mg "int" = none) (mSo : mg "sorted" = none) (mSum : mg "sum" = none) : FnOk P w K mg base CX0 2 f fd ["net"] (spLRoots K) := by
  refine F.ok scLRoots (fun vs H Q E h => ?_) (fun cdv A outer s H vs Q E hr h => ?_)
  · obtain ⟨x, ps, n, us, T, S, rfl, _⟩ := h
    rfl
  · obtain ⟨x, ps, n, us, Tp, S, rfl, hN, hE, hul, n0, hn, RS, hS, k⟩ := h
    have nd := scLRoots.nd
    have hu := hu_of hr
    have hu2 := hr.units
    refine ⟨_, pss_cons (ps_par (i := 2) (j := 3) (by rfl) nd rfl rfl (by decide) rfl rfl (pa_cons pe_dnewT (pa_cons (pe_lc (own := [("place", 1)]) (g := gName 1) (by rfl) nd (pi_range1 (by rfl) mRa (pa_cons (pe_dget hu (pv 0) pe_str (fun _ _ => rfl)) pa_nil)) (blkOk_by (own := [("place", 1)]) (N := NLR) (sc := defScope sLRoots) (by decide +kernel)) (fun _ _ _ _ _ => pg_name (i := 1) nd rfl (by first | exact Or.inl rfl | exact Or.inr rfl)) (fun _ _ _ _ _ => pts_nil)
          (fun _ _ _ _ _ => pe_callTy (show CallR _ _ (fun xs H Q => ∃ p ys, xs = [.ref p] ∧ ((SqL K H p ys ∧ ∀ l, H l = none → Q (.ref l) (upd H l (.tup ys))) ∨ (SqT K H p ys ∧ Q (.ref p) H))) from call_tuple_of) (by rfl) mTup (by decide +kernel) (pa_cons
            (pe_lc (own := [("k", 5)]) (g := gName 5) (by rfl) nd (pi_range1 (by rfl) mRa (pa_cons (pe_dget (by exact hu) (pv 0) pe_str (fun _ _ => rfl)) pa_nil)) (blkOk_by (own := [("k", 5)]) (N := NLR) (by kernel_rfl)) (fun _ _ _ _ _ => pg_name (i := 5) nd rfl (by first | exact Or.inl rfl | exact Or.inr rfl)) (fun _ _ _ _ _ => pts_nil)
              (fun _ _ _ _ _ => pe_callTy (show CallR _ _ (fun xs H Q => (∃ i, xs = [.int i] ∧ Q (.int i) H) ∨ ∃ k, xs = [.bl k] ∧ Q (.int (if k then 1 else 0)) H) from call_int1) (by rfl) mInt (by decide +kernel) (pa_cons (pe_cmpR op_eq (pv 5) (pv 1) (nomark _)) pa_nil))) pa_nil))) pa_nil)) (by rfl))
      (pss_cons (ps_while PassesOwn.never (pt_cmpR (op_neD hr.units) (pv 3) (pe_lst pa_nil) (nomark _))
        (pss_cons (ps_set (i := 4) nd rfl (by first | exact Or.inl rfl | exact Or.inr rfl) (pe_bm0 PySem.F.plainAttrs_list PySem.F.slot_list_pop PySem.F.type_list_pop mt_pop (pv 3)))
        (pss_one (ps_if (pt_cmp (pc_dnotin hu (pv 4) (pv 2)) (by rfl))
          (pss_cons (ps_dput hu (pv 2) (pv 4) pe_bl (by rfl))
          (pss_one (ps_for PassesOwn.never rfl (pi_range1 (by rfl) mRa (pa_cons (pe_dget hu (pv 0) pe_str (fun _ _ => rfl)) pa_nil)) (pg_name (i := 1) nd rfl (by first | exact Or.inl rfl | exact Or.inr rfl))
            (pss_one (ps_if (pt_cmpR op_lt (pe_call GL hr (by rfl) gL kL bL .nil pass0 (pa_cons (pv 0) (pa_cons (pv 4) (pa_cons (pv 1) pa_nil)))) pe_int (nomark _))
              (pss_one (ps_expr (pe_bm PySem.F.plainAttrs_list PySem.F.slot_list_append PySem.F.type_list_append mt_append (pv 3) (pa_cons
                (pe_op (show OpR _ _ (rCatA K) from op_catA) (pe_op (show OpR _ _ (rCatA K) from op_catA) (pe_slice (show SlR _ (rSlA K) from sl_tupA) (pv 4) po_none (po_some (pv 1))) (pe_tup (pa_cons (pe_op op_sub (pe_ix (show IxR _ (rIx K) from ix_seq) (pv 4) (pv 1) (fun _ _ => rfl)) (pe_call GL hr (by rfl) gL kL bL .nil pass0 (pa_cons (pv 0) (pa_cons (pv 4) (pa_cons (pv 1) pa_nil))))) pa_nil))) (pe_slice (show SlR _ (rSlA K) from sl_tupA) (pv 4) (po_some (pe_op op_add (pv 1) pe_int)) po_none)) pa_nil)))) pss_nil))))) pss_nil))))
      (pss_one (ps_ret (pe_lc (own := [("pair", 6)]) (g := gName 6) (by rfl) nd (pi_seq (pe_callB (show CallR _ _ (rSortQ K n BB) from cr_sortQ (by have h9 := hr.un; show (A.deeper (envOfC "_law_roots" (defScope sLRoots) s.heap.objs.size f cdv)).units + 2 < cLine; omega)) (by rfl) mSo (by decide +kernel) (pa_cons
          (pe_lock (pe_lc (own := [("row", 4)]) (g := gName 4) (by rfl) nd (pi_keys (pv 2)) (blkOk_by (own := [("row", 4)]) (N := NLR) (sc := defScope sLRoots) (by decide +kernel)) (fun _ _ _ _ _ => pg_name (i := 4) nd rfl (by first | exact Or.inl rfl | exact Or.inr rfl)) (fun _ _ _ _ _ => pts_nil)
            (fun _ _ _ _ _ => pe_tup (pa_cons (pe_callB (show CallR _ _ (rSumT K) from cr_sumT (by rfl)) (by rfl) mSum (by decide +kernel) (pa_cons (pv 4) pa_nil)) (pa_cons (pv 4) pa_nil))))) pa_nil)))
          (blkOk_by (own := [("pair", 6)]) (N := NLR) (sc := defScope sLRoots) (by decide +kernel)) (fun _ _ _ _ _ => pg_name (i := 6) nd rfl (by first | exact Or.inl rfl | exact Or.inr rfl)) (fun _ _ _ _ _ => pts_nil)
          (fun _ _ _ _ _ => pe_ix (show IxR _ (rIx K) from ix_seq) (pv 6) pe_int (fun _ _ => rfl)))))), ?_⟩
    refine fun d nd0 => ?_
    have s0 := same_upd (o := .dT []) nd0
    have e0 : (upd H d (.dT [])) d = some (.dT (kd [])) := upd_same
    show tCons _ tNil _ (upd H d (.dT [])) _
    generalize upd H d (.dT []) = H0 at s0 e0
    have N0 := hN.same s0
    refine ⟨_, rfl, x, _, rfl, DGet.k (k := Sum.inr "many") N0.e, n, rfl, by omega, by omega, fun D nD => ?_⟩
    rw [Int.toNat_natCast]
    refine lc_range (lo := 0) (n := n) (fun i Hd => ∃ bs : List Addr, Hd D = some (.lst (bs.map V.ref)) ∧ RowsH Hd bs ((List.range i).map fun p => unitR n p) ∧ Same H0 Hd) ⟨[], upd_same, .nil, same_upd nD⟩ ?_ ?_
    · rintro i Hd hi ⟨bs, eD, hb, sd⟩
      refine ⟨rfl, ?_⟩
      dsimp only [tYes]
      refine iteT ?_
      rw [Int.zero_add]
      have hbl : bs.length = i := by rw [hb.len, List.length_map, List.length_range]
      refine ⟨_, rfl, x, _, rfl, DGet.k (k := Sum.inr "many") (N0.same sd).e, n, rfl, by omega, by omega, fun D2 nD2 => ?_⟩
      rw [Int.toNat_natCast]
      refine lc_range (lo := 0) (n := n) (fun k He => He D2 = some (.lst (((unitR n i).take k).map V.int)) ∧ Same Hd He) ⟨upd_same, same_upd nD2⟩ ?_ ?_
      · rintro k He hk ⟨eD2, se⟩
        refine ⟨rfl, ?_⟩
        dsimp only [tYes]
        refine iteT ?_
        refine ⟨_, rfl, _, rfl, rfl, .inr ⟨_, rfl, _, eD2, small_2000 (by rw [List.length_map, List.length_take, unit_len]; omega), ?_, same_put se nD2⟩⟩
        rw [upd_same, take_unit hk, List.map_append]
        have e : (if decide (V.int (0 + (k : Int)) = V.int (i : Int)) = true then (1 : Int) else 0) = if k = i then 1 else 0 := by
          by_cases c : k = i
          · rw [if_pos c, if_pos (decide_eq_true (by rw [c, Int.zero_add]))]
          · rw [if_neg c, if_neg (fun z => c (by have := V.int.inj (of_decide_eq_true z); omega))]
        rw [e]
        rfl
      · rintro He ⟨eD2, se⟩
        rw [List.take_of_length_le (by rw [unit_len]; exact Nat.le_refl _)] at eD2
        refine ⟨D2, _, rfl, .inl ⟨SqL.of eD2, fun t nt => ?_⟩⟩
        have st := same_upd (o := .tup ((unitR n i).map V.int)) nt
        have et : upd He t (.tup ((unitR n i).map V.int)) t = some (.tup ((unitR n i).map V.int)) := upd_same
        generalize upd He t (.tup ((unitR n i).map V.int)) = Hf at st et
        have sf := se.trans st
        refine ⟨bs.map V.ref, sf _ _ eD, small_2000 (by rw [List.length_map]; omega), bs ++ [t], by rw [upd_same, List.map_append]; rfl, ?_, same_put (sd.trans sf) nD⟩
        have hne : ∀ xs, Hf D ≠ some (.tup xs) := fun xs z => by rw [sf _ _ eD] at z; cases z
        rw [List.range_succ, List.map_append]
        exact ((hb.same sf).app (.cons et .nil)).put hne _
    rintro Hd ⟨bs, eD, hb, sd⟩
    refine ⟨_, _, rfl, ?_⟩
    have eDd : D ≠ d := fun z => by rw [z, e0] at nD; cases nD
    have nDH : H D = none := none_of s0 nD
    have s1 := s0.trans sd
    have e1 := sd _ _ e0
    clear nD e0 N0 s0 sd
    have W0 : Cl (nums us) n S [] ((List.range n).map fun p => unitR n p) := ⟨List.nodup_nil, (fun r m => by cases m), fun r m => by
        obtain ⟨p, mp, rfl⟩ := List.mem_map.mp m
        exact RS.unit p (List.mem_range.mp mp), fun p hp => .inr (List.mem_map.mpr ⟨p, List.mem_range.mpr hp, rfl⟩), (fun r m => by cases m)⟩
    refine ⟨fun m σ Hx => ∃ (v1 v4 : Option V) (fo li : Rows) (ls : List Addr), m = (121 - fo.length) * 9 + li.length ∧ σ = [some (.ref x), v1, some (.ref d), some (.ref D), v4, none, none] ∧ Hx d = some (.dT (kd fo)) ∧ Hx D = some (.lst (ls.map V.ref)) ∧ RowsH Hx ls li ∧ Cl (nums us) n S fo li ∧ li.length ≤ 8 * (fo.length + 1) ∧ Same H Hx, ⟨_, none, none, [], _, bs, rfl, rfl, e1, eD, hb, W0, by rw [List.length_map, List.length_range]; show n ≤ 8; exact hn, s1⟩, ?_⟩
    rintro m σ Hx ⟨v1, v4, fo, li, ls, rfl, rfl, ed, el, hl, cl, hll, sx⟩
    refine ⟨_, rfl, Nat.zero_le _, fun em nem => ?_⟩
    have se := same_upd (o := .lst []) nem
    have eE : (upd Hx em (.lst [])) em = some (.lst []) := upd_same
    generalize upd Hx em (.lst []) = He at se eE
    have ed := se _ _ ed
    have el := se _ _ el
    have hl := hl.same se
    have sx := sx.trans se
    clear se
    refine ⟨_, _, dp_rows (SqL.of el) hl, .lst (SqL.of eE) .nil, shp_rows li, rfl, _, rfl, ?_⟩
    have hnd : ∀ xs, He d ≠ some (.tup xs) := fun xs z => by rw [ed] at z; cases z
    have hcs : li = [] ∨ ∃ l0 r, li = l0 ++ [r] := (List.eq_nil_or_concat li).imp_right fun ⟨l, r, e⟩ => ⟨l, r, by rw [e, List.concat_eq_append]⟩
    rcases hcs with rfl | ⟨li0, r, rfl⟩
    · refine iteFb (by rw [eqv_rows0]; rfl) ?_
      cases hl
      have full := cl.full RS
      have hof : ∀ r ∈ fo, r ∈ S := cl.fo
      have hfl := cl.len
      refine ⟨_, _, ed, trivial, fun od => ⟨_, rfl, d, od, rfl, .inr ⟨kd fo, upd_same, fun B nB => ?_⟩⟩⟩
      have nBd : B ≠ d := fun z => by rw [z, upd_same] at nB; cases nB
      have nBH : He B = none := by rw [upd_ne nBd] at nB; exact nB
      refine lc_it walk_keysT (fun j Hy => ∃ zs : Ts, Hy B = some (.lst (zs.map fun z => V.ref z.1)) ∧ PrH Hy zs ∧ zs.map (·.2.2) = fo.take j ∧ Same (upd He d (.frz od (.dT (kd fo)))) Hy) ⟨[], upd_same, (fun z m => by cases m), rfl, same_upd nB⟩ (fun j Hy _ hh => by obtain ⟨_, _, _, _, sy⟩ := hh; exact sy _ _ upd_same) ?_ ?_
      · rintro j y Hy H' hj ⟨zs, eB, hz, hzr, sy⟩ ⟨rfl, kk, vv, ra, hk, rfl, era⟩
        unfold kd at hk
        rw [List.getElem?_map] at hk
        cases hrj : fo[j]? with
        | none => rw [hrj] at hk; cases hk
        | some r =>
          rw [hrj] at hk
          cases hk
          rw [kr_kV] at era
          have hzl : zs.length ≤ j := by
            have := congrArg List.length hzr
            rw [List.length_map, List.length_take] at this
            omega
          have hjl : j < fo.length := (List.getElem?_eq_some_iff.mp hrj).1
          refine ⟨rfl, ?_⟩
          dsimp only [tYes]
          refine iteT ?_
          refine ⟨_, rfl, ra, r, rfl, SqT.of era, _, rfl, by show 2 ≤ sizeLine; decide, fun U nU => ?_⟩
          have sU := same_upd (o := .tup [.int r.sum, .ref ra]) nU
          have eU : upd H' U (.tup [.int r.sum, .ref ra]) U = some (.tup [.int r.sum, .ref ra]) := upd_same
          generalize upd H' U (.tup [.int r.sum, .ref ra]) = Hu at sU eU
          have eBu := sU _ _ eB
          refine ⟨_, eBu, small_2000 (by rw [List.length_map]; omega), zs ++ [(U, ra, r)], by rw [upd_same, List.map_append]; rfl, PrH.put (fun xs z => by rw [eBu] at z; cases z) _ fun z m => ?_, ?_, same_put (sy.trans sU) nB⟩
          · rcases List.mem_append.mp m with m | m
            · exact hz.same sU z m
            · rw [List.mem_singleton] at m
              subst m
              exact ⟨eU, sU _ _ era⟩
          · rw [List.map_append, hzr, List.take_add_one, hrj]
            rfl
      · rintro Hy ⟨zs, eB, hz, hzr, sy⟩
        have hkl : (kd fo).length = fo.length := by unfold kd; rw [List.length_map]
        rw [hkl, List.take_length] at hzr
        refine ⟨sy _ _ upd_same, ?_⟩
        have hdy : ∀ xs, Hy d ≠ some (.tup xs) := fun xs z => by rw [sy _ _ upd_same] at z; cases z
        have hz2 := hz.put hdy (.dT (kd fo))
        have eB2 : (upd Hy d (.dT (kd fo))) B = some (.lst (zs.map fun z => V.ref z.1)) := by rw [upd_ne nBd]; exact eB
        have s2 : Same He (upd Hy d (.dT (kd fo))) := fun b o h => by
          by_cases q : b = d
          · subst q
            rw [upd_same, ← h, ed]
          · rw [upd_ne q]
            exact sy b o (by rw [upd_ne q]; exact h)
        generalize upd Hy d (.dT (kd fo)) = Hw at hz2 eB2 s2
        simp only [tNil]
        refine sortQ_rd hn eB2 hz2 (fun z m => RS.ok (hof _ (by rw [← hzr]; exact List.mem_map.mpr ⟨z, m, rfl⟩))) fun ys p Hv pm sq np sv eys hys => ?_
        have hpr : (ys.map (·.2.2)).Perm fo := by rw [← hzr]; exact pm.map _
        have hyl : ys.length = fo.length := by have := hpr.length_eq; rw [List.length_map] at this; exact this
        have R : Rts S (ys.map (·.2.2)) := ⟨strict_of sq (hpr.nodup_iff.mpr cl.nd) fun a ma b mb e => rk_inj hn (RS.ok (hof a (hpr.mem_iff.mp ma))) (RS.ok (hof b (hpr.mem_iff.mp mb))) e, fun r => hpr.mem_iff.trans (full r)⟩
        have sHv := sx.trans (s2.trans sv)
        refine ⟨p, _, rfl, .inl (SqL.of eys), fun J hJ G nG => ?_⟩
        refine lc_seq hJ (fun j Hz => Hz G = some (.lst (((ys.take j).map (·.2.1)).map V.ref)) ∧ Same Hv Hz) ⟨upd_same, same_upd nG⟩ (fun j Hz _ hh => .of hh.2) ?_ ?_
        · rintro j y Hz hj ⟨eG, sz⟩
          obtain ⟨z, hzj, rfl⟩ := map_inv hj
          have hjl := (List.getElem?_eq_some_iff.mp hzj).1
          refine ⟨rfl, ?_⟩
          dsimp only [tYes]
          refine iteT ?_
          refine ⟨_, rfl, ?_⟩
          refine ix_at (j := 1) (.inr (SqT.of (sz _ _ (hys z (List.mem_of_getElem? hzj)).1))) rfl ?_
          refine ⟨_, eG, small_2000 (by rw [List.length_map, List.length_map, List.length_take]; omega), ?_, same_put sz nG⟩
          rw [upd_same, List.take_add_one, hzj, List.map_append, List.map_append]
          rfl
        · rintro Hz ⟨eG, sz⟩
          rw [List.length_map, List.take_length] at eG
          exact k _ G _ Hz R (sHv.trans sz) (none_of sHv nG) eG (hys.rows.same sz)
    · obtain ⟨ls0, ra, rfl, hl0, era⟩ := hl.split
      refine iteTb (by rw [eqv_rows0]; cases li0 <;> rfl) ?_
      have hll2 : li0.length + 1 ≤ 8 * (fo.length + 1) := by rw [List.length_append] at hll; exact hll
      have hfl := cl.len
      have mr : r ∈ S := cl.li r (List.mem_append_right _ (List.mem_singleton.mpr rfl))
      have okr := RS.ok mr
      refine ⟨fun σ Hx => ∃ (v1 v4 : Option V) (fo' li' : Rows) (ls' : List Addr), (121 - fo'.length) * 9 + li'.length < (121 - fo.length) * 9 + (li0 ++ [r]).length ∧ σ = [some (.ref x), v1, some (.ref d), some (.ref D), v4, none, none] ∧ Hx d = some (.dT (kd fo')) ∧ Hx D = some (.lst (ls'.map V.ref)) ∧ RowsH Hx ls' li' ∧ Cl (nums us) n S fo' li' ∧ li'.length ≤ 8 * (fo'.length + 1) ∧ Same H Hx, fun σ' H' h => ?_, ?_⟩
      · obtain ⟨v1, v4, fo', li', ls', h1, h2⟩ := h
        exact ⟨_, h1, v1, v4, fo', li', ls', rfl, h2⟩
      refine ⟨_, rfl, .inl ⟨rfl, _, SqL.of el⟩, D, _, .ref ra, rfl, rfl, el, ?_, ?_⟩
      · rw [List.map_append, List.length_append]
        show ((ls0.map V.ref) ++ [V.ref ra])[(ls0.map V.ref).length + 1 - 1]? = _
        rw [Nat.add_sub_cancel, List.getElem?_append_right (Nat.le_refl _), Nat.sub_self]
        rfl
      have hdl : ((ls0 ++ [ra]).map V.ref).dropLast = ls0.map V.ref := by rw [List.map_append]; exact List.dropLast_concat
      rw [hdl]
      have hnD : ∀ xs, He D ≠ some (.tup xs) := fun xs z => by rw [el] at z; cases z
      have el1 : (upd He D (.lst (ls0.map V.ref))) D = some (.lst (ls0.map V.ref)) := upd_same
      have ed1 : (upd He D (.lst (ls0.map V.ref))) d = some (.dT (kd fo)) := by rw [upd_ne eDd.symm]; exact ed
      have hl1 := hl0.put hnD (.lst (ls0.map V.ref))
      have era1 : (upd He D (.lst (ls0.map V.ref))) ra = some (.tup (r.map V.int)) := by rw [upd_ne (fun z => hnD _ (by rw [← z]; exact era))]; exact era
      have sx1 : Same H (upd He D (.lst (ls0.map V.ref))) := same_put sx nDH
      generalize upd He D (.lst (ls0.map V.ref)) = H1 at el1 ed1 hl1 era1 sx1
      have ekr : H1 ra = some (.tup ((kr r).map kV)) := by rw [kr_kV]; exact era1
      refine ⟨_, rfl, _, rfl, d, _, rfl, DGet.t ed1 ekr, _, rfl, ?_⟩
      rw [kd_val]
      by_cases c : r ∈ fo
      · refine iteFb (by rw [decide_eq_true c]; rfl) ?_
        refine ⟨_, _, fo, li0, ls0, ?_, rfl, ed1, el1, hl1, cl.old c, by omega, sx1⟩
        rw [List.length_append]
        show _ < _ + (li0.length + 1)
        omega
      refine iteTb (by rw [decide_eq_false c]; rfl) ?_
      refine ⟨_, rfl, _, rfl, d, _, rfl, DPut.t ed1 ekr (small_2000 (by unfold kd; rw [List.length_map]; omega)), ?_⟩
      rw [kd_put, show addR fo r = fo ++ [r] from if_neg c]
      have hnd1 : ∀ xs, H1 d ≠ some (.tup xs) := fun xs z => by rw [ed1] at z; cases z
      have el2 : (upd H1 d (.dT (kd (fo ++ [r])))) D = some (.lst (ls0.map V.ref)) := by rw [upd_ne eDd]; exact el1
      have ed2 : (upd H1 d (.dT (kd (fo ++ [r])))) d = some (.dT (kd (fo ++ [r]))) := upd_same
      have hl2 := hl1.put hnd1 (.dT (kd (fo ++ [r])))
      have era2 : (upd H1 d (.dT (kd (fo ++ [r])))) ra = some (.tup (r.map V.int)) := by rw [upd_ne (fun z => hnd1 _ (by rw [← z]; exact era1))]; exact era1
      have sx2 : Same H (upd H1 d (.dT (kd (fo ++ [r])))) := same_put sx1 nd0
      generalize upd H1 d (.dT (kd (fo ++ [r]))) = H2 at el2 ed2 hl2 era2 sx2
      refine ⟨_, rfl, x, _, rfl, DGet.k (k := Sum.inr "many") (hN.same sx2).e, (n : Int), rfl, by omega, by omega, ?_⟩
      rw [Int.toNat_natCast]
      refine for_range (lo := 0) (n := n) (fun j σ Hy => ∃ (v1 : Option V) (ad : Rows) (la : List Addr), σ = [some (.ref x), v1, some (.ref d), some (.ref D), some (.ref ra), none, none] ∧ Hy d = some (.dT (kd (fo ++ [r]))) ∧ Hy D = some (.lst ((ls0 ++ la).map V.ref)) ∧ RowsH Hy (ls0 ++ la) (li0 ++ ad) ∧ ad.length ≤ j ∧ (∀ q, q ∈ ad ↔ AbvJ (nums us) r j q) ∧ Hy ra = some (.tup (r.map V.int)) ∧ Same H Hy) ⟨_, [], [], rfl, ed2, by rw [List.append_nil]; exact el2, by rw [List.append_nil, List.append_nil]; exact hl2, Nat.le_refl _, fun q => ⟨fun m => (by cases m), fun ⟨_, h, _⟩ => absurd h (Nat.not_lt_zero _)⟩, era2, sx2⟩ ?_ ?_
      · rintro j σ Hy hj ⟨v1, ad, la, rfl, edy, ely, hly, hal, had, eray, sy⟩
        have hjr : j < r.length := by rw [okr.len]; exact hj
        rw [Int.zero_add]
        refine ⟨_, rfl, _, rfl, _, rfl, x, ps, ra, n, us, r, j, rfl, hN.same sy, hE, hul, .inr (SqT.of eray), okr.len, hj, fun Hz sz => ?_⟩
        refine ⟨_, _, rfl, rfl, _, rfl, ?_⟩
        have hup := RS.up r mr j hj
        have syz := sy.trans sz
        by_cases c2 : nearS (nums us) (rowF r) j = 2 * rowF r j + 1
        · refine iteTb (decide_eq_true (by omega)) ?_
          refine ⟨_, rfl, .inl ⟨rfl, _, SqL.of (sz _ _ ely)⟩, ?_⟩
          refine ⟨_, rfl, ?_⟩
          dsimp only [tNoPart]
          refine ⟨_, rfl, _, rfl, ?_⟩
          have erz := sz _ _ eray
          refine slA_to erz (by rw [List.length_map]; omega) fun t1 Ha sa e1 => ?_
          refine ⟨_, rfl, _, rfl, ?_⟩
          refine ix_at (.inr (SqT.of (sa _ _ erz))) (row_v hjr) ?_
          refine ⟨_, rfl, _, rfl, _, rfl, x, ps, ra, n, us, r, j, rfl, hN.same (syz.trans sa), hE, hul, .inr (SqT.of (sa _ _ erz)), okr.len, hj, fun Hb sb => ?_⟩
          refine ⟨_, _, rfl, rfl, by show 1 ≤ sizeLine; decide, fun t2 nt2 => ?_⟩
          have ev : rowF r j - (2 * rowF r j - nearS (nums us) (rowF r) j) = rowF r j + 1 := by omega
          have s2 := same_upd (o := .tup [.int (rowF r j - (2 * rowF r j - nearS (nums us) (rowF r) j))]) nt2
          refine catA_any (s2 _ _ (sb _ _ e1)) upd_same (by rw [List.length_take, List.length_map, okr.len]; show _ + 1 ≤ 1000; omega) fun t3 Hc sc e3 => ?_
          have sac := (sz.trans sa).trans (sb.trans (s2.trans sc))
          refine ⟨_, rfl, _, rfl, _, _, rfl, rfl, _, rfl, ?_⟩
          dsimp only [tNoPart]
          refine slA_from (k := j + 1) (sac _ _ eray) (by rw [List.length_map]; omega) fun t4 Hf sf e4 => ?_
          refine catA_any (sf _ _ e3) e4 (by rw [List.length_append, List.length_take, List.length_drop, List.length_map, okr.len]; show _ + 1 + _ ≤ 1000; omega) fun t5 Hg sg e5 => ?_
          rw [set_cut hjr, ev] at e5
          have sag := sac.trans (sf.trans sg)
          have hupR : r.set j (rowF r j + 1) = upR r j := by unfold upR; rw [rowF_nat]
          rw [hupR] at e5
          have elg := sag _ _ ely
          have lsl := hl0.len
          have lsa := hly.len
          rw [List.length_append, List.length_append] at lsa
          refine ⟨D, _, _, rfl, rfl, elg, small_2000 (by rw [List.length_map, List.length_append]; omega), ?_⟩
          have hng : ∀ xs, Hg D ≠ some (.tup xs) := fun xs z => by rw [elg] at z; cases z
          refine ⟨_, ad ++ [upR r j], la ++ [t5], rfl, by rw [upd_ne eDd.symm]; exact sag _ _ edy, by rw [upd_same, ← List.append_assoc, List.map_append (l₁ := ls0 ++ la)]; rfl, ?_, by rw [List.length_append]; exact Nat.succ_le_succ hal, fun q => ?_, ?_, same_put (sy.trans sag) nDH⟩
          · rw [← List.append_assoc, ← List.append_assoc]
            exact ((hly.same sag).app (.cons e5 .nil)).put hng _
          · rw [List.mem_append, List.mem_singleton, had q, abvJ_yes c2]
          · rw [upd_ne (fun z => hng _ (by rw [← z]; exact sag _ _ eray))]
            exact sag _ _ eray
        · refine iteFb (decide_eq_false (by have := hup.1; omega)) ?_
          exact ⟨_, ad, la, rfl, sz _ _ edy, sz _ _ ely, hly.same sz, by omega, fun q => by rw [had q, abvJ_no c2], sz _ _ eray, syz⟩
      · rintro σ Hy ⟨v1, ad, la, rfl, edy, ely, hly, hal, had, eray, sy⟩
        have cn := cl.new RS c (Ad := ad) fun q => (had q).trans ⟨fun ⟨p, h⟩ => ⟨p, h⟩, fun ⟨p, h⟩ => ⟨p, h⟩⟩
        have hfl2 := cn.len
        rw [List.length_append] at hfl2
        have h1 : [r].length = 1 := rfl
        refine ⟨_, _, fo ++ [r], li0 ++ ad, ls0 ++ la, ?_, rfl, edy, ely, hly, cn, ?_, sy⟩
        · rw [List.length_append, List.length_append, List.length_append]
          omega
        · rw [List.length_append, List.length_append]
          omega
end
end K03


set_option Elab.async false
set_option maxRecDepth 100000
set_option maxHeartbeats 4000000
set_option linter.all false
namespace K03
open PySem PySem.Spec PyProof.Rows L2 NetM
abbrev sDue : Stmt := top 50
abbrev NDue : List Str := ["net", "many_here", "arms", "branch", "near", "ends", "place", "pair"]
theorem scDue : FnScope NDue ["net"] (defScope sDue) := ⟨rfl, rfl, rfl, by decide +kernel, rfl, by decide +kernel, by decide +kernel⟩
def due3 (n : Nat) : Nat := if n = 6 then 36 else if n = 7 then 63 else 120
/-- how many roots are due, by the branches -/
structure DueF (E : Prs) (n due : Nat) : Prop where
  line : (∀ j : Nat, j < n → dg E j ≠ 3) → due = n * (n + 1) / 2
  fork : ∀ j : Nat, j < n → dg E j = 3 → 1 < lf E j → due = n * (n - 1)
  arms : ∀ j : Nat, j < n → dg E j = 3 → lf E j ≤ 1 → 6 ≤ n ∧ due = due3 n
def spDue : Sp := fun vs H Q _ => ∃ (x ps : Addr) (n : Nat) (us : Zs) (due : Nat), vs = [.ref x] ∧ LNet H x ps n us ∧ In n (nums us) ∧ us.length ≤ 12 ∧ 0 < n ∧ n ≤ 8 ∧ (∀ a b, (a, b) ∈ nums us → a ≠ b) ∧ DueF (nums us) n due ∧ ∀ H', Same H H' → Q (.int due) H'
/-- the ends of pairs at a place, where none leads to itself -/
def at1 (q : Int × Int) (p : Int) : List Int := if q.1 = p ∨ q.2 = p then [q.1 + q.2 - p] else []
theorem near1_at {q : Int × Int} {p : Int} (ne : q.1 ≠ q.2) : near1 q p = at1 q p := by
  unfold near1 at1
  by_cases c1 : q.1 = p
  · have c2 : q.2 ≠ p := fun z => ne (by rw [c1, z])
    rw [if_pos c1, if_neg c2, if_pos (.inl c1), List.append_nil]
    congr 1
    omega
  · by_cases c2 : q.2 = p
    · rw [if_neg c1, if_pos c2, if_pos (.inr c2), List.nil_append]
      congr 1
      omega
    · rw [if_neg c1, if_neg c2, if_neg (fun z => z.elim c1 c2)]
      rfl
theorem nearL_snoc (E : Prs) (q : Int × Int) (p : Int) : nearL (E ++ [q]) p = nearL E p ++ near1 q p := by
  unfold nearL
  rw [List.flatMap_append, List.flatMap_cons, List.flatMap_nil, List.append_nil]
def dgL (E : Prs) (n : Nat) : List Int := (List.range n).map fun (j : Nat) => (dg E j : Int)
theorem dgL_len (E : Prs) (n : Nat) : (dgL E n).length = n := by unfold dgL; rw [List.length_map, List.length_range]
theorem dgL_at {E : Prs} {n j : Nat} (h : j < n) : (dgL E n)[j]? = some (dg E j : Int) := by
  unfold dgL
  rw [List.getElem?_map, List.getElem?_range h]
  rfl
theorem first_of {E : Prs} : ∀ {n : Nat}, (3 : Int) ∈ dgL E n → ∃ j, j < n ∧ dg E j = 3 ∧ ∀ m, m < j → dg E m ≠ 3 := by
  intro n h
  have h2 : ∃ j, j < n ∧ dg E j = 3 := by
    unfold dgL at h
    obtain ⟨j, m, e⟩ := List.mem_map.mp h
    exact ⟨j, List.mem_range.mp m, by omega⟩
  obtain ⟨j, hj, e⟩ := h2
  induction j using Nat.strongRecOn with
  | _ j ih =>
    by_cases c : ∃ m, m < j ∧ dg E m = 3
    · obtain ⟨m, hm, em⟩ := c
      exact ih m hm (by omega) em
    · exact ⟨j, hj, e, fun m hm em => c ⟨m, hm, em⟩⟩
section
variable {P : Program} {w : World} {K : PySem.W.Frag} {mg : Str → Option Value} {base : Heap}
theorem in_pair {K : PySem.W.Frag} {H : Hp} {z : Addr} {i a b : Int} {Q : VK} (h : H z = some (.tup [.int a, .int b])) (q : Q (.bl (decide (a = i ∨ b = i))) H) : rIn K false (.int i) (.ref z) H Q := by
  refine ⟨z, _, rfl, .inr (SqT.of h), rfl, rfl, ?_⟩
  have e : inV (.int i) [.int a, .int b] = decide (a = i ∨ b = i) := by
    have := inV_ints i [a, b]
    rw [show [V.int a, V.int b] = [a, b].map V.int from rfl, this]
    refine decide_eq_decide.mpr ?_
    rw [List.mem_cons, List.mem_singleton]
    exact ⟨fun h => h.imp Eq.symm Eq.symm, fun h => h.imp Eq.symm Eq.symm⟩
  show Q (.bl (inV (.int i) [.int a, .int b])) H
  rw [e]
  exact q
theorem ok_due {f : Addr} {fd : FuncData} (F : Fun K "_law_many_due" "_law_many_due" sDue f fd) (mRa : mg "range" = none) (mLen : mg "len" = none) : FnOk P w K mg base CX0 1 f fd ["net"] spDue := by
  refine F.ok scDue (fun vs H Q E h => ?_) (fun cdv A outer s H vs Q E hr h => ?_)
  · obtain ⟨x, ps, n, us, due, rfl, _⟩ := h
    rfl
  · obtain ⟨x, ps, n, us, due, rfl, hN, hE, hul, n0, hn, nl, DF, k⟩ := h
    have nd := scDue.nd
    have hu := hu_of hr
    refine ⟨_, pss_cons (ps_set (i := 1) nd rfl (by first | exact Or.inl rfl | exact Or.inr rfl) (pe_dget hu (pv 0) pe_str (fun _ _ => rfl)))
      (pss_cons (ps_set (i := 2) nd rfl (by first | exact Or.inl rfl | exact Or.inr rfl) (pe_lc (own := [("place", 6)]) (g := gName 6) (by rfl) nd (pi_range1 (by rfl) mRa (pa_cons (pv 1) pa_nil)) (blkOk_by (own := [("place", 6)]) (N := NDue) (sc := defScope sDue) (by decide +kernel)) (fun _ _ _ _ _ => pg_name (i := 6) nd rfl (by first | exact Or.inl rfl | exact Or.inr rfl)) (fun _ _ _ _ _ => pts_nil)
          (fun _ _ _ _ _ => pe_callB (show CallR _ _ (fun xs H Q => ∃ p ys, xs = [.ref p] ∧ (SqL K H p ys ∨ SqT K H p ys) ∧ Q (.int ys.length) H) from call_len_seq) (by rfl) mLen PySem.boot_len (pa_cons
            (pe_lc (own := [("pair", 7)]) (g := gName 7) (by rfl) nd (show PI _ _ _ (iSeq K (tDGet (tVar 0) (tC (.str "pairs")))) from pi_seq (pe_dget (by exact hu) (pv 0) pe_str (fun _ _ => rfl))) (blkOk_by (own := [("pair", 7)]) (N := NDue) (by kernel_rfl)) (fun _ _ _ _ _ => pg_name (i := 7) nd rfl (by first | exact Or.inl rfl | exact Or.inr rfl)) (fun _ _ _ _ _ => pts_one (pt_cmpR (show OpR _ _ (rIn K false) from op_in_seq) (pv 6) (pv 7) rfl))
              (fun _ _ _ _ _ => pe_int)) pa_nil))))
      (pss_cons (ps_if (pt_cmpR (show OpR _ _ (rIn K true) from op_notIn_seq) pe_int (pv 2) rfl) (pss_one (ps_ret (pe_op op_fdivN (pe_op op_mul (pv 1) (pe_op op_add (pv 1) pe_int)) pe_int))) pss_nil)
      (pss_cons (ps_set (i := 3) nd rfl (by first | exact Or.inl rfl | exact Or.inr rfl) (pe_bm PySem.F.plainAttrs_list PySem.F.slot_list_index PySem.F.type_list_index mt_index (pv 2) (pa_cons pe_int pa_nil)))
      (pss_cons (ps_setLc (i := 4) (own := [("pair", 7)]) (g := gName 7) (by rfl) nd rfl rfl (sw_true rfl rfl rfl (by decide +kernel)) (pi_seq (pe_dget hu (pv 0) pe_str (fun _ _ => rfl))) (blkOk_by (own := [("pair", 7)]) (N := NDue) (sc := defScope sDue) (by decide +kernel)) (fun _ _ _ _ _ => pg_name (i := 7) nd rfl (by first | exact Or.inl rfl | exact Or.inr rfl)) (fun _ _ _ _ _ => pts_one (pt_cmpR (show OpR _ _ (rIn K false) from op_in_seq) (pv 3) (pv 7) rfl))
          (fun _ _ _ _ _ => pe_op op_sub (pe_op op_add (pe_ix (show IxR _ (rIx K) from ix_seq) (pv 7) pe_int (fun _ _ => rfl)) (pe_ix (show IxR _ (rIx K) from ix_seq) (pv 7) pe_int (fun _ _ => rfl))) (pv 3)))
      (pss_cons (ps_setLc (i := 5) (own := [("place", 6)]) (g := gName 6) (by rfl) nd rfl rfl (sw_true rfl rfl rfl (by decide +kernel)) (pi_seq (pv 4)) (blkOk_by (own := [("place", 6)]) (N := NDue) (sc := defScope sDue) (by decide +kernel)) (fun _ _ _ _ _ => pg_name (i := 6) nd rfl (by first | exact Or.inl rfl | exact Or.inr rfl)) (fun _ _ _ _ _ => pts_one (pt_cmpR op_eq (show PE _ _ (tOp (rIx K) (tVar 2) (tVar 6)) from pe_ix (show IxR _ (rIx K) from ix_seq) (pv 2) (pv 6) (fun _ _ => rfl)) pe_int (nomark _)))
          (fun _ _ _ _ _ => pv 6))
      (pss_one (ps_ret (pe_ifExp (pt_cmpR op_gt (pe_callB call_len_seq (by rfl) mLen PySem.boot_len (pa_cons (pv 5) pa_nil)) pe_int (nomark _)) (pe_op op_mul (pv 1) (pe_op op_sub (pv 1) pe_int))
          (pe_dget hu (pe_disp (pps_cons pe_int pe_int (pps_cons pe_int pe_int (pps_cons pe_int pe_int pps_nil))) (by rfl) (by rfl) (fun z => by cases z) (by decide)) (pv 1) (fun _ _ => rfl)))))))))), ?_⟩
    have hnl : ∀ i j : Nat, (nearL ((nums us).take i) j).length ≤ 24 := fun i j => by
      have := nearL_len ((nums us).take i) j
      have h3 : ((nums us).take i).length ≤ 12 := by rw [List.length_take]; exact Nat.le_trans (Nat.min_le_right _ _) (by unfold nums; rw [List.length_map]; exact hul)
      omega
    have htk : ∀ {i : Nat} {z : Addr × Int × Int}, us[i]? = some z → (nums us).take (i + 1) = (nums us).take i ++ [z.2] := fun hz => by rw [List.take_add_one, nums_get hz]; rfl
    have hnls : (rf us).length = (nums us).length := by unfold rf nums; rw [List.length_map, List.length_map]
    refine ⟨_, rfl, x, _, rfl, DGet.k (k := Sum.inr "many") hN.e, ?_⟩
    refine ⟨_, rfl, (n : Int), rfl, by omega, by omega, fun B nB => ?_⟩
    rw [Int.toNat_natCast]
    refine lc_range (lo := 0) (n := n) (fun i Hb => Hb B = some (.lst (((dgL (nums us) n).take i).map V.int)) ∧ Same H Hb) ⟨upd_same, same_upd nB⟩ ?_ ?_
    · rintro i Hb hi ⟨eB, sb⟩
      refine ⟨rfl, ?_⟩
      dsimp only [tYes]
      refine iteT ?_
      rw [Int.zero_add]
      have Nb := hN.same sb
      refine ⟨_, rfl, x, _, rfl, DGet.k (k := Sum.inr "pairs") Nb.e, ps, rf us, rfl, .inl (SqL.of Nb.et), fun J hJ C nC => ?_⟩
      refine lc_seq hJ (fun j Hc => Hc C = some (.lst (List.replicate (nearL ((nums us).take j) i).length (V.int 1))) ∧ Same Hb Hc) ⟨upd_same, same_upd nC⟩ (fun j Hc _ hh => .of hh.2) ?_ ?_
      · rintro j y Hc hj ⟨eC, sc⟩
        obtain ⟨⟨z, z1, z2⟩, hz, rfl⟩ := rf_inv hj
        have ez := sc _ _ (Nb.p _ (List.mem_of_getElem? hz))
        have ne := nl z1 z2 (List.mem_of_getElem? (nums_get hz))
        refine ⟨rfl, ?_⟩
        refine ⟨_, rfl, _, rfl, ?_⟩
        refine in_pair ez ?_
        refine ⟨_, rfl, ?_⟩
        rw [htk hz, nearL_snoc, near1_at (q := (z1, z2)) ne, List.length_append]
        unfold at1
        by_cases c : z1 = (i : Int) ∨ z2 = (i : Int)
        · refine iteTb (decide_eq_true c) ?_
          refine ⟨_, eC, small_2000 (by rw [List.length_replicate]; have := hnl j i; omega), ?_, same_put sc nC⟩
          rw [upd_same, if_pos c]
          show _ = some (HO.lst (List.replicate (_ + 1) _))
          rw [List.replicate_succ']
        · refine iteFb (decide_eq_false c) ?_
          rw [if_neg c]
          exact ⟨eC, sc⟩
      · rintro Hc ⟨eC, sc⟩
        rw [hnls, List.take_length] at eC
        refine ⟨C, _, rfl, .inl (SqL.of eC), _, sc _ _ eB, small_2000 (by rw [List.length_map, List.length_take, dgL_len]; omega), ?_, same_put (sb.trans sc) nB⟩
        rw [upd_same, List.take_add_one, dgL_at hi, List.map_append, List.length_replicate]
        rfl
    rintro Hb ⟨eB, sb⟩
    rw [List.take_of_length_le (by rw [dgL_len]; exact Nat.le_refl _)] at eB
    refine ⟨_, rfl, B, _, rfl, .inl (SqL.of eB), rfl, flat_ints _, _, rfl, ?_⟩
    show ite ((!inV (V.int 3) ((dgL (nums us) n).map V.int)) = true) _ _
    rw [inV_ints]
    by_cases c3 : (3 : Int) ∈ dgL (nums us) n
    rotate_left
    · refine iteTb (by rw [decide_eq_false c3]; rfl) ?_
      refine ⟨_, rfl, _, rfl, _, _, rfl, rfl, _, _, rfl, rfl, .inl ⟨by omega, by omega⟩, _, _, rfl, rfl, ⟨by decide, by decide⟩, ?_⟩
      have hd := DF.line fun j hj e => c3 (List.mem_map.mpr ⟨j, List.mem_range.mpr hj, by rw [e]; rfl⟩)
      have e : ((n : Int) * ((n : Int) + 1)).fdiv 2 = (due : Int) := by
        rw [hd, Int.fdiv_eq_ediv_of_nonneg _ (by decide)]
        push_cast
        rfl
      have q := k Hb sb
      rw [← e] at q
      exact q
    obtain ⟨j, hj, ej, fj⟩ := first_of c3
    refine iteFb (by rw [decide_eq_true c3]; rfl) ?_
    refine ⟨_, rfl, .inl ⟨rfl, _, SqL.of eB⟩, B, _, .int 3, j, .int 3, rfl, rfl, SqL.of eB, rfl, flat_ints _, by rw [List.getElem?_map, dgL_at hj, ej]; rfl, by decide, fun m z' hm hz => ?_, ?_⟩
    · rw [List.getElem?_map, dgL_at (by omega)] at hz
      cases hz
      have := fj m hm
      show decide _ = false
      exact decide_eq_false (by intro z; omega)
    have Nb := hN.same sb
    refine ⟨_, rfl, x, _, rfl, DGet.k (k := Sum.inr "pairs") Nb.e, ps, rf us, rfl, .inl (SqL.of Nb.et), fun J hJ C nC => ?_⟩
    refine lc_seq hJ (fun i Hc => Hc C = some (.lst ((nearL ((nums us).take i) j).map V.int)) ∧ Same Hb Hc) ⟨upd_same, same_upd nC⟩ (fun i Hc _ hh => .of hh.2) ?_ ?_
    · rintro i y Hc hi ⟨eC, sc⟩
      obtain ⟨⟨z, z1, z2⟩, hz, rfl⟩ := rf_inv hi
      have ez := sc _ _ (Nb.p _ (List.mem_of_getElem? hz))
      have ne := nl z1 z2 (List.mem_of_getElem? (nums_get hz))
      refine ⟨rfl, ?_⟩
      refine ⟨_, rfl, _, rfl, ?_⟩
      refine in_pair ez ?_
      refine ⟨_, rfl, ?_⟩
      rw [htk hz, nearL_snoc, near1_at (q := (z1, z2)) ne]
      unfold at1
      by_cases c : z1 = (j : Int) ∨ z2 = (j : Int)
      · refine iteTb (decide_eq_true c) ?_
        refine ⟨_, rfl, ?_⟩
        refine ix_at (j := 0) (.inr (SqT.of ez)) rfl ?_
        refine ⟨_, rfl, ?_⟩
        refine ix_at (j := 1) (.inr (SqT.of ez)) rfl ?_
        refine ⟨_, _, rfl, rfl, _, rfl, _, _, rfl, rfl, _, eC, small_2000 (by rw [List.length_map]; have := hnl i j; omega), ?_, same_put sc nC⟩
        rw [upd_same, if_pos c, List.map_append]
        rfl
      · refine iteFb (decide_eq_false c) ?_
        rw [if_neg c, List.append_nil]
        exact ⟨eC, sc⟩
    rintro Hc ⟨eC, sc⟩
    rw [hnls, List.take_length] at eC
    have eBc := sc _ _ eB
    refine ⟨_, rfl, C, _, rfl, .inl (SqL.of eC), fun J hJ D nD => ?_⟩
    refine lc_seq hJ (fun i Hd => Hd D = some (.lst ((((nearL (nums us) j).take i).filter fun y => decide (dg (nums us) y = 1)).map V.int)) ∧ Same Hc Hd) ⟨upd_same, same_upd nD⟩ (fun i Hd _ hh => .of hh.2) ?_ ?_
    · rintro i y Hd hi ⟨eD, sd⟩
      obtain ⟨y0, hy0, rfl⟩ := map_inv hi
      have hin : InR n y0 := nearL_in hE j y0 (List.mem_of_getElem? hy0)
      have hy := natI hin
      refine ⟨rfl, ?_⟩
      refine ⟨_, rfl, _, rfl, ?_⟩
      have ed : (dgL (nums us) n)[y0.toNat]? = some (dg (nums us) y0 : Int) := by rw [dgL_at hy.2, hy.1]
      refine (show rIx K (.ref B) (.int y0) Hd _ from ?_)
      rw [← hy.1]
      refine ix_at (.inl (SqL.of (sd _ _ eBc))) (v := .int (dg (nums us) y0)) (by rw [List.getElem?_map, ed]; rfl) ?_
      rw [hy.1]
      refine ⟨rfl, _, rfl, ?_⟩
      rw [List.take_add_one, hy0, List.filter_append, List.map_append]
      by_cases c : dg (nums us) y0 = 1
      · refine iteTb (decide_eq_true (by rw [c]; rfl)) ?_
        have hlt : (((nearL (nums us) j).take i).filter fun y => decide (dg (nums us) y = 1)).length ≤ 24 := by
          have h1 := List.length_filter_le (fun y => decide (dg (nums us) y = 1)) ((nearL (nums us) j).take i)
          have h2 : ((nearL (nums us) j).take i).length ≤ (nearL (nums us) j).length := by rw [List.length_take]; exact Nat.min_le_right _ _
          have h4 := nearL_len (nums us) j
          have h5 : (nums us).length = us.length := by unfold nums; rw [List.length_map]
          omega
        refine ⟨_, rfl, _, eD, small_2000 (by rw [List.length_map]; omega), ?_, same_put sd nD⟩
        rw [upd_same]
        show _ = some (HO.lst (_ ++ ((List.filter _ [y0]).map V.int)))
        rw [List.filter_cons, if_pos (decide_eq_true c)]
        rfl
      · refine iteFb (decide_eq_false (fun q => c (by have := V.int.inj q; omega))) ?_
        show _ = some (HO.lst (_ ++ ((List.filter _ [y0]).map V.int))) ∧ _
        rw [List.filter_cons, if_neg (by simpa using c), List.filter_nil, List.map_nil, List.append_nil]
        exact ⟨eD, sd⟩
    rintro Hd ⟨eD, sd⟩
    rw [List.length_map, List.take_length] at eD
    have s1 := sb.trans (sc.trans sd)
    have hlf : ((nearL (nums us) j).filter fun y => decide (dg (nums us) y = 1)).length = lf (nums us) j := rfl
    refine ⟨_, rfl, D, _, rfl, .inl (SqL.of eD), _, _, rfl, rfl, _, rfl, ?_⟩
    rw [List.length_map, hlf]
    by_cases c1 : 1 < lf (nums us) j
    · refine iteTb (decide_eq_true (by omega)) ?_
      refine ⟨_, rfl, _, rfl, _, _, rfl, rfl, _, _, rfl, rfl, .inl ⟨by omega, by omega⟩, ?_⟩
      have hd := DF.fork j hj ej c1
      have e : (n : Int) * ((n : Int) - 1) = (due : Int) := by
        rw [hd]
        push_cast
        rw [show ((n - 1 : Nat) : Int) = (n : Int) - 1 by omega]
      have q := k Hd s1
      rw [← e] at q
      exact q
    · refine iteFb (decide_eq_false (by omega)) ?_
      obtain ⟨h6, hd⟩ := DF.arms j hj ej (by omega)
      refine fun p np => ⟨upd_same, [(Sum.inl 6, V.int 36), (Sum.inl 7, V.int 63), (Sum.inl 8, V.int 120)], rfl, by show 3 ≤ 15; decide, ?_⟩
      have em : mergeK [] [(Sum.inl 6, V.int 36), (Sum.inl 7, V.int 63), (Sum.inl 8, V.int 120)] = [(Sum.inl 6, V.int 36), (Sum.inl 7, V.int 63), (Sum.inl 8, V.int 120)] := rfl
      refine ⟨_, rfl, p, .int (due3 n), rfl, .inl ⟨_, Sum.inl (n : Int), .inl upd_same, rfl, ?_⟩, ?_⟩
      · rw [em]
        have : n = 6 ∨ n = 7 ∨ n = 8 := by omega
        rcases this with rfl | rfl | rfl <;> rfl
      · rw [← hd]
        exact k _ (s1.trans (same_put (same_upd (o := .dK []) np) np))
end
end K03


set_option Elab.async false
set_option maxRecDepth 100000
set_option maxHeartbeats 4000000
set_option linter.all false
namespace K03
open PySem PySem.Spec PyProof.Rows L2 NetM
abbrev sTried : Stmt := top 51
abbrev sLMir : Stmt := top 52
abbrev NTr : List Str := ["net", "most", "found", "place", "longer", "row", "number"]
abbrev NMi : List Str := ["net", "place", "row", "found", "tail", "head"]
theorem scTried : FnScope NTr ["net", "most"] (defScope sTried) := ⟨rfl, rfl, rfl, by decide +kernel, rfl, by decide +kernel, by decide +kernel⟩
theorem scLMir : FnScope NMi ["net", "place", "row"] (defScope sLMir) := ⟨rfl, rfl, rfl, by decide +kernel, rfl, by decide +kernel, by decide +kernel⟩
def ext4 (r : List Int) : Rows := (List.range 4).map fun (i : Nat) => r ++ [(i : Int)]
def triedL : Nat → Rows
  | 0 => [[]]
  | n + 1 => (triedL n).flatMap ext4
theorem tried_len : ∀ n, (triedL n).length = 4 ^ n
  | 0 => rfl
  | n + 1 => by
    have h : ∀ l : Rows, (l.flatMap ext4).length = 4 * l.length := fun l => by
      induction l with
      | nil => rfl
      | cons a l ih => rw [List.flatMap_cons, List.length_append, ih, List.length_cons]; show 4 + _ = _; omega
    show ((triedL n).flatMap ext4).length = _
    rw [h, tried_len n, Nat.pow_succ, Nat.mul_comm]
theorem mem_tried : ∀ (n : Nat) (r : List Int), r ∈ triedL n ↔ r.length = n ∧ ∀ i ∈ r, 0 ≤ i ∧ i ≤ 3
  | 0, r => by
    show r ∈ [[]] ↔ _
    rw [List.mem_singleton, List.length_eq_zero_iff]
    exact ⟨fun h => ⟨h, fun i m => by rw [h] at m; cases m⟩, fun h => h.1⟩
  | n + 1, r => by
    show r ∈ (triedL n).flatMap ext4 ↔ _
    rw [List.mem_flatMap]
    constructor
    · rintro ⟨q, mq, m⟩
      obtain ⟨i, mi, rfl⟩ := List.mem_map.mp m
      have h := (mem_tried n q).mp mq
      have hi := List.mem_range.mp mi
      refine ⟨by rw [List.length_append, h.1]; rfl, fun j mj => ?_⟩
      rcases List.mem_append.mp mj with mj | mj
      · exact h.2 j mj
      · rw [List.mem_singleton.mp mj]; omega
    · rintro ⟨hl, hb⟩
      have hcs : r = [] ∨ ∃ l0 i, r = l0 ++ [i] := (List.eq_nil_or_concat r).imp_right fun ⟨l, r, e⟩ => ⟨l, r, by rw [e, List.concat_eq_append]⟩
      rcases hcs with rfl | ⟨q, i, rfl⟩
      · cases hl
      · have hi := hb i (List.mem_append_right _ (List.mem_singleton.mpr rfl))
        rw [List.length_append] at hl
        refine ⟨q, (mem_tried n q).mpr ⟨by have : [i].length = 1 := rfl; omega, fun j mj => hb j (List.mem_append_left _ mj)⟩, List.mem_map.mpr ⟨i.toNat, List.mem_range.mpr (by omega), ?_⟩⟩
        rw [show ((i.toNat : Nat) : Int) = i by omega]
theorem tried_nd : ((List.range 5).all fun n => decide (triedL n).Nodup) = true := by decide +kernel
def spTried (K : PySem.W.Frag) : Sp := fun vs H Q _ => ∃ (x ps : Addr) (n : Nat) (us : Zs), vs = [.ref x, .int 3] ∧ LNet H x ps n us ∧ In n (nums us) ∧ us.length ≤ 12 ∧ n ≤ 4 ∧
  ∀ l as H', Same H H' → H l = none → H' l = some (.lst (as.map V.ref)) → RowsH H' as ((triedL n).filter fun r => decide (frm (nums us) n (rowF r) = 1)) → Q (.ref l) H'
def spLMir (K : PySem.W.Frag) : Sp := fun vs H Q _ => ∃ (x ps a : Addr) (n : Nat) (us : Zs) (L : List Int) (p : Nat), vs = [.ref x, .int p, .ref a] ∧ LNet H x ps n us ∧ In n (nums us) ∧ us.length ≤ 12 ∧ SqT K H a (L.map V.int) ∧ L.length = n ∧ p < n ∧ ∀ T H', Same H H' → H' T = some (.tup ((mirR (nums us) L p).map V.int)) → Q (.ref T) H'
section
variable {P : Program} {w : World} {K : PySem.W.Frag} {mg : Str → Option Value} {base : Heap}
theorem ok_tried {f fP : Addr} {fd dP : FuncData} (F : Fun K "_law_tried" "_law_tried" sTried f fd) (GP : FnOk P w K mg base CX0 1 fP dP ["net", "one", "other"] (spLPair K)) (bP : L2.Binds K dP ["net", "one", "other"] []) (gP : mg "_law_pair" = some (.ref fP)) (kP : PySem.W.keepIn K (.ref fP) = true) (mRa : mg "range" = none) : FnOk P w K mg base CX0 2 f fd ["net", "most"] (spTried K) := by
  refine F.ok scTried (fun vs H Q E h => ?_) (fun cdv A outer s H vs Q E hr h => ?_)
  · obtain ⟨x, ps, n, us, rfl, _⟩ := h
    rfl
  · obtain ⟨x, ps, n, us, rfl, hN, hE, hul, hn, k⟩ := h
    have nd := scTried.nd
    have hu := hu_of hr
    refine ⟨_, pss_cons (ps_set (i := 2) nd rfl (by first | exact Or.inl rfl | exact Or.inr rfl) (pe_lst (pa_cons (pe_tup pa_nil) pa_nil)))
      (pss_cons (ps_for PassesOwn.never rfl (pi_range1 (by rfl) mRa (pa_cons (pe_dget hu (pv 0) pe_str (fun _ _ => rfl)) pa_nil)) (pg_name (i := 3) nd rfl (by first | exact Or.inl rfl | exact Or.inr rfl))
        (pss_cons (ps_set (i := 4) nd rfl (by first | exact Or.inl rfl | exact Or.inr rfl) (pe_lst pa_nil))
        (pss_cons (ps_for PassesOwn.never rfl (pi_seq (pv 2)) (pg_name (i := 5) nd rfl (by first | exact Or.inl rfl | exact Or.inr rfl))
          (pss_one (ps_set (i := 4) nd rfl (by first | exact Or.inl rfl | exact Or.inr rfl) (pe_op op_cat (pv 4) (pe_lc (own := [("number", 6)]) (g := gName 6) (by rfl) nd (pi_range1 (by rfl) mRa (pa_cons (pe_op op_add (pv 1) pe_int) pa_nil)) (blkOk_by (own := [("number", 6)]) (N := NTr) (sc := defScope sTried) (by decide +kernel)) (fun _ _ _ _ _ => pg_name (i := 6) nd rfl (by first | exact Or.inl rfl | exact Or.inr rfl)) (fun _ _ _ _ _ => pts_nil)
            (fun _ _ _ _ _ => pe_op (show OpR _ _ (rCatA K) from op_catA) (pv 5) (pe_tup (pa_cons (pv 6) pa_nil))))))))
        (pss_one (ps_set (i := 2) nd rfl (by first | exact Or.inl rfl | exact Or.inr rfl) (pv 4))))))
      (pss_one (ps_ret (pe_lc (own := [("row", 5)]) (g := gName 5) (by rfl) nd (pi_seq (pv 2)) (blkOk_by (own := [("row", 5)]) (N := NTr) (sc := defScope sTried) (by decide +kernel)) (fun _ _ _ _ _ => pg_name (i := 5) nd rfl (by first | exact Or.inl rfl | exact Or.inr rfl)) (fun _ _ _ _ _ => pts_one (pt_cmpR op_eq (pe_call GP hr (by rfl) gP kP bP .nil pass0 (pa_cons (pv 0) (pa_cons (pv 5) (pa_cons (pv 5) pa_nil)))) pe_int (nomark _)))
          (fun _ _ _ _ _ => pv 5))))), ?_⟩
    have h256 : ∀ i, i ≤ 4 → (triedL i).length ≤ 256 := fun i hi => by
      rw [tried_len]
      exact Nat.le_trans (Nat.pow_le_pow_right (by decide) hi) (by decide)
    refine ⟨by show 0 ≤ sizeLine; decide, fun t0 nt0 => ⟨by show 1 ≤ sizeLine; decide, fun F0 nF0 => ?_⟩⟩
    have s1 := same_upd (o := .tup []) nt0
    have s2 := same_upd (o := .lst [.ref t0]) nF0
    have et0 : upd (upd H t0 (.tup [])) F0 (.lst [.ref t0]) t0 = some (.tup ([] : List V)) := s2 _ _ upd_same
    have eF0 : upd (upd H t0 (.tup [])) F0 (.lst [.ref t0]) F0 = some (.lst ([t0].map V.ref)) := upd_same
    have s12 := s1.trans s2
    have nF0H := none_of s1 nF0
    generalize upd (upd H t0 (.tup [])) F0 (.lst [.ref t0]) = H0 at et0 eF0 s12
    clear s1 s2 nt0 nF0
    refine ⟨_, rfl, x, _, rfl, DGet.k (k := Sum.inr "many") (hN.same s12).e, (n : Int), rfl, by omega, by omega, ?_⟩
    rw [Int.toNat_natCast]
    refine for_range (lo := 0) (n := n) (fun i σ Hx => ∃ (v3 v4 v5 : Option V) (fa : Addr) (as : List Addr), σ = [some (.ref x), some (.int 3), some (.ref fa), v3, v4, v5, none] ∧ Hx fa = some (.lst (as.map V.ref)) ∧ RowsH Hx as (triedL i) ∧ Same H Hx) ⟨none, none, none, F0, [t0], rfl, eF0, .cons et0 .nil, s12⟩ ?_ ?_
    · rintro i σ Hx hi ⟨v3, v4, v5, fa, as, rfl, ef, hf, sx⟩
      have hal := hf.len
      have h25 := h256 i (by omega)
      refine ⟨Nat.zero_le _, fun L0 nL0 => ?_⟩
      have sl := same_upd (o := .lst []) nL0
      have eL0 : upd Hx L0 (.lst []) L0 = some (.lst (([] : List Addr).map V.ref)) := upd_same
      have ef1 := sl _ _ ef
      have hf1 := hf.same sl
      have s1 := sx.trans sl
      generalize upd Hx L0 (.lst []) = H1 at eL0 ef1 hf1 s1
      clear sl
      refine ⟨_, rfl, fa, _, rfl, .inl (SqL.of ef1), fun J hJ => ?_⟩
      refine for_seq hJ (fun j σ Hy => ∃ (v5 : Option V) (la : Addr) (bs : List Addr), σ = [some (.ref x), some (.int 3), some (.ref fa), some (.int (0 + (i : Int))), some (.ref la), v5, none] ∧ Hy la = some (.lst (bs.map V.ref)) ∧ RowsH Hy bs (((triedL i).take j).flatMap ext4) ∧ Same H1 Hy) ⟨_, L0, [], rfl, eL0, .nil, Same.refl _⟩ (fun j σ Hy _ hh => by obtain ⟨_, _, _, _, _, _, s⟩ := hh; exact .of s) ?_ ?_
      · rintro j y σ Hy hj ⟨v5, la, bs, rfl, el, hb, sy⟩
        obtain ⟨ra, hra, rfl⟩ := map_inv hj
        obtain ⟨r, hr2, er⟩ := (hf1.same sy).at hra
        have hjl : j < (triedL i).length := (List.getElem?_eq_some_iff.mp hr2).1
        have hrl : r.length ≤ 4 := by
          have := ((mem_tried i r).mp (List.mem_of_getElem? hr2)).1
          omega
        refine ⟨_, rfl, ?_⟩
        refine ⟨_, rfl, _, _, rfl, rfl, (4 : Int), rfl, by decide, by decide, fun D nD => ?_⟩
        refine lc_range (lo := 0) (n := 4) (fun m Hd => ∃ cs : List Addr, Hd D = some (.lst (cs.map V.ref)) ∧ RowsH Hd cs ((ext4 r).take m) ∧ Same Hy Hd) ⟨[], upd_same, .nil, same_upd nD⟩ ?_ ?_
        · rintro m Hd hm ⟨cs, eD, hc, sd⟩
          refine ⟨rfl, ?_⟩
          dsimp only [tYes]
          refine iteT ?_
          have hcl : cs.length ≤ 4 := by rw [hc.len, List.length_take]; show min m 4 ≤ 4; omega
          refine ⟨_, rfl, _, rfl, by show 1 ≤ sizeLine; decide, fun t nt => ?_⟩
          have st := same_upd (o := .tup [.int (0 + (m : Int))]) nt
          refine catA_any (st _ _ (sd _ _ er)) upd_same (by rw [List.length_map]; show _ + 1 ≤ 1000; omega) fun t2 Hf sf e2 => ?_
          have sdf := st.trans sf
          have eDf := sdf _ _ eD
          refine ⟨_, eDf, small_2000 (by rw [List.length_map]; omega), cs ++ [t2], by rw [upd_same, List.map_append]; rfl, ?_, same_put (sd.trans sdf) nD⟩
          have hne : ∀ xs, Hf D ≠ some (.tup xs) := fun xs z => by rw [eDf] at z; cases z
          have ex : (ext4 r).take (m + 1) = (ext4 r).take m ++ [r ++ [(m : Int)]] := by
            rw [List.take_add_one]
            unfold ext4
            rw [List.getElem?_map, List.getElem?_range hm]
            rfl
          rw [ex]
          have e2' : Hf t2 = some (.tup ((r ++ [(m : Int)]).map V.int)) := by rw [e2, List.map_append, Int.zero_add]; rfl
          exact ((hc.same sdf).app (.cons e2' .nil)).put hne _
        rintro Hd ⟨cs, eD, hc, sd⟩
        rw [List.take_of_length_le (show (ext4 r).length ≤ 4 from Nat.le_refl _)] at hc
        have hbl := hb.len
        have hfm : (((triedL i).take j).flatMap ext4).length ≤ 4 * 256 := by
          have h : ∀ l : Rows, (l.flatMap ext4).length = 4 * l.length := fun l => by
            induction l with
            | nil => rfl
            | cons a l ih => rw [List.flatMap_cons, List.length_append, ih, List.length_cons]; show 4 + _ = _; omega
          rw [h, List.length_take]
          omega
        have hcl : cs.length = 4 := hc.len
        refine ⟨la, D, _, _, rfl, rfl, sd _ _ el, eD, Nat.le_of_lt (small_2000 (by rw [List.length_map, List.length_map]; omega)), fun L2' nL2 => ?_⟩
        have s3 := same_upd (o := .lst (bs.map V.ref ++ cs.map V.ref)) nL2
        refine ⟨_, L2', bs ++ cs, rfl, by rw [upd_same, List.map_append], ?_, sy.trans (sd.trans s3)⟩
        rw [List.take_add_one, hr2, List.flatMap_append]
        have := (hb.same (sd.trans s3)).app (hc.same s3)
        simpa using this
      · rintro σ Hy ⟨v5, la, bs, rfl, el, hb, sy⟩
        rw [List.length_map, hal, List.take_length] at hb
        exact ⟨_, rfl, _, _, _, la, bs, rfl, el, hb, s1.trans sy⟩
    · rintro σ Hx ⟨v3, v4, v5, fa, as, rfl, ef, hf, sx⟩
      have hal := hf.len
      have h25 := h256 n hn
      refine ⟨_, rfl, fa, _, rfl, .inl (SqL.of ef), fun J hJ D nD => ?_⟩
      refine lc_seq hJ (fun j Hd => ∃ cs : List Addr, Hd D = some (.lst (cs.map V.ref)) ∧ RowsH Hd cs (((triedL n).take j).filter fun r => decide (frm (nums us) n (rowF r) = 1)) ∧ Same Hx Hd) ⟨[], upd_same, .nil, same_upd nD⟩ (fun j Hd _ hh => by obtain ⟨_, _, _, s⟩ := hh; exact .of s) ?_ ?_
      · rintro j y Hd hj ⟨cs, eD, hc, sd⟩
        obtain ⟨ra, hra, rfl⟩ := map_inv hj
        obtain ⟨r, hr2, er⟩ := (hf.same sd).at hra
        have hrm := (mem_tried n r).mp (List.mem_of_getElem? hr2)
        have hcl : cs.length ≤ 256 := by
          have h1 := List.length_filter_le (fun r => decide (frm (nums us) n (rowF r) = 1)) ((triedL n).take j)
          rw [List.length_take] at h1
          rw [hc.len]
          omega
        refine ⟨rfl, ?_⟩
        refine ⟨_, rfl, _, rfl, _, rfl, x, ps, ra, ra, n, us, r, r, rfl, hN.same (sx.trans sd), hE, hul, by omega, .inr (SqT.of er), .inr (SqT.of er), hrm.1, hrm.1, fun i m => ?_, fun He se => ?_⟩
        · have := hrm.2 i m
          have h3 : (3 : Int) < 2 ^ 64 := by decide
          have h4 : -(2 ^ 64 : Int) < 0 := by decide
          omega
        have ep : pairV (nums us) r r = frm (nums us) n (rowF r) := by
          have := pairV_row hE (rowF r)
          rw [row_id hrm.1] at this
          exact this
        rw [ep]
        refine ⟨rfl, _, rfl, ?_⟩
        rw [List.take_add_one, hr2, List.filter_append]
        have eDe := se _ _ eD
        by_cases c : frm (nums us) n (rowF r) = 1
        · refine iteTb (decide_eq_true (by rw [c])) ?_
          refine ⟨_, rfl, _, eDe, small_2000 (by rw [List.length_map]; omega), cs ++ [ra], by rw [upd_same, List.map_append]; rfl, ?_, same_put (sd.trans se) nD⟩
          have hne : ∀ xs, He D ≠ some (.tup xs) := fun xs z => by rw [eDe] at z; cases z
          have ef1 : (List.filter (fun r => decide (frm (nums us) n (rowF r) = 1)) (some r).toList) = [r] := by
            show List.filter _ [r] = _
            rw [List.filter_cons, if_pos (decide_eq_true c)]
            rfl
          rw [ef1]
          exact ((hc.same se).app (.cons (se _ _ er) .nil)).put hne _
        · refine iteFb (decide_eq_false (fun q => c (V.int.inj q))) ?_
          have ef1 : (List.filter (fun r => decide (frm (nums us) n (rowF r) = 1)) (some r).toList) = [] := by
            show List.filter _ [r] = _
            rw [List.filter_cons, if_neg (by simpa using c)]
            rfl
          rw [ef1, List.append_nil]
          exact ⟨cs, eDe, hc.same se, sd.trans se⟩
      · rintro Hd ⟨cs, eD, hc, sd⟩
        rw [List.length_map, hal, List.take_length] at hc
        exact k D cs Hd (sx.trans sd) (none_of sx nD) eD hc
theorem ok_lmir {f : Addr} {fd : FuncData} (F : Fun K "_law_mirror" "_law_mirror" sLMir f fd) (mLi : mg "list" = none) (mTup : mg "tuple" = none) : FnOk P w K mg base CX0 1 f fd ["net", "place", "row"] (spLMir K) := by
  refine F.ok scLMir (fun vs H Q E h => ?_) (fun cdv A outer s H vs Q E hr h => ?_)
  · obtain ⟨x, ps, a, n, us, L, p, rfl, _⟩ := h
    rfl
  · obtain ⟨x, ps, a, n, us, L, p, rfl, hN, hE, hul, hA, hL, hp, k⟩ := h
    have nd := scLMir.nd
    have hu := hu_of hr
    refine ⟨_, pss_cons (ps_set (i := 3) nd rfl (by first | exact Or.inl rfl | exact Or.inr rfl) (pe_callTy call_list_of (by rfl) mLi (by decide +kernel) (pa_cons (pv 2) pa_nil)))
      (pss_cons (ps_asg (pe_op op_sub pe_int (pe_ix (show IxR _ (rIx K) from ix_seq) (pv 2) (pv 1) (fun _ _ => rfl))) (pg_sub (pv 3) (pv 1) set_list))
      (pss_cons (ps_for PassesOwn.never rfl (pi_seq (pe_dget hu (pv 0) pe_str (fun _ _ => rfl))) (pg_tup (by rfl) (pgs_cons (pg_name (i := 4) nd rfl (by first | exact Or.inl rfl | exact Or.inr rfl)) (pgs_cons (pg_name (i := 5) nd rfl (by first | exact Or.inl rfl | exact Or.inr rfl)) pgs_nil)))
        (pss_cons (ps_if (pt_cmpR op_eq (pv 4) (pv 1) (nomark _)) (pss_one (ps_asg (pe_op op_add (pe_ix (show IxR _ (rIx K) from ix_seq) (pv 3) (pv 1) (fun _ _ => rfl)) (pe_ix (show IxR _ (rIx K) from ix_seq) (pv 2) (pv 5) (fun _ _ => rfl))) (pg_sub (pv 3) (pv 1) set_list))) pss_nil)
        (pss_one (ps_if (pt_cmpR op_eq (pv 5) (pv 1) (nomark _)) (pss_one (ps_asg (pe_op op_add (pe_ix (show IxR _ (rIx K) from ix_seq) (pv 3) (pv 1) (fun _ _ => rfl)) (pe_ix (show IxR _ (rIx K) from ix_seq) (pv 2) (pv 4) (fun _ _ => rfl))) (pg_sub (pv 3) (pv 1) set_list))) pss_nil))))
      (pss_one (ps_ret (pe_callTy (show CallR _ _ (fun xs H Q => ∃ p ys, xs = [.ref p] ∧ ((SqL K H p ys ∧ ∀ l, H l = none → Q (.ref l) (upd H l (.tup ys))) ∨ (SqT K H p ys ∧ Q (.ref p) H))) from call_tuple_of) (by rfl) mTup (by decide +kernel) (pa_cons (pv 3) pa_nil)))))), ?_⟩
    have hpL : p < L.length := by omega
    refine ⟨_, rfl, a, _, rfl, .inr hA, fun F0 nF0 => ?_⟩
    have s0 := same_upd (o := .lst (L.map V.int)) nF0
    have hA0 := sqt_same s0 hA
    refine ⟨_, rfl, _, rfl, ?_⟩
    refine ix_at (.inr hA0) (row_v hpL) ?_
    refine ⟨_, _, rfl, rfl, ?_⟩
    refine ⟨_, rfl, _, rfl, F0, _, (p : Int), p, rfl, rfl, upd_same, by rw [List.length_map]; exact ixN_n (by omega), ?_⟩
    have setL : ∀ (u : Int), ((L.map V.int).set p (V.int u)) = (L.set p u).map V.int := fun u => by rw [List.map_set]
    have eF : upd (upd H F0 (.lst (L.map V.int))) F0 (.lst ((L.map V.int).set p (V.int (0 - rowF L p)))) F0 = some (.lst ((L.set p (nearS ((nums us).take 0) (rowF L) p - rowF L p)).map V.int)) := by
      rw [upd_same, setL]
      show _ = some (HO.lst ((L.set p (0 - rowF L p)).map V.int))
      rfl
    have s1 : Same H (upd (upd H F0 (.lst (L.map V.int))) F0 (.lst ((L.map V.int).set p (V.int (0 - rowF L p))))) := same_put s0 nF0
    show tSeq _ _ _ _ (upd (upd H F0 (.lst (L.map V.int))) F0 (.lst ((L.map V.int).set p (V.int (0 - rowF L p)))))
    generalize upd (upd H F0 (.lst (L.map V.int))) F0 (.lst ((L.map V.int).set p (V.int (0 - rowF L p)))) = H1 at eF s1
    have N1 := hN.same s1
    refine ⟨_, rfl, x, _, rfl, DGet.k (k := Sum.inr "pairs") N1.e, ps, rf us, rfl, .inl (SqL.of N1.et), fun J hJ => ?_⟩
    refine for_seq hJ (fun j σ Hx => ∃ (v4 v5 : Option V), σ = [some (.ref x), some (.int p), some (.ref a), some (.ref F0), v4, v5] ∧ Hx F0 = some (.lst ((L.set p (nearS ((nums us).take j) (rowF L) p - rowF L p)).map V.int)) ∧ Same H Hx) ⟨none, none, rfl, eF, s1⟩ (fun j σ Hx _ hh => by obtain ⟨_, _, _, _, s⟩ := hh; exact stay_lst N1.et (hN.same s).et) ?_ ?_
    · rintro j y σ Hx hj ⟨v4, v5, rfl, eX, sx⟩
      obtain ⟨⟨z, z1, z2⟩, hz, rfl⟩ := rf_inv hj
      obtain ⟨i1, i2⟩ := hE z1 z2 (List.mem_of_getElem? (nums_get hz))
      have htk : (nums us).take (j + 1) = (nums us).take j ++ [(z1, z2)] := by rw [List.take_add_one, nums_get hz]; rfl
      have h1 := natI i1
      have h2 := natI i2
      refine ⟨z, [.int z1, .int z2], rfl, SqT.of ((hN.same sx).p _ (List.mem_of_getElem? hz)), rfl, .int z1, [.int z2], rfl, .int z2, [], rfl, rfl, ?_⟩
      have getp : ∀ (u : Int), ((L.set p u).map V.int)[p]? = some (.int u) := fun u => by rw [List.getElem?_map, List.getElem?_set_self hpL]; rfl
      have step : ∀ (u u' : Int), ((L.set p u).map V.int).set p (V.int u') = (L.set p u').map V.int := fun u u' => by rw [← List.map_set, List.set_set]
      have hlen : ∀ u : Int, ((L.set p u).map V.int).length = n := fun u => by rw [List.length_map, List.length_set]; exact hL
      have rowz : ∀ {z : Int} {Hy : Hp} {Q : VK}, InR n z → Same H Hy → Q (.int (rowF L z)) Hy → rIx K (.ref a) (.int z) Hy Q := fun {z Hy Q} hz sy q => by
        have hh := natI hz
        rw [← hh.1]
        refine ix_at (.inr (sqt_same sy hA)) (row_v (by omega)) ?_
        rw [hh.1]
        exact q
      have enx : nearS ((nums us).take (j + 1)) (rowF L) p = nearS ((nums us).take j) (rowF L) p + ((if z1 = p then rowF L z2 else 0) + (if z2 = p then rowF L z1 else 0)) := by
        rw [htk, nearS_app, nearS_cons, nearS_nil]
        dsimp only
        omega
      rw [enx]
      -- the second if, from any state
      have second : ∀ (D : Ends) (u : Int) (Hy : Hp), u = nearS ((nums us).take j) (rowF L) p + (if z1 = p then rowF L z2 else 0) - rowF L p → Hy F0 = some (.lst ((L.set p u).map V.int)) → Same H Hy →
          (∀ Hz, Hz F0 = some (.lst ((L.set p (nearS ((nums us).take j) (rowF L) p + ((if z1 = p then rowF L z2 else 0) + (if z2 = p then rowF L z1 else 0)) - rowF L p)).map V.int)) → Same H Hz → D.nx [some (.ref x), some (.int p), some (.ref a), some (.ref F0), some (.int z1), some (.int z2)] Hz) →
          tIfS (tTest (tOp rEq (tVar 5) (tVar 1))) (tAsg (tOp (rI0 fun i j => .int (i + j)) (tOp (rIx K) (tVar 3) (tVar 1)) (tOp (rIx K) (tVar 2) (tVar 4))) (gSub (tVar 3) (tVar 1) rSetL)) tNext D [some (.ref x), some (.int p), some (.ref a), some (.ref F0), some (.int z1), some (.int z2)] Hy := fun D u Hy hu2 eY sy kk => by
        refine ⟨_, rfl, _, rfl, rfl, _, rfl, ?_⟩
        by_cases c : z2 = p
        · refine iteTb (decide_eq_true (by rw [c])) ?_
          refine ⟨_, rfl, _, rfl, ?_⟩
          refine ix_at (.inl (SqL.of eY)) (getp u) ?_
          refine ⟨_, rfl, _, rfl, rowz i1 sy ?_⟩
          refine ⟨_, _, rfl, rfl, ?_⟩
          refine ⟨_, rfl, _, rfl, F0, _, (p : Int), p, rfl, rfl, eY, by rw [hlen]; exact ixN_n hp, ?_⟩
          refine kk _ ?_ (same_put sy nF0)
          rw [upd_same, step, if_pos c, hu2]
          congr 3
          congr 1
          omega
        · refine iteFb (decide_eq_false (fun q => c (V.int.inj q))) ?_
          refine kk _ ?_ sy
          rw [eY, if_neg c, hu2]
          congr 3
          congr 1
          omega
      refine ⟨_, rfl, _, rfl, rfl, _, rfl, ?_⟩
      by_cases c : z1 = p
      · refine iteTb (decide_eq_true (by rw [c])) ?_
        refine ⟨_, rfl, _, rfl, ?_⟩
        refine ix_at (.inl (SqL.of eX)) (getp _) ?_
        refine ⟨_, rfl, _, rfl, rowz i2 sx ?_⟩
        refine ⟨_, _, rfl, rfl, ?_⟩
        refine ⟨_, rfl, _, rfl, F0, _, (p : Int), p, rfl, rfl, eX, by rw [hlen]; exact ixN_n hp, ?_⟩
        refine second _ (nearS ((nums us).take j) (rowF L) p - rowF L p + rowF L z2) _ (by rw [if_pos c]; omega) (by rw [upd_same, step]) (same_put sx nF0) fun Hz e s => ⟨_, _, rfl, e, s⟩
      · refine iteFb (decide_eq_false (fun q => c (V.int.inj q))) ?_
        refine second _ _ _ (by rw [if_neg c]; omega) eX sx fun Hz e s => ⟨_, _, rfl, e, s⟩
    · rintro σ Hx ⟨v4, v5, rfl, eX, sx⟩
      have hnls : (rf us).length = (nums us).length := by unfold rf nums; rw [List.length_map, List.length_map]
      rw [hnls, List.take_length] at eX
      exact ⟨_, rfl, F0, _, rfl, .inl ⟨SqL.of eX, fun T nT => k T _ (sx.trans (same_upd nT)) upd_same⟩⟩
end
end K03


set_option Elab.async false
set_option maxRecDepth 100000
set_option maxHeartbeats 4000000
set_option linter.all false
/-! mirrors, told in pure words; what is due; rows that are shown -/
namespace K03
open PySem PySem.Spec PyProof.Rows L2 NetM
theorem near_off {n : Nat} : ∀ {F : Prs}, In n F → (∀ a b, (a, b) ∈ F → a ≠ b) → ∀ {r s : Rw} {p : Int}, (∀ x, InR n x → x ≠ p → r x = s x) → nearS F r p = nearS F s p
  | [], _, _, r, s, p, h => rfl
  | q :: F, hE, nl, r, s, p, h => by
    obtain ⟨⟨h1, h2⟩, hE'⟩ := hE.cons
    have ne := nl q.1 q.2 (List.mem_cons_self ..)
    have ih := near_off hE' (fun a b m => nl a b (List.mem_cons_of_mem _ m)) h
    rw [nearS_cons, nearS_cons, ih]
    congr 1
    by_cases c1 : q.1 = p
    · have c2 : q.2 ≠ p := fun z => ne (by rw [c1, z])
      rw [if_pos c1, if_pos c1, if_neg c2, if_neg c2, h _ h2 c2]
    · rw [if_neg c1, if_neg c1]
      by_cases c2 : q.2 = p
      · rw [if_pos c2, if_pos c2, h _ h1 c1]
      · rw [if_neg c2, if_neg c2]
theorem prod_set {n : Nat} : ∀ {F : Prs}, In n F → (∀ a b, (a, b) ∈ F → a ≠ b) → ∀ {r s : Rw} {p : Int}, (∀ x, InR n x → x ≠ p → r x = s x) → (F.map fun q => s q.1 * s q.2).sum = (F.map fun q => r q.1 * r q.2).sum + (s p - r p) * nearS F r p
  | [], _, _, r, s, p, h => by rw [nearS_nil, Int.mul_zero]; rfl
  | q :: F, hE, nl, r, s, p, h => by
    obtain ⟨⟨h1, h2⟩, hE'⟩ := hE.cons
    have ne := nl q.1 q.2 (List.mem_cons_self ..)
    have ih := prod_set hE' (fun a b m => nl a b (List.mem_cons_of_mem _ m)) h
    rw [List.map_cons, List.map_cons, List.sum_cons, List.sum_cons, ih, nearS_cons, Int.mul_add]
    have key : s q.1 * s q.2 = r q.1 * r q.2 + (s p - r p) * ((if q.1 = p then r q.2 else 0) + (if q.2 = p then r q.1 else 0)) := by
      by_cases c1 : q.1 = p
      · have c2 : q.2 ≠ p := fun z => ne (by rw [c1, z])
        rw [if_pos c1, if_neg c2, c1, ← h _ h2 c2, Int.add_zero, Int.sub_mul]
        omega
      · rw [if_neg c1, ← h _ h1 c1]
        by_cases c2 : q.2 = p
        · rw [if_pos c2, c2, Int.zero_add, Int.sub_mul, Int.mul_comm (s p), Int.mul_comm (r p)]
          omega
        · rw [if_neg c2, ← h _ h2 c2, Int.add_zero, Int.mul_zero, Int.add_zero]
    rw [key]
    omega
theorem sq_set : ∀ {l : List Int}, l.Nodup → ∀ {r s : Rw} {p : Int}, p ∈ l → (∀ x ∈ l, x ≠ p → r x = s x) → (l.map fun x => s x * s x).sum = (l.map fun x => r x * r x).sum + (s p * s p - r p * r p)
  | [], _, r, s, p, m, _ => by cases m
  | a :: l, nd, r, s, p, m, h => by
    rw [List.nodup_cons] at nd
    rw [List.map_cons, List.map_cons, List.sum_cons, List.sum_cons]
    rcases List.mem_cons.mp m with rfl | m
    · have e : (l.map fun x => s x * s x) = l.map fun x => r x * r x := List.map_congr_left fun x mx => by
        have := h x (List.mem_cons_of_mem _ mx) fun z => nd.1 (by rw [← z]; exact mx)
        rw [this]
      rw [e]
      omega
    · have ne : a ≠ p := fun z => nd.1 (by rw [z]; exact m)
      rw [sq_set nd.2 m fun x mx => h x (List.mem_cons_of_mem _ mx), h a (List.mem_cons_self ..) ne]
      omega
theorem mir_len (F : Prs) (r : List Int) (p : Nat) : (mirR F r p).length = r.length := by unfold mirR; rw [List.length_set]
theorem mir_at {F : Prs} {r : List Int} {n p : Nat} (hr : r.length = n) (hp : p < n) {x : Int} (hx : InR n x) : rowF (mirR F r p) x = if x = (p : Int) then nearS F (rowF r) p - rowF r p else rowF r x := by
  unfold mirR
  rw [rowF_set (by omega) hx.1]
section
variable {F : Prs} {n : Nat} {T : List Int} {S : Rows}
theorem mir_mir (hE : In n F) (nl : ∀ a b, (a, b) ∈ F → a ≠ b) {r : List Int} {p : Nat} (hr : r.length = n) (hp : p < n) : mirR F (mirR F r p) p = r := by
  have hm : (mirR F r p).length = n := by rw [mir_len, hr]
  refine row_ext (by rw [mir_len, hm]) hr fun x hx => ?_
  rw [mir_at hm hp hx]
  have hn : nearS F (rowF (mirR F r p)) p = nearS F (rowF r) p := near_off hE nl fun y hy ne => by rw [mir_at hr hp hy, if_neg ne]
  by_cases c : x = (p : Int)
  · rw [if_pos c, hn, mir_at hr hp (inr_nat hp), if_pos rfl, c]
    omega
  · rw [if_neg c, mir_at hr hp hx, if_neg c]
theorem frm_mir (hE : In n F) (nl : ∀ a b, (a, b) ∈ F → a ≠ b) {r : List Int} {p : Nat} (hr : r.length = n) (hp : p < n) : frm F n (rowF (mirR F r p)) = frm F n (rowF r) := by
  have off : ∀ x, InR n x → x ≠ (p : Int) → rowF r x = rowF (mirR F r p) x := fun x hx ne => by rw [mir_at hr hp hx, if_neg ne]
  have hp' := inr_nat hp
  have e1 := prod_set hE nl off
  have e2 := sq_set (l := rng n) (rng_nodup n) (mem_rng.mpr hp') fun x mx ne => off x (mem_rng.mp mx) ne
  unfold frm
  rw [e1, e2, mir_at hr hp hp', if_pos rfl]
  generalize nearS F (rowF r) p = N
  generalize rowF r p = v
  have : (N - v) * (N - v) - v * v = (N - v - v) * N := by
    rw [Int.sub_mul, Int.mul_sub, Int.mul_sub, Int.sub_mul, Int.sub_mul, Int.mul_comm v N]
    omega
  omega
theorem RtS.mir (h : RtS F n T S) {r : List Int} (m : r ∈ S) {p : Nat} (hp : p < n) (ne : r ≠ unitR n p) : mirR F r p ∈ S := h.refl r m p hp ne
theorem RtS.mir_ne (h : RtS F n T S) (hE : In n F) (nl : ∀ a b, (a, b) ∈ F → a ≠ b) {r : List Int} (m : r ∈ S) {p : Nat} (hp : p < n) : mirR F r p ≠ unitR n p := fun e => by
  have e1 := mir_mir hE nl (h.len r m) hp
  rw [e] at e1
  have h1 := mir_at (F := F) (unit_len n p) hp (inr_nat hp)
  rw [e1, if_pos rfl, unit_row (inr_nat hp), if_pos rfl] at h1
  have h2 : nearS F (rowF (unitR n p)) p = nearS F (fun _ => 0) p := near_off hE nl fun y hy ne => by rw [unit_row hy, if_neg ne]
  have h3 : ∀ G : Prs, nearS G (fun _ => 0) p = 0 := fun G => by
    induction G with
    | nil => rfl
    | cons q G ih => rw [nearS_cons, ih]; simp
  rw [h2, h3] at h1
  have := (h.ok m).bd _ (row_mem (h.len r m) (inr_nat hp))
  omega
/-- the rows that are mirrored, and the mirrored ones, sorted, are one list -/
theorem RtS.moved (h : RtS F n T S) (hE : In n F) (nl : ∀ a b, (a, b) ∈ F → a ≠ b) {L : Rows} (R : Rts S L) {p : Nat} (hp : p < n) {q1 q2 : Rows} (p1 : ((L.filter fun r => decide (r ≠ unitR n p)).map fun r => mirR F r p).Perm q1) (s1 : q1.Pairwise fun a b => cd a ≤ cd b)
    (p2 : (L.filter fun r => decide (r ≠ unitR n p)).Perm q2) (s2 : q2.Pairwise fun a b => cd a ≤ cd b) : q1 = q2 := by
  have ndL := strict_nodup R.st
  have nd2 : (L.filter fun r => decide (r ≠ unitR n p)).Nodup := ndL.filter _
  have memF : ∀ r, r ∈ (L.filter fun r => decide (r ≠ unitR n p)) ↔ r ∈ S ∧ r ≠ unitR n p := fun r => by rw [List.mem_filter, R.mem, decide_eq_true_eq]
  have nd1 : ((L.filter fun r => decide (r ≠ unitR n p)).map fun r => mirR F r p).Nodup := by
    refine List.pairwise_map.mpr (List.Pairwise.imp_of_mem (fun {a b} ma mb ne e => ne ?_) nd2)
    have ha := ((memF a).mp ma).1
    have hb := ((memF b).mp mb).1
    rw [← mir_mir hE nl (h.len a ha) hp, ← mir_mir hE nl (h.len b hb) hp, e]
  have mem1 : ∀ r, r ∈ ((L.filter fun r => decide (r ≠ unitR n p)).map fun r => mirR F r p) ↔ r ∈ S ∧ r ≠ unitR n p := fun r => by
    rw [List.mem_map]
    constructor
    · rintro ⟨q, mq, rfl⟩
      have hq := (memF q).mp mq
      exact ⟨h.mir hq.1 hp hq.2, h.mir_ne hE nl hq.1 hp⟩
    · rintro ⟨m, ne⟩
      exact ⟨mirR F r p, (memF _).mpr ⟨h.mir m hp ne, h.mir_ne hE nl m hp⟩, mir_mir hE nl (h.len r m) hp⟩
  have m1 : ∀ r, r ∈ q1 ↔ r ∈ S ∧ r ≠ unitR n p := fun r => p1.mem_iff.symm.trans (mem1 r)
  have m2 : ∀ r, r ∈ q2 ↔ r ∈ S ∧ r ≠ unitR n p := fun r => p2.mem_iff.symm.trans (memF r)
  have t1 := strict_of s1 (p1.nodup_iff.mp nd1) fun a ma b mb e => cd_inj (h.ok ((m1 a).mp ma).1) (h.ok ((m1 b).mp mb).1) e
  have t2 := strict_of s2 (p2.nodup_iff.mp nd2) fun a ma b mb e => cd_inj (h.ok ((m2 a).mp ma).1) (h.ok ((m2 b).mp mb).1) e
  exact sorted_uniq t1 t2 fun x => (m1 x).trans (m2 x).symm
/-- rows found by trying -/
theorem RtS.tried (h : RtS F n T S) (h4 : n ≤ 4) {L : Rows} (R : Rts S L) {q1 q2 : Rows} (p1 : ((triedL n).filter fun r => decide (frm F n (rowF r) = 1)).Perm q1) (s1 : q1.Pairwise fun a b => cd a ≤ cd b) (p2 : L.Perm q2) (s2 : q2.Pairwise fun a b => cd a ≤ cd b) : q1 = q2 := by
  have ndt : (triedL n).Nodup := of_decide_eq_true (List.all_eq_true.mp tried_nd n (List.mem_range.mpr (by omega)))
  have m1 : ∀ r, r ∈ q1 ↔ r ∈ S := fun r => by
    rw [← p1.mem_iff, List.mem_filter, mem_tried, decide_eq_true_eq]
    exact ⟨fun ⟨⟨h1, h2⟩, h3⟩ => h.small (by omega) r h1 h2 h3, fun m => ⟨⟨h.len r m, fun i mi => ⟨(h.bd r m i mi).1, h.smb (by omega) r m i mi⟩⟩, h.frm1 r m⟩⟩
  have m2 : ∀ r, r ∈ q2 ↔ r ∈ S := fun r => p2.mem_iff.symm.trans (R.mem r)
  have t1 := strict_of s1 (p1.nodup_iff.mp (ndt.filter _)) fun a ma b mb e => cd_inj (h.ok ((m1 a).mp ma)) (h.ok ((m1 b).mp mb)) e
  have t2 := strict_of s2 (p2.nodup_iff.mp (strict_nodup R.st)) fun a ma b mb e => cd_inj (h.ok ((m2 a).mp ma)) (h.ok ((m2 b).mp mb)) e
  exact sorted_uniq t1 t2 fun x => (m1 x).trans (m2 x).symm
end
/-! ### due -/
def dueB (n w : Nat) : Bool := let E := goodP n w
  (List.range n).all (fun j => decide (dg E j = 3 → goodW n w ≠ 0 ∧ (if 1 < lf E j then goodW n w = 1 else goodW n w = 2 ∧ 6 ≤ n))) && (decide (goodW n w = 0) || (List.range n).any fun j => decide (dg E j = 3))
theorem due_all : ((List.range 8).all fun n => (List.range 3).all fun w => dueB (n + 1) w) = true := by decide +kernel
theorem due_of {n w : Nat} (h1 : 0 < n) (h2 : n ≤ 8) (h3 : w < 3) {f : Int → Int} {F : Prs} (R : Ren n f (goodP n w) F) : DueF F n (manyW n w) := by
  have h := List.all_eq_true.mp (List.all_eq_true.mp due_all (n - 1) (List.mem_range.mpr (by omega))) w (List.mem_range.mpr h3)
  rw [show n - 1 + 1 = n by omega] at h
  unfold dueB at h
  rw [Bool.and_eq_true, Bool.or_eq_true, decide_eq_true_eq] at h
  obtain ⟨h4, h5⟩ := h
  have key : ∀ j : Nat, j < n → dg (goodP n w) j = 3 → goodW n w ≠ 0 ∧ (if 1 < lf (goodP n w) j then goodW n w = 1 else goodW n w = 2 ∧ 6 ≤ n) := fun j hj => of_decide_eq_true (List.all_eq_true.mp h4 j (List.mem_range.mpr hj))
  have back : ∀ q : Nat, q < n → ∃ x : Nat, x < n ∧ dg F q = dg (goodP n w) x ∧ lf F q = lf (goodP n w) x := fun q hq => by
    obtain ⟨x, hx, e⟩ := R.b.sur (inr_nat hq)
    have hx' := natI hx
    refine ⟨x.toNat, hx'.2, ?_, ?_⟩
    · rw [hx'.1, ← Ren.dg R hx, e]
    · rw [hx'.1, ← Ren.lf R hx, e]
  have fw : ∀ q : Nat, q < n → ∃ x : Nat, x < n ∧ dg F x = dg (goodP n w) q := fun q hq => by
    have hb := natI (R.b.to _ (inr_nat hq))
    exact ⟨(f q).toNat, hb.2, by rw [hb.1, Ren.dg R (inr_nat hq)]⟩
  refine ⟨fun no => ?_, fun j hj e l => ?_, fun j hj e l => ?_⟩
  · have : goodW n w = 0 := by
      rcases h5 with h5 | h5
      · exact h5
      · obtain ⟨j, mj, e⟩ := List.any_eq_true.mp h5
        obtain ⟨x, hx, ex⟩ := fw j (List.mem_range.mp mj)
        exact absurd (ex.trans (of_decide_eq_true e)) (no x hx)
    unfold manyW
    rw [if_pos this]
  · obtain ⟨x, hx, e1, e2⟩ := back j hj
    obtain ⟨k0, k⟩ := key x hx (by rw [← e1]; exact e)
    rw [if_pos (by rw [← e2]; exact l)] at k
    unfold manyW
    rw [if_neg k0, if_pos k]
  · obtain ⟨x, hx, e1, e2⟩ := back j hj
    obtain ⟨k0, k⟩ := key x hx (by rw [← e1]; exact e)
    rw [if_neg (by rw [← e2]; omega)] at k
    unfold manyW due3
    rw [if_neg k0, if_neg (by omega)]
    exact ⟨k.2, rfl⟩
theorem many_le : ((List.range 8).all fun n => (List.range 3).all fun w => decide (manyW (n + 1) w ≤ 120)) = true := by decide +kernel
theorem many_120 {n w : Nat} (h1 : 0 < n) (h2 : n ≤ 8) (h3 : w < 3) : manyW n w ≤ 120 := by
  have h := List.all_eq_true.mp (List.all_eq_true.mp many_le (n - 1) (List.mem_range.mpr (by omega))) w (List.mem_range.mpr h3)
  rw [show n - 1 + 1 = n by omega] at h
  exact of_decide_eq_true h
/-! ### rows that are shown -/
def Sm8 (i : Int) : Prop := -1000 < i ∧ i < 1000
theorem sm8_key : ((List.range 2000).all fun k => (PyData.int ((k : Int) - 1000)).showable && decide ((PyData.int ((k : Int) - 1000)).shown.length ≤ 5)) = true := by decide +kernel
theorem sm8 {i : Int} (h : Sm8 i) : (PyData.int i).showable = true ∧ Sz 5 (.int i) := by
  have h1 := h.1
  have h2 := h.2
  have := List.all_eq_true.mp sm8_key (i + 1000).toNat (List.mem_range.mpr (by omega))
  rw [show (((i + 1000).toNat : Nat) : Int) - 1000 = i by omega, Bool.and_eq_true, decide_eq_true_eq] at this
  exact this
theorem sh_row {r : List Int} (h : ∀ i ∈ r, Sm8 i) : (rowD r).showable = true := by
  show PyData.showableAll (r.map PyData.int) = true
  induction r with
  | nil => rfl
  | cons x r ih =>
    show ((PyData.int x).showable && PyData.showableAll (r.map PyData.int)) = true
    rw [(sm8 (h x (List.mem_cons_self ..))).1, ih fun i m => h i (List.mem_cons_of_mem _ m)]
    rfl
theorem sz_row {r : List Int} (h : ∀ i ∈ r, Sm8 i) (hl : r.length ≤ 8) : Sz 59 (rowD r) := by
  refine (sz_tup (m := 5) (ds := r.map PyData.int) fun d hd => ?_).mono ?_
  · obtain ⟨i, hi, rfl⟩ := List.mem_map.mp hd
    exact (sm8 (h i hi)).2
  · rw [List.length_map]; omega
theorem nd_row (r : List Int) : (rowD r).hasDict = false := nd_ints r
theorem shown_row {r : List Int} (h : ∀ i ∈ r, Sm8 i) (hl : r.length ≤ 8) : GL.Shown (rowD r) := by
  refine ⟨sh_row h, ?_, Nat.le_trans (sz_row h hl) (by decide)⟩
  have := (row_facts r).2
  simp [rowD, PyData.depth]
  omega
theorem sh_rows {rs : Rows} (h : ∀ r ∈ rs, (rowD r).showable = true) : (rowsD rs).showable = true := by
  show PyData.showableAll (rs.map rowD) = true
  induction rs with
  | nil => rfl
  | cons x r ih =>
    show ((rowD x).showable && PyData.showableAll (r.map rowD)) = true
    rw [h x (List.mem_cons_self ..), ih fun i m => h i (List.mem_cons_of_mem _ m)]
    rfl
theorem nd_rows (rs : Rows) : (rowsD rs).hasDict = false := by
  show PyData.hasDictAll (rs.map rowD) = false
  induction rs with
  | nil => rfl
  | cons x r ih =>
    show ((rowD x).hasDict || PyData.hasDictAll (r.map rowD)) = false
    rw [nd_row, ih]
    rfl
theorem shown_rows {n : Nat} (hn : n ≤ 8) {rs : Rows} (h : ∀ r ∈ rs, ROk n r) (hl : rs.length ≤ 120) : GL.Shown (rowsD rs) := by
  have sm : ∀ r ∈ rs, ∀ i ∈ r, Sm8 i := fun r m i mi => by
    have := (h r m).bd i mi
    exact ⟨by omega, by omega⟩
  refine ⟨sh_rows fun r m => sh_row (sm r m), ?_, Nat.le_trans ((sz_list (m := 59) (ds := rs.map rowD) fun d hd => ?_).mono (m' := 120 * 61 + 2) ?_) (by decide)⟩
  · have := (rows_facts rs).2
    simp [rowsD, PyData.depth]
    omega
  · obtain ⟨r, m, rfl⟩ := List.mem_map.mp hd
    exact sz_row (sm r m) (by rw [(h r m).len]; exact hn)
  · rw [List.length_map]
    omega
end K03


set_option Elab.async false
set_option maxRecDepth 100000
set_option maxHeartbeats 4000000
set_option linter.all false
namespace K03
open PySem PySem.Spec PyProof.Rows L2 NetM LamX GL
/-- all that the law's last defs call -/
structure Al5 (P : Program) (w : World) (K : PySem.W.Frag) (mg : Str → Option Value) (base : Heap) (CN CB CP CR CG CW : Addr) where
  T : NetT K mg CN
  mkn : MkN P w K mg base CN CB
  made : Fn0 P w K mg base 6 "_law_made_net" ["net"] (spMade K CN)
  ro : FnX P w K mg base 8 "roots" ["net"] (spRoots K CN CB CG)
  hi : FnX P w K mg base 8 "highest" ["net"] (spHigh K CN CB CG)
  hiK : KBinds K hi.fd ["net"] ["net"] bk bk
  fo : FnX P w K mg base 5 "form" ["net", "row"] (spForm K CN CB CR)
  mi : FnX P w K mg base 5 "mirrored_row" ["net", "place", "row"] (spMirr K CN CB CP CR)
  miK : KBinds K mi.fd ["net", "place", "row"] ["row", "place", "net"] bk bk
  be : Fn0 P w K mg base 1 "_law_begun" ["script"] (spBegun K)
  ta : Fn0 P w K mg base 2 "_law_take" ["draw", "amount"] spTake
  pk : Fn0 P w K mg base 3 "_law_pick" ["draw", "some"] spPick
  ne : Fn0 P w K mg base 4 "_law_net" ["draw", "most"] spLNet
  lr : Fn0 P w K mg base 2 "_law_roots" ["net"] (spLRoots K)
  du : Fn0 P w K mg base 1 "_law_many_due" ["net"] spDue
  tr : Fn0 P w K mg base 2 "_law_tried" ["net", "most"] (spTried K)
  lm : Fn0 P w K mg base 1 "_law_mirror" ["net", "place", "row"] (spLMir K)
  fC : Addr
  caught : TakesV P w K mg base 1 fC (TTc K CW)
  gC : mg "_law_caught" = some (.ref fC)
  kC : PySem.W.keepIn K (.ref fC) = true
  bad : BadN K CB CW
  badP : BadR K CP CW
  badR : BadR K CR CW
  badG : BadR K CG CW
  gB : mg "BadNet" = some (.ref CB)
  gP : mg "BadPlace" = some (.ref CP)
  gR : mg "BadRow" = some (.ref CR)
  gG : mg "NotGood" = some (.ref CG)
  noN : PySem.W.kitOne K (.type "NoneType") (.ref CN) = some false
  noT : PySem.W.kitOne K (.type "tuple") (.ref CN) = some false
  mRa : mg "range" = none
  mLen : mg "len" = none
  mRe : mg "repr" = none
  mTup : mg "tuple" = none
  mInt : mg "int" = none
  mMin : mg "min" = none
  mSo : mg "sorted" = none
  mZip : mg "zip" = none
  mIs : mg "isinstance" = none
theorem RowsH.ext {H H' : Hp} (s : ExtN H H') : ∀ {as : List Addr} {rs : Rows}, RowsH H as rs → RowsH H' as rs
  | _, _, .nil => .nil
  | _, _, .cons h t => .cons (tup_ext s h) (t.ext s)
theorem RowsH.kept {H H' : Hp} {d lg cl : Addr} (D : DrawAt H d lg cl) (k : KeptN d lg H H') : ∀ {as : List Addr} {rs : Rows}, RowsH H as rs → RowsH H' as rs
  | _, _, .nil => .nil
  | _, _, .cons h t => .cons (tup_kept D k h) (t.kept D k)
theorem lst_kept {H H' : Hp} {d lg cl a : Addr} {xs : List V} (D : DrawAt H d lg cl) (k : KeptN d lg H H') (n : a ≠ lg) (e : H a = some (.lst xs)) : H' a = some (.lst xs) := by
  obtain ⟨⟨r, t0, hd⟩, _⟩ := id D
  exact k _ _ e (fun z => by rw [z, hd] at e; cases e) n (fun _ z => by cases z)
abbrev sMR : Stmt := top 53
abbrev N53 : List Str := ["draw", "net", "net_here", "some", "place", "row", "found", "unit", "moved", "k", "one"]
theorem scMR : FnScope N53 ["draw", "net", "net_here", "some"] (defScope sMR) := ⟨rfl, rfl, rfl, by decide +kernel, rfl, by decide +kernel, by decide +kernel⟩
def spMR (K : PySem.W.Frag) (CN : Addr) : Sp := fun vs H Q _ => ∃ (d lg cl x ps y sa : Addr) (n : Nat) (us : Zs) (as : List Addr) (L : Rows) (T : List Int) (S : Rows), vs = [.ref d, .ref x, .ref y, .ref sa] ∧ DrawAt H d lg cl ∧ LNet H x ps n us ∧ ps ≠ lg ∧ us.length ≤ 12 ∧ NetG K CN H y n (nums us) ∧ RtS (nums us) n T S ∧ S.length ≤ 120 ∧
  H sa = some (.lst (as.map V.ref)) ∧ sa ≠ lg ∧ RowsH H as L ∧ Rts S L ∧ ∀ H', DrawAt H' d lg cl → Kept d lg H H' → Q (.bl true) H'
theorem near_abs {n : Nat} {b : Int} (h0 : 0 ≤ b) : ∀ {F : Prs}, In n F → ∀ {r : Rw} {p : Int}, (∀ x, InR n x → -b ≤ r x ∧ r x ≤ b) → -(2 * b * F.length) ≤ nearS F r p ∧ nearS F r p ≤ 2 * b * F.length
  | [], _, r, p, h => by rw [nearS_nil]; simp
  | q :: F, hE, r, p, h => by
    obtain ⟨⟨h1, h2⟩, hE'⟩ := hE.cons
    have ih := near_abs h0 hE' (r := r) (p := p) h
    have i1 := h _ h1
    have i2 := h _ h2
    rw [nearS_cons, List.length_cons]
    have e : 2 * b * ((F.length + 1 : Nat) : Int) = 2 * b * (F.length : Int) + 2 * b := by
      rw [show ((F.length + 1 : Nat) : Int) = (F.length : Int) + 1 from rfl, Int.mul_add, Int.mul_one]
    rw [e]
    generalize 2 * b * (F.length : Int) = X at ih ⊢
    split <;> split <;> omega
section
variable {P : Program} {w : World} {K : PySem.W.Frag} {mg : Str → Option Value} {base : Heap} {CN CB CP CR CG CW : Addr}
theorem ok_mr {f : Addr} {fd : FuncData} (F : Fun K "_law_mirrors_right" "_law_mirrors_right" sMR f fd) (Y : Al5 P w K mg base CN CB CP CR CG CW) : FnG P w K mg base L2.CX0 6 f fd ["draw", "net", "net_here", "some"] (spMR K CN) := by
  refine GL.okG F scMR (fun vs H Q E h => ?_) (fun cdv A outer s H vs Q E hga hr h => ?_)
  · obtain ⟨d, lg, cl, x, ps, y, sa, n, us, as, L, T, S, rfl, _⟩ := h
    rfl
  · obtain ⟨d, lg, cl, x, ps, y, sa, n, us, as, L, Tp, S, rfl, DR, hN, pl, hul, hG, RS, hS, eS, sl, hL, RL, k⟩ := h
    have nd := scMR.nd
    have hu := hu_of hr
    have hu64 := hr.units
    have r1 : Room 1 _ := hr.mono (by decide)
    have r2 : Room 2 _ := hr.mono (by decide)
    have hu70 : (A.deeper (envOfC "_law_mirrors_right" (defScope sMR) s.heap.objs.size f cdv)).units + 70 < cLine := by have := hr.un; omega
    have hn1 : 1 ≤ n := hG.n0
    refine ⟨_, pss_cons (ps_set (i := 4) nd rfl (by first | exact Or.inl rfl | exact Or.inr rfl) (pe_call Y.ta.ok r2 (by rfl) Y.ta.g Y.ta.kp Y.ta.b .nil pass0 (pa_cons (pv 0) (pa_cons (pe_dget hu (pv 1) pe_str (fun _ _ => rfl)) pa_nil))))
      (pss_cons (ps_set (i := 5) nd rfl (by first | exact Or.inl rfl | exact Or.inr rfl) (pe_callTy (show CallR _ _ (fun xs H Q => ∃ p ys, xs = [.ref p] ∧ ((SqL K H p ys ∧ ∀ l, H l = none → Q (.ref l) (upd H l (.tup ys))) ∨ (SqT K H p ys ∧ Q (.ref p) H))) from call_tuple_of) (by rfl) Y.mTup (by decide +kernel) (pa_cons
          (pe_lc (own := [("k", 9)]) (g := gName 9) (by rfl) nd (pi_range1 (by rfl) Y.mRa (pa_cons (pe_dget hu (pv 1) pe_str (fun _ _ => rfl)) pa_nil)) (blkOk_by (own := [("k", 9)]) (N := N53) (sc := defScope sMR) (by decide +kernel)) (fun _ _ _ _ _ => pg_name (i := 9) nd rfl (by first | exact Or.inl rfl | exact Or.inr rfl)) (fun _ _ _ _ _ => pts_nil)
            (fun _ _ _ _ _ => pe_op op_sub (pe_call Y.ta.ok r2 (by rfl) Y.ta.g Y.ta.kp Y.ta.b .nil pass0 (pa_cons (pv 0) (pa_cons pe_int pa_nil))) pe_int)) pa_nil)))
      (pss_cons (ps_set (i := 6) nd rfl (by first | exact Or.inl rfl | exact Or.inr rfl) (pe_callK0 Y.mi.ok hr (by rfl) Y.mi.g Y.mi.kp Y.miK (passes_call L2.takes0 fun _ _ _ _ h => h) (pk_cons (pv 5) (pk_cons (pv 4) (pk_cons (pv 2) pk_nil)))))
      (pss_cons (ps_if (PW.pt (pw_or (pt_cmpR op_ne (pe_callB (id := "repr") (call_repr (K := K) rfl (by exact hga) (by exact hu70)) (by rfl) Y.mRe (by decide +kernel) (pa_cons (pv 6) pa_nil)) (pe_callB (id := "repr") (call_repr (K := K) rfl (by exact hga) (by exact hu70)) (by rfl) Y.mRe (by decide +kernel) (pa_cons (pe_call Y.lm.ok r1 (by rfl) Y.lm.g Y.lm.kp Y.lm.b .nil pass0 (pa_cons (pv 1) (pa_cons (pv 4) (pa_cons (pv 5) pa_nil)))) pa_nil)) (nomark _))
          (pw_or1 (pt_cmpR (op_neD hr.units) (pe_call Y.mi.ok hr (by rfl) Y.mi.g Y.mi.kp Y.mi.b .nil (passes_call L2.takes0 fun _ _ _ _ h => h) (pa_cons (pv 2) (pa_cons (pv 4) (pa_cons (pv 6) pa_nil)))) (pv 5) (nomark _))))) (pss_one (ps_ret pe_bl)) pss_nil)
      (pss_cons (ps_if (pt_cmpR op_ne (pe_call Y.fo.ok hr (by rfl) Y.fo.g Y.fo.kp Y.fo.b .nil (passes_call L2.takes0 fun _ _ _ _ h => h) (pa_cons (pv 2) (pa_cons (pv 6) pa_nil))) (pe_call Y.fo.ok hr (by rfl) Y.fo.g Y.fo.kp Y.fo.b .nil (passes_call L2.takes0 fun _ _ _ _ h => h) (pa_cons (pv 2) (pa_cons (pv 5) pa_nil))) (nomark _)) (pss_one (ps_ret pe_bl)) pss_nil)
      (pss_cons (ps_set (i := 7) nd rfl (by first | exact Or.inl rfl | exact Or.inr rfl) (pe_callTy (show CallR _ _ (fun xs H Q => ∃ p ys, xs = [.ref p] ∧ ((SqL K H p ys ∧ ∀ l, H l = none → Q (.ref l) (upd H l (.tup ys))) ∨ (SqT K H p ys ∧ Q (.ref p) H))) from call_tuple_of) (by rfl) Y.mTup (by decide +kernel) (pa_cons
          (pe_lc (own := [("k", 9)]) (g := gName 9) (by rfl) nd (pi_range1 (by rfl) Y.mRa (pa_cons (pe_dget hu (pv 1) pe_str (fun _ _ => rfl)) pa_nil)) (blkOk_by (own := [("k", 9)]) (N := N53) (sc := defScope sMR) (by decide +kernel)) (fun _ _ _ _ _ => pg_name (i := 9) nd rfl (by first | exact Or.inl rfl | exact Or.inr rfl)) (fun _ _ _ _ _ => pts_nil)
            (fun _ _ _ _ _ => pe_callTy (show CallR _ _ (fun xs H Q => (∃ i, xs = [.int i] ∧ Q (.int i) H) ∨ ∃ k, xs = [.bl k] ∧ Q (.int (if k then 1 else 0)) H) from call_int1) (by rfl) Y.mInt (by decide +kernel) (pa_cons (pe_cmpR op_eq (pv 9) (pv 4) (nomark _)) pa_nil))) pa_nil)))
      (pss_cons (ps_setLc (i := 8) (own := [("one", 10)]) (g := gName 10) (by rfl) nd rfl rfl (sw_true rfl rfl rfl (by decide +kernel)) (pi_seq (pv 3)) (blkOk_by (own := [("one", 10)]) (N := N53) (sc := defScope sMR) (by decide +kernel)) (fun _ _ _ _ _ => pg_name (i := 10) nd rfl (by first | exact Or.inl rfl | exact Or.inr rfl)) (fun _ _ _ _ _ => pts_one (pt_cmpR (show OpR _ _ (rNeD K) from op_neD (by exact hu64)) (pv 10) (pv 7) (nomark _)))
          (fun _ _ _ _ _ => pe_call Y.mi.ok hr (by rfl) Y.mi.g Y.mi.kp Y.mi.b .nil (passes_call L2.takes0 fun _ _ _ _ h => h) (pa_cons (pv 2) (pa_cons (pv 4) (pa_cons (pv 10) pa_nil)))))
      (pss_one (ps_ret (pe_cmpR (op_eqD hr.units) (pe_callB (show CallR _ _ (rSortR K n BB) from cr_sortR hn1) (by rfl) Y.mSo (by decide +kernel) (pa_cons (pv 8) pa_nil)) (pe_callB (show CallR _ _ (rSortR K n BB) from cr_sortR hn1) (by rfl) Y.mSo (by decide +kernel) (pa_cons
          (pe_lc (own := [("one", 10)]) (g := gName 10) (by rfl) nd (pi_seq (pv 3)) (blkOk_by (own := [("one", 10)]) (N := N53) (sc := defScope sMR) (by decide +kernel)) (fun _ _ _ _ _ => pg_name (i := 10) nd rfl (by first | exact Or.inl rfl | exact Or.inr rfl)) (fun _ _ _ _ _ => pts_one (pt_cmpR (show OpR _ _ (rNeD K) from op_neD (by exact hu64)) (pv 10) (pv 7) (nomark _)))
            (fun _ _ _ _ _ => pv 10)) pa_nil)) (nomark _)))))))))), ?_⟩
    have hn8 := hG.n8
    refine ⟨_, rfl, _, rfl, x, _, rfl, DGet.k (k := Sum.inr "many") hN.e, d, lg, cl, (n : Int), rfl, DR, by omega, by omega, fun z0 H1 z00 z01 D1 k1 => ?_⟩
    obtain ⟨p, rfl⟩ : ∃ p : Nat, z0 = p := ⟨z0.toNat, by omega⟩
    have hp : p < n := by omega
    have hN1 := hN.kept DR k1.n pl
    refine ⟨_, rfl, x, _, rfl, DGet.k (k := Sum.inr "many") hN1.e, n, rfl, by omega, by omega, fun B1 nB1 => ?_⟩
    rw [Int.toNat_natCast]
    refine lc_range (lo := 0) (n := n) (fun j Hd => ∃ l : List Int, l.length = j ∧ (∀ z ∈ l, -3 ≤ z ∧ z ≤ 5) ∧ Hd B1 = some (.lst (l.map V.int)) ∧ DrawAt Hd d lg cl ∧ Kept d lg H1 Hd) ⟨[], rfl, (fun _ m => nomatch m), upd_same, draw_same (same_upd nB1) D1, (fun b o h _ _ => same_upd nB1 b o h)⟩ ?_ ?_
    · rintro j Hd hj ⟨l, hl, hb, eD, Dd, kd⟩
      refine ⟨rfl, ?_⟩
      dsimp only [tYes]
      refine iteT ?_
      obtain ⟨nDd, nDl, nDc⟩ := draw_new D1 nB1
      refine ⟨_, rfl, d, lg, cl, 9, rfl, Dd, by decide, by decide, fun z H2 z0 z1 D2 k2 => ?_⟩
      have eD2 := k2 _ _ eD nDd nDl
      refine ⟨_, _, rfl, rfl, ?_⟩
      refine ⟨_, eD2, small_2000 (by rw [List.length_map]; omega), l ++ [z - 3], by rw [List.length_append, hl]; rfl, fun w m => ?_, by rw [upd_same, List.map_append]; rfl, draw_put nDd nDl nDc D2, kept_put nB1 (kd.trans k2)⟩
      rcases List.mem_append.mp m with m | m
      · exact hb w m
      · rw [List.mem_singleton.mp m]
        omega
    rintro H2 ⟨row, hrl, hrb, eB1, D2, k2⟩
    refine ⟨B1, _, rfl, .inl ⟨SqL.of eB1, fun O nO => ?_⟩⟩
    have sO := same_upd (o := .tup (row.map V.int)) nO
    have eO : (upd H2 O (.tup (row.map V.int))) O = some (.tup (row.map V.int)) := upd_same
    have D3 := draw_same sO D2
    have k3 : Kept d lg H (upd H2 O (.tup (row.map V.int))) := (k1.trans k2).trans (fun b o h _ _ => sO b o h)
    generalize upd H2 O (.tup (row.map V.int)) = H3 at sO eO D3 k3
    have N3 := hN.kept DR k3.n pl
    have G3 := hG.kept DR k3.n
    have eS3 := lst_kept DR k3.n sl eS
    have hL3 := hL.kept DR k3.n
    clear eB1 nO sO D2 k2 nB1 hN1 D1 k1
    have fin : ∀ Hf, Same H3 Hf → Q (.bl true) Hf := fun Hf sf => k Hf (draw_same sf D3) (k3.trans (fun b o h _ _ => sf b o h))
    have bdR : ∀ i ∈ row, Sm8 i := fun i m => by have := hrb i m; exact ⟨by omega, by omega⟩
    have rowb : ∀ x, InR n x → -5 ≤ rowF row x ∧ rowF row x ≤ 5 := fun x hx => by
      have := hrb _ (row_mem hrl hx)
      omega
    have nlen : (nums us).length ≤ 12 := hG.len
    have mirb : ∀ i ∈ mirR (nums us) row p, -200 < i ∧ i < 200 := fun i m => by
      obtain ⟨y, hy, rfl⟩ := mem_row (n := n) (by rw [mir_len]; exact hrl) m
      rw [mir_at hrl hp hy]
      have h1 := near_abs (b := 5) (by decide) hG.inn (r := rowF row) (p := (p : Int)) rowb
      have h2 := rowb p (inr_nat hp)
      have h3 := rowb y hy
      split
      · omega
      · omega
    have hml : (mirR (nums us) row p).length = n := by rw [mir_len]; exact hrl
    have c64 : (200 : Int) < 2 ^ 64 := by decide
    have c64' : -(2 ^ 64 : Int) < -200 := by decide
    -- mirrored_row
    refine ⟨_, rfl, _, rfl, _, rfl, .ref y, .int p, .ref O, rfl, .inr ⟨y, n, _, rfl, G3.at_, hG.inn, hG.len, hn8, .inr ⟨p, rfl, hp, .inr ⟨O, row, rfl, SqT.of eO, hrl, fun T1 H4 s4 e4 => ?_⟩⟩⟩⟩
    have shw := shown_row (r := mirR (nums us) row p) (fun i m => by have := mirb i m; exact ⟨by omega, by omega⟩) (by omega)
    refine ⟨_, rfl, _, _, rfl, rdv (dp_row (SqT.of e4)) (nd_row _), shw, ?_⟩
    refine ⟨_, rfl, _, rfl, _, rfl, x, ps, O, n, us, row, p, rfl, N3.same s4, hG.inn, hul, SqT.of (s4 _ _ eO), hrl, hp, fun T2 H5 s5 e5 => ?_⟩
    refine ⟨_, _, rfl, rdv (dp_row (SqT.of e5)) (nd_row _), shw, rfl, _, rfl, ?_⟩
    refine iteFb (by simp) ?_
    have s45 := s4.trans s5
    refine ⟨_, rfl, _, rfl, _, rfl, .ref y, .int p, .ref T1, rfl, .inr ⟨y, n, _, rfl, (G3.same s45).at_, hG.inn, hG.len, hn8, .inr ⟨p, rfl, hp, .inr ⟨T1, _, rfl, SqT.of (s5 _ _ e4), hml, fun T3 H6 s6 e6 => ?_⟩⟩⟩⟩
    have s46 := s45.trans s6
    rw [mir_mir hG.inn hG.nl hrl hp] at e6
    refine ⟨_, rfl, _, _, dp_row (SqT.of e6), dp_row (SqT.of (s46 _ _ eO)), shp_row row, shp_row row, ?_⟩
    rw [eqv_row, decide_eq_true rfl]
    refine ⟨_, rfl, ?_⟩
    refine iteF ?_
    -- form
    refine ⟨_, rfl, _, rfl, .ref y, .ref T1, rfl, .inr ⟨y, n, _, rfl, (G3.same s46).at_, hG.inn, hG.len, hn8, .inr ⟨T1, _, rfl, SqT.of ((s5.trans s6) _ _ e4), hml, (fun i m => by have := mirb i m; omega), fun H7 s7 => ?_⟩⟩⟩
    have s47 := s46.trans s7
    refine ⟨_, rfl, _, rfl, .ref y, .ref O, rfl, .inr ⟨y, n, _, rfl, (G3.same s47).at_, hG.inn, hG.len, hn8, .inr ⟨O, _, rfl, SqT.of (s47 _ _ eO), hrl, (fun i m => by have := hrb i m; omega), fun H8 s8 => ?_⟩⟩⟩
    have ep : pairV (nums us) (mirR (nums us) row p) (mirR (nums us) row p) = pairV (nums us) row row := by
      have h1 := pairV_row hG.inn (rowF row)
      have h2 := pairV_row hG.inn (rowF (mirR (nums us) row p))
      rw [row_id hrl] at h1
      rw [row_id hml] at h2
      rw [h1, h2, frm_mir hG.inn hG.nl hrl hp]
    rw [ep]
    refine ⟨rfl, _, rfl, ?_⟩
    refine iteFb (by simp) ?_
    have s38 := s47.trans s8
    -- the unit row
    refine ⟨_, rfl, x, _, rfl, DGet.k (k := Sum.inr "many") (N3.same s38).e, n, rfl, by omega, by omega, fun B2 nB2 => ?_⟩
    rw [Int.toNat_natCast]
    refine lc_range (lo := 0) (n := n) (fun i Hd => Hd B2 = some (.lst (((unitR n p).take i).map V.int)) ∧ Same H8 Hd) ⟨upd_same, same_upd nB2⟩ ?_ ?_
    · rintro i He hk ⟨eD2, se⟩
      refine ⟨rfl, ?_⟩
      dsimp only [tYes]
      refine iteT ?_
      refine ⟨_, rfl, _, rfl, rfl, .inr ⟨_, rfl, _, eD2, small_2000 (by rw [List.length_map, List.length_take, unit_len]; omega), ?_, same_put se nB2⟩⟩
      rw [upd_same, take_unit hk, List.map_append]
      have e : (if decide (V.int (0 + (i : Int)) = V.int (p : Int)) = true then (1 : Int) else 0) = if i = p then 1 else 0 := by
        by_cases c : i = p
        · rw [if_pos c, if_pos (decide_eq_true (by rw [c, Int.zero_add]))]
        · rw [if_neg c, if_neg (fun z => c (by have := V.int.inj (of_decide_eq_true z); omega))]
      rw [e]
      rfl
    rintro H9 ⟨eB2, s9⟩
    rw [List.take_of_length_le (by rw [unit_len]; exact Nat.le_refl _)] at eB2
    refine ⟨B2, _, rfl, .inl ⟨SqL.of eB2, fun U nU => ?_⟩⟩
    have sU := same_upd (o := .tup ((unitR n p).map V.int)) nU
    have eU : upd H9 U (.tup ((unitR n p).map V.int)) U = some (.tup ((unitR n p).map V.int)) := upd_same
    generalize upd H9 U (.tup ((unitR n p).map V.int)) = HA at sU eU
    have s3A := s38.trans (s9.trans sU)
    clear eB2 nB2 s9 sU nU
    have eSA := s3A _ _ eS3
    have hLA := hL3.same s3A
    have hll := hL.len
    have hL120 : L.length ≤ 120 := by rw [RL.count RS]; exact hS
    have memL : ∀ r ∈ L, ROk n r := fun r m => RS.ok ((RL.mem r).mp m)
    have fl : ∀ i, ((L.take i).filter fun r => decide (r ≠ unitR n p)).length ≤ 120 := fun i => by
      have h1 := List.length_filter_le (fun r => decide (r ≠ unitR n p)) (L.take i)
      rw [List.length_take] at h1
      omega
    have tkL : ∀ {i : Nat} {r : List Int}, L[i]? = some r → L.take (i + 1) = L.take i ++ [r] := fun h => by rw [List.take_add_one, h]; rfl
    -- moved
    refine ⟨_, rfl, sa, _, rfl, .inl (SqL.of eSA), fun J hJ C1 nC1 => ?_⟩
    refine lc_seq hJ (fun i Hd => ∃ cs : List Addr, Hd C1 = some (.lst (cs.map V.ref)) ∧ RowsH Hd cs (((L.take i).filter fun r => decide (r ≠ unitR n p)).map fun r => mirR (nums us) r p) ∧ Same HA Hd) ⟨[], upd_same, .nil, same_upd nC1⟩ (fun i Hd _ hh => by obtain ⟨_, _, _, s⟩ := hh; exact .of s) ?_ ?_
    · rintro i v Hd hi ⟨cs, eC, hc, sd⟩
      obtain ⟨ra, hra, rfl⟩ := map_inv hi
      obtain ⟨r, hr2, er⟩ := (hLA.same sd).at hra
      have okr := memL r (List.mem_of_getElem? hr2)
      have hcl : cs.length ≤ 120 := by rw [hc.len, List.length_map]; exact fl i
      refine ⟨rfl, ?_⟩
      refine ⟨_, rfl, _, rfl, _, _, dp_row (SqT.of er), dp_row (SqT.of (sd _ _ eU)), shp_row r, shp_row _, _, rfl, ?_⟩
      rw [eqv_row, tkL hr2, List.filter_append, List.map_append]
      by_cases c : r = unitR n p
      · refine iteFb (by rw [decide_eq_true c]; rfl) ?_
        have e1 : [r].filter (fun r => decide (r ≠ unitR n p)) = [] := by rw [List.filter_cons, if_neg (by simpa using c)]; rfl
        rw [e1, List.map_nil, List.append_nil]
        exact ⟨cs, eC, hc, sd⟩
      · refine iteTb (by rw [decide_eq_false c]; rfl) ?_
        refine ⟨_, rfl, _, rfl, _, rfl, .ref y, .int p, .ref ra, rfl, .inr ⟨y, n, _, rfl, (G3.same (s3A.trans sd)).at_, hG.inn, hG.len, hn8, .inr ⟨p, rfl, hp, .inr ⟨ra, r, rfl, SqT.of er, okr.len, fun Tm He se em => ?_⟩⟩⟩⟩
        have e1 : [r].filter (fun r => decide (r ≠ unitR n p)) = [r] := by rw [List.filter_cons, if_pos (decide_eq_true c)]; rfl
        rw [e1]
        have eCe := se _ _ eC
        refine ⟨_, eCe, small_2000 (by rw [List.length_map]; omega), cs ++ [Tm], by rw [upd_same, List.map_append]; rfl, ?_, same_put (sd.trans se) nC1⟩
        have hne : ∀ xs, He C1 ≠ some (.tup xs) := fun xs z => by rw [eCe] at z; cases z
        exact ((hc.same se).app (.cons em .nil)).put hne _
    rintro HB ⟨cs, eC1, hc1, sB⟩
    rw [List.length_map, hll, List.take_length] at hc1
    -- sorted
    refine ⟨_, rfl, ?_⟩
    simp only [tNil]
    have memM : ∀ r ∈ ((L.filter fun r => decide (r ≠ unitR n p)).map fun r => mirR (nums us) r p), ROk n r := fun r m => by
      obtain ⟨q, mq, rfl⟩ := List.mem_map.mp m
      obtain ⟨m1, m2⟩ := List.mem_filter.mp mq
      exact RS.ok (RS.mir ((RL.mem q).mp m1) hp (of_decide_eq_true m2))
    refine sort_rd eC1 hc1 memM fun bs1 q1 P1 HC p1 sq1 nP1 sC eP1 hP1 => ?_
    have sAC := sB.trans sC
    refine ⟨_, rfl, sa, _, rfl, .inl (SqL.of (sAC _ _ eSA)), fun J2 hJ2 C2 nC2 => ?_⟩
    refine lc_seq hJ2 (fun i Hd => ∃ cs : List Addr, Hd C2 = some (.lst (cs.map V.ref)) ∧ RowsH Hd cs ((L.take i).filter fun r => decide (r ≠ unitR n p)) ∧ Same HC Hd) ⟨[], upd_same, .nil, same_upd nC2⟩ (fun i Hd _ hh => by obtain ⟨_, _, _, s⟩ := hh; exact .of s) ?_ ?_
    · rintro i v Hd hi ⟨cs, eC, hc, sd⟩
      obtain ⟨ra, hra, rfl⟩ := map_inv hi
      obtain ⟨r, hr2, er⟩ := (hLA.same (sAC.trans sd)).at hra
      have hcl : cs.length ≤ 120 := by rw [hc.len]; exact fl i
      refine ⟨rfl, ?_⟩
      refine ⟨_, rfl, _, rfl, _, _, dp_row (SqT.of er), dp_row (SqT.of ((sAC.trans sd) _ _ eU)), shp_row r, shp_row _, _, rfl, ?_⟩
      rw [eqv_row, tkL hr2, List.filter_append]
      by_cases c : r = unitR n p
      · refine iteFb (by rw [decide_eq_true c]; rfl) ?_
        have e1 : [r].filter (fun r => decide (r ≠ unitR n p)) = [] := by rw [List.filter_cons, if_neg (by simpa using c)]; rfl
        rw [e1, List.append_nil]
        exact ⟨cs, eC, hc, sd⟩
      · refine iteTb (by rw [decide_eq_false c]; rfl) ?_
        have e1 : [r].filter (fun r => decide (r ≠ unitR n p)) = [r] := by rw [List.filter_cons, if_pos (decide_eq_true c)]; rfl
        rw [e1]
        refine ⟨_, rfl, _, eC, small_2000 (by rw [List.length_map]; omega), cs ++ [ra], by rw [upd_same, List.map_append]; rfl, ?_, same_put sd nC2⟩
        have hne : ∀ xs, Hd C2 ≠ some (.tup xs) := fun xs z => by rw [eC] at z; cases z
        exact (hc.app (.cons er .nil)).put hne _
    rintro HD ⟨cs2, eC2, hc2, sD⟩
    rw [List.length_map, hll, List.take_length] at hc2
    simp only [tNil]
    refine sort_rd eC2 hc2 (fun r m => memL r (List.mem_filter.mp m).1) fun bs2 q2 P2 HE p2 sq2 nP2 sE eP2 hP2 => ?_
    have eq12 := RS.moved hG.inn hG.nl RL hp p1 sq1 p2 sq2
    subst eq12
    have sCE := sD.trans sE
    refine ⟨_, _, dp_rows (SqL.of (sCE _ _ eP1)) (hP1.same sCE), dp_rows (SqL.of eP2) hP2, shp_rows _, shp_rows _, ?_⟩
    rw [eqv_rowsR]
    exact fin HE (s3A.trans (sAC.trans sCE))
end
end K03


set_option Elab.async false
set_option maxRecDepth 100000
set_option maxHeartbeats 4000000
set_option linter.all false
namespace K03
open PySem PySem.Spec PyProof.Rows L2 NetM LamX GL
abbrev sBadNet : Stmt := top 54
abbrev N54 : List Str := ["draw", "some", "many_here", "pairs_here"]
theorem scBadNet : FnScope N54 ["draw"] (defScope sBadNet) := ⟨rfl, rfl, rfl, by decide +kernel, rfl, by decide +kernel, by decide +kernel⟩
def badL : List (Nat × Prs) := [(2, [(0, 1), (0, 1)]), (3, [(0, 1), (1, 2), (0, 2)]), (5, [(0, 1), (0, 2), (0, 3), (4, 0)]), (6, [(0, 1), (0, 2), (0, 3), (4, 0), (4, 5)]), (2, [(0, 1), (0, 1), (0, 1)])]
def badB (b : Nat × Prs) : Bool := let n := b.1; let E := b.2
  inB n E && decide (n ≤ 8) && decide (0 < n) && decide (E.length ≤ 12) && decide ((rounds E n [0]).length = n) && decide ((ordr E n n []).length = n) &&
    (match runS E n 60 (ones n) with
      | some (some L) => decide (frm E n (rowF L) = 0)
      | some none => (match wildL E n 60 (ones n) with | some L => L.all (fun i => decide (i < 2 ^ 40)) | none => false)
      | none => false)
theorem bad_all : (badL.all badB) = true := by decide +kernel
structure BadF (n : Nat) (E : Prs) : Prop where
  inn : In n E
  nl : ∀ x y, (x, y) ∈ E → x ≠ y
  n8 : n ≤ 8
  n0 : 0 < n
  len : E.length ≤ 12
  good : GoodN E n
  kd : KdN n E none
theorem bad_of {b : Nat × Prs} (m : b ∈ badL) : BadF b.1 b.2 := by
  have h := List.all_eq_true.mp bad_all b m
  unfold badB at h
  simp only [Bool.and_eq_true, decide_eq_true_eq] at h
  obtain ⟨⟨⟨⟨⟨⟨h1, h2⟩, h3⟩, h4⟩, h5⟩, h6⟩, h7⟩ := h
  have hi := in_of h1
  refine ⟨hi.1, hi.2, h2, h3, h4, ⟨h5, h6⟩, ?_⟩
  split at h7
  · rename_i L e
    exact .round L (set_of hi.1 e) (of_decide_eq_true h7)
  · rename_i e
    split at h7
    · rename_i L e2
      rw [ones_rowL] at e2
      obtain ⟨k, hk, _⟩ := wildL_ok hi.1 60 0 (fun j hj => absurd hj (Nat.not_lt_zero _)) (fun j hj => absurd hj (Nat.not_lt_zero _)) e2 (fun i mi => of_decide_eq_true (List.all_eq_true.mp h7 i mi))
      exact .wild k (set_of hi.1 e) hk
    · cases h7
  · cases h7
/-- such a pair of a number and pairs, in memory -/
def BNt (lg : Addr) (H : Hp) (v : V) (b : Nat × Prs) : Prop := ∃ (t l : Addr) (us : Zs), v = .ref t ∧ H t = some (.tup [.int b.1, .ref l]) ∧ H l = some (.lst (rf us)) ∧ PL H us ∧ nums us = b.2 ∧ l ≠ lg
theorem BNt.same {lg : Addr} {H H' : Hp} (s : Same H H') {v : V} {b : Nat × Prs} : BNt lg H v b → BNt lg H' v b := fun ⟨t, l, us, e, h1, h2, h3, h4, h5⟩ => ⟨t, l, us, e, s _ _ h1, s _ _ h2, h3.same s, h4, h5⟩
theorem BNt.kept {H H' : Hp} {d lg cl : Addr} (D : DrawAt H d lg cl) (k : Kept d lg H H') {v : V} {b : Nat × Prs} : BNt lg H v b → BNt lg H' v b := fun ⟨t, l, us, e, h1, h2, h3, h4, h5⟩ => ⟨t, l, us, e, tup_kept D k.n h1, lst_kept D k.n h5 h2, h3.kept D k, h4, h5⟩
theorem bnt_lit {lg : Addr} {σ : L2.St} {H : Hp} {Q : VK} (n : Nat) (prs : Prs) (hl : prs.length ≤ 2000) (hlg : H lg ≠ none) (q : ∀ v H', BNt lg H' v (n, prs) → Same H H' → Q v H') :
    tTup (tCons (tC (.int n)) (tCons (tLst (litP (prs.map fun q => (tC (.int q.1), tC (.int q.2))))) tNil)) σ H Q :=
  lit_c prs _ _ fun us H2 hn p2 s2 => ⟨Nat.le_of_lt (small_2000 (by have := congrArg List.length hn; unfold nums at this; rw [List.length_map] at this; rw [rf_len, this]; exact hl)), fun l nl => ⟨by show 2 ≤ sizeLine; decide, fun t nt => by
    have s3 := same_upd (o := .lst (rf us)) nl
    have s4 := same_upd (o := .tup [.int n, .ref l]) nt
    refine q _ _ ⟨t, l, us, rfl, upd_same, s4 _ _ upd_same, (p2.same s3).same s4, hn, fun z => hlg ?_⟩ (s2.trans (s3.trans s4))
    rw [z] at nl
    exact none_of s2 nl⟩⟩
theorem asg_first {A : TE} {r : TA} {g : TG} {tb : TS} {D : Ends} {σ : L2.St} {H : Hp} (h : A σ H fun v H1 => r σ H1 fun vs H2 => (v :: vs).length ≤ sizeLine ∧ ∀ p, H2 p = none → g (.ref p) σ (upd H2 p (.lst (v :: vs))) (tb D)) : tSeq (tAsg (tLst (tCons A r)) g) tb D σ H := h
theorem cons_rd {A : TE} {r : TA} {σ : L2.St} {H : Hp} {Q : List V → Hp → Prop} (h : A σ H fun v H1 => r σ H1 fun vs H2 => Q (v :: vs) H2) : tCons A r σ H Q := h
theorem lst_first {A : TE} {r : TA} {σ : L2.St} {H : Hp} {Q : VK} (h : A σ H fun v H1 => r σ H1 fun vs H2 => (v :: vs).length ≤ sizeLine ∧ ∀ p, H2 p = none → Q (.ref p) (upd H2 p (.lst (v :: vs)))) : tLst (tCons A r) σ H Q := h
def spBadNet (K : PySem.W.Frag) (CN : Addr) : Sp := fun vs H Q _ => ∃ (d lg cl : Addr), vs = [.ref d] ∧ DrawAt H d lg cl ∧ ∀ y n zs H', NetG K CN H' y n zs → KdN n zs none → DrawAt H' d lg cl → Kept d lg H H' → Q (.ref y) H'
section
variable {P : Program} {w : World} {K : PySem.W.Frag} {mg : Str → Option Value} {base : Heap} {CN CB : Addr}
theorem ok_badnet {f fP : Addr} {fd dP : FuncData} (F : Fun K "_law_bad_net" "_law_bad_net" sBadNet f fd) (T : NetT K mg CN) (M : MkN P w K mg base CN CB) (GP : FnOk P w K mg base CX0 3 fP dP ["draw", "some"] spPick) (bP : L2.Binds K dP ["draw", "some"] []) (gP : mg "_law_pick" = some (.ref fP)) (kP : PySem.W.keepIn K (.ref fP) = true) : FnOk P w K mg base CX0 6 f fd ["draw"] (spBadNet K CN) := by
  refine F.ok scBadNet (fun vs H Q E h => ?_) (fun cdv A outer s H vs Q E hr h => ?_)
  · obtain ⟨d, lg, cl, rfl, _⟩ := h
    rfl
  · obtain ⟨d, lg, cl, rfl, DR, k⟩ := h
    have nd := scBadNet.nd
    have r3 : Room 3 _ := hr.mono (by decide)
    refine ⟨_, pss_cons (ps_set (i := 1) nd rfl (by first | exact Or.inl rfl | exact Or.inr rfl) (pe_lst (pa_cons (pe_tup (pa_cons pe_int (pa_cons (pe_lst (pa_cons (pe_tup (pa_cons pe_int (pa_cons pe_int pa_nil))) (pa_cons (pe_tup (pa_cons pe_int (pa_cons pe_int pa_nil))) pa_nil))) pa_nil)))
          (pa_cons (pe_tup (pa_cons pe_int (pa_cons (pe_lst (pa_cons (pe_tup (pa_cons pe_int (pa_cons pe_int pa_nil))) (pa_cons (pe_tup (pa_cons pe_int (pa_cons pe_int pa_nil))) (pa_cons (pe_tup (pa_cons pe_int (pa_cons pe_int pa_nil))) pa_nil)))) pa_nil)))
          (pa_cons (pe_tup (pa_cons pe_int (pa_cons (pe_lst (pa_cons (pe_tup (pa_cons pe_int (pa_cons pe_int pa_nil))) (pa_cons (pe_tup (pa_cons pe_int (pa_cons pe_int pa_nil))) (pa_cons (pe_tup (pa_cons pe_int (pa_cons pe_int pa_nil))) (pa_cons (pe_tup (pa_cons pe_int (pa_cons pe_int pa_nil))) pa_nil))))) pa_nil))) pa_nil)))))
      (pss_cons (ps_asg (pe_call GP r3 (by rfl) gP kP bP .nil pass0 (pa_cons (pv 0) (pa_cons (pe_op op_cat (pv 1) (pe_lst (pa_cons (pe_tup (pa_cons pe_int (pa_cons (pe_lst (pa_cons (pe_tup (pa_cons pe_int (pa_cons pe_int pa_nil))) (pa_cons (pe_tup (pa_cons pe_int (pa_cons pe_int pa_nil))) (pa_cons (pe_tup (pa_cons pe_int (pa_cons pe_int pa_nil))) (pa_cons (pe_tup (pa_cons pe_int (pa_cons pe_int pa_nil))) (pa_cons (pe_tup (pa_cons pe_int (pa_cons pe_int pa_nil))) pa_nil)))))) pa_nil)))
          (pa_cons (pe_tup (pa_cons pe_int (pa_cons (pe_op op_rep (pe_lst (pa_cons (pe_tup (pa_cons pe_int (pa_cons pe_int pa_nil))) pa_nil)) pe_int) pa_nil))) pa_nil)))) pa_nil))) (pg_tup (by rfl) (pgs_cons (pg_name (i := 2) nd rfl (by first | exact Or.inl rfl | exact Or.inr rfl)) (pgs_cons (pg_name (i := 3) nd rfl (by first | exact Or.inl rfl | exact Or.inr rfl)) pgs_nil))))
      (pss_one (ps_ret (pe_make M.m M.ok hr (by rfl) T.g M.b .nil (passes_call L2.takes0 fun _ _ _ _ h => h) (pa_cons (pv 2) (pa_cons (pv 3) pa_nil)))))), ?_⟩
    have lg0 : ∀ {Hx : Hp}, Same H Hx → Hx lg ≠ none := fun {Hx} s z => by
      obtain ⟨_, ⟨L, _, hl⟩, _, _⟩ := id DR
      rw [s _ _ hl] at z
      cases z
    refine asg_first ?_
    refine bnt_lit 2 [(0, 1), (0, 1)] (by decide) (lg0 (Same.refl _)) fun v1 H1 b1 s1 => ?_
    refine cons_rd ?_
    refine bnt_lit 3 [(0, 1), (1, 2), (0, 2)] (by decide) (lg0 s1) fun v2 H2 b2 s2 => ?_
    have s02 := s1.trans s2
    refine cons_rd ?_
    refine bnt_lit 5 [(0, 1), (0, 2), (0, 3), (4, 0)] (by decide) (lg0 s02) fun v3 H3 b3 s3 => ?_
    have s03 := s02.trans s3
    refine ⟨by show 3 ≤ sizeLine; decide, fun So nSo => ?_⟩
    have s4 := same_upd (o := .lst [v1, v2, v3]) nSo
    have eSo : upd H3 So (.lst [v1, v2, v3]) So = some (.lst [v1, v2, v3]) := upd_same
    have s04 := s03.trans s4
    have b1 := b1.same ((s2.trans s3).trans s4)
    have b2 := b2.same (s3.trans s4)
    have b3 := b3.same s4
    generalize upd H3 So (.lst [v1, v2, v3]) = H4 at eSo s04 b1 b2 b3
    clear s4 nSo
    refine ⟨_, rfl, _, rfl, ?_⟩
    refine lst_first ?_
    refine bnt_lit 6 [(0, 1), (0, 2), (0, 3), (4, 0), (4, 5)] (by decide) (lg0 s04) fun v4 H5 b4 s5 => ?_
    have s05 := s04.trans s5
    refine ⟨by show 2 ≤ sizeLine; decide, fun t nt => ⟨by show 1 ≤ sizeLine; decide, fun l1 nl1 => ⟨l1, (3 : Int), [.ref t], rfl, rfl, upd_same, by decide, by decide, by show 1 * 3 ≤ sizeLine; decide, fun l3 nl3 => ⟨by show 2 ≤ sizeLine; decide, fun t5 nt5 => ⟨by show 2 ≤ sizeLine; decide, fun B nB => ?_⟩⟩⟩⟩⟩
    have t1 := same_upd (o := .tup [.int 0, .int 1]) nt
    have t2 := same_upd (o := .lst [.ref t]) nl1
    have t3 := same_upd (o := .lst (List.replicate (3 : Int).toNat [V.ref t]).flatten) nl3
    have t4 := same_upd (o := .tup [.int 2, .ref l3]) nt5
    have t5' := same_upd (o := .lst [v4, .ref t5]) nB
    have t15 := t1.trans (t2.trans (t3.trans (t4.trans t5')))
    have b5 : BNt lg (upd (upd (upd (upd (upd H5 t (.tup [.int 0, .int 1])) l1 (.lst [.ref t])) l3 (.lst (List.replicate (3 : Int).toNat [V.ref t]).flatten)) t5 (.tup [.int 2, .ref l3])) B (.lst [v4, .ref t5])) (.ref t5) (2, [(0, 1), (0, 1), (0, 1)]) :=
      ⟨t5, l3, [(t, 0, 1), (t, 0, 1), (t, 0, 1)], rfl, t5' _ _ upd_same, (t4.trans t5') _ _ upd_same, fun z m => by
        have e := (t2.trans (t3.trans (t4.trans t5'))) _ _ (show (upd H5 t (HO.tup [V.int 0, V.int 1])) t = some (.tup [.int 0, .int 1]) from upd_same)
        simp only [List.mem_cons, List.not_mem_nil, or_false, or_self] at m
        subst m
        exact e, rfl, fun z => lg0 (s05.trans (t1.trans t2)) (by rw [← z]; exact nl3)⟩
    have eB : (upd (upd (upd (upd (upd H5 t (.tup [.int 0, .int 1])) l1 (.lst [.ref t])) l3 (.lst (List.replicate (3 : Int).toNat [V.ref t]).flatten)) t5 (.tup [.int 2, .ref l3])) B (.lst [v4, .ref t5])) B = some (.lst [v4, .ref t5]) := upd_same
    generalize (upd (upd (upd (upd (upd H5 t (.tup [.int 0, .int 1])) l1 (.lst [.ref t])) l3 (.lst (List.replicate (3 : Int).toNat [V.ref t]).flatten)) t5 (.tup [.int 2, .ref l3])) B (.lst [v4, .ref t5])) = H6 at t15 b5 eB
    clear t1 t2 t3 t4 t5' nt nl1 nl3 nt5 nB
    have s06 := s05.trans t15
    refine ⟨So, B, _, _, rfl, rfl, (s5.trans t15) _ _ eSo, eB, by show 3 + 2 ≤ sizeLine; decide, fun B2 nB2 => ?_⟩
    have s7 := same_upd (o := .lst ([v1, v2, v3] ++ [v4, .ref t5])) nB2
    have s07 := s06.trans s7
    have D7 := draw_same s07 DR
    refine ⟨d, lg, cl, B2, _, rfl, D7, upd_same, fun z => lg0 s06 (by rw [← z]; exact nB2), by show 0 < 5; decide, by show 5 < 1000; decide, fun i x H8 hi D8 k8 => ?_⟩
    have k08 : Kept d lg H H8 := fun b o e h1 h2 => k8 b o (s07 _ _ e) h1 h2
    have bs : ∃ b ∈ badL, BNt lg H8 x b := by
      match i, hi with
      | 0, hi => cases hi; exact ⟨_, by unfold badL; exact List.mem_cons_self .., (b1.same ((s5.trans t15).trans s7)).kept D7 k8⟩
      | 1, hi => cases hi; exact ⟨_, by unfold badL; exact List.mem_cons_of_mem _ (List.mem_cons_self ..), (b2.same ((s5.trans t15).trans s7)).kept D7 k8⟩
      | 2, hi => cases hi; exact ⟨_, by unfold badL; exact List.mem_cons_of_mem _ (List.mem_cons_of_mem _ (List.mem_cons_self ..)), (b3.same ((s5.trans t15).trans s7)).kept D7 k8⟩
      | 3, hi => cases hi; exact ⟨_, by unfold badL; exact List.mem_cons_of_mem _ (List.mem_cons_of_mem _ (List.mem_cons_of_mem _ (List.mem_cons_self ..))), (b4.same (t15.trans s7)).kept D7 k8⟩
      | 4, hi => cases hi; exact ⟨_, by unfold badL; exact List.mem_cons_of_mem _ (List.mem_cons_of_mem _ (List.mem_cons_of_mem _ (List.mem_cons_of_mem _ (List.mem_cons_self ..)))), (b5.same s7).kept D7 k8⟩
      | n + 5, hi => simp at hi
    obtain ⟨⟨n, zs⟩, mb, tq, lq, us, rfl, e1, e2, pu, hnu, _⟩ := bs
    have BF := bad_of mb
    have hul : us.length ≤ 12 := by
      have h1 := BF.len
      have h2 := congrArg List.length hnu
      unfold nums at h2
      rw [List.length_map] at h2
      omega
    dsimp only at hnu e1 BF
    refine ⟨tq, [.int n, .ref lq], rfl, SqT.of e1, rfl, .int n, [.ref lq], rfl, .ref lq, [], rfl, rfl, ?_⟩
    refine ⟨_, rfl, _, rfl, ?_⟩
    refine fun y dy ny ndy ne => MakeN.sp (K := K) (CN := CN) (CB := CB) (.inr ⟨n, some us, rfl, BF.n0, BF.n8, .ok (.inl (SqL.of e2)) pu.prt.pra hul (fun t h m => by rw [hnu] at m; exact ⟨(BF.inn t h m).1, (BF.inn t h m).2, BF.nl t h m⟩), fun z => absurd (show Good us n from (by unfold Good; rw [hnu]; exact BF.good)) (z us rfl), fun zs' e' g x' H' nx hN' s' => ?_⟩) y dy ny ndy ne
    cases e'
    rw [hnu] at hN'
    exact k x' n zs H' ⟨hN', BF.inn, BF.len, BF.n8, BF.n0, BF.nl⟩ BF.kd (draw_same s' D8) (k08.trans (fun b o h _ _ => s' b o h))
end
end K03


set_option Elab.async false
set_option maxRecDepth 100000
set_option maxHeartbeats 4000000
set_option linter.all false
namespace K03
open PySem PySem.Spec PyProof.Rows L2 NetM LamX GL
theorem lam_passes {X : Cx} {A : Around} {outer : List Env} {s : Shared} {H : Hp} {E : XK} {scope : Scope} {f c' : Addr} : Passes (L2.CX X.prog X.w) (lamCx X A outer s H E scope f c') E := passes_call (takes_of rfl rfl rfl rfl) fun _ _ _ _ h => h
abbrev sRf : Stmt := top 55
abbrev N55 : List Str := ["draw", "net_here", "bad", "odd", "work"]
theorem scRf : FnScope N55 ["draw", "net_here"] (defScope sRf) := ⟨rfl, rfl, rfl, by decide +kernel, rfl, by decide +kernel, by decide +kernel⟩
abbrev X55 (P : Program) (w : World) (K : PySem.W.Frag) (mg : Str → Option Value) (base : Heap) (f c : Addr) (A : Around) (outer : List Env) (s : Shared) (H : Hp) (E : XK) : Cx := (cxOf L2.CX0 P w K mg base N55 "_law_refused" (defScope sRf) f (.ref c) A outer s H E).nox
def spRf (K : PySem.W.Frag) (CN : Addr) (T : List (Addr × Str)) : Sp := fun vs H Q _ => ∃ (d lg cl y : Addr) (n : Nat) (zs : Prs), vs = [.ref d, .ref y] ∧ DrawAt H d lg cl ∧ Tabs T H ∧ NetG K CN H y n zs ∧ ∀ H', DrawAt H' d lg cl → KeptN d lg H H' → Tabs T H' → Q (.bl true) H'
/-- a wrong place -/
def OddJ (v : V) : Prop := v = .non ∨ v = .int (-1) ∨ v = .int 8 ∨ v = .bl true ∨ ∃ z, v = .str z
theorem OddJ.nu {K : PySem.W.Frag} {H : Hp} {n : Nat} (n8 : n ≤ 8) {v : V} (h : OddJ v) : ∃ o, NuJ K H v o ∧ ∀ i, o = some i → ¬ InR n i := by
  rcases h with rfl | rfl | rfl | rfl | ⟨z, rfl⟩
  · exact ⟨none, .no (.base .non) (ko_non K).1 (ko_non K).2, fun i z => by cases z⟩
  · exact ⟨some (-1), .int _, fun i z => by cases z; exact fun h => absurd h.1 (by decide)⟩
  · exact ⟨some 8, .int _, fun i z => by cases z; exact fun h => by have := h.2; omega⟩
  · exact ⟨none, .bl true, fun i z => by cases z⟩
  · exact ⟨none, .no (.base (.str z)) (ko_str K).1 (ko_str K).2, fun i z => by cases z⟩
/-- what stands while wrong values are looked at -/
structure D55 (K : PySem.W.Frag) (CN d lg cl : Addr) (T : List (Addr × Str)) (y : Addr) (n : Nat) (zs : Prs) (odd bad : V) (H0 H : Hp) : Prop where
  dr : DrawAt H d lg cl
  tb : Tabs T H
  kn : KeptN d lg H0 H
  net : NetG K CN H y n zs
  od : OddJ odd
  bd : RowBad n H bad
section
variable {K : PySem.W.Frag} {CN d lg cl : Addr} {T : List (Addr × Str)} {y : Addr} {n : Nat} {zs : Prs} {odd bad : V} {H0 H H' : Hp}
theorem D55.ext (S : D55 K CN d lg cl T y n zs odd bad H0 H) (s : ExtN H H') (tb : Tabs T H') : D55 K CN d lg cl T y n zs odd bad H0 H' := ⟨draw_ext s S.dr, tb, S.kn.trans (KeptN.ext s), S.net.ext s, S.od, S.bd.ext s⟩
theorem D55.same (S : D55 K CN d lg cl T y n zs odd bad H0 H) (s : Same H H') : D55 K CN d lg cl T y n zs odd bad H0 H' := S.ext (ExtN.same s) (S.tb.ext s)
end
/-- an error that comes behind draws -/
theorem ttc_draw {K : PySem.W.Frag} {CR CW : Addr} {tl : XK → Hp → VK → Prop} {H : Hp} {Q : VK} (N : BadR K CR CW) (R : Hp → Prop) (h : tl (fun cls dd H' => cls = .ref CR ∧ dd = none ∧ R H') H (fun _ _ => False))
    (k : ∀ a H1 H', R H1 → Same H1 H' → H' a = some (ExR (.ref CR) none a) → Q (.ref a) H') : TTc K CW tl H Q :=
  ⟨_, _, h, fun cls dd H' q => by
    obtain ⟨rfl, rfl, r⟩ := q
    exact ⟨N.exm, fun a na => k a H' _ r (same_upd na) upd_same⟩, fun v H' q => q.elim⟩
/-- roots and highest alike -/
def spWork (K : PySem.W.Frag) (CN CB CG : Addr) : Sp := fun vs H Q E => ∃ x : V, vs = [x] ∧ ((NoNet K CN H x ∧ Rz CB H E .non) ∨ ∃ (a : Addr) (n : Nat) (zs : Prs), x = .ref a ∧ NetG K CN H a n zs ∧ KdN n zs none ∧ Rp CG H E)
section
variable {P : Program} {w : World} {K : PySem.W.Frag} {mg : Str → Option Value} {base : Heap} {CN CB CP CR CG CW : Addr}
def WkJ (P : Program) (w : World) (K : PySem.W.Frag) (mg : Str → Option Value) (base : Heap) (CN CB CG : Addr) (v : V) : Prop := ∃ (f : Addr) (fd : FuncData) (sp : Sp), v = .ref f ∧ FnOk P w K mg base (L2.CX P w) 8 f fd ["net"] sp ∧ PySem.W.keepIn K (.ref f) = true ∧ L2.Binds K fd ["net"] [] ∧ ∀ vs H Q E, spWork K CN CB CG vs H Q E → sp vs H Q E
theorem wk_roots (F : FnX P w K mg base 8 "roots" ["net"] (spRoots K CN CB CG)) : WkJ P w K mg base CN CB CG (.ref F.f) := ⟨F.f, F.fd, _, rfl, F.ok, F.kp, F.b, fun vs H Q E ⟨x, e, h⟩ => ⟨x, e, h.imp id fun ⟨a, n, zs, e, N, kd, r⟩ => ⟨a, n, zs, none, e, N, kd, .inl ⟨rfl, r⟩⟩⟩⟩
theorem wk_high (F : FnX P w K mg base 8 "highest" ["net"] (spHigh K CN CB CG)) : WkJ P w K mg base CN CB CG (.ref F.f) := ⟨F.f, F.fd, _, rfl, F.ok, F.kp, F.b, fun vs H Q E ⟨x, e, h⟩ => ⟨x, e, h.imp id fun ⟨a, n, zs, e, N, kd, r⟩ => ⟨a, n, zs, none, e, N, kd, .inl ⟨rfl, r⟩⟩⟩⟩
theorem ok_refused {f c Pt : Addr} {fd : FuncData} {T : List (Addr × Str)} (F : FunC K "_law_refused" "_law_refused" sRf f fd c) (Y : Al5 P w K mg base CN CB CP CR CG CW) (BN : Fn0 P w K mg base 6 "_law_bad_net" ["draw"] (spBadNet K CN)) (C : Tc base mg T "_law_refused" c Pt) : FnOk P w K mg base CX0 11 f fd ["draw", "net_here"] (spRf K CN T) := by
  refine F.ok scRf (fun vs H Q E h => ?_) (fun A outer s H vs Q E hr h => ?_)
  · obtain ⟨d, lg, cl, y, n, zs, rfl, _⟩ := h
    rfl
  · obtain ⟨d, lg, cl, y, n, zs, rfl, DR, TB, hG, k⟩ := h
    have nd := scRf.nd
    have r3 : Room 3 _ := hr.mono (by decide)
    refine ⟨_, pss_cons (ps_asg (pe_tup (pa_cons (pe_call Y.pk.ok r3 (by rfl) Y.pk.g Y.pk.kp Y.pk.b .nil pass0 (pa_cons (pv 0) (pa_cons (pe_lst (pa_cons pe_non (pa_cons (pe_un un_neg pe_int) (pa_cons pe_int (pa_cons pe_bl (pa_cons pe_str pa_nil)))))) pa_nil)))
          (pa_cons (pe_call Y.pk.ok r3 (by rfl) Y.pk.g Y.pk.kp Y.pk.b .nil pass0 (pa_cons (pv 0) (pa_cons (pe_lst (pa_cons pe_non (pa_cons (pe_op op_rep (pe_lst (pa_cons pe_int pa_nil)) (pe_fld (pv 1) rfl)) (pa_cons (pe_tup pa_nil) (pa_cons pe_str pa_nil))))) pa_nil))) pa_nil)))
          (pg_tup (by rfl) (pgs_cons (pg_name (i := 3) nd rfl (by first | exact Or.inl rfl | exact Or.inr rfl)) (pgs_cons (pg_name (i := 2) nd rfl (by first | exact Or.inl rfl | exact Or.inr rfl)) pgs_nil))))
      (pss_cons (ps_if (pt_not (pt_val (pe_callB call_isR (by rfl) Y.mIs (by decide +kernel) (pa_cons (pe_lamV (k := 8) (by rfl) Y.gC Y.kC Y.caught C.TB rfl C.mem C.uq hr (lamS_by (sc := defScope sRf) (by decide +kernel)) rfl (fun _ _ _ _ _ => rfl)
            (fun A' o' s' H' E' f' c' hr2 => pe_call Y.mi.ok (hr2.mono (by decide)) (by rfl) Y.mi.g Y.mi.kp Y.mi.b .nil (passes_call (takes_of rfl rfl rfl rfl) fun _ _ _ _ h => h) (pa_cons pe_non (pa_cons (pv 3) (pa_cons (pv 2) pa_nil))))) (pa_cons (pe_glob (v := .ref CB) (by rfl) Y.gB rfl) pa_nil))))) (pss_one (ps_ret pe_bl)) pss_nil)
      (pss_cons (ps_if (pt_not (pt_val (pe_callB call_isR0 (by rfl) Y.mIs (by decide +kernel) (pa_cons (pe_lamV (k := 8) (by rfl) Y.gC Y.kC Y.caught C.TB rfl C.mem C.uq hr (lamS_by (sc := defScope sRf) (by decide +kernel)) rfl (fun _ _ _ _ _ => rfl)
            (fun A' o' s' H' E' f' c' hr2 => pe_call Y.mi.ok (hr2.mono (by decide)) (by rfl) Y.mi.g Y.mi.kp Y.mi.b .nil (passes_call (takes_of rfl rfl rfl rfl) fun _ _ _ _ h => h) (pa_cons (pv 1) (pa_cons (pv 3) (pa_cons (pv 2) pa_nil))))) (pa_cons (pe_glob (v := .ref CP) (by rfl) Y.gP rfl) pa_nil))))) (pss_one (ps_ret pe_bl)) pss_nil)
      (pss_cons (ps_if (pt_not (pt_val (pe_callB call_isR0 (by rfl) Y.mIs (by decide +kernel) (pa_cons (pe_lamV (k := 8) (by rfl) Y.gC Y.kC Y.caught C.TB rfl C.mem C.uq hr (lamS_by (sc := defScope sRf) (by decide +kernel)) rfl (fun _ _ _ _ _ => rfl)
            (fun A' o' s' H' E' f' c' hr2 => pe_call Y.mi.ok (hr2.mono (by decide)) (by rfl) Y.mi.g Y.mi.kp Y.mi.b .nil (passes_call (takes_of rfl rfl rfl rfl) fun _ _ _ _ h => h) (pa_cons (pv 1) (pa_cons pe_int (pa_cons (pv 2) pa_nil))))) (pa_cons (pe_glob (v := .ref CR) (by rfl) Y.gR rfl) pa_nil))))) (pss_one (ps_ret pe_bl)) pss_nil)
      (pss_cons (ps_for PassesOwn.never rfl (pi_list (pe_lst (pa_cons (pe_glob (v := .ref Y.ro.f) (by rfl) Y.ro.g rfl) (pa_cons (pe_glob (v := .ref Y.hi.f) (by rfl) Y.hi.g rfl) pa_nil)))) (pg_name (i := 4) nd rfl (by first | exact Or.inl rfl | exact Or.inr rfl))
        (pss_cons (ps_if (pt_not (pt_val (pe_callB call_isR0 (by rfl) Y.mIs (by decide +kernel) (pa_cons (pe_lamV (k := 8) (by rfl) Y.gC Y.kC Y.caught C.TB rfl C.mem C.uq hr (lamS_by (sc := defScope sRf) (by decide +kernel)) rfl (fun _ _ _ _ _ => rfl)
            (fun A' o' s' H' E' f' c' hr2 => show PE _ _ (tCallV P w K mg base (L2.CX P w) 8 4 E' (tCons (tCall (spBadNet K CN) [] E0 (tCons (tVar 0) tNil)) tNil)) from pe_callVar (CX := L2.CX P w) (k := 8) (i := 4) hr2 (lam_passes (X := X55 P w K mg base f c A outer s H E) (A := A') (outer := o') (s := s') (H := H') (E := E') (f := f') (c' := c')) rfl (.inr (.inr rfl)) (pa_cons (pe_call BN.ok (hr2.mono (by decide)) (by rfl) BN.g BN.kp BN.b .nil pass0 (pa_cons (pv 0) pa_nil)) pa_nil))) (pa_cons (pe_glob (v := .ref CG) (by rfl) Y.gG rfl) pa_nil))))) (pss_one (ps_ret pe_bl)) pss_nil)
        (pss_one (ps_if (pt_not (pt_val (pe_callB call_isR (by rfl) Y.mIs (by decide +kernel) (pa_cons (pe_lamV (k := 8) (by rfl) Y.gC Y.kC Y.caught C.TB rfl C.mem C.uq hr (lamS_by (sc := defScope sRf) (by decide +kernel)) rfl (fun _ _ _ _ _ => rfl)
            (fun A' o' s' H' E' f' c' hr2 => show PE _ _ (tCallV P w K mg base (L2.CX P w) 8 4 E' (tCons (tTup (tCons (tC (.int 1)) (tCons (tLst tNil) tNil))) tNil)) from pe_callVar (CX := L2.CX P w) (k := 8) (i := 4) hr2 (lam_passes (X := X55 P w K mg base f c A outer s H E) (A := A') (outer := o') (s := s') (H := H') (E := E') (f := f') (c' := c')) rfl (.inr (.inr rfl)) (pa_cons (pe_tup (pa_cons pe_int (pa_cons (pe_lst pa_nil) pa_nil))) pa_nil))) (pa_cons (pe_glob (v := .ref CB) (by rfl) Y.gB rfl) pa_nil))))) (pss_one (ps_ret pe_bl)) pss_nil))))
      (pss_one (ps_ret pe_bl)))))), ?_⟩
    have hn8 := hG.n8
    -- odd
    refine ⟨_, rfl, 1, rfl, by show 5 ≤ sizeLine; decide, fun q1 n1 => ?_⟩
    have s1 := same_upd (o := .lst [.non, .int (-1), .int 8, .bl true, .str "0"]) n1
    obtain ⟨_, q1lg, _⟩ := draw_new DR n1
    refine ⟨d, lg, cl, q1, _, rfl, draw_same s1 DR, upd_same, q1lg, by show 0 < 5; decide, by show 5 < 1000; decide, fun i odd H1 hi D1 k1 => ?_⟩
    have k01 : Kept d lg H H1 := fun b o e h1 h2 => k1 b o (s1 _ _ e) h1 h2
    have ho : OddJ odd := by
      match i, hi with
      | 0, hi => cases hi; exact .inl rfl
      | 1, hi => cases hi; exact .inr (.inl rfl)
      | 2, hi => cases hi; exact .inr (.inr (.inl rfl))
      | 3, hi => cases hi; exact .inr (.inr (.inr (.inl rfl)))
      | 4, hi => cases hi; exact .inr (.inr (.inr (.inr ⟨_, rfl⟩)))
      | n + 5, hi => simp at hi
    -- bad
    have G1 := hG.kept DR k01.n
    refine ⟨_, rfl, by show 1 ≤ sizeLine; decide, fun q2 n2 => ?_⟩
    have s2 := same_upd (o := .lst [.int 0]) n2
    obtain ⟨dx, t, us, eN, _⟩ := id (G1.at_.same s2)
    refine ⟨_, rfl, y, CN, dx, _, _, rfl, eN, Y.T.cl, Y.T.nP, rfl, ?_⟩
    refine ⟨q2, (n : Int), [.int 0], rfl, rfl, upd_same, by omega, by omega, by rw [Int.toNat_natCast]; exact Nat.le_of_lt (small_2000 (by show 1 * _ ≤ 2000; omega)), fun q3 n3 => ?_⟩
    have s3 := same_upd (o := .lst (List.replicate (n : Int).toNat [V.int 0]).flatten) n3
    have e3 : upd (upd H1 q2 (.lst [.int 0])) q3 (.lst (List.replicate (n : Int).toNat [V.int 0]).flatten) q3 = some (.lst (List.replicate (n : Int).toNat [V.int 0]).flatten) := upd_same
    have D3 := draw_same (s2.trans s3) D1
    have nq3 : q3 ≠ lg := (draw_new (draw_same s2 D1) n3).2.1
    have s13 := s2.trans s3
    generalize upd (upd H1 q2 (.lst [.int 0])) q3 (.lst (List.replicate (n : Int).toNat [V.int 0]).flatten) = H3 at e3 D3 s13
    refine ⟨by show 0 ≤ sizeLine; decide, fun q4 n4 => ?_⟩
    have s4 := same_upd (o := .tup []) n4
    have e4 : (upd H3 q4 (.tup [])) q4 = some (.tup []) := upd_same
    have e34 := s4 _ _ e3
    have D4 := draw_same s4 D3
    have s14 := s13.trans s4
    generalize upd H3 q4 (.tup []) = H4 at e4 e34 D4 s14
    refine ⟨by show 4 ≤ sizeLine; decide, fun q5 n5 => ?_⟩
    have s5 := same_upd (o := .lst [.non, .ref q3, .ref q4, .str "0"]) n5
    obtain ⟨_, q5lg, _⟩ := draw_new D4 n5
    refine ⟨d, lg, cl, q5, _, rfl, draw_same s5 D4, upd_same, q5lg, by show 0 < 4; decide, by show 4 < 1000; decide, fun i bad H6 hi D6 k6 => ?_⟩
    have k46 : Kept d lg H4 H6 := fun b o e h1 h2 => k6 b o (s5 _ _ e) h1 h2
    have k06 : Kept d lg H H6 := k01.trans (fun b o e h1 h2 => k46 b o (s14 _ _ e) h1 h2)
    have hb : RowBad n H6 bad := by
      match i, hi with
      | 0, hi => cases hi; exact .inl rfl
      | 1, hi => cases hi; exact .inr (.inr (.inl ⟨q3, _, rfl, lst_kept D4 k46.n nq3 e34⟩))
      | 2, hi => cases hi; exact .inr (.inr (.inr (.inl ⟨q4, [], rfl, tup_kept D4 k46.n e4, by have := hG.n0; show 0 ≠ n; omega, by show 0 ≤ 1000; decide⟩)))
      | 3, hi => cases hi; exact .inr (.inl ⟨_, rfl⟩)
      | n + 4, hi => simp at hi
    refine ⟨by show 2 ≤ sizeLine; decide, fun tp ntp => ?_⟩
    have s7 := same_upd (o := .tup [odd, bad]) ntp
    have e7 : upd H6 tp (.tup [odd, bad]) tp = some (.tup [odd, bad]) := upd_same
    have S : D55 K CN d lg cl T y n zs odd bad H (upd H6 tp (.tup [odd, bad])) := ⟨draw_same s7 D6, (Tabs.kept DR k06 TB).ext s7, k06.n.trans (KeptN.same s7), (hG.kept DR k06.n).same s7, ho, hb.ext (ExtN.same s7)⟩
    refine ⟨tp, [odd, bad], rfl, SqT.of e7, rfl, odd, [bad], rfl, bad, [], rfl, rfl, ?_⟩
    show tSeq _ _ _ [some (.ref d), some (.ref y), some bad, some odd, none] (upd H6 tp (.tup [odd, bad]))
    generalize upd H6 tp (.tup [odd, bad]) = H7 at S
    clear e7 s7 ntp
    -- no net
    refine ⟨S.tb, fun Ha sa ta => ?_⟩
    have Sa := S.ext sa ta
    refine ttc_net Y.bad ⟨_, rfl, _, rfl, .non, odd, bad, rfl, .inl ⟨⟨_, .base .non, Y.noN⟩, rz_non (Same.refl _)⟩⟩ fun a d' Hb sb eb ed => ?_
    refine ⟨a, CB, d', _, _, _, true, rfl, eb, ed, Y.bad.get.ex, fun u r => r, Y.bad.one, _, rfl, ?_⟩
    refine iteF ?_
    replace S := Sa.same sb
    clear sb eb ed sa ta Sa
    -- a wrong place
    refine ⟨S.tb, fun Ha sa ta => ?_⟩
    have Sa := S.ext sa ta
    refine ttc_row Y.badP ⟨_, rfl, _, rfl, _, rfl, .ref y, odd, bad, rfl, .inr ⟨y, n, _, rfl, Sa.net.at_, hG.inn, hG.len, hn8, .inl (by
      obtain ⟨o, h1, h2⟩ := Sa.od.nu (K := K) (H := Ha) hn8
      exact ⟨o, h1, h2, rp_bad (Same.refl _)⟩)⟩⟩ fun a Hb sb eb => ?_
    refine ⟨a, CP, _, _, true, rfl, eb, Y.badP.ex, fun u r => r, Y.badP.one, _, rfl, ?_⟩
    refine iteF ?_
    replace S := Sa.same sb
    clear sb eb sa ta Sa
    -- a wrong row
    refine ⟨S.tb, fun Ha sa ta => ?_⟩
    have Sa := S.ext sa ta
    refine ttc_row Y.badR ⟨_, rfl, _, rfl, .ref y, .int 0, bad, rfl, .inr ⟨y, n, _, rfl, Sa.net.at_, hG.inn, hG.len, hn8, .inr ⟨0, rfl, hG.n0, .inl ⟨Sa.bd.row, rp_bad (Same.refl _)⟩⟩⟩⟩ fun a Hb sb eb => ?_
    refine ⟨a, CR, _, _, true, rfl, eb, Y.badR.ex, fun u r => r, Y.badR.one, _, rfl, ?_⟩
    refine iteF ?_
    replace S := Sa.same sb
    clear sb eb sa ta Sa
    -- roots and highest
    refine ⟨by show 2 ≤ sizeLine; decide, fun q8 n8 => ?_⟩
    have s8 := same_upd (o := .lst [.ref Y.ro.f, .ref Y.hi.f]) n8
    have S8 := S.same s8
    have q8lg : q8 ≠ lg := (draw_new S.dr n8).2.1
    have e8 : (upd Hb q8 (.lst [.ref Y.ro.f, .ref Y.hi.f])) q8 = some (.lst [.ref Y.ro.f, .ref Y.hi.f]) := upd_same
    generalize upd Hb q8 (.lst [.ref Y.ro.f, .ref Y.hi.f]) = H8 at S8 e8
    have wk : ∀ (i : Nat) (y : V), ([.ref Y.ro.f, .ref Y.hi.f] : List V)[i]? = some y → WkJ P w K mg base CN CB CG y := fun i y hi => by
      match i, hi with
      | 0, hi => cases hi; exact wk_roots Y.ro
      | 1, hi => cases hi; exact wk_high Y.hi
      | n + 2, hi => simp at hi
    refine ⟨q8, rfl, ⟨_, SqL.of e8⟩, ?_⟩
    refine for_list (K := K) (a := q8) (xs := [.ref Y.ro.f, .ref Y.hi.f]) (fun i σ Hx => ∃ v4 : Option V, σ = [some (.ref d), some (.ref y), some bad, some odd, v4] ∧ DrawAt Hx d lg cl ∧ Tabs T Hx ∧ KeptN d lg H Hx ∧ Hx q8 = some (.lst [.ref Y.ro.f, .ref Y.hi.f])) ⟨_, rfl, S8.dr, S8.tb, S8.kn, e8⟩ (fun i σ Hx _ hh => by obtain ⟨_, _, _, _, _, e⟩ := hh; exact SqL.of e) ?_ ?_
    · rintro i yy σ Hx hi ⟨v4, rfl, Dx, tx, kx, ex⟩
      obtain ⟨fw, dw, spw, rfl, Fw, kw, bw, iw⟩ := wk i yy hi
      refine ⟨tx, fun Ha sa ta => ?_⟩
      have Da := draw_ext sa Dx
      have ka := kx.trans (KeptN.ext sa)
      have ea := lst_ext sa ex
      refine ttc_draw Y.badG (fun H' => DrawAt H' d lg cl ∧ Kept d lg Ha H') ⟨fw, dw, _, spw, Fw, kw, bw, rfl, _, rfl, d, lg, cl, rfl, Da, fun y2 n2 z2 Hn GN KN Dn kn => iw _ _ _ _ ⟨.ref y2, rfl, .inr ⟨y2, n2, z2, rfl, GN, KN, fun H' s' => ⟨rfl, rfl, draw_same s' Dn, kn.trans (fun b o h _ _ => s' b o h)⟩⟩⟩⟩ fun a H1 Hb r sb eb => ?_
      obtain ⟨Dn, kn⟩ := r
      refine ⟨a, CG, _, _, true, rfl, eb, Y.badG.ex, fun u r => r, Y.badG.one, _, rfl, ?_⟩
      refine iteF ?_
      have Db := draw_same sb Dn
      have tb := (Tabs.kept Da kn ta).ext sb
      have kb := (ka.trans kn.n).trans (KeptN.same sb)
      have eb8 := sb _ _ (lst_kept Da kn.n q8lg ea)
      clear eb sb Dn kn sa ta Da ka ea
      refine ⟨tb, fun Hc sc tc => ?_⟩
      refine ttc_net Y.bad ⟨fw, dw, _, spw, Fw, kw, bw, rfl, by show 0 ≤ sizeLine; decide, fun l nl => ⟨by show 2 ≤ sizeLine; decide, fun t2 nt2 => iw _ _ _ _ ⟨.ref t2, rfl, .inl ⟨⟨_, ty_tup (SqT.of upd_same), Y.noT⟩, rz_non ((same_upd nl).trans (same_upd nt2))⟩⟩⟩⟩ fun a d' Hd sd ed ed' => ?_
      refine ⟨a, CB, d', _, _, _, true, rfl, ed, ed', Y.bad.get.ex, fun u r => r, Y.bad.one, _, rfl, ?_⟩
      refine iteF ?_
      exact ⟨_, rfl, draw_same sd (draw_ext sc Db), tc.ext sd, (kb.trans (KeptN.ext sc)).trans (KeptN.same sd), sd _ _ (lst_ext sc eb8)⟩
    · rintro σ Hx ⟨v4, rfl, Dx, tx, kx, ex⟩
      exact k Hx Dx kx tx
end
end K03


set_option Elab.async false
set_option maxRecDepth 100000
set_option maxHeartbeats 4000000
set_option linter.all false
/-! all that is told of a drawn net. Pure. -/
namespace K03
open PySem PySem.Spec PyProof.Rows L2 NetM
theorem top_all : ((List.range 8).all fun n => (List.range 3).all fun w => decide (runS (goodP (n + 1) w) (n + 1) 60 (ones (n + 1)) = some (some (topE (goodP (n + 1) w) (n + 1))))) = true := by decide +kernel
theorem top_set {n w : Nat} (h1 : 0 < n) (h2 : n ≤ 8) (h3 : w < 3) : SetR (goodP n w) n (some (topE (goodP n w) n)) := by
  have h := List.all_eq_true.mp (List.all_eq_true.mp top_all (n - 1) (List.mem_range.mpr (by omega))) w (List.mem_range.mpr h3)
  rw [show n - 1 + 1 = n by omega] at h
  exact set_of (good_of h1 h2 h3).1.1 (of_decide_eq_true h)
theorem max_le : ∀ (l : List Int) (a x : Int), (x ∈ l ∨ x ≤ a) → x ≤ l.foldl max a
  | [], a, x, h => by
    rcases h with h | h
    · cases h
    · exact h
  | b :: l, a, x, h => by
    rw [List.foldl_cons]
    refine max_le l _ x ?_
    rcases h with h | h
    · rcases List.mem_cons.mp h with rfl | h
      · exact .inr (by omega)
      · exact .inl h
    · exact .inr (by omega)
section
variable {n : Nat} {f g : Int → Int} {E F : Prs}
theorem lst_fwd (R : Ren n f E F) (hg : ∀ x, InR n x → InR n (g x) ∧ f (g x) = x ∧ g (f x) = x) {r : Rw} (h : Lst E n r) {s : Rw} (e : ∀ y, InR n y → s y = r (g y)) : Lst F n s := by
  have hs : Setl F n s := by
    refine (R.setl s).mpr (setl_congr R.hE (fun q hq => ?_) h.1)
    show r q = s (f q)
    rw [e _ (R.b.to q hq), (hg q hq).2.2]
  refine ⟨hs, fun u hu p hp => ?_⟩
  obtain ⟨x, hx, rfl⟩ := R.b.sur hp
  rw [e _ hp, (hg x hx).2.2]
  exact h.2 _ ((R.setl u).mp hu) x hx
theorem set_fwd (R : Ren n f E F) (hg : ∀ x, InR n x → InR n (g x) ∧ f (g x) = x ∧ g (f x) = x) {T : List Int} (h : SetR E n (some T)) : SetR F n (some (trR n g T)) := by
  obtain ⟨h1, h2, h3⟩ := h
  refine ⟨tr_len _, lst_fwd R hg h2 fun y hy => tr_row T hy, fun i m => h3 i ((tr_perm hg R.b h1).mem_iff.mp m)⟩
end
theorem kd_of {n : Nat} {F : Prs} {L : List Int} (n0 : 0 < n) (h : SetR F n (some L)) (hf : frm F n (rowF L) ≠ 0) : KdN n F (some L) := by
  obtain ⟨h1, h2, h3⟩ := id h
  have m := row_mem h1 (inr_nat n0)
  have hb := h3 _ m
  have := max_le L 0 _ (.inl m)
  have hm : 1 ≤ maxL L := by unfold maxL; omega
  exact .good L (min (maxL L) 3 - 1).toNat h hf (by omega) (by omega)
theorem flip_len {E F : Prs} (h : Flip E F) : F.length = E.length := h.len
/-- all that is told of a drawn net -/
structure NetF (n : Nat) (F : Prs) (T : List Int) (S : Rows) : Prop where
  inn : In n F
  nl : ∀ x y, (x, y) ∈ F → x ≠ y
  len : F.length ≤ 12
  n8 : n ≤ 8
  n0 : 0 < n
  good : GoodN F n
  rt : RtS F n T S
  s120 : S.length ≤ 120
  due : DueF F n S.length
  kd : KdN n F (some T)
theorem net_good {n w : Nat} (h1 : 0 < n) (h2 : n ≤ 8) (h3 : w < 3) {f : Int → Int} {F : Prs} (R : Ren n f (goodP n w) F) : ∃ T S, NetF n F T S := by
  obtain ⟨g, hg⟩ := R.back
  obtain ⟨⟨hi, nl⟩, TT, hl, sim, hang, L, hS, hm, hf⟩ := good_of h1 h2 h3
  obtain ⟨RS, hlen⟩ := rt_of h1 h2 h3
  have hT := top_set h1 h2 h3
  have eL : L = topE (goodP n w) n := by
    have := setr_uniq hi hS hT
    exact Option.some.inj this
  have lT := RS.len _ RS.topm
  have RS2 := RS.ren R hg lT
  have hlS : ((rtE (goodP n w) n).map (trR n g)).length = manyW n w := by rw [List.length_map, hlen]
  have hlF : F.length = (goodP n w).length := by
    obtain ⟨G, g1, g2⟩ := R.ex
    rw [g2.len, g1.length_eq]
    unfold nam
    rw [List.length_map]
  refine ⟨_, _, R.inF, fun x y m => ?_, by omega, h2, h1, ⟨R.hangs h1 hang, (order_iff R.inF).mpr (R.acy TT sim nl)⟩, RS2, by rw [hlS]; exact many_120 h1 h2 h3, by rw [hlS]; exact due_of h1 h2 h3 R, kd_of h1 (set_fwd R hg hT) ?_⟩
  · obtain ⟨e, me, h⟩ := R.two (x, y) m
    obtain ⟨i1, i2⟩ := hi e.1 e.2 me
    have ne := nl e.1 e.2 me
    rcases h with h | h
    · cases h
      exact fun z => ne (R.b.inj _ _ i1 i2 z)
    · cases h
      exact fun z => ne (R.b.inj _ _ i2 i1 z).symm
  · rw [R.frm, frm_congr R.hE fun p hp => tr_f hg R.b _ hp, ← eL]
    exact hf
end K03


set_option Elab.async false
set_option maxRecDepth 100000
set_option maxHeartbeats 4000000
set_option linter.all false
namespace K03
open PySem PySem.Spec PyProof.Rows L2 NetM LamX GL
abbrev sLaw : Stmt := top 56
abbrev N56 : List Str := ["script", "draw", "turn", "net", "net_here", "some", "told_here", "top", "row", "here", "there"]
theorem scLaw : FnScope N56 ["script"] (defScope sLaw) := ⟨rfl, rfl, rfl, by decide +kernel, rfl, by decide +kernel, by decide +kernel⟩
def spLaw (K : PySem.W.Frag) (T : List (Addr × Str)) : Sp := fun vs H Q _ => ∃ (a : Addr) (ns : List Int), vs = [.ref a] ∧ SqL K H a (ns.map V.int) ∧ ns.length ≤ 63 ∧ Tabs T H ∧ ∀ H', Q (.bl true) H'
/-- the law's own defs that look at a part of it -/
structure Own5 (P : Program) (w : World) (K : PySem.W.Frag) (mg : Str → Option Value) (base : Heap) (CN : Addr) (T : List (Addr × Str)) where
  mr : FnG1 P w K mg base 6 "_law_mirrors_right" ["draw", "net", "net_here", "some"] (spMR K CN)
  rf : Fn0 P w K mg base 11 "_law_refused" ["draw", "net_here"] (spRf K CN T)
/-- sorted of rows of any length -/
theorem cr_sortRA {X : Cx} {B : Int} : CallR X (.builtin "sorted") (fun vs H Q => ∃ d, 1 ≤ d ∧ rSortR X.K d B vs H Q) := by
  intro pins s σ H vs us Q I r h
  obtain ⟨d, hd, h⟩ := h
  exact cr_sortR hd pins s σ H vs us Q I r h
section
variable {P : Program} {w : World} {K : PySem.W.Frag} {mg : Str → Option Value} {base : Heap} {CN CB CP CR CG CW : Addr}
theorem ok_law {f : Addr} {fd : FuncData} {T : List (Addr × Str)} (F : Fun K "law" "law" sLaw f fd) (Y : Al5 P w K mg base CN CB CP CR CG CW) (O : Own5 P w K mg base CN T) : FnG P w K mg base L2.CX0 12 f fd ["script"] (spLaw K T) := by
  refine GL.okG F scLaw (fun vs H Q E h => ?_) (fun cdv A outer s H vs Q E hga hr h => ?_)
  · obtain ⟨a, ns, rfl, _⟩ := h
    rfl
  · obtain ⟨a, ns, rfl, hS, hlen, hT, k⟩ := h
    have nd := scLaw.nd
    have hu := hu_of hr
    have r1 : Room 1 _ := hr.mono (by decide)
    have r2 : Room 2 _ := hr.mono (by decide)
    have r4 : Room 4 _ := hr.mono (by decide)
    have r6 : Room 6 _ := hr.mono (by decide)
    have r8 : Room 8 _ := hr.mono (by decide)
    have hu70 : (A.deeper (envOfC "law" (defScope sLaw) s.heap.objs.size f cdv)).units + 70 < cLine := by have := hr.un; omega
    refine ⟨_, pss_cons (ps_set (i := 1) nd rfl (by first | exact Or.inl rfl | exact Or.inr rfl) (pe_call Y.be.ok r1 (by rfl) Y.be.g Y.be.kp Y.be.b .nil pass0 (pa_cons (pv 0) pa_nil)))
      (pss_cons (ps_for PassesOwn.never rfl (pi_range1 (by rfl) Y.mRa (pa_cons (pe_op op_add pe_int (pe_callB (call_min2 rfl) (by rfl) Y.mMin (by decide +kernel) (pa_cons (pe_callB call_len_seq (by rfl) Y.mLen PySem.boot_len (pa_cons (pv 0) pa_nil)) (pa_cons pe_int pa_nil)))) pa_nil)) (pg_name (i := 2) nd rfl (by first | exact Or.inl rfl | exact Or.inr rfl))
        (pss_cons (ps_set (i := 3) nd rfl (by first | exact Or.inl rfl | exact Or.inr rfl) (pe_call Y.ne.ok r4 (by rfl) Y.ne.g Y.ne.kp Y.ne.b .nil pass0 (pa_cons (pv 1) (pa_cons pe_int pa_nil))))
        (pss_cons (ps_par (i := 4) (j := 5) (by rfl) nd rfl rfl (by decide) rfl rfl (pa_cons (pe_call Y.made.ok r6 (by rfl) Y.made.g Y.made.kp Y.made.b .nil pass0 (pa_cons (pv 3) pa_nil)) (pa_cons (pe_call Y.lr.ok r2 (by rfl) Y.lr.g Y.lr.kp Y.lr.b .nil pass0 (pa_cons (pv 3) pa_nil)) pa_nil)) (by rfl))
        (pss_cons (ps_set (i := 6) nd rfl (by first | exact Or.inl rfl | exact Or.inr rfl) (pe_call Y.ro.ok r8 (by rfl) Y.ro.g Y.ro.kp Y.ro.b .nil (passes_call L2.takes0 fun _ _ _ _ h => h) (pa_cons (pv 4) pa_nil)))
        (pss_cons (ps_if (PW.pt (pw_or (pt_cmpR op_ne (pe_callB (id := "repr") (call_repr (K := K) rfl (by exact hga) (by exact hu70)) (by rfl) Y.mRe (by decide +kernel) (pa_cons (pv 6) pa_nil)) (pe_callB (id := "repr") (call_repr (K := K) rfl (by exact hga) (by exact hu70)) (by rfl) Y.mRe (by decide +kernel) (pa_cons (pv 5) pa_nil)) (nomark _))
            (pw_or1 (pt_cmpR op_ne (pe_callB call_len_seq (by rfl) Y.mLen PySem.boot_len (pa_cons (pv 5) pa_nil)) (pe_call Y.du.ok r1 (by rfl) Y.du.g Y.du.kp Y.du.b .nil pass0 (pa_cons (pv 3) pa_nil)) (nomark _))))) (pss_one (ps_ret pe_bl)) pss_nil)
        (pss_cons (ps_expr (pe_bm PySem.F.plainAttrs_list PySem.F.slot_list_append PySem.F.type_list_append mt_append (pv 6) (pa_cons pe_non pa_nil)))
        (pss_cons (ps_set (i := 7) nd rfl (by first | exact Or.inl rfl | exact Or.inr rfl) (pe_callK0 Y.hi.ok r8 (by rfl) Y.hi.g Y.hi.kp Y.hiK (passes_call L2.takes0 fun _ _ _ _ h => h) (pk_cons (pv 4) pk_nil)))
        (pss_cons (ps_if (PW.pt (pw_or (pt_cmpR op_ne (pe_callB (id := "repr") (call_repr (K := K) rfl (by exact hga) (by exact hu70)) (by rfl) Y.mRe (by decide +kernel) (pa_cons (pv 7) pa_nil)) (pe_callB (id := "repr") (call_repr (K := K) rfl (by exact hga) (by exact hu70)) (by rfl) Y.mRe (by decide +kernel) (pa_cons (pe_ix ix_list (pv 5) (pe_un un_neg pe_int) (fun _ _ => rfl)) pa_nil)) (nomark _))
            (pw_or1 (pt_cmpR (op_neD hr.units) (pe_call Y.ro.ok r8 (by rfl) Y.ro.g Y.ro.kp Y.ro.b .nil (passes_call L2.takes0 fun _ _ _ _ h => h) (pa_cons (pv 4) pa_nil)) (pv 5) (nomark _))))) (pss_one (ps_ret pe_bl)) pss_nil)
        (pss_cons (ps_for PassesOwn.never rfl (pi_seq (pv 5)) (pg_name (i := 8) nd rfl (by first | exact Or.inl rfl | exact Or.inr rfl))
          (pss_one (ps_if (pt_cmpR (op_neD hr.units) (pe_lc (own := [("here", 9), ("there", 10)]) (g := gTup K 2 (gCons (gName 9) (gCons (gName 10) gNil))) (by rfl) nd (pi_z2 (by rfl) Y.mZip (pa_cons (pv 8) (pa_cons (pv 7) pa_nil))) (blkOk_by (own := [("here", 9), ("there", 10)]) (N := N56) (sc := defScope sLaw) (by decide +kernel))
            (fun _ _ _ _ _ => pg_tup (by rfl) (pgs_cons (pg_name (i := 9) nd rfl (by first | exact Or.inl rfl | exact Or.inr rfl)) (pgs_cons (pg_name (i := 10) nd rfl (by first | exact Or.inl rfl | exact Or.inr rfl)) pgs_nil))) (fun _ _ _ _ _ => pts_one (pt_cmpR op_gt (pv 9) (pv 10) (nomark _)))
            (fun _ _ _ _ _ => pe_int)) (pe_lst pa_nil) (nomark _)) (pss_one (ps_ret pe_bl)) pss_nil)))
        (pss_cons (ps_if (PW.pt (pw_and (pt_cmpR op_lt (pe_dget hu (pv 3) pe_str (fun _ _ => rfl)) pe_int (nomark _)) (pw_and1 (pt_cmpR (op_neD hr.units) (pe_callB (show CallR _ _ (fun vs H Q => ∃ d, 1 ≤ d ∧ rSortR K d BB vs H Q) from cr_sortRA) (by rfl) Y.mSo (by decide +kernel) (pa_cons (pe_call Y.tr.ok r2 (by rfl) Y.tr.g Y.tr.kp Y.tr.b .nil pass0 (pa_cons (pv 3) (pa_cons pe_int pa_nil))) pa_nil)) (pe_callB (show CallR _ _ (fun vs H Q => ∃ d, 1 ≤ d ∧ rSortR K d BB vs H Q) from cr_sortRA) (by rfl) Y.mSo (by decide +kernel) (pa_cons (pv 5) pa_nil)) (nomark _))))) (pss_one (ps_ret pe_bl)) pss_nil)
        (pss_one (ps_if (PW.pt (pw_or (pt_not (pt_val (GL.pe_callG O.mr.ok (by exact hga) r6 (by rfl) O.mr.g O.mr.kp O.mr.b .nil pass0 (pa_cons (pv 1) (pa_cons (pv 3) (pa_cons (pv 4) (pa_cons (pv 5) pa_nil))))))) (pw_or1 (pt_not (pt_val (pe_call O.rf.ok hr (by rfl) O.rf.g O.rf.kp O.rf.b .nil pass0 (pa_cons (pv 1) (pa_cons (pv 4) pa_nil)))))))) (pss_one (ps_ret pe_bl)) pss_nil))))))))))))
      (pss_one (ps_ret pe_bl))), ?_⟩
    refine ⟨_, rfl, a, ns, rfl, hS, hlen, fun d lg cl H1 D1 s1 nd1 nl1 nc1 => ?_⟩
    have t1 : Tabs T H1 := hT.ext s1
    have hS1 : SqL K H1 a (ns.map L2.V.int) := s1.seq hS
    refine ⟨_, rfl, a, _, rfl, .inl hS1, _, _, rfl, _, _, rfl, rfl, _, rfl, ?_, ?_, ?_⟩
    · rw [List.length_map]; split <;> omega
    · rw [List.length_map]; split <;> omega
    refine for_range (lo := 0) (fun i σ Hx => ∃ v2 v3 v4 v5 v6 v7 v8 : Option L2.V, σ = [some (.ref a), some (.ref d), v2, v3, v4, v5, v6, v7, v8, none, none] ∧ DrawAt Hx d lg cl ∧ Tabs T Hx) ⟨none, none, none, none, none, none, none, rfl, D1, t1⟩ ?_ ?_
    · clear hS1 t1 D1 nd1 nl1 nc1
      rintro i σ Hx hi ⟨v2, v3, v4, v5, v6, v7, v8, rfl, Dx, tx⟩
      refine ⟨_, rfl, d, lg, cl, rfl, Dx, fun x ps n wy us f3 H3 n0 n8 hw3 hN pl R D3 k3 => ?_⟩
      have t3 := Tabs.kept Dx k3 tx
      obtain ⟨Tp, S, NF⟩ := net_good n0 n8 hw3 R
      clear k3 tx Dx
      have hul : us.length ≤ 12 := by have := NF.len; unfold nums at this; rw [List.length_map] at this; exact this
      -- the Net, and the law's own roots
      refine ⟨_, rfl, x, ps, n, us, rfl, hN, NF.inn, hul, n8, n0, NF.nl, NF.good, fun y H4 G4 s4 => ?_⟩
      refine ⟨_, rfl, x, ps, n, us, Tp, S, rfl, hN.same s4, NF.inn, hul, n0, n8, NF.rt, NF.s120, fun L sa as H5 RL s5 nsa eS hL => ?_⟩
      refine ⟨_, _, rfl, ?_⟩
      have s35 := s4.trans s5
      have D5 := draw_same s35 D3
      have sal : sa ≠ lg := (draw_new (draw_same s4 D3) nsa).2.1
      have N5 := hN.same s35
      have G5 := G4.same s5
      have t5 := t3.ext s35
      have hL120 : L.length ≤ 120 := by rw [RL.count NF.rt]; exact NF.s120
      have okL : ∀ r ∈ L, ROk n r := fun r m => NF.rt.ok ((RL.mem r).mp m)
      have shL := shown_rows n8 okL hL120
      -- roots
      refine ⟨_, rfl, .ref y, rfl, .inr ⟨y, n, _, some Tp, rfl, G5, NF.kd, .inr ⟨Tp, S, rfl, NF.rt, NF.s120, fun L2 ta bs H6 RL2 s6 nta eT hT6 => ?_⟩⟩⟩
      cases RL2.uniq RL
      refine ⟨_, rfl, _, _, rfl, rdv (dp_rows (SqL.of eT) hT6) (nd_rows _), shL, ?_⟩
      refine ⟨_, rfl, _, _, rfl, rdv (dp_rows (SqL.of (s6 _ _ eS)) (hL.same s6)) (nd_rows _), shL, rfl, _, rfl, ?_⟩
      refine iteFb (by simp) ?_
      have lenS : (as.map V.ref).length = S.length := by rw [List.length_map, hL.len, RL.count NF.rt]
      refine ⟨_, rfl, sa, _, rfl, .inl (SqL.of (s6 _ _ eS)), _, rfl, x, ps, n, us, S.length, rfl, N5.same s6, NF.inn, hul, n0, n8, NF.nl, NF.due, fun H7 s7 => ?_⟩
      rw [lenS]
      refine ⟨rfl, _, rfl, ?_⟩
      refine iteFb (by simp) ?_
      -- told_here.append(None)
      have s67 := s6.trans s7
      have eT7 := s7 _ _ eT
      refine ⟨_, rfl, .inl ⟨rfl, _, SqL.of eT7⟩, ta, _, _, rfl, rfl, eT7, small_2000 (by rw [List.length_map, hT6.len]; omega), ?_⟩
      have s8 : Same H5 (upd H7 ta (.lst (bs.map V.ref ++ [.non]))) := same_put s67 nta
      generalize upd H7 ta (.lst (bs.map V.ref ++ [.non])) = H8 at s8
      clear eT eT7 hT6 s67 s7 s6 RL2 nta
      -- highest
      have shT := shown_row (r := Tp) (fun i m => by have := NF.rt.bd Tp NF.rt.topm i m; exact ⟨by omega, by omega⟩) (by rw [NF.rt.len Tp NF.rt.topm]; exact n8)
      refine ⟨_, rfl, .ref y, rfl, .inr ⟨y, n, _, some Tp, rfl, G5.same s8, NF.kd, .inr ⟨Tp, rfl, fun To H9 s9 eTo => ?_⟩⟩⟩
      have s59 := s8.trans s9
      obtain ⟨L0, hL0⟩ := RL.last NF.rt
      obtain ⟨as0, la, has, _, ela⟩ := RowsH.split (H := H9) (rs := L0) (r := Tp) (by rw [← hL0]; exact hL.same s59)
      refine ⟨_, rfl, _, _, rfl, rdv (dp_row (SqT.of eTo)) (nd_row _), shT, ?_⟩
      refine ⟨_, rfl, 1, rfl, sa, _, -1, .ref la, rfl, rfl, SqL.of (s59 _ _ eS), by rw [has, List.map_append]; exact atI_last _ _, ?_⟩
      refine ⟨_, _, rfl, rdv (dp_row (SqT.of ela)) (nd_row _), shT, rfl, _, rfl, ?_⟩
      refine iteFb (by simp) ?_
      refine ⟨_, rfl, .ref y, rfl, .inr ⟨y, n, _, some Tp, rfl, G5.same s59, NF.kd, .inr ⟨Tp, S, rfl, NF.rt, NF.s120, fun L3 tb cs HA RL3 sA ntb eB hB => ?_⟩⟩⟩
      cases RL3.uniq RL
      have s5A := s59.trans sA
      refine ⟨_, rfl, _, _, dp_rows (SqL.of eB) hB, dp_rows (SqL.of (s5A _ _ eS)) (hL.same s5A), shp_rows _, shp_rows _, ?_⟩
      rw [eqv_rowsR]
      refine ⟨_, rfl, ?_⟩
      refine iteF ?_
      have eTA := sA _ _ eTo
      have eSA := s5A _ _ eS
      have hLA := hL.same s5A
      clear eB hB ntb RL3 s8 s9 sA eTo ela has s59
      -- none above the highest
      refine ⟨_, rfl, sa, _, rfl, .inl (SqL.of eSA), fun J hJ => ?_⟩
      refine for_seq hJ (fun j σ Hy => ∃ v8 : Option V, σ = [some (.ref a), some (.ref d), some (.int (0 + (i : Int))), some (.ref x), some (.ref y), some (.ref sa), some (.ref ta), some (.ref To), v8, none, none] ∧ Same HA Hy) ⟨_, rfl, Same.refl _⟩ (fun j σ Hy _ hh => by obtain ⟨_, _, s⟩ := hh; exact .of s) ?_ ?_
      · rintro j v σ Hy hj ⟨v8, rfl, sy⟩
        obtain ⟨ra, hra, rfl⟩ := map_inv hj
        obtain ⟨r, hr2, er⟩ := (hLA.same sy).at hra
        have mr := List.mem_of_getElem? hr2
        have okr := okL r mr
        have lT := NF.rt.len Tp NF.rt.topm
        refine ⟨_, rfl, _, rfl, ra, To, r.map V.int, Tp.map V.int, rfl, .inr (SqT.of er), .inr (SqT.of (sy _ _ eTA)), fun J2 hJ2 D nD => ?_⟩
        refine lc_z2 hJ2 (by rw [List.length_map, List.length_map, okr.len, lT]) (fun m Hd => Hd D = some (.lst []) ∧ Same Hy Hd) ⟨upd_same, same_upd nD⟩ (fun m Hd _ hh => ⟨.of hh.2, .of hh.2⟩) ?_ ?_
        · rintro m xv yv U Hd hx hy ⟨eD, sd⟩ nU
          obtain ⟨u, hu', rfl⟩ := map_inv hx
          obtain ⟨v, hv, rfl⟩ := map_inv hy
          have sU : Same Hd (upd Hd U (.tup [.int u, .int v])) := same_upd nU
          have hle : u ≤ v := by
            have hm : m < n := by rw [← okr.len]; exact (List.getElem?_eq_some_iff.mp hu').1
            have := NF.rt.tople r ((RL.mem r).mp mr) m hm
            rw [rowF_nat, rowF_nat, List.getD_eq_getElem?_getD, List.getD_eq_getElem?_getD, hu', hv] at this
            exact this
          refine ⟨U, [.int u, .int v], rfl, .inl (.inl upd_same), rfl, .int u, [.int v], rfl, .int v, [], rfl, rfl, rfl, ?_⟩
          refine ⟨_, rfl, _, rfl, _, _, rfl, rfl, _, rfl, ?_⟩
          refine iteFb (decide_eq_false (by omega)) ?_
          exact ⟨sU _ _ eD, sd.trans sU⟩
        rintro Hd ⟨eD, sd⟩
        refine ⟨Nat.zero_le _, fun e ne => ?_⟩
        have se := same_upd (o := .lst []) ne
        refine ⟨_, _, .lst (SqL.of (se _ _ eD)) .nil, .lst (SqL.of upd_same) .nil, rfl, rfl, _, rfl, ?_⟩
        refine iteFb (by rfl) ?_
        exact ⟨_, rfl, sy.trans (sd.trans se)⟩
      rintro σ HB ⟨v8, rfl, sB⟩
      have s5B := s5A.trans sB
      -- the end of it
      have fin : ∀ HC, Same H5 HC → tIfS (tOr (tNot (tB (tCall (spMR K CN) [] E0 (tCons (tVar 1) (tCons (tVar 3) (tCons (tVar 4) (tCons (tVar 5) tNil))))))) (tNot (tB (tCall (spRf K CN T) [] E0 (tCons (tVar 1) (tCons (tVar 4) tNil)))))) (tRet (tC (.bl false))) tNext
          { nx := fun σ Hx => ∃ v2 v3 v4 v5 v6 v7 v8 : Option L2.V, σ = [some (.ref a), some (.ref d), v2, v3, v4, v5, v6, v7, v8, none, none] ∧ DrawAt Hx d lg cl ∧ Tabs T Hx, rt := Q }
          [some (.ref a), some (.ref d), some (.int (0 + (i : Int))), some (.ref x), some (.ref y), some (.ref sa), some (.ref ta), some (.ref To), v8, none, none] HC := fun HC sC => by
        have DC := draw_same sC D5
        refine ⟨_, rfl, _, rfl, _, rfl, _, rfl, d, lg, cl, x, ps, y, sa, n, us, as, L, Tp, S, rfl, DC, N5.same sC, pl, hul, G5.same sC, NF.rt, NF.s120, sC _ _ eS, sal, hL.same sC, RL, fun HD DD kD => ?_⟩
        refine ⟨_, rfl, ?_⟩
        refine iteF ?_
        refine ⟨_, rfl, _, rfl, d, lg, cl, y, n, nums us, rfl, DD, Tabs.kept DC kD (t5.ext sC), (G5.same sC).kept DC kD.n, fun HE DE kE tE => ?_⟩
        refine ⟨_, rfl, ?_⟩
        refine iteF ?_
        exact ⟨_, _, _, _, _, _, _, rfl, DE, tE⟩
      -- rows that are tried
      refine ⟨_, rfl, x, _, rfl, DGet.k (k := Sum.inr "many") (N5.same s5B).e, _, _, rfl, rfl, _, rfl, ?_⟩
      by_cases c : n < 5
      · refine iteTb (decide_eq_true (by omega)) ?_
        refine ⟨_, rfl, x, ps, n, us, rfl, N5.same s5B, NF.inn, hul, by omega, fun l1 b1 HC sC nl1 el1 h1 => ?_⟩
        have okt : ∀ r ∈ ((triedL n).filter fun r => decide (frm (nums us) n (rowF r) = 1)), ROk n r := fun r m => by
          have h := (mem_tried n r).mp (List.mem_filter.mp m).1
          exact ⟨h.1, fun i mi => by have := h.2 i mi; omega⟩
        refine ⟨n, n0, ?_⟩
        refine sort_rd el1 h1 okt fun bs1 q1 P1 HD p1 sq1 nP1 sD eP1 hP1 => ?_
        have s5D := s5B.trans (sC.trans sD)
        refine ⟨_, rfl, n, n0, ?_⟩
        simp only [tNil]
        refine sort_rd (s5D _ _ eS) (hL.same s5D) okL fun bs2 q2 P2 HE p2 sq2 nP2 sE eP2 hP2 => ?_
        have eq12 := NF.rt.tried (by omega) RL p1 sq1 p2 sq2
        subst eq12
        refine ⟨_, _, dp_rows (SqL.of (sE _ _ eP1)) (hP1.same sE), dp_rows (SqL.of eP2) hP2, shp_rows _, shp_rows _, _, rfl, ?_⟩
        refine iteFb (by rw [eqv_rowsR]; rfl) ?_
        exact fin HE (s5D.trans sE)
      · refine iteFb (decide_eq_false (by omega)) ?_
        refine iteF ?_
        exact fin HB s5B
    · rintro σ Hx ⟨v2, v3, v4, v5, v6, v7, v8, rfl, Dx, tx⟩
      exact k Hx
end
end K03


set_option Elab.async false
set_option maxRecDepth 100000
set_option maxHeartbeats 4000000
set_option linter.all false
namespace K03
open PySem PySem.Spec PyProof.Rows L2 NetM GL LamX
/-! the end, where tables of code objects are written and repr is asked -/
/-- what is tracked when the law begins: the empty tables ts; the script at a, where the written part has nothing there -/
def Hb (K : PySem.W.Frag) (ts : List Addr) (a : Addr) (o : Obj) (xs : List L2.V) : Hp := fun b => if b ∈ ts then some (.tbl #[]) else if (b == a && (K.lookup a).isNone) = true then some (.frz o (.lst xs)) else none
section
variable {K : PySem.W.Frag} {ts : List Addr} {a b : Addr} {o : Obj} {xs : List L2.V}
theorem hb_tab (h : b ∈ ts) : Hb K ts a o xs b = some (.tbl #[]) := if_pos h
theorem hb_scr (h : a ∉ ts) (n : K.lookup a = none) : Hb K ts a o xs a = some (.frz o (.lst xs)) := (if_neg h).trans (if_pos (by rw [n, beq_self_eq_true]; rfl))
theorem hb_all (b : Addr) : (b ∈ ts ∧ Hb K ts a o xs b = some (.tbl #[])) ∨ (b = a ∧ K.lookup a = none ∧ Hb K ts a o xs b = some (.frz o (.lst xs))) ∨ Hb K ts a o xs b = none := by
  by_cases h : b ∈ ts
  · exact .inl ⟨h, if_pos h⟩
  · by_cases z : (b == a && (K.lookup a).isNone) = true
    · have z2 := z
      rw [Bool.and_eq_true, beq_iff_eq, Option.isNone_iff_eq_none] at z2
      exact .inr (.inl ⟨z2.1, z2.2, (if_neg h).trans (if_pos z)⟩)
    · exact .inr (.inr ((if_neg h).trans (if_neg z)))
end
/-- an object of neither kind that is tracked when the law begins -/
def Apart (o : Obj) : Prop := (∀ vs n, o.data ≠ .seq vs n) ∧ o ≠ { cls := .none, data := .fields #[] }
theorem apart_cls {o : Obj} {c : Value} (e : o.cls = c) (hc : c ≠ .none) (h : ∀ vs n, o.data ≠ .seq vs n) : Apart o := ⟨h, by intro z; subst z; exact hc e.symm⟩
theorem apart_dict {o : Obj} {es : Array DictEntry} {ep : Nat} (e : o.data = .dict es ep) : Apart o := ⟨(by intro vs n z; rw [e] at z; cases z), (by intro z; subst z; cases e)⟩
theorem law_callGT {P : Program} {w : World} {K : PySem.W.Frag} {mg mb : Str → Option Value} {k : Nat} {fa a : Addr} {cs : List (Addr × Addr)} {fd : FuncData} {x : Str} {sp : Sp} {s₁ : Shared} {vs : List Value} {ns : List Int}
    (KX : K.In s₁.heap) (hns : s₁.heap.Ns mainGlobals mg) (hb : s₁.heap.Ns builtinsNs mb) (hbb : ∀ x : Str, x ≠ "__name__" → mb x = bootBuiltins x) (hlim : s₁.heap.NoLimit) (hg : s₁.gens = #[])
    (hT : ∀ p ∈ cs, PySem.W.CodeHd s₁.heap p.1 p.2 ∧ s₁.heap.get? p.2 = some { cls := .none, data := .fields #[] }) (nT : ∀ p ∈ cs, K.lookup p.2 = none)
    (hbm : ∃ (bm : Addr) (ob : Obj), mg "__builtins__" = some (.ref bm) ∧ bm ≠ builtinsNs ∧ s₁.heap.get? bm = some ob ∧ ob.cls = .type "module" ∧ ob.dict = some builtinsNs ∧ ob.data = .plain)
    (ha : s₁.heap.get? a = some { cls := .type "list", data := .seq vs.toArray }) (hi : IntsAre vs ns) (hl : ns.length ≤ sizeLine) (hr : Room k callerA)
    (F : ∀ base : Heap, K.In base → base.Ns mainGlobals mg → (∀ p ∈ cs, TabB base mg p.1 p.2) → FnG P w K mg base CX0 k fa fd [x] sp) (hbind : ∀ (s : Shared) (u : Value), BindsTo s fd ⟨[u], []⟩ [(x, u)])
    (hsp : ∀ H : Hp, (∀ p ∈ cs, H p.2 = some (.tbl #[])) → SqL K H a (ns.map V.int) → sp [.ref a] H (fun v _ => v = .bl true) fun _ _ _ => False) :
    codeAny (model P w) callerA (.call (.ref fa) ⟨[.ref a], []⟩) (fun r s' => r = .ok (.ret (.bool true)) ∧ OldK s₁.heap s'.heap ∧ s'.os = s₁.os ∧ AllBare s'.gens) s₁ := by
  obtain ⟨oa, hoa⟩ : ∃ oa : Obj, oa = { cls := .type "list", data := .seq vs.toArray } := ⟨_, rfl⟩
  rw [← hoa] at ha
  have hod : oa.data = .seq vs.toArray := by rw [hoa]
  have rv := vals_ints hi
  have inT : ∀ b : Addr, b ∈ cs.map (·.2) → ∃ p ∈ cs, p.2 = b := fun b h => by
    obtain ⟨p, m, e⟩ := List.mem_map.mp h
    exact ⟨p, m, e⟩
  have tabAt : ∀ b : Addr, b ∈ cs.map (·.2) → s₁.heap.get? b = some { cls := .none, data := .fields #[] } ∧ K.lookup b = none := fun b h => by
    obtain ⟨p, m, rfl⟩ := inT b h
    exact ⟨(hT p m).2, nT p m⟩
  have aT : a ∉ cs.map (·.2) := fun z => by
    have e := (tabAt a z).1
    rw [ha] at e
    have := congrArg Obj.data (Option.some.inj e)
    rw [hod] at this
    cases this
  obtain ⟨H, hH⟩ : ∃ H : Hp, H = Hb K (cs.map (·.2)) a oa (ns.map V.int) := ⟨_, rfl⟩
  have all : ∀ b, (b ∈ cs.map (·.2) ∧ H b = some (.tbl #[])) ∨ (b = a ∧ K.lookup a = none ∧ H b = some (.frz oa (.lst (ns.map V.int)))) ∨ H b = none := fun b => by rw [hH]; exact hb_all b
  have tabH : ∀ p ∈ cs, H p.2 = some (.tbl #[]) := fun p m => by rw [hH]; exact hb_tab (List.mem_map.mpr ⟨p, m, rfl⟩)
  -- what stays to be seen below
  have see : ∀ {b : Addr} {o : Obj}, s₁.heap.get? b = some o → Apart o → (hidT s₁.heap H).get? b = some o := fun {b o} e ap => by
    refine hidT_get e ?_
    rcases all b with ⟨m, _⟩ | ⟨rfl, _, _⟩ | n
    · exact absurd (Option.some.inj (e.symm.trans (tabAt b m).1)) ap.2
    · have := Option.some.inj (e.symm.trans ha)
      rw [this] at ap
      exact absurd hod (ap.1 _ _)
    · exact n
  have seeNs : ∀ {b : Addr} {m : Str → Option Value}, s₁.heap.Ns b m → (hidT s₁.heap H).Ns b m := fun {b m} ⟨o, es, ep, e, d, r⟩ => ⟨o, es, ep, see e (apart_dict d), d, r⟩
  have seeK : K.In (hidT s₁.heap H) := fun b o e => by
    refine hidT_get (KX b o e) ?_
    rcases all b with ⟨m, _⟩ | ⟨rfl, n, _⟩ | n
    · exact absurd ((tabAt b m).2) (by rw [show K.lookup b = some o from e]; intro y; cases y)
    · rw [show K.lookup b = some o from e] at n; cases n
    · exact n
  have md : L2.Mod K mg (hidT s₁.heap H) := ⟨seeK, seeNs hns, ⟨mb, seeNs hb, hbb⟩, let ⟨mc, h1, h2⟩ := hlim; ⟨mc, seeNs h1, h2⟩⟩
  have tb : ∀ p ∈ cs, TabB (hidT s₁.heap H) mg p.1 p.2 := fun p m => by
    obtain ⟨C, tp⟩ := hT p m
    refine ⟨?_, ?_, fun z => ?_⟩
    · obtain ⟨o, us, file, tf, flags, tg, inF, text, tt, e, r1, r2, r⟩ := C
      exact ⟨o, us, file, tf, flags, tg, inF, text, tt, see e (apart_cls r1 (by intro y; cases y) fun _ _ y => by rw [r2] at y; cases y), r1, r2, r⟩
    · obtain ⟨bm, ob, b1, b2, b3, b4, b5, b6⟩ := hbm
      refine ⟨bm, ob, b1, b2, fun q => ?_, fun q => ?_, see b3 (apart_cls b4 (by intro y; cases y) fun _ _ y => by rw [b6] at y; cases y), b4, b5, b6⟩
      · obtain ⟨o, es, ep, e, d, _⟩ := hns
        rw [q, e] at b3
        rw [Option.some.inj b3, b6] at d
        cases d
      · rw [q, tp] at b3
        rw [← Option.some.inj b3] at b4
        cases b4
    · obtain ⟨o, es, ep, e, d, _⟩ := hns
      rw [z, tp] at e
      rw [← Option.some.inj e] at d
      cases d
  have hok : HOk P w H s₁.heap := fun b u z => by
    rcases all b with ⟨m, e⟩ | ⟨rfl, _, e⟩ | e
    · cases z.symm.trans e
      exact (tabAt b m).1
    · cases z.symm.trans e
      subst hoa
      exact ⟨ha, by rw [List.length_map]; exact hl, vs, _, rv, ha⟩
    · cases z.symm.trans e
  have scr : SqL K H a (ns.map V.int) := by
    cases hk : K.lookup a with
    | none => exact .inl (.inr ⟨oa, by rw [hH]; exact hb_scr aT hk⟩)
    | some o =>
      have e := KX a o hk
      rw [ha] at e
      cases e
      exact .inr ⟨oa, vs.toArray, _, hk, by rw [hoa], by rw [hoa], hod, by rw [List.size_toArray, hi.length]; exact hl, by simpa using rv⟩
  have e0 : Env0 P w K mg (hidT s₁.heap H) callerA [] s₁ H := ⟨rfl, md, fun b o e => of_hidT e, Nat.le_of_eq (hidT_size _ _), trivial, fun b z => absurd (show b ∈ ([] : List Addr) from z) (by simp), hok, .of_eq hg⟩
  refine codeAny_mono ((F _ seeK (seeNs hns) tb).run callerA [] s₁ H ⟨[.ref a], []⟩ [.ref a] [.ref a] _ _ rfl hr e0 (hbind s₁ (.ref a)) (.cons rfl .nil) (hsp H tabH scr)) fun r s' h => ?_
  cases r with
  | error e => exact False.elim h
  | ok fl =>
  cases fl with
  | next => exact False.elim h
  | brk => exact False.elim h
  | cont => exact False.elim h
  | ret u =>
  obtain ⟨v, H', os, bare, un, hok', r', q⟩ := h
  obtain rfl : v = .bl true := q
  obtain rfl : u = Value.bool true := r'
  have old : ∀ b o, s₁.heap.get? b = some o → s'.heap.get? b = some o ∨ (isCodeTable s₁.heap b ∧ o = { cls := .none, data := .fields #[] } ∧ ∃ more : Array Value, s'.heap.get? b = some { cls := .none, data := .fields more }) := fun b o e => by
    rcases all b with ⟨m, z⟩ | ⟨rfl, _, z⟩ | z
    · obtain ⟨p, pm, rfl⟩ := inT b m
      obtain ⟨more, z2⟩ := un.tbls p.2 #[] (tabH p pm)
      exact .inr ⟨((hT p pm).1.tab (hT p pm).2).isCodeTable, Option.some.inj (e.symm.trans (hT p pm).2), _, hok' p.2 _ z2⟩
    · have z2 := un.frzs b oa _ z
      obtain ⟨e2, _⟩ := hok' b _ z2
      exact .inl (by rw [e2, ← ha, e])
    · exact .inl (un.keep b o e z (by intro y; exact absurd (show b ∈ ([] : List Addr) from y) (by simp)) (by simp))
  refine ⟨rfl, ⟨fun b o e => ?_, fun b o e => ?_⟩, os, bare⟩
  · rcases old b o e with z | ⟨ct, rfl, more, z⟩
    · exact .inl z
    · exact .inr (.inl ⟨ct, rfl, #[], more, rfl, by rw [Array.empty_append]; exact z⟩)
  · rcases old b o e with z | ⟨_, _, more, z⟩
    · exact ⟨o, z⟩
    · exact ⟨_, z⟩
/-- a law's end with the tables of its defs: xs, their names; the code object and the table of each stand in the written part -/
theorem walk_ofGT {l : PySem.W.OpenLaw} {n k : Nat} {q : Program} {loose : List Str} {XP : (Str → Option Value) → Heap → Prop} {YP : World → Heap → Prop} {d : DefRec} {K : Params → PySem.W.Frag} {sp : World → Sp} {x : Str} {ts : World → List (Str × Addr × Addr)}
    (hn : l.most = some n) (hn2 : n ≤ sizeLine) (hdf : d.params.defaults = []) (hr : Room k callerA) (hY : ∀ (w : World) (h : Heap), YP w h → (K w.params).In h)
    (ht : ∀ w, ∀ p ∈ ts w, PySem.W.codeHdIn (K w.params) p.2.1 p.2.2 = true ∧ (K w.params).lookup p.2.2 = none) (hTY : ∀ (w : World) (h : Heap), YP w h → ∀ p ∈ ts w, h.get? p.2.2 = some { cls := .none, data := .fields #[] })
    (F : ∀ (w : World) (mg : Str → Option Value) (fa : Addr) (h : Heap), (K w.params).In h → h.Ns mainGlobals mg → mg d.name = some (.ref fa) →
      ∃ fd : FuncData, (∀ (s : Shared) (u : Value), BindsTo s fd ⟨[u], []⟩ [(x, u)]) ∧ ∀ base : Heap, (K w.params).In base → base.Ns mainGlobals mg → (∀ p ∈ ts w, TabB base mg p.2.1 p.2.2) → FnG l.prog w (K w.params) mg base CX0 k fa fd [x] (sp w))
    (hsp : ∀ (w : World) (H : Hp) (a : Addr) (ns : List Int), ns.length ≤ n → (∀ z ∈ ns, Builtin.Int.intBits z ≤ 1048576) → (∀ p ∈ ts w, H p.2.2 = some (.tbl #[])) → SqL (K w.params) H a (ns.map V.int) → sp w [.ref a] H (fun v _ => v = .bl true) fun _ _ _ => False) :
    PySem.W.WalkO q loose XP YP l.row.toRowW d [] (fun f vs => PySem.call f vs) := by
  refine Att.attach_callB hn hdf fun w s₀ s₁ mg mb fa o pm cd doc a vs ns G Y ho hd hcd hmg hobj hints hlen hbits hg => ?_
  have KX := hY w _ Y
  obtain ⟨fd, hb, hF⟩ := F w mg fa _ KX G.T.g hmg
  have tab : ∀ p ∈ (ts w).map (·.2), ∃ r ∈ ts w, r.2 = p := fun p m => by
    obtain ⟨r, m, e⟩ := List.mem_map.mp m
    exact ⟨r, m, e⟩
  refine law_callGT (cs := (ts w).map (·.2)) KX G.T.g G.T.b G.T.builtins G.T.nolimit hg (fun p m => ?_) (fun p m => ?_) G.T.bmain hobj hints (Nat.le_trans hlen hn2) hr (fun base b1 b2 b3 => hF base b1 b2 fun p m => b3 _ (List.mem_map.mpr ⟨p, m, rfl⟩)) hb fun H hH hS => hsp w H a ns hlen hbits (fun p m => hH _ (List.mem_map.mpr ⟨p, m, rfl⟩)) hS
  · obtain ⟨r, m2, rfl⟩ := tab p m
    exact ⟨PySem.W.codeHd_of_K KX (ht w r m2).1, hTY w _ Y r m2⟩
  · obtain ⟨r, m2, rfl⟩ := tab p m
    exact (ht w r m2).2
end K03


set_option Elab.async false
set_option maxRecDepth 100000
set_option maxHeartbeats 8000000
set_option linter.all false
namespace K03
open PySem PySem.Spec PyProof.Rows L2 NetM GL LamX
/-! ### all that the top has written, put together -/
def ga (K : PySem.W.Frag) (x : Str) : Addr := match PySem.W.nsIn K mainGlobals x with | some (some (.ref a)) => a | _ => 0
def gB (K : PySem.W.Frag) (x : Str) : Bool := PySem.W.nsIn K mainGlobals x == some (some (.ref (ga K x)))
theorem ga_of {K : PySem.W.Frag} {x : Str} {C : Addr} (h : PySem.W.nsIn K mainGlobals x = some (some (.ref C))) : ga K x = C := by
  unfold ga
  rw [h]
def excB (K : PySem.W.Frag) (D : Addr) : Bool :=
  PySem.W.findIn K (.ref D) "__getattribute__" == some (some (.builtin "BaseException.__getattribute__")) && PySem.W.findIn K (.ref D) "__getattr__" == some none && PySem.W.subIn K (.ref D) (.type "BaseException") == some true && PySem.W.hasDictIn K D &&
  PySem.W.findIn K (.ref D) "__class__" == some (some (.builtin "object.__class__")) && PySem.W.specialIn K (.builtin "object.__class__") "__get__" == some (some (.builtin "getset_descriptor.__get__")) && PySem.W.takesIn K (.builtin "object.__class__") == some true && PySem.W.mroIn K D (.type "object") == some true
theorem excC_of {K : PySem.W.Frag} {D : Addr} (h : excB K D = true) : ExcC K D := by
  unfold excB at h
  simp only [Bool.and_eq_true, beq_iff_eq] at h
  exact ⟨h.1.1.1.1.1.1.1, h.1.1.1.1.1.1.2, h.1.1.1.1.1.2, h.1.1.1.1.2, h.1.1.1.2, h.1.1.2, h.1.2, h.2⟩
theorem mk_x {P : Program} {w : World} {K : PySem.W.Frag} {mg : Str → Option Value} {base : Heap} {C f c cc : Addr} {fld x : Str}
    (hC : PySem.W.nsIn K mainGlobals x = some (some (.ref C))) (C0' : ExcC K (ga K x)) (mgS : mg "super" = none)
    {nm q : Str} {N : Addr} {bs bm : List Value} {sn : List Str} {sub : List Value} {ab : Bool} {col : Option Bool} {dd : Option Addr} {m0 m1 m2 m3 m5 : Option Value}
    (xL : K.lookup C = some (excClassObj nm q C N bs bm true sn sub ab col dd m0 m1 m2 m3 m5 "ValueError.__new__")) (rb : PySem.HandSPX.refsVE bm = true)
    (sa : PySem.W.findIn K (.ref C) "__setattr__" = some (some (.builtin "object.__setattr__"))) (tC : PySem.W.typeIn K (.ref C) = some (.type "type")) (kC : PySem.W.keepIn K (.ref C) = true)
    (no : PySem.W.findIn K (.ref C) fld = some none) (ini : PySem.W.findIn K (.ref C) "__init__" = some (some (.ref f))) (tI : PySem.W.typeIn K (.ref f) = some (.type "function"))
    {qual : Str} {params : Arguments} {scope : Scope} {doc pm ct oc : Value} {an od : Option Addr} {osl : Array (Option Value)} {msg : Str} {kk : Nat} {p0 p1 p2 p3 p4 p5 p6 p7 p8 p9 : Pos}
    (lk : K.lookup f = some ⟨oc, od, .func (PySem.W.ksFn "__init__" qual params
      [.Expr (.Call (.Attribute (.Call (.Name "super" p0) [] [] p1) "__init__" p2) [.Constant (.str msg) kk p5] [] p3) p4, .Assign [.Attribute (.Name "self" p6) fld p7] (.Name fld p8) p9] scope .none .none doc pm an (.ref c) ct cc), osl⟩)
    (hcd : PySem.W.codeIn K (.ref c) qual = true)
    (lc : ∃ ccl cdd vs ccs file tf, K.lookup c = some ⟨ccl, cdd, .fields vs, ccs⟩ ∧ vs[2]? = some (.str file tf) ∧ ((P.main.file : Str) == file) = true)
    (lcell : ∃ cl cld csl, K.lookup cc = some ⟨cl, cld, .cell (some (.ref C)), csl⟩)
    (third : PySem.W.nsIn K cStatics "thirdparty.any" = some none) (mro : PySem.W.mroIn K C (.ref C) = some true) (sup : PySem.W.ks_superIn K C C "__init__" = some (some (.builtin "ValueError.__init__"))) (ve : PySem.W.subIn K (.ref C) (.type "ValueError") = some true)
    (top : (P.main.scope.names.lookup ("super" : Str)).isSome = false) (hs : ∃ ar, (params.posonlyargs ++ params.args).head? = some ar ∧ ar.arg = "self")
    (hS : NdefX.nscB ["self", fld, "__class__"] ["self", fld] ["__class__"] scope = true) (h1 : scope.names.lookup ("super" : Str) = some .globalImplicit) (hdb : (fld == ("__debug__" : Str)) = false) (hdc : (fld == ("__classdict__" : Str)) = false) {pl : Sem Bool}
    (hev : ∀ L : Addr, eval (.Call (.Attribute (.Call (.Name "super" p0) [] [] p1) "__init__" p2) [.Constant (.str msg) kk p5] [] p3) (PySem.W.envX qual scope L f (.ref c) [("__class__", cc)]) = (do
      let ov ← attributeBase (.Call (.Name "super" p0) [] [] p1) "__init__" (PySem.W.envX qual scope L f (.ref c) [("__class__", cc)]) (eval (.Call (.Name "super" p0) [] [] p1) (PySem.W.envX qual scope L f (.ref c) [("__class__", cc)]))
      standAt p2.atName
      let (fn, first) ← holding [ov] (getMethod ov "__init__" pl)
      callWith p3 fn first (backTo p3 (starEach [.Constant (.str msg) kk p5] (PySem.W.envX qual scope L f (.ref c) [("__class__", cc)]))) []))
    (hin : ∀ L : Addr, interactive (PySem.W.envX qual scope L f (.ref c) [("__class__", cc)]) = false)
    (hsn : ∀ L : Addr, swapsWith (.Call (.Attribute (.Call (.Name "super" p0) [] [] p1) "__init__" p2) [.Constant (.str msg) kk p5] [] p3) none p4.line (PySem.W.envX qual scope L f (.ref c) [("__class__", cc)]) = pure false)
    (hsw : ∀ L : Addr, swapsWith (.Name fld p8) (some (.Attribute (.Name "self" p6) fld p7)) p9.line (PySem.W.envX qual scope L f (.ref c) [("__class__", cc)]) = pure false)
    (bind : ∀ (s : Shared) (u v : Value), BindsTo s (PySem.W.ksFn "__init__" qual params
      [.Expr (.Call (.Attribute (.Call (.Name "super" p0) [] [] p1) "__init__" p2) [.Constant (.str msg) kk p5] [] p3) p4, .Assign [.Attribute (.Name "self" p6) fld p7] (.Name fld p8) p9] scope .none .none doc pm an (.ref c) ct cc) ⟨[u, v], []⟩ [("self", u), (fld, v)])
    (bindK : ∀ (s : Shared) (u v : Value), BindsTo s (PySem.W.ksFn "__init__" qual params
      [.Expr (.Call (.Attribute (.Call (.Name "super" p0) [] [] p1) "__init__" p2) [.Constant (.str msg) kk p5] [] p3) p4, .Assign [.Attribute (.Name "self" p6) fld p7] (.Name fld p8) p9] scope .none .none doc pm an (.ref c) ct cc) ⟨[u], [(fld, v)]⟩ [("self", u), (fld, v)]) :
    (∃ fI fd, XCls P w K mg base (ga K x) fI fd fld) ∧ XGet K (ga K x) fld := by
  have C0 : ExcC K C := by rw [← ga_of hC]; exact C0'
  rw [ga_of hC]
  have T : OexC K C := ⟨⟨_, _, _, _, _, _, _, _, _, _, _, _, _, _, _, xL, rb⟩, sa, C0.hs, tC, kC⟩
  obtain ⟨cd, hcls, _⟩ := PySem.W.any_some C0.hd
  obtain ⟨ar, ha1, ha2⟩ := hs
  have S : SupDef P K mg C f c cc := ⟨⟨_, _, _, _, ar, lk, ha1, ha2⟩, lc, lcell, ⟨cd, hcls⟩, top, third, mro, sup, ve, mgS⟩
  exact ⟨⟨f, _, ⟨T, ini, tI, ok_initx ⟨T, no⟩ S lk hcd hS h1 hdb hdc hev hin hsn hsw, bind, bindK⟩⟩, ⟨C0, no⟩⟩

/-- the written part has the def that the top names x, as the row's text has it -/
def Has (K : PySem.W.Frag) (x : Str) (st : Stmt) : Prop := ∃ (f : Addr) (fd : FuncData), PySem.W.nsIn K mainGlobals x = some (some (.ref f)) ∧ Fun K x x st f fd
theorem has_mk {K : PySem.W.Frag} {x : Str} {st : Stmt} {f : Addr} {oc : Value} {od an : Option Addr} {osl : Array (Option Value)} {kV doc pm cdv ct : Value} (a : PySem.W.nsIn K mainGlobals x = some (some (.ref f)))
    (l : K.lookup f = some ⟨oc, od, .func (PySem.W.fnOf x x (defArgs st) (defBody st) (defScope st) .none kV doc pm an cdv ct), osl⟩) (c : PySem.W.codeIn K cdv x = true) (k : PySem.W.keepIn K (.ref f) = true) : Has K x st := ⟨f, _, a, fun_mk l c k⟩
/-- the table of the def that the top names x, and its code object -/
def tb (K : PySem.W.Frag) (x : Str) : Addr × Addr := (PySem.W.tabIn K x).getD (0, 0)
def tbB (K : PySem.W.Frag) (x : Str) : Bool := PySem.W.tabIn K x == some (tb K x) && (K.lookup (tb K x).2).isNone && PySem.W.codeHdIn K (tb K x).1 (tb K x).2
theorem tb_of {K : PySem.W.Frag} {x : Str} (h : tbB K x = true) : PySem.W.tabIn K x = some (tb K x) ∧ K.lookup (tb K x).2 = none ∧ PySem.W.codeHdIn K (tb K x).1 (tb K x).2 = true := by
  unfold tbB at h
  rw [Bool.and_eq_true, Bool.and_eq_true, beq_iff_eq, Option.isNone_iff_eq_none, and_assoc] at h
  exact h
/-- .. and its code object is known -/
theorem Has.code {K : PySem.W.Frag} {x : Str} {st : Stmt} (h : Has K x st) (t : tbB K x = true) : ∃ (f : Addr) (fd : FuncData), PySem.W.nsIn K mainGlobals x = some (some (.ref f)) ∧ FunC K x x st f fd (tb K x).1 := by
  obtain ⟨f, fd, a, ⟨⟨oc, od, kV, doc, pm, an, cdv, ct, osl, rfl, lk, hcd⟩, kp⟩⟩ := h
  have t1 := (tb_of t).1
  unfold PySem.W.tabIn at t1
  rw [a] at t1
  dsimp only at t1
  rw [lk] at t1
  dsimp only [PySem.W.fnOf] at t1
  cases cdv with
  | ref c =>
    dsimp only at t1
    have e : (tb K x).1 = c := by
      split at t1
      · split at t1
        · exact (congrArg Prod.fst (Option.some.inj t1)).symm
        · cases t1
      · cases t1
    rw [e]
    exact ⟨f, _, a, ⟨⟨oc, od, kV, doc, pm, an, ct, osl, rfl, lk, hcd⟩, kp⟩⟩
  | _ => cases t1
/-- a method that the class named x has -/
def HasM (K : PySem.W.Frag) (C : Addr) (m qual : Str) (st : Stmt) : Prop := ∃ (f : Addr) (fd : FuncData), PySem.W.findIn K (.ref C) m = some (some (.ref f)) ∧ PySem.W.isFn K (.ref f) = true ∧ Fun K m qual st f fd
theorem hasm_mk {K : PySem.W.Frag} {C : Addr} {x m qual : Str} {st : Stmt} {f : Addr} {oc : Value} {od an : Option Addr} {osl : Array (Option Value)} {kV doc pm cdv ct : Value} (n : PySem.W.nsIn K mainGlobals x = some (some (.ref C))) (a : PySem.W.findIn K (.ref C) m = some (some (.ref f))) (i : PySem.W.isFn K (.ref f) = true)
    (l : K.lookup f = some ⟨oc, od, .func (PySem.W.fnOf m qual (defArgs st) (defBody st) (defScope st) .none kV doc pm an cdv ct), osl⟩) (c : PySem.W.codeIn K cdv qual = true) (k : PySem.W.keepIn K (.ref f) = true) : HasM K (ga K x) m qual st := by rw [ga_of n]; exact ⟨f, _, a, i, fun_mk l c k⟩

def frees : List Str := ["abs", "int", "len", "isinstance", "range", "repr", "tuple", "list", "min", "max", "all", "bool", "super", "sum", "zip", "enumerate", "sorted"]
theorem free_at {K : PySem.W.Frag} {h : Heap} {mg : Str → Option Value} (X : K.In h) (G : h.Ns mainGlobals mg) (z : (frees.all fun x => PySem.W.nsIn K mainGlobals x == some none) = true) (x : Str) (m : x ∈ frees) : mg x = none :=
  PySem.W.mg_none_of X G (beq_iff_eq.mp (List.all_eq_true.mp z x m))
/-- what is told of an error that is caught -/
def badX (K : PySem.W.Frag) (x : Str) : Bool := gB K x && PySem.W.exmOne K (.ref (ga K x)) (.ref (ga K "WebError")) == some true && PySem.W.kitOne K (.ref (ga K x)) (.ref (ga K x)) == some true && PySem.W.kitOne K (.type "NoneType") (.ref (ga K x)) == some false
def plxB (K : PySem.W.Frag) (x : Str) : Bool := PySem.W.excIn K (ga K x) [.type "ValueError", .type "Exception", .type "BaseException", .type "object"] "ValueError.__new__" && PySem.W.keepIn K (.ref (ga K x)) && PySem.W.subIn K (.ref (ga K x)) (.type "BaseException") == some true && PySem.W.typeIn K (.ref (ga K x)) == some (.type "type")
theorem plx_of {K : PySem.W.Frag} {mg : Str → Option Value} {x : Str} (g : mg x = some (.ref (ga K x))) (h : plxB K x = true) : PlX K mg x (ga K x) := by
  unfold plxB at h
  simp only [Bool.and_eq_true, beq_iff_eq] at h
  exact ⟨h.1.1.1, g, h.1.1.2, h.1.2, h.2⟩
/-- what is told of Net -/
def netB (K : PySem.W.Frag) (CN : Addr) : Bool := gB K "Net" && PySem.W.plainGet K CN Str.empty && PySem.W.hasDictIn K CN && PySem.W.plainOver K CN && PySem.W.findIn K (.ref CN) "__setattr__" == some (some (.builtin "object.__setattr__")) &&
  PySem.W.findIn K (.ref CN) "places" == some none && PySem.W.findIn K (.ref CN) "arrows" == some none && PySem.W.findIn K (.ref CN) "__ne__" == some (some (.builtin "object.__ne__")) && PySem.W.subIn K (.ref CN) (.type "object") == some true &&
  PySem.W.findIn K (.ref CN) "__class__" == some (some (.builtin "object.__class__")) && PySem.W.specialIn K (.builtin "object.__class__") "__get__" == some (some (.builtin "getset_descriptor.__get__")) && PySem.W.takesIn K (.builtin "object.__class__") == some true &&
  PySem.W.mroIn K CN (.type "object") == some true && PySem.W.kitOne K (.ref CN) (.ref CN) == some true && PySem.W.kitOne K (.type "tuple") (.ref CN) == some false && PySem.W.notFirst K CN (.type "tuple") &&
  PySem.W.makesIn K CN && PySem.W.keepIn K (.ref CN) && PySem.W.kitOne K (.type "NoneType") (.ref CN) == some false && PySem.W.kitOne K (.type "int") (.ref CN) == some false && PySem.W.kitOne K (.type "dict") (.ref CN) == some false
def nmOf (x : Str) : Str := x ++ ".<locals>." ++ "<lambda>"
def nm5 : List Str := ["_law_refused"]
def tabsOf (K : PySem.W.Frag) : List (Str × Addr × Addr) := nm5.map fun x => (x, tb K x)
def TT (K : PySem.W.Frag) : List (Addr × Str) := nm5.map fun x => ((tb K x).2, nmOf x)
def apB (K : PySem.W.Frag) : Bool := nm5.all fun x => nm5.all fun y => x == y || (tb K x).2 != (tb K y).2
theorem tt_of {K : PySem.W.Frag} {H : Hp} (h : ∀ p ∈ tabsOf K, H p.2.2 = some (.tbl #[])) : Tabs (TT K) H := fun p m => by
  obtain ⟨x, mx, rfl⟩ := List.mem_map.mp m
  exact TabS.nil (h (x, tb K x) (List.mem_map.mpr ⟨x, mx, rfl⟩))
theorem tc_of {K : PySem.W.Frag} {base : Heap} {mg : Str → Option Value} (ap : apB K = true) (TB : ∀ p ∈ tabsOf K, TabB base mg p.2.1 p.2.2) {x : Str} (mx : x ∈ nm5) : Tc base mg (TT K) x (tb K x).1 (tb K x).2 where
  TB := TB (x, tb K x) (List.mem_map.mpr ⟨x, mx, rfl⟩)
  mem := List.mem_map.mpr ⟨x, mx, rfl⟩
  uq := fun p m e => by
    obtain ⟨y, my, rfl⟩ := List.mem_map.mp m
    have z := List.all_eq_true.mp (List.all_eq_true.mp ap x mx) y my
    rw [Bool.or_eq_true, beq_iff_eq, bne_iff_ne] at z
    rcases z with z | z
    · rw [z]
      rfl
    · exact absurd e.symm z
theorem mx5 (x : Str) (h : nm5.contains x = true) : x ∈ nm5 := List.contains_iff_mem.mp h

theorem all_mk {l : PySem.W.OpenLaw} {w : World} {K : PySem.W.Frag} {h : Heap} {mg : Str → Option Value} {fa : Addr} (X : K.In h) (G : h.Ns mainGlobals mg) (hfa : mg "law" = some (.ref fa))
    (z : (frees.all fun x => PySem.W.nsIn K mainGlobals x == some none) = true) (gw : gB K "WebError" = true) (hB : badX K "BadNet" = true) (hP : badX K "BadPlace" = true) (hR : badX K "BadRow" = true) (hG : badX K "NotGood" = true)
    (eP : excB K (ga K "BadPlace") = true) (eR : excB K (ga K "BadRow") = true) (eG : excB K (ga K "NotGood") = true) (xP : plxB K "BadPlace" = true) (xR : plxB K "BadRow" = true) (xG : plxB K "NotGood" = true)
    (hN : netB K (ga K "Net") = true) (tbs : (nm5.all fun x => tbB K x) = true) (ap : apB K = true) (nT : PySem.W.kitOne K (.type "tuple") (.ref (ga K "Net")) = some false)
    {tk1 tk2 tk3 : Nat} (mp : PySem.W.nsIn K mainGlobals "MOST_PLACES" = some (some (.int 8 tk1))) (ma : PySem.W.nsIn K mainGlobals "MOST_ARROWS" = some (some (.int 12 tk2))) (mS : PySem.W.nsIn K mainGlobals "GREATEST_SETTLED" = some (some (.int 6 tk3)))
    (mG : ∃ (aG : Addr) (o : Obj) (its : Array Value) (n : Nat), PySem.W.nsIn K mainGlobals "GOOD_SHAPES" = some (some (.ref aG)) ∧ K.lookup aG = some o ∧ o.cls = .type "tuple" ∧ o.data = .seq its n ∧ its.size ≤ sizeLine ∧ Vals [V.str "line", V.str "fork", V.str "arms"] its.toList)
    (hx : ∀ (base : Heap), mg "super" = none → (∃ fI fd, XCls l.prog w K mg base (ga K "BadNet") fI fd "part") ∧ XGet K (ga K "BadNet") "part")
    (hI : HasM K (ga K "Net") "__init__" "Net.__init__" sNetInit) (hE : HasM K (ga K "Net") "__eq__" "Net.__eq__" sNetEq)
    (h1 : Has K "is_number" sIsNum) (h2 : Has K "is_number_to" sIsNumTo) (h3 : Has K "is_list" sIsList) (h13 : Has K "_are_arrows" sAre) (h14 : Has K "_hangs_together" sHangs) (h15 : Has K "places_behind" sBehind) (h17 : Has K "check_net" sCheck) (h18 : Has K "check_place" sChkPl) (h19 : Has K "is_row" sIsRow) (h20 : Has K "check_row" sChkRow) (h21 : Has K "unit_row" sUnitR) (h25 : Has K "pair_value" sPairV) (h26 : Has K "form" sForm) (h27 : Has K "around" sAround) (h28 : Has K "other_ends" sOther) (h29 : Has K "settled_row" sSettled) (h30 : Has K "_wild_row" sWild) (h31 : Has K "shape" sShape) (h32 : Has K "is_good" sIsGood) (h33 : Has K "check_good" sChkGood) (h34 : Has K "roots" sRoots) (h35 : Has K "mirrored_row" sMirr) (h36 : Has K "highest" sHigh) (h38 : Has K "_law_begun" sBegun) (h39 : Has K "_law_mixed" sMixed) (h40 : Has K "_law_take" sTake) (h41 : Has K "_law_pick" sPick) (h42 : Has K "_law_shuffled" sShuf) (h43 : Has K "_law_shape_pairs" sShPairs) (h44 : Has K "_law_net" sLNet) (h45 : Has K "_law_pair" sLPair) (h46 : Has K "_law_lean" sLean) (h47 : Has K "_law_roots" sLRoots) (h48 : Has K "_law_made_net" sMade) (h49 : Has K "_law_caught" sCaught) (h50 : Has K "_law_many_due" sDue) (h51 : Has K "_law_tried" sTried) (h52 : Has K "_law_mirror" sLMir) (h53 : Has K "_law_mirrors_right" sMR) (h54 : Has K "_law_bad_net" sBadNet) (h56 : Has K "law" sLaw) (h55 : Has K "_law_refused" sRf) :
    ∃ fd : FuncData, (∀ (s : Shared) (v : Value), BindsTo s fd ⟨[v], []⟩ [("script", v)]) ∧ ∀ base : Heap, K.In base → base.Ns mainGlobals mg → (∀ p ∈ tabsOf K, TabB base mg p.2.1 p.2.2) → FnG l.prog w K mg base CX0 12 fa fd ["script"] (spLaw K (TT K)) := by
  obtain ⟨f1, d1, a1, F1⟩ := h1
  obtain ⟨f2, d2, a2, F2⟩ := h2
  obtain ⟨f3, d3, a3, F3⟩ := h3
  obtain ⟨f13, d13, a13, F13⟩ := h13
  obtain ⟨f14, d14, a14, F14⟩ := h14
  obtain ⟨f15, d15, a15, F15⟩ := h15
  obtain ⟨f17, d17, a17, F17⟩ := h17
  obtain ⟨f18, d18, a18, F18⟩ := h18
  obtain ⟨f19, d19, a19, F19⟩ := h19
  obtain ⟨f20, d20, a20, F20⟩ := h20
  obtain ⟨f21, d21, a21, F21⟩ := h21
  obtain ⟨f25, d25, a25, F25⟩ := h25
  obtain ⟨f26, d26, a26, F26⟩ := h26
  obtain ⟨f27, d27, a27, F27⟩ := h27
  obtain ⟨f28, d28, a28, F28⟩ := h28
  obtain ⟨f29, d29, a29, F29⟩ := h29
  obtain ⟨f30, d30, a30, F30⟩ := h30
  obtain ⟨f31, d31, a31, F31⟩ := h31
  obtain ⟨f32, d32, a32, F32⟩ := h32
  obtain ⟨f33, d33, a33, F33⟩ := h33
  obtain ⟨f34, d34, a34, F34⟩ := h34
  obtain ⟨f35, d35, a35, F35⟩ := h35
  obtain ⟨f36, d36, a36, F36⟩ := h36
  obtain ⟨f38, d38, a38, F38⟩ := h38
  obtain ⟨f39, d39, a39, F39⟩ := h39
  obtain ⟨f40, d40, a40, F40⟩ := h40
  obtain ⟨f41, d41, a41, F41⟩ := h41
  obtain ⟨f42, d42, a42, F42⟩ := h42
  obtain ⟨f43, d43, a43, F43⟩ := h43
  obtain ⟨f44, d44, a44, F44⟩ := h44
  obtain ⟨f45, d45, a45, F45⟩ := h45
  obtain ⟨f46, d46, a46, F46⟩ := h46
  obtain ⟨f47, d47, a47, F47⟩ := h47
  obtain ⟨f48, d48, a48, F48⟩ := h48
  obtain ⟨f49, d49, a49, F49⟩ := h49
  obtain ⟨f50, d50, a50, F50⟩ := h50
  obtain ⟨f51, d51, a51, F51⟩ := h51
  obtain ⟨f52, d52, a52, F52⟩ := h52
  obtain ⟨f53, d53, a53, F53⟩ := h53
  obtain ⟨f54, d54, a54, F54⟩ := h54
  obtain ⟨f56, d56, a56, F56⟩ := h56
  obtain ⟨f55, d55, a55, F55⟩ := h55.code (List.all_eq_true.mp tbs "_law_refused" (mx5 _ (by decide +kernel)))
  obtain ⟨fi, di, ai, ii, Fi⟩ := hI
  obtain ⟨fe, de, ae, ie, Fe⟩ := hE
  obtain ⟨aG, oG, itsG, nG, aGg, lG, cG, dG, sG, vG⟩ := mG
  have e := hfa.symm.trans (PySem.W.mg_of X G a56)
  cases e
  have fr := free_at X G z
  have mAbs := fr "abs" (by decide +kernel)
  have mInt := fr "int" (by decide +kernel)
  have mLen := fr "len" (by decide +kernel)
  have mIs := fr "isinstance" (by decide +kernel)
  have mRa := fr "range" (by decide +kernel)
  have mRe := fr "repr" (by decide +kernel)
  have mTup := fr "tuple" (by decide +kernel)
  have mList := fr "list" (by decide +kernel)
  have mMin := fr "min" (by decide +kernel)
  have mMax := fr "max" (by decide +kernel)
  have mAll := fr "all" (by decide +kernel)
  have mBo := fr "bool" (by decide +kernel)
  have mSum := fr "sum" (by decide +kernel)
  have mZ := fr "zip" (by decide +kernel)
  have mEn := fr "enumerate" (by decide +kernel)
  have mSo := fr "sorted" (by decide +kernel)
  have b1 : L2.Binds K d1 ["thing"] [] := F1.binds (ps := ["thing"]) fun _ _ _ _ _ _ us hl => match us, hl with | [_], _ => rfl
  have b2 : L2.Binds K d2 ["thing", "most"] [] := F2.binds (ps := ["thing", "most"]) fun _ _ _ _ _ _ us hl => match us, hl with | [_, _], _ => rfl
  have b3 : L2.Binds K d3 ["thing"] [] := F3.binds (ps := ["thing"]) fun _ _ _ _ _ _ us hl => match us, hl with | [_], _ => rfl
  have b13 : L2.Binds K d13 ["places", "thing"] [] := F13.binds (ps := ["places", "thing"]) fun _ _ _ _ _ _ us hl => match us, hl with | [_, _], _ => rfl
  have b14 : L2.Binds K d14 ["places", "arrows"] [] := F14.binds (ps := ["places", "arrows"]) fun _ _ _ _ _ _ us hl => match us, hl with | [_, _], _ => rfl
  have b15 : L2.Binds K d15 ["places", "arrows"] [] := F15.binds (ps := ["places", "arrows"]) fun _ _ _ _ _ _ us hl => match us, hl with | [_, _], _ => rfl
  have b17 : L2.Binds K d17 ["net"] [] := F17.binds (ps := ["net"]) fun _ _ _ _ _ _ us hl => match us, hl with | [_], _ => rfl
  have b18 : L2.Binds K d18 ["net", "place"] [] := F18.binds (ps := ["net", "place"]) fun _ _ _ _ _ _ us hl => match us, hl with | [_, _], _ => rfl
  have b19 : L2.Binds K d19 ["net", "thing"] [] := F19.binds (ps := ["net", "thing"]) fun _ _ _ _ _ _ us hl => match us, hl with | [_, _], _ => rfl
  have b20 : L2.Binds K d20 ["net", "row"] [] := F20.binds (ps := ["net", "row"]) fun _ _ _ _ _ _ us hl => match us, hl with | [_, _], _ => rfl
  have b21 : L2.Binds K d21 ["net", "place"] [] := F21.binds (ps := ["net", "place"]) fun _ _ _ _ _ _ us hl => match us, hl with | [_, _], _ => rfl
  have b25 : L2.Binds K d25 ["net", "one", "other"] [] := F25.binds (ps := ["net", "one", "other"]) fun _ _ _ _ _ _ us hl => match us, hl with | [_, _, _], _ => rfl
  have b26 : L2.Binds K d26 ["net", "row"] [] := F26.binds (ps := ["net", "row"]) fun _ _ _ _ _ _ us hl => match us, hl with | [_, _], _ => rfl
  have b27 : L2.Binds K d27 ["net", "place", "row"] [] := F27.binds (ps := ["net", "place", "row"]) fun _ _ _ _ _ _ us hl => match us, hl with | [_, _, _], _ => rfl
  have b28 : L2.Binds K d28 ["net"] [] := F28.binds (ps := ["net"]) fun _ _ _ _ _ _ us hl => match us, hl with | [_], _ => rfl
  have b29 : L2.Binds K d29 ["net"] [] := F29.binds (ps := ["net"]) fun _ _ _ _ _ _ us hl => match us, hl with | [_], _ => rfl
  have b30 : L2.Binds K d30 ["net"] [] := F30.binds (ps := ["net"]) fun _ _ _ _ _ _ us hl => match us, hl with | [_], _ => rfl
  have b31 : L2.Binds K d31 ["net"] [] := F31.binds (ps := ["net"]) fun _ _ _ _ _ _ us hl => match us, hl with | [_], _ => rfl
  have b32 : L2.Binds K d32 ["net"] [] := F32.binds (ps := ["net"]) fun _ _ _ _ _ _ us hl => match us, hl with | [_], _ => rfl
  have b33 : L2.Binds K d33 ["net"] [] := F33.binds (ps := ["net"]) fun _ _ _ _ _ _ us hl => match us, hl with | [_], _ => rfl
  have b34 : L2.Binds K d34 ["net"] [] := F34.binds (ps := ["net"]) fun _ _ _ _ _ _ us hl => match us, hl with | [_], _ => rfl
  have b35 : L2.Binds K d35 ["net", "place", "row"] [] := F35.binds (ps := ["net", "place", "row"]) fun _ _ _ _ _ _ us hl => match us, hl with | [_, _, _], _ => rfl
  have b36 : L2.Binds K d36 ["net"] [] := F36.binds (ps := ["net"]) fun _ _ _ _ _ _ us hl => match us, hl with | [_], _ => rfl
  have b38 : L2.Binds K d38 ["script"] [] := F38.binds (ps := ["script"]) fun _ _ _ _ _ _ us hl => match us, hl with | [_], _ => rfl
  have b39 : L2.Binds K d39 ["draw"] [] := F39.binds (ps := ["draw"]) fun _ _ _ _ _ _ us hl => match us, hl with | [_], _ => rfl
  have b40 : L2.Binds K d40 ["draw", "amount"] [] := F40.binds (ps := ["draw", "amount"]) fun _ _ _ _ _ _ us hl => match us, hl with | [_, _], _ => rfl
  have b41 : L2.Binds K d41 ["draw", "some"] [] := F41.binds (ps := ["draw", "some"]) fun _ _ _ _ _ _ us hl => match us, hl with | [_, _], _ => rfl
  have b42 : L2.Binds K d42 ["draw", "some"] [] := F42.binds (ps := ["draw", "some"]) fun _ _ _ _ _ _ us hl => match us, hl with | [_, _], _ => rfl
  have b43 : L2.Binds K d43 ["draw", "most"] [] := F43.binds (ps := ["draw", "most"]) fun _ _ _ _ _ _ us hl => match us, hl with | [_, _], _ => rfl
  have b44 : L2.Binds K d44 ["draw", "most"] [] := F44.binds (ps := ["draw", "most"]) fun _ _ _ _ _ _ us hl => match us, hl with | [_, _], _ => rfl
  have b45 : L2.Binds K d45 ["net", "one", "other"] [] := F45.binds (ps := ["net", "one", "other"]) fun _ _ _ _ _ _ us hl => match us, hl with | [_, _, _], _ => rfl
  have b46 : L2.Binds K d46 ["net", "row", "place"] [] := F46.binds (ps := ["net", "row", "place"]) fun _ _ _ _ _ _ us hl => match us, hl with | [_, _, _], _ => rfl
  have b47 : L2.Binds K d47 ["net"] [] := F47.binds (ps := ["net"]) fun _ _ _ _ _ _ us hl => match us, hl with | [_], _ => rfl
  have b48 : L2.Binds K d48 ["net"] [] := F48.binds (ps := ["net"]) fun _ _ _ _ _ _ us hl => match us, hl with | [_], _ => rfl
  have b49 : L2.Binds K d49 ["work"] [] := F49.binds (ps := ["work"]) fun _ _ _ _ _ _ us hl => match us, hl with | [_], _ => rfl
  have b50 : L2.Binds K d50 ["net"] [] := F50.binds (ps := ["net"]) fun _ _ _ _ _ _ us hl => match us, hl with | [_], _ => rfl
  have b51 : L2.Binds K d51 ["net", "most"] [] := F51.binds (ps := ["net", "most"]) fun _ _ _ _ _ _ us hl => match us, hl with | [_, _], _ => rfl
  have b52 : L2.Binds K d52 ["net", "place", "row"] [] := F52.binds (ps := ["net", "place", "row"]) fun _ _ _ _ _ _ us hl => match us, hl with | [_, _, _], _ => rfl
  have b53 : L2.Binds K d53 ["draw", "net", "net_here", "some"] [] := F53.binds (ps := ["draw", "net", "net_here", "some"]) fun _ _ _ _ _ _ us hl => match us, hl with | [_, _, _, _], _ => rfl
  have b54 : L2.Binds K d54 ["draw"] [] := F54.binds (ps := ["draw"]) fun _ _ _ _ _ _ us hl => match us, hl with | [_], _ => rfl
  have b56 : L2.Binds K d56 ["script"] [] := F56.binds (ps := ["script"]) fun _ _ _ _ _ _ us hl => match us, hl with | [_], _ => rfl
  have b55 : L2.Binds K d55 ["draw", "net_here"] [] := F55.f.binds (ps := ["draw", "net_here"]) fun _ _ _ _ _ _ us hl => match us, hl with | [_, _], _ => rfl
  have g1 := PySem.W.mg_of X G a1
  have g2 := PySem.W.mg_of X G a2
  have g3 := PySem.W.mg_of X G a3
  have g13 := PySem.W.mg_of X G a13
  have g14 := PySem.W.mg_of X G a14
  have g15 := PySem.W.mg_of X G a15
  have g17 := PySem.W.mg_of X G a17
  have g18 := PySem.W.mg_of X G a18
  have g19 := PySem.W.mg_of X G a19
  have g20 := PySem.W.mg_of X G a20
  have g21 := PySem.W.mg_of X G a21
  have g25 := PySem.W.mg_of X G a25
  have g26 := PySem.W.mg_of X G a26
  have g27 := PySem.W.mg_of X G a27
  have g28 := PySem.W.mg_of X G a28
  have g29 := PySem.W.mg_of X G a29
  have g30 := PySem.W.mg_of X G a30
  have g31 := PySem.W.mg_of X G a31
  have g32 := PySem.W.mg_of X G a32
  have g33 := PySem.W.mg_of X G a33
  have g34 := PySem.W.mg_of X G a34
  have g35 := PySem.W.mg_of X G a35
  have g36 := PySem.W.mg_of X G a36
  have g38 := PySem.W.mg_of X G a38
  have g39 := PySem.W.mg_of X G a39
  have g40 := PySem.W.mg_of X G a40
  have g41 := PySem.W.mg_of X G a41
  have g42 := PySem.W.mg_of X G a42
  have g43 := PySem.W.mg_of X G a43
  have g44 := PySem.W.mg_of X G a44
  have g45 := PySem.W.mg_of X G a45
  have g46 := PySem.W.mg_of X G a46
  have g47 := PySem.W.mg_of X G a47
  have g48 := PySem.W.mg_of X G a48
  have g49 := PySem.W.mg_of X G a49
  have g50 := PySem.W.mg_of X G a50
  have g51 := PySem.W.mg_of X G a51
  have g52 := PySem.W.mg_of X G a52
  have g53 := PySem.W.mg_of X G a53
  have g54 := PySem.W.mg_of X G a54
  have g56 := PySem.W.mg_of X G a56
  have g55 := PySem.W.mg_of X G a55
  have bI : L2.Binds K di ["self", "places", "arrows"] [] := Fi.binds (ps := ["self", "places", "arrows"]) fun _ _ _ _ _ _ us hl => match us, hl with | [_, _, _], _ => rfl
  have bE : L2.Binds K de ["self", "other"] [] := Fe.binds (ps := ["self", "other"]) fun _ _ _ _ _ _ us hl => match us, hl with | [_, _], _ => rfl
  have gGo := PySem.W.mg_of X G aGg
  have gGS := PySem.W.mg_of X G mS
  unfold badX gB at hB hP hR hG
  unfold netB gB at hN
  unfold gB at gw
  simp only [Bool.and_eq_true, beq_iff_eq] at hB hP hR hG hN gw
  obtain ⟨⟨⟨gB0, xmB⟩, oneB⟩, nonB⟩ := hB
  obtain ⟨⟨⟨gP0, xmP⟩, oneP⟩, _⟩ := hP
  obtain ⟨⟨⟨gR0, xmR⟩, oneR⟩, _⟩ := hR
  obtain ⟨⟨⟨gG0, xmG⟩, oneG⟩, _⟩ := hG
  obtain ⟨⟨⟨⟨⟨⟨⟨⟨⟨⟨⟨⟨⟨⟨⟨⟨⟨⟨⟨⟨gn, pg⟩, hd⟩, po⟩, sa⟩, nP⟩, nA⟩, ne⟩, ob⟩, ha⟩, hn⟩, hk⟩, hm⟩, oneN⟩, tupN⟩, nf⟩, makes⟩, kpN⟩, noN⟩, noI⟩, noD⟩ := hN
  have gNet := PySem.W.mg_of X G gn
  have gBN := PySem.W.mg_of X G gB0
  have gBP := PySem.W.mg_of X G gP0
  have gBR := PySem.W.mg_of X G gR0
  have gNG := PySem.W.mg_of X G gG0
  have gWeb := PySem.W.mg_of X G gw
  have PP : PlX K mg "BadPlace" (ga K "BadPlace") := plx_of gBP xP
  have PR : PlX K mg "BadRow" (ga K "BadRow") := plx_of gBR xR
  have PG : PlX K mg "NotGood" (ga K "NotGood") := plx_of gNG xG
  have exP := excC_of eP
  have exR := excC_of eR
  have exG := excC_of eG
  clear xP xR xG eP eR eG z
  obtain ⟨CN, eN⟩ : ∃ CN, CN = ga K "Net" := ⟨_, rfl⟩
  obtain ⟨CB, eB⟩ : ∃ CB, CB = ga K "BadNet" := ⟨_, rfl⟩
  obtain ⟨CP, eCP⟩ : ∃ CP, CP = ga K "BadPlace" := ⟨_, rfl⟩
  obtain ⟨CR, eCR⟩ : ∃ CR, CR = ga K "BadRow" := ⟨_, rfl⟩
  obtain ⟨CG, eCG⟩ : ∃ CG, CG = ga K "NotGood" := ⟨_, rfl⟩
  obtain ⟨CW, eW⟩ : ∃ CW, CW = ga K "WebError" := ⟨_, rfl⟩
  rw [← eN] at gNet pg hd po sa nP nA ne ob ha hm oneN tupN nf makes kpN noN noI noD ai ae nT
  rw [← eB] at gBN xmB oneB nonB hx
  rw [← eCP] at gBP xmP oneP PP exP
  rw [← eCR] at gBR xmR oneR PR exR
  rw [← eCG] at gNG xmG oneG PG exG
  rw [← eW] at gWeb xmB xmP xmR xmG
  have NT : NetT K mg CN := ⟨⟨pg, hd, po, sa⟩, nP, nA, gNet⟩
  have NE : NetE K mg CN fe := ⟨NT, ae, ie, ne, ob, ha, hn, hk, hm, oneN, tupN, nf⟩
  let GC : GoodC K mg := ⟨aG, gGo, fun H => .inr ⟨oG, itsG, nG, lG, cG, dG, sG, vG⟩⟩
  refine ⟨d56, fun s v => ?_, fun base Kb Gb TB => ?_⟩
  · obtain ⟨oc, od, kV, doc, pm, an, cdv, ct, osl, rfl, lk, hcd⟩ := F56.ex
    exact .of_eq rfl
  · obtain ⟨⟨fB, dB, xc⟩, xg⟩ := hx base (fr "super" (by decide +kernel))
    have BM : BadM l.prog w K mg base CB fB dB := ⟨xc.oex, xc.ini, xc.tyI, xc.ok, fun s us _ hl => by
      match us, hl with
      | [u, v], _ => exact xc.bind s u v, gBN⟩
    have BN : BadN K CB CW := ⟨xg, xmB, oneB, nonB⟩
    have BP : BadR K CP CW := ⟨exP, xmP, oneP⟩
    have BR : BadR K CR CW := ⟨exR, xmR, oneR⟩
    have BG : BadR K CG CW := ⟨exG, xmG, oneG⟩
    have S1 := ok_isnum (P := l.prog) (w := w) (base := base) F1 mIs mInt mBo
    have S2 := ok_isnumto (P := l.prog) (w := w) (base := base) F2 S1 F1 b1 g1
    have S3 := ok_islist (P := l.prog) (w := w) (base := base) F3 mIs mList mTup
    have S13 := ok_are (P := l.prog) (w := w) (base := base) F13 S2 F2 b2 g2 S3 F3 b3 g3 (PySem.W.mg_of X G ma) mAll mLen
    have S14 := ok_hangs (P := l.prog) (w := w) (base := base) F14 mRa mLen
    have S15 := ok_behind (P := l.prog) (w := w) (base := base) F15 mRa mAll
    have SM : Small l.prog w K mg base :=
      { fN := f1, fL := f3, fT := f2, fA := f13, fH := f14, fO := f15, dN := d1, dA := d13, dH := d14, dO := d15, tk := tk1, okN := S1, okA := S13, okH := S14, okO := S15, bN := b1, bA := b13, bH := b14, bO := b15
        gN := g1, gA := g13, gH := g14, gO := g15, kN := F1.kp, kA := F13.kp, kH := F14.kp, kO := F15.kp, gMP := PySem.W.mg_of X G mp, mLen := mLen, mTup := mTup }
    let MK : MkN l.prog w K mg base CN CB := ⟨fi, di, ⟨makes, ai, ii, kpN⟩, ok_netinit Fi BM NT SM, bI⟩
    have CH : ChkF l.prog w K mg base CN CB := ⟨f17, d17, ok_check F17 BM NE mIs, b17, g17, F17.kp⟩
    have S18 := ok_chkpl F18 NT S2 b2 g2 F2.kp PP
    have S19 := ok_isrow (P := l.prog) (w := w) (base := base) F19 NT S1 b1 g1 F1.kp mIs mTup mLen mAll
    have S20 := ok_chkrow F20 S19 b19 g19 F19.kp PR
    have S21 := ok_unitr (P := l.prog) (w := w) (base := base) F21 NT mTup mRa
    have S25 := ok_pairv (P := l.prog) (w := w) (base := base) F25 NT mSum mZ
    let SF : SubF l.prog w K mg base CN CB CR := ⟨CH, f20, d20, S20, b20, g20, F20.kp, f25, d25, S25, b25, g25, F25.kp⟩
    have S26 := ok_form F26 SF
    have S27 := ok_around (P := l.prog) (w := w) (base := base) F27 NT mSum
    have S28 := ok_other (P := l.prog) (w := w) (base := base) F28 NT mRa
    have S29 := ok_settled (P := l.prog) (w := w) (base := base) F29 NT S28 b28 g28 F28.kp gGS mEn mSum mMax mTup
    have S30 := ok_wildr (P := l.prog) (w := w) (base := base) F30 NT S25 b25 g25 F25.kp S27 b27 g27 F27.kp mTup mRa
    have S31 := ok_shape (P := l.prog) (w := w) (base := base) F31 CH NT GC S29 b29 g29 F29.kp S30 b30 g30 F30.kp S25 b25 g25 F25.kp mMin mMax
    have S32 := ok_isgood F32 GC S31 b31 g31 F31.kp
    have S33 := ok_chkgood F33 S32 b32 g32 F32.kp PG
    have S34 := ok_roots F34 NT S33 b33 g33 F33.kp S28 b28 g28 F28.kp S21 b21 g21 F21.kp mRa mSo mEn mSum mList
    have S35 := ok_mirr F35 NT SF S18 b18 g18 F18.kp S27 b27 g27 F27.kp mTup mRa
    have S36 := ok_high F36 S33 b33 g33 F33.kp S29 b29 g29 F29.kp
    have S38 := ok_begun (P := l.prog) (w := w) (base := base) F38 mAbs
    have S40 := ok_take (P := l.prog) (w := w) (base := base) F40 F39 b39 g39 mInt
    have S41 := ok_pick (P := l.prog) (w := w) (base := base) F41 F40 b40 g40 F39 b39 g39 mInt mLen
    have S42 := ok_shuf (P := l.prog) (w := w) (base := base) F42 S40 F40 b40 g40 mLen mList
    have S42I := ok_shufi (P := l.prog) (w := w) (base := base) F42 S40 F40 b40 g40 mLen mList
    have S43 := ok_shpairs (P := l.prog) (w := w) (base := base) F43 S40 b40 g40 F40.kp mRa
    have S44 := ok_lnet (P := l.prog) (w := w) (base := base) F44 S40 b40 g40 F40.kp S43 b43 g43 F43.kp S42 S42I b42 g42 F42.kp mRa mList
    have S45 := ok_lawpair (P := l.prog) (w := w) (base := base) F45 mSum mZ
    have S46 := ok_lean (P := l.prog) (w := w) (base := base) (mg := mg) F46
    have S47 := ok_lroots (P := l.prog) (w := w) (base := base) F47 S46 b46 g46 F46.kp mRa mTup mInt mSo mSum
    have S48 := ok_made F48 NT MK
    have TC := caught_takes (P := l.prog) (w := w) (base := base) F49 b49 gWeb
    have S50 := ok_due (P := l.prog) (w := w) (base := base) F50 mRa mLen
    have S51 := ok_tried (P := l.prog) (w := w) (base := base) F51 S45 b45 g45 F45.kp mRa
    have S52 := ok_lmir (P := l.prog) (w := w) (base := base) F52 mList mTup
    let AL : Al5 l.prog w K mg base CN CB CP CR CG CW :=
      { T := NT, mkn := MK
        made := ⟨f48, d48, S48, b48, g48, F48.kp⟩
        ro := ⟨f34, d34, S34, b34, g34, F34.kp⟩
        hi := ⟨f36, d36, S36, b36, g36, F36.kp⟩
        hiK := kb1 F36 fun _ _ _ _ _ _ _ => ⟨rfl, rfl⟩
        fo := ⟨f26, d26, S26, b26, g26, F26.kp⟩
        mi := ⟨f35, d35, S35, b35, g35, F35.kp⟩
        miK := kb3 F35 fun _ _ _ _ _ _ _ _ _ => ⟨rfl, rfl, rfl, rfl⟩
        be := ⟨f38, d38, S38, b38, g38, F38.kp⟩
        ta := ⟨f40, d40, S40, b40, g40, F40.kp⟩
        pk := ⟨f41, d41, S41, b41, g41, F41.kp⟩
        ne := ⟨f44, d44, S44, b44, g44, F44.kp⟩
        lr := ⟨f47, d47, S47, b47, g47, F47.kp⟩
        du := ⟨f50, d50, S50, b50, g50, F50.kp⟩
        tr := ⟨f51, d51, S51, b51, g51, F51.kp⟩
        lm := ⟨f52, d52, S52, b52, g52, F52.kp⟩
        fC := f49, caught := TC, gC := g49, kC := F49.kp, bad := BN, badP := BP, badR := BR, badG := BG, gB := gBN, gP := gBP, gR := gBR, gG := gNG, noN := noN, noT := nT
        mRa := mRa, mLen := mLen, mRe := mRe, mTup := mTup, mInt := mInt, mMin := mMin, mSo := mSo, mZip := mZ, mIs := mIs }
    have C55 := tc_of ap TB (mx5 "_law_refused" (by decide +kernel))
    have S54 := ok_badnet F54 NT MK S41 b41 g41 F41.kp
    have S55 := ok_refused F55 AL ⟨f54, d54, S54, b54, g54, F54.kp⟩ C55
    have S53 := ok_mr F53 AL
    exact ok_law F56 AL ⟨⟨f53, d53, S53, b53, g53, F53.kp⟩, ⟨f55, d55, S55, b55, g55, F55.kp⟩⟩
/-- the end for this law -/
theorem walk05 {l : PySem.W.OpenLaw} {q : Program} {loose : List Str} {XP : (Str → Option Value) → Heap → Prop} {YP : World → Heap → Prop} {d : DefRec} {K : Params → PySem.W.Frag}
    (hn : l.most = some 63) (hdf : d.params.defaults = []) (hr : Room 12 callerA) (hY : ∀ (w : World) (h : Heap), YP w h → (K w.params).In h) (t1 : ∀ w : World, (nm5.all fun x => tbB (K w.params) x) = true)
    (y1 : ∀ (w : World) (h : Heap), YP w h → ∀ x ∈ nm5, h.get? (tb (K w.params) x).2 = some { cls := .none, data := .fields #[] })
    (F : ∀ (w : World) (mg : Str → Option Value) (fa : Addr) (h : Heap), (K w.params).In h → h.Ns mainGlobals mg → mg d.name = some (.ref fa) →
      ∃ fd : FuncData, (∀ (s : Shared) (u : Value), BindsTo s fd ⟨[u], []⟩ [("script", u)]) ∧ ∀ base : Heap, (K w.params).In base → base.Ns mainGlobals mg → (∀ p ∈ tabsOf (K w.params), TabB base mg p.2.1 p.2.2) → FnG l.prog w (K w.params) mg base CX0 12 fa fd ["script"] (spLaw (K w.params) (TT (K w.params)))) :
    PySem.W.WalkO q loose XP YP l.row.toRowW d [] (fun f vs => PySem.call f vs) := by
  refine walk_ofGT (n := 63) (k := 12) (x := "script") (K := K) (sp := fun w => spLaw (K w.params) (TT (K w.params))) (ts := fun w => tabsOf (K w.params)) hn (by decide) hdf hr hY (fun w p m => ?_) (fun w h Y p m => ?_) F fun w H a ns hl _ hT hS => ?_
  · obtain ⟨x, mx, rfl⟩ := List.mem_map.mp m
    have := tb_of (List.all_eq_true.mp (t1 w) x mx)
    exact ⟨this.2.2, this.2.1⟩
  · obtain ⟨x, mx, rfl⟩ := List.mem_map.mp m
    exact y1 w h Y x mx
  · exact ⟨a, ns, rfl, hS, hl, tt_of hT, fun _ => rfl⟩
end K03


open PySem PySem.W PyProof.Rows
set_option maxRecDepth 100000 in
set_option maxHeartbeats 0 in
theorem PySem.Challenge.cw_boughwebs_k05_roots_and_mirrored_rows_holds : PySem.Challenge.rw_boughwebs_k05_roots_and_mirrored_rows.Holds := by
  w_on; o_law; k_head; (case hw => w_witness2)
  k_fill
  refine K03.walk05 (l := PySem.Challenge.rw_boughwebs_k05_roots_and_mirrored_rows) rfl (by kernel_rfl) ⟨rfl, by decide, by decide⟩ (fun w h Y => PySem.W.km_in_of Y) ?t1 ?y1 ?F
  case t1 => exact fun w => by kernel_rfl
  case y1 =>
    intro w h Y x mx
    simp only [K03.nm5, List.mem_cons, List.not_mem_nil, or_false] at mx
    subst mx
    exact PySem.W.km_tabs_of Y _ (List.contains_iff_mem.mp (by kernel_rfl))
  case F =>
    intro w mg fa h KX G hmg
    refine' K03.all_mk KX G hmg ?z1 ?z2 ?z3 ?z4 ?z5 ?z6 ?z7 ?z8 ?z9 ?z10 ?z11 ?z12 ?z13 ?z14 ?z15 ?z16 ?mp ?ma ?mS ?mq (fun base mS => ?hx) ?hI ?hE ?_ ?_ ?_ ?_ ?_ ?_ ?_ ?_ ?_ ?_ ?_ ?_ ?_ ?_ ?_ ?_ ?_ ?_ ?_ ?_ ?_ ?_ ?_ ?_ ?_ ?_ ?_ ?_ ?_ ?_ ?_ ?_ ?_ ?_ ?_ ?_ ?_ ?_ ?_ ?_ ?_ ?_
    case z1 => kernel_rfl
    case z2 => kernel_rfl
    case z3 => kernel_rfl
    case z4 => kernel_rfl
    case z5 => kernel_rfl
    case z6 => kernel_rfl
    case z7 => kernel_rfl
    case z8 => kernel_rfl
    case z9 => kernel_rfl
    case z10 => kernel_rfl
    case z11 => kernel_rfl
    case z12 => kernel_rfl
    case z13 => kernel_rfl
    case z14 => kernel_rfl
    case z15 => kernel_rfl
    case z16 => kernel_rfl
    case mp => k_is
    case ma => k_is
    case mS => k_is
    case mq => exact ⟨_, _, _, _, by k_is, by k_is, by rfl, by rfl, by decide, by repeat (first | exact .nil | refine .cons ⟨_, rfl⟩ ?_)⟩
    case hx =>
        refine' K03.mk_x (x := "BadNet") ?hC (K03.excC_of ?hE2) mS ?xL ?rb ?sa ?tC ?kC ?no ?ini ?tI ?lk ?hcd ?lc ?lcell ?third ?mro ?sup ?ve ?top ?hs ?hS ?h1 ?hdb ?hdc ?hev ?hin ?hsn ?hsw ?bind ?bindK
        (case hC => k_is); (case hE2 => kernel_rfl); (case xL => k_is); (case rb => decide +kernel); (case sa => k_is); (case tC => k_is); (case kC => k_is); (case no => k_is); (case ini => k_is); (case tI => k_is); (case lk => k_is)
        (case hcd => k_is)
        (case lc => exact ⟨_, _, _, _, _, _, by k_is, by rfl, by kernel_rfl⟩)
        (case lcell => exact ⟨_, _, _, by k_is⟩)
        (case third => k_is); (case mro => k_is); (case sup => kernel_rfl); (case ve => k_is); (case top => kernel_rfl)
        (case hs => exact ⟨_, rfl, rfl⟩)
        (case hS => decide +kernel); (case h1 => rfl); (case hdb => decide); (case hdc => decide)
        (case hev => exact fun L => rfl)
        (case hin => exact fun L => rfl)
        (case hsn => exact fun L => rfl)
        (case hsw => exact fun L => rfl)
        (case bind => exact fun s u v => .of_eq rfl)
        (case bindK => exact fun s u v => .of_eq rfl)
    case hI => (refine' K03.hasm_mk ?n ?a ?i ?l ?c ?k; (case n => k_is); (case a => k_is); (case i => k_is); (case l => k_is); (case c => k_is); (case k => k_is))
    case hE => (refine' K03.hasm_mk ?n ?a ?i ?l ?c ?k; (case n => k_is); (case a => k_is); (case i => k_is); (case l => k_is); (case c => k_is); (case k => k_is))
    all_goals (refine' K03.has_mk ?a ?l ?c ?k; (case a => k_is); (case l => k_is); (case c => k_is); (case k => k_is))
