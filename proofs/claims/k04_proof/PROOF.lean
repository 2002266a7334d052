import PyProof.Rows.All
import Wide.All
import OpenK.AllK
import Wide.FinOn
import HandS.ForMost
import PySem.Challenge.RW_boughwebs_k04_shapes_of_nets
import HandS.TryOnly
import HandS.IsInst
import HandS.Exc
import KE.KExcSuper
import HandS.ExcInit
import HandS.Nested
import HandS.ExcValue
import HandS.MakeKwOnly
import HandS.ExcIs
import HandS.Lambda
import HandS.WordsExc
import HandS.OwnEq
import PyProof.InstNe
import HandS.Style
import HandS.ExcOwn
import PyProof.ExcBaseAll.ValueError
import KE.GoesMore
import HandS.Zip
import KE.GoesEnum
import KE.DataMinMax
import HandS.TupMul
import HandS.TupAny
import HandS.Conv
import HandS.RaiseMore
import PyProof.StrBlock2
import HandS.Wide
import KE.KNestM
import HandS.EndBits
/-! Nets as lists of pairs: what is come to, by rounds and by a stack; an order from the ends. Pure. -/
namespace NetM
abbrev Prs := List (Int × Int)
/-- b can be come to from a along pairs -/
inductive Rch (E : Prs) : Int → Int → Prop
  | refl (a : Int) : Rch E a a
  | step {a b c : Int} (h : Rch E a b) (e : (b, c) ∈ E) : Rch E a c
theorem Rch.trans {E : Prs} {a b c : Int} (h : Rch E a b) (k : Rch E b c) : Rch E a c := by
  induction k with
  | refl => exact h
  | step _ e ih => exact .step ih e
theorem Rch.one {E : Prs} {a b : Int} (e : (a, b) ∈ E) : Rch E a b := .step (.refl a) e
def both (E : Prs) : Prs := E ++ E.map fun p => (p.2, p.1)
theorem mem_both {E : Prs} {a b : Int} : (a, b) ∈ both E ↔ (a, b) ∈ E ∨ (b, a) ∈ E := by
  unfold both
  rw [List.mem_append, List.mem_map]
  constructor
  · rintro (h | ⟨⟨x, y⟩, h, e⟩)
    · exact .inl h
    · cases e; exact .inr h
  · rintro (h | h)
    · exact .inl h
    · exact .inr ⟨(b, a), h, rfl⟩
/-- a set that holds a and is closed holds all that is come to -/
theorem Rch.closed {E : Prs} {S : List Int} (c : ∀ t h, (t, h) ∈ E → t ∈ S → h ∈ S) {a b : Int} (ha : a ∈ S) (h : Rch E a b) : b ∈ S := by
  induction h with
  | refl => exact ha
  | step _ e ih => exact c _ _ e ih
/-! ### numbers below n -/
def InR (n : Nat) (x : Int) : Prop := 0 ≤ x ∧ x < n
def rng (n : Nat) : List Int := (List.range n).map fun (k : Nat) => (k : Int)
theorem mem_rng {n : Nat} {x : Int} : x ∈ rng n ↔ InR n x := by
  unfold rng InR
  rw [List.mem_map]
  constructor
  · rintro ⟨k, h, rfl⟩
    have := List.mem_range.mp h
    omega
  · intro h
    exact ⟨x.toNat, List.mem_range.mpr (by omega), by omega⟩
theorem rng_len (n : Nat) : (rng n).length = n := by unfold rng; rw [List.length_map, List.length_range]
theorem rng_nodup (n : Nat) : (rng n).Nodup := by
  unfold rng
  exact (List.nodup_range).map _ (fun a b h e => h (by omega))
/-- as many different numbers as a list that holds them has -/
theorem sub_len {l m : List Int} (nd : l.Nodup) (s : ∀ x ∈ l, x ∈ m) : l.length ≤ m.length := by
  induction l generalizing m with
  | nil => exact Nat.zero_le _
  | cons x r ih =>
    have nx : x ∉ r := (List.nodup_cons.mp nd).1
    have hx := s x List.mem_cons_self
    have h2 : r.length ≤ (m.erase x).length := ih (List.nodup_cons.mp nd).2 fun y hy => by
      have ne : y ≠ x := fun z => nx (z ▸ hy)
      exact (List.mem_erase_of_ne ne).mpr (s y (List.mem_cons_of_mem _ hy))
    have h3 : (m.erase x).length = m.length - 1 := by rw [List.length_erase]; simp [hx]
    have h4 : 0 < m.length := List.length_pos_of_mem hx
    rw [List.length_cons]
    omega
/-- if there are as many, all of them are there -/
theorem full_of {l m : List Int} (nd : l.Nodup) (s : ∀ x ∈ l, x ∈ m) (e : m.length ≤ l.length) : ∀ x ∈ m, x ∈ l := by
  intro x hx
  by_cases c : x ∈ l
  · exact c
  · have := sub_len (l := x :: l) (m := m) (List.nodup_cons.mpr ⟨c, nd⟩) fun y hy => by
      rcases List.mem_cons.mp hy with rfl | hy
      · exact hx
      · exact s y hy
    rw [List.length_cons] at this
    omega
/-! ### by a stack: the law's own search -/
/-- one look at all pairs from here -/
def look (here : Int) : Prs → List Int × List Int → List Int × List Int
  | [], s => s
  | (t, h) :: r, (found, line) => if t = here ∧ h ∉ found then look here r (found ++ [h], line ++ [h]) else look here r (found, line)
structure Stk (E : Prs) (a : Int) (found line : List Int) : Prop where
  nd : found.Nodup
  sub : ∀ x ∈ line, x ∈ found
  beg : a ∈ found
  snd : ∀ x ∈ found, Rch E a x
  don : ∀ x ∈ found, x ∉ line → ∀ h, (x, h) ∈ E → h ∈ found
structure Lk (E : Prs) (a here : Int) (L : Prs) (found line : List Int) : Prop where
  nd : found.Nodup
  sub : ∀ x ∈ line, x ∈ found
  her : here ∈ found
  beg : a ∈ found
  snd : ∀ x ∈ found, Rch E a x
  don : ∀ x ∈ found, x ∉ line → x ≠ here → ∀ h, (x, h) ∈ E → h ∈ found
  now : ∀ h, (here, h) ∈ E → (here, h) ∉ L → h ∈ found
theorem look_ok {E : Prs} {a here : Int} : ∀ (L : Prs) (found line : List Int), (∀ p ∈ L, p ∈ E) → Lk E a here L found line → Lk E a here [] (look here L (found, line)).1 (look here L (found, line)).2 ∧ (∀ x ∈ found, x ∈ (look here L (found, line)).1) ∧ ∃ more, (look here L (found, line)).1 = found ++ more ∧ (look here L (found, line)).2 = line ++ more
  | [], found, line, _, k => ⟨k, fun _ h => h, [], by simp [look], by simp [look]⟩
  | (t, h) :: r, found, line, hs, k => by
    have hr : ∀ p ∈ r, p ∈ E := fun p hp => hs p (List.mem_cons_of_mem _ hp)
    unfold look
    by_cases c : t = here ∧ h ∉ found
    · rw [if_pos c]
      obtain ⟨rfl, c2⟩ := c
      have k' : Lk E a t r (found ++ [h]) (line ++ [h]) :=
        { nd := by
            rw [List.nodup_append]
            refine ⟨k.nd, List.nodup_cons.mpr ⟨by simp, List.nodup_nil⟩, fun x hx y hy e => ?_⟩
            rw [List.mem_singleton] at hy
            exact c2 (hy ▸ e ▸ hx)
          sub := fun x hx => by
            rcases List.mem_append.mp hx with hx | hx
            · exact List.mem_append_left _ (k.sub x hx)
            · exact List.mem_append_right _ hx
          her := List.mem_append_left _ k.her
          beg := List.mem_append_left _ k.beg
          snd := fun x hx => by
            rcases List.mem_append.mp hx with hx | hx
            · exact k.snd x hx
            · rw [List.mem_singleton] at hx
              subst hx
              exact .step (k.snd t k.her) (hs _ List.mem_cons_self)
          don := fun x hx hl hn g e => by
            rcases List.mem_append.mp hx with hx | hx
            · exact List.mem_append_left _ (k.don x hx (fun z => hl (List.mem_append_left _ z)) hn g e)
            · exact absurd (List.mem_append_right _ hx) hl
          now := fun g e n => by
            by_cases z : g = h
            · subst z
              exact List.mem_append_right _ (List.mem_singleton.mpr rfl)
            · refine List.mem_append_left _ (k.now g e fun m => ?_)
              rcases List.mem_cons.mp m with m | m
              · exact z (Prod.mk.inj m).2
              · exact n m }
      obtain ⟨i1, i2, more, i3, i4⟩ := look_ok r (found ++ [h]) (line ++ [h]) hr k'
      exact ⟨i1, fun x hx => i2 x (List.mem_append_left _ hx), h :: more, by rw [i3]; simp, by rw [i4]; simp⟩
    · rw [if_neg c]
      have k' : Lk E a here r found line :=
        { k with
          now := fun g e n => by
            by_cases z : (here, g) = (t, h)
            · obtain ⟨z1, z2⟩ := Prod.mk.inj z
              by_cases c3 : h ∈ found
              · rw [z2]; exact c3
              · exact absurd ⟨z1.symm, c3⟩ c
            · refine k.now g e fun m => ?_
              rcases List.mem_cons.mp m with m | m
              · exact z m
              · exact n m }
      exact look_ok r found line hr k'
/-- the search: as long as the line is not empty -/
def run (E : Prs) : Nat → List Int × List Int → List Int
  | 0, s => s.1
  | m + 1, (found, line) => match line.getLast? with
    | none => found
    | some here => run E m (look here E (found, line.dropLast))
theorem stk_step {E : Prs} {a here : Int} {found line : List Int} (k : Stk E a found (line ++ [here])) : Stk E a (look here E (found, line)).1 (look here E (found, line)).2 ∧ (∀ x ∈ found, x ∈ (look here E (found, line)).1) ∧ ∃ more, (look here E (found, line)).1 = found ++ more ∧ (look here E (found, line)).2 = line ++ more := by
  have hh : here ∈ found := k.sub here (List.mem_append_right _ (List.mem_singleton.mpr rfl))
  have k0 : Lk E a here E found line :=
    { nd := k.nd, sub := fun x hx => k.sub x (List.mem_append_left _ hx), her := hh, beg := k.beg, snd := k.snd
      don := fun x hx hl hn => k.don x hx fun m => by
        rcases List.mem_append.mp m with m | m
        · exact hl m
        · exact hn (List.mem_singleton.mp m)
      now := fun g e n => absurd e n }
  obtain ⟨i1, i2, i3⟩ := look_ok E found line (fun _ h => h) k0
  refine ⟨⟨i1.nd, i1.sub, i1.beg, i1.snd, fun x hx hl h e => ?_⟩, i2, i3⟩
  by_cases z : x = here
  · subst z
    exact i1.now h e (by simp)
  · exact i1.don x hx hl z h e
/-- an empty line: all that is come to -/
theorem stk_end {E : Prs} {a : Int} {found : List Int} (k : Stk E a found []) : ∀ x, x ∈ found ↔ Rch E a x := fun x =>
  ⟨k.snd x, fun h => Rch.closed (fun t g e ht => k.don t ht (by simp) g e) k.beg h⟩
theorem stk_beg (E : Prs) (a : Int) : Stk E a [a] [a] :=
  ⟨List.nodup_cons.mpr ⟨by simp, List.nodup_nil⟩, fun _ h => h, List.mem_singleton.mpr rfl, fun x hx => by rw [List.mem_singleton.mp hx]; exact .refl a, fun x hx hl => absurd hx hl⟩
end NetM


namespace NetM
/-! ### by rounds: the program's own look -/
def ins (x : Int) (l : List Int) : List Int := if x ∈ l then l else l ++ [x]
theorem mem_ins {x y : Int} {l : List Int} : y ∈ ins x l ↔ y = x ∨ y ∈ l := by
  unfold ins
  by_cases c : x ∈ l
  · rw [if_pos c]
    exact ⟨.inr, fun h => h.elim (fun e => e ▸ c) id⟩
  · rw [if_neg c, List.mem_append, List.mem_singleton]
    exact Or.comm
theorem ins_nodup {x : Int} {l : List Int} (n : l.Nodup) : (ins x l).Nodup := by
  unfold ins
  by_cases c : x ∈ l
  · rw [if_pos c]; exact n
  · rw [if_neg c, List.nodup_append]
    refine ⟨n, List.nodup_cons.mpr ⟨by simp, List.nodup_nil⟩, fun a ha b hb e => ?_⟩
    rw [List.mem_singleton] at hb
    exact c (hb ▸ e ▸ ha)
/-- one round over the pairs -/
def round : Prs → List Int → List Int
  | [], l => l
  | (t, h) :: r, l => if t ∈ l ∨ h ∈ l then round r (ins h (ins t l)) else round r l
def rounds (E : Prs) : Nat → List Int → List Int
  | 0, l => l
  | m + 1, l => rounds E m (round E l)
theorem round_sub : ∀ (E : Prs) (l : List Int), ∀ x ∈ l, x ∈ round E l
  | [], _, _, h => h
  | (t, h) :: r, l, x, hx => by
    unfold round
    by_cases c : t ∈ l ∨ h ∈ l
    · rw [if_pos c]
      exact round_sub r _ x (mem_ins.mpr (.inr (mem_ins.mpr (.inr hx))))
    · rw [if_neg c]
      exact round_sub r l x hx
theorem round_nodup : ∀ (E : Prs) (l : List Int), l.Nodup → (round E l).Nodup
  | [], _, n => n
  | (t, h) :: r, l, n => by
    unfold round
    by_cases c : t ∈ l ∨ h ∈ l
    · rw [if_pos c]; exact round_nodup r _ (ins_nodup (ins_nodup n))
    · rw [if_neg c]; exact round_nodup r l n
theorem round_snd {E0 : Prs} {a : Int} : ∀ (E : Prs) (l : List Int), (∀ p ∈ E, p ∈ E0) → (∀ x ∈ l, Rch (both E0) a x) → ∀ x ∈ round E l, Rch (both E0) a x
  | [], _, _, k => k
  | (t, h) :: r, l, s, k => by
    have hr : ∀ p ∈ r, p ∈ E0 := fun p hp => s p (List.mem_cons_of_mem _ hp)
    have e : (t, h) ∈ E0 := s _ List.mem_cons_self
    unfold round
    by_cases c : t ∈ l ∨ h ∈ l
    · rw [if_pos c]
      refine round_snd r _ hr fun x hx => ?_
      have kt : Rch (both E0) a t := c.elim (k t) fun z => .step (k h z) (mem_both.mpr (.inr e))
      rcases mem_ins.mp hx with rfl | hx
      · exact .step kt (mem_both.mpr (.inl e))
      · rcases mem_ins.mp hx with rfl | hx
        · exact kt
        · exact k x hx
    · rw [if_neg c]
      exact round_snd r l hr k
/-- a round that adds nothing has looked at a closed set -/
theorem round_same : ∀ (E : Prs) (l : List Int), (∀ x ∈ round E l, x ∈ l) → ∀ t h, (t, h) ∈ E → (t ∈ l ↔ h ∈ l)
  | [], _, _, _, _, m => by simp at m
  | (t, h) :: r, l, k, t', h', m => by
    unfold round at k
    by_cases c : t ∈ l ∨ h ∈ l
    · rw [if_pos c] at k
      have k2 : ∀ x ∈ ins h (ins t l), x ∈ l := fun x hx => k x (round_sub r _ x hx)
      have ht := k2 t (mem_ins.mpr (.inr (mem_ins.mpr (.inl rfl))))
      have hh := k2 h (mem_ins.mpr (.inl rfl))
      have e : ins h (ins t l) = l := by
        have e1 : ins t l = l := if_pos ht
        rw [e1]
        exact if_pos hh
      rw [e] at k
      rcases List.mem_cons.mp m with m | m
      · cases m
        exact ⟨fun _ => hh, fun _ => ht⟩
      · exact round_same r l k t' h' m
    · rw [if_neg c] at k
      rcases List.mem_cons.mp m with m | m
      · obtain ⟨m1, m2⟩ := Prod.mk.inj m
        subst m1 m2
        exact ⟨fun z => absurd (.inl z) c, fun z => absurd (.inr z) c⟩
      · exact round_same r l k t' h' m
theorem round_len {E : Prs} {l : List Int} (n : l.Nodup) : l.length ≤ (round E l).length := sub_len n (round_sub E l)
theorem round_eq_of_len {E : Prs} {l : List Int} (n : l.Nodup) (e : (round E l).length ≤ l.length) : ∀ x ∈ round E l, x ∈ l := full_of n (round_sub E l) e
theorem rounds_sub (E : Prs) : ∀ (m : Nat) (l : List Int), ∀ x ∈ l, x ∈ rounds E m l
  | 0, _, _, h => h
  | m + 1, l, x, h => rounds_sub E m _ x (round_sub E l x h)
theorem rounds_nodup (E : Prs) : ∀ (m : Nat) (l : List Int), l.Nodup → (rounds E m l).Nodup
  | 0, _, n => n
  | m + 1, l, n => rounds_nodup E m _ (round_nodup E l n)
theorem rounds_snd {E : Prs} {a : Int} : ∀ (m : Nat) (l : List Int), (∀ x ∈ l, Rch (both E) a x) → ∀ x ∈ rounds E m l, Rch (both E) a x
  | 0, _, k => k
  | m + 1, l, k => rounds_snd m _ (round_snd E l (fun _ h => h) k)
/-- a closed set is what it was behind a round, as far as who is in it -/
theorem closed_round : ∀ (E : Prs) (l : List Int), (∀ t h, (t, h) ∈ E → (t ∈ l ↔ h ∈ l)) → round E l = l
  | [], _, _ => rfl
  | (t, h) :: r, l, k => by
    have kr := fun t' h' m => k t' h' (List.mem_cons_of_mem _ m)
    unfold round
    by_cases c : t ∈ l ∨ h ∈ l
    · rw [if_pos c]
      have e := k t h List.mem_cons_self
      have ht : t ∈ l := c.elim id e.mpr
      have hh : h ∈ l := e.mp ht
      have e1 : ins t l = l := if_pos ht
      have e2 : ins h l = l := if_pos hh
      rw [e1, e2]
      exact closed_round r l kr
    · rw [if_neg c]
      exact closed_round r l kr
theorem closed_rounds {E : Prs} {l : List Int} (k : ∀ t h, (t, h) ∈ E → (t ∈ l ↔ h ∈ l)) : ∀ m, rounds E m l = l
  | 0 => rfl
  | m + 1 => by
    show rounds E m (round E l) = l
    rw [closed_round E l k]
    exact closed_rounds k m
/-- enough rounds: closed, or longer by one each -/
theorem rounds_end (E : Prs) : ∀ (m : Nat) (l : List Int), l.Nodup → (∀ t h, (t, h) ∈ E → (t ∈ rounds E m l ↔ h ∈ rounds E m l)) ∨ l.length + m ≤ (rounds E m l).length
  | 0, l, _ => .inr (by show l.length + 0 ≤ l.length; omega)
  | m + 1, l, n => by
    show (∀ t h, (t, h) ∈ E → (t ∈ rounds E m (round E l) ↔ h ∈ rounds E m (round E l))) ∨ l.length + (m + 1) ≤ (rounds E m (round E l)).length
    by_cases c : (round E l).length ≤ l.length
    · left
      have k := round_same E l (round_eq_of_len n c)
      have e := closed_round E l k
      rw [e, closed_rounds k m]
      exact k
    · rcases rounds_end E m (round E l) (round_nodup E l n) with h | h
      · exact .inl h
      · right; omega
/-- as many rounds as there are places: the places that hang together with the first -/
theorem rounds_all {E : Prs} {n : Nat} (hn : 0 < n) (hE : ∀ t h, (t, h) ∈ E → InR n t ∧ InR n h) : ∀ x, x ∈ rounds E n [0] ↔ Rch (both E) 0 x := by
  have snd : ∀ x ∈ rounds E n [0], Rch (both E) 0 x := rounds_snd n [0] fun x hx => by rw [List.mem_singleton.mp hx]; exact .refl 0
  have nd := rounds_nodup E n [0] (List.nodup_cons.mpr ⟨by simp, List.nodup_nil⟩)
  have inr : ∀ x, Rch (both E) 0 x → InR n x := fun x h => by
    cases h with
    | refl => unfold InR; omega
    | step _ e =>
      rcases mem_both.mp e with e | e
      · exact (hE _ _ e).2
      · exact (hE _ _ e).1
  have le : (rounds E n [0]).length ≤ n := by
    have := sub_len (m := rng n) nd fun x hx => mem_rng.mpr (inr x (snd x hx))
    rwa [rng_len] at this
  rcases rounds_end E n [0] (List.nodup_cons.mpr ⟨by simp, List.nodup_nil⟩) with k | k
  · intro x
    refine ⟨snd x, fun h => Rch.closed (E := both E) (fun t g e ht => ?_) (rounds_sub E n [0] 0 (List.mem_singleton.mpr rfl)) h⟩
    rcases mem_both.mp e with e | e
    · exact (k t g e).mp ht
    · exact (k g t e).mpr ht
  · simp only [List.length_singleton] at k
    omega
/-- the program's answer and the law's -/
theorem hangs_iff {E : Prs} {n : Nat} {f : List Int} (hn : 0 < n) (hE : ∀ t h, (t, h) ∈ E → InR n t ∧ InR n h) (nf : f.Nodup) (hf : ∀ x, x ∈ f ↔ Rch (both E) 0 x) : (rounds E n [0]).length = n ↔ ¬ f.length < n := by
  have nd := rounds_nodup E n [0] (List.nodup_cons.mpr ⟨by simp, List.nodup_nil⟩)
  have h := rounds_all hn hE
  have e1 := sub_len nd fun x hx => (hf x).mpr ((h x).mp hx)
  have e2 := sub_len nf fun x hx => (h x).mpr ((hf x).mp hx)
  have le : (rounds E n [0]).length ≤ n := by
    have := sub_len (m := rng n) nd fun x hx => mem_rng.mpr (by
      have r := (h x).mp hx
      cases r with
      | refl => unfold InR; omega
      | step _ e =>
        rcases mem_both.mp e with e | e
        · exact (hE _ _ e).2
        · exact (hE _ _ e).1)
    rwa [rng_len] at this
  omega
end NetM


namespace NetM
/-! ### an order from the ends -/
def free (E : Prs) (o : List Int) (p : Int) : Bool := decide (p ∉ o) && (E.all fun q => !(decide (q.1 = p)) || decide (q.2 ∈ o))
def ready (E : Prs) (n : Nat) (o : List Int) : List Int := (rng n).filter (free E o)
def ordr (E : Prs) (n : Nat) : Nat → List Int → List Int
  | 0, o => o
  | m + 1, o => match ready E n o with
    | [] => ordr E n m o
    | p :: _ => ordr E n m (o ++ [p])
theorem free_iff {E : Prs} {o : List Int} {p : Int} : free E o p = true ↔ p ∉ o ∧ ∀ h, (p, h) ∈ E → h ∈ o := by
  unfold free
  rw [Bool.and_eq_true, decide_eq_true_eq, List.all_eq_true]
  constructor
  · rintro ⟨a, b⟩
    refine ⟨a, fun h m => ?_⟩
    have := b _ m
    simpa using this
  · rintro ⟨a, b⟩
    refine ⟨a, fun q m => ?_⟩
    by_cases c : q.1 = p
    · have := b q.2 (by rw [← c]; exact m)
      simp [this]
    · simp [c]
/-- the order so far: below n, different, and what stands behind a place stands ahead of it -/
structure Ord (E : Prs) (n : Nat) (o : List Int) : Prop where
  nd : o.Nodup
  inr : ∀ x ∈ o, InR n x
  clo : ∀ t h, (t, h) ∈ E → t ∈ o → h ∈ o
  low : ∀ t h, (t, h) ∈ E → t ∈ o → o.idxOf h < o.idxOf t
theorem idx_app {l : List Int} {x p : Int} (h : x ∈ l) : (l ++ [p]).idxOf x = l.idxOf x := by rw [List.idxOf_append, if_pos h]
theorem idx_new {l : List Int} {p : Int} (h : p ∉ l) : (l ++ [p]).idxOf p = l.length := by
  rw [List.idxOf_append, if_neg h]
  simp
theorem ord_step {E : Prs} {n : Nat} {o r : List Int} {p : Int} (k : Ord E n o) (e : ready E n o = p :: r) : Ord E n (o ++ [p]) := by
  have hp : p ∈ ready E n o := by rw [e]; exact List.mem_cons_self
  unfold ready at hp
  obtain ⟨h1, h2⟩ := List.mem_filter.mp hp
  obtain ⟨h3, h4⟩ := free_iff.mp h2
  have mem : ∀ {x : Int}, x ∈ o ++ [p] ↔ x ∈ o ∨ x = p := fun {x} => by rw [List.mem_append, List.mem_singleton]
  refine ⟨?_, fun x hx => ?_, fun t h m ht => ?_, fun t h m ht => ?_⟩
  · rw [List.nodup_append]
    refine ⟨k.nd, List.nodup_cons.mpr ⟨by simp, List.nodup_nil⟩, fun a ha b hb e => ?_⟩
    rw [List.mem_singleton] at hb
    exact h3 (hb ▸ e ▸ ha)
  · rcases mem.mp hx with hx | rfl
    · exact k.inr x hx
    · exact mem_rng.mp h1
  · rcases mem.mp ht with ht | rfl
    · exact mem.mpr (.inl (k.clo t h m ht))
    · exact mem.mpr (.inl (h4 h m))
  · rcases mem.mp ht with ht | rfl
    · rw [idx_app ht, idx_app (k.clo t h m ht)]
      exact k.low t h m ht
    · have hh := h4 h m
      rw [idx_app hh, idx_new h3]
      exact List.idxOf_lt_length_of_mem hh
theorem ord_nil (E : Prs) (n : Nat) : Ord E n [] := ⟨List.nodup_nil, fun x h => by simp at h, fun t h _ m => by simp at m, fun t h _ m => by simp at m⟩
theorem ordr_ok {E : Prs} {n : Nat} : ∀ (m : Nat) (o : List Int), Ord E n o → Ord E n (ordr E n m o)
  | 0, _, k => k
  | m + 1, o, k => by
    unfold ordr
    cases e : ready E n o with
    | nil => exact ordr_ok m o k
    | cons p r => exact ordr_ok m (o ++ [p]) (ord_step k e)
/-- no pair leads back -/
def Acy (E : Prs) : Prop := ∀ t h, (t, h) ∈ E → ¬ Rch E h t
theorem low_rch {E : Prs} {n : Nat} {o : List Int} (k : Ord E n o) {a b : Int} (h : Rch E a b) : a ∈ o → b ∈ o ∧ o.idxOf b ≤ o.idxOf a := by
  intro ha
  induction h with
  | refl => exact ⟨ha, Nat.le_refl _⟩
  | step _ e ih =>
    obtain ⟨m, l⟩ := ih
    have := k.low _ _ e m
    exact ⟨k.clo _ _ e m, by omega⟩
theorem acy_of_full {E : Prs} {n : Nat} {o : List Int} (hE : ∀ t h, (t, h) ∈ E → InR n t ∧ InR n h) (k : Ord E n o) (e : o.length = n) : Acy E := by
  have all : ∀ x, InR n x → x ∈ o := fun x hx => full_of k.nd (m := rng n) (fun y hy => mem_rng.mpr (k.inr y hy)) (by rw [rng_len, e]; exact Nat.le_refl _) x (mem_rng.mpr hx)
  intro t h m r
  have ht := all t (hE t h m).1
  have hh := all h (hE t h m).2
  have l1 := k.low t h m ht
  have l2 := (low_rch k r hh).2
  omega
/-! a place that is left and none free: some way leads back -/
def nxt (E : Prs) (o : List Int) (p : Int) : Int := match E.find? (fun q => decide (q.1 = p) && decide (q.2 ∉ o)) with
  | some q => q.2
  | none => p
theorem nxt_ok {E : Prs} {o : List Int} {p : Int} (h : free E o p = false) (hp : p ∉ o) : (p, nxt E o p) ∈ E ∧ nxt E o p ∉ o := by
  have hx : ∃ g, (p, g) ∈ E ∧ g ∉ o := by
    by_cases c : ∃ g, (p, g) ∈ E ∧ g ∉ o
    · exact c
    · exfalso
      have : free E o p = true := free_iff.mpr ⟨hp, fun g m => by
        by_cases z : g ∈ o
        · exact z
        · exact absurd ⟨g, m, z⟩ c⟩
      rw [h] at this
      cases this
  obtain ⟨g, m, ng⟩ := hx
  unfold nxt
  cases e : E.find? (fun q => decide (q.1 = p) && decide (q.2 ∉ o)) with
  | none =>
    have := List.find?_eq_none.mp e _ m
    simp [ng] at this
  | some q =>
    have h1 := List.find?_some e
    have h2 := List.mem_of_find?_eq_some e
    simp only [Bool.and_eq_true, decide_eq_true_eq] at h1
    obtain ⟨h3, h4⟩ := h1
    exact ⟨by rw [← h3]; exact h2, h4⟩
def iter (f : Int → Int) : Nat → Int → Int
  | 0, x => x
  | m + 1, x => iter f m (f x)
theorem iter_succ (f : Int → Int) : ∀ (m : Nat) (x : Int), iter f (m + 1) x = f (iter f m x)
  | 0, _ => rfl
  | m + 1, x => iter_succ f m (f x)
/-- so many steps in so few places: some place twice -/
theorem pigeon (n : Nat) (g : Nat → Int) (h : ∀ i, i ≤ n → InR n (g i)) : ∃ i j, i < j ∧ j ≤ n ∧ g i = g j := by
  by_cases c : ∃ i j, i < j ∧ j ≤ n ∧ g i = g j
  · exact c
  · exfalso
    have nd : ((List.range (n + 1)).map g).Nodup := by
      refine List.pairwise_iff_getElem.mpr fun i j hi hj hij e => ?_
      rw [List.length_map, List.length_range] at hi hj
      rw [List.getElem_map, List.getElem_map, List.getElem_range, List.getElem_range] at e
      exact c ⟨i, j, hij, by omega, e⟩
    have := sub_len nd (m := rng n) fun x hx => by
      obtain ⟨i, hi, rfl⟩ := List.mem_map.mp hx
      have := List.mem_range.mp hi
      exact mem_rng.mpr (h i (by omega))
    rw [List.length_map, List.length_range, rng_len] at this
    omega
theorem some_free {E : Prs} {n : Nat} {o : List Int} (hE : ∀ t h, (t, h) ∈ E → InR n t ∧ InR n h) (ac : Acy E) {x : Int} (hx : InR n x) (nx : x ∉ o) : ready E n o ≠ [] := by
  intro e
  have nf : ∀ p, InR n p → p ∉ o → free E o p = false := fun p hp _ => by
    cases c : free E o p with
    | false => rfl
    | true =>
      have : p ∈ ready E n o := List.mem_filter.mpr ⟨mem_rng.mpr hp, c⟩
      rw [e] at this
      simp at this
  have inv : ∀ m, InR n (iter (nxt E o) m x) ∧ iter (nxt E o) m x ∉ o := fun m => by
    induction m with
    | zero => exact ⟨hx, nx⟩
    | succ m ih =>
      rw [iter_succ]
      have := nxt_ok (nf _ ih.1 ih.2) ih.2
      exact ⟨(hE _ _ this.1).2, this.2⟩
  have edge : ∀ m, (iter (nxt E o) m x, iter (nxt E o) (m + 1) x) ∈ E := fun m => by
    rw [iter_succ]
    exact (nxt_ok (nf _ (inv m).1 (inv m).2) (inv m).2).1
  have way : ∀ i d, Rch E (iter (nxt E o) i x) (iter (nxt E o) (i + d) x) := fun i d => by
    induction d with
    | zero => exact .refl _
    | succ d ih => exact .step ih (edge (i + d))
  obtain ⟨i, j, hij, _, ee⟩ := pigeon n (fun m => iter (nxt E o) m x) fun m _ => (inv m).1
  have r := way (i + 1) (j - (i + 1))
  rw [show i + 1 + (j - (i + 1)) = j by omega] at r
  have ee' : iter (nxt E o) i x = iter (nxt E o) j x := ee
  rw [← ee'] at r
  exact ac _ _ (edge i) r
theorem ordr_len {E : Prs} {n : Nat} (hE : ∀ t h, (t, h) ∈ E → InR n t ∧ InR n h) (ac : Acy E) : ∀ (m : Nat) (o : List Int), Ord E n o → o.length + m = n → (ordr E n m o).length = n
  | 0, o, _, e => by show o.length = n; omega
  | m + 1, o, k, e => by
    have hx : ∃ x, InR n x ∧ x ∉ o := by
      by_cases c : ∃ x, InR n x ∧ x ∉ o
      · exact c
      · exfalso
        have := sub_len (rng_nodup n) (m := o) fun y hy => by
          by_cases z : y ∈ o
          · exact z
          · exact absurd ⟨y, mem_rng.mp hy, z⟩ c
        rw [rng_len] at this
        omega
    obtain ⟨x, h1, h2⟩ := hx
    unfold ordr
    cases e2 : ready E n o with
    | nil => exact absurd e2 (some_free hE ac h1 h2)
    | cons p r => exact ordr_len hE ac m (o ++ [p]) (ord_step k e2) (by rw [List.length_append, List.length_singleton]; omega)
theorem order_iff {E : Prs} {n : Nat} (hE : ∀ t h, (t, h) ∈ E → InR n t ∧ InR n h) : (ordr E n n []).length = n ↔ Acy E :=
  ⟨fun e => acy_of_full hE (ordr_ok n [] (ord_nil E n)) e, fun a => ordr_len hE a n [] (ord_nil E n) (by simp)⟩
/-- each place but the first has a pair from one below it: all hangs together -/
theorem tree_all {E : Prs} {n : Nat} (h : ∀ k : Nat, 0 < k → k < n → ∃ a : Int, 0 ≤ a ∧ a < k ∧ (a, (k : Int)) ∈ E) : ∀ k : Nat, k < n → Rch (both E) 0 k := by
  intro k
  induction k using Nat.strongRecOn with
  | _ k ih =>
    intro hk
    by_cases c : k = 0
    · subst c; exact .refl _
    · obtain ⟨a, h0, h1, e⟩ := h k (by omega) hk
      have r := ih a.toNat (by omega) (by omega)
      rw [show ((a.toNat : Nat) : Int) = a by omega] at r
      exact .step r (mem_both.mpr (.inl e))
/-- pairs that go up lead nowhere back -/
theorem up_acy {E : Prs} (h : ∀ t g, (t, g) ∈ E → t < g) : Acy E := by
  have up : ∀ {a b : Int}, Rch E a b → a ≤ b := fun r => by
    induction r with
    | refl => exact Int.le_refl _
    | step _ e ih => have := h _ _ e; omega
  intro t g m r
  have := up r
  have := h t g m
  omega
theorem look_app (here : Int) (t h : Int) : ∀ (L : Prs) (s : List Int × List Int), look here (L ++ [(t, h)]) s = if t = here ∧ h ∉ (look here L s).1 then ((look here L s).1 ++ [h], (look here L s).2 ++ [h]) else look here L s
  | [], (found, line) => by rw [List.nil_append]; rfl
  | (a, b) :: r, (found, line) => by
    rw [List.cons_append]
    unfold look
    by_cases c : a = here ∧ b ∉ found
    · rw [if_pos c, if_pos c]
      exact look_app here t h r _
    · rw [if_neg c, if_neg c]
      exact look_app here t h r _
theorem look_len (here : Int) : ∀ (L : Prs) (f l : List Int), (look here L (f, l)).1.length ≤ f.length + L.length ∧ (look here L (f, l)).2.length ≤ l.length + L.length
  | [], f, l => by simp [look]
  | (a, b) :: r, f, l => by
    unfold look
    by_cases c : a = here ∧ b ∉ f
    · rw [if_pos c]
      have := look_len here r (f ++ [b]) (l ++ [b])
      rw [List.length_append, List.length_append, List.length_singleton] at this
      rw [List.length_cons]
      omega
    · rw [if_neg c]
      have := look_len here r f l
      simp only [List.length_cons] at *
      omega
theorem round_app (t h : Int) : ∀ (L : Prs) (l : List Int), round (L ++ [(t, h)]) l = if t ∈ round L l ∨ h ∈ round L l then ins h (ins t (round L l)) else round L l
  | [], l => by rw [List.nil_append]; rfl
  | (a, b) :: r, l => by
    rw [List.cons_append]
    unfold round
    by_cases c : a ∈ l ∨ b ∈ l
    · rw [if_pos c, if_pos c]
      exact round_app t h r _
    · rw [if_neg c, if_neg c]
      exact round_app t h r _
theorem rounds_succ (E : Prs) : ∀ (m : Nat) (l : List Int), rounds E (m + 1) l = round E (rounds E m l)
  | 0, _ => rfl
  | m + 1, l => rounds_succ E m (round E l)
theorem ordr_succ (E : Prs) (n : Nat) : ∀ (m : Nat) (o : List Int), ordr E n (m + 1) o = (match ready E n (ordr E n m o) with | [] => ordr E n m o | p :: _ => ordr E n m o ++ [p])
  | 0, o => by
    show (match ready E n o with | [] => ordr E n 0 o | p :: _ => ordr E n 0 (o ++ [p])) = _
    rfl
  | m + 1, o => by
    show (match ready E n o with | [] => ordr E n (m + 1) o | p :: _ => ordr E n (m + 1) (o ++ [p])) = (match ready E n (match ready E n o with | [] => ordr E n m o | p :: _ => ordr E n m (o ++ [p])) with | [] => (match ready E n o with | [] => ordr E n m o | p :: _ => ordr E n m (o ++ [p])) | p :: _ => (match ready E n o with | [] => ordr E n m o | p :: _ => ordr E n m (o ++ [p])) ++ [p])
    cases ready E n o with
    | nil => exact ordr_succ E n m o
    | cons p r => exact ordr_succ E n m (o ++ [p])
theorem ordr_le {E : Prs} {n : Nat} (h : n ≤ 8) (m : Nat) : (ordr E n m []).length ≤ 8 := by
  have k := ordr_ok (E := E) (n := n) m [] (ord_nil E n)
  have := sub_len k.nd fun x hx => mem_rng.mpr (k.inr x hx)
  rw [rng_len] at this
  omega
end NetM


set_option Elab.async false
set_option maxRecDepth 100000
namespace K03
open PySem PySem.Spec PyProof.Rows L2
def top (i : Nat) : Stmt := PySem.Challenge.pw_boughwebs_k04_shapes_of_nets.main.body.getD i (.Pass ⟨0, 0, 0, 0⟩)
abbrev sBegun : Stmt := top 33
abbrev sMixed : Stmt := top 34
abbrev sTake : Stmt := top 35
abbrev sPick : Stmt := top 36
theorem scBegun : FnScope ["script", "large", "grain"] ["script"] (defScope sBegun) := ⟨rfl, rfl, rfl, by decide +kernel, rfl, by decide +kernel, by decide +kernel⟩
theorem scMixed : FnScope ["draw", "turn", "found", "great", "blend", "grain"] ["draw"] (defScope sMixed) := ⟨rfl, rfl, rfl, by decide +kernel, rfl, by decide +kernel, by decide +kernel⟩
theorem scTake : FnScope ["draw", "amount", "found"] ["draw", "amount"] (defScope sTake) := ⟨rfl, rfl, rfl, by decide +kernel, rfl, by decide +kernel, by decide +kernel⟩
theorem scPick : FnScope ["draw", "some"] ["draw", "some"] (defScope sPick) := ⟨rfl, rfl, rfl, by decide +kernel, rfl, by decide +kernel, by decide +kernel⟩
/-- the pairs of a state of draws -/
def drawL (lg cl : Addr) (r t : Int) : List (Key × V) := [(.inr "large", .ref lg), (.inr "rest", .int r), (.inr "cells", .ref cl), (.inr "turn", .int t)]
structure DrawAt (H : Hp) (d lg cl : Addr) : Prop where
  dc : ∃ r t : Int, H d = some (.dK (drawL lg cl r t))
  la : ∃ L : List Int, L.length ≤ 63 ∧ H lg = some (.lst (L.map V.int))
  ce : ∃ L : List Int, L.length ≤ 63 ∧ H cl = some (.lst (L.map V.int))
  ne : cl ≠ lg
/-- what the state of draws may change -/
def Kept (d lg : Addr) (H H' : Hp) : Prop := ∀ b o, H b = some o → b ≠ d → b ≠ lg → H' b = some o
def spBegun (K : PySem.W.Frag) : Sp := fun vs H Q _ => ∃ (a : Addr) (ns : List Int), vs = [.ref a] ∧ SqL K H a (ns.map V.int) ∧ ns.length ≤ 63 ∧
  ∀ (d lg cl : Addr) (H' : Hp), DrawAt H' d lg cl → Same H H' → H d = none → H lg = none → H cl = none → Q (.ref d) H'
section
variable {P : Program} {w : World} {K : PySem.W.Frag} {mg : Str → Option Value} {base : Heap}
theorem same_upd {H : Hp} {p : Addr} {o : HO} (h : H p = none) : Same H (upd H p o) := fun b x e => by
  rw [upd_ne (ne_of_none e h)]
  exact e
theorem int_at {ns : List Int} {i : Nat} {x : V} (h : (ns.map V.int)[i]? = some x) : ∃ z, ns[i]? = some z ∧ x = .int z := by
  rw [List.getElem?_map] at h
  cases e : ns[i]? with
  | none => rw [e] at h; cases h
  | some z => rw [e] at h; exact ⟨z, rfl, (Option.some.inj h).symm⟩
theorem cpow18 : CPow 10 18 := ⟨by decide, by decide, by decide⟩
theorem ok_begun {f : Addr} {fd : FuncData} (F : Fun K "_law_begun" "_law_begun" sBegun f fd) (mAbs : mg "abs" = none) : FnOk P w K mg base CX0 1 f fd ["script"] (spBegun K) := by
  refine F.ok scBegun (fun vs H Q E h => ?_) (fun cdv A outer s H vs Q E hr h => ?_)
  · obtain ⟨a, ns, rfl, _⟩ := h
    rfl
  · obtain ⟨a, ns, rfl, hS, hlen, k⟩ := h
    have nd := scBegun.nd
    refine ⟨_, pss_cons (ps_setLc (i := 1) (own := [("grain", 2)]) (g := gName 2) (by rfl) nd rfl rfl (sw_true rfl rfl rfl (by decide +kernel)) (pi_list (pv 0)) (blkOk_by (N := ["script", "large", "grain"]) (sc := defScope sBegun) (by decide +kernel)) (fun _ _ _ _ _ => pg_name (i := 2) nd rfl (Or.inl rfl))
        (fun _ _ _ _ _ => pts_one (pt_cmpR op_ge (pe_callB call_abs (by rfl) mAbs (by decide +kernel) (pa_cons (pv 2) pa_nil)) (pe_op op_pow pe_int pe_int) (nomark _)))
        (fun _ _ _ _ _ => pe_op op_sub (pe_callB call_abs (by rfl) mAbs (by decide +kernel) (pa_cons (pv 2) pa_nil)) (pe_op op_pow pe_int pe_int)))
      (pss_one (ps_ret (pe_disp (pps_cons pe_str (pv 1) (pps_cons pe_str pe_int (pps_cons pe_str
        (pe_lc (own := [("grain", 2)]) (g := gName 2) (by rfl) nd (pi_list (pv 0)) (blkOk_by (N := ["script", "large", "grain"]) (sc := defScope sBegun) (by decide +kernel)) (fun _ _ _ _ _ => pg_name (i := 2) nd rfl (Or.inl rfl)) (fun _ _ _ _ _ => pts_nil)
          (fun _ _ _ _ _ => pe_callB call_abs (by rfl) mAbs (by decide +kernel) (pa_cons (pv 2) pa_nil))) (pps_cons pe_str pe_int pps_nil)))) (by rfl) (by rfl) (fun z => by cases z) (by decide)))), ?_⟩
    refine ⟨_, rfl, a, rfl, ⟨_, hS⟩, fun lg nlg => lc_list (K := K) (a := a) (xs := ns.map V.int) (fun i H1 => Same H H1 ∧ ∃ L : List Int, L.length ≤ i ∧ H1 lg = some (.lst (L.map V.int)))
      ⟨same_upd nlg, [], Nat.le_refl _, upd_same⟩ (fun i H1 _ hp => hp.1.seq hS) ?_ ?_⟩
    · rintro i x H1 hi ⟨s1, L, hL, eL⟩
      obtain ⟨z, hz, rfl⟩ := int_at hi
      have hil : i < ns.length := (List.getElem?_eq_some_iff.mp hz).1
      refine ⟨rfl, _, rfl, _, rfl, _, _, rfl, rfl, cpow18, _, _, rfl, rfl, _, rfl, ?_⟩
      refine ite2 (fun _ => ?_) (fun _ => ⟨s1, L, by omega, eL⟩)
      refine ⟨_, rfl, _, rfl, _, _, rfl, rfl, cpow18, _, _, rfl, rfl, _, eL, small1000 (by rw [List.length_map]; omega), ?_, L ++ [(if z < 0 then -z else z) - 10 ^ (18 : Int).toNat], ?_, ?_⟩
      · intro b o e
        rw [upd_ne (ne_of_none e nlg)]
        exact s1 b o e
      · rw [List.length_append]
        show L.length + 1 ≤ i + 1
        omega
      · rw [upd_same, List.map_append]
        rfl
    · rintro H1 ⟨s1, L, hL, eL⟩
      rw [List.length_map] at hL
      refine fun d hd => ⟨_, rfl, ?_⟩
      have ndlg : lg ≠ d := ne_of_none eL hd
      have s2 : Same H (upd H1 d (.dK [])) := fun b o e => same_upd hd b o (s1 b o e)
      refine ⟨_, rfl, a, rfl, ⟨_, s2.seq hS⟩, fun cl ncl => lc_list (K := K) (a := a) (xs := ns.map V.int) (fun i H2 => Same (upd H1 d (.dK [])) H2 ∧ ∃ M : List Int, M.length ≤ i ∧ H2 cl = some (.lst (M.map V.int)))
        ⟨same_upd ncl, [], Nat.le_refl _, upd_same⟩ (fun i H2 _ hp => (Same.trans s2 hp.1).seq hS) ?_ ?_⟩
      · rintro i x H2 hi ⟨s3, M, hM, eM⟩
        obtain ⟨z, hz, rfl⟩ := int_at hi
        have hil : i < ns.length := (List.getElem?_eq_some_iff.mp hz).1
        refine ⟨rfl, ?_⟩
        dsimp only [tYes]
        refine iteT ?_
        refine ⟨_, rfl, _, rfl, _, eM, small1000 (by rw [List.length_map]; omega), ?_, M ++ [if z < 0 then -z else z], ?_, ?_⟩
        · intro b o e
          rw [upd_ne (ne_of_none e ncl)]
          exact s3 b o e
        · rw [List.length_append]
          show M.length + 1 ≤ i + 1
          omega
        · rw [upd_same, List.map_append]
          rfl
      · rintro H2 ⟨s3, M, hM, eM⟩
        rw [List.length_map] at hM
        have ed : H2 d = some (.dK []) := s3 d _ upd_same
        have el : H2 lg = some (.lst (L.map V.int)) := s3 lg _ (by rw [upd_ne ndlg]; exact eL)
        refine ⟨ed, drawL lg cl 0 0, rfl, (by show 4 ≤ 15; decide), ?_⟩
        have ncd : cl ≠ d := ne_of_none (o := .lst (M.map V.int)) (H := fun b => if b = cl then some (.lst (M.map V.int)) else none) (by simp) (by
          have : d ≠ cl := ne_of_none upd_same ncl
          simp [this]) 
        have ncg : cl ≠ lg := fun z => by
          rw [z, upd_ne ndlg, eL] at ncl
          cases ncl
        have s4 : Same H H2 := fun b o e => s3 b o (s2 b o e)
        refine k d lg cl _ ⟨⟨0, 0, ?_⟩, ⟨L, by omega, ?_⟩, ⟨M, by omega, ?_⟩, ncg⟩ ?_ ?_ nlg ?_
        · rw [upd_same]
          rfl
        · rw [upd_ne ndlg]
          exact el
        · rw [upd_ne ncd]
          exact eM
        · intro b o e
          have : b ≠ d := fun z => by
            subst z
            have := s1 b _ e
            rw [hd] at this
            cases this
          rw [upd_ne this]
          exact s4 b o e
        · cases e : H d with
          | none => rfl
          | some o => 
            have := s1 d _ e
            rw [hd] at this
            cases this
        · cases e : H cl with
          | none => rfl
          | some o => 
            have := s2 cl _ e
            rw [ncl] at this
            cases this
end
end K03


set_option Elab.async false
set_option maxRecDepth 100000
namespace K03
open PySem PySem.Spec PyProof.Rows L2
theorem kne {a b : Str} (h : ¬ a = b) : ¬ (Sum.inr a : Key) = Sum.inr b := fun z => h (Sum.inr.inj z)
theorem n_lr : ¬ (("large" : Str) = "rest") := by decide +kernel
theorem n_lc : ¬ (("large" : Str) = "cells") := by decide +kernel
theorem n_lt : ¬ (("large" : Str) = "turn") := by decide +kernel
theorem n_rc : ¬ (("rest" : Str) = "cells") := by decide +kernel
theorem n_rt : ¬ (("rest" : Str) = "turn") := by decide +kernel
theorem n_ct : ¬ (("cells" : Str) = "turn") := by decide +kernel
variable (lg cl : Addr) (r t z : Int)
theorem g_large : valV (drawL lg cl r t) (.inr "large") = some (.ref lg) := valV_pos rfl
theorem g_rest : valV (drawL lg cl r t) (.inr "rest") = some (.int r) := (valV_neg (kne n_lr)).trans (valV_pos rfl)
theorem g_cells : valV (drawL lg cl r t) (.inr "cells") = some (.ref cl) := (valV_neg (kne n_lc)).trans ((valV_neg (kne n_rc)).trans (valV_pos rfl))
theorem g_turn : valV (drawL lg cl r t) (.inr "turn") = some (.int t) := (valV_neg (kne n_lt)).trans ((valV_neg (kne n_rt)).trans ((valV_neg (kne n_ct)).trans (valV_pos rfl)))
theorem p_rest : putK (drawL lg cl r t) (.inr "rest") (.int z) = drawL lg cl z t := by
  simp [putK, drawL, n_lr, Ne.symm n_rc, Ne.symm n_rt]
theorem p_turn : putK (drawL lg cl r t) (.inr "turn") (.int z) = drawL lg cl r z := by
  simp [putK, drawL, n_lt, n_rt, n_ct]
theorem dl4 : (drawL lg cl r t).length < sizeLine := by show 4 < sizeLine; decide
end K03


set_option Elab.async false
set_option maxRecDepth 100000
namespace K03
open PySem PySem.Spec PyProof.Rows L2
section
variable {P : Program} {w : World} {K : PySem.W.Frag} {mg : Str → Option Value} {base : Heap}
theorem Kept.refl {d lg : Addr} {H : Hp} : Kept d lg H H := fun _ _ e _ _ => e
theorem Kept.trans {d lg : Addr} {H H1 H2 : Hp} (a : Kept d lg H H1) (b : Kept d lg H1 H2) : Kept d lg H H2 := fun x o e h1 h2 => b x o (a x o e h1 h2) h1 h2
theorem Kept.d {d lg : Addr} {H : Hp} {o : HO} : Kept d lg H (upd H d o) := fun x u e h1 _ => by rw [upd_ne h1]; exact e
theorem Kept.l {d lg : Addr} {H : Hp} {o : HO} : Kept d lg H (upd H lg o) := fun x u e _ h2 => by rw [upd_ne h2]; exact e
theorem Kept.new {d lg p : Addr} {H : Hp} {o : HO} (h : H p = none) : Kept d lg H (upd H p o) := fun x u e _ _ => by rw [upd_ne (ne_of_none e h)]; exact e
theorem dne {H : Hp} {d p : Addr} {kvs : List (Key × V)} {xs : List V} (h : H d = some (.dK kvs)) (h' : H p = some (.lst xs)) : d ≠ p := ne_of h h' (by intro z; cases z)
/-- mixed: some int; the state's turn has changed, nothing else -/
def spMixed : Sp := fun vs H Q _ => ∃ (d lg cl : Addr), vs = [.ref d] ∧ DrawAt H d lg cl ∧
  ∀ (z : Int) (H' : Hp), DrawAt H' d lg cl → Kept d lg H H' → H' lg = H lg → Q (.int z) H'
theorem ok_mixed {f : Addr} {fd : FuncData} (F : Fun K "_law_mixed" "_law_mixed" sMixed f fd) (mInt : mg "int" = none) : FnOk P w K mg base CX0 1 f fd ["draw"] spMixed := by
  refine F.ok scMixed (fun vs H Q E h => ?_) (fun cdv A outer s H vs Q E hr h => ?_)
  · obtain ⟨d, lg, cl, rfl, _⟩ := h
    rfl
  · obtain ⟨d, lg, cl, rfl, D, k⟩ := h
    have nd := scMixed.nd
    have hu := hu_of hr
    obtain ⟨⟨r, t, hd⟩, ⟨L, hL, hl⟩, ⟨M, hM, hc⟩, ncl⟩ := id D
    have ndl := dne hd hl
    have ndc := dne hd hc
    refine ⟨_, pss_cons (ps_dput hu (pv 0) pe_str (pe_op op_add (pe_dget hu (pv 0) pe_str (fun _ _ => rfl)) pe_int) rfl)
      (pss_cons (ps_par (i := 1) (j := 2) (by rfl) nd rfl rfl (by decide) rfl rfl (pa_cons (pe_callTy call_int1 (by rfl) mInt (by decide +kernel) (pa_cons (pe_dget hu (pv 0) pe_str (fun _ _ => rfl)) pa_nil)) (pa_cons pe_int pa_nil)) (by rfl))
      (pss_cons (ps_for PassesOwn.never rfl (pi_list (pe_lst (pa_cons pe_int (pa_cons pe_int (pa_cons pe_int pa_nil))))) (pg_name (i := 3) nd rfl (Or.inl rfl))
        (pss_cons (ps_set (i := 4) nd rfl (Or.inl rfl) (pe_op op_modN (pe_op op_add (pe_op op_mul (pv 1) pe_int) (pe_op op_fdivN (pv 3) pe_int)) (pv 3)))
        (pss_cons (ps_for PassesOwn.never rfl (pi_list (pe_dget hu (pv 0) pe_str (fun _ _ => rfl))) (pg_name (i := 5) nd rfl (Or.inl rfl))
          (pss_one (ps_set (i := 4) nd rfl (Or.inl rfl) (pe_op op_modN (pe_op op_add (pe_op op_mul (pv 4) pe_int) (pe_callTy call_int1 (by rfl) mInt (by decide +kernel) (pa_cons (pv 5) pa_nil))) (pv 3)))))
        (pss_one (ps_set (i := 2) nd rfl (Or.inl rfl) (pe_op op_add (pe_op op_mul (pv 2) pe_int) (pe_op op_modN (pe_op op_pow (pv 4) pe_int) (pv 3))))))))
      (pss_one (ps_ret (pv 2))))), ?_⟩
    -- draw['turn'] = draw['turn'] + 1
    refine ⟨_, rfl, d, _, rfl, (g_turn lg cl r t) ▸ DGet.k (k := Sum.inr "turn") hd, _, _, rfl, rfl, _, rfl, d, _, rfl, DPut.k (k := Sum.inr "turn") hd (dl4 lg cl r t), ?_⟩
    rw [p_turn]
    have k1 : Kept d lg H (upd H d (.dK (drawL lg cl r (t + 1)))) := Kept.d
    have hd1 : (upd H d (.dK (drawL lg cl r (t + 1)))) d = some (.dK (drawL lg cl r (t + 1))) := upd_same
    -- turn, found
    refine ⟨_, rfl, d, _, rfl, (g_turn lg cl r (t + 1)) ▸ DGet.k (k := Sum.inr "turn") hd1, .inl ⟨_, rfl, _, _, rfl, ?_⟩⟩
    -- for great in ..
    refine ⟨by decide, fun p np => ?_⟩
    have ndp : d ≠ p := ne_of_none hd1 np
    have hl1 : (upd H d (.dK (drawL lg cl r (t + 1)))) lg = some (.lst (L.map V.int)) := by rw [upd_ne ndl.symm]; exact hl
    have hc1 : (upd H d (.dK (drawL lg cl r (t + 1)))) cl = some (.lst (M.map V.int)) := by rw [upd_ne ndc.symm]; exact hc
    have nlp : lg ≠ p := ne_of_none hl1 np
    have ncp : cl ≠ p := ne_of_none hc1 np
    let H2 := upd (upd H d (.dK (drawL lg cl r (t + 1)))) p (.lst (([2147483629, 2147483587, 2147483579] : List Int).map V.int))
    have hp2 : H2 p = some (.lst (([2147483629, 2147483587, 2147483579] : List Int).map V.int)) := upd_same
    have hd2 : H2 d = some (.dK (drawL lg cl r (t + 1))) := by show upd _ p _ d = _; rw [upd_ne ndp]; exact hd1
    have hl2 : H2 lg = some (.lst (L.map V.int)) := by show upd _ p _ lg = _; rw [upd_ne nlp]; exact hl1
    have hc2 : H2 cl = some (.lst (M.map V.int)) := by show upd _ p _ cl = _; rw [upd_ne ncp]; exact hc1
    have D2 : DrawAt H2 d lg cl := ⟨⟨_, _, hd2⟩, ⟨L, hL, hl2⟩, ⟨M, hM, hc2⟩, ncl⟩
    have k2 : Kept d lg H H2 := k1.trans (Kept.new np)
    refine ⟨p, rfl, ⟨_, SqL.of hp2⟩, for_list (K := K) (a := p) (xs := ([2147483629, 2147483587, 2147483579] : List Int).map V.int) (fun i σ H3 => ∃ (x : Int) (v3 v4 v5 : Option V), σ = [some (.ref d), some (.int (t + 1)), some (.int x), v3, v4, v5] ∧ H3 = H2)
      ⟨0, _, _, _, rfl, rfl⟩ (fun i σ H3 _ ⟨_, _, _, _, _, e⟩ => by rw [e]; exact SqL.of hp2) ?_ ?_⟩
    · rintro i y σ H3 hi ⟨x, v3, v4, v5, rfl, rfl⟩
      obtain ⟨g, hg, rfl⟩ := int_at hi
      have hgb : 0 < g ∧ g < 2147483648 := by
        have := List.mem_of_getElem? hg
        simp only [List.mem_cons, List.mem_nil_iff, or_false] at this
        omega
      refine ⟨_, rfl, _, _, rfl, rfl, .inr (by decide), _, rfl, _, _, rfl, rfl, ⟨by decide, by decide⟩, _, _, rfl, rfl, _, rfl, _, _, rfl, rfl, (by omega), ?_⟩
      have b0 : 0 ≤ ((t + 1) * 69621 + g.fdiv 7).fmod g ∧ ((t + 1) * 69621 + g.fdiv 7).fmod g < g := ⟨Int.fmod_nonneg_of_pos _ hgb.1, Int.fmod_lt_of_pos _ hgb.1⟩
      -- the inner loop
      refine ⟨_, rfl, d, _, rfl, (g_cells lg cl r (t + 1)) ▸ DGet.k (k := Sum.inr "cells") hd2, cl, rfl, ⟨_, SqL.of hc2⟩, for_list (K := K) (a := cl) (xs := M.map V.int) (fun j σ H4 => ∃ (b : Int) (v5 : Option V), σ = [some (.ref d), some (.int (t + 1)), some (.int x), some (.int g), some (.int b), v5] ∧ H4 = H2 ∧ 0 ≤ b ∧ b < g)
        ⟨_, _, rfl, rfl, b0⟩ (fun i σ H3 _ ⟨_, _, _, e, _⟩ => by rw [e]; exact SqL.of hc2) ?_ ?_⟩
      · rintro j y σ H4 hj ⟨b, v5, rfl, rfl, hb1, hb2⟩
        obtain ⟨m, hm, rfl⟩ := int_at hj
        refine ⟨_, rfl, _, _, rfl, rfl, .inr (by decide), _, rfl, .inl ⟨_, rfl, _, _, rfl, rfl, _, rfl, _, _, rfl, rfl, (by omega), ?_⟩⟩
        exact ⟨_, _, rfl, rfl, Int.fmod_nonneg_of_pos _ hgb.1, Int.fmod_lt_of_pos _ hgb.1⟩
      · rintro σ H4 ⟨b, v5, rfl, rfl, hb1, hb2⟩
        refine ⟨_, rfl, _, _, rfl, rfl, .inr (by decide), _, rfl, _, _, rfl, rfl, ⟨by decide, by decide, by omega⟩, _, rfl, _, _, rfl, rfl, (by omega), _, _, rfl, rfl, ?_⟩
        exact ⟨_, _, _, _, rfl, rfl⟩
    · rintro σ H3 ⟨x, v3, v4, v5, rfl, rfl⟩
      exact ⟨_, rfl, k x H2 D2 k2 (hl2.trans hl.symm)⟩
end
end K03


set_option Elab.async false
set_option maxRecDepth 100000
namespace K03
open PySem PySem.Spec PyProof.Rows L2
/-- a draw below n -/
def spTake : Sp := fun vs H Q _ => ∃ (d lg cl : Addr) (n : Int), vs = [.ref d, .int n] ∧ DrawAt H d lg cl ∧ 0 < n ∧ n < 1000000 ∧
  ∀ (z : Int) (H' : Hp), 0 ≤ z → z < n → DrawAt H' d lg cl → Kept d lg H H' → Q (.int z) H'
theorem dp_ints {K : PySem.W.Frag} {H : Hp} {a : Addr} {L : List Int} (h : SqL K H a (L.map V.int)) : Dp K H (.ref a) (.list (L.map PyData.int)) := by
  refine .lst h ?_
  clear h
  induction L with
  | nil => exact .nil
  | cons x r ih => exact .cons (.int x) ih
theorem lay_ints (L : List Int) : PyData.canLayAll0 (L.map PyData.int) = true := by
  induction L with
  | nil => rfl
  | cons x r ih => simp [PyData.canLayAll0, PyData.canLay0, ih]
theorem dep_ints (L : List Int) : PyData.depthAll (L.map PyData.int) ≤ 1 := by
  induction L with
  | nil => simp [PyData.depthAll]
  | cons x r ih => simp [PyData.depthAll, PyData.depth]; omega
theorem shp_ints (L : List Int) : SeqAt.shaped (.list (L.map PyData.int)) = true := by
  have h := dep_ints L
  simp [SeqAt.shaped, PyData.canLay0, lay_ints, PyData.depth]
  omega
section
variable {P : Program} {w : World} {K : PySem.W.Frag} {mg : Str → Option Value} {base : Heap}
theorem ok_take {f fM : Addr} {fd fdM : FuncData} (F : Fun K "_law_take" "_law_take" sTake f fd) (FM : Fun K "_law_mixed" "_law_mixed" sMixed fM fdM) (bM : Binds K fdM ["draw"] []) (gM : mg "_law_mixed" = some (.ref fM)) (mInt : mg "int" = none) : FnOk P w K mg base CX0 2 f fd ["draw", "amount"] spTake := by
  have GM : FnOk P w K mg base CX0 1 fM fdM ["draw"] spMixed := ok_mixed FM mInt
  refine F.ok scTake (fun vs H Q E h => ?_) (fun cdv A outer s H vs Q E hr h => ?_)
  · obtain ⟨d, lg, cl, n, rfl, _⟩ := h
    rfl
  · obtain ⟨d, lg, cl, n, rfl, D, hn, hn2, k⟩ := h
    have nd := scTake.nd
    have hu := hu_of hr
    refine ⟨_, pss_cons (ps_if (pt_cmpR op_eq (pe_dget hu (pv 0) pe_str (fun _ _ => rfl)) pe_int (nomark _))
        (pss_one (ps_dput hu (pv 0) pe_str (pe_ifExp (pt_cmpR (op_neD hr.units) (pe_dget hu (pv 0) pe_str (fun _ _ => rfl)) (pe_lst pa_nil) (nomark _))
          (pe_bm PySem.F.plainAttrs_list PySem.F.slot_list_pop PySem.F.type_list_pop mt_popAt (pe_dget hu (pv 0) pe_str (fun _ _ => rfl)) (pa_cons pe_int pa_nil))
          (pe_call GM hr rfl gM FM.kp bM .nil pass0 (pa_cons (pv 0) pa_nil))) rfl)) pss_nil)
      (pss_cons (ps_set (i := 2) nd rfl (Or.inl rfl) (pe_op op_modN (pe_callTy call_int1 (by rfl) mInt (by decide +kernel) (pa_cons (pe_dget hu (pv 0) pe_str (fun _ _ => rfl)) pa_nil)) (pv 1)))
      (pss_cons (ps_dput hu (pv 0) pe_str (pe_op op_fdivN (pe_callTy call_int1 (by rfl) mInt (by decide +kernel) (pa_cons (pe_dget hu (pv 0) pe_str (fun _ _ => rfl)) pa_nil)) (pv 1)) rfl)
      (pss_one (ps_ret (pv 2))))), ?_⟩
    -- what follows the if, from any state of draws
    have after : ∀ H1 : Hp, DrawAt H1 d lg cl → Kept d lg H H1 →
        tAsg (tOp (rI (fun _ j => j ≠ 0) fun i j => .int (i.fmod j)) (tCB (fun xs H Q => (∃ i, xs = [.int i] ∧ Q (.int i) H) ∨ ∃ k, xs = [.bl k] ∧ Q (.int (if k then 1 else 0)) H) (tCons (tDGet (tVar 0) (tC (.str "rest"))) tNil)) (tVar 1)) (gName 2)
          { nx := fun σ2 H2 => sDPut (tVar 0) (tC (.str "rest")) (tOp (rI CDivN fun i j => .int (i.fdiv j)) (tCB (fun xs H Q => (∃ i, xs = [.int i] ∧ Q (.int i) H) ∨ ∃ k, xs = [.bl k] ∧ Q (.int (if k then 1 else 0)) H) (tCons (tDGet (tVar 0) (tC (.str "rest"))) tNil)) (tVar 1))
              { nx := fun σ3 H3 => tRet (tVar 2) { nx := fun _ H' => Q .non H', rt := Q } σ3 H3, rt := Q } σ2 H2, rt := Q } (start ["draw", "amount", "found"] [.ref d, .int n]) H1 := by
      intro H1 D1 k1
      obtain ⟨⟨r, t, hd⟩, ⟨L, hL, hl⟩, ⟨M, hM, hc⟩, ncl⟩ := id D1
      have ndl := dne hd hl
      have ndc := dne hd hc
      refine ⟨_, rfl, d, _, rfl, (g_rest lg cl r t) ▸ DGet.k (k := Sum.inr "rest") hd, .inl ⟨_, rfl, _, rfl, _, _, rfl, rfl, (by omega), ?_⟩⟩
      refine ⟨_, rfl, d, _, rfl, (g_rest lg cl r t) ▸ DGet.k (k := Sum.inr "rest") hd, .inl ⟨_, rfl, _, rfl, _, _, rfl, rfl, ⟨by omega, by omega⟩, _, rfl, d, _, rfl, DPut.k (k := Sum.inr "rest") hd (dl4 lg cl r t), ?_⟩⟩
      rw [p_rest]
      refine ⟨_, rfl, k _ _ (Int.fmod_nonneg_of_pos _ hn) (Int.fmod_lt_of_pos _ hn) ⟨⟨_, _, upd_same⟩, ⟨L, hL, by rw [upd_ne ndl.symm]; exact hl⟩, ⟨M, hM, by rw [upd_ne ndc.symm]; exact hc⟩, ncl⟩ (k1.trans Kept.d)⟩
    obtain ⟨⟨r, t, hd⟩, ⟨L, hL, hl⟩, ⟨M, hM, hc⟩, ncl⟩ := id D
    have ndl := dne hd hl
    have ndc := dne hd hc
    refine ⟨_, rfl, d, _, rfl, (g_rest lg cl r t) ▸ DGet.k (k := Sum.inr "rest") hd, rfl, _, rfl, ite2 (fun _ => ?_) (fun _ => after H D Kept.refl)⟩
    -- draw['large'] != []
    refine ⟨_, rfl, d, _, rfl, (g_large lg cl r t) ▸ DGet.k (k := Sum.inr "large") hd, by decide, fun e ne => ?_⟩
    have hd1 : (upd H e (.lst [])) d = some (.dK (drawL lg cl r t)) := by rw [upd_ne (ne_of_none hd ne)]; exact hd
    have hl1 : (upd H e (.lst [])) lg = some (.lst (L.map V.int)) := by rw [upd_ne (ne_of_none hl ne)]; exact hl
    have hc1 : (upd H e (.lst [])) cl = some (.lst (M.map V.int)) := by rw [upd_ne (ne_of_none hc ne)]; exact hc
    have D1 : DrawAt (upd H e (.lst [])) d lg cl := ⟨⟨_, _, hd1⟩, ⟨L, hL, hl1⟩, ⟨M, hM, hc1⟩, ncl⟩
    refine ⟨_, _, dp_ints (SqL.of hl1), .lst (SqL.of upd_same) .nil, shp_ints L, rfl, _, rfl, ?_⟩
    cases L with
    | nil =>
      refine iteF ?_
      refine ⟨_, rfl, d, lg, cl, rfl, D1, fun z H2 D2 k2 e2 => ?_⟩
      obtain ⟨⟨r2, t2, hd2⟩, ⟨L2, hL2, hl2⟩, ⟨M2, hM2, hc2⟩, _⟩ := id D2
      refine ⟨_, rfl, d, _, rfl, DPut.k (k := Sum.inr "rest") hd2 (dl4 lg cl r2 t2), ?_⟩
      rw [p_rest]
      exact after _ ⟨⟨_, _, upd_same⟩, ⟨L2, hL2, by rw [upd_ne ndl.symm]; exact hl2⟩, ⟨M2, hM2, by rw [upd_ne ndc.symm]; exact hc2⟩, ncl⟩ ((Kept.new ne).trans (k2.trans Kept.d))
    | cons x L =>
      refine iteT ?_
      refine ⟨_, rfl, d, .ref lg, rfl, (g_large lg cl r t) ▸ DGet.k (k := Sum.inr "large") hd1, .inl ⟨rfl, _, SqL.of hl1⟩, lg, _, 0, 0, .int x, rfl, rfl, hl1, by decide, by decide, ?_, rfl, ?_⟩
      · show seqIndex? 0 (L.map V.int).length.succ = some 0
        simp [seqIndex?]
      · have hd3 : (upd (upd H e (.lst [])) lg (.lst (((x :: L).map V.int).eraseIdx 0))) d = some (.dK (drawL lg cl r t)) := by rw [upd_ne ndl]; exact hd1
        refine ⟨_, rfl, d, _, rfl, DPut.k (k := Sum.inr "rest") hd3 (dl4 lg cl r t), ?_⟩
        rw [p_rest]
        refine after _ ⟨⟨_, _, upd_same⟩, ⟨L, by simp at hL; omega, by rw [upd_ne ndl.symm, upd_same]; rfl⟩, ⟨M, hM, by rw [upd_ne ndc.symm, upd_ne ncl]; exact hc1⟩, ncl⟩ ((Kept.new ne).trans (Kept.l.trans Kept.d))
end
end K03


set_option Elab.async false
set_option maxRecDepth 100000
namespace K03
open PySem PySem.Spec PyProof.Rows L2
/-- one of a list's items -/
def spPick : Sp := fun vs H Q _ => ∃ (d lg cl a : Addr) (xs : List V), vs = [.ref d, .ref a] ∧ DrawAt H d lg cl ∧ H a = some (.lst xs) ∧ a ≠ lg ∧ 0 < xs.length ∧ xs.length < 1000 ∧
  ∀ (i : Nat) (x : V) (H' : Hp), xs[i]? = some x → DrawAt H' d lg cl → Kept d lg H H' → Q x H'
section
variable {P : Program} {w : World} {K : PySem.W.Frag} {mg : Str → Option Value} {base : Heap}
theorem ok_pick {f fT fM : Addr} {fd fdT fdM : FuncData} (F : Fun K "_law_pick" "_law_pick" sPick f fd) (FT : Fun K "_law_take" "_law_take" sTake fT fdT) (bT : Binds K fdT ["draw", "amount"] []) (gT : mg "_law_take" = some (.ref fT))
    (FM : Fun K "_law_mixed" "_law_mixed" sMixed fM fdM) (bM : Binds K fdM ["draw"] []) (gM : mg "_law_mixed" = some (.ref fM)) (mInt : mg "int" = none) (mLen : mg "len" = none) : FnOk P w K mg base CX0 3 f fd ["draw", "some"] spPick := by
  have GT : FnOk P w K mg base CX0 2 fT fdT ["draw", "amount"] spTake := ok_take FT FM bM gM mInt
  refine F.ok scPick (fun vs H Q E h => ?_) (fun cdv A outer s H vs Q E hr h => ?_)
  · obtain ⟨d, lg, cl, a, xs, rfl, _⟩ := h
    rfl
  · obtain ⟨d, lg, cl, a, xs, rfl, D, ha, nal, h0, h1, k⟩ := h
    have nda : d ≠ a := by
      obtain ⟨⟨r, t, hd⟩, _⟩ := D
      exact dne hd ha
    refine ⟨_, pss_one (ps_ret (pe_ix ix_list (pv 1) (pe_call GT hr rfl gT FT.kp bT .nil pass0 (pa_cons (pv 0) (pa_cons (pe_callB call_len_seq (by rfl) mLen PySem.boot_len (pa_cons (pv 1) pa_nil)) pa_nil))) (fun _ _ => rfl))), ?_⟩
    refine ⟨_, rfl, _, rfl, _, rfl, a, xs, rfl, .inl (SqL.of ha), d, lg, cl, _, rfl, D, (by omega), (by omega), fun z H' hz1 hz2 D' k' => ?_⟩
    obtain ⟨j, rfl⟩ := Int.eq_ofNat_of_zero_le hz1
    have hj : j < xs.length := by omega
    have ex := List.getElem?_eq_getElem hj
    exact ⟨a, xs, _, _, rfl, rfl, SqL.of (k' a _ ha nda.symm nal), atI_nat ex, k j _ H' ex D' k'⟩
end
end K03


set_option Elab.async false
set_option maxRecDepth 100000
set_option maxHeartbeats 1000000
set_option linter.all false
namespace GL
open PySem PySem.Spec PyProof.Rows L2
/-! Promises of defs that may ask for repr: nothing is being shown around the call -/
structure FnG (P : Program) (w : World) (K : PySem.W.Frag) (mg : Str → Option Value) (base : Heap) (CX : CXT) (k : Nat) (f : Addr) (fd : FuncData) (ps : List Str) (sp : Sp) : Prop where
  len : ∀ vs H Q E, sp vs H Q E → vs.length = ps.length
  run : ∀ (A : Around) (outer : List Env) (s : Shared) (H : Hp) (args : Args) (us : List Value) (vs : List V) (Q : VK) (E : XK), A.guards = some [] → Room k A → Env0 P w K mg base A outer s H → BindsTo s fd args (ps.zip us) → Vals vs us → sp vs H Q E →
    codeAny (model P w) A (.call (.ref f) args) (CR CX outer P w H s Q E) s
section
variable {P : Program} {w : World} {K : PySem.W.Frag} {mg : Str → Option Value} {base : Heap} {CX : CXT}
theorem FnG.of {k : Nat} {f : Addr} {fd : FuncData} {ps : List Str} {sp : Sp} (F : FnOk P w K mg base CX k f fd ps sp) : FnG P w K mg base CX k f fd ps sp :=
  ⟨F.len, fun A outer s H args us vs Q E _ => F.run A outer s H args us vs Q E⟩
/-- a def by its body -/
theorem fng_of {k : Nat} {f : Addr} {name qual : Str} {st : Stmt} {dV kV doc pm cdv ct oc : Value} {an od : Option Addr} {osl : Array (Option Value)} {N ps : List Str} {sp : Sp}
    (lk : K.lookup f = some ⟨oc, od, .func (PySem.W.fnOf name qual (defArgs st) (defBody st) (defScope st) dV kV doc pm an cdv ct), osl⟩) (hcd : PySem.W.codeIn K cdv qual = true) (S : FnScope N ps (defScope st))
    (len : ∀ vs H Q E, sp vs H Q E → vs.length = ps.length)
    (hbody : ∀ (A : Around) (outer : List Env) (s : Shared) (H : Hp) (vs : List V) (Q : VK) (E : XK), A.guards = some [] → Room k (A.deeper (envOfC qual (defScope st) s.heap.objs.size f cdv)) → sp vs H Q E →
      ∃ t, PSs (cxOf CX P w K mg base N qual (defScope st) f cdv A outer s H E) (defBody st) t ∧ t { nx := fun _ H' => Q .non H', rt := Q } (start N vs) H) :
    FnG P w K mg base CX (k + 1) f (PySem.W.fnOf name qual (defArgs st) (defBody st) (defScope st) dV kV doc pm an cdv ct) ps sp := by
  refine ⟨len, fun A outer s H args us vs Q E hga hr e0 hb r hsp => ?_⟩
  have KX : K.In s.heap := e0.mod.kin.keeps fun b o e => (e0.bs b o e).1
  have lim : s.heap.NoLimit := e0.mod.nolimit.keeps fun b o e => (e0.bs b o e).1
  refine codeAny_call_function hr.depth (KX _ _ lk) rfl S.co S.gen rfl (PySem.W.codeRec_of KX hcd) (hb _ _ _ _ (wpAny_newFunctionEnv_cells S.kind (fun y hy => ?_) fun env he s1 x => ?_))
  · obtain ⟨n, v⟩ := y
    rcases S.par n (List.of_mem_zip hy).1 with q | q
    · exact .inl q
    · exact .inr ⟨q, PySem.W.cellsFrom_some _ _ _ (.inl q)⟩
  · subst he
    refine ⟨lim.keeps x.toInCall.keep, codeAny_func ?_⟩
    obtain ⟨t, ht, hq⟩ := hbody A outer s H vs Q E hga (hr.deeper _) hsp
    have I : Inv (cxOf CX P w K mg base N qual (defScope st) f cdv A outer s H E) [] (start N vs) H s1 := inv_start S hr.hd e0 (len _ _ _ _ hsp) r x
    refine wpAny_mono (ht.run [] s1 (start N vs) H _ I hq) (fun fl s' hs => ?_) fun e s' hs => hs
    cases fl with
    | ret u => exact (by obtain ⟨v, σ', H', J', rv, q'⟩ := hs; exact ⟨v, H', J'.os, J'.bare, J'.base, J'.hok, rv, q'⟩)
    | next => exact (by obtain ⟨σ', H', J', q'⟩ := hs; exact ⟨V.non, H', J'.os, J'.bare, J'.base, J'.hok, rfl, q'⟩)
    | brk => exact (by obtain ⟨_, _, _, q'⟩ := hs; exact q'.elim)
    | cont => exact (by obtain ⟨_, _, _, q'⟩ := hs; exact q'.elim)
theorem okG {x qual : Str} {st : Stmt} {f : Addr} {fd : FuncData} {N ps : List Str} {k : Nat} {sp : Sp} (F : Fun K x qual st f fd) (S : FnScope N ps (defScope st)) (len : ∀ vs H Q E, sp vs H Q E → vs.length = ps.length)
    (hbody : ∀ (cdv : Value) (A : Around) (outer : List Env) (s : Shared) (H : Hp) (vs : List V) (Q : VK) (E : XK), A.guards = some [] → Room k (A.deeper (envOfC qual (defScope st) s.heap.objs.size f cdv)) → sp vs H Q E →
      ∃ t, PSs (cxOf CX0 P w K mg base N qual (defScope st) f cdv A outer s H E).nox (defBody st) t ∧ t { nx := fun _ H' => Q .non H', rt := Q } (start N vs) H) : FnG P w K mg base CX0 (k + 1) f fd ps sp := by
  obtain ⟨oc, od, kV, doc, pm, an, cdv, ct, osl, rfl, lk, hcd⟩ := F.ex
  refine fng_of lk hcd S len fun A outer s H vs Q E hga hr hsp => ?_
  obtain ⟨t, h, q⟩ := hbody cdv A outer s H vs Q E hga hr hsp
  exact ⟨t, h.nox, q⟩
end
section
variable {X : Cx} {CX : CXT} {k : Nat} {f : Addr} {fd : FuncData} {ps : List Str} {sp : Sp} {dvs : List V} {ds : List Value} {E : XK} {x : Str} {p pos : Pos} {e : Expr} {es : List Expr} {t : TA}
theorem run_g {pins : List (Addr × Obj)} {σ : L2.St} {H : Hp} {s : Shared} {Q : VK} {us : List Value} {vs : List V} (F : FnG X.prog X.w X.K X.mg X.base CX k f fd ps sp) (hga : X.A.guards = some []) (hr : Room k X.A) (hb : L2.Binds X.K fd ps ds) (hd : Vals dvs ds) (hx : Passes CX X E)
    (I : Inv X pins σ H s) (r : Vals vs us) (h : sp (vs ++ dvs) H Q E) : wpAny (model X.prog X.w) X.A (call (.ref f) us) (EP X pins σ Q) X.xe s := by
  have r2 : Vals (vs ++ dvs) (us ++ ds) := r.append hd
  have hl : (us ++ ds).length = ps.length := by rw [← r2.length]; exact F.len _ _ _ _ h
  refine wpAny_call (codeAny_mono (F.run X.A X.stack s H ⟨us, []⟩ (us ++ ds) (vs ++ dvs) Q E hga hr I.env0 (hb s us I.kIn hl) r2 h) fun r s' hq => ?_)
  cases r with
  | error e => exact hx pins σ H s e s' I hq
  | ok fl =>
    cases fl with
    | ret u => exact I.after hq
    | next => exact False.elim hq
    | brk => exact False.elim hq
    | cont => exact False.elim hq
/-- f(e, ..) where f may ask for repr -/
theorem pe_callG (F : FnG X.prog X.w X.K X.mg X.base CX k f fd ps sp) (hga : X.A.guards = some []) (hr : Room k X.A) (hg : Gl X x) (hm : X.mg x = some (.ref f)) (hk : PySem.W.keepIn X.K (.ref f) = true) (hb : L2.Binds X.K fd ps ds) (hd : Vals dvs ds) (hx : Passes CX X E)
    (ha : PA X (e :: es) t) (hdb : (x == ("__debug__" : Str)) = false := by decide) (he : starEach (e :: es) X.env = (false, eval e X.env) :: starEach es X.env := by rfl) (hpl : (backTo pos (starEach es X.env)).any (·.1) = false := by rfl) :
    PE X (.Call (.Name x p) (e :: es) [] pos) (tCall sp dvs E t) :=
  ⟨fun pins s σ H Q I h => wpAny_Call_Name_kw (ld_glob I hg hm (PySem.W.callWith_K (h₀ := X.base) I.ok.mod.kin hk (thn (ha.run pos pins s σ H _ I h) fun us s1 ⟨vs, H1, I1, r, q⟩ => ⟨I1.kIn, run_g F hga hr hb hd hx I1 r q⟩) he hpl) hdb)⟩
end
/-- a value that reads as the data d, whatever the state -/
def RdV (K : PySem.W.Frag) (H : Hp) (v : V) (d : PyData) : Prop := ∀ (X : Cx) (pins : List (Addr × Obj)) (σ : L2.St) (s : Shared) (u : Value), X.K = K → Inv X pins σ H s → RelV v u → ∃ as, Reads s.heap u d as ∧ (d.hasDict = true → sysModules ∉ as)
/-- what is asked of data that is shown -/
structure Shown (d : PyData) : Prop where
  sh : d.showable = true
  dp : d.depth ≤ 60
  sz : d.shown.length ≤ sizeLine
section
variable {X : Cx}
theorem call_repr {K : PySem.W.Frag} (hk : X.K = K) (hga : X.A.guards = some []) (hu : X.A.units + 70 < cLine) : CallR X (.builtin "repr") (fun xs H Q => ∃ (v : V) (d : PyData), xs = [v] ∧ RdV K H v d ∧ Shown d ∧ Q (.str d.shown) H) := by
  intro pins s σ H xs us Q I r h
  obtain ⟨v, d, rfl, hd, ⟨hs, hdp, hz⟩, q⟩ := h
  cases r with
  | @cons _ u _ _ r1 rr =>
    cases rr
    obtain ⟨as, R, hm⟩ := hd X pins σ s u hk I r1
    cases R with
    | none => exact P.repr_of_none ⟨.str _, H, I.tok _, ⟨_, rfl⟩, q⟩
    | bool b => exact P.repr_of_bool ⟨.str _, H, I.tok _, ⟨_, rfl⟩, q⟩
    | int i t => exact P.repr_of_int (by simpa [PyData.showable] using hs) ⟨.str _, H, I.tok _, ⟨_, rfl⟩, q⟩
    | str x t => exact P.repr_of_str ⟨.str _, H, I.tok _, ⟨_, rfl⟩, q⟩ hz
    | list h1 h2 h3 h4 => exact repr_of_reads' (.list h1 h2 h3 h4) hs hm hga (by omega) (fun _ _ e => e) (fun h' u tk k => ⟨.str _, H, I.kept (t' := tk) k, ⟨_, rfl⟩, q⟩) hz
    | tuple h1 h2 h3 h4 => exact repr_of_reads' (.tuple h1 h2 h3 h4) hs hm hga (by omega) (fun _ _ e => e) (fun h' u tk k => ⟨.str _, H, I.kept (t' := tk) k, ⟨_, rfl⟩, q⟩) hz
    | dict h1 h2 h3 h4 h5 => exact repr_of_reads' (.dict h1 h2 h3 h4 h5) hs hm hga (by omega) (fun _ _ e => e) (fun h' u tk k => ⟨.str _, H, I.kept (t' := tk) k, ⟨_, rfl⟩, q⟩) hz
end
/-! ### new lists that are not the table of modules -/
section
variable {X : Cx} {pins : List (Addr × Obj)} {σ : L2.St} {H : Hp} {s : Shared}
theorem new_ne (I : Inv X pins σ H s) : s.heap.objs.size ≠ sysModules := by
  obtain ⟨o, es, ep, e, _⟩ := I.mod.glob
  have h1 := Heap.lt_size (I.bk _ _ e)
  have h2 : sysModules < mainGlobals := by decide
  exact Nat.ne_of_gt (Nat.lt_trans h2 h1)
def rCatN : R2 := fun x y H Q => ∃ l b xs zs, x = .ref l ∧ y = .ref b ∧ H l = some (.lst xs) ∧ H b = some (.lst zs) ∧ xs.length + zs.length ≤ sizeLine ∧ ∀ p, H p = none → p ≠ sysModules → Q (.ref p) (upd H p (.lst (xs ++ zs)))
theorem op_catN : OpR X (binaryOp .Add) rCatN := by
  intro pins s σ H x y v u Q I rx ry h
  obtain ⟨l, b, xs, zs, rfl, rfl, hl, hb, hz, q⟩ := h
  cases rx
  cases ry
  obtain ⟨_, its, n, r, e1, e⟩ := I.lstM hl
  obtain ⟨_, its2, n2, r2, e2, e'⟩ := I.lstM hb
  apply PySem.P.add_list e e' _ (by rw [List.size_toArray, List.size_toArray]; omega)
  · rw [show its.toArray ++ its2.toArray = (its ++ its2).toArray by simp]
    exact ⟨.ref _, _, I.lnew (t' := s.toks) (r.append r2) (by rw [List.length_append]; omega), rfl, q _ I.fresh (new_ne I)⟩
theorem rep_flat (its : List Value) (m : Nat) : ∀ acc : List Value, List.foldl (fun a b => a ++ b) acc.toArray (List.replicate m its.toArray) = (acc ++ (List.replicate m its).flatten).toArray := by
  induction m with
  | zero => intro acc; simp
  | succ m ih =>
    intro acc
    rw [List.replicate_succ, List.foldl_cons, List.replicate_succ, List.flatten_cons, show acc.toArray ++ its.toArray = (acc ++ its).toArray by simp, ih (acc ++ its), List.append_assoc]
def rRepN : R2 := fun x y H Q => ∃ l k xs, x = .ref l ∧ y = .int k ∧ H l = some (.lst xs) ∧ xs ≠ [] ∧ 0 ≤ k ∧ k < 1000 ∧ xs.length ≤ 1000 ∧
  ∀ p, H p = none → p ≠ sysModules → Q (.ref p) (upd H p (.lst (List.replicate k.toNat xs).flatten))
theorem op_repN : OpR X (binaryOp .Mult) rRepN := by
  intro pins s σ H x y v u Q I rx ry h
  obtain ⟨l, k, xs, rfl, rfl, hl, hne, k0, k1, hx, q⟩ := h
  cases rx
  obtain ⟨t, rfl⟩ := ry
  obtain ⟨_, its, n, r, e1, e⟩ := I.lstM hl
  have big : (1000000 : Nat) ≤ sizeLine := by decide
  have hm : its.length * k.toNat ≤ 1000 * 1000 := Nat.mul_le_mul (by omega) (by omega)
  have hsz : its.toArray.size * k.toNat ≤ sizeLine := by rw [List.size_toArray]; omega
  have hcap : ¬ its.toArray.size * k.toNat > (2 ^ 63 - 1) / 8 := by rw [List.size_toArray]; omega
  have hfit : ¬ (!Builtin.List.listFitsIndex k) = true := by
    rw [fitsIndex_both (by omega) (by omega)]
    exact Bool.false_ne_true
  have hlong : ¬ Builtin.List.listTooLong (its.toArray.size * k.toNat) = true := by
    rw [notLongL hsz]
    exact Bool.false_ne_true
  have hi : its ≠ [] := fun z => by
    subst z
    cases xs with
    | nil => exact hne rfl
    | cons _ _ => simp at e1
  have hnew : List.foldl (fun x1 x2 => x1 ++ x2) #[] (List.replicate (if its.toArray.isEmpty = true then 0 else k.toNat) its.toArray) = (List.replicate k.toNat its).flatten.toArray := by
    rw [if_neg (by simpa using hi)]
    have z := rep_flat its k.toNat []
    simpa using z
  refine wpAny_binaryOp_repeat_ref (T := "list") (U := "int") (by decide) ⟨_, e, rfl⟩ (fun s' => typeIs_int s' k t) noFill_list_mul F.fills_int_mul F.slot_int_rmul repeat_list F.slot_int_index.lookup ?_
  refine call_meets F.slot_int_rmul (typeIs_int s k t) F.entry_int_rmul (F.args_int_rmul_2 _ _) (int___rmul___int_list k t l its.toArray n) ⟨e, rfl, ⟨_, e, rfl⟩, ?_⟩
  refine call_meets F.slot_list_mul ⟨_, e, rfl⟩ F.entry_list_mul (F.args_list_mul_2 _ _) (AutoListH.list___mul___list_int_3 l its.toArray n k t hfit hcap hlong) ⟨e, ?_⟩
  rw [hnew]
  refine ⟨.ref _, _, I.lnew (t' := s.toks) (r.rep k.toNat) ?_, rfl, q _ I.fresh (new_ne I)⟩
  rw [PyProof.Rows.lm_len_rep_flat, e1, Nat.mul_comm]
  omega
end
/-! ### the law's own head, where the law may ask for repr -/
theorem law_callG {P : Program} {w : World} {K : PySem.W.Frag} {mg mb : Str → Option Value} {k : Nat} {fa a : Addr} {fd : FuncData} {x : Str} {sp : Sp} {s₁ : Shared} {vs : List Value} {ns : List Int}
    (KX : K.In s₁.heap) (hns : s₁.heap.Ns mainGlobals mg) (hb : s₁.heap.Ns builtinsNs mb) (hbb : ∀ x : Str, x ≠ "__name__" → mb x = bootBuiltins x) (hlim : s₁.heap.NoLimit) (hg : s₁.gens = #[])
    (ha : s₁.heap.get? a = some { cls := .type "list", data := .seq vs.toArray }) (hi : IntsAre vs ns) (hl : ns.length ≤ sizeLine) (hr : Room k callerA)
    (F : ∀ base : Heap, K.In base → base.Ns mainGlobals mg → FnG P w K mg base CX0 k fa fd [x] sp) (hbind : ∀ (s : Shared) (u : Value), BindsTo s fd ⟨[u], []⟩ [(x, u)])
    (hsp : ∀ H : Hp, Only H → SqL K H a (ns.map V.int) → sp [.ref a] H (fun v _ => v = .bl true) fun _ _ _ => False) :
    codeAny (model P w) callerA (.call (.ref fa) ⟨[.ref a], []⟩) (fun r s' => r = .ok (.ret (.bool true)) ∧ OldK s₁.heap s'.heap ∧ s'.os = s₁.os ∧ AllBare s'.gens) s₁ := by
  have rv := vals_ints hi
  have nolst : ∀ {b : Addr} {o : Obj} {es : Array DictEntry} {ep : Nat}, s₁.heap.get? b = some o → o.data = .dict es ep → b ≠ a := fun {b o es ep} e d z => by
    rw [z, ha] at e
    rw [← Option.some.inj e] at d
    cases d
  -- what may be tracked at first: the script's object, where it is not of the written part
  have main : ∀ H : Hp, Only H → SqL K H a (ns.map V.int) → HOk P w H s₁.heap → (∀ b, b ≠ a → H b = none) → (K.lookup a ≠ none → H a = none) →
      codeAny (model P w) callerA (.call (.ref fa) ⟨[.ref a], []⟩) (fun r s' => r = .ok (.ret (.bool true)) ∧ OldK s₁.heap s'.heap ∧ s'.os = s₁.os ∧ AllBare s'.gens) s₁ := by
    intro H hO hS hok hA hK
    have keepNs : ∀ {b : Addr} {m : Str → Option Value}, s₁.heap.Ns b m → (hidT s₁.heap H).Ns b m := fun {b m} ⟨o, es, ep, e, d, r⟩ => ⟨o, es, ep, hidT_get e (hA b (nolst e d)), d, r⟩
    have hKb : K.In (hidT s₁.heap H) := fun b o e => hidT_get (KX b o e) (by
      by_cases z : b = a
      · subst z
        exact hK (by rw [show K.lookup b = some o from e]; intro y; cases y)
      · exact hA b z)
    have hM : Mod K mg (hidT s₁.heap H) := ⟨hKb, keepNs hns, ⟨mb, keepNs hb, hbb⟩, let ⟨mc, h1, h2⟩ := hlim; ⟨mc, keepNs h1, h2⟩⟩
    have e0 : Env0 P w K mg (hidT s₁.heap H) callerA [] s₁ H := ⟨rfl, hM, fun b o e => of_hidT e, Nat.le_of_eq (hidT_size _ _), trivial, fun b z => absurd (show b ∈ ([] : List Addr) from z) (by simp), hok, .of_eq hg⟩
    refine codeAny_mono ((F _ hKb (keepNs hns)).run callerA [] s₁ H ⟨[.ref a], []⟩ [.ref a] [.ref a] _ _ rfl hr e0 (hbind s₁ (.ref a)) (.cons rfl .nil) (hsp H hO hS)) fun r s' h => ?_
    cases r with
    | error e => exact False.elim h
    | ok fl =>
      cases fl with
      | next => exact False.elim h
      | brk => exact False.elim h
      | cont => exact False.elim h
      | ret u =>
        obtain ⟨v, H', os, bare, un, hok', r', q⟩ := h
        obtain rfl : v = .bl true := q
        obtain rfl : u = Value.bool true := r'
        refine ⟨rfl, OldK.of_keep fun b o e => ?_, os, bare⟩
        rcases hO b with z | ⟨ob, xs, z⟩
        · exact un.keep b o e z (by intro y; exact absurd (show b ∈ ([] : List Addr) from y) (by simp)) (by simp)
        · obtain ⟨e1, _⟩ := hok b _ z
          obtain ⟨e2, _⟩ := hok' b _ (un.frzs b ob _ z)
          rw [e2, ← Option.some.inj (e1.symm.trans e)]
  cases hk : K.lookup a with
  | some o =>
    have e := KX a o hk
    rw [ha] at e
    cases e
    exact main (fun _ => none) (fun _ => .inl rfl) (.inr ⟨_, vs.toArray, _, hk, rfl, rfl, rfl, by rw [List.size_toArray, hi.length]; exact hl, by simpa using rv⟩) (fun b u z => nomatch (show (none : Option HO) = some u from z)) (fun _ _ => rfl) fun _ => rfl
  | none =>
    have q1 : ∀ b : Addr, b ≠ a → (fun b => if b = a then some (HO.frz { cls := .type "list", data := .seq vs.toArray } (.lst (ns.map V.int))) else none : Hp) b = none := fun b z => if_neg z
    have q2 : (fun b => if b = a then some (HO.frz { cls := .type "list", data := .seq vs.toArray } (.lst (ns.map V.int))) else none : Hp) a = some (HO.frz { cls := .type "list", data := .seq vs.toArray } (.lst (ns.map V.int))) := if_pos rfl
    refine main _ (fun b => ?_) (.inl (.inr ⟨_, q2⟩)) (fun b u z => ?_) q1 fun z => absurd hk z
    · by_cases hb : b = a
      · subst hb; exact .inr ⟨_, _, q2⟩
      · exact .inl (q1 b hb)
    · by_cases hb : b = a
      · subst hb
        have z' := q2.symm.trans z
        cases z'
        exact ⟨ha, by rw [List.length_map]; exact hl, vs, _, rv, ha⟩
      · have z' := (q1 b hb).symm.trans z
        cases z'
theorem walk_ofG {l : PySem.W.OpenLaw} {n k : Nat} {q : Program} {loose : List Str} {XP : (Str → Option Value) → Heap → Prop} {YP : World → Heap → Prop} {d : DefRec} {K : Params → PySem.W.Frag} {sp : World → Sp} {x : Str}
    (hn : l.most = some n) (hn2 : n ≤ sizeLine) (hdf : d.params.defaults = []) (hr : Room k callerA) (hY : ∀ (w : World) (h : Heap), YP w h → (K w.params).In h)
    (F : ∀ (w : World) (mg : Str → Option Value) (fa : Addr) (h : Heap), (K w.params).In h → h.Ns mainGlobals mg → mg d.name = some (.ref fa) →
      ∃ fd : FuncData, (∀ (s : Shared) (u : Value), BindsTo s fd ⟨[u], []⟩ [(x, u)]) ∧ ∀ base : Heap, (K w.params).In base → base.Ns mainGlobals mg → FnG l.prog w (K w.params) mg base CX0 k fa fd [x] (sp w))
    (hsp : ∀ (w : World) (H : Hp) (a : Addr) (ns : List Int), ns.length ≤ n → Only H → SqL (K w.params) H a (ns.map V.int) → sp w [.ref a] H (fun v _ => v = .bl true) fun _ _ _ => False) :
    PySem.W.WalkO q loose XP YP l.row.toRowW d [] (fun f vs => PySem.call f vs) := by
  refine Att.attach_call hn hdf fun w s₀ s₁ mg mb fa o pm cd doc a vs ns G Y ho hd hcd hmg hobj hints hlen hg => ?_
  have KX := hY w _ Y
  obtain ⟨fd, hb, hF⟩ := F w mg fa _ KX G.T.g hmg
  exact law_callG KX G.T.g G.T.b G.T.builtins G.T.nolimit hg hobj hints (Nat.le_trans hlen hn2) hr hF hb fun H hO hS => hsp w H a ns hlen hO hS
end GL


set_option Elab.async false
set_option maxRecDepth 100000
set_option maxHeartbeats 1000000
set_option linter.all false
namespace K03
open PySem PySem.Spec PyProof.Rows L2
abbrev sShuf : Stmt := top 37
/-- pairs of numbers, with where they stand -/
abbrev Zs := List (Addr × Int × Int)
def rf (zs : Zs) : List V := zs.map fun z => .ref z.1
def nums (zs : Zs) : List (Int × Int) := zs.map fun z => z.2
def PL (H : Hp) (zs : Zs) : Prop := ∀ z ∈ zs, H z.1 = some (.tup [.int z.2.1, .int z.2.2])
theorem PL.kept {d lg cl : Addr} {H H' : Hp} {zs : Zs} (D : DrawAt H d lg cl) (k : Kept d lg H H') (p : PL H zs) : PL H' zs := fun z m => by
  obtain ⟨⟨r, t, hd⟩, ⟨L, hL, hl⟩, _, _⟩ := D
  refine k _ _ (p z m) (fun e => ?_) fun e => ?_
  · have := p z m
    rw [e, hd] at this
    cases this
  · have := p z m
    rw [e, hl] at this
    cases this
theorem PL.same {H H' : Hp} {zs : Zs} (s : Same H H') (p : PL H zs) : PL H' zs := fun z m => s _ _ (p z m)
theorem PL.put {H : Hp} {zs : Zs} {l : Addr} {xs : List V} {o : HO} (p : PL H zs) (h : H l = some (.lst xs)) : PL (upd H l o) zs := fun z m => by
  have q := p z m
  rw [upd_ne fun e => by rw [e, h] at q; cases q]
  exact q
theorem dp_prs {K : PySem.W.Frag} {H : Hp} {a : Addr} {zs : Zs} (h : SqL K H a (rf zs)) (p : PL H zs) : Dp K H (.ref a) (.list (zs.map fun z => PyData.tuple [.int z.2.1, .int z.2.2])) := by
  refine .lst h ?_
  clear h
  induction zs with
  | nil => exact .nil
  | cons x r ih => exact .cons (.tup (.inl (.inl (p x List.mem_cons_self))) (.cons (.int _) (.cons (.int _) .nil))) (ih fun z m => p z (List.mem_cons_of_mem _ m))
theorem shp_prs (zs : Zs) : SeqAt.shaped (.list (zs.map fun z => PyData.tuple [.int z.2.1, .int z.2.2])) = true := by
  have h1 : PyData.canLayAll0 (zs.map fun z => PyData.tuple [.int z.2.1, .int z.2.2]) = true := by
    induction zs with
    | nil => rfl
    | cons x r ih => simp [PyData.canLayAll0, PyData.canLay0, ih]
  have h2 : PyData.depthAll (zs.map fun z => PyData.tuple [.int z.2.1, .int z.2.2]) ≤ 2 := by
    clear h1
    induction zs with
    | nil => simp [PyData.depthAll]
    | cons x r ih => simp [PyData.depthAll, PyData.depth]; omega
  simp [SeqAt.shaped, PyData.canLay0, h1, PyData.depth]
  omega
/-- a list of pairs, in another order, new -/
def spShuf (K : PySem.W.Frag) : Sp := fun vs H Q _ => ∃ (d lg cl a : Addr) (zs : Zs), vs = [.ref d, .ref a] ∧ DrawAt H d lg cl ∧ SqL K H a (rf zs) ∧ PL H zs ∧ zs.length < 1000 ∧
  ∀ (ys : Zs) (p : Addr) (H' : Hp), ys.Perm zs → DrawAt H' d lg cl → Kept d lg H H' → H p = none → H' p = some (.lst (rf ys)) → Q (.ref p) H'
theorem scShuf : FnScope ["draw", "some", "left", "found"] ["draw", "some"] (defScope sShuf) := ⟨rfl, rfl, rfl, by decide +kernel, rfl, by decide +kernel, by decide +kernel⟩
theorem rf_get {zs : Zs} {i : Nat} {z : Addr × Int × Int} (h : zs[i]? = some z) : (rf zs)[i]? = some (.ref z.1) := by unfold rf; rw [List.getElem?_map, h]; rfl
theorem rf_erase (zs : Zs) (i : Nat) : (rf zs).eraseIdx i = rf (zs.eraseIdx i) := by
  unfold rf
  rw [List.eraseIdx_eq_take_drop_succ, List.eraseIdx_eq_take_drop_succ, List.map_append, List.map_take, List.map_drop]
theorem perm_erase {α : Type} {l : List α} {i : Nat} {x : α} (h : l[i]? = some x) : (x :: l.eraseIdx i).Perm l := by
  obtain ⟨hi, e⟩ := List.getElem?_eq_some_iff.mp h
  rw [List.eraseIdx_eq_take_drop_succ]
  have z : l = l.take i ++ x :: l.drop (i + 1) := by
    rw [← e, List.getElem_cons_drop, List.take_append_drop]
  exact (List.perm_middle.symm.trans (List.Perm.of_eq z.symm))
section
variable {P : Program} {w : World} {K : PySem.W.Frag} {mg : Str → Option Value} {base : Heap}
theorem ok_shuf {f fT : Addr} {fd fdT : FuncData} (F : Fun K "_law_shuffled" "_law_shuffled" sShuf f fd) (GT : FnOk P w K mg base CX0 2 fT fdT ["draw", "amount"] spTake) (FT : Fun K "_law_take" "_law_take" sTake fT fdT) (bT : L2.Binds K fdT ["draw", "amount"] []) (gT : mg "_law_take" = some (.ref fT))
    (mLen : mg "len" = none) (mList : mg "list" = none) : FnOk P w K mg base CX0 3 f fd ["draw", "some"] (spShuf K) := by
  refine F.ok scShuf (fun vs H Q E h => ?_) (fun cdv A outer s H vs Q E hr h => ?_)
  · obtain ⟨d, lg, cl, a, zs, rfl, _⟩ := h
    rfl
  · obtain ⟨d, lg, cl, a, zs, rfl, D, ha, hp, hl, k⟩ := h
    have nd := scShuf.nd
    refine ⟨_, pss_cons (ps_par (i := 2) (j := 3) (by rfl) nd rfl rfl (by decide) rfl rfl (pa_cons (pe_callTy call_list_of (by rfl) mList (by decide +kernel) (pa_cons (pv 1) pa_nil)) (pa_cons (pe_lst pa_nil) pa_nil)) (by rfl))
      (pss_cons (ps_while PassesOwn.never (pt_cmpR (op_neD hr.units) (pv 2) (pe_lst pa_nil) (nomark _))
        (pss_one (ps_expr (pe_bm PySem.F.plainAttrs_list PySem.F.slot_list_append PySem.F.type_list_append mt_append (pv 3)
          (pa_cons (pe_bm PySem.F.plainAttrs_list PySem.F.slot_list_pop PySem.F.type_list_pop mt_popAt (pv 2) (pa_cons (pe_call GT hr rfl gT FT.kp bT .nil pass0 (pa_cons (pv 0) (pa_cons (pe_callB call_len_seq (by rfl) mLen PySem.boot_len (pa_cons (pv 2) pa_nil)) pa_nil))) pa_nil)) pa_nil)))))
      (pss_one (ps_ret (pv 3)))), ?_⟩
    refine ⟨_, rfl, a, _, rfl, .inl ha, fun l nl => ⟨Nat.zero_le _, fun fo nf => ?_⟩⟩
    refine ⟨_, _, rfl, ?_⟩
    have hd0 : H d ≠ none := by obtain ⟨⟨r, t, e⟩, _⟩ := id D; rw [e]; simp
    have hlg0 : H lg ≠ none := by obtain ⟨_, ⟨L, _, e⟩, _⟩ := id D; rw [e]; simp
    have hcl0 : H cl ≠ none := by obtain ⟨_, _, ⟨M, _, e⟩, _⟩ := id D; rw [e]; simp
    have nef : fo ≠ l := fun z => by rw [z, upd_same] at nf; cases nf
    have nf0 : H fo = none := by rw [upd_ne nef] at nf; exact nf
    have new : ∀ {p : Addr}, H p = none → p ≠ d ∧ p ≠ lg ∧ p ≠ cl := fun {p} z => ⟨fun e => hd0 (by rw [← e]; exact z), fun e => hlg0 (by rw [← e]; exact z), fun e => hcl0 (by rw [← e]; exact z)⟩
    obtain ⟨ld, llg, lcl⟩ := new nl
    obtain ⟨fd', flg, fcl⟩ := new nf0
    have Dput : ∀ {Hx : Hp} {p : Addr} {o : HO}, p ≠ d → p ≠ lg → p ≠ cl → DrawAt Hx d lg cl → DrawAt (upd Hx p o) d lg cl := fun {Hx p o} a b c D => by
      obtain ⟨⟨r, t, hd⟩, ⟨L, hL, hl⟩, ⟨M, hM, hc⟩, ncl⟩ := D
      exact ⟨⟨r, t, by rw [upd_ne a.symm]; exact hd⟩, ⟨L, hL, by rw [upd_ne b.symm]; exact hl⟩, ⟨M, hM, by rw [upd_ne c.symm]; exact hc⟩, ncl⟩
    have Kput : ∀ {Hx : Hp} {p : Addr} {o : HO}, H p = none → Kept d lg H Hx → Kept d lg H (upd Hx p o) := fun {Hx p o} z k b x e h1 h2 => by
      rw [upd_ne (ne_of_none e z)]
      exact k b x e h1 h2
    refine ⟨fun m σ Hx => ∃ zl zf : Zs, σ = [some (.ref d), some (.ref a), some (.ref l), some (.ref fo)] ∧ m = zl.length ∧ DrawAt Hx d lg cl ∧ Hx l = some (.lst (rf zl)) ∧ Hx fo = some (.lst (rf zf)) ∧ (zf ++ zl).Perm zs ∧ PL Hx zs ∧ Kept d lg H Hx,
      ⟨_, zs, [], rfl, rfl, Dput fd' flg fcl (Dput ld llg lcl D), by rw [upd_ne nef.symm, upd_same], upd_same, List.Perm.refl _, (hp.same (same_upd nl)).same (same_upd nf), Kput nf0 (Kput nl Kept.refl)⟩, ?_⟩
    rintro m σ Hx ⟨zl, zf, rfl, rfl, Dx, el, ef, pm, px, kx⟩
    have pl : PL Hx zl := fun z mz => px z (pm.subset (List.mem_append_right _ mz))
    have hlen : zf.length + zl.length = zs.length := by rw [← List.length_append]; exact pm.length_eq
    refine ⟨_, rfl, Nat.zero_le _, fun e ne => ?_⟩
    have se : Same Hx (upd Hx e (.lst [])) := same_upd ne
    have eE : (upd Hx e (.lst [])) e = some (.lst []) := upd_same
    have De : DrawAt (upd Hx e (.lst [])) d lg cl := by
      obtain ⟨⟨r, t, hd⟩, ⟨L, hL, hl⟩, ⟨M, hM, hc⟩, ncl⟩ := Dx
      exact ⟨⟨r, t, se _ _ hd⟩, ⟨L, hL, se _ _ hl⟩, ⟨M, hM, se _ _ hc⟩, ncl⟩
    have ke : Kept d lg H (upd Hx e (.lst [])) := fun b o h h1 h2 => se _ _ (kx b o h h1 h2)
    have elE := se _ _ el
    have efE := se _ _ ef
    have pxE := px.same se
    have plE := pl.same se
    generalize upd Hx e (.lst []) = He at se eE De ke elE efE pxE plE
    refine ⟨_, _, dp_prs (SqL.of elE) plE, .lst (SqL.of eE) .nil, shp_prs zl, rfl, _, rfl, ?_⟩
    cases zl with
    | nil =>
      refine iteF ?_
      rw [List.append_nil] at pm
      exact ⟨_, rfl, k zf fo He pm De ke nf0 efE⟩
    | cons z0 zr =>
      refine iteT ?_
      refine ⟨fun σ' H' => ∃ zl zf : Zs, σ' = [some (.ref d), some (.ref a), some (.ref l), some (.ref fo)] ∧ zl.length = zr.length ∧ DrawAt H' d lg cl ∧ H' l = some (.lst (rf zl)) ∧ H' fo = some (.lst (rf zf)) ∧ (zf ++ zl).Perm zs ∧ PL H' zs ∧ Kept d lg H H', fun σ' H' hN => ?_, ?_⟩
      · obtain ⟨zl', zf', e1, e2, rest⟩ := hN
        exact ⟨_, by rw [List.length_cons]; exact Nat.lt_succ_self _, zl', zf', e1, e2.symm, rest⟩
      · have hl2 : (rf (z0 :: zr)).length = zr.length + 1 := by unfold rf; rw [List.length_map, List.length_cons]
        refine ⟨_, rfl, .inl ⟨rfl, _, SqL.of efE⟩, _, rfl, .inl ⟨rfl, _, SqL.of elE⟩, _, rfl, _, rfl, l, _, rfl, .inl (SqL.of elE), d, lg, cl, _, rfl, De, by rw [hl2]; omega, by rw [hl2]; rw [List.length_cons] at hlen; omega, fun z H2 z1 z2 D2 k2 => ?_⟩
        obtain ⟨j, rfl⟩ := Int.eq_ofNat_of_zero_le z1
        have hj : j < (z0 :: zr).length := by rw [hl2] at z2; rw [List.length_cons]; omega
        have ej : (z0 :: zr)[j]? = some ((z0 :: zr)[j]) := List.getElem?_eq_getElem hj
        generalize (z0 :: zr)[j] = zj at ej
        have el2 := k2 _ _ elE ld llg
        have ef2 := k2 _ _ efE fd' flg
        have hs : seqIndex? (j : Int) (rf (z0 :: zr)).length = some j := by
          rw [hl2]
          rw [List.length_cons] at hj
          simp [seqIndex?]
          omega
        refine ⟨l, _, _, j, _, rfl, rfl, el2, by omega, by rw [hl2] at z2; rw [List.length_cons] at hlen; omega, hs, rf_get ej, ?_⟩
        have ef3 : (upd H2 l (.lst ((rf (z0 :: zr)).eraseIdx j))) fo = some (.lst (rf zf)) := by rw [upd_ne nef]; exact ef2
        have hf2 : (rf zf).length < sizeLine := small1000 (by unfold rf; rw [List.length_map]; omega)
        refine ⟨fo, _, _, rfl, rfl, ef3, hf2, ?_⟩
        have hpm : (zj :: (z0 :: zr).eraseIdx j).Perm (z0 :: zr) := perm_erase ej
        refine ⟨(z0 :: zr).eraseIdx j, zf ++ [zj], rfl, ?_, Dput fd' flg fcl (Dput ld llg lcl D2), ?_, ?_, ?_, ?_, Kput nf0 (Kput nl (ke.trans k2))⟩
        · have := hpm.length_eq
          rw [List.length_cons, List.length_cons] at this
          omega
        · rw [upd_ne nef.symm, upd_same, rf_erase]
        · rw [upd_same]
          unfold rf
          rw [List.map_append]
          rfl
        · refine List.Perm.trans ?_ pm
          rw [List.append_assoc]
          exact List.Perm.append_left zf hpm
        · exact ((pxE.kept De k2).put el2).put ef3
end
end K03


set_option Elab.async false
set_option maxRecDepth 100000
set_option maxHeartbeats 1000000
set_option linter.all false
namespace K03
open PySem PySem.Spec PyProof.Rows L2
/-- pairs that go up, one to each place but the first -/
structure Up (n : Nat) (m : Nat) (zs : Zs) : Prop where
  tree : ∀ k : Nat, 0 < k → k < m → ∃ a : Int, 0 ≤ a ∧ a < k ∧ (a, (k : Int)) ∈ nums zs
  up : ∀ q ∈ nums zs, 0 ≤ q.1 ∧ q.1 < q.2 ∧ q.2 < n
theorem Up.more {n m : Nat} {zs : Zs} (u : Up n m zs) {t : Addr} {a b : Int} (h0 : 0 ≤ a) (h1 : a < b) (h2 : b < n) : Up n m (zs ++ [(t, a, b)]) := by
  have e : nums (zs ++ [(t, a, b)]) = nums zs ++ [(a, b)] := by unfold nums; rw [List.map_append]; rfl
  refine ⟨fun k hk hm => ?_, fun q hq => ?_⟩
  · obtain ⟨c, c0, c1, c2⟩ := u.tree k hk hm
    exact ⟨c, c0, c1, by rw [e]; exact List.mem_append_left _ c2⟩
  · rw [e] at hq
    rcases List.mem_append.mp hq with hq | hq
    · exact u.up q hq
    · rw [List.mem_singleton] at hq
      subst hq
      exact ⟨h0, h1, h2⟩
theorem Up.next {n m : Nat} {zs : Zs} (u : Up n m zs) {t : Addr} {a : Int} (h0 : 0 ≤ a) (h1 : a < (m : Int)) (h2 : m < n) : Up n (m + 1) (zs ++ [(t, a, (m : Int))]) := by
  have u' := u.more (t := t) (b := (m : Int)) h0 h1 (by omega)
  have e : nums (zs ++ [(t, a, (m : Int))]) = nums zs ++ [(a, (m : Int))] := by unfold nums; rw [List.map_append]; rfl
  refine ⟨fun k hk hm => ?_, u'.up⟩
  by_cases c : k = m
  · subst c
    exact ⟨a, h0, h1, by rw [e]; exact List.mem_append_right _ (List.mem_singleton.mpr rfl)⟩
  · exact u'.tree k hk (by omega)
theorem Up.perm {n m : Nat} {zs ys : Zs} (u : Up n m zs) (p : ys.Perm zs) : Up n m ys := by
  have e : ∀ q, q ∈ nums ys ↔ q ∈ nums zs := fun q => (p.map _).mem_iff
  exact ⟨fun k hk hm => by
    obtain ⟨a, a0, a1, a2⟩ := u.tree k hk hm
    exact ⟨a, a0, a1, (e _).mpr a2⟩, fun q hq => u.up q ((e q).mp hq)⟩
theorem PL.app {H : Hp} {zs : Zs} {t : Addr} {a b : Int} (p : PL H zs) (h : H t = some (.tup [.int a, .int b])) : PL H (zs ++ [(t, a, b)]) := fun z m => by
  rcases List.mem_append.mp m with m | m
  · exact p z m
  · rw [List.mem_singleton] at m
    subst m
    exact h
theorem rf_app (zs : Zs) (t : Addr) (a b : Int) : rf zs ++ [V.ref t] = rf (zs ++ [(t, a, b)]) := by unfold rf; rw [List.map_append]; rfl
theorem rf_len (zs : Zs) : (rf zs).length = zs.length := by unfold rf; rw [List.length_map]
theorem draw_same {H H' : Hp} {d lg cl : Addr} (s : Same H H') (D : DrawAt H d lg cl) : DrawAt H' d lg cl := by
  obtain ⟨⟨r, t, hd⟩, ⟨L, hL, hl⟩, ⟨M, hM, hc⟩, ncl⟩ := D
  exact ⟨⟨r, t, s _ _ hd⟩, ⟨L, hL, s _ _ hl⟩, ⟨M, hM, s _ _ hc⟩, ncl⟩
theorem draw_put {H : Hp} {d lg cl p : Addr} {o : HO} (a : p ≠ d) (b : p ≠ lg) (c : p ≠ cl) (D : DrawAt H d lg cl) : DrawAt (upd H p o) d lg cl := by
  obtain ⟨⟨r, t, hd⟩, ⟨L, hL, hl⟩, ⟨M, hM, hc⟩, ncl⟩ := D
  exact ⟨⟨r, t, by rw [upd_ne a.symm]; exact hd⟩, ⟨L, hL, by rw [upd_ne b.symm]; exact hl⟩, ⟨M, hM, by rw [upd_ne c.symm]; exact hc⟩, ncl⟩
theorem draw_new {H : Hp} {d lg cl p : Addr} (D : DrawAt H d lg cl) (h : H p = none) : p ≠ d ∧ p ≠ lg ∧ p ≠ cl := by
  obtain ⟨⟨r, t, hd⟩, ⟨L, hL, hl⟩, ⟨M, hM, hc⟩, ncl⟩ := D
  exact ⟨fun e => (by rw [e, hd] at h; cases h), fun e => (by rw [e, hl] at h; cases h), fun e => (by rw [e, hc] at h; cases h)⟩
theorem kept_put {H Hx : Hp} {d lg p : Addr} {o : HO} (z : H p = none) (k : Kept d lg H Hx) : Kept d lg H (upd Hx p o) := fun b x e h1 h2 => by
  rw [upd_ne (ne_of_none e z)]
  exact k b x e h1 h2
theorem kept_none {H Hx : Hp} {d lg p : Addr} (k : Kept d lg H Hx) (h1 : p ≠ d) (h2 : p ≠ lg) (z : Hx p = none) : H p = none := by
  cases e : H p with
  | none => rfl
  | some u => rw [k p u e h1 h2] at z; cases z
theorem cut12 {xs : List V} (h : xs.length ≤ 12) : cutV xs none (some 12) = xs := by
  unfold cutV
  rw [HT.sIx_none, show ((12 : Int)) = ((12 : Nat) : Int) from rfl, HT.sIx_nat, List.drop_zero]
  exact List.take_of_length_le (by omega)
section
variable {P : Program} {w : World} {K : PySem.W.Frag} {mg : Str → Option Value} {base : Heap}
end
end K03


set_option Elab.async false
set_option maxRecDepth 100000
set_option maxHeartbeats 1000000
set_option linter.all false
namespace K03
open PySem PySem.Spec PyProof.Rows L2 NetM
theorem inV_ints (h : Int) (l : List Int) : inV (.int h) (l.map V.int) = decide (h ∈ l) := by
  unfold inV
  induction l with
  | nil => simp
  | cons x r ih =>
    rw [List.map_cons, List.any_cons, ih]
    by_cases c : x = h
    · subst c; simp [eqV]
    · have c' : ¬ h = x := fun e => c e.symm
      simp [eqV, c, c']
theorem flat_ints (l : List Int) : (l.map V.int).all flatV = true := by
  rw [List.all_map]
  exact List.all_eq_true.mpr fun x _ => rfl
theorem small_2000 {n : Nat} (h : n ≤ 2000) : n < sizeLine := Nat.lt_of_le_of_lt h (by decide)
theorem nums_get {zs : Zs} {i : Nat} {z : Addr × Int × Int} (h : zs[i]? = some z) : (nums zs)[i]? = some z.2 := by unfold nums; rw [List.getElem?_map, h]; rfl
theorem same_put {H0 H : Hp} {p : Addr} {o : HO} (s : Same H0 H) (n : H0 p = none) : Same H0 (upd H p o) := fun b x e => by
  rw [upd_ne (ne_of_none e n)]
  exact s b x e
section
variable {P : Program} {w : World} {K : PySem.W.Frag} {mg : Str → Option Value} {base : Heap}
end
end K03


set_option Elab.async false
set_option maxRecDepth 100000
set_option maxHeartbeats 1000000
set_option linter.all false
namespace K03
open PySem PySem.Spec PyProof.Rows L2 NetM
def tEi (t t' : TE) : TE := fun σ H Q => t σ H Q ∨ t' σ H Q
def iEi (t t' : TI) : TI := fun σ H R => t σ H R ∨ t' σ H R
def gEi (t t' : TG) : TG := fun v σ H Q => t v σ H Q ∨ t' v σ H Q
/-! either reading, whichever holds -/
section
variable {X : Cx}
theorem pe_either {e : Expr} {t t' : TE} (h : PE X e t) (h' : PE X e t') : PE X e (tEi t t') := ⟨fun pins s σ H Q I q => q.elim (h.run pins s σ H Q I) (h'.run pins s σ H Q I)⟩
theorem pi_either {tg e : Expr} {t t' : TI} (h : PI X tg e t) (h' : PI X tg e t') : PI X tg e (iEi t t') := ⟨fun pins s σ H R I q => q.elim (h.run pins s σ H R I) (h'.run pins s σ H R I)⟩
theorem pg_either {e : Expr} {t t' : TG} (h : PG X e t) (h' : PG X e t') : PG X e (gEi t t') := ⟨fun pins s σ H v u Q I r q => q.elim (h.run pins s σ H v u Q I r) (h'.run pins s σ H v u Q I r)⟩
end
end K03


set_option Elab.async false
set_option maxRecDepth 100000
set_option maxHeartbeats 1000000
set_option linter.all false
namespace K03
open PySem PySem.Spec PyProof.Rows L2 NetM
abbrev sHangs : Stmt := top 13
def SqA (K : PySem.W.Frag) (H : Hp) (a : Addr) (xs : List V) : Prop := SqL K H a xs ∨ SqT K H a xs
theorem SqA.same {K : PySem.W.Frag} {H H' : Hp} {a : Addr} {xs : List V} (s : Same H H') (h : SqA K H a xs) : SqA K H' a xs := by
  rcases h with h | (h | ⟨o, h⟩) | h
  · exact .inl (s.seq h)
  · exact .inr (.inl (.inl (s _ _ h)))
  · exact .inr (.inl (.inr ⟨o, s _ _ h⟩))
  · exact .inr (.inr h)
theorem sqt_same {K : PySem.W.Frag} {H H' : Hp} (s : Same H H') {a : Addr} {xs : List V} (h : SqT K H a xs) : SqT K H' a xs := by
  rcases h with (h | ⟨o, h⟩) | h
  · exact .inl (.inl (s _ _ h))
  · exact .inl (.inr ⟨o, s _ _ h⟩)
  · exact .inr h
/-- pairs as lists or tuples -/
def PrA (K : PySem.W.Frag) (H : Hp) (zs : Zs) : Prop := ∀ z ∈ zs, SqA K H z.1 [.int z.2.1, .int z.2.2]
theorem PrA.same {K : PySem.W.Frag} {H H' : Hp} {zs : Zs} (s : Same H H') (p : PrA K H zs) : PrA K H' zs := fun z m => (p z m).same s
def dk (l : List Int) : List (Key × V) := l.map fun x => (Sum.inl x, V.bl true)
theorem dk_get (l : List Int) (t : Int) : (valV (dk l) (Sum.inl t)).isSome = decide (t ∈ l) := by
  induction l with
  | nil => rfl
  | cons x r ih =>
    by_cases c : x = t
    · subst c
      have : valV (dk (x :: r)) (Sum.inl x) = some (.bl true) := valV_pos rfl
      rw [this]
      simp
    · have : valV (dk (x :: r)) (Sum.inl t) = valV (dk r) (Sum.inl t) := valV_neg fun e => c (Sum.inl.inj e)
      rw [this, ih]
      have c' : ¬ t = x := fun e => c e.symm
      simp [c']
theorem dk_put (l : List Int) (t : Int) : putK (dk l) (Sum.inl t) (.bl true) = dk (ins t l) := by
  unfold putK ins
  have e : ((dk l).any fun kv => decide (kv.1 = (Sum.inl t : Key))) = decide (t ∈ l) := by
    unfold dk
    rw [List.any_map]
    induction l with
    | nil => rfl
    | cons x r ih =>
      rw [List.any_cons, ih]
      by_cases c : x = t
      · subst c; simp
      · have c' : ¬ t = x := fun e => c e.symm
        simp [c, c']
  rw [e]
  by_cases c : t ∈ l
  · rw [if_pos (decide_eq_true c), if_pos c]
    unfold dk
    rw [List.map_map]
    refine List.map_congr_left fun x _ => ?_
    show (if (Sum.inl x : Key) = Sum.inl t then ((Sum.inl x : Key), V.bl true) else (Sum.inl x, V.bl true)) = _
    by_cases d : (Sum.inl x : Key) = Sum.inl t
    · rw [if_pos d]
    · rw [if_neg d]
  · rw [decide_eq_false c, if_neg (by simp), if_neg c]
    unfold dk
    rw [List.map_append]
    rfl
theorem ins_le {l : List Int} {x : Int} (h : l.length ≤ 8) : (ins x l).length ≤ 9 := by
  unfold ins
  by_cases c : x ∈ l
  · rw [if_pos c]; omega
  · rw [if_neg c, List.length_append, List.length_singleton]; omega
theorem scHangs : FnScope ["places", "arrows", "found", "_", "tail", "head"] ["places", "arrows"] (defScope sHangs) := ⟨rfl, rfl, rfl, by decide +kernel, rfl, by decide +kernel, by decide +kernel⟩
def spHangs (K : PySem.W.Frag) : Sp := fun vs H Q _ => ∃ (a : Addr) (n : Nat) (zs : Zs), vs = [.int n, .ref a] ∧ SqA K H a (rf zs) ∧ PrA K H zs ∧ zs.length ≤ 400 ∧ 0 < n ∧ n ≤ 8 ∧ (∀ t h, (t, h) ∈ nums zs → InR n t ∧ InR n h) ∧
  ∀ H' : Hp, Same H H' → Q (.bl (decide (V.int (rounds (nums zs) n [0]).length = V.int n))) H'
section
variable {P : Program} {w : World} {K : PySem.W.Frag} {mg : Str → Option Value} {base : Heap}
theorem ok_hangs {f : Addr} {fd : FuncData} (F : Fun K "_hangs_together" "_hangs_together" sHangs f fd) (mRa : mg "range" = none) (mLen : mg "len" = none) : FnOk P w K mg base CX0 1 f fd ["places", "arrows"] (spHangs K) := by
  refine F.ok scHangs (fun vs H Q E h => ?_) (fun cdv A outer s H vs Q E hr h => ?_)
  · obtain ⟨a, n, zs, rfl, _⟩ := h
    rfl
  · obtain ⟨a, n, zs, rfl, hS, hp, hz, n0, n8, hE, k⟩ := h
    have nd := scHangs.nd
    have hu := hu_of hr
    refine ⟨_, pss_cons (ps_set (i := 2) nd rfl (Or.inl rfl) (pe_disp (pps_cons pe_int pe_bl pps_nil) (by rfl) (by rfl) (fun z => by cases z) (by decide)))
      (pss_cons (ps_for PassesOwn.never rfl (pi_range1 (by rfl) mRa (pa_cons (pv 0) pa_nil)) (pg_name (i := 3) nd rfl (Or.inl rfl))
        (pss_one (ps_for PassesOwn.never rfl (pi_either (pi_list (pv 1)) (pi_tup (pv 1))) (pg_either (pg_tup (by rfl) (pgs_cons (pg_name (i := 4) nd rfl (Or.inl rfl)) (pgs_cons (pg_name (i := 5) nd rfl (Or.inl rfl)) pgs_nil))) (pg_lst (by rfl) (pgs_cons (pg_name (i := 4) nd rfl (Or.inl rfl)) (pgs_cons (pg_name (i := 5) nd rfl (Or.inl rfl)) pgs_nil))))
          (pss_one (ps_if (PW.pt (pw_or (pt_cmp (pc_din hu (pv 4) (pv 2))) (pw_or1 (pt_cmp (pc_din hu (pv 5) (pv 2)))))) (pss_cons (ps_dput hu (pv 2) (pv 4) pe_bl rfl) (pss_one (ps_dput hu (pv 2) (pv 5) pe_bl rfl))) pss_nil)))))
      (pss_one (ps_ret (pe_cmpR op_eq (pe_callB call_lenD (by rfl) mLen PySem.boot_len (pa_cons (pv 2) pa_nil)) (pv 0) (nomark _))))), ?_⟩
    intro fo nf
    refine ⟨upd_same, [(Sum.inl 0, .bl true)], rfl, by decide, ?_⟩
    have s0' : Same H (upd (upd H fo (.dK [])) fo (.dK (mergeK [] [((Sum.inl 0 : Key), V.bl true)]))) := same_put (same_put (Same.refl _) nf) nf
    have e0 : (upd (upd H fo (.dK [])) fo (.dK (mergeK [] [((Sum.inl 0 : Key), V.bl true)]))) fo = some (.dK (dk [0])) := upd_same
    generalize upd (upd H fo (.dK [])) fo (.dK (mergeK [] [((Sum.inl 0 : Key), V.bl true)])) = H0 at s0' e0
    have bnd : ∀ l : List Int, l.Nodup → (∀ x ∈ l, Rch (both (nums zs)) 0 x) → l.length ≤ 8 := fun l ndl h => by
      have := sub_len (m := rng n) ndl fun x hx => mem_rng.mpr (by
        have r := h x hx
        cases r with
        | refl => unfold InR; omega
        | step _ e =>
          rcases mem_both.mp e with e | e
          · exact (hE _ _ e).2
          · exact (hE _ _ e).1)
      rw [rng_len] at this
      omega
    have lenb : ∀ m i : Nat, (round ((nums zs).take i) (rounds (nums zs) m [0])).length ≤ 8 := fun m i =>
      bnd _ (round_nodup _ _ (rounds_nodup _ m _ (List.nodup_cons.mpr ⟨by simp, List.nodup_nil⟩))) (round_snd _ _ (fun p hp => List.mem_of_mem_take hp) (rounds_snd m _ fun x hx => by rw [List.mem_singleton.mp hx]; exact .refl 0))
    refine ⟨_, rfl, (n : Int), rfl, by omega, by omega, ?_⟩
    rw [Int.toNat_natCast]
    refine for_range (lo := 0) (n := n) (fun m σ Hx => ∃ v3 v4 v5 : Option V, σ = [some (.int n), some (.ref a), some (.ref fo), v3, v4, v5] ∧ Hx fo = some (.dK (dk (rounds (nums zs) m [0]))) ∧ Same H Hx) ⟨none, none, none, rfl, e0, s0'⟩ ?_ ?_
    · rintro m σ Hx hm ⟨v3, v4, v5, rfl, ef, s0⟩
      have hln : (rf zs).length = (nums zs).length := by unfold rf nums; rw [List.length_map, List.length_map]
      rcases id hS with h | h
      · refine .inl ⟨_, rfl, a, rfl, ⟨_, s0.seq h⟩, ?_⟩
        refine for_list (K := K) (a := a) (xs := rf zs) (fun i σ Hy => ∃ v4 v5 : Option V, σ = [some (.int n), some (.ref a), some (.ref fo), some (.int (0 + (m : Int))), v4, v5] ∧ Hy fo = some (.dK (dk (round ((nums zs).take i) (rounds (nums zs) m [0])))) ∧ Same H Hy)
          ⟨v4, v5, rfl, by rw [List.take_zero]; exact ef, s0⟩ (fun i σ Hy _ hh => by obtain ⟨_, _, _, _, s⟩ := hh; exact s.seq h) ?_ ?_
        · skip
          rintro i x σ Hy hi ⟨v4, v5, rfl, hf, sy⟩
          have hzi : ∃ z, zs[i]? = some z ∧ x = .ref z.1 := by
            unfold rf at hi
            rw [List.getElem?_map] at hi
            cases e : zs[i]? with
            | none => rw [e] at hi; cases hi
            | some z => rw [e] at hi; cases hi; exact ⟨z, rfl, rfl⟩
          obtain ⟨⟨t, p1, p2⟩, hz1, rfl⟩ := hzi
          have hmem : (t, p1, p2) ∈ zs := List.mem_of_getElem? hz1
          have htk : (nums zs).take (i + 1) = (nums zs).take i ++ [(p1, p2)] := by
            rw [List.take_add_one, nums_get hz1]; rfl
          have hra := round_app p1 p2 ((nums zs).take i) (rounds (nums zs) m [0])
          rw [← htk] at hra
          have hlen := lenb m i
          generalize round ((nums zs).take i) (rounds (nums zs) m [0]) = l at hf hra hlen
          rcases hp.same sy _ hmem with pt | pt
          · refine .inr ⟨t, _, rfl, pt, rfl, .int p1, [.int p2], rfl, .int p2, [], rfl, rfl, ?_⟩
            refine ⟨_, rfl, _, rfl, fo, _, rfl, DGet.k (k := Sum.inl p1) hf, _, rfl, ?_⟩
            rw [dk_get]
            by_cases c1 : p1 ∈ l
            · rw [decide_eq_true c1]
              refine iteT ?_
              refine iteT ?_
              refine ⟨_, rfl, _, rfl, fo, _, rfl, DPut.k (k := Sum.inl p1) hf (small_2000 (by unfold dk; rw [List.length_map]; omega)), ?_⟩
              rw [dk_put]
              have hf2 : (upd Hy fo (.dK (dk (ins p1 l)))) fo = some (.dK (dk (ins p1 l))) := upd_same
              have h9 : (ins p1 l).length ≤ 9 := ins_le hlen
              refine ⟨_, rfl, _, rfl, fo, _, rfl, DPut.k (k := Sum.inl p2) hf2 (small_2000 (by unfold dk; rw [List.length_map]; omega)), ?_⟩
              rw [dk_put]
              refine ⟨_, _, rfl, ?_, same_put (same_put sy nf) nf⟩
              rw [upd_same, hra, if_pos (.inl c1)]
            · rw [decide_eq_false c1]
              refine iteF ?_
              refine ⟨_, rfl, _, rfl, fo, _, rfl, DGet.k (k := Sum.inl p2) hf, _, rfl, ?_⟩
              rw [dk_get]
              by_cases c2 : p2 ∈ l
              · rw [decide_eq_true c2]
                refine iteT ?_
                refine ⟨_, rfl, _, rfl, fo, _, rfl, DPut.k (k := Sum.inl p1) hf (small_2000 (by unfold dk; rw [List.length_map]; omega)), ?_⟩
                rw [dk_put]
                have hf2 : (upd Hy fo (.dK (dk (ins p1 l)))) fo = some (.dK (dk (ins p1 l))) := upd_same
                have h9 : (ins p1 l).length ≤ 9 := ins_le hlen
                refine ⟨_, rfl, _, rfl, fo, _, rfl, DPut.k (k := Sum.inl p2) hf2 (small_2000 (by unfold dk; rw [List.length_map]; omega)), ?_⟩
                rw [dk_put]
                refine ⟨_, _, rfl, ?_, same_put (same_put sy nf) nf⟩
                rw [upd_same, hra, if_pos (.inr c2)]
              · rw [decide_eq_false c2]
                refine iteF ?_
                exact ⟨_, _, rfl, by rw [hra, if_neg (fun z => z.elim c1 c2)]; exact hf, sy⟩
          · refine .inl ⟨t, _, rfl, pt, rfl, .int p1, [.int p2], rfl, .int p2, [], rfl, rfl, ?_⟩
            refine ⟨_, rfl, _, rfl, fo, _, rfl, DGet.k (k := Sum.inl p1) hf, _, rfl, ?_⟩
            rw [dk_get]
            by_cases c1 : p1 ∈ l
            · rw [decide_eq_true c1]
              refine iteT ?_
              refine iteT ?_
              refine ⟨_, rfl, _, rfl, fo, _, rfl, DPut.k (k := Sum.inl p1) hf (small_2000 (by unfold dk; rw [List.length_map]; omega)), ?_⟩
              rw [dk_put]
              have hf2 : (upd Hy fo (.dK (dk (ins p1 l)))) fo = some (.dK (dk (ins p1 l))) := upd_same
              have h9 : (ins p1 l).length ≤ 9 := ins_le hlen
              refine ⟨_, rfl, _, rfl, fo, _, rfl, DPut.k (k := Sum.inl p2) hf2 (small_2000 (by unfold dk; rw [List.length_map]; omega)), ?_⟩
              rw [dk_put]
              refine ⟨_, _, rfl, ?_, same_put (same_put sy nf) nf⟩
              rw [upd_same, hra, if_pos (.inl c1)]
            · rw [decide_eq_false c1]
              refine iteF ?_
              refine ⟨_, rfl, _, rfl, fo, _, rfl, DGet.k (k := Sum.inl p2) hf, _, rfl, ?_⟩
              rw [dk_get]
              by_cases c2 : p2 ∈ l
              · rw [decide_eq_true c2]
                refine iteT ?_
                refine ⟨_, rfl, _, rfl, fo, _, rfl, DPut.k (k := Sum.inl p1) hf (small_2000 (by unfold dk; rw [List.length_map]; omega)), ?_⟩
                rw [dk_put]
                have hf2 : (upd Hy fo (.dK (dk (ins p1 l)))) fo = some (.dK (dk (ins p1 l))) := upd_same
                have h9 : (ins p1 l).length ≤ 9 := ins_le hlen
                refine ⟨_, rfl, _, rfl, fo, _, rfl, DPut.k (k := Sum.inl p2) hf2 (small_2000 (by unfold dk; rw [List.length_map]; omega)), ?_⟩
                rw [dk_put]
                refine ⟨_, _, rfl, ?_, same_put (same_put sy nf) nf⟩
                rw [upd_same, hra, if_pos (.inr c2)]
              · rw [decide_eq_false c2]
                refine iteF ?_
                exact ⟨_, _, rfl, by rw [hra, if_neg (fun z => z.elim c1 c2)]; exact hf, sy⟩
        · rintro σ Hy ⟨v4, v5, rfl, hf, sy⟩
          rw [hln, List.take_length, ← rounds_succ] at hf
          exact ⟨_, _, _, rfl, hf, sy⟩
      · refine .inr ⟨_, rfl, a, rfl, ⟨_, sqt_same s0 h⟩, ?_⟩
        refine for_tup (K := K) (a := a) (xs := rf zs) (fun i σ Hy => ∃ v4 v5 : Option V, σ = [some (.int n), some (.ref a), some (.ref fo), some (.int (0 + (m : Int))), v4, v5] ∧ Hy fo = some (.dK (dk (round ((nums zs).take i) (rounds (nums zs) m [0])))) ∧ Same H Hy)
          ⟨v4, v5, rfl, by rw [List.take_zero]; exact ef, s0⟩ (fun i σ Hy _ hh => by obtain ⟨_, _, _, _, s⟩ := hh; exact sqt_same s h) ?_ ?_
        · skip
          rintro i x σ Hy hi ⟨v4, v5, rfl, hf, sy⟩
          have hzi : ∃ z, zs[i]? = some z ∧ x = .ref z.1 := by
            unfold rf at hi
            rw [List.getElem?_map] at hi
            cases e : zs[i]? with
            | none => rw [e] at hi; cases hi
            | some z => rw [e] at hi; cases hi; exact ⟨z, rfl, rfl⟩
          obtain ⟨⟨t, p1, p2⟩, hz1, rfl⟩ := hzi
          have hmem : (t, p1, p2) ∈ zs := List.mem_of_getElem? hz1
          have htk : (nums zs).take (i + 1) = (nums zs).take i ++ [(p1, p2)] := by
            rw [List.take_add_one, nums_get hz1]; rfl
          have hra := round_app p1 p2 ((nums zs).take i) (rounds (nums zs) m [0])
          rw [← htk] at hra
          have hlen := lenb m i
          generalize round ((nums zs).take i) (rounds (nums zs) m [0]) = l at hf hra hlen
          rcases hp.same sy _ hmem with pt | pt
          · refine .inr ⟨t, _, rfl, pt, rfl, .int p1, [.int p2], rfl, .int p2, [], rfl, rfl, ?_⟩
            refine ⟨_, rfl, _, rfl, fo, _, rfl, DGet.k (k := Sum.inl p1) hf, _, rfl, ?_⟩
            rw [dk_get]
            by_cases c1 : p1 ∈ l
            · rw [decide_eq_true c1]
              refine iteT ?_
              refine iteT ?_
              refine ⟨_, rfl, _, rfl, fo, _, rfl, DPut.k (k := Sum.inl p1) hf (small_2000 (by unfold dk; rw [List.length_map]; omega)), ?_⟩
              rw [dk_put]
              have hf2 : (upd Hy fo (.dK (dk (ins p1 l)))) fo = some (.dK (dk (ins p1 l))) := upd_same
              have h9 : (ins p1 l).length ≤ 9 := ins_le hlen
              refine ⟨_, rfl, _, rfl, fo, _, rfl, DPut.k (k := Sum.inl p2) hf2 (small_2000 (by unfold dk; rw [List.length_map]; omega)), ?_⟩
              rw [dk_put]
              refine ⟨_, _, rfl, ?_, same_put (same_put sy nf) nf⟩
              rw [upd_same, hra, if_pos (.inl c1)]
            · rw [decide_eq_false c1]
              refine iteF ?_
              refine ⟨_, rfl, _, rfl, fo, _, rfl, DGet.k (k := Sum.inl p2) hf, _, rfl, ?_⟩
              rw [dk_get]
              by_cases c2 : p2 ∈ l
              · rw [decide_eq_true c2]
                refine iteT ?_
                refine ⟨_, rfl, _, rfl, fo, _, rfl, DPut.k (k := Sum.inl p1) hf (small_2000 (by unfold dk; rw [List.length_map]; omega)), ?_⟩
                rw [dk_put]
                have hf2 : (upd Hy fo (.dK (dk (ins p1 l)))) fo = some (.dK (dk (ins p1 l))) := upd_same
                have h9 : (ins p1 l).length ≤ 9 := ins_le hlen
                refine ⟨_, rfl, _, rfl, fo, _, rfl, DPut.k (k := Sum.inl p2) hf2 (small_2000 (by unfold dk; rw [List.length_map]; omega)), ?_⟩
                rw [dk_put]
                refine ⟨_, _, rfl, ?_, same_put (same_put sy nf) nf⟩
                rw [upd_same, hra, if_pos (.inr c2)]
              · rw [decide_eq_false c2]
                refine iteF ?_
                exact ⟨_, _, rfl, by rw [hra, if_neg (fun z => z.elim c1 c2)]; exact hf, sy⟩
          · refine .inl ⟨t, _, rfl, pt, rfl, .int p1, [.int p2], rfl, .int p2, [], rfl, rfl, ?_⟩
            refine ⟨_, rfl, _, rfl, fo, _, rfl, DGet.k (k := Sum.inl p1) hf, _, rfl, ?_⟩
            rw [dk_get]
            by_cases c1 : p1 ∈ l
            · rw [decide_eq_true c1]
              refine iteT ?_
              refine iteT ?_
              refine ⟨_, rfl, _, rfl, fo, _, rfl, DPut.k (k := Sum.inl p1) hf (small_2000 (by unfold dk; rw [List.length_map]; omega)), ?_⟩
              rw [dk_put]
              have hf2 : (upd Hy fo (.dK (dk (ins p1 l)))) fo = some (.dK (dk (ins p1 l))) := upd_same
              have h9 : (ins p1 l).length ≤ 9 := ins_le hlen
              refine ⟨_, rfl, _, rfl, fo, _, rfl, DPut.k (k := Sum.inl p2) hf2 (small_2000 (by unfold dk; rw [List.length_map]; omega)), ?_⟩
              rw [dk_put]
              refine ⟨_, _, rfl, ?_, same_put (same_put sy nf) nf⟩
              rw [upd_same, hra, if_pos (.inl c1)]
            · rw [decide_eq_false c1]
              refine iteF ?_
              refine ⟨_, rfl, _, rfl, fo, _, rfl, DGet.k (k := Sum.inl p2) hf, _, rfl, ?_⟩
              rw [dk_get]
              by_cases c2 : p2 ∈ l
              · rw [decide_eq_true c2]
                refine iteT ?_
                refine ⟨_, rfl, _, rfl, fo, _, rfl, DPut.k (k := Sum.inl p1) hf (small_2000 (by unfold dk; rw [List.length_map]; omega)), ?_⟩
                rw [dk_put]
                have hf2 : (upd Hy fo (.dK (dk (ins p1 l)))) fo = some (.dK (dk (ins p1 l))) := upd_same
                have h9 : (ins p1 l).length ≤ 9 := ins_le hlen
                refine ⟨_, rfl, _, rfl, fo, _, rfl, DPut.k (k := Sum.inl p2) hf2 (small_2000 (by unfold dk; rw [List.length_map]; omega)), ?_⟩
                rw [dk_put]
                refine ⟨_, _, rfl, ?_, same_put (same_put sy nf) nf⟩
                rw [upd_same, hra, if_pos (.inr c2)]
              · rw [decide_eq_false c2]
                refine iteF ?_
                exact ⟨_, _, rfl, by rw [hra, if_neg (fun z => z.elim c1 c2)]; exact hf, sy⟩
        · rintro σ Hy ⟨v4, v5, rfl, hf, sy⟩
          rw [hln, List.take_length, ← rounds_succ] at hf
          exact ⟨_, _, _, rfl, hf, sy⟩
    · rintro σ Hx ⟨v3, v4, v5, rfl, ef, s0⟩
      refine ⟨_, rfl, fo, _, rfl, ef, _, rfl, rfl, ?_⟩
      have := k Hx s0
      unfold dk
      rw [List.length_map]
      exact this
end
end K03


set_option Elab.async false
set_option maxRecDepth 100000
set_option maxHeartbeats 1000000
set_option linter.all false
namespace K03
open PySem PySem.Spec PyProof.Rows L2 NetM
abbrev sBehind : Stmt := top 14
theorem scBehind : FnScope ["places", "arrows", "order", "_", "ready", "place", "tail", "head"] ["places", "arrows"] (defScope sBehind) := ⟨rfl, rfl, rfl, by decide +kernel, rfl, by decide +kernel, by decide +kernel⟩
def spBehind (K : PySem.W.Frag) : Sp := fun vs H Q _ => ∃ (a : Addr) (n : Nat) (zs : Zs), vs = [.int n, .ref a] ∧ SqA K H a (rf zs) ∧ PrA K H zs ∧ zs.length ≤ 400 ∧ 0 < n ∧ n ≤ 8 ∧
  ∀ (p : Addr) (H' : Hp), Same H H' → H p = none → H' p = some (.lst ((ordr (nums zs) n n []).map V.int)) → Q (.ref p) H'
theorem rf_inv {zs : Zs} {i : Nat} {x : V} (hi : (rf zs)[i]? = some x) : ∃ z, zs[i]? = some z ∧ x = .ref z.1 := by
  unfold rf at hi
  rw [List.getElem?_map] at hi
  cases e : zs[i]? with
  | none => rw [e] at hi; cases hi
  | some z => rw [e] at hi; cases hi; exact ⟨z, rfl, rfl⟩
theorem rng_succ (i : Nat) : rng (i + 1) = rng i ++ [(i : Int)] := by unfold rng; rw [List.range_succ, List.map_append]; rfl
section
variable {P : Program} {w : World} {K : PySem.W.Frag} {mg : Str → Option Value} {base : Heap}
theorem ok_behind {f : Addr} {fd : FuncData} (F : Fun K "places_behind" "places_behind" sBehind f fd) (mRa : mg "range" = none) (mAll : mg "all" = none) : FnOk P w K mg base CX0 1 f fd ["places", "arrows"] (spBehind K) := by
  refine F.ok scBehind (fun vs H Q E h => ?_) (fun cdv A outer s H vs Q E hr h => ?_)
  · obtain ⟨a, n, zs, rfl, _⟩ := h
    rfl
  · obtain ⟨a, n, zs, rfl, hS, hp, hz, n0, n8, k⟩ := h
    have nd := scBehind.nd
    refine ⟨_, pss_cons (ps_set (i := 2) nd rfl (Or.inr rfl) (pe_lst pa_nil))
      (pss_cons (ps_for PassesOwn.never rfl (pi_range1 (by rfl) mRa (pa_cons (pv 0) pa_nil)) (pg_name (i := 3) nd rfl (Or.inl rfl))
        (pss_cons (ps_setLc (i := 4) (own := [("place", 5)]) (g := gName 5) (by rfl) nd rfl rfl (sw_true rfl rfl rfl (by decide +kernel)) (pi_range1 (by rfl) mRa (pa_cons (pv 0) pa_nil)) (blkOk_by (N := ["places", "arrows", "order", "_", "ready", "place", "tail", "head"]) (sc := defScope sBehind) (by decide +kernel)) (fun _ _ _ _ _ => pg_name (i := 5) nd rfl (Or.inr rfl))
            (fun _ _ _ _ _ => pts_one (PW.pt (pw_and (pt_cmpR (show OpR _ _ (rIn K true) from op_notIn_seq) (pv 5) (pv 2) rfl)
              (pw_and1 (pt_val (pe_callB (show CallR _ _ (rAll K) from cr_all (by rfl)) (by rfl) mAll (by decide +kernel) (pa_cons
                (pe_lc (own := [("tail", 6), ("head", 7)]) (g := gEi (gTup K 2 (gCons (gName 6) (gCons (gName 7) gNil))) (gLst K 2 (gCons (gName 6) (gCons (gName 7) gNil)))) (by rfl) nd (show PI _ _ _ (iEi (iList K (tVar 1)) (iTup K (tVar 1))) from pi_either (pi_list (pv 1)) (pi_tup (pv 1)))
                  (blkOk_by (N := ["places", "arrows", "order", "_", "ready", "place", "tail", "head"]) (by kernel_rfl))
                  (fun _ _ _ _ _ => pg_either (pg_tup (by rfl) (pgs_cons (pg_name (i := 6) nd rfl (Or.inl rfl)) (pgs_cons (pg_name (i := 7) nd rfl (Or.inl rfl)) pgs_nil))) (pg_lst (by rfl) (pgs_cons (pg_name (i := 6) nd rfl (Or.inl rfl)) (pgs_cons (pg_name (i := 7) nd rfl (Or.inl rfl)) pgs_nil))))
                  (fun _ _ _ _ _ => pts_one (pt_cmpR op_eq (pv 6) (pv 5) (nomark _)))
                  (fun _ _ _ _ _ => pe_cmpR (show OpR _ _ (rIn K false) from op_in_seq) (pv 7) (pv 2) rfl)) pa_nil)))))))
            (fun _ _ _ _ _ => pv 5))
          (pss_one (ps_if (pt_truth (pv 4) (fun _ => rfl)) (pss_one (ps_expr (pe_bm PySem.F.plainAttrs_list PySem.F.slot_list_append PySem.F.type_list_append mt_append (pv 2) (pa_cons (pe_ix ix_list (pv 4) pe_int (fun _ _ => rfl)) pa_nil)))) pss_nil))))
      (pss_one (ps_ret (pv 2)))), ?_⟩
    refine ⟨Nat.zero_le _, fun od nod => ?_⟩
    have e0 : (upd H od (.lst [])) od = some (.lst (([] : List Int).map V.int)) := upd_same
    have s0' : Same H (upd H od (.lst [])) := same_upd nod
    generalize upd H od (.lst []) = H0 at e0 s0'
    refine ⟨_, rfl, (n : Int), rfl, by omega, by omega, ?_⟩
    rw [Int.toNat_natCast]
    have ordS : ∀ m, ordr (nums zs) n (m + 1) [] = (match ready (nums zs) n (ordr (nums zs) n m []) with | [] => ordr (nums zs) n m [] | p :: _ => ordr (nums zs) n m [] ++ [p]) := fun m => ordr_succ _ _ m []
    refine for_range (lo := 0) (n := n) (fun m σ Hx => ∃ v3 v4 v5 v6 v7 : Option V, σ = [some (.int n), some (.ref a), some (.ref od), v3, v4, v5, v6, v7] ∧ Hx od = some (.lst ((ordr (nums zs) n m []).map V.int)) ∧ Same H Hx) ⟨none, none, none, none, none, rfl, e0, s0'⟩ ?_ ?_
    · rintro m σ Hx hm ⟨v3, v4, v5, v6, v7, rfl, ef, s0⟩
      have os := ordS m
      have olen : (ordr (nums zs) n m []).length ≤ 8 := ordr_le n8 m
      generalize ordr (nums zs) n m [] = o at ef os olen
      refine ⟨_, rfl, (n : Int), rfl, by omega, by omega, fun rd nrd => ?_⟩
      rw [Int.toNat_natCast]
      have hln : (rf zs).length = (nums zs).length := by unfold rf nums; rw [List.length_map, List.length_map]
      refine lc_range (lo := 0) (n := n) (fun i Hc => Hc rd = some (.lst (((rng i).filter (free (nums zs) o)).map V.int)) ∧ Same Hx Hc) ⟨upd_same, same_upd nrd⟩ ?_ ?_
      · rintro i Hc hi ⟨ec, sc⟩
        refine ⟨rfl, ?_⟩
        refine ⟨_, rfl, _, rfl, od, _, rfl, .inl (SqL.of (sc _ _ ef)), rfl, flat_ints _, _, rfl, ?_⟩
        rw [inV_ints]
        have ei : (0 + (i : Int)) = (i : Int) := by omega
        rw [ei]
        by_cases c1 : (i : Int) ∈ o
        · rw [decide_eq_true c1]
          refine iteF ?_
          refine iteF ?_
          have fi : free (nums zs) o (i : Int) = false := by
            cases q : free (nums zs) o (i : Int) with
            | false => rfl
            | true => exact absurd c1 (free_iff.mp q).1
          refine ⟨?_, sc⟩
          rw [ec, rng_succ, List.filter_append, List.filter_cons, fi]
          simp
        · rw [decide_eq_false c1]
          refine iteT ?_
          rcases id hS with h | h
          · skip
            refine .inl ⟨_, rfl, a, rfl, ⟨_, (s0.trans sc).seq h⟩, fun D nD => ?_⟩
            refine lc_list (K := K) (a := a) (xs := rf zs) (fun j Hd => ∃ bs : List Bool, Hd D = some (.lst (bs.map V.bl)) ∧ (bs.all id = true ↔ ∀ h, ((i : Int), h) ∈ (nums zs).take j → h ∈ o) ∧ bs.length ≤ j ∧ Same Hc Hd) ⟨[], upd_same, ⟨fun _ h m => by simp at m, fun _ => rfl⟩, Nat.le_refl _, same_upd nD⟩ (fun j Hd _ hh => by obtain ⟨_, _, _, _, s⟩ := hh; exact ((s0.trans sc).trans s).seq h) ?_ ?_
            · rintro j x Hd hj ⟨bs, eD, ib, lb, sd⟩
              obtain ⟨⟨t, p1, p2⟩, hz1, rfl⟩ := rf_inv hj
              have hmem : (t, p1, p2) ∈ zs := List.mem_of_getElem? hz1
              have hjl : j < zs.length := (List.getElem?_eq_some_iff.mp hz1).1
              have htk : (nums zs).take (j + 1) = (nums zs).take j ++ [(p1, p2)] := by
                rw [List.take_add_one, nums_get hz1]; rfl
              have sH : Same H Hd := s0.trans (sc.trans sd)
              have eo := (sc.trans sd) _ _ ef
              rcases hp.same sH _ hmem with pt | pt
              · refine .inr ⟨t, _, rfl, pt, rfl, .int p1, [.int p2], rfl, .int p2, [], rfl, rfl, rfl, ?_⟩
                refine ⟨_, rfl, _, rfl, rfl, _, rfl, ?_⟩
                by_cases c3 : p1 = (i : Int)
                · refine (if_pos (decide_eq_true (by rw [c3]))).mpr ?_
                  refine ⟨_, rfl, _, rfl, od, _, rfl, .inl (SqL.of eo), rfl, flat_ints _, ?_⟩
                  refine ⟨_, eD, small_2000 (by rw [List.length_map]; omega), bs ++ [decide (p2 ∈ o)], by rw [upd_same, List.map_append, inV_ints]; rfl, ?_, by rw [List.length_append]; exact Nat.succ_le_succ lb, same_put sd nD⟩
                  rw [List.all_append, Bool.and_eq_true, ib, htk]
                  constructor
                  · rintro ⟨z1, z2⟩ h m
                    rcases List.mem_append.mp m with m | m
                    · exact z1 h m
                    · rw [List.mem_singleton] at m
                      obtain ⟨_, m2⟩ := Prod.mk.inj m
                      rw [m2]
                      simpa using z2
                  · intro z
                    refine ⟨fun h m => z h (List.mem_append_left _ m), ?_⟩
                    have := z p2 (List.mem_append_right _ (by rw [c3]; exact List.mem_singleton.mpr rfl))
                    simpa using this
                · refine (if_neg (fun z => c3 (by have := of_decide_eq_true z; simpa using V.int.inj this))).mpr ?_
                  refine ⟨bs, eD, ?_, by omega, sd⟩
                  rw [ib, htk]
                  constructor
                  · intro z h m
                    rcases List.mem_append.mp m with m | m
                    · exact z h m
                    · rw [List.mem_singleton] at m
                      exact absurd (Prod.mk.inj m).1.symm c3
                  · exact fun z h m => z h (List.mem_append_left _ m)
              · refine .inl ⟨t, _, rfl, pt, rfl, .int p1, [.int p2], rfl, .int p2, [], rfl, rfl, rfl, ?_⟩
                refine ⟨_, rfl, _, rfl, rfl, _, rfl, ?_⟩
                by_cases c3 : p1 = (i : Int)
                · refine (if_pos (decide_eq_true (by rw [c3]))).mpr ?_
                  refine ⟨_, rfl, _, rfl, od, _, rfl, .inl (SqL.of eo), rfl, flat_ints _, ?_⟩
                  refine ⟨_, eD, small_2000 (by rw [List.length_map]; omega), bs ++ [decide (p2 ∈ o)], by rw [upd_same, List.map_append, inV_ints]; rfl, ?_, by rw [List.length_append]; exact Nat.succ_le_succ lb, same_put sd nD⟩
                  rw [List.all_append, Bool.and_eq_true, ib, htk]
                  constructor
                  · rintro ⟨z1, z2⟩ h m
                    rcases List.mem_append.mp m with m | m
                    · exact z1 h m
                    · rw [List.mem_singleton] at m
                      obtain ⟨_, m2⟩ := Prod.mk.inj m
                      rw [m2]
                      simpa using z2
                  · intro z
                    refine ⟨fun h m => z h (List.mem_append_left _ m), ?_⟩
                    have := z p2 (List.mem_append_right _ (by rw [c3]; exact List.mem_singleton.mpr rfl))
                    simpa using this
                · refine (if_neg (fun z => c3 (by have := of_decide_eq_true z; simpa using V.int.inj this))).mpr ?_
                  refine ⟨bs, eD, ?_, by omega, sd⟩
                  rw [ib, htk]
                  constructor
                  · intro z h m
                    rcases List.mem_append.mp m with m | m
                    · exact z h m
                    · rw [List.mem_singleton] at m
                      exact absurd (Prod.mk.inj m).1.symm c3
                  · exact fun z h m => z h (List.mem_append_left _ m)
            · rintro Hd ⟨bs, eD, ib, lb, sd⟩
              rw [hln, List.take_length] at ib
              refine ⟨D, bs, rfl, SqL.of eD, _, rfl, ?_⟩
              have fi : free (nums zs) o (i : Int) = bs.all id := by
                cases q : bs.all id with
                | true => exact free_iff.mpr ⟨c1, ib.mp q⟩
                | false =>
                  cases q2 : free (nums zs) o (i : Int) with
                  | false => rfl
                  | true => rw [ib.mpr (free_iff.mp q2).2] at q; cases q
              cases q : bs.all id with
              | true =>
                refine iteT ?_
                refine ⟨_, rfl, _, sd _ _ ec, small_2000 (by rw [List.length_map]; exact Nat.le_trans (List.length_filter_le _ _) (by rw [rng_len]; omega)), ?_, same_put (sc.trans sd) nrd⟩
                rw [upd_same, rng_succ, List.filter_append, List.map_append, List.filter_cons, fi, q]
                simp
              | false =>
                refine iteF ?_
                refine ⟨?_, sc.trans sd⟩
                rw [sd _ _ ec, rng_succ, List.filter_append, List.filter_cons, fi, q]
                simp
          · skip
            refine .inr ⟨_, rfl, a, rfl, ⟨_, sqt_same (s0.trans sc) h⟩, fun D nD => ?_⟩
            refine lc_tup (K := K) (a := a) (xs := rf zs) (fun j Hd => ∃ bs : List Bool, Hd D = some (.lst (bs.map V.bl)) ∧ (bs.all id = true ↔ ∀ h, ((i : Int), h) ∈ (nums zs).take j → h ∈ o) ∧ bs.length ≤ j ∧ Same Hc Hd) ⟨[], upd_same, ⟨fun _ h m => by simp at m, fun _ => rfl⟩, Nat.le_refl _, same_upd nD⟩ (fun j Hd _ hh => by obtain ⟨_, _, _, _, s⟩ := hh; exact sqt_same ((s0.trans sc).trans s) h) ?_ ?_
            · rintro j x Hd hj ⟨bs, eD, ib, lb, sd⟩
              obtain ⟨⟨t, p1, p2⟩, hz1, rfl⟩ := rf_inv hj
              have hmem : (t, p1, p2) ∈ zs := List.mem_of_getElem? hz1
              have hjl : j < zs.length := (List.getElem?_eq_some_iff.mp hz1).1
              have htk : (nums zs).take (j + 1) = (nums zs).take j ++ [(p1, p2)] := by
                rw [List.take_add_one, nums_get hz1]; rfl
              have sH : Same H Hd := s0.trans (sc.trans sd)
              have eo := (sc.trans sd) _ _ ef
              rcases hp.same sH _ hmem with pt | pt
              · refine .inr ⟨t, _, rfl, pt, rfl, .int p1, [.int p2], rfl, .int p2, [], rfl, rfl, rfl, ?_⟩
                refine ⟨_, rfl, _, rfl, rfl, _, rfl, ?_⟩
                by_cases c3 : p1 = (i : Int)
                · refine (if_pos (decide_eq_true (by rw [c3]))).mpr ?_
                  refine ⟨_, rfl, _, rfl, od, _, rfl, .inl (SqL.of eo), rfl, flat_ints _, ?_⟩
                  refine ⟨_, eD, small_2000 (by rw [List.length_map]; omega), bs ++ [decide (p2 ∈ o)], by rw [upd_same, List.map_append, inV_ints]; rfl, ?_, by rw [List.length_append]; exact Nat.succ_le_succ lb, same_put sd nD⟩
                  rw [List.all_append, Bool.and_eq_true, ib, htk]
                  constructor
                  · rintro ⟨z1, z2⟩ h m
                    rcases List.mem_append.mp m with m | m
                    · exact z1 h m
                    · rw [List.mem_singleton] at m
                      obtain ⟨_, m2⟩ := Prod.mk.inj m
                      rw [m2]
                      simpa using z2
                  · intro z
                    refine ⟨fun h m => z h (List.mem_append_left _ m), ?_⟩
                    have := z p2 (List.mem_append_right _ (by rw [c3]; exact List.mem_singleton.mpr rfl))
                    simpa using this
                · refine (if_neg (fun z => c3 (by have := of_decide_eq_true z; simpa using V.int.inj this))).mpr ?_
                  refine ⟨bs, eD, ?_, by omega, sd⟩
                  rw [ib, htk]
                  constructor
                  · intro z h m
                    rcases List.mem_append.mp m with m | m
                    · exact z h m
                    · rw [List.mem_singleton] at m
                      exact absurd (Prod.mk.inj m).1.symm c3
                  · exact fun z h m => z h (List.mem_append_left _ m)
              · refine .inl ⟨t, _, rfl, pt, rfl, .int p1, [.int p2], rfl, .int p2, [], rfl, rfl, rfl, ?_⟩
                refine ⟨_, rfl, _, rfl, rfl, _, rfl, ?_⟩
                by_cases c3 : p1 = (i : Int)
                · refine (if_pos (decide_eq_true (by rw [c3]))).mpr ?_
                  refine ⟨_, rfl, _, rfl, od, _, rfl, .inl (SqL.of eo), rfl, flat_ints _, ?_⟩
                  refine ⟨_, eD, small_2000 (by rw [List.length_map]; omega), bs ++ [decide (p2 ∈ o)], by rw [upd_same, List.map_append, inV_ints]; rfl, ?_, by rw [List.length_append]; exact Nat.succ_le_succ lb, same_put sd nD⟩
                  rw [List.all_append, Bool.and_eq_true, ib, htk]
                  constructor
                  · rintro ⟨z1, z2⟩ h m
                    rcases List.mem_append.mp m with m | m
                    · exact z1 h m
                    · rw [List.mem_singleton] at m
                      obtain ⟨_, m2⟩ := Prod.mk.inj m
                      rw [m2]
                      simpa using z2
                  · intro z
                    refine ⟨fun h m => z h (List.mem_append_left _ m), ?_⟩
                    have := z p2 (List.mem_append_right _ (by rw [c3]; exact List.mem_singleton.mpr rfl))
                    simpa using this
                · refine (if_neg (fun z => c3 (by have := of_decide_eq_true z; simpa using V.int.inj this))).mpr ?_
                  refine ⟨bs, eD, ?_, by omega, sd⟩
                  rw [ib, htk]
                  constructor
                  · intro z h m
                    rcases List.mem_append.mp m with m | m
                    · exact z h m
                    · rw [List.mem_singleton] at m
                      exact absurd (Prod.mk.inj m).1.symm c3
                  · exact fun z h m => z h (List.mem_append_left _ m)
            · rintro Hd ⟨bs, eD, ib, lb, sd⟩
              rw [hln, List.take_length] at ib
              refine ⟨D, bs, rfl, SqL.of eD, _, rfl, ?_⟩
              have fi : free (nums zs) o (i : Int) = bs.all id := by
                cases q : bs.all id with
                | true => exact free_iff.mpr ⟨c1, ib.mp q⟩
                | false =>
                  cases q2 : free (nums zs) o (i : Int) with
                  | false => rfl
                  | true => rw [ib.mpr (free_iff.mp q2).2] at q; cases q
              cases q : bs.all id with
              | true =>
                refine iteT ?_
                refine ⟨_, rfl, _, sd _ _ ec, small_2000 (by rw [List.length_map]; exact Nat.le_trans (List.length_filter_le _ _) (by rw [rng_len]; omega)), ?_, same_put (sc.trans sd) nrd⟩
                rw [upd_same, rng_succ, List.filter_append, List.map_append, List.filter_cons, fi, q]
                simp
              | false =>
                refine iteF ?_
                refine ⟨?_, sc.trans sd⟩
                rw [sd _ _ ec, rng_succ, List.filter_append, List.filter_cons, fi, q]
                simp
      · rintro Hc ⟨ec, sc⟩
        have eo := sc _ _ ef
        have hR : ready (nums zs) n o = (rng n).filter (free (nums zs) o) := rfl
        rw [← hR] at ec
        cases q : ready (nums zs) n o with
        | nil =>
          rw [q] at ec os
          refine ⟨_, rfl, false, .inl ⟨_, SqL.of ec, rfl⟩, ?_⟩
          refine iteF ?_
          exact ⟨_, _, _, _, _, rfl, by rw [os]; exact eo, s0.trans sc⟩
        | cons p r =>
          rw [q] at ec os
          refine ⟨_, rfl, true, .inl ⟨_, SqL.of ec, rfl⟩, ?_⟩
          refine iteT ?_
          refine ⟨_, rfl, .inl ⟨rfl, _, SqL.of eo⟩, _, rfl, rd, _, 0, .int p, rfl, rfl, SqL.of ec, atI_nat (j := 0) rfl, od, _, _, rfl, rfl, eo, small_2000 (by rw [List.length_map]; omega), ?_⟩
          refine ⟨_, _, _, _, _, rfl, ?_, same_put (s0.trans sc) nod⟩
          rw [upd_same, os, List.map_append]
          rfl
    · rintro σ Hx ⟨v3, v4, v5, v6, v7, rfl, ef, s0⟩
      exact ⟨_, rfl, k od Hx s0 nod ef⟩
end
end K03


set_option Elab.async false
set_option maxRecDepth 100000
set_option maxHeartbeats 1000000
set_option linter.all false
namespace K03
open PySem PySem.Spec PyProof.Rows L2 NetM
abbrev sIsNum : Stmt := top 1
abbrev sIsNumTo : Stmt := top 2
abbrev sIsList : Stmt := top 3
theorem scIsNum : FnScope ["thing"] ["thing"] (defScope sIsNum) := ⟨rfl, rfl, rfl, by decide +kernel, rfl, by decide +kernel, by decide +kernel⟩
theorem scIsNumTo : FnScope ["thing", "most"] ["thing", "most"] (defScope sIsNumTo) := ⟨rfl, rfl, rfl, by decide +kernel, rfl, by decide +kernel, by decide +kernel⟩
theorem scIsList : FnScope ["thing"] ["thing"] (defScope sIsList) := ⟨rfl, rfl, rfl, by decide +kernel, rfl, by decide +kernel, by decide +kernel⟩
/-- the type, and whether it is what is asked -/
def spIsNum (K : PySem.W.Frag) : Sp := fun vs H Q _ => ∃ (x : V) (t : Value) (b c : Bool), vs = [x] ∧ TyX K H x t ∧ PySem.W.kitOne K t (.type "int") = some b ∧ PySem.W.kitOne K t (.type "bool") = some c ∧ Q (.bl (b && !c)) H
theorem num_int (K : PySem.W.Frag) : PySem.W.kitOne K (.type "int") (.type "int") = some true ∧ PySem.W.kitOne K (.type "int") (.type "bool") = some false := ⟨by kernel_rfl, by kernel_rfl⟩
theorem num_bool (K : PySem.W.Frag) : PySem.W.kitOne K (.type "bool") (.type "int") = some true ∧ PySem.W.kitOne K (.type "bool") (.type "bool") = some true := ⟨by kernel_rfl, by kernel_rfl⟩
section
variable {P : Program} {w : World} {K : PySem.W.Frag} {mg : Str → Option Value} {base : Heap}
theorem ok_isnum {f : Addr} {fd : FuncData} (F : Fun K "is_number" "is_number" sIsNum f fd) (mIs : mg "isinstance" = none) (mInt : mg "int" = none) (mBo : mg "bool" = none) : FnOk P w K mg base CX0 1 f fd ["thing"] (spIsNum K) := by
  refine F.ok scIsNum (fun vs H Q E h => ?_) (fun cdv A outer s H vs Q E hr h => ?_)
  · obtain ⟨x, t, b, c, rfl, _⟩ := h
    rfl
  · obtain ⟨x, t, b, c, rfl, ht, hb, hc, k⟩ := h
    have nd := scIsNum.nd
    refine ⟨_, pss_one (ps_ret (pe_and (pe_callB call_isi (by rfl) mIs (by decide +kernel) (pa_cons (pv 0) (pa_cons (pe_bltn (v := .ty "int") (by rfl) mInt (by decide +kernel) rfl) pa_nil)))
      (pe_one (pe_not (pe_callB call_isi (by rfl) mIs (by decide +kernel) (pa_cons (pv 0) (pa_cons (pe_bltn (v := .ty "bool") (by rfl) mBo (by decide +kernel) rfl) pa_nil))))))), ?_⟩
    refine ⟨_, rfl, x, _, t, _, b, rfl, .ty "int", ht, hb, _, rfl, ?_⟩
    cases b with
    | true =>
      refine iteT ?_
      exact ⟨_, rfl, x, _, t, _, c, rfl, .ty "bool", ht, hc, _, rfl, k⟩
    | false =>
      refine iteF ?_
      exact k
/-- x is told by its type; a number from 0 to m -/
def spIsNumTo (K : PySem.W.Frag) : Sp := fun vs H Q _ => ∃ (x : V) (t : Value) (b c : Bool) (m : Int), vs = [x, .int m] ∧ TyX K H x t ∧ PySem.W.kitOne K t (.type "int") = some b ∧ PySem.W.kitOne K t (.type "bool") = some c ∧
  (((b && !c) = false ∧ Q (.bl false) H) ∨ ((b && !c) = true ∧ ∃ i : Int, x = .int i ∧ Q (.bl (decide (0 ≤ i ∧ i ≤ m))) H))
theorem ok_isnumto {f fN : Addr} {fd fdN : FuncData} (F : Fun K "is_number_to" "is_number_to" sIsNumTo f fd) (GN : FnOk P w K mg base CX0 1 fN fdN ["thing"] (spIsNum K)) (FN : Fun K "is_number" "is_number" sIsNum fN fdN) (bN : L2.Binds K fdN ["thing"] []) (gN : mg "is_number" = some (.ref fN)) : FnOk P w K mg base CX0 2 f fd ["thing", "most"] (spIsNumTo K) := by
  refine F.ok scIsNumTo (fun vs H Q E h => ?_) (fun cdv A outer s H vs Q E hr h => ?_)
  · obtain ⟨x, t, b, c, m, rfl, _⟩ := h
    rfl
  · obtain ⟨x, t, b, c, m, rfl, ht, hb, hc, k⟩ := h
    refine ⟨_, pss_one (ps_ret (pe_and (pe_call GN hr (by rfl) gN FN.kp bN .nil pass0 (pa_cons (pv 0) pa_nil)) (pe_one (pe_chain op_le op_le pe_int (pv 0) (pv 1))))), ?_⟩
    refine ⟨_, rfl, x, t, b, c, rfl, ht, hb, hc, _, rfl, ?_⟩
    rcases k with ⟨e, k⟩ | ⟨e, i, rfl, k⟩
    · rw [e]
      refine iteF ?_
      exact k
    · rw [e]
      refine iteT ?_
      refine ⟨_, rfl, _, _, rfl, rfl, _, rfl, ite2 (fun c1 => ?_) (fun c1 => ?_)⟩
      · have h0 := of_decide_eq_true c1
        refine ⟨_, rfl, _, _, rfl, rfl, ?_⟩
        have e2 : decide (i ≤ m) = decide (0 ≤ i ∧ i ≤ m) := by
          by_cases z : i ≤ m
          · rw [decide_eq_true z, decide_eq_true ⟨h0, z⟩]
          · rw [decide_eq_false z, decide_eq_false fun y => z y.2]
        show Q (.bl (decide (i ≤ m))) H
        rw [e2]
        exact k
      · have h0 : ¬ 0 ≤ i := fun z => c1 (decide_eq_true z)
        rw [decide_eq_false fun y => h0 y.1] at k
        exact k
theorem TyX.same {H H' : Hp} (s : Same H H') {x : V} {t : Value} (h : TyX K H x t) : TyX K H' x t := by
  cases h with
  | base h =>
    refine .base ?_
    cases h with
    | non => exact .non
    | bl x => exact .bl x
    | int x => exact .int x
    | str x => exact .str x
    | flt x => exact .flt x
    | lst e => exact .lst (s _ _ e)
    | frz e => exact .frz (s _ _ e)
    | tup e => exact .tup (s _ _ e)
    | dK e => exact .dK (s _ _ e)
    | dT e => exact .dT (s _ _ e)
    | ins e c a b d f => exact .ins (s _ _ e) c a b d f
  | byt b => exact .byt b
  | set e => exact .set (s _ _ e)
  | kList e c => exact .kList e c
  | kTuple e c => exact .kTuple e c
  | kDict e c => exact .kDict e c
  | fTuple e => exact .fTuple (s _ _ e)
  | fDict e => exact .fDict (s _ _ e)
theorem ty_lst {H : Hp} {a : Addr} {xs : List V} (h : SqL K H a xs) : TyX K H (.ref a) (.type "list") := by
  rcases h with (h | ⟨o, h⟩) | ⟨o, its, n, h, c, _⟩
  · exact .base (.lst h)
  · exact .base (.frz h)
  · exact .kList h c
theorem ty_tup {H : Hp} {a : Addr} {xs : List V} (h : SqT K H a xs) : TyX K H (.ref a) (.type "tuple") := by
  rcases h with (h | ⟨o, h⟩) | ⟨o, its, n, h, c, _⟩
  · exact .base (.tup h)
  · exact .fTuple h
  · exact .kTuple h c
def spIsList (K : PySem.W.Frag) : Sp := fun vs H Q _ => ∃ (x : V) (t : Value) (b : Bool), vs = [x] ∧ TyX K H x t ∧ PySem.W.kitAny K t [.type "list", .type "tuple"] = some b ∧ ∀ H' : Hp, Same H H' → Q (.bl b) H'
theorem ok_islist {f : Addr} {fd : FuncData} (F : Fun K "is_list" "is_list" sIsList f fd) (mIs : mg "isinstance" = none) (mLi : mg "list" = none) (mTu : mg "tuple" = none) : FnOk P w K mg base CX0 1 f fd ["thing"] (spIsList K) := by
  refine F.ok scIsList (fun vs H Q E h => ?_) (fun cdv A outer s H vs Q E hr h => ?_)
  · obtain ⟨x, t, b, rfl, _⟩ := h
    rfl
  · obtain ⟨x, t, b, rfl, ht, hb, k⟩ := h
    refine ⟨_, pss_one (ps_ret (pe_callB call_isiT (by rfl) mIs (by decide +kernel) (pa_cons (pv 0) (pa_cons (pe_tup (pa_cons (pe_bltn (v := .ty "list") (by rfl) mLi (by decide +kernel) rfl) (pa_cons (pe_bltn (v := .ty "tuple") (by rfl) mTu (by decide +kernel) rfl) pa_nil))) pa_nil)))), ?_⟩
    refine ⟨_, rfl, by show 2 ≤ sizeLine; decide, fun tp np => ?_⟩
    exact ⟨x, tp, _, t, [.type "list", .type "tuple"], b, rfl, upd_same, .cons (.ty "list") (.cons (.ty "tuple") .nil), TyX.same (same_upd np) ht, hb, k _ (same_upd np)⟩
end
end K03


set_option Elab.async false
set_option maxRecDepth 100000
set_option maxHeartbeats 2000000
set_option linter.all false
namespace K03
open PySem PySem.Spec PyProof.Rows L2 NetM
abbrev sAre : Stmt := top 12
theorem scAre : FnScope ["places", "thing", "arrow", "end"] ["places", "thing"] (defScope sAre) := ⟨rfl, rfl, rfl, by decide +kernel, rfl, by decide +kernel, by decide +kernel⟩
/-- an end: a number below n, or not -/
inductive EndJ (K : PySem.W.Frag) (H : Hp) (n : Int) : V → Option Int → Prop
  | ok {i : Int} (h : 0 ≤ i ∧ i ≤ n - 1) : EndJ K H n (.int i) (some i)
  | out {i : Int} (h : ¬ (0 ≤ i ∧ i ≤ n - 1)) : EndJ K H n (.int i) none
  | no {x : V} {t : Value} {b c : Bool} (h : TyX K H x t) (hb : PySem.W.kitOne K t (.type "int") = some b) (hc : PySem.W.kitOne K t (.type "bool") = some c) (z : (b && !c) = false) : EndJ K H n x none
theorem EndJ.same {K : PySem.W.Frag} {H H' : Hp} (s : Same H H') {n : Int} {x : V} {o : Option Int} : EndJ K H n x o → EndJ K H' n x o
  | .ok h => .ok h
  | .out h => .out h
  | .no h hb hc z => .no (TyX.same s h) hb hc z
def twoOk : Option Int → Option Int → Bool
  | some i, some j => !decide (V.int i = V.int j)
  | _, _ => false
/-- an item: an arrow, or not -/
inductive ArJ (K : PySem.W.Frag) (H : Hp) (n : Int) : V → Bool → Prop
  | no {x : V} {t : Value} (h : TyX K H x t) (z : PySem.W.kitAny K t [.type "list", .type "tuple"] = some false) : ArJ K H n x false
  | many {a : Addr} {ys : List V} (h : SqA K H a ys) (z : ys.length ≠ 2) : ArJ K H n (.ref a) false
  | two {a : Addr} {y0 y1 : V} {e0 e1 : Option Int} (h : SqA K H a [y0, y1]) (h0 : EndJ K H n y0 e0) (h1 : EndJ K H n y1 e1) : ArJ K H n (.ref a) (twoOk e0 e1)
theorem ArJ.same {K : PySem.W.Frag} {H H' : Hp} (s : Same H H') {n : Int} {x : V} {o : Bool} : ArJ K H n x o → ArJ K H' n x o
  | .no h z => .no (TyX.same s h) z
  | .many h z => .many (h.same s) z
  | .two h h0 h1 => .two (h.same s) (h0.same s) (h1.same s)
inductive ArL (K : PySem.W.Frag) (H : Hp) (n : Int) : List V → List Bool → Prop
  | nil : ArL K H n [] []
  | cons {x : V} {xs : List V} {b : Bool} {bs : List Bool} (h : ArJ K H n x b) (r : ArL K H n xs bs) : ArL K H n (x :: xs) (b :: bs)
theorem ArL.at {K : PySem.W.Frag} {H : Hp} {n : Int} : ∀ {xs : List V} {bs : List Bool} {i : Nat} {x : V}, ArL K H n xs bs → xs[i]? = some x → ∃ b, bs[i]? = some b ∧ ArJ K H n x b
  | _, _, _, _, .nil, e => by simp at e
  | _, _, 0, _, .cons h r, e => by cases e; exact ⟨_, rfl, h⟩
  | _, _, i + 1, _, .cons h r, e => ArL.at (i := i) r e
theorem ArL.len {K : PySem.W.Frag} {H : Hp} {n : Int} : ∀ {xs : List V} {bs : List Bool}, ArL K H n xs bs → bs.length = xs.length
  | _, _, .nil => rfl
  | _, _, .cons _ r => by rw [List.length_cons, List.length_cons, r.len]
theorem kit_list (K : PySem.W.Frag) : PySem.W.kitAny K (.type "list") [.type "list", .type "tuple"] = some true := by kernel_rfl
theorem kit_tup (K : PySem.W.Frag) : PySem.W.kitAny K (.type "tuple") [.type "list", .type "tuple"] = some true := by kernel_rfl
theorem ty_sqa {K : PySem.W.Frag} {H : Hp} {a : Addr} {xs : List V} (h : SqA K H a xs) : ∃ t, TyX K H (.ref a) t ∧ PySem.W.kitAny K t [.type "list", .type "tuple"] = some true := by
  rcases h with h | h
  · exact ⟨_, ty_lst h, kit_list K⟩
  · exact ⟨_, ty_tup h, kit_tup K⟩
def spAre (K : PySem.W.Frag) : Sp := fun vs H Q _ => ∃ (n : Int) (x : V), vs = [.int n, x] ∧
  ((∃ t, TyX K H x t ∧ PySem.W.kitAny K t [.type "list", .type "tuple"] = some false ∧ ∀ H', Same H H' → Q (.bl false) H') ∨
   ∃ (a : Addr) (xs : List V) (bs : List Bool), x = .ref a ∧ SqA K H a xs ∧ ArL K H n xs bs ∧ xs.length < 1000 ∧ ∀ H', Same H H' → Q (.bl (decide (xs.length ≤ 12) && bs.all id)) H')
theorem endj_sp {K : PySem.W.Frag} {H : Hp} {n : Int} {y : V} {e : Option Int} {Q : VK} {E : XK} (h : EndJ K H n y e) (q : Q (.bl e.isSome) H) : spIsNumTo K [y, .int (n - 1)] H Q E := by
  cases h with
  | @ok i h => exact ⟨_, _, true, false, n - 1, rfl, .base (.int i), (num_int K).1, (num_int K).2, .inr ⟨rfl, i, rfl, by rw [decide_eq_true h]; exact q⟩⟩
  | @out i h => exact ⟨_, _, true, false, n - 1, rfl, .base (.int i), (num_int K).1, (num_int K).2, .inr ⟨rfl, i, rfl, by rw [decide_eq_false h]; exact q⟩⟩
  | no ht hb hc z => exact ⟨_, _, _, _, n - 1, rfl, ht, hb, hc, .inl ⟨z, q⟩⟩
section
variable {P : Program} {w : World} {K : PySem.W.Frag} {mg : Str → Option Value} {base : Heap}
theorem ok_are {f fN fL : Addr} {fd fdN fdL : FuncData} {tk : Nat} (F : Fun K "_are_arrows" "_are_arrows" sAre f fd) (GN : FnOk P w K mg base CX0 2 fN fdN ["thing", "most"] (spIsNumTo K)) (FN : Fun K "is_number_to" "is_number_to" sIsNumTo fN fdN) (bN : L2.Binds K fdN ["thing", "most"] []) (gN : mg "is_number_to" = some (.ref fN))
    (GL : FnOk P w K mg base CX0 1 fL fdL ["thing"] (spIsList K)) (FL : Fun K "is_list" "is_list" sIsList fL fdL) (bL : L2.Binds K fdL ["thing"] []) (gL : mg "is_list" = some (.ref fL)) (gM : mg "MOST_ARROWS" = some (.int 12 tk)) (mAll : mg "all" = none) (mLen : mg "len" = none) : FnOk P w K mg base CX0 3 f fd ["places", "thing"] (spAre K) := by
  refine F.ok scAre (fun vs H Q E h => ?_) (fun cdv A outer s H vs Q E hr h => ?_)
  · obtain ⟨n, x, rfl, _⟩ := h
    rfl
  · obtain ⟨n, x, rfl, h⟩ := h
    have nd := scAre.nd
    have r1 : Room 1 _ := hr.mono (by decide)
    refine ⟨_, pss_cons (ps_if (PW.pt (pw_or (pt_not (pt_val (pe_call GL r1 (by rfl) gL FL.kp bL .nil pass0 (pa_cons (pv 1) pa_nil)))) (pw_or1 (pt_cmpR op_gt (pe_callB call_len_seq (by rfl) mLen PySem.boot_len (pa_cons (pv 1) pa_nil)) (pe_glob (v := .int 12) (by rfl) gM ⟨tk, rfl⟩) (nomark _))))) (pss_one (ps_ret pe_bl)) pss_nil)
      (pss_cons (ps_for PassesOwn.never rfl (pi_either (pi_list (pv 1)) (pi_tup (pv 1))) (pg_name (i := 2) nd rfl (Or.inl rfl))
        (pss_cons (ps_if (PW.pt (pw_or (pt_not (pt_val (pe_call GL r1 (by rfl) gL FL.kp bL .nil pass0 (pa_cons (pv 2) pa_nil)))) (pw_or1 (pt_cmpR op_ne (pe_callB call_len_seq (by rfl) mLen PySem.boot_len (pa_cons (pv 2) pa_nil)) pe_int (nomark _))))) (pss_one (ps_ret pe_bl)) pss_nil)
          (pss_one (ps_if (PW.pt (pw_or (pt_not (pt_val (pe_callB (show CallR _ _ (rAll K) from cr_all (by rfl)) (by rfl) mAll (by decide +kernel) (pa_cons (pe_lc (own := [("end", 3)]) (g := gName 3) (by rfl) nd (pi_either (pi_list (pv 2)) (pi_tup (pv 2))) (blkOk_by (N := ["places", "thing", "arrow", "end"]) (sc := defScope sAre) (by decide +kernel)) (fun _ _ _ _ _ => pg_name (i := 3) nd rfl (Or.inl rfl)) (fun _ _ _ _ _ => pts_nil)
              (fun _ _ _ _ _ => pe_call GN hr (by rfl) gN FN.kp bN .nil pass0 (pa_cons (pv 3) (pa_cons (pe_op op_sub (pv 0) pe_int) pa_nil)))) pa_nil))))
            (pw_or1 (pt_cmpR op_eq (pe_either (pe_ix ix_list (pv 2) pe_int (fun _ _ => rfl)) (pe_ix ix_tup (pv 2) pe_int (fun _ _ => rfl))) (pe_either (pe_ix ix_list (pv 2) pe_int (fun _ _ => rfl)) (pe_ix ix_tup (pv 2) pe_int (fun _ _ => rfl))) (nomark _))))) (pss_one (ps_ret pe_bl)) pss_nil))))
      (pss_one (ps_ret pe_bl))), ?_⟩
    rcases h with ⟨t, ht, hk, k⟩ | ⟨a, xs, bs, rfl, hS, hA, hl, k⟩
    · refine ⟨_, rfl, x, t, false, rfl, ht, hk, fun H' s' => ⟨_, rfl, ?_⟩⟩
      refine iteT ?_
      refine iteT ?_
      exact k H' s'
    · obtain ⟨t, ht, hk⟩ := ty_sqa hS
      refine ⟨_, rfl, .ref a, t, true, rfl, ht, hk, fun H1 s1 => ⟨_, rfl, ?_⟩⟩
      refine iteF ?_
      refine ⟨_, rfl, a, xs, rfl, hS.same s1, _, _, rfl, rfl, _, rfl, ?_⟩
      by_cases c : xs.length ≤ 12
      · refine (if_neg (fun z => by have := of_decide_eq_true z; omega)).mpr ?_
        have kf : ∀ i, bs[i]? = some false → ∀ H', Same H H' → Q (.bl false) H' := fun i e H' s' => by
          have := k H' s'
          have z : bs.all id = false := by
            cases q : bs.all id with
            | false => rfl
            | true => exact absurd (List.all_eq_true.mp q false (List.mem_of_getElem? e)) (by simp)
          rw [z, Bool.and_false] at this
          exact this
        rcases id hS with h | h
        · skip
          refine .inl ⟨_, rfl, a, rfl, ⟨_, s1.seq h⟩, ?_⟩
          refine for_list (K := K) (a := a) (xs := xs) (fun i σ Hx => ∃ v2 v3 : Option V, σ = [some (.int n), some (.ref a), v2, v3] ∧ (bs.take i).all id = true ∧ Same H Hx) ⟨none, none, rfl, rfl, s1⟩ (fun i σ Hx _ hh => by obtain ⟨_, _, _, _, s⟩ := hh; exact s.seq h) ?_ ?_
          · skip
            rintro i x σ Hx hi ⟨v2, v3, rfl, hb, sx⟩
            obtain ⟨b, eb, ja⟩ := hA.at hi
            have jx := ja.same sx
            cases jx with
            | @no x t ht hk2 =>
              refine ⟨_, rfl, _, t, false, rfl, ht, hk2, fun H2 s2 => ⟨_, rfl, ?_⟩⟩
              refine iteT ?_
              refine iteT ?_
              exact kf _ eb _ (sx.trans s2)
            | @many a2 ys hy hz =>
              obtain ⟨t2, ht2, hk2⟩ := ty_sqa hy
              refine ⟨_, rfl, _, t2, true, rfl, ht2, hk2, fun H2 s2 => ⟨_, rfl, ?_⟩⟩
              refine iteF ?_
              refine ⟨_, rfl, a2, ys, rfl, hy.same s2, rfl, _, rfl, ?_⟩
              have z2 : ¬ (V.int (ys.length : Int) = V.int 2) := fun z => hz (by have := V.int.inj z; omega)
              refine (if_pos (by rw [decide_eq_false z2]; rfl)).mpr ?_
              exact kf _ eb _ (sx.trans s2)
            | @two a2 y0 y1 e0 e1 hy h0 h1 =>
              obtain ⟨t2, ht2, hk2⟩ := ty_sqa hy
              refine ⟨_, rfl, _, t2, true, rfl, ht2, hk2, fun H2 s2 => ⟨_, rfl, ?_⟩⟩
              refine iteF ?_
              refine ⟨_, rfl, a2, [y0, y1], rfl, hy.same s2, rfl, _, rfl, ?_⟩
              refine iteNS rfl ?_
              rcases id hy with q | q
              · skip
                refine .inl ⟨_, rfl, a2, rfl, ⟨_, Same.seq s2 q⟩, fun D nD => ?_⟩
                refine lc_list (K := K) (a := a2) (xs := [y0, y1]) (fun j Hd => Hd D = some (.lst (([e0.isSome, e1.isSome].take j).map V.bl)) ∧ Same H2 Hd) ⟨upd_same, same_upd nD⟩ (fun j Hd _ hh => Same.seq (s2.trans hh.2) q) ?_ ?_
                · rintro j x Hd hj ⟨eD, sd⟩
                  refine ⟨rfl, ?_⟩
                  dsimp only [tYes]
                  refine iteT ?_
                  match j, hj, eD with
                  | 0, hj, eD =>
                    cases hj
                    refine ⟨_, rfl, _, rfl, _, _, rfl, rfl, ?_⟩
                    dsimp only [tNil, List.cons_append, List.nil_append]
                    exact endj_sp (h0.same (s2.trans sd)) ⟨_, eD, small_2000 (by rw [List.length_map]; exact Nat.le_trans (List.length_take_le' _ _) (show 2 ≤ 2000 by decide)), upd_same, fun b o e => same_put (H0 := H2) sd nD b o e⟩
                  | 1, hj, eD =>
                    cases hj
                    refine ⟨_, rfl, _, rfl, _, _, rfl, rfl, ?_⟩
                    dsimp only [tNil, List.cons_append, List.nil_append]
                    exact endj_sp (h1.same (s2.trans sd)) ⟨_, eD, small_2000 (by rw [List.length_map]; exact Nat.le_trans (List.length_take_le' _ _) (show 2 ≤ 2000 by decide)), upd_same, fun b o e => same_put (H0 := H2) sd nD b o e⟩
                  | j + 2, hj, eD => simp at hj
                · rintro Hd ⟨eD, sd⟩
                  have sHd : Same H Hd := sx.trans (s2.trans sd)
                  cases h0 with
                  | @ok i0 _ =>
                    cases h1 with
                    | @ok i1 _ =>
                      refine ⟨D, [true, true], rfl, SqL.of eD, _, rfl, ?_⟩
                      refine iteF ?_
                      refine .inl ⟨_, rfl, a2, _, 0, _, rfl, rfl, Same.seq (s2.trans sd) q, atI_nat (j := 0) rfl, ?_⟩
                      refine .inl ⟨_, rfl, a2, _, 1, _, rfl, rfl, Same.seq (s2.trans sd) q, atI_nat (j := 1) rfl, ?_⟩
                      refine ⟨rfl, _, rfl, ite2 (fun c5 => ?_) (fun c5 => ?_)⟩
                      · have e9 : bs[i]? = some (!decide (V.int i0 = V.int i1)) := eb
                        rw [c5] at e9
                        exact kf _ e9 _ sHd
                      · refine ⟨_, _, rfl, ?_, sHd⟩
                        have e9 : bs[i]? = some (!decide (V.int i0 = V.int i1)) := eb
                        rw [Bool.eq_false_iff.mpr c5] at e9
                        rw [List.take_add_one, e9, List.all_append, hb]
                        rfl
                    | out i1 =>
                      refine ⟨D, [true, false], rfl, SqL.of eD, _, rfl, ?_⟩
                      refine iteT ?_
                      refine iteT ?_
                      exact kf _ eb _ sHd
                    | no _ _ _ _ =>
                      refine ⟨D, [true, false], rfl, SqL.of eD, _, rfl, ?_⟩
                      refine iteT ?_
                      refine iteT ?_
                      exact kf _ eb _ sHd
                  | out i0 =>
                    refine ⟨D, [false, e1.isSome], rfl, SqL.of eD, _, rfl, ?_⟩
                    refine iteT ?_
                    refine iteT ?_
                    exact kf _ eb _ sHd
                  | no _ _ _ _ =>
                    refine ⟨D, [false, e1.isSome], rfl, SqL.of eD, _, rfl, ?_⟩
                    refine iteT ?_
                    refine iteT ?_
                    exact kf _ eb _ sHd
              · skip
                refine .inr ⟨_, rfl, a2, rfl, ⟨_, sqt_same s2 q⟩, fun D nD => ?_⟩
                refine lc_tup (K := K) (a := a2) (xs := [y0, y1]) (fun j Hd => Hd D = some (.lst (([e0.isSome, e1.isSome].take j).map V.bl)) ∧ Same H2 Hd) ⟨upd_same, same_upd nD⟩ (fun j Hd _ hh => sqt_same (s2.trans hh.2) q) ?_ ?_
                · rintro j x Hd hj ⟨eD, sd⟩
                  refine ⟨rfl, ?_⟩
                  dsimp only [tYes]
                  refine iteT ?_
                  match j, hj, eD with
                  | 0, hj, eD =>
                    cases hj
                    refine ⟨_, rfl, _, rfl, _, _, rfl, rfl, ?_⟩
                    dsimp only [tNil, List.cons_append, List.nil_append]
                    exact endj_sp (h0.same (s2.trans sd)) ⟨_, eD, small_2000 (by rw [List.length_map]; exact Nat.le_trans (List.length_take_le' _ _) (show 2 ≤ 2000 by decide)), upd_same, fun b o e => same_put (H0 := H2) sd nD b o e⟩
                  | 1, hj, eD =>
                    cases hj
                    refine ⟨_, rfl, _, rfl, _, _, rfl, rfl, ?_⟩
                    dsimp only [tNil, List.cons_append, List.nil_append]
                    exact endj_sp (h1.same (s2.trans sd)) ⟨_, eD, small_2000 (by rw [List.length_map]; exact Nat.le_trans (List.length_take_le' _ _) (show 2 ≤ 2000 by decide)), upd_same, fun b o e => same_put (H0 := H2) sd nD b o e⟩
                  | j + 2, hj, eD => simp at hj
                · rintro Hd ⟨eD, sd⟩
                  have sHd : Same H Hd := sx.trans (s2.trans sd)
                  cases h0 with
                  | @ok i0 _ =>
                    cases h1 with
                    | @ok i1 _ =>
                      refine ⟨D, [true, true], rfl, SqL.of eD, _, rfl, ?_⟩
                      refine iteF ?_
                      refine .inr ⟨_, rfl, a2, _, 0, _, rfl, rfl, sqt_same (s2.trans sd) q, atI_nat (j := 0) rfl, ?_⟩
                      refine .inr ⟨_, rfl, a2, _, 1, _, rfl, rfl, sqt_same (s2.trans sd) q, atI_nat (j := 1) rfl, ?_⟩
                      refine ⟨rfl, _, rfl, ite2 (fun c5 => ?_) (fun c5 => ?_)⟩
                      · have e9 : bs[i]? = some (!decide (V.int i0 = V.int i1)) := eb
                        rw [c5] at e9
                        exact kf _ e9 _ sHd
                      · refine ⟨_, _, rfl, ?_, sHd⟩
                        have e9 : bs[i]? = some (!decide (V.int i0 = V.int i1)) := eb
                        rw [Bool.eq_false_iff.mpr c5] at e9
                        rw [List.take_add_one, e9, List.all_append, hb]
                        rfl
                    | out i1 =>
                      refine ⟨D, [true, false], rfl, SqL.of eD, _, rfl, ?_⟩
                      refine iteT ?_
                      refine iteT ?_
                      exact kf _ eb _ sHd
                    | no _ _ _ _ =>
                      refine ⟨D, [true, false], rfl, SqL.of eD, _, rfl, ?_⟩
                      refine iteT ?_
                      refine iteT ?_
                      exact kf _ eb _ sHd
                  | out i0 =>
                    refine ⟨D, [false, e1.isSome], rfl, SqL.of eD, _, rfl, ?_⟩
                    refine iteT ?_
                    refine iteT ?_
                    exact kf _ eb _ sHd
                  | no _ _ _ _ =>
                    refine ⟨D, [false, e1.isSome], rfl, SqL.of eD, _, rfl, ?_⟩
                    refine iteT ?_
                    refine iteT ?_
                    exact kf _ eb _ sHd
          · rintro σ Hx ⟨v2, v3, rfl, hb, sx⟩
            rw [← hA.len, List.take_length] at hb
            have := k Hx sx
            rw [hb, decide_eq_true (by omega : xs.length ≤ 12)] at this
            exact this
        · skip
          refine .inr ⟨_, rfl, a, rfl, ⟨_, sqt_same s1 h⟩, ?_⟩
          refine for_tup (K := K) (a := a) (xs := xs) (fun i σ Hx => ∃ v2 v3 : Option V, σ = [some (.int n), some (.ref a), v2, v3] ∧ (bs.take i).all id = true ∧ Same H Hx) ⟨none, none, rfl, rfl, s1⟩ (fun i σ Hx _ hh => by obtain ⟨_, _, _, _, s⟩ := hh; exact sqt_same s h) ?_ ?_
          · skip
            rintro i x σ Hx hi ⟨v2, v3, rfl, hb, sx⟩
            obtain ⟨b, eb, ja⟩ := hA.at hi
            have jx := ja.same sx
            cases jx with
            | @no x t ht hk2 =>
              refine ⟨_, rfl, _, t, false, rfl, ht, hk2, fun H2 s2 => ⟨_, rfl, ?_⟩⟩
              refine iteT ?_
              refine iteT ?_
              exact kf _ eb _ (sx.trans s2)
            | @many a2 ys hy hz =>
              obtain ⟨t2, ht2, hk2⟩ := ty_sqa hy
              refine ⟨_, rfl, _, t2, true, rfl, ht2, hk2, fun H2 s2 => ⟨_, rfl, ?_⟩⟩
              refine iteF ?_
              refine ⟨_, rfl, a2, ys, rfl, hy.same s2, rfl, _, rfl, ?_⟩
              have z2 : ¬ (V.int (ys.length : Int) = V.int 2) := fun z => hz (by have := V.int.inj z; omega)
              refine (if_pos (by rw [decide_eq_false z2]; rfl)).mpr ?_
              exact kf _ eb _ (sx.trans s2)
            | @two a2 y0 y1 e0 e1 hy h0 h1 =>
              obtain ⟨t2, ht2, hk2⟩ := ty_sqa hy
              refine ⟨_, rfl, _, t2, true, rfl, ht2, hk2, fun H2 s2 => ⟨_, rfl, ?_⟩⟩
              refine iteF ?_
              refine ⟨_, rfl, a2, [y0, y1], rfl, hy.same s2, rfl, _, rfl, ?_⟩
              refine iteNS rfl ?_
              rcases id hy with q | q
              · skip
                refine .inl ⟨_, rfl, a2, rfl, ⟨_, Same.seq s2 q⟩, fun D nD => ?_⟩
                refine lc_list (K := K) (a := a2) (xs := [y0, y1]) (fun j Hd => Hd D = some (.lst (([e0.isSome, e1.isSome].take j).map V.bl)) ∧ Same H2 Hd) ⟨upd_same, same_upd nD⟩ (fun j Hd _ hh => Same.seq (s2.trans hh.2) q) ?_ ?_
                · rintro j x Hd hj ⟨eD, sd⟩
                  refine ⟨rfl, ?_⟩
                  dsimp only [tYes]
                  refine iteT ?_
                  match j, hj, eD with
                  | 0, hj, eD =>
                    cases hj
                    refine ⟨_, rfl, _, rfl, _, _, rfl, rfl, ?_⟩
                    dsimp only [tNil, List.cons_append, List.nil_append]
                    exact endj_sp (h0.same (s2.trans sd)) ⟨_, eD, small_2000 (by rw [List.length_map]; exact Nat.le_trans (List.length_take_le' _ _) (show 2 ≤ 2000 by decide)), upd_same, fun b o e => same_put (H0 := H2) sd nD b o e⟩
                  | 1, hj, eD =>
                    cases hj
                    refine ⟨_, rfl, _, rfl, _, _, rfl, rfl, ?_⟩
                    dsimp only [tNil, List.cons_append, List.nil_append]
                    exact endj_sp (h1.same (s2.trans sd)) ⟨_, eD, small_2000 (by rw [List.length_map]; exact Nat.le_trans (List.length_take_le' _ _) (show 2 ≤ 2000 by decide)), upd_same, fun b o e => same_put (H0 := H2) sd nD b o e⟩
                  | j + 2, hj, eD => simp at hj
                · rintro Hd ⟨eD, sd⟩
                  have sHd : Same H Hd := sx.trans (s2.trans sd)
                  cases h0 with
                  | @ok i0 _ =>
                    cases h1 with
                    | @ok i1 _ =>
                      refine ⟨D, [true, true], rfl, SqL.of eD, _, rfl, ?_⟩
                      refine iteF ?_
                      refine .inl ⟨_, rfl, a2, _, 0, _, rfl, rfl, Same.seq (s2.trans sd) q, atI_nat (j := 0) rfl, ?_⟩
                      refine .inl ⟨_, rfl, a2, _, 1, _, rfl, rfl, Same.seq (s2.trans sd) q, atI_nat (j := 1) rfl, ?_⟩
                      refine ⟨rfl, _, rfl, ite2 (fun c5 => ?_) (fun c5 => ?_)⟩
                      · have e9 : bs[i]? = some (!decide (V.int i0 = V.int i1)) := eb
                        rw [c5] at e9
                        exact kf _ e9 _ sHd
                      · refine ⟨_, _, rfl, ?_, sHd⟩
                        have e9 : bs[i]? = some (!decide (V.int i0 = V.int i1)) := eb
                        rw [Bool.eq_false_iff.mpr c5] at e9
                        rw [List.take_add_one, e9, List.all_append, hb]
                        rfl
                    | out i1 =>
                      refine ⟨D, [true, false], rfl, SqL.of eD, _, rfl, ?_⟩
                      refine iteT ?_
                      refine iteT ?_
                      exact kf _ eb _ sHd
                    | no _ _ _ _ =>
                      refine ⟨D, [true, false], rfl, SqL.of eD, _, rfl, ?_⟩
                      refine iteT ?_
                      refine iteT ?_
                      exact kf _ eb _ sHd
                  | out i0 =>
                    refine ⟨D, [false, e1.isSome], rfl, SqL.of eD, _, rfl, ?_⟩
                    refine iteT ?_
                    refine iteT ?_
                    exact kf _ eb _ sHd
                  | no _ _ _ _ =>
                    refine ⟨D, [false, e1.isSome], rfl, SqL.of eD, _, rfl, ?_⟩
                    refine iteT ?_
                    refine iteT ?_
                    exact kf _ eb _ sHd
              · skip
                refine .inr ⟨_, rfl, a2, rfl, ⟨_, sqt_same s2 q⟩, fun D nD => ?_⟩
                refine lc_tup (K := K) (a := a2) (xs := [y0, y1]) (fun j Hd => Hd D = some (.lst (([e0.isSome, e1.isSome].take j).map V.bl)) ∧ Same H2 Hd) ⟨upd_same, same_upd nD⟩ (fun j Hd _ hh => sqt_same (s2.trans hh.2) q) ?_ ?_
                · rintro j x Hd hj ⟨eD, sd⟩
                  refine ⟨rfl, ?_⟩
                  dsimp only [tYes]
                  refine iteT ?_
                  match j, hj, eD with
                  | 0, hj, eD =>
                    cases hj
                    refine ⟨_, rfl, _, rfl, _, _, rfl, rfl, ?_⟩
                    dsimp only [tNil, List.cons_append, List.nil_append]
                    exact endj_sp (h0.same (s2.trans sd)) ⟨_, eD, small_2000 (by rw [List.length_map]; exact Nat.le_trans (List.length_take_le' _ _) (show 2 ≤ 2000 by decide)), upd_same, fun b o e => same_put (H0 := H2) sd nD b o e⟩
                  | 1, hj, eD =>
                    cases hj
                    refine ⟨_, rfl, _, rfl, _, _, rfl, rfl, ?_⟩
                    dsimp only [tNil, List.cons_append, List.nil_append]
                    exact endj_sp (h1.same (s2.trans sd)) ⟨_, eD, small_2000 (by rw [List.length_map]; exact Nat.le_trans (List.length_take_le' _ _) (show 2 ≤ 2000 by decide)), upd_same, fun b o e => same_put (H0 := H2) sd nD b o e⟩
                  | j + 2, hj, eD => simp at hj
                · rintro Hd ⟨eD, sd⟩
                  have sHd : Same H Hd := sx.trans (s2.trans sd)
                  cases h0 with
                  | @ok i0 _ =>
                    cases h1 with
                    | @ok i1 _ =>
                      refine ⟨D, [true, true], rfl, SqL.of eD, _, rfl, ?_⟩
                      refine iteF ?_
                      refine .inr ⟨_, rfl, a2, _, 0, _, rfl, rfl, sqt_same (s2.trans sd) q, atI_nat (j := 0) rfl, ?_⟩
                      refine .inr ⟨_, rfl, a2, _, 1, _, rfl, rfl, sqt_same (s2.trans sd) q, atI_nat (j := 1) rfl, ?_⟩
                      refine ⟨rfl, _, rfl, ite2 (fun c5 => ?_) (fun c5 => ?_)⟩
                      · have e9 : bs[i]? = some (!decide (V.int i0 = V.int i1)) := eb
                        rw [c5] at e9
                        exact kf _ e9 _ sHd
                      · refine ⟨_, _, rfl, ?_, sHd⟩
                        have e9 : bs[i]? = some (!decide (V.int i0 = V.int i1)) := eb
                        rw [Bool.eq_false_iff.mpr c5] at e9
                        rw [List.take_add_one, e9, List.all_append, hb]
                        rfl
                    | out i1 =>
                      refine ⟨D, [true, false], rfl, SqL.of eD, _, rfl, ?_⟩
                      refine iteT ?_
                      refine iteT ?_
                      exact kf _ eb _ sHd
                    | no _ _ _ _ =>
                      refine ⟨D, [true, false], rfl, SqL.of eD, _, rfl, ?_⟩
                      refine iteT ?_
                      refine iteT ?_
                      exact kf _ eb _ sHd
                  | out i0 =>
                    refine ⟨D, [false, e1.isSome], rfl, SqL.of eD, _, rfl, ?_⟩
                    refine iteT ?_
                    refine iteT ?_
                    exact kf _ eb _ sHd
                  | no _ _ _ _ =>
                    refine ⟨D, [false, e1.isSome], rfl, SqL.of eD, _, rfl, ?_⟩
                    refine iteT ?_
                    refine iteT ?_
                    exact kf _ eb _ sHd
          · rintro σ Hx ⟨v2, v3, rfl, hb, sx⟩
            rw [← hA.len, List.take_length] at hb
            have := k Hx sx
            rw [hb, decide_eq_true (by omega : xs.length ≤ 12)] at this
            exact this
      · refine (if_pos (decide_eq_true (by omega))).mpr ?_
        have := k H1 s1
        rw [decide_eq_false c, Bool.false_and] at this
        exact this
end
end K03


set_option Elab.async false
set_option maxRecDepth 100000
set_option maxHeartbeats 2000000
set_option linter.all false
namespace K03
open PySem PySem.Spec PyProof.Rows L2
/-! a caught exception that outlives its except suite -/
def ExR (cls : Value) (d : Option Addr) (a : Addr) : HO := .ext fun h => ∃ (oe : Obj) (vs : Array Value), h.get? a = some oe ∧ Zc cls d oe ∧ oe.data = .fields vs
theorem exR_ok {P : Program} {w : World} {H : Hp} {h : Heap} {a : Addr} {cls : Value} {d : Option Addr} {oe : Obj} {vs : Array Value} (e : h.get? a = some oe) (z : Zc cls d oe) (hd : oe.data = .fields vs) : ObjOk P w H h a (ExR cls d a) :=
  ⟨⟨oe, vs, e, z, hd⟩, ⟨oe, e⟩, fun _ _ ⟨o, v, q, r⟩ k => ⟨o, v, k o q, r⟩⟩
theorem exR_at {P : Program} {w : World} {H : Hp} {h : Heap} {a : Addr} {cls : Value} {d : Option Addr} (hok : HOk P w H h) (e : H a = some (ExR cls d a)) : ∃ (oe : Obj) (vs : Array Value), h.get? a = some oe ∧ Zc cls d oe ∧ oe.data = .fields vs := by
  have x : ObjOk P w H h a (.ext fun h => ∃ (oe : Obj) (vs : Array Value), h.get? a = some oe ∧ Zc cls d oe ∧ oe.data = .fields vs) := hok a _ e
  exact x.1
section
variable {X : Cx} {pins : List (Addr × Obj)} {σ : L2.St} {H : Hp} {s : Shared}
theorem track {a : Addr} {oe : Obj} {vs : Array Value} {cls : Value} {d : Option Addr} (I : Inv X ((a, oe) :: pins) σ H s) (h0 : X.s_0.heap.get? a = none) (hp : ∀ p ∈ X.pn ++ pins, p.1 ≠ a) (hz : Zc cls d oe) (hd : oe.data = .fields vs) :
    H a = none ∧ Inv X pins σ (upd H a (ExR cls d a)) s := by
  obtain ⟨he, na, nL, nF, nC⟩ := I.pin (a, oe) (by simp)
  refine ⟨na, I.ok, I.os, I.bare, ⟨I.base.keep, I.base.slot, fun b o e n hx => ?_, I.base.there, fun b xs e => ?_, fun b o u e => ?_, fun b ps e => ?_⟩, I.loc, I.cell, ?_, fun x c e => ?_, fun p m => ?_, fun b o e => ?_, I.len⟩
  · have hb : b ≠ a := fun z => by
      rw [z, h0] at e
      cases e
    rw [upd_ne hb]
    exact I.base.free b o e n hx
  · have e' := I.base.tups b xs e
    rw [upd_ne (ne_of_none e' na)]
    exact e'
  · have e' := I.base.frzs b o u e
    rw [upd_ne (ne_of_none e' na)]
    exact e'
  · obtain ⟨more, e'⟩ := I.base.tbls b ps e
    exact ⟨more, by rw [upd_ne (ne_of_none e' na)]; exact e'⟩
  · rw [upd_ne (Ne.symm nL)]
    exact I.free
  · have hc : c ≠ a := fun z => by
      obtain ⟨v, o, ho, hd'⟩ := I.cell x c e
      rw [z] at ho
      have he' : s.heap.get? a = some oe := he
      rw [he'] at ho
      cases ho
      exact nC v hd'
    rw [upd_ne hc]
    exact I.freeC x c e
  · have hm : p ∈ X.pn ++ (a, oe) :: pins := by
      rcases List.mem_append.mp m with m | m
      · exact List.mem_append_left _ m
      · exact List.mem_append_right _ (List.mem_cons_of_mem _ m)
    obtain ⟨e, n, r⟩ := I.pin p hm
    exact ⟨e, by rw [upd_ne (hp p m)]; exact n, r⟩
  · by_cases hb : b = a
    · subst hb
      rw [upd_same] at e
      cases e
      exact exR_ok he hz hd
    · rw [upd_ne hb] at e
      exact (I.hok b o e).stay (fun c v hc q => q) (fun c q => by rw [upd_ne (ne_of_none q na)]; exact q) (fun c xs q => by rw [upd_ne (ne_of_none q na)]; exact q)
end
/-- the wish of a clause 'except x as n' whose exception lives on -/
def wKp (K : PySem.W.Frag) (c : Value) (i : Nat) (ts : Addr → Value → Option Addr → TS) (Wout : WX) (D : Ends) : WX := fun cls d σ H =>
  ∃ b, PySem.W.exmOne K cls c = some b ∧ (b = true → ∀ a, H a = none → ts a cls d { nx := fun σ' H' => H' a = none → D.nx (σ'.set i none) (upd H' a (ExR cls d a)), rt := fun v H' => H' a = none → D.rt v (upd H' a (ExR cls d a)), bk := fun σ' H' => H' a = none → D.bk (σ'.set i none) (upd H' a (ExR cls d a)), ct := fun σ' H' => H' a = none → D.ct (σ'.set i none) (upd H' a (ExR cls d a)) } (σ.set i (some (.ref a))) H) ∧
    (b = false → Wout cls d σ H)
section
variable {X : Cx} {x n : Str} {c : Value} {i : Nat} {body suite : List Stmt} {b₀ : Stmt} {np pos pos' : Pos} {tb : WX → TS} {ts : Addr → Value → Option Addr → TS} {Wout : WX}
theorem ps_try_keep (hs : X.stack = X.env :: X.outer) (hf : X.env.frame = some X.env.locals) (hex : X.ex = []) (hN : X.N.Nodup) (hi : X.N[i]? = some n) (hln : X.env.kindOf n = some .local) (hc : Names X x c) (tk : Takes X Wout)
    (hb : ∀ (W : WX) (pn : List (Addr × Obj)) (xe : Value → Shared → Prop), Takes (X.tr pn xe) W → PassesOwn (model X.prog X.w) X.A X.env xe → PSs (X.tr pn xe) body (tb W))
    (hsu : ∀ (a : Addr) (oe : Obj) (cls : Value) (d : Option Addr) (pn : List (Addr × Obj)), Zc cls d oe → (∃ vs, oe.data = .fields vs) → PSs (X.suite a ((a, oe) :: pn)) (b₀ :: suite) (ts a cls d)) :
    PS X (.Try body [.ExceptHandler (some (.Name x np)) (some n) (b₀ :: suite) pos'] [] [] pos) (fun D σ H => tb (wKp X.K c i ts Wout D) D σ H) := by
  refine ⟨fun pins s σ H D I h => ?_⟩
  have ok := I.ok
  have hfr : X.A.frames = some (X.env :: X.outer) := by rw [ok.frames, hs]
  have hloc : Loc X.env.scope n := .inl hln
  refine wpAny_Try_except ?_
  refine wpAny_mono ((hb (wKp X.K c i ts Wout D) (X.pn ++ pins) (fun e s₁ => wpAny (model X.prog X.w) X.A (noteFrame e X.env) (fun _ s₂ => wpAny (model X.prog X.w) X.A (setFlight e none) (fun _ s₃ =>
    wpAny (model X.prog X.w) X.A (handleBy e X.env [.ExceptHandler (some (.Name x np)) (some n) (b₀ :: suite) pos']) (SP X pins D) X.xe s₃) X.xe s₂) X.xe s₁) (fun u s' xx => ?_) PassesOwn.looking).run [] s σ H D (I.toTry _) h) (fun f s1 hsp => ?_) (fun e s1 he => he)
  · obtain ⟨a, B, sI, pins', σ', H', cls, d, rfl, J', nb, up, sky, na, os, ag, b, hb1, hyes, hno⟩ := xx
    have J : Inv X pins σ' H' sI := J'.ofTry ok
    have sky' : Sky B (X.env :: X.outer) a (Zc cls d) X.env.locals s'.heap := by rw [← hs]; exact sky
    show wpAny (model X.prog X.w) X.A (noteFrame (.ref a) X.env) _ _ _
    refine Sky.land Zc.steady hfr hf sky' fun h3 fl3 up3 => ?_
    have J3 : Inv X pins σ' H' { s' with heap := h3 } := J.landed nb fl3.1 (up.trans up3) os ag
    obtain ⟨oe3, vs3, he3, hz3, hd3⟩ := fl3.there
    have notFr : ∀ {h : Heap} {o : Obj} {vs : Array Value}, h.FunFrames B (X.env :: X.outer) → h.get? a = some o → o.data = .fields vs → a ∉ frs (X.env :: X.outer) := fun {h o vs} ff e dd hm => by
      obtain ⟨_, o', e', hnf⟩ := ff.mem hm
      rw [e] at e'; cases e'
      exact hnf _ dd
    have nfr := notFr fl3.2.2.1 he3 hd3
    have nI : sI.heap.get? a = none := by
      cases q : sI.heap.get? a with
      | none => rfl
      | some o =>
        have z := nb a o q (by rw [hs]; exact nfr)
        rw [fl3.2.1] at z
        cases z
    have n0 : X.s_0.heap.get? a = none := by
      cases q : X.s_0.heap.get? a with
      | none => rfl
      | some o =>
        obtain ⟨o', z⟩ := J.base.there a o q (by rw [hex]; simp)
        rw [nI] at z
        cases z
    have npn : ∀ p ∈ X.pn ++ pins, p.1 ≠ a := fun p m z => by
      have e := (J.pin p m).1
      rw [z, nI] at e
      cases e
    have nL : a ≠ X.env.locals := fun z => nfr (List.mem_filterMap.mpr ⟨X.env, List.mem_cons_self, by rw [hf, z]⟩)
    have nF : a ∉ X.fs := fun hm => by
      obtain ⟨e, he, q⟩ := List.mem_filterMap.mp hm
      exact nfr (List.mem_filterMap.mpr ⟨e, List.mem_cons_of_mem _ he, q⟩)
    have S3 := J3.suite he3 hd3 na nL nF
    refine wpAny_handleBy_cons (codeAny_handlers_test ?_) (by intro q; cases q)
    have LT : PySem.W.Looks (model X.prog X.w) h3 (typeOf (.ref a)) cls := fun A Q E s k q => wpAny_typeOf_ref (k _ _ he3) (by rw [hz3.1]; exact q)
    have LM := PySem.W.exm_one (M := model X.prog X.w) (J3.kIn) LT hb1
    have test : ∀ {Q : Value → Shared → Prop} {E : Value → Shared → Prop}, Q c { s' with heap := h3 } → wpAny (model X.prog X.w) (X.A.mark (some (.ref a))) (eval (.Name x np) X.env) Q E { s' with heap := h3 } := fun {Q E} q => by
      obtain ⟨hg, hdbg, hm | ⟨hm, hv, hnn⟩⟩ := hc
      · exact ld_glob (X := X.suite a ((a, oe3) :: (X.pn ++ pins))) S3 hg hm q hdbg
      · exact ld_blt (X := X.suite a ((a, oe3) :: (X.pn ++ pins))) S3 hg hm hv q hnn hdbg
    refine test (LM.here ?_)
    cases b with
    | true =>
      refine codeAny_handlers_suite_as ?_
      refine HandSPX.lands_againZ fl3 fun h4 fl4 up4 => ?_
      have J4 : Inv X pins σ' H' { s' with heap := h4 } := J.landed nb fl4.1 ((up.trans up3).trans up4) os ag
      obtain ⟨oe4, vs4, he4, hz4, hd4⟩ := fl4.there
      have S4 := J4.suite he4 hd4 na nL nF
      refine store_ok (X := X.suite a ((a, oe4) :: (X.pn ++ pins))) (v := .ref a) S4 hN hi hloc rfl (fun s5 S5 => ?_) (.inr hln)
      refine wpAny_mono ((hsu a oe4 cls d (X.pn ++ pins) hz4 ⟨_, hd4⟩).run [] s5 _ H' _ S5 (hyes rfl a na)) (fun f s6 hsp => ?_) (fun _ _ z => False.elim z)
      have end_ : ∀ {σ6 : L2.St} {H6 : Hp} {Q : Shared → Prop}, Inv (X.suite a ((a, oe4) :: (X.pn ++ pins))) [] σ6 H6 s6 → (∀ s7, H6 a = none → Inv X pins (σ6.set i none) (upd H6 a (ExR cls d a)) s7 → Q s7) →
          wpAny (model X.prog X.w) X.A (do bindName X.env n .none; unbindBehindTheSuite X.env n pos') (fun _ s7 => Q s7) X.xe s6 := fun {σ6 H6 Q} S6 hq => by
        have U : Inv X ((a, oe4) :: pins) σ6 H6 s6 := ⟨ok, S6.os, S6.bare, S6.base, S6.loc, S6.cell, S6.free, S6.freeC, fun p hp => S6.pin p (by
          have hp' : p ∈ X.pn ++ (a, oe4) :: pins := hp
          show p ∈ ((a, oe4) :: (X.pn ++ pins)) ++ []
          simp only [List.mem_append, List.mem_cons, List.append_nil] at hp' ⊢
          rcases hp' with z | z | z
          · exact .inr (.inl z)
          · exact .inl z
          · exact .inr (.inr z)), S6.hok, S6.len⟩
        refine gone_ok U hN hi hln fun s7 J7 => ?_
        obtain ⟨n7, T7⟩ := track (cls := cls) (d := d) J7 n0 npn hz4 hd4
        exact hq s7 n7 T7
      cases f with
      | next =>
        obtain ⟨σ6, H6, S6, q6⟩ := hsp
        exact end_ S6 fun s7 n7 J7 => ⟨_, _, J7, q6 n7⟩
      | brk =>
        obtain ⟨σ6, H6, S6, q6⟩ := hsp
        exact end_ S6 fun s7 n7 J7 => ⟨_, _, J7, q6 n7⟩
      | cont =>
        obtain ⟨σ6, H6, S6, q6⟩ := hsp
        exact end_ S6 fun s7 n7 J7 => ⟨_, _, J7, q6 n7⟩
      | ret u =>
        obtain ⟨v6, σ6, H6, S6, r6, q6⟩ := hsp
        exact end_ S6 fun s7 n7 J7 => ⟨_, _, _, J7, r6, q6 n7⟩
    | false =>
      show wpAny _ X.A (handleBy (.ref a) X.env []) _ _ _
      refine wpAny_handleBy_nil ?_
      obtain ⟨k1, k2, k3, oe, vs, T, oT, ts', he, hz, hd, h1, hr⟩ := id fl3
      unfold PySem.passOn
      refine wpAny_bind (wpAny_field he hd h1 ?_)
      rw [if_neg (show ¬ ((Value.ref T == Value.none) = true) from by simp)]
      have fin : wpAny (model X.prog X.w) X.A (setFlight (.ref a) X.env.frame) (fun _ s4 => wpAny (model X.prog X.w) X.A (throw (.ref a) : Sem Flow) (SP X pins D) X.xe s4) X.xe { s' with heap := h3 } := by
        rw [hf]
        refine HandSPX.setFlight_upZ fl3 fun h4 hh4 up4 => wpAny_throw (tk _ _ ?_)
        exact ⟨a, B, sI, pins, σ', H', cls, d, rfl, J, nb, (up.trans up3).trans up4, .inr (.inr (by rw [hs]; exact hh4)), na, os, ag, hno rfl⟩
      first
        | exact wpAny_bind (wpAny_pure (wpAny_bind fin))
        | exact wpAny_bind fin
  · cases f with
    | next =>
      obtain ⟨σ', H', J', q⟩ := hsp
      exact wpAny_execs_nil ⟨σ', H', J'.ofTry ok, q⟩
    | brk =>
      obtain ⟨σ', H', J', q⟩ := hsp
      exact ⟨σ', H', J'.ofTry ok, q⟩
    | cont =>
      obtain ⟨σ', H', J', q⟩ := hsp
      exact ⟨σ', H', J'.ofTry ok, q⟩
    | ret u =>
      obtain ⟨v, σ', H', J', r, q⟩ := hsp
      exact ⟨v, σ', H', J'.ofTry ok, r, q⟩
end
end K03


set_option Elab.async false
set_option maxRecDepth 100000
set_option maxHeartbeats 1000000
namespace K03
open PySem PySem.Spec PyProof.Rows L2
/-! super().__init__('..') in the __init__ of an own exception class, the exception being made -/
section
open PySem.W
variable {prog : Program} {w : World} {A : Around} {E : Value → Shared → Prop} {h : Heap} {g : Array GenState} {d : Drawn} {tk : Nat} {os : OsState}
theorem call_mw {nm q : Str} {C N u x t : Addr} {bs bm : List Value} {hdct : Bool} {sn : List Str} {sub : List Value} {ab : Bool} {col : Option Bool} {dd dv : Option Addr} {k0 k1 k2 k3 k5 : Option Value} {rest : List Value} {Q : Value → Shared → Prop}
    (hC : h.get? C = some (excClassObj nm q C N bs bm hdct sn sub ab col dd k0 k1 k2 k3 k5 "ValueError.__new__")) (hu : h.get? u = some (kxs_mw "ValueError.__init__" x)) (hx : h.get? x = some (W.excObj C t dv .none)) (hz : rest.length ≤ sizeLine)
    (fin : ∀ h', (∀ b o, b ≠ x → h.get? b = some o → h'.get? b = some o) → h'.get? x = some (W.excObj C h.objs.size dv .none) → Q .none ⟨h', g, d, tk, os⟩) :
    wpAny (model prog w) A (call (.ref u) rest) Q E ⟨h, g, d, tk, os⟩ := by
  apply wpAny_call
  apply codeAny_of_tree
  show wpAny _ A.in1 (callAny (.ref u) ⟨rest, []⟩) _ _ _
  simp only [callAny]
  apply wpAny_bind
  refine wpAny_load hu ?_
  simp only [show (Value.type "method-wrapper" == Value.type "method" || Value.type "method-wrapper" == Value.type "builtin_function_or_method" || Value.type "method-wrapper" == Value.type "method-wrapper") = true by decide, if_true]
  refine KFB.if_so (by decide) (wpAny_bind (check_bound_init F.excBase_ValueError.toExcCallFacts hC hx rfl (wpAny_bind (wpAny_pure (wpAny_pure ⟨plainId_quiet F.excBase_ValueError.init.plain _, codeAny_builtin F.excBase_ValueError.initEntry ?_⟩)))))
  exact exc_init_tree (cls := .ref C) (t0 := t) (dv := dv) (c2 := .none) (c3 := .none) (b4 := .bool false) hx hz fun h' k e _ => fin h' k e
end
/-- what the written part says of an __init__ that says super(): the def at f, its code at c, the cell of its class C at cc -/
structure SupDef (P : Program) (K : PySem.W.Frag) (mg : Str → Option Value) (C f c cc : Addr) : Prop where
  fn : ∃ oc od fd osl ar, K.lookup f = some ⟨oc, od, .func fd, osl⟩ ∧ (fd.params.posonlyargs ++ fd.params.args).head? = some ar ∧ ar.arg = "self"
  code : ∃ ccl cdd vs ccs file tf, K.lookup c = some ⟨ccl, cdd, .fields vs, ccs⟩ ∧ vs[2]? = some (.str file tf) ∧ ((P.main.file : Str) == file) = true
  cell : ∃ cl cld csl, K.lookup cc = some ⟨cl, cld, .cell (some (.ref C)), csl⟩
  cls : ∃ cd, PySem.W.clsIn K C = some cd
  top : (P.main.scope.names.lookup ("super" : Str)).isSome = false
  third : PySem.W.nsIn K cStatics "thirdparty.any" = some none
  mro : PySem.W.mroIn K C (.ref C) = some true
  sup : PySem.W.ks_superIn K C C "__init__" = some (some (.builtin "ValueError.__init__"))
  ve : PySem.W.subIn K (.ref C) (.type "ValueError") = some true
  mgS : mg "super" = none
theorem sup_stmt {X : Cx} {σ : L2.St} {H : Hp} {s : Shared} {C f c cc x L : Addr} {q : Str} {sc : Scope} {msg : Str} {kk : Nat} {body : List Stmt} {p0 p1 p2 p3 p4 p5 : Pos}
    (S : SupDef X.prog X.K X.mg C f c cc) (T : OexC X.K C) (he : X.env = PySem.W.envX q sc L f (.ref c) [("__class__", cc)]) (hk : sc.kind = .function) (h1 : sc.names.lookup ("super" : Str) = some .globalImplicit) (h2 : sc.names.lookup ("__class__" : Str) = some .free) (h3 : sc.names.lookup ("self" : Str) = some .local)
    (I : Inv X [] σ H s) (hN : X.N[0]? = some ("self" : Str)) (hσ : σ[0]? = some (some (.ref x))) (hx : H x = some (exo x C none)) {pl : Sem Bool} (hi : interactive X.env = false)
    (hs : swapsWith (.Call (.Attribute (.Call (.Name "super" p0) [] [] p1) "__init__" p2) [.Constant (.str msg) kk p5] [] p3) none p4.line X.env = pure false)
    (hev : eval (.Call (.Attribute (.Call (.Name "super" p0) [] [] p1) "__init__" p2) [.Constant (.str msg) kk p5] [] p3) X.env = (do
      let ov ← attributeBase (.Call (.Name "super" p0) [] [] p1) "__init__" X.env (eval (.Call (.Name "super" p0) [] [] p1) X.env)
      standAt p2.atName
      let (f, first) ← holding [ov] (getMethod ov "__init__" pl)
      callWith p3 f first (backTo p3 (starEach [.Constant (.str msg) kk p5] X.env)) []))
    (ha : starEach [.Constant (.str msg) kk p5] X.env = [(false, eval (.Constant (.str msg) kk p5) X.env)]) :
    _root_.PySem.wpAt (model X.prog X.w) X.A (.func body X.env) (exec (.Expr (.Call (.Attribute (.Call (.Name "super" p0) [] [] p1) "__init__" p2) [.Constant (.str msg) kk p5] [] p3) p4) X.env) (fun fl s' => fl = .next ∧ Inv X [] σ H s') X.xe s := by
  obtain ⟨oc, od, fd, osl, ar, lf, hp, hself⟩ := S.fn
  obtain ⟨ccl, cdd, vs, ccs, file, tf, lc, hvs, hfile⟩ := S.code
  obtain ⟨cl, cld, csl, lcell⟩ := S.cell
  obtain ⟨cd, hcd⟩ := S.cls
  have KX := I.kIn
  refine ks_wpAt_Expr_any (ks_wpAt_MethodCall ?_ hev) hi hs
  have e1 : X.env.kindOf "super" = some .globalImplicit := by rw [he]; exact h1
  have e2 : X.env.kindOf "__class__" = some .free := by rw [he]; exact h2
  have e3 : X.env.kindOf ar.arg = some .local := by rw [he, hself]; exact h3
  have hkk : X.env.scope.kind = .function := by rw [he]; exact hk
  refine ks_wpAt_super_base e1 e2 (by decide) (by rw [he]) (KX _ _ lf) rfl hp (by rw [he]) (KX _ _ lc) rfl hvs hfile S.top ?_
  -- the three names
  obtain ⟨mb, hb, hbb⟩ := I.mod.blt
  refine PySem.W.ks_loadName_global hkk e1 (Calls.loadGlobal_builtin (by rw [I.ok.glob]; exact I.mod.glob.keeps I.bk) S.mgS (by rw [I.ok.blt]; exact hb.keeps I.bk) ((hbb _ (by decide +kernel)).trans (show bootBuiltins "super" = some (.type "super") by rfl)) ⟨rfl, ?_⟩)
  refine wpAny_loadName_free hkk e2 (by rw [he]; rfl) ⟨_, KX _ _ lcell, rfl⟩ ?_
  obtain ⟨m, hns, hloc⟩ := I.loc
  obtain ⟨u, ru, hlk⟩ := hloc 0 "self" _ hN hσ (.inl (by rw [he]; exact h3))
  obtain rfl : u = Value.ref x := ru
  have hmx : m ar.arg = some (.ref x) := by
    rcases hlk with ⟨_, z⟩ | ⟨z, _⟩
    · rw [hself]; exact z
    · have e4 : X.env.kindOf "self" = some .local := by rw [← hself]; exact e3
      rw [e4] at z
      rcases z with z | z <;> cases z
  refine wpAny_loadName_local hkk e3 hns hmx ?_
  obtain ⟨oD, hD1, hD2⟩ : ∃ oD, s.heap.get? C = some oD ∧ oD.data = .cls cd := by
    unfold PySem.W.clsIn at hcd
    split at hcd
    · rename_i a b cd' sl ho
      cases hcd
      exact ⟨_, KX _ _ ho, rfl⟩
    · cases hcd
  obtain ⟨t1, hox⟩ := exo_at I.hok hx
  obtain ⟨nm, qn, N, bs, bm, sn, sub, ab, col, dd, k0, k1, k2, k3, k5, hC, hbm⟩ := T.cls
  have hxC : x ≠ C := fun z => by
    have y := KX _ _ hC
    rw [← z, hox] at y
    have y1 := congrArg Obj.data (Option.some.inj y)
    cases y1
  obtain ⟨hh, gg, dr, tk, os⟩ := s
  refine ks_wpAny_isType_cls hD1 hD2 ⟨rfl, ?_⟩
  refine ks_wpAny_call_super hD1 hD2 hox rfl (fun z e => by cases e) (PySem.W.looks_mroIn KX S.mro) (fun hp1 e1' k1' => ?_)
  have I1 : Inv X [] σ H ⟨hp1, gg, dr, tk, os⟩ := I.kept k1'
  have KX1 := I1.kIn
  -- .__init__
  have hal : PySem.W.alongIn X.K "__init__" ((cd.mro.dropWhile (· != .ref C)).drop 1) = some (some (.builtin "ValueError.__init__")) := by
    have y := S.sup
    unfold PySem.W.ks_superIn at y
    rw [hcd] at y
    exact y
  have IA : PySem.W.InstAt hp1 x { cls := .ref C, dict := none, data := .fields #[.ref t1, .none, .none, .none, .bool false, .none] } C none := ⟨k1' _ _ hox, rfl, rfl, trivial⟩
  refine PySem.W.kxs_getMethod PySem.W.kxs_ValueError e1' (PySem.W.looks_opaque KX1 S.third) (l₀ := cd.mro) (fun A Q E s k q => wpAny_bind ((PySem.W.looks_clsIn KX1 hcd) A _ E s k (wpAny_pure q))) rfl KX1 hal (IA.type.andThen (PySem.W.looks_subIn KX1 S.ve)) hxC (by decide) ?_
  have k2' : ∀ b o, hp1.get? b = some o → (hp1.push (PySem.W.kxs_mw "ValueError.__init__" x)).get? b = some o := fun b o e => Heap.get?_push_of_some _ e
  have hu2 : (hp1.push (PySem.W.kxs_mw "ValueError.__init__" x)).get? hp1.objs.size = some (PySem.W.kxs_mw "ValueError.__init__" x) := Heap.get?_push_at rfl rfl
  have I2 : Inv X [] σ H ⟨hp1.push (PySem.W.kxs_mw "ValueError.__init__" x), gg, dr, tk + 1, os⟩ := I1.kept k2'
  -- the call
  show wpAny _ _ (callWith p3 (Value.ref hp1.objs.size) [] (backTo p3 (starEach [Expr.Constant (Const.str msg) kk p5] X.env)) []) _ _ _
  rw [ha]
  refine PySem.W.kxs_callWith (i := "ValueError.__init__") (x := x) rfl ?_
  refine Calls.evalArgs_plain ?_
  show wpAny _ _ (spliced [(false, eval (.Constant (.str msg) kk p5) X.env)]) _ _ _
  refine Calls.spliced_cons ?_
  refine Calls.Constant_str (Calls.spliced_nil ⟨hu2, ?_⟩)
  have I4 : Inv X [] σ H ⟨hp1.push (PySem.W.kxs_mw "ValueError.__init__" x), gg, dr, tk + 1 + 1, os⟩ := I2.tok _
  have hx4 := k2' _ _ (k1' _ _ hox)
  refine call_mw (I4.kIn _ _ hC) hu2 hx4 (by show 1 ≤ sizeLine; decide) fun h' kk' hx' => ⟨rfl, ?_⟩
  have J := I4.write (h' := h') (t' := tk + 1 + 1) (x := x) (e := x) (o := exo x C none) (by rw [hx]; exact True.intro) (.inl rfl) kk' ⟨_, hx'⟩ (exo_ok hx')
  have eu : upd H x (exo x C none) = H := by
    funext b
    by_cases hb : b = x
    · rw [hb, upd_same, hx]
    · rw [upd_ne hb]
  rw [eu] at J
  exact J
end K03


set_option Elab.async false
set_option maxRecDepth 100000
set_option maxHeartbeats 1000000
namespace K03
open PySem PySem.Spec PyProof.Rows L2 NdefX
/-! an own exception's __init__: super().__init__('..'); self.f = v -/
def spInitX (C : Addr) (fld : Str) : Sp := fun vs H Q _ => ∃ (x : Addr) (y : V), vs = [.ref x, y] ∧ H x = some (exo x C none) ∧
  ∀ d : Addr, H d = none → d ≠ x → Q .non (upd (upd H d (exd d [(fld, y)])) x (exo x C (some d)))
structure SupTxt (P : Program) (K : PySem.W.Frag) (mg : Str → Option Value) (C : Addr) (fld : Str) : Prop where
  oex : OexC K C
  nofld : PySem.W.findIn K (.ref C) fld = some none
section
variable {P : Program} {w : World} {K : PySem.W.Frag} {mg : Str → Option Value} {base : Heap}
theorem ok_initx {CX : CXT} {C f c cc : Addr} {qual fld : Str} {params : Arguments} {scope : Scope} {doc pm ct oc : Value} {an od : Option Addr} {osl : Array (Option Value)} {msg : Str} {kk : Nat} {p0 p1 p2 p3 p4 p5 p6 p7 p8 p9 : Pos}
    (T : SupTxt P K mg C fld) (S : SupDef P K mg C f c cc)
    (lk : K.lookup f = some ⟨oc, od, .func (PySem.W.ksFn "__init__" qual params
      [.Expr (.Call (.Attribute (.Call (.Name "super" p0) [] [] p1) "__init__" p2) [.Constant (.str msg) kk p5] [] p3) p4, .Assign [.Attribute (.Name "self" p6) fld p7] (.Name fld p8) p9] scope .none .none doc pm an (.ref c) ct cc), osl⟩)
    (hcd : PySem.W.codeIn K (.ref c) qual = true) (hS : nscB ["self", fld, "__class__"] ["self", fld] ["__class__"] scope = true) (h1 : scope.names.lookup ("super" : Str) = some .globalImplicit) (hdb : (fld == ("__debug__" : Str)) = false) (hdc : (fld == ("__classdict__" : Str)) = false) {pl : Sem Bool}
    (hev : ∀ L : Addr, eval (.Call (.Attribute (.Call (.Name "super" p0) [] [] p1) "__init__" p2) [.Constant (.str msg) kk p5] [] p3) (PySem.W.envX qual scope L f (.ref c) [("__class__", cc)]) = (do
      let ov ← attributeBase (.Call (.Name "super" p0) [] [] p1) "__init__" (PySem.W.envX qual scope L f (.ref c) [("__class__", cc)]) (eval (.Call (.Name "super" p0) [] [] p1) (PySem.W.envX qual scope L f (.ref c) [("__class__", cc)]))
      standAt p2.atName
      let (fn, first) ← holding [ov] (getMethod ov "__init__" pl)
      callWith p3 fn first (backTo p3 (starEach [.Constant (.str msg) kk p5] (PySem.W.envX qual scope L f (.ref c) [("__class__", cc)]))) []))
    (hin : ∀ L : Addr, interactive (PySem.W.envX qual scope L f (.ref c) [("__class__", cc)]) = false)
    (hsn : ∀ L : Addr, swapsWith (.Call (.Attribute (.Call (.Name "super" p0) [] [] p1) "__init__" p2) [.Constant (.str msg) kk p5] [] p3) none p4.line (PySem.W.envX qual scope L f (.ref c) [("__class__", cc)]) = pure false)
    (hsw : ∀ L : Addr, swapsWith (.Name fld p8) (some (.Attribute (.Name "self" p6) fld p7)) p9.line (PySem.W.envX qual scope L f (.ref c) [("__class__", cc)]) = pure false) :
    FnOk P w K mg base CX 2 f (PySem.W.ksFn "__init__" qual params
      [.Expr (.Call (.Attribute (.Call (.Name "super" p0) [] [] p1) "__init__" p2) [.Constant (.str msg) kk p5] [] p3) p4, .Assign [.Attribute (.Name "self" p6) fld p7] (.Name fld p8) p9] scope .none .none doc pm an (.ref c) ct cc) ["self", fld] (spInitX C fld) := by
  have N := nscope_by hS
  have len : ∀ vs H Q E, spInitX C fld vs H Q E → vs.length = (["self", fld] : List Str).length := by
    rintro vs H Q E ⟨x, y, rfl, _⟩
    rfl
  refine ⟨len, fun A outer s H args us vs Q E hr e0 hb r hsp => ?_⟩
  have KX : K.In s.heap := e0.mod.kin.keeps fun b o e => (e0.bs b o e).1
  have lim : s.heap.NoLimit := e0.mod.nolimit.keeps fun b o e => (e0.bs b o e).1
  have hl := len _ _ _ _ hsp
  obtain ⟨x, y, rfl, hx, q⟩ := hsp
  refine ks_codeAny_call_defAt hr.depth (KX _ _ lk) rfl lim (PySem.W.codeRec_of KX hcd) rfl hb N.nocell (fun z hz => ?_) (fun h₁ hns kp => ?_) N.co N.gen N.kind
  · obtain ⟨n, v⟩ := z
    exact N.par n (List.of_mem_zip hz).1
  · obtain ⟨cl, cld, csl, lcell⟩ := S.cell
    have C0 : CellsAt [(("__class__" : Str), cc)] ["__class__"] [some (.ref C)] s.heap H := {
      len := rfl
      all := fun y c e => by
        by_cases z : y = ("__class__" : Str)
        · subst z
          have : cc = c := by simpa [List.lookup] using e
          subst this
          exact ⟨(e0.bs _ _ (e0.mod.kin _ _ lcell)).2, _, _, KX _ _ lcell, rfl⟩
        · have : (y == ("__class__" : Str)) = false := by simpa using z
          simp [List.lookup, this] at e
      inj := fun a b c e1 e2 => by
        have key : ∀ y : Str, ([(("__class__" : Str), cc)] : List (Str × Addr)).lookup y = some c → y = "__class__" := fun y e => by
          by_cases z : y = ("__class__" : Str)
          · exact z
          · have : (y == ("__class__" : Str)) = false := by simpa using z
            simp [List.lookup, this] at e
        rw [key a e1, key b e2]
      has := fun i y e => by
        have z : i = 0 ∧ y = "__class__" := by
          cases i with
          | zero => exact ⟨rfl, (Option.some.inj e).symm⟩
          | succ i => simp at e
        obtain ⟨rfl, rfl⟩ := z
        exact ⟨cc, by simp [List.lookup], fun v hv => by
          cases hv
          exact ⟨_, rfl, _, KX _ _ lcell, rfl⟩⟩ }
    let F : NF := ⟨"__init__", qual, params, [.Expr (.Call (.Attribute (.Call (.Name "super" p0) [] [] p1) "__init__" p2) [.Constant (.str msg) kk p5] [] p3) p4, .Assign [.Attribute (.Name "self" p6) fld p7] (.Name fld p8) p9], scope, [("__class__", cc)], c⟩
    have I : Inv (ncx CX P w K mg base ["self", fld, "__class__"] F f A outer s H E) [] (startF ["self", fld, "__class__"] [.ref x, y] [some (.ref C)]) H { s with heap := h₁, toks := s.toks + ((["self", fld] : List Str).zip us).length } :=
      inv_startN (F := F) N hr.hd e0 hl r C0 hns kp
    refine ks_wpAt_execs_cons (ks_wpAt_mono (sup_stmt (X := ncx CX P w K mg base ["self", fld, "__class__"] F f A outer s H E) S T.oex rfl N.kind h1 (N.frk _ (by simp)) (N.par _ (by simp)) I rfl rfl hx (hin _) (hsn _) (hev _) rfl) (fun fl s' hs => ?_) fun _ _ z => z)
    obtain ⟨rfl, J⟩ := hs
    refine wpAt_of_wpAny ?_
    have ht : PSs (ncx CX P w K mg base ["self", fld, "__class__"] F f A outer s H E) [.Assign [.Attribute (.Name "self" p6) fld p7] (.Name fld p8) p9] (tOst K fld (tVar 0) (tVar 1)) :=
      pss_one (ps_ost (pe_var (i := 0) rfl (.inl (N.par _ (by simp)))) (pe_var (i := 1) rfl (.inl (N.par _ (by simp))) hdb hdc) (hsw _))
    have hq : (tOst K fld (tVar 0) (tVar 1)) { nx := fun _ H' => Q .non H', rt := Q } (startF ["self", fld, "__class__"] [.ref x, y] [some (.ref C)]) H :=
      ⟨_, rfl, _, rfl, x, C, rfl, T.oex, T.nofld, .inl ⟨hx, q⟩⟩
    refine wpAny_mono (ht.run [] _ _ H _ J hq) (fun fl s' hs => ?_) fun e s' hs => hs
    cases fl with
    | ret u => exact (by obtain ⟨v, σ', H', J', rv, q'⟩ := hs; exact ⟨v, H', J'.os, J'.bare, J'.base, J'.hok, rv, q'⟩)
    | next => exact (by obtain ⟨σ', H', J', q'⟩ := hs; exact ⟨V.non, H', J'.os, J'.bare, J'.base, J'.hok, rfl, q'⟩)
    | brk => exact (by obtain ⟨_, _, _, q'⟩ := hs; exact q'.elim)
    | cont => exact (by obtain ⟨_, _, _, q'⟩ := hs; exact q'.elim)
end
end K03


set_option Elab.async false
set_option maxRecDepth 100000
set_option maxHeartbeats 1000000
namespace K03
open PySem PySem.Spec PyProof.Rows PySem.HandSPX
section
variable {prog : Program} {w : World} {A : Around} {E : Value → Shared → Prop} {R : Result → Shared → Prop} {h : Heap} {g : Array GenState} {d : Drawn} {t : Nat} {os : OsState}
variable {nm q : Str} {C N fI : Addr} {bs bm : List Value} {hdct : Bool} {sn : List Str} {sub : List Value} {ab : Bool} {col : Option Bool} {dd : Option Addr} {k0 k1 k2 k3 k5 : Option Value} {kn : Str} {kv : Value}
/-- an own exception class is called with one keyword: the look at what is handed to __new__ -/
theorem xk_look {Q : Unit → Shared → Prop} (hT : ∀ X : String, bm.contains (.type X) = ([.type "ValueError", .type "Exception", .type "BaseException", .type "object"] : List Value).contains (.type X))
    (hC : h.get? C = some (excClassObj nm q C N bs bm hdct sn sub ab col dd k0 k1 k2 k3 k5 "ValueError.__new__")) (hq : Q () ⟨h, g, d, t, os⟩) :
    wpAny (model prog w) A (checkBuiltinCall "ValueError.__new__" ⟨[.ref C], [(kn, kv)]⟩) Q E ⟨h, g, d, t, os⟩ := by
  have Z := F.excBase_ValueError
  have c1 : (Value.ref C :: bm).contains (.type "ValueError") = true := by rw [List.contains_cons, hT]; rfl
  have st := Z.noStar
  simp only [checkBuiltinCall, Z.newKind, Z.newSplit, Z.newRow]
  repeat (first | refine wpAny_loadPart_at hC ?_ | (refine wpAny_isSubtype_exc hC ?_; rw [c1]) | refine wpAny_staticBase_exc hC ?_ | refine wpAny_madeBy_exc hC ?_ | simp only [bne_self_eq_false, Bool.false_eq_true, if_false] | wp_step)
  exact hq
/-- .. the object is made -/
theorem xk_new (hT : ∀ X : String, bm.contains (.type X) = ([.type "ValueError", .type "Exception", .type "BaseException", .type "object"] : List Value).contains (.type X))
    (hC : h.get? C = some (excClassObj nm q C N bs bm hdct sn sub ab col dd k0 k1 k2 k3 k5 "ValueError.__new__"))
    (hq : R (.ok (.ret (.ref (h.objs.size + 1)))) ⟨(h.push (PySem.W.kdv_tup [])).push (excO C h.objs.size), g, d, t, os⟩) :
    codeAny (model prog w) A (.builtin "ValueError.__new__" ⟨[.ref C], [(kn, kv)]⟩) R ⟨h, g, d, t, os⟩ := by
  have Z := F.excBase_ValueError
  have ends := Z.ends
  have c1 : (Value.ref C :: bm).contains (.type "ValueError") = true := by rw [List.contains_cons, hT]; rfl
  have c2 : (Value.ref C :: bm).contains (.type "AttributeError") = false := by rw [List.contains_cons, hT]; rfl
  have c3 : (Value.ref C :: bm).contains (.type "NameError") = false := by rw [List.contains_cons, hT]; rfl
  apply codeAny_builtinAt Z.entry
  unfold Builtin.«BaseException.__new__»
  apply PySem.wpAt_bind
  show PySem.wpAt _ _ _ (stack >>= _) _ _ _
  apply PySem.wpAt_bind
  apply PySem.wpAt_stack
  intro p below
  apply PySem.wpAt_of_wpAny
  wp_walk
  apply PySem.wpAt_of_wpAny
  rw [Z.owner]
  repeat (first | with_reducible refine wpAny_madeHere_exc Z.canon hC ?_ | with_reducible refine wpAny_loadPart_at hC ?_ | (with_reducible refine wpAny_isSubtype_exc hC ?_; first | rw [c1] | rw [c2] | rw [c3]) | wp_step)
  rw [← Heap.size_push] at hq
  exact hq
/-- type.__call__ itself is looked at -/
theorem xk_check {Q : Unit → Shared → Prop} (hC : h.get? C = some (excClassObj nm q C N bs bm hdct sn sub ab col dd k0 k1 k2 k3 k5 "ValueError.__new__")) (hq : Q () ⟨h, g, d, t, os⟩) :
    wpAny (model prog w) A (checkBuiltinCall "type.__call__" ⟨[.ref C], [(kn, kv)]⟩) Q E ⟨h, g, d, t, os⟩ := by
  have y3 := tc_sub
  have yT : (⟨h, g, d, t, os⟩ : Shared).TypeIs (.ref C) "type" := ⟨_, hC, rfl⟩
  simp only [checkBuiltinCall, tc_kind, tc_split]
  repeat (any_goals (first | assumption | with_reducible refine wpAny_loadPart_at hC ?_ | with_reducible refine wpAny_onRaise ?_ | with_reducible refine wpAny_map ?_ | wp_step))
theorem xk_type {Q : PySem.Fin → Shared → Prop} (hT : ∀ X : String, bm.contains (.type X) = ([.type "ValueError", .type "Exception", .type "BaseException", .type "object"] : List Value).contains (.type X))
    (hC : h.get? C = some (excClassObj nm q C N bs bm hdct sn sub ab col dd k0 k1 k2 k3 k5 "ValueError.__new__"))
    (hi : PySem.W.Looks (model prog w) h (typeLookup (.ref C) "__init__") (some (.ref fI))) (hb : ∀ self, PySem.W.Looks (model prog w) h (bindSpecial (.ref fI) self) (.ref fI, [self]))
    (hq : codeAny (model prog w) A (.call (.ref fI) ⟨[.ref (h.objs.size + 1)], [(kn, kv)]⟩)
      (fun r s' => match r with | .ok (.ret v) => v = .none ∧ Q (.done (.ret (.ref (h.objs.size + 1)))) s' | .ok _ => False | .error e => E e s')
      ⟨(h.push (PySem.W.kdv_tup [])).push (excO C h.objs.size), g, d, t, os⟩) :
    wpAny (model prog w) A (Builtin.«type.__call__» ⟨[.ref C], [(kn, kv)]⟩) Q E ⟨h, g, d, t, os⟩ := by
  have Z := F.excBase_ValueError
  repeat (first | with_reducible refine wpAny_loadPart_at hC ?_ | with_reducible refine wpAny_madeBy_exc hC ?_ | wp_step)
  apply codeAny_call_builtin_code (Code.quiet_builtin _ Z.quiet) (xk_look hT hC (xk_new hT hC _))
  have k : ∀ b o, h.get? b = some o → ((h.push (PySem.W.kdv_tup [])).push (excO C h.objs.size)).get? b = some o := fun b o e => Heap.get?_push_of_some _ (Heap.get?_push_of_some _ e)
  have hC1 := k _ _ hC
  have hget : ((h.push (PySem.W.kdv_tup [])).push (excO C h.objs.size)).get? (h.objs.size + 1) = some (excO C h.objs.size) := by heap_get
  have hcC : (Value.ref C :: bm).contains (.ref C) = true := by simp
  have i1 := hi.keeps k
  have b1 := (hb (.ref (h.objs.size + 1))).keeps k
  show wpAny _ _ _ _ _ _
  unfold isInstance
  repeat (first | with_reducible refine wpAny_loadPart_at hget ?_ | (with_reducible refine wpAny_isSubtype_exc hC1 ?_; rw [hcC]) | wp_step)
  show wpAny _ _ (typeLookup (.ref C) _) _ _ _
  apply i1.at
  apply wpAny_holding
  apply wpAny_bind
  apply b1.at
  apply wpAny_bind
  apply wpAny_call
  refine codeAny_mono hq fun r s' z => ?_
  rcases r with e | (v | _ | _ | _) <;> first | exact z | exact z.elim | skip
  obtain ⟨rfl, z⟩ := z
  first
    | exact wpAny_pure (wpAny_pure z)
    | (wp_walk; exact z)
/-- .. the class is called: __new__, then its own __init__ with the keyword -/
theorem xk_call (hT : ∀ X : String, bm.contains (.type X) = ([.type "ValueError", .type "Exception", .type "BaseException", .type "object"] : List Value).contains (.type X))
    (hC : h.get? C = some (excClassObj nm q C N bs bm hdct sn sub ab col dd k0 k1 k2 k3 k5 "ValueError.__new__"))
    (hi : PySem.W.Looks (model prog w) h (typeLookup (.ref C) "__init__") (some (.ref fI))) (hb : ∀ self, PySem.W.Looks (model prog w) h (bindSpecial (.ref fI) self) (.ref fI, [self]))
    (hq : codeAny (model prog w) (A.under (.builtin "type.__call__" ⟨[.ref C], [(kn, kv)]⟩)) (.call (.ref fI) ⟨[.ref (h.objs.size + 1)], [(kn, kv)]⟩) (PySem.W.InitBack (h.objs.size + 1) R)
      ⟨(h.push (PySem.W.kdv_tup [])).push (excO C h.objs.size), g, d, t, os⟩) :
    codeAny (model prog w) A (.call (.ref C) ⟨[], [(kn, kv)]⟩) R ⟨h, g, d, t, os⟩ := by
  have Z := F.excBase_ValueError
  have y1 := tc_lookup
  have y2 := tc_bind (.ref C)
  have yT : (⟨h, g, d, t, os⟩ : Shared).TypeIs (.ref C) "type" := ⟨_, hC, rfl⟩
  apply codeAny_of_tree
  show wpAny _ _ (callAny (.ref C) _) _ _ _
  repeat (any_goals (first | assumption | with_reducible refine wpAny_loadPart_at hC ?_ | wp_step))
  refine ⟨rfl, codeAny_call_builtin_at (Code.quiet_builtin _ (by decide +kernel)) entry_typeCall (xk_check hC (xk_type hT hC hi hb ?_))⟩
  refine codeAny_mono hq fun r s' z => ?_
  rcases r with e | (v | _ | _ | _) <;> exact z
end
end K03


set_option Elab.async false
set_option maxRecDepth 100000
set_option maxHeartbeats 1000000
namespace K03
open PySem PySem.Spec PyProof.Rows L2
/-- what the text says of an own exception class with an __init__ (at fI, its function fd) that keeps one field -/
structure XCls (P : Program) (w : World) (K : PySem.W.Frag) (mg : Str → Option Value) (base : Heap) (C fI : Addr) (fd : FuncData) (fld : Str) : Prop where
  oex : OexC K C
  ini : PySem.W.findIn K (.ref C) "__init__" = some (some (.ref fI))
  tyI : PySem.W.typeIn K (.ref fI) = some (.type "function")
  ok : FnOk P w K mg base CX0 2 fI fd ["self", fld] (spInitX C fld)
  bind : ∀ (s : Shared) (u v : Value), BindsTo s fd ⟨[u, v], []⟩ [("self", u), (fld, v)]
  bindK : ∀ (s : Shared) (u v : Value), BindsTo s fd ⟨[u], [(fld, v)]⟩ [("self", u), (fld, v)]
/-- C(e): a new exception with its dict -/
def tXMk (C : Addr) (fld : Str) (te : TE) : TE := fun σ H Q => te σ H fun y H1 => ∀ a d : Addr, H1 a = none → H1 d = none → d ≠ a → Q (.ref a) (upd (upd H1 d (exd d [(fld, y)])) a (exo a C (some d)))
theorem upd_comm {H : Hp} {a b : Addr} {o u : HO} (h : a ≠ b) : upd (upd H a o) b u = upd (upd H b u) a o := by
  funext c
  unfold upd
  by_cases h1 : c = b
  · rw [if_pos h1, if_neg (fun z => h (z.symm.trans h1)), if_pos h1]
  · rw [if_neg h1]
    by_cases h2 : c = a
    · rw [if_pos h2, if_pos h2]
    · rw [if_neg h2, if_neg h2, if_neg h1]
section
variable {X : Cx} {C fI : Addr} {fd : FuncData} {fld : Str} {x : Str} {e : Expr} {te : TE} {p pos kpos : Pos}
theorem xmk_after {pins : List (Addr × Obj)} {σ : L2.St} {H1 : Hp} {s1 s' : Shared} {Q : VK} {a : Addr} {v : V} {r : Value} (q : ∀ d : Addr, H1 a = none → H1 d = none → d ≠ a → Q (.ref a) (upd (upd H1 d (exd d [(fld, v)])) a (exo a C (some d)))) (hn : H1 a = none)
    (I2 : Inv X pins σ (upd H1 a (exo a C none)) s1)
    (hc : CE X.stack X.prog X.w (upd H1 a (exo a C none)) s1 (fun v2 H2 => v2 = .non ∧ ∃ d : Addr, H1 d = none ∧ d ≠ a ∧ H2 = upd (upd (upd H1 a (exo a C none)) d (exd d [(fld, v)])) a (exo a C (some d))) r s') :
    r = .none ∧ EP X pins σ Q (.ref a) s' := by
  obtain ⟨v3, H2, I3, rv, ev, d, hd, hda, rfl⟩ := I2.after hc
  subst ev
  refine ⟨rv, .ref a, _, I3, rfl, ?_⟩
  rw [upd_comm (H := H1) hda.symm, upd_upd]
  exact q d hn hd hda
/-- a new exception of an own class by one value -/
theorem pe_xmk (T : XCls X.prog X.w X.K X.mg X.base C fI fd fld) (hr : Room 3 X.A) (hg : Gl X x) (hm : X.mg x = some (.ref C)) (he : PE X e te) (hdb : (x == ("__debug__" : Str)) = false := by decide)
    (hs : starEach [e] X.env = (false, eval e X.env) :: starEach [] X.env := by rfl) (hpl : (backTo pos (starEach [] X.env)).any (·.1) = false := by rfl) :
    PE X (.Call (.Name x p) [e] [] pos) (tXMk C fld te) := by
  obtain ⟨nm, q, N, bs, bm, sn, sub, ab, col, dd, k0, k1, k2, k3, k5, hC, hbm⟩ := T.oex.cls
  refine ⟨fun pins s σ H Q I h => wpAny_Call_Name_kw (ld_glob I hg hm ?_ hdb)⟩
  refine PySem.W.callWith_K (h₀ := X.base) I.ok.mod.kin T.oex.kC ?_ hs hpl
  rw [hs]
  show wpAny _ _ (spliced ((false, eval e X.env) :: backTo pos (starEach [] X.env))) _ _ s
  refine Calls.spliced_cons (thn (he.run pins s σ H _ I h) fun u s1 ⟨v, H1, I1, r1, q1⟩ => Calls.spliced_nil ⟨I1.kIn, ?_⟩)
  show wpAny _ _ (call (.ref C) [u]) _ _ _
  obtain ⟨hp, g, dr, tk, os⟩ := s1
  have hsz : hp.objs.size ≤ hp.objs.size + 1 := Nat.le_succ _
  have hn : H1 (hp.objs.size + 1) = none := I1.hok.fresh hsz
  have kk : ∀ b o, hp.get? b = some o → ((hp.push (PySem.W.kdv_tup [u])).push (PySem.HandSPX.excO C hp.objs.size)).get? b = some o := fun b o e => Heap.get?_push_of_some _ (Heap.get?_push_of_some _ e)
  have hget : ((hp.push (PySem.W.kdv_tup [u])).push (PySem.HandSPX.excO C hp.objs.size)).get? (hp.objs.size + 1) = some (PySem.HandSPX.excO C hp.objs.size) := by heap_get
  have I2 : Inv X pins σ (upd H1 (hp.objs.size + 1) (exo (hp.objs.size + 1) C none)) ⟨(hp.push (PySem.W.kdv_tup [u])).push (PySem.HandSPX.excO C hp.objs.size), g, dr, tk, os⟩ :=
    I1.laid (t' := tk) (a := hp.objs.size + 1) (o := exo (hp.objs.size + 1) C none) (h' := (hp.push (PySem.W.kdv_tup [u])).push (PySem.HandSPX.excO C hp.objs.size)) kk hsz (exo_ok hget)
  have hsp : spInitX C fld [.ref (hp.objs.size + 1), v] (upd H1 (hp.objs.size + 1) (exo (hp.objs.size + 1) C none))
      (fun v2 H2 => v2 = .non ∧ ∃ d : Addr, H1 d = none ∧ d ≠ hp.objs.size + 1 ∧ H2 = upd (upd (upd H1 (hp.objs.size + 1) (exo (hp.objs.size + 1) C none)) d (exd d [(fld, v)])) (hp.objs.size + 1) (exo (hp.objs.size + 1) C (some d))) (fun _ _ _ => False) :=
    ⟨_, _, rfl, upd_same, fun d hd hda => ⟨rfl, d, by rw [upd_ne hda] at hd; exact hd, hda, rfl⟩⟩
  have hus : ([u] : List Value).length ≤ sizeLine := by show 1 ≤ sizeLine; decide
  apply wpAny_call
  refine PySem.HandSPX.call_own F.excBase_ValueError (fun Y => PySem.HandSPX.refsVE_contains Y bm hbm) (I1.kIn _ _ hC) (PySem.W.looks_findIn I1.kIn T.ini) (fun self => PySem.W.bind_fn I1.kIn self T.tyI) hus
    (codeAny_mono (T.ok.run _ X.stack _ _ ⟨[Value.ref (hp.objs.size + 1), u], []⟩ [Value.ref (hp.objs.size + 1), u] _ _ (fun _ _ _ => False) ((hr.make C [u] [])) (I2.env0.make C [u] []) (T.bind _ _ _) (show Vals [V.ref (hp.objs.size + 1), v] [Value.ref (hp.objs.size + 1), u] from .cons rfl (.cons r1 .nil)) hsp) fun r s' hq' => ?_)
  cases r with
  | error er => exact False.elim hq'
  | ok fl =>
    cases fl with
    | ret u' => exact xmk_after (q1 _) hn I2 hq'
    | next => exact False.elim hq'
    | brk => exact False.elim hq'
    | cont => exact False.elim hq'
/-- .. by one keyword -/
theorem pe_xmkK (T : XCls X.prog X.w X.K X.mg X.base C fI fd fld) (hr : Room 3 X.A) (hg : Gl X x) (hm : X.mg x = some (.ref C)) (he : PE X e te) (hdb : (x == ("__debug__" : Str)) = false := by decide)
    (hall : (backToKw pos (keywordEach [⟨some fld, e, kpos⟩] X.env)).all (·.1.isSome) = true := by rfl) (hks : (backToKw pos (keywordEach [⟨some fld, e, kpos⟩] X.env)).filterMap (·.1) = [fld] := by rfl)
    (hpl : (backToKw pos (keywordEach [⟨some fld, e, kpos⟩] X.env)).any (·.1.isNone) = false := by rfl) :
    PE X (.Call (.Name x p) [] [⟨some fld, e, kpos⟩] pos) (tXMk C fld te) := by
  obtain ⟨nm, q, N, bs, bm, sn, sub, ab, col, dd, k0, k1, k2, k3, k5, hC, hbm⟩ := T.oex.cls
  refine ⟨fun pins s σ H Q I h => wpAny_Call_Name_kw (ld_glob I hg hm ?_ hdb)⟩
  refine PySem.W.callWith_KW0 (h₀ := X.base) I.ok.mod.kin T.oex.kC hall ?_ hpl
  have hk : PK X [⟨some fld, e, kpos⟩] (tCons te tNil) := pk_cons he pk_nil
  refine thn (hk.run pos pins s σ H (fun zs H' => match zs with | [y] => ∀ a d : Addr, H' a = none → H' d = none → d ≠ a → Q (.ref a) (upd (upd H' d (exd d [(fld, y)])) a (exo a C (some d))) | _ => False) I h) fun ws s1 ⟨zs, H1, I1, rz, q1⟩ => ⟨I1.kIn, ?_⟩
  rw [hks]
  cases rz with
  | nil => exact q1.elim
  | @cons v u _ _ r1 rz =>
    cases rz with
    | cons _ _ => exact q1.elim
    | nil =>
      show wpAny _ _ (call (.ref C) [] [(fld, u)]) _ _ _
      obtain ⟨hp, g, dr, tk, os⟩ := s1
      have hsz : hp.objs.size ≤ hp.objs.size + 1 := Nat.le_succ _
      have hn : H1 (hp.objs.size + 1) = none := I1.hok.fresh hsz
      have kk : ∀ b o, hp.get? b = some o → ((hp.push (PySem.W.kdv_tup [])).push (PySem.HandSPX.excO C hp.objs.size)).get? b = some o := fun b o e => Heap.get?_push_of_some _ (Heap.get?_push_of_some _ e)
      have hget : ((hp.push (PySem.W.kdv_tup [])).push (PySem.HandSPX.excO C hp.objs.size)).get? (hp.objs.size + 1) = some (PySem.HandSPX.excO C hp.objs.size) := by heap_get
      have I2 : Inv X pins σ (upd H1 (hp.objs.size + 1) (exo (hp.objs.size + 1) C none)) ⟨(hp.push (PySem.W.kdv_tup [])).push (PySem.HandSPX.excO C hp.objs.size), g, dr, tk, os⟩ :=
        I1.laid (t' := tk) (a := hp.objs.size + 1) (o := exo (hp.objs.size + 1) C none) (h' := (hp.push (PySem.W.kdv_tup [])).push (PySem.HandSPX.excO C hp.objs.size)) kk hsz (exo_ok hget)
      have hsp : spInitX C fld [.ref (hp.objs.size + 1), v] (upd H1 (hp.objs.size + 1) (exo (hp.objs.size + 1) C none))
          (fun v2 H2 => v2 = .non ∧ ∃ d : Addr, H1 d = none ∧ d ≠ hp.objs.size + 1 ∧ H2 = upd (upd (upd H1 (hp.objs.size + 1) (exo (hp.objs.size + 1) C none)) d (exd d [(fld, v)])) (hp.objs.size + 1) (exo (hp.objs.size + 1) C (some d))) (fun _ _ _ => False) :=
        ⟨_, _, rfl, upd_same, fun d hd hda => ⟨rfl, d, by rw [upd_ne hda] at hd; exact hd, hda, rfl⟩⟩
      apply wpAny_call
      refine xk_call (fun Y => PySem.HandSPX.refsVE_contains Y bm hbm) (I1.kIn _ _ hC) (PySem.W.looks_findIn I1.kIn T.ini) (fun self => PySem.W.bind_fn I1.kIn self T.tyI)
        (codeAny_mono (T.ok.run _ X.stack _ _ ⟨[Value.ref (hp.objs.size + 1)], [(fld, u)]⟩ [Value.ref (hp.objs.size + 1), u] _ _ (fun _ _ _ => False) ((hr.make C [] [(fld, u)])) (I2.env0.make C [] [(fld, u)]) (T.bindK _ _ _) (show Vals [V.ref (hp.objs.size + 1), v] [Value.ref (hp.objs.size + 1), u] from .cons rfl (.cons r1 .nil)) hsp) fun r s' hq' => ?_)
      cases r with
      | error er => exact False.elim hq'
      | ok fl =>
        cases fl with
        | ret u' => exact xmk_after (q1 _) hn I2 hq'
        | next => exact False.elim hq'
        | brk => exact False.elim hq'
        | cont => exact False.elim hq'
end
end K03


set_option Elab.async false
set_option maxRecDepth 100000
set_option maxHeartbeats 4000000
namespace K03
open PySem PySem.Spec PyProof.Rows L2
open PySem.W (KitX InstAt Looks)
section
variable {prog : Program} {w : World} {A : Around} {E : Value → Shared → Prop} {s : Shared} {K : PySem.W.Frag} {x D : Addr} {ox : Obj} {od : Option Obj}
/-- e.__class__ of an exception with or without a dict -/
theorem cls_of_exc {Q : Option Value → Shared → Prop} (C : ExcC K D) (hf : PySem.W.findObj K D od "__class__" = some (.bind (.builtin "getset_descriptor.__get__") (.builtin "object.__class__")))
    (X : K.In s.heap) (I : InstAt s.heap x ox D od) (h : Q (some (.ref D)) { s with toks := s.toks + 1 }) : wpAny (model prog w) A (getAttr? (.ref x) "__class__") Q E s := by
  obtain ⟨hp, g, d, t, os⟩ := s
  have M0 := I.type (M := model prog w)
  have M1 := PySem.W.looks_findIn (M := model prog w) X C.hg
  have M2 := PySem.W.looks_findIn (M := model prog w) X C.hk
  have M3 := PySem.W.looks_find (M := model prog w) X I hf
  have sb : Looks (model prog w) hp (isInstance (.ref x) (.type "BaseException")) true := M0.andThen (PySem.W.looks_subIn X C.hs)
  have z1 : (onTheHeap (Value.ref D) && Value.builtin "BaseException.__getattribute__" == Value.builtin "object.__getattribute__") = false := by
    rw [show (Value.builtin "BaseException.__getattribute__" == Value.builtin "object.__getattribute__") = false by decide +kernel]; rfl
  unfold getAttr? getAttrBy? getAttrBy
  apply wpAny_bind; apply wpAny_mkText; apply wpAny_bind; apply wpAny_attempt; apply wpAny_holding; apply wpAny_bind
  apply M0.at; apply wpAny_bind; apply M1.at
  show wpAny _ _ (if (onTheHeap (Value.ref D) && Value.builtin "BaseException.__getattribute__" == Value.builtin "object.__getattribute__") = true then _ else _) _ _ _
  rw [z1, if_neg Bool.false_ne_true]
  unfold getAttrByItsOwn hookBefore
  apply wpAny_bind
  rw [if_pos (show onTheHeap (Value.ref D) = true from rfl)]
  apply M2.at
  apply wpAny_bind; apply wpAny_attempt; apply wpAny_holding
  unfold callGetattribute
  rw [show (false && onTheHeap (Value.builtin "BaseException.__getattribute__")) = false from rfl, if_neg Bool.false_ne_true]
  unfold boundAndCalled
  rw [PySem.F.excAttr_ValueError.ga.bind (.ref x)]
  apply wpAny_bind; apply wpAny_pure
  show wpAny _ _ (call (.builtin "BaseException.__getattribute__") [.ref x, .str "__class__" t]) _ _ _
  apply wpAny_call
  apply codeAny_call_builtin PySem.F.excAttr_ValueError.ga.plain PySem.F.entry_bexc_ga
  refine @PySem.W.check_slot (model prog w) _ _ ⟨hp, g, d, t + 1, os⟩ "BaseException.__getattribute__" "BaseException" "__getattribute__" (.ref x) [.str "__class__" t] [] _ (by decide +kernel) (by decide +kernel) sb (PySem.F.args_bexc_ga (.ref x) (.str "__class__" t)) ?_
  unfold Builtin.«object.__getattribute__»
  apply wpAny_bind
  refine wpAny_of_eq (a := ((Value.ref x : Value), [Value.str "__class__" t])) (by first | rfl | (simp only [slotArgs]; rfl)) ?_
  apply wpAny_bind; apply wpAny_pure; apply wpAny_bind; apply M0.at; apply wpAny_bind; apply M3.at
  show wpAny _ _ (holding [Value.builtin "object.__class__"] (call (.builtin "getset_descriptor.__get__") [.builtin "object.__class__", .ref x, .ref D]) >>= ret) _ _ _
  apply wpAny_bind; apply wpAny_holding; apply wpAny_call
  refine PySem.W.class_get (s := ⟨hp, g, d, t + 1, os⟩) (ox := ox) (od := od) X I C.hm ?_
  apply wpAny_pure
  show wpAny _ _ (handedOut (.ref D)) _ _ _
  rw [PySem.W.handedOut_of (v := .ref D) rfl]
  first
    | exact wpAny_pure (wpAny_pure h)
    | exact wpAny_pure h
    | exact wpAny_pure (wpAny_bind (wpAny_pure (wpAny_pure h)))
/-- isinstance asks an exception with or without a dict -/
theorem kit_exc (C : ExcC K D) (hf : PySem.W.findObj K D od "__class__" = some (.bind (.builtin "getset_descriptor.__get__") (.builtin "object.__class__"))) : KitX K (.ref x) (.ref D) (fun h => InstAt h x ox D od) := by
  obtain ⟨cd, hcd, _⟩ := PySem.W.any_some C.hd
  have at_ : ∀ h : Heap, K.In h → ∃ o, h.get? D = some o ∧ o.data = .cls cd := fun h X => by
    unfold PySem.W.clsIn at hcd
    split at hcd
    · rename_i a b c' sl ho
      cases hcd
      exact ⟨_, X _ _ ho, rfl⟩
    · cases hcd
  refine ⟨fun _ _ _ I => I.type, fun M h X _ => ?_, fun h tp dd its n sl X htp => ?_, fun X I k => cls_of_exc C hf X I k⟩
  · obtain ⟨o, ho, hd⟩ := at_ h X
    intro A' Q' E' s' k q
    unfold isType loadHead
    refine wpAny_bind (wpAny_loadPart (k _ _ ho) ?_)
    rw [hd]
    exact wpAny_pure q
  · obtain ⟨o, ho, hd⟩ := at_ h X
    refine Bool.eq_false_iff.mpr fun q => ?_
    have e : D = tp := Value.ref.inj (beq_iff_eq.mp q)
    rw [e, htp] at ho
    rw [← Option.some.inj ho] at hd
    cases hd
end
/-- isinstance(e, c), e an exception that is held as a value: c's value cv, the answer b -/
def rIsX (K : PySem.W.Frag) : List V → Hp → VK → Prop := fun xs H Q => ∃ (a D : Addr) (c : V) (cv : Value) (b : Bool), xs = [.ref a, c] ∧ (H a = some (ExO (.ref D) a) ∨ ∃ (d : Addr) (fs : List (Str × V)), H a = some (exo a D (some d)) ∧ H d = some (exd d fs)) ∧ ExcC K D ∧
  (∀ u, RelV c u → u = cv) ∧ PySem.W.kitOne K (.ref D) cv = some b ∧ Q (.bl b) H
theorem call_isX {X : Cx} : CallR X (.builtin "isinstance") (rIsX X.K) := by
  intro pins s σ H xs us Q I r h
  obtain ⟨a, D, c, cv, b, rfl, ha, C, hcv, e, q⟩ := h
  cases r with
  | cons rx rr =>
    cases rr with
    | cons rt rr =>
      cases rr
      cases rx
      have ec := hcv _ rt
      subst ec
      have hcl : (PySem.W.clsIn X.K D).isSome = true := by
        obtain ⟨cd, hc, _⟩ := PySem.W.any_some C.hd
        rw [hc]; rfl
      rcases ha with ha | ⟨d, fs, ha, hd⟩
      · obtain ⟨⟨oe, vs, ho, hz, hdt, _⟩, _, _⟩ := I.hok a _ ha
        have J : InstAt s.heap a oe D none := by
          obtain ⟨oc, od, oda, osl⟩ := oe
          obtain ⟨h1, h2⟩ := hz
          dsimp only at h1 h2 hdt
          subst h1 h2 hdt
          exact ⟨ho, rfl, rfl, trivial⟩
        exact PySem.W.kia_one (kit_exc C (PySem.W.findObj_dataN hcl C.ha C.hn C.ht)) I.kIn J e (fun z => nomatch z) fun tk => ⟨.bl b, H, I.kept (t' := tk) fun _ _ z => z, rfl, q⟩
      · obtain ⟨t1, ho⟩ := exo_at I.hok ha
        obtain ⟨mA, ⟨od, es, ep, e1, _⟩, _⟩ := exd_at I.hok hd
        have J : InstAt s.heap a { cls := .ref D, dict := some d, data := .fields #[.ref t1, .none, .none, .none, .bool false, .none] } D (some od) := ⟨ho, rfl, rfl, e1⟩
        exact PySem.W.kia_one (kit_exc C (PySem.W.findObj_data hcl C.ha C.hn C.ht)) I.kIn J e (fun z => nomatch z) fun tk => ⟨.bl b, H, I.kept (t' := tk) fun _ _ z => z, rfl, q⟩
/-- e.f of such an exception -/
structure XGet (K : PySem.W.Frag) (C : Addr) (fld : Str) : Prop where
  ex : ExcC K C
  no : PySem.W.findIn K (.ref C) fld = some none
def tXFld (K : PySem.W.Frag) (fld : Str) (te : TE) : TE := fun σ H Q => te σ H fun x H1 => ∃ (a C d : Addr) (fs : List (Str × V)) (v : V), x = .ref a ∧ XGet K C fld ∧ H1 a = some (exo a C (some d)) ∧ H1 d = some (exd d fs) ∧ fs.lookup fld = some v ∧ Q v H1
theorem pe_xfld {X : Cx} {e : Expr} {te : TE} {fld : Str} {pos : Pos} (he : PE X e te) (hb : attributeBase e fld X.env (eval e X.env) = eval e X.env := by rfl) : PE X (.Attribute e fld pos) (tXFld X.K fld te) := by
  refine ⟨fun pins s σ H Q I h => ?_⟩
  refine attr_of hb (thn (he.run pins s σ H _ I h) fun u s1 ⟨x, H1, I1, rx, a, C, d, fs, v, ex, T, ha, hd, hl, q⟩ => ?_)
  subst ex
  obtain rfl : u = Value.ref a := rx
  obtain ⟨t1, ho⟩ := exo_at I1.hok ha
  obtain ⟨mA, hns, rel⟩ := exd_at I1.hok hd
  obtain ⟨od, e1, l⟩ := lookIn_ns hns
  have rl := rel fld
  rw [hl] at rl
  cases hm : mA fld with
  | none => rw [hm] at rl; exact rl.elim
  | some y =>
    rw [hm] at rl
    have J : InstAt s1.heap a { cls := .ref C, dict := some d, data := .fields #[.ref t1, .none, .none, .none, .bool false, .none] } C (some od) := ⟨ho, rfl, rfl, e1⟩
    exact HandSPX.exc_get I1.kIn J T.ex.hg T.ex.hk T.ex.hs (PySem.W.findObj_own T.ex.hd T.no rfl (by rw [l, hm])) (handed_of rl) ⟨v, H1, I1.tok _, rl, q⟩
end K03


set_option Elab.async false
set_option maxRecDepth 100000
set_option maxHeartbeats 4000000
set_option linter.all false
namespace K03
open PySem PySem.Spec PyProof.Rows L2
open PySem.W (KitX InstAt Looks)
/-- the fields of an exception, at d -/
theorem xd_at {P : Program} {w : World} {H : Hp} {h : Heap} {d : Addr} {fs : List (Str × V)} (hok : HOk P w H h) (e : H d = some (.xd fs)) : ∃ mA, h.Ns1 d mA ∧ ∀ f, RelO (fs.lookup f) (mA f) := by
  have x : ObjOk P w H h d (.xd fs) := hok d _ e
  exact x
/-- isinstance(e, c), e a caught exception that lives on -/
def rIsR (K : PySem.W.Frag) : List V → Hp → VK → Prop := fun xs H Q => ∃ (a D d : Addr) (fs : List (Str × V)) (c : V) (cv : Value) (b : Bool), xs = [.ref a, c] ∧ H a = some (ExR (.ref D) (some d) a) ∧ H d = some (.xd fs) ∧ ExcC K D ∧
  (∀ u, RelV c u → u = cv) ∧ PySem.W.kitOne K (.ref D) cv = some b ∧ Q (.bl b) H
theorem instR {X : Cx} {pins : List (Addr × Obj)} {σ : L2.St} {H : Hp} {s : Shared} {a D d : Addr} {fs : List (Str × V)} (I : Inv X pins σ H s) (ha : H a = some (ExR (.ref D) (some d) a)) (hd : H d = some (.xd fs)) : ∃ (oe : Obj) (od : Obj) (mA : Str → Option Value), InstAt s.heap a oe D (some od) ∧ oe.dict = some d ∧ (∀ f, RelO (fs.lookup f) (mA f)) ∧ s.heap.Ns1 d mA ∧ s.heap.get? d = some od := by
  obtain ⟨oe, vs, ho, ⟨z1, z2⟩, hdt⟩ := exR_at I.hok ha
  obtain ⟨mA, hns, rel⟩ := xd_at I.hok hd
  obtain ⟨od, es, ep, e1, r⟩ := id hns
  exact ⟨oe, od, mA, ⟨ho, z1, by unfold PySem.W.notCls; rw [hdt], by rw [z2]; exact e1⟩, z2, rel, hns, e1⟩
theorem call_isR {X : Cx} : CallR X (.builtin "isinstance") (rIsR X.K) := by
  intro pins s σ H xs us Q I r h
  obtain ⟨a, D, d, fs, c, cv, b, rfl, ha, hd, C, hcv, e, q⟩ := h
  cases r with
  | cons rx rr =>
    cases rr with
    | cons rt rr =>
      cases rr
      cases rx
      have ec := hcv _ rt
      subst ec
      have hcl : (PySem.W.clsIn X.K D).isSome = true := by
        obtain ⟨cd, hc, _⟩ := PySem.W.any_some C.hd
        rw [hc]; rfl
      obtain ⟨oe, od, mA, J, _⟩ := instR I ha hd
      exact PySem.W.kia_one (kit_exc C (PySem.W.findObj_data hcl C.ha C.hn C.ht)) I.kIn J e (fun z => nomatch z) fun tk => ⟨.bl b, H, I.kept (t' := tk) fun _ _ z => z, rfl, q⟩
/-- e.f of such an exception -/
def tRFld (K : PySem.W.Frag) (fld : Str) (te : TE) : TE := fun σ H Q => te σ H fun x H1 => ∃ (a C d : Addr) (fs : List (Str × V)) (v : V), x = .ref a ∧ XGet K C fld ∧ H1 a = some (ExR (.ref C) (some d) a) ∧ H1 d = some (.xd fs) ∧ fs.lookup fld = some v ∧ Q v H1
theorem pe_rfld {X : Cx} {e : Expr} {te : TE} {fld : Str} {pos : Pos} (he : PE X e te) (hb : attributeBase e fld X.env (eval e X.env) = eval e X.env := by rfl) : PE X (.Attribute e fld pos) (tRFld X.K fld te) := by
  refine ⟨fun pins s σ H Q I h => ?_⟩
  refine attr_of hb (thn (he.run pins s σ H _ I h) fun u s1 ⟨x, H1, I1, rx, a, C, d, fs, v, ex, T, ha, hd, hl, q⟩ => ?_)
  subst ex
  obtain rfl : u = Value.ref a := rx
  obtain ⟨oe, od, mA, J, hdd, rel, hns, hod⟩ := instR I1 ha hd
  obtain ⟨od', e1, l⟩ := lookIn_ns hns
  rw [hod] at e1
  cases e1
  have rl := rel fld
  rw [hl] at rl
  cases hm : mA fld with
  | none => rw [hm] at rl; exact rl.elim
  | some y =>
    rw [hm] at rl
    exact HandSPX.exc_get I1.kIn J T.ex.hg T.ex.hk T.ex.hs (PySem.W.findObj_own T.ex.hd T.no rfl (by rw [l, hm])) (handed_of rl) ⟨v, H1, I1.tok _, rl, q⟩
end K03


set_option Elab.async false
set_option maxRecDepth 100000
set_option maxHeartbeats 2000000
set_option linter.all false
namespace K03
open PySem PySem.Spec PyProof.Rows L2 LamX
/-! function values that are handed along and called later -/
/-- from (s0, H0) on: what stood there untracked stands still; the frames that came in between are new -/
structure From (fs0 : List Addr) (s0 : Shared) (H0 : Hp) (fs : List Addr) (s : Shared) (H : Hp) : Prop where
  un : Un fs0 [] H0 H s0.heap s.heap
  nw : ∀ L ∈ fs, L ∈ fs0 ∨ s0.heap.get? L = none
theorem From.refl (fs0 : List Addr) (s0 : Shared) (H0 : Hp) : From fs0 s0 H0 fs0 s0 H0 :=
  ⟨⟨fun _ _ e _ _ _ => e, fun _ o e _ _ _ => ⟨o.slots, e⟩, fun _ _ _ n _ => n, fun _ o e _ => ⟨o, e⟩, fun _ _ e => e, fun _ _ _ e => e, fun _ ps e => ⟨#[], by rw [e]; simp⟩⟩, fun _ m => .inl m⟩
/-- what is asked of the state at which such a value is called -/
def Acts (P : Program) (w : World) (K : PySem.W.Frag) (mg : Str → Option Value) (base : Heap) (fs0 : List Addr) (s0 : Shared) (H0 : Hp) (k : Nat) (f : Addr) (pre : Hp → Prop) (tl : XK → Hp → VK → Prop) : Prop :=
  ∀ (A : Around) (outer : List Env) (s : Shared) (H : Hp) (Q : VK) (E : XK), Room k A → Env0 P w K mg base A outer s H → From fs0 s0 H0 (frs outer) s H → pre H → tl E H Q →
    codeAny (model P w) A (.call (.ref f) ⟨[], []⟩) (CR (L2.CX P w) outer P w H s Q E) s
/-- the value itself -/
structure FunV (fs0 : List Addr) (s0 : Shared) (H0 : Hp) (f : Addr) : Prop where
  ob : PySem.W.FnAt f s0.heap
  nt : H0 f = none
  nf : f ∉ fs0
/-- a def that takes such a value and calls it -/
def TakesV (P : Program) (w : World) (K : PySem.W.Frag) (mg : Str → Option Value) (base : Heap) (j : Nat) (g : Addr) (TT : (XK → Hp → VK → Prop) → Hp → VK → Prop) : Prop :=
  ∀ (kl : Nat) (fs0 : List Addr) (s0 : Shared) (H0 : Hp) (f : Addr) (pre : Hp → Prop) (tl : XK → Hp → VK → Prop) (A : Around) (outer : List Env) (s : Shared) (H : Hp) (Q : VK), Room (kl + j) A → Env0 P w K mg base A outer s H → From fs0 s0 H0 (frs outer) s H →
    FunV fs0 s0 H0 f → Acts P w K mg base fs0 s0 H0 kl f pre tl → pre H → TT tl H Q → codeAny (model P w) A (.call (.ref g) ⟨[.ref f], []⟩) (CR L2.CX0 outer P w H s Q (fun _ _ _ => False)) s
section
variable {Z : Cx} {pins : List (Addr × Obj)} {σ : L2.St} {H : Hp} {s : Shared} {fs0 : List Addr} {s0 : Shared} {H0 : Hp}
theorem From.step (F : From fs0 s0 H0 Z.fs Z.s_0 Z.H_0) (hex : Z.ex = []) (I : Inv Z pins σ H s) : From fs0 s0 H0 (frs Z.stack) s H := by
  have nfs : ∀ b o, s0.heap.get? b = some o → b ∉ fs0 → b ∉ Z.fs := fun b o e hb m => by
    rcases F.nw b m with z | z
    · exact hb z
    · rw [e] at z; cases z
  have nx : ∀ b : Addr, b ∉ Z.ex := fun b => by rw [hex]; simp
  refine ⟨⟨fun b o e n hb hx => ?_, fun b o e n hb hx => ?_, fun b o e n hx => ?_, fun b o e hx => ?_, fun b xs e => I.base.tups b xs (F.un.tups b xs e), fun b o u e => I.base.frzs b o u (F.un.frzs b o u e), fun b ps e => ?_⟩, fun L m => ?_⟩
  · exact I.base.keep b o (F.un.keep b o e n hb hx) (F.un.free b o e n hx) (nfs b o e hb) (nx b)
  · obtain ⟨sl, e1⟩ := F.un.any e n hx
    obtain ⟨sl2, e2⟩ := I.base.any e1 (F.un.free b o e n hx) (nx b)
    exact ⟨sl2, e2⟩
  · obtain ⟨o', e1⟩ := F.un.there b o e hx
    exact I.base.free b o' e1 (F.un.free b o e n hx) (nx b)
  · obtain ⟨o', e1⟩ := F.un.there b o e hx
    exact I.base.there b o' e1 (nx b)
  · obtain ⟨m1, e1⟩ := F.un.tbls b ps e
    obtain ⟨m2, e2⟩ := I.base.tbls b _ e1
    exact ⟨m1 ++ m2, by rw [e2]; simp⟩
  · have m' := I.stkSub L m
    rcases List.mem_cons.mp m' with z | z
    · right
      cases q : s0.heap.get? L with
      | none => rfl
      | some o =>
        obtain ⟨o', e1⟩ := F.un.there L o q (by simp)
        have h1 := Heap.lt_size e1
        have h2 := I.ok.above
        rw [z] at h1
        exact absurd (Nat.lt_of_lt_of_le h1 h2) (Nat.lt_irrefl _)
    · exact F.nw L z
theorem FunV.at (V : FunV fs0 s0 H0 f) {fs : List Addr} {s : Shared} {H : Hp} (F : From fs0 s0 H0 fs s H) : PySem.W.FnAt f s.heap := by
  obtain ⟨cls, d, fd, sl, e⟩ := V.ob
  exact ⟨cls, d, fd, sl, F.un.keep f _ e V.nt V.nf (by simp)⟩
end
section
variable {Z : Cx} {fs0 : List Addr} {s0 : Shared} {H0 : Hp} {k : Nat} {f : Addr} {pre : Hp → Prop} {tl : XK → Hp → VK → Prop}
/-- a(), a holding such a value -/
theorem pe_actV {W : WX} {i : Nat} {a : Str} {p1 p2 : Pos} (F : From fs0 s0 H0 Z.fs Z.s_0 Z.H_0) (hex : Z.ex = []) (V : FunV fs0 s0 H0 f) (AC : Acts Z.prog Z.w Z.K Z.mg Z.base fs0 s0 H0 k f pre tl) (tk : Takes Z W) (hr : Room k Z.A)
    (hN : Z.N[i]? = some a) (hv : Vis Z.env.scope a) (hd : (a == ("__debug__" : Str)) = false := by decide) (hcd : (a == ("__classdict__" : Str)) = false := by decide) :
    PE Z (.Call (.Name a p1) [] [] p2) (fun σZ HZ Q => ∃ (E : XK) (Q0 : VK), (∀ cls d H', E cls d H' → W cls d σZ H') ∧ (∀ v H', Q0 v H' → Q v H') ∧ σZ[i]? = some (some (.ref f)) ∧ pre HZ ∧ tl E HZ Q0) := by
  refine ⟨fun pinsZ sZ σZ HZ Q IZ h => ?_⟩
  obtain ⟨E, Q0, hW, hQ, hs, hc, ht⟩ := h
  refine wpAny_Call_Name_kw (thn ((pe_var (pos := p1) (i := i) hN hv hd hcd).run pinsZ sZ σZ HZ (fun v H1 => v = .ref f ∧ H1 = HZ) IZ ⟨.ref f, hs, rfl, rfl⟩) fun u s1 ⟨v, H1, I1, r1, q1⟩ => ?_)
  obtain ⟨ev, eH⟩ := q1
  subst ev
  rw [eH] at I1
  obtain rfl : u = Value.ref f := r1
  have F1 := F.step hex I1
  refine PySem.W.callWith_F0 (V.at F1) ?_
  refine wpAny_call (codeAny_mono (AC Z.A Z.stack s1 HZ Q0 E hr I1.env0 F1 hc ht) fun r s' hq => ?_)
  cases r with
  | error e => exact tk e s' (XE.of_call I1 hW hq)
  | ok fl =>
    cases fl with
    | ret u => exact (let ⟨v, H', J, rv, q⟩ := I1.after hq; ⟨v, H', J, rv, hQ _ _ q⟩)
    | next => exact False.elim hq
    | brk => exact False.elim hq
    | cont => exact False.elim hq
/-- x(a), a holding such a value, x a def that takes it -/
theorem pe_passV {j i : Nat} {g : Addr} {TT : (XK → Hp → VK → Prop) → Hp → VK → Prop} {x a : Str} {p pa pos : Pos} (F : From fs0 s0 H0 Z.fs Z.s_0 Z.H_0) (hex : Z.ex = []) (V : FunV fs0 s0 H0 f) (AC : Acts Z.prog Z.w Z.K Z.mg Z.base fs0 s0 H0 k f pre tl) (hG : TakesV Z.prog Z.w Z.K Z.mg Z.base j g TT) (hr : Room (k + j) Z.A)
    (hg : Gl Z x) (hm : Z.mg x = some (.ref g)) (hk : PySem.W.keepIn Z.K (.ref g) = true) (hN : Z.N[i]? = some a) (hv : Vis Z.env.scope a) (hdb : (x == ("__debug__" : Str)) = false := by decide) (hd : (a == ("__debug__" : Str)) = false := by decide) (hcd : (a == ("__classdict__" : Str)) = false := by decide) :
    PE Z (.Call (.Name x p) [.Name a pa] [] pos) (fun σZ HZ Q => ∃ Q0 : VK, (∀ v H', Q0 v H' → Q v H') ∧ σZ[i]? = some (some (.ref f)) ∧ pre HZ ∧ TT tl HZ Q0) := by
  refine ⟨fun pinsZ sZ σZ HZ Q IZ h => ?_⟩
  obtain ⟨Q0, hQ, hs, hc, ht⟩ := h
  refine wpAny_Call_Name_kw (ld_glob IZ hg hm ?_ hdb)
  refine PySem.W.callWith_K (h₀ := Z.base) IZ.ok.mod.kin hk ?_ (by rfl) (by rfl)
  show wpAny _ _ (spliced ((false, eval (.Name a pa) Z.env) :: backTo pos (starEach [] Z.env))) _ _ sZ
  refine Calls.spliced_cons (thn ((pe_var (pos := pa) (i := i) hN hv hd hcd).run pinsZ sZ σZ HZ (fun v H1 => v = .ref f ∧ H1 = HZ) IZ ⟨.ref f, hs, rfl, rfl⟩) fun u s1 ⟨v, H1, I1, r1, q1⟩ => ?_)
  obtain ⟨ev, eH⟩ := q1
  subst ev
  rw [eH] at I1
  obtain rfl : u = Value.ref f := r1
  refine Calls.spliced_nil ⟨I1.kIn, ?_⟩
  refine wpAny_call (codeAny_mono (hG k fs0 s0 H0 f pre tl Z.A Z.stack s1 HZ Q0 hr I1.env0 (F.step hex I1) V AC hc ht) fun r s' hq => ?_)
  cases r with
  | error e => exact (show False from hq).elim
  | ok fl =>
    cases fl with
    | ret u => exact (let ⟨v, H', J, rv, q⟩ := I1.after hq; ⟨v, H', J, rv, hQ _ _ q⟩)
    | next => exact False.elim hq
    | brk => exact False.elim hq
    | cont => exact False.elim hq
end
/-! a lambda handed to such a def -/
def tLamV (T : List (Addr × Str)) (q : Str) (TT : (XK → Hp → VK → Prop) → Hp → VK → Prop) (t : XK → TE) : TE := fun σ H Q => Tabs T H ∧ ∀ H1, ExtN H H1 → Tabs T H1 → TT (fun E H' Q' => t E σ H' Q') H1 Q
section
variable {X : Cx} {pins : List (Addr × Obj)} {σ : L2.St} {H : Hp} {s : Shared}
theorem lam_acts {f c' : Addr} {pm ctv : Value} {params : Arguments} {body : Expr} {scope : Scope} {k : Nat} {t : XK → TE} (I : Inv X pins σ H s) (L : LamS X.env.scope scope) (hf : s.heap.get? f = some (PySem.W.kla_obj "<lambda>" (X.env.qual ++ "<lambda>") params body scope (cloFrom X.env.cells scope.names []) pm c' ctv)) (hfn : H f = none) (hfr : f ∉ frs X.stack)
    (hbind : bindArgs (PySem.W.kla_fn "<lambda>" (X.env.qual ++ "<lambda>") params body scope (cloFrom X.env.cells scope.names []) pm (.ref c') ctv) ⟨[], []⟩ = pure [])
    (hbody : ∀ (A : Around) (outer : List Env) (s : Shared) (H : Hp) (E : XK), Room k (A.deeper (lamEnv X scope s.heap.objs.size f c')) → PE (lamCx X A outer s H E scope f c') body (t E)) :
    FunV (frs X.stack) s H f ∧ Acts X.prog X.w X.K X.mg X.base (frs X.stack) s H (k + 1) f (fun HZ => HZ c' = some (CodeO c' (X.env.qual ++ "<lambda>"))) (fun E H' Q' => t E σ H' Q') := by
  refine ⟨⟨⟨_, _, _, _, hf⟩, hfn, hfr⟩, fun A outer s1 HZ Q E hr e0 FR hc ht => ?_⟩
  have of1 := FR.un.keep f _ hf hfn hfr (by simp)
  obtain ⟨⟨oc, vs, t', hoc, hdc, hvc⟩, _, _⟩ := e0.hok c' _ hc
  have lim : s1.heap.NoLimit := e0.mod.nolimit.keeps fun b o e => (e0.bs b o e).1
  refine PySem.W.kla_callFunE hr.depth of1 rfl L.co L.gen rfl ⟨c', oc, vs, t', rfl, hoc, hdc, hvc⟩ ?_
  rw [hbind]
  refine wpAny_pure (wpAny_newFunctionEnv (fun y hy => (L.own y hy).2) (fun y hy => absurd hy (by simp)) (fun h₁ hns hsb => ⟨lim.fresh _ hsb, ?_⟩) L.kind)
  show codeAny _ _ (.expr body (lamEnv X scope s1.heap.objs.size f c')) _ _
  have kp : ∀ b o, s1.heap.get? b = some o → h₁.get? b = some o := fun b o e => hsb.extBut b o (Nat.ne_of_lt (Heap.lt_size e)) (Heap.get?_push_of_some _ e)
  have J : Inv (lamCx X A outer s1 HZ E scope f c') [] σ HZ { s1 with heap := h₁, toks := s1.toks + ([] : List (Str × Value)).length } :=
    lam_start2 I L e0 hr.hd FR.un hns kp
  refine PySem.W.kla_codeExpr (wpAny_mono ((hbody _ _ s1 HZ E (hr.deeper _)).run [] _ _ HZ Q J ht) (fun v s' hq => ?_) fun e s' hq => hq)
  obtain ⟨w', H', J', rv, q⟩ := hq
  exact ⟨w', H', J'.os, J'.bare, J'.base, J'.hok, rv, q⟩
theorem pe_lamV {T : List (Addr × Str)} {TT : (XK → Hp → VK → Prop) → Hp → VK → Prop} {x : Str} {g c P : Addr} {j k : Nat} {params : Arguments} {body : Expr} {scope : Scope} {t : XK → TE} {p lpos pos : Pos} (hg : Gl X x) (hm : X.mg x = some (.ref g)) (hk : PySem.W.keepIn X.K (.ref g) = true)
    (hG : TakesV X.prog X.w X.K X.mg X.base j g TT) (TB : TabB X.base X.mg c P) (hcode : X.env.code = .ref c) (hmT : (P, X.env.qual ++ "<lambda>") ∈ T) (hu : ∀ p ∈ T, p.1 = P → p.2 = X.env.qual ++ "<lambda>") (hr : Room (k + 1 + j) X.A) (L : LamS X.env.scope scope) (hdef : defaultsOf params X.env = ([], []))
    (hbind : ∀ (q : Str) (cl : List (Str × Addr)) (pm cv ctv : Value), bindArgs (PySem.W.kla_fn "<lambda>" q params body scope cl pm cv ctv) ⟨[], []⟩ = pure [])
    (hbody : ∀ (A : Around) (outer : List Env) (s : Shared) (H : Hp) (E : XK) (f c' : Addr), Room k (A.deeper (lamEnv X scope s.heap.objs.size f c')) → PE (lamCx X A outer s H E scope f c') body (t E))
    (hdb : (x == ("__debug__" : Str)) = false := by decide) :
    PE X (.Call (.Name x p) [.Lambda params body scope lpos] [] pos) (tLamV T (X.env.qual ++ "<lambda>") TT t) := by
  refine ⟨fun pins s σ H Q I h => ?_⟩
  obtain ⟨hT, h⟩ := h
  refine wpAny_Call_Name_kw (ld_glob I hg hm ?_ hdb)
  refine PySem.W.callWith_K (h₀ := X.base) I.ok.mod.kin hk ?_ (by rfl) (by rfl)
  show wpAny _ _ (spliced ((false, eval (.Lambda params body scope lpos) X.env) :: backTo pos (starEach [] X.env))) _ _ s
  refine Calls.spliced_cons (lam_make2 I TB hcode hmT hu hT hdef (L.has I.ok) fun f c' pm' ctv H1 s' I1 eN T1 hf hfn hfr hco => ?_)
  refine Calls.spliced_nil ⟨I1.kIn, ?_⟩
  obtain ⟨V, AC⟩ := lam_acts I1 L hf hfn hfr (hbind _ _ _ _ _) fun A outer s H E hr2 => hbody A outer s H E f c' hr2
  refine wpAny_call (codeAny_mono (hG (k + 1) _ s' H1 f _ _ X.A X.stack s' H1 Q hr I1.env0 (From.refl _ _ _) V AC hco (h H1 eN T1)) fun r s2 hq => ?_)
  cases r with
  | error e => exact (show False from hq).elim
  | ok fl =>
    cases fl with
    | ret u => exact I1.after hq
    | next => exact False.elim hq
    | brk => exact False.elim hq
    | cont => exact False.elim hq
end
end K03


set_option Elab.async false
set_option maxRecDepth 100000
set_option maxHeartbeats 2000000
set_option linter.all false
namespace K03
open PySem PySem.Spec PyProof.Rows L2 LamX
abbrev sCaught : Stmt := top 43
theorem scCaught : FnScope ["work", "caught", "error"] ["work"] (defScope sCaught) := ⟨rfl, rfl, rfl, by decide +kernel, rfl, by decide +kernel, by decide +kernel⟩
/-- what is caught is given back -/
def TTc (K : PySem.W.Frag) (CW : Addr) : (XK → Hp → VK → Prop) → Hp → VK → Prop := fun tl H Q =>
  ∃ (E0 : XK) (Q0 : VK), tl E0 H Q0 ∧ (∀ cls d H', E0 cls d H' → PySem.W.exmOne K cls (.ref CW) = some true ∧ ∀ a, H' a = none → Q (.ref a) (upd H' a (ExR cls d a))) ∧ ∀ v H', Q0 v H' → Q .non H'
section
variable {P : Program} {w : World} {K : PySem.W.Frag} {mg : Str → Option Value} {base : Heap}
theorem caught_takes {g CW : Addr} {fd : FuncData} (F : Fun K "_law_caught" "_law_caught" sCaught g fd) (b : L2.Binds K fd ["work"] []) (gW : mg "WebError" = some (.ref CW)) : TakesV P w K mg base 1 g (TTc K CW) := by
  intro kl fs0 s0 H0 f pre tl A outer s H Q hr e0 FR Vf AC hp ht
  obtain ⟨oc, od, kV, doc, pm, an, cdv, ct, osl, rfl, lk, hcd⟩ := F.ex
  have KX : K.In s.heap := e0.mod.kin.keeps fun b o e => (e0.bs b o e).1
  refine run_ofS (N := ["work", "caught", "error"]) (ps := ["work"]) (us := [.ref f]) (vs := [.ref f]) lk hcd scCaught hr e0 (b s [.ref f] KX rfl) (.cons rfl .nil) rfl fun hr' => ?_
  have nd := scCaught.nd
  have key : ∃ t, PSs (cxOf L2.CX0 P w K mg base ["work", "caught", "error"] "_law_caught" (defScope sCaught) g cdv A outer s H (fun _ _ _ => False)).nox (defBody sCaught) t ∧ t { nx := fun _ H' => Q .non H', rt := Q } (L2.start ["work", "caught", "error"] [.ref f]) H := by
    refine ⟨_, pss_cons (ps_set (i := 1) nd rfl (Or.inl rfl) pe_non) (pss_cons (ps_try_keep (X := (cxOf L2.CX0 P w K mg base ["work", "caught", "error"] "_law_caught" (defScope sCaught) g cdv A outer s H (fun _ _ _ => False)).nox) (c := .ref CW) (i := 2)
        (tb := fun W D σ H => ∃ (Ech : XK) (Q0 : VK), (∀ cls d H', Ech cls d H' → W cls d σ H') ∧ (∀ (v : V) H', Q0 v H' → D.nx σ H') ∧ σ[0]? = some (some (.ref f)) ∧ pre H ∧ tl Ech H Q0)
        rfl rfl rfl nd rfl rfl ⟨rfl, by decide, .inl gW⟩ LamX.takes0 (fun W pn xe tk _ => ?_) (fun a oe cls d pn _ _ => pss_one (ps_set (i := 1) nd rfl (Or.inl rfl) (pv 2))))
      (pss_one (ps_ret (pv 1)))), ?_⟩
    · exact pss_one (ps_expr (pe_actV (i := 0) (a := "work") FR rfl Vf AC tk hr' rfl (.inl rfl)))
    · obtain ⟨E0, Q0, ht, hE, hQ⟩ := ht
      refine ⟨E0, Q0, fun cls d H' q => ?_, fun v H' q => ⟨_, rfl, hQ v H' q⟩, rfl, hp, ht⟩
      obtain ⟨e1, e2⟩ := hE cls d H' q
      exact ⟨true, e1, fun _ a na => ⟨_, rfl, fun _ => ⟨_, rfl, e2 a na⟩⟩, fun z => by cases z⟩
  obtain ⟨t, h1, h2⟩ := key
  exact ⟨t, h1.nox, h2⟩
theorem cr_either {X : Cx} {f : Value} {r r' : List L2.V → Hp → VK → Prop} (h : CallR X f r) (h' : CallR X f r') : CallR X f (fun xs H Q => r xs H Q ∨ r' xs H Q) :=
  fun pins s σ H xs us Q I rv q => q.elim (h pins s σ H xs us Q I rv) (h' pins s σ H xs us Q I rv)
/-- what the text says of BadNet -/
structure BadN (K : PySem.W.Frag) (CB CW : Addr) : Prop where
  get : XGet K CB "part"
  exm : PySem.W.exmOne K (.ref CB) (.ref CW) = some true
  one : PySem.W.kitOne K (.ref CB) (.ref CB) = some true
  non : PySem.W.kitOne K (.type "NoneType") (.ref CB) = some false
end
end K03


set_option Elab.async false
set_option maxRecDepth 100000
set_option maxHeartbeats 4000000
set_option linter.all false
namespace K03
open PySem PySem.Spec PyProof.Rows L2 NetM
abbrev sNetInit : Stmt := inClass (top 15) 0
abbrev sNetEq : Stmt := inClass (top 15) 1
theorem scNetInit : FnScope ["self", "places", "arrows", "arrow"] ["self", "places", "arrows"] (defScope sNetInit) := ⟨rfl, rfl, rfl, by decide +kernel, rfl, by decide +kernel, by decide +kernel⟩
/-- the way out: a BadNet of this part -/
def Rz (CB : Addr) (H : Hp) (E : XK) (v : L2.V) : Prop := ∀ (d : Addr) (H' : Hp), H d = none → Same H H' → H' d = some (.xd [("part", v)]) → E (.ref CB) (some d) H'
def Good (zs : Zs) (n : Nat) : Prop := (rounds (nums zs) n [0]).length = n ∧ (ordr (nums zs) n n []).length = n
def PrT (K : PySem.W.Frag) (H : Hp) (zs : Zs) : Prop := ∀ z ∈ zs, SqT K H z.1 [.int z.2.1, .int z.2.2]
theorem PrT.same {K : PySem.W.Frag} {H H' : Hp} {zs : Zs} (s : Same H H') (p : PrT K H zs) : PrT K H' zs := fun z m => sqt_same s (p z m)
/-- a Net of these places and arrows -/
def NetAt (K : PySem.W.Frag) (CN : Addr) (H : Hp) (x : Addr) (n : Nat) (zs : List (Int × Int)) : Prop :=
  ∃ (dx t : Addr) (ws : Zs), H x = some (.ins CN dx [("places", .int n), ("arrows", .ref t)]) ∧ H t = some (.tup (rf ws)) ∧ PrT K H ws ∧ nums ws = zs
theorem NetAt.same {K : PySem.W.Frag} {CN : Addr} {H H' : Hp} {x : Addr} {n : Nat} {zs : List (Int × Int)} (s : Same H H') (h : NetAt K CN H x n zs) : NetAt K CN H' x n zs := by
  obtain ⟨dx, t, ws, a, b, c, d⟩ := h
  exact ⟨dx, t, ws, s _ _ a, s _ _ b, c.same s, d⟩
def BadPl (K : PySem.W.Frag) (H : Hp) (x : L2.V) : Prop := ∃ (t : Value) (b c : Bool), TyX K H x t ∧ PySem.W.kitOne K t (.type "int") = some b ∧ PySem.W.kitOne K t (.type "bool") = some c ∧ ((b && !c) = false ∨ ((b && !c) = true ∧ ∃ i : Int, x = .int i ∧ ¬ (1 ≤ i ∧ i ≤ 8)))
/-- what is handed in as arrows, and what becomes of it -/
inductive ArV (K : PySem.W.Frag) (H : Hp) (n : Nat) : L2.V → Option Zs → Prop
  | no {x : L2.V} {t : Value} (h : TyX K H x t) (z : PySem.W.kitAny K t [.type "list", .type "tuple"] = some false) : ArV K H n x none
  | bad {a : Addr} {xs : List L2.V} {bs : List Bool} (h : SqA K H a xs) (ha : ArL K H n xs bs) (hl : xs.length < 1000) (z : (decide (xs.length ≤ 12) && bs.all id) = false) : ArV K H n (.ref a) none
  | ok {a : Addr} {zs : Zs} (h : SqA K H a (rf zs)) (hp : PrA K H zs) (hl : zs.length ≤ 12) (hE : ∀ t h, (t, h) ∈ nums zs → InR n t ∧ InR n h ∧ t ≠ h) : ArV K H n (.ref a) (some zs)
def spNetInit (K : PySem.W.Frag) (CN CB : Addr) : Sp := fun vs H Q E => ∃ (x dx : Addr) (pl ar : L2.V), vs = [.ref x, pl, ar] ∧ H x = some (.ins CN dx []) ∧
  ((BadPl K H pl ∧ Rz CB H E (.str "places")) ∨ ∃ (n : Nat) (o : Option Zs), pl = .int n ∧ 0 < n ∧ n ≤ 8 ∧ ArV K H n ar o ∧ ((∀ zs, o = some zs → ¬ Good zs n) → Rz CB H E (.str "arrows")) ∧
    (∀ zs, o = some zs → Good zs n → ∀ H', NetAt K CN H' x n (nums zs) → (∀ b o, H b = some o → b ≠ x → H' b = some o) → Q .non H'))
/-- what the text says of BadNet's making -/
structure BadM (P : Program) (w : World) (K : PySem.W.Frag) (mg : Str → Option Value) (base : Heap) (CB fB : Addr) (fdB : FuncData) : Prop where
  oex : OexC K CB
  ini : PySem.W.findIn K (.ref CB) "__init__" = some (some (.ref fB))
  tyI : PySem.W.typeIn K (.ref fB) = some (.type "function")
  ok : FnOk P w K mg base CX0 2 fB fdB ["self", "part"] (spInitX CB "part")
  bd : L2.Binds K fdB ["self", "part"] []
  g : mg "BadNet" = some (.ref CB)
theorem mko_of {C : Addr} {fld : Str} {σ : L2.St} {H : Hp} {E : XK} {ta : TA} {v : L2.V} (ht : ∀ Q, Q [v] H → ta σ H Q) (k : ∀ (d : Addr) (H' : Hp), H d = none → Same H H' → H' d = some (.xd [(fld, v)]) → E (.ref C) (some d) H') : tMkO C (spInitX C fld) [] ta σ H E := by
  refine ht _ ⟨by show 1 ≤ 1000; decide, fun a na => ⟨a, v, rfl, upd_same, fun d hd hda => ⟨rfl, d, [(fld, v)], upd_same, ?_, ?_, ?_⟩⟩⟩
  · rw [upd_ne hda, upd_same]
  · rw [upd_ne hda] at hd; exact hd
  · have nd : H d = none := by rw [upd_ne hda] at hd; exact hd
    refine k d _ nd (fun b o e => ?_) upd_same
    have ha : b ≠ a := ne_of_none e na
    have hb : b ≠ d := ne_of_none e nd
    rw [upd_ne hb, del_ne ha, upd_ne ha, upd_ne hb, upd_ne ha]
    exact e
/-- good pairs, as _are_arrows sees them -/
theorem arl_of {K : PySem.W.Frag} {H : Hp} {n : Nat} : ∀ {zs : Zs}, PrA K H zs → (∀ t h, (t, h) ∈ nums zs → InR n t ∧ InR n h ∧ t ≠ h) → ArL K H n (rf zs) (zs.map fun _ => true)
  | [], _, _ => .nil
  | z :: zs, hp, hE => by
    obtain ⟨a, t, h⟩ := z
    obtain ⟨⟨t0, t1⟩, ⟨h0, h1⟩, ne⟩ := hE t h (List.mem_cons_self ..)
    refine .cons ?_ (arl_of (fun z m => hp z (List.mem_cons_of_mem _ m)) fun t h m => hE t h (List.mem_cons_of_mem _ m))
    have h2 : SqA K H a [.int t, .int h] := hp _ (List.mem_cons_self ..)
    have := ArJ.two (K := K) (H := H) (n := n) h2 (EndJ.ok (i := t) ⟨t0, by omega⟩) (EndJ.ok (i := h) ⟨h0, by omega⟩)
    have e : twoOk (some t) (some h) = true := by
      show (!decide (V.int t = V.int h)) = true
      rw [decide_eq_false (fun z => ne (V.int.inj z))]
      rfl
    rw [e] at this
    exact this
end K03


set_option Elab.async false
set_option maxRecDepth 100000
set_option maxHeartbeats 4000000
set_option linter.all false
namespace K03
open PySem PySem.Spec PyProof.Rows L2 NetM
/-- all but the instances stay -/
def Sm (H H' : Hp) : Prop := ∀ b o, H b = some o → (∀ C dx fs, o ≠ .ins C dx fs) → H' b = some o
theorem Sm.of {H H' : Hp} (s : Same H H') : Sm H H' := fun b o e _ => s b o e
theorem Sm.put {H : Hp} {x C dx : Addr} {fs : List (Str × L2.V)} {o : HO} (h : H x = some (.ins C dx fs)) : Sm H (upd H x o) := fun b u e n => by
  have hb : b ≠ x := fun z => by
    rw [z, h] at e
    exact n _ _ _ (Option.some.inj e).symm
  rw [upd_ne hb]
  exact e
theorem Sm.trans {H H1 H2 : Hp} (a : Sm H H1) (b : Sm H1 H2) : Sm H H2 := fun c o e n => b c o (a c o e n) n
theorem Sm.sqt {K : PySem.W.Frag} {H H' : Hp} (s : Sm H H') {a : Addr} {xs : List L2.V} (h : SqT K H a xs) : SqT K H' a xs := by
  rcases h with (h | ⟨o, h⟩) | h
  · exact .inl (.inl (s _ _ h (fun _ _ _ z => by cases z)))
  · exact .inl (.inr ⟨o, s _ _ h (fun _ _ _ z => by cases z)⟩)
  · exact .inr h
theorem Sm.sql {K : PySem.W.Frag} {H H' : Hp} (s : Sm H H') {a : Addr} {xs : List L2.V} (h : SqL K H a xs) : SqL K H' a xs := by
  rcases h with (h | ⟨o, h⟩) | h
  · exact .inl (.inl (s _ _ h (fun _ _ _ z => by cases z)))
  · exact .inl (.inr ⟨o, s _ _ h (fun _ _ _ z => by cases z)⟩)
  · exact .inr h
theorem Sm.sqa {K : PySem.W.Frag} {H H' : Hp} (s : Sm H H') {a : Addr} {xs : List L2.V} (h : SqA K H a xs) : SqA K H' a xs := by
  rcases h with h | h
  · exact .inl (s.sql h)
  · exact .inr (s.sqt h)
theorem PrT.put {K : PySem.W.Frag} {H : Hp} {zs : Zs} {l : Addr} {xs : List L2.V} {o : HO} (p : PrT K H zs) (h : H l = some (.lst xs)) : PrT K (upd H l o) zs := fun z m => by
  rcases p z m with (q | ⟨o', q⟩) | q
  · exact .inl (.inl (by rw [upd_ne (fun e => by rw [e, h] at q; cases q)]; exact q))
  · exact .inl (.inr ⟨o', by rw [upd_ne (fun e => by rw [e, h] at q; cases q)]; exact q⟩)
  · exact .inr q
theorem PrT.app {K : PySem.W.Frag} {H : Hp} {zs : Zs} {t : Addr} {a b : Int} (p : PrT K H zs) (h : SqT K H t [.int a, .int b]) : PrT K H (zs ++ [(t, a, b)]) := fun z m => by
  rcases List.mem_append.mp m with m | m
  · exact p z m
  · rw [List.mem_singleton] at m
    subst m
    exact h
/-- the program's own small defs -/
structure Small (P : Program) (w : World) (K : PySem.W.Frag) (mg : Str → Option Value) (base : Heap) where
  fN : Addr
  fL : Addr
  fT : Addr
  fA : Addr
  fH : Addr
  fO : Addr
  dN : FuncData
  dA : FuncData
  dH : FuncData
  dO : FuncData
  tk : Nat
  okN : FnOk P w K mg base CX0 1 fN dN ["thing"] (spIsNum K)
  okA : FnOk P w K mg base CX0 3 fA dA ["places", "thing"] (spAre K)
  okH : FnOk P w K mg base CX0 1 fH dH ["places", "arrows"] (spHangs K)
  okO : FnOk P w K mg base CX0 1 fO dO ["places", "arrows"] (spBehind K)
  bN : L2.Binds K dN ["thing"] []
  bA : L2.Binds K dA ["places", "thing"] []
  bH : L2.Binds K dH ["places", "arrows"] []
  bO : L2.Binds K dO ["places", "arrows"] []
  gN : mg "is_number" = some (.ref fN)
  gA : mg "_are_arrows" = some (.ref fA)
  gH : mg "_hangs_together" = some (.ref fH)
  gO : mg "places_behind" = some (.ref fO)
  kN : PySem.W.keepIn K (.ref fN) = true
  kA : PySem.W.keepIn K (.ref fA) = true
  kH : PySem.W.keepIn K (.ref fH) = true
  kO : PySem.W.keepIn K (.ref fO) = true
  gMP : mg "MOST_PLACES" = some (.int 8 tk)
  mLen : mg "len" = none
  mTup : mg "tuple" = none
/-- what the text says of the class Net -/
structure NetT (K : PySem.W.Frag) (mg : Str → Option Value) (CN : Addr) : Prop where
  cl : Cls K CN
  nP : NoAttr K CN "places"
  nA : NoAttr K CN "arrows"
  g : mg "Net" = some (.ref CN)
theorem Rz.same {CB : Addr} {H H' : Hp} {E : XK} {v : L2.V} (s : Same H H') (h : Rz CB H E v) : Rz CB H' E v := fun d H2 nd s2 e => h d H2 (by
  cases q : H d with
  | none => rfl
  | some o => rw [s d o q] at nd; cases nd) (s.trans s2) e
theorem iteTb {c : Bool} {A B : Prop} (e : c = true) (h : A) : if c = true then A else B := by rw [if_pos e]; exact h
theorem iteFb {c : Bool} {A B : Prop} (e : c = false) (h : B) : if c = true then A else B := by rw [if_neg (by rw [e]; exact Bool.false_ne_true)]; exact h
section
variable {P : Program} {w : World} {K : PySem.W.Frag} {mg : Str → Option Value} {base : Heap}
theorem ok_netinit {f CN CB fB : Addr} {fd fdB : FuncData} (F : Fun K "__init__" "Net.__init__" sNetInit f fd) (BM : BadM P w K mg base CB fB fdB) (T : NetT K mg CN) (S : Small P w K mg base) : FnOk P w K mg base (L2.CX P w) 4 f fd ["self", "places", "arrows"] (spNetInit K CN CB) := by
  refine F.okX scNetInit (fun vs H Q E h => ?_) (fun cdv A outer s H vs Q E hr h => ?_)
  · obtain ⟨x, dx, pl, ar, rfl, _⟩ := h
    rfl
  · obtain ⟨x, dx, pl, ar, rfl, hx, h⟩ := h
    have nd := scNetInit.nd
    have r1 : Room 1 _ := hr.mono (by decide)
    refine ⟨_, pss_cons (ps_if (PW.pt (pw_or (pt_not (pt_val (pe_call S.okN r1 (by rfl) S.gN S.kN S.bN .nil pass0 (pa_cons (pv 1) pa_nil)))) (pw_or1 (pt_not (pt_chain op_le op_le pe_int (pv 1) (pe_glob (v := .int 8) (by rfl) S.gMP ⟨S.tk, rfl⟩))))))
        (pss_one (ps_raise rfl (takes_of rfl rfl rfl rfl) (pmk_oex BM.oex BM.ini BM.tyI BM.ok hr BM.bd .nil pass0 (by rfl) BM.g (pa_cons pe_str pa_nil)))) pss_nil)
      (pss_cons (ps_if (PW.pt (pw_or (pt_not (pt_val (pe_call S.okA hr (by rfl) S.gA S.kA S.bA .nil pass0 (pa_cons (pv 1) (pa_cons (pv 2) pa_nil))))) (pw_or1 (pt_not (pt_val (pe_call S.okH r1 (by rfl) S.gH S.kH S.bH .nil pass0 (pa_cons (pv 1) (pa_cons (pv 2) pa_nil))))))))
        (pss_one (ps_raise rfl (takes_of rfl rfl rfl rfl) (pmk_oex BM.oex BM.ini BM.tyI BM.ok hr BM.bd .nil pass0 (by rfl) BM.g (pa_cons pe_str pa_nil)))) pss_nil)
      (pss_cons (ps_if (pt_cmpR op_ne (pe_callB call_len_seq (by rfl) S.mLen PySem.boot_len (pa_cons (pe_call S.okO r1 (by rfl) S.gO S.kO S.bO .nil pass0 (pa_cons (pv 1) (pa_cons (pv 2) pa_nil))) pa_nil)) (pv 1) (nomark _))
        (pss_one (ps_raise rfl (takes_of rfl rfl rfl rfl) (pmk_oex BM.oex BM.ini BM.tyI BM.ok hr BM.bd .nil pass0 (by rfl) BM.g (pa_cons pe_str pa_nil)))) pss_nil)
      (pss_cons (ps_fld (pv 0) (pv 1) rfl)
      (pss_one (ps_fld (pv 0) (pe_callTy call_tuple_of (by rfl) S.mTup (by decide +kernel) (pa_cons
        (pe_lc (own := [("arrow", 3)]) (g := gName 3) (by rfl) nd (pi_either (pi_list (pv 2)) (pi_tup (pv 2))) (blkOk_by (N := ["self", "places", "arrows", "arrow"]) (sc := defScope sNetInit) (by decide +kernel)) (fun _ _ _ _ _ => pg_name (i := 3) nd rfl (Or.inl rfl)) (fun _ _ _ _ _ => pts_nil)
          (fun _ _ _ _ _ => pe_callTy (show CallR _ _ (fun xs H Q => ∃ p ys, xs = [.ref p] ∧ ((SqL K H p ys ∧ ∀ l, H l = none → Q (.ref l) (upd H l (.tup ys))) ∨ (SqT K H p ys ∧ Q (.ref p) H))) from call_tuple_of) (by rfl) S.mTup (by decide +kernel) (pa_cons (pv 3) pa_nil))) pa_nil)) rfl))))), ?_⟩
    rcases h with ⟨⟨t, b, c, ht, hb, hc, hbc⟩, hR⟩ | ⟨n, o, rfl, n0, n8, hA, hR, k⟩
    · refine ⟨_, rfl, pl, t, b, c, rfl, ht, hb, hc, ?_⟩
      rcases hbc with e | ⟨e, i, rfl, hi⟩
      · rw [e]
        refine ⟨_, rfl, ?_⟩
        refine iteT ?_
        refine iteT ?_
        exact mko_of (fun Q q => q) hR
      · rw [e]
        refine ⟨_, rfl, ?_⟩
        refine iteF ?_
        refine ⟨_, rfl, _, _, rfl, rfl, _, rfl, ite2 (fun c1 => ?_) (fun c1 => ?_)⟩
        · have h0 := of_decide_eq_true c1
          refine ⟨_, _, rfl, rfl, _, rfl, ?_⟩
          refine iteTb (by rw [decide_eq_false fun z => hi ⟨h0, z⟩]; rfl) ?_
          exact mko_of (fun Q q => q) hR
        · refine ⟨_, rfl, ?_⟩
          refine iteT ?_
          exact mko_of (fun Q q => q) hR
    · refine ⟨_, rfl, .int n, .type "int", true, false, rfl, .base (.int n), (num_int K).1, (num_int K).2, ?_⟩
      refine ⟨_, rfl, ?_⟩
      refine iteF ?_
      refine ⟨_, rfl, _, _, rfl, rfl, _, rfl, iteTb (decide_eq_true (by omega)) ?_⟩
      refine ⟨_, _, rfl, rfl, _, rfl, ?_⟩
      refine iteFb (by rw [decide_eq_true (by omega)]; rfl) ?_
      cases hA with
      | no ht hk =>
        refine ⟨_, rfl, _, rfl, n, _, rfl, .inl ⟨_, ht, hk, fun H1 s1 => ⟨_, rfl, ?_⟩⟩⟩
        refine iteT ?_
        refine iteT ?_
        exact mko_of (fun Q q => q) (Rz.same s1 (hR fun zs e => by cases e))
      | @bad a xs bs hS hb hl z =>
        refine ⟨_, rfl, _, rfl, n, _, rfl, .inr ⟨a, xs, bs, rfl, hS, hb, hl, fun H1 s1 => ⟨_, rfl, ?_⟩⟩⟩
        rw [z]
        refine iteT ?_
        refine iteT ?_
        exact mko_of (fun Q q => q) (Rz.same s1 (hR fun zs e => by cases e))
      | @ok a zs hS hp hl hE =>
        have hal : ((zs.map fun _ => true).all id) = true := by simp
        refine ⟨_, rfl, _, rfl, n, _, rfl, .inr ⟨a, rf zs, zs.map fun _ => true, rfl, hS, arl_of hp hE, by unfold rf; rw [List.length_map]; omega, fun H1 s1 => ⟨_, rfl, ?_⟩⟩⟩
        rw [hal, decide_eq_true (by unfold rf; rw [List.length_map]; omega)]
        refine iteF ?_
        refine ⟨_, rfl, _, rfl, a, n, zs, rfl, hS.same s1, hp.same s1, by omega, n0, n8, fun t h m => ⟨(hE t h m).1, (hE t h m).2.1⟩, fun H2 s2 => ⟨_, rfl, ?_⟩⟩
        by_cases g1 : (rounds (nums zs) n [0]).length = n
        · rw [g1, decide_eq_true rfl]
          refine iteF ?_
          refine ⟨_, rfl, _, rfl, a, n, zs, rfl, (hS.same s1).same s2, (hp.same s1).same s2, by omega, n0, n8, fun p H3 s3 np hpp => ?_⟩
          refine ⟨p, _, rfl, .inl (SqL.of hpp), _, rfl, rfl, _, rfl, ?_⟩
          rw [List.length_map]
          have s03 : Same H H3 := (s1.trans s2).trans s3
          by_cases g2 : (ordr (nums zs) n n []).length = n
          · rw [g2, decide_eq_true rfl]
            refine iteF ?_
            refine ⟨_, rfl, _, rfl, x, CN, dx, [], rfl, s03 _ _ hx, T.cl, T.nP, (by show 0 < 1000; decide), ?_⟩
            have hxa : (upd H3 x (.ins CN dx (putF "places" (.int n) []))) x = some (.ins CN dx [("places", .int n)]) := upd_same
            have sma : Sm H (upd H3 x (.ins CN dx (putF "places" (.int n) []))) := (Sm.of s03).trans (Sm.put (s03 _ _ hx))
            have kea : ∀ b o, H b = some o → b ≠ x → (upd H3 x (.ins CN dx (putF "places" (.int n) []))) b = some o := fun b o e hb => by
              rw [upd_ne hb]
              exact s03 _ _ e
            generalize upd H3 x (.ins CN dx (putF "places" (.int n) [])) = Ha at hxa sma kea
            have hSa : SqA K Ha a (rf zs) := sma.sqa hS
            have hpa : PrA K Ha zs := fun z m => sma.sqa (hp z m)
            have fin : ∀ (D : Addr) (Hd : Hp) (ws : Zs), nums ws = nums zs → PrT K Hd ws → Hd D = some (.lst (rf ws)) → Same Ha Hd → ∀ l, Hd l = none → Q .non (upd (upd Hd l (.tup (rf ws))) x (.ins CN dx (putF "arrows" (.ref l) [("places", .int n)]))) := by
              intro D Hd ws hw pw eD sd l nl
              have nxl : x ≠ l := ne_of_none (sd _ _ hxa) nl
              have sml : Sm Hd (upd (upd Hd l (.tup (rf ws))) x (.ins CN dx (putF "arrows" (.ref l) [("places", .int n)]))) := (Sm.of (same_upd nl)).trans (Sm.put (same_upd nl _ _ (sd _ _ hxa)))
              refine k zs rfl ⟨g1, g2⟩ _ ⟨dx, l, ws, by rw [upd_same]; rfl, by rw [upd_ne nxl.symm, upd_same], fun z m => sml.sqt (pw z m), hw⟩ fun b o e hb => ?_
              rw [upd_ne hb]
              exact same_upd nl _ _ (sd _ _ (kea b o e hb))
            rcases hSa with hSa | hSa
            · skip
              refine .inl ⟨_, rfl, a, rfl, ⟨_, hSa⟩, fun D nD => ?_⟩
              refine lc_list (K := K) (a := a) (xs := rf zs) (fun j Hd => ∃ ws : Zs, nums ws = (nums zs).take j ∧ PrT K Hd ws ∧ Hd D = some (.lst (rf ws)) ∧ Same Ha Hd) ⟨[], rfl, fun z m => by simp at m, upd_same, same_upd nD⟩ (fun j Hd _ hh => by obtain ⟨_, _, _, _, s⟩ := hh; exact s.seq hSa) ?_ ?_
              · rintro j y Hd hj ⟨ws, hw, pw, eD, sd⟩
                obtain ⟨⟨z, z1, z2⟩, hz, rfl⟩ := rf_inv hj
                have hzm : (z, z1, z2) ∈ zs := List.mem_of_getElem? hz
                have hil : j < zs.length := (List.getElem?_eq_some_iff.mp hz).1
                have hwl : ws.length ≤ j := by
                  have := congrArg List.length hw
                  unfold nums at this
                  rw [List.length_map, List.length_take, List.length_map] at this
                  omega
                have htk : (nums zs).take (j + 1) = (nums zs).take j ++ [(z1, z2)] := by
                  rw [List.take_add_one, nums_get hz]; rfl
                have hnw : ∀ l : Addr, nums (ws ++ [(l, z1, z2)]) = (nums zs).take (j + 1) := fun l => by
                  rw [htk, ← hw]
                  unfold nums
                  rw [List.map_append]
                  rfl
                have hq : SqA K Hd z [.int z1, .int z2] := (hpa _ hzm).same sd
                refine ⟨rfl, ?_⟩
                dsimp only [tYes]
                refine iteT ?_
                refine ⟨_, rfl, z, [.int z1, .int z2], rfl, ?_⟩
                rcases hq with q | q
                · refine .inl ⟨q, fun l nl => ⟨_, same_upd nl _ _ eD, small_2000 (by rw [rf_len]; omega), ?_⟩⟩
                  refine ⟨ws ++ [(l, z1, z2)], hnw l, ((pw.same (same_upd nl)).app (.inl (.inl upd_same))).put (same_upd nl _ _ eD), by rw [upd_same, rf_app], same_put (sd.trans (same_upd nl)) nD⟩
                · refine .inr ⟨q, ⟨_, eD, small_2000 (by rw [rf_len]; omega), ?_⟩⟩
                  refine ⟨ws ++ [(z, z1, z2)], hnw z, (pw.app q).put eD, by rw [upd_same, rf_app], same_put sd nD⟩
              · rintro Hd ⟨ws, hw, pw, eD, sd⟩
                have hln : (rf zs).length = (nums zs).length := by unfold rf nums; rw [List.length_map, List.length_map]
                rw [hln, List.take_length] at hw
                exact ⟨D, rf ws, rfl, .inl ⟨SqL.of eD, fun l nl => ⟨_, rfl, x, CN, dx, [("places", .int n)], rfl, same_upd nl _ _ (sd _ _ hxa), T.cl, T.nA, (by show 1 < 1000; decide), fin D Hd ws hw pw eD sd l nl⟩⟩⟩
            · skip
              refine .inr ⟨_, rfl, a, rfl, ⟨_, hSa⟩, fun D nD => ?_⟩
              refine lc_tup (K := K) (a := a) (xs := rf zs) (fun j Hd => ∃ ws : Zs, nums ws = (nums zs).take j ∧ PrT K Hd ws ∧ Hd D = some (.lst (rf ws)) ∧ Same Ha Hd) ⟨[], rfl, fun z m => by simp at m, upd_same, same_upd nD⟩ (fun j Hd _ hh => by obtain ⟨_, _, _, _, s⟩ := hh; exact sqt_same s hSa) ?_ ?_
              · rintro j y Hd hj ⟨ws, hw, pw, eD, sd⟩
                obtain ⟨⟨z, z1, z2⟩, hz, rfl⟩ := rf_inv hj
                have hzm : (z, z1, z2) ∈ zs := List.mem_of_getElem? hz
                have hil : j < zs.length := (List.getElem?_eq_some_iff.mp hz).1
                have hwl : ws.length ≤ j := by
                  have := congrArg List.length hw
                  unfold nums at this
                  rw [List.length_map, List.length_take, List.length_map] at this
                  omega
                have htk : (nums zs).take (j + 1) = (nums zs).take j ++ [(z1, z2)] := by
                  rw [List.take_add_one, nums_get hz]; rfl
                have hnw : ∀ l : Addr, nums (ws ++ [(l, z1, z2)]) = (nums zs).take (j + 1) := fun l => by
                  rw [htk, ← hw]
                  unfold nums
                  rw [List.map_append]
                  rfl
                have hq : SqA K Hd z [.int z1, .int z2] := (hpa _ hzm).same sd
                refine ⟨rfl, ?_⟩
                dsimp only [tYes]
                refine iteT ?_
                refine ⟨_, rfl, z, [.int z1, .int z2], rfl, ?_⟩
                rcases hq with q | q
                · refine .inl ⟨q, fun l nl => ⟨_, same_upd nl _ _ eD, small_2000 (by rw [rf_len]; omega), ?_⟩⟩
                  refine ⟨ws ++ [(l, z1, z2)], hnw l, ((pw.same (same_upd nl)).app (.inl (.inl upd_same))).put (same_upd nl _ _ eD), by rw [upd_same, rf_app], same_put (sd.trans (same_upd nl)) nD⟩
                · refine .inr ⟨q, ⟨_, eD, small_2000 (by rw [rf_len]; omega), ?_⟩⟩
                  refine ⟨ws ++ [(z, z1, z2)], hnw z, (pw.app q).put eD, by rw [upd_same, rf_app], same_put sd nD⟩
              · rintro Hd ⟨ws, hw, pw, eD, sd⟩
                have hln : (rf zs).length = (nums zs).length := by unfold rf nums; rw [List.length_map, List.length_map]
                rw [hln, List.take_length] at hw
                exact ⟨D, rf ws, rfl, .inl ⟨SqL.of eD, fun l nl => ⟨_, rfl, x, CN, dx, [("places", .int n)], rfl, same_upd nl _ _ (sd _ _ hxa), T.cl, T.nA, (by show 1 < 1000; decide), fin D Hd ws hw pw eD sd l nl⟩⟩⟩
          · refine iteTb (by rw [decide_eq_false fun z => g2 (by have := V.int.inj z; omega)]; rfl) ?_
            exact mko_of (fun Q q => q) (Rz.same s03 (hR fun zs' e g => by cases e; exact g2 g.2))
        · refine iteTb (by rw [decide_eq_false fun z => g1 (by have := V.int.inj z; omega)]; rfl) ?_
          exact mko_of (fun Q q => q) (Rz.same (s1.trans s2) (hR fun zs' e g => by cases e; exact g1 g.1))
end
end K03


set_option Elab.async false
set_option maxRecDepth 100000
set_option maxHeartbeats 4000000
set_option linter.all false
namespace K03
open PySem PySem.Spec PyProof.Rows L2 NetM
open PySem.W (KitX InstAt Looks Frag findIn subIn typeIn)
section
variable {prog : Program} {w : World} {A : Around} {E : Value → Shared → Prop} {s : Shared} {K : Frag} {x C L f : Addr} {h₀ : Heap} {m : Str → Option Value} {ox : Obj} {od : Option Obj} {name : Str} {b tb : Value}
/-- a special method that is a builtin slot of object -/
theorem ifBound_B {M : Model} {args : List Value} {Q : Option Value → Shared → Prop} {id : String} (X : K.In s.heap) (I : InstAt s.heap x ox C od) (hs : findIn K (.ref C) name = some (some (.builtin id))) (hb : ∀ self, bindSpecial (.builtin id) self = pure (.builtin id, [self]))
    (h : wpAny M A (call (.builtin id) (.ref x :: args)) (fun v => Q (some v)) E s) : wpAny M A (callSpecialIfBound? (.ref x) name args) Q E s := by
  simp only [callSpecialIfBound?, bindSpecialIfBound?]
  refine wpAny_holding (wpAny_bind (wpAny_bind (wpAny_bind (I.type.here ((PySem.W.looks_findIn X hs).here ?_)))))
  simp only [hb]
  refine wpAny_bind (wpAny_askSetting (wpAny_ite ?_))
  have fin : wpAny M A (call (.builtin id) ([.ref x] ++ args) >>= fun v => pure (some v)) Q E s := wpAny_bind (wpAny_mono h (fun v s' h' => wpAny_pure h') fun _ _ h' => h')
  split
  · exact wpAny_bind (wpAny_pure (wpAny_pure fin))
  · exact wpAny_tryCatch (wpAny_bind (wpAny_pure (wpAny_pure fin)))
theorem objNe_K (X : K.In s.heap) (I : InstAt s.heap x ox C od) (he : findIn K (.ref C) "__eq__" = some (some (.ref f))) (hf : PySem.W.isFn K (.ref f) = true) (hu : A.units < cLine) {Q : Fin → Shared → Prop}
    (hcall : wpAny (model prog w) A (call (.ref f) [.ref x, b]) (fun v s' => ∃ c, v = .bool c ∧ Q (.done (.ret (.bool (!c)))) s') E s) :
    wpAny (model prog w) A (Builtin.«object.__ne__» ⟨[.ref x, b], []⟩) Q E s := by
  obtain ⟨hp, g, d, t, os⟩ := s
  unfold Builtin.«object.__ne__»
  repeat (first
    | with_reducible refine wpAny_cRoomFor hu ?_
    | (refine wpAny_bind (m := callSpecialIfBound? (.ref x) (Str.ofString "__eq__") [b])
        (PySem.W.ifBound_K X I he hf (wpAny_mono hcall (fun r s' hr => by
          obtain ⟨c, rfl, hq⟩ := hr
          repeat (first | exact hq | exact wpAny_pure hq | exact wpAny_truthy_bool hq | (refine wpAny_bind (m := truthy (.bool _)) (wpAny_truthy_bool ?_)) | wp_step)) fun _ _ e => e)))
    | wp_step)
/-- a != b, a of an own class with its own == alone -/
theorem ne_K {Q : Value → Shared → Prop} (hu : A.units + 1 < cLine) (F : Fr h₀ L s.heap m) (X₀ : K.In h₀) (I : InstAt s.heap x ox C od) (hb : Looks (model prog w) s.heap (typeOf b) tb) (hn : PySem.W.notFirst K C tb = true)
    (he : findIn K (.ref C) "__eq__" = some (some (.ref f))) (hf : PySem.W.isFn K (.ref f) = true) (hs : findIn K (.ref C) "__ne__" = some (some (.builtin "object.__ne__"))) (ho : subIn K (.ref C) (.type "object") = some true)
    (h : wpAny (model prog w) A.in1 (call (.ref f) [.ref x, b]) (fun v s' => ∃ c, v = .bool c ∧ Q (.bool (!c)) s') E s) : wpAny (model prog w) A (richCompare .NotEq (.ref x) b) Q E s := by
  have X := X₀.keeps F.keep
  have S := PySem.F.slot_object_ne
  have one : wpAny (model prog w) A (tryCompare (.ref x) (cmpInfo .NotEq).2.1 b) (fun r s' => ∃ v, r = some v ∧ Q v s') E s := by
    unfold tryCompare
    refine wpAny_bind (ifBound_B X I (id := "object.__ne__") hs S.bind (wpAny_call (codeAny_call_builtin S.plain PySem.F.cmpEntry_ne (PySem.W.check_slot PySem.F.cmpKind_ne PySem.F.cmpSplit_ne (I.type.andThen (PySem.W.looks_subIn X ho)) (PySem.F.cmpArgs_ne _ _)
      (objNe_K (A := A.in1) X I he hf (by show A.units + 1 < _; exact hu) (wpAny_mono h (fun v s' hv => ?_) fun _ _ e => e))))))
    obtain ⟨c, rfl, hq⟩ := hv
    first | exact ⟨c, rfl, wpAny_pure ⟨_, rfl, hq⟩⟩ | exact ⟨c, rfl, wpAny_pure (wpAny_pure ⟨_, rfl, hq⟩)⟩
  unfold richCompare
  simp only [oneThing_ref]
  refine wpAny_holding (wpAny_bind (wpAny_cRoomFor (Nat.lt_of_succ_lt hu) ?_))
  refine wpAny_bind (I.type.here (wpAny_bind (hb.here ?_)))
  split
  · rename_i q
    have e : subIn K tb (.ref C) = some false := by
      rcases Bool.or_eq_true_iff.mp hn with e | e
      · rw [beq_iff_eq.mp e] at q; simp at q
      · exact beq_iff_eq.mp e
    refine wpAny_bind ((PySem.W.looks_subIn X e).here ?_)
    simp only [Bool.false_eq_true, if_false]
    refine wpAny_bind (wpAny_mono one (fun r s' z => ?_) fun _ _ e => e)
    obtain ⟨v, rfl, hq⟩ := z
    exact wpAny_pure hq
  · refine wpAny_bind (wpAny_pure ?_)
    simp only [Bool.false_eq_true, if_false]
    refine wpAny_bind (wpAny_mono one (fun r s' z => ?_) fun _ _ e => e)
    obtain ⟨v, rfl, hq⟩ := z
    exact wpAny_pure hq
end
end K03


set_option Elab.async false
set_option maxRecDepth 100000
set_option maxHeartbeats 4000000
set_option linter.all false
namespace K03
open PySem PySem.Spec PyProof.Rows L2 NetM
theorem scNetEq : FnScope ["self", "other"] ["self", "other"] (defScope sNetEq) := ⟨rfl, rfl, rfl, by decide +kernel, rfl, by decide +kernel, by decide +kernel⟩
abbrev pd (p : Int × Int) : PyData := .tuple [.int p.1, .int p.2]
theorem dpall_prs {K : PySem.W.Frag} {H : Hp} : ∀ {zs : Zs}, PrA K H zs → (∀ z ∈ zs, SqT K H z.1 [.int z.2.1, .int z.2.2]) → DpAll K H (rf zs) ((nums zs).map pd)
  | [], _, _ => .nil
  | z :: zs, h, p => .cons (.tup (p z (List.mem_cons_self ..)) (.cons (.int _) (.cons (.int _) .nil))) (dpall_prs (fun z m => h z (List.mem_cons_of_mem _ m)) fun z m => p z (List.mem_cons_of_mem _ m))
theorem PrT.pra {K : PySem.W.Frag} {H : Hp} {zs : Zs} (p : PrT K H zs) : PrA K H zs := fun z m => .inr (p z m)
theorem PL.prt {K : PySem.W.Frag} {H : Hp} {zs : Zs} (p : PL H zs) : PrT K H zs := fun z m => .inl (.inl (p z m))
theorem dp_tup {K : PySem.W.Frag} {H : Hp} {t : Addr} {zs : Zs} (h : SqT K H t (rf zs)) (p : PrT K H zs) : Dp K H (.ref t) (.tuple ((nums zs).map pd)) := .tup h (dpall_prs p.pra p)
theorem dp_lst {K : PySem.W.Frag} {H : Hp} {t : Addr} {zs : Zs} (h : SqL K H t (rf zs)) (p : PrT K H zs) : Dp K H (.ref t) (.list ((nums zs).map pd)) := .lst h (dpall_prs p.pra p)
theorem lay_pd (l : List (Int × Int)) : PyData.canLayAll0 (l.map pd) = true := by
  induction l with
  | nil => rfl
  | cons x r ih => simp [PyData.canLayAll0, PyData.canLay0, ih]
theorem dep_pd (l : List (Int × Int)) : PyData.depthAll (l.map pd) ≤ 2 := by
  induction l with
  | nil => simp [PyData.depthAll]
  | cons x r ih => simp [PyData.depthAll, PyData.depth]; omega
theorem shp_tup (l : List (Int × Int)) : SeqAt.shaped (.tuple (l.map pd)) = true := by
  have h1 := lay_pd l
  have h2 := dep_pd l
  simp [SeqAt.shaped, PyData.canLay0, h1, PyData.depth]
  omega
theorem shp_lst (l : List (Int × Int)) : SeqAt.shaped (.list (l.map pd)) = true := by
  have h1 := lay_pd l
  have h2 := dep_pd l
  simp [SeqAt.shaped, PyData.canLay0, h1, PyData.depth]
  omega
theorem eqvAll_pd : ∀ l m : List (Int × Int), PyData.eqvAll (l.map pd) (m.map pd) = decide (l = m)
  | [], [] => rfl
  | [], _ :: _ => rfl
  | _ :: _, [] => rfl
  | (a, b) :: l, (c, d) :: m => by
    show (PyData.eqv (pd (a, b)) (pd (c, d)) && PyData.eqvAll (l.map pd) (m.map pd)) = _
    rw [eqvAll_pd l m]
    show ((a == c) && ((b == d) && true) && decide (l = m)) = _
    by_cases h1 : a = c
    · by_cases h2 : b = d
      · by_cases h3 : l = m
        · subst h1; subst h2; subst h3; simp
        · subst h1; subst h2
          rw [decide_eq_false h3, decide_eq_false (fun z => h3 (List.cons.inj z).2)]; simp
      · rw [beq_eq_false_iff_ne.mpr h2]
        simp [h2]
    · rw [beq_eq_false_iff_ne.mpr h1]
      simp [h1]
theorem eqv_tup (l m : List (Int × Int)) : PyData.eqv (.tuple (l.map pd)) (.tuple (m.map pd)) = decide (l = m) := eqvAll_pd l m
theorem eqv_lst (l m : List (Int × Int)) : PyData.eqv (.list (l.map pd)) (.list (m.map pd)) = decide (l = m) := eqvAll_pd l m
/-- what the text says of comparing Nets -/
structure NetE (K : PySem.W.Frag) (mg : Str → Option Value) (CN fE : Addr) : Prop where
  t : NetT K mg CN
  eq : PySem.W.findIn K (.ref CN) "__eq__" = some (some (.ref fE))
  fn : PySem.W.isFn K (.ref fE) = true
  ne : PySem.W.findIn K (.ref CN) "__ne__" = some (some (.builtin "object.__ne__"))
  ob : PySem.W.subIn K (.ref CN) (.type "object") = some true
  ha : PySem.W.findIn K (.ref CN) "__class__" = some (some (.builtin "object.__class__"))
  hn : PySem.W.specialIn K (.builtin "object.__class__") "__get__" = some (some (.builtin "getset_descriptor.__get__"))
  hk : PySem.W.takesIn K (.builtin "object.__class__") = some true
  hm : PySem.W.mroIn K CN (.type "object") = some true
  one : PySem.W.kitOne K (.ref CN) (.ref CN) = some true
  tup : PySem.W.kitOne K (.type "tuple") (.ref CN) = some false
  nf : PySem.W.notFirst K CN (.type "tuple") = true
theorem NetE.ty {K : PySem.W.Frag} {mg : Str → Option Value} {CN fE : Addr} (T : NetE K mg CN fE) {H : Hp} {a : Addr} {n : Nat} {zs : List (Int × Int)} (h : NetAt K CN H a n zs) : TyX K H (.ref a) (.ref CN) := by
  obtain ⟨dx, t, ws, e, _⟩ := h
  exact .base (.ins e T.t.cl T.ha T.hn T.hk T.hm)
/-- whether both are Nets of the same parts; other values are tuples -/
def spNetEq (K : PySem.W.Frag) (CN : Addr) : Sp := fun vs H Q _ => ∃ (a : Addr) (n : Nat) (zs : List (Int × Int)) (y : L2.V), vs = [.ref a, y] ∧ NetAt K CN H a n zs ∧
  ((∃ (b : Addr) (m : Nat) (ws : List (Int × Int)), y = .ref b ∧ NetAt K CN H b m ws ∧ ∀ H', Same H H' → Q (.bl (decide (n = m ∧ zs = ws))) H') ∨ (∃ (b : Addr) (xs : List L2.V), y = .ref b ∧ SqT K H b xs ∧ ∀ H', Same H H' → Q (.bl false) H'))
section
variable {P : Program} {w : World} {K : PySem.W.Frag} {mg : Str → Option Value} {base : Heap}
theorem ok_neteq {f CN : Addr} {fd : FuncData} (F : Fun K "__eq__" "Net.__eq__" sNetEq f fd) (T : NetE K mg CN f) (mIs : mg "isinstance" = none) : FnOk P w K mg base CX0 1 f fd ["self", "other"] (spNetEq K CN) := by
  refine F.ok scNetEq (fun vs H Q E h => ?_) (fun cdv A outer s H vs Q E hr h => ?_)
  · obtain ⟨a, n, zs, y, rfl, _⟩ := h
    rfl
  · obtain ⟨a, n, zs, y, rfl, hA, h⟩ := h
    refine ⟨_, pss_one (ps_ret (pe_and (pe_callB call_isi (by rfl) mIs (by decide +kernel) (pa_cons (pv 1) (pa_cons (pe_glob (v := .ref CN) (by rfl) T.t.g rfl) pa_nil)))
      (pe_and (pe_cmpR op_eq (pe_fld (pv 0) rfl) (pe_fld (pv 1) rfl) (nomark _)) (pe_one (pe_cmpR (op_eqD hr.units) (pe_fld (pv 0) rfl) (pe_fld (pv 1) rfl) (nomark _)))))), ?_⟩
    rcases h with ⟨b, m, ws, rfl, hB, k⟩ | ⟨b, xs, rfl, hB, k⟩
    · refine ⟨_, rfl, _, _, _, _, true, rfl, .own CN, T.ty hB, T.one, _, rfl, ?_⟩
      refine iteT ?_
      obtain ⟨dx, t, us, e, et, p, rfl⟩ := hA
      obtain ⟨dx2, t2, us2, e2, et2, p2, rfl⟩ := hB
      refine ⟨_, rfl, a, CN, dx, _, _, rfl, e, T.t.cl, T.t.nP, rfl, _, rfl, b, CN, dx2, _, _, rfl, e2, T.t.cl, T.t.nP, rfl, rfl, _, rfl, ite2 (fun c => ?_) (fun c => ?_)⟩
      · have hnm : n = m := by
          have := V.int.inj (of_decide_eq_true c)
          omega
        refine ⟨_, rfl, a, CN, dx, _, _, rfl, e, T.t.cl, T.t.nA, rfl, _, rfl, b, CN, dx2, _, _, rfl, e2, T.t.cl, T.t.nA, rfl, _, _, dp_tup (SqT.of et) p, dp_tup (SqT.of et2) p2, shp_tup _, shp_tup _, ?_⟩
        rw [eqv_tup]
        have := k H fun _ _ z => z
        rw [decide_eq_decide.mpr (show (n = m ∧ nums us = nums us2) ↔ nums us = nums us2 from ⟨fun z => z.2, fun z => ⟨hnm, z⟩⟩)] at this
        exact this
      · have hnm : ¬ n = m := fun z => c (decide_eq_true (by rw [z]))
        have := k H fun _ _ z => z
        rw [decide_eq_false (fun z => hnm z.1)] at this
        exact this
    · refine ⟨_, rfl, _, _, _, _, false, rfl, .own CN, ?_, T.tup, _, rfl, ?_⟩
      · exact ty_tup hB
      refine iteF ?_
      exact k H fun _ _ z => z
end
section
variable {X : Cx} {CN fE : Addr} {fd : FuncData}
/-- a call of the own ==, wherever one stands -/
theorem run_neteq (F : FnOk X.prog X.w X.K X.mg X.base CX0 1 fE fd ["self", "other"] (spNetEq X.K CN)) (hb : L2.Binds X.K fd ["self", "other"] []) {A : Around} {pins : List (Addr × Obj)} {σ : L2.St} {H : Hp} {s : Shared} {a : Addr} {y : L2.V} {v : Value} {Q : L2.V → Hp → Prop} (sb : Sub X 1 A) (I : Inv X pins σ H s) (ry : RelV y v)
    (h : spNetEq X.K CN [.ref a, y] H (fun u H' => (∃ c, u = .bl c) ∧ Q u H') (fun _ _ _ => False)) : wpAny (model X.prog X.w) A (call (.ref fE) [.ref a, v]) (fun u s' => ∃ c, u = .bool c ∧ ∃ H', Inv X pins σ H' s' ∧ Q (.bl c) H') X.xe s := by
  have e0 : Env0 X.prog X.w X.K X.mg X.base A X.stack s H := by
    have e := I.env0
    exact ⟨by rw [sb.fr]; exact e.frames, e.mod, e.bs, e.bsz, e.funs, e.frf, e.hok, e.bare⟩
  have r2 : Vals [V.ref a, y] [Value.ref a, v] := .cons rfl (.cons ry .nil)
  refine wpAny_call (codeAny_mono (F.run A X.stack s H ⟨[.ref a, v], []⟩ [.ref a, v] [.ref a, y] _ _ sb.room e0 (hb s [.ref a, v] I.kIn rfl) r2 h) fun r s' hq => ?_)
  cases r with
  | error e => exact (show False from hq).elim
  | ok fl =>
    cases fl with
    | ret w =>
      obtain ⟨z, H', I', rz, ⟨c, rfl⟩, q⟩ := I.after hq
      cases rz
      exact ⟨c, rfl, H', I', q⟩
    | next => exact False.elim hq
    | brk => exact False.elim hq
    | cont => exact False.elim hq
def rEqN (K : PySem.W.Frag) (CN : Addr) (f : Bool → Bool) : R2 := fun x y H Q => ∃ (a : Addr) (n : Nat) (zs : List (Int × Int)), x = .ref a ∧ NetAt K CN H a n zs ∧
  ((∃ (b : Addr) (m : Nat) (ws : List (Int × Int)), y = .ref b ∧ NetAt K CN H b m ws ∧ ∀ H', Same H H' → Q (.bl (f (decide (n = m ∧ zs = ws)))) H') ∨ (∃ (b : Addr) (xs : List L2.V), y = .ref b ∧ SqT K H b xs ∧ ∀ H', Same H H' → Q (.bl (f false)) H'))
/-- what the other one is, as its type is asked -/
theorem other_ty {mg : Str → Option Value} (T : NetE X.K mg CN fE) {pins : List (Addr × Obj)} {σ : L2.St} {H : Hp} {s : Shared} (I : Inv X pins σ H s) {y : L2.V} {u : Value} (ry : RelV y u)
    (h : (∃ (b : Addr) (m : Nat) (ws : List (Int × Int)), y = .ref b ∧ NetAt X.K CN H b m ws) ∨ ∃ (b : Addr) (xs : List L2.V), y = .ref b ∧ SqT X.K H b xs) :
    ∃ tb, PySem.W.Looks (model X.prog X.w) s.heap (typeOf u) tb ∧ PySem.W.notFirst X.K CN tb = true := by
  rcases h with ⟨b, m, ws, rfl, dx, t, us, e, _⟩ | ⟨b, xs, rfl, h⟩
  · cases ry
    obtain ⟨mB, J', _⟩ := ins_get I.hok e
    obtain ⟨od', J', _⟩ := J'.look
    exact ⟨_, J'.type, by simp [PySem.W.notFirst]⟩
  · cases ry
    obtain ⟨its, r, ⟨o, ho, hc, _⟩, z⟩ := I.tuple h
    exact ⟨.type "tuple", fun A Q E s' k q => wpAny_typeOf_ref (k _ _ ho) (by rw [hc]; exact q), T.nf⟩
theorem op_eqN {mg : Str → Option Value} (T : NetE X.K mg CN fE) (F : FnOk X.prog X.w X.K X.mg X.base CX0 1 fE fd ["self", "other"] (spNetEq X.K CN)) (hb : L2.Binds X.K fd ["self", "other"] []) (hr : Room 1 X.A) : OpR X (compareOp .Eq) (rEqN X.K CN id) := by
  intro pins s σ H x y v u Q I rx ry hq
  obtain ⟨a, n, zs, rfl, hA, h⟩ := hq
  cases rx
  obtain ⟨dx, t, us, e, et, p, hzs⟩ := id hA
  obtain ⟨mA, J, _⟩ := ins_get I.hok e
  obtain ⟨od, J, _⟩ := J.look
  obtain ⟨m0, hF⟩ := I.fr
  obtain ⟨tb, L, nf⟩ := other_ty T I ry (h.imp (fun ⟨b, m, ws, e, h, _⟩ => ⟨b, m, ws, e, h⟩) fun ⟨b, xs, e, h, _⟩ => ⟨b, xs, e, h⟩)
  show wpAny (model X.prog X.w) X.A (richCompare .Eq (.ref a) u) (EP X pins σ Q) X.xe s
  refine PySem.W.cmp_K (op := .Eq) (tb := tb) (show X.A.units < cLine by have := hr.un; omega) hF I.ok.mod.kin J L nf T.eq T.fn ?_
  refine wpAny_mono (run_neteq (Q := fun u H' => Q u H') F hb ⟨hr, rfl⟩ I ry ?_) (fun r s' z => ?_) fun _ _ x => x
  · refine ⟨a, n, zs, y, rfl, hA, h.imp (fun ⟨b, m, ws, e, h, k⟩ => ⟨b, m, ws, e, h, fun H' s' => ⟨⟨_, rfl⟩, k H' s'⟩⟩) fun ⟨b, xs, e, h, k⟩ => ⟨b, xs, e, h, fun H' s' => ⟨⟨_, rfl⟩, k H' s'⟩⟩⟩
  · obtain ⟨c, rfl, H', I', q⟩ := z
    exact ⟨.bl c, H', I', rfl, q⟩
theorem op_neN {mg : Str → Option Value} (T : NetE X.K mg CN fE) (F : FnOk X.prog X.w X.K X.mg X.base CX0 1 fE fd ["self", "other"] (spNetEq X.K CN)) (hb : L2.Binds X.K fd ["self", "other"] []) (hr : Room 2 X.A) : OpR X (compareOp .NotEq) (rEqN X.K CN not) := by
  intro pins s σ H x y v u Q I rx ry hq
  obtain ⟨a, n, zs, rfl, hA, h⟩ := hq
  cases rx
  obtain ⟨dx, t, us, e, et, p, hzs⟩ := id hA
  obtain ⟨mA, J, _⟩ := ins_get I.hok e
  obtain ⟨od, J, _⟩ := J.look
  obtain ⟨m0, hF⟩ := I.fr
  obtain ⟨tb, L, nf⟩ := other_ty T I ry (h.imp (fun ⟨b, m, ws, e, h, _⟩ => ⟨b, m, ws, e, h⟩) fun ⟨b, xs, e, h, _⟩ => ⟨b, xs, e, h⟩)
  show wpAny (model X.prog X.w) X.A (richCompare .NotEq (.ref a) u) (EP X pins σ Q) X.xe s
  refine ne_K (tb := tb) (show X.A.units + 1 < cLine by have := hr.un; omega) hF I.ok.mod.kin J L nf T.eq T.fn T.ne T.ob ?_
  refine wpAny_mono (run_neteq (Q := fun u H' => ∃ c, u = .bl c ∧ Q (.bl (!c)) H') F hb ⟨hr.in1, rfl⟩ I ry ?_) (fun r s' z => ?_) fun _ _ x => x
  · refine ⟨a, n, zs, y, rfl, hA, h.imp (fun ⟨b, m, ws, e, h, k⟩ => ⟨b, m, ws, e, h, fun H' s' => ⟨⟨_, rfl⟩, _, rfl, k H' s'⟩⟩) fun ⟨b, xs, e, h, k⟩ => ⟨b, xs, e, h, fun H' s' => ⟨⟨_, rfl⟩, _, rfl, k H' s'⟩⟩⟩
  · obtain ⟨c, rfl, H', I', c', ec, q⟩ := z
    cases ec
    exact ⟨c, rfl, .bl (!c), H', I', rfl, q⟩
end
end K03


set_option Elab.async false
set_option maxRecDepth 100000
set_option maxHeartbeats 4000000
set_option linter.all false
namespace K03
open PySem PySem.Spec PyProof.Rows L2 NetM
abbrev sCheck : Stmt := top 16
abbrev sTurned : Stmt := top 19
theorem scCheck : FnScope ["net"] ["net"] (defScope sCheck) := ⟨rfl, rfl, rfl, by decide +kernel, rfl, by decide +kernel, by decide +kernel⟩
theorem scTurned : FnScope ["net", "tail", "head"] ["net"] (defScope sTurned) := ⟨rfl, rfl, rfl, by decide +kernel, rfl, by decide +kernel, by decide +kernel⟩
/-- what is no Net -/
def NoNet (K : PySem.W.Frag) (CN : Addr) (H : Hp) (x : L2.V) : Prop := ∃ t, TyX K H x t ∧ PySem.W.kitOne K t (.ref CN) = some false
def spCheck (K : PySem.W.Frag) (CN CB : Addr) : Sp := fun vs H Q E => ∃ x : L2.V, vs = [x] ∧ ((NoNet K CN H x ∧ Rz CB H E .non) ∨ ∃ (a : Addr) (n : Nat) (zs : List (Int × Int)), x = .ref a ∧ NetAt K CN H a n zs ∧ Q .non H)
def ends (f : Int × Int → Int) (n : Nat) (zs : List (Int × Int)) : List Int := (rng n).filter fun k => decide (k ∉ zs.map f)
def swp (l : List (Int × Int)) : List (Int × Int) := l.map fun p => (p.2, p.1)
def GoodN (l : List (Int × Int)) (n : Nat) : Prop := (rounds l n [0]).length = n ∧ (ordr l n n []).length = n
def spTurned (K : PySem.W.Frag) (CN CB : Addr) : Sp := fun vs H Q E => ∃ x : L2.V, vs = [x] ∧ ((NoNet K CN H x ∧ Rz CB H E .non) ∨ ∃ (a : Addr) (n : Nat) (zs : List (Int × Int)), x = .ref a ∧ NetAt K CN H a n zs ∧ 0 < n ∧ n ≤ 8 ∧ zs.length ≤ 12 ∧ (∀ t h, (t, h) ∈ zs → InR n t ∧ InR n h ∧ t ≠ h) ∧ GoodN (swp zs) n ∧
  ∀ (y : Addr) (H' : Hp), NetAt K CN H' y n (swp zs) → Same H H' → Q (.ref y) H')
section
variable {P : Program} {w : World} {K : PySem.W.Frag} {mg : Str → Option Value} {base : Heap}
theorem ok_check {f CN CB fB fE : Addr} {fd fdB : FuncData} (F : Fun K "check_net" "check_net" sCheck f fd) (BM : BadM P w K mg base CB fB fdB) (T : NetE K mg CN fE) (mIs : mg "isinstance" = none) : FnOk P w K mg base (L2.CX P w) 4 f fd ["net"] (spCheck K CN CB) := by
  refine F.okX scCheck (fun vs H Q E h => ?_) (fun cdv A outer s H vs Q E hr h => ?_)
  · obtain ⟨x, rfl, _⟩ := h
    rfl
  · obtain ⟨x, rfl, h⟩ := h
    refine ⟨_, pss_one (ps_if (pt_not (pt_val (pe_callB call_isi (by rfl) mIs (by decide +kernel) (pa_cons (pv 0) (pa_cons (pe_glob (v := .ref CN) (by rfl) T.t.g rfl) pa_nil)))))
      (pss_one (ps_raise rfl (takes_of rfl rfl rfl rfl) (pmk_oex BM.oex BM.ini BM.tyI BM.ok hr BM.bd .nil pass0 (by rfl) BM.g (pa_cons pe_non pa_nil)))) pss_nil), ?_⟩
    rcases h with ⟨⟨t, ht, hk⟩, hR⟩ | ⟨a, n, zs, rfl, hA, k⟩
    · refine ⟨_, rfl, _, _, _, _, false, rfl, .own CN, ht, hk, _, rfl, ?_⟩
      refine iteT ?_
      exact mko_of (fun Q q => q) hR
    · refine ⟨_, rfl, _, _, _, _, true, rfl, .own CN, T.ty hA, T.one, _, rfl, ?_⟩
      refine iteF ?_
      exact k
/-- the small def check_net, as it is called -/
structure ChkF (P : Program) (w : World) (K : PySem.W.Frag) (mg : Str → Option Value) (base : Heap) (CN CB : Addr) where
  f : Addr
  fd : FuncData
  ok : FnOk P w K mg base (L2.CX P w) 4 f fd ["net"] (spCheck K CN CB)
  b : L2.Binds K fd ["net"] []
  g : mg "check_net" = some (.ref f)
  kp : PySem.W.keepIn K (.ref f) = true
end
end K03


set_option Elab.async false
set_option maxRecDepth 100000
set_option maxHeartbeats 4000000
set_option linter.all false
namespace K03
open PySem PySem.Spec PyProof.Rows L2 NetM
theorem BadPl.same {K : PySem.W.Frag} {H H' : Hp} (s : Same H H') {x : L2.V} (h : BadPl K H x) : BadPl K H' x := by
  obtain ⟨t, b, c, a1, a2, a3, a4⟩ := h
  exact ⟨t, b, c, TyX.same s a1, a2, a3, a4⟩
theorem ArL.same {K : PySem.W.Frag} {H H' : Hp} (s : Same H H') {n : Int} : ∀ {xs : List L2.V} {bs : List Bool}, ArL K H n xs bs → ArL K H' n xs bs
  | _, _, .nil => .nil
  | _, _, .cons h r => .cons (h.same s) (r.same s)
theorem ArV.same {K : PySem.W.Frag} {H H' : Hp} (s : Same H H') {n : Nat} {x : L2.V} {o : Option Zs} (h : ArV K H n x o) : ArV K H' n x o := by
  cases h with
  | no h z => exact .no (TyX.same s h) z
  | bad h ha hl z => exact .bad (h.same s) (ha.same s) hl z
  | ok h hp hl hE => exact .ok (h.same s) (hp.same s) hl hE
/-- what is asked where a Net is made -/
def MakeN (K : PySem.W.Frag) (CN CB : Addr) (pl ar : L2.V) (H : Hp) (Q : VK) (E : XK) : Prop :=
  (BadPl K H pl ∧ Rz CB H E (.str "places")) ∨ ∃ (n : Nat) (o : Option Zs), pl = .int n ∧ 0 < n ∧ n ≤ 8 ∧ ArV K H n ar o ∧ ((∀ zs, o = some zs → ¬ Good zs n) → Rz CB H E (.str "arrows")) ∧
    (∀ zs, o = some zs → Good zs n → ∀ (x : Addr) (H' : Hp), H x = none → NetAt K CN H' x n (nums zs) → Same H H' → Q (.ref x) H')
theorem MakeN.sp {K : PySem.W.Frag} {CN CB : Addr} {pl ar : L2.V} {H : Hp} {Q : VK} {E : XK} (h : MakeN K CN CB pl ar H Q E) (x dx : Addr) (nx : H x = none) (ndx : H dx = none) (ne : dx ≠ x) :
    spNetInit K CN CB [.ref x, pl, ar] (upd (upd H dx (.own x)) x (.ins CN dx [])) (fun v H2 => v = .non ∧ Q (.ref x) H2) E := by
  have s : Same H (upd (upd H dx (.own x)) x (.ins CN dx [])) := fun b o e => by
    rw [upd_ne (ne_of_none e nx), upd_ne (ne_of_none e ndx)]
    exact e
  refine ⟨x, dx, pl, ar, rfl, upd_same, ?_⟩
  rcases h with ⟨h, hR⟩ | ⟨n, o, rfl, n0, n8, hA, hR, k⟩
  · exact .inl ⟨h.same s, hR.same s⟩
  · refine .inr ⟨n, o, rfl, n0, n8, hA.same s, fun z => (hR z).same s, fun zs e g H' hN k' => ⟨rfl, k zs e g x H' nx hN fun b u eb => k' b u (s b u eb) (ne_of_none eb nx)⟩⟩
/-- Net's making, as it is called -/
structure MkN (P : Program) (w : World) (K : PySem.W.Frag) (mg : Str → Option Value) (base : Heap) (CN CB : Addr) where
  f : Addr
  fd : FuncData
  m : L2.Mk K CN f
  ok : FnOk P w K mg base (L2.CX P w) 4 f fd ["self", "places", "arrows"] (spNetInit K CN CB)
  b : L2.Binds K fd ["self", "places", "arrows"] []
section
variable {P : Program} {w : World} {K : PySem.W.Frag} {mg : Str → Option Value} {base : Heap}
theorem ok_turned {f CN CB fE : Addr} {fd : FuncData} (F : Fun K "turned_net" "turned_net" sTurned f fd) (C : ChkF P w K mg base CN CB) (T : NetE K mg CN fE) (M : MkN P w K mg base CN CB) : FnOk P w K mg base (L2.CX P w) 6 f fd ["net"] (spTurned K CN CB) := by
  refine F.okX scTurned (fun vs H Q E h => ?_) (fun cdv A outer s H vs Q E hr h => ?_)
  · obtain ⟨x, rfl, _⟩ := h
    rfl
  · obtain ⟨x, rfl, h⟩ := h
    have nd := scTurned.nd
    have r4 : Room 4 _ := hr.mono (by decide)
    refine ⟨_, pss_cons (ps_expr (pe_call C.ok r4 (by rfl) C.g C.kp C.b .nil (passes_call (takes_of rfl rfl rfl rfl) fun _ _ _ _ h => h) (pa_cons (pv 0) pa_nil)))
      (pss_one (ps_ret (pe_make M.m M.ok hr (by rfl) T.t.g M.b .nil (passes_call (takes_of rfl rfl rfl rfl) fun _ _ _ _ h => h) (pa_cons (pe_fld (pv 0) rfl) (pa_cons
        (pe_lc (own := [("tail", 1), ("head", 2)]) (g := gTup K 2 (gCons (gName 1) (gCons (gName 2) gNil))) (by rfl) nd (pi_tup (pe_fld (pv 0) rfl)) (blkOk_by (N := ["net", "tail", "head"]) (sc := defScope sTurned) (by decide +kernel))
          (fun _ _ _ _ _ => pg_tup (by rfl) (pgs_cons (pg_name (i := 1) nd rfl (Or.inl rfl)) (pgs_cons (pg_name (i := 2) nd rfl (Or.inl rfl)) pgs_nil))) (fun _ _ _ _ _ => pts_nil) (fun _ _ _ _ _ => pe_tup (pa_cons (pv 2) (pa_cons (pv 1) pa_nil)))) pa_nil))))), ?_⟩
    rcases h with ⟨hN, hR⟩ | ⟨a, n, zs, rfl, hA, n0, n8, hl, hE, hG, k⟩
    · exact ⟨_, rfl, _, rfl, .inl ⟨hN, hR⟩⟩
    · refine ⟨_, rfl, _, rfl, .inr ⟨a, n, zs, rfl, hA, ?_⟩⟩
      obtain ⟨dx, t, us, e, et, p, rfl⟩ := hA
      have hul : us.length ≤ 12 := by unfold nums at hl; rw [List.length_map] at hl; exact hl
      refine ⟨_, rfl, a, CN, dx, _, _, rfl, e, T.t.cl, T.t.nP, rfl, _, rfl, a, CN, dx, _, _, rfl, e, T.t.cl, T.t.nA, rfl, t, rfl, ⟨_, SqT.of et⟩, fun D nD => ?_⟩
      refine lc_tup (K := K) (a := t) (xs := rf us) (fun j Hd => ∃ ws : Zs, nums ws = swp ((nums us).take j) ∧ PL Hd ws ∧ Hd D = some (.lst (rf ws)) ∧ Same H Hd) ⟨[], rfl, fun z m => by simp at m, upd_same, same_upd nD⟩ (fun j Hd _ hh => by obtain ⟨_, _, _, _, s⟩ := hh; exact sqt_same s (SqT.of et)) ?_ ?_
      · rintro j y Hd hj ⟨ws, hw, pw, eD, sd⟩
        obtain ⟨⟨z, z1, z2⟩, hz, rfl⟩ := rf_inv hj
        have hil : j < us.length := (List.getElem?_eq_some_iff.mp hz).1
        have htk : (nums us).take (j + 1) = (nums us).take j ++ [(z1, z2)] := by
          rw [List.take_add_one, nums_get hz]; rfl
        have hwl : ws.length ≤ j := by
          have := congrArg List.length hw
          unfold nums swp at this
          rw [List.length_map, List.length_map, List.length_take, List.length_map] at this
          omega
        refine ⟨z, [.int z1, .int z2], rfl, sqt_same sd (p _ (List.mem_of_getElem? hz)), rfl, .int z1, [.int z2], rfl, .int z2, [], rfl, rfl, rfl, ?_⟩
        dsimp only [tYes]
        refine iteT ?_
        refine ⟨_, rfl, _, rfl, by show 2 ≤ sizeLine; decide, fun q nq => ⟨_, same_upd nq _ _ eD, small_2000 (by rw [rf_len]; omega), ?_⟩⟩
        refine ⟨ws ++ [(q, z2, z1)], ?_, ((pw.same (same_upd nq)).app upd_same).put (same_upd nq _ _ eD), by rw [upd_same, rf_app], same_put (sd.trans (same_upd nq)) nD⟩
        rw [htk]
        unfold swp at hw ⊢
        rw [List.map_append, ← hw]
        unfold nums
        rw [List.map_append]
        rfl
      · rintro Hd ⟨ws, hw, pw, eD, sd⟩
        have hln : (rf us).length = (nums us).length := by unfold rf nums; rw [List.length_map, List.length_map]
        rw [hln, List.take_length] at hw
        refine fun y dy ny ndy ne => MakeN.sp (K := K) (CN := CN) (CB := CB) (.inr ⟨n, some ws, rfl, n0, n8, .ok (.inl (SqL.of eD)) pw.prt.pra ?_ ?_, fun z => absurd (show Good ws n from ?_) (z ws rfl), fun zs' e' g x H' nx hN s' => ?_⟩) y dy ny ndy ne
        · have := congrArg List.length hw
          unfold nums swp at this
          rw [List.length_map, List.length_map, List.length_map] at this
          omega
        · intro t h m
          rw [hw] at m
          unfold swp at m
          obtain ⟨⟨q1, q2⟩, hm, eq⟩ := List.mem_map.mp m
          cases eq
          obtain ⟨h1, h2, h3⟩ := hE _ _ hm
          exact ⟨h2, h1, fun z => h3 z.symm⟩
        · show (rounds (nums ws) n [0]).length = n ∧ (ordr (nums ws) n n []).length = n
          rw [hw]
          exact hG
        · cases e'
          rw [hw] at hN
          exact k x H' hN (sd.trans s')
end
end K03


set_option Elab.async false
set_option maxRecDepth 100000
set_option maxHeartbeats 4000000
set_option linter.all false
namespace K03
open PySem PySem.Spec PyProof.Rows L2 NetM
section
open HT
variable {prog : Program} {w : World} {A : Around} {E : Value → Shared → Prop} {s : Shared}
/-- t[::-1] of a pair: how many places -/
theorem sliceApplied_rev {sl : Addr} {vl vu vs : Value} {Q : Int × Int × Nat → Shared → Prop} (hs : s.heap.IsSliceOf sl vl vu vs) (pl : IsPart vl none) (pu : IsPart vu none) (ps : IsPart vs (some (-1)))
    (h : Q (1, -1, 2) s) : wpAny (model prog w) A (Builtin.Slice.sliceApplied (.ref sl) (pure (2 : Int))) Q E s := by
  obtain ⟨os, hos, hcs, hds⟩ := id hs
  unfold Builtin.Slice.sliceApplied Builtin.Slice.sliceFields
  refine wpAny_bind (wpAny_bind (wpAny_field hos hds (x := vl) rfl (wpAny_bind (wpAny_field hos hds (x := vu) rfl (wpAny_bind (wpAny_field hos hds (x := vs) rfl (wpAny_pure ?_)))))))
  refine wpAny_bind (slicePart_ ps ?_)
  show wpAny _ _ (if ((-1 : Int) == 0) = true then _ else _) _ _ s
  rw [if_neg (by decide)]
  refine wpAny_bind (slicePart_ pl (wpAny_bind (slicePart_ pu (wpAny_bind (wpAny_pure ?_)))))
  show wpAny _ _ (match Builtin.Slice.sliceAdjust none none (-1) (2 : Int) with | (lo, hi) => pure (lo, (-1 : Int), Builtin.Slice.slicePlaces lo hi (-1))) _ _ s
  rw [show Builtin.Slice.sliceAdjust none none (-1) (2 : Int) = (1, -1) by decide]
  show wpAny _ _ (pure ((1 : Int), (-1 : Int), Builtin.Slice.slicePlaces 1 (-1) (-1))) _ _ s
  rw [show Builtin.Slice.slicePlaces 1 (-1) (-1) = 2 by decide]
  exact wpAny_pure h
theorem getItem_pair_rev {t sl : Addr} {u v : Value} {vl vu vs : Value} {Q : Value → Shared → Prop} (ht : IsTup s.heap t #[u, v]) (hs : s.heap.IsSliceOf sl vl vu vs) (pl : IsPart vl none) (pu : IsPart vu none) (ps : IsPart vs (some (-1)))
    (h : Q (.ref s.heap.objs.size) { s with heap := s.heap.push { cls := .type "tuple", data := .seq #[v, u] } }) : wpAny (model prog w) A (getItem (.ref t) (.ref sl)) Q E s := by
  have htake : sizeOk (.seq #[v, u]) := by
    show 2 ≤ sizeLine
    decide
  obtain ⟨os, hos, hcs, hds⟩ := id hs
  have hTs : s.TypeIs (.ref sl) "slice" := ⟨os, hos, hcs⟩
  unfold getItem
  try with_reducible refine wpAny_holding ?_
  first | refine wpAny_bind (wpAny_pure ?_) | skip
  refine wpAny_bind (wpAny_sequenceKey ht.typeIs (by decide) ?_)
  refine wpAny_bind (wpAny_callSpecial?_slot (name := Str.ofString "__getitem__") ht.typeIs PyProof.Rows.slot_tuple_getitem
    (wpAny_call_entry PyProof.Rows.slot_tuple_getitem ht.typeIs entry_tuple_getitem ?_ (args_tuple_getitem _ _)))
  show wpAny _ _ (Builtin.Tuple.tupleItemsOf (.ref t) >>= _) _ _ s
  refine wpAny_bind (tupleItemsOf_ ht ?_)
  refine wpAny_bind (wpAny_typeOf hTs ?_)
  rw [if_pos (by decide)]
  refine wpAny_bind (sliceApplied_rev hs pl pu ps ?_)
  show wpAny _ _ (if ((1 : Int) == 0 && (-1 : Int) == 1 && 2 == (#[u, v] : Array Value).size) = true then _ else _) _ _ s
  rw [if_neg (by show ¬ ((false && (-1 : Int) == 1 && 2 == (#[u, v] : Array Value).size) = true); simp)]
  have e : ((List.range 2).filterMap fun (k : Nat) => (#[u, v] : Array Value)[((1 : Int) + (k : Int) * (-1)).toNat]?).toArray = #[v, u] := rfl
  rw [e]
  first
    | exact wpAny_bind (m := Builtin.Tuple.tupleExact _) (wpAny_newObj_type (wpAny_pure ⟨_, rfl, wpAny_pure h⟩) htake)
    | exact wpAny_bind (m := Builtin.Tuple.tupleExact _) (wpAny_newObj_type (wpAny_bind (wpAny_pure (wpAny_pure ⟨_, rfl, wpAny_pure h⟩))) htake)
    | exact wpAny_bind (wpAny_bind (m := Builtin.Tuple.tupleExact _) (wpAny_newObj_type (wpAny_pure (wpAny_pure ⟨_, rfl, wpAny_pure h⟩)) htake))
    | exact wpAny_bind (wpAny_bind (m := Builtin.Tuple.tupleExact _) (wpAny_newObj_type (wpAny_pure ⟨_, rfl, wpAny_pure h⟩) htake))
end
/-! t[::-1], t a pair -/
def tRevP (K : PySem.W.Frag) (te : TE) : TE := fun σ H Q => te σ H fun x H1 => ∃ (a : Addr) (y z : L2.V), x = .ref a ∧ SqT K H1 a [y, z] ∧ ∀ p, H1 p = none → Q (.ref p) (upd H1 p (.tup [z, y]))
theorem pe_revP {X : Cx} {e : Expr} {te : TE} {k : Nat} {p1 p2 p3 pos : Pos} (he : PE X e te) : PE X (.Subscript e (.Slice none none (some (.UnaryOp .USub (.Constant (.int 1) k p1) p2)) p3) pos) (tRevP X.K te) := by
  refine ⟨fun pins s σ H Q I h => ?_⟩
  refine Subscript_ (thn (he.run pins s σ H _ I h) fun v s1 ⟨x, H1, I1, r1, q1⟩ => ?_)
  obtain ⟨a, y, z, ex, hx, q⟩ := q1
  subst ex
  cases r1
  have hst : PO X (some (.UnaryOp .USub (.Constant (.int 1) k p1) p2)) (tPart (tUn (rU fun i => .int (-i)) (tC (.int 1)))) := po_some (pe_un un_neg pe_int)
  refine wpAny_Slice (thn (po_none.run pins s1 σ H1 (fun o H2 => o = none ∧ H2 = H1) I1 ⟨rfl, rfl⟩) fun vl s2 ⟨l, H2, I2, pl, el, e2⟩ => ?_)
  subst el e2
  refine thn (po_none.run pins s2 σ H2 (fun o H3 => o = none ∧ H3 = H2) I2 ⟨rfl, rfl⟩) fun vu s3 ⟨u, H3, I3, pu, eu, e3⟩ => ?_
  subst eu e3
  refine thn (hst.run pins s3 σ H3 (fun o H4 => o = some (-1) ∧ H4 = H3) I3 ⟨1, rfl, -1, rfl, rfl, rfl⟩) fun vs s4 ⟨o, H4, I4, ps, eo, e4⟩ => ?_
  subst eo e4
  have I5 : Inv X pins σ H4 { s4 with heap := s4.heap.push { cls := .type "slice", data := .fields #[vl, vu, vs] } } := I4.kept (t' := s4.toks) fun b ob q => Heap.get?_push_of_some _ q
  obtain ⟨its, r, ht, hz⟩ := I5.tuple hx
  cases r with
  | @cons _ u0 _ _ r0 rr =>
    cases rr with
    | @cons _ u1 _ _ r1 rr =>
      cases rr
      show wpAny (model X.prog X.w) X.A (subscriptTail e (.Slice none none (some (.UnaryOp .USub (.Constant (.int 1) k p1) p2)) p3) (.ref a) (.ref s4.heap.objs.size)) (EP X pins σ Q) X.xe { s4 with heap := s4.heap.push { cls := .type "slice", data := .fields #[vl, vu, vs] } }
      refine tail_any (ops := [.ref a, .ref s4.heap.objs.size]) ht.typeIs (PyProof.Rows.slot_tuple_getitem.lookup) ?_ (by with_unfolding_all rfl)
      refine getItem_pair_rev (u := u0) (v := u1) ht (Heap.IsSliceOf.new _ vl vu vs) pl pu ps ?_
      refine ⟨.ref _, _, I5.laid (t' := s4.toks) (o := .tup [z, y]) (fun b ob q => Heap.get?_push_of_some _ q) (Nat.le_refl _) ?_, rfl, q _ (I5.hok.fresh (Nat.le_refl _))⟩
      exact ⟨by show 2 ≤ sizeLine; decide, [u1, u0], .cons r1 (.cons r0 .nil), IsTup.new _ _⟩
end K03


set_option Elab.async false
set_option maxRecDepth 100000
set_option maxHeartbeats 2000000
set_option linter.all false
namespace K03
open PySem PySem.Spec PyProof.Rows L2
/-! ### a list or a tuple, whichever it is -/
/-- what stood at a stands there still -/
def Stay (K : PySem.W.Frag) (a : Addr) (H H' : Hp) : Prop := (∀ ys, SqL K H a ys → SqL K H' a ys) ∧ ∀ ys, SqT K H a ys → SqT K H' a ys
theorem Stay.of {K : PySem.W.Frag} {a : Addr} {H H' : Hp} (s : Same H H') : Stay K a H H' := ⟨fun _ h => s.seq h, fun _ h => sqt_same s h⟩
theorem Stay.sqa {K : PySem.W.Frag} {a : Addr} {H H' : Hp} (s : Stay K a H H') {xs : List V} (h : SqA K H a xs) : SqA K H' a xs := h.elim (fun h => .inl (s.1 _ h)) fun h => .inr (s.2 _ h)
/-- J walks the items xs that stood at a -/
def IsW (K : PySem.W.Frag) (a : Addr) (xs : List V) (H1 : Hp) (J : It) : Prop := ∀ i H, Stay K a H1 H → (∀ x, xs[i]? = some x → J.go i H) ∧ (∀ x H', J.yld i H x H' → H' = H ∧ xs[i]? = some x) ∧ (xs.length ≤ i → J.stop i H)
def iSeq (K : PySem.W.Frag) (tl : TE) : TI := fun σ H R => tl σ H fun x H1 => ∃ a xs, x = .ref a ∧ SqA K H1 a xs ∧ ∀ J, IsW K a xs H1 J → R J H1
section
variable {X : Cx}
theorem pi_seq {tg l : Expr} {tl : TE} (hl : PE X l tl) : PI X tg l (iSeq X.K tl) := by
  refine ⟨fun pins s σ H R I h => ?_⟩
  refine thn (hl.run pins s σ H _ I h) fun v s1 ⟨x, H1, I1, r1, q1⟩ => ?_
  obtain ⟨a, xs, rfl, hs, q⟩ := q1
  rcases hs with hs | hs
  · have w : IsW X.K a xs H1 (Itl X.K a) := fun i H st => ⟨fun x e => ⟨xs, x, st.1 _ hs, e⟩, fun x H' y => ⟨y.1, y.2 xs (st.1 _ hs)⟩, fun e => ⟨xs, st.1 _ hs, e⟩⟩
    cases r1
    obtain ⟨its, rv, p, hz⟩ := I1.list hs
    refine wpAny_pyIter_list p.isList ?_
    refine ⟨s1.heap.objs.size, [s1.heap.objs.size], _, _, H1, rfl, I1.kept (t' := s1.toks) fun b o e => Heap.get?_push_of_some _ e, turn_list a _, ⟨_, Heap.get?_push_size _ rfl, rfl, rfl⟩, fun b hb => ?_, q _ w⟩
    obtain rfl : b = s1.heap.objs.size := by simpa using hb
    exact I1.fpOk (Nat.le_refl _) (I1.hok.fresh (Nat.le_refl _))
  · have w : IsW X.K a xs H1 (Itt X.K a) := fun i H st => ⟨fun x e => ⟨xs, x, st.2 _ hs, e⟩, fun x H' y => ⟨y.1, y.2 xs (st.2 _ hs)⟩, fun e => ⟨xs, st.2 _ hs, e⟩⟩
    cases r1
    obtain ⟨its, rv, p, hz⟩ := I1.tuple hs
    refine wpAny_pyIter_tuple (show s1.heap.IsTuple a its.toArray from p) ?_
    refine ⟨s1.heap.objs.size, [s1.heap.objs.size], _, _, H1, rfl, I1.kept (t' := s1.toks) fun b o e => Heap.get?_push_of_some _ e, turn_tuple a _, ⟨_, Heap.get?_push_size _ rfl, rfl, rfl⟩, fun b hb => ?_, q _ w⟩
    obtain rfl : b = s1.heap.objs.size := by simpa using hb
    exact I1.fpOk (Nat.le_refl _) (I1.hok.fresh (Nat.le_refl _))
end
theorem for_seq {K : PySem.W.Frag} {a : Addr} {xs : List V} {H1 : Hp} {J : It} (Wk : IsW K a xs H1 J) {g : TG} {tb : TS} {D : Ends} {σ : L2.St} {H : Hp} (Pv : Nat → L2.St → Hp → Prop) (h0 : Pv 0 σ H) (hl : ∀ i σ H, i ≤ xs.length → Pv i σ H → Stay K a H1 H)
    (hs : ∀ i x σ H, xs[i]? = some x → Pv i σ H → g x σ H fun σ2 H2 => tb { D with nx := Pv (i + 1), ct := Pv (i + 1), bk := D.nx } σ2 H2) (hd : ∀ σ H, Pv xs.length σ H → D.nx σ H) :
    ∃ W : Nat → Nat → L2.St → Hp → Prop, (∃ m, W 0 m σ H) ∧ ∀ i m σ H, W i m σ H →
      (J.stop i H ∧ D.nx σ H) ∨ (J.go i H ∧ ∃ N : L2.St → Hp → Prop, (∀ σ' H', N σ' H' → ∃ m', m' < m ∧ W (i + 1) m' σ' H') ∧ ∀ x H', J.yld i H x H' → g x σ H' fun σ2 H2 => tb { D with nx := N, ct := N, bk := D.nx } σ2 H2) := by
  refine ⟨fun i m σ H => m + i = xs.length ∧ Pv i σ H, ⟨xs.length, rfl, h0⟩, fun i m σ H h => ?_⟩
  obtain ⟨hm, p⟩ := h
  obtain ⟨w1, w2, w3⟩ := Wk i H (hl i σ H (by omega) p)
  rcases Nat.lt_or_ge i xs.length with lt | ge
  · refine .inr ⟨w1 xs[i] (List.getElem?_eq_getElem lt), Pv (i + 1), fun σ' H' p' => ⟨m - 1, by omega, by omega, p'⟩, fun x H' y => ?_⟩
    obtain ⟨rfl, e⟩ := w2 x H' y
    exact hs i x σ _ e p
  · have e : i = xs.length := by omega
    subst e
    exact .inl ⟨w3 (Nat.le_refl _), hd σ H p⟩
theorem lc_seq {K : PySem.W.Frag} {a : Addr} {xs : List V} {H0 : Hp} {J : It} (Wk : IsW K a xs H0 J) {g : TG} {tt : TT} {te : TE} {vs : List Nat} {σ : L2.St} {H1 : Hp} {D : Addr} {Qd : Hp → Prop} (Pv : Nat → Hp → Prop) (h0 : Pv 0 (upd H1 D (.lst []))) (hl : ∀ i H, i ≤ xs.length → Pv i H → Stay K a H0 H)
    (hs : ∀ i x H, xs[i]? = some x → Pv i H → g x (wipe σ vs) H fun σ2 H2 => wipe σ2 vs = wipe σ vs ∧ tt σ2 H2 fun b H3 =>
      if b = true then te σ2 H3 fun y H4 => ∃ acc, H4 D = some (.lst acc) ∧ acc.length < sizeLine ∧ Pv (i + 1) (upd H4 D (.lst (acc ++ [y]))) else Pv (i + 1) H3) (hd : ∀ H, Pv xs.length H → Qd H) :
    ∃ W : Nat → Nat → Hp → Prop, (∃ m, W 0 m (upd H1 D (.lst []))) ∧ ∀ i m H, W i m H →
      (J.stop i H ∧ Qd H) ∨ (J.go i H ∧ ∃ Nx : Hp → Prop, (∀ H', Nx H' → ∃ m', m' < m ∧ W (i + 1) m' H') ∧ ∀ x H', J.yld i H x H' → g x (wipe σ vs) H' fun σ2 H2 => wipe σ2 vs = wipe σ vs ∧ tt σ2 H2 fun b H3 =>
        if b = true then te σ2 H3 fun y H4 => ∃ acc, H4 D = some (.lst acc) ∧ acc.length < sizeLine ∧ Nx (upd H4 D (.lst (acc ++ [y]))) else Nx H3) := by
  refine ⟨fun i m H => m + i = xs.length ∧ Pv i H, ⟨xs.length, rfl, h0⟩, fun i m H h => ?_⟩
  obtain ⟨hm, p⟩ := h
  obtain ⟨w1, w2, w3⟩ := Wk i H (hl i H (by omega) p)
  rcases Nat.lt_or_ge i xs.length with lt | ge
  · refine .inr ⟨w1 xs[i] (List.getElem?_eq_getElem lt), Pv (i + 1), fun H' p' => ⟨m - 1, by omega, by omega, p'⟩, fun x H' y => ?_⟩
    obtain ⟨rfl, e⟩ := w2 x H' y
    exact hs i x _ e p
  · have e : i = xs.length := by omega
    subst e
    exact .inl ⟨w3 (Nat.le_refl _), hd H p⟩
/-! ### x is True -/
def rIsT : R2 := fun x y H Q => ∃ b : Bool, y = .bl b ∧ ((∃ i, x = .int i ∧ Q (.bl false) H) ∨ ∃ c : Bool, x = .bl c ∧ Q (.bl (decide (c = b))) H)
theorem op_isT {X : Cx} : OpR X (compareOp .Is) rIsT := by
  intro pins s σ H x y v u Q I rx ry h
  obtain ⟨b, rfl, h⟩ := h
  cases (show u = Value.bool b from ry)
  rcases h with ⟨i, rfl, q⟩ | ⟨c, rfl, q⟩
  · obtain ⟨t, e⟩ := (show ∃ t, v = Value.int i t from rx)
    subst e
    exact wpAny_is_other rfl (fun z => by cases z) ⟨.bl false, H, I, rfl, q⟩
  · cases (show v = Value.bool c from rx)
    by_cases e : c = b
    · subst e
      exact wpAny_is_self rfl ⟨.bl true, H, I, rfl, by simpa using q⟩
    · exact wpAny_is_other rfl (fun z => e (Value.bool.inj z)) ⟨.bl false, H, I, rfl, by simpa [e] using q⟩
/-! ### own errors without an __init__ -/
/-- what the text says of such a class -/
structure PlX (K : PySem.W.Frag) (mg : Str → Option Value) (x : Str) (C : Addr) : Prop where
  q : PySem.W.excIn K C [.type "ValueError", .type "Exception", .type "BaseException", .type "object"] "ValueError.__new__" = true
  g : mg x = some (.ref C)
  k : PySem.W.keepIn K (.ref C) = true
  s : PySem.W.subIn K (.ref C) (.type "BaseException") = some true
  t : PySem.W.typeIn K (.ref C) = some (.type "type")
/-- the way out: this error -/
def Rp (C : Addr) (H : Hp) (E : XK) : Prop := ∀ H', Same H H' → E (.ref C) none H'
theorem Rp.same {C : Addr} {H H' : Hp} {E : XK} (s : Same H H') (h : Rp C H E) : Rp C H' E := fun H2 s2 => h H2 (s.trans s2)
end K03


set_option Elab.async false
set_option maxRecDepth 100000
set_option maxHeartbeats 4000000
set_option linter.all false
namespace K03
open PySem PySem.Spec PyProof.Rows L2
/-! zip of two, each of them a list or a tuple -/
def sk (k : Bool) (K : PySem.W.Frag) (H : Hp) (a : Addr) (xs : List V) : Prop := match k with | true => SqT K H a xs | false => SqL K H a xs
def ik (k : Bool) (h : Heap) (it a : Addr) (i : Nat) : Prop := match k with | true => h.IsTupleIter it a i | false => h.IsListIter it a i
def hk (k : Bool) (h : Heap) (a : Addr) (items : Array Value) : Prop := match k with | true => h.IsTuple a items | false => h.IsList a items
theorem dr_k {prog : Program} {w : World} {A : Around} (k : Bool) (hh : A.handled = none) (it a : Addr) (hne : a ≠ it) (items : Array Value) : Draws prog w A it [it, a] items.size (fun i v => items[i]? = some v) (fun i h => ik k h it a i ∧ hk k h a items) := by
  cases k
  · exact Draws.list hh it a hne items
  · exact Draws.tuple hh it a hne items
theorem ik_obj {k : Bool} {h : Heap} {it a : Addr} {i : Nat} (x : ik k h it a i) : ∃ o, h.get? it = some o ∧ ∀ v, o.data ≠ .cell v := by
  cases k <;> exact (let ⟨o, e, _, d⟩ := x; ⟨o, e, fun v z => by rw [d] at z; cases z⟩)
theorem ik_keep {k : Bool} {h h' : Heap} {it a : Addr} {i : Nat} (x : ik k h it a i) (e : ∀ o, h.get? it = some o → h'.get? it = some o) : ik k h' it a i := by
  cases k
  · exact Heap.IsListIter.at x fun o q => e o q
  · exact Heap.IsTupleIter.at x fun o q => e o q
theorem ik_beg {k : Bool} {h : Heap} {it a : Addr} (e : h.get? it = some { cls := .type (match k with | true => "tuple_iterator" | false => "list_iterator"), data := .fields #[.ref a, .int 0 0] }) : ik k h it a 0 := by
  cases k <;> exact ⟨_, e, rfl, rfl⟩
theorem bg_k (k : Bool) (a : Addr) (items : Array Value) : Begins (.ref a) { cls := .type (match k with | true => "tuple_iterator" | false => "list_iterator"), data := .fields #[.ref a, .int 0 0] } fun h => hk k h a items := by
  cases k
  · exact begins_list a items
  · exact begins_tuple a items
section
variable {X : Cx} {pins : List (Addr × Obj)} {σ : L2.St} {H : Hp} {s : Shared}
theorem src_k {k : Bool} (I : Inv X pins σ H s) {a : Addr} {xs : List V} (h : sk k X.K H a xs) : ∃ its : List Value, Vals xs its ∧ hk k s.heap a its.toArray ∧ a < s.heap.objs.size := by
  cases k
  · obtain ⟨its, rv, p, _⟩ := I.list h
    exact ⟨its, rv, p.isList, p.lt⟩
  · obtain ⟨its, rv, p, _⟩ := I.tuple h
    obtain ⟨o, e, _⟩ := id p
    exact ⟨its, rv, p, Heap.lt_size e⟩
theorem sk_inj {k : Bool} (I : Inv X pins σ H s) {a : Addr} {xs ys : List V} (h : sk k X.K H a xs) (h' : sk k X.K H a ys) : xs = ys := by
  cases k
  · exact I.list_inj h h'
  · exact I.tuple_inj h h'
end
/-- the two as they stand at each turn, the items in new pairs -/
def Iz2 (k1 k2 : Bool) (K : PySem.W.Frag) (a b : Addr) : It where
  go i H := ∃ (xs ys : List V) (x y : V), sk k1 K H a xs ∧ sk k2 K H b ys ∧ xs[i]? = some x ∧ ys[i]? = some y
  yld i H v H' := ∃ T x y, v = .ref T ∧ H T = none ∧ H' = upd H T (.tup [x, y]) ∧ (∀ xs, sk k1 K H a xs → xs[i]? = some x) ∧ ∀ ys, sk k2 K H b ys → ys[i]? = some y
  stop i H := ∃ xs ys : List V, sk k1 K H a xs ∧ sk k2 K H b ys ∧ i ≤ xs.length ∧ i ≤ ys.length ∧ (i = xs.length ∨ i = ys.length)
theorem sep_of {z TI TO i1 i2 a b : Addr} (D : ZipApart z TI TO i1 i2 a b) : ZipSep2 z TI TO i1 i2 [i1, a] [i2, b] where
  TIz := D.TIz
  TOz := D.TOz
  TITO := D.TITO
  TIi1 := D.TIi1
  mem1 := by simp
  zf1 := by
    have := D.i1z
    have := D.l1z
    simp only [List.mem_cons, List.not_mem_nil, or_false, not_or]
    exact ⟨fun e => D.i1z e.symm, fun e => D.l1z e.symm⟩
  Tf1 := by
    simp only [List.mem_cons, List.not_mem_nil, or_false, not_or]
    exact ⟨D.TOi1, fun e => D.l1TO e.symm⟩
  TIi2 := D.TIi2
  mem2 := by simp
  zf2 := by
    simp only [List.mem_cons, List.not_mem_nil, or_false, not_or]
    exact ⟨fun e => D.i2z e.symm, fun e => D.l2z e.symm⟩
  Tf2 := by
    simp only [List.mem_cons, List.not_mem_nil, or_false, not_or]
    exact ⟨D.TOi2, fun e => D.l2TO e.symm⟩
  sep1_2 := by
    simp only [List.mem_cons, List.not_mem_nil, or_false, not_or]
    exact ⟨D.i12, fun e => D.l2i1 e.symm⟩
  sep2_1 := by
    simp only [List.mem_cons, List.not_mem_nil, or_false, not_or]
    exact ⟨fun e => D.i12 e.symm, fun e => D.l1i2 e.symm⟩
theorem turn_z2 {P : Program} {w : World} {K : PySem.W.Frag} {elts : List Expr} {kk : Nat} {tpos : Pos} {k1 k2 : Bool} {a b z TI TO i1 i2 : Addr} (D : ZipApart z TI TO i1 i2 a b) :
    Turn P w K (.Tuple elts kk tpos) (Iz2 k1 k2 K a b) [z, TI, TO, i1, i2] z (fun i h => IsZip h z TI TO .none ∧ IsTupOf2 h TI (.ref i1) (.ref i2) ∧ (∃ x y, IsTupOf2 h TO x y) ∧ ik k1 h i1 a i ∧ ik k2 h i2 b i) where
  mem := by simp
  obj := fun i h st c hc => by
    obtain ⟨q1, q2, ⟨x, y, q3⟩, q4, q5⟩ := st
    simp only [List.mem_cons, List.not_mem_nil, or_false] at hc
    rcases hc with rfl | rfl | rfl | rfl | rfl
    · exact ⟨_, q1, fun v q => nomatch q⟩
    · exact ⟨_, q2, fun v q => nomatch q⟩
    · exact ⟨_, q3, fun v q => nomatch q⟩
    · exact ik_obj q4
    · exact ik_obj q5
  keep := fun i h h' st e => by
    obtain ⟨q1, q2, ⟨x, y, q3⟩, q4, q5⟩ := st
    exact ⟨e z (by simp) _ q1, e TI (by simp) _ q2, ⟨x, y, e TO (by simp) _ q3⟩, ik_keep q4 (e i1 (by simp)), ik_keep q5 (e i2 (by simp))⟩
  item := by
    intro X hP hw hK hc i pins s σ H E I hf st hg
    subst hP hw hK
    obtain ⟨q1, q2, ⟨x0, y0, q3⟩, q4, q5⟩ := st
    obtain ⟨xs, ys, x, y, hqx, hqy, hx, hy⟩ := hg
    obtain ⟨its, rx, px, _⟩ := src_k I hqx
    obtain ⟨its2, ry, py, _⟩ := src_k I hqy
    obtain ⟨u, hu, ru⟩ := rx.get hx
    obtain ⟨u2, hu2, ru2⟩ := ry.get hy
    have hin : X.A.in1.handled = none := I.ok.hd hc
    refine wpAny_pyNext_zipD2_item (sep_of D) (dr_k k1 hin i1 a D.l1i1 its.toArray) (dr_k k2 hin i2 b D.l2i2 its2.toArray) q1 q2 q3 ⟨q4, px⟩ ⟨q5, py⟩ (by simpa using (List.getElem?_eq_some_iff.mp hu).1) (by simpa using (List.getElem?_eq_some_iff.mp hu2).1) fun v1 v2 h' tk e1 e2 z' TO' d1 d2 hT hsz ke => ?_
    obtain rfl : u = v1 := by
      have e1' : its.toArray[i]? = some v1 := e1
      simp only [List.getElem?_toArray] at e1'
      rw [hu] at e1'
      exact Option.some.inj e1'
    obtain rfl : u2 = v2 := by
      have e2' : its2.toArray[i]? = some v2 := e2
      simp only [List.getElem?_toArray] at e2'
      rw [hu2] at e2'
      exact Option.some.inj e2'
    refine ⟨_, rfl, wpAny_letOwnedTupleGo_zip (s := { s with heap := h', toks := tk }) z' fun h'' z'' sb => ?_⟩
    have hzl : z < s.heap.objs.size := Heap.lt_size q1
    have hT2 : h''.get? s.heap.objs.size = some { cls := .type "tuple", data := .seq #[u, u2] } := (sb.2 _ (Nat.ne_of_gt hzl)).trans hT
    have kp : ∀ c o, c ∉ [z, TI, TO, i1, i2] → s.heap.get? c = some o → h''.get? c = some o := fun c o nc e => by
      simp only [List.mem_cons, List.not_mem_nil, or_false, not_or] at nc
      exact (sb.2 c nc.1).trans (ke c o nc.1 nc.2.2.1 nc.2.2.2.1 nc.2.2.2.2 e)
    have nw : ObjOk X.prog X.w (upd H s.heap.objs.size (.tup [x, y])) h'' s.heap.objs.size (.tup [x, y]) := ⟨by show 2 ≤ sizeLine; decide, [u, u2], .cons ru (.cons ru2 .nil), ⟨_, hT2, rfl, _, rfl⟩⟩
    refine ⟨.ref s.heap.objs.size, _, I.turnedNew (t' := tk) (ch := [z, TI, TO, i1, i2]) kp hf (Nat.le_refl _) nw, rfl, ⟨_, x, y, rfl, I.hok.fresh (Nat.le_refl _), rfl, fun l hl => by rw [sk_inj I hl hqx]; exact hx, fun l hl => by rw [sk_inj I hl hqy]; exact hy⟩, ⟨z'', ?_, ⟨u, u2, (sb.2 _ D.TOz).trans TO'⟩, ?_, ?_⟩, fun c hcm => ?_⟩
    · exact (sb.2 _ D.TIz).trans (ke _ _ D.TIz D.TITO D.TIi1 D.TIi2 q2)
    · exact ik_keep d1.1 fun o q => (sb.2 _ D.i1z).trans q
    · exact ik_keep d2.1 fun o q => (sb.2 _ D.i2z).trans q
    · have hlt : c < s.heap.objs.size := by
        have hcm2 := hcm
        simp only [List.mem_cons, List.not_mem_nil, or_false] at hcm2
        rcases hcm2 with rfl | rfl | rfl | rfl | rfl
        · exact hzl
        · exact Heap.lt_size q2
        · exact Heap.lt_size q3
        · obtain ⟨o, e, _⟩ := ik_obj q4; exact Heap.lt_size e
        · obtain ⟨o, e, _⟩ := ik_obj q5; exact Heap.lt_size e
      rw [upd_ne (Nat.ne_of_lt hlt)]
      exact (hf c hcm).1
  done := by
    intro X hP hw hK hc i pins s σ H E I hf st hg
    subst hP hw hK
    obtain ⟨q1, q2, ⟨x0, y0, q3⟩, q4, q5⟩ := st
    obtain ⟨xs, ys, hqx, hqy, l1, l2, hend⟩ := hg
    obtain ⟨its, rx, px, _⟩ := src_k I hqx
    obtain ⟨its2, ry, py, _⟩ := src_k I hqy
    have e1 := rx.length
    have e2 := ry.length
    have hin : X.A.in1.handled = none := I.ok.hd hc
    refine wpAny_pyNext_zipD2_end (sep_of D) (dr_k k1 hin i1 a D.l1i1 its.toArray) (dr_k k2 hin i2 b D.l2i2 its2.toArray) q1 q2 q3 ⟨q4, px⟩ ⟨q5, py⟩ (by simp; omega) (by simp; omega) (by simp; omega) fun h' tk ke => ⟨rfl, I.turnedL (t' := tk) (ch := [z, TI, TO, i1, i2]) (fun c o nc e => ?_) hf⟩
    simp only [List.mem_cons, List.not_mem_nil, or_false, not_or] at nc
    exact ke c o nc.1 nc.2.2.1 nc.2.2.2.1 nc.2.2.2.2 e
  self := fun A i s Q E st h => wpAny_pyIter_zip st.1 h
/-- J walks the pairs of the items xs that stood at a and ys that stood at b -/
def IsZ (K : PySem.W.Frag) (a b : Addr) (xs ys : List V) (H1 : Hp) (J : It) : Prop := ∀ i H, Stay K a H1 H → Stay K b H1 H → (∀ x y, xs[i]? = some x → ys[i]? = some y → J.go i H) ∧ (∀ v H', J.yld i H v H' → ∃ T x y, v = .ref T ∧ H T = none ∧ H' = upd H T (.tup [x, y]) ∧ xs[i]? = some x ∧ ys[i]? = some y) ∧
  (i ≤ xs.length → i ≤ ys.length → (i = xs.length ∨ i = ys.length) → J.stop i H)
def iZ2 (K : PySem.W.Frag) (ta : TA) : TI := fun σ H R => ta σ H fun vs H1 => ∃ a b xs ys, vs = [.ref a, .ref b] ∧ SqA K H1 a xs ∧ SqA K H1 b ys ∧ ∀ J, IsZ K a b xs ys H1 J → R J H1
theorem sk_of {K : PySem.W.Frag} {H : Hp} {a : Addr} {xs : List V} (h : SqA K H a xs) : ∃ k, sk k K H a xs := h.elim (fun h => ⟨false, h⟩) fun h => ⟨true, h⟩
theorem sk_stay {K : PySem.W.Frag} {H H' : Hp} {a : Addr} {xs : List V} {k : Bool} (s : Stay K a H H') (h : sk k K H a xs) : sk k K H' a xs := by
  cases k
  · exact s.1 _ h
  · exact s.2 _ h
theorem pi_z2 {X : Cx} {e e2 : Expr} {ta : TA} {p pos tpos : Pos} {elts : List Expr} {kk : Nat} (hg : Gl X "zip") (hm : X.mg "zip" = none) (ha : PA X [e, e2] ta)
    (hs : starEach [e, e2] X.env = (false, eval e X.env) :: starEach [e2] X.env := by rfl) (hpl : (backTo pos (starEach [e2] X.env)).any (·.1) = false := by rfl) :
    PI X (.Tuple elts kk tpos) (.Call (.Name "zip" p) [e, e2] [] pos) (iZ2 X.K ta) := by
  refine ⟨fun pins s σ H R I h => ?_⟩
  refine Call_ (ld_blt I hg hm PyProof.Rows.boot_zip (PyProof.Rows.callWith_type1 (thn (ha.run pos pins s σ H _ I h) fun us s1 ⟨vs, H1, I1, r1, q1⟩ => ?_) hs hpl))
  obtain ⟨a, b, xs, ys, rfl, hx, hy, q⟩ := q1
  obtain ⟨k1, hx⟩ := sk_of hx
  obtain ⟨k2, hy⟩ := sk_of hy
  have wk : IsZ X.K a b xs ys H1 (Iz2 k1 k2 X.K a b) := fun i H s1 s2 => ⟨fun x y e1 e2 => ⟨xs, ys, x, y, sk_stay s1 hx, sk_stay s2 hy, e1, e2⟩, fun v H' ⟨T, x, y, e1, e2, e3, f1, f2⟩ => ⟨T, x, y, e1, e2, e3, f1 _ (sk_stay s1 hx), f2 _ (sk_stay s2 hy)⟩, fun l1 l2 e => ⟨xs, ys, sk_stay s1 hx, sk_stay s2 hy, l1, l2, e⟩⟩
  obtain ⟨its, rx, px, la⟩ := src_k I1 hx
  obtain ⟨its2, ry, py, lb⟩ := src_k I1 hy
  cases r1 with
  | cons r rr =>
    cases rr with
    | cons r' rr =>
      cases rr
      cases r
      cases r'
      refine zip_begins2 (bg_k k1 a its.toArray) (bg_k k2 b its2.toArray) px py fun h' hz hTI hTO h1 h2 hsz kp => wpAny_pyIter_zip hz ?_
      refine ⟨s1.heap.objs.size + 4, [s1.heap.objs.size + 4, s1.heap.objs.size + 2, s1.heap.objs.size + 3, s1.heap.objs.size, s1.heap.objs.size + 1], _, _, H1, rfl, I1.kept (t' := s1.toks) kp, turn_z2 (PySem.W.ktu_apart s1.heap.objs.size a b la lb), ⟨hz, hTI, ⟨_, _, hTO⟩, ik_beg h1, ik_beg h2⟩, fun c hcm => ?_, q _ wk⟩
      have hle : s1.heap.objs.size ≤ c := by
        simp only [List.mem_cons, List.not_mem_nil, or_false] at hcm
        rcases hcm with e | e | e | e | e <;> rw [e] <;> first | exact Nat.le_add_right _ _ | exact Nat.le_refl _
      exact I1.fpOk hle (I1.hok.fresh hle)
end K03
namespace K03
open PySem PySem.Spec PyProof.Rows L2
theorem lc_z2 {K : PySem.W.Frag} {a b : Addr} {xs ys : List V} {H0 : Hp} {J : It} (Wk : IsZ K a b xs ys H0 J) (hl : xs.length = ys.length) {g : TG} {tt : TT} {te : TE} {vs : List Nat} {σ : L2.St} {H1 : Hp} {D : Addr} {Qd : Hp → Prop} (Pv : Nat → Hp → Prop) (h0 : Pv 0 (upd H1 D (.lst [])))
    (hq : ∀ i H, i ≤ xs.length → Pv i H → Stay K a H0 H ∧ Stay K b H0 H)
    (hs : ∀ i x y T H, xs[i]? = some x → ys[i]? = some y → Pv i H → H T = none → g (.ref T) (wipe σ vs) (upd H T (.tup [x, y])) fun σ2 H2 => wipe σ2 vs = wipe σ vs ∧ tt σ2 H2 fun b H3 =>
      if b = true then te σ2 H3 fun y H4 => ∃ acc, H4 D = some (.lst acc) ∧ acc.length < sizeLine ∧ Pv (i + 1) (upd H4 D (.lst (acc ++ [y]))) else Pv (i + 1) H3) (hd : ∀ H, Pv xs.length H → Qd H) :
    ∃ W : Nat → Nat → Hp → Prop, (∃ m, W 0 m (upd H1 D (.lst []))) ∧ ∀ i m H, W i m H →
      (J.stop i H ∧ Qd H) ∨ (J.go i H ∧ ∃ Nx : Hp → Prop, (∀ H', Nx H' → ∃ m', m' < m ∧ W (i + 1) m' H') ∧ ∀ x H', J.yld i H x H' → g x (wipe σ vs) H' fun σ2 H2 => wipe σ2 vs = wipe σ vs ∧ tt σ2 H2 fun b H3 =>
        if b = true then te σ2 H3 fun y H4 => ∃ acc, H4 D = some (.lst acc) ∧ acc.length < sizeLine ∧ Nx (upd H4 D (.lst (acc ++ [y]))) else Nx H3) := by
  refine ⟨fun i m H => m + i = xs.length ∧ Pv i H, ⟨xs.length, rfl, h0⟩, fun i m H h => ?_⟩
  obtain ⟨hm, p⟩ := h
  obtain ⟨s1, s2⟩ := hq i H (by omega) p
  obtain ⟨w1, w2, w3⟩ := Wk i H s1 s2
  rcases Nat.lt_or_ge i xs.length with lt | ge
  · refine .inr ⟨w1 xs[i] (ys[i]'(by omega)) (List.getElem?_eq_getElem lt) (List.getElem?_eq_getElem (by omega)), Pv (i + 1), fun H' p' => ⟨m - 1, by omega, by omega, p'⟩, fun v H' hv => ?_⟩
    obtain ⟨T, x, y, rfl, hT, rfl, e1, e2⟩ := w2 v H' hv
    exact hs i x y T _ e1 e2 p hT
  · have e : i = xs.length := by omega
    subst e
    exact .inl ⟨w3 (Nat.le_refl _) (by omega) (.inl rfl), hd H p⟩
end K03


set_option Elab.async false
set_option maxRecDepth 100000
set_option maxHeartbeats 4000000
set_option linter.all false
namespace K03
open PySem PySem.Spec PyProof.Rows L2
/-! enumerate of a list or a tuple -/
theorem meets_enum1 {v : Value} {o : Obj} {H : Heap → Prop} (B : Begins v o H) :
    Meets (Builtin.«enumerate.__new__» ⟨[.type "enumerate", v], []⟩) (fun _ R s => H s.heap ∧
      R (.ok (.ret (.ref (s.heap.push o).objs.size))) { s with heap := (s.heap.push o).push { cls := .type "enumerate", data := .fields #[.none, .bool false, .ref s.heap.objs.size, rawInt 0, .none, .none] } }) :=
  .of_wp fun prog w A R s h => by
    obtain ⟨hp, g, d, tk, os⟩ := s; obtain ⟨h1, h⟩ := h
    have hsub := sub_enumerate
    have q1 : ∀ {A' : Around} {E : Value → Shared → Prop} {Q : Value → Shared → Prop}, Q (.ref hp.objs.size) ⟨hp.push o, g, d, tk, os⟩ → wpAny (model prog w) A' (pyIter v) Q E ⟨hp, g, d, tk, os⟩ :=
      fun q => B.iter prog w _ _ ⟨hp, g, d, tk, os⟩ _ h1 q
    wp_walk using q1
    refine wpAny_stack_any fun st => wpAny_pure ?_
    split
    · rename_i c _ _ _ _ _
      cases (c == Value.type "enumerate")
      · wp_walk using q1
        exact ⟨_, rfl, h⟩
      · wp_walk using q1
        exact ⟨_, rfl, h⟩
    · wp_walk using q1
      exact ⟨_, rfl, h⟩
theorem enum_begins1 {prog : Program} {w : World} {A : Around} {E : Value → Shared → Prop} {s : Shared} {v : Value} {o : Obj} {H : Heap → Prop} {Q : Value → Shared → Prop} (B : Begins v o H) (h1 : H s.heap)
    (h : ∀ h', IsEnum h' (s.heap.objs.size + 1) s.heap.objs.size 0 .none → h'.get? s.heap.objs.size = some o → h'.objs.size = s.heap.objs.size + 2 →
      (∀ b o, s.heap.get? b = some o → h'.get? b = some o) → Q (.ref (s.heap.objs.size + 1)) { s with heap := h' }) :
    wpAny (model prog w) A (call (.type "enumerate") [v]) Q E s := by
  refine callType_new F.called_enumerate (by decide) (F.typeCall_enumerate_1 _) (F.newCall_enumerate_1 _) (fun obj => F.args_object_init_2 obj _) F.entry_enumerate_new
    (meets_enum1 B) ⟨h1, ?_⟩
  have hz : (s.heap.push o).objs.size = s.heap.objs.size + 1 := Heap.size_push ..
  show _ ∧ _
  rw [hz]
  have he : IsEnum ((s.heap.push o).push { cls := .type "enumerate", data := .fields #[.none, .bool false, .ref s.heap.objs.size, rawInt 0, .none, .none] }) (s.heap.objs.size + 1) s.heap.objs.size 0 .none := by
    have := Heap.get?_push_size (s.heap.push o) (o := { cls := .type "enumerate", data := .fields #[.none, .bool false, .ref s.heap.objs.size, rawInt 0, .none, .none] }) rfl
    rw [hz] at this; exact this
  refine ⟨⟨_, he, rfl⟩, h _ he (Heap.get?_push_of_some _ (Heap.get?_push_size _ B.free)) (by rw [Heap.size_push, hz]) fun b o x => Heap.get?_push_of_some _ (Heap.get?_push_of_some _ x)⟩
/-- the items as they stand at each turn, in new pairs -/
def Iek (k : Bool) (K : PySem.W.Frag) (a : Addr) : It where
  go i H := ∃ (xs : List V) (x : V), sk k K H a xs ∧ xs[i]? = some x
  yld i H v H' := ∃ T x, v = .ref T ∧ H T = none ∧ H' = upd H T (.tup [.int (i : Nat), x]) ∧ ∀ xs, sk k K H a xs → xs[i]? = some x
  stop i H := ∃ xs : List V, sk k K H a xs ∧ i = xs.length
theorem turn_ek {P : Program} {w : World} {K : PySem.W.Frag} {elts : List Expr} {kk : Nat} {tpos : Pos} {k : Bool} {a e it : Addr} (hne : e ≠ it) (hai : a ≠ it) (hae : a ≠ e) :
    Turn P w K (.Tuple elts kk tpos) (Iek k K a) [e, it] e (fun i h => (∃ old, IsEnum h e it ((i : Nat) : Int) old) ∧ ik k h it a i) where
  mem := by simp
  obj := fun i h st b hb => by
    obtain ⟨⟨old, he⟩, q⟩ := st
    have e' : b = e ∨ b = it := by simpa using hb
    rcases e' with z | z
    · rw [z]; exact ⟨_, he, fun v q => nomatch q⟩
    · rw [z]; exact ik_obj q
  keep := fun i h h' st kp => by
    obtain ⟨⟨old, he⟩, q⟩ := st
    exact ⟨⟨old, kp e (by simp) _ he⟩, ik_keep q (kp it (by simp))⟩
  item := by
    intro X hP hw hK hc i pins s σ H E I hf st hg
    subst hP hw hK
    obtain ⟨⟨old, he⟩, hit⟩ := st
    obtain ⟨xs, x, hq, hx⟩ := hg
    obtain ⟨its, rv, p, _⟩ := src_k I hq
    obtain ⟨u, hu, ru⟩ := rv.get hx
    have hin : X.A.in1.handled = none := I.ok.hd hc
    have hel : e < s.heap.objs.size := Heap.lt_size he
    have hil : it < s.heap.objs.size := by obtain ⟨o, q, _⟩ := ik_obj hit; exact Heap.lt_size q
    refine wpAny_pyNext_enum_itemC (dr_k k hin it a hai its.toArray) he ⟨hit, p⟩ (by simpa using (List.getElem?_eq_some_iff.mp hu).1) hne (by simp [hne, Ne.symm hae]) fun v1 h' tk e1 ho d1 hT hsz hk => ?_
    obtain rfl : u = v1 := by
      have e1' : its.toArray[i]? = some v1 := e1
      simp only [List.getElem?_toArray] at e1'
      rw [hu] at e1'
      exact Option.some.inj e1'
    refine ⟨_, rfl, wpAny_letOwnedTupleGo_enum (s := { s with heap := h', toks := tk + 1 }) ho fun h'' he' sb => ?_⟩
    have hT2 : h''.get? s.heap.objs.size = some { cls := .type "tuple", data := .seq #[.int i tk, u] } := (sb.2 _ (Nat.ne_of_gt hel)).trans hT
    have new : ObjOk X.prog X.w (upd H s.heap.objs.size (.tup [.int (i : Nat), x])) h'' s.heap.objs.size (.tup [.int (i : Nat), x]) :=
      ⟨by show 2 ≤ sizeLine; decide, [.int i tk, u], .cons ⟨_, rfl⟩ (.cons ru .nil), ⟨_, hT2, rfl, _, rfl⟩⟩
    have I1 : Inv X pins σ (upd H s.heap.objs.size (.tup [.int (i : Nat), x])) { s with heap := h'', toks := tk + 1 } :=
      I.turnedNew (ch := [e, it]) (fun b ob hb q => (sb.2 b (fun z => hb (by simp [z]))).trans (hk b ob (fun z => hb (by simp [z])) (fun z => hb (by simp [z])) q)) hf (Nat.le_refl _) new
    refine ⟨.ref s.heap.objs.size, _, I1, rfl, ⟨_, x, rfl, I.hok.fresh (Nat.le_refl _), rfl, fun ys hy => by rw [sk_inj I hy hq]; exact hx⟩, ⟨⟨u, ?_⟩, ik_keep d1.1 fun o q => (sb.2 it (Ne.symm hne)).trans q⟩, fun b hb => ?_⟩
    · have e1 : ((i + 1 : Nat) : Int) = (i : Int) + 1 := by omega
      rw [e1]; exact he'
    · have hb' : b < s.heap.objs.size := by
        have e' : b = e ∨ b = it := by simpa using hb
        rcases e' with z | z
        · rw [z]; exact hel
        · rw [z]; exact hil
      rw [upd_ne (Nat.ne_of_lt hb')]
      exact (hf b hb).1
  done := by
    intro X hP hw hK hc i pins s σ H E I hf st hg
    subst hP hw hK
    obtain ⟨⟨old, he⟩, hit⟩ := st
    obtain ⟨xs, hq, hx⟩ := hg
    obtain ⟨its, rv, p, _⟩ := src_k I hq
    obtain ⟨f0, f1, f2, f3, f4, f5⟩ := hf it (by simp)
    have hl := rv.length
    have hin : X.A.in1.handled = none := I.ok.hd hc
    have ei : i = its.toArray.size := by simp; omega
    subst ei
    exact wpAny_pyNext_enum_endD (dr_k k hin it a hai its.toArray) he ⟨hit, p⟩ fun h' eb => ⟨rfl, I.turned (t' := s.toks) (fun b o hb q => eb b o hb q) f0 f1 f3 f4 f5⟩
  self := fun A i s Q E st h => let ⟨⟨_, he⟩, _⟩ := st; wpAny_pyIter_enum he h
/-- J walks the items xs that stood at a, with their indexes -/
def IsE (K : PySem.W.Frag) (a : Addr) (xs : List V) (H1 : Hp) (J : It) : Prop := ∀ i H, Stay K a H1 H → (∀ x, xs[i]? = some x → J.go i H) ∧ (∀ v H', J.yld i H v H' → ∃ T x, v = .ref T ∧ H T = none ∧ H' = upd H T (.tup [.int (i : Nat), x]) ∧ xs[i]? = some x) ∧
  (i = xs.length → J.stop i H)
def iE2 (K : PySem.W.Frag) (ta : TA) : TI := fun σ H R => ta σ H fun vs H1 => ∃ a xs, vs = [.ref a] ∧ SqA K H1 a xs ∧ ∀ J, IsE K a xs H1 J → R J H1
theorem pi_e2 {X : Cx} {e : Expr} {ta : TA} {p pos tpos : Pos} {elts : List Expr} {kk : Nat} (hg : Gl X "enumerate") (hm : X.mg "enumerate" = none) (ha : PA X [e] ta) (hs : starEach [e] X.env = [(false, eval e X.env)] := by rfl) :
    PI X (.Tuple elts kk tpos) (.Call (.Name "enumerate" p) [e] [] pos) (iE2 X.K ta) := by
  refine ⟨fun pins s σ H R I h => ?_⟩
  refine Call_ (ld_blt I hg hm boot_enumerate (PyProof.Rows.callWith_type1 (thn (ha.run pos pins s σ H _ I h) fun us s1 ⟨vs, H1, I1, r1, q1⟩ => ?_) hs rfl))
  obtain ⟨a, xs, ex, hq, q⟩ := q1
  subst ex
  obtain ⟨k, hq⟩ := sk_of hq
  have wk : IsE X.K a xs H1 (Iek k X.K a) := fun i H st => ⟨fun x e => ⟨xs, x, sk_stay st hq, e⟩, fun v H' ⟨T, x, e1, e2, e3, f⟩ => ⟨T, x, e1, e2, e3, f _ (sk_stay st hq)⟩, fun e => ⟨xs, sk_stay st hq, e⟩⟩
  obtain ⟨its, rx, px, la⟩ := src_k I1 hq
  cases r1 with
  | cons r rr =>
    cases rr
    cases r
    refine enum_begins1 (bg_k k a its.toArray) px fun h' he h1 hsz kp => wpAny_pyIter_enum he ?_
    refine ⟨s1.heap.objs.size + 1, [s1.heap.objs.size + 1, s1.heap.objs.size], _, _, H1, rfl, I1.kept (t' := s1.toks) kp, turn_ek (Nat.succ_ne_self _) (Nat.ne_of_lt la) (Nat.ne_of_lt (Nat.lt_succ_of_lt la)), ⟨⟨.none, he⟩, ik_beg h1⟩, fun c hcm => ?_, q _ wk⟩
    have hle : s1.heap.objs.size ≤ c := by
      have e' : c = s1.heap.objs.size + 1 ∨ c = s1.heap.objs.size := by simpa using hcm
      rcases e' with z | z
      · rw [z]; exact Nat.le_add_right _ _
      · rw [z]; exact Nat.le_refl _
    exact I1.fpOk hle (I1.hok.fresh hle)
end K03


/-! rows over pairs: what stands at the other ends, rows that have settled, the least of them. Pure. -/
set_option linter.all false
namespace NetM
abbrev Rw := Int → Int
def nearS (E : Prs) (r : Rw) (p : Int) : Int := (E.map fun q => (if q.1 = p then r q.2 else 0) + (if q.2 = p then r q.1 else 0)).sum
theorem nearS_nil (r : Rw) (p : Int) : nearS [] r p = 0 := rfl
theorem nearS_cons (q : Int × Int) (E : Prs) (r : Rw) (p : Int) : nearS (q :: E) r p = ((if q.1 = p then r q.2 else 0) + (if q.2 = p then r q.1 else 0)) + nearS E r p := by
  unfold nearS
  rw [List.map_cons, List.sum_cons]
theorem nearS_app (E F : Prs) (r : Rw) (p : Int) : nearS (E ++ F) r p = nearS E r p + nearS F r p := by
  induction E with
  | nil => rw [List.nil_append, nearS_nil]; omega
  | cons q E ih => rw [List.cons_append, nearS_cons, nearS_cons, ih]; omega
theorem nearS_perm {E F : Prs} (h : E.Perm F) (r : Rw) (p : Int) : nearS E r p = nearS F r p := by
  induction h with
  | nil => rfl
  | cons q _ ih => rw [nearS_cons, nearS_cons, ih]
  | swap a b l => rw [nearS_cons, nearS_cons, nearS_cons, nearS_cons]; omega
  | trans _ _ i1 i2 => rw [i1, i2]
/-- pairs some of which stand the other way round -/
inductive Flip : Prs → Prs → Prop
  | nil : Flip [] []
  | same {E F : Prs} (q : Int × Int) (h : Flip E F) : Flip (q :: E) (q :: F)
  | turn {E F : Prs} (q : Int × Int) (h : Flip E F) : Flip (q :: E) ((q.2, q.1) :: F)
theorem Flip.refl : ∀ E : Prs, Flip E E
  | [] => .nil
  | q :: E => .same q (Flip.refl E)
theorem Flip.near {E F : Prs} (h : Flip E F) (r : Rw) (p : Int) : nearS E r p = nearS F r p := by
  induction h with
  | nil => rfl
  | same q _ ih => rw [nearS_cons, nearS_cons, ih]
  | turn q _ ih => rw [nearS_cons, nearS_cons, ih]; dsimp only; omega
theorem Flip.app {E F E2 F2 : Prs} (h : Flip E F) (k : Flip E2 F2) : Flip (E ++ E2) (F ++ F2) := by
  induction h with
  | nil => exact k
  | same q _ ih => exact .same q ih
  | turn q _ ih => exact .turn q ih
theorem Flip.len {E F : Prs} (h : Flip E F) : F.length = E.length := by
  induction h with
  | nil => rfl
  | same q _ ih => rw [List.length_cons, List.length_cons, ih]
  | turn q _ ih => rw [List.length_cons, List.length_cons, ih]
theorem Flip.mem {E F : Prs} (h : Flip E F) : ∀ q ∈ F, q ∈ E ∨ (q.2, q.1) ∈ E := by
  induction h with
  | nil => intro q m; cases m
  | same q _ ih =>
    intro x m
    rcases List.mem_cons.mp m with rfl | m
    · exact .inl (List.mem_cons_self ..)
    · exact (ih x m).imp (List.mem_cons_of_mem _) (List.mem_cons_of_mem _)
  | turn q _ ih =>
    intro x m
    rcases List.mem_cons.mp m with rfl | m
    · exact .inr (List.mem_cons_self ..)
    · exact (ih x m).imp (List.mem_cons_of_mem _) (List.mem_cons_of_mem _)
theorem Flip.mem2 {E F : Prs} (h : Flip E F) : ∀ q ∈ E, q ∈ F ∨ (q.2, q.1) ∈ F := by
  induction h with
  | nil => intro q m; cases m
  | same q _ ih =>
    intro x m
    rcases List.mem_cons.mp m with rfl | m
    · exact .inl (List.mem_cons_self ..)
    · exact (ih x m).imp (List.mem_cons_of_mem _) (List.mem_cons_of_mem _)
  | turn q _ ih =>
    intro x m
    rcases List.mem_cons.mp m with rfl | m
    · exact .inr (List.mem_cons_self ..)
    · exact (ih x m).imp (List.mem_cons_of_mem _) (List.mem_cons_of_mem _)
def nam (f : Int → Int) (E : Prs) : Prs := E.map fun q => (f q.1, f q.2)
/-- pairs within n -/
def In (n : Nat) (E : Prs) : Prop := ∀ t h, (t, h) ∈ E → InR n t ∧ InR n h
theorem In.cons {n : Nat} {q : Int × Int} {E : Prs} (h : In n (q :: E)) : (InR n q.1 ∧ InR n q.2) ∧ In n E := ⟨h q.1 q.2 (List.mem_cons_self ..), fun t g m => h t g (List.mem_cons_of_mem _ m)⟩
structure Bij (n : Nat) (f : Int → Int) : Prop where
  to : ∀ x, InR n x → InR n (f x)
  inj : ∀ x y, InR n x → InR n y → f x = f y → x = y
theorem Bij.perm {n : Nat} {f : Int → Int} (b : Bij n f) : ((rng n).map f).Perm (rng n) := by
  have nd : ((rng n).map f).Nodup := by
    have h := rng_nodup n
    have hr : ∀ x ∈ rng n, InR n x := fun x m => mem_rng.mp m
    generalize rng n = l at h hr
    induction l with
    | nil => exact List.nodup_nil
    | cons a l ih =>
      rw [List.map_cons]
      rw [List.nodup_cons] at h ⊢
      refine ⟨fun m => ?_, ih h.2 fun x m => hr x (List.mem_cons_of_mem _ m)⟩
      obtain ⟨y, my, e⟩ := List.mem_map.mp m
      have := b.inj y a (hr y (List.mem_cons_of_mem _ my)) (hr a (List.mem_cons_self ..)) e
      exact h.1 (this ▸ my)
  refine (List.perm_ext_iff_of_nodup nd (rng_nodup n)).mpr fun x => ⟨fun m => ?_, fun m => ?_⟩
  · obtain ⟨y, my, rfl⟩ := List.mem_map.mp m
    exact mem_rng.mpr (b.to y (mem_rng.mp my))
  · exact full_of nd (fun y my => by obtain ⟨z, mz, rfl⟩ := List.mem_map.mp my; exact mem_rng.mpr (b.to z (mem_rng.mp mz))) (by rw [List.length_map]; exact Nat.le_refl _) x m
theorem Bij.sur {n : Nat} {f : Int → Int} (b : Bij n f) {y : Int} (h : InR n y) : ∃ x, InR n x ∧ f x = y := by
  have := b.perm.mem_iff.mpr (mem_rng.mpr h)
  obtain ⟨x, mx, e⟩ := List.mem_map.mp this
  exact ⟨x, mem_rng.mp mx, e⟩
theorem near_nam {n : Nat} {f : Int → Int} (b : Bij n f) : ∀ {E : Prs}, In n E → ∀ (r : Rw) {p : Int}, InR n p → nearS (nam f E) r (f p) = nearS E (fun x => r (f x)) p
  | [], _, r, p, hp => rfl
  | q :: E, h, r, p, hp => by
    obtain ⟨⟨h1, h2⟩, hE⟩ := h.cons
    show nearS ((f q.1, f q.2) :: nam f E) r (f p) = _
    rw [nearS_cons, nearS_cons, near_nam b hE r hp]
    have e1 : (f q.1 = f p) ↔ q.1 = p := ⟨b.inj _ _ h1 hp, fun e => by rw [e]⟩
    have e2 : (f q.2 = f p) ↔ q.2 = p := ⟨b.inj _ _ h2 hp, fun e => by rw [e]⟩
    congr 2
    · by_cases c : q.1 = p
      · rw [if_pos (e1.mpr c), if_pos c]
      · rw [if_neg (fun z => c (e1.mp z)), if_neg c]
    · by_cases c : q.2 = p
      · rw [if_pos (e2.mpr c), if_pos c]
      · rw [if_neg (fun z => c (e2.mp z)), if_neg c]
/-- F is E in other names, in another order, some pairs the other way round -/
structure Ren (n : Nat) (f : Int → Int) (E F : Prs) : Prop where
  b : Bij n f
  hE : In n E
  ex : ∃ G, G.Perm (nam f E) ∧ Flip G F
theorem Ren.near {n : Nat} {f : Int → Int} {E F : Prs} (R : Ren n f E F) (r : Rw) {p : Int} (hp : InR n p) : nearS F r (f p) = nearS E (fun x => r (f x)) p := by
  obtain ⟨G, g1, g2⟩ := R.ex
  rw [← g2.near, nearS_perm g1, near_nam R.b R.hE r hp]
/-! ### rows that have settled -/
def Setl (E : Prs) (n : Nat) (r : Rw) : Prop := ∀ p, InR n p → 1 ≤ r p ∧ nearS E r p ≤ 2 * r p
theorem Ren.setl {n : Nat} {f : Int → Int} {E F : Prs} (R : Ren n f E F) (r : Rw) : Setl F n r ↔ Setl E n fun x => r (f x) := by
  constructor
  · intro h p hp
    have := h (f p) (R.b.to p hp)
    rw [R.near r hp] at this
    exact this
  · intro h y hy
    obtain ⟨x, hx, rfl⟩ := R.b.sur hy
    rw [R.near r hx]
    exact h x hx
theorem near_mono {n : Nat} : ∀ {E : Prs}, In n E → ∀ {r s : Rw}, (∀ p, InR n p → r p ≤ s p) → ∀ p, nearS E r p ≤ nearS E s p
  | [], _, r, s, h, p => Int.le_refl _
  | q :: E, hE, r, s, h, p => by
    obtain ⟨⟨h1, h2⟩, hE'⟩ := hE.cons
    rw [nearS_cons, nearS_cons]
    have i1 := h _ h1
    have i2 := h _ h2
    have ih := near_mono hE' h p
    split <;> split <;> omega
theorem near_congr {n : Nat} : ∀ {E : Prs}, In n E → ∀ {r s : Rw}, (∀ p, InR n p → r p = s p) → ∀ p, nearS E r p = nearS E s p
  | [], _, r, s, h, p => rfl
  | q :: E, hE, r, s, h, p => by
    obtain ⟨⟨h1, h2⟩, hE'⟩ := hE.cons
    rw [nearS_cons, nearS_cons, near_congr hE' h p, h _ h1, h _ h2]
/-- below all rows that have settled -/
def Low (E : Prs) (n : Nat) (r : Rw) : Prop := ∀ s, Setl E n s → ∀ p, InR n p → r p ≤ s p
theorem low_one (E : Prs) (n : Nat) : Low E n fun _ => 1 := fun s h p hp => (h p hp).1
theorem low_up {E : Prs} {n : Nat} (hE : In n E) {r : Rw} (l : Low E n r) {p : Int} (hp : InR n p) (c : 2 * r p < nearS E r p) : Low E n fun x => if x = p then r p + 1 else r x := fun s h x hx => by
  have h1 := near_mono hE (l s h) p
  have h2 := (h p hp).2
  have h3 := l s h x hx
  show (if x = p then _ else _) ≤ _
  by_cases e : x = p
  · rw [if_pos e, e]
    omega
  · rw [if_neg e]; exact h3
/-- the least of the rows that have settled -/
def Lst (E : Prs) (n : Nat) (r : Rw) : Prop := Setl E n r ∧ Low E n r
theorem Lst.uniq {E : Prs} {n : Nat} {r s : Rw} (h : Lst E n r) (k : Lst E n s) : ∀ p, InR n p → r p = s p := fun p hp => by
  have := h.2 s k.1 p hp
  have := k.2 r h.1 p hp
  omega
theorem setl_congr {E : Prs} {n : Nat} (hE : In n E) {r s : Rw} (e : ∀ p, InR n p → r p = s p) (h : Setl E n r) : Setl E n s := fun p hp => by
  rw [← near_congr hE e p, ← e p hp]
  exact h p hp
theorem Ren.back {n : Nat} {f : Int → Int} {E F : Prs} (R : Ren n f E F) : ∃ g : Int → Int, ∀ x, InR n x → InR n (g x) ∧ f (g x) = x ∧ g (f x) = x := by
  refine ⟨fun y => Classical.epsilon fun x => InR n x ∧ f x = y, fun x hx => ?_⟩
  have h1 : InR n (Classical.epsilon fun z => InR n z ∧ f z = x) ∧ f (Classical.epsilon fun z => InR n z ∧ f z = x) = x := Classical.epsilon_spec (p := fun z => InR n z ∧ f z = x) (R.b.sur hx)
  have h2 : InR n (Classical.epsilon fun z => InR n z ∧ f z = f x) ∧ f (Classical.epsilon fun z => InR n z ∧ f z = f x) = f x := Classical.epsilon_spec (p := fun z => InR n z ∧ f z = f x) (R.b.sur (R.b.to x hx))
  exact ⟨h1.1, h1.2, R.b.inj _ _ h2.1 hx h2.2⟩
theorem Ren.inF {n : Nat} {f : Int → Int} {E F : Prs} (R : Ren n f E F) : In n F := fun t h m => by
  obtain ⟨G, g1, g2⟩ := R.ex
  have key : ∀ a b, (a, b) ∈ G → InR n a ∧ InR n b := fun a b m => by
    have := g1.mem_iff.mp m
    obtain ⟨q, mq, e⟩ := List.mem_map.mp this
    obtain ⟨i1, i2⟩ := R.hE q.1 q.2 mq
    cases e
    exact ⟨R.b.to _ i1, R.b.to _ i2⟩
  rcases g2.mem _ m with m | m
  · exact key _ _ m
  · exact (key _ _ m).symm
/-- the least row goes along -/
theorem Ren.lst {n : Nat} {f : Int → Int} {E F : Prs} (R : Ren n f E F) {r : Rw} (h : Lst F n r) : Lst E n fun x => r (f x) := by
  refine ⟨(R.setl r).mp h.1, fun s hs p hp => ?_⟩
  obtain ⟨g, hg⟩ := R.back
  have h1 : Setl F n fun y => s (g y) := (R.setl _).mpr (setl_congr R.hE (fun q hq => by show s q = s (g (f q)); rw [(hg q hq).2.2]) hs)
  have h2 := h.2 _ h1 (f p) (R.b.to p hp)
  rw [show s (g (f p)) = s p by rw [(hg p hp).2.2]] at h2
  exact h2
end NetM


/-! the form, the row that settles step by step, the row that grows. Pure. -/
set_option linter.all false
namespace NetM
def frm (E : Prs) (n : Nat) (r : Rw) : Int := ((rng n).map fun p => r p * r p).sum - (E.map fun q => r q.1 * r q.2).sum
theorem sum_perm {l m : List Int} (h : l.Perm m) : l.sum = m.sum := by
  induction h with
  | nil => rfl
  | cons a _ ih => rw [List.sum_cons, List.sum_cons, ih]
  | swap a b l => rw [List.sum_cons, List.sum_cons, List.sum_cons, List.sum_cons]; omega
  | trans _ _ i j => rw [i, j]
theorem Flip.prod {E F : Prs} (h : Flip E F) (r : Rw) : (E.map fun q => r q.1 * r q.2).sum = (F.map fun q => r q.1 * r q.2).sum := by
  induction h with
  | nil => rfl
  | same q _ ih => rw [List.map_cons, List.map_cons, List.sum_cons, List.sum_cons, ih]
  | turn q _ ih => rw [List.map_cons, List.map_cons, List.sum_cons, List.sum_cons, ih, Int.mul_comm]
theorem Ren.frm {n : Nat} {f : Int → Int} {E F : Prs} (R : Ren n f E F) (r : Rw) : frm F n r = NetM.frm E n fun x => r (f x) := by
  obtain ⟨G, g1, g2⟩ := R.ex
  unfold NetM.frm
  rw [← g2.prod, sum_perm (g1.map fun q => r q.1 * r q.2), ← sum_perm (R.b.perm.map fun p => r p * r p)]
  unfold nam
  rw [List.map_map, List.map_map]
  rfl
theorem frm_congr {E : Prs} {n : Nat} (hE : In n E) {r s : Rw} (e : ∀ p, InR n p → r p = s p) : frm E n r = frm E n s := by
  unfold frm
  rw [List.map_congr_left (f := fun p => r p * r p) (g := fun p => s p * s p) fun p m => by rw [e p (mem_rng.mp m)],
    List.map_congr_left (f := fun q : Int × Int => r q.1 * r q.2) (g := fun q => s q.1 * s q.2) fun q m => by
      obtain ⟨h1, h2⟩ := hE q.1 q.2 m
      rw [e _ h1, e _ h2]]
/-! ### the row that settles -/
def rowF (L : List Int) : Rw := fun p => L.getD p.toNat 0
def lowAt (E : Prs) (L : List Int) (j : Nat) : Bool := decide (2 * L.getD j 0 < nearS E (rowF L) j)
def stepL (E : Prs) (L : List Int) (j : Nat) : List Int := if lowAt E L j then L.set j (L.getD j 0 + 1) else L
def passTo (E : Prs) (L : List Int) : Nat → List Int
  | 0 => L
  | j + 1 => stepL E (passTo E L j) j
def raisTo (E : Prs) (L : List Int) : Nat → Bool
  | 0 => false
  | j + 1 => raisTo E L j || lowAt E (passTo E L j) j
theorem step_len (E : Prs) (L : List Int) (j : Nat) : (stepL E L j).length = L.length := by
  unfold stepL
  split
  · rw [List.length_set]
  · rfl
theorem pass_len (E : Prs) (L : List Int) : ∀ j, (passTo E L j).length = L.length
  | 0 => rfl
  | j + 1 => by show (stepL E _ j).length = _; rw [step_len, pass_len E L j]
theorem rowF_set {L : List Int} {j : Nat} {v : Int} (h : j < L.length) {p : Int} (hp : 0 ≤ p) : rowF (L.set j v) p = if p = (j : Int) then v else rowF L p := by
  unfold rowF
  by_cases c : p = (j : Int)
  · rw [if_pos c, c, Int.toNat_natCast, List.getD_eq_getElem?_getD, List.getElem?_set_self h]
    rfl
  · rw [if_neg c, List.getD_eq_getElem?_getD, List.getElem?_set_ne (by omega), ← List.getD_eq_getElem?_getD]
theorem rowF_nat (L : List Int) (j : Nat) : rowF L j = L.getD j 0 := by unfold rowF; rw [Int.toNat_natCast]
theorem inr_nat {n j : Nat} (h : j < n) : InR n (j : Int) := ⟨by omega, by omega⟩
theorem step_low {E : Prs} {n : Nat} (hE : In n E) {L : List Int} (hl : L.length = n) (l : Low E n (rowF L)) {j : Nat} (hj : j < n) : Low E n (rowF (stepL E L j)) := by
  unfold stepL
  by_cases c : lowAt E L j = true
  · rw [if_pos c]
    have c2 := of_decide_eq_true c
    rw [← rowF_nat] at c2
    have := low_up hE l (inr_nat hj) c2
    intro s hs p hp
    have h2 := this s hs p hp
    rw [rowF_set (by omega) hp.1, ← rowF_nat]
    exact h2
  · rw [if_neg c]; exact l
theorem pass_low {E : Prs} {n : Nat} (hE : In n E) {L : List Int} (hl : L.length = n) (l : Low E n (rowF L)) : ∀ j, j ≤ n → Low E n (rowF (passTo E L j))
  | 0, _ => l
  | j + 1, h => step_low hE (by rw [pass_len]; exact hl) (pass_low hE hl l j (by omega)) (by omega)
theorem raise_no {E : Prs} {L : List Int} : ∀ {j : Nat}, raisTo E L j = false → passTo E L j = L ∧ ∀ k, k < j → lowAt E L k = false
  | 0, _ => ⟨rfl, fun k h => by omega⟩
  | j + 1, h => by
    have h1 : (raisTo E L j || lowAt E (passTo E L j) j) = false := h
    rw [Bool.or_eq_false_iff] at h1
    obtain ⟨i1, i2⟩ := raise_no h1.1
    rw [i1] at h1
    refine ⟨?_, fun k hk => ?_⟩
    · show stepL E (passTo E L j) j = L
      rw [i1]
      unfold stepL
      rw [h1.2, if_neg (by decide)]
    · rcases Nat.lt_or_ge k j with c | c
      · exact i2 k c
      · rw [show k = j by omega]; exact h1.2
theorem setl_of {E : Prs} {n : Nat} {L : List Int} (hl : L.length = n) (h1 : ∀ i ∈ L, 1 ≤ i) (h : ∀ k, k < n → lowAt E L k = false) : Setl E n (rowF L) := fun p hp => by
  obtain ⟨k, rfl⟩ : ∃ k : Nat, p = k := ⟨p.toNat, by have := hp.1; omega⟩
  have hk : k < n := by have := hp.2; omega
  have h2 := of_decide_eq_false (h k hk)
  rw [rowF_nat] at *
  refine ⟨?_, by omega⟩
  rw [List.getD_eq_getElem?_getD, List.getElem?_eq_getElem (by omega)]
  exact h1 _ (List.getElem_mem (by omega))
/-- each number stays at least as great, and rises by 1 at most, up to j -/
theorem step_le {E : Prs} {L : List Int} {j : Nat} {a b : Int} (h : ∀ i ∈ L, a ≤ i ∧ i ≤ b) (hj : j < L.length) : ∀ i ∈ stepL E L j, a ≤ i ∧ i ≤ b + 1 := fun i m => by
  unfold stepL at m
  split at m
  · rcases List.mem_or_eq_of_mem_set m with m | m
    · have := h i m; omega
    · rw [m, List.getD_eq_getElem?_getD, List.getElem?_eq_getElem hj]
      have := h _ (List.getElem_mem hj)
      show a ≤ L[j] + 1 ∧ L[j] + 1 ≤ b + 1
      omega
  · have := h i m; omega
theorem pass_ge {E : Prs} {L : List Int} {a : Int} (h : ∀ i ∈ L, a ≤ i) : ∀ j, j ≤ L.length → ∀ i ∈ passTo E L j, a ≤ i
  | 0, _ => h
  | j + 1, hj => fun i m => by
    have ih := pass_ge (E := E) h j (by omega)
    have m2 : i ∈ stepL E (passTo E L j) j := m
    unfold stepL at m2
    split at m2
    · rcases List.mem_or_eq_of_mem_set m2 with m2 | m2
      · exact ih i m2
      · have hl : j < (passTo E L j).length := by rw [pass_len]; omega
        rw [m2, List.getD_eq_getElem?_getD, List.getElem?_eq_getElem hl]
        have := ih _ (List.getElem_mem hl)
        show a ≤ (passTo E L j)[j] + 1
        omega
    · exact ih i m2
/-- numbers not yet come to are what they were; the others rise by 1 at most -/
theorem pass_at {E : Prs} {L : List Int} : ∀ (j k : Nat), j ≤ L.length → (j ≤ k → (passTo E L j).getD k 0 = L.getD k 0) ∧ L.getD k 0 ≤ (passTo E L j).getD k 0 ∧ (passTo E L j).getD k 0 ≤ L.getD k 0 + 1
  | 0, k, _ => ⟨fun _ => rfl, Int.le_refl _, by show L.getD k 0 ≤ L.getD k 0 + 1; omega⟩
  | j + 1, k, hj => by
    obtain ⟨i1, i2, i3⟩ := pass_at (E := E) (L := L) j k (by omega)
    have hl : j < (passTo E L j).length := by rw [pass_len]; omega
    show (j + 1 ≤ k → (stepL E (passTo E L j) j).getD k 0 = _) ∧ _ ≤ (stepL E (passTo E L j) j).getD k 0 ∧ (stepL E (passTo E L j) j).getD k 0 ≤ _
    unfold stepL
    split
    · by_cases c : j = k
      · subst c
        have e : ((passTo E L j).set j ((passTo E L j).getD j 0 + 1)).getD j 0 = (passTo E L j).getD j 0 + 1 := by
          rw [List.getD_eq_getElem?_getD, List.getElem?_set_self hl]; rfl
        rw [e]
        have := i1 (Nat.le_refl _)
        exact ⟨fun h => by omega, by omega, by omega⟩
      · have e : ((passTo E L j).set j ((passTo E L j).getD j 0 + 1)).getD k 0 = (passTo E L j).getD k 0 := by
          rw [List.getD_eq_getElem?_getD, List.getElem?_set_ne c, ← List.getD_eq_getElem?_getD]
        rw [e]
        exact ⟨fun h => i1 (by omega), i2, i3⟩
    · exact ⟨fun h => i1 (by omega), i2, i3⟩
theorem sum_set : ∀ {L : List Int} {j : Nat} {v : Int}, j < L.length → (L.set j v).sum = L.sum - L.getD j 0 + v
  | [], _, _, h => by simp at h
  | a :: L, 0, v, _ => by rw [List.set_cons_zero, List.sum_cons, List.sum_cons]; show _ = a + L.sum - a + v; omega
  | a :: L, j + 1, v, h => by
    rw [List.set_cons_succ, List.sum_cons, List.sum_cons, sum_set (by simpa using h)]
    show _ = a + L.sum - L.getD j 0 + v
    omega
theorem pass_sum {E : Prs} {L : List Int} : ∀ j, j ≤ L.length → L.sum ≤ (passTo E L j).sum ∧ (raisTo E L j = true → L.sum < (passTo E L j).sum)
  | 0, _ => ⟨Int.le_refl _, fun h => by cases h⟩
  | j + 1, hj => by
    obtain ⟨i1, i2⟩ := pass_sum (E := E) (L := L) j (by omega)
    have hl : j < (passTo E L j).length := by rw [pass_len]; omega
    show L.sum ≤ (stepL E (passTo E L j) j).sum ∧ ((raisTo E L j || lowAt E (passTo E L j) j) = true → L.sum < (stepL E (passTo E L j) j).sum)
    unfold stepL
    by_cases c : lowAt E (passTo E L j) j = true
    · rw [if_pos c, sum_set hl]
      exact ⟨by omega, fun _ => by omega⟩
    · rw [if_neg c]
      refine ⟨i1, fun h => i2 ?_⟩
      rw [Bool.or_eq_true] at h
      exact h.resolve_right c
theorem sum_le : ∀ {L : List Int} {b : Int}, (∀ i ∈ L, i ≤ b) → L.sum ≤ b * L.length
  | [], b, _ => by simp
  | a :: L, b, h => by
    have h1 := h a (List.mem_cons_self ..)
    have ih := sum_le fun i m => h i (List.mem_cons_of_mem _ m)
    rw [List.sum_cons, List.length_cons]
    have : b * ((L.length + 1 : Nat) : Int) = b * L.length + b := by rw [Int.natCast_add, Int.mul_add]; simp
    omega
/-- what settled_row tells -/
def SetR (E : Prs) (n : Nat) : Option (List Int) → Prop
  | some L => L.length = n ∧ Lst E n (rowF L) ∧ ∀ i ∈ L, 1 ≤ i ∧ i ≤ 6
  | none => ∀ s, Setl E n s → ∃ p, InR n p ∧ 6 < s p
theorem big_none {E : Prs} {n : Nat} {L : List Int} (hl : L.length = n) (l : Low E n (rowF L)) {i : Int} (m : i ∈ L) (h : 6 < i) : SetR E n none := fun s hs => by
  obtain ⟨k, hk, e⟩ := List.getElem_of_mem m
  refine ⟨k, inr_nat (by omega), ?_⟩
  have := l s hs k (inr_nat (by omega))
  rw [rowF_nat, List.getD_eq_getElem?_getD, List.getElem?_eq_getElem hk] at this
  have e2 : (some L[k]).getD 0 = L[k] := rfl
  rw [e2, e] at this
  omega
theorem SetR.ren {n : Nat} {f : Int → Int} {E F : Prs} (R : Ren n f E F) {o o' : Option (List Int)} (h : SetR E n o) (h' : SetR F n o') : (o = none ∧ o' = none) ∨ ∃ L L', o = some L ∧ o' = some L' ∧ ∀ p, InR n p → rowF L' (f p) = rowF L p := by
  cases o with
  | none =>
    cases o' with
    | none => exact .inl ⟨rfl, rfl⟩
    | some L' =>
      obtain ⟨l1, l2, l3⟩ := h'
      obtain ⟨p, hp, h6⟩ := h _ (R.lst l2).1
      obtain ⟨k, e⟩ : ∃ k : Nat, f p = k := ⟨(f p).toNat, by have := (R.b.to p hp).1; omega⟩
      have hk : k < n := by have := (R.b.to p hp).2; omega
      have h6' : 6 < rowF L' (f p) := h6
      rw [e, rowF_nat, List.getD_eq_getElem?_getD, List.getElem?_eq_getElem (by omega)] at h6'
      have := (l3 _ (List.getElem_mem (show k < L'.length by omega))).2
      have e2 : (some L'[k]).getD 0 = L'[k] := rfl
      rw [e2] at h6'
      omega
  | some L =>
    obtain ⟨l1, l2, l3⟩ := h
    cases o' with
    | none =>
      obtain ⟨g, hg⟩ := R.back
      have hs : Setl F n fun y => rowF L (g y) := (R.setl _).mpr (setl_congr R.hE (fun q hq => by show rowF L q = rowF L (g (f q)); rw [(hg q hq).2.2]) l2.1)
      obtain ⟨p, hp, h6⟩ := h' _ hs
      obtain ⟨k, e⟩ : ∃ k : Nat, g p = k := ⟨(g p).toNat, by have := (hg p hp).1.1; omega⟩
      have hk : k < n := by have := (hg p hp).1.2; omega
      have h6' : 6 < rowF L (g p) := h6
      rw [e, rowF_nat, List.getD_eq_getElem?_getD, List.getElem?_eq_getElem (by omega)] at h6'
      have := (l3 _ (List.getElem_mem (show k < L.length by omega))).2
      have e2 : (some L[k]).getD 0 = L[k] := rfl
      rw [e2] at h6'
      omega
    | some L' => exact .inr ⟨L, L', rfl, rfl, fun p hp => (R.lst h'.2.1).uniq l2 p hp⟩
/-! ### worked out on one net -/
def anyBig (L : List Int) : Bool := L.any fun i => decide (6 < i)
def runS (E : Prs) (n : Nat) : Nat → List Int → Option (Option (List Int))
  | 0, _ => none
  | k + 1, L => if raisTo E L n then (if anyBig (passTo E L n) then some none else runS E n k (passTo E L n)) else some (some L)
theorem runS_ok {E : Prs} {n : Nat} (hE : In n E) : ∀ (k : Nat) {L : List Int}, L.length = n → Low E n (rowF L) → (∀ i ∈ L, 1 ≤ i ∧ i ≤ 6) → ∀ {o}, runS E n k L = some o → SetR E n o
  | 0, L, _, _, _, o, e => by cases e
  | k + 1, L, hl, l, h, o, e => by
    unfold runS at e
    by_cases c : raisTo E L n = true
    · rw [if_pos c] at e
      have l2 := pass_low hE hl l n (Nat.le_refl _)
      have hl2 : (passTo E L n).length = n := by rw [pass_len, hl]
      by_cases d : anyBig (passTo E L n) = true
      · rw [if_pos d] at e
        cases e
        obtain ⟨i, m, hi⟩ := List.any_eq_true.mp d
        exact big_none hl2 l2 m (of_decide_eq_true hi)
      · rw [if_neg d] at e
        refine runS_ok hE k hl2 l2 (fun i m => ⟨pass_ge (fun i m => (h i m).1) n (by omega) i m, ?_⟩) e
        have : ¬ 6 < i := fun z => d (List.any_eq_true.mpr ⟨i, m, decide_eq_true z⟩)
        omega
    · rw [if_neg c] at e
      cases e
      have c' : raisTo E L n = false := by cases q : raisTo E L n with
        | true => exact absurd q c
        | false => rfl
      exact ⟨hl, ⟨setl_of hl (fun i m => (h i m).1) (raise_no c').2, l⟩, h⟩
end NetM


/-! nets in other names: connected, without ways round. Pure. -/
set_option linter.all false
namespace NetM
theorem near_nonneg {r : Rw} (h : ∀ x, 0 ≤ r x) (p : Int) : ∀ F : Prs, 0 ≤ nearS F r p
  | [] => Int.le_refl _
  | q :: F => by
    have := near_nonneg h p F
    have := h q.1
    have := h q.2
    rw [nearS_cons]
    split <;> split <;> omega
theorem near_one {r : Rw} (h : ∀ x, 0 ≤ r x) {p : Int} : ∀ {F : Prs} {a : Int × Int}, a ∈ F → (if a.1 = p then r a.2 else 0) + (if a.2 = p then r a.1 else 0) ≤ nearS F r p
  | q :: F, a, m => by
    rw [nearS_cons]
    have n1 := near_nonneg h p F
    rcases List.mem_cons.mp m with rfl | m
    · omega
    · have ih := near_one h (p := p) m
      have := h q.1
      have := h q.2
      have : 0 ≤ (if q.1 = p then r q.2 else 0) + (if q.2 = p then r q.1 else 0) := by split <;> split <;> omega
      omega
theorem near_two {r : Rw} (h : ∀ x, 0 ≤ r x) {p : Int} : ∀ {F : Prs} {a b : Int × Int}, a ∈ F → b ∈ F → a ≠ b →
    ((if a.1 = p then r a.2 else 0) + (if a.2 = p then r a.1 else 0)) + ((if b.1 = p then r b.2 else 0) + (if b.2 = p then r b.1 else 0)) ≤ nearS F r p
  | q :: F, a, b, ma, mb, ne => by
    rw [nearS_cons]
    rcases List.mem_cons.mp ma with rfl | ma1
    · rcases List.mem_cons.mp mb with rfl | mb1
      · exact absurd rfl ne
      · have := near_one h (p := p) mb1
        omega
    · rcases List.mem_cons.mp mb with rfl | mb1
      · have := near_one h (p := p) ma1
        omega
      · have ih := near_two h (p := p) ma1 mb1 ne
        have := h q.1
        have := h q.2
        have : 0 ≤ (if q.1 = p then r q.2 else 0) + (if q.2 = p then r q.1 else 0) := by split <;> split <;> omega
        omega
def ind (b : Int) : Rw := fun x => if x = b then 1 else 0
theorem ind_nn (b : Int) : ∀ x, 0 ≤ ind b x := fun x => by unfold ind; split <;> omega
/-- a pair and the same one turned: two between both places -/
theorem two_of {F : Prs} {a b : Int} (ne : a ≠ b) (h1 : (a, b) ∈ F) (h2 : (b, a) ∈ F) : 2 ≤ nearS F (ind b) a := by
  have := near_two (ind_nn b) (p := a) h1 h2 (fun z => ne (Prod.mk.inj z).1)
  have e : ind b b = 1 := if_pos rfl
  dsimp only at this
  simp only [e, if_neg (Ne.symm ne), ↓reduceIte] at this
  omega
theorem acy_pot {F : Prs} (φ : Int → Int) (h : ∀ t g, (t, g) ∈ F → φ t < φ g) : Acy F := fun t g m k => by
  have key : ∀ {a b : Int}, Rch F a b → φ a ≤ φ b := fun k => by
    induction k with
    | refl => exact Int.le_refl _
    | step _ e ih => have := h _ _ e; omega
  have := h t g m
  have := key k
  omega
/-- pairs that bring in one place after another -/
inductive Tre : Nat → Prs → Prop
  | nil : Tre 1 []
  | add {n : Nat} {E : Prs} (a : Int) (h : Tre n E) (ha : InR n a) : Tre (n + 1) (E ++ [(a, (n : Int))])
theorem Tre.inn {n : Nat} {E : Prs} (h : Tre n E) : In n E := by
  induction h with
  | nil => intro t g m; cases m
  | @add n E a _ ha ih =>
    intro t g m
    rcases List.mem_append.mp m with m | m
    · obtain ⟨i, j⟩ := ih t g m
      exact ⟨⟨i.1, by have := i.2; omega⟩, ⟨j.1, by have := j.2; omega⟩⟩
    · cases List.mem_singleton.mp m
      exact ⟨⟨ha.1, by have := ha.2; omega⟩, ⟨by omega, by omega⟩⟩
theorem Tre.pot {n : Nat} {E : Prs} (h : Tre n E) (o : Int × Int → Bool) : ∃ φ : Int → Int, ∀ q ∈ E, if o q = true then φ q.1 < φ q.2 else φ q.2 < φ q.1 := by
  induction h with
  | nil => exact ⟨fun _ => 0, fun q m => by cases m⟩
  | @add n E a h ha ih =>
    obtain ⟨φ, hφ⟩ := ih
    refine ⟨fun x => if x = (n : Int) then (if o (a, (n : Int)) = true then φ a + 1 else φ a - 1) else φ x, fun q m => ?_⟩
    have na : a ≠ (n : Int) := fun z => by have := ha.2; omega
    rcases List.mem_append.mp m with m | m
    · obtain ⟨i, j⟩ := h.inn q.1 q.2 m
      have n1 : q.1 ≠ (n : Int) := fun z => by have := i.2; omega
      have n2 : q.2 ≠ (n : Int) := fun z => by have := j.2; omega
      have := hφ q m
      dsimp only
      rw [if_neg n1, if_neg n2]
      exact this
    · cases List.mem_singleton.mp m
      dsimp only
      rw [if_neg na, if_pos rfl]
      split <;> rename_i c
      · omega
      · omega
theorem Ren.two {n : Nat} {f : Int → Int} {E F : Prs} (R : Ren n f E F) : ∀ q ∈ F, ∃ e ∈ E, q = (f e.1, f e.2) ∨ q = (f e.2, f e.1) := fun q m => by
  obtain ⟨G, g1, g2⟩ := R.ex
  rcases g2.mem q m with m | m
  · obtain ⟨e, me, h⟩ := List.mem_map.mp (g1.mem_iff.mp m)
    exact ⟨e, me, .inl h.symm⟩
  · obtain ⟨e, me, h⟩ := List.mem_map.mp (g1.mem_iff.mp m)
    refine ⟨e, me, .inr ?_⟩
    have := Prod.mk.inj h
    exact Prod.ext this.2.symm this.1.symm
theorem Ren.one {n : Nat} {f : Int → Int} {E F : Prs} (R : Ren n f E F) : ∀ e ∈ E, (f e.1, f e.2) ∈ F ∨ (f e.2, f e.1) ∈ F := fun e m => by
  obtain ⟨G, g1, g2⟩ := R.ex
  have := g1.mem_iff.mpr (List.mem_map.mpr ⟨e, m, rfl⟩)
  exact (g2.mem2 _ this)
/-- a tree has no ways round, however its pairs stand -/
theorem Ren.acy {n : Nat} {f : Int → Int} {E F : Prs} (R : Ren n f E F) (T : Tre n E) (sim : ∀ a b, InR n a → InR n b → nearS E (ind b) a ≤ 1) (nl : ∀ a b, (a, b) ∈ E → a ≠ b) : Acy F := by
  obtain ⟨φ, hφ⟩ := T.pot fun q => decide ((f q.1, f q.2) ∈ F)
  obtain ⟨g, hg⟩ := R.back
  refine acy_pot (fun y => φ (g y)) fun t h m => ?_
  obtain ⟨e, me, he⟩ := R.two _ m
  obtain ⟨i1, i2⟩ := R.hE e.1 e.2 me
  have hq := hφ e me
  rcases he with he | he
  · cases he
    show φ (g _) < φ (g _)
    rw [(hg _ i1).2.2, (hg _ i2).2.2]
    rw [if_pos (decide_eq_true m)] at hq
    exact hq
  · cases he
    show φ (g _) < φ (g _)
    rw [(hg _ i1).2.2, (hg _ i2).2.2]
    by_cases c : (f e.1, f e.2) ∈ F
    · exfalso
      have nf : f e.1 ≠ f e.2 := fun z => nl e.1 e.2 me (R.b.inj _ _ i1 i2 z)
      have h2 := two_of nf c m
      have h3 := R.near (ind (f e.2)) i1
      rw [h3] at h2
      have h4 : nearS E (fun x => ind (f e.2) (f x)) e.1 = nearS E (ind e.2) e.1 := near_congr R.hE (fun p hp => by
        unfold ind
        by_cases z : p = e.2
        · rw [z, if_pos rfl, if_pos rfl]
        · rw [if_neg z, if_neg (fun y => z (R.b.inj _ _ hp i2 y))]) _
      rw [h4] at h2
      have := sim e.1 e.2 i1 i2
      omega
    · rw [if_neg (by rw [decide_eq_false c]; exact Bool.false_ne_true)] at hq
      exact hq
theorem both_sym {E : Prs} {a b : Int} (h : Rch (both E) a b) : Rch (both E) b a := by
  induction h with
  | refl => exact .refl _
  | step _ e ih => exact (Rch.one (mem_both.mpr (mem_both.mp e).symm)).trans ih
theorem Ren.rch {n : Nat} {f : Int → Int} {E F : Prs} (R : Ren n f E F) {a b : Int} (h : Rch (both E) a b) : Rch (both F) (f a) (f b) := by
  induction h with
  | refl => exact .refl _
  | @step b c _ e ih =>
    refine ih.trans (Rch.one (mem_both.mpr ?_))
    rcases mem_both.mp e with m | m
    · exact (R.one _ m)
    · exact (R.one _ m).symm
theorem Ren.hangs {n : Nat} {f : Int → Int} {E F : Prs} (R : Ren n f E F) (hn : 0 < n) (h : (rounds E n [0]).length = n) : (rounds F n [0]).length = n := by
  have ne := rounds_all hn R.hE
  have nf := rounds_all hn R.inF
  have z0 : InR n 0 := ⟨Int.le_refl _, by omega⟩
  have rE : ∀ l : Prs, In n l → ∀ x, Rch (both l) 0 x → InR n x := fun l hl x k => by
    induction k with
    | refl => exact z0
    | step _ e _ =>
      rcases mem_both.mp e with m | m
      · exact (hl _ _ m).2
      · exact (hl _ _ m).1
  have nd1 : (rounds E n [0]).Nodup := rounds_nodup E n [0] (by simp)
  have nd2 : (rounds F n [0]).Nodup := rounds_nodup F n [0] (by simp)
  have allE : ∀ x, InR n x → Rch (both E) 0 x := fun x hx => (ne x).mp (full_of nd1 (fun y m => mem_rng.mpr (rE E R.hE y ((ne y).mp m))) (by rw [rng_len, h]; exact Nat.le_refl _) x (mem_rng.mpr hx))
  have allF : ∀ y, InR n y → Rch (both F) 0 y := fun y hy => by
    obtain ⟨x, hx, rfl⟩ := R.b.sur hy
    obtain ⟨w, hw, e⟩ := R.b.sur z0
    have h1 := R.rch (allE x hx)
    have h2 := both_sym (R.rch (allE w hw))
    rw [e] at h2
    exact h2.trans h1
  have s1 : (rng n).length ≤ (rounds F n [0]).length := sub_len (rng_nodup n) fun x m => (nf x).mpr (allF x (mem_rng.mp m))
  have s2 : (rounds F n [0]).length ≤ (rng n).length := sub_len nd2 fun x m => mem_rng.mpr (rE F R.inF x ((nf x).mp m))
  rw [rng_len] at s1 s2
  omega
end NetM


/-! the nets that are drawn, in their first names: what is worked out on each of them. Pure. -/
set_option linter.all false
set_option maxRecDepth 100000
namespace NetM
def lineP (n : Nat) : Prs := (List.range (n - 1)).map fun (k : Nat) => ((k : Int), (k : Int) + 1)
def goodP (n w : Nat) : Prs := if w = 1 ∧ 3 < n then (lineP n).dropLast ++ [((n : Int) - 3, (n : Int) - 1)] else if w = 2 ∧ 5 < n then (lineP n).dropLast ++ [(2, (n : Int) - 1)] else lineP n
def goodW (n w : Nat) : Nat := if w = 1 ∧ 3 < n then 1 else if w = 2 ∧ 5 < n then 2 else 0
/-- pairs, row; w, k as they are drawn -/
def roundP (w k : Nat) : Nat × Prs × List Int :=
  if w = 0 then (2, [(0, 1), (0, 1)], [1, 1])
  else if w = 1 then (3 + k, (List.range (3 + k)).map (fun (i : Nat) => ((i : Int), ((i : Int) + 1) % ((3 + k : Nat) : Int))), List.replicate (3 + k) 1)
  else if w = 2 then (1 + k + 4, (List.range k).map (fun (i : Nat) => ((i : Int), (i : Int) + 1)) ++ [(0, ((1 + k : Nat) : Int)), (0, ((1 + k : Nat) : Int) + 1), (((1 + k : Nat) : Int) - 1, ((1 + k : Nat) : Int) + 2), (((1 + k : Nat) : Int) - 1, ((1 + k : Nat) : Int) + 3)], List.replicate (1 + k) 2 ++ [1, 1, 1, 1])
  else if w = 3 then (7, [(0, 1), (1, 2), (0, 3), (3, 4), (0, 5), (5, 6)], [3, 2, 1, 2, 1, 2, 1])
  else if w = 4 then (8, [(0, 1), (1, 2), (2, 3), (0, 4), (4, 5), (5, 6), (0, 7)], [4, 3, 2, 1, 3, 2, 1, 2])
  else (5, [(0, 1), (0, 2), (0, 3), (0, 4)], [2, 1, 1, 1, 1])
/-- which w, k are drawn -/
def rdIx : List (Nat × Nat) := (0, 0) :: (List.range 6).map (fun k => (1, k)) ++ (List.range 4).map (fun k => (2, k)) ++ [(3, 0), (4, 0), (5, 0)]
/-- with one place more at j, or one pair more -/
def wildP (w k : Nat) (more : Bool) (j : Nat) : Nat × Prs :=
  let b := roundP w k
  if more then (b.1 + 1, b.2.1 ++ [((j : Int), (b.1 : Int))]) else (b.1, b.2.1 ++ [((j : Int), ((j : Int) + 1) % (b.1 : Int))])
def wdIx : List (Nat × Nat × Bool × Nat) := rdIx.flatMap fun q => let n := (roundP q.1 q.2).1
  (if n < 8 then (List.range n).map (fun j => (q.1, q.2, true, j)) else []) ++ (List.range n).map (fun j => (q.1, q.2, false, j))
def inB (n : Nat) (E : Prs) : Bool := E.all fun q => decide (0 ≤ q.1) && decide (q.1 < n) && decide (0 ≤ q.2) && decide (q.2 < n) && decide (q.1 ≠ q.2)
theorem in_of {n : Nat} {E : Prs} (h : inB n E = true) : In n E ∧ ∀ a b, (a, b) ∈ E → a ≠ b := by
  unfold inB at h
  rw [List.all_eq_true] at h
  have key : ∀ a b, (a, b) ∈ E → (InR n a ∧ InR n b) ∧ a ≠ b := fun a b m => by
    have := h _ m
    simp only [Bool.and_eq_true, decide_eq_true_eq] at this
    exact ⟨⟨⟨this.1.1.1.1, this.1.1.1.2⟩, ⟨this.1.1.2, this.1.2⟩⟩, this.2⟩
  exact ⟨fun a b m => (key a b m).1, fun a b m => (key a b m).2⟩
def treG : Nat → Prs → Bool
  | _, [] => true
  | n, q :: E => decide (q.2 = (n : Int)) && decide (0 ≤ q.1) && decide (q.1 < n) && treG (n + 1) E
theorem tre_of : ∀ {E : Prs} {n : Nat} {E0 : Prs}, Tre n E0 → treG n E = true → Tre (n + E.length) (E0 ++ E)
  | [], n, E0, h, _ => by rw [List.append_nil]; exact h
  | q :: E, n, E0, h, g => by
    unfold treG at g
    simp only [Bool.and_eq_true, decide_eq_true_eq] at g
    have e : q = (q.1, (n : Int)) := Prod.ext rfl g.1.1.1
    have h2 : Tre (n + 1) (E0 ++ [q]) := by rw [e]; exact .add q.1 h ⟨g.1.1.2, g.1.2⟩
    have := tre_of h2 g.2
    rw [List.append_assoc] at this
    rw [List.length_cons, show n + (E.length + 1) = n + 1 + E.length by omega]
    exact this
def simB (n : Nat) (E : Prs) : Bool := (rng n).all fun a => (rng n).all fun b => decide (nearS E (ind b) a ≤ 1)
theorem sim_of {n : Nat} {E : Prs} (h : simB n E = true) : ∀ a b, InR n a → InR n b → nearS E (ind b) a ≤ 1 := fun a b ha hb =>
  of_decide_eq_true (List.all_eq_true.mp (List.all_eq_true.mp h a (mem_rng.mpr ha)) b (mem_rng.mpr hb))
def maxL (L : List Int) : Int := L.foldl max 0
def ones (n : Nat) : List Int := List.replicate n 1
/-- all facts of a good net -/
def goodB (n w : Nat) : Bool := let E := goodP n w
  inB n E && treG 1 E && decide (E.length + 1 = n) && simB n E && decide ((rounds E n [0]).length = n) &&
    (match runS E n 60 (ones n) with | some (some L) => decide (min (maxL L) 3 - 1 = (goodW n w : Int)) && decide (frm E n (rowF L) ≠ 0) | _ => false)
theorem good_all : ((List.range 8).all fun n => (List.range 3).all fun w => goodB (n + 1) w) = true := by decide +kernel
def roundB (q : Nat × Nat) : Bool := let b := roundP q.1 q.2; let E := b.2.1; let n := b.1
  inB n E && decide (n ≤ 8) && decide (0 < n) && decide (E.length ≤ 12) && decide ((rounds E n [0]).length = n) && decide (b.2.2.length = n) &&
    decide (runS E n 60 (ones n) = some (some b.2.2)) && decide (frm E n (rowF b.2.2) = 0) && (rng n).all fun p => decide (2 * rowF b.2.2 p = nearS E (rowF b.2.2) p)
theorem round_all : (rdIx.all roundB) = true := by decide +kernel
def nextL (E : Prs) (n : Nat) (L : List Int) : List Int := (List.range n).map fun j => L.getD j 0 + nearS E (rowF L) j
def wildL (E : Prs) (n : Nat) : Nat → List Int → Option (List Int)
  | 0, _ => none
  | k + 1, L => if frm E n (rowF L) < 0 then some L else if L.all (fun i => decide (0 < i) && decide (i < 2 ^ 40)) then wildL E n k (nextL E n L) else none
def wildB (z : Nat × Nat × Bool × Nat) : Bool := let b := wildP z.1 z.2.1 z.2.2.1 z.2.2.2; let E := b.2; let n := b.1
  inB n E && decide (n ≤ 8) && decide (0 < n) && decide (E.length ≤ 12) && decide ((rounds E n [0]).length = n) &&
    decide (runS E n 60 (ones n) = some none) && (match wildL E n 60 (ones n) with | some L => L.all (fun i => decide (i < 2 ^ 40)) | none => false)
theorem wild_all : (wdIx.all wildB) = true := by decide +kernel
end NetM


/-! the row that grows, in other names. Pure. -/
set_option linter.all false
namespace NetM
def itR (E : Prs) : Nat → Rw
  | 0 => fun _ => 1
  | k + 1 => fun p => itR E k p + nearS E (itR E k) p
theorem Ren.it {n : Nat} {f : Int → Int} {E F : Prs} (R : Ren n f E F) : ∀ (k : Nat) {p : Int}, InR n p → itR F k (f p) = itR E k p
  | 0, p, _ => rfl
  | k + 1, p, hp => by
    show itR F k (f p) + nearS F (itR F k) (f p) = itR E k p + nearS E (itR E k) p
    rw [R.it k hp, R.near _ hp, near_congr R.hE fun q hq => R.it k hq]
/-- the row grows k times until its form is below 0 -/
structure Wl (E : Prs) (n k : Nat) : Prop where
  up : ∀ j, j < k → 0 ≤ frm E n (itR E j)
  lo : frm E n (itR E k) < 0
  sm : ∀ j, j ≤ k → ∀ p, InR n p → itR E j p < 2 ^ 40
theorem itR_pos (E : Prs) : ∀ (k : Nat) (p : Int), 1 ≤ itR E k p
  | 0, p => Int.le_refl _
  | k + 1, p => by
    have h1 := itR_pos E k p
    have h2 := near_nonneg (r := itR E k) (fun x => by have := itR_pos E k x; omega) p E
    show 1 ≤ itR E k p + nearS E (itR E k) p
    omega
theorem Ren.wl {n : Nat} {f : Int → Int} {E F : Prs} (R : Ren n f E F) {k : Nat} (h : Wl E n k) : Wl F n k := by
  have key : ∀ j, NetM.frm F n (itR F j) = NetM.frm E n (itR E j) := fun j => by
    rw [R.frm, frm_congr R.hE fun p hp => R.it j hp]
  refine ⟨fun j hj => by rw [key]; exact h.up j hj, by rw [key]; exact h.lo, fun j hj p hp => ?_⟩
  obtain ⟨x, hx, rfl⟩ := R.b.sur hp
  rw [R.it j hx]
  exact h.sm j hj x hx
def rowL (n : Nat) (r : Rw) : List Int := (rng n).map r
theorem rowL_len (n : Nat) (r : Rw) : (rowL n r).length = n := by unfold rowL; rw [List.length_map, rng_len]
theorem rowL_get {n : Nat} {r : Rw} {j : Nat} (h : j < n) : (rowL n r)[j]? = some (r j) := by
  unfold rowL rng
  rw [List.map_map, List.getElem?_map, List.getElem?_range h]
  rfl
theorem rowF_rowL {n : Nat} {r : Rw} {p : Int} (hp : InR n p) : rowF (rowL n r) p = r p := by
  obtain ⟨j, rfl⟩ : ∃ j : Nat, p = j := ⟨p.toNat, by have := hp.1; omega⟩
  rw [rowF_nat, List.getD_eq_getElem?_getD, rowL_get (by have := hp.2; omega)]
  rfl
theorem next_rowL {E : Prs} {n : Nat} (hE : In n E) (r : Rw) : nextL E n (rowL n r) = rowL n fun p => r p + nearS E r p := by
  unfold nextL
  have e0 : (rowL n fun p => r p + nearS E r p) = (List.range n).map fun (j : Nat) => r j + nearS E r j := by
    unfold rowL rng
    rw [List.map_map]
    rfl
  rw [e0]
  refine List.map_congr_left fun j mj => ?_
  have hj := List.mem_range.mp mj
  show (rowL n r).getD j 0 + nearS E (rowF (rowL n r)) j = r j + nearS E r j
  rw [near_congr hE (fun p hp => rowF_rowL hp), List.getD_eq_getElem?_getD, rowL_get hj]
  rfl
theorem ones_rowL (n : Nat) : ones n = rowL n fun _ => 1 := by
  unfold ones rowL
  rw [List.map_const', rng_len]
theorem wildL_ok {E : Prs} {n : Nat} (hE : In n E) : ∀ (m k : Nat) {L : List Int}, (∀ j, j < k → 0 ≤ frm E n (itR E j)) → (∀ j, j < k → ∀ p, InR n p → itR E j p < 2 ^ 40) → wildL E n m (rowL n (itR E k)) = some L → (∀ i ∈ L, i < 2 ^ 40) → ∃ k2, Wl E n k2 ∧ L = rowL n (itR E k2)
  | 0, k, L, _, _, e, _ => by cases e
  | m + 1, k, L, hu, hs, e, hL => by
    have ef : frm E n (rowF (rowL n (itR E k))) = frm E n (itR E k) := frm_congr hE fun p hp => rowF_rowL hp
    unfold wildL at e
    rw [ef] at e
    by_cases c : frm E n (itR E k) < 0
    · rw [if_pos c] at e
      cases e
      refine ⟨k, ⟨hu, c, fun j hj p hp => ?_⟩, rfl⟩
      rcases Nat.lt_or_ge j k with d | d
      · exact hs j d p hp
      · rw [show j = k by omega]
        exact hL _ (List.mem_map.mpr ⟨p, mem_rng.mpr hp, rfl⟩)
    · rw [if_neg c] at e
      split at e
      · rename_i c2
        rw [next_rowL hE] at e
        refine wildL_ok hE m (k + 1) (fun j hj => ?_) (fun j hj p hp => ?_) e hL
        · rcases Nat.lt_or_ge j k with d | d
          · exact hu j d
          · rw [show j = k by omega]; omega
        · rcases Nat.lt_or_ge j k with d | d
          · exact hs j d p hp
          · rw [show j = k by omega]
            have := List.all_eq_true.mp c2 _ (List.mem_map.mpr ⟨p, mem_rng.mpr hp, rfl⟩)
            rw [Bool.and_eq_true, decide_eq_true_eq, decide_eq_true_eq] at this
            exact this.2
      · cases e
theorem low_ones (E : Prs) (n : Nat) : Low E n (rowF (ones n)) := fun s hs p hp => by
  rw [ones_rowL, rowF_rowL hp]
  exact (hs p hp).1
theorem set_of {E : Prs} {n : Nat} (hE : In n E) {o : Option (List Int)} (h : runS E n 60 (ones n) = some o) : SetR E n o := runS_ok hE 60 List.length_replicate (low_ones E n) (fun i m => by rw [List.eq_of_mem_replicate m]; omega) h
/-- what is told of a wild net in its first names -/
theorem wild_of {z : Nat × Nat × Bool × Nat} (m : z ∈ wdIx) : let b := wildP z.1 z.2.1 z.2.2.1 z.2.2.2; (In b.1 b.2 ∧ ∀ x y, (x, y) ∈ b.2 → x ≠ y) ∧ b.1 ≤ 8 ∧ 0 < b.1 ∧ b.2.length ≤ 12 ∧ (rounds b.2 b.1 [0]).length = b.1 ∧ SetR b.2 b.1 none ∧ ∃ k, Wl b.2 b.1 k := by
  have h := List.all_eq_true.mp wild_all z m
  unfold wildB at h
  simp only [Bool.and_eq_true, decide_eq_true_eq] at h
  obtain ⟨⟨⟨⟨⟨⟨h1, h2⟩, h3⟩, h4⟩, h5⟩, h6⟩, h7⟩ := h
  have hi := in_of h1
  refine ⟨hi, h2, h3, h4, h5, set_of hi.1 h6, ?_⟩
  split at h7
  · rename_i L e
    rw [ones_rowL] at e
    obtain ⟨k, hk, _⟩ := wildL_ok hi.1 60 0 (fun j hj => absurd hj (Nat.not_lt_zero _)) (fun j hj => absurd hj (Nat.not_lt_zero _)) e (fun i mi => of_decide_eq_true (List.all_eq_true.mp h7 i mi))
    exact ⟨k, hk⟩
  · cases h7
theorem round_of {q : Nat × Nat} (m : q ∈ rdIx) : let b := roundP q.1 q.2; (In b.1 b.2.1 ∧ ∀ x y, (x, y) ∈ b.2.1 → x ≠ y) ∧ b.1 ≤ 8 ∧ 0 < b.1 ∧ b.2.1.length ≤ 12 ∧ (rounds b.2.1 b.1 [0]).length = b.1 ∧ b.2.2.length = b.1 ∧ SetR b.2.1 b.1 (some b.2.2) ∧ frm b.2.1 b.1 (rowF b.2.2) = 0 ∧ ∀ p, InR b.1 p → 2 * rowF b.2.2 p = nearS b.2.1 (rowF b.2.2) p := by
  have h := List.all_eq_true.mp round_all q m
  unfold roundB at h
  simp only [Bool.and_eq_true, decide_eq_true_eq] at h
  obtain ⟨⟨⟨⟨⟨⟨⟨⟨h1, h2⟩, h3⟩, h4⟩, h5⟩, h6⟩, h7⟩, h8⟩, h9⟩ := h
  have hi := in_of h1
  exact ⟨hi, h2, h3, h4, h5, h6, set_of hi.1 h7, h8, fun p hp => of_decide_eq_true (List.all_eq_true.mp h9 p (mem_rng.mpr hp))⟩
theorem good_of {n w : Nat} (h1 : 0 < n) (h2 : n ≤ 8) (h3 : w < 3) : let E := goodP n w; (In n E ∧ ∀ x y, (x, y) ∈ E → x ≠ y) ∧ Tre n E ∧ E.length + 1 = n ∧ (∀ a b, InR n a → InR n b → nearS E (ind b) a ≤ 1) ∧ (rounds E n [0]).length = n ∧ ∃ L, SetR E n (some L) ∧ min (maxL L) 3 - 1 = (goodW n w : Int) ∧ frm E n (rowF L) ≠ 0 := by
  have h := List.all_eq_true.mp (List.all_eq_true.mp good_all (n - 1) (List.mem_range.mpr (by omega))) w (List.mem_range.mpr h3)
  rw [show n - 1 + 1 = n by omega] at h
  unfold goodB at h
  simp only [Bool.and_eq_true, decide_eq_true_eq] at h
  obtain ⟨⟨⟨⟨⟨h1, h2⟩, h3⟩, h4⟩, h5⟩, h6⟩ := h
  have hi := in_of h1
  have ht := tre_of .nil h2
  rw [show 1 + (goodP n w).length = n by omega, List.nil_append] at ht
  refine ⟨hi, ht, h3, sim_of h4, h5, ?_⟩
  split at h6
  · rename_i L e
    rw [Bool.and_eq_true, decide_eq_true_eq, decide_eq_true_eq] at h6
    exact ⟨L, set_of hi.1 e, h6.1, h6.2⟩
  · cases h6
end NetM


set_option Elab.async false
set_option maxRecDepth 100000
set_option maxHeartbeats 4000000
set_option linter.all false
namespace K03
open PySem PySem.Spec PyProof.Rows L2 NetM

theorem ix_at {K : PySem.W.Frag} {H : Hp} {a : Addr} {v : V} {xs : List V} {j : Nat} (h : SqA K H a xs) (e : xs[j]? = some v) {Q : VK} (q : Q v H) : rIx K (.ref a) (.int (j : Nat)) H Q := by
  rcases h with h | h
  · exact .inl ⟨a, _, j, v, rfl, rfl, h, atI_nat e, q⟩
  · exact .inr (.inl ⟨a, _, j, v, rfl, rfl, h, atI_nat e, q⟩)
theorem map_inv {α : Type} {f : α → V} {l : List α} {i : Nat} {x : V} (h : (l.map f)[i]? = some x) : ∃ z, l[i]? = some z ∧ x = f z := by
  rw [List.getElem?_map] at h
  cases e : l[i]? with
  | none => rw [e] at h; cases h
  | some z => rw [e] at h; cases h; exact ⟨z, rfl, rfl⟩
abbrev sPairV : Stmt := top 23
abbrev N23 : List Str := ["net", "one", "other", "places", "a", "b", "tail", "head"]
theorem scPairV : FnScope N23 ["net", "one", "other"] (defScope sPairV) := ⟨rfl, rfl, rfl, by decide +kernel, rfl, by decide +kernel, by decide +kernel⟩
def pairV (E : Prs) (L M : List Int) : Int := (List.zipWith (fun a b => a * b) L M).sum - (E.map fun q => rowF L q.1 * rowF M q.2).sum
def spPairV (K : PySem.W.Frag) (CN : Addr) : Sp := fun vs H Q _ => ∃ (x a b : Addr) (n : Nat) (zs : Prs) (L M : List Int), vs = [.ref x, .ref a, .ref b] ∧ NetAt K CN H x n zs ∧ In n zs ∧ zs.length ≤ 12 ∧ n ≤ 8 ∧ SqA K H a (L.map V.int) ∧ SqA K H b (M.map V.int) ∧ L.length = n ∧ M.length = n ∧ (∀ i ∈ L, -(2 ^ 64) < i ∧ i < 2 ^ 64) ∧
  ∀ H', Same H H' → Q (.int (pairV zs L M)) H'
theorem rowF_get {L : List Int} {p : Int} (h : InR L.length p) : ∃ h2 : p.toNat < L.length, L[p.toNat] = rowF L p := by
  have h1 := h.1
  have h2 := h.2
  refine ⟨by omega, ?_⟩
  unfold rowF
  rw [List.getD_eq_getElem?_getD, List.getElem?_eq_getElem (by omega)]
  rfl
section
variable {P : Program} {w : World} {K : PySem.W.Frag} {mg : Str → Option Value} {base : Heap}
theorem ok_pairv {f CN : Addr} {fd : FuncData} (F : Fun K "pair_value" "pair_value" sPairV f fd) (T : NetT K mg CN) (mSum : mg "sum" = none) (mZ : mg "zip" = none) : FnOk P w K mg base CX0 1 f fd ["net", "one", "other"] (spPairV K CN) := by
  refine F.ok scPairV (fun vs H Q E h => ?_) (fun cdv A outer s H vs Q E hr h => ?_)
  · obtain ⟨x, a, b, n, zs, L, M, rfl, _⟩ := h
    rfl
  · obtain ⟨x, a, b, n, zs, L, M, rfl, hN, hE, hzl, hn, hA, hB, hL, hM, hb, k⟩ := h
    have nd := scPairV.nd
    refine ⟨_, pss_cons (ps_set (i := 3) nd rfl (by first | exact Or.inl rfl | exact Or.inr rfl) (pe_callB (show CallR _ _ (rSum K) from cr_sum (by rfl)) (by rfl) mSum (by decide +kernel) (pa_cons
          (pe_lc (own := [("a", 4), ("b", 5)]) (g := gTup K 2 (gCons (gName 4) (gCons (gName 5) gNil))) (by rfl) nd (pi_z2 (by rfl) mZ (pa_cons (pv 1) (pa_cons (pv 2) pa_nil))) (blkOk_by (own := [("a", 4), ("b", 5)]) (N := N23) (sc := defScope sPairV) (by decide +kernel))
            (fun _ _ _ _ _ => pg_tup (by rfl) (pgs_cons (pg_name (i := 4) nd rfl (by first | exact Or.inl rfl | exact Or.inr rfl)) (pgs_cons (pg_name (i := 5) nd rfl (by first | exact Or.inl rfl | exact Or.inr rfl)) pgs_nil))) (fun _ _ _ _ _ => pts_nil)
            (fun _ _ _ _ _ => pe_op op_mul (pv 4) (pv 5))) pa_nil)))
      (pss_one (ps_ret (pe_op op_sub (pv 3) (pe_callB (show CallR _ _ (rSum K) from cr_sum (by rfl)) (by rfl) mSum (by decide +kernel) (pa_cons
          (pe_lc (own := [("tail", 6), ("head", 7)]) (g := gTup K 2 (gCons (gName 6) (gCons (gName 7) gNil))) (by rfl) nd (pi_seq (pe_fld (pv 0) rfl)) (blkOk_by (own := [("tail", 6), ("head", 7)]) (N := N23) (sc := defScope sPairV) (by decide +kernel))
            (fun _ _ _ _ _ => pg_tup (by rfl) (pgs_cons (pg_name (i := 6) nd rfl (by first | exact Or.inl rfl | exact Or.inr rfl)) (pgs_cons (pg_name (i := 7) nd rfl (by first | exact Or.inl rfl | exact Or.inr rfl)) pgs_nil))) (fun _ _ _ _ _ => pts_nil)
            (fun _ _ _ _ _ => pe_op op_mul (pe_ix (show IxR _ (rIx K) from ix_seq) (pv 1) (pv 6) (fun _ _ => rfl)) (pe_ix (show IxR _ (rIx K) from ix_seq) (pv 2) (pv 7) (fun _ _ => rfl)))) pa_nil))))), ?_⟩
    refine ⟨_, rfl, _, rfl, a, b, L.map V.int, M.map V.int, rfl, hA, hB, fun J hJ D nD => ?_⟩
    refine lc_z2 hJ (by rw [List.length_map, List.length_map, hL, hM]) (fun i Hd => Hd D = some (.lst (((List.zipWith (fun a b => a * b) L M).take i).map V.int)) ∧ Same H Hd) ⟨upd_same, same_upd nD⟩ (fun i Hd _ hh => ⟨.of hh.2, .of hh.2⟩) ?_ ?_
    · rintro i xv yv U Hd hx hy ⟨eD, sd⟩ nU
      obtain ⟨u, hu, rfl⟩ := map_inv hx
      obtain ⟨v, hv, rfl⟩ := map_inv hy
      have hil : i < L.length := (List.getElem?_eq_some_iff.mp hu).1
      have hub := hb u (List.mem_of_getElem? hu)
      have sU : Same Hd (upd Hd U (.tup [.int u, .int v])) := same_upd nU
      refine ⟨U, [.int u, .int v], rfl, .inl (.inl upd_same), rfl, .int u, [.int v], rfl, .int v, [], rfl, rfl, rfl, ?_⟩
      dsimp only [tYes]
      refine iteT ?_
      refine ⟨_, rfl, _, rfl, _, _, rfl, rfl, .inl hub, _, sU _ _ eD, small_2000 (by rw [List.length_map, List.length_take]; omega), ?_, same_put (sd.trans sU) nD⟩
      rw [upd_same, List.take_add_one, List.getElem?_zipWith, hu, hv, List.map_append]
      rfl
    rintro Hd ⟨eD, sd⟩
    rw [List.take_of_length_le (by rw [List.length_zipWith, List.length_map]; omega)] at eD
    refine ⟨D, _, rfl, SqL.of eD, ?_⟩
    obtain ⟨dx, t, us, e, et, p, rfl⟩ := hN.same sd
    have hul : us.length ≤ 12 := by unfold nums at hzl; rw [List.length_map] at hzl; exact hzl
    refine ⟨_, rfl, _, rfl, x, CN, dx, _, _, rfl, e, T.cl, T.nA, rfl, t, rf us, rfl, .inr (SqT.of et), fun J2 hJ2 D2 nD2 => ?_⟩
    refine lc_seq hJ2 (fun i He => He D2 = some (.lst ((((nums us).map fun q => rowF L q.1 * rowF M q.2).take i).map V.int)) ∧ Same Hd He) ⟨upd_same, same_upd nD2⟩ (fun i He _ hh => .of hh.2) ?_ ?_
    · rintro j y He hj ⟨eD2, se⟩
      obtain ⟨⟨z, z1, z2⟩, hz, rfl⟩ := rf_inv hj
      have hil : j < us.length := (List.getElem?_eq_some_iff.mp hz).1
      obtain ⟨i1, i2⟩ := hE z1 z2 (List.mem_of_getElem? (nums_get hz))
      obtain ⟨g1, g2⟩ := rowF_get (L := L) (p := z1) (by rw [hL]; exact i1)
      obtain ⟨g3, g4⟩ := rowF_get (L := M) (p := z2) (by rw [hM]; exact i2)
      refine ⟨z, [.int z1, .int z2], rfl, sqt_same se (p _ (List.mem_of_getElem? hz)), rfl, .int z1, [.int z2], rfl, .int z2, [], rfl, rfl, rfl, ?_⟩
      dsimp only [tYes]
      refine iteT ?_
      refine ⟨_, rfl, _, rfl, ?_⟩
      rw [show z1 = ((z1.toNat : Nat) : Int) by have := i1.1; omega, show z2 = ((z2.toNat : Nat) : Int) by have := i2.1; omega]
      refine ix_at ((hA.same (sd.trans se))) (v := .int (rowF L z1)) (by rw [List.getElem?_map, List.getElem?_eq_getElem g1, g2]; rfl) ?_
      refine ⟨_, rfl, _, rfl, ?_⟩
      refine ix_at ((hB.same (sd.trans se))) (v := .int (rowF M z2)) (by rw [List.getElem?_map, List.getElem?_eq_getElem g3, g4]; rfl) ?_
      refine ⟨_, _, rfl, rfl, .inl (by rw [← g2]; exact hb _ (List.getElem_mem g1)), _, eD2, small_2000 (by rw [List.length_map, List.length_take, List.length_map]; omega), ?_, same_put se nD2⟩
      rw [upd_same, List.take_add_one, List.getElem?_map, nums_get hz, List.map_append]
      rfl
    · rintro He ⟨eD2, se⟩
      have hln : (rf us).length = (nums us).length := by unfold rf nums; rw [List.length_map, List.length_map]
      rw [hln, List.take_of_length_le (by rw [List.length_map]; exact Nat.le_refl _)] at eD2
      exact ⟨D2, _, rfl, SqL.of eD2, _, _, rfl, rfl, k He (sd.trans se)⟩
end
end K03


set_option Elab.async false
set_option maxRecDepth 100000
set_option maxHeartbeats 4000000
set_option linter.all false
namespace K03
open PySem PySem.Spec PyProof.Rows L2 NetM
abbrev sIsRow : Stmt := top 17
abbrev sChkRow : Stmt := top 18
abbrev sPairF : Stmt := top 24
abbrev sForm : Stmt := top 25
theorem scIsRow : FnScope ["net", "thing", "number"] ["net", "thing"] (defScope sIsRow) := ⟨rfl, rfl, rfl, by decide +kernel, rfl, by decide +kernel, by decide +kernel⟩
theorem scChkRow : FnScope ["net", "row"] ["net", "row"] (defScope sChkRow) := ⟨rfl, rfl, rfl, by decide +kernel, rfl, by decide +kernel, by decide +kernel⟩
theorem scPairF : FnScope ["net", "one", "other"] ["net", "one", "other"] (defScope sPairF) := ⟨rfl, rfl, rfl, by decide +kernel, rfl, by decide +kernel, by decide +kernel⟩
theorem scForm : FnScope ["net", "row"] ["net", "row"] (defScope sForm) := ⟨rfl, rfl, rfl, by decide +kernel, rfl, by decide +kernel, by decide +kernel⟩
/-- a number, or not -/
inductive NuJ (K : PySem.W.Frag) (H : Hp) : V → Option Int → Prop
  | int (i : Int) : NuJ K H (.int i) (some i)
  | bl (b : Bool) : NuJ K H (.bl b) none
  | no {x : V} {t : Value} (h : TyX K H x t) (z : PySem.W.kitOne K t (.type "int") = some false) {c : Bool} (zb : PySem.W.kitOne K t (.type "bool") = some c) : NuJ K H x none
theorem NuJ.same {K : PySem.W.Frag} {H H' : Hp} (s : Same H H') {x : V} {o : Option Int} : NuJ K H x o → NuJ K H' x o
  | .int i => .int i
  | .bl b => .bl b
  | .no h z zb => .no (TyX.same s h) z zb
theorem nu_isnum {K : PySem.W.Frag} {H : Hp} {x : V} {o : Option Int} {Q : VK} {E : XK} (h : NuJ K H x o) (q : Q (.bl o.isSome) H) : spIsNum K [x] H Q E := by
  cases h with
  | int i => exact ⟨_, _, true, false, rfl, .base (.int i), (num_int K).1, (num_int K).2, q⟩
  | bl b => exact ⟨_, _, true, true, rfl, .base (.bl b), (num_bool K).1, (num_bool K).2, q⟩
  | no h z zb => exact ⟨_, _, false, _, rfl, h, z, zb, q⟩
inductive NuL (K : PySem.W.Frag) (H : Hp) : List V → List (Option Int) → Prop
  | nil : NuL K H [] []
  | cons {x : V} {xs : List V} {o : Option Int} {os : List (Option Int)} (h : NuJ K H x o) (r : NuL K H xs os) : NuL K H (x :: xs) (o :: os)
theorem NuL.at {K : PySem.W.Frag} {H : Hp} : ∀ {xs : List V} {os : List (Option Int)} {i : Nat} {x : V}, NuL K H xs os → xs[i]? = some x → ∃ o, os[i]? = some o ∧ NuJ K H x o
  | _, _, _, _, .nil, e => by simp at e
  | _, _, 0, _, .cons h r, e => by cases e; exact ⟨_, rfl, h⟩
  | _, _, i + 1, _, .cons h r, e => NuL.at (i := i) r e
theorem NuL.len {K : PySem.W.Frag} {H : Hp} : ∀ {xs : List V} {os : List (Option Int)}, NuL K H xs os → os.length = xs.length
  | _, _, .nil => rfl
  | _, _, .cons _ r => by rw [List.length_cons, List.length_cons, r.len]
theorem NuL.same {K : PySem.W.Frag} {H H' : Hp} (s : Same H H') : ∀ {xs : List V} {os : List (Option Int)}, NuL K H xs os → NuL K H' xs os
  | _, _, .nil => .nil
  | _, _, .cons h r => .cons (h.same s) (r.same s)
theorem nul_ints {K : PySem.W.Frag} {H : Hp} : ∀ l : List Int, NuL K H (l.map V.int) (l.map some)
  | [] => .nil
  | i :: l => .cons (.int i) (nul_ints l)
def allS (os : List (Option Int)) : Bool := (os.map Option.isSome).all id
theorem alls_ints (l : List Int) : allS (l.map some) = true := by
  unfold allS
  rw [List.map_map, List.all_eq_true]
  intro b m
  obtain ⟨i, _, rfl⟩ := List.mem_map.mp m
  rfl
/-- what may be handed in as a row, and whether it is one -/
inductive RowV (K : PySem.W.Frag) (H : Hp) (n : Nat) : V → Bool → Prop
  | no {x : V} {t : Value} (h : TyX K H x t) (z : PySem.W.kitOne K t (.type "tuple") = some false) : RowV K H n x false
  | len {a : Addr} {xs : List V} (h : SqT K H a xs) (z : xs.length ≠ n) (hl : xs.length ≤ 1000) : RowV K H n (.ref a) false
  | row {a : Addr} {xs : List V} {os : List (Option Int)} (h : SqT K H a xs) (l : xs.length = n) (nl : NuL K H xs os) : RowV K H n (.ref a) (allS os)
theorem RowV.same {K : PySem.W.Frag} {H H' : Hp} (s : Same H H') {n : Nat} {x : V} {b : Bool} : RowV K H n x b → RowV K H' n x b
  | .no h z => .no (TyX.same s h) z
  | .len h z l => .len (sqt_same s h) z l
  | .row h l nl => .row (sqt_same s h) l (nl.same s)
theorem row_ok {K : PySem.W.Frag} {H : Hp} {a : Addr} {L : List Int} (h : SqT K H a (L.map V.int)) : RowV K H L.length (.ref a) true := by
  have := RowV.row (n := L.length) h (List.length_map ..) (nul_ints L)
  rw [alls_ints] at this
  exact this
theorem kit_tt (K : PySem.W.Frag) : PySem.W.kitOne K (.type "tuple") (.type "tuple") = some true := by kernel_rfl
def spIsRow (K : PySem.W.Frag) (CN : Addr) : Sp := fun vs H Q _ => ∃ (x : Addr) (y : V) (n : Nat) (zs : Prs) (b : Bool), vs = [.ref x, y] ∧ NetAt K CN H x n zs ∧ n ≤ 8 ∧ RowV K H n y b ∧ ∀ H', Same H H' → Q (.bl b) H'
def spChkRow (K : PySem.W.Frag) (CN CR : Addr) : Sp := fun vs H Q E => ∃ (x : Addr) (y : V) (n : Nat) (zs : Prs) (b : Bool), vs = [.ref x, y] ∧ NetAt K CN H x n zs ∧ n ≤ 8 ∧ RowV K H n y b ∧ ((b = false ∧ Rp CR H E) ∨ (b = true ∧ ∀ H', Same H H' → Q .non H'))
section
variable {P : Program} {w : World} {K : PySem.W.Frag} {mg : Str → Option Value} {base : Heap} {CN CB CR : Addr}
theorem ok_isrow {f fN : Addr} {fd dN : FuncData} (F : Fun K "is_row" "is_row" sIsRow f fd) (T : NetT K mg CN) (GN : FnOk P w K mg base CX0 1 fN dN ["thing"] (spIsNum K)) (bN : L2.Binds K dN ["thing"] []) (gN : mg "is_number" = some (.ref fN)) (kN : PySem.W.keepIn K (.ref fN) = true) (mIs : mg "isinstance" = none) (mTup : mg "tuple" = none) (mLen : mg "len" = none) (mAll : mg "all" = none) : FnOk P w K mg base CX0 2 f fd ["net", "thing"] (spIsRow K CN) := by
  refine F.ok scIsRow (fun vs H Q E h => ?_) (fun cdv A outer s H vs Q E hr h => ?_)
  · obtain ⟨x, y, n, zs, b, rfl, _⟩ := h
    rfl
  · obtain ⟨x, y, n, zs, b, rfl, hN, hn, hy, k⟩ := h
    have nd := scIsRow.nd
    refine ⟨_, pss_one (ps_ret (pe_and (pe_callB call_isi (by rfl) mIs (by decide +kernel) (pa_cons (pv 1) (pa_cons (pe_bltn (v := .ty "tuple") (by rfl) mTup (by decide +kernel) rfl) pa_nil)))
      (pe_and (pe_cmpR op_eq (pe_callB call_len_seq (by rfl) mLen PySem.boot_len (pa_cons (pv 1) pa_nil)) (pe_fld (pv 0) rfl) (nomark _))
      (pe_one (pe_callB (show CallR _ _ (rAll K) from cr_all (by rfl)) (by rfl) mAll (by decide +kernel) (pa_cons
        (pe_lc (own := [("number", 2)]) (g := gName 2) (by rfl) nd (pi_seq (pv 1)) (blkOk_by (own := [("number", 2)]) (N := ["net", "thing", "number"]) (sc := defScope sIsRow) (by decide +kernel)) (fun _ _ _ _ _ => pg_name (i := 2) nd rfl (by first | exact Or.inl rfl | exact Or.inr rfl)) (fun _ _ _ _ _ => pts_nil)
          (fun _ _ _ _ _ => pe_call GN hr (by rfl) gN kN bN .nil pass0 (pa_cons (pv 2) pa_nil))) pa_nil)))))), ?_⟩
    have fin : ∀ (a : Addr) (xs : List V), SqT K H a xs → TyX K H (.ref a) (.type "tuple") := fun a xs h => ty_tup h
    obtain ⟨dx, t, us, e, et, p, rfl⟩ := id hN
    cases hy with
    | no h z => exact ⟨_, rfl, _, _, _, _, false, rfl, .ty "tuple", h, z, _, rfl, iteF (k H (Same.refl _))⟩
    | @len a xs h z hl =>
      refine ⟨_, rfl, _, _, _, _, true, rfl, .ty "tuple", ty_tup h, kit_tt K, _, rfl, ?_⟩
      refine iteT ?_
      refine ⟨_, rfl, a, xs, rfl, .inr h, _, rfl, x, CN, dx, _, _, rfl, e, T.cl, T.nP, rfl, rfl, _, rfl, ?_⟩
      refine iteFb (decide_eq_false (fun q => z (by have := V.int.inj q; omega))) ?_
      exact k H (Same.refl _)
    | @row a xs os h l nl =>
      refine ⟨_, rfl, _, _, _, _, true, rfl, .ty "tuple", ty_tup h, kit_tt K, _, rfl, ?_⟩
      refine iteT ?_
      refine ⟨_, rfl, a, xs, rfl, .inr h, _, rfl, x, CN, dx, _, _, rfl, e, T.cl, T.nP, rfl, rfl, _, rfl, ?_⟩
      refine iteTb (decide_eq_true (by rw [l])) ?_
      refine ⟨_, rfl, a, xs, rfl, .inr h, fun J hJ D nD => ?_⟩
      refine lc_seq hJ (fun i Hd => Hd D = some (.lst (((os.map Option.isSome).take i).map V.bl)) ∧ Same H Hd) ⟨upd_same, same_upd nD⟩ (fun i Hd _ hh => .of hh.2) ?_ ?_
      · rintro i y Hd hi ⟨eD, sd⟩
        obtain ⟨o, ho, hj⟩ := nl.at hi
        have hil : i < xs.length := (List.getElem?_eq_some_iff.mp hi).1
        refine ⟨rfl, ?_⟩
        dsimp only [tYes]
        refine iteT ?_
        refine ⟨_, rfl, ?_⟩
        refine nu_isnum (E := E0) (Q := fun z H4 => ∃ acc, H4 D = some (.lst acc) ∧ acc.length < sizeLine ∧ ((upd H4 D (.lst (acc ++ [z]))) D = some (.lst (((os.map Option.isSome).take (i + 1)).map V.bl)) ∧ Same H (upd H4 D (.lst (acc ++ [z]))))) (hj.same sd) ⟨_, eD, small_2000 (by rw [List.length_map, List.length_take, List.length_map, nl.len]; omega), ?_, same_put sd nD⟩
        rw [upd_same, List.take_add_one, List.getElem?_map, ho, List.map_append]
        rfl
      · rintro Hd ⟨eD, sd⟩
        rw [List.take_of_length_le (by rw [List.length_map, nl.len]; exact Nat.le_refl _)] at eD
        exact ⟨D, _, rfl, SqL.of eD, k Hd sd⟩
theorem ok_chkrow {f fN : Addr} {fd dN : FuncData} (F : Fun K "check_row" "check_row" sChkRow f fd) (GN : FnOk P w K mg base CX0 2 fN dN ["net", "thing"] (spIsRow K CN)) (bN : L2.Binds K dN ["net", "thing"] []) (gN : mg "is_row" = some (.ref fN)) (kN : PySem.W.keepIn K (.ref fN) = true) (B : PlX K mg "BadRow" CR) : FnOk P w K mg base (L2.CX P w) 3 f fd ["net", "row"] (spChkRow K CN CR) := by
  refine F.okX scChkRow (fun vs H Q E h => ?_) (fun cdv A outer s H vs Q E hr h => ?_)
  · obtain ⟨x, y, n, zs, b, rfl, _⟩ := h
    rfl
  · obtain ⟨x, y, n, zs, b, rfl, hN, hn, hy, k⟩ := h
    have nd := scChkRow.nd
    refine ⟨_, pss_one (ps_if (pt_not (pt_val (pe_call GN hr (by rfl) gN kN bN .nil pass0 (pa_cons (pv 0) (pa_cons (pv 1) pa_nil)))))
      (pss_one (ps_raise rfl (takes_of rfl rfl rfl rfl) (pmk_own PySem.F.excBase_ValueError B.q B.g B.k (raises_own B.s B.t) (by rfl)))) pss_nil), ?_⟩
    refine ⟨_, rfl, _, rfl, x, y, n, zs, b, rfl, hN, hn, hy, fun H' s' => ⟨_, rfl, ?_⟩⟩
    rcases k with ⟨e, k⟩ | ⟨e, k⟩
    · rw [e]
      refine iteT ?_
      exact k H' s'
    · rw [e]
      refine iteF ?_
      exact k H' s'
end
end K03


set_option Elab.async false
set_option maxRecDepth 100000
set_option maxHeartbeats 4000000
set_option linter.all false
namespace K03
open PySem PySem.Spec PyProof.Rows L2 NetM
/-- two rows are asked: what is no Net, then what is no row, from left to right; otherwise the form of both -/
def spPairF (K : PySem.W.Frag) (CN CB CR : Addr) : Sp := fun vs H Q E => ∃ x y z : V, vs = [x, y, z] ∧ ((NoNet K CN H x ∧ Rz CB H E .non) ∨ ∃ (a : Addr) (n : Nat) (zs : Prs), x = .ref a ∧ NetAt K CN H a n zs ∧ In n zs ∧ zs.length ≤ 12 ∧ n ≤ 8 ∧
  ((RowV K H n y false ∧ Rp CR H E) ∨ ∃ (b : Addr) (L : List Int), y = .ref b ∧ SqT K H b (L.map V.int) ∧ L.length = n ∧ (∀ i ∈ L, -(2 ^ 64) < i ∧ i < 2 ^ 64) ∧
    ((RowV K H n z false ∧ Rp CR H E) ∨ ∃ (c : Addr) (M : List Int), z = .ref c ∧ SqT K H c (M.map V.int) ∧ M.length = n ∧ ∀ H', Same H H' → Q (.int (pairV zs L M)) H')))
def spForm (K : PySem.W.Frag) (CN CB CR : Addr) : Sp := fun vs H Q E => ∃ x y : V, vs = [x, y] ∧ ((NoNet K CN H x ∧ Rz CB H E .non) ∨ ∃ (a : Addr) (n : Nat) (zs : Prs), x = .ref a ∧ NetAt K CN H a n zs ∧ In n zs ∧ zs.length ≤ 12 ∧ n ≤ 8 ∧
  ((RowV K H n y false ∧ Rp CR H E) ∨ ∃ (b : Addr) (L : List Int), y = .ref b ∧ SqT K H b (L.map V.int) ∧ L.length = n ∧ (∀ i ∈ L, -(2 ^ 64) < i ∧ i < 2 ^ 64) ∧ ∀ H', Same H H' → Q (.int (pairV zs L L)) H'))
section
variable {P : Program} {w : World} {K : PySem.W.Frag} {mg : Str → Option Value} {base : Heap} {CN CB CR : Addr}
/-- what both defs call -/
structure SubF (P : Program) (w : World) (K : PySem.W.Frag) (mg : Str → Option Value) (base : Heap) (CN CB CR : Addr) where
  C : ChkF P w K mg base CN CB
  fR : Addr
  dR : FuncData
  okR : FnOk P w K mg base (L2.CX P w) 3 fR dR ["net", "row"] (spChkRow K CN CR)
  bR : L2.Binds K dR ["net", "row"] []
  gR : mg "check_row" = some (.ref fR)
  kR : PySem.W.keepIn K (.ref fR) = true
  fV : Addr
  dV : FuncData
  okV : FnOk P w K mg base CX0 1 fV dV ["net", "one", "other"] (spPairV K CN)
  bV : L2.Binds K dV ["net", "one", "other"] []
  gV : mg "pair_value" = some (.ref fV)
  kV : PySem.W.keepIn K (.ref fV) = true
theorem ok_pairf {f : Addr} {fd : FuncData} (F : Fun K "pair_form" "pair_form" sPairF f fd) (Y : SubF P w K mg base CN CB CR) : FnOk P w K mg base (L2.CX P w) 5 f fd ["net", "one", "other"] (spPairF K CN CB CR) := by
  refine F.okX scPairF (fun vs H Q E h => ?_) (fun cdv A outer s H vs Q E hr h => ?_)
  · obtain ⟨x, y, z, rfl, _⟩ := h
    rfl
  · obtain ⟨x, y, z, rfl, h⟩ := h
    have nd := scPairF.nd
    have r1 : Room 1 _ := hr.mono (by decide)
    have r3 : Room 3 _ := hr.mono (by decide)
    refine ⟨_, pss_cons (ps_expr (pe_call Y.C.ok hr (by rfl) Y.C.g Y.C.kp Y.C.b .nil (passes_call (takes_of rfl rfl rfl rfl) fun _ _ _ _ h => h) (pa_cons (pv 0) pa_nil)))
      (pss_cons (ps_expr (pe_call Y.okR r3 (by rfl) Y.gR Y.kR Y.bR .nil (passes_call (takes_of rfl rfl rfl rfl) fun _ _ _ _ h => h) (pa_cons (pv 0) (pa_cons (pv 1) pa_nil))))
      (pss_cons (ps_expr (pe_call Y.okR r3 (by rfl) Y.gR Y.kR Y.bR .nil (passes_call (takes_of rfl rfl rfl rfl) fun _ _ _ _ h => h) (pa_cons (pv 0) (pa_cons (pv 2) pa_nil))))
      (pss_one (ps_ret (pe_call Y.okV r1 (by rfl) Y.gV Y.kV Y.bV .nil pass0 (pa_cons (pv 0) (pa_cons (pv 1) (pa_cons (pv 2) pa_nil)))))))), ?_⟩
    rcases h with ⟨h, hR⟩ | ⟨a, n, zs, rfl, hN, hE, hz, hn, h⟩
    · exact ⟨_, rfl, _, rfl, .inl ⟨h, hR⟩⟩
    refine ⟨_, rfl, _, rfl, .inr ⟨a, n, zs, rfl, hN, ?_⟩⟩
    rcases h with ⟨h, hR⟩ | ⟨b, L, rfl, hb, hL, hbd, h⟩
    · exact ⟨_, rfl, _, rfl, a, _, n, zs, false, rfl, hN, hn, h, .inl ⟨rfl, hR⟩⟩
    refine ⟨_, rfl, _, rfl, a, _, n, zs, true, rfl, hN, hn, by rw [← hL]; exact row_ok hb, .inr ⟨rfl, fun H1 s1 => ?_⟩⟩
    rcases h with ⟨h, hR⟩ | ⟨c, M, rfl, hc, hM, k⟩
    · exact ⟨_, rfl, _, rfl, a, _, n, zs, false, rfl, hN.same s1, hn, h.same s1, .inl ⟨rfl, hR.same s1⟩⟩
    refine ⟨_, rfl, _, rfl, a, _, n, zs, true, rfl, hN.same s1, hn, by rw [← hM]; exact row_ok (sqt_same s1 hc), .inr ⟨rfl, fun H2 s2 => ?_⟩⟩
    have s12 := s1.trans s2
    exact ⟨_, rfl, _, rfl, _, rfl, a, b, c, n, zs, L, M, rfl, hN.same s12, hE, hz, hn, .inr (sqt_same s12 hb), .inr (sqt_same s12 hc), hL, hM, hbd, fun H3 s3 => k H3 (s12.trans s3)⟩
theorem ok_form {f : Addr} {fd : FuncData} (F : Fun K "form" "form" sForm f fd) (Y : SubF P w K mg base CN CB CR) : FnOk P w K mg base (L2.CX P w) 5 f fd ["net", "row"] (spForm K CN CB CR) := by
  refine F.okX scForm (fun vs H Q E h => ?_) (fun cdv A outer s H vs Q E hr h => ?_)
  · obtain ⟨x, y, rfl, _⟩ := h
    rfl
  · obtain ⟨x, y, rfl, h⟩ := h
    have nd := scForm.nd
    have r1 : Room 1 _ := hr.mono (by decide)
    have r3 : Room 3 _ := hr.mono (by decide)
    refine ⟨_, pss_cons (ps_expr (pe_call Y.C.ok hr (by rfl) Y.C.g Y.C.kp Y.C.b .nil (passes_call (takes_of rfl rfl rfl rfl) fun _ _ _ _ h => h) (pa_cons (pv 0) pa_nil)))
      (pss_cons (ps_expr (pe_call Y.okR r3 (by rfl) Y.gR Y.kR Y.bR .nil (passes_call (takes_of rfl rfl rfl rfl) fun _ _ _ _ h => h) (pa_cons (pv 0) (pa_cons (pv 1) pa_nil))))
      (pss_one (ps_ret (pe_call Y.okV r1 (by rfl) Y.gV Y.kV Y.bV .nil pass0 (pa_cons (pv 0) (pa_cons (pv 1) (pa_cons (pv 1) pa_nil))))))), ?_⟩
    rcases h with ⟨h, hR⟩ | ⟨a, n, zs, rfl, hN, hE, hz, hn, h⟩
    · exact ⟨_, rfl, _, rfl, .inl ⟨h, hR⟩⟩
    refine ⟨_, rfl, _, rfl, .inr ⟨a, n, zs, rfl, hN, ?_⟩⟩
    rcases h with ⟨h, hR⟩ | ⟨b, L, rfl, hb, hL, hbd, k⟩
    · exact ⟨_, rfl, _, rfl, a, _, n, zs, false, rfl, hN, hn, h, .inl ⟨rfl, hR⟩⟩
    refine ⟨_, rfl, _, rfl, a, _, n, zs, true, rfl, hN, hn, by rw [← hL]; exact row_ok hb, .inr ⟨rfl, fun H1 s1 => ?_⟩⟩
    exact ⟨_, rfl, _, rfl, _, rfl, a, b, b, n, zs, L, L, rfl, hN.same s1, hE, hz, hn, .inr (sqt_same s1 hb), .inr (sqt_same s1 hb), hL, hL, hbd, fun H3 s3 => k H3 (s1.trans s3)⟩
end
end K03


set_option Elab.async false
set_option maxRecDepth 100000
set_option maxHeartbeats 4000000
set_option linter.all false
namespace K03
open PySem PySem.Spec PyProof.Rows L2 NetM
abbrev sOther : Stmt := top 27
abbrev N27 : List Str := ["net", "found", "_", "tail", "head"]
theorem scOther : FnScope N27 ["net"] (defScope sOther) := ⟨rfl, rfl, rfl, by decide +kernel, rfl, by decide +kernel, by decide +kernel⟩
def near1 (q : Int × Int) (p : Int) : List Int := (if q.1 = p then [q.2] else []) ++ (if q.2 = p then [q.1] else [])
def nearL (E : Prs) (p : Int) : List Int := E.flatMap fun q => near1 q p
theorem nearL_sum (E : Prs) (r : Rw) (p : Int) : ((nearL E p).map r).sum = nearS E r p := by
  unfold nearL
  induction E with
  | nil => rfl
  | cons q E ih =>
    rw [List.flatMap_cons, List.map_append, List.sum_append, ih, nearS_cons]
    congr 1
    unfold near1
    rw [List.map_append, List.sum_append]
    congr 1
    · split <;> simp
    · split <;> simp
theorem nearL_in {n : Nat} {E : Prs} (hE : In n E) (p : Int) : ∀ i ∈ nearL E p, InR n i := fun i m => by
  unfold nearL at m
  obtain ⟨q, mq, mi⟩ := List.mem_flatMap.mp m
  obtain ⟨h1, h2⟩ := hE q.1 q.2 mq
  unfold near1 at mi
  rcases List.mem_append.mp mi with m | m
  · split at m
    · rw [List.mem_singleton.mp m]; exact h2
    · cases m
  · split at m
    · rw [List.mem_singleton.mp m]; exact h1
    · cases m
theorem near1_len (q : Int × Int) (p : Int) : (near1 q p).length ≤ 2 := by
  unfold near1
  rw [List.length_append]
  split <;> split <;> simp
theorem nearL_len (E : Prs) (p : Int) : (nearL E p).length ≤ 2 * E.length := by
  unfold nearL
  induction E with
  | nil => simp
  | cons q E ih =>
    rw [List.flatMap_cons, List.length_append, List.length_cons]
    have := near1_len q p
    omega
theorem stay_tup {K : PySem.W.Frag} {H H' : Hp} {t : Addr} {xs : List V} (h : H t = some (.tup xs)) (h' : H' t = some (.tup xs)) : Stay K t H H' := by
  refine ⟨fun ys q => ?_, fun ys q => ?_⟩
  · rcases q with (q | ⟨o, q⟩) | q
    · rw [h] at q; cases q
    · rw [h] at q; cases q
    · exact .inr q
  · rcases q with (q | ⟨o, q⟩) | q
    · rw [h] at q; cases q; exact .inl (.inl h')
    · rw [h] at q; cases q
    · exact .inr q
/-- a list of lists, all of them new -/
structure Rows0 (H0 : Hp) (D : Addr) (as : List Addr) (g : Nat → List Int) (H : Hp) : Prop where
  at_ : H D = some (.lst (as.map V.ref))
  row : ∀ i, ∀ h : i < as.length, H as[i] = some (.lst ((g i).map V.int))
  nd : as.Nodup
  nD : D ∉ as
  nw : H0 D = none ∧ ∀ a ∈ as, H0 a = none
  sm : Same H0 H
theorem Rows0.put {H0 : Hp} {D : Addr} {as : List Addr} {g : Nat → List Int} {H : Hp} (R : Rows0 H0 D as g H) {i : Nat} (h : i < as.length) (l : List Int) : Rows0 H0 D as (fun k => if k = i then l else g k) (upd H as[i] (.lst (l.map V.int))) where
  at_ := by rw [upd_ne (fun z => R.nD (by rw [z]; exact List.getElem_mem h))]; exact R.at_
  row := fun k hk => by
    by_cases c : k = i
    · subst c
      rw [upd_same, if_pos rfl]
    · rw [upd_ne (fun z => c ((List.getElem?_inj hk R.nd).mp (by rw [List.getElem?_eq_getElem hk, List.getElem?_eq_getElem h, z]))), if_neg c]
      exact R.row k hk
  nd := R.nd
  nD := R.nD
  nw := R.nw
  sm := same_put R.sm (R.nw.2 _ (List.getElem_mem h))
def spOther (K : PySem.W.Frag) (CN : Addr) : Sp := fun vs H Q _ => ∃ (x : Addr) (n : Nat) (zs : Prs), vs = [.ref x] ∧ NetAt K CN H x n zs ∧ In n zs ∧ zs.length ≤ 12 ∧ n ≤ 8 ∧ (∀ a b, (a, b) ∈ zs → a ≠ b) ∧
  ∀ D as g H', Rows0 H D as g H' → as.length = n → (∀ i, g i = nearL zs i) → Q (.ref D) H'
section
variable {P : Program} {w : World} {K : PySem.W.Frag} {mg : Str → Option Value} {base : Heap} {CN : Addr}
theorem ok_other {f : Addr} {fd : FuncData} (F : Fun K "other_ends" "other_ends" sOther f fd) (T : NetT K mg CN) (mRa : mg "range" = none) : FnOk P w K mg base CX0 1 f fd ["net"] (spOther K CN) := by
  refine F.ok scOther (fun vs H Q E h => ?_) (fun cdv A outer s H vs Q E hr h => ?_)
  · obtain ⟨x, n, zs, rfl, _⟩ := h
    rfl
  · obtain ⟨x, n, zs, rfl, hN, hE, hz, hn, nl, k⟩ := h
    have nd := scOther.nd
    refine ⟨_, pss_cons (ps_setLc (i := 1) (own := [("_", 2)]) (g := gName 2) (by rfl) nd rfl rfl (sw_true rfl rfl rfl (by decide +kernel)) (pi_range1 (by rfl) mRa (pa_cons (pe_fld (pv 0) rfl) pa_nil)) (blkOk_by (own := [("_", 2)]) (N := N27) (sc := defScope sOther) (by decide +kernel)) (fun _ _ _ _ _ => pg_name (i := 2) nd rfl (by first | exact Or.inl rfl | exact Or.inr rfl)) (fun _ _ _ _ _ => pts_nil) (fun _ _ _ _ _ => pe_lst pa_nil))
      (pss_cons (ps_for PassesOwn.never rfl (pi_seq (pe_fld (pv 0) rfl)) (pg_tup (by rfl) (pgs_cons (pg_name (i := 3) nd rfl (by first | exact Or.inl rfl | exact Or.inr rfl)) (pgs_cons (pg_name (i := 4) nd rfl (by first | exact Or.inl rfl | exact Or.inr rfl)) pgs_nil)))
        (pss_cons (ps_expr (pe_bm PySem.F.plainAttrs_list PySem.F.slot_list_append PySem.F.type_list_append mt_append (pe_ix ix_list (pv 1) (pv 3) (fun _ _ => rfl)) (pa_cons (pv 4) pa_nil)))
        (pss_one (ps_expr (pe_bm PySem.F.plainAttrs_list PySem.F.slot_list_append PySem.F.type_list_append mt_append (pe_ix ix_list (pv 1) (pv 4) (fun _ _ => rfl)) (pa_cons (pv 3) pa_nil))))))
      (pss_one (ps_ret (pv 1)))), ?_⟩
    obtain ⟨dx, t, us, e, et, p, rfl⟩ := id hN
    have hul : us.length ≤ 12 := by unfold nums at hz; rw [List.length_map] at hz; exact hz
    refine ⟨_, rfl, x, CN, dx, _, _, rfl, e, T.cl, T.nP, rfl, n, rfl, by omega, by omega, fun D nD => ?_⟩
    rw [Int.toNat_natCast]
    refine lc_range (lo := 0) (n := n) (fun i Hd => ∃ as : List Addr, as.length = i ∧ Rows0 H D as (fun _ => []) Hd) ⟨[], rfl, ⟨upd_same, fun i h => absurd h (Nat.not_lt_zero _), List.nodup_nil, by simp, ⟨nD, fun a m => by cases m⟩, same_upd nD⟩⟩ ?_ ?_
    · rintro i Hd hi ⟨as, hl, R⟩
      refine ⟨rfl, ?_⟩
      dsimp only [tYes]
      refine iteT ?_
      refine ⟨Nat.zero_le _, fun q nq => ?_⟩
      have nqD : q ≠ D := fun z => by rw [z, R.at_] at nq; cases nq
      have nqa : ∀ a ∈ as, q ≠ a := fun a m z => by
        obtain ⟨j, hj, e⟩ := List.getElem_of_mem m
        have := R.row j hj
        rw [e, ← z, nq] at this
        cases this
      have hq0 : H q = none := by
        cases c : H q with
        | none => rfl
        | some o => rw [R.sm _ _ c] at nq; cases nq
      refine ⟨_, same_upd nq _ _ R.at_, small_2000 (by rw [List.length_map]; omega), as ++ [q], by rw [List.length_append, hl]; rfl, ?_, ?_, ?_, ?_, ?_, ?_⟩
      · rw [upd_same, List.map_append]; rfl
      · intro j hj
        by_cases c : j < as.length
        · rw [List.getElem_append_left c, upd_ne (fun z => R.nD (by rw [← z]; exact List.getElem_mem c)), upd_ne (fun z => nqa _ (List.getElem_mem c) z.symm)]
          exact R.row j c
        · have hj2 : j = as.length := by rw [List.length_append] at hj; have : j < as.length + 1 := hj; omega
          subst hj2
          rw [List.getElem_append_right (Nat.le_refl _)]
          simp only [Nat.sub_self, List.getElem_cons_zero]
          rw [upd_ne nqD, upd_same]
          rfl
      · refine List.nodup_append.mpr ⟨R.nd, by simp, fun a m b mb => ?_⟩
        rw [List.mem_singleton.mp mb]
        exact fun z => nqa a m z.symm
      · intro m
        rcases List.mem_append.mp m with m | m
        · exact R.nD m
        · exact nqD (List.mem_singleton.mp m).symm
      · refine ⟨nD, fun a m => ?_⟩
        rcases List.mem_append.mp m with m | m
        · exact R.nw.2 a m
        · rw [List.mem_singleton.mp m]; exact hq0
      · exact same_put (R.sm.trans (same_upd nq)) nD
    rintro Hd ⟨as, hl, R⟩
    refine ⟨_, rfl, x, CN, dx, _, _, rfl, R.sm _ _ e, T.cl, T.nA, rfl, t, rf us, rfl, .inr (SqT.of (R.sm _ _ et)), fun J hJ => ?_⟩
    refine for_seq hJ (fun j σ Hx => ∃ (v3 v4 : Option V) (g : Nat → List Int), σ = [some (.ref x), some (.ref D), none, v3, v4] ∧ Rows0 H D as g Hx ∧ (∀ i : Nat, g i = nearL ((nums us).take j) i)) ⟨none, none, _, rfl, R, fun i => rfl⟩ (fun j σ Hx _ hh => by obtain ⟨_, _, _, _, Rx, _⟩ := hh; exact stay_tup (R.sm _ _ et) (Rx.sm _ _ et)) ?_ ?_
    · rintro j y σ Hx hj ⟨v3, v4, g, rfl, Rx, hg⟩
      obtain ⟨⟨z, z1, z2⟩, hz, rfl⟩ := rf_inv hj
      have mz := List.mem_of_getElem? hz
      have mn : (z1, z2) ∈ nums us := List.mem_of_getElem? (nums_get hz)
      obtain ⟨i1, i2⟩ := hE z1 z2 mn
      have ne := nl z1 z2 mn
      have htk : (nums us).take (j + 1) = (nums us).take j ++ [(z1, z2)] := by rw [List.take_add_one, nums_get hz]; rfl
      obtain ⟨a1, rfl⟩ : ∃ k : Nat, z1 = k := ⟨z1.toNat, by have := i1.1; omega⟩
      obtain ⟨a2, rfl⟩ : ∃ k : Nat, z2 = k := ⟨z2.toNat, by have := i2.1; omega⟩
      have h1 : a1 < as.length := by have := i1.2; omega
      have h2 : a2 < as.length := by have := i2.2; omega
      have hne : a2 ≠ a1 := fun z => ne (by rw [z])
      refine ⟨z, [.int a1, .int a2], rfl, sqt_same Rx.sm (p _ mz), rfl, .int a1, [.int a2], rfl, .int a2, [], rfl, rfl, ?_⟩
      have hgl : ∀ i, (g i).length ≤ 24 := fun i => by
        rw [hg i]
        have := nearL_len ((nums us).take j) i
        have h3 : ((nums us).take j).length ≤ 12 := by rw [List.length_take]; exact Nat.le_trans (Nat.min_le_right _ _) (by unfold nums; rw [List.length_map]; exact hul)
        omega
      have eg1 := Rx.row a1 h1
      refine ⟨_, rfl, _, rfl, D, _, (a1 : Int), .ref as[a1], rfl, rfl, SqL.of Rx.at_, atI_nat (by rw [List.getElem?_map, List.getElem?_eq_getElem h1]; rfl), .inl ⟨rfl, _, SqL.of eg1⟩, _, rfl, as[a1], _, _, rfl, rfl, eg1, small_2000 (by rw [List.length_map]; have := hgl a1; omega), ?_⟩
      have R1 := Rx.put h1 (g a1 ++ [(a2 : Int)])
      rw [List.map_append] at R1
      have eg2 := R1.row a2 h2
      rw [if_neg hne] at eg2
      refine ⟨_, rfl, _, rfl, D, _, (a2 : Int), .ref as[a2], rfl, rfl, SqL.of R1.at_, atI_nat (by rw [List.getElem?_map, List.getElem?_eq_getElem h2]; rfl), .inl ⟨rfl, _, SqL.of eg2⟩, _, rfl, as[a2], _, _, rfl, rfl, eg2, small_2000 (by rw [List.length_map]; have := hgl a2; omega), ?_⟩
      have R2 := R1.put h2 (g a2 ++ [(a1 : Int)])
      rw [List.map_append] at R2
      refine ⟨_, _, _, rfl, R2, fun i => ?_⟩
      · rw [htk]
        unfold nearL
        rw [List.flatMap_append, List.flatMap_cons, List.flatMap_nil, List.append_nil]
        have hgi := hg i
        unfold nearL at hgi
        rw [← hgi]
        unfold near1
        have c1 : ((a1 : Int) = (i : Int)) ↔ i = a1 := ⟨fun z => by omega, fun z => by rw [z]⟩
        have c2 : ((a2 : Int) = (i : Int)) ↔ i = a2 := ⟨fun z => by omega, fun z => by rw [z]⟩
        by_cases d2 : i = a2
        · rw [if_pos d2, if_pos (c2.mpr d2), if_neg (fun z => hne (d2.symm.trans (c1.mp z))), List.nil_append, d2]
        · rw [if_neg d2, if_neg (fun z => d2 (c2.mp z)), List.append_nil]
          by_cases d1 : i = a1
          · rw [if_pos d1, if_pos (c1.mpr d1), d1]
          · rw [if_neg d1, if_neg (fun z => d1 (c1.mp z)), List.append_nil]
    · rintro σ Hx ⟨v3, v4, g, rfl, Rx, hg⟩
      have hln : (rf us).length = (nums us).length := by unfold rf nums; rw [List.length_map, List.length_map]
      rw [hln, List.take_length] at hg
      exact ⟨_, rfl, k D as g Hx Rx hl hg⟩
end
end K03


set_option Elab.async false
set_option maxRecDepth 100000
set_option maxHeartbeats 4000000
set_option linter.all false
namespace K03
open PySem PySem.Spec PyProof.Rows L2 NetM
abbrev sSettled : Stmt := top 28
abbrev N28 : List Str := ["net", "ends", "row", "raised", "place", "near", "k"]
theorem scSettled : FnScope N28 ["net"] (defScope sSettled) := ⟨rfl, rfl, rfl, by decide +kernel, rfl, by decide +kernel, by decide +kernel⟩
/-- enumerate of what is walked -/
theorem for_e2 {K : PySem.W.Frag} {a : Addr} {xs : List V} {H1 : Hp} {J : It} (Wk : IsE K a xs H1 J) {g : TG} {tb : TS} {D : Ends} {σ : L2.St} {H : Hp} (Pv : Nat → L2.St → Hp → Prop) (h0 : Pv 0 σ H) (hl : ∀ i σ H, i ≤ xs.length → Pv i σ H → Stay K a H1 H)
    (hs : ∀ i x U σ H, xs[i]? = some x → Pv i σ H → H U = none → g (.ref U) σ (upd H U (.tup [.int (i : Nat), x])) fun σ2 H2 => tb { D with nx := Pv (i + 1), ct := Pv (i + 1), bk := D.nx } σ2 H2) (hd : ∀ σ H, Pv xs.length σ H → D.nx σ H) :
    ∃ W : Nat → Nat → L2.St → Hp → Prop, (∃ m, W 0 m σ H) ∧ ∀ i m σ H, W i m σ H →
      (J.stop i H ∧ D.nx σ H) ∨ (J.go i H ∧ ∃ N : L2.St → Hp → Prop, (∀ σ' H', N σ' H' → ∃ m', m' < m ∧ W (i + 1) m' σ' H') ∧ ∀ x H', J.yld i H x H' → g x σ H' fun σ2 H2 => tb { D with nx := N, ct := N, bk := D.nx } σ2 H2) := by
  refine ⟨fun i m σ H => m + i = xs.length ∧ Pv i σ H, ⟨xs.length, rfl, h0⟩, fun i m σ H h => ?_⟩
  obtain ⟨hm, p⟩ := h
  obtain ⟨w1, w2, w3⟩ := Wk i H (hl i σ H (by omega) p)
  rcases Nat.lt_or_ge i xs.length with lt | ge
  · refine .inr ⟨w1 xs[i] (List.getElem?_eq_getElem lt), Pv (i + 1), fun σ' H' p' => ⟨m - 1, by omega, by omega, p'⟩, fun v H' y => ?_⟩
    obtain ⟨T, x, rfl, hT, rfl, e⟩ := w2 v H' y
    exact hs i x T σ _ e p hT
  · have e : i = xs.length := by omega
    subst e
    exact .inl ⟨w3 rfl, hd σ H p⟩
/-- what a net's settled row is, or that there is none -/
def spSettled (K : PySem.W.Frag) (CN : Addr) : Sp := fun vs H Q _ => ∃ (x : Addr) (n : Nat) (zs : Prs), vs = [.ref x] ∧ NetAt K CN H x n zs ∧ In n zs ∧ zs.length ≤ 12 ∧ n ≤ 8 ∧ 0 < n ∧ (∀ a b, (a, b) ∈ zs → a ≠ b) ∧
  (SetR zs n none → ∀ H', Same H H' → Q .non H') ∧ ∀ L, SetR zs n (some L) → ∀ T H', Same H H' → H' T = some (.tup (L.map V.int)) → Q (.ref T) H'
section
variable {X : Cx}
theorem get_list : PGet X (rIxL X.K) := by
  intro pins s σ H o i ov iv Q I ro ri h
  obtain ⟨p, xs, i, z, rfl, rfl, hq, he, q⟩ := h
  cases ro
  obtain ⟨t, rfl⟩ := ri
  obtain ⟨its, r, pl, hz⟩ := I.list hq
  obtain ⟨j, h1, h2, h3, h4, h5⟩ := atI_get he
  obtain ⟨w, ew, rw'⟩ := r.get h2
  have hl := r.length
  have hn := line63
  have fin : EP X pins σ Q w s := ⟨z, H, I, rw', q⟩
  by_cases h0 : 0 ≤ i
  · have hj : i.toNat = j := by
      rw [seqIndex_of h0 h5] at h1
      exact Option.some.inj h1
    exact wpAny_getItem_list pl.isList h0 (by omega) (by rw [hj]; simpa using ew) fin
  · have hj : (i + (its.toArray.size : Int)).toNat = j := by
      rw [seqIndex_neg (by omega) h4] at h1
      rw [List.size_toArray, ← hl]
      exact Option.some.inj h1
    exact wpAny_getItem_list_neg pl.isList (by omega) (by rw [List.size_toArray] <;> omega) (by omega) (by rw [hj]; simpa using ew) fin
end
theorem rep1 (v : V) : ∀ n : Nat, (List.replicate n [v]).flatten = List.replicate n v
  | 0 => rfl
  | n + 1 => by rw [List.replicate_succ, List.flatten_cons, rep1 v n]; rfl
theorem ixN_n {n j : Nat} (h : j < n) : ixN n (j : Int) = some j := by
  unfold ixN
  rw [if_pos (by omega), if_pos (by omega), Int.toNat_natCast]
theorem stay_lst {K : PySem.W.Frag} {H H' : Hp} {t : Addr} {xs : List V} (h : H t = some (.lst xs)) (h' : H' t = some (.lst xs)) : Stay K t H H' := by
  refine ⟨fun ys q => ?_, fun ys q => ?_⟩
  · rcases q with (q | ⟨o, q⟩) | q
    · rw [h] at q; cases q; exact .inl (.inl h')
    · rw [h] at q; cases q
    · exact .inr q
  · rcases q with (q | ⟨o, q⟩) | q
    · rw [h] at q; cases q
    · rw [h] at q; cases q
    · exact .inr q
def sumV : List V → Int
  | [] => 0
  | .int i :: xs => i + sumV xs
  | _ :: xs => sumV xs
theorem sumV_int : ∀ L : List Int, sumV (L.map V.int) = L.sum
  | [] => rfl
  | i :: L => by rw [List.sum_cons, ← sumV_int L]; rfl
def mu (Rq : Addr) (σ : L2.St) (H : Hp) : Nat := match σ, H Rq with
  | [_, _, _, some (.bl true), _, _, _], some (.lst xs) => (49 - sumV xs).toNat + 1
  | _, _ => 0
/-- what stays while the row is worked on -/
structure Kp (H : Hp) (De Rq : Addr) (as : List Addr) (g : Nat → List Int) (Hx : Hp) : Prop where
  at_ : Hx De = some (.lst (as.map V.ref))
  row : ∀ i, ∀ h : i < as.length, Hx as[i] = some (.lst ((g i).map V.int))
  sm : Same H Hx
  nw : H Rq = none
  n1 : De ≠ Rq
  n2 : ∀ a ∈ as, a ≠ Rq
theorem Kp.same {H : Hp} {De Rq : Addr} {as : List Addr} {g : Nat → List Int} {Hx Hy : Hp} (k : Kp H De Rq as g Hx) (s : Same Hx Hy) : Kp H De Rq as g Hy := ⟨s _ _ k.at_, fun i h => s _ _ (k.row i h), k.sm.trans s, k.nw, k.n1, k.n2⟩
theorem Kp.put {H : Hp} {De Rq : Addr} {as : List Addr} {g : Nat → List Int} {Hx : Hp} (k : Kp H De Rq as g Hx) (o : HO) : Kp H De Rq as g (upd Hx Rq o) := ⟨by rw [upd_ne k.n1]; exact k.at_, fun i h => by rw [upd_ne (k.n2 _ (List.getElem_mem h))]; exact k.row i h, same_put k.sm k.nw, k.nw, k.n1, k.n2⟩
theorem max_ex : ∀ {L : List Int}, 0 < L.length → ∃ m ∈ L, ∀ y ∈ L, y ≤ m
  | [a], _ => ⟨a, by simp, fun y h => by rw [List.mem_singleton.mp h]; exact Int.le_refl _⟩
  | a :: b :: L, _ => by
    obtain ⟨m, h1, h2⟩ := max_ex (L := b :: L) (by simp)
    by_cases c : m ≤ a
    · exact ⟨a, by simp, fun y h => by
        rcases List.mem_cons.mp h with rfl | h
        · exact Int.le_refl _
        · have := h2 y h; omega⟩
    · exact ⟨m, List.mem_cons_of_mem _ h1, fun y h => by
        rcases List.mem_cons.mp h with rfl | h
        · omega
        · exact h2 y h⟩
section
variable {P : Program} {w : World} {K : PySem.W.Frag} {mg : Str → Option Value} {base : Heap} {CN : Addr}
theorem ok_settled {f fO : Addr} {fd dO : FuncData} {tk : Nat} (F : Fun K "settled_row" "settled_row" sSettled f fd) (T : NetT K mg CN) (GO : FnOk P w K mg base CX0 1 fO dO ["net"] (spOther K CN)) (bO : L2.Binds K dO ["net"] []) (gO : mg "other_ends" = some (.ref fO)) (kO : PySem.W.keepIn K (.ref fO) = true) (gG : mg "GREATEST_SETTLED" = some (.int 6 tk)) (mEn : mg "enumerate" = none) (mSum : mg "sum" = none) (mMax : mg "max" = none) (mTup : mg "tuple" = none) : FnOk P w K mg base CX0 2 f fd ["net"] (spSettled K CN) := by
  refine F.ok scSettled (fun vs H Q E h => ?_) (fun cdv A outer s H vs Q E hr h => ?_)
  · obtain ⟨x, n, zs, rfl, _⟩ := h
    rfl
  · obtain ⟨x, n, zs, rfl, hN, hE, hz, hn, n0, nl, kN, kS⟩ := h
    have nd := scSettled.nd
    refine ⟨_, pss_cons (ps_set (i := 1) nd rfl (by first | exact Or.inl rfl | exact Or.inr rfl) (pe_call GO hr (by rfl) gO kO bO .nil pass0 (pa_cons (pv 0) pa_nil)))
      (pss_cons (ps_set (i := 2) nd rfl (by first | exact Or.inl rfl | exact Or.inr rfl) (pe_op op_rep (pe_lst (pa_cons pe_int pa_nil)) (pe_fld (pv 0) rfl)))
      (pss_cons (ps_set (i := 3) nd rfl (by first | exact Or.inl rfl | exact Or.inr rfl) pe_bl)
      (pss_cons (ps_while PassesOwn.never (pt_val (pv 3))
        (pss_cons (ps_set (i := 3) nd rfl (by first | exact Or.inl rfl | exact Or.inr rfl) pe_bl)
        (pss_cons (ps_for PassesOwn.never rfl (show PI _ _ _ (iE2 K (tCons (tVar 1) tNil)) from pi_e2 (by rfl) mEn (pa_cons (pv 1) pa_nil)) (pg_tup (by rfl) (pgs_cons (pg_name (i := 4) nd rfl (by first | exact Or.inl rfl | exact Or.inr rfl)) (pgs_cons (pg_name (i := 5) nd rfl (by first | exact Or.inl rfl | exact Or.inr rfl)) pgs_nil)))
          (pss_one (ps_if (pt_cmpR op_lt (pe_op op_mul pe_int (pe_ix ix_list (pv 2) (pv 4) (fun _ _ => rfl))) (pe_callB (show CallR _ _ (rSum K) from cr_sum (by rfl)) (by rfl) mSum (by decide +kernel) (pa_cons
              (pe_lc (own := [("k", 6)]) (g := gName 6) (by rfl) nd (pi_seq (pv 5)) (blkOk_by (own := [("k", 6)]) (N := N28) (sc := defScope sSettled) (by decide +kernel)) (fun _ _ _ _ _ => pg_name (i := 6) nd rfl (by first | exact Or.inl rfl | exact Or.inr rfl)) (fun _ _ _ _ _ => pts_nil)
                (fun _ _ _ _ _ => pe_ix (show IxR _ (rIx K) from ix_seq) (pv 2) (pv 6) (fun _ _ => rfl))) pa_nil)) (nomark _))
            (pss_cons (ps_augS (pv 2) (pv 4) get_list pe_int ip_add set_list) (pss_one (ps_set (i := 3) nd rfl (by first | exact Or.inl rfl | exact Or.inr rfl) pe_bl))) pss_nil)))
        (pss_one (ps_if (pt_cmpR op_gt (pe_callB (show CallR _ _ (rMax K) from cr_max (by rfl)) (by rfl) mMax (by decide +kernel) (pa_cons (pv 2) pa_nil)) (pe_glob (v := .int 6) (by rfl) gG ⟨tk, rfl⟩) (nomark _)) (pss_one (ps_ret pe_non)) pss_nil)))))
      (pss_one (ps_ret (pe_callTy (show CallR _ _ (fun xs H Q => ∃ p ys, xs = [.ref p] ∧ ((SqL K H p ys ∧ ∀ l, H l = none → Q (.ref l) (upd H l (.tup ys))) ∨ (SqT K H p ys ∧ Q (.ref p) H))) from call_tuple_of) (by rfl) mTup (by decide +kernel) (pa_cons (pv 2) pa_nil))))))), ?_⟩
    obtain ⟨dx, t, us, e, et, p, _⟩ := id hN
    refine ⟨_, rfl, x, n, zs, rfl, hN, hE, hz, hn, nl, fun De as g H1 R1 hal hg => ?_⟩
    refine ⟨by show 1 ≤ sizeLine; decide, fun q0 nq0 => ?_⟩
    have s1 := same_upd (o := .lst [.int 1]) nq0
    refine ⟨_, rfl, x, CN, dx, _, _, rfl, s1 _ _ (R1.sm _ _ e), T.cl, T.nP, rfl, ?_⟩
    refine ⟨q0, (n : Int), [.int 1], rfl, rfl, upd_same, by omega, by omega, by rw [Int.toNat_natCast]; exact Nat.le_of_lt (small_2000 (by show 1 * _ ≤ 2000; omega)), fun Rq nR => ?_⟩
    have hal' := hal
    obtain ⟨H2, eH2⟩ : ∃ H2 : Hp, H2 = upd (upd H1 q0 (.lst [.int 1])) Rq (.lst (List.replicate (n : Int).toNat [V.int 1]).flatten) := ⟨_, rfl⟩
    rw [← eH2]
    have s2 := s1.trans (same_upd (o := .lst (List.replicate (n : Int).toNat [V.int 1]).flatten) nR)
    rw [← eH2] at s2
    have eR : H2 Rq = some (.lst ((ones n).map V.int)) := by rw [eH2, upd_same, Int.toNat_natCast, rep1]; unfold ones; rw [List.map_replicate]
    have nR1 : H1 Rq = none := by
      cases c : H1 Rq with
      | none => rfl
      | some o => rw [s1 _ _ c] at nR; cases nR
    have nRH : H Rq = none := by
      cases c : H Rq with
      | none => rfl
      | some o => rw [R1.sm _ _ c] at nR1; cases nR1
    have n1 : De ≠ Rq := fun z => by
      have := R1.at_
      rw [z, nR1] at this
      cases this
    have n2 : ∀ a ∈ as, a ≠ Rq := fun a m z => by
      obtain ⟨j, hj, ej⟩ := List.getElem_of_mem m
      have := R1.row j hj
      rw [ej, z, nR1] at this
      cases this
    have KP : Kp H De Rq as g H2 := ⟨s2 _ _ R1.at_, fun i h => s2 _ _ (R1.row i h), R1.sm.trans s2, nRH, n1, n2⟩
    clear nR nR1 eH2 s1 s2
    refine while_by (fun σ Hx => ∃ (b : Bool) (v4 v5 : Option V) (L : List Int), σ = [some (.ref x), some (.ref De), some (.ref Rq), some (.bl b), v4, v5, none] ∧ Hx Rq = some (.lst (L.map V.int)) ∧ L.length = n ∧ Low zs n (rowF L) ∧ (∀ i ∈ L, 1 ≤ i ∧ i ≤ 6) ∧ (b = false → Setl zs n (rowF L)) ∧ Kp H De Rq as g Hx)
      (mu Rq) ?_ ?_ ?_
    · exact ⟨true, none, none, ones n, rfl, eR, List.length_replicate, low_ones zs n, (fun i m => by rw [List.eq_of_mem_replicate m]; omega), (fun h => by cases h), KP⟩
    · rintro σ Hx ⟨b, v4, v5, L, rfl, eL, hL, low, hb, hst, kp⟩
      refine ⟨_, rfl, b, rfl, ?_⟩
      cases b with
      | false =>
        refine iteF ?_
        refine ⟨_, rfl, Rq, _, rfl, .inl ⟨SqL.of eL, fun Tq nT => ?_⟩⟩
        exact kS L ⟨hL, ⟨hst rfl, low⟩, hb⟩ Tq _ (kp.sm.trans (same_upd nT)) upd_same
      | true =>
        refine iteT ?_
        refine ⟨_, rfl, De, _, rfl, .inl (SqL.of kp.at_), fun J hJ => ?_⟩
        refine for_e2 hJ (fun j σ Hy => ∃ (v4 v5 : Option V), σ = [some (.ref x), some (.ref De), some (.ref Rq), some (.bl (raisTo zs L j)), v4, v5, none] ∧ Hy Rq = some (.lst ((passTo zs L j).map V.int)) ∧ Kp H De Rq as g Hy) ⟨_, _, rfl, eL, kp⟩ (fun j σ Hy _ hh => by
          obtain ⟨_, _, _, _, ky⟩ := hh
          exact stay_lst kp.at_ ky.at_) ?_ ?_
        · rintro j y U σ Hy hj ⟨v4, v5, rfl, ey, ky⟩ nU
          rw [List.getElem?_map] at hj
          cases haj : as[j]? with
          | none => rw [haj] at hj; cases hj
          | some a =>
            rw [haj] at hj
            cases hj
            have hjl : j < as.length := (List.getElem?_eq_some_iff.mp haj).1
            have haje : as[j] = a := (List.getElem?_eq_some_iff.mp haj).2
            have hjn : j < n := by omega
            have hpl : (passTo zs L j).length = n := by rw [pass_len, hL]
            have sU : Same Hy (upd Hy U (.tup [.int (j : Nat), .ref a])) := same_upd nU
            have kU := ky.same sU
            have eyU := sU _ _ ey
            have rj := kU.row j hjl
            rw [haje, hg j] at rj
            refine ⟨U, [.int j, .ref a], rfl, .inl (.inl upd_same), rfl, .int j, [.ref a], rfl, .ref a, [], rfl, rfl, ?_⟩
            generalize upd Hy U (.tup [.int (j : Nat), .ref a]) = Hu at kU eyU rj
            have hjv : (passTo zs L j)[j]? = some ((passTo zs L j).getD j 0) := by
              rw [List.getElem?_eq_getElem (by omega), List.getD_eq_getElem?_getD, List.getElem?_eq_getElem (by omega)]; rfl
            refine ⟨_, rfl, _, rfl, Rq, _, (j : Int), .int ((passTo zs L j).getD j 0), rfl, rfl, SqL.of eyU, atI_nat (by rw [List.getElem?_map, hjv]; rfl), 2, (passTo zs L j).getD j 0, rfl, rfl, .inl ⟨by decide, by decide⟩, ?_⟩
            refine ⟨_, rfl, a, _, rfl, .inl (SqL.of rj), fun J2 hJ2 D nD => ?_⟩
            refine lc_seq hJ2 (fun i Hd => Hd D = some (.lst ((((nearL zs j).map (rowF (passTo zs L j))).take i).map V.int)) ∧ Same Hu Hd) ⟨upd_same, same_upd nD⟩ (fun i Hd _ hh => .of hh.2) ?_ ?_
            · rintro i y Hd hi ⟨eD, sd⟩
              obtain ⟨m, hm, rfl⟩ := map_inv hi
              have hil : i < (nearL zs j).length := (List.getElem?_eq_some_iff.mp hm).1
              have him := nearL_in hE j m (List.mem_of_getElem? hm)
              obtain ⟨g1, g2⟩ := rowF_get (L := passTo zs L j) (p := m) (by rw [hpl]; exact him)
              have hnl := nearL_len zs j
              refine ⟨rfl, ?_⟩
              dsimp only [tYes]
              refine iteT ?_
              refine ⟨_, rfl, _, rfl, ?_⟩
              rw [show m = ((m.toNat : Nat) : Int) by have := him.1; omega]
              refine ix_at (.inl (SqL.of (sd _ _ eyU))) (v := .int (rowF (passTo zs L j) m)) (by rw [List.getElem?_map, List.getElem?_eq_getElem g1, g2]; rfl) ?_
              refine ⟨_, eD, small_2000 (by rw [List.length_map, List.length_take, List.length_map]; omega), ?_, same_put sd nD⟩
              rw [upd_same, List.take_add_one, List.getElem?_map, hm, List.map_append]
              rfl
            rintro Hd ⟨eD, sd⟩
            rw [List.take_of_length_le (by rw [List.length_map, List.length_map]; exact Nat.le_refl _)] at eD
            have kd := kU.same sd
            have eyd := sd _ _ eyU
            refine ⟨D, _, rfl, SqL.of eD, ?_⟩
            rw [nearL_sum]
            refine ⟨_, _, rfl, rfl, _, rfl, ?_⟩
            by_cases c : lowAt zs (passTo zs L j) j = true
            · refine iteTb (by unfold lowAt at c; exact c) ?_
              refine ⟨_, rfl, _, rfl, Rq, _, (j : Int), .int ((passTo zs L j).getD j 0), rfl, rfl, SqL.of eyd, atI_nat (by rw [List.getElem?_map, hjv]; rfl), _, _, rfl, rfl, Rq, _, (j : Int), j, rfl, rfl, eyd, ?_, ?_⟩
              · rw [List.length_map]; exact ixN_n (by omega)
              refine ⟨some (.int (j : Int)), some (.ref a), ?_, ?_, kd.put _⟩
              · rw [show raisTo zs L (j + 1) = true by show (raisTo zs L j || lowAt zs (passTo zs L j) j) = true; rw [c, Bool.or_true]]
                rfl
              · rw [upd_same]
                show _ = some (HO.lst ((stepL zs (passTo zs L j) j).map V.int))
                unfold stepL
                rw [if_pos c, List.map_set]
            · refine iteFb (by unfold lowAt at c; cases q : decide (2 * (passTo zs L j).getD j 0 < nearS zs (rowF (passTo zs L j)) j) with
                | true => exact absurd q c
                | false => rfl) ?_
              have c' : lowAt zs (passTo zs L j) j = false := by
                cases q : lowAt zs (passTo zs L j) j with
                | true => exact absurd q c
                | false => rfl
              refine ⟨some (.int (j : Int)), some (.ref a), ?_, ?_, kd⟩
              · rw [show raisTo zs L (j + 1) = raisTo zs L j by show (raisTo zs L j || lowAt zs (passTo zs L j) j) = _; rw [c', Bool.or_false]]
                rfl
              · rw [eyd]
                show _ = some (HO.lst ((stepL zs (passTo zs L j) j).map V.int))
                unfold stepL
                rw [if_neg c]
        · rintro σ Hy ⟨v4', v5', rfl, ey, ky⟩
          rw [List.length_map, hal] at ey ⊢
          have low2 := pass_low hE hL low n (Nat.le_refl _)
          have hl2 : (passTo zs L n).length = n := by rw [pass_len, hL]
          have ge2 : ∀ i ∈ passTo zs L n, 1 ≤ i := pass_ge (fun i m => (hb i m).1) n (by omega)
          obtain ⟨m, mm, hmax⟩ := max_ex (L := passTo zs L n) (by omega)
          refine ⟨_, rfl, Rq, _, rfl, SqL.of ey, by omega, fun m' h1 h2 => ?_⟩
          have em : m' = m := Int.le_antisymm (hmax _ h1) (h2 _ mm)
          subst em
          refine ⟨_, _, rfl, rfl, _, rfl, ?_⟩
          by_cases c : 6 < m'
          · refine iteTb (decide_eq_true (by omega)) ?_
            exact kN (big_none hl2 low2 mm c) Hy ky.sm
          · refine iteFb (decide_eq_false (by omega)) ?_
            refine ⟨⟨raisTo zs L n, _, _, passTo zs L n, rfl, ey, hl2, low2, fun i mi => ⟨ge2 i mi, by have := hmax i mi; omega⟩, fun hf => ?_, ky⟩, ?_⟩
            · obtain ⟨h3, h4⟩ := raise_no hf
              rw [h3]
              exact setl_of hL (fun i m => (hb i m).1) h4
            · have hsum := pass_sum (E := zs) (L := L) n (by omega)
              have hle := sum_le (L := passTo zs L n) (b := 6) fun i mi => by have := hmax i mi; omega
              rw [hl2] at hle
              unfold mu
              rw [ey, eL]
              cases q : raisTo zs L n with
              | false => exact Nat.succ_pos _
              | true =>
                have := hsum.2 q
                show (49 - sumV ((passTo zs L n).map V.int)).toNat + 1 < (49 - sumV (L.map V.int)).toNat + 1
                rw [sumV_int, sumV_int]
                omega
    · rintro σ Hx Q Q' hQ ⟨v, e, b, e2, q⟩
      exact ⟨v, e, b, e2, hQ _ _ q⟩
end
end K03


set_option Elab.async false
set_option maxRecDepth 100000
set_option maxHeartbeats 4000000
set_option linter.all false
namespace K03
open PySem PySem.Spec PyProof.Rows L2 NetM
abbrev sAround : Stmt := top 26
abbrev sWild : Stmt := top 29
abbrev N26 : List Str := ["net", "place", "row", "ahead", "tail", "head"]
theorem scAround : FnScope N26 ["net", "place", "row"] (defScope sAround) := ⟨rfl, rfl, rfl, by decide +kernel, rfl, by decide +kernel, by decide +kernel⟩
theorem scWild : FnScope ["net", "row", "place"] ["net"] (defScope sWild) := ⟨rfl, rfl, rfl, by decide +kernel, rfl, by decide +kernel, by decide +kernel⟩
def spAround (K : PySem.W.Frag) (CN : Addr) : Sp := fun vs H Q _ => ∃ (x a : Addr) (j : Int) (n : Nat) (zs : Prs) (L : List Int), vs = [.ref x, .int j, .ref a] ∧ NetAt K CN H x n zs ∧ In n zs ∧ zs.length ≤ 12 ∧ SqA K H a (L.map V.int) ∧ L.length = n ∧ ∀ H', Same H H' → Q (.int (nearS zs (rowF L) j)) H'
def spWildR (K : PySem.W.Frag) (CN : Addr) : Sp := fun vs H Q _ => ∃ (x : Addr) (n : Nat) (zs : Prs) (k0 : Nat), vs = [.ref x] ∧ NetAt K CN H x n zs ∧ In n zs ∧ zs.length ≤ 12 ∧ n ≤ 8 ∧ Wl zs n k0 ∧ ∀ T H', Same H H' → H' T = some (.tup ((rowL n (itR zs k0)).map V.int)) → Q (.ref T) H'
def picks (f g : Int × Int → Int) (r : Rw) (j : Int) (E : Prs) : List Int := (E.filter fun q => decide (f q = j)).map fun q => r (g q)
theorem picks_sum (r : Rw) (j : Int) : ∀ E : Prs, (picks Prod.snd Prod.fst r j E).sum + (picks Prod.fst Prod.snd r j E).sum = nearS E r j
  | [] => rfl
  | q :: E => by
    have ih := picks_sum r j E
    unfold picks at ih ⊢
    rw [nearS_cons, List.filter_cons, List.filter_cons]
    by_cases c1 : q.1 = j
    · by_cases c2 : q.2 = j
      · rw [if_pos (decide_eq_true c2), if_pos (decide_eq_true c1), if_pos c1, if_pos c2, List.map_cons, List.map_cons, List.sum_cons, List.sum_cons]; omega
      · rw [if_neg (by simpa using c2), if_pos (decide_eq_true c1), if_pos c1, if_neg c2, List.map_cons, List.sum_cons]; omega
    · by_cases c2 : q.2 = j
      · rw [if_pos (decide_eq_true c2), if_neg (by simpa using c1), if_neg c1, if_pos c2, List.map_cons, List.sum_cons]; omega
      · rw [if_neg (by simpa using c2), if_neg (by simpa using c1), if_neg c1, if_neg c2]; omega
theorem picks_app (f g : Int × Int → Int) (r : Rw) (j : Int) (E : Prs) (q : Int × Int) : picks f g r j (E ++ [q]) = picks f g r j E ++ if f q = j then [r (g q)] else [] := by
  unfold picks
  rw [List.filter_append, List.map_append]
  congr 1
  rw [List.filter_cons]
  by_cases c : f q = j
  · rw [if_pos (decide_eq_true c), if_pos c]; rfl
  · rw [if_neg (by simpa using c), if_neg c]; rfl
theorem picks_len (f g : Int × Int → Int) (r : Rw) (j : Int) (E : Prs) : (picks f g r j E).length ≤ E.length := by
  unfold picks
  rw [List.length_map]
  exact List.length_filter_le _ _
theorem pairV_row {n : Nat} {zs : Prs} (hE : In n zs) (r : Rw) : pairV zs (rowL n r) (rowL n r) = frm zs n r := by
  unfold pairV frm
  have e1 : List.zipWith (fun a b => a * b) (rowL n r) (rowL n r) = (rng n).map fun p => r p * r p := by
    unfold rowL
    rw [List.zipWith_map]
    generalize rng n = l
    induction l with
    | nil => rfl
    | cons a l ih => rw [List.zipWith_cons_cons, ih, List.map_cons]
  have e2 : (zs.map fun q => rowF (rowL n r) q.1 * rowF (rowL n r) q.2) = zs.map fun q => r q.1 * r q.2 := List.map_congr_left fun q m => by
    obtain ⟨h1, h2⟩ := hE q.1 q.2 m
    rw [rowF_rowL h1, rowF_rowL h2]
  rw [e1, e2]
section
variable {P : Program} {w : World} {K : PySem.W.Frag} {mg : Str → Option Value} {base : Heap} {CN : Addr}
theorem ok_around {f : Addr} {fd : FuncData} (F : Fun K "around" "around" sAround f fd) (T : NetT K mg CN) (mSum : mg "sum" = none) : FnOk P w K mg base CX0 1 f fd ["net", "place", "row"] (spAround K CN) := by
  refine F.ok scAround (fun vs H Q E h => ?_) (fun cdv A outer s H vs Q E hr h => ?_)
  · obtain ⟨x, a, j, n, zs, L, rfl, _⟩ := h
    rfl
  · obtain ⟨x, a, pl, n, zs, L, rfl, hN, hE, hz, hA, hL, k⟩ := h
    have nd := scAround.nd
    refine ⟨_, pss_cons (ps_set (i := 3) nd rfl (by first | exact Or.inl rfl | exact Or.inr rfl) (pe_callB (show CallR _ _ (rSum K) from cr_sum (by rfl)) (by rfl) mSum (by decide +kernel) (pa_cons
          (pe_lc (own := [("tail", 4), ("head", 5)]) (g := gTup K 2 (gCons (gName 4) (gCons (gName 5) gNil))) (by rfl) nd (pi_seq (pe_fld (pv 0) rfl)) (blkOk_by (own := [("tail", 4), ("head", 5)]) (N := N26) (sc := defScope sAround) (by decide +kernel))
            (fun _ _ _ _ _ => pg_tup (by rfl) (pgs_cons (pg_name (i := 4) nd rfl (by first | exact Or.inl rfl | exact Or.inr rfl)) (pgs_cons (pg_name (i := 5) nd rfl (by first | exact Or.inl rfl | exact Or.inr rfl)) pgs_nil))) (fun _ _ _ _ _ => pts_one (pt_cmpR op_eq (pv 5) (pv 1) (nomark _)))
            (fun _ _ _ _ _ => pe_ix (show IxR _ (rIx K) from ix_seq) (pv 2) (pv 4) (fun _ _ => rfl))) pa_nil)))
      (pss_one (ps_ret (pe_op op_add (pv 3) (pe_callB (show CallR _ _ (rSum K) from cr_sum (by rfl)) (by rfl) mSum (by decide +kernel) (pa_cons
          (pe_lc (own := [("tail", 4), ("head", 5)]) (g := gTup K 2 (gCons (gName 4) (gCons (gName 5) gNil))) (by rfl) nd (pi_seq (pe_fld (pv 0) rfl)) (blkOk_by (own := [("tail", 4), ("head", 5)]) (N := N26) (sc := defScope sAround) (by decide +kernel))
            (fun _ _ _ _ _ => pg_tup (by rfl) (pgs_cons (pg_name (i := 4) nd rfl (by first | exact Or.inl rfl | exact Or.inr rfl)) (pgs_cons (pg_name (i := 5) nd rfl (by first | exact Or.inl rfl | exact Or.inr rfl)) pgs_nil))) (fun _ _ _ _ _ => pts_one (pt_cmpR op_eq (pv 4) (pv 1) (nomark _)))
            (fun _ _ _ _ _ => pe_ix (show IxR _ (rIx K) from ix_seq) (pv 2) (pv 5) (fun _ _ => rfl))) pa_nil))))), ?_⟩
    obtain ⟨dx, t, us, e, et, p, rfl⟩ := id hN
    have hul : us.length ≤ 12 := by unfold nums at hz; rw [List.length_map] at hz; exact hz
    have hln : (rf us).length = (nums us).length := by unfold rf nums; rw [List.length_map, List.length_map]
    have tk : ∀ {j : Nat} {z : Addr × Int × Int}, us[j]? = some z → (nums us).take (j + 1) = (nums us).take j ++ [z.2] := fun h => by rw [List.take_add_one, nums_get h]; rfl
    have tl : ∀ j, ((nums us).take j).length ≤ 12 := fun j => by rw [List.length_take]; unfold nums; rw [List.length_map]; omega
    refine ⟨_, rfl, x, CN, dx, _, _, rfl, e, T.cl, T.nA, rfl, t, rf us, rfl, .inr (SqT.of et), fun J hJ D nD => ?_⟩
    refine lc_seq hJ (fun i Hd => Hd D = some (.lst ((picks Prod.snd Prod.fst (rowF L) pl ((nums us).take i)).map V.int)) ∧ Same H Hd) ⟨upd_same, same_upd nD⟩ (fun i Hd _ hh => .of hh.2) ?_ ?_
    · rintro j y Hd hj ⟨eD, sd⟩
      obtain ⟨⟨z, z1, z2⟩, hz2, rfl⟩ := rf_inv hj
      obtain ⟨i1, i2⟩ := hE z1 z2 (List.mem_of_getElem? (nums_get hz2))
      obtain ⟨g1, g2⟩ := rowF_get (L := L) (p := z1) (by rw [hL]; exact i1)
      refine ⟨z, [.int z1, .int z2], rfl, sqt_same sd (p _ (List.mem_of_getElem? hz2)), rfl, .int z1, [.int z2], rfl, .int z2, [], rfl, rfl, rfl, ?_⟩
      refine ⟨_, rfl, _, rfl, rfl, _, rfl, ?_⟩
      rw [tk hz2, picks_app]
      by_cases c : z2 = pl
      · refine iteTb (decide_eq_true (by rw [c])) ?_
        refine ⟨_, rfl, _, rfl, ?_⟩
        rw [show z1 = ((z1.toNat : Nat) : Int) by have := i1.1; omega]
        refine ix_at (hA.same sd) (v := .int (rowF L z1)) (by rw [List.getElem?_map, List.getElem?_eq_getElem g1, g2]; rfl) ?_
        refine ⟨_, eD, small_2000 (by rw [List.length_map]; have := picks_len Prod.snd Prod.fst (rowF L) pl ((nums us).take j); have := tl j; omega), ?_, same_put sd nD⟩
        rw [upd_same, if_pos c, List.map_append, show ((z1.toNat : Nat) : Int) = z1 by have := i1.1; omega]
        rfl
      · refine iteFb (decide_eq_false (fun q => c (V.int.inj q))) ?_
        rw [if_neg c, List.append_nil]
        exact ⟨eD, sd⟩
    rintro Hd ⟨eD, sd⟩
    rw [hln, List.take_length] at eD
    refine ⟨D, _, rfl, SqL.of eD, ?_⟩
    refine ⟨_, rfl, _, rfl, x, CN, dx, _, _, rfl, sd _ _ e, T.cl, T.nA, rfl, t, rf us, rfl, .inr (SqT.of (sd _ _ et)), fun J2 hJ2 D2 nD2 => ?_⟩
    refine lc_seq hJ2 (fun i He => He D2 = some (.lst ((picks Prod.fst Prod.snd (rowF L) pl ((nums us).take i)).map V.int)) ∧ Same Hd He) ⟨upd_same, same_upd nD2⟩ (fun i He _ hh => .of hh.2) ?_ ?_
    · rintro j y He hj ⟨eD2, se⟩
      obtain ⟨⟨z, z1, z2⟩, hz2, rfl⟩ := rf_inv hj
      obtain ⟨i1, i2⟩ := hE z1 z2 (List.mem_of_getElem? (nums_get hz2))
      obtain ⟨g1, g2⟩ := rowF_get (L := L) (p := z2) (by rw [hL]; exact i2)
      refine ⟨z, [.int z1, .int z2], rfl, sqt_same (sd.trans se) (p _ (List.mem_of_getElem? hz2)), rfl, .int z1, [.int z2], rfl, .int z2, [], rfl, rfl, rfl, ?_⟩
      refine ⟨_, rfl, _, rfl, rfl, _, rfl, ?_⟩
      rw [tk hz2, picks_app]
      by_cases c : z1 = pl
      · refine iteTb (decide_eq_true (by rw [c])) ?_
        refine ⟨_, rfl, _, rfl, ?_⟩
        rw [show z2 = ((z2.toNat : Nat) : Int) by have := i2.1; omega]
        refine ix_at (hA.same (sd.trans se)) (v := .int (rowF L z2)) (by rw [List.getElem?_map, List.getElem?_eq_getElem g1, g2]; rfl) ?_
        refine ⟨_, eD2, small_2000 (by rw [List.length_map]; have := picks_len Prod.fst Prod.snd (rowF L) pl ((nums us).take j); have := tl j; omega), ?_, same_put se nD2⟩
        rw [upd_same, if_pos c, List.map_append, show ((z2.toNat : Nat) : Int) = z2 by have := i2.1; omega]
        rfl
      · refine iteFb (decide_eq_false (fun q => c (V.int.inj q))) ?_
        rw [if_neg c, List.append_nil]
        exact ⟨eD2, se⟩
    rintro He ⟨eD2, se⟩
    rw [hln, List.take_length] at eD2
    refine ⟨D2, _, rfl, SqL.of eD2, _, _, rfl, rfl, ?_⟩
    have := k He (sd.trans se)
    rw [← picks_sum] at this
    exact this
end
end K03


set_option Elab.async false
set_option maxRecDepth 100000
set_option maxHeartbeats 4000000
set_option linter.all false
namespace K03
open PySem PySem.Spec PyProof.Rows L2 NetM
section
variable {P : Program} {w : World} {K : PySem.W.Frag} {mg : Str → Option Value} {base : Heap} {CN : Addr}
theorem ok_wildr {f fV fA : Addr} {fd dV dA : FuncData} (F : Fun K "_wild_row" "_wild_row" sWild f fd) (T : NetT K mg CN) (GV : FnOk P w K mg base CX0 1 fV dV ["net", "one", "other"] (spPairV K CN)) (bV : L2.Binds K dV ["net", "one", "other"] []) (gV : mg "pair_value" = some (.ref fV)) (kV : PySem.W.keepIn K (.ref fV) = true)
    (GA : FnOk P w K mg base CX0 1 fA dA ["net", "place", "row"] (spAround K CN)) (bA : L2.Binds K dA ["net", "place", "row"] []) (gA : mg "around" = some (.ref fA)) (kA : PySem.W.keepIn K (.ref fA) = true) (mTup : mg "tuple" = none) (mRa : mg "range" = none) : FnOk P w K mg base CX0 2 f fd ["net"] (spWildR K CN) := by
  refine F.ok scWild (fun vs H Q E h => ?_) (fun cdv A outer s H vs Q E hr h => ?_)
  · obtain ⟨x, n, zs, k0, rfl, _⟩ := h
    rfl
  · obtain ⟨x, n, zs, k0, rfl, hN, hE, hz, hn, W, k⟩ := h
    have nd := scWild.nd
    refine ⟨_, pss_cons (ps_set (i := 1) nd rfl (by first | exact Or.inl rfl | exact Or.inr rfl) (pe_callTy (show CallR _ _ (fun xs H Q => ∃ p ys, xs = [.ref p] ∧ ((SqL K H p ys ∧ ∀ l, H l = none → Q (.ref l) (upd H l (.tup ys))) ∨ (SqT K H p ys ∧ Q (.ref p) H))) from call_tuple_of) (by rfl) mTup (by decide +kernel) (pa_cons (pe_op op_rep (pe_lst (pa_cons pe_int pa_nil)) (pe_fld (pv 0) rfl)) pa_nil)))
      (pss_cons (ps_while PassesOwn.never (pt_cmpR op_ge (pe_call GV hr (by rfl) gV kV bV .nil pass0 (pa_cons (pv 0) (pa_cons (pv 1) (pa_cons (pv 1) pa_nil)))) pe_int (nomark _))
        (pss_one (ps_set (i := 1) nd rfl (by first | exact Or.inl rfl | exact Or.inr rfl) (pe_callTy (show CallR _ _ (fun xs H Q => ∃ p ys, xs = [.ref p] ∧ ((SqL K H p ys ∧ ∀ l, H l = none → Q (.ref l) (upd H l (.tup ys))) ∨ (SqT K H p ys ∧ Q (.ref p) H))) from call_tuple_of) (by rfl) mTup (by decide +kernel) (pa_cons
          (pe_lc (own := [("place", 2)]) (g := gName 2) (by rfl) nd (pi_range1 (by rfl) mRa (pa_cons (pe_fld (pv 0) rfl) pa_nil)) (blkOk_by (own := [("place", 2)]) (N := ["net", "row", "place"]) (sc := defScope sWild) (by decide +kernel)) (fun _ _ _ _ _ => pg_name (i := 2) nd rfl (by first | exact Or.inl rfl | exact Or.inr rfl)) (fun _ _ _ _ _ => pts_nil)
            (fun _ _ _ _ _ => pe_op op_add (pe_ix (show IxR _ (rIx K) from ix_seq) (pv 1) (pv 2) (fun _ _ => rfl)) (pe_call GA hr (by rfl) gA kA bA .nil pass0 (pa_cons (pv 0) (pa_cons (pv 2) (pa_cons (pv 1) pa_nil)))))) pa_nil)))))
      (pss_one (ps_ret (pv 1)))), ?_⟩
    obtain ⟨dx, t, us, e, et, p, _⟩ := id hN
    refine ⟨by show 1 ≤ sizeLine; decide, fun q0 nq0 => ?_⟩
    have s1 := same_upd (o := .lst [.int 1]) nq0
    refine ⟨_, rfl, x, CN, dx, _, _, rfl, s1 _ _ e, T.cl, T.nP, rfl, ?_⟩
    refine ⟨q0, (n : Int), [.int 1], rfl, rfl, upd_same, by omega, by omega, by rw [Int.toNat_natCast]; exact Nat.le_of_lt (small_2000 (by show 1 * _ ≤ 2000; omega)), fun q1 nq1 => ?_⟩
    refine ⟨q1, _, rfl, .inl ⟨SqL.of upd_same, fun T0 nT0 => ?_⟩⟩
    have s3 := (s1.trans (same_upd (o := .lst (List.replicate (n : Int).toNat [V.int 1]).flatten) nq1)).trans (same_upd (o := .tup (List.replicate (n : Int).toNat [V.int 1]).flatten) nT0)
    have e3 : (upd (upd (upd H q0 (.lst [.int 1])) q1 (.lst (List.replicate (n : Int).toNat [V.int 1]).flatten)) T0 (.tup (List.replicate (n : Int).toNat [V.int 1]).flatten)) T0 = some (.tup ((rowL n (itR zs 0)).map V.int)) := by
      rw [upd_same, Int.toNat_natCast, rep1]
      show _ = some (HO.tup ((rowL n fun _ => 1).map V.int))
      rw [← ones_rowL]
      unfold ones
      rw [List.map_replicate]
    generalize upd (upd (upd H q0 (.lst [.int 1])) q1 (.lst (List.replicate (n : Int).toNat [V.int 1]).flatten)) T0 (.tup (List.replicate (n : Int).toNat [V.int 1]).flatten) = H3 at s3 e3
    refine ⟨fun m σ Hx => ∃ j, j ≤ k0 ∧ m = k0 - j ∧ ∃ Tj : Addr, σ = [some (.ref x), some (.ref Tj), none] ∧ Hx Tj = some (.tup ((rowL n (itR zs j)).map V.int)) ∧ Same H Hx, ⟨k0, 0, Nat.zero_le _, rfl, T0, rfl, e3, s3⟩, ?_⟩
    rintro m σ Hx ⟨j, hj, rfl, Tj, rfl, eT, sx⟩
    have hbd : ∀ i ∈ rowL n (itR zs j), -(2 ^ 64) < i ∧ i < 2 ^ 64 := fun i mi => by
      obtain ⟨q, mq, rfl⟩ := List.mem_map.mp mi
      have h1 := W.sm j hj q (mem_rng.mp mq)
      have h2 := itR_pos zs j q
      have h3 : (2 : Int) ^ 40 < 2 ^ 64 := by decide
      constructor
      · have h4 : -(2 ^ 64 : Int) < 0 := by decide
        omega
      · omega
    refine ⟨_, rfl, _, rfl, _, rfl, x, Tj, Tj, n, zs, _, _, rfl, hN.same sx, hE, hz, hn, .inr (SqT.of eT), .inr (SqT.of eT), rowL_len .., rowL_len .., hbd, fun H4 s4 => ?_⟩
    rw [pairV_row hE]
    have s04 := sx.trans s4
    refine ⟨_, _, rfl, rfl, _, rfl, ?_⟩
    by_cases c : 0 ≤ frm zs n (itR zs j)
    · have hjk : j < k0 := by
        rcases Nat.lt_or_ge j k0 with d | d
        · exact d
        · have := W.lo
          rw [show k0 = j by omega] at this
          omega
      refine iteTb (decide_eq_true (by omega)) ?_
      refine ⟨fun σ' H' => ∃ Tj : Addr, σ' = [some (.ref x), some (.ref Tj), none] ∧ H' Tj = some (.tup ((rowL n (itR zs (j + 1))).map V.int)) ∧ Same H H', fun σ' H' ⟨T1, h1, h2, h3⟩ => ⟨k0 - (j + 1), by omega, j + 1, hjk, rfl, T1, h1, h2, h3⟩, ?_⟩
      refine ⟨_, rfl, x, CN, dx, _, _, rfl, s04 _ _ e, T.cl, T.nP, rfl, n, rfl, by omega, by omega, fun D nD => ?_⟩
      rw [Int.toNat_natCast]
      refine lc_range (lo := 0) (n := n) (fun i Hd => Hd D = some (.lst (((rowL n (itR zs (j + 1))).take i).map V.int)) ∧ Same H4 Hd) ⟨upd_same, same_upd nD⟩ ?_ ?_
      · rintro i Hd hi ⟨eD, sd⟩
        refine ⟨rfl, ?_⟩
        dsimp only [tYes]
        refine iteT ?_
        refine ⟨_, rfl, _, rfl, ?_⟩
        rw [Int.zero_add]
        have eTd := sd _ _ (s4 _ _ eT)
        refine ix_at (.inr (SqT.of eTd)) (v := .int (itR zs j i)) (by rw [List.getElem?_map, rowL_get hi]; rfl) ?_
        refine ⟨_, rfl, _, rfl, _, rfl, x, Tj, (i : Int), n, zs, rowL n (itR zs j), rfl, hN.same (s04.trans sd), hE, hz, .inr (SqT.of eTd), rowL_len .., fun He se => ?_⟩
        have en : nearS zs (rowF (rowL n (itR zs j))) i = nearS zs (itR zs j) i := near_congr hE (fun p hp => rowF_rowL hp) _
        rw [en]
        refine ⟨_, _, rfl, rfl, _, se _ _ eD, small_2000 (by rw [List.length_map, List.length_take]; omega), ?_, same_put (sd.trans se) nD⟩
        rw [upd_same, List.take_add_one, rowL_get hi, List.map_append]
        rfl
      · rintro Hd ⟨eD, sd⟩
        rw [List.take_of_length_le (by rw [rowL_len]; exact Nat.le_refl _)] at eD
        refine ⟨D, _, rfl, .inl ⟨SqL.of eD, fun T1 nT1 => ?_⟩⟩
        exact ⟨T1, rfl, upd_same, (s04.trans sd).trans (same_upd nT1)⟩
    · refine iteFb (decide_eq_false (by omega)) ?_
      have hjk : j = k0 := by
        rcases Nat.lt_or_ge j k0 with d | d
        · exact absurd (W.up j d) c
        · omega
      subst hjk
      exact ⟨_, rfl, k Tj H4 s04 (s4 _ _ eT)⟩
end
end K03


set_option Elab.async false
set_option maxRecDepth 100000
set_option maxHeartbeats 4000000
set_option linter.all false
namespace K03
open PySem PySem.Spec PyProof.Rows L2 NetM
section
variable {X : Cx}
theorem cr_maxT (hc : X.calm = true) (hu : X.A.units + 100 < cLine) : CallR X (.builtin "max") (fun vs H Q => ∃ (a : Addr) (n : Int) (ns : List Int), vs = [.ref a] ∧ SqT X.K H a ((n :: ns).map V.int) ∧ Q (.int (ns.foldl max n)) H) := by
  intro pins s σ H vs us Q I r h
  obtain ⟨a, n, ns, rfl, hs, q⟩ := h
  obtain ⟨its, rv, hl, _⟩ := I.tuple hs
  rw [Vals.ref1 r]
  have hr : ReadsAll s.heap its.toArray.toList ((n :: ns).map PyData.int) [] := by
    rw [List.toList_toArray]
    exact ints_readAll s.heap rv.ints
  have hd := dep_ints (n :: ns)
  refine PySem.W.max_tuple_data (x := .int n) (xs := ns.map PyData.int) (I.ok.hd hc) hl hr ⟨fun x mx y my => ?_, fun x mx => ?_⟩ (by
    show X.A.units + 1 + PyData.depthAll ((n :: ns).map PyData.int) < _
    omega) fun i v h' tk bs hi rd hk => ?_
  · obtain ⟨i, _, rfl⟩ := List.mem_map.mp (show x ∈ (n :: ns).map PyData.int from mx)
    obtain ⟨j, _, rfl⟩ := List.mem_map.mp (show y ∈ (n :: ns).map PyData.int from my)
    rfl
  · obtain ⟨i, _, rfl⟩ := List.mem_map.mp (show x ∈ (n :: ns).map PyData.int from mx)
    intro z; cases z
  · rw [PySem.W.maxD_ints] at rd
    cases rd with
    | int i t => exact ⟨.int _, H, I.kept (t' := tk) hk, ⟨t, rfl⟩, q⟩
end
end K03


set_option Elab.async false
set_option maxRecDepth 100000
set_option maxHeartbeats 4000000
set_option linter.all false
namespace K03
open PySem PySem.Spec PyProof.Rows L2 NetM
abbrev sShape : Stmt := top 30
theorem scShape : FnScope ["net", "row"] ["net"] (defScope sShape) := ⟨rfl, rfl, rfl, by decide +kernel, rfl, by decide +kernel, by decide +kernel⟩
def wordS : Nat → Str
  | 0 => "line"
  | 1 => "fork"
  | _ => "arms"
structure GoodC (K : PySem.W.Frag) (mg : Str → Option Value) where
  aG : Addr
  g : mg "GOOD_SHAPES" = some (.ref aG)
  s : ∀ H : Hp, SqT K H aG [.str "line", .str "fork", .str "arms"]
/-- what a net's shape is -/
structure ShpQ (H : Hp) (n : Nat) (zs : Prs) (Q : VK) : Prop where
  wild : SetR zs n none → ∃ k0, Wl zs n k0 ∧ ∀ T R H', Same H H' → H' T = some (.tup [.str "wild", .ref R]) → H' R = some (.tup ((rowL n (itR zs k0)).map V.int)) → Q (.ref T) H'
  rnd : ∀ L, SetR zs n (some L) → frm zs n (rowF L) = 0 → ∀ T R H', Same H H' → H' T = some (.tup [.str "round", .ref R]) → H' R = some (.tup (L.map V.int)) → Q (.ref T) H'
  good : ∀ L, SetR zs n (some L) → frm zs n (rowF L) ≠ 0 → ∀ m : Nat, m < 3 → min (maxL L) 3 - 1 = (m : Int) → ∀ T H', Same H H' → H' T = some (.tup [.str (wordS m), .int n]) → Q (.ref T) H'
/-- a net whose shape may be asked -/
structure NetG (K : PySem.W.Frag) (CN : Addr) (H : Hp) (a : Addr) (n : Nat) (zs : Prs) : Prop where
  at_ : NetAt K CN H a n zs
  inn : In n zs
  len : zs.length ≤ 12
  n8 : n ≤ 8
  n0 : 0 < n
  nl : ∀ x y, (x, y) ∈ zs → x ≠ y
def spShape (K : PySem.W.Frag) (CN CB : Addr) : Sp := fun vs H Q E => ∃ x : V, vs = [x] ∧ ((NoNet K CN H x ∧ Rz CB H E .non) ∨ ∃ (a : Addr) (n : Nat) (zs : Prs), x = .ref a ∧ NetG K CN H a n zs ∧ ShpQ H n zs Q)
theorem row_id {L : List Int} {n : Nat} (h : L.length = n) : rowL n (rowF L) = L := by
  unfold rowL rng
  rw [List.map_map]
  refine List.ext_getElem (by rw [List.length_map, List.length_range, h]) fun k h1 h2 => ?_
  rw [List.getElem_map, List.getElem_range]
  show rowF L k = _
  rw [rowF_nat, List.getD_eq_getElem?_getD, List.getElem?_eq_getElem h2]
  rfl
section
variable {P : Program} {w : World} {K : PySem.W.Frag} {mg : Str → Option Value} {base : Heap} {CN CB : Addr}
theorem ok_shape {f fS fW fV : Addr} {fd dS dW dV : FuncData} (F : Fun K "shape" "shape" sShape f fd) (C : ChkF P w K mg base CN CB) (T : NetT K mg CN) (G : GoodC K mg)
    (GS : FnOk P w K mg base CX0 2 fS dS ["net"] (spSettled K CN)) (bS : L2.Binds K dS ["net"] []) (gS : mg "settled_row" = some (.ref fS)) (kS : PySem.W.keepIn K (.ref fS) = true)
    (GW : FnOk P w K mg base CX0 2 fW dW ["net"] (spWildR K CN)) (bW : L2.Binds K dW ["net"] []) (gW : mg "_wild_row" = some (.ref fW)) (kW : PySem.W.keepIn K (.ref fW) = true)
    (GV : FnOk P w K mg base CX0 1 fV dV ["net", "one", "other"] (spPairV K CN)) (bV : L2.Binds K dV ["net", "one", "other"] []) (gV : mg "pair_value" = some (.ref fV)) (kV : PySem.W.keepIn K (.ref fV) = true) (mMin : mg "min" = none) (mMax : mg "max" = none) : FnOk P w K mg base (L2.CX P w) 5 f fd ["net"] (spShape K CN CB) := by
  refine F.okX scShape (fun vs H Q E h => ?_) (fun cdv A outer s H vs Q E hr h => ?_)
  · obtain ⟨x, rfl, _⟩ := h
    rfl
  · obtain ⟨x, rfl, h⟩ := h
    have nd := scShape.nd
    have r1 : Room 1 _ := hr.mono (by decide)
    have r2 : Room 2 _ := hr.mono (by decide)
    have hu := hr.un
    refine ⟨_, pss_cons (ps_expr (pe_call C.ok hr (by rfl) C.g C.kp C.b .nil (passes_call (takes_of rfl rfl rfl rfl) fun _ _ _ _ h => h) (pa_cons (pv 0) pa_nil)))
      (pss_cons (ps_set (i := 1) nd rfl (by first | exact Or.inl rfl | exact Or.inr rfl) (pe_call GS r2 (by rfl) gS kS bS .nil pass0 (pa_cons (pv 0) pa_nil)))
      (pss_cons (ps_if (pt_cmpR op_isN (pv 1) pe_non (nomark _)) (pss_one (ps_ret (pe_tup (pa_cons pe_str (pa_cons (pe_call GW r2 (by rfl) gW kW bW .nil pass0 (pa_cons (pv 0) pa_nil)) pa_nil))))) pss_nil)
      (pss_cons (ps_if (pt_cmpR op_eq (pe_call GV r1 (by rfl) gV kV bV .nil pass0 (pa_cons (pv 0) (pa_cons (pv 1) (pa_cons (pv 1) pa_nil)))) pe_int (nomark _)) (pss_one (ps_ret (pe_tup (pa_cons pe_str (pa_cons (pv 1) pa_nil))))) pss_nil)
      (pss_one (ps_ret (pe_tup (pa_cons (pe_ix ix_tup (pe_glob (v := .ref G.aG) (by rfl) G.g rfl) (pe_op op_sub (pe_callB (call_min2 rfl) (by rfl) mMin (by decide +kernel) (pa_cons (pe_callB (show CallR _ _ (fun vs H Q => ∃ (a : Addr) (n : Int) (ns : List Int), vs = [.ref a] ∧ SqT K H a ((n :: ns).map V.int) ∧ Q (.int (ns.foldl max n)) H) from cr_maxT (by rfl) (by have := hu; show (A.deeper _).units + 100 < cLine; omega)) (by rfl) mMax (by decide +kernel) (pa_cons (pv 1) pa_nil)) (pa_cons pe_int pa_nil))) pe_int) (fun _ _ => rfl)) (pa_cons (pe_fld (pv 0) rfl) pa_nil)))))))), ?_⟩
    rcases h with ⟨h, hR⟩ | ⟨a, n, zs, rfl, N, q⟩
    · exact ⟨_, rfl, _, rfl, .inl ⟨h, hR⟩⟩
    refine ⟨_, rfl, _, rfl, .inr ⟨a, n, zs, rfl, N.at_, ?_⟩⟩
    refine ⟨_, rfl, a, n, zs, rfl, N.at_, N.inn, N.len, N.n8, N.n0, N.nl, fun hS H1 s1 => ?_, fun L hS Tq H1 s1 e1 => ?_⟩
    · refine ⟨_, rfl, rfl, _, rfl, ?_⟩
      refine iteT ?_
      obtain ⟨k0, W, k⟩ := q.wild hS
      refine ⟨_, rfl, a, n, zs, k0, rfl, N.at_.same s1, N.inn, N.len, N.n8, W, fun R H2 s2 eR => ?_⟩
      refine ⟨by show 2 ≤ sizeLine; decide, fun T2 nT2 => ?_⟩
      exact k T2 R _ ((s1.trans s2).trans (same_upd nT2)) upd_same (same_upd nT2 _ _ eR)
    · refine ⟨_, rfl, rfl, _, rfl, ?_⟩
      refine iteF ?_
      obtain ⟨hL, hLs, hb⟩ := id hS
      have hbd : ∀ i ∈ L, -(2 ^ 64) < i ∧ i < 2 ^ 64 := fun i m => by
        have h1 := hb i m
        have h3 : (6 : Int) < 2 ^ 64 := by decide
        have h4 : -(2 ^ 64 : Int) < 0 := by decide
        omega
      refine ⟨_, rfl, _, rfl, _, rfl, a, Tq, Tq, n, zs, L, L, rfl, N.at_.same s1, N.inn, N.len, N.n8, .inr (SqT.of e1), .inr (SqT.of e1), hL, hL, hbd, fun H2 s2 => ?_⟩
      have ep : pairV zs L L = frm zs n (rowF L) := by
        have := pairV_row N.inn (rowF L)
        rw [row_id hL] at this
        exact this
      rw [ep]
      have e2 := s2 _ _ e1
      refine ⟨rfl, _, rfl, ?_⟩
      by_cases c : frm zs n (rowF L) = 0
      · refine iteTb (decide_eq_true (by rw [c])) ?_
        refine ⟨_, rfl, by show 2 ≤ sizeLine; decide, fun T2 nT2 => ?_⟩
        exact q.rnd L hS c T2 Tq _ ((s1.trans s2).trans (same_upd nT2)) upd_same (same_upd nT2 _ _ e2)
      · refine iteFb (decide_eq_false (fun z => c (V.int.inj z))) ?_
        obtain ⟨v, vs, rfl⟩ : ∃ v vs, L = v :: vs := by
          cases L with
          | nil => have := N.n0; rw [← hL] at this; exact absurd this (Nat.lt_irrefl 0)
          | cons v vs => exact ⟨v, vs, rfl⟩
        have hv := hb v (List.mem_cons_self ..)
        have em : vs.foldl max v = maxL (v :: vs) := by
          unfold maxL
          rw [List.foldl_cons, show max 0 v = v by omega]
        have hge : 1 ≤ vs.foldl max v := by
          have : ∀ (l : List Int) (a : Int), a ≤ l.foldl max a := by
            intro l
            induction l with
            | nil => intro a; exact Int.le_refl _
            | cons b l ih => intro a; rw [List.foldl_cons]; exact Int.le_trans (by omega) (ih _)
          have := this vs v
          omega
        obtain ⟨m, hm⟩ : ∃ m : Nat, min (vs.foldl max v) 3 - 1 = (m : Int) := ⟨(min (vs.foldl max v) 3 - 1).toNat, by omega⟩
        have hm3 : m < 3 := by omega
        refine ⟨_, rfl, Tq, v, vs, rfl, SqT.of e2, _, _, rfl, _, _, rfl, rfl, ?_⟩
        have hi : (if (3 : Int) < vs.foldl max v then (3 : Int) else vs.foldl max v) - 1 = (m : Int) := by
          split <;> omega
        refine ⟨G.aG, _, (m : Int), .str (wordS m), rfl, congrArg V.int hi, G.s _, ?_, ?_⟩
        · match m, hm3 with
          | 0, _ => rfl
          | 1, _ => rfl
          | 2, _ => rfl
        obtain ⟨dx, t, us, eN, _⟩ := N.at_.same (s1.trans s2)
        refine ⟨_, rfl, a, CN, dx, _, _, rfl, eN, T.cl, T.nP, rfl, by show 2 ≤ sizeLine; decide, fun T2 nT2 => ?_⟩
        exact q.good (v :: vs) hS c m hm3 (by rw [← em]; exact hm) T2 _ ((s1.trans s2).trans (same_upd nT2)) upd_same
end
end K03


set_option Elab.async false
set_option maxRecDepth 100000
set_option maxHeartbeats 4000000
set_option linter.all false
namespace K03
open PySem PySem.Spec PyProof.Rows L2 NetM
abbrev sSame : Stmt := top 4
abbrev N4 : List Str := ["value", "thing", "item", "other"]
theorem scSame : FnScope N4 ["value", "thing"] (defScope sSame) := ⟨rfl, rfl, rfl, by decide +kernel, rfl, by decide +kernel, by decide +kernel⟩
theorem kt_int (K : PySem.W.Frag) : PySem.W.kitOne K (.type "int") (.type "tuple") = some false ∧ PySem.W.kitOne K (.type "int") (.type "str") = some false := ⟨by kernel_rfl, by kernel_rfl⟩
theorem kt_str (K : PySem.W.Frag) : PySem.W.kitOne K (.type "str") (.type "tuple") = some false ∧ PySem.W.kitOne K (.type "str") (.type "str") = some true := ⟨by kernel_rfl, by kernel_rfl⟩
/-- a number or a string, beside any value -/
inductive AtJ (K : PySem.W.Frag) (H : Hp) : V → V → Bool → Prop
  | ii (i j : Int) : AtJ K H (.int i) (.int j) (decide (j = i))
  | iN (i : Int) {y : V} (h : NuJ K H y none) : AtJ K H (.int i) y false
  | ss (s t : Str) : AtJ K H (.str s) (.str t) (decide (t = s))
  | sN (s : Str) {y : V} {t : Value} (h : TyX K H y t) (z : PySem.W.kitOne K t (.type "str") = some false) : AtJ K H (.str s) y false
theorem AtJ.same {K : PySem.W.Frag} {H H' : Hp} (s : Same H H') {x y : V} {b : Bool} : AtJ K H x y b → AtJ K H' x y b
  | .ii i j => .ii i j
  | .iN i h => .iN i (h.same s)
  | .ss i j => .ss i j
  | .sN i h z => .sN i (TyX.same s h) z
/-- a tuple, beside any value; R of the items -/
inductive TuJ (K : PySem.W.Frag) (R : Hp → V → V → Bool → Prop) (H : Hp) : V → V → Bool → Prop
  | no {a : Addr} {xs : List V} (hx : SqT K H a xs) {y : V} {t : Value} (h : TyX K H y t) (z : PySem.W.kitOne K t (.type "tuple") = some false) : TuJ K R H (.ref a) y false
  | len {a b : Addr} {xs ys : List V} (hx : SqT K H a xs) (hy : SqT K H b ys) (z : ys.length ≠ xs.length) : TuJ K R H (.ref a) (.ref b) false
  | all {a b : Addr} {xs ys : List V} {bs : List Bool} (hx : SqT K H a xs) (hy : SqT K H b ys) (l : ys.length = xs.length) (lb : bs.length = xs.length) (hl : xs.length ≤ 1000) (h : ∀ (i : Nat) (x y : V), xs[i]? = some x → ys[i]? = some y → ∃ b : Bool, bs[i]? = some b ∧ R H x y b) : TuJ K R H (.ref a) (.ref b) (bs.all id)
theorem TuJ.same {K : PySem.W.Frag} {R : Hp → V → V → Bool → Prop} (hR : ∀ {H H' : Hp} {x y : V} {b : Bool}, Same H H' → R H x y b → R H' x y b) {H H' : Hp} (s : Same H H') {x y : V} {b : Bool} : TuJ K R H x y b → TuJ K R H' x y b
  | .no hx h z => .no (sqt_same s hx) (TyX.same s h) z
  | .len hx hy z => .len (sqt_same s hx) (sqt_same s hy) z
  | .all hx hy l lb hl h => .all (sqt_same s hx) (sqt_same s hy) l lb hl fun i x y h1 h2 => by
    obtain ⟨b, e, r⟩ := h i x y h1 h2
    exact ⟨b, e, hR s r⟩
def SmJ (K : PySem.W.Frag) : Nat → Hp → V → V → Bool → Prop
  | 0 => fun _ _ _ _ => False
  | d + 1 => fun H x y b => AtJ K H x y b ∨ TuJ K (SmJ K d) H x y b
theorem SmJ.same {K : PySem.W.Frag} : ∀ (d : Nat) {H H' : Hp} {x y : V} {b : Bool}, Same H H' → SmJ K d H x y b → SmJ K d H' x y b
  | 0, _, _, _, _, _, _, h => h.elim
  | d + 1, H, H', x, y, b, s, h => h.elim (fun h => .inl (h.same s)) fun h => .inr (TuJ.same (R := SmJ K d) (fun s h => SmJ.same d s h) s h)
def spSame (K : PySem.W.Frag) (d : Nat) : Sp := fun vs H Q _ => ∃ (x y : V) (b : Bool), vs = [x, y] ∧ SmJ K d H x y b ∧ ∀ H', Same H H' → Q (.bl b) H'
section
variable {P : Program} {w : World} {K : PySem.W.Frag} {mg : Str → Option Value} {base : Heap}
theorem ok_same0 {f : Addr} {fd : FuncData} (F : Fun K "is_same" "is_same" sSame f fd) : FnOk P w K mg base CX0 1 f fd ["value", "thing"] (spSame K 0) := by
  refine F.ok scSame (fun vs H Q E h => ?_) (fun cdv A outer s H vs Q E hr h => ?_)
  · obtain ⟨x, y, b, rfl, h, _⟩ := h
    exact h.elim
  · obtain ⟨x, y, b, rfl, h, _⟩ := h
    exact h.elim
theorem ok_sameS {f fN : Addr} {fd dN : FuncData} {d : Nat} (F : Fun K "is_same" "is_same" sSame f fd) (GL : FnOk P w K mg base CX0 (d + 1) f fd ["value", "thing"] (spSame K d)) (bL : L2.Binds K fd ["value", "thing"] []) (gL : mg "is_same" = some (.ref f))
    (GN : FnOk P w K mg base CX0 1 fN dN ["thing"] (spIsNum K)) (bN : L2.Binds K dN ["thing"] []) (gN : mg "is_number" = some (.ref fN)) (kN : PySem.W.keepIn K (.ref fN) = true) (mIs : mg "isinstance" = none) (mTup : mg "tuple" = none) (mStr : mg "str" = none) (mLen : mg "len" = none) (mAll : mg "all" = none) (mZ : mg "zip" = none) : FnOk P w K mg base CX0 (d + 2) f fd ["value", "thing"] (spSame K (d + 1)) := by
  refine F.ok scSame (fun vs H Q E h => ?_) (fun cdv A outer s H vs Q E hr h => ?_)
  · obtain ⟨x, y, b, rfl, _⟩ := h
    rfl
  · obtain ⟨x, y, b, rfl, h, k⟩ := h
    have nd := scSame.nd
    have r1 : Room 1 _ := hr.mono (by omega)
    refine ⟨_, pss_cons (ps_if (pt_val (pe_callB call_isi (by rfl) mIs (by decide +kernel) (pa_cons (pv 0) (pa_cons (pe_bltn (v := .ty "tuple") (by rfl) mTup (by decide +kernel) rfl) pa_nil))))
        (pss_cons (ps_if (PW.pt (pw_or (pt_not (pt_val (pe_callB call_isi (by rfl) mIs (by decide +kernel) (pa_cons (pv 1) (pa_cons (pe_bltn (v := .ty "tuple") (by rfl) mTup (by decide +kernel) rfl) pa_nil))))) (pw_or1 (pt_cmpR op_ne (pe_callB call_len_seq (by rfl) mLen PySem.boot_len (pa_cons (pv 1) pa_nil)) (pe_callB call_len_seq (by rfl) mLen PySem.boot_len (pa_cons (pv 0) pa_nil)) (nomark _))))) (pss_one (ps_ret pe_bl)) pss_nil)
        (pss_one (ps_ret (pe_callB (show CallR _ _ (rAll K) from cr_all (by rfl)) (by rfl) mAll (by decide +kernel) (pa_cons
          (pe_lc (own := [("item", 2), ("other", 3)]) (g := gTup K 2 (gCons (gName 2) (gCons (gName 3) gNil))) (by rfl) nd (pi_z2 (by rfl) mZ (pa_cons (pv 0) (pa_cons (pv 1) pa_nil))) (blkOk_by (own := [("item", 2), ("other", 3)]) (N := N4) (sc := defScope sSame) (by decide +kernel))
            (fun _ _ _ _ _ => pg_tup (by rfl) (pgs_cons (pg_name (i := 2) nd rfl (by first | exact Or.inl rfl | exact Or.inr rfl)) (pgs_cons (pg_name (i := 3) nd rfl (by first | exact Or.inl rfl | exact Or.inr rfl)) pgs_nil))) (fun _ _ _ _ _ => pts_nil)
            (fun _ _ _ _ _ => pe_call GL hr (by rfl) gL F.kp bL .nil pass0 (pa_cons (pv 2) (pa_cons (pv 3) pa_nil)))) pa_nil))))) pss_nil)
      (pss_cons (ps_if (pt_val (pe_callB call_isi (by rfl) mIs (by decide +kernel) (pa_cons (pv 0) (pa_cons (pe_bltn (v := .ty "str") (by rfl) mStr (by decide +kernel) rfl) pa_nil))))
        (pss_one (ps_ret (pe_and (pe_callB call_isi (by rfl) mIs (by decide +kernel) (pa_cons (pv 1) (pa_cons (pe_bltn (v := .ty "str") (by rfl) mStr (by decide +kernel) rfl) pa_nil))) (pe_one (pe_cmpR op_eq (pv 1) (pv 0) (nomark _)))))) pss_nil)
      (pss_one (ps_ret (pe_and (pe_call GN r1 (by rfl) gN kN bN .nil pass0 (pa_cons (pv 1) pa_nil)) (pe_one (pe_cmpR op_eq (pv 1) (pv 0) (nomark _))))))), ?_⟩
    rcases h with h | h
    · cases h with
      | ii i j =>
        refine ⟨_, rfl, _, _, _, _, false, rfl, .ty "tuple", .base (.int i), (kt_int K).1, _, rfl, ?_⟩
        refine iteF ?_
        refine ⟨_, rfl, _, _, _, _, false, rfl, .ty "str", .base (.int i), (kt_int K).2, _, rfl, ?_⟩
        refine iteF ?_
        refine ⟨_, rfl, _, _, true, false, rfl, .base (.int j), (num_int K).1, (num_int K).2, _, rfl, ?_⟩
        refine iteT ?_
        refine ⟨_, rfl, _, rfl, rfl, ?_⟩
        have := k H (Same.refl _)
        rw [show decide (V.int j = V.int i) = decide (j = i) from decide_eq_decide.mpr ⟨fun h => V.int.inj h, fun h => by rw [h]⟩]
        exact this
      | iN i h =>
        refine ⟨_, rfl, _, _, _, _, false, rfl, .ty "tuple", .base (.int i), (kt_int K).1, _, rfl, ?_⟩
        refine iteF ?_
        refine ⟨_, rfl, _, _, _, _, false, rfl, .ty "str", .base (.int i), (kt_int K).2, _, rfl, ?_⟩
        refine iteF ?_
        cases h with
        | bl c =>
          refine ⟨_, rfl, _, _, true, true, rfl, .base (.bl c), (num_bool K).1, (num_bool K).2, _, rfl, ?_⟩
          refine iteF ?_
          exact k H (Same.refl _)
        | no h z zb =>
          refine ⟨_, rfl, _, _, false, _, rfl, h, z, zb, _, rfl, ?_⟩
          refine iteF ?_
          exact k H (Same.refl _)
      | ss u v =>
        refine ⟨_, rfl, _, _, _, _, false, rfl, .ty "tuple", .base (.str u), (kt_str K).1, _, rfl, ?_⟩
        refine iteF ?_
        refine ⟨_, rfl, _, _, _, _, true, rfl, .ty "str", .base (.str u), (kt_str K).2, _, rfl, ?_⟩
        refine iteT ?_
        refine ⟨_, rfl, _, _, _, _, true, rfl, .ty "str", .base (.str v), (kt_str K).2, _, rfl, ?_⟩
        refine iteT ?_
        refine ⟨_, rfl, _, rfl, rfl, ?_⟩
        have := k H (Same.refl _)
        rw [show decide (V.str v = V.str u) = decide (v = u) from decide_eq_decide.mpr ⟨fun h => V.str.inj h, fun h => by rw [h]⟩]
        exact this
      | sN u h z =>
        refine ⟨_, rfl, _, _, _, _, false, rfl, .ty "tuple", .base (.str u), (kt_str K).1, _, rfl, ?_⟩
        refine iteF ?_
        refine ⟨_, rfl, _, _, _, _, true, rfl, .ty "str", .base (.str u), (kt_str K).2, _, rfl, ?_⟩
        refine iteT ?_
        refine ⟨_, rfl, _, _, _, _, false, rfl, .ty "str", h, z, _, rfl, ?_⟩
        refine iteF ?_
        exact k H (Same.refl _)
    · cases h with
      | @no a xs hx y t h z =>
        refine ⟨_, rfl, _, _, _, _, true, rfl, .ty "tuple", ty_tup hx, kit_tt K, _, rfl, ?_⟩
        refine iteT ?_
        refine ⟨_, rfl, _, _, _, _, false, rfl, .ty "tuple", h, z, _, rfl, ?_⟩
        refine iteT ?_
        refine iteT ?_
        exact k H (Same.refl _)
      | @len a b xs ys hx hy z =>
        refine ⟨_, rfl, _, _, _, _, true, rfl, .ty "tuple", ty_tup hx, kit_tt K, _, rfl, ?_⟩
        refine iteT ?_
        refine ⟨_, rfl, _, _, _, _, true, rfl, .ty "tuple", ty_tup hy, kit_tt K, _, rfl, ?_⟩
        refine iteF ?_
        refine ⟨_, rfl, b, ys, rfl, .inr hy, _, rfl, a, xs, rfl, .inr hx, rfl, _, rfl, ?_⟩
        refine iteTb (by rw [decide_eq_false (fun q => z (by have := V.int.inj q; omega))]; rfl) ?_
        exact k H (Same.refl _)
      | @all a b xs ys bs hx hy l lb hl h =>
        refine ⟨_, rfl, _, _, _, _, true, rfl, .ty "tuple", ty_tup hx, kit_tt K, _, rfl, ?_⟩
        refine iteT ?_
        refine ⟨_, rfl, _, _, _, _, true, rfl, .ty "tuple", ty_tup hy, kit_tt K, _, rfl, ?_⟩
        refine iteF ?_
        refine ⟨_, rfl, b, ys, rfl, .inr hy, _, rfl, a, xs, rfl, .inr hx, rfl, _, rfl, ?_⟩
        refine iteFb (by rw [decide_eq_true (by rw [l])]; rfl) ?_
        refine ⟨_, rfl, _, rfl, a, b, xs, ys, rfl, .inr hx, .inr hy, fun J hJ D nD => ?_⟩
        refine lc_z2 hJ l.symm (fun i Hd => Hd D = some (.lst ((bs.take i).map V.bl)) ∧ Same H Hd) ⟨upd_same, same_upd nD⟩ (fun i Hd _ hh => ⟨.of hh.2, .of hh.2⟩) ?_ ?_
        · rintro i xv yv U Hd h1 h2 ⟨eD, sd⟩ nU
          obtain ⟨c, hc, hr2⟩ := h i xv yv h1 h2
          have hil : i < xs.length := (List.getElem?_eq_some_iff.mp h1).1
          have sU : Same Hd (upd Hd U (.tup [xv, yv])) := same_upd nU
          refine ⟨U, [xv, yv], rfl, .inl (.inl upd_same), rfl, xv, [yv], rfl, yv, [], rfl, rfl, rfl, ?_⟩
          dsimp only [tYes]
          refine iteT ?_
          refine ⟨_, rfl, _, rfl, xv, yv, c, rfl, SmJ.same d (sd.trans sU) hr2, fun He se => ?_⟩
          refine ⟨_, se _ _ (sU _ _ eD), small_2000 (by rw [List.length_map, List.length_take]; omega), ?_, same_put ((sd.trans sU).trans se) nD⟩
          rw [upd_same, List.take_add_one, hc, List.map_append]
          rfl
        rintro Hd ⟨eD, sd⟩
        rw [List.take_of_length_le (by omega)] at eD
        exact ⟨D, _, rfl, SqL.of eD, k Hd sd⟩
end
end K03


set_option Elab.async false
set_option maxRecDepth 100000
set_option maxHeartbeats 4000000
set_option linter.all false
namespace K03
open PySem PySem.Spec PyProof.Rows L2 NetM
abbrev sIsShape : Stmt := top 31
theorem scIsShape : FnScope ["net", "thing"] ["net", "thing"] (defScope sIsShape) := ⟨rfl, rfl, rfl, by decide +kernel, rfl, by decide +kernel, by decide +kernel⟩
def spIsShape (K : PySem.W.Frag) (CN CB : Addr) : Sp := fun vs H Q E => ∃ x y : V, vs = [x, y] ∧ ((NoNet K CN H x ∧ Rz CB H E .non) ∨ ∃ (a : Addr) (n : Nat) (zs : Prs), x = .ref a ∧ NetG K CN H a n zs ∧ ShpQ H n zs (fun v H' => ∃ b, SmJ K 3 H' v y b ∧ ∀ H2, Same H' H2 → Q (.bl b) H2))
section
variable {P : Program} {w : World} {K : PySem.W.Frag} {mg : Str → Option Value} {base : Heap} {CN CB : Addr}
theorem ShpQ.mono {H : Hp} {n : Nat} {zs : Prs} {Q Q' : VK} (h : ∀ v H', Q v H' → Q' v H') (q : ShpQ H n zs Q) : ShpQ H n zs Q' where
  wild := fun hS => by
    obtain ⟨k0, W, k⟩ := q.wild hS
    exact ⟨k0, W, fun T R H' s e1 e2 => h _ _ (k T R H' s e1 e2)⟩
  rnd := fun L hS hf T R H' s e1 e2 => h _ _ (q.rnd L hS hf T R H' s e1 e2)
  good := fun L hS hf m hm e T H' s e1 => h _ _ (q.good L hS hf m hm e T H' s e1)
theorem ok_isshape {f fS fI : Addr} {fd dS dI : FuncData} (F : Fun K "is_shape" "is_shape" sIsShape f fd) (GS : FnOk P w K mg base (L2.CX P w) 5 fS dS ["net"] (spShape K CN CB)) (bS : L2.Binds K dS ["net"] []) (gS : mg "shape" = some (.ref fS)) (kS : PySem.W.keepIn K (.ref fS) = true)
    (GI : FnOk P w K mg base CX0 4 fI dI ["value", "thing"] (spSame K 3)) (bI : L2.Binds K dI ["value", "thing"] []) (gI : mg "is_same" = some (.ref fI)) (kI : PySem.W.keepIn K (.ref fI) = true) : FnOk P w K mg base (L2.CX P w) 6 f fd ["net", "thing"] (spIsShape K CN CB) := by
  refine F.okX scIsShape (fun vs H Q E h => ?_) (fun cdv A outer s H vs Q E hr h => ?_)
  · obtain ⟨x, y, rfl, _⟩ := h
    rfl
  · obtain ⟨x, y, rfl, h⟩ := h
    have nd := scIsShape.nd
    have r4 : Room 4 _ := hr.mono (by decide)
    refine ⟨_, pss_one (ps_ret (pe_call GI r4 (by rfl) gI kI bI .nil pass0 (pa_cons (pe_call GS hr (by rfl) gS kS bS .nil (passes_call (takes_of rfl rfl rfl rfl) fun _ _ _ _ h => h) (pa_cons (pv 0) pa_nil)) (pa_cons (pv 1) pa_nil)))), ?_⟩
    rcases h with ⟨h, hR⟩ | ⟨a, n, zs, rfl, N, q⟩
    · exact ⟨_, rfl, _, rfl, .inl ⟨h, hR⟩⟩
    refine ⟨_, rfl, _, rfl, .inr ⟨a, n, zs, rfl, N, q.mono fun v H' ⟨b, hb, k⟩ => ?_⟩⟩
    exact ⟨_, rfl, v, y, b, rfl, hb, k⟩
end
end K03


set_option Elab.async false
set_option maxRecDepth 100000
set_option maxHeartbeats 4000000
set_option linter.all false
namespace K03
open PySem PySem.Spec PyProof.Rows L2 NetM
abbrev sLPair : Stmt := top 40
abbrev N40 : List Str := ["net", "one", "other", "found", "here", "there", "tail", "head"]
theorem scLPair : FnScope N40 ["net", "one", "other"] (defScope sLPair) := ⟨rfl, rfl, rfl, by decide +kernel, rfl, by decide +kernel, by decide +kernel⟩
def netL (n : Nat) (ps : Addr) : List (Key × V) := [(Sum.inr "many", V.int n), (Sum.inr "pairs", V.ref ps)]
/-- the law's own net: a dict of how many places and a list of pairs -/
structure LNet (H : Hp) (x ps : Addr) (n : Nat) (us : Zs) : Prop where
  e : H x = some (.dK (netL n ps))
  et : H ps = some (.lst (rf us))
  p : PL H us
theorem LNet.same {H H' : Hp} {x ps : Addr} {n : Nat} {us : Zs} (s : Same H H') (h : LNet H x ps n us) : LNet H' x ps n us := ⟨s _ _ h.e, s _ _ h.et, fun z m => s _ _ (h.p z m)⟩
def spLPair (K : PySem.W.Frag) : Sp := fun vs H Q _ => ∃ (x ps a b : Addr) (n : Nat) (us : Zs) (L M : List Int), vs = [.ref x, .ref a, .ref b] ∧ LNet H x ps n us ∧ In n (nums us) ∧ us.length ≤ 12 ∧ n ≤ 8 ∧ SqA K H a (L.map V.int) ∧ SqA K H b (M.map V.int) ∧ L.length = n ∧ M.length = n ∧ (∀ i ∈ L, -(2 ^ 64) < i ∧ i < 2 ^ 64) ∧
  ∀ H', Same H H' → Q (.int (pairV (nums us) L M)) H'
section
variable {P : Program} {w : World} {K : PySem.W.Frag} {mg : Str → Option Value} {base : Heap}
theorem ok_lawpair {f : Addr} {fd : FuncData} (F : Fun K "_law_pair" "_law_pair" sLPair f fd) (mSum : mg "sum" = none) (mZ : mg "zip" = none) : FnOk P w K mg base CX0 1 f fd ["net", "one", "other"] (spLPair K) := by
  refine F.ok scLPair (fun vs H Q E h => ?_) (fun cdv A outer s H vs Q E hr h => ?_)
  · obtain ⟨x, ps, a, b, n, us, L, M, rfl, _⟩ := h
    rfl
  · obtain ⟨x, ps, a, b, n, us, L, M, rfl, hN, hE, hzl, hn, hA, hB, hL, hM, hb, k⟩ := h
    have nd := scLPair.nd
    have hu := hu_of hr
    refine ⟨_, pss_cons (ps_set (i := 3) nd rfl (by first | exact Or.inl rfl | exact Or.inr rfl) (pe_callB (show CallR _ _ (rSum K) from cr_sum (by rfl)) (by rfl) mSum (by decide +kernel) (pa_cons
          (pe_lc (own := [("here", 4), ("there", 5)]) (g := gTup K 2 (gCons (gName 4) (gCons (gName 5) gNil))) (by rfl) nd (pi_z2 (by rfl) mZ (pa_cons (pv 1) (pa_cons (pv 2) pa_nil))) (blkOk_by (own := [("here", 4), ("there", 5)]) (N := N40) (sc := defScope sLPair) (by decide +kernel))
            (fun _ _ _ _ _ => pg_tup (by rfl) (pgs_cons (pg_name (i := 4) nd rfl (by first | exact Or.inl rfl | exact Or.inr rfl)) (pgs_cons (pg_name (i := 5) nd rfl (by first | exact Or.inl rfl | exact Or.inr rfl)) pgs_nil))) (fun _ _ _ _ _ => pts_nil)
            (fun _ _ _ _ _ => pe_op op_mul (pv 4) (pv 5))) pa_nil)))
      (pss_one (ps_ret (pe_op op_sub (pv 3) (pe_callB (show CallR _ _ (rSum K) from cr_sum (by rfl)) (by rfl) mSum (by decide +kernel) (pa_cons
          (pe_lc (own := [("tail", 6), ("head", 7)]) (g := gTup K 2 (gCons (gName 6) (gCons (gName 7) gNil))) (by rfl) nd (pi_seq (pe_dget hu (pv 0) pe_str (fun _ _ => rfl))) (blkOk_by (own := [("tail", 6), ("head", 7)]) (N := N40) (sc := defScope sLPair) (by decide +kernel))
            (fun _ _ _ _ _ => pg_tup (by rfl) (pgs_cons (pg_name (i := 6) nd rfl (by first | exact Or.inl rfl | exact Or.inr rfl)) (pgs_cons (pg_name (i := 7) nd rfl (by first | exact Or.inl rfl | exact Or.inr rfl)) pgs_nil))) (fun _ _ _ _ _ => pts_nil)
            (fun _ _ _ _ _ => pe_op op_mul (pe_ix (show IxR _ (rIx K) from ix_seq) (pv 1) (pv 6) (fun _ _ => rfl)) (pe_ix (show IxR _ (rIx K) from ix_seq) (pv 2) (pv 7) (fun _ _ => rfl)))) pa_nil))))), ?_⟩
    refine ⟨_, rfl, _, rfl, a, b, L.map V.int, M.map V.int, rfl, hA, hB, fun J hJ D nD => ?_⟩
    refine lc_z2 hJ (by rw [List.length_map, List.length_map, hL, hM]) (fun i Hd => Hd D = some (.lst (((List.zipWith (fun a b => a * b) L M).take i).map V.int)) ∧ Same H Hd) ⟨upd_same, same_upd nD⟩ (fun i Hd _ hh => ⟨.of hh.2, .of hh.2⟩) ?_ ?_
    · rintro i xv yv U Hd hx hy ⟨eD, sd⟩ nU
      obtain ⟨u, hu, rfl⟩ := map_inv hx
      obtain ⟨v, hv, rfl⟩ := map_inv hy
      have hil : i < L.length := (List.getElem?_eq_some_iff.mp hu).1
      have hub := hb u (List.mem_of_getElem? hu)
      have sU : Same Hd (upd Hd U (.tup [.int u, .int v])) := same_upd nU
      refine ⟨U, [.int u, .int v], rfl, .inl (.inl upd_same), rfl, .int u, [.int v], rfl, .int v, [], rfl, rfl, rfl, ?_⟩
      dsimp only [tYes]
      refine iteT ?_
      refine ⟨_, rfl, _, rfl, _, _, rfl, rfl, .inl hub, _, sU _ _ eD, small_2000 (by rw [List.length_map, List.length_take]; omega), ?_, same_put (sd.trans sU) nD⟩
      rw [upd_same, List.take_add_one, List.getElem?_zipWith, hu, hv, List.map_append]
      rfl
    rintro Hd ⟨eD, sd⟩
    rw [List.take_of_length_le (by rw [List.length_zipWith, List.length_map]; omega)] at eD
    refine ⟨D, _, rfl, SqL.of eD, ?_⟩
    obtain ⟨e, et, p⟩ := hN.same sd
    have hul : us.length ≤ 12 := hzl
    refine ⟨_, rfl, _, rfl, x, _, rfl, DGet.k (k := Sum.inr "pairs") e, ps, rf us, rfl, .inl (SqL.of et), fun J2 hJ2 D2 nD2 => ?_⟩
    refine lc_seq hJ2 (fun i He => He D2 = some (.lst ((((nums us).map fun q => rowF L q.1 * rowF M q.2).take i).map V.int)) ∧ Same Hd He) ⟨upd_same, same_upd nD2⟩ (fun i He _ hh => .of hh.2) ?_ ?_
    · rintro j y He hj ⟨eD2, se⟩
      obtain ⟨⟨z, z1, z2⟩, hz, rfl⟩ := rf_inv hj
      have hil : j < us.length := (List.getElem?_eq_some_iff.mp hz).1
      obtain ⟨i1, i2⟩ := hE z1 z2 (List.mem_of_getElem? (nums_get hz))
      obtain ⟨g1, g2⟩ := rowF_get (L := L) (p := z1) (by rw [hL]; exact i1)
      obtain ⟨g3, g4⟩ := rowF_get (L := M) (p := z2) (by rw [hM]; exact i2)
      refine ⟨z, [.int z1, .int z2], rfl, SqT.of (se _ _ (p _ (List.mem_of_getElem? hz))), rfl, .int z1, [.int z2], rfl, .int z2, [], rfl, rfl, rfl, ?_⟩
      dsimp only [tYes]
      refine iteT ?_
      refine ⟨_, rfl, _, rfl, ?_⟩
      rw [show z1 = ((z1.toNat : Nat) : Int) by have := i1.1; omega, show z2 = ((z2.toNat : Nat) : Int) by have := i2.1; omega]
      refine ix_at ((hA.same (sd.trans se))) (v := .int (rowF L z1)) (by rw [List.getElem?_map, List.getElem?_eq_getElem g1, g2]; rfl) ?_
      refine ⟨_, rfl, _, rfl, ?_⟩
      refine ix_at ((hB.same (sd.trans se))) (v := .int (rowF M z2)) (by rw [List.getElem?_map, List.getElem?_eq_getElem g3, g4]; rfl) ?_
      refine ⟨_, _, rfl, rfl, .inl (by rw [← g2]; exact hb _ (List.getElem_mem g1)), _, eD2, small_2000 (by rw [List.length_map, List.length_take, List.length_map]; omega), ?_, same_put se nD2⟩
      rw [upd_same, List.take_add_one, List.getElem?_map, nums_get hz, List.map_append]
      rfl
    · rintro He ⟨eD2, se⟩
      have hln : (rf us).length = (nums us).length := by unfold rf nums; rw [List.length_map, List.length_map]
      rw [hln, List.take_of_length_le (by rw [List.length_map]; exact Nat.le_refl _)] at eD2
      exact ⟨D2, _, rfl, SqL.of eD2, _, _, rfl, rfl, k He (sd.trans se)⟩
end
end K03


set_option Elab.async false
set_option maxRecDepth 100000
set_option maxHeartbeats 4000000
set_option linter.all false
namespace K03
open PySem PySem.Spec PyProof.Rows L2 NetM
abbrev sLean : Stmt := top 41
abbrev N41 : List Str := ["net", "row", "place", "found", "tail", "head"]
theorem scLean : FnScope N41 ["net", "row", "place"] (defScope sLean) := ⟨rfl, rfl, rfl, by decide +kernel, rfl, by decide +kernel, by decide +kernel⟩
def spLean (K : PySem.W.Frag) : Sp := fun vs H Q _ => ∃ (x ps a : Addr) (n : Nat) (us : Zs) (L : List Int) (j : Nat), vs = [.ref x, .ref a, .int j] ∧ LNet H x ps n us ∧ In n (nums us) ∧ us.length ≤ 12 ∧ SqA K H a (L.map V.int) ∧ L.length = n ∧ j < n ∧ ∀ H', Same H H' → Q (.int (2 * rowF L j - nearS (nums us) (rowF L) j)) H'
section
variable {P : Program} {w : World} {K : PySem.W.Frag} {mg : Str → Option Value} {base : Heap}
theorem ok_lean {f : Addr} {fd : FuncData} (F : Fun K "_law_lean" "_law_lean" sLean f fd) : FnOk P w K mg base CX0 1 f fd ["net", "row", "place"] (spLean K) := by
  refine F.ok scLean (fun vs H Q E h => ?_) (fun cdv A outer s H vs Q E hr h => ?_)
  · obtain ⟨x, ps, a, n, us, L, j, rfl, _⟩ := h
    rfl
  · obtain ⟨x, ps, a, n, us, L, pl, rfl, hN, hE, hul, hA, hL, hpl, k⟩ := h
    have nd := scLean.nd
    have hu := hu_of hr
    refine ⟨_, pss_cons (ps_set (i := 3) nd rfl (by first | exact Or.inl rfl | exact Or.inr rfl) (pe_op op_mul pe_int (pe_ix (show IxR _ (rIx K) from ix_seq) (pv 1) (pv 2) (fun _ _ => rfl))))
      (pss_cons (ps_for PassesOwn.never rfl (pi_seq (pe_dget hu (pv 0) pe_str (fun _ _ => rfl))) (pg_tup (by rfl) (pgs_cons (pg_name (i := 4) nd rfl (by first | exact Or.inl rfl | exact Or.inr rfl)) (pgs_cons (pg_name (i := 5) nd rfl (by first | exact Or.inl rfl | exact Or.inr rfl)) pgs_nil)))
        (pss_one (ps_set (i := 3) nd rfl (by first | exact Or.inl rfl | exact Or.inr rfl) (pe_op op_sub (pe_op op_sub (pv 3) (pe_ifExp (pt_cmpR op_eq (pv 4) (pv 2) (nomark _)) (pe_ix (show IxR _ (rIx K) from ix_seq) (pv 1) (pv 5) (fun _ _ => rfl)) pe_int)) (pe_ifExp (pt_cmpR op_eq (pv 5) (pv 2) (nomark _)) (pe_ix (show IxR _ (rIx K) from ix_seq) (pv 1) (pv 4) (fun _ _ => rfl)) pe_int)))))
      (pss_one (ps_ret (pv 3)))), ?_⟩
    obtain ⟨e, et, p⟩ := hN
    have hgp : (L.map V.int)[pl]? = some (.int (rowF L pl)) := by
      rw [List.getElem?_map, List.getElem?_eq_getElem (by omega), rowF_nat, List.getD_eq_getElem?_getD, List.getElem?_eq_getElem (by omega)]
      rfl
    refine ⟨_, rfl, _, rfl, ix_at hA hgp ?_⟩
    refine ⟨2, rowF L pl, rfl, rfl, .inl ⟨by decide, by decide⟩, ?_⟩
    refine ⟨_, rfl, x, _, rfl, DGet.k (k := Sum.inr "pairs") e, ps, rf us, rfl, .inl (SqL.of et), fun J hJ => ?_⟩
    refine for_seq hJ (fun i σ Hx => ∃ (v4 v5 : Option V), σ = [some (.ref x), some (.ref a), some (.int pl), some (.int (2 * rowF L pl - nearS ((nums us).take i) (rowF L) pl)), v4, v5] ∧ Same H Hx) ⟨none, none, (by show _ = [_, _, _, some (V.int (2 * rowF L pl - 0)), _, _]; rw [Int.sub_zero]; rfl), Same.refl _⟩ (fun i σ Hx _ hh => by obtain ⟨_, _, _, s⟩ := hh; exact .of s) ?_ ?_
    · rintro j y σ Hx hj ⟨v4, v5, rfl, sx⟩
      obtain ⟨⟨z, z1, z2⟩, hz, rfl⟩ := rf_inv hj
      obtain ⟨i1, i2⟩ := hE z1 z2 (List.mem_of_getElem? (nums_get hz))
      have htk : (nums us).take (j + 1) = (nums us).take j ++ [(z1, z2)] := by rw [List.take_add_one, nums_get hz]; rfl
      obtain ⟨a1, rfl⟩ : ∃ k : Nat, z1 = k := ⟨z1.toNat, by have := i1.1; omega⟩
      obtain ⟨a2, rfl⟩ : ∃ k : Nat, z2 = k := ⟨z2.toNat, by have := i2.1; omega⟩
      have g1 : (L.map V.int)[a1]? = some (.int (rowF L a1)) := by
        have := i1.2
        rw [List.getElem?_map, List.getElem?_eq_getElem (by omega), rowF_nat, List.getD_eq_getElem?_getD, List.getElem?_eq_getElem (by omega)]
        rfl
      have g2 : (L.map V.int)[a2]? = some (.int (rowF L a2)) := by
        have := i2.2
        rw [List.getElem?_map, List.getElem?_eq_getElem (by omega), rowF_nat, List.getD_eq_getElem?_getD, List.getElem?_eq_getElem (by omega)]
        rfl
      have hA' := hA.same sx
      refine ⟨z, [.int a1, .int a2], rfl, SqT.of (sx _ _ (p _ (List.mem_of_getElem? hz))), rfl, .int a1, [.int a2], rfl, .int a2, [], rfl, rfl, ?_⟩
      refine ⟨_, rfl, _, rfl, _, rfl, rfl, _, rfl, ?_⟩
      have fin : ∀ (s t : Int), s = (if (a1 : Int) = (pl : Int) then rowF L a2 else 0) → t = (if (a2 : Int) = (pl : Int) then rowF L a1 else 0) → 2 * rowF L pl - nearS ((nums us).take j) (rowF L) pl - s - t = 2 * rowF L pl - nearS ((nums us).take (j + 1)) (rowF L) pl := fun s t h1 h2 => by
        rw [htk, nearS_app, nearS_cons, nearS_nil, h1, h2]
        dsimp only
        omega
      by_cases c : (a1 : Int) = (pl : Int)
      · refine iteTb (decide_eq_true (by rw [c])) ?_
        refine ⟨_, rfl, _, rfl, ix_at hA' g2 ?_⟩
        refine ⟨_, _, rfl, rfl, _, rfl, _, rfl, rfl, _, rfl, ?_⟩
        by_cases d : (a2 : Int) = (pl : Int)
        · refine iteTb (decide_eq_true (by rw [d])) ?_
          refine ⟨_, rfl, _, rfl, ix_at hA' g1 ?_⟩
          refine ⟨_, _, rfl, rfl, some (.int a1), some (.int a2), ?_, sx⟩
          rw [← fin (rowF L a2) (rowF L a1) (if_pos c).symm (if_pos d).symm]
          rfl
        · refine iteFb (decide_eq_false (fun z => d (V.int.inj z))) ?_
          refine ⟨_, _, rfl, rfl, some (.int a1), some (.int a2), ?_, sx⟩
          rw [← fin (rowF L a2) 0 (if_pos c).symm (if_neg d).symm]
          rfl
      · refine iteFb (decide_eq_false (fun z => c (V.int.inj z))) ?_
        refine ⟨_, _, rfl, rfl, _, rfl, _, rfl, rfl, _, rfl, ?_⟩
        by_cases d : (a2 : Int) = (pl : Int)
        · refine iteTb (decide_eq_true (by rw [d])) ?_
          refine ⟨_, rfl, _, rfl, ix_at hA' g1 ?_⟩
          refine ⟨_, _, rfl, rfl, some (.int a1), some (.int a2), ?_, sx⟩
          rw [← fin 0 (rowF L a1) (if_neg c).symm (if_pos d).symm]
          rfl
        · refine iteFb (decide_eq_false (fun z => d (V.int.inj z))) ?_
          refine ⟨_, _, rfl, rfl, some (.int a1), some (.int a2), ?_, sx⟩
          rw [← fin 0 0 (if_neg c).symm (if_neg d).symm]
          rfl
    · rintro σ Hx ⟨v4, v5, rfl, sx⟩
      have hln : (rf us).length = (nums us).length := by unfold rf nums; rw [List.length_map, List.length_map]
      rw [hln, List.take_length]
      exact ⟨_, rfl, k Hx sx⟩
end
end K03


set_option Elab.async false
set_option maxRecDepth 100000
set_option maxHeartbeats 4000000
set_option linter.all false
namespace K03
open PySem PySem.Spec PyProof.Rows L2 NetM
abbrev sLWild : Stmt := top 48
abbrev N48 : List Str := ["net", "row", "added", "tail", "head"]
theorem scLWild : FnScope N48 ["net"] (defScope sLWild) := ⟨rfl, rfl, rfl, by decide +kernel, rfl, by decide +kernel, by decide +kernel⟩
theorem rowL_congr {n : Nat} {f g : Rw} (h : ∀ p, InR n p → f p = g p) : rowL n f = rowL n g := List.map_congr_left fun p m => h p (mem_rng.mp m)
theorem rowL_set {n j : Nat} (g : Rw) (v : Int) (h : j < n) : (rowL n g).set j v = rowL n fun p => if p = (j : Int) then v else g p := by
  refine List.ext_getElem (by rw [List.length_set, rowL_len, rowL_len]) fun k h1 h2 => ?_
  have hk : k < n := by rw [rowL_len] at h2; exact h2
  have e2 : (rowL n fun p => if p = (j : Int) then v else g p)[k] = if (k : Int) = (j : Int) then v else g k := by
    have := rowL_get (r := fun p => if p = (j : Int) then v else g p) hk
    rw [List.getElem?_eq_getElem h2] at this
    exact Option.some.inj this
  rw [e2, List.getElem_set]
  by_cases c : j = k
  · subst c
    rw [if_pos rfl, if_pos rfl]
  · rw [if_neg c, if_neg (fun z => c (by omega))]
    have := rowL_get (r := g) hk
    rw [List.getElem?_eq_getElem (by rw [rowL_len]; exact hk)] at this
    exact Option.some.inj this
def spLWild (K : PySem.W.Frag) : Sp := fun vs H Q _ => ∃ (x ps : Addr) (n : Nat) (us : Zs) (k0 : Nat), vs = [.ref x] ∧ LNet H x ps n us ∧ In n (nums us) ∧ us.length ≤ 12 ∧ n ≤ 8 ∧ (∀ a b, (a, b) ∈ nums us → a ≠ b) ∧ Wl (nums us) n k0 ∧ ∀ T H', Same H H' → H' T = some (.tup ((rowL n (itR (nums us) k0)).map V.int)) → Q (.ref T) H'
section
variable {P : Program} {w : World} {K : PySem.W.Frag} {mg : Str → Option Value} {base : Heap}
theorem ok_lwild {f fV : Addr} {fd dV : FuncData} (F : Fun K "_law_wild_row" "_law_wild_row" sLWild f fd) (GV : FnOk P w K mg base CX0 1 fV dV ["net", "one", "other"] (spLPair K)) (bV : L2.Binds K dV ["net", "one", "other"] []) (gV : mg "_law_pair" = some (.ref fV)) (kV : PySem.W.keepIn K (.ref fV) = true) (mTup : mg "tuple" = none) (mLi : mg "list" = none) : FnOk P w K mg base CX0 2 f fd ["net"] (spLWild K) := by
  refine F.ok scLWild (fun vs H Q E h => ?_) (fun cdv A outer s H vs Q E hr h => ?_)
  · obtain ⟨x, ps, n, us, k0, rfl, _⟩ := h
    rfl
  · obtain ⟨x, ps, n, us, k0, rfl, hN, hE, hul, hn, nl, W, k⟩ := h
    have nd := scLWild.nd
    have hu := hu_of hr
    refine ⟨_, pss_cons (ps_set (i := 1) nd rfl (by first | exact Or.inl rfl | exact Or.inr rfl) (pe_op op_rep (pe_lst (pa_cons pe_int pa_nil)) (pe_dget hu (pv 0) pe_str (fun _ _ => rfl))))
      (pss_cons (ps_while PassesOwn.never (pt_cmpR op_ge (pe_call GV hr (by rfl) gV kV bV .nil pass0 (pa_cons (pv 0) (pa_cons (pv 1) (pa_cons (pv 1) pa_nil)))) pe_int (nomark _))
        (pss_cons (ps_set (i := 2) nd rfl (by first | exact Or.inl rfl | exact Or.inr rfl) (pe_callTy (show CallR _ (.type "list") (fun xs H Q => ∃ p ys, xs = [.ref p] ∧ (SqL K H p ys ∨ SqT K H p ys) ∧ ∀ l, H l = none → Q (.ref l) (upd H l (.lst ys))) from call_list_of) (by rfl) mLi (by decide +kernel) (pa_cons (pv 1) pa_nil)))
        (pss_cons (ps_for PassesOwn.never rfl (pi_seq (pe_dget hu (pv 0) pe_str (fun _ _ => rfl))) (pg_tup (by rfl) (pgs_cons (pg_name (i := 3) nd rfl (by first | exact Or.inl rfl | exact Or.inr rfl)) (pgs_cons (pg_name (i := 4) nd rfl (by first | exact Or.inl rfl | exact Or.inr rfl)) pgs_nil)))
          (pss_cons (ps_asg (pe_op op_add (pe_ix ix_list (pv 2) (pv 4) (fun _ _ => rfl)) (pe_ix ix_list (pv 1) (pv 3) (fun _ _ => rfl))) (pg_sub (pv 2) (pv 4) set_list))
          (pss_one (ps_asg (pe_op op_add (pe_ix ix_list (pv 2) (pv 3) (fun _ _ => rfl)) (pe_ix ix_list (pv 1) (pv 4) (fun _ _ => rfl))) (pg_sub (pv 2) (pv 3) set_list)))))
        (pss_one (ps_set (i := 1) nd rfl (by first | exact Or.inl rfl | exact Or.inr rfl) (pv 2))))))
      (pss_one (ps_ret (pe_callTy (show CallR _ _ (fun xs H Q => ∃ p ys, xs = [.ref p] ∧ ((SqL K H p ys ∧ ∀ l, H l = none → Q (.ref l) (upd H l (.tup ys))) ∨ (SqT K H p ys ∧ Q (.ref p) H))) from call_tuple_of) (by rfl) mTup (by decide +kernel) (pa_cons (pv 1) pa_nil))))), ?_⟩
    refine ⟨by show 1 ≤ sizeLine; decide, fun q0 nq0 => ?_⟩
    have s1 := same_upd (o := .lst [.int 1]) nq0
    refine ⟨_, rfl, x, _, rfl, DGet.k (k := Sum.inr "many") (s1 _ _ hN.e), ?_⟩
    refine ⟨q0, (n : Int), [.int 1], rfl, rfl, upd_same, by omega, by omega, by rw [Int.toNat_natCast]; exact Nat.le_of_lt (small_2000 (by show 1 * _ ≤ 2000; omega)), fun q1 nq1 => ?_⟩
    have s3 := s1.trans (same_upd (o := .lst (List.replicate (n : Int).toNat [V.int 1]).flatten) nq1)
    have e3 : (upd (upd H q0 (.lst [.int 1])) q1 (.lst (List.replicate (n : Int).toNat [V.int 1]).flatten)) q1 = some (.lst ((rowL n (itR (nums us) 0)).map V.int)) := by
      rw [upd_same, Int.toNat_natCast, rep1]
      show _ = some (HO.lst ((rowL n fun _ => 1).map V.int))
      rw [← ones_rowL]
      unfold ones
      rw [List.map_replicate]
    generalize upd (upd H q0 (.lst [.int 1])) q1 (.lst (List.replicate (n : Int).toNat [V.int 1]).flatten) = H3 at s3 e3
    refine ⟨fun m σ Hx => ∃ j, j ≤ k0 ∧ m = k0 - j ∧ ∃ (Tj : Addr) (v2 v3 v4 : Option V), σ = [some (.ref x), some (.ref Tj), v2, v3, v4] ∧ Hx Tj = some (.lst ((rowL n (itR (nums us) j)).map V.int)) ∧ Same H Hx, ⟨k0, 0, Nat.zero_le _, rfl, q1, _, _, _, rfl, e3, s3⟩, ?_⟩
    rintro m σ Hx ⟨j, hj, rfl, Tj, v2, v3, v4, rfl, eT, sx⟩
    have hbd : ∀ i ∈ rowL n (itR (nums us) j), -(2 ^ 64) < i ∧ i < 2 ^ 64 := fun i mi => by
      obtain ⟨q, mq, rfl⟩ := List.mem_map.mp mi
      have h1 := W.sm j hj q (mem_rng.mp mq)
      have h2 := itR_pos (nums us) j q
      have h3 : (2 : Int) ^ 40 < 2 ^ 64 := by decide
      constructor
      · have h4 : -(2 ^ 64 : Int) < 0 := by decide
        omega
      · omega
    refine ⟨_, rfl, _, rfl, _, rfl, x, ps, Tj, Tj, n, us, _, _, rfl, hN.same sx, hE, hul, hn, .inl (SqL.of eT), .inl (SqL.of eT), rowL_len .., rowL_len .., hbd, fun H4 s4 => ?_⟩
    rw [pairV_row hE]
    have s04 := sx.trans s4
    have eT4 := s4 _ _ eT
    refine ⟨_, _, rfl, rfl, _, rfl, ?_⟩
    by_cases c : 0 ≤ frm (nums us) n (itR (nums us) j)
    · have hjk : j < k0 := by
        rcases Nat.lt_or_ge j k0 with d | d
        · exact d
        · have := W.lo
          rw [show k0 = j by omega] at this
          omega
      refine iteTb (decide_eq_true (by omega)) ?_
      refine ⟨fun σ' H' => ∃ (Tj : Addr) (v2 v3 v4 : Option V), σ' = [some (.ref x), some (.ref Tj), v2, v3, v4] ∧ H' Tj = some (.lst ((rowL n (itR (nums us) (j + 1))).map V.int)) ∧ Same H H', fun σ' H' ⟨T1, a2, a3, a4, h1, h2, h3⟩ => ⟨k0 - (j + 1), by omega, j + 1, hjk, rfl, T1, a2, a3, a4, h1, h2, h3⟩, ?_⟩
      refine ⟨_, rfl, Tj, _, rfl, .inl (SqL.of eT4), fun Ad nA => ?_⟩
      have s5 := same_upd (o := .lst ((rowL n (itR (nums us) j)).map V.int)) nA
      have eA0 : (upd H4 Ad (.lst ((rowL n (itR (nums us) j)).map V.int))) Ad = some (.lst ((rowL n (itR (nums us) j)).map V.int)) := upd_same
      have eT5 := s5 _ _ eT4
      have nTA : Tj ≠ Ad := fun z => by rw [z, nA] at eT4; cases eT4
      have s05 := s04.trans s5
      have nAH : H Ad = none := by
        cases q : H Ad with
        | none => rfl
        | some o => rw [s04 _ _ q] at nA; cases nA
      generalize upd H4 Ad (.lst ((rowL n (itR (nums us) j)).map V.int)) = H5 at s5 eA0 eT5 s05
      have N5 := hN.same s05
      have npA : ps ≠ Ad := fun z => by have := hN.et; rw [z, nAH] at this; cases this
      refine ⟨_, rfl, x, _, rfl, DGet.k (k := Sum.inr "pairs") N5.e, ps, rf us, rfl, .inl (SqL.of N5.et), fun J hJ => ?_⟩
      refine for_seq hJ (fun i σ Hy => ∃ (v3 v4 : Option V), σ = [some (.ref x), some (.ref Tj), some (.ref Ad), v3, v4] ∧ Hy Ad = some (.lst ((rowL n fun p => itR (nums us) j p + nearS ((nums us).take i) (itR (nums us) j) p).map V.int)) ∧ Hy Tj = some (.lst ((rowL n (itR (nums us) j)).map V.int)) ∧ Same H Hy) ⟨_, _, rfl, (by rw [eA0]; congr 3; exact rowL_congr fun p _ => by show _ = _ + nearS [] _ p; rw [nearS_nil]; omega), eT5, s05⟩ (fun i σ Hy _ hh => by obtain ⟨_, _, _, _, _, s⟩ := hh; exact stay_lst N5.et (s _ _ hN.et)) ?_ ?_
      · rintro i y σ Hy hi ⟨v3', v4', rfl, eA, eTy, sy⟩
        obtain ⟨⟨z, z1, z2⟩, hz, rfl⟩ := rf_inv hi
        have mn := List.mem_of_getElem? (nums_get hz)
        obtain ⟨i1, i2⟩ := hE z1 z2 mn
        have ne := nl z1 z2 mn
        have htk : (nums us).take (i + 1) = (nums us).take i ++ [(z1, z2)] := by rw [List.take_add_one, nums_get hz]; rfl
        obtain ⟨a1, rfl⟩ : ∃ k : Nat, z1 = k := ⟨z1.toNat, by have := i1.1; omega⟩
        obtain ⟨a2, rfl⟩ : ∃ k : Nat, z2 = k := ⟨z2.toNat, by have := i2.1; omega⟩
        have h1 : a1 < n := by have := i1.2; omega
        have h2 : a2 < n := by have := i2.2; omega
        refine ⟨z, [.int a1, .int a2], rfl, SqT.of (sy _ _ (hN.p _ (List.mem_of_getElem? hz))), rfl, .int a1, [.int a2], rfl, .int a2, [], rfl, rfl, ?_⟩
        refine ⟨_, rfl, _, rfl, Ad, _, (a2 : Int), _, rfl, rfl, SqL.of eA, atI_nat (by rw [List.getElem?_map, rowL_get h2]; rfl), _, rfl, _, rfl, Tj, _, (a1 : Int), _, rfl, rfl, SqL.of eTy, atI_nat (by rw [List.getElem?_map, rowL_get h1]; rfl), _, _, rfl, rfl, ?_⟩
        refine ⟨_, rfl, _, rfl, Ad, _, (a2 : Int), a2, rfl, rfl, eA, ixN_n (by rw [List.length_map, rowL_len]; exact h2), ?_⟩
        rw [← List.map_set, rowL_set _ _ h2]
        have sA := same_put (o := .lst ((rowL n fun p => if p = (a2 : Int) then itR (nums us) j a2 + nearS ((nums us).take i) (itR (nums us) j) a2 + itR (nums us) j a1 else itR (nums us) j p + nearS ((nums us).take i) (itR (nums us) j) p).map V.int)) sy nAH
        have eA2 : (upd Hy Ad (.lst ((rowL n fun p => if p = (a2 : Int) then itR (nums us) j a2 + nearS ((nums us).take i) (itR (nums us) j) a2 + itR (nums us) j a1 else itR (nums us) j p + nearS ((nums us).take i) (itR (nums us) j) p).map V.int))) Ad = _ := upd_same
        have eT2 : (upd Hy Ad (.lst ((rowL n fun p => if p = (a2 : Int) then itR (nums us) j a2 + nearS ((nums us).take i) (itR (nums us) j) a2 + itR (nums us) j a1 else itR (nums us) j p + nearS ((nums us).take i) (itR (nums us) j) p).map V.int))) Tj = _ := (upd_ne nTA).trans eTy
        refine ⟨_, rfl, _, rfl, Ad, _, (a1 : Int), _, rfl, rfl, SqL.of eA2, atI_nat (by rw [List.getElem?_map, rowL_get h1]; rfl), _, rfl, _, rfl, Tj, _, (a2 : Int), _, rfl, rfl, SqL.of eT2, atI_nat (by rw [List.getElem?_map, rowL_get h2]; rfl), _, _, rfl, rfl, ?_⟩
        refine ⟨_, rfl, _, rfl, Ad, _, (a1 : Int), a1, rfl, rfl, eA2, ixN_n (by rw [List.length_map, rowL_len]; exact h1), ?_⟩
        rw [← List.map_set, rowL_set _ _ h1]
        refine ⟨_, _, rfl, ?_, (upd_ne nTA).trans eT2, same_put sA nAH⟩
        rw [upd_same]
        congr 3
        refine rowL_congr fun p hp => ?_
        rw [htk, nearS_app, nearS_cons, nearS_nil]
        dsimp only
        by_cases c1 : p = (a1 : Int)
        · rw [if_pos c1, if_neg (fun z => ne (by rw [← z])), c1, if_pos rfl, if_neg (fun z => ne z.symm)]
          omega
        · rw [if_neg c1]
          by_cases c2 : p = (a2 : Int)
          · rw [if_pos c2, c2, if_neg (fun z => ne z), if_pos rfl]
            omega
          · rw [if_neg c2, if_neg (fun z => c1 z.symm), if_neg (fun z => c2 z.symm)]
            omega
      · rintro σ Hy ⟨v3', v4', rfl, eA, eTy, sy⟩
        have hln : (rf us).length = (nums us).length := by unfold rf nums; rw [List.length_map, List.length_map]
        rw [hln, List.take_length] at eA
        exact ⟨_, rfl, Ad, _, _, _, rfl, eA, sy⟩
    · refine iteFb (decide_eq_false (by omega)) ?_
      have hjk : j = k0 := by
        rcases Nat.lt_or_ge j k0 with d | d
        · exact absurd (W.up j d) c
        · omega
      subst hjk
      refine ⟨_, rfl, Tj, _, rfl, .inl ⟨SqL.of eT4, fun T1 nT1 => ?_⟩⟩
      exact k T1 _ (s04.trans (same_upd nT1)) upd_same
end
end K03


set_option Elab.async false
set_option maxRecDepth 100000
set_option maxHeartbeats 4000000
set_option linter.all false
namespace K03
open PySem PySem.Spec PyProof.Rows L2 NetM
abbrev sMade : Stmt := top 42
theorem scMade : FnScope ["net"] ["net"] (defScope sMade) := ⟨rfl, rfl, rfl, by decide +kernel, rfl, by decide +kernel, by decide +kernel⟩
/-- the Net of the law's own net -/
def spMade (K : PySem.W.Frag) (CN : Addr) : Sp := fun vs H Q _ => ∃ (x ps : Addr) (n : Nat) (us : Zs), vs = [.ref x] ∧ LNet H x ps n us ∧ In n (nums us) ∧ us.length ≤ 12 ∧ n ≤ 8 ∧ 0 < n ∧ (∀ a b, (a, b) ∈ nums us → a ≠ b) ∧ GoodN (nums us) n ∧ ∀ y H', NetG K CN H' y n (nums us) → Same H H' → Q (.ref y) H'
section
variable {P : Program} {w : World} {K : PySem.W.Frag} {mg : Str → Option Value} {base : Heap} {CN CB : Addr}
theorem ok_made {f : Addr} {fd : FuncData} (F : Fun K "_law_made_net" "_law_made_net" sMade f fd) (T : NetT K mg CN) (M : MkN P w K mg base CN CB) : FnOk P w K mg base CX0 6 f fd ["net"] (spMade K CN) := by
  refine F.ok scMade (fun vs H Q E h => ?_) (fun cdv A outer s H vs Q E hr h => ?_)
  · obtain ⟨x, ps, n, us, rfl, _⟩ := h
    rfl
  · obtain ⟨x, ps, n, us, rfl, hN, hE, hul, hn, n0, nl, hG, k⟩ := h
    have nd := scMade.nd
    have hu := hu_of hr
    refine ⟨_, pss_one (ps_ret (pe_make M.m M.ok hr (by rfl) T.g M.b .nil (passes_call L2.takes0 fun _ _ _ _ h => h) (pa_cons (pe_dget hu (pv 0) pe_str (fun _ _ => rfl)) (pa_cons (pe_dget hu (pv 0) pe_str (fun _ _ => rfl)) pa_nil)))), ?_⟩
    refine ⟨_, rfl, x, _, rfl, DGet.k (k := Sum.inr "many") hN.e, _, rfl, x, _, rfl, DGet.k (k := Sum.inr "pairs") hN.e, ?_⟩
    refine fun y dy ny ndy ne => MakeN.sp (K := K) (CN := CN) (CB := CB) (.inr ⟨n, some us, rfl, n0, hn, .ok (.inl (SqL.of hN.et)) hN.p.prt.pra hul (fun t h m => ⟨(hE t h m).1, (hE t h m).2, nl t h m⟩), fun z => absurd (show Good us n from hG) (z us rfl), fun zs' e' g x' H' nx hN' s' => ?_⟩) y dy ny ndy ne
    cases e'
    refine k x' H' ⟨hN', hE, ?_, hn, n0, nl⟩ s'
    unfold nums
    rw [List.length_map]
    exact hul
end
end K03


set_option Elab.async false
set_option maxRecDepth 100000
set_option maxHeartbeats 4000000
set_option linter.all false
namespace K03
open PySem PySem.Spec PyProof.Rows L2
/-- a list of numbers, in another order, new -/
def spShufI (K : PySem.W.Frag) : Sp := fun vs H Q _ => ∃ (d lg cl a : Addr) (zs : List Int), vs = [.ref d, .ref a] ∧ DrawAt H d lg cl ∧ SqL K H a (zs.map V.int) ∧ zs.length < 1000 ∧
  ∀ (ys : List Int) (p : Addr) (H' : Hp), ys.Perm zs → DrawAt H' d lg cl → Kept d lg H H' → H p = none → H' p = some (.lst (ys.map V.int)) → Q (.ref p) H'
section
variable {P : Program} {w : World} {K : PySem.W.Frag} {mg : Str → Option Value} {base : Heap}
theorem ok_shufi {f fT : Addr} {fd fdT : FuncData} (F : Fun K "_law_shuffled" "_law_shuffled" sShuf f fd) (GT : FnOk P w K mg base CX0 2 fT fdT ["draw", "amount"] spTake) (FT : Fun K "_law_take" "_law_take" sTake fT fdT) (bT : L2.Binds K fdT ["draw", "amount"] []) (gT : mg "_law_take" = some (.ref fT))
    (mLen : mg "len" = none) (mList : mg "list" = none) : FnOk P w K mg base CX0 3 f fd ["draw", "some"] (spShufI K) := by
  refine F.ok scShuf (fun vs H Q E h => ?_) (fun cdv A outer s H vs Q E hr h => ?_)
  · obtain ⟨d, lg, cl, a, zs, rfl, _⟩ := h
    rfl
  · obtain ⟨d, lg, cl, a, zs, rfl, D, ha, hl, k⟩ := h
    have nd := scShuf.nd
    refine ⟨_, pss_cons (ps_par (i := 2) (j := 3) (by rfl) nd rfl rfl (by decide) rfl rfl (pa_cons (pe_callTy call_list_of (by rfl) mList (by decide +kernel) (pa_cons (pv 1) pa_nil)) (pa_cons (pe_lst pa_nil) pa_nil)) (by rfl))
      (pss_cons (ps_while PassesOwn.never (pt_cmpR (op_neD hr.units) (pv 2) (pe_lst pa_nil) (nomark _))
        (pss_one (ps_expr (pe_bm PySem.F.plainAttrs_list PySem.F.slot_list_append PySem.F.type_list_append mt_append (pv 3)
          (pa_cons (pe_bm PySem.F.plainAttrs_list PySem.F.slot_list_pop PySem.F.type_list_pop mt_popAt (pv 2) (pa_cons (pe_call GT hr rfl gT FT.kp bT .nil pass0 (pa_cons (pv 0) (pa_cons (pe_callB call_len_seq (by rfl) mLen PySem.boot_len (pa_cons (pv 2) pa_nil)) pa_nil))) pa_nil)) pa_nil)))))
      (pss_one (ps_ret (pv 3)))), ?_⟩
    refine ⟨_, rfl, a, _, rfl, .inl ha, fun l nl => ⟨Nat.zero_le _, fun fo nf => ?_⟩⟩
    refine ⟨_, _, rfl, ?_⟩
    have hd0 : H d ≠ none := by obtain ⟨⟨r, t, e⟩, _⟩ := id D; rw [e]; simp
    have hlg0 : H lg ≠ none := by obtain ⟨_, ⟨L, _, e⟩, _⟩ := id D; rw [e]; simp
    have hcl0 : H cl ≠ none := by obtain ⟨_, _, ⟨M, _, e⟩, _⟩ := id D; rw [e]; simp
    have nef : fo ≠ l := fun z => by rw [z, upd_same] at nf; cases nf
    have nf0 : H fo = none := by rw [upd_ne nef] at nf; exact nf
    have new : ∀ {p : Addr}, H p = none → p ≠ d ∧ p ≠ lg ∧ p ≠ cl := fun {p} z => ⟨fun e => hd0 (by rw [← e]; exact z), fun e => hlg0 (by rw [← e]; exact z), fun e => hcl0 (by rw [← e]; exact z)⟩
    obtain ⟨ld, llg, lcl⟩ := new nl
    obtain ⟨fd', flg, fcl⟩ := new nf0
    have Dput : ∀ {Hx : Hp} {p : Addr} {o : HO}, p ≠ d → p ≠ lg → p ≠ cl → DrawAt Hx d lg cl → DrawAt (upd Hx p o) d lg cl := fun {Hx p o} a b c D => by
      obtain ⟨⟨r, t, hd⟩, ⟨L, hL, hl⟩, ⟨M, hM, hc⟩, ncl⟩ := D
      exact ⟨⟨r, t, by rw [upd_ne a.symm]; exact hd⟩, ⟨L, hL, by rw [upd_ne b.symm]; exact hl⟩, ⟨M, hM, by rw [upd_ne c.symm]; exact hc⟩, ncl⟩
    have Kput : ∀ {Hx : Hp} {p : Addr} {o : HO}, H p = none → Kept d lg H Hx → Kept d lg H (upd Hx p o) := fun {Hx p o} z k b x e h1 h2 => by
      rw [upd_ne (ne_of_none e z)]
      exact k b x e h1 h2
    refine ⟨fun m σ Hx => ∃ zl zf : List Int, σ = [some (.ref d), some (.ref a), some (.ref l), some (.ref fo)] ∧ m = zl.length ∧ DrawAt Hx d lg cl ∧ Hx l = some (.lst (zl.map V.int)) ∧ Hx fo = some (.lst (zf.map V.int)) ∧ (zf ++ zl).Perm zs ∧ Kept d lg H Hx,
      ⟨_, zs, [], rfl, rfl, Dput fd' flg fcl (Dput ld llg lcl D), by rw [upd_ne nef.symm, upd_same], upd_same, List.Perm.refl _, Kput nf0 (Kput nl Kept.refl)⟩, ?_⟩
    rintro m σ Hx ⟨zl, zf, rfl, rfl, Dx, el, ef, pm, kx⟩
    have hlen : zf.length + zl.length = zs.length := by rw [← List.length_append]; exact pm.length_eq
    refine ⟨_, rfl, Nat.zero_le _, fun e ne => ?_⟩
    have se : Same Hx (upd Hx e (.lst [])) := same_upd ne
    have eE : (upd Hx e (.lst [])) e = some (.lst []) := upd_same
    have De : DrawAt (upd Hx e (.lst [])) d lg cl := by
      obtain ⟨⟨r, t, hd⟩, ⟨L, hL, hl⟩, ⟨M, hM, hc⟩, ncl⟩ := Dx
      exact ⟨⟨r, t, se _ _ hd⟩, ⟨L, hL, se _ _ hl⟩, ⟨M, hM, se _ _ hc⟩, ncl⟩
    have ke : Kept d lg H (upd Hx e (.lst [])) := fun b o h h1 h2 => se _ _ (kx b o h h1 h2)
    have elE := se _ _ el
    have efE := se _ _ ef
    generalize upd Hx e (.lst []) = He at se eE De ke elE efE
    refine ⟨_, _, dp_ints (SqL.of elE), .lst (SqL.of eE) .nil, shp_ints zl, rfl, _, rfl, ?_⟩
    cases zl with
    | nil =>
      refine iteF ?_
      rw [List.append_nil] at pm
      exact ⟨_, rfl, k zf fo He pm De ke nf0 efE⟩
    | cons z0 zr =>
      refine iteT ?_
      refine ⟨fun σ' H' => ∃ zl zf : List Int, σ' = [some (.ref d), some (.ref a), some (.ref l), some (.ref fo)] ∧ zl.length = zr.length ∧ DrawAt H' d lg cl ∧ H' l = some (.lst (zl.map V.int)) ∧ H' fo = some (.lst (zf.map V.int)) ∧ (zf ++ zl).Perm zs ∧ Kept d lg H H', fun σ' H' hN => ?_, ?_⟩
      · obtain ⟨zl', zf', e1, e2, rest⟩ := hN
        exact ⟨_, by rw [List.length_cons]; exact Nat.lt_succ_self _, zl', zf', e1, e2.symm, rest⟩
      · have hl2 : ((z0 :: zr).map V.int).length = zr.length + 1 := by rw [List.length_map, List.length_cons]
        refine ⟨_, rfl, .inl ⟨rfl, _, SqL.of efE⟩, _, rfl, .inl ⟨rfl, _, SqL.of elE⟩, _, rfl, _, rfl, l, _, rfl, .inl (SqL.of elE), d, lg, cl, _, rfl, De, by rw [hl2]; omega, by rw [hl2]; rw [List.length_cons] at hlen; omega, fun z H2 z1 z2 D2 k2 => ?_⟩
        obtain ⟨j, rfl⟩ := Int.eq_ofNat_of_zero_le z1
        have hj : j < (z0 :: zr).length := by rw [hl2] at z2; rw [List.length_cons]; omega
        have ej : (z0 :: zr)[j]? = some ((z0 :: zr)[j]) := List.getElem?_eq_getElem hj
        generalize (z0 :: zr)[j] = zj at ej
        have el2 := k2 _ _ elE ld llg
        have ef2 := k2 _ _ efE fd' flg
        have hs : seqIndex? (j : Int) ((z0 :: zr).map V.int).length = some j := by
          rw [hl2]
          rw [List.length_cons] at hj
          simp [seqIndex?]
          omega
        refine ⟨l, _, _, j, _, rfl, rfl, el2, by omega, by rw [hl2] at z2; rw [List.length_cons] at hlen; omega, hs, (by rw [List.getElem?_map, ej]; rfl), ?_⟩
        have ef3 : (upd H2 l (.lst (((z0 :: zr).map V.int).eraseIdx j))) fo = some (.lst (zf.map V.int)) := by rw [upd_ne nef]; exact ef2
        have hf2 : (zf.map V.int).length < sizeLine := small1000 (by rw [List.length_map]; omega)
        refine ⟨fo, _, _, rfl, rfl, ef3, hf2, ?_⟩
        have hpm : (zj :: (z0 :: zr).eraseIdx j).Perm (z0 :: zr) := perm_erase ej
        refine ⟨(z0 :: zr).eraseIdx j, zf ++ [zj], rfl, ?_, Dput fd' flg fcl (Dput ld llg lcl D2), ?_, ?_, ?_, Kput nf0 (Kput nl (ke.trans k2))⟩
        · have := hpm.length_eq
          rw [List.length_cons, List.length_cons] at this
          omega
        · rw [upd_ne nef.symm, upd_same, List.eraseIdx_eq_take_drop_succ, List.eraseIdx_eq_take_drop_succ, List.map_append, List.map_take, List.map_drop]
        · rw [upd_same]
          rw [List.map_append]
          rfl
        · refine List.Perm.trans ?_ pm
          rw [List.append_assoc]
          exact List.Perm.append_left zf hpm
end
end K03


set_option Elab.async false
set_option maxRecDepth 100000
set_option maxHeartbeats 4000000
set_option linter.all false
namespace K03
open PySem PySem.Spec PyProof.Rows L2 NetM
abbrev sShPairs : Stmt := top 38
abbrev N38 : List Str := ["draw", "most", "many_here", "pairs_here", "way", "k"]
theorem scShPairs : FnScope N38 ["draw", "most"] (defScope sShPairs) := ⟨rfl, rfl, rfl, by decide +kernel, rfl, by decide +kernel, by decide +kernel⟩
theorem lineP_take (n j : Nat) (h : j < n - 1) : (lineP n).take (j + 1) = (lineP n).take j ++ [((j : Int), (j : Int) + 1)] := by
  unfold lineP
  rw [List.take_add_one, List.getElem?_map, List.getElem?_range h]
  rfl
theorem lineP_len (n : Nat) : (lineP n).length = n - 1 := by unfold lineP; rw [List.length_map, List.length_range]
theorem rf_dropLast (us : Zs) : cutV (rf us) none (some (-1)) = rf us.dropLast := by
  unfold cutV
  rw [HT.sIx_none, List.drop_zero, Nat.sub_zero]
  have hix : HT.sIx (rf us).length (rf us).length (some (-1)) = us.length - 1 := by
    have e : (rf us).length = us.length := by unfold rf; rw [List.length_map]
    rw [e]
    show (if (-1 : Int) < 0 then ((-1 : Int) + (us.length : Int)).toNat else min (-1 : Int).toNat us.length) = _
    rw [if_pos (by decide)]
    omega
  rw [hix, List.dropLast_eq_take]
  unfold rf
  rw [List.map_take]
def spShPairs : Sp := fun vs H Q _ => ∃ (d lg cl : Addr), vs = [.ref d, .int 8] ∧ DrawAt H d lg cl ∧
  ∀ (T D : Addr) (n w : Nat) (us : Zs) (H' : Hp), 0 < n → n ≤ 8 → w < 3 → H' T = some (.tup [.int n, .ref D]) → H' D = some (.lst (rf us)) → D ≠ lg → PL H' us → nums us = goodP n w → DrawAt H' d lg cl → Kept d lg H H' → Q (.ref T) H'
section
variable {P : Program} {w : World} {K : PySem.W.Frag} {mg : Str → Option Value} {base : Heap}
theorem ok_shpairs {f fT : Addr} {fd fdT : FuncData} (F : Fun K "_law_shape_pairs" "_law_shape_pairs" sShPairs f fd) (GT : FnOk P w K mg base CX0 2 fT fdT ["draw", "amount"] spTake) (bT : L2.Binds K fdT ["draw", "amount"] []) (gT : mg "_law_take" = some (.ref fT)) (kT : PySem.W.keepIn K (.ref fT) = true) (mRa : mg "range" = none) : FnOk P w K mg base CX0 3 f fd ["draw", "most"] spShPairs := by
  refine F.ok scShPairs (fun vs H Q E h => ?_) (fun cdv A outer s H vs Q E hr h => ?_)
  · obtain ⟨d, lg, cl, rfl, _⟩ := h
    rfl
  · obtain ⟨d, lg, cl, rfl, DR, k⟩ := h
    have nd := scShPairs.nd
    refine ⟨_, pss_cons (ps_set (i := 2) nd rfl (by first | exact Or.inl rfl | exact Or.inr rfl) (pe_op op_add pe_int (pe_call GT hr (by rfl) gT kT bT .nil pass0 (pa_cons (pv 0) (pa_cons (pv 1) pa_nil)))))
      (pss_cons (ps_par (i := 3) (j := 4) (by rfl) nd rfl rfl (by decide) rfl rfl (pa_cons (pe_lc (own := [("k", 5)]) (g := gName 5) (by rfl) nd (pi_range1 (by rfl) mRa (pa_cons (pe_op op_sub (pv 2) pe_int) pa_nil)) (blkOk_by (own := [("k", 5)]) (N := N38) (sc := defScope sShPairs) (by decide +kernel)) (fun _ _ _ _ _ => pg_name (i := 5) nd rfl (by first | exact Or.inl rfl | exact Or.inr rfl)) (fun _ _ _ _ _ => pts_nil)
          (fun _ _ _ _ _ => pe_tup (pa_cons (pv 5) (pa_cons (pe_op op_add (pv 5) pe_int) pa_nil)))) (pa_cons (pe_call GT hr (by rfl) gT kT bT .nil pass0 (pa_cons (pv 0) (pa_cons pe_int pa_nil))) pa_nil)) (by rfl))
      (pss_cons (ps_if (PW.pt (pw_and (pt_cmpR op_eq (pv 4) pe_int (nomark _)) (pw_and1 (pt_cmpR op_gt (pv 2) pe_int (nomark _))))) (pss_one (ps_set (i := 3) nd rfl (by first | exact Or.inl rfl | exact Or.inr rfl) (pe_op op_cat (pe_slice sl_list (pv 3) po_none (po_some (pe_un un_neg pe_int))) (pe_lst (pa_cons (pe_tup (pa_cons (pe_op op_sub (pv 2) pe_int) (pa_cons (pe_op op_sub (pv 2) pe_int) pa_nil))) pa_nil))))) pss_nil)
      (pss_cons (ps_if (PW.pt (pw_and (pt_cmpR op_eq (pv 4) pe_int (nomark _)) (pw_and1 (pt_cmpR op_gt (pv 2) pe_int (nomark _))))) (pss_one (ps_set (i := 3) nd rfl (by first | exact Or.inl rfl | exact Or.inr rfl) (pe_op op_cat (pe_slice sl_list (pv 3) po_none (po_some (pe_un un_neg pe_int))) (pe_lst (pa_cons (pe_tup (pa_cons pe_int (pa_cons (pe_op op_sub (pv 2) pe_int) pa_nil))) pa_nil))))) pss_nil)
      (pss_one (ps_ret (pe_tup (pa_cons (pv 2) (pa_cons (pv 3) pa_nil)))))))), ?_⟩
    refine ⟨_, rfl, _, rfl, d, lg, cl, 8, rfl, DR, by decide, by decide, fun z H1 z0 z1 D1 k1 => ?_⟩
    obtain ⟨n, hn⟩ : ∃ n : Nat, 1 + z = (n : Int) := ⟨(1 + z).toNat, by omega⟩
    have n0 : 0 < n := by omega
    have n8 : n ≤ 8 := by omega
    have hv : V.int (1 + z) = V.int (n : Int) := congrArg V.int hn
    refine ⟨_, _, rfl, rfl, ?_⟩
    refine ⟨_, rfl, (n : Int), 1, hv, rfl, (n : Int) - 1, rfl, by omega, by omega, fun D nD => ?_⟩
    rw [show ((n : Int) - 1).toNat = n - 1 by omega]
    refine lc_range (lo := 0) (n := n - 1) (fun i Hd => ∃ us : Zs, nums us = (lineP n).take i ∧ PL Hd us ∧ Hd D = some (.lst (rf us)) ∧ Same H1 Hd) ⟨[], rfl, (fun _ m => nomatch m), upd_same, same_upd nD⟩ ?_ ?_
    · rintro i Hd hi ⟨us, hus, pw, eD, sd⟩
      have hul : us.length ≤ i := by
        have := congrArg List.length hus
        unfold nums at this
        rw [List.length_map, List.length_take] at this
        omega
      refine ⟨rfl, ?_⟩
      dsimp only [tYes]
      refine iteT ?_
      refine ⟨_, rfl, _, rfl, _, _, rfl, rfl, by show 2 ≤ sizeLine; decide, fun q nq => ?_⟩
      rw [Int.zero_add]
      refine ⟨_, same_upd nq _ _ eD, small_2000 (by rw [rf_len]; omega), us ++ [(q, (i : Int), (i : Int) + 1)], ?_, ((pw.same (same_upd nq)).app upd_same).put (same_upd nq _ _ eD), by rw [upd_same, rf_app], same_put (sd.trans (same_upd nq)) nD⟩
      rw [lineP_take n i hi, ← hus]
      unfold nums
      rw [List.map_append]
      rfl
    rintro H2 ⟨us, hus, pw, eD, sd⟩
    rw [List.take_of_length_le (by rw [lineP_len]; exact Nat.le_refl _)] at hus
    have hul : us.length = n - 1 := by
      have := congrArg List.length hus
      unfold nums at this
      rw [List.length_map, lineP_len] at this
      exact this
    have D2 := draw_same sd D1
    obtain ⟨nd1, nd2, _⟩ := draw_new D1 nD
    refine ⟨_, rfl, d, lg, cl, 3, rfl, D2, by decide, by decide, fun w1 H3 w0 w2 D3 k3 => ?_⟩
    obtain ⟨wn, rfl⟩ : ∃ m : Nat, w1 = m := ⟨w1.toNat, by omega⟩
    have eD3 := k3 _ _ eD nd1 nd2
    have p3 := pw.kept D2 k3
    have k03 : Kept d lg H H3 := (k1.trans (fun b o h _ _ => sd b o h)).trans k3
    refine ⟨_, _, rfl, ?_⟩
    have fin : ∀ (G : Addr) (vs : Zs) (H4 : Hp) (v5 : Option V), G ≠ lg → nums vs = goodP n wn → PL H4 vs → H4 G = some (.lst (rf vs)) → Same H3 H4 → ∃ x : V, [some (V.ref d), some (V.int 8), some (V.int (1 + z)), some (V.ref G), some (V.int (wn : Int)), v5][2]? = some (some x) ∧ ∃ y : V, [some (V.ref d), some (V.int 8), some (V.int (1 + z)), some (V.ref G), some (V.int (wn : Int)), v5][3]? = some (some y) ∧ [x, y].length ≤ sizeLine ∧ ∀ p, H4 p = none → Q (.ref p) (upd H4 p (.tup [x, y])) := fun G vs H4 v5 gl hvs pv' eG s4 => by
      refine ⟨_, rfl, _, rfl, by show 2 ≤ sizeLine; decide, fun T nT => ?_⟩
      have sT := same_upd (o := .tup [V.int (1 + z), V.ref G]) nT
      exact k T G n wn vs _ n0 n8 (by omega) (by rw [upd_same, hv]) (sT _ _ eG) gl (pv'.same sT) hvs (draw_same (s4.trans sT) D3) (k03.trans (fun b o h _ _ => (s4.trans sT) b o h))

    by_cases c1 : wn = 1
    · subst c1
      refine ⟨_, rfl, rfl, _, rfl, ?_⟩
      refine iteTb (decide_eq_true rfl) ?_
      refine ⟨_, rfl, (n : Int), 3, hv, rfl, _, rfl, ?_⟩
      by_cases c2 : 3 < n
      · refine iteTb (decide_eq_true (by omega)) ?_
        refine ⟨_, rfl, _, rfl, -1, rfl, D, _, rfl, SqL.of eD3, fun S nS => ?_⟩
        rw [rf_dropLast]
        have sS := same_upd (o := .lst (rf us.dropLast)) nS
        have eS : (upd H3 S (.lst (rf us.dropLast))) S = some (.lst (rf us.dropLast)) := upd_same
        generalize upd H3 S (.lst (rf us.dropLast)) = H4 at sS eS
        refine ⟨_, rfl, (n : Int), 3, hv, rfl, _, rfl, (n : Int), 1, hv, rfl, by show 2 ≤ sizeLine; decide, fun T1 nT1 => ?_⟩
        have sT := same_upd (o := .tup [.int ((n : Int) - 3), .int ((n : Int) - 1)]) nT1
        have eT1 : (upd H4 T1 (.tup [.int ((n : Int) - 3), .int ((n : Int) - 1)])) T1 = some (.tup [.int ((n : Int) - 3), .int ((n : Int) - 1)]) := upd_same
        have eS2 := sT _ _ eS
        refine ⟨by show 1 ≤ sizeLine; decide, fun L1 nL1 => ?_⟩
        have sL := same_upd (o := .lst [.ref T1]) nL1
        refine ⟨S, L1, _, _, rfl, rfl, sL _ _ eS2, upd_same, Nat.le_of_lt (small_2000 (by rw [rf_len, List.length_dropLast]; show _ + 1 ≤ 2000; omega)), fun G nG => ?_⟩
        rw [rf_app us.dropLast T1 ((n : Int) - 3) ((n : Int) - 1)]
        have sG := same_upd (o := .lst (rf (us.dropLast ++ [(T1, (n : Int) - 3, (n : Int) - 1)]))) nG
        have s34 := sS.trans (sT.trans (sL.trans sG))
        have pG : PL _ (us.dropLast ++ [(T1, (n : Int) - 3, (n : Int) - 1)]) := PL.app (fun z m => s34 _ _ (p3 z (List.dropLast_subset _ m))) (sG _ _ (sL _ _ eT1))
        have hG : nums (us.dropLast ++ [(T1, (n : Int) - 3, (n : Int) - 1)]) = (lineP n).dropLast ++ [((n : Int) - 3, (n : Int) - 1)] := by
          unfold nums at hus ⊢
          rw [List.map_append, List.map_dropLast, hus]
          rfl
        refine ⟨_, rfl, rfl, _, rfl, ?_⟩
        refine iteFb (decide_eq_false (by simp)) ?_
        refine iteF ?_
        exact fin G _ _ none (draw_new (draw_same (sS.trans (sT.trans sL)) D3) nG).2.1 (by rw [hG]; unfold goodP; rw [if_pos ⟨rfl, c2⟩]) pG upd_same s34
      · refine iteFb (decide_eq_false (by omega)) ?_
        refine ⟨_, rfl, rfl, _, rfl, ?_⟩
        refine iteFb (decide_eq_false (by simp)) ?_
        refine iteF ?_
        exact fin D us H3 none nd2 (by rw [hus]; unfold goodP; rw [if_neg (fun h => c2 h.2), if_neg (fun h => by simp at h)]) p3 eD3 (Same.refl _)
    · refine ⟨_, rfl, rfl, _, rfl, ?_⟩
      refine iteFb (decide_eq_false (fun q => c1 (by have := V.int.inj q; omega))) ?_
      refine iteF ?_
      refine ⟨_, rfl, rfl, _, rfl, ?_⟩
      by_cases c3 : wn = 2
      · subst c3
        refine iteTb (decide_eq_true rfl) ?_
        refine ⟨_, rfl, (n : Int), 5, hv, rfl, _, rfl, ?_⟩
        by_cases c2 : 5 < n
        · refine iteTb (decide_eq_true (by omega)) ?_
          refine ⟨_, rfl, _, rfl, -1, rfl, D, _, rfl, SqL.of eD3, fun S nS => ?_⟩
          rw [rf_dropLast]
          have sS := same_upd (o := .lst (rf us.dropLast)) nS
          have eS : (upd H3 S (.lst (rf us.dropLast))) S = some (.lst (rf us.dropLast)) := upd_same
          generalize upd H3 S (.lst (rf us.dropLast)) = H4 at sS eS
          refine ⟨_, rfl, (n : Int), 1, hv, rfl, by show 2 ≤ sizeLine; decide, fun T1 nT1 => ?_⟩
          have sT := same_upd (o := .tup [.int (2), .int ((n : Int) - 1)]) nT1
          have eT1 : (upd H4 T1 (.tup [.int (2), .int ((n : Int) - 1)])) T1 = some (.tup [.int (2), .int ((n : Int) - 1)]) := upd_same
          have eS2 := sT _ _ eS
          refine ⟨by show 1 ≤ sizeLine; decide, fun L1 nL1 => ?_⟩
          have sL := same_upd (o := .lst [.ref T1]) nL1
          refine ⟨S, L1, _, _, rfl, rfl, sL _ _ eS2, upd_same, Nat.le_of_lt (small_2000 (by rw [rf_len, List.length_dropLast]; show _ + 1 ≤ 2000; omega)), fun G nG => ?_⟩
          rw [rf_app us.dropLast T1 (2) ((n : Int) - 1)]
          have sG := same_upd (o := .lst (rf (us.dropLast ++ [(T1, 2, (n : Int) - 1)]))) nG
          have s34 := sS.trans (sT.trans (sL.trans sG))
          have pG : PL _ (us.dropLast ++ [(T1, 2, (n : Int) - 1)]) := PL.app (fun z m => s34 _ _ (p3 z (List.dropLast_subset _ m))) (sG _ _ (sL _ _ eT1))
          have hG : nums (us.dropLast ++ [(T1, 2, (n : Int) - 1)]) = (lineP n).dropLast ++ [(2, (n : Int) - 1)] := by
            unfold nums at hus ⊢
            rw [List.map_append, List.map_dropLast, hus]
            rfl
          skip
          exact fin G _ _ none (draw_new (draw_same (sS.trans (sT.trans sL)) D3) nG).2.1 (by rw [hG]; unfold goodP; rw [if_neg (fun h => c1 h.1), if_pos ⟨rfl, c2⟩]) pG upd_same s34
        · refine iteFb (decide_eq_false (by omega)) ?_
          exact fin D us H3 none nd2 (by rw [hus]; unfold goodP; rw [if_neg (fun h => c1 h.1), if_neg (fun h => c2 h.2)]) p3 eD3 (Same.refl _)
      · refine iteFb (decide_eq_false (fun q => c3 (by have := V.int.inj q; omega))) ?_
        refine iteF ?_
        exact fin D us H3 none nd2 (by rw [hus]; unfold goodP; rw [if_neg (fun h => c1 h.1), if_neg (fun h => c3 h.1)]) p3 eD3 (Same.refl _)
end
end K03


set_option Elab.async false
set_option maxRecDepth 100000
set_option maxHeartbeats 4000000
set_option linter.all false
/-! a tuple once over is itself; lists of pairs as they stand in the text -/
namespace K03
open PySem PySem.Spec PyProof.Rows L2 NetM
theorem tuple_mul1 (l : Addr) (items : Array Value) (n : Nat) (sl : Array (Option Value)) (dd : Option Addr) (u : Tok) : 
    Meets (Builtin.«tuple.__mul__» ⟨[.ref l, .int 1 u], []⟩) (fun _ R s => s.heap.get? l = some { cls := .type "tuple", dict := dd, data := .seq items n, slots := sl } ∧ R (.ok (.ret (Value.ref l))) s) :=
  .of_wp fun prog w A R s h => by
    obtain ⟨hp, g, d, tk, os⟩ := s
    obtain ⟨hl, h⟩ := h
    have f1 := AutoSeq1.idx_int
    have c0 : (decide ((1 : Int) < -(2 ^ 63)) || decide ((1 : Int) ≥ 2 ^ 63)) = false := by decide
    have c1 : (items.isEmpty || (1 : Int) == 1) = true := by rw [Bool.or_eq_true]; exact .inr rfl
    wp_walk using wpAny_loadPart' hl
    repeat (first
      | (refine wpAny_ite_false (decide_eq_false (by rw [c0]; exact Bool.false_ne_true)) ?_; wp_walk using wpAny_loadPart' hl)
      | (refine wpAny_ite_true (decide_eq_true c1) ?_; wp_walk using wpAny_loadPart' hl))
    exact ⟨_, rfl, h⟩
def rRep1 (K : PySem.W.Frag) : R2 := fun x y H Q => ∃ l xs, x = .ref l ∧ y = .int 1 ∧ SqT K H l xs ∧ Q (.ref l) H
theorem op_rep1 {X : Cx} : OpR X (binaryOp .Mult) (rRep1 X.K) := by
  intro pins s σ H x y v u Q I rx ry h
  obtain ⟨l, xs, rfl, rfl, hT, q⟩ := h
  cases rx
  obtain ⟨t, rfl⟩ := ry
  obtain ⟨its, r, ⟨⟨cls, dd, data, sl⟩, ho, hc, n, hd⟩, hs⟩ := I.tuple hT
  simp only at hc hd
  subst hc hd
  refine wpAny_binaryOp_repeat_ref (T := "tuple") (U := "int") (by decide) ⟨_, ho, rfl⟩ (fun s' => typeIs_int s' 1 t) noFill_tuple_mul F.fills_int_mul F.slot_int_rmul repeat_tuple F.slot_int_index.lookup
    (call_meets F.slot_int_rmul (typeIs_int s 1 t) F.entry_int_rmul (F.args_int_rmul_2 _ _) (int_rmul_tuple 1 t l its.toArray n dd sl)
      ⟨ho, rfl, ⟨_, ho, rfl⟩, call_meets F.slot_tuple_mul ⟨_, ho, rfl⟩ F.entry_tuple_mul (F.args_tuple_mul_2 _ _) (tuple_mul1 l its.toArray n sl dd t) ⟨ho, ?_⟩⟩)
  exact ⟨.ref l, H, I, rfl, q⟩
def rRepA (K : PySem.W.Frag) : R2 := fun x y H Q => rRepT K x y H Q ∨ rRep1 K x y H Q
theorem op_repA {X : Cx} : OpR X (binaryOp .Mult) (rRepA X.K) := by
  intro pins s σ H x y v u Q I rx ry h
  rcases h with h | h
  · exact op_repT pins s σ H x y v u Q I rx ry h
  · exact op_rep1 pins s σ H x y v u Q I rx ry h
/-- (v,) * n, n from 1 on -/
theorem rep_rd {K : PySem.W.Frag} {H : Hp} {l : Addr} {v : V} {n : Nat} {Q : VK} (h : H l = some (.tup [v])) (n1 : 1 ≤ n) (n2 : n ≤ 1000) (q : ∀ p H', H' p = some (.tup (List.replicate n v)) → Same H H' → Q (.ref p) H') : rRepA K (.ref l) (.int n) H Q := by
  by_cases c : n = 1
  · subst c
    exact .inr ⟨l, _, rfl, rfl, SqT.of h, q l H h (Same.refl _)⟩
  · refine .inl ⟨l, (n : Int), _, rfl, rfl, SqT.of h, by simp, by omega, by omega, by show 1 ≤ 1000; decide, fun p np => ?_⟩
    rw [Int.toNat_natCast, rep1]
    exact q p _ upd_same (same_upd np)
theorem rep_rdz {K : PySem.W.Frag} {H : Hp} {l : Addr} {v : V} {n : Nat} {z : Int} {Q : VK} (hz : z = (n : Int)) (h : H l = some (.tup [v])) (n1 : 1 ≤ n) (n2 : n ≤ 1000) (q : ∀ p H', H' p = some (.tup (List.replicate n v)) → Same H H' → Q (.ref p) H') : rRepA K (.ref l) (.int z) H Q := by
  subst hz
  exact rep_rd h n1 n2 q
/-! ### [(a, b), ..] -/
def Val (te : TE) (σ : L2.St) (v : Int) : Prop := ∀ H Q, Q (.int v) H → te σ H Q
theorem Val.c {σ : L2.St} (v : Int) : Val (tC (.int v)) σ v := fun H Q h => h
theorem Val.v {σ : L2.St} {i : Nat} {v : Int} (h : σ[i]? = some (some (.int v))) : Val (tVar i) σ v := fun H Q q => ⟨_, h, q⟩
def litP : List (TE × TE) → TA
  | [] => tNil
  | q :: l => tCons (tTup (tCons q.1 (tCons q.2 tNil))) (litP l)
theorem lit_rd {σ : L2.St} : ∀ (l : List ((TE × TE) × (Int × Int))), (∀ q ∈ l, Val q.1.1 σ q.2.1 ∧ Val q.1.2 σ q.2.2) → ∀ (H : Hp) (Q : List V → Hp → Prop),
    (∀ us H', nums us = l.map (·.2) → PL H' us → Same H H' → Q (rf us) H') → litP (l.map (·.1)) σ H Q
  | [], _, H, Q, h => h [] H rfl (fun z m => by cases m) (Same.refl _)
  | q :: l, hv, H, Q, h => by
    obtain ⟨h1, h2⟩ := hv q (List.mem_cons_self ..)
    refine h1 _ _ (h2 _ _ ⟨by show 2 ≤ sizeLine; decide, fun T nT => ?_⟩)
    refine lit_rd l (fun z m => hv z (List.mem_cons_of_mem _ m)) _ _ fun us H' hn hp hs => ?_
    refine h ((T, q.2) :: us) H' (by unfold nums at hn ⊢; rw [List.map_cons, List.map_cons, hn]) (fun z m => ?_) ((same_upd nT).trans hs)
    rcases List.mem_cons.mp m with rfl | m
    · exact hs _ _ upd_same
    · exact hp z m
theorem lit_c {σ : L2.St} (prs : Prs) (H : Hp) (Q : List V → Hp → Prop) (h : ∀ us H', nums us = prs → PL H' us → Same H H' → Q (rf us) H') : litP (prs.map fun q => (tC (.int q.1), tC (.int q.2))) σ H Q := by
  have := lit_rd (σ := σ) (prs.map fun q => ((tC (.int q.1), tC (.int q.2)), q)) (fun z m => by
    obtain ⟨q, _, rfl⟩ := List.mem_map.mp m
    exact ⟨Val.c _, Val.c _⟩) H Q (fun us H' hn => h us H' (by rw [hn, List.map_map]; exact List.map_id prs))
  rw [List.map_map] at this
  exact this
theorem ret_lit {v : V} {rest : TA} {D : Ends} {σ : L2.St} {H : Hp} (prs : Prs) (hl : prs.length ≤ 2000) (h : ∀ us H' p, nums us = prs → PL H' us → Same H H' → H' p = none → rest σ (upd H' p (.lst (rf us))) fun xs H2 => (v :: .ref p :: xs).length ≤ sizeLine ∧ ∀ q, H2 q = none → D.rt (.ref q) (upd H2 q (.tup (v :: .ref p :: xs)))) :
    tRet (tTup (tCons (tC v) (tCons (tLst (litP (prs.map fun q => (tC (.int q.1), tC (.int q.2))))) rest))) D σ H :=
  lit_c prs _ _ fun us H2 hn p2 s2 => ⟨Nat.le_of_lt (small_2000 (by have := congrArg List.length hn; unfold nums at this; rw [List.length_map] at this; rw [rf_len, this]; exact hl)), fun p np => h us H2 p hn p2 s2 np⟩
theorem asg_lit {g : TG} {tb : TS} {D : Ends} {σ : L2.St} {H : Hp} (prs : Prs) (hl : prs.length ≤ 2000) (h : ∀ us H' p, nums us = prs → PL H' us → Same H H' → H' p = none → g (.ref p) σ (upd H' p (.lst (rf us))) (tb D)) :
    tSeq (tAsg (tLst (litP (prs.map fun q => (tC (.int q.1), tC (.int q.2))))) g) tb D σ H :=
  lit_c prs _ _ fun us H2 hn p2 s2 => ⟨Nat.le_of_lt (small_2000 (by have := congrArg List.length hn; unfold nums at this; rw [List.length_map] at this; rw [rf_len, this]; exact hl)), fun p np => h us H2 p hn p2 s2 np⟩
theorem Val.o {σ : L2.St} {i : Nat} {v b : Int} (h : σ[i]? = some (some (.int v))) (f : Int → Int → Int) {u : Int} (e : f v b = u) : Val (tOp (rI0 fun i j => .int (f i j)) (tVar i) (tC (.int b))) σ u := fun H Q q => ⟨_, h, v, b, rfl, rfl, by show Q (V.int (f v b)) H; rw [e]; exact q⟩
theorem asg_lits {g : TG} {tb : TS} {D : Ends} {σ : L2.St} {H : Hp} (l : List ((TE × TE) × (Int × Int))) (hl : l.length ≤ 2000) (hv : ∀ q ∈ l, Val q.1.1 σ q.2.1 ∧ Val q.1.2 σ q.2.2) (h : ∀ us H' p, nums us = l.map (·.2) → PL H' us → Same H H' → H' p = none → g (.ref p) σ (upd H' p (.lst (rf us))) (tb D)) :
    tSeq (tAsg (tLst (litP (l.map (·.1)))) g) tb D σ H :=
  lit_rd l hv _ _ fun us H2 hn p2 s2 => ⟨Nat.le_of_lt (small_2000 (by have := congrArg List.length hn; unfold nums at this; rw [List.length_map, List.length_map] at this; rw [rf_len, this]; exact hl)), fun p np => h us H2 p hn p2 s2 np⟩
end K03


set_option Elab.async false
set_option maxRecDepth 100000
set_option maxHeartbeats 4000000
set_option linter.all false
/-! the word of a good net, by its branches; names. Pure. -/
namespace K03
open PySem PySem.Spec PyProof.Rows L2 NetM
def dg (E : Prs) (p : Int) : Nat := (nearL E p).length
def lf (E : Prs) (p : Int) : Nat := ((nearL E p).filter fun y => decide (dg E y = 1)).length
theorem dg_near (E : Prs) (p : Int) : (dg E p : Int) = nearS E (fun _ => 1) p := by
  rw [← nearL_sum]
  unfold dg
  induction nearL E p with
  | nil => rfl
  | cons a l ih => rw [List.map_cons, List.sum_cons, ← ih, List.length_cons]; omega
theorem lf_near (E : Prs) (p : Int) : (lf E p : Int) = nearS E (fun y => if dg E y = 1 then 1 else 0) p := by
  rw [← nearL_sum]
  unfold lf
  induction nearL E p with
  | nil => rfl
  | cons a l ih =>
    rw [List.map_cons, List.sum_cons, List.filter_cons]
    by_cases c : dg E a = 1
    · rw [if_pos (decide_eq_true c), if_pos c, List.length_cons]; omega
    · rw [if_neg (by simpa using c), if_neg c]; omega
theorem Ren.dg {n : Nat} {f : Int → Int} {E F : Prs} (R : Ren n f E F) {p : Int} (hp : InR n p) : K03.dg F (f p) = K03.dg E p := by
  have h := R.near (fun _ => 1) hp
  rw [← dg_near, ← dg_near] at h
  omega
theorem Ren.lf {n : Nat} {f : Int → Int} {E F : Prs} (R : Ren n f E F) {p : Int} (hp : InR n p) : K03.lf F (f p) = K03.lf E p := by
  have h := R.near (fun y => if K03.dg F y = 1 then 1 else 0) hp
  rw [← lf_near] at h
  have h2 : nearS E (fun x => if K03.dg F (f x) = 1 then 1 else 0) p = nearS E (fun y => if K03.dg E y = 1 then 1 else 0) p := near_congr R.hE (fun q hq => by rw [Ren.dg R hq]) p
  rw [h2, ← lf_near] at h
  omega
/-- places of three arrows or more -/
def brs (F : Prs) (n : Nat) : List Nat := (List.range n).filter fun j => decide (2 < dg F j)
def wordN (F : Prs) (n : Nat) : Nat := match brs F n with
  | [] => 0
  | j :: _ => if 1 < lf F j then 1 else 2
def wordB (n w : Nat) : Bool := let E := goodP n w
  (List.range n).all (fun j => decide (2 < dg E j → (if 1 < lf E j then 1 else 2) = goodW n w)) && ((brs E n).isEmpty == decide (goodW n w = 0))
theorem word_all : ((List.range 8).all fun n => (List.range 3).all fun w => wordB (n + 1) w) = true := by decide +kernel
theorem word_of {n w : Nat} (h1 : 0 < n) (h2 : n ≤ 8) (h3 : w < 3) {f : Int → Int} {F : Prs} (R : Ren n f (goodP n w) F) : wordN F n = goodW n w := by
  have h := List.all_eq_true.mp (List.all_eq_true.mp word_all (n - 1) (List.mem_range.mpr (by omega))) w (List.mem_range.mpr h3)
  rw [show n - 1 + 1 = n by omega] at h
  unfold wordB at h
  rw [Bool.and_eq_true] at h
  obtain ⟨h4, h5⟩ := h
  have key : ∀ j : Nat, j < n → 2 < dg (goodP n w) j → (if 1 < lf (goodP n w) j then 1 else 2) = goodW n w := fun j hj => of_decide_eq_true (List.all_eq_true.mp h4 j (List.mem_range.mpr hj))
  unfold wordN
  cases e : brs F n with
  | nil =>
    show 0 = goodW n w
    have h6 := eq_of_beq h5
    cases e2 : brs (goodP n w) n with
    | nil =>
      rw [e2] at h6
      exact (of_decide_eq_true h6.symm).symm
    | cons j l =>
      exfalso
      have m : j ∈ brs (goodP n w) n := by rw [e2]; exact List.mem_cons_self ..
      unfold brs at m
      obtain ⟨m1, m2⟩ := List.mem_filter.mp m
      have hj := List.mem_range.mp m1
      have m3 := of_decide_eq_true m2
      rw [← Ren.dg R (inr_nat hj)] at m3
      obtain ⟨k, ek⟩ : ∃ k : Nat, f j = k := ⟨(f j).toNat, by have := (R.b.to _ (inr_nat hj)).1; omega⟩
      have hk : k < n := by have := (R.b.to _ (inr_nat hj)).2; omega
      rw [ek] at m3
      have : k ∈ brs F n := List.mem_filter.mpr ⟨List.mem_range.mpr hk, decide_eq_true m3⟩
      rw [e] at this
      cases this
  | cons j l =>
    show (if 1 < lf F j then 1 else 2) = goodW n w
    have m : j ∈ brs F n := by rw [e]; exact List.mem_cons_self ..
    unfold brs at m
    obtain ⟨m1, m2⟩ := List.mem_filter.mp m
    have hj := List.mem_range.mp m1
    have m3 := of_decide_eq_true m2
    obtain ⟨x, hx, ex⟩ := R.b.sur (inr_nat hj)
    obtain ⟨k, rfl⟩ : ∃ k : Nat, x = k := ⟨x.toNat, by have := hx.1; omega⟩
    rw [← ex, Ren.dg R hx] at m3
    rw [← ex, Ren.lf R hx]
    exact key k (by have := hx.2; omega) m3
theorem wordN_lt (F : Prs) (n : Nat) : wordN F n < 3 := by
  unfold wordN
  split
  · decide
  · split <;> decide
/-! ### names that are drawn -/
theorem bij_of {n : Nat} {ys : List Int} (h : ys.Perm (rng n)) : Bij n (rowF ys) := by
  have hl : ys.length = n := by rw [h.length_eq, rng_len]
  have nd : ys.Nodup := h.nodup_iff.mpr (rng_nodup n)
  have at_ : ∀ x, InR n x → ∃ k : Nat, ∃ hk : k < ys.length, x = k ∧ rowF ys x = ys[k] := fun x hx => by
    have h0 := hx.1
    have h1 := hx.2
    obtain ⟨k, rfl⟩ : ∃ k : Nat, x = k := ⟨x.toNat, by omega⟩
    refine ⟨k, by omega, rfl, ?_⟩
    rw [rowF_nat, List.getD_eq_getElem?_getD, List.getElem?_eq_getElem (by omega)]
    rfl
  refine ⟨fun x hx => ?_, fun x y hx hy e => ?_⟩
  · obtain ⟨k, hk, _, e⟩ := at_ x hx
    rw [e]
    exact mem_rng.mp (h.mem_iff.mp (List.getElem_mem hk))
  · obtain ⟨k, hk, ex, e1⟩ := at_ x hx
    obtain ⟨m, hm, ey, e2⟩ := at_ y hy
    rw [e1, e2] at e
    have := (List.getElem_inj nd).mp e
    omega
theorem rng_range (n : Nat) : rng n = (List.range n).map fun (k : Nat) => (k : Int) := rfl
theorem Flip.trans {E F G : Prs} (h : Flip E F) (k : Flip F G) : Flip E G := by
  induction h generalizing G with
  | nil => exact k
  | same q _ ih =>
    cases k with
    | same _ k => exact .same q (ih k)
    | turn _ k => exact .turn q (ih k)
  | turn q _ ih =>
    cases k with
    | same _ k => exact .turn q (ih k)
    | turn _ k => exact .same q (ih k)
theorem Ren.flip {n : Nat} {f : Int → Int} {E F G : Prs} (R : Ren n f E F) (k : Flip F G) : Ren n f E G := by
  obtain ⟨D, d1, d2⟩ := R.ex
  exact ⟨R.b, R.hE, D, d1, Flip.trans d2 k⟩
theorem Flip.all {E : Prs} : Flip E (E.map fun q => (q.2, q.1)) := by
  induction E with
  | nil => exact .nil
  | cons q E ih => exact .turn q ih
/-- pairs, each kept or turned -/
theorem Flip.pick (c : Nat → Bool) : ∀ (E : Prs) (i : Nat), Flip E (E.mapIdx fun j q => if c (i + j) = true then q else (q.2, q.1))
  | [], i => by rw [List.mapIdx_nil]; exact .nil
  | q :: E, i => by
    rw [List.mapIdx_cons]
    have ih := Flip.pick c E (i + 1)
    have e : (fun (j : Nat) (q : Int × Int) => if c (i + (j + 1)) = true then q else (q.2, q.1)) = fun j q => if c (i + 1 + j) = true then q else (q.2, q.1) := by
      funext j q
      rw [show i + (j + 1) = i + 1 + j by omega]
    show Flip (q :: E) ((if c (i + 0) = true then q else (q.2, q.1)) :: E.mapIdx fun j q => if c (i + (j + 1)) = true then q else (q.2, q.1))
    rw [e]
    by_cases z : c (i + 0) = true
    · rw [if_pos z]; exact .same q ih
    · rw [if_neg z]; exact .turn q ih
theorem Ren.nl {n : Nat} {f : Int → Int} {E F : Prs} (R : Ren n f E F) (h : ∀ a b, (a, b) ∈ E → a ≠ b) : ∀ a b, (a, b) ∈ F → a ≠ b := fun a b m z => by
  obtain ⟨e, me, he⟩ := R.two _ m
  obtain ⟨i1, i2⟩ := R.hE e.1 e.2 me
  rcases he with he | he
  · cases he
    exact h e.1 e.2 me (R.b.inj _ _ i1 i2 z)
  · cases he
    exact h e.1 e.2 me (R.b.inj _ _ i1 i2 z.symm)
theorem Ren.len {n : Nat} {f : Int → Int} {E F : Prs} (R : Ren n f E F) : F.length = E.length := by
  obtain ⟨D, d1, d2⟩ := R.ex
  rw [d2.len, d1.length_eq]
  unfold nam
  rw [List.length_map]
/-- one new row more -/
theorem Rows0.push {H0 : Hp} {D : Addr} {as : List Addr} {Hd : Hp} (R : Rows0 H0 D as (fun _ => []) Hd) {q : Addr} (nq : Hd q = none) : Rows0 H0 D (as ++ [q]) (fun _ => []) (upd (upd Hd q (.lst [])) D (.lst (as.map V.ref ++ [V.ref q]))) := by
  have nqD : q ≠ D := fun z => by rw [z, R.at_] at nq; cases nq
  have nqa : ∀ a ∈ as, q ≠ a := fun a m z => by
    obtain ⟨j, hj, e⟩ := List.getElem_of_mem m
    have := R.row j hj
    rw [e, ← z, nq] at this
    cases this
  have hq0 : H0 q = none := by
    cases c : H0 q with
    | none => rfl
    | some o => rw [R.sm _ _ c] at nq; cases nq
  refine ⟨?_, ?_, ?_, ?_, ?_, ?_⟩
  · rw [upd_same, List.map_append]; rfl
  · intro j hj
    by_cases c : j < as.length
    · rw [List.getElem_append_left c, upd_ne (fun z => R.nD (by rw [← z]; exact List.getElem_mem c)), upd_ne (fun z => nqa _ (List.getElem_mem c) z.symm)]
      exact R.row j c
    · have hj2 : j = as.length := by rw [List.length_append] at hj; have : j < as.length + 1 := hj; omega
      subst hj2
      rw [List.getElem_append_right (Nat.le_refl _)]
      simp only [Nat.sub_self, List.getElem_cons_zero]
      rw [upd_ne nqD, upd_same]
      rfl
  · refine List.nodup_append.mpr ⟨R.nd, by simp, fun a m b mb => ?_⟩
    rw [List.mem_singleton.mp mb]
    exact fun z => nqa a m z.symm
  · intro m
    rcases List.mem_append.mp m with m | m
    · exact R.nD m
    · exact nqD (List.mem_singleton.mp m).symm
  · refine ⟨R.nw.1, fun a m => ?_⟩
    rcases List.mem_append.mp m with m | m
    · exact R.nw.2 a m
    · rw [List.mem_singleton.mp m]; exact hq0
  · exact same_put (R.sm.trans (same_upd nq)) R.nw.1
end K03


set_option Elab.async false
set_option maxRecDepth 100000
set_option maxHeartbeats 4000000
set_option linter.all false
namespace K03
open PySem PySem.Spec PyProof.Rows L2 NetM
abbrev sWord : Stmt := top 47
abbrev N47 : List Str := ["net", "arms", "place", "tail", "head", "branch", "some", "other"]
theorem scWord : FnScope N47 ["net"] (defScope sWord) := ⟨rfl, rfl, rfl, by decide +kernel, rfl, by decide +kernel, by decide +kernel⟩
def spWord : Sp := fun vs H Q _ => ∃ (x ps : Addr) (n : Nat) (us : Zs), vs = [.ref x] ∧ LNet H x ps n us ∧ In n (nums us) ∧ us.length ≤ 12 ∧ n ≤ 8 ∧ (∀ a b, (a, b) ∈ nums us → a ≠ b) ∧
  ∀ H', Same H H' → Q (.str (wordS (wordN (nums us) n))) H'
/-- rows of numbers, told by where they stand -/
theorem dp_rows {K : PySem.W.Frag} {H : Hp} {B : Addr} {js : List Nat} {a : Nat → Addr} {g : Nat → List Int} (h : SqL K H B (js.map fun j => V.ref (a j))) (p : ∀ j ∈ js, H (a j) = some (.lst ((g j).map V.int))) : Dp K H (.ref B) (.list (js.map fun j => PyData.list ((g j).map PyData.int))) := by
  refine .lst h ?_
  clear h
  induction js with
  | nil => exact .nil
  | cons x r ih => exact .cons (dp_ints (SqL.of (p x (List.mem_cons_self ..)))) (ih fun z m => p z (List.mem_cons_of_mem _ m))
theorem shp_rows (js : List Nat) (g : Nat → List Int) : SeqAt.shaped (.list (js.map fun j => PyData.list ((g j).map PyData.int))) = true := by
  have h1 : PyData.canLayAll0 (js.map fun j => PyData.list ((g j).map PyData.int)) = true := by
    induction js with
    | nil => rfl
    | cons x r ih => simp [PyData.canLayAll0, PyData.canLay0, ih, lay_ints]
  have h2 : PyData.depthAll (js.map fun j => PyData.list ((g j).map PyData.int)) ≤ 2 := by
    clear h1
    induction js with
    | nil => simp [PyData.depthAll]
    | cons x r ih =>
      have := dep_ints (g x)
      simp [PyData.depthAll, PyData.depth]; omega
  simp [SeqAt.shaped, PyData.canLay0, h1, PyData.depth]
  omega
theorem eqv_rows (js : List Nat) (g : Nat → List Int) : PyData.eqv (.list (js.map fun j => PyData.list ((g j).map PyData.int))) (.list []) = decide (js = []) := by
  cases js with
  | nil => rfl
  | cons a l => rfl
section
variable {P : Program} {w : World} {K : PySem.W.Frag} {mg : Str → Option Value} {base : Heap}
theorem ok_word {f : Addr} {fd : FuncData} (F : Fun K "_law_word" "_law_word" sWord f fd) (mRa : mg "range" = none) (mLen : mg "len" = none) : FnOk P w K mg base CX0 1 f fd ["net"] spWord := by
  refine F.ok scWord (fun vs H Q E h => ?_) (fun cdv A outer s H vs Q E hr h => ?_)
  · obtain ⟨x, ps, n, us, rfl, _⟩ := h
    rfl
  · obtain ⟨x, ps, n, us, rfl, hN, hE, hul, hn, nl, k⟩ := h
    have nd := scWord.nd
    have hu := hu_of hr
    refine ⟨_, pss_cons (ps_set (i := 1) nd rfl (Or.inr rfl) (pe_lc (own := [("place", 2)]) (g := gName 2) (by rfl) nd (pi_range1 (by rfl) mRa (pa_cons (pe_dget hu (pv 0) pe_str (fun _ _ => rfl)) pa_nil)) (blkOk_by (own := [("place", 2)]) (N := N47) (sc := defScope sWord) (by decide +kernel)) (fun _ _ _ _ _ => pg_name (i := 2) nd rfl (by first | exact Or.inl rfl | exact Or.inr rfl)) (fun _ _ _ _ _ => pts_nil) (fun _ _ _ _ _ => pe_lst pa_nil)))
      (pss_cons (ps_for PassesOwn.never rfl (pi_seq (pe_dget hu (pv 0) pe_str (fun _ _ => rfl))) (pg_tup (by rfl) (pgs_cons (pg_name (i := 3) nd rfl (by first | exact Or.inl rfl | exact Or.inr rfl)) (pgs_cons (pg_name (i := 4) nd rfl (by first | exact Or.inl rfl | exact Or.inr rfl)) pgs_nil)))
        (pss_cons (ps_expr (pe_bm PySem.F.plainAttrs_list PySem.F.slot_list_append PySem.F.type_list_append mt_append (pe_ix ix_list (pv 1) (pv 3) (fun _ _ => rfl)) (pa_cons (pv 4) pa_nil)))
        (pss_one (ps_expr (pe_bm PySem.F.plainAttrs_list PySem.F.slot_list_append PySem.F.type_list_append mt_append (pe_ix ix_list (pv 1) (pv 4) (fun _ _ => rfl)) (pa_cons (pv 3) pa_nil))))))
      (pss_cons (ps_setLc (i := 5) (own := [("some", 6)]) (g := gName 6) (by rfl) nd rfl rfl (sw_true rfl rfl rfl (by decide +kernel)) (pi_list (pv 1)) (blkOk_by (own := [("some", 6)]) (N := N47) (sc := defScope sWord) (by decide +kernel)) (fun _ _ _ _ _ => pg_name (i := 6) nd rfl (by first | exact Or.inl rfl | exact Or.inr rfl)) (fun _ _ _ _ _ => pts_one (pt_cmpR op_gt (pe_callB (show CallR _ _ (fun xs H Q => ∃ p ys, xs = [V.ref p] ∧ (SqL K H p ys ∨ SqT K H p ys) ∧ Q (V.int (ys.length : Nat)) H) from call_len_seq) (by rfl) mLen PySem.boot_len (pa_cons (pv 6) pa_nil)) pe_int (nomark _))) (fun _ _ _ _ _ => pv 6))
      (pss_cons (ps_if (pt_cmpR (op_eqD hr.units) (pv 5) (pe_lst pa_nil) (nomark _)) (pss_one (ps_ret pe_str)) pss_nil)
      (pss_one (ps_ret (pe_ifExp (pt_cmpR op_gt (pe_callB call_len_seq (by rfl) mLen PySem.boot_len (pa_cons (pe_lc (own := [("other", 7)]) (g := gName 7) (by rfl) nd (pi_list (pe_ix ix_list (pv 5) pe_int (fun _ _ => rfl))) (blkOk_by (own := [("other", 7)]) (N := N47) (sc := defScope sWord) (by decide +kernel)) (fun _ _ _ _ _ => pg_name (i := 7) nd rfl (by first | exact Or.inl rfl | exact Or.inr rfl)) (fun _ _ _ _ _ => pts_one (pt_cmpR op_eq (pe_callB (show CallR _ _ (fun xs H Q => ∃ p ys, xs = [V.ref p] ∧ (SqL K H p ys ∨ SqT K H p ys) ∧ Q (V.int (ys.length : Nat)) H) from call_len_seq) (by rfl) mLen PySem.boot_len (pa_cons (pe_ix (show IxR _ (rIxL K) from ix_list) (pv 1) (pv 7) (fun _ _ => rfl)) pa_nil)) pe_int (nomark _))) (fun _ _ _ _ _ => pv 7)) pa_nil)) pe_int (nomark _)) pe_str pe_str)))))), ?_⟩
    refine ⟨_, rfl, x, _, rfl, DGet.k (k := Sum.inr "many") hN.e, n, rfl, by omega, by omega, fun D nD => ?_⟩
    rw [Int.toNat_natCast]
    refine lc_range (lo := 0) (n := n) (fun i Hd => ∃ as : List Addr, as.length = i ∧ Rows0 H D as (fun _ => []) Hd) ⟨[], rfl, ⟨upd_same, fun i h => absurd h (Nat.not_lt_zero _), List.nodup_nil, by simp, ⟨nD, fun a m => by cases m⟩, same_upd nD⟩⟩ ?_ ?_
    · rintro i Hd hi ⟨as, hl, R⟩
      refine ⟨rfl, ?_⟩
      dsimp only [tYes]
      refine iteT ?_
      refine ⟨Nat.zero_le _, fun q nq => ?_⟩
      exact ⟨_, same_upd nq _ _ R.at_, small_2000 (by rw [List.length_map]; omega), as ++ [q], by rw [List.length_append, hl]; rfl, R.push nq⟩
    rintro Hd ⟨as, hl, R⟩
    refine ⟨_, rfl, x, _, rfl, DGet.k (k := Sum.inr "pairs") (R.sm _ _ hN.e), ps, rf us, rfl, .inl (SqL.of (R.sm _ _ hN.et)), fun J hJ => ?_⟩
    refine for_seq hJ (fun j σ Hx => ∃ (v3 v4 : Option V) (g : Nat → List Int), σ = [some (.ref x), some (.ref D), none, v3, v4, none, none, none] ∧ Rows0 H D as g Hx ∧ (∀ i : Nat, g i = nearL ((nums us).take j) i)) ⟨none, none, _, rfl, R, fun i => rfl⟩ (fun j σ Hx _ hh => by obtain ⟨_, _, _, _, Rx, _⟩ := hh; exact stay_lst (R.sm _ _ hN.et) (Rx.sm _ _ hN.et)) ?_ ?_
    · rintro j y σ Hx hj ⟨v3, v4, g, rfl, Rx, hg⟩
      obtain ⟨⟨z, z1, z2⟩, hz, rfl⟩ := rf_inv hj
      have mz := List.mem_of_getElem? hz
      have mn : (z1, z2) ∈ nums us := List.mem_of_getElem? (nums_get hz)
      obtain ⟨i1, i2⟩ := hE z1 z2 mn
      have ne := nl z1 z2 mn
      have htk : (nums us).take (j + 1) = (nums us).take j ++ [(z1, z2)] := by rw [List.take_add_one, nums_get hz]; rfl
      obtain ⟨a1, rfl⟩ : ∃ k : Nat, z1 = k := ⟨z1.toNat, by have := i1.1; omega⟩
      obtain ⟨a2, rfl⟩ : ∃ k : Nat, z2 = k := ⟨z2.toNat, by have := i2.1; omega⟩
      have h1 : a1 < as.length := by have := i1.2; omega
      have h2 : a2 < as.length := by have := i2.2; omega
      have hne : a2 ≠ a1 := fun z => ne (by rw [z])
      refine ⟨z, [.int a1, .int a2], rfl, SqT.of (Rx.sm _ _ (hN.p _ mz)), rfl, .int a1, [.int a2], rfl, .int a2, [], rfl, rfl, ?_⟩
      have hgl : ∀ i, (g i).length ≤ 24 := fun i => by
        rw [hg i]
        have := nearL_len ((nums us).take j) i
        have h3 : ((nums us).take j).length ≤ 12 := by rw [List.length_take]; exact Nat.le_trans (Nat.min_le_right _ _) (by unfold nums; rw [List.length_map]; exact hul)
        omega
      have eg1 := Rx.row a1 h1
      refine ⟨_, rfl, _, rfl, D, _, (a1 : Int), .ref as[a1], rfl, rfl, SqL.of Rx.at_, atI_nat (by rw [List.getElem?_map, List.getElem?_eq_getElem h1]; rfl), .inl ⟨rfl, _, SqL.of eg1⟩, _, rfl, as[a1], _, _, rfl, rfl, eg1, small_2000 (by rw [List.length_map]; have := hgl a1; omega), ?_⟩
      have R1 := Rx.put h1 (g a1 ++ [(a2 : Int)])
      rw [List.map_append] at R1
      have eg2 := R1.row a2 h2
      rw [if_neg hne] at eg2
      refine ⟨_, rfl, _, rfl, D, _, (a2 : Int), .ref as[a2], rfl, rfl, SqL.of R1.at_, atI_nat (by rw [List.getElem?_map, List.getElem?_eq_getElem h2]; rfl), .inl ⟨rfl, _, SqL.of eg2⟩, _, rfl, as[a2], _, _, rfl, rfl, eg2, small_2000 (by rw [List.length_map]; have := hgl a2; omega), ?_⟩
      have R2 := R1.put h2 (g a2 ++ [(a1 : Int)])
      rw [List.map_append] at R2
      refine ⟨_, _, _, rfl, R2, fun i => ?_⟩
      · rw [htk]
        unfold nearL
        rw [List.flatMap_append, List.flatMap_cons, List.flatMap_nil, List.append_nil]
        have hgi := hg i
        unfold nearL at hgi
        rw [← hgi]
        unfold near1
        have c1 : ((a1 : Int) = (i : Int)) ↔ i = a1 := ⟨fun z => by omega, fun z => by rw [z]⟩
        have c2 : ((a2 : Int) = (i : Int)) ↔ i = a2 := ⟨fun z => by omega, fun z => by rw [z]⟩
        by_cases d2 : i = a2
        · rw [if_pos d2, if_pos (c2.mpr d2), if_neg (fun z => hne (d2.symm.trans (c1.mp z))), List.nil_append, d2]
        · rw [if_neg d2, if_neg (fun z => d2 (c2.mp z)), List.append_nil]
          by_cases d1 : i = a1
          · rw [if_pos d1, if_pos (c1.mpr d1), d1]
          · rw [if_neg d1, if_neg (fun z => d1 (c1.mp z)), List.append_nil]
    rintro σ Hx ⟨v3, v4, g, rfl, Rx, hg⟩
    have hln : (rf us).length = (nums us).length := by unfold rf nums; rw [List.length_map, List.length_map]
    rw [hln, List.take_length] at hg
    have hgn : ∀ j : Nat, (g j).length = dg (nums us) j := fun j => by rw [hg j]; rfl
    have row_ : ∀ j, j < n → Hx (as.getD j 0) = some (.lst ((g j).map V.int)) := fun j hj => by
      have := Rx.row j (by omega)
      rw [List.getD_eq_getElem?_getD, List.getElem?_eq_getElem (by omega)]
      exact this
    refine ⟨_, rfl, D, rfl, ⟨_, SqL.of Rx.at_⟩, fun B nB => ?_⟩
    refine lc_list (K := K) (a := D) (xs := as.map V.ref) (fun i Hb => Same Hx Hb ∧ Hb B = some (.lst (((List.range i).filter fun (j : Nat) => decide (2 < dg (nums us) j)).map fun j => V.ref (as.getD j 0)))) ⟨same_upd nB, upd_same⟩ (fun i Hb _ hp => hp.1.seq (SqL.of Rx.at_)) ?_ ?_
    · rintro i y Hb hi ⟨sb, eB⟩
      have hil : i < as.length := by have := (List.getElem?_eq_some_iff.mp hi).1; rw [List.length_map] at this; exact this
      obtain rfl : V.ref (as.getD i 0) = y := by
        rw [List.getElem?_map, List.getElem?_eq_getElem hil] at hi
        rw [List.getD_eq_getElem?_getD, List.getElem?_eq_getElem hil]
        exact Option.some.inj hi
      refine ⟨rfl, _, rfl, as.getD i 0, _, rfl, .inl (SqL.of (sb _ _ (row_ i (by omega)))), _, _, rfl, rfl, _, rfl, ?_⟩
      rw [List.length_map, hgn]
      rw [List.range_succ, List.filter_append, List.map_append]
      by_cases c : 2 < dg (nums us) i
      · refine iteTb (decide_eq_true (by omega)) ?_
        refine ⟨_, rfl, _, eB, small_2000 (by rw [List.length_map]; have := List.length_filter_le (fun (j : Nat) => decide (2 < dg (nums us) j)) (List.range i); rw [List.length_range] at this; omega), same_put sb nB, ?_⟩
        rw [upd_same, List.filter_cons, if_pos (decide_eq_true c)]
        rfl
      · refine iteFb (decide_eq_false (by omega)) ?_
        rw [List.filter_cons, if_neg (by simpa using c), List.filter_nil, List.map_nil, List.append_nil]
        exact ⟨sb, eB⟩
    rintro Hb ⟨sb, eB⟩
    rw [List.length_map, hl] at eB
    refine ⟨_, rfl, by show 0 ≤ sizeLine; decide, fun e ne => ?_⟩
    have se := same_upd (o := .lst []) ne
    have eE : (upd Hb e (.lst [])) e = some (.lst []) := upd_same
    generalize upd Hb e (.lst []) = He at se eE
    have sxe := sb.trans se
    have eBe := se _ _ eB
    have mbr : ∀ j ∈ brs (nums us) n, j < n ∧ 2 < dg (nums us) j := fun j m => by
      unfold brs at m
      obtain ⟨m1, m2⟩ := List.mem_filter.mp m
      exact ⟨List.mem_range.mp m1, of_decide_eq_true m2⟩
    refine ⟨_, _, dp_rows (a := fun j => as.getD j 0) (g := g) (SqL.of eBe) (fun j m => sxe _ _ (row_ j (mbr j m).1)), .lst (SqL.of eE) .nil, shp_rows _ g, rfl, _, rfl, ?_⟩
    have s0 : Same H He := Rx.sm.trans sxe
    cases eb : brs (nums us) n with
    | nil =>
      have eb2 : (List.range n).filter (fun (j : Nat) => decide (2 < dg (nums us) j)) = [] := eb
      rw [eb2]
      refine iteTb rfl ?_
      have := k He s0
      unfold wordN at this
      rw [eb] at this
      exact this
    | cons j js =>
      have eb2 : (List.range n).filter (fun (j : Nat) => decide (2 < dg (nums us) j)) = j :: js := eb
      rw [eb2] at eBe ⊢
      refine iteFb (by rw [eqv_rows]; rfl) ?_
      obtain ⟨hj, hdj⟩ := mbr j (by rw [eb]; exact List.mem_cons_self ..)
      refine ⟨_, rfl, B, _, 0, .ref (as.getD j 0), rfl, rfl, SqL.of eBe, atI_nat (j := 0) rfl, as.getD j 0, rfl, ⟨_, SqL.of (sxe _ _ (row_ j hj))⟩, fun C nC => ?_⟩
      refine lc_list (K := K) (a := as.getD j 0) (xs := (g j).map V.int) (fun i Hc => Same He Hc ∧ Hc C = some (.lst ((((g j).take i).filter fun y => decide (dg (nums us) y = 1)).map V.int))) ⟨same_upd nC, upd_same⟩ (fun i Hc _ hp => hp.1.seq (SqL.of (sxe _ _ (row_ j hj)))) ?_ ?_
      · rintro i y Hc hi ⟨sc, eC⟩
        obtain ⟨y0, hy0, rfl⟩ := int_at hi
        have hin : InR n y0 := nearL_in hE j y0 (by rw [← hg j]; exact List.mem_of_getElem? hy0)
        obtain ⟨y1, rfl⟩ : ∃ k : Nat, y0 = k := ⟨y0.toNat, by have := hin.1; omega⟩
        have hy1 : y1 < n := by have := hin.2; omega
        refine ⟨rfl, _, rfl, _, rfl, D, _, (y1 : Int), .ref (as.getD y1 0), rfl, rfl, SqL.of (sc _ _ (sxe _ _ Rx.at_)), atI_nat (by rw [List.getElem?_map, List.getElem?_eq_getElem (by omega), List.getD_eq_getElem?_getD, List.getElem?_eq_getElem (by omega)]; rfl), as.getD y1 0, _, rfl, .inl (SqL.of (sc _ _ (sxe _ _ (row_ y1 hy1)))), rfl, _, rfl, ?_⟩
        rw [List.length_map, hgn]
        rw [List.take_add_one, hy0, List.filter_append, List.map_append]
        by_cases c : dg (nums us) y1 = 1
        · refine iteTb (decide_eq_true (by rw [c]; rfl)) ?_
          have hlt : (((g j).take i).filter fun y => decide (dg (nums us) y = 1)).length < 2000 := by
            have h1 := List.length_filter_le (fun y => decide (dg (nums us) y = 1)) ((g j).take i)
            have h2 : ((g j).take i).length ≤ (g j).length := by rw [List.length_take]; exact Nat.min_le_right _ _
            have h3 : (g j).length = (nearL (nums us) j).length := hgn j
            have h4 := nearL_len (nums us) j
            have h5 : (nums us).length = us.length := by unfold nums; rw [List.length_map]
            omega
          refine ⟨_, rfl, _, eC, small_2000 (by rw [List.length_map]; omega), same_put sc nC, ?_⟩
          rw [upd_same]
          show _ = some (HO.lst (_ ++ ((List.filter _ [(y1 : Int)]).map V.int)))
          rw [List.filter_cons, if_pos (decide_eq_true c)]
          rfl
        · refine iteFb (decide_eq_false (fun q => c (by have := V.int.inj q; omega))) ?_
          show Same He Hc ∧ Hc C = some (HO.lst (_ ++ ((List.filter _ [(y1 : Int)]).map V.int)))
          rw [List.filter_cons, if_neg (by simpa using c), List.filter_nil, List.map_nil, List.append_nil]
          exact ⟨sc, eC⟩
      rintro Hc ⟨sc, eC⟩
      rw [List.length_map, List.take_length] at eC
      have hlf : ((g j).filter fun y => decide (dg (nums us) y = 1)).length = lf (nums us) j := by rw [hg j]; rfl
      refine ⟨C, _, rfl, .inl (SqL.of eC), _, _, rfl, rfl, _, rfl, ?_⟩
      rw [List.length_map, hlf]
      have fin := k Hc (s0.trans sc)
      unfold wordN at fin
      rw [eb] at fin
      dsimp only at fin
      by_cases c : 1 < lf (nums us) j
      · refine iteTb (decide_eq_true (by omega)) ?_
        rw [if_pos c] at fin
        exact fin
      · refine iteFb (decide_eq_false (by omega)) ?_
        rw [if_neg c] at fin
        exact fin
end
end K03


set_option Elab.async false
set_option maxRecDepth 100000
set_option maxHeartbeats 4000000
set_option linter.all false
namespace K03
open PySem PySem.Spec PyProof.Rows L2 NetM
abbrev sLNet : Stmt := top 39
abbrev N39 : List Str := ["draw", "most", "many_here", "pairs_here", "names_here", "found", "one", "two", "pair"]
theorem scLNet : FnScope N39 ["draw", "most"] (defScope sLNet) := ⟨rfl, rfl, rfl, by decide +kernel, rfl, by decide +kernel, by decide +kernel⟩
theorem rgV_rng (n : Nat) : rgV 0 (n : Int) = (rng n).map V.int := by
  unfold rgV rng
  rw [Int.sub_zero, Int.toNat_natCast, List.map_map]
  refine List.map_congr_left fun j _ => ?_
  show V.int (0 + (j : Int)) = V.int j
  rw [Int.zero_add]
def spLNet : Sp := fun vs H Q _ => ∃ (d lg cl : Addr), vs = [.ref d, .int 8] ∧ DrawAt H d lg cl ∧
  ∀ (x ps : Addr) (n w : Nat) (us : Zs) (f : Int → Int) (H' : Hp), 0 < n → n ≤ 8 → w < 3 → LNet H' x ps n us → ps ≠ lg → Ren n f (goodP n w) (nums us) → DrawAt H' d lg cl → Kept d lg H H' → Q (.ref x) H'
theorem flip_snoc {E F : Prs} (h : Flip E F) (q : Int × Int) : Flip (E ++ [q]) (F ++ [q]) := h.app (.same q .nil)
theorem flip_turn {E F : Prs} (h : Flip E F) (q : Int × Int) : Flip (E ++ [q]) (F ++ [(q.2, q.1)]) := h.app (.turn q .nil)
theorem nums_app (us : Zs) (z : Addr × Int × Int) : nums (us ++ [z]) = nums us ++ [z.2] := by unfold nums; rw [List.map_append]; rfl
theorem nam_app (f : Int → Int) (E F : Prs) : nam f (E ++ F) = nam f E ++ nam f F := List.map_append
theorem row_at {ys : List Int} {k : Nat} (h : k < ys.length) : (ys.map V.int)[k]? = some (.int (rowF ys k)) := by
  rw [List.getElem?_map, List.getElem?_eq_getElem h, rowF_nat, List.getD_eq_getElem?_getD, List.getElem?_eq_getElem h]
  rfl
section
variable {P : Program} {w : World} {K : PySem.W.Frag} {mg : Str → Option Value} {base : Heap}
theorem ok_lnet {f fT fS fU : Addr} {fd fdT dS dU : FuncData} (F : Fun K "_law_net" "_law_net" sLNet f fd) (GT : FnOk P w K mg base CX0 2 fT fdT ["draw", "amount"] spTake) (bT : L2.Binds K fdT ["draw", "amount"] []) (gT : mg "_law_take" = some (.ref fT)) (kT : PySem.W.keepIn K (.ref fT) = true)
    (GS : FnOk P w K mg base CX0 3 fS dS ["draw", "most"] spShPairs) (bS : L2.Binds K dS ["draw", "most"] []) (gS : mg "_law_shape_pairs" = some (.ref fS)) (kS : PySem.W.keepIn K (.ref fS) = true)
    (GU : FnOk P w K mg base CX0 3 fU dU ["draw", "some"] (spShuf K)) (GI : FnOk P w K mg base CX0 3 fU dU ["draw", "some"] (spShufI K)) (bU : L2.Binds K dU ["draw", "some"] []) (gU : mg "_law_shuffled" = some (.ref fU)) (kU : PySem.W.keepIn K (.ref fU) = true)
    (mRa : mg "range" = none) (mLi : mg "list" = none) : FnOk P w K mg base CX0 4 f fd ["draw", "most"] spLNet := by
  refine F.ok scLNet (fun vs H Q E h => ?_) (fun cdv A outer s H vs Q E hr h => ?_)
  · obtain ⟨d, lg, cl, rfl, _⟩ := h
    rfl
  · obtain ⟨d, lg, cl, rfl, DR, k⟩ := h
    have nd := scLNet.nd
    have r3 : Room 3 _ := hr.mono (by decide)
    have r2 : Room 2 _ := hr.mono (by decide)
    refine ⟨_, pss_cons (ps_asg (pe_call GS r3 (by rfl) gS kS bS .nil pass0 (pa_cons (pv 0) (pa_cons (pv 1) pa_nil))) (pg_tup (by rfl) (pgs_cons (pg_name (i := 2) nd rfl (by first | exact Or.inl rfl | exact Or.inr rfl)) (pgs_cons (pg_name (i := 3) nd rfl (by first | exact Or.inl rfl | exact Or.inr rfl)) pgs_nil))))
      (pss_cons (ps_par (i := 4) (j := 5) (by rfl) nd rfl rfl (by decide) rfl rfl (pa_cons (pe_call GI r3 (by rfl) gU kU bU .nil pass0 (pa_cons (pv 0) (pa_cons (pe_listRg (by rfl) (by rfl) mLi (prg_1 (by rfl) mRa (pv 2))) pa_nil))) (pa_cons (pe_lst pa_nil) pa_nil)) (by rfl))
      (pss_cons (ps_for PassesOwn.never rfl (pi_seq (pe_call GU r3 (by rfl) gU kU bU .nil pass0 (pa_cons (pv 0) (pa_cons (pv 3) pa_nil)))) (pg_tup (by rfl) (pgs_cons (pg_name (i := 6) nd rfl (by first | exact Or.inl rfl | exact Or.inr rfl)) (pgs_cons (pg_name (i := 7) nd rfl (by first | exact Or.inl rfl | exact Or.inr rfl)) pgs_nil)))
        (pss_cons (ps_set (i := 8) nd rfl (by first | exact Or.inl rfl | exact Or.inr rfl) (pe_tup (pa_cons (pe_ix ix_list (pv 4) (pv 6) (fun _ _ => rfl)) (pa_cons (pe_ix ix_list (pv 4) (pv 7) (fun _ _ => rfl)) pa_nil))))
        (pss_one (ps_expr (pe_bm PySem.F.plainAttrs_list PySem.F.slot_list_append PySem.F.type_list_append mt_append (pv 5) (pa_cons (pe_ifExp (pt_cmpR op_eq (pe_call GT r2 (by rfl) gT kT bT .nil pass0 (pa_cons (pv 0) (pa_cons pe_int pa_nil))) pe_int (nomark _)) (pv 8) (pe_revP (pv 8))) pa_nil))))))
      (pss_one (ps_ret (pe_disp (pps_cons pe_str (pv 2) (pps_cons pe_str (pv 5) pps_nil)) (by rfl) (by rfl) (fun z => by cases z) (by decide)))))), ?_⟩
    refine ⟨_, rfl, _, rfl, d, lg, cl, rfl, DR, fun T D n w us H1 n0 n8 w3 eT eD nDl pU hU D1 k1 => ?_⟩
    refine ⟨T, [.int n, .ref D], rfl, SqT.of eT, rfl, .int n, [.ref D], rfl, .ref D, [], rfl, rfl, ?_⟩
    have hfL : (goodP n w).length ≤ 7 := by
      have := (good_of n0 n8 w3).2.2.1
      omega
    obtain ⟨⟨hEg, _⟩, _⟩ := good_of n0 n8 w3
    refine ⟨_, rfl, _, rfl, n, rfl, RgOk.of_le (by omega) (by omega) (by omega) (by omega), fun q nq => ?_⟩
    rw [rgV_rng]
    have sq := same_upd (o := .lst ((rng n).map V.int)) nq
    have eq_ : (upd H1 q (.lst ((rng n).map V.int))) q = some (.lst ((rng n).map V.int)) := upd_same
    have Dq := draw_same sq D1
    have eDq := sq _ _ eD
    have pq := pU.same sq
    have kq : Kept d lg H (upd H1 q (.lst ((rng n).map V.int))) := k1.trans (fun b o h _ _ => sq b o h)
    generalize upd H1 q (.lst ((rng n).map V.int)) = H2 at sq eq_ Dq eDq pq kq
    refine ⟨d, lg, cl, q, rng n, rfl, Dq, SqL.of eq_, by rw [rng_len]; omega, fun ys NA H3 hys D3 k3 nNA eNA => ?_⟩
    have nNl : NA ≠ lg := (draw_new Dq nNA).2.1
    have nNd : NA ≠ d := (draw_new Dq nNA).1
    have eD3 : H3 D = some (.lst (rf us)) := k3 _ _ eDq (fun z => by obtain ⟨⟨r, t, hd⟩, _⟩ := Dq; rw [z, hd] at eDq; cases eDq) nDl
    have p3 := pq.kept Dq k3
    have k03 := kq.trans k3
    refine ⟨by show 0 ≤ sizeLine; decide, fun Fo nF => ⟨_, _, rfl, ?_⟩⟩
    have sF := same_upd (o := .lst []) nF
    have eF : (upd H3 Fo (.lst [])) Fo = some (.lst []) := upd_same
    have D4 := draw_same sF D3
    have eD4 := sF _ _ eD3
    have p4 := p3.same sF
    have eN4 := sF _ _ eNA
    have nF0 : H Fo = none := kept_none k03 (draw_new D3 nF).1 (draw_new D3 nF).2.1 nF
    have nFl : Fo ≠ lg := (draw_new D3 nF).2.1
    have nFd : Fo ≠ d := (draw_new D3 nF).1
    have nFN : Fo ≠ NA := fun z => by rw [z, eNA] at nF; cases nF
    have k04 : Kept d lg H (upd H3 Fo (.lst [])) := k03.trans (fun b o h _ _ => sF b o h)
    generalize upd H3 Fo (.lst []) = H4 at sF eF D4 eD4 p4 eN4 k04
    have hul : us.length ≤ 7 := by
      have := congrArg List.length hU
      unfold nums at this
      rw [List.length_map] at this
      omega
    refine ⟨_, rfl, _, rfl, d, lg, cl, D, us, rfl, D4, SqL.of eD4, p4, by omega, fun us2 A2 H5 hp2 D5 k5 nA2 eA2 => ?_⟩
    have eF5 := k5 _ _ eF nFd nFl
    have eN5 := k5 _ _ eN4 nNd nNl
    have p5 : PL H5 us2 := fun z m => (p4.kept D4 k5) z (hp2.mem_iff.mp m)
    have k05 := k04.trans k5
    have hu2 : (nums us2).Perm (goodP n w) := by
      have := hp2.map (fun z : Addr × Int × Int => z.2)
      unfold nums at hU ⊢
      rw [← hU]
      exact this
    have hE2 : NetM.In n (nums us2) := fun t h m => hEg t h (hu2.mem_iff.mp m)
    have hl2 : us2.length ≤ 7 := by rw [hp2.length_eq]; exact hul
    have bf := bij_of hys
    have hyl : ys.length = n := by rw [hys.length_eq, rng_len]
    refine ⟨A2, rf us2, rfl, .inl (SqL.of eA2), fun J hJ => ?_⟩
    refine for_seq hJ (fun j σ Hx => ∃ (v6 v7 v8 : Option V) (vs : Zs), σ = [some (.ref d), some (.int 8), some (.int n), some (.ref D), some (.ref NA), some (.ref Fo), v6, v7, v8] ∧ Hx Fo = some (.lst (rf vs)) ∧ PL Hx vs ∧ Flip (nam (rowF ys) ((nums us2).take j)) (nums vs) ∧ DrawAt Hx d lg cl ∧ Kept d lg H Hx ∧ Hx A2 = some (.lst (rf us2)) ∧ PL Hx us2 ∧ Hx NA = some (.lst (ys.map V.int)))
      ⟨none, none, none, [], rfl, eF5, (fun z m => by cases m), .nil, D5, k05, eA2, p5, eN5⟩ (fun j σ Hx _ hh => by obtain ⟨_, _, _, _, _, _, _, _, _, _, e, _⟩ := hh; exact stay_lst eA2 e) ?_ ?_
    · rintro j y σ Hx hj ⟨v6, v7, v8, vs, rfl, eFx, pvx, hfx, Dx, kx, eAx, pux, eNx⟩
      obtain ⟨⟨z, z1, z2⟩, hz, rfl⟩ := rf_inv hj
      have mz := List.mem_of_getElem? hz
      have mn : (z1, z2) ∈ nums us2 := List.mem_of_getElem? (nums_get hz)
      obtain ⟨i1, i2⟩ := hE2 z1 z2 mn
      have htk : (nums us2).take (j + 1) = (nums us2).take j ++ [(z1, z2)] := by rw [List.take_add_one, nums_get hz]; rfl
      obtain ⟨a1, rfl⟩ : ∃ k : Nat, z1 = k := ⟨z1.toNat, by have := i1.1; omega⟩
      obtain ⟨a2, rfl⟩ : ∃ k : Nat, z2 = k := ⟨z2.toNat, by have := i2.1; omega⟩
      have h1 : a1 < ys.length := by have := i1.2; omega
      have h2 : a2 < ys.length := by have := i2.2; omega
      refine ⟨z, [.int a1, .int a2], rfl, SqT.of (pux _ mz), rfl, .int a1, [.int a2], rfl, .int a2, [], rfl, rfl, ?_⟩
      refine ⟨_, rfl, _, rfl, NA, _, (a1 : Int), _, rfl, rfl, SqL.of eNx, atI_nat (row_at h1), _, rfl, _, rfl, NA, _, (a2 : Int), _, rfl, rfl, SqL.of eNx, atI_nat (row_at h2), by show 2 ≤ sizeLine; decide, fun T nT => ?_⟩
      have sT := same_upd (o := .tup [.int (rowF ys a1), .int (rowF ys a2)]) nT
      have eT : (upd Hx T (.tup [.int (rowF ys a1), .int (rowF ys a2)])) T = some (.tup [.int (rowF ys a1), .int (rowF ys a2)]) := upd_same
      have DT := draw_same sT Dx
      have eFT := sT _ _ eFx
      have pvT := pvx.same sT
      have kT' : Kept d lg H (upd Hx T (.tup [.int (rowF ys a1), .int (rowF ys a2)])) := kx.trans (fun b o h _ _ => sT b o h)
      have eAT := sT _ _ eAx
      have puT := pux.same sT
      have eNT := sT _ _ eNx
      generalize upd Hx T (.tup [.int (rowF ys a1), .int (rowF ys a2)]) = H6 at sT eT DT eFT pvT kT' eAT puT eNT
      refine ⟨_, rfl, .inl ⟨rfl, _, SqL.of eFT⟩, _, rfl, d, lg, cl, 2, rfl, DT, by decide, by decide, fun b H7 b0 b1 D7 k7 => ?_⟩
      have eF7 := k7 _ _ eFT nFd nFl
      have eA7 : H7 A2 = some (.lst (rf us2)) := k7 _ _ eAT (draw_new D4 nA2).1 (draw_new D4 nA2).2.1
      have eN7 := k7 _ _ eNT nNd nNl
      have pv7 := pvT.kept DT k7
      have pu7 := puT.kept DT k7
      have k07 := kT'.trans k7
      have eT7 : H7 T = some (.tup [.int (rowF ys a1), .int (rowF ys a2)]) := k7 _ _ eT (fun z => by obtain ⟨⟨r, t, hd⟩, _⟩ := DT; rw [z, hd] at eT; cases eT) (fun z => by obtain ⟨_, ⟨L, _, hl⟩, _⟩ := DT; rw [z, hl] at eT; cases eT)
      have nAF : A2 ≠ Fo := fun z => by rw [z] at nA2; rw [eF] at nA2; cases nA2
      have nNF : NA ≠ Fo := fun z => nFN z.symm
      have hvl : vs.length = min j us2.length := by
        have := hfx.len
        unfold nam nums at this
        rw [List.length_map, List.length_map, List.length_take, List.length_map] at this
        exact this
      have hsm : (rf vs).length < sizeLine := small_2000 (by rw [rf_len]; omega)
      refine ⟨rfl, _, rfl, ?_⟩
      have fin : ∀ (T2 : Addr) (x y : Int) (H8 : Hp), Same H7 H8 → H8 T2 = some (.tup [.int x, .int y]) → Flip [(rowF ys a1, rowF ys a2)] [(x, y)] → ∃ (v6 v7 v8 : Option V) (ws : Zs), [some (V.ref d), some (V.int 8), some (V.int n), some (V.ref D), some (V.ref NA), some (V.ref Fo), some (V.int a1), some (V.int a2), some (V.ref T)] = [some (.ref d), some (.int 8), some (.int n), some (.ref D), some (.ref NA), some (.ref Fo), v6, v7, v8] ∧ (upd H8 Fo (.lst (rf vs ++ [.ref T2]))) Fo = some (.lst (rf ws)) ∧ PL (upd H8 Fo (.lst (rf vs ++ [.ref T2]))) ws ∧ Flip (nam (rowF ys) ((nums us2).take (j + 1))) (nums ws) ∧ DrawAt (upd H8 Fo (.lst (rf vs ++ [.ref T2]))) d lg cl ∧ Kept d lg H (upd H8 Fo (.lst (rf vs ++ [.ref T2]))) ∧ (upd H8 Fo (.lst (rf vs ++ [.ref T2]))) A2 = some (.lst (rf us2)) ∧ PL (upd H8 Fo (.lst (rf vs ++ [.ref T2]))) us2 ∧ (upd H8 Fo (.lst (rf vs ++ [.ref T2]))) NA = some (.lst (ys.map V.int)) := fun T2 x y H8 s8 e8 hxy => by
        refine ⟨_, _, _, vs ++ [(T2, x, y)], rfl, by rw [upd_same, rf_app], ((pv7.same s8).app e8).put (s8 _ _ eF7), ?_, draw_put nFd nFl (draw_new D3 nF).2.2 (draw_same s8 D7), kept_put nF0 (k07.trans (fun b o h _ _ => s8 b o h)), by rw [upd_ne nAF]; exact s8 _ _ eA7, (pu7.same s8).put (s8 _ _ eF7), by rw [upd_ne nNF]; exact s8 _ _ eN7⟩
        rw [htk, nam_app, nums_app]
        exact hfx.app hxy
      by_cases c : b = 0
      · refine iteTb (decide_eq_true (by rw [c])) ?_
        exact ⟨_, rfl, Fo, _, _, rfl, rfl, eF7, hsm, fin T _ _ H7 (Same.refl _) eT7 (.same _ .nil)⟩
      · refine iteFb (decide_eq_false (fun q => c (V.int.inj q))) ?_
        refine ⟨_, rfl, T, _, _, rfl, SqT.of eT7, fun T2 nT2 => ?_⟩
        have s8 := same_upd (o := .tup [.int (rowF ys a2), .int (rowF ys a1)]) nT2
        exact ⟨Fo, _, _, rfl, rfl, s8 _ _ eF7, hsm, fin T2 _ _ _ s8 upd_same (.turn _ .nil)⟩
    · rintro σ Hx ⟨v6, v7, v8, vs, rfl, eFx, pvx, hfx, Dx, kx, eAx, pux, eNx⟩
      have hln : (rf us2).length = (nums us2).length := by unfold rf nums; rw [List.length_map, List.length_map]
      rw [hln, List.take_length] at hfx
      refine fun x nx => ⟨_, rfl, _, rfl, upd_same, netL n Fo, rfl, (by show 2 ≤ 15; decide), ?_⟩
      have xF : Fo ≠ x := fun z => by rw [z, nx] at eFx; cases eFx
      have sx : Same Hx (upd (upd Hx x (.dK [])) x (.dK (netL n Fo))) := fun b o h => by
        have nb : b ≠ x := fun z => by rw [z, nx] at h; cases h
        rw [upd_ne nb, upd_ne nb]
        exact h
      have R : Ren n (rowF ys) (goodP n w) (nums vs) := ⟨bf, hEg, _, hu2.map (fun q : Int × Int => (rowF ys q.1, rowF ys q.2)), hfx⟩
      exact k x Fo n w vs (rowF ys) _ n0 n8 w3 ⟨upd_same, sx _ _ eFx, pvx.same sx⟩ nFl R (draw_same sx Dx) (kx.trans (fun b o h _ _ => sx b o h))
end
end K03


set_option Elab.async false
set_option maxRecDepth 100000
set_option maxHeartbeats 4000000
set_option linter.all false
namespace K03
open PySem PySem.Spec PyProof.Rows L2 NetM
abbrev sRound : Stmt := top 44
abbrev N44 : List Str := ["draw", "way", "many_here", "k", "middle", "pairs_here", "ends"]
theorem scRound : FnScope N44 ["draw"] (defScope sRound) := ⟨rfl, rfl, rfl, by decide +kernel, rfl, by decide +kernel, by decide +kernel⟩
def spRound : Sp := fun vs H Q _ => ∃ (d lg cl : Addr), vs = [.ref d] ∧ DrawAt H d lg cl ∧
  ∀ (q : Nat × Nat) (T D R : Addr) (us : Zs) (H' : Hp), q ∈ rdIx → H' T = some (.tup [.int (roundP q.1 q.2).1, .ref D, .ref R]) → H' D = some (.lst (rf us)) → D ≠ lg → PL H' us → nums us = (roundP q.1 q.2).2.1 → H' R = some (.tup ((roundP q.1 q.2).2.2.map V.int)) → DrawAt H' d lg cl → Kept d lg H H' → Q (.ref T) H'
section
variable {P : Program} {w : World} {K : PySem.W.Frag} {mg : Str → Option Value} {base : Heap}
theorem ok_round {f fT : Addr} {fd fdT : FuncData} (F : Fun K "_law_round_pairs" "_law_round_pairs" sRound f fd) (GT : FnOk P w K mg base CX0 2 fT fdT ["draw", "amount"] spTake) (bT : L2.Binds K fdT ["draw", "amount"] []) (gT : mg "_law_take" = some (.ref fT)) (kT : PySem.W.keepIn K (.ref fT) = true) (mRa : mg "range" = none) : FnOk P w K mg base CX0 3 f fd ["draw"] spRound := by
  refine F.ok scRound (fun vs H Q E h => ?_) (fun cdv A outer s H vs Q E hr h => ?_)
  · obtain ⟨d, lg, cl, rfl, _⟩ := h
    rfl
  · obtain ⟨d, lg, cl, rfl, DR, k⟩ := h
    have nd := scRound.nd
    refine ⟨_, (pss_cons (ps_set (i := 1) nd rfl (by first | exact Or.inl rfl | exact Or.inr rfl) (pe_call GT hr (by rfl) gT kT bT .nil pass0 (pa_cons (pv 0) (pa_cons pe_int pa_nil))))
      (pss_cons (ps_if (pt_cmpR op_eq (pv 1) pe_int (nomark _)) (pss_one (ps_ret (pe_tup (pa_cons pe_int (pa_cons (pe_lst (pa_cons (pe_tup (pa_cons pe_int (pa_cons pe_int pa_nil))) (pa_cons (pe_tup (pa_cons pe_int (pa_cons pe_int pa_nil))) pa_nil))) (pa_cons (pe_tup (pa_cons pe_int (pa_cons pe_int pa_nil))) pa_nil)))))) pss_nil)
      (pss_cons (ps_if (pt_cmpR op_eq (pv 1) pe_int (nomark _)) (pss_cons (ps_set (i := 2) nd rfl (by first | exact Or.inl rfl | exact Or.inr rfl) (pe_op op_add pe_int (pe_call GT hr (by rfl) gT kT bT .nil pass0 (pa_cons (pv 0) (pa_cons pe_int pa_nil))))) (pss_one (ps_ret (pe_tup (pa_cons (pv 2) (pa_cons (pe_lc (own := [("k", 3)]) (g := gName 3) (by rfl) nd (pi_range1 (by rfl) mRa (pa_cons (pv 2) pa_nil)) (blkOk_by (own := [("k", 3)]) (N := N44) (sc := defScope sRound) (by decide +kernel)) (fun _ _ _ _ _ => pg_name (i := 3) nd rfl (by first | exact Or.inl rfl | exact Or.inr rfl)) (fun _ _ _ _ _ => pts_nil) (fun _ _ _ _ _ => (pe_tup (pa_cons (pv 3) (pa_cons (pe_op op_mod (pe_op op_add (pv 3) pe_int) (pv 2)) pa_nil))))) (pa_cons (pe_op op_repA (pe_tup (pa_cons pe_int pa_nil)) (pv 2)) pa_nil))))))) pss_nil)
      (pss_cons (ps_if (pt_cmpR op_eq (pv 1) pe_int (nomark _)) (pss_cons (ps_set (i := 4) nd rfl (by first | exact Or.inl rfl | exact Or.inr rfl) (pe_op op_add pe_int (pe_call GT hr (by rfl) gT kT bT .nil pass0 (pa_cons (pv 0) (pa_cons pe_int pa_nil))))) (pss_cons (ps_setLc (i := 5) (own := [("k", 3)]) (g := gName 3) (by rfl) nd rfl rfl (sw_true rfl rfl rfl (by decide +kernel)) (pi_range1 (by rfl) mRa (pa_cons (pe_op op_sub (pv 4) pe_int) pa_nil)) (blkOk_by (own := [("k", 3)]) (N := N44) (sc := defScope sRound) (by decide +kernel)) (fun _ _ _ _ _ => pg_name (i := 3) nd rfl (by first | exact Or.inl rfl | exact Or.inr rfl)) (fun _ _ _ _ _ => pts_nil) (fun _ _ _ _ _ => (pe_tup (pa_cons (pv 3) (pa_cons (pe_op op_add (pv 3) pe_int) pa_nil))))) (pss_cons (ps_set (i := 6) nd rfl (by first | exact Or.inl rfl | exact Or.inr rfl) (pe_lst (pa_cons (pe_tup (pa_cons pe_int (pa_cons (pv 4) pa_nil))) (pa_cons (pe_tup (pa_cons pe_int (pa_cons (pe_op op_add (pv 4) pe_int) pa_nil))) (pa_cons (pe_tup (pa_cons (pe_op op_sub (pv 4) pe_int) (pa_cons (pe_op op_add (pv 4) pe_int) pa_nil))) (pa_cons (pe_tup (pa_cons (pe_op op_sub (pv 4) pe_int) (pa_cons (pe_op op_add (pv 4) pe_int) pa_nil))) pa_nil)))))) (pss_one (ps_ret (pe_tup (pa_cons (pe_op op_add (pv 4) pe_int) (pa_cons (pe_op op_cat (pv 5) (pv 6)) (pa_cons (pe_op op_catT (pe_op op_repA (pe_tup (pa_cons pe_int pa_nil)) (pv 4)) (pe_op op_repA (pe_tup (pa_cons pe_int pa_nil)) pe_int)) pa_nil))))))))) pss_nil)
      (pss_cons (ps_if (pt_cmpR op_eq (pv 1) pe_int (nomark _)) (pss_one (ps_ret (pe_tup (pa_cons pe_int (pa_cons (pe_lst (pa_cons (pe_tup (pa_cons pe_int (pa_cons pe_int pa_nil))) (pa_cons (pe_tup (pa_cons pe_int (pa_cons pe_int pa_nil))) (pa_cons (pe_tup (pa_cons pe_int (pa_cons pe_int pa_nil))) (pa_cons (pe_tup (pa_cons pe_int (pa_cons pe_int pa_nil))) (pa_cons (pe_tup (pa_cons pe_int (pa_cons pe_int pa_nil))) (pa_cons (pe_tup (pa_cons pe_int (pa_cons pe_int pa_nil))) pa_nil))))))) (pa_cons (pe_tup (pa_cons pe_int (pa_cons pe_int (pa_cons pe_int (pa_cons pe_int (pa_cons pe_int (pa_cons pe_int (pa_cons pe_int pa_nil)))))))) pa_nil)))))) pss_nil)
      (pss_cons (ps_if (pt_cmpR op_eq (pv 1) pe_int (nomark _)) (pss_cons (ps_set (i := 5) nd rfl (by first | exact Or.inl rfl | exact Or.inr rfl) (pe_lst (pa_cons (pe_tup (pa_cons pe_int (pa_cons pe_int pa_nil))) (pa_cons (pe_tup (pa_cons pe_int (pa_cons pe_int pa_nil))) (pa_cons (pe_tup (pa_cons pe_int (pa_cons pe_int pa_nil))) (pa_cons (pe_tup (pa_cons pe_int (pa_cons pe_int pa_nil))) (pa_cons (pe_tup (pa_cons pe_int (pa_cons pe_int pa_nil))) (pa_cons (pe_tup (pa_cons pe_int (pa_cons pe_int pa_nil))) (pa_cons (pe_tup (pa_cons pe_int (pa_cons pe_int pa_nil))) pa_nil))))))))) (pss_one (ps_ret (pe_tup (pa_cons pe_int (pa_cons (pv 5) (pa_cons (pe_tup (pa_cons pe_int (pa_cons pe_int (pa_cons pe_int (pa_cons pe_int (pa_cons pe_int (pa_cons pe_int (pa_cons pe_int (pa_cons pe_int pa_nil))))))))) pa_nil))))))) pss_nil)
      (pss_one (ps_ret (pe_tup (pa_cons pe_int (pa_cons (pe_lst (pa_cons (pe_tup (pa_cons pe_int (pa_cons pe_int pa_nil))) (pa_cons (pe_tup (pa_cons pe_int (pa_cons pe_int pa_nil))) (pa_cons (pe_tup (pa_cons pe_int (pa_cons pe_int pa_nil))) (pa_cons (pe_tup (pa_cons pe_int (pa_cons pe_int pa_nil))) pa_nil))))) (pa_cons (pe_tup (pa_cons pe_int (pa_cons pe_int (pa_cons pe_int (pa_cons pe_int (pa_cons pe_int pa_nil)))))) pa_nil)))))))))))), ?_⟩
    have fin : ∀ (q : Nat × Nat) (D R T : Addr) (us : Zs) (H4 : Hp) (v : V), q ∈ rdIx → v = .int (roundP q.1 q.2).1 → H4 D = some (.lst (rf us)) → D ≠ lg → PL H4 us → nums us = (roundP q.1 q.2).2.1 → H4 R = some (.tup ((roundP q.1 q.2).2.2.map V.int)) → DrawAt H4 d lg cl → Kept d lg H H4 → H4 T = none → Q (.ref T) (upd H4 T (.tup [v, .ref D, .ref R])) := fun q D R T us H4 v hq hv eD dl pu hu eR D4 k4 nT => by
      have sT := same_upd (o := .tup [v, .ref D, .ref R]) nT
      exact k q T D R us _ hq (by rw [upd_same, hv]) (sT _ _ eD) dl (pu.same sT) hu (sT _ _ eR) (draw_same sT D4) (k4.trans (fun b o h _ _ => sT b o h))
    refine ⟨_, rfl, d, lg, cl, 6, rfl, DR, by decide, by decide, fun w0 H1 w1 w2 D1 k1 => ?_⟩
    obtain ⟨wn, rfl⟩ : ∃ m : Nat, w0 = m := ⟨w0.toNat, by omega⟩
    refine ⟨_, rfl, rfl, _, rfl, ?_⟩
    by_cases c0 : wn = 0
    · subst c0
      refine iteTb (decide_eq_true rfl) ?_
      refine ret_lit [(0, 1), (0, 1)] (by decide) fun us H2 D hn p2 s2 nD => ?_
      have dl := (draw_new (draw_same s2 D1) nD).2.1
      have sD := same_upd (o := .lst (rf us)) nD
      have eD : (upd H2 D (.lst (rf us))) D = some (.lst (rf us)) := upd_same
      generalize upd H2 D (.lst (rf us)) = H3 at sD eD
      refine ⟨by show 2 ≤ sizeLine; decide, fun R nR => ?_⟩
      have sR := same_upd (o := .tup [.int 1, .int 1]) nR
      refine ⟨by show 3 ≤ sizeLine; decide, fun T nT => ?_⟩
      exact fin (0, 0) D R T us _ (.int 2) (by decide) rfl (sR _ _ eD) dl ((p2.same sD).same sR) hn upd_same (draw_same ((s2.trans sD).trans sR) D1) (k1.trans (fun b o h _ _ => ((s2.trans sD).trans sR) b o h)) nT
    refine iteFb (decide_eq_false (fun q => c0 (by have := V.int.inj q; omega))) ?_
    refine ⟨_, rfl, rfl, _, rfl, ?_⟩
    by_cases c1 : wn = 1
    · subst c1
      refine iteTb (decide_eq_true rfl) ?_
      refine ⟨_, rfl, d, lg, cl, 6, rfl, D1, by decide, by decide, fun m0 H2 m1 m2 D2 k2 => ?_⟩
      obtain ⟨m, rfl⟩ : ∃ m : Nat, m0 = m := ⟨m0.toNat, by omega⟩
      have hm : m < 6 := by omega
      have k02 := k1.trans k2
      refine ⟨3, (m : Int), rfl, rfl, ?_⟩
      refine ⟨_, rfl, _, rfl, 3 + (m : Int), rfl, by omega, by omega, fun D nD => ?_⟩
      rw [show (3 + (m : Int)).toNat = 3 + m by omega]
      refine lc_range (lo := 0) (n := 3 + m) (fun i Hd => ∃ us : Zs, nums us = ((List.range i).map fun (i : Nat) => ((i : Int), ((i : Int) + 1) % ((3 + m : Nat) : Int))) ∧ PL Hd us ∧ Hd D = some (.lst (rf us)) ∧ Same H2 Hd) ⟨[], rfl, (fun _ m => nomatch m), upd_same, same_upd nD⟩ ?_ ?_
      · rintro i Hd hi ⟨us, hus, pw, eD, sd⟩
        have hul : us.length = i := by
          have := congrArg List.length hus
          unfold nums at this
          rw [List.length_map, List.length_map, List.length_range] at this
          exact this
        refine ⟨rfl, ?_⟩
        dsimp only [tYes]
        refine iteT ?_
        refine ⟨_, rfl, _, rfl, _, _, rfl, rfl, _, rfl, _, _, rfl, rfl, by omega, by show 2 ≤ sizeLine; decide, fun q nq => ?_⟩
        rw [Int.zero_add]
        refine ⟨_, same_upd nq _ _ eD, small_2000 (by rw [rf_len]; omega), us ++ [(q, (i : Int), ((i : Int) + 1) % (3 + (m : Int)))], ?_, ((pw.same (same_upd nq)).app upd_same).put (same_upd nq _ _ eD), by rw [upd_same, rf_app], same_put (sd.trans (same_upd nq)) nD⟩
        rw [nums_app, hus, List.range_succ, List.map_append]
        rfl
      rintro H3 ⟨us, hus, pw, eD, sd⟩
      have dl := (draw_new D2 nD).2.1
      refine ⟨by show 1 ≤ sizeLine; decide, fun t nt => ?_⟩
      have st := same_upd (o := .tup [.int 1]) nt
      refine ⟨_, rfl, ?_⟩
      refine rep_rdz (n := 3 + m) (by show 3 + (m : Int) = ((3 + m : Nat) : Int); omega) upd_same (by omega) (by omega) fun R H5 eR s5 => ?_
      refine ⟨by show 3 ≤ sizeLine; decide, fun T nT => ?_⟩
      have s25 := (sd.trans st).trans s5
      exact fin (1, m) D R T us _ _ ((by decide : ∀ m < 6, (1, m) ∈ rdIx) m hm) rfl (s5 _ _ (st _ _ eD)) dl ((pw.same st).same s5) hus (by rw [eR]; show _ = some (HO.tup ((List.replicate (3 + m) (1 : Int)).map V.int)); rw [List.map_replicate]) (draw_same s25 D2) (k02.trans (fun b o h _ _ => s25 b o h)) nT
    refine iteFb (decide_eq_false (fun q => c1 (by have := V.int.inj q; omega))) ?_
    refine ⟨_, rfl, rfl, _, rfl, ?_⟩
    by_cases c2 : wn = 2
    · subst c2
      refine iteTb (decide_eq_true rfl) ?_
      refine ⟨_, rfl, d, lg, cl, 4, rfl, D1, by decide, by decide, fun m0 H2 m1 m2 D2 k2 => ?_⟩
      obtain ⟨m, rfl⟩ : ∃ m : Nat, m0 = m := ⟨m0.toNat, by omega⟩
      have hm : m < 4 := by omega
      have k02 := k1.trans k2
      refine ⟨1, (m : Int), rfl, rfl, ?_⟩
      refine ⟨_, rfl, 1 + (m : Int), 1, rfl, rfl, 1 + (m : Int) - 1, rfl, by omega, by omega, fun D nD => ?_⟩
      rw [show (1 + (m : Int) - 1).toNat = m by omega]
      refine lc_range (lo := 0) (n := m) (fun i Hd => ∃ us : Zs, nums us = ((List.range i).map fun (i : Nat) => ((i : Int), ((i : Int) + 1))) ∧ PL Hd us ∧ Hd D = some (.lst (rf us)) ∧ Same H2 Hd) ⟨[], rfl, (fun _ m => nomatch m), upd_same, same_upd nD⟩ ?_ ?_
      · rintro i Hd hi ⟨us, hus, pw, eD, sd⟩
        have hul : us.length = i := by
          have := congrArg List.length hus
          unfold nums at this
          rw [List.length_map, List.length_map, List.length_range] at this
          exact this
        refine ⟨rfl, ?_⟩
        dsimp only [tYes]
        refine iteT ?_
        refine ⟨_, rfl, _, rfl, _, _, rfl, rfl, by show 2 ≤ sizeLine; decide, fun q nq => ?_⟩
        rw [Int.zero_add]
        refine ⟨_, same_upd nq _ _ eD, small_2000 (by rw [rf_len]; omega), us ++ [(q, (i : Int), ((i : Int) + 1))], ?_, ((pw.same (same_upd nq)).app upd_same).put (same_upd nq _ _ eD), by rw [upd_same, rf_app], same_put (sd.trans (same_upd nq)) nD⟩
        rw [nums_app, hus, List.range_succ, List.map_append]
        rfl
      rintro H3 ⟨us, hus, pw, eD, sd⟩
      have hul : us.length = m := by
        have := congrArg List.length hus
        unfold nums at this
        rw [List.length_map, List.length_map, List.length_range] at this
        exact this
      refine asg_lits [((tC (.int 0), tVar 4), (0, 1 + (m : Int))), ((tC (.int 0), tOp (rI0 fun i j => .int (i + j)) (tVar 4) (tC (.int 1))), (0, 1 + (m : Int) + 1)), ((tOp (rI0 fun i j => .int (i - j)) (tVar 4) (tC (.int 1)), tOp (rI0 fun i j => .int (i + j)) (tVar 4) (tC (.int 2))), (1 + (m : Int) - 1, 1 + (m : Int) + 2)), ((tOp (rI0 fun i j => .int (i - j)) (tVar 4) (tC (.int 1)), tOp (rI0 fun i j => .int (i + j)) (tVar 4) (tC (.int 3))), (1 + (m : Int) - 1, 1 + (m : Int) + 3))] (by show 4 ≤ 2000; decide) ?_ fun ts H4 B hn p4 s4 nB => ?_
      · intro q mq
        simp only [List.mem_cons, List.not_mem_nil, or_false] at mq
        rcases mq with rfl | rfl | rfl | rfl
        · exact ⟨Val.c _, Val.v rfl⟩
        · exact ⟨Val.c _, Val.o rfl _ rfl⟩
        · exact ⟨Val.o rfl _ rfl, Val.o rfl _ rfl⟩
        · exact ⟨Val.o rfl _ rfl, Val.o rfl _ rfl⟩
      have htl : ts.length = 4 := by
        have := congrArg List.length hn
        unfold nums at this
        rw [List.length_map] at this
        exact this
      have sB := same_upd (o := .lst (rf ts)) nB
      have eB : (upd H4 B (.lst (rf ts))) B = some (.lst (rf ts)) := upd_same
      have p4' := p4.same sB
      have pw' := (pw.same s4).same sB
      have eD' := sB _ _ (s4 _ _ eD)
      have s2B := (sd.trans s4).trans sB
      generalize upd H4 B (.lst (rf ts)) = H5 at sB eB p4' pw' eD' s2B
      have D5 := draw_same s2B D2
      refine ⟨_, rfl, 1 + (m : Int), 4, rfl, rfl, _, rfl, _, rfl, D, B, _, _, rfl, rfl, eD', eB, Nat.le_of_lt (small_2000 (by rw [rf_len, rf_len]; omega)), fun G nG => ?_⟩
      have gl := (draw_new D5 nG).2.1
      have eG0 : rf us ++ rf ts = rf (us ++ ts) := by unfold rf; rw [List.map_append]
      rw [eG0]
      have sG := same_upd (o := .lst (rf (us ++ ts))) nG
      have eG : (upd H5 G (.lst (rf (us ++ ts)))) G = some (.lst (rf (us ++ ts))) := upd_same
      have pG : PL (upd H5 G (.lst (rf (us ++ ts)))) (us ++ ts) := fun z mz => by
        rcases List.mem_append.mp mz with mz | mz
        · exact sG _ _ (pw' z mz)
        · exact sG _ _ (p4' z mz)
      generalize upd H5 G (.lst (rf (us ++ ts))) = H6 at sG eG pG
      refine ⟨by show 1 ≤ sizeLine; decide, fun t1 nt1 => ⟨_, rfl, rep_rdz (n := 1 + m) (by show 1 + (m : Int) = ((1 + m : Nat) : Int); omega) upd_same (by omega) (by omega) fun R1 H7 eR1 s7 => ?_⟩⟩
      have s67 := (same_upd (o := .tup [.int 2]) nt1).trans s7
      refine ⟨by show 1 ≤ sizeLine; decide, fun t2 nt2 => rep_rdz (n := 4) rfl upd_same (by omega) (by omega) fun R2 H8 eR2 s8 => ?_⟩
      have s78 := (same_upd (o := .tup [.int 1]) nt2).trans s8
      refine ⟨R1, R2, _, _, rfl, rfl, SqT.of (s78 _ _ eR1), SqT.of eR2, (fun z => by rw [show 1 + m = m + 1 by omega, List.replicate_succ] at z; cases z), Nat.le_of_lt (small_2000 (by rw [List.length_replicate, List.length_replicate]; omega)), (fun z => by cases z), fun _ R nR => ?_⟩
      have sR := same_upd (o := .tup (List.replicate (1 + m) (V.int 2) ++ List.replicate 4 (V.int 1))) nR
      refine ⟨by show 3 ≤ sizeLine; decide, fun T nT => ?_⟩
      have s68 := (s67.trans s78).trans sR
      have s2f := (s2B.trans sG).trans s68
      refine fin (2, m) G R T (us ++ ts) _ _ ((by decide : ∀ m < 4, (2, m) ∈ rdIx) m hm) ?_ (s68 _ _ eG) gl (pG.same s68) ?_ ?_ (draw_same s2f D2) (k02.trans (fun b o h _ _ => s2f b o h)) nT
      · show V.int (1 + (m : Int) + 4) = V.int ((1 + m + 4 : Nat) : Int)
        congr 1
      · unfold nums at hus hn ⊢
        rw [List.map_append, hus, hn]
        show _ = (List.range m).map (fun (i : Nat) => ((i : Int), (i : Int) + 1)) ++ [(0, ((1 + m : Nat) : Int)), (0, ((1 + m : Nat) : Int) + 1), (((1 + m : Nat) : Int) - 1, ((1 + m : Nat) : Int) + 2), (((1 + m : Nat) : Int) - 1, ((1 + m : Nat) : Int) + 3)]
        rw [show ((1 + m : Nat) : Int) = 1 + (m : Int) by omega]
        rfl
      · rw [upd_same]
        show _ = some (HO.tup ((List.replicate (1 + m) (2 : Int) ++ [1, 1, 1, 1]).map V.int))
        rw [List.map_append, List.map_replicate]
        rfl
    refine iteFb (decide_eq_false (fun q => c2 (by have := V.int.inj q; omega))) ?_
    refine ⟨_, rfl, rfl, _, rfl, ?_⟩
    by_cases c3 : wn = 3
    · subst c3
      refine iteTb (decide_eq_true rfl) ?_
      refine ret_lit [(0, 1), (1, 2), (0, 3), (3, 4), (0, 5), (5, 6)] (by decide) fun us H2 D hn p2 s2 nD => ?_
      have dl := (draw_new (draw_same s2 D1) nD).2.1
      have sD := same_upd (o := .lst (rf us)) nD
      have eD : (upd H2 D (.lst (rf us))) D = some (.lst (rf us)) := upd_same
      generalize upd H2 D (.lst (rf us)) = H3 at sD eD
      refine ⟨by show 7 ≤ sizeLine; decide, fun R nR => ?_⟩
      have sR := same_upd (o := .tup [.int 3, .int 2, .int 1, .int 2, .int 1, .int 2, .int 1]) nR
      refine ⟨by show 3 ≤ sizeLine; decide, fun T nT => ?_⟩
      exact fin (3, 0) D R T us _ (.int 7) (by decide) rfl (sR _ _ eD) dl ((p2.same sD).same sR) hn upd_same (draw_same ((s2.trans sD).trans sR) D1) (k1.trans (fun b o h _ _ => ((s2.trans sD).trans sR) b o h)) nT
    refine iteFb (decide_eq_false (fun q => c3 (by have := V.int.inj q; omega))) ?_
    refine ⟨_, rfl, rfl, _, rfl, ?_⟩
    by_cases c4 : wn = 4
    · subst c4
      refine iteTb (decide_eq_true rfl) ?_
      refine asg_lit [(0, 1), (1, 2), (2, 3), (0, 4), (4, 5), (5, 6), (0, 7)] (by decide) fun us H2 D hn p2 s2 nD => ?_
      have dl := (draw_new (draw_same s2 D1) nD).2.1
      have sD := same_upd (o := .lst (rf us)) nD
      have eD : (upd H2 D (.lst (rf us))) D = some (.lst (rf us)) := upd_same
      generalize upd H2 D (.lst (rf us)) = H3 at sD eD
      refine ⟨_, rfl, ?_⟩
      refine ⟨by show 8 ≤ sizeLine; decide, fun R nR => ?_⟩
      have sR := same_upd (o := .tup [.int 4, .int 3, .int 2, .int 1, .int 3, .int 2, .int 1, .int 2]) nR
      refine ⟨by show 3 ≤ sizeLine; decide, fun T nT => ?_⟩
      exact fin (4, 0) D R T us _ (.int 8) (by decide) rfl (sR _ _ eD) dl ((p2.same sD).same sR) hn upd_same (draw_same ((s2.trans sD).trans sR) D1) (k1.trans (fun b o h _ _ => ((s2.trans sD).trans sR) b o h)) nT
    refine iteFb (decide_eq_false (fun q => c4 (by have := V.int.inj q; omega))) ?_
    refine ret_lit [(0, 1), (0, 2), (0, 3), (0, 4)] (by decide) fun us H2 D hn p2 s2 nD => ?_
    have dl := (draw_new (draw_same s2 D1) nD).2.1
    have sD := same_upd (o := .lst (rf us)) nD
    have eD : (upd H2 D (.lst (rf us))) D = some (.lst (rf us)) := upd_same
    generalize upd H2 D (.lst (rf us)) = H3 at sD eD
    refine ⟨by show 5 ≤ sizeLine; decide, fun R nR => ?_⟩
    have sR := same_upd (o := .tup [.int 2, .int 1, .int 1, .int 1, .int 1]) nR
    refine ⟨by show 3 ≤ sizeLine; decide, fun T nT => ?_⟩
    exact fin (5, 0) D R T us _ (.int 5) (by decide) rfl (sR _ _ eD) dl ((p2.same sD).same sR) hn upd_same (draw_same ((s2.trans sD).trans sR) D1) (k1.trans (fun b o h _ _ => ((s2.trans sD).trans sR) b o h)) nT
end
end K03


set_option Elab.async false
set_option maxRecDepth 100000
set_option maxHeartbeats 4000000
set_option linter.all false
namespace K03
open PySem PySem.Spec PyProof.Rows L2 NetM
abbrev sWildP : Stmt := top 45
abbrev N45 : List Str := ["draw", "many_here", "pairs_here", "row", "one"]
theorem scWildP : FnScope N45 ["draw"] (defScope sWildP) := ⟨rfl, rfl, rfl, by decide +kernel, rfl, by decide +kernel, by decide +kernel⟩
def wdN (z : Nat × Nat × Bool × Nat) : Nat := (wildP z.1 z.2.1 z.2.2.1 z.2.2.2).1
def wdE (z : Nat × Nat × Bool × Nat) : Prs := (wildP z.1 z.2.1 z.2.2.1 z.2.2.2).2
def spWildP : Sp := fun vs H Q _ => ∃ (d lg cl : Addr), vs = [.ref d] ∧ DrawAt H d lg cl ∧
  ∀ (z : Nat × Nat × Bool × Nat) (T D : Addr) (us : Zs) (H' : Hp), z ∈ wdIx → H' T = some (.tup [.int (wdN z), .ref D]) → H' D = some (.lst (rf us)) → D ≠ lg → PL H' us → nums us = wdE z → DrawAt H' d lg cl → Kept d lg H H' → Q (.ref T) H'
theorem wd_more {q : Nat × Nat} (m : q ∈ rdIx) (h : (roundP q.1 q.2).1 < 8) {j : Nat} (hj : j < (roundP q.1 q.2).1) : (q.1, q.2, true, j) ∈ wdIx := by
  unfold wdIx
  refine List.mem_flatMap.mpr ⟨q, m, ?_⟩
  dsimp only
  rw [if_pos h]
  exact List.mem_append_left _ (List.mem_map.mpr ⟨j, List.mem_range.mpr hj, rfl⟩)
theorem wd_pair {q : Nat × Nat} (m : q ∈ rdIx) {j : Nat} (hj : j < (roundP q.1 q.2).1) : (q.1, q.2, false, j) ∈ wdIx := by
  unfold wdIx
  refine List.mem_flatMap.mpr ⟨q, m, ?_⟩
  dsimp only
  exact List.mem_append_right _ (List.mem_map.mpr ⟨j, List.mem_range.mpr hj, rfl⟩)
theorem wdN_more (q : Nat × Nat) (j : Nat) : wdN (q.1, q.2, true, j) = (roundP q.1 q.2).1 + 1 := rfl
theorem wdE_more (q : Nat × Nat) (j : Nat) : wdE (q.1, q.2, true, j) = (roundP q.1 q.2).2.1 ++ [((j : Int), ((roundP q.1 q.2).1 : Int))] := rfl
theorem wdN_pair (q : Nat × Nat) (j : Nat) : wdN (q.1, q.2, false, j) = (roundP q.1 q.2).1 := rfl
theorem wdE_pair (q : Nat × Nat) (j : Nat) : wdE (q.1, q.2, false, j) = (roundP q.1 q.2).2.1 ++ [((j : Int), ((j : Int) + 1) % ((roundP q.1 q.2).1 : Int))] := rfl
section
variable {P : Program} {w : World} {K : PySem.W.Frag} {mg : Str → Option Value} {base : Heap}
theorem ok_wildp {f fT fR : Addr} {fd fdT dR : FuncData} (F : Fun K "_law_wild_pairs" "_law_wild_pairs" sWildP f fd) (GT : FnOk P w K mg base CX0 2 fT fdT ["draw", "amount"] spTake) (bT : L2.Binds K fdT ["draw", "amount"] []) (gT : mg "_law_take" = some (.ref fT)) (kT : PySem.W.keepIn K (.ref fT) = true)
    (GR : FnOk P w K mg base CX0 3 fR dR ["draw"] spRound) (bR : L2.Binds K dR ["draw"] []) (gR : mg "_law_round_pairs" = some (.ref fR)) (kR : PySem.W.keepIn K (.ref fR) = true) : FnOk P w K mg base CX0 4 f fd ["draw"] spWildP := by
  refine F.ok scWildP (fun vs H Q E h => ?_) (fun cdv A outer s H vs Q E hr h => ?_)
  · obtain ⟨d, lg, cl, rfl, _⟩ := h
    rfl
  · obtain ⟨d, lg, cl, rfl, DR, k⟩ := h
    have nd := scWildP.nd
    have r3 : Room 3 _ := hr.mono (by decide)
    have r2 : Room 2 _ := hr.mono (by decide)
    refine ⟨_, pss_cons (ps_asg (pe_call GR r3 (by rfl) gR kR bR .nil pass0 (pa_cons (pv 0) pa_nil)) (pg_tup (by rfl) (pgs_cons (pg_name (i := 1) nd rfl (by first | exact Or.inl rfl | exact Or.inr rfl)) (pgs_cons (pg_name (i := 2) nd rfl (by first | exact Or.inl rfl | exact Or.inr rfl)) (pgs_cons (pg_name (i := 3) nd rfl (by first | exact Or.inl rfl | exact Or.inr rfl)) pgs_nil)))))
      (pss_cons (ps_if (PW.pt (pw_and (pt_cmpR op_lt (pv 1) pe_int (nomark _)) (pw_and1 (pt_cmpR op_eq (pe_call GT r2 (by rfl) gT kT bT .nil pass0 (pa_cons (pv 0) (pa_cons pe_int pa_nil))) pe_int (nomark _)))))
          (pss_one (ps_ret (pe_tup (pa_cons (pe_op op_add (pv 1) pe_int) (pa_cons (pe_op op_cat (pv 2) (pe_lst (pa_cons (pe_tup (pa_cons (pe_call GT r2 (by rfl) gT kT bT .nil pass0 (pa_cons (pv 0) (pa_cons (pv 1) pa_nil))) (pa_cons (pv 1) pa_nil))) pa_nil))) pa_nil))))) pss_nil)
      (pss_cons (ps_set (i := 4) nd rfl (by first | exact Or.inl rfl | exact Or.inr rfl) (pe_call GT r2 (by rfl) gT kT bT .nil pass0 (pa_cons (pv 0) (pa_cons (pv 1) pa_nil))))
      (pss_one (ps_ret (pe_tup (pa_cons (pv 1) (pa_cons (pe_op op_cat (pv 2) (pe_lst (pa_cons (pe_tup (pa_cons (pv 4) (pa_cons (pe_op op_mod (pe_op op_add (pv 4) pe_int) (pv 1)) pa_nil))) pa_nil))) pa_nil))))))), ?_⟩
    refine ⟨_, rfl, d, lg, cl, rfl, DR, fun q T D R us H1 hq eT eD dl pu hu eR D1 k1 => ?_⟩
    obtain ⟨⟨hE, nl⟩, n8, n0, l12, _⟩ := round_of hq
    have hul : us.length ≤ 12 := by
      have := congrArg List.length hu
      unfold nums at this
      rw [List.length_map] at this
      omega
    refine ⟨T, [.int (roundP q.1 q.2).1, .ref D, .ref R], rfl, SqT.of eT, rfl, .int (roundP q.1 q.2).1, [.ref D, .ref R], rfl, .ref D, [.ref R], rfl, .ref R, [], rfl, rfl, ?_⟩
    generalize hb : roundP q.1 q.2 = b at *
    obtain ⟨bn, bE, bR⟩ := b
    dsimp only at *
    have fin : ∀ (more : Bool) (j : Nat) (x y : Int) (H2 : Hp) (v : V), Same H1 H1 → (q.1, q.2, more, j) ∈ wdIx → v = .int (wdN (q.1, q.2, more, j)) → wdE (q.1, q.2, more, j) = bE ++ [(x, y)] → DrawAt H2 d lg cl → Kept d lg H1 H2 → ∀ t, H2 t = some (.tup [.int x, .int y]) → ∀ L1, H2 L1 = none → 
        (∃ x1 y1 xs zs, V.ref D = .ref x1 ∧ V.ref L1 = .ref y1 ∧ (upd H2 L1 (.lst [.ref t])) x1 = some (.lst xs) ∧ (upd H2 L1 (.lst [.ref t])) y1 = some (.lst zs) ∧ xs.length + zs.length ≤ sizeLine ∧ ∀ G, (upd H2 L1 (.lst [.ref t])) G = none → [v, .ref G].length ≤ sizeLine ∧ ∀ T, (upd (upd H2 L1 (.lst [.ref t])) G (.lst (xs ++ zs))) T = none → Q (.ref T) (upd (upd (upd H2 L1 (.lst [.ref t])) G (.lst (xs ++ zs))) T (.tup [v, .ref G]))) := fun more j x y H2 v _ hz hv hE2 D2 k2 t et L1 nL => by
      have hDd : D ≠ d := fun z => by obtain ⟨⟨r, t, hd⟩, _⟩ := D1; rw [z, hd] at eD; cases eD
      have eD2 := k2 _ _ eD hDd dl
      have sL := same_upd (o := .lst [.ref t]) nL
      refine ⟨D, L1, _, _, rfl, rfl, sL _ _ eD2, upd_same, Nat.le_of_lt (small_2000 (by rw [rf_len]; show _ + 1 ≤ 2000; omega)), fun G nG => ⟨by show 2 ≤ sizeLine; decide, fun T2 nT2 => ?_⟩⟩
      have hG : rf us ++ [.ref t] = rf (us ++ [(t, x, y)]) := rf_app us t x y
      rw [hG] at nT2 ⊢
      have sG := same_upd (o := .lst (rf (us ++ [(t, x, y)]))) nG
      have gl := (draw_new (draw_same sL D2) nG).2.1
      have sT := same_upd (o := .tup [v, .ref G]) nT2
      have s2 := (sL.trans sG).trans sT
      have p2 := pu.kept D1 k2
      refine k (q.1, q.2, more, j) T2 G (us ++ [(t, x, y)]) _ hz (by rw [upd_same, hv]) (sT _ _ upd_same) gl ((p2.same s2).app (s2 _ _ et)) (by rw [nums_app, hu, hE2]) (draw_same s2 D2) ((k1.trans k2).trans (fun b o h _ _ => s2 b o h))
    have hb1 : (roundP q.1 q.2).1 = bn := by rw [hb]
    have hDd : D ≠ d := fun z => by obtain ⟨⟨r, t, hd⟩, _⟩ := D1; rw [z, hd] at eD; cases eD
    have last : ∀ (H2 : Hp), DrawAt H2 d lg cl → Kept d lg H1 H2 → ∃ x, [some (V.ref d), some (V.int (bn : Int)), some (V.ref D), some (V.ref R), none][0]? = some (some x) ∧ True := fun H2 D2 k2 => ⟨_, rfl, trivial⟩
    refine ⟨_, rfl, (bn : Int), 8, rfl, rfl, _, rfl, ?_⟩
    by_cases c8 : bn < 8
    · refine iteTb (decide_eq_true (by omega)) ?_
      refine ⟨_, rfl, d, lg, cl, 2, rfl, D1, by decide, by decide, fun b H2 b0 b1 D2 k2 => ?_⟩
      refine ⟨rfl, _, rfl, ?_⟩
      by_cases c : b = 0
      · refine iteTb (decide_eq_true (by rw [c])) ?_
        refine ⟨_, rfl, (bn : Int), 1, rfl, rfl, ?_⟩
        refine ⟨_, rfl, _, rfl, _, rfl, d, lg, cl, (bn : Int), rfl, D2, by omega, by omega, fun j0 H3 j1 j2 D3 k3 => ?_⟩
        obtain ⟨j, rfl⟩ : ∃ m : Nat, j0 = m := ⟨j0.toNat, by omega⟩
        refine ⟨_, rfl, by show 2 ≤ sizeLine; decide, fun t nt => ⟨by show 1 ≤ sizeLine; decide, fun L1 nL => ?_⟩⟩
        have st := same_upd (o := .tup [.int (j : Int), .int (bn : Int)]) nt
        exact fin true j j bn _ _ (Same.refl _) (wd_more hq (by rw [hb1]; exact c8) (by rw [hb1]; omega)) (by rw [wdN_more, hb1]; rfl) (by rw [wdE_more, hb]) (draw_same st D3) ((k2.trans k3).trans (fun b o h _ _ => st b o h)) t upd_same L1 nL
      · refine iteFb (decide_eq_false (fun q => c (V.int.inj q))) ?_
        refine ⟨_, rfl, _, rfl, d, lg, cl, (bn : Int), rfl, D2, by omega, by omega, fun j0 H3 j1 j2 D3 k3 => ?_⟩
        obtain ⟨j, rfl⟩ : ∃ m : Nat, j0 = m := ⟨j0.toNat, by omega⟩
        refine ⟨_, rfl, _, rfl, _, rfl, _, rfl, (j : Int), 1, rfl, rfl, _, rfl, _, _, rfl, rfl, by omega, by show 2 ≤ sizeLine; decide, fun t nt => ⟨by show 1 ≤ sizeLine; decide, fun L1 nL => ?_⟩⟩
        have st := same_upd (o := .tup [.int (j : Int), .int (((j : Int) + 1) % (bn : Int))]) nt
        exact fin false j j (((j : Int) + 1) % (bn : Int)) _ _ (Same.refl _) (wd_pair hq (by rw [hb1]; omega)) (by rw [wdN_pair, hb1]) (by rw [wdE_pair, hb]) (draw_same st D3) ((k2.trans k3).trans (fun b o h _ _ => st b o h)) t upd_same L1 nL
    · refine iteFb (decide_eq_false (by omega)) ?_
      refine iteF ?_
      refine ⟨_, rfl, _, rfl, d, lg, cl, (bn : Int), rfl, D1, by omega, by omega, fun j0 H3 j1 j2 D3 k3 => ?_⟩
      obtain ⟨j, rfl⟩ : ∃ m : Nat, j0 = m := ⟨j0.toNat, by omega⟩
      refine ⟨_, rfl, _, rfl, _, rfl, _, rfl, (j : Int), 1, rfl, rfl, _, rfl, _, _, rfl, rfl, by omega, by show 2 ≤ sizeLine; decide, fun t nt => ⟨by show 1 ≤ sizeLine; decide, fun L1 nL => ?_⟩⟩
      have st := same_upd (o := .tup [.int (j : Int), .int (((j : Int) + 1) % (bn : Int))]) nt
      exact fin false j j (((j : Int) + 1) % (bn : Int)) _ _ (Same.refl _) (wd_pair hq (by rw [hb1]; omega)) (by rw [wdN_pair, hb1]) (by rw [wdE_pair, hb]) (draw_same st D3) (k3.trans (fun b o h _ _ => st b o h)) t upd_same L1 nL
end
end K03


set_option Elab.async false
set_option maxRecDepth 100000
set_option maxHeartbeats 4000000
set_option linter.all false
namespace K03
open PySem PySem.Spec PyProof.Rows L2 NetM
abbrev sRen : Stmt := top 46
abbrev N46 : List Str := ["draw", "many_here", "pairs_here", "row", "names_here", "found", "one", "two", "turned_here", "pair", "moved", "k", "number"]
theorem scRen : FnScope N46 ["draw", "many_here", "pairs_here", "row"] (defScope sRen) := ⟨rfl, rfl, rfl, by decide +kernel, rfl, by decide +kernel, by decide +kernel⟩
def spRen (K : PySem.W.Frag) : Sp := fun vs H Q _ => ∃ (d lg cl D R : Addr) (n : Nat) (us : Zs) (L : List Int), vs = [.ref d, .int n, .ref D, .ref R] ∧ DrawAt H d lg cl ∧ H D = some (.lst (rf us)) ∧ D ≠ lg ∧ PL H us ∧ In n (nums us) ∧ us.length ≤ 12 ∧ n ≤ 8 ∧ 0 < n ∧ (∀ a b, (a, b) ∈ nums us → a ≠ b) ∧
  H R = some (.tup (L.map V.int)) ∧ L.length = n ∧
  ∀ (T x ps M : Addr) (vs : Zs) (f φ : Int → Int) (ms : List Int) (H' : Hp), LNet H' x ps n vs → ps ≠ lg → Ren n f (nums us) (nums vs) → (∀ t h, (t, h) ∈ nums vs → φ t < φ h) → H' T = some (.tup [.ref x, .ref M]) → H' M = some (.tup (ms.map V.int)) → ms.length = n → (∀ p, InR n p → rowF ms (f p) = rowF L p) →
    DrawAt H' d lg cl → Kept d lg H H' → Q (.ref T) H'
theorem flip_map (c : Int × Int → Bool) : ∀ E : Prs, Flip E (E.map fun q => if c q = true then q else (q.2, q.1))
  | [] => .nil
  | q :: E => by
    rw [List.map_cons]
    by_cases z : c q = true
    · rw [if_pos z]; exact .same q (flip_map c E)
    · rw [if_neg z]; exact .turn q (flip_map c E)
section
variable {P : Program} {w : World} {K : PySem.W.Frag} {mg : Str → Option Value} {base : Heap}
theorem ok_ren {f fU : Addr} {fd dU : FuncData} (F : Fun K "_law_renamed" "_law_renamed" sRen f fd)
    (GU : FnOk P w K mg base CX0 3 fU dU ["draw", "some"] (spShuf K)) (GI : FnOk P w K mg base CX0 3 fU dU ["draw", "some"] (spShufI K)) (bU : L2.Binds K dU ["draw", "some"] []) (gU : mg "_law_shuffled" = some (.ref fU)) (kU : PySem.W.keepIn K (.ref fU) = true)
    (mRa : mg "range" = none) (mLi : mg "list" = none) (mTup : mg "tuple" = none) (mEn : mg "enumerate" = none) : FnOk P w K mg base CX0 4 f fd ["draw", "many_here", "pairs_here", "row"] (spRen K) := by
  refine F.ok scRen (fun vs H Q E h => ?_) (fun cdv A outer s H vs Q E hr h => ?_)
  · obtain ⟨d, lg, cl, D, R, n, us, L, rfl, _⟩ := h
    rfl
  · obtain ⟨d, lg, cl, D, R, n, us, L, rfl, DR, eD, dl, pu, hE, hul, n8, n0, nl, eR, hL, k⟩ := h
    have nd := scRen.nd
    have r3 : Room 3 _ := hr.mono (by decide)
    refine ⟨_, pss_cons (ps_set (i := 4) nd rfl (by first | exact Or.inl rfl | exact Or.inr rfl) (pe_call GI r3 (by rfl) gU kU bU .nil pass0 (pa_cons (pv 0) (pa_cons (pe_listRg (by rfl) (by rfl) mLi (prg_1 (by rfl) mRa (pv 1))) pa_nil))))
      (pss_cons (ps_setLc (i := 5) (own := [("one", 6), ("two", 7)]) (g := gTup K 2 (gCons (gName 6) (gCons (gName 7) gNil))) (by rfl) nd rfl rfl (sw_true rfl rfl rfl (by decide +kernel)) (pi_seq (pe_call GU r3 (by rfl) gU kU bU .nil pass0 (pa_cons (pv 0) (pa_cons (pv 2) pa_nil)))) (blkOk_by (own := [("one", 6), ("two", 7)]) (N := N46) (sc := defScope sRen) (by decide +kernel))
          (fun _ _ _ _ _ => pg_tup (by rfl) (pgs_cons (pg_name (i := 6) nd rfl (by first | exact Or.inl rfl | exact Or.inr rfl)) (pgs_cons (pg_name (i := 7) nd rfl (by first | exact Or.inl rfl | exact Or.inr rfl)) pgs_nil))) (fun _ _ _ _ _ => pts_nil)
          (fun _ _ _ _ _ => pe_tup (pa_cons (pe_ix (show IxR _ (rIxL K) from ix_list) (pv 4) (pv 6) (fun _ _ => rfl)) (pa_cons (pe_ix (show IxR _ (rIxL K) from ix_list) (pv 4) (pv 7) (fun _ _ => rfl)) pa_nil))))
      (pss_cons (ps_set (i := 8) nd rfl (by first | exact Or.inl rfl | exact Or.inr rfl) (pe_call GI r3 (by rfl) gU kU bU .nil pass0 (pa_cons (pv 0) (pa_cons (pe_listRg (by rfl) (by rfl) mLi (prg_1 (by rfl) mRa (pv 1))) pa_nil))))
      (pss_cons (ps_setLc (i := 5) (own := [("pair", 9)]) (g := gName 9) (by rfl) nd rfl rfl (sw_true rfl rfl rfl (by decide +kernel)) (pi_list (pv 5)) (blkOk_by (own := [("pair", 9)]) (N := N46) (sc := defScope sRen) (by decide +kernel)) (fun _ _ _ _ _ => pg_name (i := 9) nd rfl (by first | exact Or.inl rfl | exact Or.inr rfl)) (fun _ _ _ _ _ => pts_nil)
          (fun _ _ _ _ _ => pe_ifExp (pt_cmpR op_lt (pe_ix (show IxR _ (rIxL K) from ix_list) (pv 8) (pe_ix (show IxR _ (rIxT K) from ix_tup) (pv 9) pe_int (fun _ _ => rfl)) (fun _ _ => rfl)) (pe_ix (show IxR _ (rIxL K) from ix_list) (pv 8) (pe_ix (show IxR _ (rIxT K) from ix_tup) (pv 9) pe_int (fun _ _ => rfl)) (fun _ _ => rfl)) (nomark _)) (pv 9) (show PE _ _ (tRevP K (tVar 9)) from pe_revP (pv 9))))
      (pss_cons (ps_set (i := 10) nd rfl (by first | exact Or.inl rfl | exact Or.inr rfl) (pe_op op_rep (pe_lst (pa_cons pe_int pa_nil)) (pv 1)))
      (pss_cons (ps_for PassesOwn.never rfl (pi_e2 (by rfl) mEn (pa_cons (pv 3) pa_nil)) (pg_tup (by rfl) (pgs_cons (pg_name (i := 11) nd rfl (by first | exact Or.inl rfl | exact Or.inr rfl)) (pgs_cons (pg_name (i := 12) nd rfl (by first | exact Or.inl rfl | exact Or.inr rfl)) pgs_nil)))
          (pss_one (ps_asg (pv 12) (pg_sub (pv 10) (pe_ix (show IxR _ (rIxL K) from ix_list) (pv 4) (pv 11) (fun _ _ => rfl)) set_list))))
      (pss_one (ps_ret (pe_tup (pa_cons (pe_disp (pps_cons pe_str (pv 1) (pps_cons pe_str (pv 5) pps_nil)) (by rfl) (by rfl) (fun z => by cases z) (by decide)) (pa_cons (pe_callTy (show CallR _ _ (fun xs H Q => ∃ p ys, xs = [.ref p] ∧ ((SqL K H p ys ∧ ∀ l, H l = none → Q (.ref l) (upd H l (.tup ys))) ∨ (SqT K H p ys ∧ Q (.ref p) H))) from call_tuple_of) (by rfl) mTup (by decide +kernel) (pa_cons (pv 10) pa_nil)) pa_nil)))))))))), ?_⟩
    refine ⟨_, rfl, _, rfl, n, rfl, RgOk.of_le (by omega) (by omega) (by omega) (by omega), fun q1 nq1 => ?_⟩
    rw [rgV_rng]
    have sq1 := same_upd (o := .lst ((rng n).map V.int)) nq1
    have eq1 : (upd H q1 (.lst ((rng n).map V.int))) q1 = some (.lst ((rng n).map V.int)) := upd_same
    have Dq1 := draw_same sq1 DR
    have kq1 : Kept d lg H (upd H q1 (.lst ((rng n).map V.int))) := Kept.trans Kept.refl (fun b o h _ _ => sq1 b o h)
    have eDq := sq1 _ _ eD
    have pq := pu.same sq1
    have eRq := sq1 _ _ eR
    generalize upd H q1 (.lst ((rng n).map V.int)) = H2 at sq1 eq1 Dq1 eDq pq kq1 eRq
    refine ⟨d, lg, cl, q1, rng n, rfl, Dq1, SqL.of eq1, by rw [rng_len]; omega, fun ys NA H3 hys D3 k3 nNA eNA => ?_⟩
    obtain ⟨nNd, nNl, _⟩ := draw_new Dq1 nNA
    have hDd : D ≠ d := fun z => by obtain ⟨⟨r, t, hd⟩, _⟩ := Dq1; rw [z, hd] at eDq; cases eDq
    have hRd : R ≠ d := fun z => by obtain ⟨⟨r, t, hd⟩, _⟩ := Dq1; rw [z, hd] at eRq; cases eRq
    have hRl : R ≠ lg := fun z => by obtain ⟨_, ⟨L, _, hl⟩, _⟩ := Dq1; rw [z, hl] at eRq; cases eRq
    have eD3 := k3 _ _ eDq hDd dl
    have eR3 := k3 _ _ eRq hRd hRl
    have p3 := pq.kept Dq1 k3
    have k03 := kq1.trans k3
    have bf := bij_of hys
    have hyl : ys.length = n := by rw [hys.length_eq, rng_len]
    refine ⟨_, rfl, _, rfl, d, lg, cl, D, us, rfl, D3, SqL.of eD3, p3, by omega, fun us2 A2 H4 hp2 D4 k4 nA2 eA2 => ?_⟩
    have eN4 := k4 _ _ eNA nNd nNl
    have eR4 := k4 _ _ eR3 hRd hRl
    have p4 : PL H4 us2 := fun z m => (p3.kept D3 k4) z (hp2.mem_iff.mp m)
    have k04 := k03.trans k4
    have hu2 : (nums us2).Perm (nums us) := hp2.map (fun z : Addr × Int × Int => z.2)
    have hE2 : NetM.In n (nums us2) := fun t h m => hE t h (hu2.mem_iff.mp m)
    have hl2 : us2.length ≤ 12 := by rw [hp2.length_eq]; exact hul
    refine ⟨A2, rf us2, rfl, .inl (SqL.of eA2), fun J hJ C nC => ?_⟩
    refine lc_seq hJ (fun i Hc => ∃ vs : Zs, nums vs = nam (rowF ys) ((nums us2).take i) ∧ PL Hc vs ∧ Hc C = some (.lst (rf vs)) ∧ Same H4 Hc) ⟨[], rfl, (fun _ m => nomatch m), upd_same, same_upd nC⟩ (fun i Hc _ hh => by obtain ⟨_, _, _, _, s⟩ := hh; exact .of s) ?_ ?_
    · rintro i y Hc hj ⟨vs, hvs, pv', eC, sc⟩
      obtain ⟨⟨z, z1, z2⟩, hz, rfl⟩ := rf_inv hj
      have mz := List.mem_of_getElem? hz
      have mn : (z1, z2) ∈ nums us2 := List.mem_of_getElem? (nums_get hz)
      obtain ⟨i1, i2⟩ := hE2 z1 z2 mn
      have hil : i < us2.length := (List.getElem?_eq_some_iff.mp hz).1
      have htk : (nums us2).take (i + 1) = (nums us2).take i ++ [(z1, z2)] := by rw [List.take_add_one, nums_get hz]; rfl
      obtain ⟨a1, rfl⟩ : ∃ k : Nat, z1 = k := ⟨z1.toNat, by have := i1.1; omega⟩
      obtain ⟨a2, rfl⟩ : ∃ k : Nat, z2 = k := ⟨z2.toNat, by have := i2.1; omega⟩
      have h1 : a1 < ys.length := by have := i1.2; omega
      have h2 : a2 < ys.length := by have := i2.2; omega
      have hvl : vs.length ≤ 12 := by
        have := congrArg List.length hvs
        unfold nam nums at this
        rw [List.length_map, List.length_map, List.length_take] at this
        omega
      have eNc := sc _ _ eN4
      refine ⟨z, [.int a1, .int a2], rfl, SqT.of (sc _ _ (p4 _ mz)), rfl, .int a1, [.int a2], rfl, .int a2, [], rfl, rfl, rfl, ?_⟩
      dsimp only [tYes]
      refine iteT ?_
      refine ⟨_, rfl, _, rfl, NA, _, (a1 : Int), _, rfl, rfl, SqL.of eNc, atI_nat (row_at h1), _, rfl, _, rfl, NA, _, (a2 : Int), _, rfl, rfl, SqL.of eNc, atI_nat (row_at h2), by show 2 ≤ sizeLine; decide, fun T nT => ?_⟩
      refine ⟨_, same_upd nT _ _ eC, small_2000 (by rw [rf_len]; omega), vs ++ [(T, rowF ys a1, rowF ys a2)], ?_, ((pv'.same (same_upd nT)).app upd_same).put (same_upd nT _ _ eC), by rw [upd_same, rf_app], same_put (sc.trans (same_upd nT)) nC⟩
      rw [nums_app, hvs, htk, nam_app]
      rfl
    rintro H5 ⟨vs, hvs, pvs, eC, sc⟩
    have hln : (rf us2).length = (nums us2).length := by unfold rf nums; rw [List.length_map, List.length_map]
    rw [hln, List.take_length] at hvs
    have hCl : C ≠ lg := (draw_new D4 nC).2.1
    have hCd : C ≠ d := (draw_new D4 nC).1
    have D5 := draw_same sc D4
    have k05 : Kept d lg H H5 := k04.trans (fun b o h _ _ => sc b o h)
    have eN5 := sc _ _ eN4
    have eR5 := sc _ _ eR4
    have hvl : vs.length ≤ 12 := by
      have := congrArg List.length hvs
      unfold nam nums at this
      rw [List.length_map, List.length_map, List.length_map] at this
      omega
    refine ⟨_, rfl, _, rfl, n, rfl, RgOk.of_le (by omega) (by omega) (by omega) (by omega), fun q2 nq2 => ?_⟩
    rw [rgV_rng]
    have sq2 := same_upd (o := .lst ((rng n).map V.int)) nq2
    have eq2 : (upd H5 q2 (.lst ((rng n).map V.int))) q2 = some (.lst ((rng n).map V.int)) := upd_same
    have Dq2 := draw_same sq2 D5
    have kq2 : Kept d lg H (upd H5 q2 (.lst ((rng n).map V.int))) := Kept.trans k05 (fun b o h _ _ => sq2 b o h)
    have eC6 := sq2 _ _ eC
    have p6 := pvs.same sq2
    have eN6 := sq2 _ _ eN5
    have eR6 := sq2 _ _ eR5
    generalize upd H5 q2 (.lst ((rng n).map V.int)) = H6 at sq2 eq2 Dq2 eC6 p6 kq2 eN6 eR6
    refine ⟨d, lg, cl, q2, rng n, rfl, Dq2, SqL.of eq2, by rw [rng_len]; omega, fun ts TA H7 hts D7 k7 nTA eTA => ?_⟩
    have eC7 := k7 _ _ eC6 hCd hCl
    have p7 := p6.kept Dq2 k7
    have eN7 := k7 _ _ eN6 nNd nNl
    have eR7 := k7 _ _ eR6 hRd hRl
    have k07 := kq2.trans k7
    have bt := bij_of hts
    have htl : ts.length = n := by rw [hts.length_eq, rng_len]
    have R0 : Ren n (rowF ys) (nums us) (nums vs) := ⟨bf, hE, nums vs, by rw [hvs]; exact hu2.map (fun q : Int × Int => (rowF ys q.1, rowF ys q.2)), Flip.refl _⟩
    have hEv := R0.inF
    have nlv := Ren.nl R0 nl
    refine ⟨_, rfl, C, rfl, ⟨_, SqL.of eC7⟩, fun G nG => ?_⟩
    refine lc_list (K := K) (a := C) (xs := rf vs) (fun i Hg => ∃ ws : Zs, nums ws = ((nums vs).take i).map (fun q => if decide (rowF ts q.1 < rowF ts q.2) = true then q else (q.2, q.1)) ∧ PL Hg ws ∧ Hg G = some (.lst (rf ws)) ∧ Same H7 Hg) ⟨[], rfl, (fun _ m => nomatch m), upd_same, same_upd nG⟩ (fun i Hg _ hp => by obtain ⟨_, _, _, _, s⟩ := hp; exact s.seq (SqL.of eC7)) ?_ ?_
    · rintro i y Hg hj ⟨ws, hws, pw, eG, sg⟩
      obtain ⟨⟨z, z1, z2⟩, hz, rfl⟩ := rf_inv hj
      have mz := List.mem_of_getElem? hz
      have mn : (z1, z2) ∈ nums vs := List.mem_of_getElem? (nums_get hz)
      obtain ⟨i1, i2⟩ := hEv z1 z2 mn
      have htk : (nums vs).take (i + 1) = (nums vs).take i ++ [(z1, z2)] := by rw [List.take_add_one, nums_get hz]; rfl
      obtain ⟨a1, rfl⟩ : ∃ k : Nat, z1 = k := ⟨z1.toNat, by have := i1.1; omega⟩
      obtain ⟨a2, rfl⟩ : ∃ k : Nat, z2 = k := ⟨z2.toNat, by have := i2.1; omega⟩
      have h1 : a1 < ts.length := by have := i1.2; omega
      have h2 : a2 < ts.length := by have := i2.2; omega
      have hwl : ws.length ≤ 12 := by
        have := congrArg List.length hws
        unfold nums at this
        rw [List.length_map, List.length_map, List.length_take, List.length_map] at this
        omega
      have ez := sg _ _ (p7 _ mz)
      have eTg := sg _ _ eTA
      refine ⟨rfl, ?_⟩
      dsimp only [tYes]
      refine iteT ?_
      refine ⟨_, rfl, _, rfl, z, _, 0, .int a1, rfl, rfl, SqT.of ez, rfl, TA, _, (a1 : Int), _, rfl, rfl, SqL.of eTg, atI_nat (row_at h1), ?_⟩
      refine ⟨_, rfl, _, rfl, z, _, 1, .int a2, rfl, rfl, SqT.of ez, rfl, TA, _, (a2 : Int), _, rfl, rfl, SqL.of eTg, atI_nat (row_at h2), _, _, rfl, rfl, _, rfl, ?_⟩
      have sm : (rf ws).length < sizeLine := small_2000 (by rw [rf_len]; omega)
      by_cases c : rowF ts a1 < rowF ts a2
      · refine iteTb (decide_eq_true c) ?_
        refine ⟨_, rfl, _, eG, sm, ws ++ [(z, (a1 : Int), (a2 : Int))], ?_, (pw.app ez).put eG, by rw [upd_same, rf_app], same_put sg nG⟩
        rw [nums_app, hws, htk, List.map_append]
        congr 1
        show [((a1 : Int), (a2 : Int))] = [if decide (rowF ts (a1 : Int) < rowF ts (a2 : Int)) = true then ((a1 : Int), (a2 : Int)) else ((a2 : Int), (a1 : Int))]
        rw [if_pos (decide_eq_true c)]
      · refine iteFb (decide_eq_false c) ?_
        refine ⟨_, rfl, z, _, _, rfl, SqT.of ez, fun T2 nT2 => ?_⟩
        have s2 := same_upd (o := .tup [.int (a2 : Int), .int (a1 : Int)]) nT2
        refine ⟨_, s2 _ _ eG, sm, ws ++ [(T2, (a2 : Int), (a1 : Int))], ?_, ((pw.same s2).app upd_same).put (s2 _ _ eG), by rw [upd_same, rf_app], same_put (sg.trans s2) nG⟩
        rw [nums_app, hws, htk, List.map_append]
        congr 1
        show [((a2 : Int), (a1 : Int))] = [if decide (rowF ts (a1 : Int) < rowF ts (a2 : Int)) = true then ((a1 : Int), (a2 : Int)) else ((a2 : Int), (a1 : Int))]
        rw [if_neg (by rw [decide_eq_false c]; exact Bool.false_ne_true)]
    rintro H8 ⟨ws, hws, pws, eG, sg⟩
    have hlv : (rf vs).length = (nums vs).length := by unfold rf nums; rw [List.length_map, List.length_map]
    rw [hlv, List.take_length] at hws
    have hGl : G ≠ lg := (draw_new D7 nG).2.1
    have hGd : G ≠ d := (draw_new D7 nG).1
    have R1 : Ren n (rowF ys) (nums us) (nums ws) := Ren.flip R0 (by rw [hws]; exact flip_map _ _)
    have hφ : ∀ t h, (t, h) ∈ nums ws → rowF ts t < rowF ts h := fun t h m => by
      rw [hws] at m
      obtain ⟨q, mq, e⟩ := List.mem_map.mp m
      by_cases c : rowF ts q.1 < rowF ts q.2
      · rw [if_pos (decide_eq_true c)] at e
        cases e
        exact c
      · rw [if_neg (by rw [decide_eq_false c]; exact Bool.false_ne_true)] at e
        cases e
        obtain ⟨j1, j2⟩ := hEv q.1 q.2 mq
        have : rowF ts q.1 ≠ rowF ts q.2 := fun z => nlv q.1 q.2 mq (bt.inj _ _ j1 j2 z)
        omega
    have D8 := draw_same sg D7
    have k08 : Kept d lg H H8 := k07.trans (fun b o h _ _ => sg b o h)
    have eN8 := sg _ _ eN7
    have eR8 := sg _ _ eR7
    refine ⟨by show 1 ≤ sizeLine; decide, fun q0 n0' => ?_⟩
    have s0 := same_upd (o := .lst [.int 0]) n0'
    have e0 : (upd H8 q0 (.lst [.int 0])) q0 = some (.lst [.int 0]) := upd_same
    generalize upd H8 q0 (.lst [.int 0]) = H9 at s0 e0
    refine ⟨_, rfl, q0, (n : Int), [.int 0], rfl, rfl, e0, by omega, by omega, by rw [Int.toNat_natCast]; exact Nat.le_of_lt (small_2000 (by show 1 * _ ≤ 2000; omega)), fun M nM => ?_⟩
    rw [Int.toNat_natCast, rep1]
    have sM := same_upd (o := .lst (List.replicate n (V.int 0))) nM
    have eM : (upd H9 M (.lst (List.replicate n (V.int 0)))) M = some (.lst ((List.replicate n (0 : Int)).map V.int)) := by rw [upd_same, List.map_replicate]
    have s8M := s0.trans sM
    have D9 := draw_same s0 D8
    obtain ⟨nMd, nMl, nMc⟩ := draw_new D9 nM
    have k09 : Kept d lg H H9 := k08.trans (fun b o h _ _ => s0 b o h)
    have nM0 : H M = none := kept_none k09 nMd nMl nM
    generalize upd H9 M (.lst (List.replicate n (V.int 0))) = H10 at sM eM s8M
    have D10 := draw_same s8M D8
    have k10 : Kept d lg H H10 := k08.trans (fun b o h _ _ => s8M b o h)
    have eN10 := s8M _ _ eN8
    have eR10 := s8M _ _ eR8
    have eG10 := s8M _ _ eG
    have p10 := pws.same s8M
    have nNM : NA ≠ M := fun z => by have := s0 _ _ eN8; rw [z, nM] at this; cases this
    have nRM : R ≠ M := fun z => by have := s0 _ _ eR8; rw [z, nM] at this; cases this
    have nGM : G ≠ M := fun z => by have := s0 _ _ eG; rw [z, nM] at this; cases this
    refine ⟨_, rfl, R, _, rfl, .inr (SqT.of eR10), fun J2 hJ2 => ?_⟩
    refine for_e2 hJ2 (fun i σ Hx => ∃ (v6 v7 v9 v11 v12 : Option V) (mv : List Int), σ = [some (.ref d), some (.int n), some (.ref D), some (.ref R), some (.ref NA), some (.ref G), v6, v7, some (.ref TA), v9, some (.ref M), v11, v12] ∧ Hx M = some (.lst (mv.map V.int)) ∧ mv.length = n ∧ (∀ k : Nat, k < i → rowF mv (rowF ys k) = rowF L k) ∧ DrawAt Hx d lg cl ∧ Kept d lg H Hx ∧ Hx NA = some (.lst (ys.map V.int)) ∧ Hx R = some (.tup (L.map V.int)) ∧ Hx G = some (.lst (rf ws)) ∧ PL Hx ws)
      ⟨_, _, _, _, _, _, rfl, eM, List.length_replicate, (fun k h => absurd h (Nat.not_lt_zero _)), D10, k10, eN10, eR10, eG10, p10⟩ (fun i σ Hx _ hh => by obtain ⟨_, _, _, _, _, _, _, _, _, _, _, _, _, e, _⟩ := hh; exact stay_tup eR10 e) ?_ ?_
    · rintro i y U σ Hx hi ⟨v6, v7, v9, v11, v12, mv, rfl, eMx, hml, hmv, Dx, kx, eNx, eRx, eGx, px⟩ nU
      obtain ⟨l0, hl0, rfl⟩ := int_at hi
      have hiL : i < L.length := (List.getElem?_eq_some_iff.mp hl0).1
      have hin : i < n := by omega
      have eLi : rowF L i = l0 := by rw [rowF_nat, List.getD_eq_getElem?_getD, hl0]; rfl
      have sU := same_upd (o := .tup [.int (i : Nat), .int l0]) nU
      have eU : (upd Hx U (.tup [.int (i : Nat), .int l0])) U = some (.tup [.int (i : Nat), .int l0]) := upd_same
      have DU := draw_same sU Dx
      have kU' : Kept d lg H (upd Hx U (.tup [.int (i : Nat), .int l0])) := kx.trans (fun b o h _ _ => sU b o h)
      have eMU := sU _ _ eMx
      have eNU := sU _ _ eNx
      have eRU := sU _ _ eRx
      have eGU := sU _ _ eGx
      have pU := px.same sU
      generalize upd Hx U (.tup [.int (i : Nat), .int l0]) = HU at sU eU DU kU' eMU eNU eRU eGU pU
      obtain ⟨v, hv⟩ : ∃ v : Nat, rowF ys i = v := ⟨(rowF ys i).toNat, by have := (bf.to i (inr_nat hin)).1; omega⟩
      have hvn : v < n := by have := (bf.to i (inr_nat hin)).2; omega
      have hys' : (ys.map V.int)[i]? = some (.int (v : Int)) := by rw [row_at (by omega), hv]
      refine ⟨U, [.int (i : Nat), .int l0], rfl, SqT.of eU, rfl, .int (i : Nat), [.int l0], rfl, .int l0, [], rfl, rfl, ?_⟩
      refine ⟨_, rfl, _, rfl, _, rfl, _, rfl, NA, _, (i : Int), _, rfl, rfl, SqL.of eNU, atI_nat hys', M, _, (v : Int), v, rfl, rfl, eMU, ixN_n (by rw [List.length_map]; omega), ?_⟩
      rw [← List.map_set]
      refine ⟨_, _, _, _, _, mv.set v l0, rfl, upd_same, by rw [List.length_set]; exact hml, fun k hk => ?_, draw_put nMd nMl nMc DU, kept_put nM0 kU', by rw [upd_ne nNM]; exact eNU, by rw [upd_ne nRM]; exact eRU, by rw [upd_ne nGM]; exact eGU, pU.put eMU⟩
      have hkn : k < n := by omega
      have hk0 := (bf.to k (inr_nat hkn)).1
      rw [rowF_set (by omega) hk0]
      by_cases c : k = i
      · subst c
        rw [if_pos hv, eLi]
      · rw [if_neg (fun z => c (by have := bf.inj k i (inr_nat hkn) (inr_nat hin) (by rw [z, hv]); omega))]
        exact hmv k (by omega)
    · rintro σ Hx ⟨v6, v7, v9, v11, v12, mv, rfl, eMx, hml, hmv, Dx, kx, eNx, eRx, eGx, px⟩
      rw [List.length_map, hL] at hmv
      refine fun x nx => ⟨_, rfl, _, rfl, upd_same, netL n G, rfl, (by show 2 ≤ 15; decide), ?_⟩
      rw [show mergeK [] (netL n G) = netL n G from rfl]
      have sx : Same Hx (upd (upd Hx x (.dK [])) x (.dK (netL n G))) := fun b o h => by
        have nb : b ≠ x := fun z => by rw [z, nx] at h; cases h
        rw [upd_ne nb, upd_ne nb]
        exact h
      have ex : (upd (upd Hx x (.dK [])) x (.dK (netL n G))) x = some (.dK (netL n G)) := upd_same
      generalize upd (upd Hx x (.dK [])) x (.dK (netL n G)) = Hy at sx ex
      refine ⟨_, rfl, M, _, rfl, .inl ⟨SqL.of (sx _ _ eMx), fun m nm => ?_⟩⟩
      have sm := same_upd (o := .tup (mv.map V.int)) nm
      refine ⟨by show 2 ≤ sizeLine; decide, fun T nT => ?_⟩
      have sT := same_upd (o := .tup [.ref x, .ref m]) nT
      have s3 := (sx.trans sm).trans sT
      exact k T x G m ws (rowF ys) (rowF ts) mv _ ⟨sT _ _ (sm _ _ ex), s3 _ _ eGx, px.same s3⟩ hGl R1 hφ upd_same (sT _ _ upd_same) hml (fun p hp => by
        obtain ⟨q, rfl⟩ : ∃ k : Nat, p = k := ⟨p.toNat, by have := hp.1; omega⟩
        exact hmv q (by have := hp.2; omega)) (draw_same s3 Dx) (kx.trans (fun b o h _ _ => s3 b o h))
end
end K03


set_option Elab.async false
set_option maxRecDepth 100000
set_option maxHeartbeats 4000000
set_option linter.all false
namespace K03
open PySem PySem.Spec PyProof.Rows L2 NetM LamX
/-! what stays where tables of code may grow -/
section
variable {K : PySem.W.Frag} {H H' : Hp}
theorem TyX.ext (s : ExtN H H') {x : L2.V} {t : Value} (h : TyX K H x t) : TyX K H' x t := by
  cases h with
  | base h =>
    refine .base ?_
    cases h with
    | non => exact .non
    | bl x => exact .bl x
    | int x => exact .int x
    | str x => exact .str x
    | flt x => exact .flt x
    | lst e => exact .lst (s _ _ e (fun _ z => by cases z))
    | frz e => exact .frz (s _ _ e (fun _ z => by cases z))
    | tup e => exact .tup (s _ _ e (fun _ z => by cases z))
    | dK e => exact .dK (s _ _ e (fun _ z => by cases z))
    | dT e => exact .dT (s _ _ e (fun _ z => by cases z))
    | ins e c a b d f => exact .ins (s _ _ e (fun _ z => by cases z)) c a b d f
  | byt b => exact .byt b
  | set e => exact .set (s _ _ e (fun _ z => by cases z))
  | kList e c => exact .kList e c
  | kTuple e c => exact .kTuple e c
  | kDict e c => exact .kDict e c
  | fTuple e => exact .fTuple (s _ _ e (fun _ z => by cases z))
  | fDict e => exact .fDict (s _ _ e (fun _ z => by cases z))
theorem sqt_ext (s : ExtN H H') {a : Addr} {xs : List L2.V} (h : SqT K H a xs) : SqT K H' a xs := by
  rcases h with (h | ⟨o, h⟩) | h
  · exact .inl (.inl (s _ _ h (fun _ z => by cases z)))
  · exact .inl (.inr ⟨o, s _ _ h (fun _ z => by cases z)⟩)
  · exact .inr h
theorem sql_ext (s : ExtN H H') {a : Addr} {xs : List L2.V} (h : SqL K H a xs) : SqL K H' a xs := by
  rcases h with (h | ⟨o, h⟩) | h
  · exact .inl (.inl (s _ _ h (fun _ z => by cases z)))
  · exact .inl (.inr ⟨o, s _ _ h (fun _ z => by cases z)⟩)
  · exact .inr h
theorem sqa_ext (s : ExtN H H') {a : Addr} {xs : List L2.V} (h : SqA K H a xs) : SqA K H' a xs := by
  rcases h with h | h
  · exact .inl (sql_ext s h)
  · exact .inr (sqt_ext s h)
theorem prt_ext (s : ExtN H H') {zs : Zs} (p : PrT K H zs) : PrT K H' zs := fun z m => sqt_ext s (p z m)
theorem pra_ext (s : ExtN H H') {zs : Zs} (p : PrA K H zs) : PrA K H' zs := fun z m => sqa_ext s (p z m)
theorem pl_ext (s : ExtN H H') {zs : Zs} (p : PL H zs) : PL H' zs := fun z m => s _ _ (p z m) (fun _ z => by cases z)
theorem EndJ.ext (s : ExtN H H') {n : Int} {x : L2.V} {o : Option Int} : EndJ K H n x o → EndJ K H' n x o
  | .ok h => .ok h
  | .out h => .out h
  | .no h hb hc z => .no (TyX.ext s h) hb hc z
theorem ArJ.ext (s : ExtN H H') {n : Int} {x : L2.V} {o : Bool} : ArJ K H n x o → ArJ K H' n x o
  | .no h z => .no (TyX.ext s h) z
  | .many h z => .many (sqa_ext s h) z
  | .two h h0 h1 => .two (sqa_ext s h) (h0.ext s) (h1.ext s)
theorem ArL.ext (s : ExtN H H') {n : Int} : ∀ {xs : List L2.V} {bs : List Bool}, ArL K H n xs bs → ArL K H' n xs bs
  | _, _, .nil => .nil
  | _, _, .cons h r => .cons (h.ext s) (r.ext s)
theorem ArV.ext (s : ExtN H H') {n : Nat} {x : L2.V} {o : Option Zs} (h : ArV K H n x o) : ArV K H' n x o := by
  cases h with
  | no h z => exact .no (TyX.ext s h) z
  | bad h ha hl z => exact .bad (sqa_ext s h) (ha.ext s) hl z
  | ok h hp hl hE => exact .ok (sqa_ext s h) (pra_ext s hp) hl hE
theorem BadPl.ext (s : ExtN H H') {x : L2.V} (h : BadPl K H x) : BadPl K H' x := by
  obtain ⟨t, b, c, a1, a2, a3, a4⟩ := h
  exact ⟨t, b, c, TyX.ext s a1, a2, a3, a4⟩
theorem NetAt.ext {CN : Addr} (s : ExtN H H') {x : Addr} {n : Nat} {zs : List (Int × Int)} (h : NetAt K CN H x n zs) : NetAt K CN H' x n zs := by
  obtain ⟨dx, t, ws, a, b, c, d⟩ := h
  exact ⟨dx, t, ws, s _ _ a (fun _ z => by cases z), s _ _ b (fun _ z => by cases z), prt_ext s c, d⟩
theorem NoNet.ext {CN : Addr} (s : ExtN H H') {x : L2.V} (h : NoNet K CN H x) : NoNet K CN H' x := by
  obtain ⟨t, a, b⟩ := h
  exact ⟨t, TyX.ext s a, b⟩
theorem draw_ext (s : ExtN H H') {d lg cl : Addr} (D : DrawAt H d lg cl) : DrawAt H' d lg cl := by
  obtain ⟨⟨r, t, hd⟩, ⟨L, hL, hl⟩, ⟨M, hM, hc⟩, ncl⟩ := D
  exact ⟨⟨r, t, s _ _ hd (fun _ z => by cases z)⟩, ⟨L, hL, s _ _ hl (fun _ z => by cases z)⟩, ⟨M, hM, s _ _ hc (fun _ z => by cases z)⟩, ncl⟩
end
/-- kept but for the draws and the tables -/
def KeptN (d lg : Addr) (H H' : Hp) : Prop := ∀ b o, H b = some o → b ≠ d → b ≠ lg → (∀ ps, o ≠ .tbl ps) → H' b = some o
theorem KeptN.refl {d lg : Addr} {H : Hp} : KeptN d lg H H := fun _ _ e _ _ _ => e
theorem KeptN.trans {d lg : Addr} {H H1 H2 : Hp} (a : KeptN d lg H H1) (b : KeptN d lg H1 H2) : KeptN d lg H H2 := fun x o e h1 h2 n => b x o (a x o e h1 h2 n) h1 h2 n
theorem Kept.n {d lg : Addr} {H H' : Hp} (k : Kept d lg H H') : KeptN d lg H H' := fun b o e h1 h2 _ => k b o e h1 h2
theorem KeptN.ext {d lg : Addr} {H H' : Hp} (k : ExtN H H') : KeptN d lg H H' := fun b o e _ _ n => k b o e n
theorem KeptN.same {d lg : Addr} {H H' : Hp} (k : Same H H') : KeptN d lg H H' := fun b o e _ _ _ => k b o e
theorem ExtN.same {H H' : Hp} (k : Same H H') : ExtN H H' := fun b o e _ => k b o e
theorem Tabs.kept {T : List (Addr × Str)} {d lg cl : Addr} {H H' : Hp} (D : DrawAt H d lg cl) (k : Kept d lg H H') (t : Tabs T H) : Tabs T H' := fun p hp => by
  obtain ⟨⟨r, t', hd⟩, ⟨L, hL, hl⟩, _, _⟩ := D
  obtain ⟨ps, h1, h2, h3⟩ := t p hp
  have key : ∀ b o, H b = some o → (∀ kvs, o ≠ .dK kvs) → (∀ xs, o ≠ .lst xs) → H' b = some o := fun b o e n1 n2 => k b o e (fun z => by rw [z, hd] at e; exact n1 _ (Option.some.inj e).symm) (fun z => by rw [z, hl] at e; exact n2 _ (Option.some.inj e).symm)
  refine ⟨ps, key _ _ h1 (fun _ z => by cases z) (fun _ z => by cases z), h2, fun pos cv hc => ?_⟩
  obtain ⟨c, e1, e2⟩ := h3 pos cv hc
  exact ⟨c, e1, key _ _ e2 (fun _ z => by unfold CodeO at z; cases z) (fun _ z => by unfold CodeO at z; cases z)⟩
/-! a(e, ..), a holding a def of the text -/
def tCallV (P : Program) (w : World) (K : PySem.W.Frag) (mg : Str → Option Value) (base : Heap) (CX : CXT) (k i : Nat) (E : XK) (t : TA) : TE := fun σ H Q => ∃ (f : Addr) (fd : FuncData) (ps : List Str) (sp : Sp), FnOk P w K mg base CX k f fd ps sp ∧ PySem.W.keepIn K (.ref f) = true ∧ L2.Binds K fd ps [] ∧
  σ[i]? = some (some (.ref f)) ∧ t σ H fun vs H1 => sp vs H1 Q E
theorem pe_callVar {X : Cx} {CX : CXT} {k i : Nat} {E : XK} {a : Str} {e : Expr} {es : List Expr} {t : TA} {p pos : Pos} (hr : Room k X.A) (hx : Passes CX X E) (hN : X.N[i]? = some a) (hv : Vis X.env.scope a) (ha : PA X (e :: es) t)
    (hd : (a == ("__debug__" : Str)) = false := by decide) (hcd : (a == ("__classdict__" : Str)) = false := by decide) (he : starEach (e :: es) X.env = (false, eval e X.env) :: starEach es X.env := by rfl) (hpl : (backTo pos (starEach es X.env)).any (·.1) = false := by rfl) :
    PE X (.Call (.Name a p) (e :: es) [] pos) (tCallV X.prog X.w X.K X.mg X.base CX k i E t) := by
  refine ⟨fun pins s σ H Q I h => ?_⟩
  obtain ⟨f, fd, ps, sp, F, hk, hb, hs, ht⟩ := h
  refine wpAny_Call_Name_kw (thn ((pe_var (pos := p) (i := i) hN hv hd hcd).run pins s σ H (fun v H1 => v = .ref f ∧ H1 = H) I ⟨.ref f, hs, rfl, rfl⟩) fun u s1 ⟨v, H1, I1, r1, q1⟩ => ?_)
  obtain ⟨ev, eH⟩ := q1
  subst ev
  rw [eH] at I1
  obtain rfl : u = Value.ref f := r1
  refine PySem.W.callWith_K (h₀ := X.base) I1.ok.mod.kin hk (thn (ha.run pos pins s1 σ H _ I1 ht) fun us s2 ⟨vs, H2, I2, r, q⟩ => ⟨I2.kIn, ?_⟩) he hpl
  exact run_fn (dvs := []) F hr hb .nil hx I2 r (by rw [List.append_nil]; exact q)
/-! a def whose code object is known -/
structure FunC (K : PySem.W.Frag) (x qual : Str) (st : Stmt) (f : Addr) (fd : FuncData) (c : Addr) : Prop where
  ex : ∃ (oc : Value) (od : Option Addr) (kV doc pm : Value) (an : Option Addr) (ct : Value) (osl : Array (Option Value)),
    fd = PySem.W.fnOf x qual (defArgs st) (defBody st) (defScope st) .none kV doc pm an (.ref c) ct ∧ K.lookup f = some ⟨oc, od, .func fd, osl⟩ ∧ PySem.W.codeIn K (.ref c) qual = true
  kp : PySem.W.keepIn K (.ref f) = true
theorem FunC.f {K : PySem.W.Frag} {x qual : Str} {st : Stmt} {f : Addr} {fd : FuncData} {c : Addr} (F : FunC K x qual st f fd c) : Fun K x qual st f fd := by
  obtain ⟨oc, od, kV, doc, pm, an, ct, osl, a, b, d⟩ := F.ex
  exact ⟨⟨oc, od, kV, doc, pm, an, _, ct, osl, a, b, d⟩, F.kp⟩
theorem FunC.ok {P : Program} {w : World} {K : PySem.W.Frag} {mg : Str → Option Value} {base : Heap} {x qual : Str} {st : Stmt} {f c : Addr} {fd : FuncData} {N ps : List Str} {k : Nat} {sp : Sp} (F : FunC K x qual st f fd c) (S : FnScope N ps (defScope st)) (len : ∀ vs H Q E, sp vs H Q E → vs.length = ps.length)
    (hbody : ∀ (A : Around) (outer : List Env) (s : Shared) (H : Hp) (vs : List L2.V) (Q : VK) (E : XK), Room k (A.deeper (envOfC qual (defScope st) s.heap.objs.size f (.ref c))) → sp vs H Q E →
      ∃ t, PSs (cxOf L2.CX0 P w K mg base N qual (defScope st) f (.ref c) A outer s H E).nox (defBody st) t ∧ t { nx := fun _ H' => Q .non H', rt := Q } (L2.start N vs) H) : FnOk P w K mg base L2.CX0 (k + 1) f fd ps sp := by
  obtain ⟨oc, od, kV, doc, pm, an, ct, osl, rfl, lk, hcd⟩ := F.ex
  refine fn_of lk hcd S len fun A outer s H vs Q E hr hsp => ?_
  obtain ⟨t, h, q⟩ := hbody A outer s H vs Q E hr hsp
  exact ⟨t, h.nox, q⟩
end K03


set_option Elab.async false
set_option maxRecDepth 100000
set_option maxHeartbeats 4000000
set_option linter.all false
namespace K03
open PySem PySem.Spec PyProof.Rows L2 NetM GL
/-! how long what is shown may be -/
def Sz (m : Nat) (d : PyData) : Prop := d.shown.length ≤ m
theorem from_le (m : Nat) : ∀ (ts : List Str) (k : Nat) (acc : Str), (∀ t ∈ ts, t.length ≤ m) → (textFrom k acc ts).length ≤ acc.length + ts.length * (m + 2)
  | [], k, acc, _ => by show acc.length ≤ _; omega
  | t :: r, k, acc, h => by
    have ih := from_le m r (k + 1) (acc ++ (if k > 0 then ", " else "" : String) ++ t) fun x hx => h x (List.mem_cons_of_mem _ hx)
    have e : (acc ++ (if k > 0 then ", " else "" : String) ++ t).length = acc.length + (if k > 0 then 2 else 0) + t.length := by
      rw [strLen_append, strLen_append]
      split <;> rfl
    have ht := h t (List.mem_cons_self ..)
    rw [e] at ih
    have e2 : (t :: r).length * (m + 2) = r.length * (m + 2) + (m + 2) := by rw [List.length_cons, Nat.add_mul, Nat.one_mul]
    rw [e2]
    show (textFrom (k + 1) (acc ++ (if k > 0 then ", " else "" : String) ++ t) r).length ≤ _
    have h2 : (if k > 0 then 2 else 0 : Nat) ≤ 2 := by split <;> omega
    exact Nat.le_trans ih (by omega)
theorem list_le {m : Nat} {ts : List Str} (h : ∀ t ∈ ts, t.length ≤ m) : (listText ts).length ≤ ts.length * (m + 2) + 2 := by
  have := from_le m ts 0 "[" h
  unfold listText
  rw [strLen_append]
  have e1 : (("[" : String) : Str).length = 1 := rfl
  have e2 : (("]" : String) : Str).length = 1 := rfl
  rw [e1] at this
  rw [e2]
  omega
theorem piled_le {m : Nat} : ∀ {ts : List Str}, (∀ t ∈ ts, t.length ≤ m) → piled ts ≤ ts.length * (m + 2)
  | [], _ => by simp [piled]
  | t :: r, h => by
    have ih := piled_le (m := m) (ts := r) fun x hx => h x (List.mem_cons_of_mem _ hx)
    have ht := h t (List.mem_cons_self ..)
    rw [piled_cons, List.length_cons, Nat.add_mul, Nat.one_mul]
    omega
theorem tup_le {m : Nat} {ts : List Str} (h : ∀ t ∈ ts, t.length ≤ m) : (tupleText ts).length ≤ ts.length * (m + 2) + 3 := by
  unfold tupleText
  rw [strLen_append, strLen_append]
  have e1 : (("(" : String) : Str).length = 1 := rfl
  have e2 : ∀ c : Bool, (((if c = true then ",)" else ")" : String)) : Str).length ≤ 2 := fun c => by cases c <;> decide
  have e3 := e2 (ts.length == 1)
  rw [e1]
  cases ts with
  | nil =>
    have : (Str.join ", " ([] : List Str)).length = 0 := rfl
    omega
  | cons t r =>
    have h1 := join_length_add (t :: r) (by simp)
    have h2 := piled_le h
    omega
theorem all_mem {ds : List PyData} : ∀ {t : Str}, t ∈ PyData.shownAll ds → ∃ d ∈ ds, t = d.shown := by
  induction ds with
  | nil => intro t h; cases h
  | cons d r ih =>
    intro t h
    rcases List.mem_cons.mp h with h | h
    · exact ⟨d, List.mem_cons_self .., h⟩
    · obtain ⟨d', hd, e⟩ := ih h
      exact ⟨d', List.mem_cons_of_mem _ hd, e⟩
theorem all_len (ds : List PyData) : (PyData.shownAll ds).length = ds.length := by
  induction ds with
  | nil => rfl
  | cons d r ih => show (PyData.shownAll r).length + 1 = _; rw [ih]; rfl
theorem sz_list {m : Nat} {ds : List PyData} (h : ∀ d ∈ ds, Sz m d) : Sz (ds.length * (m + 2) + 2) (.list ds) := by
  show (listText (PyData.shownAll ds)).length ≤ _
  rw [← all_len ds]
  exact list_le fun t ht => by obtain ⟨d, hd, e⟩ := all_mem ht; rw [e]; exact h d hd
theorem sz_tup {m : Nat} {ds : List PyData} (h : ∀ d ∈ ds, Sz m d) : Sz (ds.length * (m + 2) + 3) (.tuple ds) := by
  show (tupleText (PyData.shownAll ds)).length ≤ _
  rw [← all_len ds]
  exact tup_le fun t ht => by obtain ⟨d, hd, e⟩ := all_mem ht; rw [e]; exact h d hd
/-- small numbers, pairs of them, lists of these -/
theorem sz_int {i : Int} (h : 0 ≤ i ∧ i < 1000) : Sz 3 (.int i) := by
  obtain ⟨k, rfl⟩ := Int.eq_ofNat_of_zero_le h.1
  have hk : k < 1000 := by omega
  have key : ((List.range 1000).all fun k => decide ((PyData.int (k : Int)).shown.length ≤ 3)) = true := by decide +kernel
  show (PyData.int (k : Int)).shown.length ≤ 3
  exact of_decide_eq_true (List.all_eq_true.mp key k (List.mem_range.mpr hk))
theorem sh_int {i : Int} (h : 0 ≤ i ∧ i < 1000) : (PyData.int i).showable = true := by
  obtain ⟨k, rfl⟩ := Int.eq_ofNat_of_zero_le h.1
  have hk : k < 1000 := by omega
  have key : ((List.range 1000).all fun k => (PyData.int (k : Int)).showable) = true := by decide +kernel
  exact List.all_eq_true.mp key k (List.mem_range.mpr hk)
end K03


set_option Elab.async false
set_option maxRecDepth 100000
set_option maxHeartbeats 4000000
set_option linter.all false
namespace K03
open PySem PySem.Spec PyProof.Rows L2 NetM LamX GL
open PySem.W (KitX InstAt Looks)

section
variable {X : Cx} {CX : CXT} {k : Nat} {f : Addr} {fd : FuncData} {ps ks : List Str} {sp : Sp} {E : XK} {x : Str} {p pos : Pos} {kws : List Keyword} {tk : TA} {g : List Value → List Value → List Value} {gV : List L2.V → List L2.V → List L2.V}
/-- f(k = v, ..) -/
theorem pe_callK0 (F : FnOk X.prog X.w X.K X.mg X.base CX k f fd ps sp) (hr : Room k X.A) (hg : Gl X x) (hm : X.mg x = some (.ref f)) (hk : PySem.W.keepIn X.K (.ref f) = true) (hb : KBinds X.K fd ps ks g gV) (hx : Passes CX X E) (hkw : PK X kws tk)
    (hall : (backToKw pos (keywordEach kws X.env)).all (·.1.isSome) = true := by rfl) (hks : (backToKw pos (keywordEach kws X.env)).filterMap (·.1) = ks := by rfl) (hdb : (x == ("__debug__" : Str)) = false := by decide)
    (hpl : (backToKw pos (keywordEach kws X.env)).any (·.1.isNone) = false := by rfl) : PE X (.Call (.Name x p) [] kws pos) (tCallK sp gV E tNil tk) := by
  refine ⟨fun pins s σ H Q I h => ?_⟩
  refine wpAny_Call_Name_kw (ld_glob I hg hm ?_ hdb)
  refine PySem.W.callWith_KW0 (h₀ := X.base) I.ok.mod.kin hk hall ?_ hpl
  refine thn (hkw.run pos pins s σ H _ I h) fun ws s1 ⟨zs, H1, I1, rz, q1⟩ => ⟨I1.kIn, ?_⟩
  rw [hks]
  exact run_fnk (us := []) (vs := []) F hr hb hx I1 .nil rz q1
end

theorem rdv {K : PySem.W.Frag} {H : Hp} {v : L2.V} {d : PyData} (h : Dp K H v d) (n : d.hasDict = false) : RdV K H v d := fun X pins σ s u e I r => by
  subst e
  obtain ⟨as, R⟩ := Dp.reads I d v u h r
  exact ⟨as, R, fun z => by rw [n] at z; cases z⟩
theorem nd_ints (l : List Int) : PyData.hasDictAll (l.map PyData.int) = false := by
  induction l with
  | nil => rfl
  | cons x r ih => simp [PyData.hasDictAll, PyData.hasDict, ih]
def Sm9 (i : Int) : Prop := 0 ≤ i ∧ i < 1000
theorem sh_ints {l : List Int} (h : ∀ i ∈ l, Sm9 i) : PyData.showableAll (l.map PyData.int) = true := by
  induction l with
  | nil => rfl
  | cons x r ih =>
    show ((PyData.int x).showable && PyData.showableAll (r.map PyData.int)) = true
    rw [sh_int (h x (List.mem_cons_self ..)), ih fun i m => h i (List.mem_cons_of_mem _ m)]
    rfl
theorem Sz.mono {m m' : Nat} {d : PyData} (h : Sz m d) (e : m ≤ m') : Sz m' d := Nat.le_trans h e
theorem sz_ints {l : List Int} (h : ∀ i ∈ l, Sm9 i) (hl : l.length ≤ 8) : Sz 42 (.list (l.map PyData.int)) := by
  refine (sz_list (m := 3) (ds := l.map PyData.int) fun d hd => ?_).mono ?_
  · obtain ⟨i, hi, rfl⟩ := List.mem_map.mp hd
    exact sz_int (h i hi)
  · rw [List.length_map]; omega
theorem shown_bl (b : Bool) : Shown (.bool b) := by
  refine ⟨rfl, by simp [PyData.depth], ?_⟩
  cases b <;> decide
def bk {α : Type} (us ws : List α) : List α := us ++ ws.reverse
theorem vals_rev : ∀ {zs : List L2.V} {ws : List Value}, Vals zs ws → Vals zs.reverse ws.reverse
  | _, _, .nil => .nil
  | _, _, .cons a r => by
    rw [List.reverse_cons, List.reverse_cons]
    exact (vals_rev r).append (.cons a .nil)
theorem bk_rel {vs : List L2.V} {us : List Value} {zs : List L2.V} {ws : List Value} (r1 : Vals vs us) (r2 : Vals zs ws) : Vals (bk vs zs) (bk us ws) := r1.append (vals_rev r2)
abbrev fnT (x : Str) (st : Stmt) (kV doc pm : Value) (an : Option Addr) (cdv ct : Value) : FuncData := PySem.W.fnOf x x (defArgs st) (defBody st) (defScope st) .none kV doc pm an cdv ct
theorem len_bk {us ws : List Value} : (bk us ws).length = us.length + ws.length := by unfold bk; rw [List.length_append, List.length_reverse]
theorem two1 {us ws : List Value} (h : us.length + ws.length = 1) : (∃ u, us = [u] ∧ ws = []) ∨ (∃ u, us = [] ∧ ws = [u]) := by
  match us, ws with
  | [], [u] => exact .inr ⟨u, rfl, rfl⟩
  | [u], [] => exact .inl ⟨u, rfl, rfl⟩
  | [], [] => simp at h
  | [], _ :: _ :: _ => simp at h
  | [_], _ :: _ => simp at h
  | _ :: _ :: _, _ => simp at h; omega
theorem two2 {us ws : List Value} (h : us.length + ws.length = 2) : (∃ u v, us = [u, v] ∧ ws = []) ∨ (∃ u v, us = [u] ∧ ws = [v]) ∨ (∃ u v, us = [] ∧ ws = [v, u]) := by
  cases us with
  | nil => 
    match ws with
    | [v, u] => exact .inr (.inr ⟨u, v, rfl, rfl⟩)
    | [] => simp at h
    | [_] => simp at h
    | _ :: _ :: _ :: _ => simp at h
  | cons u us =>
    have h1 : us.length + ws.length = 1 := by rw [List.length_cons] at h; omega
    rcases two1 h1 with ⟨v, rfl, rfl⟩ | ⟨v, rfl, rfl⟩
    · exact .inl ⟨u, v, rfl, rfl⟩
    · exact .inr (.inl ⟨u, v, rfl, rfl⟩)
theorem two3 {us ws : List Value} (h : us.length + ws.length = 3) : (∃ u v w, us = [u, v, w] ∧ ws = []) ∨ (∃ u v w, us = [u, v] ∧ ws = [w]) ∨ (∃ u v w, us = [u] ∧ ws = [w, v]) ∨ (∃ u v w, us = [] ∧ ws = [w, v, u]) := by
  cases us with
  | nil => 
    match ws with
    | [w, v, u] => exact .inr (.inr (.inr ⟨u, v, w, rfl, rfl⟩))
    | [] => simp at h
    | [_] => simp at h
    | [_, _] => simp at h
    | _ :: _ :: _ :: _ :: _ => simp at h
  | cons u us =>
    have h1 : us.length + ws.length = 2 := by rw [List.length_cons] at h; omega
    rcases two2 h1 with ⟨v, w, rfl, rfl⟩ | ⟨v, w, rfl, rfl⟩ | ⟨v, w, rfl, rfl⟩
    · exact .inl ⟨u, v, w, rfl, rfl⟩
    · exact .inr (.inl ⟨u, v, w, rfl, rfl⟩)
    · exact .inr (.inr (.inl ⟨u, v, w, rfl, rfl⟩))
theorem kb1 {K : PySem.W.Frag} {x a : Str} {st : Stmt} {f : Addr} {fd : FuncData} (F : Fun K x x st f fd)
    (h : ∀ (kV doc pm : Value) (an : Option Addr) (cdv ct u : Value), bindArgs (fnT x st kV doc pm an cdv ct) ⟨[u], []⟩ = pure [(a, u)] ∧ bindArgs (fnT x st kV doc pm an cdv ct) ⟨[], [(a, u)]⟩ = pure [(a, u)]) : KBinds K fd [a] [a] bk bk := by
  obtain ⟨oc, od, kV, doc, pm, an, cdv, ct, osl, rfl, lk, hcd⟩ := F.ex
  refine ⟨fun s us ws _ hl => ?_, bk_rel⟩
  rw [len_bk] at hl
  rcases two1 hl with ⟨u, rfl, rfl⟩ | ⟨u, rfl, rfl⟩
  · exact .of_eq (h kV doc pm an cdv ct u).1
  · exact .of_eq (h kV doc pm an cdv ct u).2
theorem kb2 {K : PySem.W.Frag} {x a b : Str} {st : Stmt} {f : Addr} {fd : FuncData} (F : Fun K x x st f fd)
    (h : ∀ (kV doc pm : Value) (an : Option Addr) (cdv ct u v : Value), bindArgs (fnT x st kV doc pm an cdv ct) ⟨[u, v], []⟩ = pure [(a, u), (b, v)] ∧ bindArgs (fnT x st kV doc pm an cdv ct) ⟨[u], [(b, v)]⟩ = pure [(a, u), (b, v)] ∧ bindArgs (fnT x st kV doc pm an cdv ct) ⟨[], [(b, v), (a, u)]⟩ = pure [(a, u), (b, v)]) : KBinds K fd [a, b] [b, a] bk bk := by
  obtain ⟨oc, od, kV, doc, pm, an, cdv, ct, osl, rfl, lk, hcd⟩ := F.ex
  refine ⟨fun s us ws _ hl => ?_, bk_rel⟩
  rw [len_bk] at hl
  rcases two2 hl with ⟨u, v, rfl, rfl⟩ | ⟨u, v, rfl, rfl⟩ | ⟨u, v, rfl, rfl⟩
  · exact .of_eq (h kV doc pm an cdv ct u v).1
  · exact .of_eq (h kV doc pm an cdv ct u v).2.1
  · exact .of_eq (h kV doc pm an cdv ct u v).2.2
theorem kb3 {K : PySem.W.Frag} {x a b c : Str} {st : Stmt} {f : Addr} {fd : FuncData} (F : Fun K x x st f fd)
    (h : ∀ (kV doc pm : Value) (an : Option Addr) (cdv ct u v w : Value), bindArgs (fnT x st kV doc pm an cdv ct) ⟨[u, v, w], []⟩ = pure [(a, u), (b, v), (c, w)] ∧ bindArgs (fnT x st kV doc pm an cdv ct) ⟨[u, v], [(c, w)]⟩ = pure [(a, u), (b, v), (c, w)] ∧ bindArgs (fnT x st kV doc pm an cdv ct) ⟨[u], [(c, w), (b, v)]⟩ = pure [(a, u), (b, v), (c, w)] ∧ bindArgs (fnT x st kV doc pm an cdv ct) ⟨[], [(c, w), (b, v), (a, u)]⟩ = pure [(a, u), (b, v), (c, w)]) : KBinds K fd [a, b, c] [c, b, a] bk bk := by
  obtain ⟨oc, od, kV, doc, pm, an, cdv, ct, osl, rfl, lk, hcd⟩ := F.ex
  refine ⟨fun s us ws _ hl => ?_, bk_rel⟩
  rw [len_bk] at hl
  rcases two3 hl with ⟨u, v, w, rfl, rfl⟩ | ⟨u, v, w, rfl, rfl⟩ | ⟨u, v, w, rfl, rfl⟩ | ⟨u, v, w, rfl, rfl⟩
  · exact .of_eq (h kV doc pm an cdv ct u v w).1
  · exact .of_eq (h kV doc pm an cdv ct u v w).2.1
  · exact .of_eq (h kV doc pm an cdv ct u v w).2.2.1
  · exact .of_eq (h kV doc pm an cdv ct u v w).2.2.2
/-- isinstance(e, c), e a caught exception without a dict that lives on -/
def rIsR0 (K : PySem.W.Frag) : List V → Hp → VK → Prop := fun xs H Q => ∃ (a D : Addr) (c : V) (cv : Value) (b : Bool), xs = [.ref a, c] ∧ H a = some (ExR (.ref D) none a) ∧ ExcC K D ∧ (∀ u, RelV c u → u = cv) ∧ PySem.W.kitOne K (.ref D) cv = some b ∧ Q (.bl b) H
theorem call_isR0 {X : Cx} : CallR X (.builtin "isinstance") (rIsR0 X.K) := by
  intro pins s σ H xs us Q I r h
  obtain ⟨a, D, c, cv, b, rfl, ha, C, hcv, e, q⟩ := h
  cases r with
  | cons rx rr =>
    cases rr with
    | cons rt rr =>
      cases rr
      cases rx
      have ec := hcv _ rt
      subst ec
      obtain ⟨oe, vs, ho, ⟨z1, z2⟩, hdt⟩ := exR_at I.hok ha
      have J : InstAt s.heap a oe D none := by
        obtain ⟨oc, od, oda, osl⟩ := oe
        dsimp only at z1 z2 hdt
        subst z1 z2 hdt
        exact ⟨ho, rfl, rfl, trivial⟩
      exact PySem.W.kia_one (PySem.W.handS_kitx_exc C.hg C.hk C.hs C.hd C.ha C.hn C.ht C.hm) I.kIn J e (fun z => nomatch z) fun tk => ⟨.bl b, H, I.kept (t' := tk) fun _ _ z => z, rfl, q⟩
/-- one that doesn't -/
structure Fn0 (P : Program) (w : World) (K : PySem.W.Frag) (mg : Str → Option Value) (base : Heap) (n : Nat) (x : Str) (ps : List Str) (sp : Sp) where
  f : Addr
  fd : FuncData
  ok : FnOk P w K mg base CX0 n f fd ps sp
  b : L2.Binds K fd ps []
  g : mg x = some (.ref f)
  kp : PySem.W.keepIn K (.ref f) = true
structure FnG1 (P : Program) (w : World) (K : PySem.W.Frag) (mg : Str → Option Value) (base : Heap) (n : Nat) (x : Str) (ps : List Str) (sp : Sp) where
  f : Addr
  fd : FuncData
  ok : FnG P w K mg base CX0 n f fd ps sp
  b : L2.Binds K fd ps []
  g : mg x = some (.ref f)
  kp : PySem.W.keepIn K (.ref f) = true
/-- a def that may raise, as it is called -/
structure FnX (P : Program) (w : World) (K : PySem.W.Frag) (mg : Str → Option Value) (base : Heap) (n : Nat) (x : Str) (ps : List Str) (sp : Sp) where
  f : Addr
  fd : FuncData
  ok : FnOk P w K mg base (L2.CX P w) n f fd ps sp
  b : L2.Binds K fd ps []
  g : mg x = some (.ref f)
  kp : PySem.W.keepIn K (.ref f) = true
theorem NuJ.ext {K : PySem.W.Frag} {H H' : Hp} (s : ExtN H H') {x : L2.V} {o : Option Int} : NuJ K H x o → NuJ K H' x o
  | .int i => .int i
  | .bl b => .bl b
  | .no h z zb => .no (TyX.ext s h) z zb
theorem ko_non (K : PySem.W.Frag) : PySem.W.kitOne K (.type "NoneType") (.type "int") = some false ∧ PySem.W.kitOne K (.type "NoneType") (.type "bool") = some false := ⟨by kernel_rfl, by kernel_rfl⟩
theorem ko_str (K : PySem.W.Frag) : PySem.W.kitOne K (.type "str") (.type "int") = some false ∧ PySem.W.kitOne K (.type "str") (.type "bool") = some false := ⟨by kernel_rfl, by kernel_rfl⟩
theorem ko_tup (K : PySem.W.Frag) : PySem.W.kitOne K (.type "tuple") (.type "int") = some false ∧ PySem.W.kitOne K (.type "tuple") (.type "bool") = some false := ⟨by kernel_rfl, by kernel_rfl⟩
theorem KeptN.put {d lg q : Addr} {H0 Hn Hx : Hp} {o : HO} (n : KeptN d lg H0 Hn) (nq : Hn q = none) (k : KeptN d lg H0 Hx) : KeptN d lg H0 (upd Hx q o) := fun b u e h1 h2 ht => by
  rw [upd_ne (fun z => by have := n b u e h1 h2 ht; rw [z, nq] at this; cases this)]
  exact k b u e h1 h2 ht
theorem Tabs.put {T : List (Addr × Str)} {H : Hp} {q : Addr} {xs : List L2.V} {o : HO} (e : H q = some (.lst xs)) (t : Tabs T H) : Tabs T (upd H q o) := fun p hp => by
  obtain ⟨ps, h1, h2, h3⟩ := t p hp
  refine ⟨ps, by rw [upd_ne (fun z => by rw [z, e] at h1; cases h1)]; exact h1, h2, fun pos cv hc => ?_⟩
  obtain ⟨c, e1, e2⟩ := h3 pos cv hc
  exact ⟨c, e1, by rw [upd_ne (fun z => by rw [z, e] at e2; unfold CodeO at e2; cases e2)]; exact e2⟩
theorem exr_ne {cls : Value} {d : Option Addr} {a : Addr} : (∀ ps, ExR cls d a ≠ .tbl ps) ∧ (∀ xs, ExR cls d a ≠ .lst xs) ∧ ∀ ks, ExR cls d a ≠ .dK ks := ⟨fun _ z => (by unfold ExR at z; cases z), fun _ z => (by unfold ExR at z; cases z), fun _ z => (by unfold ExR at z; cases z)⟩
structure Tc (base : Heap) (mg : Str → Option Value) (T : List (Addr × Str)) (q : Str) (c Pt : Addr) : Prop where
  TB : TabB base mg c Pt
  mem : (Pt, q ++ ".<locals>." ++ "<lambda>") ∈ T
  uq : ∀ p ∈ T, p.1 = Pt → p.2 = q ++ ".<locals>." ++ "<lambda>"
theorem rp_bad {CB : Addr} {H H1 : Hp} (s : Same H H1) : Rp CB H1 (fun cls dd H' => cls = .ref CB ∧ dd = none ∧ Same H H') := fun H' s' => ⟨rfl, rfl, s.trans s'⟩
theorem FunC.okG {P : Program} {w : World} {K : PySem.W.Frag} {mg : Str → Option Value} {base : Heap} {x qual : Str} {st : Stmt} {f c : Addr} {fd : FuncData} {N ps : List Str} {k : Nat} {sp : Sp} (F : FunC K x qual st f fd c) (S : FnScope N ps (defScope st)) (len : ∀ vs H Q E, sp vs H Q E → vs.length = ps.length)
    (hbody : ∀ (A : Around) (outer : List Env) (s : Shared) (H : Hp) (vs : List L2.V) (Q : VK) (E : XK), A.guards = some [] → Room k (A.deeper (envOfC qual (defScope st) s.heap.objs.size f (.ref c))) → sp vs H Q E →
      ∃ t, PSs (cxOf L2.CX0 P w K mg base N qual (defScope st) f (.ref c) A outer s H E).nox (defBody st) t ∧ t { nx := fun _ H' => Q .non H', rt := Q } (L2.start N vs) H) : FnG P w K mg base L2.CX0 (k + 1) f fd ps sp := by
  obtain ⟨oc, od, kV, doc, pm, an, ct, osl, rfl, lk, hcd⟩ := F.ex
  refine fng_of lk hcd S len fun A outer s H vs Q E hga hr hsp => ?_
  obtain ⟨t, h, q⟩ := hbody A outer s H vs Q E hga hr hsp
  exact ⟨t, h.nox, q⟩
theorem op_addK {X : Cx} : OpR X (binaryOp .Add) (fun x y H Q => ∃ i j k : Int, x = .int i ∧ y = .int j ∧ i + j = k ∧ Q (.int k) H) := by
  intro pins s σ H x y v u Q I rx ry h
  obtain ⟨i, j, k, ex, ey, rfl, q⟩ := h
  exact op_add pins s σ H x y v u Q I rx ry ⟨i, j, ex, ey, q⟩
end K03


set_option Elab.async false
set_option maxRecDepth 100000
set_option maxHeartbeats 4000000
set_option linter.all false
/-! what stays where tables of code grow; errors that are caught; wrong rows -/
namespace K03
open PySem PySem.Spec PyProof.Rows L2 NetM LamX GL
theorem NuL.ext {K : PySem.W.Frag} {H H' : Hp} (s : ExtN H H') : ∀ {xs : List V} {os : List (Option Int)}, NuL K H xs os → NuL K H' xs os
  | _, _, .nil => .nil
  | _, _, .cons h r => .cons (NuJ.ext s h) (r.ext s)
theorem RowV.ext {K : PySem.W.Frag} {H H' : Hp} (s : ExtN H H') {n : Nat} {x : V} {b : Bool} : RowV K H n x b → RowV K H' n x b
  | .no h z => .no (TyX.ext s h) z
  | .len h z l => .len (sqt_ext s h) z l
  | .row h l nl => .row (sqt_ext s h) l (nl.ext s)
theorem NetG.ext {K : PySem.W.Frag} {CN : Addr} {H H' : Hp} {a : Addr} {n : Nat} {zs : Prs} (s : ExtN H H') (N : NetG K CN H a n zs) : NetG K CN H' a n zs := { N with at_ := NetAt.ext s N.at_ }
theorem NetG.same {K : PySem.W.Frag} {CN : Addr} {H H' : Hp} {a : Addr} {n : Nat} {zs : Prs} (s : Same H H') (N : NetG K CN H a n zs) : NetG K CN H' a n zs := N.ext (ExtN.same s)
theorem LNet.ext {H H' : Hp} {x ps : Addr} {n : Nat} {us : Zs} (s : ExtN H H') (h : LNet H x ps n us) : LNet H' x ps n us := ⟨s _ _ h.e (fun _ z => by cases z), s _ _ h.et (fun _ z => by cases z), pl_ext s h.p⟩
/-- a dict of another shape than the draws' -/
theorem netL_ne {n : Nat} {ps lg cl : Addr} {r t : Int} : HO.dK (netL n ps) ≠ HO.dK (drawL lg cl r t) := fun z => by
  have := HO.dK.inj z
  unfold netL drawL at this
  simp at this
theorem LNet.kept {H H' : Hp} {d lg cl x ps : Addr} {n : Nat} {us : Zs} (D : DrawAt H d lg cl) (k : KeptN d lg H H') (pl : ps ≠ lg) (h : LNet H x ps n us) : LNet H' x ps n us := by
  obtain ⟨⟨r, t, hd⟩, ⟨L, hL, hl⟩, _, _⟩ := id D
  refine ⟨k _ _ h.e (fun z => ?_) (fun z => ?_) (fun _ z => by cases z), k _ _ h.et (fun z => ?_) pl (fun _ z => by cases z), fun z m => k _ _ (h.p z m) (fun e => ?_) (fun e => ?_) (fun _ z => by cases z)⟩
  · have := h.e
    rw [z, hd] at this
    exact netL_ne (Option.some.inj this).symm
  · have := h.e
    rw [z, hl] at this
    cases this
  · have := h.et
    rw [z, hd] at this
    cases this
  · have := h.p z m
    rw [e, hd] at this
    cases this
  · have := h.p z m
    rw [e, hl] at this
    cases this
theorem NetAt.kept {K : PySem.W.Frag} {CN : Addr} {H H' : Hp} {d lg cl a : Addr} {n : Nat} {zs : Prs} (D : DrawAt H d lg cl) (k : KeptN d lg H H') (N : NetAt K CN H a n zs) : NetAt K CN H' a n zs := by
  obtain ⟨⟨r, t0, hd⟩, ⟨L, hL, hl⟩, _, _⟩ := id D
  obtain ⟨dx, t, us, e, et, p, rfl⟩ := N
  have key : ∀ {b : Addr} {o : HO}, H b = some o → (∀ ks, o ≠ .dK ks) → (∀ xs, o ≠ .lst xs) → (∀ ps, o ≠ .tbl ps) → H' b = some o := fun {b o} e n1 n2 n3 => k b o e (fun z => by rw [z, hd] at e; exact n1 _ (Option.some.inj e).symm) (fun z => by rw [z, hl] at e; exact n2 _ (Option.some.inj e).symm) n3
  refine ⟨dx, t, us, key e (fun _ z => by cases z) (fun _ z => by cases z) (fun _ z => by cases z), key et (fun _ z => by cases z) (fun _ z => by cases z) (fun _ z => by cases z), fun z m => ?_, rfl⟩
  rcases p z m with (h | ⟨o, h⟩) | h
  · exact .inl (.inl (key h (fun _ z => by cases z) (fun _ z => by cases z) (fun _ z => by cases z)))
  · exact .inl (.inr ⟨o, key h (fun _ z => by cases z) (fun _ z => by cases z) (fun _ z => by cases z)⟩)
  · exact .inr h
theorem NetG.kept {K : PySem.W.Frag} {CN : Addr} {H H' : Hp} {d lg cl a : Addr} {n : Nat} {zs : Prs} (D : DrawAt H d lg cl) (k : KeptN d lg H H') (N : NetG K CN H a n zs) : NetG K CN H' a n zs := { N with at_ := NetAt.kept D k N.at_ }
theorem tup_kept {H H' : Hp} {d lg cl a : Addr} {xs : List V} (D : DrawAt H d lg cl) (k : KeptN d lg H H') (e : H a = some (.tup xs)) : H' a = some (.tup xs) := by
  obtain ⟨⟨r, t0, hd⟩, ⟨L, hL, hl⟩, _, _⟩ := id D
  exact k _ _ e (fun z => by rw [z, hd] at e; cases e) (fun z => by rw [z, hl] at e; cases e) (fun _ z => by cases z)
theorem tup_ext {H H' : Hp} {a : Addr} {xs : List V} (s : ExtN H H') (e : H a = some (.tup xs)) : H' a = some (.tup xs) := s _ _ e (fun _ z => by cases z)
theorem lst_ext {H H' : Hp} {a : Addr} {xs : List V} (s : ExtN H H') (e : H a = some (.lst xs)) : H' a = some (.lst xs) := s _ _ e (fun _ z => by cases z)
/-! ### errors that are caught -/
/-- what the text says of BadRow where it is caught -/
structure BadR (K : PySem.W.Frag) (CR CW : Addr) : Prop where
  ex : ExcC K CR
  exm : PySem.W.exmOne K (.ref CR) (.ref CW) = some true
  one : PySem.W.kitOne K (.ref CR) (.ref CR) = some true
theorem ttc_row {K : PySem.W.Frag} {CR CW : Addr} {tl : XK → Hp → VK → Prop} {H : Hp} {Q : VK} (N : BadR K CR CW) (h : tl (fun cls dd H' => cls = .ref CR ∧ dd = none ∧ Same H H') H (fun _ _ => False))
    (k : ∀ a H', Same H H' → H' a = some (ExR (.ref CR) none a) → Q (.ref a) H') : TTc K CW tl H Q :=
  ⟨_, _, h, fun cls dd H' q => by
    obtain ⟨rfl, rfl, r⟩ := q
    exact ⟨N.exm, fun a na => k a _ (r.trans (same_upd na)) upd_same⟩, fun v H' q => q.elim⟩
theorem ttc_net {K : PySem.W.Frag} {CB CW : Addr} {tl : XK → Hp → VK → Prop} {H : Hp} {Q : VK} (N : BadN K CB CW) (h : tl (fun cls dd H' => cls = .ref CB ∧ ∃ d', dd = some d' ∧ H' d' = some (.xd [("part", .non)]) ∧ Same H H') H (fun _ _ => False))
    (k : ∀ a d' H', Same H H' → H' a = some (ExR (.ref CB) (some d') a) → H' d' = some (.xd [("part", .non)]) → Q (.ref a) H') : TTc K CW tl H Q :=
  ⟨_, _, h, fun cls dd H' q => by
    obtain ⟨rfl, d', rfl, e, r⟩ := q
    refine ⟨N.exm, fun a na => k a d' _ (r.trans (same_upd na)) upd_same ?_⟩
    rw [upd_ne (ne_of_none e na)]
    exact e, fun v H' q => q.elim⟩
theorem rz_non {CB : Addr} {H H1 : Hp} (s : Same H H1) : Rz CB H1 (fun cls dd H' => cls = .ref CB ∧ ∃ d', dd = some d' ∧ H' d' = some (.xd [("part", .non)]) ∧ Same H H') .non := fun d H' _ s' e => ⟨rfl, d, rfl, e, s.trans s'⟩
theorem op_mulS {X : Cx} : OpR X (binaryOp .Mult) (fun x y H Q => ∃ n : Nat, x = .str "1" ∧ y = .int n ∧ 1 ≤ n ∧ n ≤ 8 ∧ ∀ z, Q (.str z) H) := by
  intro pins s σ H x y v u Q I rx ry h
  obtain ⟨n, rfl, rfl, h1, h8, q⟩ := h
  obtain ⟨t, rfl⟩ := rx
  obtain ⟨t', rfl⟩ := ry
  have key : ∀ m, 1 ≤ m → m ≤ 8 → MulOk "1" ((m : Nat) : Int) := fun m a b => by
    have : m = 1 ∨ m = 2 ∨ m = 3 ∨ m = 4 ∨ m = 5 ∨ m = 6 ∨ m = 7 ∨ m = 8 := by omega
    rcases this with rfl | rfl | rfl | rfl | rfl | rfl | rfl | rfl <;> exact ⟨by decide, fun _ _ => by decide, fun _ _ => by decide⟩
  exact SB.mul (key n h1 h8) fun t2 k => ⟨.str _, H, I.tok _, ⟨_, rfl⟩, q _⟩
/-- a wrong row -/
def RowBad (n : Nat) (H : Hp) (x : V) : Prop := x = .non ∨ (∃ z, x = .str z) ∨ (∃ a xs, x = .ref a ∧ H a = some (.lst xs)) ∨ (∃ a xs, x = .ref a ∧ H a = some (.tup xs) ∧ xs.length ≠ n ∧ xs.length ≤ 1000) ∨ ∃ (a : Addr) (xs : List Int), x = .ref a ∧ H a = some (.tup (.bl true :: xs.map V.int)) ∧ xs.length + 1 = n
theorem RowBad.ext {n : Nat} {H H' : Hp} {x : V} (s : ExtN H H') (h : RowBad n H x) : RowBad n H' x := by
  rcases h with h | h | ⟨a, xs, e, h⟩ | ⟨a, xs, e, h, g⟩ | ⟨a, xs, e, h, g⟩
  · exact .inl h
  · exact .inr (.inl h)
  · exact .inr (.inr (.inl ⟨a, xs, e, lst_ext s h⟩))
  · exact .inr (.inr (.inr (.inl ⟨a, xs, e, tup_ext s h, g⟩)))
  · exact .inr (.inr (.inr (.inr ⟨a, xs, e, tup_ext s h, g⟩)))
theorem kt_non (K : PySem.W.Frag) : PySem.W.kitOne K (.type "NoneType") (.type "tuple") = some false := by kernel_rfl
theorem kt_strt (K : PySem.W.Frag) : PySem.W.kitOne K (.type "str") (.type "tuple") = some false := by kernel_rfl
theorem kt_lst (K : PySem.W.Frag) : PySem.W.kitOne K (.type "list") (.type "tuple") = some false := by kernel_rfl
theorem RowBad.row {K : PySem.W.Frag} {n : Nat} {H : Hp} {x : V} (h : RowBad n H x) : RowV K H n x false := by
  rcases h with rfl | ⟨z, rfl⟩ | ⟨a, xs, rfl, h⟩ | ⟨a, xs, rfl, h, g, g2⟩ | ⟨a, xs, rfl, h, g⟩
  · exact .no (.base .non) (kt_non K)
  · exact .no (.base (.str z)) (kt_strt K)
  · exact .no (.base (.lst h)) (kt_lst K)
  · exact .len (SqT.of h) g g2
  · have : RowV K H n (.ref a) (allS (none :: xs.map some)) := .row (SqT.of h) (by rw [List.length_cons, List.length_map]; exact g) (.cons (.bl true) (nul_ints xs))
    exact this
end K03


set_option Elab.async false
set_option maxRecDepth 100000
set_option maxHeartbeats 4000000
set_option linter.all false
namespace K03
open PySem PySem.Spec PyProof.Rows L2
/-- a draw from great numbers -/
def spTakeW : Sp := fun vs H Q _ => ∃ (d lg cl : Addr) (n : Int), vs = [.ref d, .int n] ∧ DrawAt H d lg cl ∧ 0 < n ∧ n.natAbs.log2 < 9000 ∧
  ∀ (z : Int) (H' : Hp), 0 ≤ z → z < n → DrawAt H' d lg cl → Kept d lg H H' → Q (.int z) H'
section
variable {P : Program} {w : World} {K : PySem.W.Frag} {mg : Str → Option Value} {base : Heap}
theorem ok_takeW {f fM : Addr} {fd fdM : FuncData} (F : Fun K "_law_take" "_law_take" sTake f fd) (FM : Fun K "_law_mixed" "_law_mixed" sMixed fM fdM) (bM : Binds K fdM ["draw"] []) (gM : mg "_law_mixed" = some (.ref fM)) (mInt : mg "int" = none) : FnOk P w K mg base CX0 2 f fd ["draw", "amount"] spTakeW := by
  have GM : FnOk P w K mg base CX0 1 fM fdM ["draw"] spMixed := ok_mixed FM mInt
  refine F.ok scTake (fun vs H Q E h => ?_) (fun cdv A outer s H vs Q E hr h => ?_)
  · obtain ⟨d, lg, cl, n, rfl, _⟩ := h
    rfl
  · obtain ⟨d, lg, cl, n, rfl, D, hn, hn2, k⟩ := h
    have nd := scTake.nd
    have hu := hu_of hr
    refine ⟨_, pss_cons (ps_if (pt_cmpR op_eq (pe_dget hu (pv 0) pe_str (fun _ _ => rfl)) pe_int (nomark _))
        (pss_one (ps_dput hu (pv 0) pe_str (pe_ifExp (pt_cmpR (op_neD hr.units) (pe_dget hu (pv 0) pe_str (fun _ _ => rfl)) (pe_lst pa_nil) (nomark _))
          (pe_bm PySem.F.plainAttrs_list PySem.F.slot_list_pop PySem.F.type_list_pop mt_popAt (pe_dget hu (pv 0) pe_str (fun _ _ => rfl)) (pa_cons pe_int pa_nil))
          (pe_call GM hr rfl gM FM.kp bM .nil pass0 (pa_cons (pv 0) pa_nil))) rfl)) pss_nil)
      (pss_cons (ps_set (i := 2) nd rfl (Or.inl rfl) (pe_op op_modN (pe_callTy call_int1 (by rfl) mInt (by decide +kernel) (pa_cons (pe_dget hu (pv 0) pe_str (fun _ _ => rfl)) pa_nil)) (pv 1)))
      (pss_cons (ps_dput hu (pv 0) pe_str (pe_op op_fdivW (pe_callTy call_int1 (by rfl) mInt (by decide +kernel) (pa_cons (pe_dget hu (pv 0) pe_str (fun _ _ => rfl)) pa_nil)) (pv 1)) rfl)
      (pss_one (ps_ret (pv 2))))), ?_⟩
    -- what follows the if, from any state of draws
    have after : ∀ H1 : Hp, DrawAt H1 d lg cl → Kept d lg H H1 →
        tAsg (tOp (rI (fun _ j => j ≠ 0) fun i j => .int (i.fmod j)) (tCB (fun xs H Q => (∃ i, xs = [.int i] ∧ Q (.int i) H) ∨ ∃ k, xs = [.bl k] ∧ Q (.int (if k then 1 else 0)) H) (tCons (tDGet (tVar 0) (tC (.str "rest"))) tNil)) (tVar 1)) (gName 2)
          { nx := fun σ2 H2 => sDPut (tVar 0) (tC (.str "rest")) (tOp (rI CDivW fun i j => .int (i / j)) (tCB (fun xs H Q => (∃ i, xs = [.int i] ∧ Q (.int i) H) ∨ ∃ k, xs = [.bl k] ∧ Q (.int (if k then 1 else 0)) H) (tCons (tDGet (tVar 0) (tC (.str "rest"))) tNil)) (tVar 1))
              { nx := fun σ3 H3 => tRet (tVar 2) { nx := fun _ H' => Q .non H', rt := Q } σ3 H3, rt := Q } σ2 H2, rt := Q } (start ["draw", "amount", "found"] [.ref d, .int n]) H1 := by
      intro H1 D1 k1
      obtain ⟨⟨r, t, hd⟩, ⟨L, hL, hl⟩, ⟨M, hM, hc⟩, ncl⟩ := id D1
      have ndl := dne hd hl
      have ndc := dne hd hc
      refine ⟨_, rfl, d, _, rfl, (g_rest lg cl r t) ▸ DGet.k (k := Sum.inr "rest") hd, .inl ⟨_, rfl, _, rfl, _, _, rfl, rfl, (by omega), ?_⟩⟩
      refine ⟨_, rfl, d, _, rfl, (g_rest lg cl r t) ▸ DGet.k (k := Sum.inr "rest") hd, .inl ⟨_, rfl, _, rfl, _, _, rfl, rfl, ⟨hn, hn2⟩, _, rfl, d, _, rfl, DPut.k (k := Sum.inr "rest") hd (dl4 lg cl r t), ?_⟩⟩
      rw [p_rest]
      refine ⟨_, rfl, k _ _ (Int.fmod_nonneg_of_pos _ hn) (Int.fmod_lt_of_pos _ hn) ⟨⟨_, _, upd_same⟩, ⟨L, hL, by rw [upd_ne ndl.symm]; exact hl⟩, ⟨M, hM, by rw [upd_ne ndc.symm]; exact hc⟩, ncl⟩ (k1.trans Kept.d)⟩
    obtain ⟨⟨r, t, hd⟩, ⟨L, hL, hl⟩, ⟨M, hM, hc⟩, ncl⟩ := id D
    have ndl := dne hd hl
    have ndc := dne hd hc
    refine ⟨_, rfl, d, _, rfl, (g_rest lg cl r t) ▸ DGet.k (k := Sum.inr "rest") hd, rfl, _, rfl, ite2 (fun _ => ?_) (fun _ => after H D Kept.refl)⟩
    -- draw['large'] != []
    refine ⟨_, rfl, d, _, rfl, (g_large lg cl r t) ▸ DGet.k (k := Sum.inr "large") hd, by decide, fun e ne => ?_⟩
    have hd1 : (upd H e (.lst [])) d = some (.dK (drawL lg cl r t)) := by rw [upd_ne (ne_of_none hd ne)]; exact hd
    have hl1 : (upd H e (.lst [])) lg = some (.lst (L.map V.int)) := by rw [upd_ne (ne_of_none hl ne)]; exact hl
    have hc1 : (upd H e (.lst [])) cl = some (.lst (M.map V.int)) := by rw [upd_ne (ne_of_none hc ne)]; exact hc
    have D1 : DrawAt (upd H e (.lst [])) d lg cl := ⟨⟨_, _, hd1⟩, ⟨L, hL, hl1⟩, ⟨M, hM, hc1⟩, ncl⟩
    refine ⟨_, _, dp_ints (SqL.of hl1), .lst (SqL.of upd_same) .nil, shp_ints L, rfl, _, rfl, ?_⟩
    cases L with
    | nil =>
      refine iteF ?_
      refine ⟨_, rfl, d, lg, cl, rfl, D1, fun z H2 D2 k2 e2 => ?_⟩
      obtain ⟨⟨r2, t2, hd2⟩, ⟨L2, hL2, hl2⟩, ⟨M2, hM2, hc2⟩, _⟩ := id D2
      refine ⟨_, rfl, d, _, rfl, DPut.k (k := Sum.inr "rest") hd2 (dl4 lg cl r2 t2), ?_⟩
      rw [p_rest]
      exact after _ ⟨⟨_, _, upd_same⟩, ⟨L2, hL2, by rw [upd_ne ndl.symm]; exact hl2⟩, ⟨M2, hM2, by rw [upd_ne ndc.symm]; exact hc2⟩, ncl⟩ ((Kept.new ne).trans (k2.trans Kept.d))
    | cons x L =>
      refine iteT ?_
      refine ⟨_, rfl, d, .ref lg, rfl, (g_large lg cl r t) ▸ DGet.k (k := Sum.inr "large") hd1, .inl ⟨rfl, _, SqL.of hl1⟩, lg, _, 0, 0, .int x, rfl, rfl, hl1, by decide, by decide, ?_, rfl, ?_⟩
      · show seqIndex? 0 (L.map V.int).length.succ = some 0
        simp [seqIndex?]
      · have hd3 : (upd (upd H e (.lst [])) lg (.lst (((x :: L).map V.int).eraseIdx 0))) d = some (.dK (drawL lg cl r t)) := by rw [upd_ne ndl]; exact hd1
        refine ⟨_, rfl, d, _, rfl, DPut.k (k := Sum.inr "rest") hd3 (dl4 lg cl r t), ?_⟩
        rw [p_rest]
        refine after _ ⟨⟨_, _, upd_same⟩, ⟨L, by simp at hL; omega, by rw [upd_ne ndl.symm, upd_same]; rfl⟩, ⟨M, hM, by rw [upd_ne ndc.symm, upd_ne ncl]; exact hc1⟩, ncl⟩ ((Kept.new ne).trans (Kept.l.trans Kept.d))
end
end K03


set_option Elab.async false
set_option maxRecDepth 100000
set_option maxHeartbeats 4000000
set_option linter.all false
namespace K03
open PySem PySem.Spec PyProof.Rows L2 NetM LamX GL
/-- all that the law's last defs call -/
structure Al4 (P : Program) (w : World) (K : PySem.W.Frag) (mg : Str → Option Value) (base : Heap) (CN CB CR CW : Addr) where
  T : NetT K mg CN
  mkn : MkN P w K mg base CN CB
  made : Fn0 P w K mg base 6 "_law_made_net" ["net"] (spMade K CN)
  sh : FnX P w K mg base 5 "shape" ["net"] (spShape K CN CB)
  is : FnX P w K mg base 6 "is_shape" ["net", "thing"] (spIsShape K CN CB)
  isK : KBinds K is.fd ["net", "thing"] ["thing", "net"] bk bk
  fo : FnX P w K mg base 5 "form" ["net", "row"] (spForm K CN CB CR)
  pf : FnX P w K mg base 5 "pair_form" ["net", "one", "other"] (spPairF K CN CB CR)
  pfK : KBinds K pf.fd ["net", "one", "other"] ["other", "one", "net"] bk bk
  tn : FnX P w K mg base 6 "turned_net" ["net"] (spTurned K CN CB)
  be : Fn0 P w K mg base 1 "_law_begun" ["script"] (spBegun K)
  ta : Fn0 P w K mg base 2 "_law_take" ["draw", "amount"] spTake
  taW : FnOk P w K mg base CX0 2 ta.f ta.fd ["draw", "amount"] spTakeW
  pk : Fn0 P w K mg base 3 "_law_pick" ["draw", "some"] spPick
  ne : Fn0 P w K mg base 4 "_law_net" ["draw", "most"] spLNet
  lp : Fn0 P w K mg base 1 "_law_pair" ["net", "one", "other"] (spLPair K)
  le : Fn0 P w K mg base 1 "_law_lean" ["net", "row", "place"] (spLean K)
  ro : Fn0 P w K mg base 3 "_law_round_pairs" ["draw"] spRound
  wi : Fn0 P w K mg base 4 "_law_wild_pairs" ["draw"] spWildP
  re : Fn0 P w K mg base 4 "_law_renamed" ["draw", "many_here", "pairs_here", "row"] (spRen K)
  wo : Fn0 P w K mg base 1 "_law_word" ["net"] spWord
  wr : Fn0 P w K mg base 2 "_law_wild_row" ["net"] (spLWild K)
  fC : Addr
  caught : TakesV P w K mg base 1 fC (TTc K CW)
  gC : mg "_law_caught" = some (.ref fC)
  kC : PySem.W.keepIn K (.ref fC) = true
  bad : BadN K CB CW
  badR : BadR K CR CW
  gB : mg "BadNet" = some (.ref CB)
  gR : mg "BadRow" = some (.ref CR)
  noN : PySem.W.kitOne K (.type "NoneType") (.ref CN) = some false
  noI : PySem.W.kitOne K (.type "int") (.ref CN) = some false
  noD : PySem.W.kitOne K (.type "dict") (.ref CN) = some false
  mRa : mg "range" = none
  mLen : mg "len" = none
  mRe : mg "repr" = none
  mLi : mg "list" = none
  mTup : mg "tuple" = none
  mMin : mg "min" = none
  mIs : mg "isinstance" = none
abbrev sFR : Stmt := top 49
abbrev N49 : List Str := ["draw", "net", "net_here", "many_here", "one", "k", "two", "bad"]
theorem scFR : FnScope N49 ["draw", "net", "net_here"] (defScope sFR) := ⟨rfl, rfl, rfl, by decide +kernel, rfl, by decide +kernel, by decide +kernel⟩
abbrev X49 (P : Program) (w : World) (K : PySem.W.Frag) (mg : Str → Option Value) (base : Heap) (f c : Addr) (A : Around) (outer : List Env) (s : Shared) (H : Hp) (E : XK) : Cx := (cxOf L2.CX0 P w K mg base N49 "_law_forms_right" (defScope sFR) f (.ref c) A outer s H E).nox
/-- what stands while wrong values are looked at -/
structure D49 (K : PySem.W.Frag) (CN d lg cl : Addr) (T : List (Addr × Str)) (x ps y o : Addr) (n : Nat) (us : Zs) (L : List Int) (bad : V) (H0 H : Hp) : Prop where
  dr : DrawAt H d lg cl
  tb : Tabs T H
  kn : KeptN d lg H0 H
  lw : LNet H x ps n us
  net : NetG K CN H y n (nums us)
  one : H o = some (.tup (L.map V.int))
  oneL : L.length = n
  oneB : ∀ i ∈ L, -(2 ^ 64) < i ∧ i < 2 ^ 64
  bd : RowBad n H bad
section
variable {K : PySem.W.Frag} {CN d lg cl : Addr} {T : List (Addr × Str)} {x ps y o : Addr} {n : Nat} {us : Zs} {L : List Int} {bad : V} {H0 H H' : Hp}
theorem D49.ext (S : D49 K CN d lg cl T x ps y o n us L bad H0 H) (s : ExtN H H') (tb : Tabs T H') : D49 K CN d lg cl T x ps y o n us L bad H0 H' := ⟨draw_ext s S.dr, tb, S.kn.trans (KeptN.ext s), S.lw.ext s, S.net.ext s, tup_ext s S.one, S.oneL, S.oneB, S.bd.ext s⟩
theorem D49.same (S : D49 K CN d lg cl T x ps y o n us L bad H0 H) (s : Same H H') : D49 K CN d lg cl T x ps y o n us L bad H0 H' := S.ext (ExtN.same s) (S.tb.ext s)
end
section
variable {P : Program} {w : World} {K : PySem.W.Frag} {mg : Str → Option Value} {base : Heap} {CN CB CR CW : Addr}
theorem p49_6 {f c Pt : Addr} {A : Around} {outer : List Env} {s : Shared} {Hs : Hp} {E : XK} {T : List (Addr × Str)} (Y : Al4 P w K mg base CN CB CR CW) (C : Tc base mg T "_law_forms_right" c Pt) (hr : Room 8 (A.deeper (envOfC "_law_forms_right" (defScope sFR) s.heap.objs.size f (.ref c)))) :
    ∃ t, PSs (X49 P w K mg base f c A outer s Hs E) ((defBody sFR).drop 6) t ∧ ∀ (D : Ends) (H0 H : Hp) (d lg cl x ps y o : Addr) (n : Nat) (us : Zs) (L : List Int) (bad : V) (v5 v6 : Option V),
      D49 K CN d lg cl T x ps y o n us L bad H0 H → (∀ H', DrawAt H' d lg cl → KeptN d lg H0 H' → Tabs T H' → D.rt (.bl true) H') →
      t D [some (.ref d), some (.ref x), some (.ref y), some (.int n), some (.ref o), v5, v6, some bad] H := by
  have nd := scFR.nd
  refine ⟨_, (pss_cons (ps_if (pt_not (pt_val (pe_callB call_isR0 (by rfl) Y.mIs (by decide +kernel) (pa_cons (pe_lamV (k := 6) (by rfl) Y.gC Y.kC Y.caught C.TB rfl C.mem C.uq hr (lamS_by (sc := defScope sFR) (by decide +kernel)) rfl (fun _ _ _ _ _ => rfl)
            (fun A' o' s' H' E' f' c' hr2 => pe_call Y.fo.ok (hr2.mono (by decide)) (by rfl) Y.fo.g Y.fo.kp Y.fo.b .nil (passes_call (takes_of rfl rfl rfl rfl) fun _ _ _ _ h => h) (pa_cons (pv 2) (pa_cons (pv 7) pa_nil)))) (pa_cons (pe_glob (v := .ref CR) (by rfl) Y.gR rfl) pa_nil))))) (pss_one (ps_ret pe_bl)) pss_nil)
      (pss_cons (ps_if (pt_not (pt_val (pe_callB call_isR0 (by rfl) Y.mIs (by decide +kernel) (pa_cons (pe_lamV (k := 6) (by rfl) Y.gC Y.kC Y.caught C.TB rfl C.mem C.uq hr (lamS_by (sc := defScope sFR) (by decide +kernel)) rfl (fun _ _ _ _ _ => rfl)
            (fun A' o' s' H' E' f' c' hr2 => pe_call Y.pf.ok (hr2.mono (by decide)) (by rfl) Y.pf.g Y.pf.kp Y.pf.b .nil (passes_call (takes_of rfl rfl rfl rfl) fun _ _ _ _ h => h) (pa_cons (pv 2) (pa_cons (pv 7) (pa_cons (pv 4) pa_nil))))) (pa_cons (pe_glob (v := .ref CR) (by rfl) Y.gR rfl) pa_nil))))) (pss_one (ps_ret pe_bl)) pss_nil)
      (pss_cons (ps_if (pt_not (pt_val (pe_callB call_isR0 (by rfl) Y.mIs (by decide +kernel) (pa_cons (pe_lamV (k := 6) (by rfl) Y.gC Y.kC Y.caught C.TB rfl C.mem C.uq hr (lamS_by (sc := defScope sFR) (by decide +kernel)) rfl (fun _ _ _ _ _ => rfl)
            (fun A' o' s' H' E' f' c' hr2 => pe_call Y.pf.ok (hr2.mono (by decide)) (by rfl) Y.pf.g Y.pf.kp Y.pf.b .nil (passes_call (takes_of rfl rfl rfl rfl) fun _ _ _ _ h => h) (pa_cons (pv 2) (pa_cons (pv 4) (pa_cons (pv 7) pa_nil))))) (pa_cons (pe_glob (v := .ref CR) (by rfl) Y.gR rfl) pa_nil))))) (pss_one (ps_ret pe_bl)) pss_nil)
      (pss_cons (ps_if (pt_not (pt_val (pe_callB call_isR (by rfl) Y.mIs (by decide +kernel) (pa_cons (pe_lamV (k := 6) (by rfl) Y.gC Y.kC Y.caught C.TB rfl C.mem C.uq hr (lamS_by (sc := defScope sFR) (by decide +kernel)) rfl (fun _ _ _ _ _ => rfl)
            (fun A' o' s' H' E' f' c' hr2 => pe_call Y.fo.ok (hr2.mono (by decide)) (by rfl) Y.fo.g Y.fo.kp Y.fo.b .nil (passes_call (takes_of rfl rfl rfl rfl) fun _ _ _ _ h => h) (pa_cons pe_non (pa_cons (pv 7) pa_nil)))) (pa_cons (pe_glob (v := .ref CB) (by rfl) Y.gB rfl) pa_nil))))) (pss_one (ps_ret pe_bl)) pss_nil)
      (pss_cons (ps_if (pt_not (pt_val (pe_callB call_isR (by rfl) Y.mIs (by decide +kernel) (pa_cons (pe_lamV (k := 6) (by rfl) Y.gC Y.kC Y.caught C.TB rfl C.mem C.uq hr (lamS_by (sc := defScope sFR) (by decide +kernel)) rfl (fun _ _ _ _ _ => rfl)
            (fun A' o' s' H' E' f' c' hr2 => pe_call Y.sh.ok (hr2.mono (by decide)) (by rfl) Y.sh.g Y.sh.kp Y.sh.b .nil (passes_call (takes_of rfl rfl rfl rfl) fun _ _ _ _ h => h) (pa_cons (pv 1) pa_nil))) (pa_cons (pe_glob (v := .ref CB) (by rfl) Y.gB rfl) pa_nil))))) (pss_one (ps_ret pe_bl)) pss_nil)
      (pss_one (ps_ret (pe_callB call_isR (by rfl) Y.mIs (by decide +kernel) (pa_cons (pe_lamV (k := 6) (by rfl) Y.gC Y.kC Y.caught C.TB rfl C.mem C.uq hr (lamS_by (sc := defScope sFR) (by decide +kernel)) rfl (fun _ _ _ _ _ => rfl)
            (fun A' o' s' H' E' f' c' hr2 => pe_call Y.is.ok (hr2.mono (by decide)) (by rfl) Y.is.g Y.is.kp Y.is.b .nil (passes_call (takes_of rfl rfl rfl rfl) fun _ _ _ _ h => h) (pa_cons pe_int (pa_cons pe_non pa_nil)))) (pa_cons (pe_glob (v := .ref CB) (by rfl) Y.gB rfl) pa_nil)))))))))), ?_⟩
  intro D H0 H d lg cl x ps y o n us L bad v5 v6 S k
  have G := S.net
  refine ⟨S.tb, fun Ha sa ta => ?_⟩
  have Sa := S.ext sa ta
  refine ttc_row Y.badR ⟨_, rfl, _, rfl, .ref y, bad, rfl, .inr ⟨y, n, _, rfl, Sa.net.at_, G.inn, G.len, G.n8, .inl ⟨Sa.bd.row, rp_bad (Same.refl _)⟩⟩⟩ fun a Hb sb eb => ?_
  refine ⟨a, CR, _, _, true, rfl, eb, Y.badR.ex, fun u r => r, Y.badR.one, _, rfl, ?_⟩
  refine iteF ?_
  replace S := Sa.same sb
  clear sb eb sa ta Sa
  refine ⟨S.tb, fun Ha sa ta => ?_⟩
  have Sa := S.ext sa ta
  refine ttc_row Y.badR ⟨_, rfl, _, rfl, _, rfl, .ref y, bad, _, rfl, .inr ⟨y, n, _, rfl, Sa.net.at_, G.inn, G.len, G.n8, .inl ⟨Sa.bd.row, rp_bad (Same.refl _)⟩⟩⟩ fun a Hb sb eb => ?_
  refine ⟨a, CR, _, _, true, rfl, eb, Y.badR.ex, fun u r => r, Y.badR.one, _, rfl, ?_⟩
  refine iteF ?_
  replace S := Sa.same sb
  clear sb eb sa ta Sa
  refine ⟨S.tb, fun Ha sa ta => ?_⟩
  have Sa := S.ext sa ta
  refine ttc_row Y.badR ⟨_, rfl, _, rfl, _, rfl, .ref y, _, bad, rfl, .inr ⟨y, n, _, rfl, Sa.net.at_, G.inn, G.len, G.n8, .inr ⟨o, L, rfl, SqT.of Sa.one, S.oneL, S.oneB, .inl ⟨Sa.bd.row, rp_bad (Same.refl _)⟩⟩⟩⟩ fun a Hb sb eb => ?_
  refine ⟨a, CR, _, _, true, rfl, eb, Y.badR.ex, fun u r => r, Y.badR.one, _, rfl, ?_⟩
  refine iteF ?_
  replace S := Sa.same sb
  clear sb eb sa ta Sa
  refine ⟨S.tb, fun Ha sa ta => ?_⟩
  have Sa := S.ext sa ta
  refine ttc_net Y.bad ⟨_, rfl, .non, bad, rfl, .inl ⟨⟨_, .base .non, Y.noN⟩, rz_non (Same.refl _)⟩⟩ fun a d' Hb sb eb ed => ?_
  refine ⟨a, CB, d', _, _, _, true, rfl, eb, ed, Y.bad.get.ex, fun u r => r, Y.bad.one, _, rfl, ?_⟩
  refine iteF ?_
  replace S := Sa.same sb
  clear sb eb ed sa ta Sa
  refine ⟨S.tb, fun Ha sa ta => ?_⟩
  have Sa := S.ext sa ta
  refine ttc_net Y.bad ⟨_, rfl, .ref x, rfl, .inl ⟨⟨_, .base (.dK Sa.lw.e), Y.noD⟩, rz_non (Same.refl _)⟩⟩ fun a d' Hb sb eb ed => ?_
  refine ⟨a, CB, d', _, _, _, true, rfl, eb, ed, Y.bad.get.ex, fun u r => r, Y.bad.one, _, rfl, ?_⟩
  refine iteF ?_
  replace S := Sa.same sb
  clear sb eb ed sa ta Sa
  refine ⟨S.tb, fun Ha sa ta => ?_⟩
  have Sa := S.ext sa ta
  refine ttc_net Y.bad ⟨.int 0, .non, rfl, .inl ⟨⟨_, .base (.int 0), Y.noI⟩, rz_non (Same.refl _)⟩⟩ fun a d' Hb sb eb ed => ?_
  refine ⟨a, CB, d', _, _, _, true, rfl, eb, ed, Y.bad.get.ex, fun u r => r, Y.bad.one, ?_⟩
  have Sb := Sa.same sb
  exact k Hb Sb.dr Sb.kn Sb.tb
end
end K03


set_option Elab.async false
set_option maxRecDepth 100000
set_option maxHeartbeats 4000000
set_option linter.all false
namespace K03
open PySem PySem.Spec PyProof.Rows L2 NetM LamX GL
def spFR (K : PySem.W.Frag) (CN : Addr) (T : List (Addr × Str)) : Sp := fun vs H Q _ => ∃ (d lg cl x ps y : Addr) (n : Nat) (us : Zs), vs = [.ref d, .ref x, .ref y] ∧ DrawAt H d lg cl ∧ Tabs T H ∧ LNet H x ps n us ∧ ps ≠ lg ∧ NetG K CN H y n (nums us) ∧ ∀ H', DrawAt H' d lg cl → KeptN d lg H H' → Tabs T H' → Q (.bl true) H'
theorem sum_abs {b : Nat} : ∀ {l : List Int}, (∀ z ∈ l, z.natAbs ≤ b) → l.sum.natAbs ≤ l.length * b
  | [], _ => by simp
  | a :: l, h => by
    have h1 := h a (List.mem_cons_self ..)
    have ih := sum_abs fun z m => h z (List.mem_cons_of_mem _ m)
    rw [List.sum_cons, List.length_cons, Nat.add_mul, Nat.one_mul]
    have := Int.natAbs_add_le a l.sum
    omega
theorem pairV_abs {E : Prs} {L M : List Int} {n : Nat} (hL : L.length = n) (hM : M.length = n) (n8 : n ≤ 8) (hE : E.length ≤ 12) (bL : ∀ i ∈ L, i.natAbs ≤ 5) (bM : ∀ i ∈ M, i.natAbs ≤ 5) : (pairV E L M).natAbs.log2 < 1920 := by
  have at0 : ∀ {R : List Int} (p : Int), (∀ i ∈ R, i.natAbs ≤ 5) → (rowF R p).natAbs ≤ 5 := fun {R} p h => by
    unfold rowF
    rw [List.getD_eq_getElem?_getD]
    cases e : R[p.toNat]? with
    | none => decide
    | some v => exact h v (List.mem_of_getElem? e)
  have mul5 : ∀ a b : Int, a.natAbs ≤ 5 → b.natAbs ≤ 5 → (a * b).natAbs ≤ 25 := fun a b h k => by
    rw [Int.natAbs_mul]
    exact Nat.mul_le_mul h k
  have s1 : (List.zipWith (fun a b => a * b) L M).sum.natAbs ≤ (List.zipWith (fun a b => a * b) L M).length * 25 := sum_abs fun z m => by
    obtain ⟨k, hk, e⟩ := List.getElem_of_mem m
    rw [List.getElem_zipWith] at e
    rw [← e]
    exact mul5 _ _ (bL _ (List.getElem_mem _)) (bM _ (List.getElem_mem _))
  have s2 : (E.map fun q => rowF L q.1 * rowF M q.2).sum.natAbs ≤ (E.map fun q => rowF L q.1 * rowF M q.2).length * 25 := sum_abs fun z m => by
    obtain ⟨q, mq, rfl⟩ := List.mem_map.mp m
    exact mul5 _ _ (at0 _ bL) (at0 _ bM)
  rw [List.length_zipWith] at s1
  rw [List.length_map] at s2
  have h3 : (pairV E L M).natAbs ≤ 500 := by
    unfold pairV
    omega
  have h4 := Nat.log2_le_self (pairV E L M).natAbs
  omega
theorem cpow12 : CPow 10 12 := ⟨by decide, by decide, by decide⟩
theorem catA_rd {K : PySem.W.Frag} {H : Hp} {t S : Addr} {v : V} {ys : List V} {Q : VK} (ht : H t = some (.tup [v])) (hS : H S = some (.tup ys)) (hl : ys.length ≤ 1000) (q : ∀ a Hx, Same H Hx → Hx a = some (.tup (v :: ys)) → Q (.ref a) Hx) : rCatA K (.ref t) (.ref S) H Q := by
  refine ⟨t, S, _, _, rfl, rfl, SqT.of ht, SqT.of hS, Nat.le_of_lt (small_2000 (by show 1 + _ ≤ 2000; omega)), (fun z => by cases z), fun _ z => ?_, fun _ _ p np => ?_⟩
  · subst z
    exact q t H (Same.refl _) ht
  · exact q p _ (same_upd np) upd_same
theorem catT_rd {K : PySem.W.Frag} {H : Hp} {t S : Addr} {v : V} {xs : List V} {Q : VK} (ht : H t = some (.tup xs)) (hS : H S = some (.tup [v])) (n0 : xs ≠ []) (hl : xs.length ≤ 1000) (q : ∀ a Hx, Same H Hx → Hx a = some (.tup (xs ++ [v])) → Q (.ref a) Hx) : rCatT K (.ref t) (.ref S) H Q :=
  ⟨t, S, _, _, rfl, rfl, SqT.of ht, SqT.of hS, n0, Nat.le_of_lt (small_2000 (by show _ + 1 ≤ 2000; omega)), (fun z => by cases z), fun _ p np => q p _ (same_upd np) upd_same⟩
theorem cut1 {xs : List V} (h : 0 < xs.length) : cutV xs (some 1) none = xs.drop 1 := by
  have e : HT.sIx xs.length 0 (some 1) = 1 := by
    show (if (1 : Int) < 0 then ((1 : Int) + (xs.length : Int)).toNat else min (1 : Int).toNat xs.length) = 1
    rw [if_neg (by decide)]
    show min 1 xs.length = 1
    omega
  unfold cutV
  rw [e, HT.sIx_none, List.take_of_length_le (by rw [List.length_drop]; exact Nat.le_refl _)]
theorem slT_rd {K : PySem.W.Frag} {H : Hp} {t : Addr} {xs : List V} {Q : VK} (ht : H t = some (.tup xs)) (h : 0 < xs.length) (q : ∀ p Hx, Same H Hx → Hx p = some (.tup (xs.drop 1)) → Q (.ref p) Hx) : rSlT K (.ref t) (some 1) none H Q := by
  refine ⟨t, xs, rfl, SqT.of ht, fun z => ?_, fun p np => ?_⟩
  · have e : HT.sIx xs.length 0 (some 1) = 1 := by
      show (if (1 : Int) < 0 then ((1 : Int) + (xs.length : Int)).toNat else min (1 : Int).toNat xs.length) = 1
      rw [if_neg (by decide)]
      show min 1 xs.length = 1
      omega
    rw [e] at z
    exact absurd z.1 (by decide)
  · rw [cut1 h]
    exact q p _ (same_upd np) upd_same
section
variable {P : Program} {w : World} {K : PySem.W.Frag} {mg : Str → Option Value} {base : Heap} {CN CB CR CW : Addr}
theorem ok_fr {f c Pt : Addr} {fd : FuncData} {T : List (Addr × Str)} (F : FunC K "_law_forms_right" "_law_forms_right" sFR f fd c) (Y : Al4 P w K mg base CN CB CR CW) (C : Tc base mg T "_law_forms_right" c Pt) : FnOk P w K mg base CX0 9 f fd ["draw", "net", "net_here"] (spFR K CN T) := by
  refine F.ok scFR (fun vs H Q E h => ?_) (fun A outer s H vs Q E hr h => ?_)
  · obtain ⟨d, lg, cl, x, ps, y, n, us, rfl, _⟩ := h
    rfl
  · obtain ⟨d, lg, cl, x, ps, y, n, us, rfl, DR, TB, hN, pl, hG, k⟩ := h
    have nd := scFR.nd
    have hu := hu_of hr
    have r1 : Room 1 _ := hr.mono (by decide)
    have r2 : Room 2 _ := hr.mono (by decide)
    have r3 : Room 3 _ := hr.mono (by decide)
    have r5 : Room 5 _ := hr.mono (by decide)
    obtain ⟨te, pe, re⟩ := p49_6 (f := f) (c := c) (outer := outer) (Hs := H) (E := E) Y C hr
    refine ⟨_, pss_cons (ps_set (i := 3) nd rfl (by first | exact Or.inl rfl | exact Or.inr rfl) (pe_dget hu (pv 1) pe_str (fun _ _ => rfl)))
      (pss_cons (ps_set (i := 4) nd rfl (by first | exact Or.inl rfl | exact Or.inr rfl) (pe_callTy (show CallR _ _ (fun xs H Q => ∃ p ys, xs = [.ref p] ∧ ((SqL K H p ys ∧ ∀ l, H l = none → Q (.ref l) (upd H l (.tup ys))) ∨ (SqT K H p ys ∧ Q (.ref p) H))) from call_tuple_of) (by rfl) Y.mTup (by decide +kernel) (pa_cons
          (pe_lc (own := [("k", 5)]) (g := gName 5) (by rfl) nd (pi_range1 (by rfl) Y.mRa (pa_cons (pv 3) pa_nil)) (blkOk_by (own := [("k", 5)]) (N := N49) (sc := defScope sFR) (by decide +kernel)) (fun _ _ _ _ _ => pg_name (i := 5) nd rfl (by first | exact Or.inl rfl | exact Or.inr rfl)) (fun _ _ _ _ _ => pts_nil)
            (fun _ _ _ _ _ => pe_op op_sub (pe_call Y.ta.ok r2 (by rfl) Y.ta.g Y.ta.kp Y.ta.b .nil pass0 (pa_cons (pv 0) (pa_cons pe_int pa_nil))) pe_int)) pa_nil)))
      (pss_cons (ps_set (i := 6) nd rfl (by first | exact Or.inl rfl | exact Or.inr rfl) (pe_callTy (show CallR _ _ (fun xs H Q => ∃ p ys, xs = [.ref p] ∧ ((SqL K H p ys ∧ ∀ l, H l = none → Q (.ref l) (upd H l (.tup ys))) ∨ (SqT K H p ys ∧ Q (.ref p) H))) from call_tuple_of) (by rfl) Y.mTup (by decide +kernel) (pa_cons
          (pe_lc (own := [("k", 5)]) (g := gName 5) (by rfl) nd (pi_range1 (by rfl) Y.mRa (pa_cons (pv 3) pa_nil)) (blkOk_by (own := [("k", 5)]) (N := N49) (sc := defScope sFR) (by decide +kernel)) (fun _ _ _ _ _ => pg_name (i := 5) nd rfl (by first | exact Or.inl rfl | exact Or.inr rfl)) (fun _ _ _ _ _ => pts_nil)
            (fun _ _ _ _ _ => pe_call Y.taW r2 (by rfl) Y.ta.g Y.ta.kp Y.ta.b .nil pass0 (pa_cons (pv 0) (pa_cons (pe_op op_pow pe_int pe_int) pa_nil)))) pa_nil)))
      (pss_cons (ps_if (pt_cmpR op_ne (pe_callB SkE.call_repr_int (by rfl) Y.mRe (by decide +kernel) (pa_cons (pe_call Y.fo.ok r5 (by rfl) Y.fo.g Y.fo.kp Y.fo.b .nil (passes_call L2.takes0 fun _ _ _ _ h => h) (pa_cons (pv 2) (pa_cons (pv 4) pa_nil))) pa_nil)) (pe_callB SkE.call_repr_int (by rfl) Y.mRe (by decide +kernel) (pa_cons (pe_call Y.lp.ok r1 (by rfl) Y.lp.g Y.lp.kp Y.lp.b .nil pass0 (pa_cons (pv 1) (pa_cons (pv 4) (pa_cons (pv 4) pa_nil)))) pa_nil)) (nomark _)) (pss_one (ps_ret pe_bl)) pss_nil)
      (pss_cons (ps_if (pt_cmpR op_ne (pe_callK0 Y.pf.ok r5 (by rfl) Y.pf.g Y.pf.kp Y.pfK (passes_call L2.takes0 fun _ _ _ _ h => h) (pk_cons (pv 6) (pk_cons (pv 4) (pk_cons (pv 2) pk_nil)))) (pe_call Y.lp.ok r1 (by rfl) Y.lp.g Y.lp.kp Y.lp.b .nil pass0 (pa_cons (pv 1) (pa_cons (pv 4) (pa_cons (pv 6) pa_nil)))) (nomark _)) (pss_one (ps_ret pe_bl)) pss_nil)
      (pss_cons (ps_set (i := 7) nd rfl (by first | exact Or.inl rfl | exact Or.inr rfl) (pe_call Y.pk.ok r3 (by rfl) Y.pk.g Y.pk.kp Y.pk.b .nil pass0 (pa_cons (pv 0) (pa_cons (pe_lst (pa_cons pe_non (pa_cons (pe_callTy (show CallR _ (.type "list") (fun xs H Q => ∃ p ys, xs = [.ref p] ∧ (SqL K H p ys ∨ SqT K H p ys) ∧ ∀ l, H l = none → Q (.ref l) (upd H l (.lst ys))) from call_list_of) (by rfl) Y.mLi (by decide +kernel) (pa_cons (pv 4) pa_nil)) (pa_cons (pe_op op_catT (pv 4) (pe_tup (pa_cons pe_int pa_nil))) (pa_cons (pe_slice sl_tup (pv 4) (po_some pe_int) po_none) (pa_cons (pe_op op_catA (pe_tup (pa_cons pe_bl pa_nil)) (pe_slice sl_tup (pv 4) (po_some pe_int) po_none)) (pa_cons (pe_op op_mulS pe_str (pv 3)) pa_nil))))))) pa_nil))))
      pe))))), ?_⟩
    have hyn := hG.n8
    have hn0 := hG.n0
    have hul : us.length ≤ 12 := by have := hG.len; unfold nums at this; rw [List.length_map] at this; exact this
    refine ⟨_, rfl, x, _, rfl, DGet.k (k := Sum.inr "many") hN.e, ?_⟩
    refine ⟨_, rfl, n, rfl, by omega, by omega, fun D1 nD1 => ?_⟩
    rw [Int.toNat_natCast]
    refine lc_range (lo := 0) (n := n) (fun j Hd => ∃ l : List Int, l.length = j ∧ (∀ z ∈ l, -3 ≤ z ∧ z ≤ 5) ∧ Hd D1 = some (.lst (l.map V.int)) ∧ DrawAt Hd d lg cl ∧ Kept d lg H Hd) ⟨[], rfl, (fun _ m => nomatch m), upd_same, draw_same (same_upd nD1) DR, (fun b o h _ _ => same_upd nD1 b o h)⟩ ?_ ?_
    · rintro j Hd hj ⟨l, hl, hb, eD, Dd, kd⟩
      refine ⟨rfl, ?_⟩
      dsimp only [tYes]
      refine iteT ?_
      obtain ⟨nDd, nDl, nDc⟩ := draw_new DR nD1
      refine ⟨_, rfl, d, lg, cl, 9, rfl, Dd, by decide, by decide, fun z H2 z0 z1 D2 k2 => ?_⟩
      have eD2 := k2 _ _ eD nDd nDl
      refine ⟨_, _, rfl, rfl, ?_⟩
      refine ⟨_, eD2, small_2000 (by rw [List.length_map]; omega), l ++ [z - 3], by rw [List.length_append, hl]; rfl, fun w m => ?_, by rw [upd_same, List.map_append]; rfl, draw_put nDd nDl nDc D2, kept_put nD1 (kd.trans k2)⟩
      rcases List.mem_append.mp m with m | m
      · exact hb w m
      · rw [List.mem_singleton.mp m]
        omega
    rintro H1 ⟨one, hol, hob, eD1, Dr1, k1⟩
    have hob5 : ∀ i ∈ one, i.natAbs ≤ 5 := fun i m => by have := hob i m; omega
    have hobW : ∀ i ∈ one, -(2 ^ 64) < i ∧ i < 2 ^ 64 := fun i m => by
      have := hob i m
      have h3 : (5 : Int) < 2 ^ 64 := by decide
      have h4 : -(2 ^ 64 : Int) < -3 := by decide
      omega
    refine ⟨D1, _, rfl, .inl ⟨SqL.of eD1, fun O nO => ?_⟩⟩
    have sO := same_upd (o := .tup (one.map V.int)) nO
    have eO : (upd H1 O (.tup (one.map V.int))) O = some (.tup (one.map V.int)) := upd_same
    have DrO := draw_same sO Dr1
    have kO : Kept d lg H (upd H1 O (.tup (one.map V.int))) := k1.trans (fun b o h _ _ => sO b o h)
    generalize upd H1 O (.tup (one.map V.int)) = H3 at sO eO DrO kO
    refine ⟨_, rfl, n, rfl, by omega, by omega, fun D2 nD2 => ?_⟩
    rw [Int.toNat_natCast]
    refine lc_range (lo := 0) (n := n) (fun j Hd => ∃ l : List Int, l.length = j ∧ (∀ z ∈ l, 0 ≤ z) ∧ Hd D2 = some (.lst (l.map V.int)) ∧ DrawAt Hd d lg cl ∧ Kept d lg H3 Hd) ⟨[], rfl, (fun _ m => nomatch m), upd_same, draw_same (same_upd nD2) DrO, (fun b o h _ _ => same_upd nD2 b o h)⟩ ?_ ?_
    · rintro j Hd hj ⟨l, hl, hb, eD, Dd, kd⟩
      refine ⟨rfl, ?_⟩
      dsimp only [tYes]
      refine iteT ?_
      obtain ⟨nDd, nDl, nDc⟩ := draw_new DrO nD2
      refine ⟨_, rfl, _, _, rfl, rfl, cpow12, d, lg, cl, _, rfl, Dd, by decide, by decide, fun z H2 z0 z1 D2 k2 => ?_⟩
      have eD2 := k2 _ _ eD nDd nDl
      refine ⟨_, eD2, small_2000 (by rw [List.length_map]; omega), l ++ [z], by rw [List.length_append, hl]; rfl, fun w m => ?_, by rw [upd_same, List.map_append]; rfl, draw_put nDd nDl nDc D2, kept_put nD2 (kd.trans k2)⟩
      rcases List.mem_append.mp m with m | m
      · exact hb w m
      · rw [List.mem_singleton.mp m]
        omega
    rintro H4 ⟨two, htl, _, eD2, Dr2, k2⟩
    refine ⟨D2, _, rfl, .inl ⟨SqL.of eD2, fun W nW => ?_⟩⟩
    have sW := same_upd (o := .tup (two.map V.int)) nW
    have eW : (upd H4 W (.tup (two.map V.int))) W = some (.tup (two.map V.int)) := upd_same
    have DrW := draw_same sW Dr2
    have kW : Kept d lg H3 (upd H4 W (.tup (two.map V.int))) := k2.trans (fun b o h _ _ => sW b o h)
    generalize upd H4 W (.tup (two.map V.int)) = H5 at sW eW DrW kW
    have eO5 := tup_kept DrO kW.n eO
    have k05 := kO.trans kW
    have N5 := hN.kept DR k05.n pl
    have G5 := hG.kept DR k05.n
    have T5 := Tabs.kept DR k05 TB
    -- form
    refine ⟨_, rfl, _, rfl, .ref y, .ref O, rfl, .inr ⟨y, n, _, rfl, G5.at_, hG.inn, hG.len, hG.n8, .inr ⟨O, one, rfl, SqT.of eO5, hol, hobW, fun H6 s6 => ?_⟩⟩⟩
    have hlog := pairV_abs (E := nums us) hol hol hyn hG.len hob5 hob5
    refine ⟨_, rfl, hlog, _, rfl, _, rfl, _, rfl, x, ps, O, O, n, us, one, one, rfl, N5.same s6, hG.inn, hul, hyn, .inr (SqT.of (s6 _ _ eO5)), .inr (SqT.of (s6 _ _ eO5)), hol, hol, hobW, fun H7 s7 => ?_⟩
    refine ⟨_, rfl, hlog, rfl, _, rfl, ?_⟩
    refine iteFb (by simp) ?_
    have s57 := s6.trans s7
    -- pair_form
    refine ⟨_, rfl, _, rfl, _, rfl, .ref y, .ref O, .ref W, rfl, .inr ⟨y, n, _, rfl, G5.at_.same s57, hG.inn, hG.len, hG.n8, .inr ⟨O, one, rfl, SqT.of (s57 _ _ eO5), hol, hobW, .inr ⟨W, two, rfl, SqT.of (s57 _ _ eW), htl, fun H8 s8 => ?_⟩⟩⟩⟩
    refine ⟨_, rfl, _, rfl, _, rfl, x, ps, O, W, n, us, one, two, rfl, N5.same (s57.trans s8), hG.inn, hul, hyn, .inr (SqT.of ((s57.trans s8) _ _ eO5)), .inr (SqT.of ((s57.trans s8) _ _ eW)), hol, htl, hobW, fun H9 s9 => ?_⟩
    refine ⟨rfl, _, rfl, ?_⟩
    refine iteFb (by simp) ?_
    have s59 := (s57.trans s8).trans s9
    have Dr9 := draw_same s59 DrW
    have eO9 := s59 _ _ eO5
    have k09 : Kept d lg H H9 := k05.trans (fun b o h _ _ => s59 b o h)
    have oL : (one.map V.int).length = n := by rw [List.length_map, hol]
    have o0 : 0 < (one.map V.int).length := by omega
    have on0 : one.map V.int ≠ [] := fun z => by rw [z] at o0; exact absurd o0 (by decide)
    refine ⟨_, rfl, _, rfl, O, _, rfl, .inr (SqT.of eO9), fun l1 nl1 => ?_⟩
    have s1 := same_upd (o := .lst (one.map V.int)) nl1
    have el1 : (upd H9 l1 (.lst (one.map V.int))) l1 = some (.lst (one.map V.int)) := upd_same
    have nl1g : l1 ≠ lg := (draw_new Dr9 nl1).2.1
    generalize upd H9 l1 (.lst (one.map V.int)) = Ha at s1 el1
    refine ⟨_, rfl, by show 1 ≤ sizeLine; decide, fun t1 nt1 => catT_rd (same_upd nt1 _ _ (s1 _ _ eO9)) upd_same on0 (by omega) fun p1 Hb sb ep1 => ?_⟩
    have sab := (same_upd (o := .tup [.int 0]) nt1).trans sb
    have s9b := s1.trans sab
    refine ⟨_, rfl, 1, rfl, ?_⟩
    dsimp only [tNoPart]
    refine slT_rd (s9b _ _ eO9) o0 fun S1 Hc sc eS1 => ?_
    refine ⟨by show 1 ≤ sizeLine; decide, fun t2 nt2 => ⟨_, rfl, 1, rfl, ?_⟩⟩
    dsimp only [tNoPart]
    refine slT_rd (same_upd nt2 _ _ (sc _ _ (s9b _ _ eO9))) o0 fun S2 Hd sd eS2 => ?_
    refine catA_rd (sd _ _ upd_same) eS2 (by rw [List.length_drop]; omega) fun p2 He se ep2 => ?_
    refine ⟨_, rfl, n, rfl, rfl, by omega, hyn, fun zs => ?_⟩
    have sce := ((same_upd (o := .tup [.bl true]) nt2).trans sd).trans se
    have sbe := sc.trans sce
    refine ⟨by show 6 ≤ sizeLine; decide, fun q nq => ?_⟩
    have sq := same_upd (o := .lst [.non, .ref l1, .ref p1, .ref S1, .ref p2, .str zs]) nq
    have s9e : Same H9 He := s9b.trans sbe
    have DrE := draw_same s9e Dr9
    obtain ⟨nqd, nql, _⟩ := draw_new DrE nq
    refine ⟨d, lg, cl, q, _, rfl, draw_same sq DrE, upd_same, nql, by show 0 < 6; decide, by show 6 < 1000; decide, fun i bad H11 hi D11 k11 => ?_⟩
    have kE : Kept d lg He H11 := fun b o h h1 h2 => k11 b o (sq _ _ h) h1 h2
    have k9 : Kept d lg H9 H11 := fun b o h h1 h2 => kE b o (s9e _ _ h) h1 h2
    have k0 : Kept d lg H H11 := k09.trans k9
    have hb : RowBad n H11 bad := by
      match i, hi with
      | 0, hi => cases hi; exact .inl rfl
      | 1, hi =>
        cases hi
        refine .inr (.inr (.inl ⟨l1, _, rfl, kE _ _ ((sab.trans sbe) _ _ el1) (fun z => ?_) nl1g⟩))
        exact (draw_new Dr9 nl1).1 z
      | 2, hi =>
        cases hi
        refine .inr (.inr (.inr (.inl ⟨p1, _, rfl, tup_kept DrE kE.n (sbe _ _ ep1), ?_, ?_⟩)))
        · rw [List.length_append, oL]; show n + 1 ≠ n; omega
        · rw [List.length_append, oL]; show n + 1 ≤ 1000; omega
      | 3, hi =>
        cases hi
        refine .inr (.inr (.inr (.inl ⟨S1, _, rfl, tup_kept DrE kE.n (sce _ _ eS1), ?_, ?_⟩)))
        · rw [List.length_drop, oL]; omega
        · rw [List.length_drop, oL]; omega
      | 4, hi =>
        cases hi
        refine .inr (.inr (.inr (.inr ⟨p2, one.drop 1, rfl, ?_, ?_⟩)))
        · rw [List.map_drop]; exact tup_kept DrE kE.n ep2
        · rw [List.length_drop, hol]; omega
      | 5, hi => cases hi; exact .inr (.inl ⟨_, rfl⟩)
      | n + 6, hi => simp at hi
    exact re _ H H11 d lg cl x ps y O n us one bad _ _ ⟨D11, Tabs.kept DR k0 TB, k0.n, hN.kept DR k0.n pl, hG.kept DR k0.n, tup_kept Dr9 k9.n eO9, hol, hobW, hb⟩ k
end
end K03


set_option Elab.async false
set_option maxRecDepth 100000
set_option maxHeartbeats 4000000
set_option linter.all false
/-! shapes beside other values -/
namespace K03
open PySem PySem.Spec PyProof.Rows L2 NetM
/-- what stands behind the word -/
def ThAt (H : Hp) (n : Nat) : Option (List Int) → V → Prop
  | none, th => th = .int n
  | some L, th => ∃ R, th = .ref R ∧ H R = some (.tup (L.map V.int))
def TupS (H : Hp) (T : Addr) (word : Str) (n : Nat) (c : Option (List Int)) : Prop := ∃ th, H T = some (.tup [.str word, th]) ∧ ThAt H n c th
/-- the shape of a net -/
def ShpOf (n : Nat) (zs : Prs) (word : Str) (c : Option (List Int)) : Prop := ∀ (H : Hp) (Q : VK), (∀ T H', Same H H' → TupS H' T word n c → Q (.ref T) H') → ShpQ H n zs Q
section
variable {K : PySem.W.Frag} {H : Hp} {n : Nat} {c : Option (List Int)} {th : V}
theorem nu_tup {a : Addr} {xs : List V} (h : H a = some (.tup xs)) : NuJ K H (.ref a) none := .no (.base (.tup h)) (ko_tup K).1 (ko_tup K).2
theorem nu_non : NuJ K H .non none := .no (.base .non) (ko_non K).1 (ko_non K).2
theorem ko_lst (K : PySem.W.Frag) : PySem.W.kitOne K (.type "list") (.type "int") = some false ∧ PySem.W.kitOne K (.type "list") (.type "bool") = some false := ⟨by kernel_rfl, by kernel_rfl⟩
theorem kt_bool (K : PySem.W.Frag) : PySem.W.kitOne K (.type "bool") (.type "tuple") = some false := by kernel_rfl
theorem ks_int (K : PySem.W.Frag) : PySem.W.kitOne K (.type "int") (.type "str") = some false := by kernel_rfl
theorem ks_tup (K : PySem.W.Frag) : PySem.W.kitOne K (.type "tuple") (.type "str") = some false := by kernel_rfl
theorem nu_lst {a : Addr} {xs : List V} (h : H a = some (.lst xs)) : NuJ K H (.ref a) none := .no (.base (.lst h)) (ko_lst K).1 (ko_lst K).2
/-- beside what is no number and no tuple -/
theorem th_no {d : Nat} (h : ThAt H n c th) {v : V} {t : Value} (nu : NuJ K H v none) (ty : TyX K H v t) (z : PySem.W.kitOne K t (.type "tuple") = some false) : SmJ K (d + 1) H th v false := by
  cases c with
  | none =>
    obtain rfl : th = .int n := h
    exact .inl (.iN _ nu)
  | some L =>
    obtain ⟨R, rfl, e⟩ := h
    exact .inr (.no (SqT.of e) ty z)
theorem th_zero (h : ThAt H n c th) (n0 : 0 < n) : SmJ K 2 H th (.int 0) false := by
  cases c with
  | none =>
    obtain rfl : th = .int n := h
    have : SmJ K 2 H (.int n) (.int 0) (decide ((0 : Int) = (n : Int))) := .inl (.ii _ _)
    rw [decide_eq_false (by omega)] at this
    exact this
  | some L =>
    obtain ⟨R, rfl, e⟩ := h
    exact .inr (.no (SqT.of e) (.base (.int 0)) (kt_int K).1)
theorem zip_all : ∀ (L M : List Int), M.length = L.length → (List.zipWith (fun i j => decide (j = i)) L M).all id = decide (L = M)
  | [], [], _ => rfl
  | a :: L, b :: M, h => by
    rw [List.zipWith_cons_cons, List.all_cons, zip_all L M (by simpa using h)]
    by_cases e : b = a
    · subst e
      rw [decide_eq_true rfl]
      by_cases e2 : L = M
      · subst e2; rw [decide_eq_true rfl, decide_eq_true rfl]; rfl
      · rw [decide_eq_false e2, decide_eq_false (fun z => e2 (List.cons.inj z).2)]; rfl
    · rw [decide_eq_false e, decide_eq_false (fun z => e (List.cons.inj z).1.symm)]; rfl
theorem th_tup (h : ThAt H n c th) {a : Addr} {M : List Int} (e : H a = some (.tup (M.map V.int))) (lc : ∀ L, c = some L → L.length ≤ 1000) : SmJ K 2 H th (.ref a) (decide (c = some M)) := by
  cases c with
  | none =>
    obtain rfl : th = .int n := h
    rw [decide_eq_false (by simp)]
    exact .inl (.iN _ (nu_tup e))
  | some L =>
    obtain ⟨R, rfl, eR⟩ := h
    by_cases l : M.length = L.length
    · have : SmJ K 2 H (.ref R) (.ref a) ((List.zipWith (fun i j => decide (j = i)) L M).all id) := .inr (.all (SqT.of eR) (SqT.of e) (by rw [List.length_map, List.length_map]; exact l) (by rw [List.length_zipWith, List.length_map]; omega) (by rw [List.length_map]; exact lc L rfl) fun i x y hx hy => by
        obtain ⟨i1, h1, rfl⟩ := int_at hx
        obtain ⟨i2, h2, rfl⟩ := int_at hy
        exact ⟨decide (i2 = i1), by rw [List.getElem?_zipWith, h1, h2], .inl (.ii _ _)⟩)
      rw [zip_all L M l] at this
      have e3 : decide (L = M) = decide (some L = some M) := decide_eq_decide.mpr ⟨fun z => by rw [z], fun z => Option.some.inj z⟩
      rw [← e3]
      exact this
    · rw [decide_eq_false (fun z => l (by rw [Option.some.inj z]))]
      exact .inr (.len (SqT.of eR) (SqT.of e) (by rw [List.length_map, List.length_map]; exact l))
theorem th_self (h : ThAt H n c th) {th2 : V} (h2 : ThAt H n c th2) (lc : ∀ L, c = some L → L.length ≤ 1000) : SmJ K 2 H th th2 true := by
  cases c with
  | none =>
    obtain rfl : th = .int n := h
    obtain rfl : th2 = .int n := h2
    have : SmJ K 2 H (.int n) (.int n) (decide ((n : Int) = (n : Int))) := .inl (.ii _ _)
    rw [decide_eq_true rfl] at this
    exact this
  | some L =>
    obtain ⟨R2, rfl, e2⟩ := h2
    have := th_tup (K := K) h e2 lc
    rw [decide_eq_true rfl] at this
    exact this
theorem w_str (word z : Str) : SmJ K 2 H (.str word) (.str z) (decide (z = word)) := .inl (.ss word z)
theorem w_th (word : Str) {th2 : V} (h2 : ThAt H n c th2) : SmJ K 2 H (.str word) th2 false := by
  cases c with
  | none =>
    obtain rfl : th2 = .int n := h2
    exact .inl (.sN word (.base (.int _)) (ks_int K))
  | some L =>
    obtain ⟨R2, rfl, e2⟩ := h2
    exact .inl (.sN word (.base (.tup e2)) (ks_tup K))
theorem pr_sm {T a : Addr} {x1 x2 y1 y2 : V} {b1 b2 : Bool} (hT : H T = some (.tup [x1, x2])) (ha : H a = some (.tup [y1, y2])) (h1 : SmJ K 2 H x1 y1 b1) (h2 : SmJ K 2 H x2 y2 b2) : SmJ K 3 H (.ref T) (.ref a) (b1 && b2) := by
  have : SmJ K 3 H (.ref T) (.ref a) ([b1, b2].all id) := .inr (.all (SqT.of hT) (SqT.of ha) rfl rfl (by show 2 ≤ 1000; decide) fun i x y hx hy => by
    match i, hx, hy with
    | 0, hx, hy => cases hx; cases hy; exact ⟨b1, rfl, h1⟩
    | 1, hx, hy => cases hx; cases hy; exact ⟨b2, rfl, h2⟩
    | i + 2, hx, hy => simp at hx)
  have e : [b1, b2].all id = (b1 && b2) := by
    rw [List.all_cons, List.all_cons, List.all_nil, Bool.and_true]; rfl
  rw [← e]
  exact this
end
/-! ### values that keep what they are while draws go on -/
def Holds : List (Addr × HO) → Hp → Prop
  | [], _ => True
  | p :: F, H => H p.1 = some p.2 ∧ Holds F H
def Safe (d lg : Addr) : List (Addr × HO) → Prop
  | [] => True
  | p :: F => (p.1 ≠ d ∧ p.1 ≠ lg) ∧ Safe d lg F
theorem Holds.kept {d lg : Addr} {H H' : Hp} (k : Kept d lg H H') : ∀ {F : List (Addr × HO)}, Safe d lg F → Holds F H → Holds F H'
  | [], _, _ => trivial
  | _ :: _, h, g => ⟨k _ _ g.1 h.1.1 h.1.2, Holds.kept k h.2 g.2⟩
theorem Holds.same {H H' : Hp} (k : Same H H') : ∀ {F : List (Addr × HO)}, Holds F H → Holds F H'
  | [], _ => trivial
  | _ :: _, g => ⟨k _ _ g.1, Holds.same k g.2⟩
/-- no shape of this net -/
def BadS (K : PySem.W.Frag) (F : List (Addr × HO)) (word : Str) (n : Nat) (c : Option (List Int)) (y : V) : Prop := ∀ H, Holds F H → ∀ T, TupS H T word n c → SmJ K 3 H (.ref T) y false
end K03


set_option Elab.async false
set_option maxRecDepth 100000
set_option maxHeartbeats 4000000
set_option linter.all false
namespace K03
open PySem PySem.Spec PyProof.Rows L2 NetM
abbrev sJR : Stmt := top 50
abbrev N50 : List Str := ["draw", "net_here", "due", "word", "thing", "bad", "number", "item", "lap"]
theorem scJR : FnScope N50 ["draw", "net_here", "due"] (defScope sJR) := ⟨rfl, rfl, rfl, by decide +kernel, rfl, by decide +kernel, by decide +kernel⟩
abbrev X50 (P : Program) (w : World) (K : PySem.W.Frag) (mg : Str → Option Value) (base : Heap) (f : Addr) (cdv : Value) (A : Around) (outer : List Env) (s : Shared) (H : Hp) (E : XK) : Cx := (cxOf L2.CX0 P w K mg base N50 "_law_judged_right" (defScope sJR) f cdv A outer s H E).nox
section
variable {P : Program} {w : World} {K : PySem.W.Frag} {mg : Str → Option Value} {base : Heap} {CN CB CR CW : Addr}
theorem p50_4 {f : Addr} {cdv : Value} {A : Around} {outer : List Env} {s : Shared} {Hs : Hp} {E : XK} (Y : Al4 P w K mg base CN CB CR CW) (hr : Room 6 (A.deeper (envOfC "_law_judged_right" (defScope sJR) s.heap.objs.size f cdv))) :
    ∃ t, PSs (X50 P w K mg base f cdv A outer s Hs E) ((defBody sJR).drop 5) t ∧ ∀ (D : Ends) (H0 H : Hp) (d lg cl y T0 B : Addr) (n : Nat) (zs : Prs) (word : Str) (c : Option (List Int)) (xs : List V) (F : List (Addr × HO)) (v3 v4 v6 v7 v8 : Option V),
      DrawAt H d lg cl → Kept d lg H0 H → NetG K CN H y n zs → ShpOf n zs word c → (∀ L, c = some L → L.length ≤ 1000) → H B = some (.lst xs) → B ≠ lg → B ≠ d → 0 < xs.length → xs.length < 1000 → Safe d lg F → Holds F H → (∀ x ∈ xs, BadS K F word n c x) → (∀ H', Holds F H' → TupS H' T0 word n c) →
      (∀ H', DrawAt H' d lg cl → Kept d lg H0 H' → D.rt (.bl true) H') →
      t D [some (.ref d), some (.ref y), some (.ref T0), v3, v4, some (.ref B), v6, v7, v8] H := by
  have nd := scJR.nd
  have r3 : Room 3 _ := hr.mono (by decide)
  refine ⟨_, pss_cons (ps_for PassesOwn.never rfl (pi_list (pe_lc (own := [("lap", 8)]) (g := gName 8) (by rfl) nd (pi_range1 (by rfl) Y.mRa (pa_cons pe_int pa_nil)) (blkOk_by (own := [("lap", 8)]) (N := N50) (sc := defScope sJR) (by decide +kernel)) (fun _ _ _ _ _ => pg_name (i := 8) nd rfl (by first | exact Or.inl rfl | exact Or.inr rfl)) (fun _ _ _ _ _ => pts_nil)
        (fun _ _ _ _ _ => pe_call Y.pk.ok r3 (by rfl) Y.pk.g Y.pk.kp Y.pk.b .nil pass0 (pa_cons (pv 0) (pa_cons (pv 5) pa_nil))))) (pg_name (i := 7) nd rfl (by first | exact Or.inl rfl | exact Or.inr rfl))
      (pss_one (ps_if (pt_cmpR op_notBl (pe_call Y.is.ok hr (by rfl) Y.is.g Y.is.kp Y.is.b .nil (passes_call L2.takes0 fun _ _ _ _ h => h) (pa_cons (pv 1) (pa_cons (pv 7) pa_nil))) pe_bl (nomark _)) (pss_one (ps_ret pe_bl)) pss_nil)))
    (pss_one (ps_ret (pe_cmpR op_isBl (pe_callK0 Y.is.ok hr (by rfl) Y.is.g Y.is.kp Y.isK (passes_call L2.takes0 fun _ _ _ _ h => h) (pk_cons (pv 2) (pk_cons (pv 1) pk_nil))) pe_bl (nomark _)))), ?_⟩
  intro D H0 H d lg cl y T0 B n zs word c xs F v3 v4 v6 v7 v8 DR kp G hS lc eB nBl nBd x0 x1 sf hF hB hT k
  refine ⟨4, rfl, by decide, by decide, fun J nJ => ?_⟩
  obtain ⟨nJd, nJl, nJc⟩ := draw_new DR nJ
  have nJB : B ≠ J := fun z => by rw [z, nJ] at eB; cases eB
  refine lc_range (lo := 0) (n := 4) (fun i Hd => ∃ ys : List V, ys.length = i ∧ (∀ x ∈ ys, BadS K F word n c x) ∧ Hd J = some (.lst ys) ∧ DrawAt Hd d lg cl ∧ Kept d lg H Hd) ⟨[], rfl, (fun _ m => nomatch m), upd_same, draw_same (same_upd nJ) DR, (fun b o h _ _ => same_upd nJ b o h)⟩ ?_ ?_
  · rintro i Hd hi ⟨ys, hys, hb, eJ, Dd, kd⟩
    refine ⟨rfl, ?_⟩
    dsimp only [tYes]
    refine iteT ?_
    refine ⟨_, rfl, _, rfl, d, lg, cl, B, xs, rfl, Dd, kd _ _ eB nBd nBl, nBl, x0, x1, fun j x H2 hj D2 k2 => ?_⟩
    refine ⟨_, k2 _ _ eJ nJd nJl, small_2000 (by omega), ys ++ [x], by rw [List.length_append, hys]; rfl, fun z m => ?_, upd_same, draw_put nJd nJl nJc D2, kept_put nJ (kd.trans k2)⟩
    rcases List.mem_append.mp m with m | m
    · exact hb z m
    · rw [List.mem_singleton.mp m]
      exact hB x (List.mem_of_getElem? hj)
  rintro H1 ⟨ys, hys, hb, eJ, D1, k1⟩
  refine ⟨J, rfl, ⟨_, SqL.of eJ⟩, ?_⟩
  refine for_list (K := K) (a := J) (xs := ys) (fun i σ Hx => ∃ v7 : Option V, σ = [some (.ref d), some (.ref y), some (.ref T0), v3, v4, some (.ref B), v6, v7, v8] ∧ Same H1 Hx) ⟨_, rfl, Same.refl _⟩ (fun i σ Hx _ hh => by obtain ⟨_, _, s⟩ := hh; exact s.seq (SqL.of eJ)) ?_ ?_
  · rintro i x σ Hx hi ⟨v7, rfl, sx⟩
    have hx := hb x (List.mem_of_getElem? hi)
    have Gx := (G.kept DR k1.n).same sx
    have hFx := (hF.kept k1 sf).same sx
    refine ⟨_, rfl, _, rfl, .ref y, x, rfl, .inr ⟨y, n, zs, rfl, Gx, hS _ _ fun T H' s' hTs => ?_⟩⟩
    refine ⟨false, hx H' (hFx.same s') T hTs, fun H2 s2 => ?_⟩
    refine ⟨false, false, rfl, rfl, _, rfl, ?_⟩
    refine iteF ?_
    exact ⟨_, rfl, (sx.trans s').trans s2⟩
  · rintro σ Hx ⟨v7, rfl, sx⟩
    have Gx := (G.kept DR k1.n).same sx
    have hFx := (hF.kept k1 sf).same sx
    refine ⟨_, rfl, _, rfl, .ref y, .ref T0, rfl, .inr ⟨y, n, zs, rfl, Gx, hS _ _ fun T H' s' hTs => ?_⟩⟩
    obtain ⟨th, hT1, hT2⟩ := hTs
    obtain ⟨th0, hT3, hT4⟩ := hT H' (hFx.same s')
    have hsm := pr_sm (K := K) hT1 hT3 (w_str word word) (th_self hT2 hT4 lc)
    rw [decide_eq_true rfl] at hsm
    refine ⟨true, hsm, fun H2 s2 => ?_⟩
    refine ⟨true, true, rfl, rfl, ?_⟩
    have s12 := (sx.trans s').trans s2
    exact k H2 (draw_same s12 D1) ((kp.trans k1).trans (fun b o h _ _ => s12 b o h))
end
end K03


set_option Elab.async false
set_option maxRecDepth 100000
set_option maxHeartbeats 4000000
set_option linter.all false
namespace K03
open PySem PySem.Spec PyProof.Rows L2 NetM
def Off (b : Addr) : List (Addr × HO) → Prop
  | [] => True
  | p :: F => p.1 ≠ b ∧ Off b F
theorem Holds.off {b : Addr} {H : Hp} (nb : H b = none) : ∀ {F : List (Addr × HO)}, Holds F H → Off b F
  | [], _ => trivial
  | _ :: _, h => ⟨(fun z => by have h1 := h.1; rw [z, nb] at h1; cases h1), Holds.off nb h.2⟩
theorem Holds.put {b : Addr} {o : HO} {H : Hp} : ∀ {F : List (Addr × HO)}, Holds F H → Off b F → Holds F (upd H b o)
  | [], _, _ => trivial
  | _ :: _, h, f => ⟨by rw [upd_ne f.1]; exact h.1, Holds.put h.2 f.2⟩
/-- what is told of the row behind the word -/
def CF (n : Nat) (c : Option (List Int)) : Prop := ∀ L, c = some L → L.length = n ∧ 2 ≤ n ∧ (∀ i ∈ L, 1 ≤ i ∧ i < 1000) ∧ L ≠ [9, 9]
theorem cutLast {xs : List V} : cutV xs none (some (-1)) = xs.dropLast := by
  unfold cutV
  rw [HT.sIx_none, List.drop_zero, Nat.sub_zero]
  have hix : HT.sIx xs.length xs.length (some (-1)) = xs.length - 1 := by
    show (if (-1 : Int) < 0 then ((-1 : Int) + (xs.length : Int)).toNat else min (-1 : Int).toNat xs.length) = _
    rw [if_pos (by decide)]
    omega
  rw [hix, List.dropLast_eq_take]
theorem slT_last {K : PySem.W.Frag} {H : Hp} {t : Addr} {xs : List V} {Q : VK} (ht : H t = some (.tup xs)) (h : 0 < xs.length) (q : ∀ p Hx, H p = none → Hx = upd H p (.tup xs.dropLast) → Q (.ref p) Hx) : rSlT K (.ref t) none (some (-1)) H Q := by
  refine ⟨t, xs, rfl, SqT.of ht, fun z => ?_, fun p np => ?_⟩
  · have hix : HT.sIx xs.length xs.length (some (-1)) = xs.length - 1 := by
      show (if (-1 : Int) < 0 then ((-1 : Int) + (xs.length : Int)).toNat else min (-1 : Int).toNat xs.length) = _
      rw [if_pos (by decide)]
      omega
    rw [hix] at z
    have := z.2
    omega
  · rw [cutLast]
    exact q p _ np rfl
section
variable {P : Program} {w : World} {K : PySem.W.Frag} {mg : Str → Option Value} {base : Heap} {CN CB CR CW : Addr}
theorem p50_3 {f : Addr} {cdv : Value} {A : Around} {outer : List Env} {s : Shared} {Hs : Hp} {E : XK} (Y : Al4 P w K mg base CN CB CR CW) (hr : Room 6 (A.deeper (envOfC "_law_judged_right" (defScope sJR) s.heap.objs.size f cdv))) :
    ∃ t, PSs (X50 P w K mg base f cdv A outer s Hs E) ((defBody sJR).drop 4) t ∧ ∀ (D : Ends) (H0 H : Hp) (d lg cl y T0 B : Addr) (n : Nat) (zs : Prs) (word : Str) (c : Option (List Int)) (th : V) (xs : List V) (F : List (Addr × HO)),
      DrawAt H d lg cl → Kept d lg H0 H → NetG K CN H y n zs → ShpOf n zs word c → CF n c → H B = some (.lst xs) → B ≠ lg → B ≠ d → 0 < xs.length → xs.length < 900 → Safe d lg F → Holds F H → (∀ FF, (∀ H', Holds FF H' → Holds F H') → ∀ x ∈ xs, BadS K FF word n c x) → (∀ H', Holds F H' → H' T0 = some (.tup [.str word, th]) ∧ ThAt H' n c th) →
      (∀ H', DrawAt H' d lg cl → Kept d lg H0 H' → D.rt (.bl true) H') →
      t D [some (.ref d), some (.ref y), some (.ref T0), some (.str word), some th, some (.ref B), none, none, none] H := by
  have nd := scJR.nd
  obtain ⟨te, pe, re⟩ := p50_4 (f := f) (cdv := cdv) (outer := outer) (s := s) (Hs := Hs) (E := E) Y hr
  refine ⟨_, (pss_cons (ps_if (pt_val (pe_callB call_isi (by rfl) Y.mIs (by decide +kernel) (pa_cons (pv 4) (pa_cons (pe_bltn (v := .ty "tuple") (by rfl) Y.mTup (by decide +kernel) rfl) pa_nil)))) (pss_one (ps_set (i := 5) nd rfl (by first | exact Or.inl rfl | exact Or.inr rfl) (pe_op op_cat (pv 5) (pe_lst (pa_cons (pe_tup (pa_cons (pv 3) (pa_cons (pe_callTy (show CallR _ (.type "list") (fun xs H Q => ∃ p ys, xs = [.ref p] ∧ (SqL K H p ys ∨ SqT K H p ys) ∧ ∀ l, H l = none → Q (.ref l) (upd H l (.lst ys))) from call_list_of) (by rfl) Y.mLi (by decide +kernel) (pa_cons (pv 4) pa_nil)) pa_nil))) (pa_cons (pe_tup (pa_cons (pv 3) (pa_cons (pe_slice sl_tup (pv 4) po_none (po_some (pe_un un_neg pe_int))) pa_nil))) (pa_cons (pe_tup (pa_cons (pv 3) (pa_cons (pe_callTy (show CallR _ _ (fun xs H Q => ∃ p ys, xs = [.ref p] ∧ ((SqL K H p ys ∧ ∀ l, H l = none → Q (.ref l) (upd H l (.tup ys))) ∨ (SqT K H p ys ∧ Q (.ref p) H))) from call_tuple_of) (by rfl) Y.mTup (by decide +kernel) (pa_cons (pe_lc (own := [("number", 6)]) (g := gName 6) (by rfl) nd (pi_seq (pv 4)) (blkOk_by (own := [("number", 6)]) (N := N50) (sc := defScope sJR) (by decide +kernel)) (fun _ _ _ _ _ => pg_name (i := 6) nd rfl (by first | exact Or.inl rfl | exact Or.inr rfl)) (fun _ _ _ _ _ => pts_nil) (fun _ _ _ _ _ => pe_op op_mul pe_int (pv 6))) pa_nil)) pa_nil))) pa_nil))))))) pss_nil) pe), ?_⟩
  intro D H0 H d lg cl y T0 B n zs word c th xs F DR kp G hS cf eB nBl nBd x0 x1 sf hF hB hT k
  have lc : ∀ L, c = some L → L.length ≤ 1000 := fun L e => by have := (cf L e).1; have := G.n8; omega
  obtain ⟨hTe, hTt⟩ := hT H hF
  cases c with
  | none =>
    obtain rfl : th = .int n := hTt
    refine ⟨_, rfl, _, _, _, _, false, rfl, .ty "tuple", .base (.int n), (kt_int K).1, _, rfl, ?_⟩
    refine iteF ?_
    exact re D H0 H d lg cl y T0 B n zs word none xs F _ _ _ _ _ DR kp G hS lc eB nBl nBd x0 (by omega) sf hF (hB F fun _ h => h) (fun H' h => ⟨_, hT H' h⟩) k
  | some L =>
    obtain ⟨hL, n2, hLb, hL9⟩ := cf L rfl
    have n8 := G.n8
    obtain ⟨R, rfl, eR⟩ := hTt
    refine ⟨_, rfl, _, _, _, _, true, rfl, .ty "tuple", .base (.tup eR), kit_tt K, _, rfl, ?_⟩
    refine iteT ?_
    have hlV : (L.map V.int).length = n := by rw [List.length_map, hL]
    refine ⟨_, rfl, _, rfl, _, rfl, R, _, rfl, .inr (SqT.of eR), fun l12 n_l12 => ?_⟩
    obtain ⟨nd_l12, nl_l12, nc_l12⟩ := draw_new DR n_l12
    have s_l12 := same_upd (o := .lst (L.map V.int)) n_l12
    have e_l12 : (upd H l12 (.lst (L.map V.int))) l12 = some (.lst (L.map V.int)) := upd_same
    generalize upd H l12 (.lst (L.map V.int)) = H1 at s_l12 e_l12
    have D1 := draw_same s_l12 DR
    refine ⟨by show 2 ≤ sizeLine; decide, fun a12 n_a12 => ?_⟩
    obtain ⟨nd_a12, nl_a12, nc_a12⟩ := draw_new D1 n_a12
    have s_a12 := same_upd (o := .tup [.str word, .ref l12]) n_a12
    have e_a12 : (upd H1 a12 (.tup [.str word, .ref l12])) a12 = some (.tup [.str word, .ref l12]) := upd_same
    generalize upd H1 a12 (.tup [.str word, .ref l12]) = H2 at s_a12 e_a12
    have s02 := s_l12.trans s_a12
    have D2 := draw_same s02 DR
    refine ⟨_, rfl, _, rfl, _, rfl, _, rfl, ?_⟩
    refine slT_last (s02 _ _ eR) (by omega) fun p13 Hp13 n_p13 hp13 => ?_
    obtain ⟨nd_p13, nl_p13, nc_p13⟩ := draw_new D2 n_p13
    have s_p13 : Same H2 Hp13 := by rw [hp13]; exact same_upd n_p13
    have e_p13 : Hp13 p13 = some (.tup (L.map V.int).dropLast) := by rw [hp13]; exact upd_same
    clear hp13
    have s03 := s02.trans s_p13
    have D3 := draw_same s03 DR
    refine ⟨by show 2 ≤ sizeLine; decide, fun a13 n_a13 => ?_⟩
    obtain ⟨nd_a13, nl_a13, nc_a13⟩ := draw_new D3 n_a13
    have s_a13 := same_upd (o := .tup [.str word, .ref p13]) n_a13
    have e_a13 : (upd Hp13 a13 (.tup [.str word, .ref p13])) a13 = some (.tup [.str word, .ref p13]) := upd_same
    generalize upd Hp13 a13 (.tup [.str word, .ref p13]) = H4 at s_a13 e_a13
    have s04 := s03.trans s_a13
    have D4 := draw_same s04 DR
    refine ⟨_, rfl, _, rfl, R, _, rfl, .inr (SqT.of (s04 _ _ eR)), fun J hJ Dc nDc => ?_⟩
    refine lc_seq hJ (fun i Hd => Hd Dc = some (.lst (((L.take i).map fun i => 2 * i).map V.int)) ∧ Same H4 Hd) ⟨upd_same, same_upd nDc⟩ (fun i Hd _ hh => .of hh.2) ?_ ?_
    · rintro i x Hd hi ⟨eD, sd⟩
      obtain ⟨z, hz, rfl⟩ := int_at hi
      refine ⟨rfl, ?_⟩
      dsimp only [tYes]
      refine iteT ?_
      refine ⟨_, rfl, 2, z, rfl, rfl, .inl ⟨by decide, by decide⟩, _, eD, small_2000 (by rw [List.length_map, List.length_map, List.length_take]; omega), ?_, same_put sd nDc⟩
      rw [upd_same, List.take_add_one, hz, List.map_append, List.map_append]
      rfl
    rintro H5 ⟨eD5, s5⟩
    rw [List.length_map, List.take_length] at eD5
    have D5 := draw_same (s04.trans s5) DR
    refine ⟨Dc, _, rfl, .inl ⟨SqL.of eD5, fun p14 n_p14 => ?_⟩⟩
    obtain ⟨nd_p14, nl_p14, nc_p14⟩ := draw_new D5 n_p14
    have s_p14 := same_upd (o := .tup ((L.map fun i => 2 * i).map V.int)) n_p14
    have e_p14 : (upd H5 p14 (.tup ((L.map fun i => 2 * i).map V.int))) p14 = some (.tup ((L.map fun i => 2 * i).map V.int)) := upd_same
    generalize upd H5 p14 (.tup ((L.map fun i => 2 * i).map V.int)) = H6 at s_p14 e_p14
    have s46 := s5.trans s_p14
    have s06 := s04.trans s46
    have D6 := draw_same s06 DR
    refine ⟨by show 2 ≤ sizeLine; decide, fun a14 n_a14 => ?_⟩
    obtain ⟨nd_a14, nl_a14, nc_a14⟩ := draw_new D6 n_a14
    have s_a14 := same_upd (o := .tup [.str word, .ref p14]) n_a14
    have e_a14 : (upd H6 a14 (.tup [.str word, .ref p14])) a14 = some (.tup [.str word, .ref p14]) := upd_same
    generalize upd H6 a14 (.tup [.str word, .ref p14]) = H7 at s_a14 e_a14
    have s07 := s06.trans s_a14
    have D7 := draw_same s07 DR
    refine ⟨by show 3 ≤ sizeLine; decide, fun M nM => ?_⟩
    have sM := same_upd (o := .lst [.ref a12, .ref a13, .ref a14]) nM
    have eM : (upd H7 M (.lst [.ref a12, .ref a13, .ref a14])) M = some (.lst [.ref a12, .ref a13, .ref a14]) := upd_same
    generalize upd H7 M (.lst [.ref a12, .ref a13, .ref a14]) = H8 at sM eM
    have s08 := s07.trans sM
    have D8 := draw_same s08 DR
    refine ⟨B, M, _, _, rfl, rfl, s08 _ _ eB, eM, Nat.le_of_lt (small_2000 (by show xs.length + 3 ≤ 2000; omega)), fun B2 nB2 => ?_⟩
    have sB2 := same_upd (o := .lst (xs ++ [.ref a12, .ref a13, .ref a14])) nB2
    obtain ⟨nd_B2, nl_B2, _⟩ := draw_new D8 nB2
    have s09 := s08.trans sB2
    have s7e := sM.trans sB2
    have s6e := s_a14.trans s7e
    have s4e := s46.trans s6e
    have s3e := s_a13.trans s4e
    have s2e := s_p13.trans s3e
    have s1e := s_a12.trans s2e
    have D9 := draw_same s09 DR
    have k09 : Kept d lg H0 (upd H8 B2 (.lst (xs ++ [.ref a12, .ref a13, .ref a14]))) := kp.trans (fun b o h _ _ => s09 b o h)
    obtain ⟨FN, hFN⟩ : ∃ FN : List (Addr × HO), FN = (l12, .lst (L.map V.int)) :: (a12, .tup [.str word, .ref l12]) :: (p13, .tup (L.map V.int).dropLast) :: (a13, .tup [.str word, .ref p13]) :: (p14, .tup ((L.map fun i => 2 * i).map V.int)) :: (a14, .tup [.str word, .ref p14]) :: F := ⟨_, rfl⟩
    have hFN9 : Holds FN (upd H8 B2 (.lst (xs ++ [.ref a12, .ref a13, .ref a14]))) := by
      rw [hFN]
      exact ⟨s1e _ _ e_l12, s2e _ _ e_a12, s3e _ _ e_p13, s4e _ _ e_a13, s6e _ _ e_p14, s7e _ _ e_a14, hF.same s09⟩
    have sFN : Safe d lg FN := by
      rw [hFN]
      exact ⟨⟨nd_l12, nl_l12⟩, ⟨nd_a12, nl_a12⟩, ⟨nd_p13, nl_p13⟩, ⟨nd_a13, nl_a13⟩, ⟨nd_p14, nl_p14⟩, ⟨nd_a14, nl_a14⟩, sf⟩
    have back : ∀ H', Holds FN H' → Holds F H' := fun H' h => by
      rw [hFN] at h
      exact h.2.2.2.2.2.2
    have eB2 : (upd H8 B2 (.lst (xs ++ [.ref a12, .ref a13, .ref a14]))) B2 = some (.lst (xs ++ [.ref a12, .ref a13, .ref a14])) := upd_same
    have G9 := (G.kept DR (KeptN.same s09))
    refine re D H0 _ d lg cl y T0 B2 n zs word (some L) (xs ++ [.ref a12, .ref a13, .ref a14]) FN _ _ _ _ _ D9 k09 G9 hS lc eB2 nl_B2 nd_B2 (by rw [List.length_append]; omega) (by rw [List.length_append]; show _ + 3 < 1000; omega) sFN hFN9 (fun x mx => ?_) (fun H' h => ⟨_, hT H' (back H' h)⟩) k
    rcases List.mem_append.mp mx with mx | mx
    · exact hB FN back x mx
    intro H' h0 T hTT
    rw [hFN] at h0
    obtain ⟨q_l12, q_a12, q_p13, q_a13, q_p14, q_a14, hF0'⟩ := h0
    obtain ⟨tw, hTw, hTh⟩ := hTT
    simp only [List.mem_cons, List.not_mem_nil, or_false] at mx
    rcases mx with rfl | rfl | rfl
    · have := pr_sm (K := K) hTw q_a12 (w_str word word) (th_no hTh (nu_lst q_l12) (.base (.lst q_l12)) (kt_lst K))
      rw [Bool.and_false] at this
      exact this
    · rw [← List.map_dropLast] at q_p13
      have := pr_sm (K := K) hTw q_a13 (w_str word word) (th_tup (M := L.dropLast) hTh q_p13 lc)
      rw [decide_eq_false (p := some L = some L.dropLast) (fun z => by have := congrArg List.length (Option.some.inj z); rw [List.length_dropLast] at this; omega), Bool.and_false] at this
      exact this
    · have := pr_sm (K := K) hTw q_a14 (w_str word word) (th_tup (M := L.map fun i => 2 * i) hTh q_p14 lc)
      have hne : ¬ (some L = some (L.map fun i => 2 * i)) := fun z => by
        have z1 := Option.some.inj z
        cases L with
        | nil => rw [← hL] at n2; exact absurd n2 (by decide)
        | cons a r =>
          rw [List.map_cons] at z1
          have h1 := (List.cons.inj z1).1
          have h2 := hLb a (List.mem_cons_self ..)
          omega
      rw [decide_eq_false hne, Bool.and_false] at this
      exact this
end
end K03


set_option Elab.async false
set_option maxRecDepth 100000
set_option maxHeartbeats 4000000
set_option linter.all false
namespace K03
open PySem PySem.Spec PyProof.Rows L2 NetM
theorem PE_conv {X : Cx} {e : Expr} {t t' : TE} (h : PE X e t) (c : ∀ σ H Q, t' σ H Q → t σ H Q) : PE X e t' := ⟨fun pins s σ H Q I q => h.run pins s σ H Q I (c σ H Q q)⟩
/-- another word -/
def tFk (i : Nat) : TE := fun σ H Q => ∃ w : Str, σ[i]? = some (some (.str w)) ∧ ∀ z : Str, z ≠ w → Q (.str z) H
theorem fk_conv {i : Nat} : ∀ σ H Q, tFk i σ H Q → tIf (tTest (tOp rNe (tVar i) (tC (.str "fork")))) (tC (.str "fork")) (tC (.str "line")) σ H Q := fun σ H Q ⟨p, e, q⟩ => by
  refine ⟨_, e, rfl, _, rfl, ?_⟩
  by_cases c : p = "fork"
  · subst c
    exact iteFb (by simp) (q _ (by decide))
  · exact iteTb (by rw [decide_eq_false (fun z => c (V.str.inj z))]; rfl) (q _ (fun z => c z.symm))
def spJR (K : PySem.W.Frag) (CN : Addr) : Sp := fun vs H Q _ => ∃ (d lg cl y T0 : Addr) (n : Nat) (zs : Prs) (word : Str) (c : Option (List Int)), vs = [.ref d, .ref y, .ref T0] ∧ DrawAt H d lg cl ∧ NetG K CN H y n zs ∧ ShpOf n zs word c ∧ TupS H T0 word n c ∧ CF n c ∧ ∀ H', DrawAt H' d lg cl → Kept d lg H H' → Q (.bl true) H'
section
variable {P : Program} {w : World} {K : PySem.W.Frag} {mg : Str → Option Value} {base : Heap} {CN CB CR CW : Addr}
theorem ok_jr {f : Addr} {fd : FuncData} (F : Fun K "_law_judged_right" "_law_judged_right" sJR f fd) (Y : Al4 P w K mg base CN CB CR CW) : FnOk P w K mg base CX0 7 f fd ["draw", "net_here", "due"] (spJR K CN) := by
  refine F.ok scJR (fun vs H Q E h => ?_) (fun cdv A outer s H vs Q E hr h => ?_)
  · obtain ⟨d, lg, cl, y, T0, n, zs, word, c, rfl, _⟩ := h
    rfl
  · obtain ⟨d, lg, cl, y, T0, n, zs, word, c, rfl, DR, G, hS, hTS, cf, k⟩ := h
    have nd := scJR.nd
    obtain ⟨te, pe, re⟩ := p50_3 (f := f) (cdv := cdv) (outer := outer) (Hs := H) (E := E) Y hr
    refine ⟨_, (pss_cons (ps_asg (pv 2) (pg_tup (by rfl) (pgs_cons (pg_name (i := 3) nd rfl (by first | exact Or.inl rfl | exact Or.inr rfl)) (pgs_cons (pg_name (i := 4) nd rfl (by first | exact Or.inl rfl | exact Or.inr rfl)) pgs_nil))))
      (pss_cons (ps_set (i := 5) nd rfl (by first | exact Or.inl rfl | exact Or.inr rfl) (pe_lst (pa_cons pe_non (pa_cons (pe_tup (pa_cons (pv 3) pa_nil)) (pa_cons (pe_lst (pa_cons (pv 3) (pa_cons (pv 4) pa_nil))) (pa_cons (pe_tup (pa_cons (pv 3) (pa_cons (pv 4) (pa_cons pe_int pa_nil)))) (pa_cons (pe_tup (pa_cons pe_str (pa_cons pe_int pa_nil))) (pa_cons (pe_tup (pa_cons pe_str (pa_cons (pe_tup (pa_cons pe_int pa_nil)) pa_nil))) (pa_cons (pe_tup (pa_cons pe_str (pa_cons (pe_tup (pa_cons pe_int (pa_cons pe_int pa_nil))) pa_nil))) pa_nil)))))))))
      (pss_cons (ps_expr (pe_bm PySem.F.plainAttrs_list PySem.F.slot_list_append PySem.F.type_list_append mt_append (pv 5) (pa_cons (pe_tup (pa_cons (pv 4) (pa_cons (pv 3) pa_nil))) pa_nil)))
      (pss_cons (ps_set (i := 5) nd rfl (by first | exact Or.inl rfl | exact Or.inr rfl) (pe_op op_cat (pv 5) (pe_lst (pa_cons (pe_tup (pa_cons (PE_conv (pe_ifExp (pt_cmpR op_ne (pv 3) pe_str (nomark _)) pe_str pe_str) (fk_conv (i := 3))) (pa_cons (pv 4) pa_nil))) (pa_cons (pe_tup (pa_cons (pv 3) (pa_cons pe_non pa_nil))) (pa_cons (pe_tup (pa_cons (pv 3) (pa_cons (pe_lst (pa_cons (pv 4) pa_nil)) pa_nil))) (pa_cons (pe_tup (pa_cons (pv 3) (pa_cons pe_bl pa_nil))) pa_nil)))))))
      pe)))), ?_⟩
    obtain ⟨th, hTe, hTt⟩ := hTS
    have n0 := G.n0
    have lc : ∀ L, c = some L → L.length ≤ 1000 := fun L e => by have := (cf L e).1; have := G.n8; omega
    obtain ⟨F0, hF0, sF0, hT0⟩ : ∃ F0 : List (Addr × HO), Holds F0 H ∧ Safe d lg F0 ∧ ∀ H', Holds F0 H' → H' T0 = some (.tup [.str word, th]) ∧ ThAt H' n c th := by
      have nt : ∀ {a : Addr} {xs : List V}, H a = some (.tup xs) → a ≠ d ∧ a ≠ lg := fun {a xs} e => by
        obtain ⟨⟨r, t0, hd⟩, ⟨L, hL, hl⟩, _, _⟩ := id DR
        exact ⟨(fun z => by rw [z, hd] at e; cases e), (fun z => by rw [z, hl] at e; cases e)⟩
      cases c with
      | none => exact ⟨[(T0, .tup [.str word, th])], ⟨hTe, trivial⟩, ⟨nt hTe, trivial⟩, fun H' h => ⟨h.1, hTt⟩⟩
      | some L =>
        obtain ⟨R, rfl, eR⟩ := hTt
        exact ⟨[(T0, .tup [.str word, .ref R]), (R, .tup (L.map V.int))], ⟨hTe, eR, trivial⟩, ⟨nt hTe, nt eR, trivial⟩, fun H' h => ⟨h.1, R, rfl, h.2.1⟩⟩
    refine ⟨_, rfl, T0, _, rfl, SqT.of hTe, rfl, .str word, [th], rfl, th, [], rfl, rfl, ?_⟩
    refine ⟨_, rfl, by show 1 ≤ sizeLine; decide, fun a1 n_a1 => ?_⟩
    have s_a1 := same_upd (o := .tup [.str word]) n_a1
    have e_a1 : (upd H a1 (.tup [.str word])) a1 = some (.tup [.str word]) := upd_same
    obtain ⟨nd_a1, nl_a1, nc_a1⟩ := draw_new DR n_a1
    have D_a1 := draw_same s_a1 DR
    have k_a1 : Kept d lg H (upd H a1 (.tup [.str word])) := Kept.trans Kept.refl (fun b o h _ _ => s_a1 b o h)
    have hF_a1 : Holds ((a1, .tup [.str word]) :: F0) (upd H a1 (.tup [.str word])) := ⟨e_a1, hF0.same s_a1⟩
    have sF_a1 : Safe d lg ((a1, .tup [.str word]) :: F0) := ⟨⟨nd_a1, nl_a1⟩, sF0⟩
    generalize upd H a1 (.tup [.str word]) = H_a1 at s_a1 e_a1 D_a1 k_a1 hF_a1
    refine ⟨_, rfl, _, rfl, by show 2 ≤ sizeLine; decide, fun l2 n_l2 => ?_⟩
    have s_l2 := same_upd (o := .lst [.str word, th]) n_l2
    have e_l2 : (upd H_a1 l2 (.lst [.str word, th])) l2 = some (.lst [.str word, th]) := upd_same
    obtain ⟨nd_l2, nl_l2, nc_l2⟩ := draw_new D_a1 n_l2
    have D_l2 := draw_same s_l2 D_a1
    have k_l2 : Kept d lg H (upd H_a1 l2 (.lst [.str word, th])) := Kept.trans k_a1 (fun b o h _ _ => s_l2 b o h)
    have hF_l2 : Holds ((l2, .lst [.str word, th]) :: (a1, .tup [.str word]) :: F0) (upd H_a1 l2 (.lst [.str word, th])) := ⟨e_l2, hF_a1.same s_l2⟩
    have sF_l2 : Safe d lg ((l2, .lst [.str word, th]) :: (a1, .tup [.str word]) :: F0) := ⟨⟨nd_l2, nl_l2⟩, sF_a1⟩
    generalize upd H_a1 l2 (.lst [.str word, th]) = H_l2 at s_l2 e_l2 D_l2 k_l2 hF_l2
    refine ⟨_, rfl, _, rfl, by show 3 ≤ sizeLine; decide, fun a3 n_a3 => ?_⟩
    have s_a3 := same_upd (o := .tup [.str word, th, .int 0]) n_a3
    have e_a3 : (upd H_l2 a3 (.tup [.str word, th, .int 0])) a3 = some (.tup [.str word, th, .int 0]) := upd_same
    obtain ⟨nd_a3, nl_a3, nc_a3⟩ := draw_new D_l2 n_a3
    have D_a3 := draw_same s_a3 D_l2
    have k_a3 : Kept d lg H (upd H_l2 a3 (.tup [.str word, th, .int 0])) := Kept.trans k_l2 (fun b o h _ _ => s_a3 b o h)
    have hF_a3 : Holds ((a3, .tup [.str word, th, .int 0]) :: (l2, .lst [.str word, th]) :: (a1, .tup [.str word]) :: F0) (upd H_l2 a3 (.tup [.str word, th, .int 0])) := ⟨e_a3, hF_l2.same s_a3⟩
    have sF_a3 : Safe d lg ((a3, .tup [.str word, th, .int 0]) :: (l2, .lst [.str word, th]) :: (a1, .tup [.str word]) :: F0) := ⟨⟨nd_a3, nl_a3⟩, sF_l2⟩
    generalize upd H_l2 a3 (.tup [.str word, th, .int 0]) = H_a3 at s_a3 e_a3 D_a3 k_a3 hF_a3
    refine ⟨by show 2 ≤ sizeLine; decide, fun a4 n_a4 => ?_⟩
    have s_a4 := same_upd (o := .tup [.str "line", .int 0]) n_a4
    have e_a4 : (upd H_a3 a4 (.tup [.str "line", .int 0])) a4 = some (.tup [.str "line", .int 0]) := upd_same
    obtain ⟨nd_a4, nl_a4, nc_a4⟩ := draw_new D_a3 n_a4
    have D_a4 := draw_same s_a4 D_a3
    have k_a4 : Kept d lg H (upd H_a3 a4 (.tup [.str "line", .int 0])) := Kept.trans k_a3 (fun b o h _ _ => s_a4 b o h)
    have hF_a4 : Holds ((a4, .tup [.str "line", .int 0]) :: (a3, .tup [.str word, th, .int 0]) :: (l2, .lst [.str word, th]) :: (a1, .tup [.str word]) :: F0) (upd H_a3 a4 (.tup [.str "line", .int 0])) := ⟨e_a4, hF_a3.same s_a4⟩
    have sF_a4 : Safe d lg ((a4, .tup [.str "line", .int 0]) :: (a3, .tup [.str word, th, .int 0]) :: (l2, .lst [.str word, th]) :: (a1, .tup [.str word]) :: F0) := ⟨⟨nd_a4, nl_a4⟩, sF_a3⟩
    generalize upd H_a3 a4 (.tup [.str "line", .int 0]) = H_a4 at s_a4 e_a4 D_a4 k_a4 hF_a4
    refine ⟨by show 1 ≤ sizeLine; decide, fun p5 n_p5 => ?_⟩
    have s_p5 := same_upd (o := .tup [.int 1]) n_p5
    have e_p5 : (upd H_a4 p5 (.tup [.int 1])) p5 = some (.tup [.int 1]) := upd_same
    obtain ⟨nd_p5, nl_p5, nc_p5⟩ := draw_new D_a4 n_p5
    have D_p5 := draw_same s_p5 D_a4
    have k_p5 : Kept d lg H (upd H_a4 p5 (.tup [.int 1])) := Kept.trans k_a4 (fun b o h _ _ => s_p5 b o h)
    have hF_p5 : Holds ((p5, .tup [.int 1]) :: (a4, .tup [.str "line", .int 0]) :: (a3, .tup [.str word, th, .int 0]) :: (l2, .lst [.str word, th]) :: (a1, .tup [.str word]) :: F0) (upd H_a4 p5 (.tup [.int 1])) := ⟨e_p5, hF_a4.same s_p5⟩
    have sF_p5 : Safe d lg ((p5, .tup [.int 1]) :: (a4, .tup [.str "line", .int 0]) :: (a3, .tup [.str word, th, .int 0]) :: (l2, .lst [.str word, th]) :: (a1, .tup [.str word]) :: F0) := ⟨⟨nd_p5, nl_p5⟩, sF_a4⟩
    generalize upd H_a4 p5 (.tup [.int 1]) = H_p5 at s_p5 e_p5 D_p5 k_p5 hF_p5
    refine ⟨by show 2 ≤ sizeLine; decide, fun a5 n_a5 => ?_⟩
    have s_a5 := same_upd (o := .tup [.str "round", .ref p5]) n_a5
    have e_a5 : (upd H_p5 a5 (.tup [.str "round", .ref p5])) a5 = some (.tup [.str "round", .ref p5]) := upd_same
    obtain ⟨nd_a5, nl_a5, nc_a5⟩ := draw_new D_p5 n_a5
    have D_a5 := draw_same s_a5 D_p5
    have k_a5 : Kept d lg H (upd H_p5 a5 (.tup [.str "round", .ref p5])) := Kept.trans k_p5 (fun b o h _ _ => s_a5 b o h)
    have hF_a5 : Holds ((a5, .tup [.str "round", .ref p5]) :: (p5, .tup [.int 1]) :: (a4, .tup [.str "line", .int 0]) :: (a3, .tup [.str word, th, .int 0]) :: (l2, .lst [.str word, th]) :: (a1, .tup [.str word]) :: F0) (upd H_p5 a5 (.tup [.str "round", .ref p5])) := ⟨e_a5, hF_p5.same s_a5⟩
    have sF_a5 : Safe d lg ((a5, .tup [.str "round", .ref p5]) :: (p5, .tup [.int 1]) :: (a4, .tup [.str "line", .int 0]) :: (a3, .tup [.str word, th, .int 0]) :: (l2, .lst [.str word, th]) :: (a1, .tup [.str word]) :: F0) := ⟨⟨nd_a5, nl_a5⟩, sF_p5⟩
    generalize upd H_p5 a5 (.tup [.str "round", .ref p5]) = H_a5 at s_a5 e_a5 D_a5 k_a5 hF_a5
    refine ⟨by show 2 ≤ sizeLine; decide, fun p6 n_p6 => ?_⟩
    have s_p6 := same_upd (o := .tup [.int 9, .int 9]) n_p6
    have e_p6 : (upd H_a5 p6 (.tup [.int 9, .int 9])) p6 = some (.tup [.int 9, .int 9]) := upd_same
    obtain ⟨nd_p6, nl_p6, nc_p6⟩ := draw_new D_a5 n_p6
    have D_p6 := draw_same s_p6 D_a5
    have k_p6 : Kept d lg H (upd H_a5 p6 (.tup [.int 9, .int 9])) := Kept.trans k_a5 (fun b o h _ _ => s_p6 b o h)
    have hF_p6 : Holds ((p6, .tup [.int 9, .int 9]) :: (a5, .tup [.str "round", .ref p5]) :: (p5, .tup [.int 1]) :: (a4, .tup [.str "line", .int 0]) :: (a3, .tup [.str word, th, .int 0]) :: (l2, .lst [.str word, th]) :: (a1, .tup [.str word]) :: F0) (upd H_a5 p6 (.tup [.int 9, .int 9])) := ⟨e_p6, hF_a5.same s_p6⟩
    have sF_p6 : Safe d lg ((p6, .tup [.int 9, .int 9]) :: (a5, .tup [.str "round", .ref p5]) :: (p5, .tup [.int 1]) :: (a4, .tup [.str "line", .int 0]) :: (a3, .tup [.str word, th, .int 0]) :: (l2, .lst [.str word, th]) :: (a1, .tup [.str word]) :: F0) := ⟨⟨nd_p6, nl_p6⟩, sF_a5⟩
    generalize upd H_a5 p6 (.tup [.int 9, .int 9]) = H_p6 at s_p6 e_p6 D_p6 k_p6 hF_p6
    refine ⟨by show 2 ≤ sizeLine; decide, fun a6 n_a6 => ?_⟩
    have s_a6 := same_upd (o := .tup [.str "wild", .ref p6]) n_a6
    have e_a6 : (upd H_p6 a6 (.tup [.str "wild", .ref p6])) a6 = some (.tup [.str "wild", .ref p6]) := upd_same
    obtain ⟨nd_a6, nl_a6, nc_a6⟩ := draw_new D_p6 n_a6
    have D_a6 := draw_same s_a6 D_p6
    have k_a6 : Kept d lg H (upd H_p6 a6 (.tup [.str "wild", .ref p6])) := Kept.trans k_p6 (fun b o h _ _ => s_a6 b o h)
    have hF_a6 : Holds ((a6, .tup [.str "wild", .ref p6]) :: (p6, .tup [.int 9, .int 9]) :: (a5, .tup [.str "round", .ref p5]) :: (p5, .tup [.int 1]) :: (a4, .tup [.str "line", .int 0]) :: (a3, .tup [.str word, th, .int 0]) :: (l2, .lst [.str word, th]) :: (a1, .tup [.str word]) :: F0) (upd H_p6 a6 (.tup [.str "wild", .ref p6])) := ⟨e_a6, hF_p6.same s_a6⟩
    have sF_a6 : Safe d lg ((a6, .tup [.str "wild", .ref p6]) :: (p6, .tup [.int 9, .int 9]) :: (a5, .tup [.str "round", .ref p5]) :: (p5, .tup [.int 1]) :: (a4, .tup [.str "line", .int 0]) :: (a3, .tup [.str word, th, .int 0]) :: (l2, .lst [.str word, th]) :: (a1, .tup [.str word]) :: F0) := ⟨⟨nd_a6, nl_a6⟩, sF_p6⟩
    generalize upd H_p6 a6 (.tup [.str "wild", .ref p6]) = H_a6 at s_a6 e_a6 D_a6 k_a6 hF_a6
    refine ⟨by show 7 ≤ sizeLine; decide, fun B0 n_B0 => ?_⟩
    have s_B0 := same_upd (o := .lst [.non, .ref a1, .ref l2, .ref a3, .ref a4, .ref a5, .ref a6]) n_B0
    have e_B0 : (upd H_a6 B0 (.lst [.non, .ref a1, .ref l2, .ref a3, .ref a4, .ref a5, .ref a6])) B0 = some (.lst [.non, .ref a1, .ref l2, .ref a3, .ref a4, .ref a5, .ref a6]) := upd_same
    obtain ⟨nd_B0, nl_B0, nc_B0⟩ := draw_new D_a6 n_B0
    have D_B0 := draw_same s_B0 D_a6
    have k_B0 : Kept d lg H (upd H_a6 B0 (.lst [.non, .ref a1, .ref l2, .ref a3, .ref a4, .ref a5, .ref a6])) := Kept.trans k_a6 (fun b o h _ _ => s_B0 b o h)
    have hF_B0 := hF_a6.same s_B0
    generalize upd H_a6 B0 (.lst [.non, .ref a1, .ref l2, .ref a3, .ref a4, .ref a5, .ref a6]) = H_B0 at s_B0 e_B0 D_B0 k_B0 hF_B0
    have off0 := hF_a6.off n_B0
    refine ⟨_, rfl, .inl ⟨rfl, _, SqL.of e_B0⟩, _, rfl, _, rfl, by show 2 ≤ sizeLine; decide, fun a7 n_a7 => ?_⟩
    have s_a7 := same_upd (o := .tup [th, .str word]) n_a7
    have e_a7 : (upd H_B0 a7 (.tup [th, .str word])) a7 = some (.tup [th, .str word]) := upd_same
    obtain ⟨nd_a7, nl_a7, nc_a7⟩ := draw_new D_B0 n_a7
    have D_a7 := draw_same s_a7 D_B0
    have k_a7 : Kept d lg H (upd H_B0 a7 (.tup [th, .str word])) := Kept.trans k_B0 (fun b o h _ _ => s_a7 b o h)
    have hF_a7 : Holds ((a7, .tup [th, .str word]) :: (a6, .tup [.str "wild", .ref p6]) :: (p6, .tup [.int 9, .int 9]) :: (a5, .tup [.str "round", .ref p5]) :: (p5, .tup [.int 1]) :: (a4, .tup [.str "line", .int 0]) :: (a3, .tup [.str word, th, .int 0]) :: (l2, .lst [.str word, th]) :: (a1, .tup [.str word]) :: F0) (upd H_B0 a7 (.tup [th, .str word])) := ⟨e_a7, hF_B0.same s_a7⟩
    have sF_a7 : Safe d lg ((a7, .tup [th, .str word]) :: (a6, .tup [.str "wild", .ref p6]) :: (p6, .tup [.int 9, .int 9]) :: (a5, .tup [.str "round", .ref p5]) :: (p5, .tup [.int 1]) :: (a4, .tup [.str "line", .int 0]) :: (a3, .tup [.str word, th, .int 0]) :: (l2, .lst [.str word, th]) :: (a1, .tup [.str word]) :: F0) := ⟨⟨nd_a7, nl_a7⟩, sF_a6⟩
    generalize upd H_B0 a7 (.tup [th, .str word]) = H_a7 at s_a7 e_a7 D_a7 k_a7 hF_a7
    have eB7 := s_a7 _ _ e_B0
    have n7B : a7 ≠ B0 := fun z => by rw [z, e_B0] at n_a7; cases n_a7
    refine ⟨B0, _, _, rfl, rfl, eB7, small_2000 (by show 7 ≤ 2000; decide), ?_⟩
    have nB0 : H B0 = none := kept_none k_a6 nd_B0 nl_B0 n_B0
    have D_U : DrawAt (upd H_a7 B0 (.lst ([.non, .ref a1, .ref l2, .ref a3, .ref a4, .ref a5, .ref a6] ++ [.ref a7]))) d lg cl := draw_put nd_B0 nl_B0 nc_B0 D_a7
    have k_U : Kept d lg H (upd H_a7 B0 (.lst ([.non, .ref a1, .ref l2, .ref a3, .ref a4, .ref a5, .ref a6] ++ [.ref a7]))) := kept_put nB0 k_a7
    have e_U : (upd H_a7 B0 (.lst ([.non, .ref a1, .ref l2, .ref a3, .ref a4, .ref a5, .ref a6] ++ [.ref a7]))) B0 = some (.lst ([.non, .ref a1, .ref l2, .ref a3, .ref a4, .ref a5, .ref a6] ++ [.ref a7])) := upd_same
    have hF_U : Holds ((a7, .tup [th, .str word]) :: (a6, .tup [.str "wild", .ref p6]) :: (p6, .tup [.int 9, .int 9]) :: (a5, .tup [.str "round", .ref p5]) :: (p5, .tup [.int 1]) :: (a4, .tup [.str "line", .int 0]) :: (a3, .tup [.str word, th, .int 0]) :: (l2, .lst [.str word, th]) :: (a1, .tup [.str word]) :: F0) (upd H_a7 B0 (.lst ([.non, .ref a1, .ref l2, .ref a3, .ref a4, .ref a5, .ref a6] ++ [.ref a7]))) := Holds.put hF_a7 ⟨n7B, off0⟩
    generalize upd H_a7 B0 (.lst ([.non, .ref a1, .ref l2, .ref a3, .ref a4, .ref a5, .ref a6] ++ [.ref a7])) = H_U at D_U k_U e_U hF_U
    refine ⟨_, rfl, word, rfl, fun z8 hz8 => ?_⟩
    refine ⟨_, rfl, by show 2 ≤ sizeLine; decide, fun a8 n_a8 => ?_⟩
    have s_a8 := same_upd (o := .tup [.str z8, th]) n_a8
    have e_a8 : (upd H_U a8 (.tup [.str z8, th])) a8 = some (.tup [.str z8, th]) := upd_same
    obtain ⟨nd_a8, nl_a8, nc_a8⟩ := draw_new D_U n_a8
    have D_a8 := draw_same s_a8 D_U
    have k_a8 : Kept d lg H (upd H_U a8 (.tup [.str z8, th])) := Kept.trans k_U (fun b o h _ _ => s_a8 b o h)
    have sc_a8 := Same.trans (Same.refl H_U) s_a8
    have hF_a8 : Holds ((a8, .tup [.str z8, th]) :: (a7, .tup [th, .str word]) :: (a6, .tup [.str "wild", .ref p6]) :: (p6, .tup [.int 9, .int 9]) :: (a5, .tup [.str "round", .ref p5]) :: (p5, .tup [.int 1]) :: (a4, .tup [.str "line", .int 0]) :: (a3, .tup [.str word, th, .int 0]) :: (l2, .lst [.str word, th]) :: (a1, .tup [.str word]) :: F0) (upd H_U a8 (.tup [.str z8, th])) := ⟨e_a8, hF_U.same s_a8⟩
    have sF_a8 : Safe d lg ((a8, .tup [.str z8, th]) :: (a7, .tup [th, .str word]) :: (a6, .tup [.str "wild", .ref p6]) :: (p6, .tup [.int 9, .int 9]) :: (a5, .tup [.str "round", .ref p5]) :: (p5, .tup [.int 1]) :: (a4, .tup [.str "line", .int 0]) :: (a3, .tup [.str word, th, .int 0]) :: (l2, .lst [.str word, th]) :: (a1, .tup [.str word]) :: F0) := ⟨⟨nd_a8, nl_a8⟩, sF_a7⟩
    generalize upd H_U a8 (.tup [.str z8, th]) = H_a8 at s_a8 e_a8 D_a8 k_a8 hF_a8 sc_a8
    refine ⟨_, rfl, by show 2 ≤ sizeLine; decide, fun a9 n_a9 => ?_⟩
    have s_a9 := same_upd (o := .tup [.str word, .non]) n_a9
    have e_a9 : (upd H_a8 a9 (.tup [.str word, .non])) a9 = some (.tup [.str word, .non]) := upd_same
    obtain ⟨nd_a9, nl_a9, nc_a9⟩ := draw_new D_a8 n_a9
    have D_a9 := draw_same s_a9 D_a8
    have k_a9 : Kept d lg H (upd H_a8 a9 (.tup [.str word, .non])) := Kept.trans k_a8 (fun b o h _ _ => s_a9 b o h)
    have sc_a9 := Same.trans sc_a8 s_a9
    have hF_a9 : Holds ((a9, .tup [.str word, .non]) :: (a8, .tup [.str z8, th]) :: (a7, .tup [th, .str word]) :: (a6, .tup [.str "wild", .ref p6]) :: (p6, .tup [.int 9, .int 9]) :: (a5, .tup [.str "round", .ref p5]) :: (p5, .tup [.int 1]) :: (a4, .tup [.str "line", .int 0]) :: (a3, .tup [.str word, th, .int 0]) :: (l2, .lst [.str word, th]) :: (a1, .tup [.str word]) :: F0) (upd H_a8 a9 (.tup [.str word, .non])) := ⟨e_a9, hF_a8.same s_a9⟩
    have sF_a9 : Safe d lg ((a9, .tup [.str word, .non]) :: (a8, .tup [.str z8, th]) :: (a7, .tup [th, .str word]) :: (a6, .tup [.str "wild", .ref p6]) :: (p6, .tup [.int 9, .int 9]) :: (a5, .tup [.str "round", .ref p5]) :: (p5, .tup [.int 1]) :: (a4, .tup [.str "line", .int 0]) :: (a3, .tup [.str word, th, .int 0]) :: (l2, .lst [.str word, th]) :: (a1, .tup [.str word]) :: F0) := ⟨⟨nd_a9, nl_a9⟩, sF_a8⟩
    generalize upd H_a8 a9 (.tup [.str word, .non]) = H_a9 at s_a9 e_a9 D_a9 k_a9 hF_a9 sc_a9
    refine ⟨_, rfl, _, rfl, by show 1 ≤ sizeLine; decide, fun l10 n_l10 => ?_⟩
    have s_l10 := same_upd (o := .lst [th]) n_l10
    have e_l10 : (upd H_a9 l10 (.lst [th])) l10 = some (.lst [th]) := upd_same
    obtain ⟨nd_l10, nl_l10, nc_l10⟩ := draw_new D_a9 n_l10
    have D_l10 := draw_same s_l10 D_a9
    have k_l10 : Kept d lg H (upd H_a9 l10 (.lst [th])) := Kept.trans k_a9 (fun b o h _ _ => s_l10 b o h)
    have sc_l10 := Same.trans sc_a9 s_l10
    have hF_l10 : Holds ((l10, .lst [th]) :: (a9, .tup [.str word, .non]) :: (a8, .tup [.str z8, th]) :: (a7, .tup [th, .str word]) :: (a6, .tup [.str "wild", .ref p6]) :: (p6, .tup [.int 9, .int 9]) :: (a5, .tup [.str "round", .ref p5]) :: (p5, .tup [.int 1]) :: (a4, .tup [.str "line", .int 0]) :: (a3, .tup [.str word, th, .int 0]) :: (l2, .lst [.str word, th]) :: (a1, .tup [.str word]) :: F0) (upd H_a9 l10 (.lst [th])) := ⟨e_l10, hF_a9.same s_l10⟩
    have sF_l10 : Safe d lg ((l10, .lst [th]) :: (a9, .tup [.str word, .non]) :: (a8, .tup [.str z8, th]) :: (a7, .tup [th, .str word]) :: (a6, .tup [.str "wild", .ref p6]) :: (p6, .tup [.int 9, .int 9]) :: (a5, .tup [.str "round", .ref p5]) :: (p5, .tup [.int 1]) :: (a4, .tup [.str "line", .int 0]) :: (a3, .tup [.str word, th, .int 0]) :: (l2, .lst [.str word, th]) :: (a1, .tup [.str word]) :: F0) := ⟨⟨nd_l10, nl_l10⟩, sF_a9⟩
    generalize upd H_a9 l10 (.lst [th]) = H_l10 at s_l10 e_l10 D_l10 k_l10 hF_l10 sc_l10
    refine ⟨by show 2 ≤ sizeLine; decide, fun a10 n_a10 => ?_⟩
    have s_a10 := same_upd (o := .tup [.str word, .ref l10]) n_a10
    have e_a10 : (upd H_l10 a10 (.tup [.str word, .ref l10])) a10 = some (.tup [.str word, .ref l10]) := upd_same
    obtain ⟨nd_a10, nl_a10, nc_a10⟩ := draw_new D_l10 n_a10
    have D_a10 := draw_same s_a10 D_l10
    have k_a10 : Kept d lg H (upd H_l10 a10 (.tup [.str word, .ref l10])) := Kept.trans k_l10 (fun b o h _ _ => s_a10 b o h)
    have sc_a10 := Same.trans sc_l10 s_a10
    have hF_a10 : Holds ((a10, .tup [.str word, .ref l10]) :: (l10, .lst [th]) :: (a9, .tup [.str word, .non]) :: (a8, .tup [.str z8, th]) :: (a7, .tup [th, .str word]) :: (a6, .tup [.str "wild", .ref p6]) :: (p6, .tup [.int 9, .int 9]) :: (a5, .tup [.str "round", .ref p5]) :: (p5, .tup [.int 1]) :: (a4, .tup [.str "line", .int 0]) :: (a3, .tup [.str word, th, .int 0]) :: (l2, .lst [.str word, th]) :: (a1, .tup [.str word]) :: F0) (upd H_l10 a10 (.tup [.str word, .ref l10])) := ⟨e_a10, hF_l10.same s_a10⟩
    have sF_a10 : Safe d lg ((a10, .tup [.str word, .ref l10]) :: (l10, .lst [th]) :: (a9, .tup [.str word, .non]) :: (a8, .tup [.str z8, th]) :: (a7, .tup [th, .str word]) :: (a6, .tup [.str "wild", .ref p6]) :: (p6, .tup [.int 9, .int 9]) :: (a5, .tup [.str "round", .ref p5]) :: (p5, .tup [.int 1]) :: (a4, .tup [.str "line", .int 0]) :: (a3, .tup [.str word, th, .int 0]) :: (l2, .lst [.str word, th]) :: (a1, .tup [.str word]) :: F0) := ⟨⟨nd_a10, nl_a10⟩, sF_l10⟩
    generalize upd H_l10 a10 (.tup [.str word, .ref l10]) = H_a10 at s_a10 e_a10 D_a10 k_a10 hF_a10 sc_a10
    refine ⟨_, rfl, by show 2 ≤ sizeLine; decide, fun a11 n_a11 => ?_⟩
    have s_a11 := same_upd (o := .tup [.str word, .bl true]) n_a11
    have e_a11 : (upd H_a10 a11 (.tup [.str word, .bl true])) a11 = some (.tup [.str word, .bl true]) := upd_same
    obtain ⟨nd_a11, nl_a11, nc_a11⟩ := draw_new D_a10 n_a11
    have D_a11 := draw_same s_a11 D_a10
    have k_a11 : Kept d lg H (upd H_a10 a11 (.tup [.str word, .bl true])) := Kept.trans k_a10 (fun b o h _ _ => s_a11 b o h)
    have sc_a11 := Same.trans sc_a10 s_a11
    have hF_a11 : Holds ((a11, .tup [.str word, .bl true]) :: (a10, .tup [.str word, .ref l10]) :: (l10, .lst [th]) :: (a9, .tup [.str word, .non]) :: (a8, .tup [.str z8, th]) :: (a7, .tup [th, .str word]) :: (a6, .tup [.str "wild", .ref p6]) :: (p6, .tup [.int 9, .int 9]) :: (a5, .tup [.str "round", .ref p5]) :: (p5, .tup [.int 1]) :: (a4, .tup [.str "line", .int 0]) :: (a3, .tup [.str word, th, .int 0]) :: (l2, .lst [.str word, th]) :: (a1, .tup [.str word]) :: F0) (upd H_a10 a11 (.tup [.str word, .bl true])) := ⟨e_a11, hF_a10.same s_a11⟩
    have sF_a11 : Safe d lg ((a11, .tup [.str word, .bl true]) :: (a10, .tup [.str word, .ref l10]) :: (l10, .lst [th]) :: (a9, .tup [.str word, .non]) :: (a8, .tup [.str z8, th]) :: (a7, .tup [th, .str word]) :: (a6, .tup [.str "wild", .ref p6]) :: (p6, .tup [.int 9, .int 9]) :: (a5, .tup [.str "round", .ref p5]) :: (p5, .tup [.int 1]) :: (a4, .tup [.str "line", .int 0]) :: (a3, .tup [.str word, th, .int 0]) :: (l2, .lst [.str word, th]) :: (a1, .tup [.str word]) :: F0) := ⟨⟨nd_a11, nl_a11⟩, sF_a10⟩
    generalize upd H_a10 a11 (.tup [.str word, .bl true]) = H_a11 at s_a11 e_a11 D_a11 k_a11 hF_a11 sc_a11
    refine ⟨by show 4 ≤ sizeLine; decide, fun M1 n_M1 => ?_⟩
    have s_M1 := same_upd (o := .lst [.ref a8, .ref a9, .ref a10, .ref a11]) n_M1
    have e_M1 : (upd H_a11 M1 (.lst [.ref a8, .ref a9, .ref a10, .ref a11])) M1 = some (.lst [.ref a8, .ref a9, .ref a10, .ref a11]) := upd_same
    obtain ⟨nd_M1, nl_M1, nc_M1⟩ := draw_new D_a11 n_M1
    have D_M1 := draw_same s_M1 D_a11
    have k_M1 : Kept d lg H (upd H_a11 M1 (.lst [.ref a8, .ref a9, .ref a10, .ref a11])) := Kept.trans k_a11 (fun b o h _ _ => s_M1 b o h)
    have sc_M1 := Same.trans sc_a11 s_M1
    have hF_M1 := hF_a11.same s_M1
    generalize upd H_a11 M1 (.lst [.ref a8, .ref a9, .ref a10, .ref a11]) = H_M1 at s_M1 e_M1 D_M1 k_M1 hF_M1 sc_M1
    refine ⟨B0, M1, _, _, rfl, rfl, sc_M1 _ _ e_U, e_M1, by show 12 ≤ sizeLine; decide, fun B1 n_B1 => ?_⟩
    have s_B1 := same_upd (o := .lst ([.non, .ref a1, .ref l2, .ref a3, .ref a4, .ref a5, .ref a6] ++ [.ref a7] ++ [.ref a8, .ref a9, .ref a10, .ref a11])) n_B1
    have e_B1 : (upd H_M1 B1 (.lst ([.non, .ref a1, .ref l2, .ref a3, .ref a4, .ref a5, .ref a6] ++ [.ref a7] ++ [.ref a8, .ref a9, .ref a10, .ref a11]))) B1 = some (.lst ([.non, .ref a1, .ref l2, .ref a3, .ref a4, .ref a5, .ref a6] ++ [.ref a7] ++ [.ref a8, .ref a9, .ref a10, .ref a11])) := upd_same
    obtain ⟨nd_B1, nl_B1, nc_B1⟩ := draw_new D_M1 n_B1
    have D_B1 := draw_same s_B1 D_M1
    have k_B1 : Kept d lg H (upd H_M1 B1 (.lst ([.non, .ref a1, .ref l2, .ref a3, .ref a4, .ref a5, .ref a6] ++ [.ref a7] ++ [.ref a8, .ref a9, .ref a10, .ref a11]))) := Kept.trans k_M1 (fun b o h _ _ => s_B1 b o h)
    have sc_B1 := Same.trans sc_M1 s_B1
    have hF_B1 := hF_M1.same s_B1
    generalize upd H_M1 B1 (.lst ([.non, .ref a1, .ref l2, .ref a3, .ref a4, .ref a5, .ref a6] ++ [.ref a7] ++ [.ref a8, .ref a9, .ref a10, .ref a11])) = H_B1 at s_B1 e_B1 D_B1 k_B1 hF_B1 sc_B1
    have bad1 : ∀ FF, (∀ H', Holds FF H' → Holds ((a11, .tup [.str word, .bl true]) :: (a10, .tup [.str word, .ref l10]) :: (l10, .lst [th]) :: (a9, .tup [.str word, .non]) :: (a8, .tup [.str z8, th]) :: (a7, .tup [th, .str word]) :: (a6, .tup [.str "wild", .ref p6]) :: (p6, .tup [.int 9, .int 9]) :: (a5, .tup [.str "round", .ref p5]) :: (p5, .tup [.int 1]) :: (a4, .tup [.str "line", .int 0]) :: (a3, .tup [.str word, th, .int 0]) :: (l2, .lst [.str word, th]) :: (a1, .tup [.str word]) :: F0) H') → ∀ x ∈ ([.non, .ref a1, .ref l2, .ref a3, .ref a4, .ref a5, .ref a6] ++ [.ref a7] ++ [.ref a8, .ref a9, .ref a10, .ref a11] : List V), BadS K FF word n c x := fun FF hFF x mx H' h0 T hT => by
      obtain ⟨q_a11, q_a10, q_l10, q_a9, q_a8, q_a7, q_a6, q_p6, q_a5, q_p5, q_a4, q_a3, q_l2, q_a1, hF0'⟩ := hFF H' h0
      obtain ⟨_, hth⟩ := hT0 H' hF0'
      obtain ⟨tw, hTw, hTh⟩ := hT
      simp only [List.mem_append, List.mem_cons, List.not_mem_nil, or_false] at mx
      rcases mx with ((rfl | rfl | rfl | rfl | rfl | rfl | rfl) | rfl) | rfl | rfl | rfl | rfl
      · exact .inr (.no (SqT.of hTw) (.base .non) (kt_non K))
      · exact .inr (.len (SqT.of hTw) (SqT.of q_a1) (by show 1 ≠ 2; decide))
      · exact .inr (.no (SqT.of hTw) (.base (.lst q_l2)) (kt_lst K))
      · exact .inr (.len (SqT.of hTw) (SqT.of q_a3) (by show 3 ≠ 2; decide))
      · have := pr_sm (K := K) hTw q_a4 (w_str word "line") (th_zero hTh n0)
        rw [Bool.and_false] at this
        exact this
      · have := pr_sm (K := K) hTw q_a5 (w_str word "round") (th_tup (M := [1]) hTh q_p5 lc)
        rw [decide_eq_false (p := c = some [1]) (fun z => by have := (cf _ z).1; have h2 := (cf _ z).2.1; rw [← this] at h2; exact absurd h2 (by decide)), Bool.and_false] at this
        exact this
      · have := pr_sm (K := K) hTw q_a6 (w_str word "wild") (th_tup (M := [9, 9]) hTh q_p6 lc)
        rw [decide_eq_false (p := c = some [9, 9]) (fun z => (cf _ z).2.2.2 rfl), Bool.and_false] at this
        exact this
      · have := pr_sm (K := K) hTw q_a7 (w_th word hth) (th_no hTh (.no (.base (.str word)) (ko_str K).1 (ko_str K).2) (.base (.str word)) (kt_strt K))
        exact this
      · have := pr_sm (K := K) hTw q_a8 (w_str word z8) (th_self hTh hth lc)
        rw [decide_eq_false hz8] at this
        exact this
      · have := pr_sm (K := K) hTw q_a9 (w_str word word) (th_no hTh nu_non (.base .non) (kt_non K))
        rw [Bool.and_false] at this
        exact this
      · have := pr_sm (K := K) hTw q_a10 (w_str word word) (th_no hTh (nu_lst q_l10) (.base (.lst q_l10)) (kt_lst K))
        rw [Bool.and_false] at this
        exact this
      · have := pr_sm (K := K) hTw q_a11 (w_str word word) (th_no hTh (.bl true) (.base (.bl true)) (kt_bool K))
        rw [Bool.and_false] at this
        exact this
    exact re _ H H_B1 d lg cl y T0 B1 n zs word c th _ ((a11, .tup [.str word, .bl true]) :: (a10, .tup [.str word, .ref l10]) :: (l10, .lst [th]) :: (a9, .tup [.str word, .non]) :: (a8, .tup [.str z8, th]) :: (a7, .tup [th, .str word]) :: (a6, .tup [.str "wild", .ref p6]) :: (p6, .tup [.int 9, .int 9]) :: (a5, .tup [.str "round", .ref p5]) :: (p5, .tup [.int 1]) :: (a4, .tup [.str "line", .int 0]) :: (a3, .tup [.str word, th, .int 0]) :: (l2, .lst [.str word, th]) :: (a1, .tup [.str word]) :: F0) D_B1 k_B1 (G.kept DR k_B1.n) hS cf e_B1 nl_B1 nd_B1 (by show 0 < 12; decide) (by show 12 < 900; decide) sF_a11 hF_B1 bad1 (fun H' h => hT0 H' (h.2.2.2.2.2.2.2.2.2.2.2.2.2.2)) k
end
end K03


set_option Elab.async false
set_option maxRecDepth 100000
set_option maxHeartbeats 4000000
set_option linter.all false
/-! the three kinds of nets that the law draws -/
namespace K03
open PySem PySem.Spec PyProof.Rows L2 NetM
theorem foldl_le {b : Int} : ∀ (l : List Int) (a : Int), a ≤ b → (∀ i ∈ l, i ≤ b) → l.foldl max a ≤ b
  | [], a, h, _ => h
  | c :: l, a, h, g => by
    rw [List.foldl_cons]
    have := g c (List.mem_cons_self ..)
    exact foldl_le l _ (by omega) fun i m => g i (List.mem_cons_of_mem _ m)
theorem foldl_ge : ∀ (l : List Int) (a : Int), a ≤ l.foldl max a ∧ ∀ i ∈ l, i ≤ l.foldl max a
  | [], a => ⟨Int.le_refl _, fun i m => by cases m⟩
  | c :: l, a => by
    rw [List.foldl_cons]
    obtain ⟨h1, h2⟩ := foldl_ge l (max a c)
    refine ⟨by omega, fun i m => ?_⟩
    rcases List.mem_cons.mp m with rfl | m
    · omega
    · exact h2 i m
theorem maxL_le {L M : List Int} (h : ∀ i ∈ L, i ∈ M) : maxL L ≤ maxL M := foldl_le L 0 (foldl_ge M 0).1 fun i m => (foldl_ge M 0).2 i (h i m)
theorem mem_row {L : List Int} {n : Nat} (hL : L.length = n) {i : Int} (m : i ∈ L) : ∃ p, InR n p ∧ rowF L p = i := by
  obtain ⟨k, hk, e⟩ := List.getElem_of_mem m
  refine ⟨k, inr_nat (by omega), ?_⟩
  rw [rowF_nat, List.getD_eq_getElem?_getD, List.getElem?_eq_getElem hk]
  exact e
theorem row_mem {L : List Int} {n : Nat} (hL : L.length = n) {p : Int} (hp : InR n p) : rowF L p ∈ L := by
  obtain ⟨k, rfl⟩ : ∃ k : Nat, p = k := ⟨p.toNat, by have := hp.1; omega⟩
  have hk : k < L.length := by have := hp.2; omega
  rw [rowF_nat, List.getD_eq_getElem?_getD, List.getElem?_eq_getElem hk]
  exact List.getElem_mem hk
theorem row_ext {L M : List Int} {n : Nat} (hL : L.length = n) (hM : M.length = n) (h : ∀ p, InR n p → rowF L p = rowF M p) : L = M := by
  have e1 := row_id hL
  have e2 := row_id hM
  rw [← e1, ← e2]
  exact rowL_congr h
section
variable {n : Nat} {f : Int → Int} {E F : Prs}
/-- the numbers of both rows are the same -/
theorem ren_mem (R : Ren n f E F) {L L' : List Int} (hL : L.length = n) (hL' : L'.length = n) (h : ∀ p, InR n p → rowF L' (f p) = rowF L p) : (∀ i ∈ L', i ∈ L) ∧ ∀ i ∈ L, i ∈ L' := by
  refine ⟨fun i m => ?_, fun i m => ?_⟩
  · obtain ⟨y, hy, e⟩ := mem_row hL' m
    obtain ⟨x, hx, rfl⟩ := R.b.sur hy
    rw [h x hx] at e
    rw [← e]
    exact row_mem hL hx
  · obtain ⟨x, hx, e⟩ := mem_row hL m
    rw [← e, ← h x hx]
    exact row_mem hL' (R.b.to x hx)
theorem shp_good (R : Ren n f E F) {L : List Int} (hS : SetR E n (some L)) (hf : frm E n (rowF L) ≠ 0) {m : Nat} (hm : min (maxL L) 3 - 1 = (m : Int)) : ShpOf n F (wordS m) none := fun H Q k => by
  have none_ : SetR F n none → False := fun h => by
    rcases SetR.ren R hS h with ⟨z, _⟩ | ⟨_, _, _, z, _⟩
    · cases z
    · cases z
  have some_ : ∀ L', SetR F n (some L') → L'.length = n ∧ ∀ p, InR n p → rowF L' (f p) = rowF L p := fun L' h => by
    refine ⟨h.1, ?_⟩
    rcases SetR.ren R hS h with ⟨z, _⟩ | ⟨_, _, z1, z2, z3⟩
    · cases z
    · cases z1; cases z2; exact z3
  refine ⟨fun h => (none_ h).elim, fun L' h e => ?_, fun L' h _ m' hm' e T H' s e1 => ?_⟩
  · obtain ⟨_, g⟩ := some_ L' h
    rw [R.frm, frm_congr R.hE g] at e
    exact absurd e hf
  · obtain ⟨hl', g⟩ := some_ L' h
    obtain ⟨m1, m2⟩ := ren_mem R hS.1 hl' g
    have e2 : maxL L' = maxL L := by
      have := maxL_le m1
      have := maxL_le m2
      omega
    have e3 : m' = m := by rw [e2] at e; omega
    rw [e3] at e1
    exact k T H' s ⟨_, e1, rfl⟩
theorem shp_round (R : Ren n f E F) {L M : List Int} (hS : SetR E n (some L)) (hf : frm E n (rowF L) = 0) (hM : M.length = n) (hr : ∀ p, InR n p → rowF M (f p) = rowF L p) : ShpOf n F "round" (some M) := fun H Q k => by
  have none_ : SetR F n none → False := fun h => by
    rcases SetR.ren R hS h with ⟨z, _⟩ | ⟨_, _, _, z, _⟩
    · cases z
    · cases z
  have some_ : ∀ L', SetR F n (some L') → L'.length = n ∧ ∀ p, InR n p → rowF L' (f p) = rowF L p := fun L' h => by
    refine ⟨h.1, ?_⟩
    rcases SetR.ren R hS h with ⟨z, _⟩ | ⟨_, _, z1, z2, z3⟩
    · cases z
    · cases z1; cases z2; exact z3
  refine ⟨fun h => (none_ h).elim, fun L' h _ T R' H' s e1 e2 => ?_, fun L' h e => ?_⟩
  · obtain ⟨hl', g⟩ := some_ L' h
    have e3 : L' = M := row_ext hl' hM fun p hp => by
      obtain ⟨x, hx, rfl⟩ := R.b.sur hp
      rw [g x hx, hr x hx]
    rw [e3] at e2
    exact k T H' s ⟨_, e1, R', rfl, e2⟩
  · obtain ⟨_, g⟩ := some_ L' h
    rw [R.frm, frm_congr R.hE g] at e
    exact absurd hf e
theorem shp_wild (R : Ren n f E F) {G : Prs} (R2 : Ren n f E G) (hS : SetR E n none) {k0 : Nat} (W : Wl E n k0) : ShpOf n F "wild" (some (rowL n (itR G k0))) := fun H Q k => by
  have some_ : ∀ L', SetR F n (some L') → False := fun L' h => by
    rcases SetR.ren R hS h with ⟨_, z⟩ | ⟨_, _, z1, _⟩
    · cases z
    · cases z1
  refine ⟨fun _ => ⟨k0, R.wl W, fun T R' H' s e1 e2 => ?_⟩, fun L' h => (some_ L' h).elim, fun L' h => (some_ L' h).elim⟩
  have e3 : rowL n (itR F k0) = rowL n (itR G k0) := rowL_congr fun p hp => by
    obtain ⟨x, hx, rfl⟩ := R.b.sur hp
    rw [R.it k0 hx, R2.it k0 hx]
  rw [e3] at e2
  exact k T H' s ⟨_, e1, R', rfl, e2⟩
end
/-- rows of wild nets are small -/
def wildS (z : Nat × Nat × Bool × Nat) : Bool := decide (2 ≤ wdN z) && match wildL (wdE z) (wdN z) 60 (ones (wdN z)) with
  | some L => L.all (fun i => decide (i < 1000)) && (decide (wdN z ≠ 2) || L.all fun i => decide (i ≠ 9))
  | none => false
theorem wildS_all : (wdIx.all wildS) = true := by decide +kernel
theorem roundS_all : (rdIx.all fun q => decide (2 ≤ (roundP q.1 q.2).1)) = true := by decide +kernel
theorem wild_sm {z : Nat × Nat × Bool × Nat} (m : z ∈ wdIx) : 2 ≤ wdN z ∧ ∃ k, Wl (wdE z) (wdN z) k ∧ (∀ p, InR (wdN z) p → itR (wdE z) k p < 1000) ∧ (wdN z = 2 → ∀ p, InR (wdN z) p → itR (wdE z) k p ≠ 9) := by
  have h := List.all_eq_true.mp wildS_all z m
  unfold wildS at h
  rw [Bool.and_eq_true, decide_eq_true_eq] at h
  obtain ⟨h2, h3⟩ := h
  refine ⟨h2, ?_⟩
  have hi := (wild_of m).1.1
  split at h3
  · rename_i L e
    rw [Bool.and_eq_true, Bool.or_eq_true, decide_eq_true_eq] at h3
    rw [ones_rowL] at e
    have h40 : ∀ i ∈ L, i < 2 ^ 40 := fun i mi => by
      have h5 := of_decide_eq_true (List.all_eq_true.mp h3.1 i mi)
      have h6 : (1000 : Int) < 2 ^ 40 := by decide
      omega
    obtain ⟨k, hk, rfl⟩ := wildL_ok hi 60 0 (fun j hj => absurd hj (Nat.not_lt_zero _)) (fun j hj => absurd hj (Nat.not_lt_zero _)) e h40
    have mem : ∀ p, InR (wdN z) p → itR (wdE z) k p ∈ rowL (wdN z) (itR (wdE z) k) := fun p hp => List.mem_map.mpr ⟨p, mem_rng.mpr hp, rfl⟩
    exact ⟨k, hk, fun p hp => of_decide_eq_true (List.all_eq_true.mp h3.1 _ (mem p hp)), fun e2 p hp => by
      rcases h3.2 with h | h
      · exact absurd e2 h
      · exact of_decide_eq_true (List.all_eq_true.mp h _ (mem p hp))⟩
  · cases h3
/-- all that is told of a net that the law draws -/
structure Kind (n : Nat) (F : Prs) (word : Str) (c : Option (List Int)) (rd : Bool) : Prop where
  inn : In n F
  len : F.length ≤ 12
  n8 : n ≤ 8
  n0 : 0 < n
  nl : ∀ a b, (a, b) ∈ F → a ≠ b
  good : GoodN F n
  goodT : GoodN (swp F) n
  sh : ShpOf n F word c
  shT : ShpOf n (swp F) word c
  cf : CF n c
  lean : rd = true → ∃ L, c = some L ∧ ∀ p, InR n p → 2 * rowF L p - nearS F (rowF L) p = 0
theorem swp_flip (F : Prs) : Flip F (swp F) := Flip.all
theorem acy_swp {F : Prs} {φ : Int → Int} (h : ∀ t g, (t, g) ∈ F → φ t < φ g) : Acy F ∧ Acy (swp F) := by
  refine ⟨acy_pot φ h, acy_pot (fun x => - φ x) fun t g m => ?_⟩
  unfold swp at m
  obtain ⟨q, mq, e⟩ := List.mem_map.mp m
  cases e
  have := h q.1 q.2 mq
  omega
theorem kind_good {n w : Nat} (h1 : 0 < n) (h2 : n ≤ 8) (h3 : w < 3) {f : Int → Int} {F : Prs} (R : Ren n f (goodP n w) F) : Kind n F (wordS (wordN F n)) none false := by
  obtain ⟨⟨hi, nl⟩, T, hl, sim, hang, L, hS, hm, hf⟩ := good_of h1 h2 h3
  have R2 := Ren.flip R (swp_flip F)
  rw [word_of h1 h2 h3 R]
  refine ⟨R.inF, by rw [Ren.len R]; omega, h2, h1, Ren.nl R nl, ⟨R.hangs h1 hang, (order_iff R.inF).mpr (R.acy T sim nl)⟩, ⟨R2.hangs h1 hang, (order_iff R2.inF).mpr (R2.acy T sim nl)⟩, shp_good R hS hf hm, shp_good R2 hS hf hm, (fun L e => by cases e), (fun e => by cases e)⟩
theorem kind_round {q : Nat × Nat} (m : q ∈ rdIx) {f φ : Int → Int} {F : Prs} (R : Ren (roundP q.1 q.2).1 f (roundP q.1 q.2).2.1 F) (hφ : ∀ t g, (t, g) ∈ F → φ t < φ g) {M : List Int} (hM : M.length = (roundP q.1 q.2).1) (hr : ∀ p, InR (roundP q.1 q.2).1 p → rowF M (f p) = rowF (roundP q.1 q.2).2.2 p) : Kind (roundP q.1 q.2).1 F "round" (some M) true := by
  obtain ⟨⟨hi, nl⟩, n8, n0, l12, hang, hL, hS, hf, hlean⟩ := round_of m
  have n2 := of_decide_eq_true (List.all_eq_true.mp roundS_all q m)
  have R2 := Ren.flip R (swp_flip F)
  obtain ⟨a1, a2⟩ := acy_swp hφ
  obtain ⟨m1, _⟩ := ren_mem R hL hM hr
  refine ⟨R.inF, by rw [Ren.len R]; exact l12, n8, n0, Ren.nl R nl, ⟨R.hangs n0 hang, (order_iff R.inF).mpr a1⟩, ⟨R2.hangs n0 hang, (order_iff R2.inF).mpr a2⟩, shp_round R hS hf hM hr, shp_round R2 hS hf hM hr, fun L e => ?_, fun _ => ⟨M, rfl, fun p hp => ?_⟩⟩
  · cases e
    have bd : ∀ i ∈ M, 1 ≤ i ∧ i ≤ 6 := fun i mi => hS.2.2 i (m1 i mi)
    refine ⟨hM, n2, fun i mi => ⟨(bd i mi).1, by have := (bd i mi).2; omega⟩, fun z => ?_⟩
    have := bd 9 (by rw [z]; exact List.mem_cons_self ..)
    omega
  · obtain ⟨x, hx, rfl⟩ := R.b.sur hp
    rw [R.near _ hx, near_congr hi (fun q hq => hr q hq), hr x hx, hlean x hx]
    omega
theorem kind_wild {z : Nat × Nat × Bool × Nat} (m : z ∈ wdIx) {f φ : Int → Int} {F : Prs} (R : Ren (wdN z) f (wdE z) F) (hφ : ∀ t g, (t, g) ∈ F → φ t < φ g) : ∃ k, Wl F (wdN z) k ∧ Kind (wdN z) F "wild" (some (rowL (wdN z) (itR F k))) false := by
  obtain ⟨⟨hi, nl⟩, n8, n0, l12, hang, hS, _⟩ := wild_of m
  obtain ⟨n2, k, W, hk, h9⟩ := wild_sm m
  have R2 := Ren.flip R (swp_flip F)
  obtain ⟨a1, a2⟩ := acy_swp hφ
  refine ⟨k, R.wl W, R.inF, by rw [Ren.len R]; exact l12, n8, n0, Ren.nl R nl, ⟨R.hangs n0 hang, (order_iff R.inF).mpr a1⟩, ⟨R2.hangs n0 hang, (order_iff R2.inF).mpr a2⟩, shp_wild R R hS W, shp_wild R2 R hS W, fun L e => ?_, fun e => by cases e⟩
  cases e
  have at_ : ∀ i ∈ rowL (wdN z) (itR F k), ∃ x, InR (wdN z) x ∧ i = itR (wdE z) k x := fun i mi => by
    obtain ⟨y, my, e⟩ := List.mem_map.mp mi
    obtain ⟨x, hx, rfl⟩ := R.b.sur (mem_rng.mp my)
    exact ⟨x, hx, by rw [← e, R.it k hx]⟩
  refine ⟨rowL_len .., n2, fun i mi => ?_, fun e => ?_⟩
  · obtain ⟨x, hx, rfl⟩ := at_ i mi
    exact ⟨itR_pos _ _ _, hk x hx⟩
  · have hl := rowL_len (wdN z) (itR F k)
    rw [e] at hl
    obtain ⟨x, hx, e9⟩ := at_ 9 (by rw [e]; exact List.mem_cons_self ..)
    exact h9 hl.symm x hx e9.symm
end K03


set_option Elab.async false
set_option maxRecDepth 100000
set_option maxHeartbeats 4000000
set_option linter.all false
namespace K03
open PySem PySem.Spec PyProof.Rows L2 NetM LamX GL
abbrev sLaw : Stmt := top 51
abbrev N51 : List Str := ["script", "draw", "turn", "way", "net", "due", "many_here", "pairs_here", "row", "net_here", "place"]
theorem scLaw : FnScope N51 ["script"] (defScope sLaw) := ⟨rfl, rfl, rfl, by decide +kernel, rfl, by decide +kernel, by decide +kernel⟩
abbrev X51 (P : Program) (w : World) (K : PySem.W.Frag) (mg : Str → Option Value) (base : Heap) (f : Addr) (cdv : Value) (A : Around) (outer : List Env) (s : Shared) (H : Hp) (E : XK) : Cx := (cxOf L2.CX0 P w K mg base N51 "law" (defScope sLaw) f cdv A outer s H E).nox
def loopBody : Stmt → List Stmt
  | .For _ _ b _ _ => b
  | _ => []
abbrev lawLoop : List Stmt := loopBody ((defBody sLaw).getD 1 (.Pass ⟨0, 0, 0, 0⟩))
def spLaw (K : PySem.W.Frag) (T : List (Addr × Str)) : Sp := fun vs H Q _ => ∃ (a : Addr) (ns : List Int), vs = [.ref a] ∧ SqL K H a (ns.map V.int) ∧ ns.length ≤ 63 ∧ Tabs T H ∧ ∀ H', Q (.bl true) H'
/-- the law's own defs that look at a part of it -/
structure Own4 (P : Program) (w : World) (K : PySem.W.Frag) (mg : Str → Option Value) (base : Heap) (CN : Addr) (T : List (Addr × Str)) where
  fr : Fn0 P w K mg base 9 "_law_forms_right" ["draw", "net", "net_here"] (spFR K CN T)
  jr : Fn0 P w K mg base 7 "_law_judged_right" ["draw", "net_here", "due"] (spJR K CN)
/-! ### shapes as they are shown -/
def dSh (word : Str) (n : Nat) : Option (List Int) → PyData
  | none => .tuple [.str word, .int n]
  | some L => .tuple [.str word, .tuple (L.map PyData.int)]
def words : List Str := ["line", "fork", "arms", "round", "wild"]
theorem dp_sh {K : PySem.W.Frag} {H : Hp} {T : Addr} {word : Str} {n : Nat} {c : Option (List Int)} (h : TupS H T word n c) : Dp K H (.ref T) (dSh word n c) := by
  obtain ⟨th, e, g⟩ := h
  cases c with
  | none =>
    obtain rfl : th = .int n := g
    exact .tup (SqT.of e) (.cons (.str word) (.cons (.int n) .nil))
  | some L =>
    obtain ⟨R, rfl, e2⟩ := g
    refine .tup (SqT.of e) (.cons (.str word) (.cons (.tup (SqT.of e2) ?_) .nil))
    clear e e2
    induction L with
    | nil => exact .nil
    | cons x r ih => exact .cons (.int x) ih
theorem ok_words {word : Str} (h : word ∈ words) : PyData.strOk word = true := by
  have key : (words.all fun w => PyData.strOk w) = true := by decide +kernel
  exact List.all_eq_true.mp key word h
theorem lay_sh {word : Str} (hw : word ∈ words) (n : Nat) (c : Option (List Int)) : (dSh word n c).canLay0 = true := by
  have := ok_words hw
  cases c with
  | none => simp [dSh, PyData.canLay0, PyData.canLayAll0, this]
  | some L => simp [dSh, PyData.canLay0, PyData.canLayAll0, lay_ints, this]
theorem shp_sh {word : Str} (hw : word ∈ words) (n : Nat) (c : Option (List Int)) : SeqAt.shaped (dSh word n c) = true := by
  have h1 := lay_sh hw n c
  have h2 : (dSh word n c).depth ≤ 3 := by
    cases c with
    | none => simp [dSh, PyData.depth, PyData.depthAll]
    | some L =>
      have := dep_ints L
      simp [dSh, PyData.depth, PyData.depthAll]
      omega
  cases c with
  | none => simp [dSh, PyData.depth, PyData.depthAll] at h1 h2 ⊢; simp [SeqAt.shaped, PyData.depth, PyData.depthAll, h1]
  | some L =>
    simp only [dSh] at h1 h2 ⊢
    simp only [SeqAt.shaped, h1, Bool.true_and, Bool.and_true]
    simp
    omega
theorem nd_sh (word : Str) (n : Nat) (c : Option (List Int)) : (dSh word n c).hasDict = false := by
  cases c with
  | none => simp [dSh, PyData.hasDict, PyData.hasDictAll]
  | some L => simp [dSh, PyData.hasDict, PyData.hasDictAll, nd_ints]
theorem word_sh {word : Str} (h : word ∈ words) : (PyData.str word).showable = true ∧ Sz 10 (.str word) := by
  have key : (words.all fun w => (PyData.str w).showable && decide ((PyData.str w).shown.length ≤ 10)) = true := by decide +kernel
  have := List.all_eq_true.mp key word h
  rw [Bool.and_eq_true, decide_eq_true_eq] at this
  exact this
theorem sz_tints {l : List Int} (h : ∀ i ∈ l, Sm9 i) (hl : l.length ≤ 8) : Sz 43 (.tuple (l.map PyData.int)) := by
  refine (sz_tup (m := 3) (ds := l.map PyData.int) fun d hd => ?_).mono ?_
  · obtain ⟨i, hi, rfl⟩ := List.mem_map.mp hd
    exact sz_int (h i hi)
  · rw [List.length_map]; omega
theorem shown_sh {word : Str} {n : Nat} {c : Option (List Int)} (hw : word ∈ words) (n8 : n ≤ 8) (cf : CF n c) : Shown (dSh word n c) := by
  obtain ⟨w1, w2⟩ := word_sh hw
  cases c with
  | none =>
    have hn : Sm9 (n : Int) := ⟨by omega, by omega⟩
    refine ⟨?_, ?_, ?_⟩
    · show ((PyData.str word).showable && ((PyData.int (n : Int)).showable && true)) = true
      rw [w1, sh_int hn]; rfl
    · simp [dSh, PyData.depth, PyData.depthAll]
    · refine Nat.le_trans (sz_tup (m := 43) (ds := [.str word, .int n]) fun d hd => ?_) (by show 2 * (43 + 2) + 3 ≤ sizeLine; decide)
      rcases List.mem_cons.mp hd with e | hd
      · rw [e]; exact w2.mono (by omega)
      · rw [List.mem_singleton] at hd
        rw [hd]; exact (sz_int hn).mono (by omega)
  | some L =>
    obtain ⟨hL, _, hb, _⟩ := cf L rfl
    have hs : ∀ i ∈ L, Sm9 i := fun i m => ⟨by have := hb i m; omega, (hb i m).2⟩
    refine ⟨?_, ?_, ?_⟩
    · show ((PyData.str word).showable && (PyData.showableAll (L.map PyData.int) && true)) = true
      rw [w1, sh_ints hs]; rfl
    · have := dep_ints L
      simp [dSh, PyData.depth, PyData.depthAll]
      omega
    · refine Nat.le_trans (sz_tup (m := 43) (ds := [.str word, .tuple (L.map PyData.int)]) fun d hd => ?_) (by show 2 * (43 + 2) + 3 ≤ sizeLine; decide)
      rcases List.mem_cons.mp hd with e | hd
      · rw [e]; exact w2.mono (by omega)
      · rw [List.mem_singleton] at hd
        rw [hd]; exact sz_tints hs (by omega)
theorem TupS.same {H H' : Hp} {T : Addr} {word : Str} {n : Nat} {c : Option (List Int)} (s : Same H H') (h : TupS H T word n c) : TupS H' T word n c := by
  obtain ⟨th, e, g⟩ := h
  refine ⟨th, s _ _ e, ?_⟩
  cases c with
  | none => exact g
  | some L =>
    obtain ⟨R, rfl, e2⟩ := g
    exact ⟨R, rfl, s _ _ e2⟩
theorem TupS.kept {H H' : Hp} {d lg cl T : Addr} {word : Str} {n : Nat} {c : Option (List Int)} (D : DrawAt H d lg cl) (k : KeptN d lg H H') (h : TupS H T word n c) : TupS H' T word n c := by
  obtain ⟨th, e, g⟩ := h
  refine ⟨th, tup_kept D k e, ?_⟩
  cases c with
  | none => exact g
  | some L =>
    obtain ⟨R, rfl, e2⟩ := g
    exact ⟨R, rfl, tup_kept D k e2⟩
section
variable {P : Program} {w : World} {K : PySem.W.Frag} {mg : Str → Option Value} {base : Heap} {CN CB CR CW : Addr}
theorem p51_2 {f : Addr} {cdv : Value} {A : Around} {outer : List Env} {s : Shared} {Hs : Hp} {E : XK} {T : List (Addr × Str)} (Y : Al4 P w K mg base CN CB CR CW) (O : Own4 P w K mg base CN T) (hga : A.guards = some []) (hr : Room 9 (A.deeper (envOfC "law" (defScope sLaw) s.heap.objs.size f cdv))) :
    ∃ tt, PSs (X51 P w K mg base f cdv A outer s Hs E) (lawLoop.drop 2) tt ∧ ∀ (D : Ends) (H : Hp) (a d lg cl x ps T0 : Addr) (way : Int) (n : Nat) (us : Zs) (word : Str) (c : Option (List Int)) (v2 v6 v7 v8 v9 v10 : Option V),
      DrawAt H d lg cl → Tabs T H → LNet H x ps n us → ps ≠ lg → us.length ≤ 12 → Kind n (nums us) word c (decide (way = 1)) → word ∈ words → TupS H T0 word n c →
      (∀ (v9 v10 : Option V) H', DrawAt H' d lg cl → Tabs T H' → D.nx [some (.ref a), some (.ref d), v2, some (.int way), some (.ref x), some (.ref T0), v6, v7, v8, v9, v10] H') →
      tt D [some (.ref a), some (.ref d), v2, some (.int way), some (.ref x), some (.ref T0), v6, v7, v8, v9, v10] H := by
  have nd := scLaw.nd
  have hu := hu_of hr
  have r1 : Room 1 _ := hr.mono (by decide)
  have r5 : Room 5 _ := hr.mono (by decide)
  have r6 : Room 6 _ := hr.mono (by decide)
  have r7 : Room 7 _ := hr.mono (by decide)
  have hu70 : (A.deeper (envOfC "law" (defScope sLaw) s.heap.objs.size f cdv)).units + 70 < cLine := by have := hr.un; omega
  refine ⟨_, (pss_cons (ps_set (i := 9) nd rfl (by first | exact Or.inl rfl | exact Or.inr rfl) (pe_call Y.made.ok r6 (by rfl) Y.made.g Y.made.kp Y.made.b .nil pass0 (pa_cons (pv 4) pa_nil)))
      (pss_cons (ps_if (PW.pt (pw_or (pt_cmpR op_ne (pe_callB (id := "repr") (call_repr (K := K) rfl (by exact hga) (by exact hu70)) (by rfl) Y.mRe (by decide +kernel) (pa_cons (pe_call Y.sh.ok r5 (by rfl) Y.sh.g Y.sh.kp Y.sh.b .nil (passes_call L2.takes0 fun _ _ _ _ h => h) (pa_cons (pv 9) pa_nil)) pa_nil)) (pe_callB (id := "repr") (call_repr (K := K) rfl (by exact hga) (by exact hu70)) (by rfl) Y.mRe (by decide +kernel) (pa_cons (pv 5) pa_nil)) (nomark _)) (pw_or1 (pt_cmpR (op_neD hr.units) (pe_call Y.sh.ok r5 (by rfl) Y.sh.g Y.sh.kp Y.sh.b .nil (passes_call L2.takes0 fun _ _ _ _ h => h) (pa_cons (pe_call Y.tn.ok r6 (by rfl) Y.tn.g Y.tn.kp Y.tn.b .nil (passes_call L2.takes0 fun _ _ _ _ h => h) (pa_cons (pv 9) pa_nil)) pa_nil)) (pv 5) (nomark _))))) (pss_one (ps_ret pe_bl)) pss_nil)
      (pss_cons (ps_for PassesOwn.never rfl (pi_range1 (by rfl) Y.mRa (pa_cons (pe_ifExp (pt_cmpR op_eq (pv 3) pe_int (nomark _)) (pe_dget hu (pv 4) pe_str (fun _ _ => rfl)) pe_int) pa_nil)) (pg_name (i := 10) nd rfl (by first | exact Or.inl rfl | exact Or.inr rfl)) (pss_one (ps_if (pt_cmpR op_ne (pe_call Y.le.ok r1 (by rfl) Y.le.g Y.le.kp Y.le.b .nil pass0 (pa_cons (pv 4) (pa_cons (pe_ix ix_tup (pv 5) pe_int (fun _ _ => rfl)) (pa_cons (pv 10) pa_nil)))) pe_int (nomark _)) (pss_one (ps_ret pe_bl)) pss_nil)))
      (pss_one (ps_if (PW.pt (pw_or (pt_not (pt_val (pe_call O.fr.ok hr (by rfl) O.fr.g O.fr.kp O.fr.b .nil pass0 (pa_cons (pv 1) (pa_cons (pv 4) (pa_cons (pv 9) pa_nil)))))) (pw_or1 (pt_not (pt_val (pe_call O.jr.ok r7 (by rfl) O.jr.g O.jr.kp O.jr.b .nil pass0 (pa_cons (pv 1) (pa_cons (pv 9) (pa_cons (pv 5) pa_nil))))))))) (pss_one (ps_ret pe_bl)) pss_nil))))), ?_⟩
  intro D H a d lg cl x ps T0 way n us word c v2 v6 v7 v8 v9 v10 DR TB hN pl hul KD hw hT k
  refine ⟨_, rfl, x, ps, n, us, rfl, hN, KD.inn, hul, KD.n8, KD.n0, KD.nl, KD.good, fun y H1 hG s1 => ?_⟩
  -- the shape
  refine ⟨_, rfl, .ref y, rfl, .inr ⟨y, n, _, rfl, hG, KD.sh _ _ fun T1 H2 s2 hT1 => ?_⟩⟩
  have hsh := shown_sh hw KD.n8 KD.cf
  refine ⟨_, _, rfl, rdv (dp_sh hT1) (nd_sh ..), hsh, ?_⟩
  have s02 := s1.trans s2
  refine ⟨_, rfl, _, _, rfl, rdv (dp_sh (hT.same s02)) (nd_sh ..), hsh, rfl, _, rfl, ?_⟩
  refine iteFb (by simp) ?_
  -- the turned net
  refine ⟨_, rfl, .ref y, rfl, .inr ⟨y, n, _, rfl, hG.at_.same s2, KD.n0, KD.n8, KD.len, (fun t h m => ⟨(KD.inn t h m).1, (KD.inn t h m).2, KD.nl t h m⟩), KD.goodT, fun y2 H3 hA s3 => ?_⟩⟩
  have hG2 : NetG K CN H3 y2 n (swp (nums us)) := ⟨hA, (fun t h m => by
    unfold swp at m
    obtain ⟨q, mq, e⟩ := List.mem_map.mp m
    cases e
    exact (KD.inn q.1 q.2 mq).symm), by unfold swp; rw [List.length_map]; exact KD.len, KD.n8, KD.n0, (fun t h m => by
    unfold swp at m
    obtain ⟨q, mq, e⟩ := List.mem_map.mp m
    cases e
    exact fun z => KD.nl q.1 q.2 mq z.symm)⟩
  refine ⟨.ref y2, rfl, .inr ⟨y2, n, _, rfl, hG2, KD.shT _ _ fun T2 H4 s4 hT2 => ?_⟩⟩
  have s04 := (s02.trans s3).trans s4
  refine ⟨_, rfl, _, _, dp_sh hT2, dp_sh (hT.same s04), shp_sh hw .., shp_sh hw .., ?_⟩
  rw [PySem.SeqAt.eqv_refl _ (lay_sh hw ..)]
  refine ⟨_, rfl, ?_⟩
  refine iteF ?_
  have D4 := draw_same s04 DR
  have t4 := TB.ext s04
  have N4 := hN.same s04
  have hT4 := hT.same s04
  have hG4 := NetG.same ((s2.trans s3).trans s4) hG
  -- the end of it, behind the loop over places
  have fin : ∀ (H5 : Hp) (v10 : Option V), Same H4 H5 → tIfS (tOr (tNot (tB (tCall (spFR K CN T) [] E0 (tCons (tVar 1) (tCons (tVar 4) (tCons (tVar 9) tNil)))))) (tNot (tB (tCall (spJR K CN) [] E0 (tCons (tVar 1) (tCons (tVar 9) (tCons (tVar 5) tNil))))))) (tRet (tC (.bl false))) tNext D [some (.ref a), some (.ref d), v2, some (.int way), some (.ref x), some (.ref T0), v6, v7, v8, some (.ref y), v10] H5 := fun H5 v10 s5 => by
    have D5 := draw_same s5 D4
    refine ⟨_, rfl, _, rfl, _, rfl, d, lg, cl, x, ps, y, n, us, rfl, D5, t4.ext s5, N4.same s5, pl, NetG.same s5 hG4, fun H6 D6 k6 t6 => ?_⟩
    refine ⟨_, rfl, ?_⟩
    refine iteF ?_
    refine ⟨_, rfl, _, rfl, _, rfl, d, lg, cl, y, T0, n, nums us, word, c, rfl, D6, NetG.kept D5 k6 (NetG.same s5 hG4), KD.sh, TupS.kept D5 k6 (hT4.same s5), KD.cf, fun H7 D7 k7 => ?_⟩
    refine ⟨_, rfl, ?_⟩
    refine iteF ?_
    exact k _ _ H7 D7 (Tabs.kept D6 k7 t6)
  by_cases cw : way = 1
  · refine ⟨_, rfl, rfl, _, rfl, iteTb (decide_eq_true (by rw [cw])) ?_⟩
    obtain ⟨L, rfl, hlean⟩ := KD.lean (decide_eq_true cw)
    have hLn := (KD.cf L rfl).1
    obtain ⟨th, e1, R, rfl, e2⟩ := id hT4
    refine ⟨_, rfl, x, _, rfl, DGet.k (k := Sum.inr "many") N4.e, n, rfl, by omega, by have := KD.n8; omega, ?_⟩
    rw [Int.toNat_natCast]
    refine for_range (lo := 0) (n := n) (fun i σ Hx => ∃ v10 : Option V, σ = [some (.ref a), some (.ref d), v2, some (.int way), some (.ref x), some (.ref T0), v6, v7, v8, some (.ref y), v10] ∧ Same H4 Hx) ⟨_, rfl, Same.refl _⟩ ?_ ?_
    · rintro i σ Hx hi ⟨v10, rfl, sx⟩
      rw [Int.zero_add]
      refine ⟨_, rfl, _, rfl, T0, _, 1, .ref R, rfl, rfl, SqT.of (sx _ _ e1), rfl, _, rfl, x, ps, R, n, us, L, i, rfl, N4.same sx, KD.inn, hul, .inr (SqT.of (sx _ _ e2)), hLn, hi, fun H6 s6 => ?_⟩
      rw [hlean i (inr_nat hi)]
      refine ⟨rfl, _, rfl, ?_⟩
      refine iteFb (by simp) ?_
      exact ⟨_, rfl, sx.trans s6⟩
    · rintro σ Hx ⟨v10, rfl, sx⟩
      exact fin Hx v10 sx
  · refine ⟨_, rfl, rfl, _, rfl, iteFb (decide_eq_false (fun z => cw (V.int.inj z))) ?_⟩
    refine ⟨0, rfl, by decide, by decide, ?_⟩
    refine for_range (lo := 0) (n := 0) (fun i σ Hx => ∃ v10 : Option V, σ = [some (.ref a), some (.ref d), v2, some (.int way), some (.ref x), some (.ref T0), v6, v7, v8, some (.ref y), v10] ∧ Same H4 Hx) ⟨_, rfl, Same.refl _⟩ ?_ ?_
    · rintro i σ Hx hi _
      exact absurd hi (Nat.not_lt_zero _)
    · rintro σ Hx ⟨v10, rfl, sx⟩
      exact fin Hx v10 sx
end
end K03


set_option Elab.async false
set_option maxRecDepth 100000
set_option maxHeartbeats 4000000
set_option linter.all false
namespace K03
open PySem PySem.Spec PyProof.Rows L2 NetM LamX GL
theorem word_good (F : Prs) (n : Nat) : wordS (wordN F n) ∈ words := by
  have := wordN_lt F n
  match wordN F n, this with
  | 0, _ => decide
  | 1, _ => decide
  | 2, _ => decide
section
variable {P : Program} {w : World} {K : PySem.W.Frag} {mg : Str → Option Value} {base : Heap} {CN CB CR CW : Addr}
theorem ok_law {f : Addr} {fd : FuncData} {T : List (Addr × Str)} (F : Fun K "law" "law" sLaw f fd) (Y : Al4 P w K mg base CN CB CR CW) (O : Own4 P w K mg base CN T) : FnG P w K mg base L2.CX0 10 f fd ["script"] (spLaw K T) := by
  refine GL.okG F scLaw (fun vs H Q E h => ?_) (fun cdv A outer s H vs Q E hga hr h => ?_)
  · obtain ⟨a, ns, rfl, _⟩ := h
    rfl
  · obtain ⟨a, ns, rfl, hS, hlen, hT, k⟩ := h
    have nd := scLaw.nd
    have hu := hu_of hr
    have r1 : Room 1 _ := hr.mono (by decide)
    have r2 : Room 2 _ := hr.mono (by decide)
    have r3 : Room 3 _ := hr.mono (by decide)
    have r4 : Room 4 _ := hr.mono (by decide)
    obtain ⟨te, pe, re⟩ := p51_2 (f := f) (cdv := cdv) (outer := outer) (Hs := H) (E := E) Y O hga hr
    refine ⟨_, pss_cons (ps_set (i := 1) nd rfl (by first | exact Or.inl rfl | exact Or.inr rfl) (pe_call Y.be.ok r1 (by rfl) Y.be.g Y.be.kp Y.be.b .nil pass0 (pa_cons (pv 0) pa_nil)))
      (pss_cons (ps_for PassesOwn.never rfl (pi_range1 (by rfl) Y.mRa (pa_cons (pe_op op_add pe_int (pe_callB (call_min2 rfl) (by rfl) Y.mMin (by decide +kernel) (pa_cons (pe_callB call_len_seq (by rfl) Y.mLen PySem.boot_len (pa_cons (pv 0) pa_nil)) (pa_cons pe_int pa_nil)))) pa_nil)) (pg_name (i := 2) nd rfl (by first | exact Or.inl rfl | exact Or.inr rfl))
        (pss_cons (ps_set (i := 3) nd rfl (by first | exact Or.inl rfl | exact Or.inr rfl) (pe_call Y.ta.ok r2 (by rfl) Y.ta.g Y.ta.kp Y.ta.b .nil pass0 (pa_cons (pv 1) (pa_cons pe_int pa_nil))))
        (pss_cons (ps_if (pt_cmpR op_eq (pv 3) pe_int (nomark _))
            (pss_cons (ps_set (i := 4) nd rfl (by first | exact Or.inl rfl | exact Or.inr rfl) (pe_call Y.ne.ok r4 (by rfl) Y.ne.g Y.ne.kp Y.ne.b .nil pass0 (pa_cons (pv 1) (pa_cons pe_int pa_nil))))
              (pss_one (ps_set (i := 5) nd rfl (by first | exact Or.inl rfl | exact Or.inr rfl) (pe_tup (pa_cons (pe_call Y.wo.ok r1 (by rfl) Y.wo.g Y.wo.kp Y.wo.b .nil pass0 (pa_cons (pv 4) pa_nil)) (pa_cons (pe_dget hu (pv 4) pe_str (fun _ _ => rfl)) pa_nil))))))
          (pss_one (ps_if (pt_cmpR op_eq (pv 3) pe_int (nomark _))
            (pss_cons (ps_asg (pe_call Y.ro.ok r3 (by rfl) Y.ro.g Y.ro.kp Y.ro.b .nil pass0 (pa_cons (pv 1) pa_nil)) (pg_tup (by rfl) (pgs_cons (pg_name (i := 6) nd rfl (by first | exact Or.inl rfl | exact Or.inr rfl)) (pgs_cons (pg_name (i := 7) nd rfl (by first | exact Or.inl rfl | exact Or.inr rfl)) (pgs_cons (pg_name (i := 8) nd rfl (by first | exact Or.inl rfl | exact Or.inr rfl)) pgs_nil)))))
              (pss_cons (ps_asg (pe_call Y.re.ok r4 (by rfl) Y.re.g Y.re.kp Y.re.b .nil pass0 (pa_cons (pv 1) (pa_cons (pv 6) (pa_cons (pv 7) (pa_cons (pv 8) pa_nil))))) (pg_tup (by rfl) (pgs_cons (pg_name (i := 4) nd rfl (by first | exact Or.inl rfl | exact Or.inr rfl)) (pgs_cons (pg_name (i := 8) nd rfl (by first | exact Or.inl rfl | exact Or.inr rfl)) pgs_nil))))
              (pss_one (ps_set (i := 5) nd rfl (by first | exact Or.inl rfl | exact Or.inr rfl) (pe_tup (pa_cons pe_str (pa_cons (pv 8) pa_nil)))))))
            (pss_cons (ps_asg (pe_call Y.wi.ok r4 (by rfl) Y.wi.g Y.wi.kp Y.wi.b .nil pass0 (pa_cons (pv 1) pa_nil)) (pg_tup (by rfl) (pgs_cons (pg_name (i := 6) nd rfl (by first | exact Or.inl rfl | exact Or.inr rfl)) (pgs_cons (pg_name (i := 7) nd rfl (by first | exact Or.inl rfl | exact Or.inr rfl)) pgs_nil))))
              (pss_cons (ps_set (i := 4) nd rfl (by first | exact Or.inl rfl | exact Or.inr rfl) (pe_ix ix_tup (pe_call Y.re.ok r4 (by rfl) Y.re.g Y.re.kp Y.re.b .nil pass0 (pa_cons (pv 1) (pa_cons (pv 6) (pa_cons (pv 7) (pa_cons (pe_op op_repA (pe_tup (pa_cons pe_int pa_nil)) (pv 6)) pa_nil))))) pe_int (fun _ _ => rfl)))
              (pss_one (ps_set (i := 5) nd rfl (by first | exact Or.inl rfl | exact Or.inr rfl) (pe_tup (pa_cons pe_str (pa_cons (pe_call Y.wr.ok r2 (by rfl) Y.wr.g Y.wr.kp Y.wr.b .nil pass0 (pa_cons (pv 4) pa_nil)) pa_nil))))))))))
        pe)))
      (pss_one (ps_ret pe_bl))), ?_⟩
    refine ⟨_, rfl, a, ns, rfl, hS, hlen, fun d lg cl H1 D1 s1 nd1 nl1 nc1 => ?_⟩
    have t1 : Tabs T H1 := hT.ext s1
    have hS1 : SqL K H1 a (ns.map L2.V.int) := s1.seq hS
    refine ⟨_, rfl, a, _, rfl, .inl hS1, _, _, rfl, _, _, rfl, rfl, _, rfl, ?_, ?_, ?_⟩
    · rw [List.length_map]; split <;> omega
    · rw [List.length_map]; split <;> omega
    refine for_range (lo := 0) (fun i σ Hx => ∃ v2 v3 v4 v5 v6 v7 v8 v9 v10 : Option L2.V, σ = [some (.ref a), some (.ref d), v2, v3, v4, v5, v6, v7, v8, v9, v10] ∧ DrawAt Hx d lg cl ∧ Tabs T Hx) ⟨none, none, none, none, none, none, none, none, none, rfl, D1, t1⟩ ?_ ?_
    · clear hS1 t1 D1 nd1 nl1 nc1
      rintro i σ Hx hi ⟨v2, v3, v4, v5, v6, v7, v8, v9, v10, rfl, Dx, tx⟩
      refine ⟨_, rfl, d, lg, cl, 3, rfl, Dx, by decide, by decide, fun way H2 w0 w3 D2 k2 => ?_⟩
      have t2 := Tabs.kept Dx k2 tx
      refine ⟨_, rfl, rfl, _, rfl, ?_⟩
      by_cases c0 : way = 0
      · refine iteTb (decide_eq_true (by rw [c0])) ?_
        refine ⟨_, rfl, d, lg, cl, rfl, D2, fun x ps n w us f H3 n0 n8 hw3 hN pl R D3 k3 => ?_⟩
        have t3 := Tabs.kept D2 k3 t2
        have KD := kind_good n0 n8 hw3 R
        have hul : us.length ≤ 12 := by have := KD.len; unfold nums at this; rw [List.length_map] at this; exact this
        refine ⟨_, rfl, x, ps, n, us, rfl, hN, KD.inn, hul, n8, KD.nl, fun H4 s4 => ?_⟩
        refine ⟨_, rfl, x, _, rfl, DGet.k (k := Sum.inr "many") (hN.same s4).e, by show 2 ≤ sizeLine; decide, fun T0 nT0 => ?_⟩
        have sT := same_upd (o := .tup [.str (wordS (wordN (nums us) n)), .int n]) nT0
        have s34 := s4.trans sT
        exact re _ _ a d lg cl x ps T0 way n us _ none _ _ _ _ _ _ (draw_same s34 D3) (t3.ext s34) (hN.same s34) pl hul (by rw [decide_eq_false (by omega)]; exact KD) (word_good _ _) ⟨_, upd_same, rfl⟩ (fun _ _ H' D' t' => ⟨_, _, _, _, _, _, _, _, _, rfl, D', t'⟩)
      refine iteFb (decide_eq_false (fun z => c0 (V.int.inj z))) ?_
      refine ⟨_, rfl, rfl, _, rfl, ?_⟩
      by_cases c1 : way = 1
      · refine iteTb (decide_eq_true (by rw [c1])) ?_
        refine ⟨_, rfl, d, lg, cl, rfl, D2, fun q T1 Dq R us H3 hq eT eD dl pu hu eR D3 k3 => ?_⟩
        have t3 := Tabs.kept D2 k3 t2
        obtain ⟨⟨hi', nl⟩, n8, n0, l12, _, hL, _⟩ := round_of hq
        have hul0 : us.length ≤ 12 := by
          have := congrArg List.length hu
          unfold nums at this
          rw [List.length_map] at this
          omega
        refine ⟨T1, [.int (roundP q.1 q.2).1, .ref Dq, .ref R], rfl, SqT.of eT, rfl, .int (roundP q.1 q.2).1, [.ref Dq, .ref R], rfl, .ref Dq, [.ref R], rfl, .ref R, [], rfl, rfl, ?_⟩
        refine ⟨_, rfl, _, rfl, _, rfl, _, rfl, d, lg, cl, Dq, R, (roundP q.1 q.2).1, us, (roundP q.1 q.2).2.2, rfl, D3, eD, dl, pu, by rw [hu]; exact hi', hul0, n8, n0, by rw [hu]; exact nl, eR, hL, fun T2 x ps M vs f φ ms H4 hN pl Rn hφ eT2 eM hml hrow D4 k4 => ?_⟩
        rw [hu] at Rn
        have t4 := Tabs.kept D3 k4 t3
        have KD := kind_round hq Rn hφ hml hrow
        have hul : vs.length ≤ 12 := by have := KD.len; unfold nums at this; rw [List.length_map] at this; exact this
        refine ⟨T2, [.ref x, .ref M], rfl, SqT.of eT2, rfl, .ref x, [.ref M], rfl, .ref M, [], rfl, rfl, ?_⟩
        refine ⟨_, rfl, by show 2 ≤ sizeLine; decide, fun T0 nT0 => ?_⟩
        have sT := same_upd (o := .tup [.str "round", .ref M]) nT0
        exact re _ _ a d lg cl x ps T0 way _ vs "round" (some ms) _ _ _ _ _ _ (draw_same sT D4) (t4.ext sT) (hN.same sT) pl hul (by rw [decide_eq_true c1]; exact KD) (by decide) ⟨_, upd_same, M, rfl, sT _ _ eM⟩ (fun _ _ H' D' t' => ⟨_, _, _, _, _, _, _, _, _, rfl, D', t'⟩)
      refine iteFb (decide_eq_false (fun z => c1 (V.int.inj z))) ?_
      refine ⟨_, rfl, d, lg, cl, rfl, D2, fun z T1 Dq us H3 hz eT eD dl pu hu D3 k3 => ?_⟩
      have t3 := Tabs.kept D2 k3 t2
      obtain ⟨⟨hi', nl⟩, n8, n0, l12, _⟩ := wild_of hz
      have hul0 : us.length ≤ 12 := by
        have := congrArg List.length hu
        unfold nums at this
        rw [List.length_map] at this
        have l12' : (wdE z).length ≤ 12 := l12
        omega
      refine ⟨T1, [.int (wdN z), .ref Dq], rfl, SqT.of eT, rfl, .int (wdN z), [.ref Dq], rfl, .ref Dq, [], rfl, rfl, ?_⟩
      refine ⟨_, rfl, _, rfl, _, rfl, by show 1 ≤ sizeLine; decide, fun t0 nt0 => ⟨_, rfl, rep_rd upd_same n0 (by have : wdN z ≤ 8 := n8; omega) fun R H4 eR s4 => ?_⟩⟩
      have s34 := (same_upd (o := .tup [.int 0]) nt0).trans s4
      have D4 := draw_same s34 D3
      refine ⟨d, lg, cl, Dq, R, wdN z, us, List.replicate (wdN z) 0, rfl, D4, s34 _ _ eD, dl, pu.same s34, by rw [hu]; exact hi', hul0, n8, n0, by rw [hu]; exact nl, by rw [List.map_replicate]; exact eR, List.length_replicate, fun T2 x ps M vs f φ ms H5 hN pl Rn hφ eT2 eM hml hrow D5 k5 => ?_⟩
      rw [hu] at Rn
      have t5 := Tabs.kept D4 k5 (t3.ext s34)
      obtain ⟨k0, W, KD⟩ := kind_wild hz Rn hφ
      have hul : vs.length ≤ 12 := by have := KD.len; unfold nums at this; rw [List.length_map] at this; exact this
      refine ⟨T2, _, 0, .ref x, rfl, rfl, SqT.of eT2, rfl, ?_⟩
      refine ⟨_, rfl, x, ps, wdN z, vs, k0, rfl, hN, KD.inn, hul, n8, KD.nl, W, fun Wr H6 s6 eW => ?_⟩
      refine ⟨by show 2 ≤ sizeLine; decide, fun T0 nT0 => ?_⟩
      have sT := same_upd (o := .tup [.str "wild", .ref Wr]) nT0
      have s56 := s6.trans sT
      exact re _ _ a d lg cl x ps T0 way _ vs "wild" (some _) _ _ _ _ _ _ (draw_same s56 D5) (t5.ext s56) (hN.same s56) pl hul (by rw [decide_eq_false c1]; exact KD) (by decide) ⟨_, upd_same, Wr, rfl, sT _ _ eW⟩ (fun _ _ H' D' t' => ⟨_, _, _, _, _, _, _, _, _, rfl, D', t'⟩)
    · rintro σ Hx ⟨v2, v3, v4, v5, v6, v7, v8, v9, v10, rfl, Dx, tx⟩
      exact k Hx
end
end K03


set_option Elab.async false
set_option maxRecDepth 100000
set_option maxHeartbeats 4000000
set_option linter.all false
namespace K03
open PySem PySem.Spec PyProof.Rows L2 NetM GL LamX
/-! the end, where tables of code objects are written and repr is asked -/
/-- what is tracked when the law begins: the empty tables ts; the script at a, where the written part has nothing there -/
def Hb (K : PySem.W.Frag) (ts : List Addr) (a : Addr) (o : Obj) (xs : List L2.V) : Hp := fun b => if b ∈ ts then some (.tbl #[]) else if (b == a && (K.lookup a).isNone) = true then some (.frz o (.lst xs)) else none
section
variable {K : PySem.W.Frag} {ts : List Addr} {a b : Addr} {o : Obj} {xs : List L2.V}
theorem hb_tab (h : b ∈ ts) : Hb K ts a o xs b = some (.tbl #[]) := if_pos h
theorem hb_scr (h : a ∉ ts) (n : K.lookup a = none) : Hb K ts a o xs a = some (.frz o (.lst xs)) := (if_neg h).trans (if_pos (by rw [n, beq_self_eq_true]; rfl))
theorem hb_all (b : Addr) : (b ∈ ts ∧ Hb K ts a o xs b = some (.tbl #[])) ∨ (b = a ∧ K.lookup a = none ∧ Hb K ts a o xs b = some (.frz o (.lst xs))) ∨ Hb K ts a o xs b = none := by
  by_cases h : b ∈ ts
  · exact .inl ⟨h, if_pos h⟩
  · by_cases z : (b == a && (K.lookup a).isNone) = true
    · have z2 := z
      rw [Bool.and_eq_true, beq_iff_eq, Option.isNone_iff_eq_none] at z2
      exact .inr (.inl ⟨z2.1, z2.2, (if_neg h).trans (if_pos z)⟩)
    · exact .inr (.inr ((if_neg h).trans (if_neg z)))
end
/-- an object of neither kind that is tracked when the law begins -/
def Apart (o : Obj) : Prop := (∀ vs n, o.data ≠ .seq vs n) ∧ o ≠ { cls := .none, data := .fields #[] }
theorem apart_cls {o : Obj} {c : Value} (e : o.cls = c) (hc : c ≠ .none) (h : ∀ vs n, o.data ≠ .seq vs n) : Apart o := ⟨h, by intro z; subst z; exact hc e.symm⟩
theorem apart_dict {o : Obj} {es : Array DictEntry} {ep : Nat} (e : o.data = .dict es ep) : Apart o := ⟨(by intro vs n z; rw [e] at z; cases z), (by intro z; subst z; cases e)⟩
theorem law_callGT {P : Program} {w : World} {K : PySem.W.Frag} {mg mb : Str → Option Value} {k : Nat} {fa a : Addr} {cs : List (Addr × Addr)} {fd : FuncData} {x : Str} {sp : Sp} {s₁ : Shared} {vs : List Value} {ns : List Int}
    (KX : K.In s₁.heap) (hns : s₁.heap.Ns mainGlobals mg) (hb : s₁.heap.Ns builtinsNs mb) (hbb : ∀ x : Str, x ≠ "__name__" → mb x = bootBuiltins x) (hlim : s₁.heap.NoLimit) (hg : s₁.gens = #[])
    (hT : ∀ p ∈ cs, PySem.W.CodeHd s₁.heap p.1 p.2 ∧ s₁.heap.get? p.2 = some { cls := .none, data := .fields #[] }) (nT : ∀ p ∈ cs, K.lookup p.2 = none)
    (hbm : ∃ (bm : Addr) (ob : Obj), mg "__builtins__" = some (.ref bm) ∧ bm ≠ builtinsNs ∧ s₁.heap.get? bm = some ob ∧ ob.cls = .type "module" ∧ ob.dict = some builtinsNs ∧ ob.data = .plain)
    (ha : s₁.heap.get? a = some { cls := .type "list", data := .seq vs.toArray }) (hi : IntsAre vs ns) (hl : ns.length ≤ sizeLine) (hr : Room k callerA)
    (F : ∀ base : Heap, K.In base → base.Ns mainGlobals mg → (∀ p ∈ cs, TabB base mg p.1 p.2) → FnG P w K mg base CX0 k fa fd [x] sp) (hbind : ∀ (s : Shared) (u : Value), BindsTo s fd ⟨[u], []⟩ [(x, u)])
    (hsp : ∀ H : Hp, (∀ p ∈ cs, H p.2 = some (.tbl #[])) → SqL K H a (ns.map V.int) → sp [.ref a] H (fun v _ => v = .bl true) fun _ _ _ => False) :
    codeAny (model P w) callerA (.call (.ref fa) ⟨[.ref a], []⟩) (fun r s' => r = .ok (.ret (.bool true)) ∧ OldK s₁.heap s'.heap ∧ s'.os = s₁.os ∧ AllBare s'.gens) s₁ := by
  obtain ⟨oa, hoa⟩ : ∃ oa : Obj, oa = { cls := .type "list", data := .seq vs.toArray } := ⟨_, rfl⟩
  rw [← hoa] at ha
  have hod : oa.data = .seq vs.toArray := by rw [hoa]
  have rv := vals_ints hi
  have inT : ∀ b : Addr, b ∈ cs.map (·.2) → ∃ p ∈ cs, p.2 = b := fun b h => by
    obtain ⟨p, m, e⟩ := List.mem_map.mp h
    exact ⟨p, m, e⟩
  have tabAt : ∀ b : Addr, b ∈ cs.map (·.2) → s₁.heap.get? b = some { cls := .none, data := .fields #[] } ∧ K.lookup b = none := fun b h => by
    obtain ⟨p, m, rfl⟩ := inT b h
    exact ⟨(hT p m).2, nT p m⟩
  have aT : a ∉ cs.map (·.2) := fun z => by
    have e := (tabAt a z).1
    rw [ha] at e
    have := congrArg Obj.data (Option.some.inj e)
    rw [hod] at this
    cases this
  obtain ⟨H, hH⟩ : ∃ H : Hp, H = Hb K (cs.map (·.2)) a oa (ns.map V.int) := ⟨_, rfl⟩
  have all : ∀ b, (b ∈ cs.map (·.2) ∧ H b = some (.tbl #[])) ∨ (b = a ∧ K.lookup a = none ∧ H b = some (.frz oa (.lst (ns.map V.int)))) ∨ H b = none := fun b => by rw [hH]; exact hb_all b
  have tabH : ∀ p ∈ cs, H p.2 = some (.tbl #[]) := fun p m => by rw [hH]; exact hb_tab (List.mem_map.mpr ⟨p, m, rfl⟩)
  -- what stays to be seen below
  have see : ∀ {b : Addr} {o : Obj}, s₁.heap.get? b = some o → Apart o → (hidT s₁.heap H).get? b = some o := fun {b o} e ap => by
    refine hidT_get e ?_
    rcases all b with ⟨m, _⟩ | ⟨rfl, _, _⟩ | n
    · exact absurd (Option.some.inj (e.symm.trans (tabAt b m).1)) ap.2
    · have := Option.some.inj (e.symm.trans ha)
      rw [this] at ap
      exact absurd hod (ap.1 _ _)
    · exact n
  have seeNs : ∀ {b : Addr} {m : Str → Option Value}, s₁.heap.Ns b m → (hidT s₁.heap H).Ns b m := fun {b m} ⟨o, es, ep, e, d, r⟩ => ⟨o, es, ep, see e (apart_dict d), d, r⟩
  have seeK : K.In (hidT s₁.heap H) := fun b o e => by
    refine hidT_get (KX b o e) ?_
    rcases all b with ⟨m, _⟩ | ⟨rfl, n, _⟩ | n
    · exact absurd ((tabAt b m).2) (by rw [show K.lookup b = some o from e]; intro y; cases y)
    · rw [show K.lookup b = some o from e] at n; cases n
    · exact n
  have md : L2.Mod K mg (hidT s₁.heap H) := ⟨seeK, seeNs hns, ⟨mb, seeNs hb, hbb⟩, let ⟨mc, h1, h2⟩ := hlim; ⟨mc, seeNs h1, h2⟩⟩
  have tb : ∀ p ∈ cs, TabB (hidT s₁.heap H) mg p.1 p.2 := fun p m => by
    obtain ⟨C, tp⟩ := hT p m
    refine ⟨?_, ?_, fun z => ?_⟩
    · obtain ⟨o, us, file, tf, flags, tg, inF, text, tt, e, r1, r2, r⟩ := C
      exact ⟨o, us, file, tf, flags, tg, inF, text, tt, see e (apart_cls r1 (by intro y; cases y) fun _ _ y => by rw [r2] at y; cases y), r1, r2, r⟩
    · obtain ⟨bm, ob, b1, b2, b3, b4, b5, b6⟩ := hbm
      refine ⟨bm, ob, b1, b2, fun q => ?_, fun q => ?_, see b3 (apart_cls b4 (by intro y; cases y) fun _ _ y => by rw [b6] at y; cases y), b4, b5, b6⟩
      · obtain ⟨o, es, ep, e, d, _⟩ := hns
        rw [q, e] at b3
        rw [Option.some.inj b3, b6] at d
        cases d
      · rw [q, tp] at b3
        rw [← Option.some.inj b3] at b4
        cases b4
    · obtain ⟨o, es, ep, e, d, _⟩ := hns
      rw [z, tp] at e
      rw [← Option.some.inj e] at d
      cases d
  have hok : HOk P w H s₁.heap := fun b u z => by
    rcases all b with ⟨m, e⟩ | ⟨rfl, _, e⟩ | e
    · cases z.symm.trans e
      exact (tabAt b m).1
    · cases z.symm.trans e
      subst hoa
      exact ⟨ha, by rw [List.length_map]; exact hl, vs, _, rv, ha⟩
    · cases z.symm.trans e
  have scr : SqL K H a (ns.map V.int) := by
    cases hk : K.lookup a with
    | none => exact .inl (.inr ⟨oa, by rw [hH]; exact hb_scr aT hk⟩)
    | some o =>
      have e := KX a o hk
      rw [ha] at e
      cases e
      exact .inr ⟨oa, vs.toArray, _, hk, by rw [hoa], by rw [hoa], hod, by rw [List.size_toArray, hi.length]; exact hl, by simpa using rv⟩
  have e0 : Env0 P w K mg (hidT s₁.heap H) callerA [] s₁ H := ⟨rfl, md, fun b o e => of_hidT e, Nat.le_of_eq (hidT_size _ _), trivial, fun b z => absurd (show b ∈ ([] : List Addr) from z) (by simp), hok, .of_eq hg⟩
  refine codeAny_mono ((F _ seeK (seeNs hns) tb).run callerA [] s₁ H ⟨[.ref a], []⟩ [.ref a] [.ref a] _ _ rfl hr e0 (hbind s₁ (.ref a)) (.cons rfl .nil) (hsp H tabH scr)) fun r s' h => ?_
  cases r with
  | error e => exact False.elim h
  | ok fl =>
  cases fl with
  | next => exact False.elim h
  | brk => exact False.elim h
  | cont => exact False.elim h
  | ret u =>
  obtain ⟨v, H', os, bare, un, hok', r', q⟩ := h
  obtain rfl : v = .bl true := q
  obtain rfl : u = Value.bool true := r'
  have old : ∀ b o, s₁.heap.get? b = some o → s'.heap.get? b = some o ∨ (isCodeTable s₁.heap b ∧ o = { cls := .none, data := .fields #[] } ∧ ∃ more : Array Value, s'.heap.get? b = some { cls := .none, data := .fields more }) := fun b o e => by
    rcases all b with ⟨m, z⟩ | ⟨rfl, _, z⟩ | z
    · obtain ⟨p, pm, rfl⟩ := inT b m
      obtain ⟨more, z2⟩ := un.tbls p.2 #[] (tabH p pm)
      exact .inr ⟨((hT p pm).1.tab (hT p pm).2).isCodeTable, Option.some.inj (e.symm.trans (hT p pm).2), _, hok' p.2 _ z2⟩
    · have z2 := un.frzs b oa _ z
      obtain ⟨e2, _⟩ := hok' b _ z2
      exact .inl (by rw [e2, ← ha, e])
    · exact .inl (un.keep b o e z (by intro y; exact absurd (show b ∈ ([] : List Addr) from y) (by simp)) (by simp))
  refine ⟨rfl, ⟨fun b o e => ?_, fun b o e => ?_⟩, os, bare⟩
  · rcases old b o e with z | ⟨ct, rfl, more, z⟩
    · exact .inl z
    · exact .inr (.inl ⟨ct, rfl, #[], more, rfl, by rw [Array.empty_append]; exact z⟩)
  · rcases old b o e with z | ⟨_, _, more, z⟩
    · exact ⟨o, z⟩
    · exact ⟨_, z⟩
/-- a law's end with the tables of its defs: xs, their names; the code object and the table of each stand in the written part -/
theorem walk_ofGT {l : PySem.W.OpenLaw} {n k : Nat} {q : Program} {loose : List Str} {XP : (Str → Option Value) → Heap → Prop} {YP : World → Heap → Prop} {d : DefRec} {K : Params → PySem.W.Frag} {sp : World → Sp} {x : Str} {ts : World → List (Str × Addr × Addr)}
    (hn : l.most = some n) (hn2 : n ≤ sizeLine) (hdf : d.params.defaults = []) (hr : Room k callerA) (hY : ∀ (w : World) (h : Heap), YP w h → (K w.params).In h)
    (ht : ∀ w, ∀ p ∈ ts w, PySem.W.codeHdIn (K w.params) p.2.1 p.2.2 = true ∧ (K w.params).lookup p.2.2 = none) (hTY : ∀ (w : World) (h : Heap), YP w h → ∀ p ∈ ts w, h.get? p.2.2 = some { cls := .none, data := .fields #[] })
    (F : ∀ (w : World) (mg : Str → Option Value) (fa : Addr) (h : Heap), (K w.params).In h → h.Ns mainGlobals mg → mg d.name = some (.ref fa) →
      ∃ fd : FuncData, (∀ (s : Shared) (u : Value), BindsTo s fd ⟨[u], []⟩ [(x, u)]) ∧ ∀ base : Heap, (K w.params).In base → base.Ns mainGlobals mg → (∀ p ∈ ts w, TabB base mg p.2.1 p.2.2) → FnG l.prog w (K w.params) mg base CX0 k fa fd [x] (sp w))
    (hsp : ∀ (w : World) (H : Hp) (a : Addr) (ns : List Int), ns.length ≤ n → (∀ z ∈ ns, Builtin.Int.intBits z ≤ 1048576) → (∀ p ∈ ts w, H p.2.2 = some (.tbl #[])) → SqL (K w.params) H a (ns.map V.int) → sp w [.ref a] H (fun v _ => v = .bl true) fun _ _ _ => False) :
    PySem.W.WalkO q loose XP YP l.row.toRowW d [] (fun f vs => PySem.call f vs) := by
  refine Att.attach_callB hn hdf fun w s₀ s₁ mg mb fa o pm cd doc a vs ns G Y ho hd hcd hmg hobj hints hlen hbits hg => ?_
  have KX := hY w _ Y
  obtain ⟨fd, hb, hF⟩ := F w mg fa _ KX G.T.g hmg
  have tab : ∀ p ∈ (ts w).map (·.2), ∃ r ∈ ts w, r.2 = p := fun p m => by
    obtain ⟨r, m, e⟩ := List.mem_map.mp m
    exact ⟨r, m, e⟩
  refine law_callGT (cs := (ts w).map (·.2)) KX G.T.g G.T.b G.T.builtins G.T.nolimit hg (fun p m => ?_) (fun p m => ?_) G.T.bmain hobj hints (Nat.le_trans hlen hn2) hr (fun base b1 b2 b3 => hF base b1 b2 fun p m => b3 _ (List.mem_map.mpr ⟨p, m, rfl⟩)) hb fun H hH hS => hsp w H a ns hlen hbits (fun p m => hH _ (List.mem_map.mpr ⟨p, m, rfl⟩)) hS
  · obtain ⟨r, m2, rfl⟩ := tab p m
    exact ⟨PySem.W.codeHd_of_K KX (ht w r m2).1, hTY w _ Y r m2⟩
  · obtain ⟨r, m2, rfl⟩ := tab p m
    exact (ht w r m2).2
end K03


set_option Elab.async false
set_option maxRecDepth 100000
set_option maxHeartbeats 8000000
set_option linter.all false
namespace K03
open PySem PySem.Spec PyProof.Rows L2 NetM GL LamX
/-! ### all that the top has written, put together -/
def ga (K : PySem.W.Frag) (x : Str) : Addr := match PySem.W.nsIn K mainGlobals x with | some (some (.ref a)) => a | _ => 0
def gB (K : PySem.W.Frag) (x : Str) : Bool := PySem.W.nsIn K mainGlobals x == some (some (.ref (ga K x)))
theorem ga_of {K : PySem.W.Frag} {x : Str} {C : Addr} (h : PySem.W.nsIn K mainGlobals x = some (some (.ref C))) : ga K x = C := by
  unfold ga
  rw [h]
def excB (K : PySem.W.Frag) (D : Addr) : Bool :=
  PySem.W.findIn K (.ref D) "__getattribute__" == some (some (.builtin "BaseException.__getattribute__")) && PySem.W.findIn K (.ref D) "__getattr__" == some none && PySem.W.subIn K (.ref D) (.type "BaseException") == some true && PySem.W.hasDictIn K D &&
  PySem.W.findIn K (.ref D) "__class__" == some (some (.builtin "object.__class__")) && PySem.W.specialIn K (.builtin "object.__class__") "__get__" == some (some (.builtin "getset_descriptor.__get__")) && PySem.W.takesIn K (.builtin "object.__class__") == some true && PySem.W.mroIn K D (.type "object") == some true
theorem excC_of {K : PySem.W.Frag} {D : Addr} (h : excB K D = true) : ExcC K D := by
  unfold excB at h
  simp only [Bool.and_eq_true, beq_iff_eq] at h
  exact ⟨h.1.1.1.1.1.1.1, h.1.1.1.1.1.1.2, h.1.1.1.1.1.2, h.1.1.1.1.2, h.1.1.1.2, h.1.1.2, h.1.2, h.2⟩
theorem mk_x {P : Program} {w : World} {K : PySem.W.Frag} {mg : Str → Option Value} {base : Heap} {C f c cc : Addr} {fld x : Str}
    (hC : PySem.W.nsIn K mainGlobals x = some (some (.ref C))) (C0' : ExcC K (ga K x)) (mgS : mg "super" = none)
    {nm q : Str} {N : Addr} {bs bm : List Value} {sn : List Str} {sub : List Value} {ab : Bool} {col : Option Bool} {dd : Option Addr} {m0 m1 m2 m3 m5 : Option Value}
    (xL : K.lookup C = some (excClassObj nm q C N bs bm true sn sub ab col dd m0 m1 m2 m3 m5 "ValueError.__new__")) (rb : PySem.HandSPX.refsVE bm = true)
    (sa : PySem.W.findIn K (.ref C) "__setattr__" = some (some (.builtin "object.__setattr__"))) (tC : PySem.W.typeIn K (.ref C) = some (.type "type")) (kC : PySem.W.keepIn K (.ref C) = true)
    (no : PySem.W.findIn K (.ref C) fld = some none) (ini : PySem.W.findIn K (.ref C) "__init__" = some (some (.ref f))) (tI : PySem.W.typeIn K (.ref f) = some (.type "function"))
    {qual : Str} {params : Arguments} {scope : Scope} {doc pm ct oc : Value} {an od : Option Addr} {osl : Array (Option Value)} {msg : Str} {kk : Nat} {p0 p1 p2 p3 p4 p5 p6 p7 p8 p9 : Pos}
    (lk : K.lookup f = some ⟨oc, od, .func (PySem.W.ksFn "__init__" qual params
      [.Expr (.Call (.Attribute (.Call (.Name "super" p0) [] [] p1) "__init__" p2) [.Constant (.str msg) kk p5] [] p3) p4, .Assign [.Attribute (.Name "self" p6) fld p7] (.Name fld p8) p9] scope .none .none doc pm an (.ref c) ct cc), osl⟩)
    (hcd : PySem.W.codeIn K (.ref c) qual = true)
    (lc : ∃ ccl cdd vs ccs file tf, K.lookup c = some ⟨ccl, cdd, .fields vs, ccs⟩ ∧ vs[2]? = some (.str file tf) ∧ ((P.main.file : Str) == file) = true)
    (lcell : ∃ cl cld csl, K.lookup cc = some ⟨cl, cld, .cell (some (.ref C)), csl⟩)
    (third : PySem.W.nsIn K cStatics "thirdparty.any" = some none) (mro : PySem.W.mroIn K C (.ref C) = some true) (sup : PySem.W.ks_superIn K C C "__init__" = some (some (.builtin "ValueError.__init__"))) (ve : PySem.W.subIn K (.ref C) (.type "ValueError") = some true)
    (top : (P.main.scope.names.lookup ("super" : Str)).isSome = false) (hs : ∃ ar, (params.posonlyargs ++ params.args).head? = some ar ∧ ar.arg = "self")
    (hS : NdefX.nscB ["self", fld, "__class__"] ["self", fld] ["__class__"] scope = true) (h1 : scope.names.lookup ("super" : Str) = some .globalImplicit) (hdb : (fld == ("__debug__" : Str)) = false) (hdc : (fld == ("__classdict__" : Str)) = false) {pl : Sem Bool}
    (hev : ∀ L : Addr, eval (.Call (.Attribute (.Call (.Name "super" p0) [] [] p1) "__init__" p2) [.Constant (.str msg) kk p5] [] p3) (PySem.W.envX qual scope L f (.ref c) [("__class__", cc)]) = (do
      let ov ← attributeBase (.Call (.Name "super" p0) [] [] p1) "__init__" (PySem.W.envX qual scope L f (.ref c) [("__class__", cc)]) (eval (.Call (.Name "super" p0) [] [] p1) (PySem.W.envX qual scope L f (.ref c) [("__class__", cc)]))
      standAt p2.atName
      let (fn, first) ← holding [ov] (getMethod ov "__init__" pl)
      callWith p3 fn first (backTo p3 (starEach [.Constant (.str msg) kk p5] (PySem.W.envX qual scope L f (.ref c) [("__class__", cc)]))) []))
    (hin : ∀ L : Addr, interactive (PySem.W.envX qual scope L f (.ref c) [("__class__", cc)]) = false)
    (hsn : ∀ L : Addr, swapsWith (.Call (.Attribute (.Call (.Name "super" p0) [] [] p1) "__init__" p2) [.Constant (.str msg) kk p5] [] p3) none p4.line (PySem.W.envX qual scope L f (.ref c) [("__class__", cc)]) = pure false)
    (hsw : ∀ L : Addr, swapsWith (.Name fld p8) (some (.Attribute (.Name "self" p6) fld p7)) p9.line (PySem.W.envX qual scope L f (.ref c) [("__class__", cc)]) = pure false)
    (bind : ∀ (s : Shared) (u v : Value), BindsTo s (PySem.W.ksFn "__init__" qual params
      [.Expr (.Call (.Attribute (.Call (.Name "super" p0) [] [] p1) "__init__" p2) [.Constant (.str msg) kk p5] [] p3) p4, .Assign [.Attribute (.Name "self" p6) fld p7] (.Name fld p8) p9] scope .none .none doc pm an (.ref c) ct cc) ⟨[u, v], []⟩ [("self", u), (fld, v)])
    (bindK : ∀ (s : Shared) (u v : Value), BindsTo s (PySem.W.ksFn "__init__" qual params
      [.Expr (.Call (.Attribute (.Call (.Name "super" p0) [] [] p1) "__init__" p2) [.Constant (.str msg) kk p5] [] p3) p4, .Assign [.Attribute (.Name "self" p6) fld p7] (.Name fld p8) p9] scope .none .none doc pm an (.ref c) ct cc) ⟨[u], [(fld, v)]⟩ [("self", u), (fld, v)]) :
    (∃ fI fd, XCls P w K mg base (ga K x) fI fd fld) ∧ XGet K (ga K x) fld := by
  have C0 : ExcC K C := by rw [← ga_of hC]; exact C0'
  rw [ga_of hC]
  have T : OexC K C := ⟨⟨_, _, _, _, _, _, _, _, _, _, _, _, _, _, _, xL, rb⟩, sa, C0.hs, tC, kC⟩
  obtain ⟨cd, hcls, _⟩ := PySem.W.any_some C0.hd
  obtain ⟨ar, ha1, ha2⟩ := hs
  have S : SupDef P K mg C f c cc := ⟨⟨_, _, _, _, ar, lk, ha1, ha2⟩, lc, lcell, ⟨cd, hcls⟩, top, third, mro, sup, ve, mgS⟩
  exact ⟨⟨f, _, ⟨T, ini, tI, ok_initx ⟨T, no⟩ S lk hcd hS h1 hdb hdc hev hin hsn hsw, bind, bindK⟩⟩, ⟨C0, no⟩⟩

/-- the written part has the def that the top names x, as the row's text has it -/
def Has (K : PySem.W.Frag) (x : Str) (st : Stmt) : Prop := ∃ (f : Addr) (fd : FuncData), PySem.W.nsIn K mainGlobals x = some (some (.ref f)) ∧ Fun K x x st f fd
theorem has_mk {K : PySem.W.Frag} {x : Str} {st : Stmt} {f : Addr} {oc : Value} {od an : Option Addr} {osl : Array (Option Value)} {kV doc pm cdv ct : Value} (a : PySem.W.nsIn K mainGlobals x = some (some (.ref f)))
    (l : K.lookup f = some ⟨oc, od, .func (PySem.W.fnOf x x (defArgs st) (defBody st) (defScope st) .none kV doc pm an cdv ct), osl⟩) (c : PySem.W.codeIn K cdv x = true) (k : PySem.W.keepIn K (.ref f) = true) : Has K x st := ⟨f, _, a, fun_mk l c k⟩
/-- the table of the def that the top names x, and its code object -/
def tb (K : PySem.W.Frag) (x : Str) : Addr × Addr := (PySem.W.tabIn K x).getD (0, 0)
def tbB (K : PySem.W.Frag) (x : Str) : Bool := PySem.W.tabIn K x == some (tb K x) && (K.lookup (tb K x).2).isNone && PySem.W.codeHdIn K (tb K x).1 (tb K x).2
theorem tb_of {K : PySem.W.Frag} {x : Str} (h : tbB K x = true) : PySem.W.tabIn K x = some (tb K x) ∧ K.lookup (tb K x).2 = none ∧ PySem.W.codeHdIn K (tb K x).1 (tb K x).2 = true := by
  unfold tbB at h
  rw [Bool.and_eq_true, Bool.and_eq_true, beq_iff_eq, Option.isNone_iff_eq_none, and_assoc] at h
  exact h
/-- .. and its code object is known -/
theorem Has.code {K : PySem.W.Frag} {x : Str} {st : Stmt} (h : Has K x st) (t : tbB K x = true) : ∃ (f : Addr) (fd : FuncData), PySem.W.nsIn K mainGlobals x = some (some (.ref f)) ∧ FunC K x x st f fd (tb K x).1 := by
  obtain ⟨f, fd, a, ⟨⟨oc, od, kV, doc, pm, an, cdv, ct, osl, rfl, lk, hcd⟩, kp⟩⟩ := h
  have t1 := (tb_of t).1
  unfold PySem.W.tabIn at t1
  rw [a] at t1
  dsimp only at t1
  rw [lk] at t1
  dsimp only [PySem.W.fnOf] at t1
  cases cdv with
  | ref c =>
    dsimp only at t1
    have e : (tb K x).1 = c := by
      split at t1
      · split at t1
        · exact (congrArg Prod.fst (Option.some.inj t1)).symm
        · cases t1
      · cases t1
    rw [e]
    exact ⟨f, _, a, ⟨⟨oc, od, kV, doc, pm, an, ct, osl, rfl, lk, hcd⟩, kp⟩⟩
  | _ => cases t1
/-- a method that the class named x has -/
def HasM (K : PySem.W.Frag) (C : Addr) (m qual : Str) (st : Stmt) : Prop := ∃ (f : Addr) (fd : FuncData), PySem.W.findIn K (.ref C) m = some (some (.ref f)) ∧ PySem.W.isFn K (.ref f) = true ∧ Fun K m qual st f fd
theorem hasm_mk {K : PySem.W.Frag} {C : Addr} {x m qual : Str} {st : Stmt} {f : Addr} {oc : Value} {od an : Option Addr} {osl : Array (Option Value)} {kV doc pm cdv ct : Value} (n : PySem.W.nsIn K mainGlobals x = some (some (.ref C))) (a : PySem.W.findIn K (.ref C) m = some (some (.ref f))) (i : PySem.W.isFn K (.ref f) = true)
    (l : K.lookup f = some ⟨oc, od, .func (PySem.W.fnOf m qual (defArgs st) (defBody st) (defScope st) .none kV doc pm an cdv ct), osl⟩) (c : PySem.W.codeIn K cdv qual = true) (k : PySem.W.keepIn K (.ref f) = true) : HasM K (ga K x) m qual st := by rw [ga_of n]; exact ⟨f, _, a, i, fun_mk l c k⟩

def frees : List Str := ["abs", "int", "len", "isinstance", "range", "repr", "tuple", "list", "min", "max", "all", "bool", "super", "sum", "zip", "enumerate", "str"]
theorem free_at {K : PySem.W.Frag} {h : Heap} {mg : Str → Option Value} (X : K.In h) (G : h.Ns mainGlobals mg) (z : (frees.all fun x => PySem.W.nsIn K mainGlobals x == some none) = true) (x : Str) (m : x ∈ frees) : mg x = none :=
  PySem.W.mg_none_of X G (beq_iff_eq.mp (List.all_eq_true.mp z x m))
/-- what is told of an error that is caught -/
def badB (K : PySem.W.Frag) (x : Str) : Bool := gB K x && PySem.W.exmOne K (.ref (ga K x)) (.ref (ga K "WebError")) == some true && PySem.W.kitOne K (.ref (ga K x)) (.ref (ga K x)) == some true && PySem.W.kitOne K (.type "NoneType") (.ref (ga K x)) == some false
def plxB (K : PySem.W.Frag) (x : Str) : Bool := PySem.W.excIn K (ga K x) [.type "ValueError", .type "Exception", .type "BaseException", .type "object"] "ValueError.__new__" && PySem.W.keepIn K (.ref (ga K x)) && PySem.W.subIn K (.ref (ga K x)) (.type "BaseException") == some true && PySem.W.typeIn K (.ref (ga K x)) == some (.type "type")
theorem plx_of {K : PySem.W.Frag} {mg : Str → Option Value} {x : Str} (g : mg x = some (.ref (ga K x))) (h : plxB K x = true) : PlX K mg x (ga K x) := by
  unfold plxB at h
  simp only [Bool.and_eq_true, beq_iff_eq] at h
  exact ⟨h.1.1.1, g, h.1.1.2, h.1.2, h.2⟩
/-- what is told of Net -/
def netB (K : PySem.W.Frag) (CN : Addr) : Bool := gB K "Net" && PySem.W.plainGet K CN Str.empty && PySem.W.hasDictIn K CN && PySem.W.plainOver K CN && PySem.W.findIn K (.ref CN) "__setattr__" == some (some (.builtin "object.__setattr__")) &&
  PySem.W.findIn K (.ref CN) "places" == some none && PySem.W.findIn K (.ref CN) "arrows" == some none && PySem.W.findIn K (.ref CN) "__ne__" == some (some (.builtin "object.__ne__")) && PySem.W.subIn K (.ref CN) (.type "object") == some true &&
  PySem.W.findIn K (.ref CN) "__class__" == some (some (.builtin "object.__class__")) && PySem.W.specialIn K (.builtin "object.__class__") "__get__" == some (some (.builtin "getset_descriptor.__get__")) && PySem.W.takesIn K (.builtin "object.__class__") == some true &&
  PySem.W.mroIn K CN (.type "object") == some true && PySem.W.kitOne K (.ref CN) (.ref CN) == some true && PySem.W.kitOne K (.type "tuple") (.ref CN) == some false && PySem.W.notFirst K CN (.type "tuple") &&
  PySem.W.makesIn K CN && PySem.W.keepIn K (.ref CN) && PySem.W.kitOne K (.type "NoneType") (.ref CN) == some false && PySem.W.kitOne K (.type "int") (.ref CN) == some false && PySem.W.kitOne K (.type "dict") (.ref CN) == some false
def nmOf (x : Str) : Str := x ++ ".<locals>." ++ "<lambda>"
def nm5 : List Str := ["_law_forms_right"]
def tabsOf (K : PySem.W.Frag) : List (Str × Addr × Addr) := nm5.map fun x => (x, tb K x)
def TT (K : PySem.W.Frag) : List (Addr × Str) := nm5.map fun x => ((tb K x).2, nmOf x)
def apB (K : PySem.W.Frag) : Bool := nm5.all fun x => nm5.all fun y => x == y || (tb K x).2 != (tb K y).2
theorem tt_of {K : PySem.W.Frag} {H : Hp} (h : ∀ p ∈ tabsOf K, H p.2.2 = some (.tbl #[])) : Tabs (TT K) H := fun p m => by
  obtain ⟨x, mx, rfl⟩ := List.mem_map.mp m
  exact TabS.nil (h (x, tb K x) (List.mem_map.mpr ⟨x, mx, rfl⟩))
theorem tc_of {K : PySem.W.Frag} {base : Heap} {mg : Str → Option Value} (ap : apB K = true) (TB : ∀ p ∈ tabsOf K, TabB base mg p.2.1 p.2.2) {x : Str} (mx : x ∈ nm5) : Tc base mg (TT K) x (tb K x).1 (tb K x).2 where
  TB := TB (x, tb K x) (List.mem_map.mpr ⟨x, mx, rfl⟩)
  mem := List.mem_map.mpr ⟨x, mx, rfl⟩
  uq := fun p m e => by
    obtain ⟨y, my, rfl⟩ := List.mem_map.mp m
    have z := List.all_eq_true.mp (List.all_eq_true.mp ap x mx) y my
    rw [Bool.or_eq_true, beq_iff_eq, bne_iff_ne] at z
    rcases z with z | z
    · rw [z]
      rfl
    · exact absurd e.symm z
theorem mx5 (x : Str) (h : nm5.contains x = true) : x ∈ nm5 := List.contains_iff_mem.mp h

theorem all_mk {l : PySem.W.OpenLaw} {w : World} {K : PySem.W.Frag} {h : Heap} {mg : Str → Option Value} {fa : Addr} (X : K.In h) (G : h.Ns mainGlobals mg) (hfa : mg "law" = some (.ref fa))
    (z : (frees.all fun x => PySem.W.nsIn K mainGlobals x == some none) = true) (gw : gB K "WebError" = true) (hB : badB K "BadNet" = true) (hR : badB K "BadRow" = true) (eR : excB K (ga K "BadRow") = true) (xR : plxB K "BadRow" = true)
    (hN : netB K (ga K "Net") = true) (tbs : (nm5.all fun x => tbB K x) = true) (ap : apB K = true)
    {tk1 tk2 tk3 : Nat} (mp : PySem.W.nsIn K mainGlobals "MOST_PLACES" = some (some (.int 8 tk1))) (ma : PySem.W.nsIn K mainGlobals "MOST_ARROWS" = some (some (.int 12 tk2))) (mS : PySem.W.nsIn K mainGlobals "GREATEST_SETTLED" = some (some (.int 6 tk3)))
    (mG : ∃ (aG : Addr) (o : Obj) (its : Array Value) (n : Nat), PySem.W.nsIn K mainGlobals "GOOD_SHAPES" = some (some (.ref aG)) ∧ K.lookup aG = some o ∧ o.cls = .type "tuple" ∧ o.data = .seq its n ∧ its.size ≤ sizeLine ∧ Vals [V.str "line", V.str "fork", V.str "arms"] its.toList)
    (hx : ∀ (base : Heap), mg "super" = none → (∃ fI fd, XCls l.prog w K mg base (ga K "BadNet") fI fd "part") ∧ XGet K (ga K "BadNet") "part")
    (hI : HasM K (ga K "Net") "__init__" "Net.__init__" sNetInit) (hE : HasM K (ga K "Net") "__eq__" "Net.__eq__" sNetEq)
    (h1 : Has K "is_number" sIsNum) (h2 : Has K "is_number_to" sIsNumTo) (h3 : Has K "is_list" sIsList) (h4 : Has K "is_same" sSame) (h12 : Has K "_are_arrows" sAre) (h13 : Has K "_hangs_together" sHangs) (h14 : Has K "places_behind" sBehind) (h16 : Has K "check_net" sCheck) (h17 : Has K "is_row" sIsRow) (h18 : Has K "check_row" sChkRow) (h19 : Has K "turned_net" sTurned) (h23 : Has K "pair_value" sPairV) (h24 : Has K "pair_form" sPairF) (h25 : Has K "form" sForm) (h26 : Has K "around" sAround) (h27 : Has K "other_ends" sOther) (h28 : Has K "settled_row" sSettled) (h29 : Has K "_wild_row" sWild) (h30 : Has K "shape" sShape) (h31 : Has K "is_shape" sIsShape) (h33 : Has K "_law_begun" sBegun) (h34 : Has K "_law_mixed" sMixed) (h35 : Has K "_law_take" sTake) (h36 : Has K "_law_pick" sPick) (h37 : Has K "_law_shuffled" sShuf) (h38 : Has K "_law_shape_pairs" sShPairs) (h39 : Has K "_law_net" sLNet) (h40 : Has K "_law_pair" sLPair) (h41 : Has K "_law_lean" sLean) (h42 : Has K "_law_made_net" sMade) (h43 : Has K "_law_caught" sCaught) (h44 : Has K "_law_round_pairs" sRound) (h45 : Has K "_law_wild_pairs" sWildP) (h46 : Has K "_law_renamed" sRen) (h47 : Has K "_law_word" sWord) (h48 : Has K "_law_wild_row" sLWild) (h50 : Has K "_law_judged_right" sJR) (h51 : Has K "law" sLaw) (h49 : Has K "_law_forms_right" sFR) :
    ∃ fd : FuncData, (∀ (s : Shared) (v : Value), BindsTo s fd ⟨[v], []⟩ [("script", v)]) ∧ ∀ base : Heap, K.In base → base.Ns mainGlobals mg → (∀ p ∈ tabsOf K, TabB base mg p.2.1 p.2.2) → FnG l.prog w K mg base CX0 10 fa fd ["script"] (spLaw K (TT K)) := by
  obtain ⟨f1, d1, a1, F1⟩ := h1
  obtain ⟨f2, d2, a2, F2⟩ := h2
  obtain ⟨f3, d3, a3, F3⟩ := h3
  obtain ⟨f4, d4, a4, F4⟩ := h4
  obtain ⟨f12, d12, a12, F12⟩ := h12
  obtain ⟨f13, d13, a13, F13⟩ := h13
  obtain ⟨f14, d14, a14, F14⟩ := h14
  obtain ⟨f16, d16, a16, F16⟩ := h16
  obtain ⟨f17, d17, a17, F17⟩ := h17
  obtain ⟨f18, d18, a18, F18⟩ := h18
  obtain ⟨f19, d19, a19, F19⟩ := h19
  obtain ⟨f23, d23, a23, F23⟩ := h23
  obtain ⟨f24, d24, a24, F24⟩ := h24
  obtain ⟨f25, d25, a25, F25⟩ := h25
  obtain ⟨f26, d26, a26, F26⟩ := h26
  obtain ⟨f27, d27, a27, F27⟩ := h27
  obtain ⟨f28, d28, a28, F28⟩ := h28
  obtain ⟨f29, d29, a29, F29⟩ := h29
  obtain ⟨f30, d30, a30, F30⟩ := h30
  obtain ⟨f31, d31, a31, F31⟩ := h31
  obtain ⟨f33, d33, a33, F33⟩ := h33
  obtain ⟨f34, d34, a34, F34⟩ := h34
  obtain ⟨f35, d35, a35, F35⟩ := h35
  obtain ⟨f36, d36, a36, F36⟩ := h36
  obtain ⟨f37, d37, a37, F37⟩ := h37
  obtain ⟨f38, d38, a38, F38⟩ := h38
  obtain ⟨f39, d39, a39, F39⟩ := h39
  obtain ⟨f40, d40, a40, F40⟩ := h40
  obtain ⟨f41, d41, a41, F41⟩ := h41
  obtain ⟨f42, d42, a42, F42⟩ := h42
  obtain ⟨f43, d43, a43, F43⟩ := h43
  obtain ⟨f44, d44, a44, F44⟩ := h44
  obtain ⟨f45, d45, a45, F45⟩ := h45
  obtain ⟨f46, d46, a46, F46⟩ := h46
  obtain ⟨f47, d47, a47, F47⟩ := h47
  obtain ⟨f48, d48, a48, F48⟩ := h48
  obtain ⟨f50, d50, a50, F50⟩ := h50
  obtain ⟨f51, d51, a51, F51⟩ := h51
  obtain ⟨f49, d49, a49, F49⟩ := h49.code (List.all_eq_true.mp tbs "_law_forms_right" (mx5 _ (by decide +kernel)))
  obtain ⟨fi, di, ai, ii, Fi⟩ := hI
  obtain ⟨fe, de, ae, ie, Fe⟩ := hE
  obtain ⟨aG, oG, itsG, nG, aGg, lG, cG, dG, sG, vG⟩ := mG
  have e := hfa.symm.trans (PySem.W.mg_of X G a51)
  cases e
  have fr := free_at X G z
  have mAbs := fr "abs" (by decide +kernel)
  have mInt := fr "int" (by decide +kernel)
  have mLen := fr "len" (by decide +kernel)
  have mIs := fr "isinstance" (by decide +kernel)
  have mRa := fr "range" (by decide +kernel)
  have mRe := fr "repr" (by decide +kernel)
  have mTup := fr "tuple" (by decide +kernel)
  have mList := fr "list" (by decide +kernel)
  have mMin := fr "min" (by decide +kernel)
  have mMax := fr "max" (by decide +kernel)
  have mAll := fr "all" (by decide +kernel)
  have mBo := fr "bool" (by decide +kernel)
  have mSum := fr "sum" (by decide +kernel)
  have mZ := fr "zip" (by decide +kernel)
  have mEn := fr "enumerate" (by decide +kernel)
  have mStr := fr "str" (by decide +kernel)
  have b1 : L2.Binds K d1 ["thing"] [] := F1.binds (ps := ["thing"]) fun _ _ _ _ _ _ us hl => match us, hl with | [_], _ => rfl
  have b2 : L2.Binds K d2 ["thing", "most"] [] := F2.binds (ps := ["thing", "most"]) fun _ _ _ _ _ _ us hl => match us, hl with | [_, _], _ => rfl
  have b3 : L2.Binds K d3 ["thing"] [] := F3.binds (ps := ["thing"]) fun _ _ _ _ _ _ us hl => match us, hl with | [_], _ => rfl
  have b4 : L2.Binds K d4 ["value", "thing"] [] := F4.binds (ps := ["value", "thing"]) fun _ _ _ _ _ _ us hl => match us, hl with | [_, _], _ => rfl
  have b12 : L2.Binds K d12 ["places", "thing"] [] := F12.binds (ps := ["places", "thing"]) fun _ _ _ _ _ _ us hl => match us, hl with | [_, _], _ => rfl
  have b13 : L2.Binds K d13 ["places", "arrows"] [] := F13.binds (ps := ["places", "arrows"]) fun _ _ _ _ _ _ us hl => match us, hl with | [_, _], _ => rfl
  have b14 : L2.Binds K d14 ["places", "arrows"] [] := F14.binds (ps := ["places", "arrows"]) fun _ _ _ _ _ _ us hl => match us, hl with | [_, _], _ => rfl
  have b16 : L2.Binds K d16 ["net"] [] := F16.binds (ps := ["net"]) fun _ _ _ _ _ _ us hl => match us, hl with | [_], _ => rfl
  have b17 : L2.Binds K d17 ["net", "thing"] [] := F17.binds (ps := ["net", "thing"]) fun _ _ _ _ _ _ us hl => match us, hl with | [_, _], _ => rfl
  have b18 : L2.Binds K d18 ["net", "row"] [] := F18.binds (ps := ["net", "row"]) fun _ _ _ _ _ _ us hl => match us, hl with | [_, _], _ => rfl
  have b19 : L2.Binds K d19 ["net"] [] := F19.binds (ps := ["net"]) fun _ _ _ _ _ _ us hl => match us, hl with | [_], _ => rfl
  have b23 : L2.Binds K d23 ["net", "one", "other"] [] := F23.binds (ps := ["net", "one", "other"]) fun _ _ _ _ _ _ us hl => match us, hl with | [_, _, _], _ => rfl
  have b24 : L2.Binds K d24 ["net", "one", "other"] [] := F24.binds (ps := ["net", "one", "other"]) fun _ _ _ _ _ _ us hl => match us, hl with | [_, _, _], _ => rfl
  have b25 : L2.Binds K d25 ["net", "row"] [] := F25.binds (ps := ["net", "row"]) fun _ _ _ _ _ _ us hl => match us, hl with | [_, _], _ => rfl
  have b26 : L2.Binds K d26 ["net", "place", "row"] [] := F26.binds (ps := ["net", "place", "row"]) fun _ _ _ _ _ _ us hl => match us, hl with | [_, _, _], _ => rfl
  have b27 : L2.Binds K d27 ["net"] [] := F27.binds (ps := ["net"]) fun _ _ _ _ _ _ us hl => match us, hl with | [_], _ => rfl
  have b28 : L2.Binds K d28 ["net"] [] := F28.binds (ps := ["net"]) fun _ _ _ _ _ _ us hl => match us, hl with | [_], _ => rfl
  have b29 : L2.Binds K d29 ["net"] [] := F29.binds (ps := ["net"]) fun _ _ _ _ _ _ us hl => match us, hl with | [_], _ => rfl
  have b30 : L2.Binds K d30 ["net"] [] := F30.binds (ps := ["net"]) fun _ _ _ _ _ _ us hl => match us, hl with | [_], _ => rfl
  have b31 : L2.Binds K d31 ["net", "thing"] [] := F31.binds (ps := ["net", "thing"]) fun _ _ _ _ _ _ us hl => match us, hl with | [_, _], _ => rfl
  have b33 : L2.Binds K d33 ["script"] [] := F33.binds (ps := ["script"]) fun _ _ _ _ _ _ us hl => match us, hl with | [_], _ => rfl
  have b34 : L2.Binds K d34 ["draw"] [] := F34.binds (ps := ["draw"]) fun _ _ _ _ _ _ us hl => match us, hl with | [_], _ => rfl
  have b35 : L2.Binds K d35 ["draw", "amount"] [] := F35.binds (ps := ["draw", "amount"]) fun _ _ _ _ _ _ us hl => match us, hl with | [_, _], _ => rfl
  have b36 : L2.Binds K d36 ["draw", "some"] [] := F36.binds (ps := ["draw", "some"]) fun _ _ _ _ _ _ us hl => match us, hl with | [_, _], _ => rfl
  have b37 : L2.Binds K d37 ["draw", "some"] [] := F37.binds (ps := ["draw", "some"]) fun _ _ _ _ _ _ us hl => match us, hl with | [_, _], _ => rfl
  have b38 : L2.Binds K d38 ["draw", "most"] [] := F38.binds (ps := ["draw", "most"]) fun _ _ _ _ _ _ us hl => match us, hl with | [_, _], _ => rfl
  have b39 : L2.Binds K d39 ["draw", "most"] [] := F39.binds (ps := ["draw", "most"]) fun _ _ _ _ _ _ us hl => match us, hl with | [_, _], _ => rfl
  have b40 : L2.Binds K d40 ["net", "one", "other"] [] := F40.binds (ps := ["net", "one", "other"]) fun _ _ _ _ _ _ us hl => match us, hl with | [_, _, _], _ => rfl
  have b41 : L2.Binds K d41 ["net", "row", "place"] [] := F41.binds (ps := ["net", "row", "place"]) fun _ _ _ _ _ _ us hl => match us, hl with | [_, _, _], _ => rfl
  have b42 : L2.Binds K d42 ["net"] [] := F42.binds (ps := ["net"]) fun _ _ _ _ _ _ us hl => match us, hl with | [_], _ => rfl
  have b43 : L2.Binds K d43 ["work"] [] := F43.binds (ps := ["work"]) fun _ _ _ _ _ _ us hl => match us, hl with | [_], _ => rfl
  have b44 : L2.Binds K d44 ["draw"] [] := F44.binds (ps := ["draw"]) fun _ _ _ _ _ _ us hl => match us, hl with | [_], _ => rfl
  have b45 : L2.Binds K d45 ["draw"] [] := F45.binds (ps := ["draw"]) fun _ _ _ _ _ _ us hl => match us, hl with | [_], _ => rfl
  have b46 : L2.Binds K d46 ["draw", "many_here", "pairs_here", "row"] [] := F46.binds (ps := ["draw", "many_here", "pairs_here", "row"]) fun _ _ _ _ _ _ us hl => match us, hl with | [_, _, _, _], _ => rfl
  have b47 : L2.Binds K d47 ["net"] [] := F47.binds (ps := ["net"]) fun _ _ _ _ _ _ us hl => match us, hl with | [_], _ => rfl
  have b48 : L2.Binds K d48 ["net"] [] := F48.binds (ps := ["net"]) fun _ _ _ _ _ _ us hl => match us, hl with | [_], _ => rfl
  have b50 : L2.Binds K d50 ["draw", "net_here", "due"] [] := F50.binds (ps := ["draw", "net_here", "due"]) fun _ _ _ _ _ _ us hl => match us, hl with | [_, _, _], _ => rfl
  have b51 : L2.Binds K d51 ["script"] [] := F51.binds (ps := ["script"]) fun _ _ _ _ _ _ us hl => match us, hl with | [_], _ => rfl
  have b49 : L2.Binds K d49 ["draw", "net", "net_here"] [] := F49.f.binds (ps := ["draw", "net", "net_here"]) fun _ _ _ _ _ _ us hl => match us, hl with | [_, _, _], _ => rfl
  have g1 := PySem.W.mg_of X G a1
  have g2 := PySem.W.mg_of X G a2
  have g3 := PySem.W.mg_of X G a3
  have g4 := PySem.W.mg_of X G a4
  have g12 := PySem.W.mg_of X G a12
  have g13 := PySem.W.mg_of X G a13
  have g14 := PySem.W.mg_of X G a14
  have g16 := PySem.W.mg_of X G a16
  have g17 := PySem.W.mg_of X G a17
  have g18 := PySem.W.mg_of X G a18
  have g19 := PySem.W.mg_of X G a19
  have g23 := PySem.W.mg_of X G a23
  have g24 := PySem.W.mg_of X G a24
  have g25 := PySem.W.mg_of X G a25
  have g26 := PySem.W.mg_of X G a26
  have g27 := PySem.W.mg_of X G a27
  have g28 := PySem.W.mg_of X G a28
  have g29 := PySem.W.mg_of X G a29
  have g30 := PySem.W.mg_of X G a30
  have g31 := PySem.W.mg_of X G a31
  have g33 := PySem.W.mg_of X G a33
  have g34 := PySem.W.mg_of X G a34
  have g35 := PySem.W.mg_of X G a35
  have g36 := PySem.W.mg_of X G a36
  have g37 := PySem.W.mg_of X G a37
  have g38 := PySem.W.mg_of X G a38
  have g39 := PySem.W.mg_of X G a39
  have g40 := PySem.W.mg_of X G a40
  have g41 := PySem.W.mg_of X G a41
  have g42 := PySem.W.mg_of X G a42
  have g43 := PySem.W.mg_of X G a43
  have g44 := PySem.W.mg_of X G a44
  have g45 := PySem.W.mg_of X G a45
  have g46 := PySem.W.mg_of X G a46
  have g47 := PySem.W.mg_of X G a47
  have g48 := PySem.W.mg_of X G a48
  have g50 := PySem.W.mg_of X G a50
  have g51 := PySem.W.mg_of X G a51
  have g49 := PySem.W.mg_of X G a49
  have bI : L2.Binds K di ["self", "places", "arrows"] [] := Fi.binds (ps := ["self", "places", "arrows"]) fun _ _ _ _ _ _ us hl => match us, hl with | [_, _, _], _ => rfl
  have bE : L2.Binds K de ["self", "other"] [] := Fe.binds (ps := ["self", "other"]) fun _ _ _ _ _ _ us hl => match us, hl with | [_, _], _ => rfl
  have gGo := PySem.W.mg_of X G aGg
  have gGS := PySem.W.mg_of X G mS
  unfold badB gB at hB hR
  unfold netB gB at hN
  unfold gB at gw
  simp only [Bool.and_eq_true, beq_iff_eq] at hB hR hN gw
  obtain ⟨⟨⟨gB0, xmB⟩, oneB⟩, nonB⟩ := hB
  obtain ⟨⟨⟨gR0, xmR⟩, oneR⟩, nonR⟩ := hR
  obtain ⟨⟨⟨⟨⟨⟨⟨⟨⟨⟨⟨⟨⟨⟨⟨⟨⟨⟨⟨⟨gn, pg⟩, hd⟩, po⟩, sa⟩, nP⟩, nA⟩, ne⟩, ob⟩, ha⟩, hn⟩, hk⟩, hm⟩, oneN⟩, tupN⟩, nf⟩, makes⟩, kpN⟩, noN⟩, noI⟩, noD⟩ := hN
  have gNet := PySem.W.mg_of X G gn
  have gBN := PySem.W.mg_of X G gB0
  have gBR := PySem.W.mg_of X G gR0
  have gWeb := PySem.W.mg_of X G gw
  have PR : PlX K mg "BadRow" (ga K "BadRow") := plx_of gBR xR
  have exR := excC_of eR
  clear xR eR z
  obtain ⟨CN, eN⟩ : ∃ CN, CN = ga K "Net" := ⟨_, rfl⟩
  obtain ⟨CB, eB⟩ : ∃ CB, CB = ga K "BadNet" := ⟨_, rfl⟩
  obtain ⟨CR, eCR⟩ : ∃ CR, CR = ga K "BadRow" := ⟨_, rfl⟩
  obtain ⟨CW, eW⟩ : ∃ CW, CW = ga K "WebError" := ⟨_, rfl⟩
  rw [← eN] at gNet pg hd po sa nP nA ne ob ha hm oneN tupN nf makes kpN noN noI noD ai ae
  rw [← eB] at gBN xmB oneB nonB hx
  rw [← eCR] at gBR xmR oneR nonR PR exR
  rw [← eW] at gWeb xmB xmR
  have NT : NetT K mg CN := ⟨⟨pg, hd, po, sa⟩, nP, nA, gNet⟩
  have NE : NetE K mg CN fe := ⟨NT, ae, ie, ne, ob, ha, hn, hk, hm, oneN, tupN, nf⟩
  let GC : GoodC K mg := ⟨aG, gGo, fun H => .inr ⟨oG, itsG, nG, lG, cG, dG, sG, vG⟩⟩
  refine ⟨d51, fun s v => ?_, fun base Kb Gb TB => ?_⟩
  · obtain ⟨oc, od, kV, doc, pm, an, cdv, ct, osl, rfl, lk, hcd⟩ := F51.ex
    exact .of_eq rfl
  · obtain ⟨⟨fB, dB, xc⟩, xg⟩ := hx base (fr "super" (by decide +kernel))
    have BM : BadM l.prog w K mg base CB fB dB := ⟨xc.oex, xc.ini, xc.tyI, xc.ok, fun s us _ hl => by
      match us, hl with
      | [u, v], _ => exact xc.bind s u v, gBN⟩
    have BN : BadN K CB CW := ⟨xg, xmB, oneB, nonB⟩
    have BR : BadR K CR CW := ⟨exR, xmR, oneR⟩
    have S1 := ok_isnum (P := l.prog) (w := w) (base := base) F1 mIs mInt mBo
    have S2 := ok_isnumto (P := l.prog) (w := w) (base := base) F2 S1 F1 b1 g1
    have S3 := ok_islist (P := l.prog) (w := w) (base := base) F3 mIs mList mTup
    have A0 := ok_same0 (P := l.prog) (w := w) (base := base) (mg := mg) F4
    have A1 := ok_sameS (P := l.prog) (w := w) (base := base) F4 A0 b4 g4 S1 b1 g1 F1.kp mIs mTup mStr mLen mAll mZ
    have A2 := ok_sameS (P := l.prog) (w := w) (base := base) F4 A1 b4 g4 S1 b1 g1 F1.kp mIs mTup mStr mLen mAll mZ
    have A3 := ok_sameS (P := l.prog) (w := w) (base := base) F4 A2 b4 g4 S1 b1 g1 F1.kp mIs mTup mStr mLen mAll mZ
    have S12 := ok_are (P := l.prog) (w := w) (base := base) F12 S2 F2 b2 g2 S3 F3 b3 g3 (PySem.W.mg_of X G ma) mAll mLen
    have S13 := ok_hangs (P := l.prog) (w := w) (base := base) F13 mRa mLen
    have S14 := ok_behind (P := l.prog) (w := w) (base := base) F14 mRa mAll
    have SM : Small l.prog w K mg base :=
      { fN := f1, fL := f3, fT := f2, fA := f12, fH := f13, fO := f14, dN := d1, dA := d12, dH := d13, dO := d14, tk := tk1, okN := S1, okA := S12, okH := S13, okO := S14, bN := b1, bA := b12, bH := b13, bO := b14
        gN := g1, gA := g12, gH := g13, gO := g14, kN := F1.kp, kA := F12.kp, kH := F13.kp, kO := F14.kp, gMP := PySem.W.mg_of X G mp, mLen := mLen, mTup := mTup }
    let MK : MkN l.prog w K mg base CN CB := ⟨fi, di, ⟨makes, ai, ii, kpN⟩, ok_netinit Fi BM NT SM, bI⟩
    have CH : ChkF l.prog w K mg base CN CB := ⟨f16, d16, ok_check F16 BM NE mIs, b16, g16, F16.kp⟩
    have S17 := ok_isrow (P := l.prog) (w := w) (base := base) F17 NT S1 b1 g1 F1.kp mIs mTup mLen mAll
    have S18 := ok_chkrow F18 S17 b17 g17 F17.kp PR
    have S19 := ok_turned F19 CH NE MK
    have S23 := ok_pairv (P := l.prog) (w := w) (base := base) F23 NT mSum mZ
    let SF : SubF l.prog w K mg base CN CB CR := ⟨CH, f18, d18, S18, b18, g18, F18.kp, f23, d23, S23, b23, g23, F23.kp⟩
    have S24 := ok_pairf F24 SF
    have S25 := ok_form F25 SF
    have S26 := ok_around (P := l.prog) (w := w) (base := base) F26 NT mSum
    have S27 := ok_other (P := l.prog) (w := w) (base := base) F27 NT mRa
    have S28 := ok_settled (P := l.prog) (w := w) (base := base) F28 NT S27 b27 g27 F27.kp gGS mEn mSum mMax mTup
    have S29 := ok_wildr (P := l.prog) (w := w) (base := base) F29 NT S23 b23 g23 F23.kp S26 b26 g26 F26.kp mTup mRa
    have S30 := ok_shape (P := l.prog) (w := w) (base := base) F30 CH NT GC S28 b28 g28 F28.kp S29 b29 g29 F29.kp S23 b23 g23 F23.kp mMin mMax
    have S31 := ok_isshape F31 S30 b30 g30 F30.kp A3 b4 g4 F4.kp
    have S33 := ok_begun (P := l.prog) (w := w) (base := base) F33 mAbs
    have S35 := ok_take (P := l.prog) (w := w) (base := base) F35 F34 b34 g34 mInt
    have S35W := ok_takeW (P := l.prog) (w := w) (base := base) F35 F34 b34 g34 mInt
    have S36 := ok_pick (P := l.prog) (w := w) (base := base) F36 F35 b35 g35 F34 b34 g34 mInt mLen
    have S37 := ok_shuf (P := l.prog) (w := w) (base := base) F37 S35 F35 b35 g35 mLen mList
    have S37I := ok_shufi (P := l.prog) (w := w) (base := base) F37 S35 F35 b35 g35 mLen mList
    have S38 := ok_shpairs (P := l.prog) (w := w) (base := base) F38 S35 b35 g35 F35.kp mRa
    have S39 := ok_lnet (P := l.prog) (w := w) (base := base) F39 S35 b35 g35 F35.kp S38 b38 g38 F38.kp S37 S37I b37 g37 F37.kp mRa mList
    have S40 := ok_lawpair (P := l.prog) (w := w) (base := base) F40 mSum mZ
    have S41 := ok_lean (P := l.prog) (w := w) (base := base) (mg := mg) F41
    have S42 := ok_made F42 NT MK
    have TC := caught_takes (P := l.prog) (w := w) (base := base) F43 b43 gWeb
    have S44 := ok_round (P := l.prog) (w := w) (base := base) F44 S35 b35 g35 F35.kp mRa
    have S45 := ok_wildp (P := l.prog) (w := w) (base := base) F45 S35 b35 g35 F35.kp S44 b44 g44 F44.kp
    have S46 := ok_ren (P := l.prog) (w := w) (base := base) F46 S37 S37I b37 g37 F37.kp mRa mList mTup mEn
    have S47 := ok_word (P := l.prog) (w := w) (base := base) F47 mRa mLen
    have S48 := ok_lwild (P := l.prog) (w := w) (base := base) F48 S40 b40 g40 F40.kp mTup mList
    let AL : Al4 l.prog w K mg base CN CB CR CW :=
      { T := NT, mkn := MK
        made := ⟨f42, d42, S42, b42, g42, F42.kp⟩
        sh := ⟨f30, d30, S30, b30, g30, F30.kp⟩
        is := ⟨f31, d31, S31, b31, g31, F31.kp⟩
        isK := kb2 F31 fun _ _ _ _ _ _ _ _ => ⟨rfl, rfl, rfl⟩
        fo := ⟨f25, d25, S25, b25, g25, F25.kp⟩
        pf := ⟨f24, d24, S24, b24, g24, F24.kp⟩
        pfK := kb3 F24 fun _ _ _ _ _ _ _ _ _ => ⟨rfl, rfl, rfl, rfl⟩
        tn := ⟨f19, d19, S19, b19, g19, F19.kp⟩
        be := ⟨f33, d33, S33, b33, g33, F33.kp⟩
        ta := ⟨f35, d35, S35, b35, g35, F35.kp⟩
        taW := S35W
        pk := ⟨f36, d36, S36, b36, g36, F36.kp⟩
        ne := ⟨f39, d39, S39, b39, g39, F39.kp⟩
        lp := ⟨f40, d40, S40, b40, g40, F40.kp⟩
        le := ⟨f41, d41, S41, b41, g41, F41.kp⟩
        ro := ⟨f44, d44, S44, b44, g44, F44.kp⟩
        wi := ⟨f45, d45, S45, b45, g45, F45.kp⟩
        re := ⟨f46, d46, S46, b46, g46, F46.kp⟩
        wo := ⟨f47, d47, S47, b47, g47, F47.kp⟩
        wr := ⟨f48, d48, S48, b48, g48, F48.kp⟩
        fC := f43, caught := TC, gC := g43, kC := F43.kp, bad := BN, badR := BR, gB := gBN, gR := gBR, noN := noN, noI := noI, noD := noD
        mRa := mRa, mLen := mLen, mRe := mRe, mLi := mList, mTup := mTup, mMin := mMin, mIs := mIs }
    have C49 := tc_of ap TB (mx5 "_law_forms_right" (by decide +kernel))
    have S49 := ok_fr F49 AL C49
    have S50 := ok_jr F50 AL
    exact ok_law F51 AL ⟨⟨f49, d49, S49, b49, g49, F49.kp⟩, ⟨f50, d50, S50, b50, g50, F50.kp⟩⟩
/-- the end for this law -/
theorem walk04 {l : PySem.W.OpenLaw} {q : Program} {loose : List Str} {XP : (Str → Option Value) → Heap → Prop} {YP : World → Heap → Prop} {d : DefRec} {K : Params → PySem.W.Frag}
    (hn : l.most = some 63) (hdf : d.params.defaults = []) (hr : Room 10 callerA) (hY : ∀ (w : World) (h : Heap), YP w h → (K w.params).In h) (t1 : ∀ w : World, (nm5.all fun x => tbB (K w.params) x) = true)
    (y1 : ∀ (w : World) (h : Heap), YP w h → ∀ x ∈ nm5, h.get? (tb (K w.params) x).2 = some { cls := .none, data := .fields #[] })
    (F : ∀ (w : World) (mg : Str → Option Value) (fa : Addr) (h : Heap), (K w.params).In h → h.Ns mainGlobals mg → mg d.name = some (.ref fa) →
      ∃ fd : FuncData, (∀ (s : Shared) (u : Value), BindsTo s fd ⟨[u], []⟩ [("script", u)]) ∧ ∀ base : Heap, (K w.params).In base → base.Ns mainGlobals mg → (∀ p ∈ tabsOf (K w.params), TabB base mg p.2.1 p.2.2) → FnG l.prog w (K w.params) mg base CX0 10 fa fd ["script"] (spLaw (K w.params) (TT (K w.params)))) :
    PySem.W.WalkO q loose XP YP l.row.toRowW d [] (fun f vs => PySem.call f vs) := by
  refine walk_ofGT (n := 63) (k := 10) (x := "script") (K := K) (sp := fun w => spLaw (K w.params) (TT (K w.params))) (ts := fun w => tabsOf (K w.params)) hn (by decide) hdf hr hY (fun w p m => ?_) (fun w h Y p m => ?_) F fun w H a ns hl _ hT hS => ?_
  · obtain ⟨x, mx, rfl⟩ := List.mem_map.mp m
    have := tb_of (List.all_eq_true.mp (t1 w) x mx)
    exact ⟨this.2.2, this.2.1⟩
  · obtain ⟨x, mx, rfl⟩ := List.mem_map.mp m
    exact y1 w h Y x mx
  · exact ⟨a, ns, rfl, hS, hl, tt_of hT, fun _ => rfl⟩
end K03


open PySem PySem.W PyProof.Rows
set_option maxRecDepth 100000 in
set_option maxHeartbeats 0 in
theorem PySem.Challenge.cw_boughwebs_k04_shapes_of_nets_holds : PySem.Challenge.rw_boughwebs_k04_shapes_of_nets.Holds := by
  w_on; o_law; k_head; (case hw => w_witness2)
  k_fill
  refine K03.walk04 (l := PySem.Challenge.rw_boughwebs_k04_shapes_of_nets) rfl (by kernel_rfl) ⟨rfl, by decide, by decide⟩ (fun w h Y => PySem.W.km_in_of Y) ?t1 ?y1 ?F
  case t1 => exact fun w => by kernel_rfl
  case y1 =>
    intro w h Y x mx
    simp only [K03.nm5, List.mem_cons, List.not_mem_nil, or_false] at mx
    subst mx
    exact PySem.W.km_tabs_of Y _ (List.contains_iff_mem.mp (by kernel_rfl))
  case F =>
    intro w mg fa h KX G hmg
    refine' K03.all_mk KX G hmg ?z1 ?z2 ?z3 ?z4 ?z5 ?z6 ?z7 ?z8 ?z9 ?mp ?ma ?mS ?mq (fun base mS => ?hx) ?hI ?hE ?_ ?_ ?_ ?_ ?_ ?_ ?_ ?_ ?_ ?_ ?_ ?_ ?_ ?_ ?_ ?_ ?_ ?_ ?_ ?_ ?_ ?_ ?_ ?_ ?_ ?_ ?_ ?_ ?_ ?_ ?_ ?_ ?_ ?_ ?_ ?_ ?_ ?_ ?_
    case z1 => kernel_rfl
    case z2 => kernel_rfl
    case z3 => kernel_rfl
    case z4 => kernel_rfl
    case z5 => kernel_rfl
    case z6 => kernel_rfl
    case z7 => kernel_rfl
    case z8 => kernel_rfl
    case z9 => kernel_rfl
    case mp => k_is
    case ma => k_is
    case mS => k_is
    case mq => exact ⟨_, _, _, _, by k_is, by k_is, by rfl, by rfl, by decide, by repeat (first | exact .nil | refine .cons ⟨_, rfl⟩ ?_)⟩
    case hx =>
        refine' K03.mk_x (x := "BadNet") ?hC (K03.excC_of ?hE2) mS ?xL ?rb ?sa ?tC ?kC ?no ?ini ?tI ?lk ?hcd ?lc ?lcell ?third ?mro ?sup ?ve ?top ?hs ?hS ?h1 ?hdb ?hdc ?hev ?hin ?hsn ?hsw ?bind ?bindK
        (case hC => k_is); (case hE2 => kernel_rfl); (case xL => k_is); (case rb => decide +kernel); (case sa => k_is); (case tC => k_is); (case kC => k_is); (case no => k_is); (case ini => k_is); (case tI => k_is); (case lk => k_is)
        (case hcd => k_is)
        (case lc => exact ⟨_, _, _, _, _, _, by k_is, by rfl, by kernel_rfl⟩)
        (case lcell => exact ⟨_, _, _, by k_is⟩)
        (case third => k_is); (case mro => k_is); (case sup => kernel_rfl); (case ve => k_is); (case top => kernel_rfl)
        (case hs => exact ⟨_, rfl, rfl⟩)
        (case hS => decide +kernel); (case h1 => rfl); (case hdb => decide); (case hdc => decide)
        (case hev => exact fun L => rfl)
        (case hin => exact fun L => rfl)
        (case hsn => exact fun L => rfl)
        (case hsw => exact fun L => rfl)
        (case bind => exact fun s u v => .of_eq rfl)
        (case bindK => exact fun s u v => .of_eq rfl)
    case hI => (refine' K03.hasm_mk ?n ?a ?i ?l ?c ?k; (case n => k_is); (case a => k_is); (case i => k_is); (case l => k_is); (case c => k_is); (case k => k_is))
    case hE => (refine' K03.hasm_mk ?n ?a ?i ?l ?c ?k; (case n => k_is); (case a => k_is); (case i => k_is); (case l => k_is); (case c => k_is); (case k => k_is))
    all_goals (refine' K03.has_mk ?a ?l ?c ?k; (case a => k_is); (case l => k_is); (case c => k_is); (case k => k_is))
