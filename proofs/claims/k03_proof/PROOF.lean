import PyProof.Rows.All
import Wide.All
import OpenK.AllK
import Wide.FinOn
import HandS.ForMost
import PySem.Challenge.RW_boughwebs_k03_nets_and_their_ends
import HandS.TryOnly
import HandS.IsInst
import HandS.Exc
import KE.KExcSuper
import HandS.ExcInit
import HandS.Nested
import HandS.ExcValue
import HandS.MakeKwOnly
import HandS.ExcIs
import HandS.Lambda
import HandS.WordsExc
import HandS.OwnEq
import PyProof.InstNe
import HandS.Style
import KE.KNestM
import HandS.EndBits
/-! Nets as lists of pairs: what is come to, by rounds and by a stack; an order from the ends. Pure. -/
namespace NetM
abbrev Prs := List (Int × Int)
/-- b can be come to from a along pairs -/
inductive Rch (E : Prs) : Int → Int → Prop
  | refl (a : Int) : Rch E a a
  | step {a b c : Int} (h : Rch E a b) (e : (b, c) ∈ E) : Rch E a c
theorem Rch.trans {E : Prs} {a b c : Int} (h : Rch E a b) (k : Rch E b c) : Rch E a c := by
  induction k with
  | refl => exact h
  | step _ e ih => exact .step ih e
theorem Rch.one {E : Prs} {a b : Int} (e : (a, b) ∈ E) : Rch E a b := .step (.refl a) e
def both (E : Prs) : Prs := E ++ E.map fun p => (p.2, p.1)
theorem mem_both {E : Prs} {a b : Int} : (a, b) ∈ both E ↔ (a, b) ∈ E ∨ (b, a) ∈ E := by
  unfold both
  rw [List.mem_append, List.mem_map]
  constructor
  · rintro (h | ⟨⟨x, y⟩, h, e⟩)
    · exact .inl h
    · cases e; exact .inr h
  · rintro (h | h)
    · exact .inl h
    · exact .inr ⟨(b, a), h, rfl⟩
/-- a set that holds a and is closed holds all that is come to -/
theorem Rch.closed {E : Prs} {S : List Int} (c : ∀ t h, (t, h) ∈ E → t ∈ S → h ∈ S) {a b : Int} (ha : a ∈ S) (h : Rch E a b) : b ∈ S := by
  induction h with
  | refl => exact ha
  | step _ e ih => exact c _ _ e ih
/-! ### numbers below n -/
def InR (n : Nat) (x : Int) : Prop := 0 ≤ x ∧ x < n
def rng (n : Nat) : List Int := (List.range n).map fun (k : Nat) => (k : Int)
theorem mem_rng {n : Nat} {x : Int} : x ∈ rng n ↔ InR n x := by
  unfold rng InR
  rw [List.mem_map]
  constructor
  · rintro ⟨k, h, rfl⟩
    have := List.mem_range.mp h
    omega
  · intro h
    exact ⟨x.toNat, List.mem_range.mpr (by omega), by omega⟩
theorem rng_len (n : Nat) : (rng n).length = n := by unfold rng; rw [List.length_map, List.length_range]
theorem rng_nodup (n : Nat) : (rng n).Nodup := by
  unfold rng
  exact (List.nodup_range).map _ (fun a b h e => h (by omega))
/-- as many different numbers as a list that holds them has -/
theorem sub_len {l m : List Int} (nd : l.Nodup) (s : ∀ x ∈ l, x ∈ m) : l.length ≤ m.length := by
  induction l generalizing m with
  | nil => exact Nat.zero_le _
  | cons x r ih =>
    have nx : x ∉ r := (List.nodup_cons.mp nd).1
    have hx := s x List.mem_cons_self
    have h2 : r.length ≤ (m.erase x).length := ih (List.nodup_cons.mp nd).2 fun y hy => by
      have ne : y ≠ x := fun z => nx (z ▸ hy)
      exact (List.mem_erase_of_ne ne).mpr (s y (List.mem_cons_of_mem _ hy))
    have h3 : (m.erase x).length = m.length - 1 := by rw [List.length_erase]; simp [hx]
    have h4 : 0 < m.length := List.length_pos_of_mem hx
    rw [List.length_cons]
    omega
/-- if there are as many, all of them are there -/
theorem full_of {l m : List Int} (nd : l.Nodup) (s : ∀ x ∈ l, x ∈ m) (e : m.length ≤ l.length) : ∀ x ∈ m, x ∈ l := by
  intro x hx
  by_cases c : x ∈ l
  · exact c
  · have := sub_len (l := x :: l) (m := m) (List.nodup_cons.mpr ⟨c, nd⟩) fun y hy => by
      rcases List.mem_cons.mp hy with rfl | hy
      · exact hx
      · exact s y hy
    rw [List.length_cons] at this
    omega
/-! ### by a stack: the law's own search -/
/-- one look at all pairs from here -/
def look (here : Int) : Prs → List Int × List Int → List Int × List Int
  | [], s => s
  | (t, h) :: r, (found, line) => if t = here ∧ h ∉ found then look here r (found ++ [h], line ++ [h]) else look here r (found, line)
structure Stk (E : Prs) (a : Int) (found line : List Int) : Prop where
  nd : found.Nodup
  sub : ∀ x ∈ line, x ∈ found
  beg : a ∈ found
  snd : ∀ x ∈ found, Rch E a x
  don : ∀ x ∈ found, x ∉ line → ∀ h, (x, h) ∈ E → h ∈ found
structure Lk (E : Prs) (a here : Int) (L : Prs) (found line : List Int) : Prop where
  nd : found.Nodup
  sub : ∀ x ∈ line, x ∈ found
  her : here ∈ found
  beg : a ∈ found
  snd : ∀ x ∈ found, Rch E a x
  don : ∀ x ∈ found, x ∉ line → x ≠ here → ∀ h, (x, h) ∈ E → h ∈ found
  now : ∀ h, (here, h) ∈ E → (here, h) ∉ L → h ∈ found
theorem look_ok {E : Prs} {a here : Int} : ∀ (L : Prs) (found line : List Int), (∀ p ∈ L, p ∈ E) → Lk E a here L found line → Lk E a here [] (look here L (found, line)).1 (look here L (found, line)).2 ∧ (∀ x ∈ found, x ∈ (look here L (found, line)).1) ∧ ∃ more, (look here L (found, line)).1 = found ++ more ∧ (look here L (found, line)).2 = line ++ more
  | [], found, line, _, k => ⟨k, fun _ h => h, [], by simp [look], by simp [look]⟩
  | (t, h) :: r, found, line, hs, k => by
    have hr : ∀ p ∈ r, p ∈ E := fun p hp => hs p (List.mem_cons_of_mem _ hp)
    unfold look
    by_cases c : t = here ∧ h ∉ found
    · rw [if_pos c]
      obtain ⟨rfl, c2⟩ := c
      have k' : Lk E a t r (found ++ [h]) (line ++ [h]) :=
        { nd := by
            rw [List.nodup_append]
            refine ⟨k.nd, List.nodup_cons.mpr ⟨by simp, List.nodup_nil⟩, fun x hx y hy e => ?_⟩
            rw [List.mem_singleton] at hy
            exact c2 (hy ▸ e ▸ hx)
          sub := fun x hx => by
            rcases List.mem_append.mp hx with hx | hx
            · exact List.mem_append_left _ (k.sub x hx)
            · exact List.mem_append_right _ hx
          her := List.mem_append_left _ k.her
          beg := List.mem_append_left _ k.beg
          snd := fun x hx => by
            rcases List.mem_append.mp hx with hx | hx
            · exact k.snd x hx
            · rw [List.mem_singleton] at hx
              subst hx
              exact .step (k.snd t k.her) (hs _ List.mem_cons_self)
          don := fun x hx hl hn g e => by
            rcases List.mem_append.mp hx with hx | hx
            · exact List.mem_append_left _ (k.don x hx (fun z => hl (List.mem_append_left _ z)) hn g e)
            · exact absurd (List.mem_append_right _ hx) hl
          now := fun g e n => by
            by_cases z : g = h
            · subst z
              exact List.mem_append_right _ (List.mem_singleton.mpr rfl)
            · refine List.mem_append_left _ (k.now g e fun m => ?_)
              rcases List.mem_cons.mp m with m | m
              · exact z (Prod.mk.inj m).2
              · exact n m }
      obtain ⟨i1, i2, more, i3, i4⟩ := look_ok r (found ++ [h]) (line ++ [h]) hr k'
      exact ⟨i1, fun x hx => i2 x (List.mem_append_left _ hx), h :: more, by rw [i3]; simp, by rw [i4]; simp⟩
    · rw [if_neg c]
      have k' : Lk E a here r found line :=
        { k with
          now := fun g e n => by
            by_cases z : (here, g) = (t, h)
            · obtain ⟨z1, z2⟩ := Prod.mk.inj z
              by_cases c3 : h ∈ found
              · rw [z2]; exact c3
              · exact absurd ⟨z1.symm, c3⟩ c
            · refine k.now g e fun m => ?_
              rcases List.mem_cons.mp m with m | m
              · exact z m
              · exact n m }
      exact look_ok r found line hr k'
/-- the search: as long as the line is not empty -/
def run (E : Prs) : Nat → List Int × List Int → List Int
  | 0, s => s.1
  | m + 1, (found, line) => match line.getLast? with
    | none => found
    | some here => run E m (look here E (found, line.dropLast))
theorem stk_step {E : Prs} {a here : Int} {found line : List Int} (k : Stk E a found (line ++ [here])) : Stk E a (look here E (found, line)).1 (look here E (found, line)).2 ∧ (∀ x ∈ found, x ∈ (look here E (found, line)).1) ∧ ∃ more, (look here E (found, line)).1 = found ++ more ∧ (look here E (found, line)).2 = line ++ more := by
  have hh : here ∈ found := k.sub here (List.mem_append_right _ (List.mem_singleton.mpr rfl))
  have k0 : Lk E a here E found line :=
    { nd := k.nd, sub := fun x hx => k.sub x (List.mem_append_left _ hx), her := hh, beg := k.beg, snd := k.snd
      don := fun x hx hl hn => k.don x hx fun m => by
        rcases List.mem_append.mp m with m | m
        · exact hl m
        · exact hn (List.mem_singleton.mp m)
      now := fun g e n => absurd e n }
  obtain ⟨i1, i2, i3⟩ := look_ok E found line (fun _ h => h) k0
  refine ⟨⟨i1.nd, i1.sub, i1.beg, i1.snd, fun x hx hl h e => ?_⟩, i2, i3⟩
  by_cases z : x = here
  · subst z
    exact i1.now h e (by simp)
  · exact i1.don x hx hl z h e
/-- an empty line: all that is come to -/
theorem stk_end {E : Prs} {a : Int} {found : List Int} (k : Stk E a found []) : ∀ x, x ∈ found ↔ Rch E a x := fun x =>
  ⟨k.snd x, fun h => Rch.closed (fun t g e ht => k.don t ht (by simp) g e) k.beg h⟩
theorem stk_beg (E : Prs) (a : Int) : Stk E a [a] [a] :=
  ⟨List.nodup_cons.mpr ⟨by simp, List.nodup_nil⟩, fun _ h => h, List.mem_singleton.mpr rfl, fun x hx => by rw [List.mem_singleton.mp hx]; exact .refl a, fun x hx hl => absurd hx hl⟩
end NetM


namespace NetM
/-! ### by rounds: the program's own look -/
def ins (x : Int) (l : List Int) : List Int := if x ∈ l then l else l ++ [x]
theorem mem_ins {x y : Int} {l : List Int} : y ∈ ins x l ↔ y = x ∨ y ∈ l := by
  unfold ins
  by_cases c : x ∈ l
  · rw [if_pos c]
    exact ⟨.inr, fun h => h.elim (fun e => e ▸ c) id⟩
  · rw [if_neg c, List.mem_append, List.mem_singleton]
    exact Or.comm
theorem ins_nodup {x : Int} {l : List Int} (n : l.Nodup) : (ins x l).Nodup := by
  unfold ins
  by_cases c : x ∈ l
  · rw [if_pos c]; exact n
  · rw [if_neg c, List.nodup_append]
    refine ⟨n, List.nodup_cons.mpr ⟨by simp, List.nodup_nil⟩, fun a ha b hb e => ?_⟩
    rw [List.mem_singleton] at hb
    exact c (hb ▸ e ▸ ha)
/-- one round over the pairs -/
def round : Prs → List Int → List Int
  | [], l => l
  | (t, h) :: r, l => if t ∈ l ∨ h ∈ l then round r (ins h (ins t l)) else round r l
def rounds (E : Prs) : Nat → List Int → List Int
  | 0, l => l
  | m + 1, l => rounds E m (round E l)
theorem round_sub : ∀ (E : Prs) (l : List Int), ∀ x ∈ l, x ∈ round E l
  | [], _, _, h => h
  | (t, h) :: r, l, x, hx => by
    unfold round
    by_cases c : t ∈ l ∨ h ∈ l
    · rw [if_pos c]
      exact round_sub r _ x (mem_ins.mpr (.inr (mem_ins.mpr (.inr hx))))
    · rw [if_neg c]
      exact round_sub r l x hx
theorem round_nodup : ∀ (E : Prs) (l : List Int), l.Nodup → (round E l).Nodup
  | [], _, n => n
  | (t, h) :: r, l, n => by
    unfold round
    by_cases c : t ∈ l ∨ h ∈ l
    · rw [if_pos c]; exact round_nodup r _ (ins_nodup (ins_nodup n))
    · rw [if_neg c]; exact round_nodup r l n
theorem round_snd {E0 : Prs} {a : Int} : ∀ (E : Prs) (l : List Int), (∀ p ∈ E, p ∈ E0) → (∀ x ∈ l, Rch (both E0) a x) → ∀ x ∈ round E l, Rch (both E0) a x
  | [], _, _, k => k
  | (t, h) :: r, l, s, k => by
    have hr : ∀ p ∈ r, p ∈ E0 := fun p hp => s p (List.mem_cons_of_mem _ hp)
    have e : (t, h) ∈ E0 := s _ List.mem_cons_self
    unfold round
    by_cases c : t ∈ l ∨ h ∈ l
    · rw [if_pos c]
      refine round_snd r _ hr fun x hx => ?_
      have kt : Rch (both E0) a t := c.elim (k t) fun z => .step (k h z) (mem_both.mpr (.inr e))
      rcases mem_ins.mp hx with rfl | hx
      · exact .step kt (mem_both.mpr (.inl e))
      · rcases mem_ins.mp hx with rfl | hx
        · exact kt
        · exact k x hx
    · rw [if_neg c]
      exact round_snd r l hr k
/-- a round that adds nothing has looked at a closed set -/
theorem round_same : ∀ (E : Prs) (l : List Int), (∀ x ∈ round E l, x ∈ l) → ∀ t h, (t, h) ∈ E → (t ∈ l ↔ h ∈ l)
  | [], _, _, _, _, m => by simp at m
  | (t, h) :: r, l, k, t', h', m => by
    unfold round at k
    by_cases c : t ∈ l ∨ h ∈ l
    · rw [if_pos c] at k
      have k2 : ∀ x ∈ ins h (ins t l), x ∈ l := fun x hx => k x (round_sub r _ x hx)
      have ht := k2 t (mem_ins.mpr (.inr (mem_ins.mpr (.inl rfl))))
      have hh := k2 h (mem_ins.mpr (.inl rfl))
      have e : ins h (ins t l) = l := by
        have e1 : ins t l = l := if_pos ht
        rw [e1]
        exact if_pos hh
      rw [e] at k
      rcases List.mem_cons.mp m with m | m
      · cases m
        exact ⟨fun _ => hh, fun _ => ht⟩
      · exact round_same r l k t' h' m
    · rw [if_neg c] at k
      rcases List.mem_cons.mp m with m | m
      · obtain ⟨m1, m2⟩ := Prod.mk.inj m
        subst m1 m2
        exact ⟨fun z => absurd (.inl z) c, fun z => absurd (.inr z) c⟩
      · exact round_same r l k t' h' m
theorem round_len {E : Prs} {l : List Int} (n : l.Nodup) : l.length ≤ (round E l).length := sub_len n (round_sub E l)
theorem round_eq_of_len {E : Prs} {l : List Int} (n : l.Nodup) (e : (round E l).length ≤ l.length) : ∀ x ∈ round E l, x ∈ l := full_of n (round_sub E l) e
theorem rounds_sub (E : Prs) : ∀ (m : Nat) (l : List Int), ∀ x ∈ l, x ∈ rounds E m l
  | 0, _, _, h => h
  | m + 1, l, x, h => rounds_sub E m _ x (round_sub E l x h)
theorem rounds_nodup (E : Prs) : ∀ (m : Nat) (l : List Int), l.Nodup → (rounds E m l).Nodup
  | 0, _, n => n
  | m + 1, l, n => rounds_nodup E m _ (round_nodup E l n)
theorem rounds_snd {E : Prs} {a : Int} : ∀ (m : Nat) (l : List Int), (∀ x ∈ l, Rch (both E) a x) → ∀ x ∈ rounds E m l, Rch (both E) a x
  | 0, _, k => k
  | m + 1, l, k => rounds_snd m _ (round_snd E l (fun _ h => h) k)
/-- a closed set is what it was behind a round, as far as who is in it -/
theorem closed_round : ∀ (E : Prs) (l : List Int), (∀ t h, (t, h) ∈ E → (t ∈ l ↔ h ∈ l)) → round E l = l
  | [], _, _ => rfl
  | (t, h) :: r, l, k => by
    have kr := fun t' h' m => k t' h' (List.mem_cons_of_mem _ m)
    unfold round
    by_cases c : t ∈ l ∨ h ∈ l
    · rw [if_pos c]
      have e := k t h List.mem_cons_self
      have ht : t ∈ l := c.elim id e.mpr
      have hh : h ∈ l := e.mp ht
      have e1 : ins t l = l := if_pos ht
      have e2 : ins h l = l := if_pos hh
      rw [e1, e2]
      exact closed_round r l kr
    · rw [if_neg c]
      exact closed_round r l kr
theorem closed_rounds {E : Prs} {l : List Int} (k : ∀ t h, (t, h) ∈ E → (t ∈ l ↔ h ∈ l)) : ∀ m, rounds E m l = l
  | 0 => rfl
  | m + 1 => by
    show rounds E m (round E l) = l
    rw [closed_round E l k]
    exact closed_rounds k m
/-- enough rounds: closed, or longer by one each -/
theorem rounds_end (E : Prs) : ∀ (m : Nat) (l : List Int), l.Nodup → (∀ t h, (t, h) ∈ E → (t ∈ rounds E m l ↔ h ∈ rounds E m l)) ∨ l.length + m ≤ (rounds E m l).length
  | 0, l, _ => .inr (by show l.length + 0 ≤ l.length; omega)
  | m + 1, l, n => by
    show (∀ t h, (t, h) ∈ E → (t ∈ rounds E m (round E l) ↔ h ∈ rounds E m (round E l))) ∨ l.length + (m + 1) ≤ (rounds E m (round E l)).length
    by_cases c : (round E l).length ≤ l.length
    · left
      have k := round_same E l (round_eq_of_len n c)
      have e := closed_round E l k
      rw [e, closed_rounds k m]
      exact k
    · rcases rounds_end E m (round E l) (round_nodup E l n) with h | h
      · exact .inl h
      · right; omega
/-- as many rounds as there are places: the places that hang together with the first -/
theorem rounds_all {E : Prs} {n : Nat} (hn : 0 < n) (hE : ∀ t h, (t, h) ∈ E → InR n t ∧ InR n h) : ∀ x, x ∈ rounds E n [0] ↔ Rch (both E) 0 x := by
  have snd : ∀ x ∈ rounds E n [0], Rch (both E) 0 x := rounds_snd n [0] fun x hx => by rw [List.mem_singleton.mp hx]; exact .refl 0
  have nd := rounds_nodup E n [0] (List.nodup_cons.mpr ⟨by simp, List.nodup_nil⟩)
  have inr : ∀ x, Rch (both E) 0 x → InR n x := fun x h => by
    cases h with
    | refl => unfold InR; omega
    | step _ e =>
      rcases mem_both.mp e with e | e
      · exact (hE _ _ e).2
      · exact (hE _ _ e).1
  have le : (rounds E n [0]).length ≤ n := by
    have := sub_len (m := rng n) nd fun x hx => mem_rng.mpr (inr x (snd x hx))
    rwa [rng_len] at this
  rcases rounds_end E n [0] (List.nodup_cons.mpr ⟨by simp, List.nodup_nil⟩) with k | k
  · intro x
    refine ⟨snd x, fun h => Rch.closed (E := both E) (fun t g e ht => ?_) (rounds_sub E n [0] 0 (List.mem_singleton.mpr rfl)) h⟩
    rcases mem_both.mp e with e | e
    · exact (k t g e).mp ht
    · exact (k g t e).mpr ht
  · simp only [List.length_singleton] at k
    omega
/-- the program's answer and the law's -/
theorem hangs_iff {E : Prs} {n : Nat} {f : List Int} (hn : 0 < n) (hE : ∀ t h, (t, h) ∈ E → InR n t ∧ InR n h) (nf : f.Nodup) (hf : ∀ x, x ∈ f ↔ Rch (both E) 0 x) : (rounds E n [0]).length = n ↔ ¬ f.length < n := by
  have nd := rounds_nodup E n [0] (List.nodup_cons.mpr ⟨by simp, List.nodup_nil⟩)
  have h := rounds_all hn hE
  have e1 := sub_len nd fun x hx => (hf x).mpr ((h x).mp hx)
  have e2 := sub_len nf fun x hx => (h x).mpr ((hf x).mp hx)
  have le : (rounds E n [0]).length ≤ n := by
    have := sub_len (m := rng n) nd fun x hx => mem_rng.mpr (by
      have r := (h x).mp hx
      cases r with
      | refl => unfold InR; omega
      | step _ e =>
        rcases mem_both.mp e with e | e
        · exact (hE _ _ e).2
        · exact (hE _ _ e).1)
    rwa [rng_len] at this
  omega
end NetM


namespace NetM
/-! ### an order from the ends -/
def free (E : Prs) (o : List Int) (p : Int) : Bool := decide (p ∉ o) && (E.all fun q => !(decide (q.1 = p)) || decide (q.2 ∈ o))
def ready (E : Prs) (n : Nat) (o : List Int) : List Int := (rng n).filter (free E o)
def ordr (E : Prs) (n : Nat) : Nat → List Int → List Int
  | 0, o => o
  | m + 1, o => match ready E n o with
    | [] => ordr E n m o
    | p :: _ => ordr E n m (o ++ [p])
theorem free_iff {E : Prs} {o : List Int} {p : Int} : free E o p = true ↔ p ∉ o ∧ ∀ h, (p, h) ∈ E → h ∈ o := by
  unfold free
  rw [Bool.and_eq_true, decide_eq_true_eq, List.all_eq_true]
  constructor
  · rintro ⟨a, b⟩
    refine ⟨a, fun h m => ?_⟩
    have := b _ m
    simpa using this
  · rintro ⟨a, b⟩
    refine ⟨a, fun q m => ?_⟩
    by_cases c : q.1 = p
    · have := b q.2 (by rw [← c]; exact m)
      simp [this]
    · simp [c]
/-- the order so far: below n, different, and what stands behind a place stands ahead of it -/
structure Ord (E : Prs) (n : Nat) (o : List Int) : Prop where
  nd : o.Nodup
  inr : ∀ x ∈ o, InR n x
  clo : ∀ t h, (t, h) ∈ E → t ∈ o → h ∈ o
  low : ∀ t h, (t, h) ∈ E → t ∈ o → o.idxOf h < o.idxOf t
theorem idx_app {l : List Int} {x p : Int} (h : x ∈ l) : (l ++ [p]).idxOf x = l.idxOf x := by rw [List.idxOf_append, if_pos h]
theorem idx_new {l : List Int} {p : Int} (h : p ∉ l) : (l ++ [p]).idxOf p = l.length := by
  rw [List.idxOf_append, if_neg h]
  simp
theorem ord_step {E : Prs} {n : Nat} {o r : List Int} {p : Int} (k : Ord E n o) (e : ready E n o = p :: r) : Ord E n (o ++ [p]) := by
  have hp : p ∈ ready E n o := by rw [e]; exact List.mem_cons_self
  unfold ready at hp
  obtain ⟨h1, h2⟩ := List.mem_filter.mp hp
  obtain ⟨h3, h4⟩ := free_iff.mp h2
  have mem : ∀ {x : Int}, x ∈ o ++ [p] ↔ x ∈ o ∨ x = p := fun {x} => by rw [List.mem_append, List.mem_singleton]
  refine ⟨?_, fun x hx => ?_, fun t h m ht => ?_, fun t h m ht => ?_⟩
  · rw [List.nodup_append]
    refine ⟨k.nd, List.nodup_cons.mpr ⟨by simp, List.nodup_nil⟩, fun a ha b hb e => ?_⟩
    rw [List.mem_singleton] at hb
    exact h3 (hb ▸ e ▸ ha)
  · rcases mem.mp hx with hx | rfl
    · exact k.inr x hx
    · exact mem_rng.mp h1
  · rcases mem.mp ht with ht | rfl
    · exact mem.mpr (.inl (k.clo t h m ht))
    · exact mem.mpr (.inl (h4 h m))
  · rcases mem.mp ht with ht | rfl
    · rw [idx_app ht, idx_app (k.clo t h m ht)]
      exact k.low t h m ht
    · have hh := h4 h m
      rw [idx_app hh, idx_new h3]
      exact List.idxOf_lt_length_of_mem hh
theorem ord_nil (E : Prs) (n : Nat) : Ord E n [] := ⟨List.nodup_nil, fun x h => by simp at h, fun t h _ m => by simp at m, fun t h _ m => by simp at m⟩
theorem ordr_ok {E : Prs} {n : Nat} : ∀ (m : Nat) (o : List Int), Ord E n o → Ord E n (ordr E n m o)
  | 0, _, k => k
  | m + 1, o, k => by
    unfold ordr
    cases e : ready E n o with
    | nil => exact ordr_ok m o k
    | cons p r => exact ordr_ok m (o ++ [p]) (ord_step k e)
/-- no pair leads back -/
def Acy (E : Prs) : Prop := ∀ t h, (t, h) ∈ E → ¬ Rch E h t
theorem low_rch {E : Prs} {n : Nat} {o : List Int} (k : Ord E n o) {a b : Int} (h : Rch E a b) : a ∈ o → b ∈ o ∧ o.idxOf b ≤ o.idxOf a := by
  intro ha
  induction h with
  | refl => exact ⟨ha, Nat.le_refl _⟩
  | step _ e ih =>
    obtain ⟨m, l⟩ := ih
    have := k.low _ _ e m
    exact ⟨k.clo _ _ e m, by omega⟩
theorem acy_of_full {E : Prs} {n : Nat} {o : List Int} (hE : ∀ t h, (t, h) ∈ E → InR n t ∧ InR n h) (k : Ord E n o) (e : o.length = n) : Acy E := by
  have all : ∀ x, InR n x → x ∈ o := fun x hx => full_of k.nd (m := rng n) (fun y hy => mem_rng.mpr (k.inr y hy)) (by rw [rng_len, e]; exact Nat.le_refl _) x (mem_rng.mpr hx)
  intro t h m r
  have ht := all t (hE t h m).1
  have hh := all h (hE t h m).2
  have l1 := k.low t h m ht
  have l2 := (low_rch k r hh).2
  omega
/-! a place that is left and none free: some way leads back -/
def nxt (E : Prs) (o : List Int) (p : Int) : Int := match E.find? (fun q => decide (q.1 = p) && decide (q.2 ∉ o)) with
  | some q => q.2
  | none => p
theorem nxt_ok {E : Prs} {o : List Int} {p : Int} (h : free E o p = false) (hp : p ∉ o) : (p, nxt E o p) ∈ E ∧ nxt E o p ∉ o := by
  have hx : ∃ g, (p, g) ∈ E ∧ g ∉ o := by
    by_cases c : ∃ g, (p, g) ∈ E ∧ g ∉ o
    · exact c
    · exfalso
      have : free E o p = true := free_iff.mpr ⟨hp, fun g m => by
        by_cases z : g ∈ o
        · exact z
        · exact absurd ⟨g, m, z⟩ c⟩
      rw [h] at this
      cases this
  obtain ⟨g, m, ng⟩ := hx
  unfold nxt
  cases e : E.find? (fun q => decide (q.1 = p) && decide (q.2 ∉ o)) with
  | none =>
    have := List.find?_eq_none.mp e _ m
    simp [ng] at this
  | some q =>
    have h1 := List.find?_some e
    have h2 := List.mem_of_find?_eq_some e
    simp only [Bool.and_eq_true, decide_eq_true_eq] at h1
    obtain ⟨h3, h4⟩ := h1
    exact ⟨by rw [← h3]; exact h2, h4⟩
def iter (f : Int → Int) : Nat → Int → Int
  | 0, x => x
  | m + 1, x => iter f m (f x)
theorem iter_succ (f : Int → Int) : ∀ (m : Nat) (x : Int), iter f (m + 1) x = f (iter f m x)
  | 0, _ => rfl
  | m + 1, x => iter_succ f m (f x)
/-- so many steps in so few places: some place twice -/
theorem pigeon (n : Nat) (g : Nat → Int) (h : ∀ i, i ≤ n → InR n (g i)) : ∃ i j, i < j ∧ j ≤ n ∧ g i = g j := by
  by_cases c : ∃ i j, i < j ∧ j ≤ n ∧ g i = g j
  · exact c
  · exfalso
    have nd : ((List.range (n + 1)).map g).Nodup := by
      refine List.pairwise_iff_getElem.mpr fun i j hi hj hij e => ?_
      rw [List.length_map, List.length_range] at hi hj
      rw [List.getElem_map, List.getElem_map, List.getElem_range, List.getElem_range] at e
      exact c ⟨i, j, hij, by omega, e⟩
    have := sub_len nd (m := rng n) fun x hx => by
      obtain ⟨i, hi, rfl⟩ := List.mem_map.mp hx
      have := List.mem_range.mp hi
      exact mem_rng.mpr (h i (by omega))
    rw [List.length_map, List.length_range, rng_len] at this
    omega
theorem some_free {E : Prs} {n : Nat} {o : List Int} (hE : ∀ t h, (t, h) ∈ E → InR n t ∧ InR n h) (ac : Acy E) {x : Int} (hx : InR n x) (nx : x ∉ o) : ready E n o ≠ [] := by
  intro e
  have nf : ∀ p, InR n p → p ∉ o → free E o p = false := fun p hp _ => by
    cases c : free E o p with
    | false => rfl
    | true =>
      have : p ∈ ready E n o := List.mem_filter.mpr ⟨mem_rng.mpr hp, c⟩
      rw [e] at this
      simp at this
  have inv : ∀ m, InR n (iter (nxt E o) m x) ∧ iter (nxt E o) m x ∉ o := fun m => by
    induction m with
    | zero => exact ⟨hx, nx⟩
    | succ m ih =>
      rw [iter_succ]
      have := nxt_ok (nf _ ih.1 ih.2) ih.2
      exact ⟨(hE _ _ this.1).2, this.2⟩
  have edge : ∀ m, (iter (nxt E o) m x, iter (nxt E o) (m + 1) x) ∈ E := fun m => by
    rw [iter_succ]
    exact (nxt_ok (nf _ (inv m).1 (inv m).2) (inv m).2).1
  have way : ∀ i d, Rch E (iter (nxt E o) i x) (iter (nxt E o) (i + d) x) := fun i d => by
    induction d with
    | zero => exact .refl _
    | succ d ih => exact .step ih (edge (i + d))
  obtain ⟨i, j, hij, _, ee⟩ := pigeon n (fun m => iter (nxt E o) m x) fun m _ => (inv m).1
  have r := way (i + 1) (j - (i + 1))
  rw [show i + 1 + (j - (i + 1)) = j by omega] at r
  have ee' : iter (nxt E o) i x = iter (nxt E o) j x := ee
  rw [← ee'] at r
  exact ac _ _ (edge i) r
theorem ordr_len {E : Prs} {n : Nat} (hE : ∀ t h, (t, h) ∈ E → InR n t ∧ InR n h) (ac : Acy E) : ∀ (m : Nat) (o : List Int), Ord E n o → o.length + m = n → (ordr E n m o).length = n
  | 0, o, _, e => by show o.length = n; omega
  | m + 1, o, k, e => by
    have hx : ∃ x, InR n x ∧ x ∉ o := by
      by_cases c : ∃ x, InR n x ∧ x ∉ o
      · exact c
      · exfalso
        have := sub_len (rng_nodup n) (m := o) fun y hy => by
          by_cases z : y ∈ o
          · exact z
          · exact absurd ⟨y, mem_rng.mp hy, z⟩ c
        rw [rng_len] at this
        omega
    obtain ⟨x, h1, h2⟩ := hx
    unfold ordr
    cases e2 : ready E n o with
    | nil => exact absurd e2 (some_free hE ac h1 h2)
    | cons p r => exact ordr_len hE ac m (o ++ [p]) (ord_step k e2) (by rw [List.length_append, List.length_singleton]; omega)
theorem order_iff {E : Prs} {n : Nat} (hE : ∀ t h, (t, h) ∈ E → InR n t ∧ InR n h) : (ordr E n n []).length = n ↔ Acy E :=
  ⟨fun e => acy_of_full hE (ordr_ok n [] (ord_nil E n)) e, fun a => ordr_len hE a n [] (ord_nil E n) (by simp)⟩
/-- each place but the first has a pair from one below it: all hangs together -/
theorem tree_all {E : Prs} {n : Nat} (h : ∀ k : Nat, 0 < k → k < n → ∃ a : Int, 0 ≤ a ∧ a < k ∧ (a, (k : Int)) ∈ E) : ∀ k : Nat, k < n → Rch (both E) 0 k := by
  intro k
  induction k using Nat.strongRecOn with
  | _ k ih =>
    intro hk
    by_cases c : k = 0
    · subst c; exact .refl _
    · obtain ⟨a, h0, h1, e⟩ := h k (by omega) hk
      have r := ih a.toNat (by omega) (by omega)
      rw [show ((a.toNat : Nat) : Int) = a by omega] at r
      exact .step r (mem_both.mpr (.inl e))
/-- pairs that go up lead nowhere back -/
theorem up_acy {E : Prs} (h : ∀ t g, (t, g) ∈ E → t < g) : Acy E := by
  have up : ∀ {a b : Int}, Rch E a b → a ≤ b := fun r => by
    induction r with
    | refl => exact Int.le_refl _
    | step _ e ih => have := h _ _ e; omega
  intro t g m r
  have := up r
  have := h t g m
  omega
theorem look_app (here : Int) (t h : Int) : ∀ (L : Prs) (s : List Int × List Int), look here (L ++ [(t, h)]) s = if t = here ∧ h ∉ (look here L s).1 then ((look here L s).1 ++ [h], (look here L s).2 ++ [h]) else look here L s
  | [], (found, line) => by rw [List.nil_append]; rfl
  | (a, b) :: r, (found, line) => by
    rw [List.cons_append]
    unfold look
    by_cases c : a = here ∧ b ∉ found
    · rw [if_pos c, if_pos c]
      exact look_app here t h r _
    · rw [if_neg c, if_neg c]
      exact look_app here t h r _
theorem look_len (here : Int) : ∀ (L : Prs) (f l : List Int), (look here L (f, l)).1.length ≤ f.length + L.length ∧ (look here L (f, l)).2.length ≤ l.length + L.length
  | [], f, l => by simp [look]
  | (a, b) :: r, f, l => by
    unfold look
    by_cases c : a = here ∧ b ∉ f
    · rw [if_pos c]
      have := look_len here r (f ++ [b]) (l ++ [b])
      rw [List.length_append, List.length_append, List.length_singleton] at this
      rw [List.length_cons]
      omega
    · rw [if_neg c]
      have := look_len here r f l
      simp only [List.length_cons] at *
      omega
theorem round_app (t h : Int) : ∀ (L : Prs) (l : List Int), round (L ++ [(t, h)]) l = if t ∈ round L l ∨ h ∈ round L l then ins h (ins t (round L l)) else round L l
  | [], l => by rw [List.nil_append]; rfl
  | (a, b) :: r, l => by
    rw [List.cons_append]
    unfold round
    by_cases c : a ∈ l ∨ b ∈ l
    · rw [if_pos c, if_pos c]
      exact round_app t h r _
    · rw [if_neg c, if_neg c]
      exact round_app t h r _
theorem rounds_succ (E : Prs) : ∀ (m : Nat) (l : List Int), rounds E (m + 1) l = round E (rounds E m l)
  | 0, _ => rfl
  | m + 1, l => rounds_succ E m (round E l)
theorem ordr_succ (E : Prs) (n : Nat) : ∀ (m : Nat) (o : List Int), ordr E n (m + 1) o = (match ready E n (ordr E n m o) with | [] => ordr E n m o | p :: _ => ordr E n m o ++ [p])
  | 0, o => by
    show (match ready E n o with | [] => ordr E n 0 o | p :: _ => ordr E n 0 (o ++ [p])) = _
    rfl
  | m + 1, o => by
    show (match ready E n o with | [] => ordr E n (m + 1) o | p :: _ => ordr E n (m + 1) (o ++ [p])) = (match ready E n (match ready E n o with | [] => ordr E n m o | p :: _ => ordr E n m (o ++ [p])) with | [] => (match ready E n o with | [] => ordr E n m o | p :: _ => ordr E n m (o ++ [p])) | p :: _ => (match ready E n o with | [] => ordr E n m o | p :: _ => ordr E n m (o ++ [p])) ++ [p])
    cases ready E n o with
    | nil => exact ordr_succ E n m o
    | cons p r => exact ordr_succ E n m (o ++ [p])
theorem ordr_le {E : Prs} {n : Nat} (h : n ≤ 8) (m : Nat) : (ordr E n m []).length ≤ 8 := by
  have k := ordr_ok (E := E) (n := n) m [] (ord_nil E n)
  have := sub_len k.nd fun x hx => mem_rng.mpr (k.inr x hx)
  rw [rng_len] at this
  omega
end NetM


set_option Elab.async false
set_option maxRecDepth 100000
namespace K03
open PySem PySem.Spec PyProof.Rows L2
def top (i : Nat) : Stmt := PySem.Challenge.pw_boughwebs_k03_nets_and_their_ends.main.body.getD i (.Pass ⟨0, 0, 0, 0⟩)
abbrev sBegun : Stmt := top 20
abbrev sMixed : Stmt := top 21
abbrev sTake : Stmt := top 22
abbrev sPick : Stmt := top 23
theorem scBegun : FnScope ["script", "large", "grain"] ["script"] (defScope sBegun) := ⟨rfl, rfl, rfl, by decide +kernel, rfl, by decide +kernel, by decide +kernel⟩
theorem scMixed : FnScope ["draw", "turn", "found", "great", "blend", "grain"] ["draw"] (defScope sMixed) := ⟨rfl, rfl, rfl, by decide +kernel, rfl, by decide +kernel, by decide +kernel⟩
theorem scTake : FnScope ["draw", "amount", "found"] ["draw", "amount"] (defScope sTake) := ⟨rfl, rfl, rfl, by decide +kernel, rfl, by decide +kernel, by decide +kernel⟩
theorem scPick : FnScope ["draw", "some"] ["draw", "some"] (defScope sPick) := ⟨rfl, rfl, rfl, by decide +kernel, rfl, by decide +kernel, by decide +kernel⟩
/-- the pairs of a state of draws -/
def drawL (lg cl : Addr) (r t : Int) : List (Key × V) := [(.inr "large", .ref lg), (.inr "rest", .int r), (.inr "cells", .ref cl), (.inr "turn", .int t)]
structure DrawAt (H : Hp) (d lg cl : Addr) : Prop where
  dc : ∃ r t : Int, H d = some (.dK (drawL lg cl r t))
  la : ∃ L : List Int, L.length ≤ 63 ∧ H lg = some (.lst (L.map V.int))
  ce : ∃ L : List Int, L.length ≤ 63 ∧ H cl = some (.lst (L.map V.int))
  ne : cl ≠ lg
/-- what the state of draws may change -/
def Kept (d lg : Addr) (H H' : Hp) : Prop := ∀ b o, H b = some o → b ≠ d → b ≠ lg → H' b = some o
def spBegun (K : PySem.W.Frag) : Sp := fun vs H Q _ => ∃ (a : Addr) (ns : List Int), vs = [.ref a] ∧ SqL K H a (ns.map V.int) ∧ ns.length ≤ 63 ∧
  ∀ (d lg cl : Addr) (H' : Hp), DrawAt H' d lg cl → Same H H' → H d = none → H lg = none → H cl = none → Q (.ref d) H'
section
variable {P : Program} {w : World} {K : PySem.W.Frag} {mg : Str → Option Value} {base : Heap}
theorem same_upd {H : Hp} {p : Addr} {o : HO} (h : H p = none) : Same H (upd H p o) := fun b x e => by
  rw [upd_ne (ne_of_none e h)]
  exact e
theorem int_at {ns : List Int} {i : Nat} {x : V} (h : (ns.map V.int)[i]? = some x) : ∃ z, ns[i]? = some z ∧ x = .int z := by
  rw [List.getElem?_map] at h
  cases e : ns[i]? with
  | none => rw [e] at h; cases h
  | some z => rw [e] at h; exact ⟨z, rfl, (Option.some.inj h).symm⟩
theorem cpow18 : CPow 10 18 := ⟨by decide, by decide, by decide⟩
theorem ok_begun {f : Addr} {fd : FuncData} (F : Fun K "_law_begun" "_law_begun" sBegun f fd) (mAbs : mg "abs" = none) : FnOk P w K mg base CX0 1 f fd ["script"] (spBegun K) := by
  refine F.ok scBegun (fun vs H Q E h => ?_) (fun cdv A outer s H vs Q E hr h => ?_)
  · obtain ⟨a, ns, rfl, _⟩ := h
    rfl
  · obtain ⟨a, ns, rfl, hS, hlen, k⟩ := h
    have nd := scBegun.nd
    refine ⟨_, pss_cons (ps_setLc (i := 1) (own := [("grain", 2)]) (g := gName 2) (by rfl) nd rfl rfl (sw_true rfl rfl rfl (by decide +kernel)) (pi_list (pv 0)) (blkOk_by (N := ["script", "large", "grain"]) (sc := defScope sBegun) (by decide +kernel)) (fun _ _ _ _ _ => pg_name (i := 2) nd rfl (Or.inl rfl))
        (fun _ _ _ _ _ => pts_one (pt_cmpR op_ge (pe_callB call_abs (by rfl) mAbs (by decide +kernel) (pa_cons (pv 2) pa_nil)) (pe_op op_pow pe_int pe_int) (nomark _)))
        (fun _ _ _ _ _ => pe_op op_sub (pe_callB call_abs (by rfl) mAbs (by decide +kernel) (pa_cons (pv 2) pa_nil)) (pe_op op_pow pe_int pe_int)))
      (pss_one (ps_ret (pe_disp (pps_cons pe_str (pv 1) (pps_cons pe_str pe_int (pps_cons pe_str
        (pe_lc (own := [("grain", 2)]) (g := gName 2) (by rfl) nd (pi_list (pv 0)) (blkOk_by (N := ["script", "large", "grain"]) (sc := defScope sBegun) (by decide +kernel)) (fun _ _ _ _ _ => pg_name (i := 2) nd rfl (Or.inl rfl)) (fun _ _ _ _ _ => pts_nil)
          (fun _ _ _ _ _ => pe_callB call_abs (by rfl) mAbs (by decide +kernel) (pa_cons (pv 2) pa_nil))) (pps_cons pe_str pe_int pps_nil)))) (by rfl) (by rfl) (fun z => by cases z) (by decide)))), ?_⟩
    refine ⟨_, rfl, a, rfl, ⟨_, hS⟩, fun lg nlg => lc_list (K := K) (a := a) (xs := ns.map V.int) (fun i H1 => Same H H1 ∧ ∃ L : List Int, L.length ≤ i ∧ H1 lg = some (.lst (L.map V.int)))
      ⟨same_upd nlg, [], Nat.le_refl _, upd_same⟩ (fun i H1 _ hp => hp.1.seq hS) ?_ ?_⟩
    · rintro i x H1 hi ⟨s1, L, hL, eL⟩
      obtain ⟨z, hz, rfl⟩ := int_at hi
      have hil : i < ns.length := (List.getElem?_eq_some_iff.mp hz).1
      refine ⟨rfl, _, rfl, _, rfl, _, _, rfl, rfl, cpow18, _, _, rfl, rfl, _, rfl, ?_⟩
      refine ite2 (fun _ => ?_) (fun _ => ⟨s1, L, by omega, eL⟩)
      refine ⟨_, rfl, _, rfl, _, _, rfl, rfl, cpow18, _, _, rfl, rfl, _, eL, small1000 (by rw [List.length_map]; omega), ?_, L ++ [(if z < 0 then -z else z) - 10 ^ (18 : Int).toNat], ?_, ?_⟩
      · intro b o e
        rw [upd_ne (ne_of_none e nlg)]
        exact s1 b o e
      · rw [List.length_append]
        show L.length + 1 ≤ i + 1
        omega
      · rw [upd_same, List.map_append]
        rfl
    · rintro H1 ⟨s1, L, hL, eL⟩
      rw [List.length_map] at hL
      refine fun d hd => ⟨_, rfl, ?_⟩
      have ndlg : lg ≠ d := ne_of_none eL hd
      have s2 : Same H (upd H1 d (.dK [])) := fun b o e => same_upd hd b o (s1 b o e)
      refine ⟨_, rfl, a, rfl, ⟨_, s2.seq hS⟩, fun cl ncl => lc_list (K := K) (a := a) (xs := ns.map V.int) (fun i H2 => Same (upd H1 d (.dK [])) H2 ∧ ∃ M : List Int, M.length ≤ i ∧ H2 cl = some (.lst (M.map V.int)))
        ⟨same_upd ncl, [], Nat.le_refl _, upd_same⟩ (fun i H2 _ hp => (Same.trans s2 hp.1).seq hS) ?_ ?_⟩
      · rintro i x H2 hi ⟨s3, M, hM, eM⟩
        obtain ⟨z, hz, rfl⟩ := int_at hi
        have hil : i < ns.length := (List.getElem?_eq_some_iff.mp hz).1
        refine ⟨rfl, ?_⟩
        dsimp only [tYes]
        refine iteT ?_
        refine ⟨_, rfl, _, rfl, _, eM, small1000 (by rw [List.length_map]; omega), ?_, M ++ [if z < 0 then -z else z], ?_, ?_⟩
        · intro b o e
          rw [upd_ne (ne_of_none e ncl)]
          exact s3 b o e
        · rw [List.length_append]
          show M.length + 1 ≤ i + 1
          omega
        · rw [upd_same, List.map_append]
          rfl
      · rintro H2 ⟨s3, M, hM, eM⟩
        rw [List.length_map] at hM
        have ed : H2 d = some (.dK []) := s3 d _ upd_same
        have el : H2 lg = some (.lst (L.map V.int)) := s3 lg _ (by rw [upd_ne ndlg]; exact eL)
        refine ⟨ed, drawL lg cl 0 0, rfl, (by show 4 ≤ 15; decide), ?_⟩
        have ncd : cl ≠ d := ne_of_none (o := .lst (M.map V.int)) (H := fun b => if b = cl then some (.lst (M.map V.int)) else none) (by simp) (by
          have : d ≠ cl := ne_of_none upd_same ncl
          simp [this]) 
        have ncg : cl ≠ lg := fun z => by
          rw [z, upd_ne ndlg, eL] at ncl
          cases ncl
        have s4 : Same H H2 := fun b o e => s3 b o (s2 b o e)
        refine k d lg cl _ ⟨⟨0, 0, ?_⟩, ⟨L, by omega, ?_⟩, ⟨M, by omega, ?_⟩, ncg⟩ ?_ ?_ nlg ?_
        · rw [upd_same]
          rfl
        · rw [upd_ne ndlg]
          exact el
        · rw [upd_ne ncd]
          exact eM
        · intro b o e
          have : b ≠ d := fun z => by
            subst z
            have := s1 b _ e
            rw [hd] at this
            cases this
          rw [upd_ne this]
          exact s4 b o e
        · cases e : H d with
          | none => rfl
          | some o => 
            have := s1 d _ e
            rw [hd] at this
            cases this
        · cases e : H cl with
          | none => rfl
          | some o => 
            have := s2 cl _ e
            rw [ncl] at this
            cases this
end
end K03


set_option Elab.async false
set_option maxRecDepth 100000
namespace K03
open PySem PySem.Spec PyProof.Rows L2
theorem kne {a b : Str} (h : ¬ a = b) : ¬ (Sum.inr a : Key) = Sum.inr b := fun z => h (Sum.inr.inj z)
theorem n_lr : ¬ (("large" : Str) = "rest") := by decide +kernel
theorem n_lc : ¬ (("large" : Str) = "cells") := by decide +kernel
theorem n_lt : ¬ (("large" : Str) = "turn") := by decide +kernel
theorem n_rc : ¬ (("rest" : Str) = "cells") := by decide +kernel
theorem n_rt : ¬ (("rest" : Str) = "turn") := by decide +kernel
theorem n_ct : ¬ (("cells" : Str) = "turn") := by decide +kernel
variable (lg cl : Addr) (r t z : Int)
theorem g_large : valV (drawL lg cl r t) (.inr "large") = some (.ref lg) := valV_pos rfl
theorem g_rest : valV (drawL lg cl r t) (.inr "rest") = some (.int r) := (valV_neg (kne n_lr)).trans (valV_pos rfl)
theorem g_cells : valV (drawL lg cl r t) (.inr "cells") = some (.ref cl) := (valV_neg (kne n_lc)).trans ((valV_neg (kne n_rc)).trans (valV_pos rfl))
theorem g_turn : valV (drawL lg cl r t) (.inr "turn") = some (.int t) := (valV_neg (kne n_lt)).trans ((valV_neg (kne n_rt)).trans ((valV_neg (kne n_ct)).trans (valV_pos rfl)))
theorem p_rest : putK (drawL lg cl r t) (.inr "rest") (.int z) = drawL lg cl z t := by
  simp [putK, drawL, n_lr, Ne.symm n_rc, Ne.symm n_rt]
theorem p_turn : putK (drawL lg cl r t) (.inr "turn") (.int z) = drawL lg cl r z := by
  simp [putK, drawL, n_lt, n_rt, n_ct]
theorem dl4 : (drawL lg cl r t).length < sizeLine := by show 4 < sizeLine; decide
end K03


set_option Elab.async false
set_option maxRecDepth 100000
namespace K03
open PySem PySem.Spec PyProof.Rows L2
section
variable {P : Program} {w : World} {K : PySem.W.Frag} {mg : Str → Option Value} {base : Heap}
theorem Kept.refl {d lg : Addr} {H : Hp} : Kept d lg H H := fun _ _ e _ _ => e
theorem Kept.trans {d lg : Addr} {H H1 H2 : Hp} (a : Kept d lg H H1) (b : Kept d lg H1 H2) : Kept d lg H H2 := fun x o e h1 h2 => b x o (a x o e h1 h2) h1 h2
theorem Kept.d {d lg : Addr} {H : Hp} {o : HO} : Kept d lg H (upd H d o) := fun x u e h1 _ => by rw [upd_ne h1]; exact e
theorem Kept.l {d lg : Addr} {H : Hp} {o : HO} : Kept d lg H (upd H lg o) := fun x u e _ h2 => by rw [upd_ne h2]; exact e
theorem Kept.new {d lg p : Addr} {H : Hp} {o : HO} (h : H p = none) : Kept d lg H (upd H p o) := fun x u e _ _ => by rw [upd_ne (ne_of_none e h)]; exact e
theorem dne {H : Hp} {d p : Addr} {kvs : List (Key × V)} {xs : List V} (h : H d = some (.dK kvs)) (h' : H p = some (.lst xs)) : d ≠ p := ne_of h h' (by intro z; cases z)
/-- mixed: some int; the state's turn has changed, nothing else -/
def spMixed : Sp := fun vs H Q _ => ∃ (d lg cl : Addr), vs = [.ref d] ∧ DrawAt H d lg cl ∧
  ∀ (z : Int) (H' : Hp), DrawAt H' d lg cl → Kept d lg H H' → H' lg = H lg → Q (.int z) H'
theorem ok_mixed {f : Addr} {fd : FuncData} (F : Fun K "_law_mixed" "_law_mixed" sMixed f fd) (mInt : mg "int" = none) : FnOk P w K mg base CX0 1 f fd ["draw"] spMixed := by
  refine F.ok scMixed (fun vs H Q E h => ?_) (fun cdv A outer s H vs Q E hr h => ?_)
  · obtain ⟨d, lg, cl, rfl, _⟩ := h
    rfl
  · obtain ⟨d, lg, cl, rfl, D, k⟩ := h
    have nd := scMixed.nd
    have hu := hu_of hr
    obtain ⟨⟨r, t, hd⟩, ⟨L, hL, hl⟩, ⟨M, hM, hc⟩, ncl⟩ := id D
    have ndl := dne hd hl
    have ndc := dne hd hc
    refine ⟨_, pss_cons (ps_dput hu (pv 0) pe_str (pe_op op_add (pe_dget hu (pv 0) pe_str (fun _ _ => rfl)) pe_int) rfl)
      (pss_cons (ps_par (i := 1) (j := 2) (by rfl) nd rfl rfl (by decide) rfl rfl (pa_cons (pe_callTy call_int1 (by rfl) mInt (by decide +kernel) (pa_cons (pe_dget hu (pv 0) pe_str (fun _ _ => rfl)) pa_nil)) (pa_cons pe_int pa_nil)) (by rfl))
      (pss_cons (ps_for PassesOwn.never rfl (pi_list (pe_lst (pa_cons pe_int (pa_cons pe_int (pa_cons pe_int pa_nil))))) (pg_name (i := 3) nd rfl (Or.inl rfl))
        (pss_cons (ps_set (i := 4) nd rfl (Or.inl rfl) (pe_op op_modN (pe_op op_add (pe_op op_mul (pv 1) pe_int) (pe_op op_fdivN (pv 3) pe_int)) (pv 3)))
        (pss_cons (ps_for PassesOwn.never rfl (pi_list (pe_dget hu (pv 0) pe_str (fun _ _ => rfl))) (pg_name (i := 5) nd rfl (Or.inl rfl))
          (pss_one (ps_set (i := 4) nd rfl (Or.inl rfl) (pe_op op_modN (pe_op op_add (pe_op op_mul (pv 4) pe_int) (pe_callTy call_int1 (by rfl) mInt (by decide +kernel) (pa_cons (pv 5) pa_nil))) (pv 3)))))
        (pss_one (ps_set (i := 2) nd rfl (Or.inl rfl) (pe_op op_add (pe_op op_mul (pv 2) pe_int) (pe_op op_modN (pe_op op_pow (pv 4) pe_int) (pv 3))))))))
      (pss_one (ps_ret (pv 2))))), ?_⟩
    -- draw['turn'] = draw['turn'] + 1
    refine ⟨_, rfl, d, _, rfl, (g_turn lg cl r t) ▸ DGet.k (k := Sum.inr "turn") hd, _, _, rfl, rfl, _, rfl, d, _, rfl, DPut.k (k := Sum.inr "turn") hd (dl4 lg cl r t), ?_⟩
    rw [p_turn]
    have k1 : Kept d lg H (upd H d (.dK (drawL lg cl r (t + 1)))) := Kept.d
    have hd1 : (upd H d (.dK (drawL lg cl r (t + 1)))) d = some (.dK (drawL lg cl r (t + 1))) := upd_same
    -- turn, found
    refine ⟨_, rfl, d, _, rfl, (g_turn lg cl r (t + 1)) ▸ DGet.k (k := Sum.inr "turn") hd1, .inl ⟨_, rfl, _, _, rfl, ?_⟩⟩
    -- for great in ..
    refine ⟨by decide, fun p np => ?_⟩
    have ndp : d ≠ p := ne_of_none hd1 np
    have hl1 : (upd H d (.dK (drawL lg cl r (t + 1)))) lg = some (.lst (L.map V.int)) := by rw [upd_ne ndl.symm]; exact hl
    have hc1 : (upd H d (.dK (drawL lg cl r (t + 1)))) cl = some (.lst (M.map V.int)) := by rw [upd_ne ndc.symm]; exact hc
    have nlp : lg ≠ p := ne_of_none hl1 np
    have ncp : cl ≠ p := ne_of_none hc1 np
    let H2 := upd (upd H d (.dK (drawL lg cl r (t + 1)))) p (.lst (([2147483629, 2147483587, 2147483579] : List Int).map V.int))
    have hp2 : H2 p = some (.lst (([2147483629, 2147483587, 2147483579] : List Int).map V.int)) := upd_same
    have hd2 : H2 d = some (.dK (drawL lg cl r (t + 1))) := by show upd _ p _ d = _; rw [upd_ne ndp]; exact hd1
    have hl2 : H2 lg = some (.lst (L.map V.int)) := by show upd _ p _ lg = _; rw [upd_ne nlp]; exact hl1
    have hc2 : H2 cl = some (.lst (M.map V.int)) := by show upd _ p _ cl = _; rw [upd_ne ncp]; exact hc1
    have D2 : DrawAt H2 d lg cl := ⟨⟨_, _, hd2⟩, ⟨L, hL, hl2⟩, ⟨M, hM, hc2⟩, ncl⟩
    have k2 : Kept d lg H H2 := k1.trans (Kept.new np)
    refine ⟨p, rfl, ⟨_, SqL.of hp2⟩, for_list (K := K) (a := p) (xs := ([2147483629, 2147483587, 2147483579] : List Int).map V.int) (fun i σ H3 => ∃ (x : Int) (v3 v4 v5 : Option V), σ = [some (.ref d), some (.int (t + 1)), some (.int x), v3, v4, v5] ∧ H3 = H2)
      ⟨0, _, _, _, rfl, rfl⟩ (fun i σ H3 _ ⟨_, _, _, _, _, e⟩ => by rw [e]; exact SqL.of hp2) ?_ ?_⟩
    · rintro i y σ H3 hi ⟨x, v3, v4, v5, rfl, rfl⟩
      obtain ⟨g, hg, rfl⟩ := int_at hi
      have hgb : 0 < g ∧ g < 2147483648 := by
        have := List.mem_of_getElem? hg
        simp only [List.mem_cons, List.mem_nil_iff, or_false] at this
        omega
      refine ⟨_, rfl, _, _, rfl, rfl, .inr (by decide), _, rfl, _, _, rfl, rfl, ⟨by decide, by decide⟩, _, _, rfl, rfl, _, rfl, _, _, rfl, rfl, (by omega), ?_⟩
      have b0 : 0 ≤ ((t + 1) * 69621 + g.fdiv 7).fmod g ∧ ((t + 1) * 69621 + g.fdiv 7).fmod g < g := ⟨Int.fmod_nonneg_of_pos _ hgb.1, Int.fmod_lt_of_pos _ hgb.1⟩
      -- the inner loop
      refine ⟨_, rfl, d, _, rfl, (g_cells lg cl r (t + 1)) ▸ DGet.k (k := Sum.inr "cells") hd2, cl, rfl, ⟨_, SqL.of hc2⟩, for_list (K := K) (a := cl) (xs := M.map V.int) (fun j σ H4 => ∃ (b : Int) (v5 : Option V), σ = [some (.ref d), some (.int (t + 1)), some (.int x), some (.int g), some (.int b), v5] ∧ H4 = H2 ∧ 0 ≤ b ∧ b < g)
        ⟨_, _, rfl, rfl, b0⟩ (fun i σ H3 _ ⟨_, _, _, e, _⟩ => by rw [e]; exact SqL.of hc2) ?_ ?_⟩
      · rintro j y σ H4 hj ⟨b, v5, rfl, rfl, hb1, hb2⟩
        obtain ⟨m, hm, rfl⟩ := int_at hj
        refine ⟨_, rfl, _, _, rfl, rfl, .inr (by decide), _, rfl, .inl ⟨_, rfl, _, _, rfl, rfl, _, rfl, _, _, rfl, rfl, (by omega), ?_⟩⟩
        exact ⟨_, _, rfl, rfl, Int.fmod_nonneg_of_pos _ hgb.1, Int.fmod_lt_of_pos _ hgb.1⟩
      · rintro σ H4 ⟨b, v5, rfl, rfl, hb1, hb2⟩
        refine ⟨_, rfl, _, _, rfl, rfl, .inr (by decide), _, rfl, _, _, rfl, rfl, ⟨by decide, by decide, by omega⟩, _, rfl, _, _, rfl, rfl, (by omega), _, _, rfl, rfl, ?_⟩
        exact ⟨_, _, _, _, rfl, rfl⟩
    · rintro σ H3 ⟨x, v3, v4, v5, rfl, rfl⟩
      exact ⟨_, rfl, k x H2 D2 k2 (hl2.trans hl.symm)⟩
end
end K03


set_option Elab.async false
set_option maxRecDepth 100000
namespace K03
open PySem PySem.Spec PyProof.Rows L2
/-- a draw below n -/
def spTake : Sp := fun vs H Q _ => ∃ (d lg cl : Addr) (n : Int), vs = [.ref d, .int n] ∧ DrawAt H d lg cl ∧ 0 < n ∧ n < 1000000 ∧
  ∀ (z : Int) (H' : Hp), 0 ≤ z → z < n → DrawAt H' d lg cl → Kept d lg H H' → Q (.int z) H'
theorem dp_ints {K : PySem.W.Frag} {H : Hp} {a : Addr} {L : List Int} (h : SqL K H a (L.map V.int)) : Dp K H (.ref a) (.list (L.map PyData.int)) := by
  refine .lst h ?_
  clear h
  induction L with
  | nil => exact .nil
  | cons x r ih => exact .cons (.int x) ih
theorem lay_ints (L : List Int) : PyData.canLayAll0 (L.map PyData.int) = true := by
  induction L with
  | nil => rfl
  | cons x r ih => simp [PyData.canLayAll0, PyData.canLay0, ih]
theorem dep_ints (L : List Int) : PyData.depthAll (L.map PyData.int) ≤ 1 := by
  induction L with
  | nil => simp [PyData.depthAll]
  | cons x r ih => simp [PyData.depthAll, PyData.depth]; omega
theorem shp_ints (L : List Int) : SeqAt.shaped (.list (L.map PyData.int)) = true := by
  have h := dep_ints L
  simp [SeqAt.shaped, PyData.canLay0, lay_ints, PyData.depth]
  omega
section
variable {P : Program} {w : World} {K : PySem.W.Frag} {mg : Str → Option Value} {base : Heap}
theorem ok_take {f fM : Addr} {fd fdM : FuncData} (F : Fun K "_law_take" "_law_take" sTake f fd) (FM : Fun K "_law_mixed" "_law_mixed" sMixed fM fdM) (bM : Binds K fdM ["draw"] []) (gM : mg "_law_mixed" = some (.ref fM)) (mInt : mg "int" = none) : FnOk P w K mg base CX0 2 f fd ["draw", "amount"] spTake := by
  have GM : FnOk P w K mg base CX0 1 fM fdM ["draw"] spMixed := ok_mixed FM mInt
  refine F.ok scTake (fun vs H Q E h => ?_) (fun cdv A outer s H vs Q E hr h => ?_)
  · obtain ⟨d, lg, cl, n, rfl, _⟩ := h
    rfl
  · obtain ⟨d, lg, cl, n, rfl, D, hn, hn2, k⟩ := h
    have nd := scTake.nd
    have hu := hu_of hr
    refine ⟨_, pss_cons (ps_if (pt_cmpR op_eq (pe_dget hu (pv 0) pe_str (fun _ _ => rfl)) pe_int (nomark _))
        (pss_one (ps_dput hu (pv 0) pe_str (pe_ifExp (pt_cmpR (op_neD hr.units) (pe_dget hu (pv 0) pe_str (fun _ _ => rfl)) (pe_lst pa_nil) (nomark _))
          (pe_bm PySem.F.plainAttrs_list PySem.F.slot_list_pop PySem.F.type_list_pop mt_popAt (pe_dget hu (pv 0) pe_str (fun _ _ => rfl)) (pa_cons pe_int pa_nil))
          (pe_call GM hr rfl gM FM.kp bM .nil pass0 (pa_cons (pv 0) pa_nil))) rfl)) pss_nil)
      (pss_cons (ps_set (i := 2) nd rfl (Or.inl rfl) (pe_op op_modN (pe_callTy call_int1 (by rfl) mInt (by decide +kernel) (pa_cons (pe_dget hu (pv 0) pe_str (fun _ _ => rfl)) pa_nil)) (pv 1)))
      (pss_cons (ps_dput hu (pv 0) pe_str (pe_op op_fdivN (pe_callTy call_int1 (by rfl) mInt (by decide +kernel) (pa_cons (pe_dget hu (pv 0) pe_str (fun _ _ => rfl)) pa_nil)) (pv 1)) rfl)
      (pss_one (ps_ret (pv 2))))), ?_⟩
    -- what follows the if, from any state of draws
    have after : ∀ H1 : Hp, DrawAt H1 d lg cl → Kept d lg H H1 →
        tAsg (tOp (rI (fun _ j => j ≠ 0) fun i j => .int (i.fmod j)) (tCB (fun xs H Q => (∃ i, xs = [.int i] ∧ Q (.int i) H) ∨ ∃ k, xs = [.bl k] ∧ Q (.int (if k then 1 else 0)) H) (tCons (tDGet (tVar 0) (tC (.str "rest"))) tNil)) (tVar 1)) (gName 2)
          { nx := fun σ2 H2 => sDPut (tVar 0) (tC (.str "rest")) (tOp (rI CDivN fun i j => .int (i.fdiv j)) (tCB (fun xs H Q => (∃ i, xs = [.int i] ∧ Q (.int i) H) ∨ ∃ k, xs = [.bl k] ∧ Q (.int (if k then 1 else 0)) H) (tCons (tDGet (tVar 0) (tC (.str "rest"))) tNil)) (tVar 1))
              { nx := fun σ3 H3 => tRet (tVar 2) { nx := fun _ H' => Q .non H', rt := Q } σ3 H3, rt := Q } σ2 H2, rt := Q } (start ["draw", "amount", "found"] [.ref d, .int n]) H1 := by
      intro H1 D1 k1
      obtain ⟨⟨r, t, hd⟩, ⟨L, hL, hl⟩, ⟨M, hM, hc⟩, ncl⟩ := id D1
      have ndl := dne hd hl
      have ndc := dne hd hc
      refine ⟨_, rfl, d, _, rfl, (g_rest lg cl r t) ▸ DGet.k (k := Sum.inr "rest") hd, .inl ⟨_, rfl, _, rfl, _, _, rfl, rfl, (by omega), ?_⟩⟩
      refine ⟨_, rfl, d, _, rfl, (g_rest lg cl r t) ▸ DGet.k (k := Sum.inr "rest") hd, .inl ⟨_, rfl, _, rfl, _, _, rfl, rfl, ⟨by omega, by omega⟩, _, rfl, d, _, rfl, DPut.k (k := Sum.inr "rest") hd (dl4 lg cl r t), ?_⟩⟩
      rw [p_rest]
      refine ⟨_, rfl, k _ _ (Int.fmod_nonneg_of_pos _ hn) (Int.fmod_lt_of_pos _ hn) ⟨⟨_, _, upd_same⟩, ⟨L, hL, by rw [upd_ne ndl.symm]; exact hl⟩, ⟨M, hM, by rw [upd_ne ndc.symm]; exact hc⟩, ncl⟩ (k1.trans Kept.d)⟩
    obtain ⟨⟨r, t, hd⟩, ⟨L, hL, hl⟩, ⟨M, hM, hc⟩, ncl⟩ := id D
    have ndl := dne hd hl
    have ndc := dne hd hc
    refine ⟨_, rfl, d, _, rfl, (g_rest lg cl r t) ▸ DGet.k (k := Sum.inr "rest") hd, rfl, _, rfl, ite2 (fun _ => ?_) (fun _ => after H D Kept.refl)⟩
    -- draw['large'] != []
    refine ⟨_, rfl, d, _, rfl, (g_large lg cl r t) ▸ DGet.k (k := Sum.inr "large") hd, by decide, fun e ne => ?_⟩
    have hd1 : (upd H e (.lst [])) d = some (.dK (drawL lg cl r t)) := by rw [upd_ne (ne_of_none hd ne)]; exact hd
    have hl1 : (upd H e (.lst [])) lg = some (.lst (L.map V.int)) := by rw [upd_ne (ne_of_none hl ne)]; exact hl
    have hc1 : (upd H e (.lst [])) cl = some (.lst (M.map V.int)) := by rw [upd_ne (ne_of_none hc ne)]; exact hc
    have D1 : DrawAt (upd H e (.lst [])) d lg cl := ⟨⟨_, _, hd1⟩, ⟨L, hL, hl1⟩, ⟨M, hM, hc1⟩, ncl⟩
    refine ⟨_, _, dp_ints (SqL.of hl1), .lst (SqL.of upd_same) .nil, shp_ints L, rfl, _, rfl, ?_⟩
    cases L with
    | nil =>
      refine iteF ?_
      refine ⟨_, rfl, d, lg, cl, rfl, D1, fun z H2 D2 k2 e2 => ?_⟩
      obtain ⟨⟨r2, t2, hd2⟩, ⟨L2, hL2, hl2⟩, ⟨M2, hM2, hc2⟩, _⟩ := id D2
      refine ⟨_, rfl, d, _, rfl, DPut.k (k := Sum.inr "rest") hd2 (dl4 lg cl r2 t2), ?_⟩
      rw [p_rest]
      exact after _ ⟨⟨_, _, upd_same⟩, ⟨L2, hL2, by rw [upd_ne ndl.symm]; exact hl2⟩, ⟨M2, hM2, by rw [upd_ne ndc.symm]; exact hc2⟩, ncl⟩ ((Kept.new ne).trans (k2.trans Kept.d))
    | cons x L =>
      refine iteT ?_
      refine ⟨_, rfl, d, .ref lg, rfl, (g_large lg cl r t) ▸ DGet.k (k := Sum.inr "large") hd1, .inl ⟨rfl, _, SqL.of hl1⟩, lg, _, 0, 0, .int x, rfl, rfl, hl1, by decide, by decide, ?_, rfl, ?_⟩
      · show seqIndex? 0 (L.map V.int).length.succ = some 0
        simp [seqIndex?]
      · have hd3 : (upd (upd H e (.lst [])) lg (.lst (((x :: L).map V.int).eraseIdx 0))) d = some (.dK (drawL lg cl r t)) := by rw [upd_ne ndl]; exact hd1
        refine ⟨_, rfl, d, _, rfl, DPut.k (k := Sum.inr "rest") hd3 (dl4 lg cl r t), ?_⟩
        rw [p_rest]
        refine after _ ⟨⟨_, _, upd_same⟩, ⟨L, by simp at hL; omega, by rw [upd_ne ndl.symm, upd_same]; rfl⟩, ⟨M, hM, by rw [upd_ne ndc.symm, upd_ne ncl]; exact hc1⟩, ncl⟩ ((Kept.new ne).trans (Kept.l.trans Kept.d))
end
end K03


set_option Elab.async false
set_option maxRecDepth 100000
namespace K03
open PySem PySem.Spec PyProof.Rows L2
/-- one of a list's items -/
def spPick : Sp := fun vs H Q _ => ∃ (d lg cl a : Addr) (xs : List V), vs = [.ref d, .ref a] ∧ DrawAt H d lg cl ∧ H a = some (.lst xs) ∧ a ≠ lg ∧ 0 < xs.length ∧ xs.length < 1000 ∧
  ∀ (i : Nat) (x : V) (H' : Hp), xs[i]? = some x → DrawAt H' d lg cl → Kept d lg H H' → Q x H'
section
variable {P : Program} {w : World} {K : PySem.W.Frag} {mg : Str → Option Value} {base : Heap}
theorem ok_pick {f fT fM : Addr} {fd fdT fdM : FuncData} (F : Fun K "_law_pick" "_law_pick" sPick f fd) (FT : Fun K "_law_take" "_law_take" sTake fT fdT) (bT : Binds K fdT ["draw", "amount"] []) (gT : mg "_law_take" = some (.ref fT))
    (FM : Fun K "_law_mixed" "_law_mixed" sMixed fM fdM) (bM : Binds K fdM ["draw"] []) (gM : mg "_law_mixed" = some (.ref fM)) (mInt : mg "int" = none) (mLen : mg "len" = none) : FnOk P w K mg base CX0 3 f fd ["draw", "some"] spPick := by
  have GT : FnOk P w K mg base CX0 2 fT fdT ["draw", "amount"] spTake := ok_take FT FM bM gM mInt
  refine F.ok scPick (fun vs H Q E h => ?_) (fun cdv A outer s H vs Q E hr h => ?_)
  · obtain ⟨d, lg, cl, a, xs, rfl, _⟩ := h
    rfl
  · obtain ⟨d, lg, cl, a, xs, rfl, D, ha, nal, h0, h1, k⟩ := h
    have nda : d ≠ a := by
      obtain ⟨⟨r, t, hd⟩, _⟩ := D
      exact dne hd ha
    refine ⟨_, pss_one (ps_ret (pe_ix ix_list (pv 1) (pe_call GT hr rfl gT FT.kp bT .nil pass0 (pa_cons (pv 0) (pa_cons (pe_callB call_len_seq (by rfl) mLen PySem.boot_len (pa_cons (pv 1) pa_nil)) pa_nil))) (fun _ _ => rfl))), ?_⟩
    refine ⟨_, rfl, _, rfl, _, rfl, a, xs, rfl, .inl (SqL.of ha), d, lg, cl, _, rfl, D, (by omega), (by omega), fun z H' hz1 hz2 D' k' => ?_⟩
    obtain ⟨j, rfl⟩ := Int.eq_ofNat_of_zero_le hz1
    have hj : j < xs.length := by omega
    have ex := List.getElem?_eq_getElem hj
    exact ⟨a, xs, _, _, rfl, rfl, SqL.of (k' a _ ha nda.symm nal), atI_nat ex, k j _ H' ex D' k'⟩
end
end K03


set_option Elab.async false
set_option maxRecDepth 100000
set_option maxHeartbeats 1000000
set_option linter.all false
namespace GL
open PySem PySem.Spec PyProof.Rows L2
/-! Promises of defs that may ask for repr: nothing is being shown around the call -/
structure FnG (P : Program) (w : World) (K : PySem.W.Frag) (mg : Str → Option Value) (base : Heap) (CX : CXT) (k : Nat) (f : Addr) (fd : FuncData) (ps : List Str) (sp : Sp) : Prop where
  len : ∀ vs H Q E, sp vs H Q E → vs.length = ps.length
  run : ∀ (A : Around) (outer : List Env) (s : Shared) (H : Hp) (args : Args) (us : List Value) (vs : List V) (Q : VK) (E : XK), A.guards = some [] → Room k A → Env0 P w K mg base A outer s H → BindsTo s fd args (ps.zip us) → Vals vs us → sp vs H Q E →
    codeAny (model P w) A (.call (.ref f) args) (CR CX outer P w H s Q E) s
section
variable {P : Program} {w : World} {K : PySem.W.Frag} {mg : Str → Option Value} {base : Heap} {CX : CXT}
theorem FnG.of {k : Nat} {f : Addr} {fd : FuncData} {ps : List Str} {sp : Sp} (F : FnOk P w K mg base CX k f fd ps sp) : FnG P w K mg base CX k f fd ps sp :=
  ⟨F.len, fun A outer s H args us vs Q E _ => F.run A outer s H args us vs Q E⟩
/-- a def by its body -/
theorem fng_of {k : Nat} {f : Addr} {name qual : Str} {st : Stmt} {dV kV doc pm cdv ct oc : Value} {an od : Option Addr} {osl : Array (Option Value)} {N ps : List Str} {sp : Sp}
    (lk : K.lookup f = some ⟨oc, od, .func (PySem.W.fnOf name qual (defArgs st) (defBody st) (defScope st) dV kV doc pm an cdv ct), osl⟩) (hcd : PySem.W.codeIn K cdv qual = true) (S : FnScope N ps (defScope st))
    (len : ∀ vs H Q E, sp vs H Q E → vs.length = ps.length)
    (hbody : ∀ (A : Around) (outer : List Env) (s : Shared) (H : Hp) (vs : List V) (Q : VK) (E : XK), A.guards = some [] → Room k (A.deeper (envOfC qual (defScope st) s.heap.objs.size f cdv)) → sp vs H Q E →
      ∃ t, PSs (cxOf CX P w K mg base N qual (defScope st) f cdv A outer s H E) (defBody st) t ∧ t { nx := fun _ H' => Q .non H', rt := Q } (start N vs) H) :
    FnG P w K mg base CX (k + 1) f (PySem.W.fnOf name qual (defArgs st) (defBody st) (defScope st) dV kV doc pm an cdv ct) ps sp := by
  refine ⟨len, fun A outer s H args us vs Q E hga hr e0 hb r hsp => ?_⟩
  have KX : K.In s.heap := e0.mod.kin.keeps fun b o e => (e0.bs b o e).1
  have lim : s.heap.NoLimit := e0.mod.nolimit.keeps fun b o e => (e0.bs b o e).1
  refine codeAny_call_function hr.depth (KX _ _ lk) rfl S.co S.gen rfl (PySem.W.codeRec_of KX hcd) (hb _ _ _ _ (wpAny_newFunctionEnv_cells S.kind (fun y hy => ?_) fun env he s1 x => ?_))
  · obtain ⟨n, v⟩ := y
    rcases S.par n (List.of_mem_zip hy).1 with q | q
    · exact .inl q
    · exact .inr ⟨q, PySem.W.cellsFrom_some _ _ _ (.inl q)⟩
  · subst he
    refine ⟨lim.keeps x.toInCall.keep, codeAny_func ?_⟩
    obtain ⟨t, ht, hq⟩ := hbody A outer s H vs Q E hga (hr.deeper _) hsp
    have I : Inv (cxOf CX P w K mg base N qual (defScope st) f cdv A outer s H E) [] (start N vs) H s1 := inv_start S hr.hd e0 (len _ _ _ _ hsp) r x
    refine wpAny_mono (ht.run [] s1 (start N vs) H _ I hq) (fun fl s' hs => ?_) fun e s' hs => hs
    cases fl with
    | ret u => exact (by obtain ⟨v, σ', H', J', rv, q'⟩ := hs; exact ⟨v, H', J'.os, J'.bare, J'.base, J'.hok, rv, q'⟩)
    | next => exact (by obtain ⟨σ', H', J', q'⟩ := hs; exact ⟨V.non, H', J'.os, J'.bare, J'.base, J'.hok, rfl, q'⟩)
    | brk => exact (by obtain ⟨_, _, _, q'⟩ := hs; exact q'.elim)
    | cont => exact (by obtain ⟨_, _, _, q'⟩ := hs; exact q'.elim)
theorem okG {x qual : Str} {st : Stmt} {f : Addr} {fd : FuncData} {N ps : List Str} {k : Nat} {sp : Sp} (F : Fun K x qual st f fd) (S : FnScope N ps (defScope st)) (len : ∀ vs H Q E, sp vs H Q E → vs.length = ps.length)
    (hbody : ∀ (cdv : Value) (A : Around) (outer : List Env) (s : Shared) (H : Hp) (vs : List V) (Q : VK) (E : XK), A.guards = some [] → Room k (A.deeper (envOfC qual (defScope st) s.heap.objs.size f cdv)) → sp vs H Q E →
      ∃ t, PSs (cxOf CX0 P w K mg base N qual (defScope st) f cdv A outer s H E).nox (defBody st) t ∧ t { nx := fun _ H' => Q .non H', rt := Q } (start N vs) H) : FnG P w K mg base CX0 (k + 1) f fd ps sp := by
  obtain ⟨oc, od, kV, doc, pm, an, cdv, ct, osl, rfl, lk, hcd⟩ := F.ex
  refine fng_of lk hcd S len fun A outer s H vs Q E hga hr hsp => ?_
  obtain ⟨t, h, q⟩ := hbody cdv A outer s H vs Q E hga hr hsp
  exact ⟨t, h.nox, q⟩
end
section
variable {X : Cx} {CX : CXT} {k : Nat} {f : Addr} {fd : FuncData} {ps : List Str} {sp : Sp} {dvs : List V} {ds : List Value} {E : XK} {x : Str} {p pos : Pos} {e : Expr} {es : List Expr} {t : TA}
theorem run_g {pins : List (Addr × Obj)} {σ : L2.St} {H : Hp} {s : Shared} {Q : VK} {us : List Value} {vs : List V} (F : FnG X.prog X.w X.K X.mg X.base CX k f fd ps sp) (hga : X.A.guards = some []) (hr : Room k X.A) (hb : L2.Binds X.K fd ps ds) (hd : Vals dvs ds) (hx : Passes CX X E)
    (I : Inv X pins σ H s) (r : Vals vs us) (h : sp (vs ++ dvs) H Q E) : wpAny (model X.prog X.w) X.A (call (.ref f) us) (EP X pins σ Q) X.xe s := by
  have r2 : Vals (vs ++ dvs) (us ++ ds) := r.append hd
  have hl : (us ++ ds).length = ps.length := by rw [← r2.length]; exact F.len _ _ _ _ h
  refine wpAny_call (codeAny_mono (F.run X.A X.stack s H ⟨us, []⟩ (us ++ ds) (vs ++ dvs) Q E hga hr I.env0 (hb s us I.kIn hl) r2 h) fun r s' hq => ?_)
  cases r with
  | error e => exact hx pins σ H s e s' I hq
  | ok fl =>
    cases fl with
    | ret u => exact I.after hq
    | next => exact False.elim hq
    | brk => exact False.elim hq
    | cont => exact False.elim hq
/-- f(e, ..) where f may ask for repr -/
theorem pe_callG (F : FnG X.prog X.w X.K X.mg X.base CX k f fd ps sp) (hga : X.A.guards = some []) (hr : Room k X.A) (hg : Gl X x) (hm : X.mg x = some (.ref f)) (hk : PySem.W.keepIn X.K (.ref f) = true) (hb : L2.Binds X.K fd ps ds) (hd : Vals dvs ds) (hx : Passes CX X E)
    (ha : PA X (e :: es) t) (hdb : (x == ("__debug__" : Str)) = false := by decide) (he : starEach (e :: es) X.env = (false, eval e X.env) :: starEach es X.env := by rfl) (hpl : (backTo pos (starEach es X.env)).any (·.1) = false := by rfl) :
    PE X (.Call (.Name x p) (e :: es) [] pos) (tCall sp dvs E t) :=
  ⟨fun pins s σ H Q I h => wpAny_Call_Name_kw (ld_glob I hg hm (PySem.W.callWith_K (h₀ := X.base) I.ok.mod.kin hk (thn (ha.run pos pins s σ H _ I h) fun us s1 ⟨vs, H1, I1, r, q⟩ => ⟨I1.kIn, run_g F hga hr hb hd hx I1 r q⟩) he hpl) hdb)⟩
end
/-- a value that reads as the data d, whatever the state -/
def RdV (K : PySem.W.Frag) (H : Hp) (v : V) (d : PyData) : Prop := ∀ (X : Cx) (pins : List (Addr × Obj)) (σ : L2.St) (s : Shared) (u : Value), X.K = K → Inv X pins σ H s → RelV v u → ∃ as, Reads s.heap u d as ∧ (d.hasDict = true → sysModules ∉ as)
/-- what is asked of data that is shown -/
structure Shown (d : PyData) : Prop where
  sh : d.showable = true
  dp : d.depth ≤ 60
  sz : d.shown.length ≤ sizeLine
section
variable {X : Cx}
theorem call_repr {K : PySem.W.Frag} (hk : X.K = K) (hga : X.A.guards = some []) (hu : X.A.units + 70 < cLine) : CallR X (.builtin "repr") (fun xs H Q => ∃ (v : V) (d : PyData), xs = [v] ∧ RdV K H v d ∧ Shown d ∧ Q (.str d.shown) H) := by
  intro pins s σ H xs us Q I r h
  obtain ⟨v, d, rfl, hd, ⟨hs, hdp, hz⟩, q⟩ := h
  cases r with
  | @cons _ u _ _ r1 rr =>
    cases rr
    obtain ⟨as, R, hm⟩ := hd X pins σ s u hk I r1
    cases R with
    | none => exact P.repr_of_none ⟨.str _, H, I.tok _, ⟨_, rfl⟩, q⟩
    | bool b => exact P.repr_of_bool ⟨.str _, H, I.tok _, ⟨_, rfl⟩, q⟩
    | int i t => exact P.repr_of_int (by simpa [PyData.showable] using hs) ⟨.str _, H, I.tok _, ⟨_, rfl⟩, q⟩
    | str x t => exact P.repr_of_str ⟨.str _, H, I.tok _, ⟨_, rfl⟩, q⟩ hz
    | list h1 h2 h3 h4 => exact repr_of_reads' (.list h1 h2 h3 h4) hs hm hga (by omega) (fun _ _ e => e) (fun h' u tk k => ⟨.str _, H, I.kept (t' := tk) k, ⟨_, rfl⟩, q⟩) hz
    | tuple h1 h2 h3 h4 => exact repr_of_reads' (.tuple h1 h2 h3 h4) hs hm hga (by omega) (fun _ _ e => e) (fun h' u tk k => ⟨.str _, H, I.kept (t' := tk) k, ⟨_, rfl⟩, q⟩) hz
    | dict h1 h2 h3 h4 h5 => exact repr_of_reads' (.dict h1 h2 h3 h4 h5) hs hm hga (by omega) (fun _ _ e => e) (fun h' u tk k => ⟨.str _, H, I.kept (t' := tk) k, ⟨_, rfl⟩, q⟩) hz
end
/-! ### new lists that are not the table of modules -/
section
variable {X : Cx} {pins : List (Addr × Obj)} {σ : L2.St} {H : Hp} {s : Shared}
theorem new_ne (I : Inv X pins σ H s) : s.heap.objs.size ≠ sysModules := by
  obtain ⟨o, es, ep, e, _⟩ := I.mod.glob
  have h1 := Heap.lt_size (I.bk _ _ e)
  have h2 : sysModules < mainGlobals := by decide
  exact Nat.ne_of_gt (Nat.lt_trans h2 h1)
def rCatN : R2 := fun x y H Q => ∃ l b xs zs, x = .ref l ∧ y = .ref b ∧ H l = some (.lst xs) ∧ H b = some (.lst zs) ∧ xs.length + zs.length ≤ sizeLine ∧ ∀ p, H p = none → p ≠ sysModules → Q (.ref p) (upd H p (.lst (xs ++ zs)))
theorem op_catN : OpR X (binaryOp .Add) rCatN := by
  intro pins s σ H x y v u Q I rx ry h
  obtain ⟨l, b, xs, zs, rfl, rfl, hl, hb, hz, q⟩ := h
  cases rx
  cases ry
  obtain ⟨_, its, n, r, e1, e⟩ := I.lstM hl
  obtain ⟨_, its2, n2, r2, e2, e'⟩ := I.lstM hb
  apply PySem.P.add_list e e' _ (by rw [List.size_toArray, List.size_toArray]; omega)
  · rw [show its.toArray ++ its2.toArray = (its ++ its2).toArray by simp]
    exact ⟨.ref _, _, I.lnew (t' := s.toks) (r.append r2) (by rw [List.length_append]; omega), rfl, q _ I.fresh (new_ne I)⟩
theorem rep_flat (its : List Value) (m : Nat) : ∀ acc : List Value, List.foldl (fun a b => a ++ b) acc.toArray (List.replicate m its.toArray) = (acc ++ (List.replicate m its).flatten).toArray := by
  induction m with
  | zero => intro acc; simp
  | succ m ih =>
    intro acc
    rw [List.replicate_succ, List.foldl_cons, List.replicate_succ, List.flatten_cons, show acc.toArray ++ its.toArray = (acc ++ its).toArray by simp, ih (acc ++ its), List.append_assoc]
def rRepN : R2 := fun x y H Q => ∃ l k xs, x = .ref l ∧ y = .int k ∧ H l = some (.lst xs) ∧ xs ≠ [] ∧ 0 ≤ k ∧ k < 1000 ∧ xs.length ≤ 1000 ∧
  ∀ p, H p = none → p ≠ sysModules → Q (.ref p) (upd H p (.lst (List.replicate k.toNat xs).flatten))
theorem op_repN : OpR X (binaryOp .Mult) rRepN := by
  intro pins s σ H x y v u Q I rx ry h
  obtain ⟨l, k, xs, rfl, rfl, hl, hne, k0, k1, hx, q⟩ := h
  cases rx
  obtain ⟨t, rfl⟩ := ry
  obtain ⟨_, its, n, r, e1, e⟩ := I.lstM hl
  have big : (1000000 : Nat) ≤ sizeLine := by decide
  have hm : its.length * k.toNat ≤ 1000 * 1000 := Nat.mul_le_mul (by omega) (by omega)
  have hsz : its.toArray.size * k.toNat ≤ sizeLine := by rw [List.size_toArray]; omega
  have hcap : ¬ its.toArray.size * k.toNat > (2 ^ 63 - 1) / 8 := by rw [List.size_toArray]; omega
  have hfit : ¬ (!Builtin.List.listFitsIndex k) = true := by
    rw [fitsIndex_both (by omega) (by omega)]
    exact Bool.false_ne_true
  have hlong : ¬ Builtin.List.listTooLong (its.toArray.size * k.toNat) = true := by
    rw [notLongL hsz]
    exact Bool.false_ne_true
  have hi : its ≠ [] := fun z => by
    subst z
    cases xs with
    | nil => exact hne rfl
    | cons _ _ => simp at e1
  have hnew : List.foldl (fun x1 x2 => x1 ++ x2) #[] (List.replicate (if its.toArray.isEmpty = true then 0 else k.toNat) its.toArray) = (List.replicate k.toNat its).flatten.toArray := by
    rw [if_neg (by simpa using hi)]
    have z := rep_flat its k.toNat []
    simpa using z
  refine wpAny_binaryOp_repeat_ref (T := "list") (U := "int") (by decide) ⟨_, e, rfl⟩ (fun s' => typeIs_int s' k t) noFill_list_mul F.fills_int_mul F.slot_int_rmul repeat_list F.slot_int_index.lookup ?_
  refine call_meets F.slot_int_rmul (typeIs_int s k t) F.entry_int_rmul (F.args_int_rmul_2 _ _) (int___rmul___int_list k t l its.toArray n) ⟨e, rfl, ⟨_, e, rfl⟩, ?_⟩
  refine call_meets F.slot_list_mul ⟨_, e, rfl⟩ F.entry_list_mul (F.args_list_mul_2 _ _) (AutoListH.list___mul___list_int_3 l its.toArray n k t hfit hcap hlong) ⟨e, ?_⟩
  rw [hnew]
  refine ⟨.ref _, _, I.lnew (t' := s.toks) (r.rep k.toNat) ?_, rfl, q _ I.fresh (new_ne I)⟩
  rw [PyProof.Rows.lm_len_rep_flat, e1, Nat.mul_comm]
  omega
end
/-! ### the law's own head, where the law may ask for repr -/
theorem law_callG {P : Program} {w : World} {K : PySem.W.Frag} {mg mb : Str → Option Value} {k : Nat} {fa a : Addr} {fd : FuncData} {x : Str} {sp : Sp} {s₁ : Shared} {vs : List Value} {ns : List Int}
    (KX : K.In s₁.heap) (hns : s₁.heap.Ns mainGlobals mg) (hb : s₁.heap.Ns builtinsNs mb) (hbb : ∀ x : Str, x ≠ "__name__" → mb x = bootBuiltins x) (hlim : s₁.heap.NoLimit) (hg : s₁.gens = #[])
    (ha : s₁.heap.get? a = some { cls := .type "list", data := .seq vs.toArray }) (hi : IntsAre vs ns) (hl : ns.length ≤ sizeLine) (hr : Room k callerA)
    (F : ∀ base : Heap, K.In base → base.Ns mainGlobals mg → FnG P w K mg base CX0 k fa fd [x] sp) (hbind : ∀ (s : Shared) (u : Value), BindsTo s fd ⟨[u], []⟩ [(x, u)])
    (hsp : ∀ H : Hp, Only H → SqL K H a (ns.map V.int) → sp [.ref a] H (fun v _ => v = .bl true) fun _ _ _ => False) :
    codeAny (model P w) callerA (.call (.ref fa) ⟨[.ref a], []⟩) (fun r s' => r = .ok (.ret (.bool true)) ∧ OldK s₁.heap s'.heap ∧ s'.os = s₁.os ∧ AllBare s'.gens) s₁ := by
  have rv := vals_ints hi
  have nolst : ∀ {b : Addr} {o : Obj} {es : Array DictEntry} {ep : Nat}, s₁.heap.get? b = some o → o.data = .dict es ep → b ≠ a := fun {b o es ep} e d z => by
    rw [z, ha] at e
    rw [← Option.some.inj e] at d
    cases d
  -- what may be tracked at first: the script's object, where it is not of the written part
  have main : ∀ H : Hp, Only H → SqL K H a (ns.map V.int) → HOk P w H s₁.heap → (∀ b, b ≠ a → H b = none) → (K.lookup a ≠ none → H a = none) →
      codeAny (model P w) callerA (.call (.ref fa) ⟨[.ref a], []⟩) (fun r s' => r = .ok (.ret (.bool true)) ∧ OldK s₁.heap s'.heap ∧ s'.os = s₁.os ∧ AllBare s'.gens) s₁ := by
    intro H hO hS hok hA hK
    have keepNs : ∀ {b : Addr} {m : Str → Option Value}, s₁.heap.Ns b m → (hidT s₁.heap H).Ns b m := fun {b m} ⟨o, es, ep, e, d, r⟩ => ⟨o, es, ep, hidT_get e (hA b (nolst e d)), d, r⟩
    have hKb : K.In (hidT s₁.heap H) := fun b o e => hidT_get (KX b o e) (by
      by_cases z : b = a
      · subst z
        exact hK (by rw [show K.lookup b = some o from e]; intro y; cases y)
      · exact hA b z)
    have hM : Mod K mg (hidT s₁.heap H) := ⟨hKb, keepNs hns, ⟨mb, keepNs hb, hbb⟩, let ⟨mc, h1, h2⟩ := hlim; ⟨mc, keepNs h1, h2⟩⟩
    have e0 : Env0 P w K mg (hidT s₁.heap H) callerA [] s₁ H := ⟨rfl, hM, fun b o e => of_hidT e, Nat.le_of_eq (hidT_size _ _), trivial, fun b z => absurd (show b ∈ ([] : List Addr) from z) (by simp), hok, .of_eq hg⟩
    refine codeAny_mono ((F _ hKb (keepNs hns)).run callerA [] s₁ H ⟨[.ref a], []⟩ [.ref a] [.ref a] _ _ rfl hr e0 (hbind s₁ (.ref a)) (.cons rfl .nil) (hsp H hO hS)) fun r s' h => ?_
    cases r with
    | error e => exact False.elim h
    | ok fl =>
      cases fl with
      | next => exact False.elim h
      | brk => exact False.elim h
      | cont => exact False.elim h
      | ret u =>
        obtain ⟨v, H', os, bare, un, hok', r', q⟩ := h
        obtain rfl : v = .bl true := q
        obtain rfl : u = Value.bool true := r'
        refine ⟨rfl, OldK.of_keep fun b o e => ?_, os, bare⟩
        rcases hO b with z | ⟨ob, xs, z⟩
        · exact un.keep b o e z (by intro y; exact absurd (show b ∈ ([] : List Addr) from y) (by simp)) (by simp)
        · obtain ⟨e1, _⟩ := hok b _ z
          obtain ⟨e2, _⟩ := hok' b _ (un.frzs b ob _ z)
          rw [e2, ← Option.some.inj (e1.symm.trans e)]
  cases hk : K.lookup a with
  | some o =>
    have e := KX a o hk
    rw [ha] at e
    cases e
    exact main (fun _ => none) (fun _ => .inl rfl) (.inr ⟨_, vs.toArray, _, hk, rfl, rfl, rfl, by rw [List.size_toArray, hi.length]; exact hl, by simpa using rv⟩) (fun b u z => nomatch (show (none : Option HO) = some u from z)) (fun _ _ => rfl) fun _ => rfl
  | none =>
    have q1 : ∀ b : Addr, b ≠ a → (fun b => if b = a then some (HO.frz { cls := .type "list", data := .seq vs.toArray } (.lst (ns.map V.int))) else none : Hp) b = none := fun b z => if_neg z
    have q2 : (fun b => if b = a then some (HO.frz { cls := .type "list", data := .seq vs.toArray } (.lst (ns.map V.int))) else none : Hp) a = some (HO.frz { cls := .type "list", data := .seq vs.toArray } (.lst (ns.map V.int))) := if_pos rfl
    refine main _ (fun b => ?_) (.inl (.inr ⟨_, q2⟩)) (fun b u z => ?_) q1 fun z => absurd hk z
    · by_cases hb : b = a
      · subst hb; exact .inr ⟨_, _, q2⟩
      · exact .inl (q1 b hb)
    · by_cases hb : b = a
      · subst hb
        have z' := q2.symm.trans z
        cases z'
        exact ⟨ha, by rw [List.length_map]; exact hl, vs, _, rv, ha⟩
      · have z' := (q1 b hb).symm.trans z
        cases z'
theorem walk_ofG {l : PySem.W.OpenLaw} {n k : Nat} {q : Program} {loose : List Str} {XP : (Str → Option Value) → Heap → Prop} {YP : World → Heap → Prop} {d : DefRec} {K : Params → PySem.W.Frag} {sp : World → Sp} {x : Str}
    (hn : l.most = some n) (hn2 : n ≤ sizeLine) (hdf : d.params.defaults = []) (hr : Room k callerA) (hY : ∀ (w : World) (h : Heap), YP w h → (K w.params).In h)
    (F : ∀ (w : World) (mg : Str → Option Value) (fa : Addr) (h : Heap), (K w.params).In h → h.Ns mainGlobals mg → mg d.name = some (.ref fa) →
      ∃ fd : FuncData, (∀ (s : Shared) (u : Value), BindsTo s fd ⟨[u], []⟩ [(x, u)]) ∧ ∀ base : Heap, (K w.params).In base → base.Ns mainGlobals mg → FnG l.prog w (K w.params) mg base CX0 k fa fd [x] (sp w))
    (hsp : ∀ (w : World) (H : Hp) (a : Addr) (ns : List Int), ns.length ≤ n → Only H → SqL (K w.params) H a (ns.map V.int) → sp w [.ref a] H (fun v _ => v = .bl true) fun _ _ _ => False) :
    PySem.W.WalkO q loose XP YP l.row.toRowW d [] (fun f vs => PySem.call f vs) := by
  refine Att.attach_call hn hdf fun w s₀ s₁ mg mb fa o pm cd doc a vs ns G Y ho hd hcd hmg hobj hints hlen hg => ?_
  have KX := hY w _ Y
  obtain ⟨fd, hb, hF⟩ := F w mg fa _ KX G.T.g hmg
  exact law_callG KX G.T.g G.T.b G.T.builtins G.T.nolimit hg hobj hints (Nat.le_trans hlen hn2) hr hF hb fun H hO hS => hsp w H a ns hlen hO hS
end GL


set_option Elab.async false
set_option maxRecDepth 100000
set_option maxHeartbeats 1000000
set_option linter.all false
namespace K03
open PySem PySem.Spec PyProof.Rows L2
abbrev sShuf : Stmt := top 24
/-- pairs of numbers, with where they stand -/
abbrev Zs := List (Addr × Int × Int)
def rf (zs : Zs) : List V := zs.map fun z => .ref z.1
def nums (zs : Zs) : List (Int × Int) := zs.map fun z => z.2
def PL (H : Hp) (zs : Zs) : Prop := ∀ z ∈ zs, H z.1 = some (.tup [.int z.2.1, .int z.2.2])
theorem PL.kept {d lg cl : Addr} {H H' : Hp} {zs : Zs} (D : DrawAt H d lg cl) (k : Kept d lg H H') (p : PL H zs) : PL H' zs := fun z m => by
  obtain ⟨⟨r, t, hd⟩, ⟨L, hL, hl⟩, _, _⟩ := D
  refine k _ _ (p z m) (fun e => ?_) fun e => ?_
  · have := p z m
    rw [e, hd] at this
    cases this
  · have := p z m
    rw [e, hl] at this
    cases this
theorem PL.same {H H' : Hp} {zs : Zs} (s : Same H H') (p : PL H zs) : PL H' zs := fun z m => s _ _ (p z m)
theorem PL.put {H : Hp} {zs : Zs} {l : Addr} {xs : List V} {o : HO} (p : PL H zs) (h : H l = some (.lst xs)) : PL (upd H l o) zs := fun z m => by
  have q := p z m
  rw [upd_ne fun e => by rw [e, h] at q; cases q]
  exact q
theorem dp_prs {K : PySem.W.Frag} {H : Hp} {a : Addr} {zs : Zs} (h : SqL K H a (rf zs)) (p : PL H zs) : Dp K H (.ref a) (.list (zs.map fun z => PyData.tuple [.int z.2.1, .int z.2.2])) := by
  refine .lst h ?_
  clear h
  induction zs with
  | nil => exact .nil
  | cons x r ih => exact .cons (.tup (.inl (.inl (p x List.mem_cons_self))) (.cons (.int _) (.cons (.int _) .nil))) (ih fun z m => p z (List.mem_cons_of_mem _ m))
theorem shp_prs (zs : Zs) : SeqAt.shaped (.list (zs.map fun z => PyData.tuple [.int z.2.1, .int z.2.2])) = true := by
  have h1 : PyData.canLayAll0 (zs.map fun z => PyData.tuple [.int z.2.1, .int z.2.2]) = true := by
    induction zs with
    | nil => rfl
    | cons x r ih => simp [PyData.canLayAll0, PyData.canLay0, ih]
  have h2 : PyData.depthAll (zs.map fun z => PyData.tuple [.int z.2.1, .int z.2.2]) ≤ 2 := by
    clear h1
    induction zs with
    | nil => simp [PyData.depthAll]
    | cons x r ih => simp [PyData.depthAll, PyData.depth]; omega
  simp [SeqAt.shaped, PyData.canLay0, h1, PyData.depth]
  omega
/-- a list of pairs, in another order, new -/
def spShuf (K : PySem.W.Frag) : Sp := fun vs H Q _ => ∃ (d lg cl a : Addr) (zs : Zs), vs = [.ref d, .ref a] ∧ DrawAt H d lg cl ∧ SqL K H a (rf zs) ∧ PL H zs ∧ zs.length < 1000 ∧
  ∀ (ys : Zs) (p : Addr) (H' : Hp), ys.Perm zs → DrawAt H' d lg cl → Kept d lg H H' → H p = none → H' p = some (.lst (rf ys)) → Q (.ref p) H'
theorem scShuf : FnScope ["draw", "some", "left", "found"] ["draw", "some"] (defScope sShuf) := ⟨rfl, rfl, rfl, by decide +kernel, rfl, by decide +kernel, by decide +kernel⟩
theorem rf_get {zs : Zs} {i : Nat} {z : Addr × Int × Int} (h : zs[i]? = some z) : (rf zs)[i]? = some (.ref z.1) := by unfold rf; rw [List.getElem?_map, h]; rfl
theorem rf_erase (zs : Zs) (i : Nat) : (rf zs).eraseIdx i = rf (zs.eraseIdx i) := by
  unfold rf
  rw [List.eraseIdx_eq_take_drop_succ, List.eraseIdx_eq_take_drop_succ, List.map_append, List.map_take, List.map_drop]
theorem perm_erase {α : Type} {l : List α} {i : Nat} {x : α} (h : l[i]? = some x) : (x :: l.eraseIdx i).Perm l := by
  obtain ⟨hi, e⟩ := List.getElem?_eq_some_iff.mp h
  rw [List.eraseIdx_eq_take_drop_succ]
  have z : l = l.take i ++ x :: l.drop (i + 1) := by
    rw [← e, List.getElem_cons_drop, List.take_append_drop]
  exact (List.perm_middle.symm.trans (List.Perm.of_eq z.symm))
section
variable {P : Program} {w : World} {K : PySem.W.Frag} {mg : Str → Option Value} {base : Heap}
theorem ok_shuf {f fT : Addr} {fd fdT : FuncData} (F : Fun K "_law_shuffled" "_law_shuffled" sShuf f fd) (GT : FnOk P w K mg base CX0 2 fT fdT ["draw", "amount"] spTake) (FT : Fun K "_law_take" "_law_take" sTake fT fdT) (bT : L2.Binds K fdT ["draw", "amount"] []) (gT : mg "_law_take" = some (.ref fT))
    (mLen : mg "len" = none) (mList : mg "list" = none) : FnOk P w K mg base CX0 3 f fd ["draw", "some"] (spShuf K) := by
  refine F.ok scShuf (fun vs H Q E h => ?_) (fun cdv A outer s H vs Q E hr h => ?_)
  · obtain ⟨d, lg, cl, a, zs, rfl, _⟩ := h
    rfl
  · obtain ⟨d, lg, cl, a, zs, rfl, D, ha, hp, hl, k⟩ := h
    have nd := scShuf.nd
    refine ⟨_, pss_cons (ps_par (i := 2) (j := 3) (by rfl) nd rfl rfl (by decide) rfl rfl (pa_cons (pe_callTy call_list_of (by rfl) mList (by decide +kernel) (pa_cons (pv 1) pa_nil)) (pa_cons (pe_lst pa_nil) pa_nil)) (by rfl))
      (pss_cons (ps_while PassesOwn.never (pt_cmpR (op_neD hr.units) (pv 2) (pe_lst pa_nil) (nomark _))
        (pss_one (ps_expr (pe_bm PySem.F.plainAttrs_list PySem.F.slot_list_append PySem.F.type_list_append mt_append (pv 3)
          (pa_cons (pe_bm PySem.F.plainAttrs_list PySem.F.slot_list_pop PySem.F.type_list_pop mt_popAt (pv 2) (pa_cons (pe_call GT hr rfl gT FT.kp bT .nil pass0 (pa_cons (pv 0) (pa_cons (pe_callB call_len_seq (by rfl) mLen PySem.boot_len (pa_cons (pv 2) pa_nil)) pa_nil))) pa_nil)) pa_nil)))))
      (pss_one (ps_ret (pv 3)))), ?_⟩
    refine ⟨_, rfl, a, _, rfl, .inl ha, fun l nl => ⟨Nat.zero_le _, fun fo nf => ?_⟩⟩
    refine ⟨_, _, rfl, ?_⟩
    have hd0 : H d ≠ none := by obtain ⟨⟨r, t, e⟩, _⟩ := id D; rw [e]; simp
    have hlg0 : H lg ≠ none := by obtain ⟨_, ⟨L, _, e⟩, _⟩ := id D; rw [e]; simp
    have hcl0 : H cl ≠ none := by obtain ⟨_, _, ⟨M, _, e⟩, _⟩ := id D; rw [e]; simp
    have nef : fo ≠ l := fun z => by rw [z, upd_same] at nf; cases nf
    have nf0 : H fo = none := by rw [upd_ne nef] at nf; exact nf
    have new : ∀ {p : Addr}, H p = none → p ≠ d ∧ p ≠ lg ∧ p ≠ cl := fun {p} z => ⟨fun e => hd0 (by rw [← e]; exact z), fun e => hlg0 (by rw [← e]; exact z), fun e => hcl0 (by rw [← e]; exact z)⟩
    obtain ⟨ld, llg, lcl⟩ := new nl
    obtain ⟨fd', flg, fcl⟩ := new nf0
    have Dput : ∀ {Hx : Hp} {p : Addr} {o : HO}, p ≠ d → p ≠ lg → p ≠ cl → DrawAt Hx d lg cl → DrawAt (upd Hx p o) d lg cl := fun {Hx p o} a b c D => by
      obtain ⟨⟨r, t, hd⟩, ⟨L, hL, hl⟩, ⟨M, hM, hc⟩, ncl⟩ := D
      exact ⟨⟨r, t, by rw [upd_ne a.symm]; exact hd⟩, ⟨L, hL, by rw [upd_ne b.symm]; exact hl⟩, ⟨M, hM, by rw [upd_ne c.symm]; exact hc⟩, ncl⟩
    have Kput : ∀ {Hx : Hp} {p : Addr} {o : HO}, H p = none → Kept d lg H Hx → Kept d lg H (upd Hx p o) := fun {Hx p o} z k b x e h1 h2 => by
      rw [upd_ne (ne_of_none e z)]
      exact k b x e h1 h2
    refine ⟨fun m σ Hx => ∃ zl zf : Zs, σ = [some (.ref d), some (.ref a), some (.ref l), some (.ref fo)] ∧ m = zl.length ∧ DrawAt Hx d lg cl ∧ Hx l = some (.lst (rf zl)) ∧ Hx fo = some (.lst (rf zf)) ∧ (zf ++ zl).Perm zs ∧ PL Hx zs ∧ Kept d lg H Hx,
      ⟨_, zs, [], rfl, rfl, Dput fd' flg fcl (Dput ld llg lcl D), by rw [upd_ne nef.symm, upd_same], upd_same, List.Perm.refl _, (hp.same (same_upd nl)).same (same_upd nf), Kput nf0 (Kput nl Kept.refl)⟩, ?_⟩
    rintro m σ Hx ⟨zl, zf, rfl, rfl, Dx, el, ef, pm, px, kx⟩
    have pl : PL Hx zl := fun z mz => px z (pm.subset (List.mem_append_right _ mz))
    have hlen : zf.length + zl.length = zs.length := by rw [← List.length_append]; exact pm.length_eq
    refine ⟨_, rfl, Nat.zero_le _, fun e ne => ?_⟩
    have se : Same Hx (upd Hx e (.lst [])) := same_upd ne
    have eE : (upd Hx e (.lst [])) e = some (.lst []) := upd_same
    have De : DrawAt (upd Hx e (.lst [])) d lg cl := by
      obtain ⟨⟨r, t, hd⟩, ⟨L, hL, hl⟩, ⟨M, hM, hc⟩, ncl⟩ := Dx
      exact ⟨⟨r, t, se _ _ hd⟩, ⟨L, hL, se _ _ hl⟩, ⟨M, hM, se _ _ hc⟩, ncl⟩
    have ke : Kept d lg H (upd Hx e (.lst [])) := fun b o h h1 h2 => se _ _ (kx b o h h1 h2)
    have elE := se _ _ el
    have efE := se _ _ ef
    have pxE := px.same se
    have plE := pl.same se
    generalize upd Hx e (.lst []) = He at se eE De ke elE efE pxE plE
    refine ⟨_, _, dp_prs (SqL.of elE) plE, .lst (SqL.of eE) .nil, shp_prs zl, rfl, _, rfl, ?_⟩
    cases zl with
    | nil =>
      refine iteF ?_
      rw [List.append_nil] at pm
      exact ⟨_, rfl, k zf fo He pm De ke nf0 efE⟩
    | cons z0 zr =>
      refine iteT ?_
      refine ⟨fun σ' H' => ∃ zl zf : Zs, σ' = [some (.ref d), some (.ref a), some (.ref l), some (.ref fo)] ∧ zl.length = zr.length ∧ DrawAt H' d lg cl ∧ H' l = some (.lst (rf zl)) ∧ H' fo = some (.lst (rf zf)) ∧ (zf ++ zl).Perm zs ∧ PL H' zs ∧ Kept d lg H H', fun σ' H' hN => ?_, ?_⟩
      · obtain ⟨zl', zf', e1, e2, rest⟩ := hN
        exact ⟨_, by rw [List.length_cons]; exact Nat.lt_succ_self _, zl', zf', e1, e2.symm, rest⟩
      · have hl2 : (rf (z0 :: zr)).length = zr.length + 1 := by unfold rf; rw [List.length_map, List.length_cons]
        refine ⟨_, rfl, .inl ⟨rfl, _, SqL.of efE⟩, _, rfl, .inl ⟨rfl, _, SqL.of elE⟩, _, rfl, _, rfl, l, _, rfl, .inl (SqL.of elE), d, lg, cl, _, rfl, De, by rw [hl2]; omega, by rw [hl2]; rw [List.length_cons] at hlen; omega, fun z H2 z1 z2 D2 k2 => ?_⟩
        obtain ⟨j, rfl⟩ := Int.eq_ofNat_of_zero_le z1
        have hj : j < (z0 :: zr).length := by rw [hl2] at z2; rw [List.length_cons]; omega
        have ej : (z0 :: zr)[j]? = some ((z0 :: zr)[j]) := List.getElem?_eq_getElem hj
        generalize (z0 :: zr)[j] = zj at ej
        have el2 := k2 _ _ elE ld llg
        have ef2 := k2 _ _ efE fd' flg
        have hs : seqIndex? (j : Int) (rf (z0 :: zr)).length = some j := by
          rw [hl2]
          rw [List.length_cons] at hj
          simp [seqIndex?]
          omega
        refine ⟨l, _, _, j, _, rfl, rfl, el2, by omega, by rw [hl2] at z2; rw [List.length_cons] at hlen; omega, hs, rf_get ej, ?_⟩
        have ef3 : (upd H2 l (.lst ((rf (z0 :: zr)).eraseIdx j))) fo = some (.lst (rf zf)) := by rw [upd_ne nef]; exact ef2
        have hf2 : (rf zf).length < sizeLine := small1000 (by unfold rf; rw [List.length_map]; omega)
        refine ⟨fo, _, _, rfl, rfl, ef3, hf2, ?_⟩
        have hpm : (zj :: (z0 :: zr).eraseIdx j).Perm (z0 :: zr) := perm_erase ej
        refine ⟨(z0 :: zr).eraseIdx j, zf ++ [zj], rfl, ?_, Dput fd' flg fcl (Dput ld llg lcl D2), ?_, ?_, ?_, ?_, Kput nf0 (Kput nl (ke.trans k2))⟩
        · have := hpm.length_eq
          rw [List.length_cons, List.length_cons] at this
          omega
        · rw [upd_ne nef.symm, upd_same, rf_erase]
        · rw [upd_same]
          unfold rf
          rw [List.map_append]
          rfl
        · refine List.Perm.trans ?_ pm
          rw [List.append_assoc]
          exact List.Perm.append_left zf hpm
        · exact ((pxE.kept De k2).put el2).put ef3
end
end K03


set_option Elab.async false
set_option maxRecDepth 100000
set_option maxHeartbeats 1000000
set_option linter.all false
namespace K03
open PySem PySem.Spec PyProof.Rows L2
abbrev sPairs : Stmt := top 26
theorem scPairs : FnScope ["draw", "many_here", "found", "k", "lap"] ["draw", "many_here"] (defScope sPairs) := ⟨rfl, rfl, rfl, by decide +kernel, rfl, by decide +kernel, by decide +kernel⟩
/-- pairs that go up, one to each place but the first -/
structure Up (n : Nat) (m : Nat) (zs : Zs) : Prop where
  tree : ∀ k : Nat, 0 < k → k < m → ∃ a : Int, 0 ≤ a ∧ a < k ∧ (a, (k : Int)) ∈ nums zs
  up : ∀ q ∈ nums zs, 0 ≤ q.1 ∧ q.1 < q.2 ∧ q.2 < n
theorem Up.more {n m : Nat} {zs : Zs} (u : Up n m zs) {t : Addr} {a b : Int} (h0 : 0 ≤ a) (h1 : a < b) (h2 : b < n) : Up n m (zs ++ [(t, a, b)]) := by
  have e : nums (zs ++ [(t, a, b)]) = nums zs ++ [(a, b)] := by unfold nums; rw [List.map_append]; rfl
  refine ⟨fun k hk hm => ?_, fun q hq => ?_⟩
  · obtain ⟨c, c0, c1, c2⟩ := u.tree k hk hm
    exact ⟨c, c0, c1, by rw [e]; exact List.mem_append_left _ c2⟩
  · rw [e] at hq
    rcases List.mem_append.mp hq with hq | hq
    · exact u.up q hq
    · rw [List.mem_singleton] at hq
      subst hq
      exact ⟨h0, h1, h2⟩
theorem Up.next {n m : Nat} {zs : Zs} (u : Up n m zs) {t : Addr} {a : Int} (h0 : 0 ≤ a) (h1 : a < (m : Int)) (h2 : m < n) : Up n (m + 1) (zs ++ [(t, a, (m : Int))]) := by
  have u' := u.more (t := t) (b := (m : Int)) h0 h1 (by omega)
  have e : nums (zs ++ [(t, a, (m : Int))]) = nums zs ++ [(a, (m : Int))] := by unfold nums; rw [List.map_append]; rfl
  refine ⟨fun k hk hm => ?_, u'.up⟩
  by_cases c : k = m
  · subst c
    exact ⟨a, h0, h1, by rw [e]; exact List.mem_append_right _ (List.mem_singleton.mpr rfl)⟩
  · exact u'.tree k hk (by omega)
theorem Up.perm {n m : Nat} {zs ys : Zs} (u : Up n m zs) (p : ys.Perm zs) : Up n m ys := by
  have e : ∀ q, q ∈ nums ys ↔ q ∈ nums zs := fun q => (p.map _).mem_iff
  exact ⟨fun k hk hm => by
    obtain ⟨a, a0, a1, a2⟩ := u.tree k hk hm
    exact ⟨a, a0, a1, (e _).mpr a2⟩, fun q hq => u.up q ((e q).mp hq)⟩
theorem PL.app {H : Hp} {zs : Zs} {t : Addr} {a b : Int} (p : PL H zs) (h : H t = some (.tup [.int a, .int b])) : PL H (zs ++ [(t, a, b)]) := fun z m => by
  rcases List.mem_append.mp m with m | m
  · exact p z m
  · rw [List.mem_singleton] at m
    subst m
    exact h
theorem rf_app (zs : Zs) (t : Addr) (a b : Int) : rf zs ++ [V.ref t] = rf (zs ++ [(t, a, b)]) := by unfold rf; rw [List.map_append]; rfl
theorem rf_len (zs : Zs) : (rf zs).length = zs.length := by unfold rf; rw [List.length_map]
def spPairs : Sp := fun vs H Q _ => ∃ (d lg cl : Addr) (n : Nat), vs = [.ref d, .int n] ∧ DrawAt H d lg cl ∧ 0 < n ∧ n ≤ 8 ∧
  ∀ (ys : Zs) (p : Addr) (H' : Hp), Up n n ys → ys.length ≤ 10 → DrawAt H' d lg cl → Kept d lg H H' → H p = none → H' p = some (.lst (rf ys)) → PL H' ys → Q (.ref p) H'
theorem draw_same {H H' : Hp} {d lg cl : Addr} (s : Same H H') (D : DrawAt H d lg cl) : DrawAt H' d lg cl := by
  obtain ⟨⟨r, t, hd⟩, ⟨L, hL, hl⟩, ⟨M, hM, hc⟩, ncl⟩ := D
  exact ⟨⟨r, t, s _ _ hd⟩, ⟨L, hL, s _ _ hl⟩, ⟨M, hM, s _ _ hc⟩, ncl⟩
theorem draw_put {H : Hp} {d lg cl p : Addr} {o : HO} (a : p ≠ d) (b : p ≠ lg) (c : p ≠ cl) (D : DrawAt H d lg cl) : DrawAt (upd H p o) d lg cl := by
  obtain ⟨⟨r, t, hd⟩, ⟨L, hL, hl⟩, ⟨M, hM, hc⟩, ncl⟩ := D
  exact ⟨⟨r, t, by rw [upd_ne a.symm]; exact hd⟩, ⟨L, hL, by rw [upd_ne b.symm]; exact hl⟩, ⟨M, hM, by rw [upd_ne c.symm]; exact hc⟩, ncl⟩
theorem draw_new {H : Hp} {d lg cl p : Addr} (D : DrawAt H d lg cl) (h : H p = none) : p ≠ d ∧ p ≠ lg ∧ p ≠ cl := by
  obtain ⟨⟨r, t, hd⟩, ⟨L, hL, hl⟩, ⟨M, hM, hc⟩, ncl⟩ := D
  exact ⟨fun e => (by rw [e, hd] at h; cases h), fun e => (by rw [e, hl] at h; cases h), fun e => (by rw [e, hc] at h; cases h)⟩
theorem kept_put {H Hx : Hp} {d lg p : Addr} {o : HO} (z : H p = none) (k : Kept d lg H Hx) : Kept d lg H (upd Hx p o) := fun b x e h1 h2 => by
  rw [upd_ne (ne_of_none e z)]
  exact k b x e h1 h2
theorem kept_none {H Hx : Hp} {d lg p : Addr} (k : Kept d lg H Hx) (h1 : p ≠ d) (h2 : p ≠ lg) (z : Hx p = none) : H p = none := by
  cases e : H p with
  | none => rfl
  | some u => rw [k p u e h1 h2] at z; cases z
theorem cut12 {xs : List V} (h : xs.length ≤ 12) : cutV xs none (some 12) = xs := by
  unfold cutV
  rw [HT.sIx_none, show ((12 : Int)) = ((12 : Nat) : Int) from rfl, HT.sIx_nat, List.drop_zero]
  exact List.take_of_length_le (by omega)
section
variable {P : Program} {w : World} {K : PySem.W.Frag} {mg : Str → Option Value} {base : Heap}
theorem ok_pairs {f fT fS : Addr} {fd fdT fdS : FuncData} (F : Fun K "_law_any_pairs" "_law_any_pairs" sPairs f fd) (GT : FnOk P w K mg base CX0 2 fT fdT ["draw", "amount"] spTake) (FT : Fun K "_law_take" "_law_take" sTake fT fdT) (bT : L2.Binds K fdT ["draw", "amount"] []) (gT : mg "_law_take" = some (.ref fT))
    (GS : FnOk P w K mg base CX0 3 fS fdS ["draw", "some"] (spShuf K)) (FS : Fun K "_law_shuffled" "_law_shuffled" sShuf fS fdS) (bS : L2.Binds K fdS ["draw", "some"] []) (gS : mg "_law_shuffled" = some (.ref fS)) (mRa : mg "range" = none) : FnOk P w K mg base CX0 4 f fd ["draw", "many_here"] spPairs := by
  refine F.ok scPairs (fun vs H Q E h => ?_) (fun cdv A outer s H vs Q E hr h => ?_)
  · obtain ⟨d, lg, cl, n, rfl, _⟩ := h
    rfl
  · obtain ⟨d, lg, cl, n, rfl, D, n0, n8, k⟩ := h
    have nd := scPairs.nd
    have r2 : Room 2 _ := hr.mono (by decide)
    refine ⟨_, pss_cons (ps_set (i := 2) nd rfl (Or.inl rfl) (pe_lst pa_nil))
      (pss_cons (ps_for PassesOwn.never rfl (pi_range2 (by rfl) mRa (pa_cons pe_int (pa_cons (pv 1) pa_nil))) (pg_name (i := 3) nd rfl (Or.inl rfl))
        (pss_one (ps_expr (pe_bm PySem.F.plainAttrs_list PySem.F.slot_list_append PySem.F.type_list_append mt_append (pv 2) (pa_cons (pe_tup (pa_cons (pe_call GT r2 (by rfl) gT FT.kp bT .nil pass0 (pa_cons (pv 0) (pa_cons (pv 3) pa_nil))) (pa_cons (pv 3) pa_nil))) pa_nil)))))
      (pss_cons (ps_for PassesOwn.never rfl (pi_range1 (by rfl) mRa (pa_cons (pe_ifExp (pt_cmpR op_gt (pv 1) pe_int (nomark _)) (pe_call GT r2 (by rfl) gT FT.kp bT .nil pass0 (pa_cons (pv 0) (pa_cons pe_int pa_nil))) pe_int) pa_nil)) (pg_name (i := 4) nd rfl (Or.inl rfl))
        (pss_cons (ps_set (i := 3) nd rfl (Or.inl rfl) (pe_op op_add pe_int (pe_call GT r2 (by rfl) gT FT.kp bT .nil pass0 (pa_cons (pv 0) (pa_cons (pe_op op_sub (pv 1) pe_int) pa_nil)))))
          (pss_one (ps_expr (pe_bm PySem.F.plainAttrs_list PySem.F.slot_list_append PySem.F.type_list_append mt_append (pv 2) (pa_cons (pe_tup (pa_cons (pe_call GT r2 (by rfl) gT FT.kp bT .nil pass0 (pa_cons (pv 0) (pa_cons (pv 3) pa_nil))) (pa_cons (pv 3) pa_nil))) pa_nil))))))
      (pss_one (ps_ret (pe_slice sl_list (pe_call GS hr (by rfl) gS FS.kp bS .nil pass0 (pa_cons (pv 0) (pa_cons (pv 2) pa_nil))) po_none (po_some pe_int)))))), ?_⟩
    refine ⟨Nat.zero_le _, fun fo nf => ?_⟩
    obtain ⟨fd', flg, fcl⟩ := draw_new D nf
    refine ⟨_, rfl, 1, (n : Int), rfl, ⟨by decide, by decide, by omega, by omega⟩, ?_⟩
    have e1 : ((n : Int) - 1).toNat = n - 1 := by omega
    rw [e1]
    refine for_range (lo := 1) (n := n - 1) (fun i σ Hx => ∃ (zs : Zs) (v3 : Option V), σ = [some (.ref d), some (.int n), some (.ref fo), v3, none] ∧ zs.length = i ∧ Up n (i + 1) zs ∧ DrawAt Hx d lg cl ∧ Hx fo = some (.lst (rf zs)) ∧ PL Hx zs ∧ Kept d lg H Hx) ?_ ?_ ?_
    · exact ⟨[], none, rfl, rfl, ⟨fun k h1 h2 => by omega, fun q hq => by simp [nums] at hq⟩, draw_put fd' flg fcl D, upd_same, fun z m => by simp at m, kept_put nf Kept.refl⟩
    · rintro i σ Hx hi ⟨zs, v3, rfl, hz, u, Dx, ef, px, kx⟩
      refine ⟨_, rfl, .inl ⟨rfl, _, SqL.of ef⟩, _, rfl, _, rfl, d, lg, cl, _, rfl, Dx, by omega, by omega, fun z H2 z1 z2 D2 k2 => ?_⟩
      refine ⟨_, rfl, by show 2 ≤ sizeLine; decide, fun t nt => ?_⟩
      have ef2 := same_upd (o := .tup [.int z, .int (1 + (i : Int))]) nt _ _ (k2 _ _ ef fd' flg)
      have D3 := draw_same (same_upd (o := .tup [.int z, .int (1 + (i : Int))]) nt) D2
      have px3 := (px.kept Dx k2).same (same_upd (o := .tup [.int z, .int (1 + (i : Int))]) nt)
      have kx3 : Kept d lg H (upd H2 t (.tup [.int z, .int (1 + (i : Int))])) := (kx.trans k2).trans (Kept.new nt)
      have et : (upd H2 t (.tup [.int z, .int (1 + (i : Int))])) t = some (.tup [.int z, .int (1 + (i : Int))]) := upd_same
      generalize upd H2 t (.tup [.int z, .int (1 + (i : Int))]) = H3 at ef2 D3 px3 kx3 et
      refine ⟨fo, _, _, rfl, rfl, ef2, small1000 (by rw [rf_len]; omega), ?_⟩
      have ei : (1 + (i : Int)) = ((i + 1 : Nat) : Int) := by omega
      refine ⟨zs ++ [(t, z, 1 + (i : Int))], _, rfl, by rw [List.length_append, hz]; rfl, ?_, draw_put fd' flg fcl D3, ?_, (px3.app et).put ef2, kept_put nf kx3⟩
      · rw [ei]
        exact u.next z1 (by omega) (by omega)
      · rw [upd_same, ← rf_app]
    · rintro σ Hx ⟨zs, v3, rfl, hz, u, Dx, ef, px, kx⟩
      have en : n - 1 + 1 = n := by omega
      rw [en] at u
      refine ⟨_, rfl, _, _, rfl, rfl, _, rfl, ite2 (fun c => ?_) (fun c => ?_)⟩
      · refine ⟨_, rfl, d, lg, cl, 4, rfl, Dx, by decide, by decide, fun z H2 z1 z2 D2 k2 => ?_⟩
        obtain ⟨j, rfl⟩ := Int.eq_ofNat_of_zero_le z1
        refine ⟨_, rfl, by omega, by omega, ?_⟩
        rw [Int.toNat_natCast]
        have px2 := px.kept Dx k2
        have ef2 := k2 _ _ ef fd' flg
        refine for_range (lo := 0) (n := j) (fun i σ Hy => ∃ (zs : Zs) (v3 v4 : Option V), σ = [some (.ref d), some (.int n), some (.ref fo), v3, v4] ∧ zs.length = n - 1 + i ∧ Up n n zs ∧ DrawAt Hy d lg cl ∧ Hy fo = some (.lst (rf zs)) ∧ PL Hy zs ∧ Kept d lg H Hy) ⟨zs, v3, none, rfl, hz, u, D2, ef2, px2, kx.trans k2⟩ ?_ ?_
        · clear px2 ef2 D2 k2 H2 px ef Dx kx u hz zs v3 Hx
          rintro i σ Hx hi ⟨zs, v3, v4, rfl, hz, u, Dx, ef, px, kx⟩
          have hn1 : 1 < n := by have := of_decide_eq_true c; omega
          refine ⟨_, rfl, _, rfl, _, _, rfl, rfl, d, lg, cl, _, rfl, Dx, by omega, by omega, fun z H2 z1 z2 D2 k2 => ?_⟩
          refine ⟨_, _, rfl, rfl, ?_⟩
          have px2 := px.kept Dx k2
          have ef2 := k2 _ _ ef fd' flg
          have kx2 := kx.trans k2
          clear px ef Dx kx
          refine ⟨_, rfl, .inl ⟨rfl, _, SqL.of ef2⟩, _, rfl, _, rfl, d, lg, cl, _, rfl, D2, by omega, by omega, fun y H3 y1 y2 D3 k3 => ?_⟩
          refine ⟨_, rfl, by show 2 ≤ sizeLine; decide, fun t nt => ?_⟩
          have ef4 := same_upd (o := .tup [.int y, .int (1 + z)]) nt _ _ (k3 _ _ ef2 fd' flg)
          have D4 := draw_same (same_upd (o := .tup [.int y, .int (1 + z)]) nt) D3
          have px4 := (px2.kept D2 k3).same (same_upd (o := .tup [.int y, .int (1 + z)]) nt)
          have kx4 : Kept d lg H (upd H3 t (.tup [.int y, .int (1 + z)])) := (kx2.trans k3).trans (Kept.new nt)
          have et : (upd H3 t (.tup [.int y, .int (1 + z)])) t = some (.tup [.int y, .int (1 + z)]) := upd_same
          generalize upd H3 t (.tup [.int y, .int (1 + z)]) = H4 at ef4 D4 px4 kx4 et
          refine ⟨fo, _, _, rfl, rfl, ef4, small1000 (by rw [rf_len]; omega), ?_⟩
          refine ⟨zs ++ [(t, y, 1 + z)], _, _, rfl, by rw [List.length_append, hz]; show n - 1 + i + 1 = _; omega, u.more y1 y2 (by omega), draw_put fd' flg fcl D4, ?_, (px4.app et).put ef4, kept_put nf kx4⟩
          rw [upd_same, ← rf_app]
        · clear px2 ef2 D2 k2 H2 px ef Dx kx u hz zs v3 Hx
          rintro σ Hx ⟨zs, v3, v4, rfl, hz, u, Dx, ef, px, kx⟩
          refine ⟨_, rfl, _, rfl, d, lg, cl, fo, zs, rfl, Dx, SqL.of ef, px, by omega, fun ys p H2 pm D2 k2 np hp => ?_⟩
          have hly : ys.length ≤ 10 := by have := pm.length_eq; omega
          refine ⟨12, rfl, p, _, rfl, SqL.of hp, fun q nq => ?_⟩
          rw [cut12 (by rw [rf_len]; omega)]
          have nq0 : H q = none := by
            have kk : Kept d lg H H2 := kx.trans k2
            obtain ⟨a1, a2, _⟩ := draw_new D2 nq
            exact kept_none kk a1 a2 nq
          exact k ys q _ (u.perm pm) hly (draw_same (same_upd nq) D2) (kept_put nq0 (kx.trans k2)) nq0 upd_same (PL.same (same_upd nq) (PL.kept Dx k2 (fun z mz => px z (pm.subset mz))))
      · have hn1 : n = 1 := by
          have c' : ¬ (1 : Int) < n := fun z => c (decide_eq_true z)
          omega
        refine ⟨_, rfl, by decide, by decide, ?_⟩
        refine for_range (lo := 0) (n := 0) (fun i σ Hy => ∃ (zs : Zs) (v3 v4 : Option V), σ = [some (.ref d), some (.int n), some (.ref fo), v3, v4] ∧ zs.length = n - 1 + i ∧ Up n n zs ∧ DrawAt Hy d lg cl ∧ Hy fo = some (.lst (rf zs)) ∧ PL Hy zs ∧ Kept d lg H Hy) ⟨zs, v3, none, rfl, hz, u, Dx, ef, px, kx⟩ (fun i σ Hy hi => absurd hi (Nat.not_lt_zero i)) ?_
        · clear px ef Dx kx u hz zs v3 Hx
          rintro σ Hx ⟨zs, v3, v4, rfl, hz, u, Dx, ef, px, kx⟩
          refine ⟨_, rfl, _, rfl, d, lg, cl, fo, zs, rfl, Dx, SqL.of ef, px, by omega, fun ys p H2 pm D2 k2 np hp => ?_⟩
          have hly : ys.length ≤ 10 := by have := pm.length_eq; omega
          refine ⟨12, rfl, p, _, rfl, SqL.of hp, fun q nq => ?_⟩
          rw [cut12 (by rw [rf_len]; omega)]
          have nq0 : H q = none := by
            have kk : Kept d lg H H2 := kx.trans k2
            obtain ⟨a1, a2, _⟩ := draw_new D2 nq
            exact kept_none kk a1 a2 nq
          exact k ys q _ (u.perm pm) hly (draw_same (same_upd nq) D2) (kept_put nq0 (kx.trans k2)) nq0 upd_same (PL.same (same_upd nq) (PL.kept Dx k2 (fun z mz => px z (pm.subset mz))))
end
end K03


set_option Elab.async false
set_option maxRecDepth 100000
set_option maxHeartbeats 1000000
set_option linter.all false
namespace K03
open PySem PySem.Spec PyProof.Rows L2 NetM
abbrev sReach : Stmt := top 27
theorem inV_ints (h : Int) (l : List Int) : inV (.int h) (l.map V.int) = decide (h ∈ l) := by
  unfold inV
  induction l with
  | nil => simp
  | cons x r ih =>
    rw [List.map_cons, List.any_cons, ih]
    by_cases c : x = h
    · subst c; simp [eqV]
    · have c' : ¬ h = x := fun e => c e.symm
      simp [eqV, c, c']
theorem flat_ints (l : List Int) : (l.map V.int).all flatV = true := by
  rw [List.all_map]
  exact List.all_eq_true.mpr fun x _ => rfl
theorem scReach : FnScope ["pairs_here", "begin", "found", "line", "here", "tail", "head"] ["pairs_here", "begin"] (defScope sReach) := ⟨rfl, rfl, rfl, by decide +kernel, rfl, by decide +kernel, by decide +kernel⟩
/-- all that is come to: a new list of different numbers -/
def spReach (K : PySem.W.Frag) : Sp := fun vs H Q _ => ∃ (a : Addr) (b : Int) (n : Nat) (zs : Zs), vs = [.ref a, .int b] ∧ SqL K H a (rf zs) ∧ PL H zs ∧ zs.length < 1000 ∧ n ≤ 8 ∧ InR n b ∧ (∀ t h, (t, h) ∈ nums zs → InR n t ∧ InR n h) ∧
  ∀ (fs : List Int) (p : Addr) (H' : Hp), fs.Nodup → (∀ x, x ∈ fs ↔ Rch (nums zs) b x) → fs.length ≤ 8 → Same H H' → H p = none → H' p = some (.lst (fs.map V.int)) → Q (.ref p) H'
theorem small_2000 {n : Nat} (h : n ≤ 2000) : n < sizeLine := Nat.lt_of_le_of_lt h (by decide)
theorem nums_get {zs : Zs} {i : Nat} {z : Addr × Int × Int} (h : zs[i]? = some z) : (nums zs)[i]? = some z.2 := by unfold nums; rw [List.getElem?_map, h]; rfl
theorem same_put {H0 H : Hp} {p : Addr} {o : HO} (s : Same H0 H) (n : H0 p = none) : Same H0 (upd H p o) := fun b x e => by
  rw [upd_ne (ne_of_none e n)]
  exact s b x e
section
variable {P : Program} {w : World} {K : PySem.W.Frag} {mg : Str → Option Value} {base : Heap}
theorem ok_reach {f : Addr} {fd : FuncData} (F : Fun K "_law_reach" "_law_reach" sReach f fd) : FnOk P w K mg base CX0 1 f fd ["pairs_here", "begin"] (spReach K) := by
  refine F.ok scReach (fun vs H Q E h => ?_) (fun cdv A outer s H vs Q E hr h => ?_)
  · obtain ⟨a, b, n, zs, rfl, _⟩ := h
    rfl
  · obtain ⟨a, b, n, zs, rfl, hS, hp, hz, n8, hb, hE, k⟩ := h
    have nd := scReach.nd
    refine ⟨_, pss_cons (ps_par (i := 2) (j := 3) (by rfl) nd rfl rfl (by decide) rfl rfl (pa_cons (pe_lst (pa_cons (pv 1) pa_nil)) (pa_cons (pe_lst (pa_cons (pv 1) pa_nil)) pa_nil)) (by rfl))
      (pss_cons (ps_while PassesOwn.never (pt_cmpR (op_neD hr.units) (pv 3) (pe_lst pa_nil) (nomark _))
        (pss_cons (ps_set (i := 4) nd rfl (Or.inl rfl) (pe_bm0 PySem.F.plainAttrs_list PySem.F.slot_list_pop PySem.F.type_list_pop mt_pop (pv 3)))
          (pss_one (ps_for PassesOwn.never rfl (pi_list (pv 0)) (pg_tup (by rfl) (pgs_cons (pg_name (i := 5) nd rfl (Or.inl rfl)) (pgs_cons (pg_name (i := 6) nd rfl (Or.inl rfl)) pgs_nil)))
            (pss_one (ps_if (PW.pt (pw_and (pt_cmpR op_eq (pv 5) (pv 4) (nomark _)) (pw_and1 (pt_cmpR op_notIn_seq (pv 6) (pv 2) rfl))))
              (pss_cons (ps_expr (pe_bm PySem.F.plainAttrs_list PySem.F.slot_list_append PySem.F.type_list_append mt_append (pv 2) (pa_cons (pv 6) pa_nil)))
                (pss_one (ps_expr (pe_bm PySem.F.plainAttrs_list PySem.F.slot_list_append PySem.F.type_list_append mt_append (pv 3) (pa_cons (pv 6) pa_nil))))) pss_nil))))))
      (pss_one (ps_ret (pv 2)))), ?_⟩
    refine ⟨_, rfl, by show 1 ≤ sizeLine; decide, fun fo nf => ⟨_, rfl, by show 1 ≤ sizeLine; decide, fun li nl => ?_⟩⟩
    refine ⟨_, _, rfl, ?_⟩
    have nel : li ≠ fo := fun z => by rw [z, upd_same] at nl; cases nl
    have nl0 : H li = none := by rw [upd_ne nel] at nl; exact nl
    refine ⟨fun m σ Hx => ∃ (found line : List Int) (v4 v5 v6 : Option V), σ = [some (.ref a), some (.int b), some (.ref fo), some (.ref li), v4, v5, v6] ∧ Stk (nums zs) b found line ∧ line.length ≤ found.length ∧ m = (8 - found.length) * 2 + line.length ∧ Hx fo = some (.lst (found.map V.int)) ∧ Hx li = some (.lst (line.map V.int)) ∧ Same H Hx,
      ⟨_, [b], [b], none, none, none, rfl, stk_beg _ _, Nat.le_refl _, rfl, by rw [upd_ne nel.symm]; exact upd_same, upd_same, same_put (same_put (Same.refl _) nf) nl0⟩, ?_⟩
    rintro m σ Hx ⟨found, line, v4, v5, v6, rfl, st, hll, rfl, ef, el, sx⟩
    refine ⟨_, rfl, Nat.zero_le _, fun e ne => ?_⟩
    have sE : Same H (upd Hx e (.lst [])) := sx.trans (same_upd ne)
    have eE : (upd Hx e (.lst [])) e = some (.lst []) := upd_same
    have efE := same_upd (o := .lst []) ne _ _ ef
    have elE := same_upd (o := .lst []) ne _ _ el
    generalize upd Hx e (.lst []) = He at sE eE efE elE
    refine ⟨_, _, dp_ints (SqL.of elE), .lst (SqL.of eE) .nil, shp_ints line, rfl, _, rfl, ?_⟩
    have inr : ∀ {fs : List Int}, (∀ x ∈ fs, Rch (nums zs) b x) → fs.Nodup → fs.length ≤ 8 := fun {fs} h ndf => by
      have := sub_len (m := rng n) ndf fun x hx => mem_rng.mpr (by
        have r := h x hx
        cases r with
        | refl => exact hb
        | step _ e => exact (hE _ _ e).2)
      rw [rng_len] at this
      omega
    by_cases hne : line = []
    · subst hne
      refine iteF ?_
      exact ⟨_, rfl, k found fo He st.nd (stk_end st) (inr st.snd st.nd) sE nf efE⟩
    · obtain ⟨l0, here, rfl⟩ : ∃ l0 here, line = l0 ++ [here] := ⟨line.dropLast, line.getLast hne, (List.dropLast_concat_getLast hne).symm⟩
      have htt : (!(PyData.eqv (.list ((l0 ++ [here]).map PyData.int)) (.list []))) = true := by
        cases l0 <;> rfl
      refine (if_pos htt).mpr ?_
      refine ⟨fun σ' H' => ∃ (found' line' : List Int) (v4 v5 v6 : Option V), σ' = [some (.ref a), some (.int b), some (.ref fo), some (.ref li), v4, v5, v6] ∧ Stk (nums zs) b found' line' ∧ line'.length ≤ found'.length ∧ (8 - found'.length) * 2 + line'.length < (8 - found.length) * 2 + (l0 ++ [here]).length ∧ H' fo = some (.lst (found'.map V.int)) ∧ H' li = some (.lst (line'.map V.int)) ∧ Same H H', fun σ' H' hN => ?_, ?_⟩
      · obtain ⟨f', l', u4, u5, u6, e1, e2, e0, e3, e4⟩ := hN
        exact ⟨_, e3, f', l', u4, u5, u6, e1, e2, e0, rfl, e4⟩
      · refine ⟨_, rfl, .inl ⟨rfl, _, SqL.of elE⟩, li, _, .int here, rfl, rfl, elE, by simp, ?_⟩
        have ed : ((l0 ++ [here]).map V.int).dropLast = l0.map V.int := by rw [List.map_append]; simp
        rw [ed]
        have nfl : fo ≠ li := nel.symm
        have ef1 : (upd He li (.lst (l0.map V.int))) fo = some (.lst (found.map V.int)) := by rw [upd_ne nfl]; exact efE
        have el1 : (upd He li (.lst (l0.map V.int))) li = some (.lst (l0.map V.int)) := upd_same
        have s1 : Same H (upd He li (.lst (l0.map V.int))) := same_put sE nl0
        generalize upd He li (.lst (l0.map V.int)) = H1 at ef1 el1 s1
        refine ⟨_, rfl, a, rfl, ⟨_, s1.seq hS⟩, ?_⟩
        refine for_list (K := K) (a := a) (xs := rf zs) (fun i σ Hy => ∃ v5 v6 : Option V, σ = [some (.ref a), some (.int b), some (.ref fo), some (.ref li), some (.int here), v5, v6] ∧ Hy fo = some (.lst ((look here ((nums zs).take i) (found, l0)).1.map V.int)) ∧ Hy li = some (.lst ((look here ((nums zs).take i) (found, l0)).2.map V.int)) ∧ Same H Hy)
          ⟨v5, v6, rfl, ef1, el1, s1⟩ (fun i σ Hy _ h => by obtain ⟨_, _, _, _, _, s⟩ := h; exact s.seq hS) ?_ ?_
        · rintro i x σ Hy hi ⟨v5, v6, rfl, hf, hl, sy⟩
          have hzi : ∃ z, zs[i]? = some z ∧ x = .ref z.1 := by
            unfold rf at hi
            rw [List.getElem?_map] at hi
            cases e : zs[i]? with
            | none => rw [e] at hi; cases hi
            | some z => rw [e] at hi; cases hi; exact ⟨z, rfl, rfl⟩
          obtain ⟨⟨t, p1, p2⟩, hz1, rfl⟩ := hzi
          have hmem : (t, p1, p2) ∈ zs := List.mem_of_getElem? hz1
          have htk : (nums zs).take (i + 1) = (nums zs).take i ++ [(p1, p2)] := by
            rw [List.take_add_one, nums_get hz1]; rfl
          have hla := look_app here p1 p2 ((nums zs).take i) (found, l0)
          rw [← htk] at hla
          refine ⟨t, [.int p1, .int p2], rfl, .inl (.inl (sy _ _ (hp _ hmem))), rfl, .int p1, [.int p2], rfl, .int p2, [], rfl, rfl, ?_⟩
          refine ⟨_, rfl, _, rfl, rfl, _, rfl, ?_⟩
          have lk := look_len here ((nums zs).take i) found l0
          have l1 : ((nums zs).take i).length ≤ zs.length := by rw [List.length_take]; unfold nums; rw [List.length_map]; exact Nat.min_le_right _ _
          have l2 := inr st.snd st.nd
          have l3 : l0.length ≤ 8 := by rw [List.length_append, List.length_singleton] at hll; omega
          generalize look here ((nums zs).take i) (found, l0) = fl at hf hl hla lk
          obtain ⟨f1, l1'⟩ := fl
          dsimp only at hf hl hla lk
          by_cases c1 : p1 = here
          · refine (if_pos (decide_eq_true (by rw [c1]))).mpr ?_
            refine ⟨_, rfl, _, rfl, fo, _, rfl, .inl (SqL.of hf), rfl, flat_ints _, _, rfl, ?_⟩
            rw [inV_ints]
            by_cases c2 : p2 ∈ f1
            · rw [decide_eq_true c2]
              refine iteF ?_
              rw [if_neg (fun z => z.2 c2)] at hla
              exact ⟨_, _, rfl, by rw [hla]; exact hf, by rw [hla]; exact hl, sy⟩
            · rw [decide_eq_false c2]
              refine iteT ?_
              rw [if_pos ⟨c1, c2⟩] at hla
              refine ⟨_, rfl, .inl ⟨rfl, _, SqL.of hf⟩, _, rfl, fo, _, _, rfl, rfl, hf, small_2000 (by rw [List.length_map]; omega), ?_⟩
              have hl' : (upd Hy fo (.lst (f1.map V.int ++ [.int p2]))) li = some (.lst (l1'.map V.int)) := by rw [upd_ne nel]; exact hl
              have hf' : (upd Hy fo (.lst (f1.map V.int ++ [.int p2]))) fo = some (.lst (f1.map V.int ++ [.int p2])) := upd_same
              have sy' : Same H (upd Hy fo (.lst (f1.map V.int ++ [.int p2]))) := same_put sy nf
              generalize upd Hy fo (.lst (f1.map V.int ++ [.int p2])) = Hz at hl' hf' sy'
              refine ⟨_, rfl, .inl ⟨rfl, _, SqL.of hl'⟩, _, rfl, li, _, _, rfl, rfl, hl', small_2000 (by rw [List.length_map]; omega), ?_⟩
              refine ⟨_, _, rfl, ?_, ?_, same_put sy' nl0⟩
              · rw [upd_ne nfl, hla, List.map_append]; exact hf'
              · rw [upd_same, hla, List.map_append]; rfl
          · refine (if_neg (fun z => c1 (V.int.inj (of_decide_eq_true z)))).mpr ?_
            rw [if_neg (fun z => c1 z.1)] at hla
            refine iteF ?_
            exact ⟨_, _, rfl, by rw [hla]; exact hf, by rw [hla]; exact hl, sy⟩
        · rintro σ Hy ⟨v5, v6, rfl, hf, hl, sy⟩
          have hln : (rf zs).length = (nums zs).length := by unfold rf nums; rw [List.length_map, List.length_map]
          rw [hln, List.take_length] at hf hl
          obtain ⟨st2, sub, more, m1, m2⟩ := stk_step st
          have hle := inr st2.snd st2.nd
          have q1 := congrArg List.length m1
          have q2 := congrArg List.length m2
          rw [List.length_append] at q1 q2 hll
          rw [List.length_singleton] at hll
          refine ⟨_, _, _, _, _, rfl, st2, by omega, ?_, hf, hl, sy⟩
          rw [List.length_append, List.length_singleton]
          omega
end
end K03


set_option Elab.async false
set_option maxRecDepth 100000
set_option maxHeartbeats 1000000
set_option linter.all false
namespace K03
open PySem PySem.Spec PyProof.Rows L2 NetM
abbrev sIsNet : Stmt := top 28
theorem scIsNet : FnScope ["many_here", "pairs_here", "both", "tail", "head"] ["many_here", "pairs_here"] (defScope sIsNet) := ⟨rfl, rfl, rfl, by decide +kernel, rfl, by decide +kernel, by decide +kernel⟩
/-- whether it is a net: all hangs together, nothing leads back -/
def spIsNet (K : PySem.W.Frag) : Sp := fun vs H Q _ => ∃ (a : Addr) (n : Nat) (zs : Zs), vs = [.int n, .ref a] ∧ H a = some (.lst (rf zs)) ∧ PL H zs ∧ zs.length ≤ 400 ∧ 0 < n ∧ n ≤ 8 ∧ (∀ t h, (t, h) ∈ nums zs → InR n t ∧ InR n h) ∧
  ∀ (b : Bool) (H' : Hp), (b = true ↔ (rounds (nums zs) n [0]).length = n ∧ (ordr (nums zs) n n []).length = n) → Same H H' → Q (.bl b) H'
section
variable {P : Program} {w : World} {K : PySem.W.Frag} {mg : Str → Option Value} {base : Heap}
theorem ok_isnet {f fR : Addr} {fd fdR : FuncData} (F : Fun K "_law_is_net" "_law_is_net" sIsNet f fd) (GR : FnOk P w K mg base CX0 1 fR fdR ["pairs_here", "begin"] (spReach K)) (FR : Fun K "_law_reach" "_law_reach" sReach fR fdR) (bR : L2.Binds K fdR ["pairs_here", "begin"] []) (gR : mg "_law_reach" = some (.ref fR))
    (mLen : mg "len" = none) : FnOk P w K mg base CX0 2 f fd ["many_here", "pairs_here"] (spIsNet K) := by
  refine F.ok scIsNet (fun vs H Q E h => ?_) (fun cdv A outer s H vs Q E hr h => ?_)
  · obtain ⟨a, n, zs, rfl, _⟩ := h
    rfl
  · obtain ⟨a, n, zs, rfl, hS, hp, hz, n0, n8, hE, k⟩ := h
    have nd := scIsNet.nd
    refine ⟨_, pss_cons (ps_set (i := 2) nd rfl (Or.inl rfl) (pe_op op_cat (pv 1) (pe_lc (own := [("tail", 3), ("head", 4)]) (g := gTup K 2 (gCons (gName 3) (gCons (gName 4) gNil))) (by rfl) nd (pi_list (pv 1)) (blkOk_by (N := ["many_here", "pairs_here", "both", "tail", "head"]) (sc := defScope sIsNet) (by decide +kernel)) (fun _ _ _ _ _ => pg_tup (by rfl) (pgs_cons (pg_name (i := 3) nd rfl (Or.inl rfl)) (pgs_cons (pg_name (i := 4) nd rfl (Or.inl rfl)) pgs_nil))) (fun _ _ _ _ _ => pts_nil)
          (fun _ _ _ _ _ => pe_tup (pa_cons (pv 4) (pa_cons (pv 3) pa_nil))))))
      (pss_cons (ps_if (pt_cmpR op_lt (pe_callB call_len_seq (by rfl) mLen PySem.boot_len (pa_cons (pe_call GR hr (by rfl) gR FR.kp bR .nil pass0 (pa_cons (pv 2) (pa_cons pe_int pa_nil))) pa_nil)) (pv 0) (nomark _)) (pss_one (ps_ret pe_bl)) pss_nil)
      (pss_one (ps_ret (pe_cmpR (op_eqD hr.units) (pe_lc (own := [("tail", 3), ("head", 4)]) (g := gTup K 2 (gCons (gName 3) (gCons (gName 4) gNil))) (by rfl) nd (pi_list (pv 1)) (blkOk_by (N := ["many_here", "pairs_here", "both", "tail", "head"]) (sc := defScope sIsNet) (by decide +kernel)) (fun _ _ _ _ _ => pg_tup (by rfl) (pgs_cons (pg_name (i := 3) nd rfl (Or.inl rfl)) (pgs_cons (pg_name (i := 4) nd rfl (Or.inl rfl)) pgs_nil)))
          (fun _ _ _ _ _ => pts_one (pt_cmpR (show OpR _ _ (rIn K false) from op_in_seq) (pv 3) (pe_call GR hr (by rfl) gR FR.kp bR .nil pass0 (pa_cons (pv 1) (pa_cons (pv 4) pa_nil))) rfl))
          (fun _ _ _ _ _ => pe_int)) (pe_lst pa_nil) (nomark _))))), ?_⟩
    -- both ways
    refine ⟨_, rfl, _, rfl, a, rfl, ⟨_, SqL.of hS⟩, fun D nD => lc_list (K := K) (a := a) (xs := rf zs) (fun i Hc => ∃ ws : Zs, nums ws = ((nums zs).take i).map (fun p => (p.2, p.1)) ∧ PL Hc ws ∧ Hc D = some (.lst (rf ws)) ∧ Same H Hc) ⟨[], rfl, fun z m => by simp at m, upd_same, same_upd nD⟩ (fun i Hc _ h => by obtain ⟨_, _, _, _, s⟩ := h; exact SqL.of (s _ _ hS)) ?_ ?_⟩
    · rintro i x Hc hi ⟨ws, hw, pw, eD, sc⟩
      have hzi : ∃ z, zs[i]? = some z ∧ x = .ref z.1 := by
        unfold rf at hi
        rw [List.getElem?_map] at hi
        cases e : zs[i]? with
        | none => rw [e] at hi; cases hi
        | some z => rw [e] at hi; cases hi; exact ⟨z, rfl, rfl⟩
      obtain ⟨⟨t, p1, p2⟩, hz1, rfl⟩ := hzi
      have hmem : (t, p1, p2) ∈ zs := List.mem_of_getElem? hz1
      have hil : i < zs.length := (List.getElem?_eq_some_iff.mp hz1).1
      have hwl : ws.length ≤ i := by
        have := congrArg List.length hw
        unfold nums at this
        rw [List.length_map, List.length_map, List.length_take] at this
        omega
      refine ⟨t, [.int p1, .int p2], rfl, .inl (.inl (sc _ _ (hp _ hmem))), rfl, .int p1, [.int p2], rfl, .int p2, [], rfl, rfl, rfl, ?_⟩
      dsimp only [tYes]
      refine iteT ?_
      refine ⟨_, rfl, _, rfl, by show 2 ≤ sizeLine; decide, fun q nq => ⟨_, same_upd nq _ _ eD, small_2000 (by rw [rf_len]; omega), ?_⟩⟩
      refine ⟨ws ++ [(q, p2, p1)], ?_, ((pw.same (same_upd nq)).app upd_same).put (same_upd nq _ _ eD), by rw [upd_same, rf_app], same_put (sc.trans (same_upd nq)) nD⟩
      have htk : (nums zs).take (i + 1) = (nums zs).take i ++ [(p1, p2)] := by
        rw [List.take_add_one, nums_get hz1]; rfl
      rw [htk, List.map_append, ← hw]
      unfold nums
      rw [List.map_append]
      rfl
    · rintro Hc ⟨ws, hw, pw, eD, sc⟩
      have hln : (rf zs).length = (nums zs).length := by unfold rf nums; rw [List.length_map, List.length_map]
      rw [hln, List.take_length] at hw
      have hwl : ws.length = zs.length := by
        have := congrArg List.length hw
        unfold nums at this
        rw [List.length_map, List.length_map, List.length_map] at this
        exact this
      refine ⟨a, D, _, _, rfl, rfl, sc _ _ hS, eD, by rw [rf_len, rf_len]; exact Nat.le_of_lt (small1000 (by omega)), fun b2 nb2 => ?_⟩
      have sb : Same Hc (upd Hc b2 (.lst (rf zs ++ rf ws))) := same_upd nb2
      have eb : (upd Hc b2 (.lst (rf zs ++ rf ws))) b2 = some (.lst (rf (zs ++ ws))) := by rw [upd_same]; unfold rf; rw [List.map_append]
      generalize upd Hc b2 (.lst (rf zs ++ rf ws)) = Hb at sb eb
      have pb : PL Hb (zs ++ ws) := fun z m => by
        rcases List.mem_append.mp m with m | m
        · exact (sc.trans sb) _ _ (hp z m)
        · exact sb _ _ (pw z m)
      have hnb : nums (zs ++ ws) = both (nums zs) := by unfold nums; rw [List.map_append]; unfold both; congr 1
      have hEb : ∀ t h, (t, h) ∈ nums (zs ++ ws) → InR n t ∧ InR n h := fun t h m => by
        rw [hnb] at m
        rcases mem_both.mp m with m | m
        · exact hE t h m
        · exact (hE h t m).symm
      refine ⟨_, rfl, b2, 0, n, zs ++ ws, rfl, SqL.of eb, pb, by rw [List.length_append]; omega, n8, by unfold InR; omega, hEb, fun fs p H2 nfs hfs lfs s2 np hpf => ?_⟩
      rw [hnb] at hfs
      have hang := hangs_iff n0 hE nfs hfs
      have s02 : Same H H2 := sc.trans (sb.trans s2)
      refine ⟨p, _, rfl, .inl (SqL.of hpf), _, rfl, ?_⟩
      refine ⟨_, _, rfl, rfl, _, rfl, ?_⟩
      rw [List.length_map]
      by_cases c : (fs.length : Int) < (n : Int)
      · refine (if_pos (decide_eq_true c)).mpr ?_
        exact k false H2 ⟨fun z => (by cases z), fun z => absurd (by omega : fs.length < n) (hang.mp z.1)⟩ s02
      · refine (if_neg (by rw [decide_eq_false c]; exact Bool.false_ne_true)).mpr ?_
        have hh : (rounds (nums zs) n [0]).length = n := hang.mpr (by omega)
        refine ⟨_, rfl, a, rfl, ⟨_, SqL.of (s02 _ _ hS)⟩, fun D3 nD3 => lc_list (K := K) (a := a) (xs := rf zs) (fun i Hc => ∃ L : List Int, L.length ≤ i ∧ (L = [] ↔ ∀ q ∈ (nums zs).take i, ¬ Rch (nums zs) q.2 q.1) ∧ Hc D3 = some (.lst (L.map V.int)) ∧ Same H2 Hc) ⟨[], Nat.le_refl _, ⟨fun _ q m => by simp at m, fun _ => rfl⟩, upd_same, same_upd nD3⟩ (fun i Hc _ h => by obtain ⟨_, _, _, _, s⟩ := h; exact SqL.of ((s02.trans s) _ _ hS)) ?_ ?_⟩
        · rintro i x Hc hi ⟨L, hL, iL, eD3, s3⟩
          have hzi : ∃ z, zs[i]? = some z ∧ x = .ref z.1 := by
            unfold rf at hi
            rw [List.getElem?_map] at hi
            cases e : zs[i]? with
            | none => rw [e] at hi; cases hi
            | some z => rw [e] at hi; cases hi; exact ⟨z, rfl, rfl⟩
          obtain ⟨⟨t, p1, p2⟩, hz1, rfl⟩ := hzi
          have hmem : (t, p1, p2) ∈ zs := List.mem_of_getElem? hz1
          have hmn : (p1, p2) ∈ nums zs := List.mem_map.mpr ⟨_, hmem, rfl⟩
          have hil : i < zs.length := (List.getElem?_eq_some_iff.mp hz1).1
          have s03 : Same H Hc := s02.trans s3
          have htk : (nums zs).take (i + 1) = (nums zs).take i ++ [(p1, p2)] := by
            rw [List.take_add_one, nums_get hz1]; rfl
          refine ⟨t, [.int p1, .int p2], rfl, .inl (.inl (s03 _ _ (hp _ hmem))), rfl, .int p1, [.int p2], rfl, .int p2, [], rfl, rfl, rfl, ?_⟩
          refine ⟨_, rfl, _, rfl, _, rfl, a, p2, n, zs, rfl, SqL.of (s03 _ _ hS), hp.same s03, by omega, n8, (hE _ _ hmn).2, hE, fun gs q H4 ngs hgs lgs s4 nq hq => ⟨q, _, rfl, .inl (SqL.of hq), rfl, flat_ints _, _, rfl, ?_⟩⟩
          rw [inV_ints]
          by_cases c2 : p1 ∈ gs
          · rw [decide_eq_true c2]
            refine iteT ?_
            refine ⟨_, s4 _ _ eD3, small_2000 (by rw [List.length_map]; omega), L ++ [1], by rw [List.length_append]; exact Nat.succ_le_succ hL, ⟨fun z => by simp at z, fun z => ?_⟩, by rw [upd_same, List.map_append]; rfl, same_put (s3.trans s4) nD3⟩
            rw [htk] at z
            exact absurd ((hgs p1).mp c2) (z (p1, p2) (List.mem_append_right _ (List.mem_singleton.mpr rfl)))
          · rw [decide_eq_false c2]
            refine iteF ?_
            refine ⟨L, by omega, ?_, s4 _ _ eD3, s3.trans s4⟩
            rw [iL, htk]
            constructor
            · intro z q' m
              rcases List.mem_append.mp m with m | m
              · exact z q' m
              · rw [List.mem_singleton] at m
                subst m
                exact fun r => c2 ((hgs p1).mpr r)
            · exact fun z q' m => z q' (List.mem_append_left _ m)
        · rintro Hc ⟨L, hL, iL, eD3, s3⟩
          rw [hln, List.take_length] at iL
          refine ⟨Nat.zero_le _, fun q nq => ⟨_, _, dp_ints (SqL.of (same_upd nq _ _ eD3)), .lst (SqL.of upd_same) .nil, shp_ints L, rfl, k _ _ ?_ (s02.trans (s3.trans (same_upd nq)))⟩⟩
          have hl : (PyData.eqv (.list (L.map PyData.int)) (.list []) = true) ↔ L = [] := by
            cases L with
            | nil => exact ⟨fun _ => rfl, fun _ => rfl⟩
            | cons y r => exact ⟨fun z => (by cases z), fun z => (by cases z)⟩
          rw [hl, iL]
          constructor
          · intro z
            exact ⟨hh, (order_iff hE).mpr fun t h m r => z (t, h) m r⟩
          · rintro ⟨_, z⟩ q' m r
            exact (order_iff hE).mp z q'.1 q'.2 m r
end
end K03


set_option Elab.async false
set_option maxRecDepth 100000
set_option maxHeartbeats 1000000
set_option linter.all false
namespace K03
open PySem PySem.Spec PyProof.Rows L2 NetM
def tEi (t t' : TE) : TE := fun σ H Q => t σ H Q ∨ t' σ H Q
def iEi (t t' : TI) : TI := fun σ H R => t σ H R ∨ t' σ H R
def gEi (t t' : TG) : TG := fun v σ H Q => t v σ H Q ∨ t' v σ H Q
/-! either reading, whichever holds -/
section
variable {X : Cx}
theorem pe_either {e : Expr} {t t' : TE} (h : PE X e t) (h' : PE X e t') : PE X e (tEi t t') := ⟨fun pins s σ H Q I q => q.elim (h.run pins s σ H Q I) (h'.run pins s σ H Q I)⟩
theorem pi_either {tg e : Expr} {t t' : TI} (h : PI X tg e t) (h' : PI X tg e t') : PI X tg e (iEi t t') := ⟨fun pins s σ H R I q => q.elim (h.run pins s σ H R I) (h'.run pins s σ H R I)⟩
theorem pg_either {e : Expr} {t t' : TG} (h : PG X e t) (h' : PG X e t') : PG X e (gEi t t') := ⟨fun pins s σ H v u Q I r q => q.elim (h.run pins s σ H v u Q I r) (h'.run pins s σ H v u Q I r)⟩
end
end K03


set_option Elab.async false
set_option maxRecDepth 100000
set_option maxHeartbeats 1000000
set_option linter.all false
namespace K03
open PySem PySem.Spec PyProof.Rows L2 NetM
abbrev sHangs : Stmt := top 11
def SqA (K : PySem.W.Frag) (H : Hp) (a : Addr) (xs : List V) : Prop := SqL K H a xs ∨ SqT K H a xs
theorem SqA.same {K : PySem.W.Frag} {H H' : Hp} {a : Addr} {xs : List V} (s : Same H H') (h : SqA K H a xs) : SqA K H' a xs := by
  rcases h with h | (h | ⟨o, h⟩) | h
  · exact .inl (s.seq h)
  · exact .inr (.inl (.inl (s _ _ h)))
  · exact .inr (.inl (.inr ⟨o, s _ _ h⟩))
  · exact .inr (.inr h)
theorem sqt_same {K : PySem.W.Frag} {H H' : Hp} (s : Same H H') {a : Addr} {xs : List V} (h : SqT K H a xs) : SqT K H' a xs := by
  rcases h with (h | ⟨o, h⟩) | h
  · exact .inl (.inl (s _ _ h))
  · exact .inl (.inr ⟨o, s _ _ h⟩)
  · exact .inr h
/-- pairs as lists or tuples -/
def PrA (K : PySem.W.Frag) (H : Hp) (zs : Zs) : Prop := ∀ z ∈ zs, SqA K H z.1 [.int z.2.1, .int z.2.2]
theorem PrA.same {K : PySem.W.Frag} {H H' : Hp} {zs : Zs} (s : Same H H') (p : PrA K H zs) : PrA K H' zs := fun z m => (p z m).same s
def dk (l : List Int) : List (Key × V) := l.map fun x => (Sum.inl x, V.bl true)
theorem dk_get (l : List Int) (t : Int) : (valV (dk l) (Sum.inl t)).isSome = decide (t ∈ l) := by
  induction l with
  | nil => rfl
  | cons x r ih =>
    by_cases c : x = t
    · subst c
      have : valV (dk (x :: r)) (Sum.inl x) = some (.bl true) := valV_pos rfl
      rw [this]
      simp
    · have : valV (dk (x :: r)) (Sum.inl t) = valV (dk r) (Sum.inl t) := valV_neg fun e => c (Sum.inl.inj e)
      rw [this, ih]
      have c' : ¬ t = x := fun e => c e.symm
      simp [c']
theorem dk_put (l : List Int) (t : Int) : putK (dk l) (Sum.inl t) (.bl true) = dk (ins t l) := by
  unfold putK ins
  have e : ((dk l).any fun kv => decide (kv.1 = (Sum.inl t : Key))) = decide (t ∈ l) := by
    unfold dk
    rw [List.any_map]
    induction l with
    | nil => rfl
    | cons x r ih =>
      rw [List.any_cons, ih]
      by_cases c : x = t
      · subst c; simp
      · have c' : ¬ t = x := fun e => c e.symm
        simp [c, c']
  rw [e]
  by_cases c : t ∈ l
  · rw [if_pos (decide_eq_true c), if_pos c]
    unfold dk
    rw [List.map_map]
    refine List.map_congr_left fun x _ => ?_
    show (if (Sum.inl x : Key) = Sum.inl t then ((Sum.inl x : Key), V.bl true) else (Sum.inl x, V.bl true)) = _
    by_cases d : (Sum.inl x : Key) = Sum.inl t
    · rw [if_pos d]
    · rw [if_neg d]
  · rw [decide_eq_false c, if_neg (by simp), if_neg c]
    unfold dk
    rw [List.map_append]
    rfl
theorem ins_le {l : List Int} {x : Int} (h : l.length ≤ 8) : (ins x l).length ≤ 9 := by
  unfold ins
  by_cases c : x ∈ l
  · rw [if_pos c]; omega
  · rw [if_neg c, List.length_append, List.length_singleton]; omega
theorem scHangs : FnScope ["places", "arrows", "found", "_", "tail", "head"] ["places", "arrows"] (defScope sHangs) := ⟨rfl, rfl, rfl, by decide +kernel, rfl, by decide +kernel, by decide +kernel⟩
def spHangs (K : PySem.W.Frag) : Sp := fun vs H Q _ => ∃ (a : Addr) (n : Nat) (zs : Zs), vs = [.int n, .ref a] ∧ SqA K H a (rf zs) ∧ PrA K H zs ∧ zs.length ≤ 400 ∧ 0 < n ∧ n ≤ 8 ∧ (∀ t h, (t, h) ∈ nums zs → InR n t ∧ InR n h) ∧
  ∀ H' : Hp, Same H H' → Q (.bl (decide (V.int (rounds (nums zs) n [0]).length = V.int n))) H'
section
variable {P : Program} {w : World} {K : PySem.W.Frag} {mg : Str → Option Value} {base : Heap}
theorem ok_hangs {f : Addr} {fd : FuncData} (F : Fun K "_hangs_together" "_hangs_together" sHangs f fd) (mRa : mg "range" = none) (mLen : mg "len" = none) : FnOk P w K mg base CX0 1 f fd ["places", "arrows"] (spHangs K) := by
  refine F.ok scHangs (fun vs H Q E h => ?_) (fun cdv A outer s H vs Q E hr h => ?_)
  · obtain ⟨a, n, zs, rfl, _⟩ := h
    rfl
  · obtain ⟨a, n, zs, rfl, hS, hp, hz, n0, n8, hE, k⟩ := h
    have nd := scHangs.nd
    have hu := hu_of hr
    refine ⟨_, pss_cons (ps_set (i := 2) nd rfl (Or.inl rfl) (pe_disp (pps_cons pe_int pe_bl pps_nil) (by rfl) (by rfl) (fun z => by cases z) (by decide)))
      (pss_cons (ps_for PassesOwn.never rfl (pi_range1 (by rfl) mRa (pa_cons (pv 0) pa_nil)) (pg_name (i := 3) nd rfl (Or.inl rfl))
        (pss_one (ps_for PassesOwn.never rfl (pi_either (pi_list (pv 1)) (pi_tup (pv 1))) (pg_either (pg_tup (by rfl) (pgs_cons (pg_name (i := 4) nd rfl (Or.inl rfl)) (pgs_cons (pg_name (i := 5) nd rfl (Or.inl rfl)) pgs_nil))) (pg_lst (by rfl) (pgs_cons (pg_name (i := 4) nd rfl (Or.inl rfl)) (pgs_cons (pg_name (i := 5) nd rfl (Or.inl rfl)) pgs_nil))))
          (pss_one (ps_if (PW.pt (pw_or (pt_cmp (pc_din hu (pv 4) (pv 2))) (pw_or1 (pt_cmp (pc_din hu (pv 5) (pv 2)))))) (pss_cons (ps_dput hu (pv 2) (pv 4) pe_bl rfl) (pss_one (ps_dput hu (pv 2) (pv 5) pe_bl rfl))) pss_nil)))))
      (pss_one (ps_ret (pe_cmpR op_eq (pe_callB call_lenD (by rfl) mLen PySem.boot_len (pa_cons (pv 2) pa_nil)) (pv 0) (nomark _))))), ?_⟩
    intro fo nf
    refine ⟨upd_same, [(Sum.inl 0, .bl true)], rfl, by decide, ?_⟩
    have s0' : Same H (upd (upd H fo (.dK [])) fo (.dK (mergeK [] [((Sum.inl 0 : Key), V.bl true)]))) := same_put (same_put (Same.refl _) nf) nf
    have e0 : (upd (upd H fo (.dK [])) fo (.dK (mergeK [] [((Sum.inl 0 : Key), V.bl true)]))) fo = some (.dK (dk [0])) := upd_same
    generalize upd (upd H fo (.dK [])) fo (.dK (mergeK [] [((Sum.inl 0 : Key), V.bl true)])) = H0 at s0' e0
    have bnd : ∀ l : List Int, l.Nodup → (∀ x ∈ l, Rch (both (nums zs)) 0 x) → l.length ≤ 8 := fun l ndl h => by
      have := sub_len (m := rng n) ndl fun x hx => mem_rng.mpr (by
        have r := h x hx
        cases r with
        | refl => unfold InR; omega
        | step _ e =>
          rcases mem_both.mp e with e | e
          · exact (hE _ _ e).2
          · exact (hE _ _ e).1)
      rw [rng_len] at this
      omega
    have lenb : ∀ m i : Nat, (round ((nums zs).take i) (rounds (nums zs) m [0])).length ≤ 8 := fun m i =>
      bnd _ (round_nodup _ _ (rounds_nodup _ m _ (List.nodup_cons.mpr ⟨by simp, List.nodup_nil⟩))) (round_snd _ _ (fun p hp => List.mem_of_mem_take hp) (rounds_snd m _ fun x hx => by rw [List.mem_singleton.mp hx]; exact .refl 0))
    refine ⟨_, rfl, (n : Int), rfl, by omega, by omega, ?_⟩
    rw [Int.toNat_natCast]
    refine for_range (lo := 0) (n := n) (fun m σ Hx => ∃ v3 v4 v5 : Option V, σ = [some (.int n), some (.ref a), some (.ref fo), v3, v4, v5] ∧ Hx fo = some (.dK (dk (rounds (nums zs) m [0]))) ∧ Same H Hx) ⟨none, none, none, rfl, e0, s0'⟩ ?_ ?_
    · rintro m σ Hx hm ⟨v3, v4, v5, rfl, ef, s0⟩
      have hln : (rf zs).length = (nums zs).length := by unfold rf nums; rw [List.length_map, List.length_map]
      rcases id hS with h | h
      · refine .inl ⟨_, rfl, a, rfl, ⟨_, s0.seq h⟩, ?_⟩
        refine for_list (K := K) (a := a) (xs := rf zs) (fun i σ Hy => ∃ v4 v5 : Option V, σ = [some (.int n), some (.ref a), some (.ref fo), some (.int (0 + (m : Int))), v4, v5] ∧ Hy fo = some (.dK (dk (round ((nums zs).take i) (rounds (nums zs) m [0])))) ∧ Same H Hy)
          ⟨v4, v5, rfl, by rw [List.take_zero]; exact ef, s0⟩ (fun i σ Hy _ hh => by obtain ⟨_, _, _, _, s⟩ := hh; exact s.seq h) ?_ ?_
        · skip
          rintro i x σ Hy hi ⟨v4, v5, rfl, hf, sy⟩
          have hzi : ∃ z, zs[i]? = some z ∧ x = .ref z.1 := by
            unfold rf at hi
            rw [List.getElem?_map] at hi
            cases e : zs[i]? with
            | none => rw [e] at hi; cases hi
            | some z => rw [e] at hi; cases hi; exact ⟨z, rfl, rfl⟩
          obtain ⟨⟨t, p1, p2⟩, hz1, rfl⟩ := hzi
          have hmem : (t, p1, p2) ∈ zs := List.mem_of_getElem? hz1
          have htk : (nums zs).take (i + 1) = (nums zs).take i ++ [(p1, p2)] := by
            rw [List.take_add_one, nums_get hz1]; rfl
          have hra := round_app p1 p2 ((nums zs).take i) (rounds (nums zs) m [0])
          rw [← htk] at hra
          have hlen := lenb m i
          generalize round ((nums zs).take i) (rounds (nums zs) m [0]) = l at hf hra hlen
          rcases hp.same sy _ hmem with pt | pt
          · refine .inr ⟨t, _, rfl, pt, rfl, .int p1, [.int p2], rfl, .int p2, [], rfl, rfl, ?_⟩
            refine ⟨_, rfl, _, rfl, fo, _, rfl, DGet.k (k := Sum.inl p1) hf, _, rfl, ?_⟩
            rw [dk_get]
            by_cases c1 : p1 ∈ l
            · rw [decide_eq_true c1]
              refine iteT ?_
              refine iteT ?_
              refine ⟨_, rfl, _, rfl, fo, _, rfl, DPut.k (k := Sum.inl p1) hf (small_2000 (by unfold dk; rw [List.length_map]; omega)), ?_⟩
              rw [dk_put]
              have hf2 : (upd Hy fo (.dK (dk (ins p1 l)))) fo = some (.dK (dk (ins p1 l))) := upd_same
              have h9 : (ins p1 l).length ≤ 9 := ins_le hlen
              refine ⟨_, rfl, _, rfl, fo, _, rfl, DPut.k (k := Sum.inl p2) hf2 (small_2000 (by unfold dk; rw [List.length_map]; omega)), ?_⟩
              rw [dk_put]
              refine ⟨_, _, rfl, ?_, same_put (same_put sy nf) nf⟩
              rw [upd_same, hra, if_pos (.inl c1)]
            · rw [decide_eq_false c1]
              refine iteF ?_
              refine ⟨_, rfl, _, rfl, fo, _, rfl, DGet.k (k := Sum.inl p2) hf, _, rfl, ?_⟩
              rw [dk_get]
              by_cases c2 : p2 ∈ l
              · rw [decide_eq_true c2]
                refine iteT ?_
                refine ⟨_, rfl, _, rfl, fo, _, rfl, DPut.k (k := Sum.inl p1) hf (small_2000 (by unfold dk; rw [List.length_map]; omega)), ?_⟩
                rw [dk_put]
                have hf2 : (upd Hy fo (.dK (dk (ins p1 l)))) fo = some (.dK (dk (ins p1 l))) := upd_same
                have h9 : (ins p1 l).length ≤ 9 := ins_le hlen
                refine ⟨_, rfl, _, rfl, fo, _, rfl, DPut.k (k := Sum.inl p2) hf2 (small_2000 (by unfold dk; rw [List.length_map]; omega)), ?_⟩
                rw [dk_put]
                refine ⟨_, _, rfl, ?_, same_put (same_put sy nf) nf⟩
                rw [upd_same, hra, if_pos (.inr c2)]
              · rw [decide_eq_false c2]
                refine iteF ?_
                exact ⟨_, _, rfl, by rw [hra, if_neg (fun z => z.elim c1 c2)]; exact hf, sy⟩
          · refine .inl ⟨t, _, rfl, pt, rfl, .int p1, [.int p2], rfl, .int p2, [], rfl, rfl, ?_⟩
            refine ⟨_, rfl, _, rfl, fo, _, rfl, DGet.k (k := Sum.inl p1) hf, _, rfl, ?_⟩
            rw [dk_get]
            by_cases c1 : p1 ∈ l
            · rw [decide_eq_true c1]
              refine iteT ?_
              refine iteT ?_
              refine ⟨_, rfl, _, rfl, fo, _, rfl, DPut.k (k := Sum.inl p1) hf (small_2000 (by unfold dk; rw [List.length_map]; omega)), ?_⟩
              rw [dk_put]
              have hf2 : (upd Hy fo (.dK (dk (ins p1 l)))) fo = some (.dK (dk (ins p1 l))) := upd_same
              have h9 : (ins p1 l).length ≤ 9 := ins_le hlen
              refine ⟨_, rfl, _, rfl, fo, _, rfl, DPut.k (k := Sum.inl p2) hf2 (small_2000 (by unfold dk; rw [List.length_map]; omega)), ?_⟩
              rw [dk_put]
              refine ⟨_, _, rfl, ?_, same_put (same_put sy nf) nf⟩
              rw [upd_same, hra, if_pos (.inl c1)]
            · rw [decide_eq_false c1]
              refine iteF ?_
              refine ⟨_, rfl, _, rfl, fo, _, rfl, DGet.k (k := Sum.inl p2) hf, _, rfl, ?_⟩
              rw [dk_get]
              by_cases c2 : p2 ∈ l
              · rw [decide_eq_true c2]
                refine iteT ?_
                refine ⟨_, rfl, _, rfl, fo, _, rfl, DPut.k (k := Sum.inl p1) hf (small_2000 (by unfold dk; rw [List.length_map]; omega)), ?_⟩
                rw [dk_put]
                have hf2 : (upd Hy fo (.dK (dk (ins p1 l)))) fo = some (.dK (dk (ins p1 l))) := upd_same
                have h9 : (ins p1 l).length ≤ 9 := ins_le hlen
                refine ⟨_, rfl, _, rfl, fo, _, rfl, DPut.k (k := Sum.inl p2) hf2 (small_2000 (by unfold dk; rw [List.length_map]; omega)), ?_⟩
                rw [dk_put]
                refine ⟨_, _, rfl, ?_, same_put (same_put sy nf) nf⟩
                rw [upd_same, hra, if_pos (.inr c2)]
              · rw [decide_eq_false c2]
                refine iteF ?_
                exact ⟨_, _, rfl, by rw [hra, if_neg (fun z => z.elim c1 c2)]; exact hf, sy⟩
        · rintro σ Hy ⟨v4, v5, rfl, hf, sy⟩
          rw [hln, List.take_length, ← rounds_succ] at hf
          exact ⟨_, _, _, rfl, hf, sy⟩
      · refine .inr ⟨_, rfl, a, rfl, ⟨_, sqt_same s0 h⟩, ?_⟩
        refine for_tup (K := K) (a := a) (xs := rf zs) (fun i σ Hy => ∃ v4 v5 : Option V, σ = [some (.int n), some (.ref a), some (.ref fo), some (.int (0 + (m : Int))), v4, v5] ∧ Hy fo = some (.dK (dk (round ((nums zs).take i) (rounds (nums zs) m [0])))) ∧ Same H Hy)
          ⟨v4, v5, rfl, by rw [List.take_zero]; exact ef, s0⟩ (fun i σ Hy _ hh => by obtain ⟨_, _, _, _, s⟩ := hh; exact sqt_same s h) ?_ ?_
        · skip
          rintro i x σ Hy hi ⟨v4, v5, rfl, hf, sy⟩
          have hzi : ∃ z, zs[i]? = some z ∧ x = .ref z.1 := by
            unfold rf at hi
            rw [List.getElem?_map] at hi
            cases e : zs[i]? with
            | none => rw [e] at hi; cases hi
            | some z => rw [e] at hi; cases hi; exact ⟨z, rfl, rfl⟩
          obtain ⟨⟨t, p1, p2⟩, hz1, rfl⟩ := hzi
          have hmem : (t, p1, p2) ∈ zs := List.mem_of_getElem? hz1
          have htk : (nums zs).take (i + 1) = (nums zs).take i ++ [(p1, p2)] := by
            rw [List.take_add_one, nums_get hz1]; rfl
          have hra := round_app p1 p2 ((nums zs).take i) (rounds (nums zs) m [0])
          rw [← htk] at hra
          have hlen := lenb m i
          generalize round ((nums zs).take i) (rounds (nums zs) m [0]) = l at hf hra hlen
          rcases hp.same sy _ hmem with pt | pt
          · refine .inr ⟨t, _, rfl, pt, rfl, .int p1, [.int p2], rfl, .int p2, [], rfl, rfl, ?_⟩
            refine ⟨_, rfl, _, rfl, fo, _, rfl, DGet.k (k := Sum.inl p1) hf, _, rfl, ?_⟩
            rw [dk_get]
            by_cases c1 : p1 ∈ l
            · rw [decide_eq_true c1]
              refine iteT ?_
              refine iteT ?_
              refine ⟨_, rfl, _, rfl, fo, _, rfl, DPut.k (k := Sum.inl p1) hf (small_2000 (by unfold dk; rw [List.length_map]; omega)), ?_⟩
              rw [dk_put]
              have hf2 : (upd Hy fo (.dK (dk (ins p1 l)))) fo = some (.dK (dk (ins p1 l))) := upd_same
              have h9 : (ins p1 l).length ≤ 9 := ins_le hlen
              refine ⟨_, rfl, _, rfl, fo, _, rfl, DPut.k (k := Sum.inl p2) hf2 (small_2000 (by unfold dk; rw [List.length_map]; omega)), ?_⟩
              rw [dk_put]
              refine ⟨_, _, rfl, ?_, same_put (same_put sy nf) nf⟩
              rw [upd_same, hra, if_pos (.inl c1)]
            · rw [decide_eq_false c1]
              refine iteF ?_
              refine ⟨_, rfl, _, rfl, fo, _, rfl, DGet.k (k := Sum.inl p2) hf, _, rfl, ?_⟩
              rw [dk_get]
              by_cases c2 : p2 ∈ l
              · rw [decide_eq_true c2]
                refine iteT ?_
                refine ⟨_, rfl, _, rfl, fo, _, rfl, DPut.k (k := Sum.inl p1) hf (small_2000 (by unfold dk; rw [List.length_map]; omega)), ?_⟩
                rw [dk_put]
                have hf2 : (upd Hy fo (.dK (dk (ins p1 l)))) fo = some (.dK (dk (ins p1 l))) := upd_same
                have h9 : (ins p1 l).length ≤ 9 := ins_le hlen
                refine ⟨_, rfl, _, rfl, fo, _, rfl, DPut.k (k := Sum.inl p2) hf2 (small_2000 (by unfold dk; rw [List.length_map]; omega)), ?_⟩
                rw [dk_put]
                refine ⟨_, _, rfl, ?_, same_put (same_put sy nf) nf⟩
                rw [upd_same, hra, if_pos (.inr c2)]
              · rw [decide_eq_false c2]
                refine iteF ?_
                exact ⟨_, _, rfl, by rw [hra, if_neg (fun z => z.elim c1 c2)]; exact hf, sy⟩
          · refine .inl ⟨t, _, rfl, pt, rfl, .int p1, [.int p2], rfl, .int p2, [], rfl, rfl, ?_⟩
            refine ⟨_, rfl, _, rfl, fo, _, rfl, DGet.k (k := Sum.inl p1) hf, _, rfl, ?_⟩
            rw [dk_get]
            by_cases c1 : p1 ∈ l
            · rw [decide_eq_true c1]
              refine iteT ?_
              refine iteT ?_
              refine ⟨_, rfl, _, rfl, fo, _, rfl, DPut.k (k := Sum.inl p1) hf (small_2000 (by unfold dk; rw [List.length_map]; omega)), ?_⟩
              rw [dk_put]
              have hf2 : (upd Hy fo (.dK (dk (ins p1 l)))) fo = some (.dK (dk (ins p1 l))) := upd_same
              have h9 : (ins p1 l).length ≤ 9 := ins_le hlen
              refine ⟨_, rfl, _, rfl, fo, _, rfl, DPut.k (k := Sum.inl p2) hf2 (small_2000 (by unfold dk; rw [List.length_map]; omega)), ?_⟩
              rw [dk_put]
              refine ⟨_, _, rfl, ?_, same_put (same_put sy nf) nf⟩
              rw [upd_same, hra, if_pos (.inl c1)]
            · rw [decide_eq_false c1]
              refine iteF ?_
              refine ⟨_, rfl, _, rfl, fo, _, rfl, DGet.k (k := Sum.inl p2) hf, _, rfl, ?_⟩
              rw [dk_get]
              by_cases c2 : p2 ∈ l
              · rw [decide_eq_true c2]
                refine iteT ?_
                refine ⟨_, rfl, _, rfl, fo, _, rfl, DPut.k (k := Sum.inl p1) hf (small_2000 (by unfold dk; rw [List.length_map]; omega)), ?_⟩
                rw [dk_put]
                have hf2 : (upd Hy fo (.dK (dk (ins p1 l)))) fo = some (.dK (dk (ins p1 l))) := upd_same
                have h9 : (ins p1 l).length ≤ 9 := ins_le hlen
                refine ⟨_, rfl, _, rfl, fo, _, rfl, DPut.k (k := Sum.inl p2) hf2 (small_2000 (by unfold dk; rw [List.length_map]; omega)), ?_⟩
                rw [dk_put]
                refine ⟨_, _, rfl, ?_, same_put (same_put sy nf) nf⟩
                rw [upd_same, hra, if_pos (.inr c2)]
              · rw [decide_eq_false c2]
                refine iteF ?_
                exact ⟨_, _, rfl, by rw [hra, if_neg (fun z => z.elim c1 c2)]; exact hf, sy⟩
        · rintro σ Hy ⟨v4, v5, rfl, hf, sy⟩
          rw [hln, List.take_length, ← rounds_succ] at hf
          exact ⟨_, _, _, rfl, hf, sy⟩
    · rintro σ Hx ⟨v3, v4, v5, rfl, ef, s0⟩
      refine ⟨_, rfl, fo, _, rfl, ef, _, rfl, rfl, ?_⟩
      have := k Hx s0
      unfold dk
      rw [List.length_map]
      exact this
end
end K03


set_option Elab.async false
set_option maxRecDepth 100000
set_option maxHeartbeats 1000000
set_option linter.all false
namespace K03
open PySem PySem.Spec PyProof.Rows L2 NetM
abbrev sBehind : Stmt := top 12
theorem scBehind : FnScope ["places", "arrows", "order", "_", "ready", "place", "tail", "head"] ["places", "arrows"] (defScope sBehind) := ⟨rfl, rfl, rfl, by decide +kernel, rfl, by decide +kernel, by decide +kernel⟩
def spBehind (K : PySem.W.Frag) : Sp := fun vs H Q _ => ∃ (a : Addr) (n : Nat) (zs : Zs), vs = [.int n, .ref a] ∧ SqA K H a (rf zs) ∧ PrA K H zs ∧ zs.length ≤ 400 ∧ 0 < n ∧ n ≤ 8 ∧
  ∀ (p : Addr) (H' : Hp), Same H H' → H p = none → H' p = some (.lst ((ordr (nums zs) n n []).map V.int)) → Q (.ref p) H'
theorem rf_inv {zs : Zs} {i : Nat} {x : V} (hi : (rf zs)[i]? = some x) : ∃ z, zs[i]? = some z ∧ x = .ref z.1 := by
  unfold rf at hi
  rw [List.getElem?_map] at hi
  cases e : zs[i]? with
  | none => rw [e] at hi; cases hi
  | some z => rw [e] at hi; cases hi; exact ⟨z, rfl, rfl⟩
theorem rng_succ (i : Nat) : rng (i + 1) = rng i ++ [(i : Int)] := by unfold rng; rw [List.range_succ, List.map_append]; rfl
section
variable {P : Program} {w : World} {K : PySem.W.Frag} {mg : Str → Option Value} {base : Heap}
theorem ok_behind {f : Addr} {fd : FuncData} (F : Fun K "places_behind" "places_behind" sBehind f fd) (mRa : mg "range" = none) (mAll : mg "all" = none) : FnOk P w K mg base CX0 1 f fd ["places", "arrows"] (spBehind K) := by
  refine F.ok scBehind (fun vs H Q E h => ?_) (fun cdv A outer s H vs Q E hr h => ?_)
  · obtain ⟨a, n, zs, rfl, _⟩ := h
    rfl
  · obtain ⟨a, n, zs, rfl, hS, hp, hz, n0, n8, k⟩ := h
    have nd := scBehind.nd
    refine ⟨_, pss_cons (ps_set (i := 2) nd rfl (Or.inr rfl) (pe_lst pa_nil))
      (pss_cons (ps_for PassesOwn.never rfl (pi_range1 (by rfl) mRa (pa_cons (pv 0) pa_nil)) (pg_name (i := 3) nd rfl (Or.inl rfl))
        (pss_cons (ps_setLc (i := 4) (own := [("place", 5)]) (g := gName 5) (by rfl) nd rfl rfl (sw_true rfl rfl rfl (by decide +kernel)) (pi_range1 (by rfl) mRa (pa_cons (pv 0) pa_nil)) (blkOk_by (N := ["places", "arrows", "order", "_", "ready", "place", "tail", "head"]) (sc := defScope sBehind) (by decide +kernel)) (fun _ _ _ _ _ => pg_name (i := 5) nd rfl (Or.inr rfl))
            (fun _ _ _ _ _ => pts_one (PW.pt (pw_and (pt_cmpR (show OpR _ _ (rIn K true) from op_notIn_seq) (pv 5) (pv 2) rfl)
              (pw_and1 (pt_val (pe_callB (show CallR _ _ (rAll K) from cr_all (by rfl)) (by rfl) mAll (by decide +kernel) (pa_cons
                (pe_lc (own := [("tail", 6), ("head", 7)]) (g := gEi (gTup K 2 (gCons (gName 6) (gCons (gName 7) gNil))) (gLst K 2 (gCons (gName 6) (gCons (gName 7) gNil)))) (by rfl) nd (show PI _ _ _ (iEi (iList K (tVar 1)) (iTup K (tVar 1))) from pi_either (pi_list (pv 1)) (pi_tup (pv 1)))
                  (blkOk_by (N := ["places", "arrows", "order", "_", "ready", "place", "tail", "head"]) (by kernel_rfl))
                  (fun _ _ _ _ _ => pg_either (pg_tup (by rfl) (pgs_cons (pg_name (i := 6) nd rfl (Or.inl rfl)) (pgs_cons (pg_name (i := 7) nd rfl (Or.inl rfl)) pgs_nil))) (pg_lst (by rfl) (pgs_cons (pg_name (i := 6) nd rfl (Or.inl rfl)) (pgs_cons (pg_name (i := 7) nd rfl (Or.inl rfl)) pgs_nil))))
                  (fun _ _ _ _ _ => pts_one (pt_cmpR op_eq (pv 6) (pv 5) (nomark _)))
                  (fun _ _ _ _ _ => pe_cmpR (show OpR _ _ (rIn K false) from op_in_seq) (pv 7) (pv 2) rfl)) pa_nil)))))))
            (fun _ _ _ _ _ => pv 5))
          (pss_one (ps_if (pt_truth (pv 4) (fun _ => rfl)) (pss_one (ps_expr (pe_bm PySem.F.plainAttrs_list PySem.F.slot_list_append PySem.F.type_list_append mt_append (pv 2) (pa_cons (pe_ix ix_list (pv 4) pe_int (fun _ _ => rfl)) pa_nil)))) pss_nil))))
      (pss_one (ps_ret (pv 2)))), ?_⟩
    refine ⟨Nat.zero_le _, fun od nod => ?_⟩
    have e0 : (upd H od (.lst [])) od = some (.lst (([] : List Int).map V.int)) := upd_same
    have s0' : Same H (upd H od (.lst [])) := same_upd nod
    generalize upd H od (.lst []) = H0 at e0 s0'
    refine ⟨_, rfl, (n : Int), rfl, by omega, by omega, ?_⟩
    rw [Int.toNat_natCast]
    have ordS : ∀ m, ordr (nums zs) n (m + 1) [] = (match ready (nums zs) n (ordr (nums zs) n m []) with | [] => ordr (nums zs) n m [] | p :: _ => ordr (nums zs) n m [] ++ [p]) := fun m => ordr_succ _ _ m []
    refine for_range (lo := 0) (n := n) (fun m σ Hx => ∃ v3 v4 v5 v6 v7 : Option V, σ = [some (.int n), some (.ref a), some (.ref od), v3, v4, v5, v6, v7] ∧ Hx od = some (.lst ((ordr (nums zs) n m []).map V.int)) ∧ Same H Hx) ⟨none, none, none, none, none, rfl, e0, s0'⟩ ?_ ?_
    · rintro m σ Hx hm ⟨v3, v4, v5, v6, v7, rfl, ef, s0⟩
      have os := ordS m
      have olen : (ordr (nums zs) n m []).length ≤ 8 := ordr_le n8 m
      generalize ordr (nums zs) n m [] = o at ef os olen
      refine ⟨_, rfl, (n : Int), rfl, by omega, by omega, fun rd nrd => ?_⟩
      rw [Int.toNat_natCast]
      have hln : (rf zs).length = (nums zs).length := by unfold rf nums; rw [List.length_map, List.length_map]
      refine lc_range (lo := 0) (n := n) (fun i Hc => Hc rd = some (.lst (((rng i).filter (free (nums zs) o)).map V.int)) ∧ Same Hx Hc) ⟨upd_same, same_upd nrd⟩ ?_ ?_
      · rintro i Hc hi ⟨ec, sc⟩
        refine ⟨rfl, ?_⟩
        refine ⟨_, rfl, _, rfl, od, _, rfl, .inl (SqL.of (sc _ _ ef)), rfl, flat_ints _, _, rfl, ?_⟩
        rw [inV_ints]
        have ei : (0 + (i : Int)) = (i : Int) := by omega
        rw [ei]
        by_cases c1 : (i : Int) ∈ o
        · rw [decide_eq_true c1]
          refine iteF ?_
          refine iteF ?_
          have fi : free (nums zs) o (i : Int) = false := by
            cases q : free (nums zs) o (i : Int) with
            | false => rfl
            | true => exact absurd c1 (free_iff.mp q).1
          refine ⟨?_, sc⟩
          rw [ec, rng_succ, List.filter_append, List.filter_cons, fi]
          simp
        · rw [decide_eq_false c1]
          refine iteT ?_
          rcases id hS with h | h
          · skip
            refine .inl ⟨_, rfl, a, rfl, ⟨_, (s0.trans sc).seq h⟩, fun D nD => ?_⟩
            refine lc_list (K := K) (a := a) (xs := rf zs) (fun j Hd => ∃ bs : List Bool, Hd D = some (.lst (bs.map V.bl)) ∧ (bs.all id = true ↔ ∀ h, ((i : Int), h) ∈ (nums zs).take j → h ∈ o) ∧ bs.length ≤ j ∧ Same Hc Hd) ⟨[], upd_same, ⟨fun _ h m => by simp at m, fun _ => rfl⟩, Nat.le_refl _, same_upd nD⟩ (fun j Hd _ hh => by obtain ⟨_, _, _, _, s⟩ := hh; exact ((s0.trans sc).trans s).seq h) ?_ ?_
            · rintro j x Hd hj ⟨bs, eD, ib, lb, sd⟩
              obtain ⟨⟨t, p1, p2⟩, hz1, rfl⟩ := rf_inv hj
              have hmem : (t, p1, p2) ∈ zs := List.mem_of_getElem? hz1
              have hjl : j < zs.length := (List.getElem?_eq_some_iff.mp hz1).1
              have htk : (nums zs).take (j + 1) = (nums zs).take j ++ [(p1, p2)] := by
                rw [List.take_add_one, nums_get hz1]; rfl
              have sH : Same H Hd := s0.trans (sc.trans sd)
              have eo := (sc.trans sd) _ _ ef
              rcases hp.same sH _ hmem with pt | pt
              · refine .inr ⟨t, _, rfl, pt, rfl, .int p1, [.int p2], rfl, .int p2, [], rfl, rfl, rfl, ?_⟩
                refine ⟨_, rfl, _, rfl, rfl, _, rfl, ?_⟩
                by_cases c3 : p1 = (i : Int)
                · refine (if_pos (decide_eq_true (by rw [c3]))).mpr ?_
                  refine ⟨_, rfl, _, rfl, od, _, rfl, .inl (SqL.of eo), rfl, flat_ints _, ?_⟩
                  refine ⟨_, eD, small_2000 (by rw [List.length_map]; omega), bs ++ [decide (p2 ∈ o)], by rw [upd_same, List.map_append, inV_ints]; rfl, ?_, by rw [List.length_append]; exact Nat.succ_le_succ lb, same_put sd nD⟩
                  rw [List.all_append, Bool.and_eq_true, ib, htk]
                  constructor
                  · rintro ⟨z1, z2⟩ h m
                    rcases List.mem_append.mp m with m | m
                    · exact z1 h m
                    · rw [List.mem_singleton] at m
                      obtain ⟨_, m2⟩ := Prod.mk.inj m
                      rw [m2]
                      simpa using z2
                  · intro z
                    refine ⟨fun h m => z h (List.mem_append_left _ m), ?_⟩
                    have := z p2 (List.mem_append_right _ (by rw [c3]; exact List.mem_singleton.mpr rfl))
                    simpa using this
                · refine (if_neg (fun z => c3 (by have := of_decide_eq_true z; simpa using V.int.inj this))).mpr ?_
                  refine ⟨bs, eD, ?_, by omega, sd⟩
                  rw [ib, htk]
                  constructor
                  · intro z h m
                    rcases List.mem_append.mp m with m | m
                    · exact z h m
                    · rw [List.mem_singleton] at m
                      exact absurd (Prod.mk.inj m).1.symm c3
                  · exact fun z h m => z h (List.mem_append_left _ m)
              · refine .inl ⟨t, _, rfl, pt, rfl, .int p1, [.int p2], rfl, .int p2, [], rfl, rfl, rfl, ?_⟩
                refine ⟨_, rfl, _, rfl, rfl, _, rfl, ?_⟩
                by_cases c3 : p1 = (i : Int)
                · refine (if_pos (decide_eq_true (by rw [c3]))).mpr ?_
                  refine ⟨_, rfl, _, rfl, od, _, rfl, .inl (SqL.of eo), rfl, flat_ints _, ?_⟩
                  refine ⟨_, eD, small_2000 (by rw [List.length_map]; omega), bs ++ [decide (p2 ∈ o)], by rw [upd_same, List.map_append, inV_ints]; rfl, ?_, by rw [List.length_append]; exact Nat.succ_le_succ lb, same_put sd nD⟩
                  rw [List.all_append, Bool.and_eq_true, ib, htk]
                  constructor
                  · rintro ⟨z1, z2⟩ h m
                    rcases List.mem_append.mp m with m | m
                    · exact z1 h m
                    · rw [List.mem_singleton] at m
                      obtain ⟨_, m2⟩ := Prod.mk.inj m
                      rw [m2]
                      simpa using z2
                  · intro z
                    refine ⟨fun h m => z h (List.mem_append_left _ m), ?_⟩
                    have := z p2 (List.mem_append_right _ (by rw [c3]; exact List.mem_singleton.mpr rfl))
                    simpa using this
                · refine (if_neg (fun z => c3 (by have := of_decide_eq_true z; simpa using V.int.inj this))).mpr ?_
                  refine ⟨bs, eD, ?_, by omega, sd⟩
                  rw [ib, htk]
                  constructor
                  · intro z h m
                    rcases List.mem_append.mp m with m | m
                    · exact z h m
                    · rw [List.mem_singleton] at m
                      exact absurd (Prod.mk.inj m).1.symm c3
                  · exact fun z h m => z h (List.mem_append_left _ m)
            · rintro Hd ⟨bs, eD, ib, lb, sd⟩
              rw [hln, List.take_length] at ib
              refine ⟨D, bs, rfl, SqL.of eD, _, rfl, ?_⟩
              have fi : free (nums zs) o (i : Int) = bs.all id := by
                cases q : bs.all id with
                | true => exact free_iff.mpr ⟨c1, ib.mp q⟩
                | false =>
                  cases q2 : free (nums zs) o (i : Int) with
                  | false => rfl
                  | true => rw [ib.mpr (free_iff.mp q2).2] at q; cases q
              cases q : bs.all id with
              | true =>
                refine iteT ?_
                refine ⟨_, rfl, _, sd _ _ ec, small_2000 (by rw [List.length_map]; exact Nat.le_trans (List.length_filter_le _ _) (by rw [rng_len]; omega)), ?_, same_put (sc.trans sd) nrd⟩
                rw [upd_same, rng_succ, List.filter_append, List.map_append, List.filter_cons, fi, q]
                simp
              | false =>
                refine iteF ?_
                refine ⟨?_, sc.trans sd⟩
                rw [sd _ _ ec, rng_succ, List.filter_append, List.filter_cons, fi, q]
                simp
          · skip
            refine .inr ⟨_, rfl, a, rfl, ⟨_, sqt_same (s0.trans sc) h⟩, fun D nD => ?_⟩
            refine lc_tup (K := K) (a := a) (xs := rf zs) (fun j Hd => ∃ bs : List Bool, Hd D = some (.lst (bs.map V.bl)) ∧ (bs.all id = true ↔ ∀ h, ((i : Int), h) ∈ (nums zs).take j → h ∈ o) ∧ bs.length ≤ j ∧ Same Hc Hd) ⟨[], upd_same, ⟨fun _ h m => by simp at m, fun _ => rfl⟩, Nat.le_refl _, same_upd nD⟩ (fun j Hd _ hh => by obtain ⟨_, _, _, _, s⟩ := hh; exact sqt_same ((s0.trans sc).trans s) h) ?_ ?_
            · rintro j x Hd hj ⟨bs, eD, ib, lb, sd⟩
              obtain ⟨⟨t, p1, p2⟩, hz1, rfl⟩ := rf_inv hj
              have hmem : (t, p1, p2) ∈ zs := List.mem_of_getElem? hz1
              have hjl : j < zs.length := (List.getElem?_eq_some_iff.mp hz1).1
              have htk : (nums zs).take (j + 1) = (nums zs).take j ++ [(p1, p2)] := by
                rw [List.take_add_one, nums_get hz1]; rfl
              have sH : Same H Hd := s0.trans (sc.trans sd)
              have eo := (sc.trans sd) _ _ ef
              rcases hp.same sH _ hmem with pt | pt
              · refine .inr ⟨t, _, rfl, pt, rfl, .int p1, [.int p2], rfl, .int p2, [], rfl, rfl, rfl, ?_⟩
                refine ⟨_, rfl, _, rfl, rfl, _, rfl, ?_⟩
                by_cases c3 : p1 = (i : Int)
                · refine (if_pos (decide_eq_true (by rw [c3]))).mpr ?_
                  refine ⟨_, rfl, _, rfl, od, _, rfl, .inl (SqL.of eo), rfl, flat_ints _, ?_⟩
                  refine ⟨_, eD, small_2000 (by rw [List.length_map]; omega), bs ++ [decide (p2 ∈ o)], by rw [upd_same, List.map_append, inV_ints]; rfl, ?_, by rw [List.length_append]; exact Nat.succ_le_succ lb, same_put sd nD⟩
                  rw [List.all_append, Bool.and_eq_true, ib, htk]
                  constructor
                  · rintro ⟨z1, z2⟩ h m
                    rcases List.mem_append.mp m with m | m
                    · exact z1 h m
                    · rw [List.mem_singleton] at m
                      obtain ⟨_, m2⟩ := Prod.mk.inj m
                      rw [m2]
                      simpa using z2
                  · intro z
                    refine ⟨fun h m => z h (List.mem_append_left _ m), ?_⟩
                    have := z p2 (List.mem_append_right _ (by rw [c3]; exact List.mem_singleton.mpr rfl))
                    simpa using this
                · refine (if_neg (fun z => c3 (by have := of_decide_eq_true z; simpa using V.int.inj this))).mpr ?_
                  refine ⟨bs, eD, ?_, by omega, sd⟩
                  rw [ib, htk]
                  constructor
                  · intro z h m
                    rcases List.mem_append.mp m with m | m
                    · exact z h m
                    · rw [List.mem_singleton] at m
                      exact absurd (Prod.mk.inj m).1.symm c3
                  · exact fun z h m => z h (List.mem_append_left _ m)
              · refine .inl ⟨t, _, rfl, pt, rfl, .int p1, [.int p2], rfl, .int p2, [], rfl, rfl, rfl, ?_⟩
                refine ⟨_, rfl, _, rfl, rfl, _, rfl, ?_⟩
                by_cases c3 : p1 = (i : Int)
                · refine (if_pos (decide_eq_true (by rw [c3]))).mpr ?_
                  refine ⟨_, rfl, _, rfl, od, _, rfl, .inl (SqL.of eo), rfl, flat_ints _, ?_⟩
                  refine ⟨_, eD, small_2000 (by rw [List.length_map]; omega), bs ++ [decide (p2 ∈ o)], by rw [upd_same, List.map_append, inV_ints]; rfl, ?_, by rw [List.length_append]; exact Nat.succ_le_succ lb, same_put sd nD⟩
                  rw [List.all_append, Bool.and_eq_true, ib, htk]
                  constructor
                  · rintro ⟨z1, z2⟩ h m
                    rcases List.mem_append.mp m with m | m
                    · exact z1 h m
                    · rw [List.mem_singleton] at m
                      obtain ⟨_, m2⟩ := Prod.mk.inj m
                      rw [m2]
                      simpa using z2
                  · intro z
                    refine ⟨fun h m => z h (List.mem_append_left _ m), ?_⟩
                    have := z p2 (List.mem_append_right _ (by rw [c3]; exact List.mem_singleton.mpr rfl))
                    simpa using this
                · refine (if_neg (fun z => c3 (by have := of_decide_eq_true z; simpa using V.int.inj this))).mpr ?_
                  refine ⟨bs, eD, ?_, by omega, sd⟩
                  rw [ib, htk]
                  constructor
                  · intro z h m
                    rcases List.mem_append.mp m with m | m
                    · exact z h m
                    · rw [List.mem_singleton] at m
                      exact absurd (Prod.mk.inj m).1.symm c3
                  · exact fun z h m => z h (List.mem_append_left _ m)
            · rintro Hd ⟨bs, eD, ib, lb, sd⟩
              rw [hln, List.take_length] at ib
              refine ⟨D, bs, rfl, SqL.of eD, _, rfl, ?_⟩
              have fi : free (nums zs) o (i : Int) = bs.all id := by
                cases q : bs.all id with
                | true => exact free_iff.mpr ⟨c1, ib.mp q⟩
                | false =>
                  cases q2 : free (nums zs) o (i : Int) with
                  | false => rfl
                  | true => rw [ib.mpr (free_iff.mp q2).2] at q; cases q
              cases q : bs.all id with
              | true =>
                refine iteT ?_
                refine ⟨_, rfl, _, sd _ _ ec, small_2000 (by rw [List.length_map]; exact Nat.le_trans (List.length_filter_le _ _) (by rw [rng_len]; omega)), ?_, same_put (sc.trans sd) nrd⟩
                rw [upd_same, rng_succ, List.filter_append, List.map_append, List.filter_cons, fi, q]
                simp
              | false =>
                refine iteF ?_
                refine ⟨?_, sc.trans sd⟩
                rw [sd _ _ ec, rng_succ, List.filter_append, List.filter_cons, fi, q]
                simp
      · rintro Hc ⟨ec, sc⟩
        have eo := sc _ _ ef
        have hR : ready (nums zs) n o = (rng n).filter (free (nums zs) o) := rfl
        rw [← hR] at ec
        cases q : ready (nums zs) n o with
        | nil =>
          rw [q] at ec os
          refine ⟨_, rfl, false, .inl ⟨_, SqL.of ec, rfl⟩, ?_⟩
          refine iteF ?_
          exact ⟨_, _, _, _, _, rfl, by rw [os]; exact eo, s0.trans sc⟩
        | cons p r =>
          rw [q] at ec os
          refine ⟨_, rfl, true, .inl ⟨_, SqL.of ec, rfl⟩, ?_⟩
          refine iteT ?_
          refine ⟨_, rfl, .inl ⟨rfl, _, SqL.of eo⟩, _, rfl, rd, _, 0, .int p, rfl, rfl, SqL.of ec, atI_nat (j := 0) rfl, od, _, _, rfl, rfl, eo, small_2000 (by rw [List.length_map]; omega), ?_⟩
          refine ⟨_, _, _, _, _, rfl, ?_, same_put (s0.trans sc) nod⟩
          rw [upd_same, os, List.map_append]
          rfl
    · rintro σ Hx ⟨v3, v4, v5, v6, v7, rfl, ef, s0⟩
      exact ⟨_, rfl, k od Hx s0 nod ef⟩
end
end K03


set_option Elab.async false
set_option maxRecDepth 100000
set_option maxHeartbeats 1000000
set_option linter.all false
namespace K03
open PySem PySem.Spec PyProof.Rows L2 NetM
abbrev sIsNum : Stmt := top 1
abbrev sIsNumTo : Stmt := top 2
abbrev sIsList : Stmt := top 3
theorem scIsNum : FnScope ["thing"] ["thing"] (defScope sIsNum) := ⟨rfl, rfl, rfl, by decide +kernel, rfl, by decide +kernel, by decide +kernel⟩
theorem scIsNumTo : FnScope ["thing", "most"] ["thing", "most"] (defScope sIsNumTo) := ⟨rfl, rfl, rfl, by decide +kernel, rfl, by decide +kernel, by decide +kernel⟩
theorem scIsList : FnScope ["thing"] ["thing"] (defScope sIsList) := ⟨rfl, rfl, rfl, by decide +kernel, rfl, by decide +kernel, by decide +kernel⟩
/-- the type, and whether it is what is asked -/
def spIsNum (K : PySem.W.Frag) : Sp := fun vs H Q _ => ∃ (x : V) (t : Value) (b c : Bool), vs = [x] ∧ TyX K H x t ∧ PySem.W.kitOne K t (.type "int") = some b ∧ PySem.W.kitOne K t (.type "bool") = some c ∧ Q (.bl (b && !c)) H
theorem num_int (K : PySem.W.Frag) : PySem.W.kitOne K (.type "int") (.type "int") = some true ∧ PySem.W.kitOne K (.type "int") (.type "bool") = some false := ⟨by kernel_rfl, by kernel_rfl⟩
theorem num_bool (K : PySem.W.Frag) : PySem.W.kitOne K (.type "bool") (.type "int") = some true ∧ PySem.W.kitOne K (.type "bool") (.type "bool") = some true := ⟨by kernel_rfl, by kernel_rfl⟩
section
variable {P : Program} {w : World} {K : PySem.W.Frag} {mg : Str → Option Value} {base : Heap}
theorem ok_isnum {f : Addr} {fd : FuncData} (F : Fun K "is_number" "is_number" sIsNum f fd) (mIs : mg "isinstance" = none) (mInt : mg "int" = none) (mBo : mg "bool" = none) : FnOk P w K mg base CX0 1 f fd ["thing"] (spIsNum K) := by
  refine F.ok scIsNum (fun vs H Q E h => ?_) (fun cdv A outer s H vs Q E hr h => ?_)
  · obtain ⟨x, t, b, c, rfl, _⟩ := h
    rfl
  · obtain ⟨x, t, b, c, rfl, ht, hb, hc, k⟩ := h
    have nd := scIsNum.nd
    refine ⟨_, pss_one (ps_ret (pe_and (pe_callB call_isi (by rfl) mIs (by decide +kernel) (pa_cons (pv 0) (pa_cons (pe_bltn (v := .ty "int") (by rfl) mInt (by decide +kernel) rfl) pa_nil)))
      (pe_one (pe_not (pe_callB call_isi (by rfl) mIs (by decide +kernel) (pa_cons (pv 0) (pa_cons (pe_bltn (v := .ty "bool") (by rfl) mBo (by decide +kernel) rfl) pa_nil))))))), ?_⟩
    refine ⟨_, rfl, x, _, t, _, b, rfl, .ty "int", ht, hb, _, rfl, ?_⟩
    cases b with
    | true =>
      refine iteT ?_
      exact ⟨_, rfl, x, _, t, _, c, rfl, .ty "bool", ht, hc, _, rfl, k⟩
    | false =>
      refine iteF ?_
      exact k
/-- x is told by its type; a number from 0 to m -/
def spIsNumTo (K : PySem.W.Frag) : Sp := fun vs H Q _ => ∃ (x : V) (t : Value) (b c : Bool) (m : Int), vs = [x, .int m] ∧ TyX K H x t ∧ PySem.W.kitOne K t (.type "int") = some b ∧ PySem.W.kitOne K t (.type "bool") = some c ∧
  (((b && !c) = false ∧ Q (.bl false) H) ∨ ((b && !c) = true ∧ ∃ i : Int, x = .int i ∧ Q (.bl (decide (0 ≤ i ∧ i ≤ m))) H))
theorem ok_isnumto {f fN : Addr} {fd fdN : FuncData} (F : Fun K "is_number_to" "is_number_to" sIsNumTo f fd) (GN : FnOk P w K mg base CX0 1 fN fdN ["thing"] (spIsNum K)) (FN : Fun K "is_number" "is_number" sIsNum fN fdN) (bN : L2.Binds K fdN ["thing"] []) (gN : mg "is_number" = some (.ref fN)) : FnOk P w K mg base CX0 2 f fd ["thing", "most"] (spIsNumTo K) := by
  refine F.ok scIsNumTo (fun vs H Q E h => ?_) (fun cdv A outer s H vs Q E hr h => ?_)
  · obtain ⟨x, t, b, c, m, rfl, _⟩ := h
    rfl
  · obtain ⟨x, t, b, c, m, rfl, ht, hb, hc, k⟩ := h
    refine ⟨_, pss_one (ps_ret (pe_and (pe_call GN hr (by rfl) gN FN.kp bN .nil pass0 (pa_cons (pv 0) pa_nil)) (pe_one (pe_chain op_le op_le pe_int (pv 0) (pv 1))))), ?_⟩
    refine ⟨_, rfl, x, t, b, c, rfl, ht, hb, hc, _, rfl, ?_⟩
    rcases k with ⟨e, k⟩ | ⟨e, i, rfl, k⟩
    · rw [e]
      refine iteF ?_
      exact k
    · rw [e]
      refine iteT ?_
      refine ⟨_, rfl, _, _, rfl, rfl, _, rfl, ite2 (fun c1 => ?_) (fun c1 => ?_)⟩
      · have h0 := of_decide_eq_true c1
        refine ⟨_, rfl, _, _, rfl, rfl, ?_⟩
        have e2 : decide (i ≤ m) = decide (0 ≤ i ∧ i ≤ m) := by
          by_cases z : i ≤ m
          · rw [decide_eq_true z, decide_eq_true ⟨h0, z⟩]
          · rw [decide_eq_false z, decide_eq_false fun y => z y.2]
        show Q (.bl (decide (i ≤ m))) H
        rw [e2]
        exact k
      · have h0 : ¬ 0 ≤ i := fun z => c1 (decide_eq_true z)
        rw [decide_eq_false fun y => h0 y.1] at k
        exact k
theorem TyX.same {H H' : Hp} (s : Same H H') {x : V} {t : Value} (h : TyX K H x t) : TyX K H' x t := by
  cases h with
  | base h =>
    refine .base ?_
    cases h with
    | non => exact .non
    | bl x => exact .bl x
    | int x => exact .int x
    | str x => exact .str x
    | flt x => exact .flt x
    | lst e => exact .lst (s _ _ e)
    | frz e => exact .frz (s _ _ e)
    | tup e => exact .tup (s _ _ e)
    | dK e => exact .dK (s _ _ e)
    | dT e => exact .dT (s _ _ e)
    | ins e c a b d f => exact .ins (s _ _ e) c a b d f
  | byt b => exact .byt b
  | set e => exact .set (s _ _ e)
  | kList e c => exact .kList e c
  | kTuple e c => exact .kTuple e c
  | kDict e c => exact .kDict e c
  | fTuple e => exact .fTuple (s _ _ e)
  | fDict e => exact .fDict (s _ _ e)
theorem ty_lst {H : Hp} {a : Addr} {xs : List V} (h : SqL K H a xs) : TyX K H (.ref a) (.type "list") := by
  rcases h with (h | ⟨o, h⟩) | ⟨o, its, n, h, c, _⟩
  · exact .base (.lst h)
  · exact .base (.frz h)
  · exact .kList h c
theorem ty_tup {H : Hp} {a : Addr} {xs : List V} (h : SqT K H a xs) : TyX K H (.ref a) (.type "tuple") := by
  rcases h with (h | ⟨o, h⟩) | ⟨o, its, n, h, c, _⟩
  · exact .base (.tup h)
  · exact .fTuple h
  · exact .kTuple h c
def spIsList (K : PySem.W.Frag) : Sp := fun vs H Q _ => ∃ (x : V) (t : Value) (b : Bool), vs = [x] ∧ TyX K H x t ∧ PySem.W.kitAny K t [.type "list", .type "tuple"] = some b ∧ ∀ H' : Hp, Same H H' → Q (.bl b) H'
theorem ok_islist {f : Addr} {fd : FuncData} (F : Fun K "is_list" "is_list" sIsList f fd) (mIs : mg "isinstance" = none) (mLi : mg "list" = none) (mTu : mg "tuple" = none) : FnOk P w K mg base CX0 1 f fd ["thing"] (spIsList K) := by
  refine F.ok scIsList (fun vs H Q E h => ?_) (fun cdv A outer s H vs Q E hr h => ?_)
  · obtain ⟨x, t, b, rfl, _⟩ := h
    rfl
  · obtain ⟨x, t, b, rfl, ht, hb, k⟩ := h
    refine ⟨_, pss_one (ps_ret (pe_callB call_isiT (by rfl) mIs (by decide +kernel) (pa_cons (pv 0) (pa_cons (pe_tup (pa_cons (pe_bltn (v := .ty "list") (by rfl) mLi (by decide +kernel) rfl) (pa_cons (pe_bltn (v := .ty "tuple") (by rfl) mTu (by decide +kernel) rfl) pa_nil))) pa_nil)))), ?_⟩
    refine ⟨_, rfl, by show 2 ≤ sizeLine; decide, fun tp np => ?_⟩
    exact ⟨x, tp, _, t, [.type "list", .type "tuple"], b, rfl, upd_same, .cons (.ty "list") (.cons (.ty "tuple") .nil), TyX.same (same_upd np) ht, hb, k _ (same_upd np)⟩
end
end K03


set_option Elab.async false
set_option maxRecDepth 100000
set_option maxHeartbeats 2000000
set_option linter.all false
namespace K03
open PySem PySem.Spec PyProof.Rows L2 NetM
abbrev sAre : Stmt := top 10
theorem scAre : FnScope ["places", "thing", "arrow", "end"] ["places", "thing"] (defScope sAre) := ⟨rfl, rfl, rfl, by decide +kernel, rfl, by decide +kernel, by decide +kernel⟩
/-- an end: a number below n, or not -/
inductive EndJ (K : PySem.W.Frag) (H : Hp) (n : Int) : V → Option Int → Prop
  | ok {i : Int} (h : 0 ≤ i ∧ i ≤ n - 1) : EndJ K H n (.int i) (some i)
  | out {i : Int} (h : ¬ (0 ≤ i ∧ i ≤ n - 1)) : EndJ K H n (.int i) none
  | no {x : V} {t : Value} {b c : Bool} (h : TyX K H x t) (hb : PySem.W.kitOne K t (.type "int") = some b) (hc : PySem.W.kitOne K t (.type "bool") = some c) (z : (b && !c) = false) : EndJ K H n x none
theorem EndJ.same {K : PySem.W.Frag} {H H' : Hp} (s : Same H H') {n : Int} {x : V} {o : Option Int} : EndJ K H n x o → EndJ K H' n x o
  | .ok h => .ok h
  | .out h => .out h
  | .no h hb hc z => .no (TyX.same s h) hb hc z
def twoOk : Option Int → Option Int → Bool
  | some i, some j => !decide (V.int i = V.int j)
  | _, _ => false
/-- an item: an arrow, or not -/
inductive ArJ (K : PySem.W.Frag) (H : Hp) (n : Int) : V → Bool → Prop
  | no {x : V} {t : Value} (h : TyX K H x t) (z : PySem.W.kitAny K t [.type "list", .type "tuple"] = some false) : ArJ K H n x false
  | many {a : Addr} {ys : List V} (h : SqA K H a ys) (z : ys.length ≠ 2) : ArJ K H n (.ref a) false
  | two {a : Addr} {y0 y1 : V} {e0 e1 : Option Int} (h : SqA K H a [y0, y1]) (h0 : EndJ K H n y0 e0) (h1 : EndJ K H n y1 e1) : ArJ K H n (.ref a) (twoOk e0 e1)
theorem ArJ.same {K : PySem.W.Frag} {H H' : Hp} (s : Same H H') {n : Int} {x : V} {o : Bool} : ArJ K H n x o → ArJ K H' n x o
  | .no h z => .no (TyX.same s h) z
  | .many h z => .many (h.same s) z
  | .two h h0 h1 => .two (h.same s) (h0.same s) (h1.same s)
inductive ArL (K : PySem.W.Frag) (H : Hp) (n : Int) : List V → List Bool → Prop
  | nil : ArL K H n [] []
  | cons {x : V} {xs : List V} {b : Bool} {bs : List Bool} (h : ArJ K H n x b) (r : ArL K H n xs bs) : ArL K H n (x :: xs) (b :: bs)
theorem ArL.at {K : PySem.W.Frag} {H : Hp} {n : Int} : ∀ {xs : List V} {bs : List Bool} {i : Nat} {x : V}, ArL K H n xs bs → xs[i]? = some x → ∃ b, bs[i]? = some b ∧ ArJ K H n x b
  | _, _, _, _, .nil, e => by simp at e
  | _, _, 0, _, .cons h r, e => by cases e; exact ⟨_, rfl, h⟩
  | _, _, i + 1, _, .cons h r, e => ArL.at (i := i) r e
theorem ArL.len {K : PySem.W.Frag} {H : Hp} {n : Int} : ∀ {xs : List V} {bs : List Bool}, ArL K H n xs bs → bs.length = xs.length
  | _, _, .nil => rfl
  | _, _, .cons _ r => by rw [List.length_cons, List.length_cons, r.len]
theorem kit_list (K : PySem.W.Frag) : PySem.W.kitAny K (.type "list") [.type "list", .type "tuple"] = some true := by kernel_rfl
theorem kit_tup (K : PySem.W.Frag) : PySem.W.kitAny K (.type "tuple") [.type "list", .type "tuple"] = some true := by kernel_rfl
theorem ty_sqa {K : PySem.W.Frag} {H : Hp} {a : Addr} {xs : List V} (h : SqA K H a xs) : ∃ t, TyX K H (.ref a) t ∧ PySem.W.kitAny K t [.type "list", .type "tuple"] = some true := by
  rcases h with h | h
  · exact ⟨_, ty_lst h, kit_list K⟩
  · exact ⟨_, ty_tup h, kit_tup K⟩
def spAre (K : PySem.W.Frag) : Sp := fun vs H Q _ => ∃ (n : Int) (x : V), vs = [.int n, x] ∧
  ((∃ t, TyX K H x t ∧ PySem.W.kitAny K t [.type "list", .type "tuple"] = some false ∧ ∀ H', Same H H' → Q (.bl false) H') ∨
   ∃ (a : Addr) (xs : List V) (bs : List Bool), x = .ref a ∧ SqA K H a xs ∧ ArL K H n xs bs ∧ xs.length < 1000 ∧ ∀ H', Same H H' → Q (.bl (decide (xs.length ≤ 12) && bs.all id)) H')
theorem endj_sp {K : PySem.W.Frag} {H : Hp} {n : Int} {y : V} {e : Option Int} {Q : VK} {E : XK} (h : EndJ K H n y e) (q : Q (.bl e.isSome) H) : spIsNumTo K [y, .int (n - 1)] H Q E := by
  cases h with
  | @ok i h => exact ⟨_, _, true, false, n - 1, rfl, .base (.int i), (num_int K).1, (num_int K).2, .inr ⟨rfl, i, rfl, by rw [decide_eq_true h]; exact q⟩⟩
  | @out i h => exact ⟨_, _, true, false, n - 1, rfl, .base (.int i), (num_int K).1, (num_int K).2, .inr ⟨rfl, i, rfl, by rw [decide_eq_false h]; exact q⟩⟩
  | no ht hb hc z => exact ⟨_, _, _, _, n - 1, rfl, ht, hb, hc, .inl ⟨z, q⟩⟩
section
variable {P : Program} {w : World} {K : PySem.W.Frag} {mg : Str → Option Value} {base : Heap}
theorem ok_are {f fN fL : Addr} {fd fdN fdL : FuncData} {tk : Nat} (F : Fun K "_are_arrows" "_are_arrows" sAre f fd) (GN : FnOk P w K mg base CX0 2 fN fdN ["thing", "most"] (spIsNumTo K)) (FN : Fun K "is_number_to" "is_number_to" sIsNumTo fN fdN) (bN : L2.Binds K fdN ["thing", "most"] []) (gN : mg "is_number_to" = some (.ref fN))
    (GL : FnOk P w K mg base CX0 1 fL fdL ["thing"] (spIsList K)) (FL : Fun K "is_list" "is_list" sIsList fL fdL) (bL : L2.Binds K fdL ["thing"] []) (gL : mg "is_list" = some (.ref fL)) (gM : mg "MOST_ARROWS" = some (.int 12 tk)) (mAll : mg "all" = none) (mLen : mg "len" = none) : FnOk P w K mg base CX0 3 f fd ["places", "thing"] (spAre K) := by
  refine F.ok scAre (fun vs H Q E h => ?_) (fun cdv A outer s H vs Q E hr h => ?_)
  · obtain ⟨n, x, rfl, _⟩ := h
    rfl
  · obtain ⟨n, x, rfl, h⟩ := h
    have nd := scAre.nd
    have r1 : Room 1 _ := hr.mono (by decide)
    refine ⟨_, pss_cons (ps_if (PW.pt (pw_or (pt_not (pt_val (pe_call GL r1 (by rfl) gL FL.kp bL .nil pass0 (pa_cons (pv 1) pa_nil)))) (pw_or1 (pt_cmpR op_gt (pe_callB call_len_seq (by rfl) mLen PySem.boot_len (pa_cons (pv 1) pa_nil)) (pe_glob (v := .int 12) (by rfl) gM ⟨tk, rfl⟩) (nomark _))))) (pss_one (ps_ret pe_bl)) pss_nil)
      (pss_cons (ps_for PassesOwn.never rfl (pi_either (pi_list (pv 1)) (pi_tup (pv 1))) (pg_name (i := 2) nd rfl (Or.inl rfl))
        (pss_cons (ps_if (PW.pt (pw_or (pt_not (pt_val (pe_call GL r1 (by rfl) gL FL.kp bL .nil pass0 (pa_cons (pv 2) pa_nil)))) (pw_or1 (pt_cmpR op_ne (pe_callB call_len_seq (by rfl) mLen PySem.boot_len (pa_cons (pv 2) pa_nil)) pe_int (nomark _))))) (pss_one (ps_ret pe_bl)) pss_nil)
          (pss_one (ps_if (PW.pt (pw_or (pt_not (pt_val (pe_callB (show CallR _ _ (rAll K) from cr_all (by rfl)) (by rfl) mAll (by decide +kernel) (pa_cons (pe_lc (own := [("end", 3)]) (g := gName 3) (by rfl) nd (pi_either (pi_list (pv 2)) (pi_tup (pv 2))) (blkOk_by (N := ["places", "thing", "arrow", "end"]) (sc := defScope sAre) (by decide +kernel)) (fun _ _ _ _ _ => pg_name (i := 3) nd rfl (Or.inl rfl)) (fun _ _ _ _ _ => pts_nil)
              (fun _ _ _ _ _ => pe_call GN hr (by rfl) gN FN.kp bN .nil pass0 (pa_cons (pv 3) (pa_cons (pe_op op_sub (pv 0) pe_int) pa_nil)))) pa_nil))))
            (pw_or1 (pt_cmpR op_eq (pe_either (pe_ix ix_list (pv 2) pe_int (fun _ _ => rfl)) (pe_ix ix_tup (pv 2) pe_int (fun _ _ => rfl))) (pe_either (pe_ix ix_list (pv 2) pe_int (fun _ _ => rfl)) (pe_ix ix_tup (pv 2) pe_int (fun _ _ => rfl))) (nomark _))))) (pss_one (ps_ret pe_bl)) pss_nil))))
      (pss_one (ps_ret pe_bl))), ?_⟩
    rcases h with ⟨t, ht, hk, k⟩ | ⟨a, xs, bs, rfl, hS, hA, hl, k⟩
    · refine ⟨_, rfl, x, t, false, rfl, ht, hk, fun H' s' => ⟨_, rfl, ?_⟩⟩
      refine iteT ?_
      refine iteT ?_
      exact k H' s'
    · obtain ⟨t, ht, hk⟩ := ty_sqa hS
      refine ⟨_, rfl, .ref a, t, true, rfl, ht, hk, fun H1 s1 => ⟨_, rfl, ?_⟩⟩
      refine iteF ?_
      refine ⟨_, rfl, a, xs, rfl, hS.same s1, _, _, rfl, rfl, _, rfl, ?_⟩
      by_cases c : xs.length ≤ 12
      · refine (if_neg (fun z => by have := of_decide_eq_true z; omega)).mpr ?_
        have kf : ∀ i, bs[i]? = some false → ∀ H', Same H H' → Q (.bl false) H' := fun i e H' s' => by
          have := k H' s'
          have z : bs.all id = false := by
            cases q : bs.all id with
            | false => rfl
            | true => exact absurd (List.all_eq_true.mp q false (List.mem_of_getElem? e)) (by simp)
          rw [z, Bool.and_false] at this
          exact this
        rcases id hS with h | h
        · skip
          refine .inl ⟨_, rfl, a, rfl, ⟨_, s1.seq h⟩, ?_⟩
          refine for_list (K := K) (a := a) (xs := xs) (fun i σ Hx => ∃ v2 v3 : Option V, σ = [some (.int n), some (.ref a), v2, v3] ∧ (bs.take i).all id = true ∧ Same H Hx) ⟨none, none, rfl, rfl, s1⟩ (fun i σ Hx _ hh => by obtain ⟨_, _, _, _, s⟩ := hh; exact s.seq h) ?_ ?_
          · skip
            rintro i x σ Hx hi ⟨v2, v3, rfl, hb, sx⟩
            obtain ⟨b, eb, ja⟩ := hA.at hi
            have jx := ja.same sx
            cases jx with
            | @no x t ht hk2 =>
              refine ⟨_, rfl, _, t, false, rfl, ht, hk2, fun H2 s2 => ⟨_, rfl, ?_⟩⟩
              refine iteT ?_
              refine iteT ?_
              exact kf _ eb _ (sx.trans s2)
            | @many a2 ys hy hz =>
              obtain ⟨t2, ht2, hk2⟩ := ty_sqa hy
              refine ⟨_, rfl, _, t2, true, rfl, ht2, hk2, fun H2 s2 => ⟨_, rfl, ?_⟩⟩
              refine iteF ?_
              refine ⟨_, rfl, a2, ys, rfl, hy.same s2, rfl, _, rfl, ?_⟩
              have z2 : ¬ (V.int (ys.length : Int) = V.int 2) := fun z => hz (by have := V.int.inj z; omega)
              refine (if_pos (by rw [decide_eq_false z2]; rfl)).mpr ?_
              exact kf _ eb _ (sx.trans s2)
            | @two a2 y0 y1 e0 e1 hy h0 h1 =>
              obtain ⟨t2, ht2, hk2⟩ := ty_sqa hy
              refine ⟨_, rfl, _, t2, true, rfl, ht2, hk2, fun H2 s2 => ⟨_, rfl, ?_⟩⟩
              refine iteF ?_
              refine ⟨_, rfl, a2, [y0, y1], rfl, hy.same s2, rfl, _, rfl, ?_⟩
              refine iteNS rfl ?_
              rcases id hy with q | q
              · skip
                refine .inl ⟨_, rfl, a2, rfl, ⟨_, Same.seq s2 q⟩, fun D nD => ?_⟩
                refine lc_list (K := K) (a := a2) (xs := [y0, y1]) (fun j Hd => Hd D = some (.lst (([e0.isSome, e1.isSome].take j).map V.bl)) ∧ Same H2 Hd) ⟨upd_same, same_upd nD⟩ (fun j Hd _ hh => Same.seq (s2.trans hh.2) q) ?_ ?_
                · rintro j x Hd hj ⟨eD, sd⟩
                  refine ⟨rfl, ?_⟩
                  dsimp only [tYes]
                  refine iteT ?_
                  match j, hj, eD with
                  | 0, hj, eD =>
                    cases hj
                    refine ⟨_, rfl, _, rfl, _, _, rfl, rfl, ?_⟩
                    dsimp only [tNil, List.cons_append, List.nil_append]
                    exact endj_sp (h0.same (s2.trans sd)) ⟨_, eD, small_2000 (by rw [List.length_map]; exact Nat.le_trans (List.length_take_le' _ _) (show 2 ≤ 2000 by decide)), upd_same, fun b o e => same_put (H0 := H2) sd nD b o e⟩
                  | 1, hj, eD =>
                    cases hj
                    refine ⟨_, rfl, _, rfl, _, _, rfl, rfl, ?_⟩
                    dsimp only [tNil, List.cons_append, List.nil_append]
                    exact endj_sp (h1.same (s2.trans sd)) ⟨_, eD, small_2000 (by rw [List.length_map]; exact Nat.le_trans (List.length_take_le' _ _) (show 2 ≤ 2000 by decide)), upd_same, fun b o e => same_put (H0 := H2) sd nD b o e⟩
                  | j + 2, hj, eD => simp at hj
                · rintro Hd ⟨eD, sd⟩
                  have sHd : Same H Hd := sx.trans (s2.trans sd)
                  cases h0 with
                  | @ok i0 _ =>
                    cases h1 with
                    | @ok i1 _ =>
                      refine ⟨D, [true, true], rfl, SqL.of eD, _, rfl, ?_⟩
                      refine iteF ?_
                      refine .inl ⟨_, rfl, a2, _, 0, _, rfl, rfl, Same.seq (s2.trans sd) q, atI_nat (j := 0) rfl, ?_⟩
                      refine .inl ⟨_, rfl, a2, _, 1, _, rfl, rfl, Same.seq (s2.trans sd) q, atI_nat (j := 1) rfl, ?_⟩
                      refine ⟨rfl, _, rfl, ite2 (fun c5 => ?_) (fun c5 => ?_)⟩
                      · have e9 : bs[i]? = some (!decide (V.int i0 = V.int i1)) := eb
                        rw [c5] at e9
                        exact kf _ e9 _ sHd
                      · refine ⟨_, _, rfl, ?_, sHd⟩
                        have e9 : bs[i]? = some (!decide (V.int i0 = V.int i1)) := eb
                        rw [Bool.eq_false_iff.mpr c5] at e9
                        rw [List.take_add_one, e9, List.all_append, hb]
                        rfl
                    | out i1 =>
                      refine ⟨D, [true, false], rfl, SqL.of eD, _, rfl, ?_⟩
                      refine iteT ?_
                      refine iteT ?_
                      exact kf _ eb _ sHd
                    | no _ _ _ _ =>
                      refine ⟨D, [true, false], rfl, SqL.of eD, _, rfl, ?_⟩
                      refine iteT ?_
                      refine iteT ?_
                      exact kf _ eb _ sHd
                  | out i0 =>
                    refine ⟨D, [false, e1.isSome], rfl, SqL.of eD, _, rfl, ?_⟩
                    refine iteT ?_
                    refine iteT ?_
                    exact kf _ eb _ sHd
                  | no _ _ _ _ =>
                    refine ⟨D, [false, e1.isSome], rfl, SqL.of eD, _, rfl, ?_⟩
                    refine iteT ?_
                    refine iteT ?_
                    exact kf _ eb _ sHd
              · skip
                refine .inr ⟨_, rfl, a2, rfl, ⟨_, sqt_same s2 q⟩, fun D nD => ?_⟩
                refine lc_tup (K := K) (a := a2) (xs := [y0, y1]) (fun j Hd => Hd D = some (.lst (([e0.isSome, e1.isSome].take j).map V.bl)) ∧ Same H2 Hd) ⟨upd_same, same_upd nD⟩ (fun j Hd _ hh => sqt_same (s2.trans hh.2) q) ?_ ?_
                · rintro j x Hd hj ⟨eD, sd⟩
                  refine ⟨rfl, ?_⟩
                  dsimp only [tYes]
                  refine iteT ?_
                  match j, hj, eD with
                  | 0, hj, eD =>
                    cases hj
                    refine ⟨_, rfl, _, rfl, _, _, rfl, rfl, ?_⟩
                    dsimp only [tNil, List.cons_append, List.nil_append]
                    exact endj_sp (h0.same (s2.trans sd)) ⟨_, eD, small_2000 (by rw [List.length_map]; exact Nat.le_trans (List.length_take_le' _ _) (show 2 ≤ 2000 by decide)), upd_same, fun b o e => same_put (H0 := H2) sd nD b o e⟩
                  | 1, hj, eD =>
                    cases hj
                    refine ⟨_, rfl, _, rfl, _, _, rfl, rfl, ?_⟩
                    dsimp only [tNil, List.cons_append, List.nil_append]
                    exact endj_sp (h1.same (s2.trans sd)) ⟨_, eD, small_2000 (by rw [List.length_map]; exact Nat.le_trans (List.length_take_le' _ _) (show 2 ≤ 2000 by decide)), upd_same, fun b o e => same_put (H0 := H2) sd nD b o e⟩
                  | j + 2, hj, eD => simp at hj
                · rintro Hd ⟨eD, sd⟩
                  have sHd : Same H Hd := sx.trans (s2.trans sd)
                  cases h0 with
                  | @ok i0 _ =>
                    cases h1 with
                    | @ok i1 _ =>
                      refine ⟨D, [true, true], rfl, SqL.of eD, _, rfl, ?_⟩
                      refine iteF ?_
                      refine .inr ⟨_, rfl, a2, _, 0, _, rfl, rfl, sqt_same (s2.trans sd) q, atI_nat (j := 0) rfl, ?_⟩
                      refine .inr ⟨_, rfl, a2, _, 1, _, rfl, rfl, sqt_same (s2.trans sd) q, atI_nat (j := 1) rfl, ?_⟩
                      refine ⟨rfl, _, rfl, ite2 (fun c5 => ?_) (fun c5 => ?_)⟩
                      · have e9 : bs[i]? = some (!decide (V.int i0 = V.int i1)) := eb
                        rw [c5] at e9
                        exact kf _ e9 _ sHd
                      · refine ⟨_, _, rfl, ?_, sHd⟩
                        have e9 : bs[i]? = some (!decide (V.int i0 = V.int i1)) := eb
                        rw [Bool.eq_false_iff.mpr c5] at e9
                        rw [List.take_add_one, e9, List.all_append, hb]
                        rfl
                    | out i1 =>
                      refine ⟨D, [true, false], rfl, SqL.of eD, _, rfl, ?_⟩
                      refine iteT ?_
                      refine iteT ?_
                      exact kf _ eb _ sHd
                    | no _ _ _ _ =>
                      refine ⟨D, [true, false], rfl, SqL.of eD, _, rfl, ?_⟩
                      refine iteT ?_
                      refine iteT ?_
                      exact kf _ eb _ sHd
                  | out i0 =>
                    refine ⟨D, [false, e1.isSome], rfl, SqL.of eD, _, rfl, ?_⟩
                    refine iteT ?_
                    refine iteT ?_
                    exact kf _ eb _ sHd
                  | no _ _ _ _ =>
                    refine ⟨D, [false, e1.isSome], rfl, SqL.of eD, _, rfl, ?_⟩
                    refine iteT ?_
                    refine iteT ?_
                    exact kf _ eb _ sHd
          · rintro σ Hx ⟨v2, v3, rfl, hb, sx⟩
            rw [← hA.len, List.take_length] at hb
            have := k Hx sx
            rw [hb, decide_eq_true (by omega : xs.length ≤ 12)] at this
            exact this
        · skip
          refine .inr ⟨_, rfl, a, rfl, ⟨_, sqt_same s1 h⟩, ?_⟩
          refine for_tup (K := K) (a := a) (xs := xs) (fun i σ Hx => ∃ v2 v3 : Option V, σ = [some (.int n), some (.ref a), v2, v3] ∧ (bs.take i).all id = true ∧ Same H Hx) ⟨none, none, rfl, rfl, s1⟩ (fun i σ Hx _ hh => by obtain ⟨_, _, _, _, s⟩ := hh; exact sqt_same s h) ?_ ?_
          · skip
            rintro i x σ Hx hi ⟨v2, v3, rfl, hb, sx⟩
            obtain ⟨b, eb, ja⟩ := hA.at hi
            have jx := ja.same sx
            cases jx with
            | @no x t ht hk2 =>
              refine ⟨_, rfl, _, t, false, rfl, ht, hk2, fun H2 s2 => ⟨_, rfl, ?_⟩⟩
              refine iteT ?_
              refine iteT ?_
              exact kf _ eb _ (sx.trans s2)
            | @many a2 ys hy hz =>
              obtain ⟨t2, ht2, hk2⟩ := ty_sqa hy
              refine ⟨_, rfl, _, t2, true, rfl, ht2, hk2, fun H2 s2 => ⟨_, rfl, ?_⟩⟩
              refine iteF ?_
              refine ⟨_, rfl, a2, ys, rfl, hy.same s2, rfl, _, rfl, ?_⟩
              have z2 : ¬ (V.int (ys.length : Int) = V.int 2) := fun z => hz (by have := V.int.inj z; omega)
              refine (if_pos (by rw [decide_eq_false z2]; rfl)).mpr ?_
              exact kf _ eb _ (sx.trans s2)
            | @two a2 y0 y1 e0 e1 hy h0 h1 =>
              obtain ⟨t2, ht2, hk2⟩ := ty_sqa hy
              refine ⟨_, rfl, _, t2, true, rfl, ht2, hk2, fun H2 s2 => ⟨_, rfl, ?_⟩⟩
              refine iteF ?_
              refine ⟨_, rfl, a2, [y0, y1], rfl, hy.same s2, rfl, _, rfl, ?_⟩
              refine iteNS rfl ?_
              rcases id hy with q | q
              · skip
                refine .inl ⟨_, rfl, a2, rfl, ⟨_, Same.seq s2 q⟩, fun D nD => ?_⟩
                refine lc_list (K := K) (a := a2) (xs := [y0, y1]) (fun j Hd => Hd D = some (.lst (([e0.isSome, e1.isSome].take j).map V.bl)) ∧ Same H2 Hd) ⟨upd_same, same_upd nD⟩ (fun j Hd _ hh => Same.seq (s2.trans hh.2) q) ?_ ?_
                · rintro j x Hd hj ⟨eD, sd⟩
                  refine ⟨rfl, ?_⟩
                  dsimp only [tYes]
                  refine iteT ?_
                  match j, hj, eD with
                  | 0, hj, eD =>
                    cases hj
                    refine ⟨_, rfl, _, rfl, _, _, rfl, rfl, ?_⟩
                    dsimp only [tNil, List.cons_append, List.nil_append]
                    exact endj_sp (h0.same (s2.trans sd)) ⟨_, eD, small_2000 (by rw [List.length_map]; exact Nat.le_trans (List.length_take_le' _ _) (show 2 ≤ 2000 by decide)), upd_same, fun b o e => same_put (H0 := H2) sd nD b o e⟩
                  | 1, hj, eD =>
                    cases hj
                    refine ⟨_, rfl, _, rfl, _, _, rfl, rfl, ?_⟩
                    dsimp only [tNil, List.cons_append, List.nil_append]
                    exact endj_sp (h1.same (s2.trans sd)) ⟨_, eD, small_2000 (by rw [List.length_map]; exact Nat.le_trans (List.length_take_le' _ _) (show 2 ≤ 2000 by decide)), upd_same, fun b o e => same_put (H0 := H2) sd nD b o e⟩
                  | j + 2, hj, eD => simp at hj
                · rintro Hd ⟨eD, sd⟩
                  have sHd : Same H Hd := sx.trans (s2.trans sd)
                  cases h0 with
                  | @ok i0 _ =>
                    cases h1 with
                    | @ok i1 _ =>
                      refine ⟨D, [true, true], rfl, SqL.of eD, _, rfl, ?_⟩
                      refine iteF ?_
                      refine .inl ⟨_, rfl, a2, _, 0, _, rfl, rfl, Same.seq (s2.trans sd) q, atI_nat (j := 0) rfl, ?_⟩
                      refine .inl ⟨_, rfl, a2, _, 1, _, rfl, rfl, Same.seq (s2.trans sd) q, atI_nat (j := 1) rfl, ?_⟩
                      refine ⟨rfl, _, rfl, ite2 (fun c5 => ?_) (fun c5 => ?_)⟩
                      · have e9 : bs[i]? = some (!decide (V.int i0 = V.int i1)) := eb
                        rw [c5] at e9
                        exact kf _ e9 _ sHd
                      · refine ⟨_, _, rfl, ?_, sHd⟩
                        have e9 : bs[i]? = some (!decide (V.int i0 = V.int i1)) := eb
                        rw [Bool.eq_false_iff.mpr c5] at e9
                        rw [List.take_add_one, e9, List.all_append, hb]
                        rfl
                    | out i1 =>
                      refine ⟨D, [true, false], rfl, SqL.of eD, _, rfl, ?_⟩
                      refine iteT ?_
                      refine iteT ?_
                      exact kf _ eb _ sHd
                    | no _ _ _ _ =>
                      refine ⟨D, [true, false], rfl, SqL.of eD, _, rfl, ?_⟩
                      refine iteT ?_
                      refine iteT ?_
                      exact kf _ eb _ sHd
                  | out i0 =>
                    refine ⟨D, [false, e1.isSome], rfl, SqL.of eD, _, rfl, ?_⟩
                    refine iteT ?_
                    refine iteT ?_
                    exact kf _ eb _ sHd
                  | no _ _ _ _ =>
                    refine ⟨D, [false, e1.isSome], rfl, SqL.of eD, _, rfl, ?_⟩
                    refine iteT ?_
                    refine iteT ?_
                    exact kf _ eb _ sHd
              · skip
                refine .inr ⟨_, rfl, a2, rfl, ⟨_, sqt_same s2 q⟩, fun D nD => ?_⟩
                refine lc_tup (K := K) (a := a2) (xs := [y0, y1]) (fun j Hd => Hd D = some (.lst (([e0.isSome, e1.isSome].take j).map V.bl)) ∧ Same H2 Hd) ⟨upd_same, same_upd nD⟩ (fun j Hd _ hh => sqt_same (s2.trans hh.2) q) ?_ ?_
                · rintro j x Hd hj ⟨eD, sd⟩
                  refine ⟨rfl, ?_⟩
                  dsimp only [tYes]
                  refine iteT ?_
                  match j, hj, eD with
                  | 0, hj, eD =>
                    cases hj
                    refine ⟨_, rfl, _, rfl, _, _, rfl, rfl, ?_⟩
                    dsimp only [tNil, List.cons_append, List.nil_append]
                    exact endj_sp (h0.same (s2.trans sd)) ⟨_, eD, small_2000 (by rw [List.length_map]; exact Nat.le_trans (List.length_take_le' _ _) (show 2 ≤ 2000 by decide)), upd_same, fun b o e => same_put (H0 := H2) sd nD b o e⟩
                  | 1, hj, eD =>
                    cases hj
                    refine ⟨_, rfl, _, rfl, _, _, rfl, rfl, ?_⟩
                    dsimp only [tNil, List.cons_append, List.nil_append]
                    exact endj_sp (h1.same (s2.trans sd)) ⟨_, eD, small_2000 (by rw [List.length_map]; exact Nat.le_trans (List.length_take_le' _ _) (show 2 ≤ 2000 by decide)), upd_same, fun b o e => same_put (H0 := H2) sd nD b o e⟩
                  | j + 2, hj, eD => simp at hj
                · rintro Hd ⟨eD, sd⟩
                  have sHd : Same H Hd := sx.trans (s2.trans sd)
                  cases h0 with
                  | @ok i0 _ =>
                    cases h1 with
                    | @ok i1 _ =>
                      refine ⟨D, [true, true], rfl, SqL.of eD, _, rfl, ?_⟩
                      refine iteF ?_
                      refine .inr ⟨_, rfl, a2, _, 0, _, rfl, rfl, sqt_same (s2.trans sd) q, atI_nat (j := 0) rfl, ?_⟩
                      refine .inr ⟨_, rfl, a2, _, 1, _, rfl, rfl, sqt_same (s2.trans sd) q, atI_nat (j := 1) rfl, ?_⟩
                      refine ⟨rfl, _, rfl, ite2 (fun c5 => ?_) (fun c5 => ?_)⟩
                      · have e9 : bs[i]? = some (!decide (V.int i0 = V.int i1)) := eb
                        rw [c5] at e9
                        exact kf _ e9 _ sHd
                      · refine ⟨_, _, rfl, ?_, sHd⟩
                        have e9 : bs[i]? = some (!decide (V.int i0 = V.int i1)) := eb
                        rw [Bool.eq_false_iff.mpr c5] at e9
                        rw [List.take_add_one, e9, List.all_append, hb]
                        rfl
                    | out i1 =>
                      refine ⟨D, [true, false], rfl, SqL.of eD, _, rfl, ?_⟩
                      refine iteT ?_
                      refine iteT ?_
                      exact kf _ eb _ sHd
                    | no _ _ _ _ =>
                      refine ⟨D, [true, false], rfl, SqL.of eD, _, rfl, ?_⟩
                      refine iteT ?_
                      refine iteT ?_
                      exact kf _ eb _ sHd
                  | out i0 =>
                    refine ⟨D, [false, e1.isSome], rfl, SqL.of eD, _, rfl, ?_⟩
                    refine iteT ?_
                    refine iteT ?_
                    exact kf _ eb _ sHd
                  | no _ _ _ _ =>
                    refine ⟨D, [false, e1.isSome], rfl, SqL.of eD, _, rfl, ?_⟩
                    refine iteT ?_
                    refine iteT ?_
                    exact kf _ eb _ sHd
          · rintro σ Hx ⟨v2, v3, rfl, hb, sx⟩
            rw [← hA.len, List.take_length] at hb
            have := k Hx sx
            rw [hb, decide_eq_true (by omega : xs.length ≤ 12)] at this
            exact this
      · refine (if_pos (decide_eq_true (by omega))).mpr ?_
        have := k H1 s1
        rw [decide_eq_false c, Bool.false_and] at this
        exact this
end
end K03


set_option Elab.async false
set_option maxRecDepth 100000
set_option maxHeartbeats 2000000
set_option linter.all false
namespace K03
open PySem PySem.Spec PyProof.Rows L2
/-! a caught exception that outlives its except suite -/
def ExR (cls : Value) (d : Option Addr) (a : Addr) : HO := .ext fun h => ∃ (oe : Obj) (vs : Array Value), h.get? a = some oe ∧ Zc cls d oe ∧ oe.data = .fields vs
theorem exR_ok {P : Program} {w : World} {H : Hp} {h : Heap} {a : Addr} {cls : Value} {d : Option Addr} {oe : Obj} {vs : Array Value} (e : h.get? a = some oe) (z : Zc cls d oe) (hd : oe.data = .fields vs) : ObjOk P w H h a (ExR cls d a) :=
  ⟨⟨oe, vs, e, z, hd⟩, ⟨oe, e⟩, fun _ _ ⟨o, v, q, r⟩ k => ⟨o, v, k o q, r⟩⟩
theorem exR_at {P : Program} {w : World} {H : Hp} {h : Heap} {a : Addr} {cls : Value} {d : Option Addr} (hok : HOk P w H h) (e : H a = some (ExR cls d a)) : ∃ (oe : Obj) (vs : Array Value), h.get? a = some oe ∧ Zc cls d oe ∧ oe.data = .fields vs := by
  have x : ObjOk P w H h a (.ext fun h => ∃ (oe : Obj) (vs : Array Value), h.get? a = some oe ∧ Zc cls d oe ∧ oe.data = .fields vs) := hok a _ e
  exact x.1
section
variable {X : Cx} {pins : List (Addr × Obj)} {σ : L2.St} {H : Hp} {s : Shared}
theorem track {a : Addr} {oe : Obj} {vs : Array Value} {cls : Value} {d : Option Addr} (I : Inv X ((a, oe) :: pins) σ H s) (h0 : X.s_0.heap.get? a = none) (hp : ∀ p ∈ X.pn ++ pins, p.1 ≠ a) (hz : Zc cls d oe) (hd : oe.data = .fields vs) :
    H a = none ∧ Inv X pins σ (upd H a (ExR cls d a)) s := by
  obtain ⟨he, na, nL, nF, nC⟩ := I.pin (a, oe) (by simp)
  refine ⟨na, I.ok, I.os, I.bare, ⟨I.base.keep, I.base.slot, fun b o e n hx => ?_, I.base.there, fun b xs e => ?_, fun b o u e => ?_, fun b ps e => ?_⟩, I.loc, I.cell, ?_, fun x c e => ?_, fun p m => ?_, fun b o e => ?_, I.len⟩
  · have hb : b ≠ a := fun z => by
      rw [z, h0] at e
      cases e
    rw [upd_ne hb]
    exact I.base.free b o e n hx
  · have e' := I.base.tups b xs e
    rw [upd_ne (ne_of_none e' na)]
    exact e'
  · have e' := I.base.frzs b o u e
    rw [upd_ne (ne_of_none e' na)]
    exact e'
  · obtain ⟨more, e'⟩ := I.base.tbls b ps e
    exact ⟨more, by rw [upd_ne (ne_of_none e' na)]; exact e'⟩
  · rw [upd_ne (Ne.symm nL)]
    exact I.free
  · have hc : c ≠ a := fun z => by
      obtain ⟨v, o, ho, hd'⟩ := I.cell x c e
      rw [z] at ho
      have he' : s.heap.get? a = some oe := he
      rw [he'] at ho
      cases ho
      exact nC v hd'
    rw [upd_ne hc]
    exact I.freeC x c e
  · have hm : p ∈ X.pn ++ (a, oe) :: pins := by
      rcases List.mem_append.mp m with m | m
      · exact List.mem_append_left _ m
      · exact List.mem_append_right _ (List.mem_cons_of_mem _ m)
    obtain ⟨e, n, r⟩ := I.pin p hm
    exact ⟨e, by rw [upd_ne (hp p m)]; exact n, r⟩
  · by_cases hb : b = a
    · subst hb
      rw [upd_same] at e
      cases e
      exact exR_ok he hz hd
    · rw [upd_ne hb] at e
      exact (I.hok b o e).stay (fun c v hc q => q) (fun c q => by rw [upd_ne (ne_of_none q na)]; exact q) (fun c xs q => by rw [upd_ne (ne_of_none q na)]; exact q)
end
/-- the wish of a clause 'except x as n' whose exception lives on -/
def wKp (K : PySem.W.Frag) (c : Value) (i : Nat) (ts : Addr → Value → Option Addr → TS) (Wout : WX) (D : Ends) : WX := fun cls d σ H =>
  ∃ b, PySem.W.exmOne K cls c = some b ∧ (b = true → ∀ a, H a = none → ts a cls d { nx := fun σ' H' => H' a = none → D.nx (σ'.set i none) (upd H' a (ExR cls d a)), rt := fun v H' => H' a = none → D.rt v (upd H' a (ExR cls d a)), bk := fun σ' H' => H' a = none → D.bk (σ'.set i none) (upd H' a (ExR cls d a)), ct := fun σ' H' => H' a = none → D.ct (σ'.set i none) (upd H' a (ExR cls d a)) } (σ.set i (some (.ref a))) H) ∧
    (b = false → Wout cls d σ H)
section
variable {X : Cx} {x n : Str} {c : Value} {i : Nat} {body suite : List Stmt} {b₀ : Stmt} {np pos pos' : Pos} {tb : WX → TS} {ts : Addr → Value → Option Addr → TS} {Wout : WX}
theorem ps_try_keep (hs : X.stack = X.env :: X.outer) (hf : X.env.frame = some X.env.locals) (hex : X.ex = []) (hN : X.N.Nodup) (hi : X.N[i]? = some n) (hln : X.env.kindOf n = some .local) (hc : Names X x c) (tk : Takes X Wout)
    (hb : ∀ (W : WX) (pn : List (Addr × Obj)) (xe : Value → Shared → Prop), Takes (X.tr pn xe) W → PassesOwn (model X.prog X.w) X.A X.env xe → PSs (X.tr pn xe) body (tb W))
    (hsu : ∀ (a : Addr) (oe : Obj) (cls : Value) (d : Option Addr) (pn : List (Addr × Obj)), Zc cls d oe → (∃ vs, oe.data = .fields vs) → PSs (X.suite a ((a, oe) :: pn)) (b₀ :: suite) (ts a cls d)) :
    PS X (.Try body [.ExceptHandler (some (.Name x np)) (some n) (b₀ :: suite) pos'] [] [] pos) (fun D σ H => tb (wKp X.K c i ts Wout D) D σ H) := by
  refine ⟨fun pins s σ H D I h => ?_⟩
  have ok := I.ok
  have hfr : X.A.frames = some (X.env :: X.outer) := by rw [ok.frames, hs]
  have hloc : Loc X.env.scope n := .inl hln
  refine wpAny_Try_except ?_
  refine wpAny_mono ((hb (wKp X.K c i ts Wout D) (X.pn ++ pins) (fun e s₁ => wpAny (model X.prog X.w) X.A (noteFrame e X.env) (fun _ s₂ => wpAny (model X.prog X.w) X.A (setFlight e none) (fun _ s₃ =>
    wpAny (model X.prog X.w) X.A (handleBy e X.env [.ExceptHandler (some (.Name x np)) (some n) (b₀ :: suite) pos']) (SP X pins D) X.xe s₃) X.xe s₂) X.xe s₁) (fun u s' xx => ?_) PassesOwn.looking).run [] s σ H D (I.toTry _) h) (fun f s1 hsp => ?_) (fun e s1 he => he)
  · obtain ⟨a, B, sI, pins', σ', H', cls, d, rfl, J', nb, up, sky, na, os, ag, b, hb1, hyes, hno⟩ := xx
    have J : Inv X pins σ' H' sI := J'.ofTry ok
    have sky' : Sky B (X.env :: X.outer) a (Zc cls d) X.env.locals s'.heap := by rw [← hs]; exact sky
    show wpAny (model X.prog X.w) X.A (noteFrame (.ref a) X.env) _ _ _
    refine Sky.land Zc.steady hfr hf sky' fun h3 fl3 up3 => ?_
    have J3 : Inv X pins σ' H' { s' with heap := h3 } := J.landed nb fl3.1 (up.trans up3) os ag
    obtain ⟨oe3, vs3, he3, hz3, hd3⟩ := fl3.there
    have notFr : ∀ {h : Heap} {o : Obj} {vs : Array Value}, h.FunFrames B (X.env :: X.outer) → h.get? a = some o → o.data = .fields vs → a ∉ frs (X.env :: X.outer) := fun {h o vs} ff e dd hm => by
      obtain ⟨_, o', e', hnf⟩ := ff.mem hm
      rw [e] at e'; cases e'
      exact hnf _ dd
    have nfr := notFr fl3.2.2.1 he3 hd3
    have nI : sI.heap.get? a = none := by
      cases q : sI.heap.get? a with
      | none => rfl
      | some o =>
        have z := nb a o q (by rw [hs]; exact nfr)
        rw [fl3.2.1] at z
        cases z
    have n0 : X.s_0.heap.get? a = none := by
      cases q : X.s_0.heap.get? a with
      | none => rfl
      | some o =>
        obtain ⟨o', z⟩ := J.base.there a o q (by rw [hex]; simp)
        rw [nI] at z
        cases z
    have npn : ∀ p ∈ X.pn ++ pins, p.1 ≠ a := fun p m z => by
      have e := (J.pin p m).1
      rw [z, nI] at e
      cases e
    have nL : a ≠ X.env.locals := fun z => nfr (List.mem_filterMap.mpr ⟨X.env, List.mem_cons_self, by rw [hf, z]⟩)
    have nF : a ∉ X.fs := fun hm => by
      obtain ⟨e, he, q⟩ := List.mem_filterMap.mp hm
      exact nfr (List.mem_filterMap.mpr ⟨e, List.mem_cons_of_mem _ he, q⟩)
    have S3 := J3.suite he3 hd3 na nL nF
    refine wpAny_handleBy_cons (codeAny_handlers_test ?_) (by intro q; cases q)
    have LT : PySem.W.Looks (model X.prog X.w) h3 (typeOf (.ref a)) cls := fun A Q E s k q => wpAny_typeOf_ref (k _ _ he3) (by rw [hz3.1]; exact q)
    have LM := PySem.W.exm_one (M := model X.prog X.w) (J3.kIn) LT hb1
    have test : ∀ {Q : Value → Shared → Prop} {E : Value → Shared → Prop}, Q c { s' with heap := h3 } → wpAny (model X.prog X.w) (X.A.mark (some (.ref a))) (eval (.Name x np) X.env) Q E { s' with heap := h3 } := fun {Q E} q => by
      obtain ⟨hg, hdbg, hm | ⟨hm, hv, hnn⟩⟩ := hc
      · exact ld_glob (X := X.suite a ((a, oe3) :: (X.pn ++ pins))) S3 hg hm q hdbg
      · exact ld_blt (X := X.suite a ((a, oe3) :: (X.pn ++ pins))) S3 hg hm hv q hnn hdbg
    refine test (LM.here ?_)
    cases b with
    | true =>
      refine codeAny_handlers_suite_as ?_
      refine HandSPX.lands_againZ fl3 fun h4 fl4 up4 => ?_
      have J4 : Inv X pins σ' H' { s' with heap := h4 } := J.landed nb fl4.1 ((up.trans up3).trans up4) os ag
      obtain ⟨oe4, vs4, he4, hz4, hd4⟩ := fl4.there
      have S4 := J4.suite he4 hd4 na nL nF
      refine store_ok (X := X.suite a ((a, oe4) :: (X.pn ++ pins))) (v := .ref a) S4 hN hi hloc rfl (fun s5 S5 => ?_) (.inr hln)
      refine wpAny_mono ((hsu a oe4 cls d (X.pn ++ pins) hz4 ⟨_, hd4⟩).run [] s5 _ H' _ S5 (hyes rfl a na)) (fun f s6 hsp => ?_) (fun _ _ z => False.elim z)
      have end_ : ∀ {σ6 : L2.St} {H6 : Hp} {Q : Shared → Prop}, Inv (X.suite a ((a, oe4) :: (X.pn ++ pins))) [] σ6 H6 s6 → (∀ s7, H6 a = none → Inv X pins (σ6.set i none) (upd H6 a (ExR cls d a)) s7 → Q s7) →
          wpAny (model X.prog X.w) X.A (do bindName X.env n .none; unbindBehindTheSuite X.env n pos') (fun _ s7 => Q s7) X.xe s6 := fun {σ6 H6 Q} S6 hq => by
        have U : Inv X ((a, oe4) :: pins) σ6 H6 s6 := ⟨ok, S6.os, S6.bare, S6.base, S6.loc, S6.cell, S6.free, S6.freeC, fun p hp => S6.pin p (by
          have hp' : p ∈ X.pn ++ (a, oe4) :: pins := hp
          show p ∈ ((a, oe4) :: (X.pn ++ pins)) ++ []
          simp only [List.mem_append, List.mem_cons, List.append_nil] at hp' ⊢
          rcases hp' with z | z | z
          · exact .inr (.inl z)
          · exact .inl z
          · exact .inr (.inr z)), S6.hok, S6.len⟩
        refine gone_ok U hN hi hln fun s7 J7 => ?_
        obtain ⟨n7, T7⟩ := track (cls := cls) (d := d) J7 n0 npn hz4 hd4
        exact hq s7 n7 T7
      cases f with
      | next =>
        obtain ⟨σ6, H6, S6, q6⟩ := hsp
        exact end_ S6 fun s7 n7 J7 => ⟨_, _, J7, q6 n7⟩
      | brk =>
        obtain ⟨σ6, H6, S6, q6⟩ := hsp
        exact end_ S6 fun s7 n7 J7 => ⟨_, _, J7, q6 n7⟩
      | cont =>
        obtain ⟨σ6, H6, S6, q6⟩ := hsp
        exact end_ S6 fun s7 n7 J7 => ⟨_, _, J7, q6 n7⟩
      | ret u =>
        obtain ⟨v6, σ6, H6, S6, r6, q6⟩ := hsp
        exact end_ S6 fun s7 n7 J7 => ⟨_, _, _, J7, r6, q6 n7⟩
    | false =>
      show wpAny _ X.A (handleBy (.ref a) X.env []) _ _ _
      refine wpAny_handleBy_nil ?_
      obtain ⟨k1, k2, k3, oe, vs, T, oT, ts', he, hz, hd, h1, hr⟩ := id fl3
      unfold PySem.passOn
      refine wpAny_bind (wpAny_field he hd h1 ?_)
      rw [if_neg (show ¬ ((Value.ref T == Value.none) = true) from by simp)]
      have fin : wpAny (model X.prog X.w) X.A (setFlight (.ref a) X.env.frame) (fun _ s4 => wpAny (model X.prog X.w) X.A (throw (.ref a) : Sem Flow) (SP X pins D) X.xe s4) X.xe { s' with heap := h3 } := by
        rw [hf]
        refine HandSPX.setFlight_upZ fl3 fun h4 hh4 up4 => wpAny_throw (tk _ _ ?_)
        exact ⟨a, B, sI, pins, σ', H', cls, d, rfl, J, nb, (up.trans up3).trans up4, .inr (.inr (by rw [hs]; exact hh4)), na, os, ag, hno rfl⟩
      first
        | exact wpAny_bind (wpAny_pure (wpAny_bind fin))
        | exact wpAny_bind fin
  · cases f with
    | next =>
      obtain ⟨σ', H', J', q⟩ := hsp
      exact wpAny_execs_nil ⟨σ', H', J'.ofTry ok, q⟩
    | brk =>
      obtain ⟨σ', H', J', q⟩ := hsp
      exact ⟨σ', H', J'.ofTry ok, q⟩
    | cont =>
      obtain ⟨σ', H', J', q⟩ := hsp
      exact ⟨σ', H', J'.ofTry ok, q⟩
    | ret u =>
      obtain ⟨v, σ', H', J', r, q⟩ := hsp
      exact ⟨v, σ', H', J'.ofTry ok, r, q⟩
end
end K03


set_option Elab.async false
set_option maxRecDepth 100000
set_option maxHeartbeats 1000000
namespace K03
open PySem PySem.Spec PyProof.Rows L2
/-! super().__init__('..') in the __init__ of an own exception class, the exception being made -/
section
open PySem.W
variable {prog : Program} {w : World} {A : Around} {E : Value → Shared → Prop} {h : Heap} {g : Array GenState} {d : Drawn} {tk : Nat} {os : OsState}
theorem call_mw {nm q : Str} {C N u x t : Addr} {bs bm : List Value} {hdct : Bool} {sn : List Str} {sub : List Value} {ab : Bool} {col : Option Bool} {dd dv : Option Addr} {k0 k1 k2 k3 k5 : Option Value} {rest : List Value} {Q : Value → Shared → Prop}
    (hC : h.get? C = some (excClassObj nm q C N bs bm hdct sn sub ab col dd k0 k1 k2 k3 k5 "ValueError.__new__")) (hu : h.get? u = some (kxs_mw "ValueError.__init__" x)) (hx : h.get? x = some (W.excObj C t dv .none)) (hz : rest.length ≤ sizeLine)
    (fin : ∀ h', (∀ b o, b ≠ x → h.get? b = some o → h'.get? b = some o) → h'.get? x = some (W.excObj C h.objs.size dv .none) → Q .none ⟨h', g, d, tk, os⟩) :
    wpAny (model prog w) A (call (.ref u) rest) Q E ⟨h, g, d, tk, os⟩ := by
  apply wpAny_call
  apply codeAny_of_tree
  show wpAny _ A.in1 (callAny (.ref u) ⟨rest, []⟩) _ _ _
  simp only [callAny]
  apply wpAny_bind
  refine wpAny_load hu ?_
  simp only [show (Value.type "method-wrapper" == Value.type "method" || Value.type "method-wrapper" == Value.type "builtin_function_or_method" || Value.type "method-wrapper" == Value.type "method-wrapper") = true by decide, if_true]
  refine KFB.if_so (by decide) (wpAny_bind (check_bound_init F.excBase_ValueError.toExcCallFacts hC hx rfl (wpAny_bind (wpAny_pure (wpAny_pure ⟨plainId_quiet F.excBase_ValueError.init.plain _, codeAny_builtin F.excBase_ValueError.initEntry ?_⟩)))))
  exact exc_init_tree (cls := .ref C) (t0 := t) (dv := dv) (c2 := .none) (c3 := .none) (b4 := .bool false) hx hz fun h' k e _ => fin h' k e
end
/-- what the written part says of an __init__ that says super(): the def at f, its code at c, the cell of its class C at cc -/
structure SupDef (P : Program) (K : PySem.W.Frag) (mg : Str → Option Value) (C f c cc : Addr) : Prop where
  fn : ∃ oc od fd osl ar, K.lookup f = some ⟨oc, od, .func fd, osl⟩ ∧ (fd.params.posonlyargs ++ fd.params.args).head? = some ar ∧ ar.arg = "self"
  code : ∃ ccl cdd vs ccs file tf, K.lookup c = some ⟨ccl, cdd, .fields vs, ccs⟩ ∧ vs[2]? = some (.str file tf) ∧ ((P.main.file : Str) == file) = true
  cell : ∃ cl cld csl, K.lookup cc = some ⟨cl, cld, .cell (some (.ref C)), csl⟩
  cls : ∃ cd, PySem.W.clsIn K C = some cd
  top : (P.main.scope.names.lookup ("super" : Str)).isSome = false
  third : PySem.W.nsIn K cStatics "thirdparty.any" = some none
  mro : PySem.W.mroIn K C (.ref C) = some true
  sup : PySem.W.ks_superIn K C C "__init__" = some (some (.builtin "ValueError.__init__"))
  ve : PySem.W.subIn K (.ref C) (.type "ValueError") = some true
  mgS : mg "super" = none
theorem sup_stmt {X : Cx} {σ : L2.St} {H : Hp} {s : Shared} {C f c cc x L : Addr} {q : Str} {sc : Scope} {msg : Str} {kk : Nat} {body : List Stmt} {p0 p1 p2 p3 p4 p5 : Pos}
    (S : SupDef X.prog X.K X.mg C f c cc) (T : OexC X.K C) (he : X.env = PySem.W.envX q sc L f (.ref c) [("__class__", cc)]) (hk : sc.kind = .function) (h1 : sc.names.lookup ("super" : Str) = some .globalImplicit) (h2 : sc.names.lookup ("__class__" : Str) = some .free) (h3 : sc.names.lookup ("self" : Str) = some .local)
    (I : Inv X [] σ H s) (hN : X.N[0]? = some ("self" : Str)) (hσ : σ[0]? = some (some (.ref x))) (hx : H x = some (exo x C none)) {pl : Sem Bool} (hi : interactive X.env = false)
    (hs : swapsWith (.Call (.Attribute (.Call (.Name "super" p0) [] [] p1) "__init__" p2) [.Constant (.str msg) kk p5] [] p3) none p4.line X.env = pure false)
    (hev : eval (.Call (.Attribute (.Call (.Name "super" p0) [] [] p1) "__init__" p2) [.Constant (.str msg) kk p5] [] p3) X.env = (do
      let ov ← attributeBase (.Call (.Name "super" p0) [] [] p1) "__init__" X.env (eval (.Call (.Name "super" p0) [] [] p1) X.env)
      standAt p2.atName
      let (f, first) ← holding [ov] (getMethod ov "__init__" pl)
      callWith p3 f first (backTo p3 (starEach [.Constant (.str msg) kk p5] X.env)) []))
    (ha : starEach [.Constant (.str msg) kk p5] X.env = [(false, eval (.Constant (.str msg) kk p5) X.env)]) :
    _root_.PySem.wpAt (model X.prog X.w) X.A (.func body X.env) (exec (.Expr (.Call (.Attribute (.Call (.Name "super" p0) [] [] p1) "__init__" p2) [.Constant (.str msg) kk p5] [] p3) p4) X.env) (fun fl s' => fl = .next ∧ Inv X [] σ H s') X.xe s := by
  obtain ⟨oc, od, fd, osl, ar, lf, hp, hself⟩ := S.fn
  obtain ⟨ccl, cdd, vs, ccs, file, tf, lc, hvs, hfile⟩ := S.code
  obtain ⟨cl, cld, csl, lcell⟩ := S.cell
  obtain ⟨cd, hcd⟩ := S.cls
  have KX := I.kIn
  refine ks_wpAt_Expr_any (ks_wpAt_MethodCall ?_ hev) hi hs
  have e1 : X.env.kindOf "super" = some .globalImplicit := by rw [he]; exact h1
  have e2 : X.env.kindOf "__class__" = some .free := by rw [he]; exact h2
  have e3 : X.env.kindOf ar.arg = some .local := by rw [he, hself]; exact h3
  have hkk : X.env.scope.kind = .function := by rw [he]; exact hk
  refine ks_wpAt_super_base e1 e2 (by decide) (by rw [he]) (KX _ _ lf) rfl hp (by rw [he]) (KX _ _ lc) rfl hvs hfile S.top ?_
  -- the three names
  obtain ⟨mb, hb, hbb⟩ := I.mod.blt
  refine PySem.W.ks_loadName_global hkk e1 (Calls.loadGlobal_builtin (by rw [I.ok.glob]; exact I.mod.glob.keeps I.bk) S.mgS (by rw [I.ok.blt]; exact hb.keeps I.bk) ((hbb _ (by decide +kernel)).trans (show bootBuiltins "super" = some (.type "super") by rfl)) ⟨rfl, ?_⟩)
  refine wpAny_loadName_free hkk e2 (by rw [he]; rfl) ⟨_, KX _ _ lcell, rfl⟩ ?_
  obtain ⟨m, hns, hloc⟩ := I.loc
  obtain ⟨u, ru, hlk⟩ := hloc 0 "self" _ hN hσ (.inl (by rw [he]; exact h3))
  obtain rfl : u = Value.ref x := ru
  have hmx : m ar.arg = some (.ref x) := by
    rcases hlk with ⟨_, z⟩ | ⟨z, _⟩
    · rw [hself]; exact z
    · have e4 : X.env.kindOf "self" = some .local := by rw [← hself]; exact e3
      rw [e4] at z
      rcases z with z | z <;> cases z
  refine wpAny_loadName_local hkk e3 hns hmx ?_
  obtain ⟨oD, hD1, hD2⟩ : ∃ oD, s.heap.get? C = some oD ∧ oD.data = .cls cd := by
    unfold PySem.W.clsIn at hcd
    split at hcd
    · rename_i a b cd' sl ho
      cases hcd
      exact ⟨_, KX _ _ ho, rfl⟩
    · cases hcd
  obtain ⟨t1, hox⟩ := exo_at I.hok hx
  obtain ⟨nm, qn, N, bs, bm, sn, sub, ab, col, dd, k0, k1, k2, k3, k5, hC, hbm⟩ := T.cls
  have hxC : x ≠ C := fun z => by
    have y := KX _ _ hC
    rw [← z, hox] at y
    have y1 := congrArg Obj.data (Option.some.inj y)
    cases y1
  obtain ⟨hh, gg, dr, tk, os⟩ := s
  refine ks_wpAny_isType_cls hD1 hD2 ⟨rfl, ?_⟩
  refine ks_wpAny_call_super hD1 hD2 hox rfl (fun z e => by cases e) (PySem.W.looks_mroIn KX S.mro) (fun hp1 e1' k1' => ?_)
  have I1 : Inv X [] σ H ⟨hp1, gg, dr, tk, os⟩ := I.kept k1'
  have KX1 := I1.kIn
  -- .__init__
  have hal : PySem.W.alongIn X.K "__init__" ((cd.mro.dropWhile (· != .ref C)).drop 1) = some (some (.builtin "ValueError.__init__")) := by
    have y := S.sup
    unfold PySem.W.ks_superIn at y
    rw [hcd] at y
    exact y
  have IA : PySem.W.InstAt hp1 x { cls := .ref C, dict := none, data := .fields #[.ref t1, .none, .none, .none, .bool false, .none] } C none := ⟨k1' _ _ hox, rfl, rfl, trivial⟩
  refine PySem.W.kxs_getMethod PySem.W.kxs_ValueError e1' (PySem.W.looks_opaque KX1 S.third) (l₀ := cd.mro) (fun A Q E s k q => wpAny_bind ((PySem.W.looks_clsIn KX1 hcd) A _ E s k (wpAny_pure q))) rfl KX1 hal (IA.type.andThen (PySem.W.looks_subIn KX1 S.ve)) hxC (by decide) ?_
  have k2' : ∀ b o, hp1.get? b = some o → (hp1.push (PySem.W.kxs_mw "ValueError.__init__" x)).get? b = some o := fun b o e => Heap.get?_push_of_some _ e
  have hu2 : (hp1.push (PySem.W.kxs_mw "ValueError.__init__" x)).get? hp1.objs.size = some (PySem.W.kxs_mw "ValueError.__init__" x) := Heap.get?_push_at rfl rfl
  have I2 : Inv X [] σ H ⟨hp1.push (PySem.W.kxs_mw "ValueError.__init__" x), gg, dr, tk + 1, os⟩ := I1.kept k2'
  -- the call
  show wpAny _ _ (callWith p3 (Value.ref hp1.objs.size) [] (backTo p3 (starEach [Expr.Constant (Const.str msg) kk p5] X.env)) []) _ _ _
  rw [ha]
  refine PySem.W.kxs_callWith (i := "ValueError.__init__") (x := x) rfl ?_
  refine Calls.evalArgs_plain ?_
  show wpAny _ _ (spliced [(false, eval (.Constant (.str msg) kk p5) X.env)]) _ _ _
  refine Calls.spliced_cons ?_
  refine Calls.Constant_str (Calls.spliced_nil ⟨hu2, ?_⟩)
  have I4 : Inv X [] σ H ⟨hp1.push (PySem.W.kxs_mw "ValueError.__init__" x), gg, dr, tk + 1 + 1, os⟩ := I2.tok _
  have hx4 := k2' _ _ (k1' _ _ hox)
  refine call_mw (I4.kIn _ _ hC) hu2 hx4 (by show 1 ≤ sizeLine; decide) fun h' kk' hx' => ⟨rfl, ?_⟩
  have J := I4.write (h' := h') (t' := tk + 1 + 1) (x := x) (e := x) (o := exo x C none) (by rw [hx]; exact True.intro) (.inl rfl) kk' ⟨_, hx'⟩ (exo_ok hx')
  have eu : upd H x (exo x C none) = H := by
    funext b
    by_cases hb : b = x
    · rw [hb, upd_same, hx]
    · rw [upd_ne hb]
  rw [eu] at J
  exact J
end K03


set_option Elab.async false
set_option maxRecDepth 100000
set_option maxHeartbeats 1000000
namespace K03
open PySem PySem.Spec PyProof.Rows L2 NdefX
/-! an own exception's __init__: super().__init__('..'); self.f = v -/
def spInitX (C : Addr) (fld : Str) : Sp := fun vs H Q _ => ∃ (x : Addr) (y : V), vs = [.ref x, y] ∧ H x = some (exo x C none) ∧
  ∀ d : Addr, H d = none → d ≠ x → Q .non (upd (upd H d (exd d [(fld, y)])) x (exo x C (some d)))
structure SupTxt (P : Program) (K : PySem.W.Frag) (mg : Str → Option Value) (C : Addr) (fld : Str) : Prop where
  oex : OexC K C
  nofld : PySem.W.findIn K (.ref C) fld = some none
section
variable {P : Program} {w : World} {K : PySem.W.Frag} {mg : Str → Option Value} {base : Heap}
theorem ok_initx {CX : CXT} {C f c cc : Addr} {qual fld : Str} {params : Arguments} {scope : Scope} {doc pm ct oc : Value} {an od : Option Addr} {osl : Array (Option Value)} {msg : Str} {kk : Nat} {p0 p1 p2 p3 p4 p5 p6 p7 p8 p9 : Pos}
    (T : SupTxt P K mg C fld) (S : SupDef P K mg C f c cc)
    (lk : K.lookup f = some ⟨oc, od, .func (PySem.W.ksFn "__init__" qual params
      [.Expr (.Call (.Attribute (.Call (.Name "super" p0) [] [] p1) "__init__" p2) [.Constant (.str msg) kk p5] [] p3) p4, .Assign [.Attribute (.Name "self" p6) fld p7] (.Name fld p8) p9] scope .none .none doc pm an (.ref c) ct cc), osl⟩)
    (hcd : PySem.W.codeIn K (.ref c) qual = true) (hS : nscB ["self", fld, "__class__"] ["self", fld] ["__class__"] scope = true) (h1 : scope.names.lookup ("super" : Str) = some .globalImplicit) (hdb : (fld == ("__debug__" : Str)) = false) (hdc : (fld == ("__classdict__" : Str)) = false) {pl : Sem Bool}
    (hev : ∀ L : Addr, eval (.Call (.Attribute (.Call (.Name "super" p0) [] [] p1) "__init__" p2) [.Constant (.str msg) kk p5] [] p3) (PySem.W.envX qual scope L f (.ref c) [("__class__", cc)]) = (do
      let ov ← attributeBase (.Call (.Name "super" p0) [] [] p1) "__init__" (PySem.W.envX qual scope L f (.ref c) [("__class__", cc)]) (eval (.Call (.Name "super" p0) [] [] p1) (PySem.W.envX qual scope L f (.ref c) [("__class__", cc)]))
      standAt p2.atName
      let (fn, first) ← holding [ov] (getMethod ov "__init__" pl)
      callWith p3 fn first (backTo p3 (starEach [.Constant (.str msg) kk p5] (PySem.W.envX qual scope L f (.ref c) [("__class__", cc)]))) []))
    (hin : ∀ L : Addr, interactive (PySem.W.envX qual scope L f (.ref c) [("__class__", cc)]) = false)
    (hsn : ∀ L : Addr, swapsWith (.Call (.Attribute (.Call (.Name "super" p0) [] [] p1) "__init__" p2) [.Constant (.str msg) kk p5] [] p3) none p4.line (PySem.W.envX qual scope L f (.ref c) [("__class__", cc)]) = pure false)
    (hsw : ∀ L : Addr, swapsWith (.Name fld p8) (some (.Attribute (.Name "self" p6) fld p7)) p9.line (PySem.W.envX qual scope L f (.ref c) [("__class__", cc)]) = pure false) :
    FnOk P w K mg base CX 2 f (PySem.W.ksFn "__init__" qual params
      [.Expr (.Call (.Attribute (.Call (.Name "super" p0) [] [] p1) "__init__" p2) [.Constant (.str msg) kk p5] [] p3) p4, .Assign [.Attribute (.Name "self" p6) fld p7] (.Name fld p8) p9] scope .none .none doc pm an (.ref c) ct cc) ["self", fld] (spInitX C fld) := by
  have N := nscope_by hS
  have len : ∀ vs H Q E, spInitX C fld vs H Q E → vs.length = (["self", fld] : List Str).length := by
    rintro vs H Q E ⟨x, y, rfl, _⟩
    rfl
  refine ⟨len, fun A outer s H args us vs Q E hr e0 hb r hsp => ?_⟩
  have KX : K.In s.heap := e0.mod.kin.keeps fun b o e => (e0.bs b o e).1
  have lim : s.heap.NoLimit := e0.mod.nolimit.keeps fun b o e => (e0.bs b o e).1
  have hl := len _ _ _ _ hsp
  obtain ⟨x, y, rfl, hx, q⟩ := hsp
  refine ks_codeAny_call_defAt hr.depth (KX _ _ lk) rfl lim (PySem.W.codeRec_of KX hcd) rfl hb N.nocell (fun z hz => ?_) (fun h₁ hns kp => ?_) N.co N.gen N.kind
  · obtain ⟨n, v⟩ := z
    exact N.par n (List.of_mem_zip hz).1
  · obtain ⟨cl, cld, csl, lcell⟩ := S.cell
    have C0 : CellsAt [(("__class__" : Str), cc)] ["__class__"] [some (.ref C)] s.heap H := {
      len := rfl
      all := fun y c e => by
        by_cases z : y = ("__class__" : Str)
        · subst z
          have : cc = c := by simpa [List.lookup] using e
          subst this
          exact ⟨(e0.bs _ _ (e0.mod.kin _ _ lcell)).2, _, _, KX _ _ lcell, rfl⟩
        · have : (y == ("__class__" : Str)) = false := by simpa using z
          simp [List.lookup, this] at e
      inj := fun a b c e1 e2 => by
        have key : ∀ y : Str, ([(("__class__" : Str), cc)] : List (Str × Addr)).lookup y = some c → y = "__class__" := fun y e => by
          by_cases z : y = ("__class__" : Str)
          · exact z
          · have : (y == ("__class__" : Str)) = false := by simpa using z
            simp [List.lookup, this] at e
        rw [key a e1, key b e2]
      has := fun i y e => by
        have z : i = 0 ∧ y = "__class__" := by
          cases i with
          | zero => exact ⟨rfl, (Option.some.inj e).symm⟩
          | succ i => simp at e
        obtain ⟨rfl, rfl⟩ := z
        exact ⟨cc, by simp [List.lookup], fun v hv => by
          cases hv
          exact ⟨_, rfl, _, KX _ _ lcell, rfl⟩⟩ }
    let F : NF := ⟨"__init__", qual, params, [.Expr (.Call (.Attribute (.Call (.Name "super" p0) [] [] p1) "__init__" p2) [.Constant (.str msg) kk p5] [] p3) p4, .Assign [.Attribute (.Name "self" p6) fld p7] (.Name fld p8) p9], scope, [("__class__", cc)], c⟩
    have I : Inv (ncx CX P w K mg base ["self", fld, "__class__"] F f A outer s H E) [] (startF ["self", fld, "__class__"] [.ref x, y] [some (.ref C)]) H { s with heap := h₁, toks := s.toks + ((["self", fld] : List Str).zip us).length } :=
      inv_startN (F := F) N hr.hd e0 hl r C0 hns kp
    refine ks_wpAt_execs_cons (ks_wpAt_mono (sup_stmt (X := ncx CX P w K mg base ["self", fld, "__class__"] F f A outer s H E) S T.oex rfl N.kind h1 (N.frk _ (by simp)) (N.par _ (by simp)) I rfl rfl hx (hin _) (hsn _) (hev _) rfl) (fun fl s' hs => ?_) fun _ _ z => z)
    obtain ⟨rfl, J⟩ := hs
    refine wpAt_of_wpAny ?_
    have ht : PSs (ncx CX P w K mg base ["self", fld, "__class__"] F f A outer s H E) [.Assign [.Attribute (.Name "self" p6) fld p7] (.Name fld p8) p9] (tOst K fld (tVar 0) (tVar 1)) :=
      pss_one (ps_ost (pe_var (i := 0) rfl (.inl (N.par _ (by simp)))) (pe_var (i := 1) rfl (.inl (N.par _ (by simp))) hdb hdc) (hsw _))
    have hq : (tOst K fld (tVar 0) (tVar 1)) { nx := fun _ H' => Q .non H', rt := Q } (startF ["self", fld, "__class__"] [.ref x, y] [some (.ref C)]) H :=
      ⟨_, rfl, _, rfl, x, C, rfl, T.oex, T.nofld, .inl ⟨hx, q⟩⟩
    refine wpAny_mono (ht.run [] _ _ H _ J hq) (fun fl s' hs => ?_) fun e s' hs => hs
    cases fl with
    | ret u => exact (by obtain ⟨v, σ', H', J', rv, q'⟩ := hs; exact ⟨v, H', J'.os, J'.bare, J'.base, J'.hok, rv, q'⟩)
    | next => exact (by obtain ⟨σ', H', J', q'⟩ := hs; exact ⟨V.non, H', J'.os, J'.bare, J'.base, J'.hok, rfl, q'⟩)
    | brk => exact (by obtain ⟨_, _, _, q'⟩ := hs; exact q'.elim)
    | cont => exact (by obtain ⟨_, _, _, q'⟩ := hs; exact q'.elim)
end
end K03


set_option Elab.async false
set_option maxRecDepth 100000
set_option maxHeartbeats 1000000
namespace K03
open PySem PySem.Spec PyProof.Rows PySem.HandSPX
section
variable {prog : Program} {w : World} {A : Around} {E : Value → Shared → Prop} {R : Result → Shared → Prop} {h : Heap} {g : Array GenState} {d : Drawn} {t : Nat} {os : OsState}
variable {nm q : Str} {C N fI : Addr} {bs bm : List Value} {hdct : Bool} {sn : List Str} {sub : List Value} {ab : Bool} {col : Option Bool} {dd : Option Addr} {k0 k1 k2 k3 k5 : Option Value} {kn : Str} {kv : Value}
/-- an own exception class is called with one keyword: the look at what is handed to __new__ -/
theorem xk_look {Q : Unit → Shared → Prop} (hT : ∀ X : String, bm.contains (.type X) = ([.type "ValueError", .type "Exception", .type "BaseException", .type "object"] : List Value).contains (.type X))
    (hC : h.get? C = some (excClassObj nm q C N bs bm hdct sn sub ab col dd k0 k1 k2 k3 k5 "ValueError.__new__")) (hq : Q () ⟨h, g, d, t, os⟩) :
    wpAny (model prog w) A (checkBuiltinCall "ValueError.__new__" ⟨[.ref C], [(kn, kv)]⟩) Q E ⟨h, g, d, t, os⟩ := by
  have Z := F.excBase_ValueError
  have c1 : (Value.ref C :: bm).contains (.type "ValueError") = true := by rw [List.contains_cons, hT]; rfl
  have st := Z.noStar
  simp only [checkBuiltinCall, Z.newKind, Z.newSplit, Z.newRow]
  repeat (first | refine wpAny_loadPart_at hC ?_ | (refine wpAny_isSubtype_exc hC ?_; rw [c1]) | refine wpAny_staticBase_exc hC ?_ | refine wpAny_madeBy_exc hC ?_ | simp only [bne_self_eq_false, Bool.false_eq_true, if_false] | wp_step)
  exact hq
/-- .. the object is made -/
theorem xk_new (hT : ∀ X : String, bm.contains (.type X) = ([.type "ValueError", .type "Exception", .type "BaseException", .type "object"] : List Value).contains (.type X))
    (hC : h.get? C = some (excClassObj nm q C N bs bm hdct sn sub ab col dd k0 k1 k2 k3 k5 "ValueError.__new__"))
    (hq : R (.ok (.ret (.ref (h.objs.size + 1)))) ⟨(h.push (PySem.W.kdv_tup [])).push (excO C h.objs.size), g, d, t, os⟩) :
    codeAny (model prog w) A (.builtin "ValueError.__new__" ⟨[.ref C], [(kn, kv)]⟩) R ⟨h, g, d, t, os⟩ := by
  have Z := F.excBase_ValueError
  have ends := Z.ends
  have c1 : (Value.ref C :: bm).contains (.type "ValueError") = true := by rw [List.contains_cons, hT]; rfl
  have c2 : (Value.ref C :: bm).contains (.type "AttributeError") = false := by rw [List.contains_cons, hT]; rfl
  have c3 : (Value.ref C :: bm).contains (.type "NameError") = false := by rw [List.contains_cons, hT]; rfl
  apply codeAny_builtinAt Z.entry
  unfold Builtin.«BaseException.__new__»
  apply PySem.wpAt_bind
  show PySem.wpAt _ _ _ (stack >>= _) _ _ _
  apply PySem.wpAt_bind
  apply PySem.wpAt_stack
  intro p below
  apply PySem.wpAt_of_wpAny
  wp_walk
  apply PySem.wpAt_of_wpAny
  rw [Z.owner]
  repeat (first | with_reducible refine wpAny_madeHere_exc Z.canon hC ?_ | with_reducible refine wpAny_loadPart_at hC ?_ | (with_reducible refine wpAny_isSubtype_exc hC ?_; first | rw [c1] | rw [c2] | rw [c3]) | wp_step)
  rw [← Heap.size_push] at hq
  exact hq
/-- type.__call__ itself is looked at -/
theorem xk_check {Q : Unit → Shared → Prop} (hC : h.get? C = some (excClassObj nm q C N bs bm hdct sn sub ab col dd k0 k1 k2 k3 k5 "ValueError.__new__")) (hq : Q () ⟨h, g, d, t, os⟩) :
    wpAny (model prog w) A (checkBuiltinCall "type.__call__" ⟨[.ref C], [(kn, kv)]⟩) Q E ⟨h, g, d, t, os⟩ := by
  have y3 := tc_sub
  have yT : (⟨h, g, d, t, os⟩ : Shared).TypeIs (.ref C) "type" := ⟨_, hC, rfl⟩
  simp only [checkBuiltinCall, tc_kind, tc_split]
  repeat (any_goals (first | assumption | with_reducible refine wpAny_loadPart_at hC ?_ | with_reducible refine wpAny_onRaise ?_ | with_reducible refine wpAny_map ?_ | wp_step))
theorem xk_type {Q : PySem.Fin → Shared → Prop} (hT : ∀ X : String, bm.contains (.type X) = ([.type "ValueError", .type "Exception", .type "BaseException", .type "object"] : List Value).contains (.type X))
    (hC : h.get? C = some (excClassObj nm q C N bs bm hdct sn sub ab col dd k0 k1 k2 k3 k5 "ValueError.__new__"))
    (hi : PySem.W.Looks (model prog w) h (typeLookup (.ref C) "__init__") (some (.ref fI))) (hb : ∀ self, PySem.W.Looks (model prog w) h (bindSpecial (.ref fI) self) (.ref fI, [self]))
    (hq : codeAny (model prog w) A (.call (.ref fI) ⟨[.ref (h.objs.size + 1)], [(kn, kv)]⟩)
      (fun r s' => match r with | .ok (.ret v) => v = .none ∧ Q (.done (.ret (.ref (h.objs.size + 1)))) s' | .ok _ => False | .error e => E e s')
      ⟨(h.push (PySem.W.kdv_tup [])).push (excO C h.objs.size), g, d, t, os⟩) :
    wpAny (model prog w) A (Builtin.«type.__call__» ⟨[.ref C], [(kn, kv)]⟩) Q E ⟨h, g, d, t, os⟩ := by
  have Z := F.excBase_ValueError
  repeat (first | with_reducible refine wpAny_loadPart_at hC ?_ | with_reducible refine wpAny_madeBy_exc hC ?_ | wp_step)
  apply codeAny_call_builtin_code (Code.quiet_builtin _ Z.quiet) (xk_look hT hC (xk_new hT hC _))
  have k : ∀ b o, h.get? b = some o → ((h.push (PySem.W.kdv_tup [])).push (excO C h.objs.size)).get? b = some o := fun b o e => Heap.get?_push_of_some _ (Heap.get?_push_of_some _ e)
  have hC1 := k _ _ hC
  have hget : ((h.push (PySem.W.kdv_tup [])).push (excO C h.objs.size)).get? (h.objs.size + 1) = some (excO C h.objs.size) := by heap_get
  have hcC : (Value.ref C :: bm).contains (.ref C) = true := by simp
  have i1 := hi.keeps k
  have b1 := (hb (.ref (h.objs.size + 1))).keeps k
  show wpAny _ _ _ _ _ _
  unfold isInstance
  repeat (first | with_reducible refine wpAny_loadPart_at hget ?_ | (with_reducible refine wpAny_isSubtype_exc hC1 ?_; rw [hcC]) | wp_step)
  show wpAny _ _ (typeLookup (.ref C) _) _ _ _
  apply i1.at
  apply wpAny_holding
  apply wpAny_bind
  apply b1.at
  apply wpAny_bind
  apply wpAny_call
  refine codeAny_mono hq fun r s' z => ?_
  rcases r with e | (v | _ | _ | _) <;> first | exact z | exact z.elim | skip
  obtain ⟨rfl, z⟩ := z
  first
    | exact wpAny_pure (wpAny_pure z)
    | (wp_walk; exact z)
/-- .. the class is called: __new__, then its own __init__ with the keyword -/
theorem xk_call (hT : ∀ X : String, bm.contains (.type X) = ([.type "ValueError", .type "Exception", .type "BaseException", .type "object"] : List Value).contains (.type X))
    (hC : h.get? C = some (excClassObj nm q C N bs bm hdct sn sub ab col dd k0 k1 k2 k3 k5 "ValueError.__new__"))
    (hi : PySem.W.Looks (model prog w) h (typeLookup (.ref C) "__init__") (some (.ref fI))) (hb : ∀ self, PySem.W.Looks (model prog w) h (bindSpecial (.ref fI) self) (.ref fI, [self]))
    (hq : codeAny (model prog w) (A.under (.builtin "type.__call__" ⟨[.ref C], [(kn, kv)]⟩)) (.call (.ref fI) ⟨[.ref (h.objs.size + 1)], [(kn, kv)]⟩) (PySem.W.InitBack (h.objs.size + 1) R)
      ⟨(h.push (PySem.W.kdv_tup [])).push (excO C h.objs.size), g, d, t, os⟩) :
    codeAny (model prog w) A (.call (.ref C) ⟨[], [(kn, kv)]⟩) R ⟨h, g, d, t, os⟩ := by
  have Z := F.excBase_ValueError
  have y1 := tc_lookup
  have y2 := tc_bind (.ref C)
  have yT : (⟨h, g, d, t, os⟩ : Shared).TypeIs (.ref C) "type" := ⟨_, hC, rfl⟩
  apply codeAny_of_tree
  show wpAny _ _ (callAny (.ref C) _) _ _ _
  repeat (any_goals (first | assumption | with_reducible refine wpAny_loadPart_at hC ?_ | wp_step))
  refine ⟨rfl, codeAny_call_builtin_at (Code.quiet_builtin _ (by decide +kernel)) entry_typeCall (xk_check hC (xk_type hT hC hi hb ?_))⟩
  refine codeAny_mono hq fun r s' z => ?_
  rcases r with e | (v | _ | _ | _) <;> exact z
end
end K03


set_option Elab.async false
set_option maxRecDepth 100000
set_option maxHeartbeats 1000000
namespace K03
open PySem PySem.Spec PyProof.Rows L2
/-- what the text says of an own exception class with an __init__ (at fI, its function fd) that keeps one field -/
structure XCls (P : Program) (w : World) (K : PySem.W.Frag) (mg : Str → Option Value) (base : Heap) (C fI : Addr) (fd : FuncData) (fld : Str) : Prop where
  oex : OexC K C
  ini : PySem.W.findIn K (.ref C) "__init__" = some (some (.ref fI))
  tyI : PySem.W.typeIn K (.ref fI) = some (.type "function")
  ok : FnOk P w K mg base CX0 2 fI fd ["self", fld] (spInitX C fld)
  bind : ∀ (s : Shared) (u v : Value), BindsTo s fd ⟨[u, v], []⟩ [("self", u), (fld, v)]
  bindK : ∀ (s : Shared) (u v : Value), BindsTo s fd ⟨[u], [(fld, v)]⟩ [("self", u), (fld, v)]
/-- C(e): a new exception with its dict -/
def tXMk (C : Addr) (fld : Str) (te : TE) : TE := fun σ H Q => te σ H fun y H1 => ∀ a d : Addr, H1 a = none → H1 d = none → d ≠ a → Q (.ref a) (upd (upd H1 d (exd d [(fld, y)])) a (exo a C (some d)))
theorem upd_comm {H : Hp} {a b : Addr} {o u : HO} (h : a ≠ b) : upd (upd H a o) b u = upd (upd H b u) a o := by
  funext c
  unfold upd
  by_cases h1 : c = b
  · rw [if_pos h1, if_neg (fun z => h (z.symm.trans h1)), if_pos h1]
  · rw [if_neg h1]
    by_cases h2 : c = a
    · rw [if_pos h2, if_pos h2]
    · rw [if_neg h2, if_neg h2, if_neg h1]
section
variable {X : Cx} {C fI : Addr} {fd : FuncData} {fld : Str} {x : Str} {e : Expr} {te : TE} {p pos kpos : Pos}
theorem xmk_after {pins : List (Addr × Obj)} {σ : L2.St} {H1 : Hp} {s1 s' : Shared} {Q : VK} {a : Addr} {v : V} {r : Value} (q : ∀ d : Addr, H1 a = none → H1 d = none → d ≠ a → Q (.ref a) (upd (upd H1 d (exd d [(fld, v)])) a (exo a C (some d)))) (hn : H1 a = none)
    (I2 : Inv X pins σ (upd H1 a (exo a C none)) s1)
    (hc : CE X.stack X.prog X.w (upd H1 a (exo a C none)) s1 (fun v2 H2 => v2 = .non ∧ ∃ d : Addr, H1 d = none ∧ d ≠ a ∧ H2 = upd (upd (upd H1 a (exo a C none)) d (exd d [(fld, v)])) a (exo a C (some d))) r s') :
    r = .none ∧ EP X pins σ Q (.ref a) s' := by
  obtain ⟨v3, H2, I3, rv, ev, d, hd, hda, rfl⟩ := I2.after hc
  subst ev
  refine ⟨rv, .ref a, _, I3, rfl, ?_⟩
  rw [upd_comm (H := H1) hda.symm, upd_upd]
  exact q d hn hd hda
/-- a new exception of an own class by one value -/
theorem pe_xmk (T : XCls X.prog X.w X.K X.mg X.base C fI fd fld) (hr : Room 3 X.A) (hg : Gl X x) (hm : X.mg x = some (.ref C)) (he : PE X e te) (hdb : (x == ("__debug__" : Str)) = false := by decide)
    (hs : starEach [e] X.env = (false, eval e X.env) :: starEach [] X.env := by rfl) (hpl : (backTo pos (starEach [] X.env)).any (·.1) = false := by rfl) :
    PE X (.Call (.Name x p) [e] [] pos) (tXMk C fld te) := by
  obtain ⟨nm, q, N, bs, bm, sn, sub, ab, col, dd, k0, k1, k2, k3, k5, hC, hbm⟩ := T.oex.cls
  refine ⟨fun pins s σ H Q I h => wpAny_Call_Name_kw (ld_glob I hg hm ?_ hdb)⟩
  refine PySem.W.callWith_K (h₀ := X.base) I.ok.mod.kin T.oex.kC ?_ hs hpl
  rw [hs]
  show wpAny _ _ (spliced ((false, eval e X.env) :: backTo pos (starEach [] X.env))) _ _ s
  refine Calls.spliced_cons (thn (he.run pins s σ H _ I h) fun u s1 ⟨v, H1, I1, r1, q1⟩ => Calls.spliced_nil ⟨I1.kIn, ?_⟩)
  show wpAny _ _ (call (.ref C) [u]) _ _ _
  obtain ⟨hp, g, dr, tk, os⟩ := s1
  have hsz : hp.objs.size ≤ hp.objs.size + 1 := Nat.le_succ _
  have hn : H1 (hp.objs.size + 1) = none := I1.hok.fresh hsz
  have kk : ∀ b o, hp.get? b = some o → ((hp.push (PySem.W.kdv_tup [u])).push (PySem.HandSPX.excO C hp.objs.size)).get? b = some o := fun b o e => Heap.get?_push_of_some _ (Heap.get?_push_of_some _ e)
  have hget : ((hp.push (PySem.W.kdv_tup [u])).push (PySem.HandSPX.excO C hp.objs.size)).get? (hp.objs.size + 1) = some (PySem.HandSPX.excO C hp.objs.size) := by heap_get
  have I2 : Inv X pins σ (upd H1 (hp.objs.size + 1) (exo (hp.objs.size + 1) C none)) ⟨(hp.push (PySem.W.kdv_tup [u])).push (PySem.HandSPX.excO C hp.objs.size), g, dr, tk, os⟩ :=
    I1.laid (t' := tk) (a := hp.objs.size + 1) (o := exo (hp.objs.size + 1) C none) (h' := (hp.push (PySem.W.kdv_tup [u])).push (PySem.HandSPX.excO C hp.objs.size)) kk hsz (exo_ok hget)
  have hsp : spInitX C fld [.ref (hp.objs.size + 1), v] (upd H1 (hp.objs.size + 1) (exo (hp.objs.size + 1) C none))
      (fun v2 H2 => v2 = .non ∧ ∃ d : Addr, H1 d = none ∧ d ≠ hp.objs.size + 1 ∧ H2 = upd (upd (upd H1 (hp.objs.size + 1) (exo (hp.objs.size + 1) C none)) d (exd d [(fld, v)])) (hp.objs.size + 1) (exo (hp.objs.size + 1) C (some d))) (fun _ _ _ => False) :=
    ⟨_, _, rfl, upd_same, fun d hd hda => ⟨rfl, d, by rw [upd_ne hda] at hd; exact hd, hda, rfl⟩⟩
  have hus : ([u] : List Value).length ≤ sizeLine := by show 1 ≤ sizeLine; decide
  apply wpAny_call
  refine PySem.HandSPX.call_own F.excBase_ValueError (fun Y => PySem.HandSPX.refsVE_contains Y bm hbm) (I1.kIn _ _ hC) (PySem.W.looks_findIn I1.kIn T.ini) (fun self => PySem.W.bind_fn I1.kIn self T.tyI) hus
    (codeAny_mono (T.ok.run _ X.stack _ _ ⟨[Value.ref (hp.objs.size + 1), u], []⟩ [Value.ref (hp.objs.size + 1), u] _ _ (fun _ _ _ => False) ((hr.make C [u] [])) (I2.env0.make C [u] []) (T.bind _ _ _) (show Vals [V.ref (hp.objs.size + 1), v] [Value.ref (hp.objs.size + 1), u] from .cons rfl (.cons r1 .nil)) hsp) fun r s' hq' => ?_)
  cases r with
  | error er => exact False.elim hq'
  | ok fl =>
    cases fl with
    | ret u' => exact xmk_after (q1 _) hn I2 hq'
    | next => exact False.elim hq'
    | brk => exact False.elim hq'
    | cont => exact False.elim hq'
/-- .. by one keyword -/
theorem pe_xmkK (T : XCls X.prog X.w X.K X.mg X.base C fI fd fld) (hr : Room 3 X.A) (hg : Gl X x) (hm : X.mg x = some (.ref C)) (he : PE X e te) (hdb : (x == ("__debug__" : Str)) = false := by decide)
    (hall : (backToKw pos (keywordEach [⟨some fld, e, kpos⟩] X.env)).all (·.1.isSome) = true := by rfl) (hks : (backToKw pos (keywordEach [⟨some fld, e, kpos⟩] X.env)).filterMap (·.1) = [fld] := by rfl)
    (hpl : (backToKw pos (keywordEach [⟨some fld, e, kpos⟩] X.env)).any (·.1.isNone) = false := by rfl) :
    PE X (.Call (.Name x p) [] [⟨some fld, e, kpos⟩] pos) (tXMk C fld te) := by
  obtain ⟨nm, q, N, bs, bm, sn, sub, ab, col, dd, k0, k1, k2, k3, k5, hC, hbm⟩ := T.oex.cls
  refine ⟨fun pins s σ H Q I h => wpAny_Call_Name_kw (ld_glob I hg hm ?_ hdb)⟩
  refine PySem.W.callWith_KW0 (h₀ := X.base) I.ok.mod.kin T.oex.kC hall ?_ hpl
  have hk : PK X [⟨some fld, e, kpos⟩] (tCons te tNil) := pk_cons he pk_nil
  refine thn (hk.run pos pins s σ H (fun zs H' => match zs with | [y] => ∀ a d : Addr, H' a = none → H' d = none → d ≠ a → Q (.ref a) (upd (upd H' d (exd d [(fld, y)])) a (exo a C (some d))) | _ => False) I h) fun ws s1 ⟨zs, H1, I1, rz, q1⟩ => ⟨I1.kIn, ?_⟩
  rw [hks]
  cases rz with
  | nil => exact q1.elim
  | @cons v u _ _ r1 rz =>
    cases rz with
    | cons _ _ => exact q1.elim
    | nil =>
      show wpAny _ _ (call (.ref C) [] [(fld, u)]) _ _ _
      obtain ⟨hp, g, dr, tk, os⟩ := s1
      have hsz : hp.objs.size ≤ hp.objs.size + 1 := Nat.le_succ _
      have hn : H1 (hp.objs.size + 1) = none := I1.hok.fresh hsz
      have kk : ∀ b o, hp.get? b = some o → ((hp.push (PySem.W.kdv_tup [])).push (PySem.HandSPX.excO C hp.objs.size)).get? b = some o := fun b o e => Heap.get?_push_of_some _ (Heap.get?_push_of_some _ e)
      have hget : ((hp.push (PySem.W.kdv_tup [])).push (PySem.HandSPX.excO C hp.objs.size)).get? (hp.objs.size + 1) = some (PySem.HandSPX.excO C hp.objs.size) := by heap_get
      have I2 : Inv X pins σ (upd H1 (hp.objs.size + 1) (exo (hp.objs.size + 1) C none)) ⟨(hp.push (PySem.W.kdv_tup [])).push (PySem.HandSPX.excO C hp.objs.size), g, dr, tk, os⟩ :=
        I1.laid (t' := tk) (a := hp.objs.size + 1) (o := exo (hp.objs.size + 1) C none) (h' := (hp.push (PySem.W.kdv_tup [])).push (PySem.HandSPX.excO C hp.objs.size)) kk hsz (exo_ok hget)
      have hsp : spInitX C fld [.ref (hp.objs.size + 1), v] (upd H1 (hp.objs.size + 1) (exo (hp.objs.size + 1) C none))
          (fun v2 H2 => v2 = .non ∧ ∃ d : Addr, H1 d = none ∧ d ≠ hp.objs.size + 1 ∧ H2 = upd (upd (upd H1 (hp.objs.size + 1) (exo (hp.objs.size + 1) C none)) d (exd d [(fld, v)])) (hp.objs.size + 1) (exo (hp.objs.size + 1) C (some d))) (fun _ _ _ => False) :=
        ⟨_, _, rfl, upd_same, fun d hd hda => ⟨rfl, d, by rw [upd_ne hda] at hd; exact hd, hda, rfl⟩⟩
      apply wpAny_call
      refine xk_call (fun Y => PySem.HandSPX.refsVE_contains Y bm hbm) (I1.kIn _ _ hC) (PySem.W.looks_findIn I1.kIn T.ini) (fun self => PySem.W.bind_fn I1.kIn self T.tyI)
        (codeAny_mono (T.ok.run _ X.stack _ _ ⟨[Value.ref (hp.objs.size + 1)], [(fld, u)]⟩ [Value.ref (hp.objs.size + 1), u] _ _ (fun _ _ _ => False) ((hr.make C [] [(fld, u)])) (I2.env0.make C [] [(fld, u)]) (T.bindK _ _ _) (show Vals [V.ref (hp.objs.size + 1), v] [Value.ref (hp.objs.size + 1), u] from .cons rfl (.cons r1 .nil)) hsp) fun r s' hq' => ?_)
      cases r with
      | error er => exact False.elim hq'
      | ok fl =>
        cases fl with
        | ret u' => exact xmk_after (q1 _) hn I2 hq'
        | next => exact False.elim hq'
        | brk => exact False.elim hq'
        | cont => exact False.elim hq'
end
end K03


set_option Elab.async false
set_option maxRecDepth 100000
set_option maxHeartbeats 4000000
namespace K03
open PySem PySem.Spec PyProof.Rows L2
open PySem.W (KitX InstAt Looks)
section
variable {prog : Program} {w : World} {A : Around} {E : Value → Shared → Prop} {s : Shared} {K : PySem.W.Frag} {x D : Addr} {ox : Obj} {od : Option Obj}
/-- e.__class__ of an exception with or without a dict -/
theorem cls_of_exc {Q : Option Value → Shared → Prop} (C : ExcC K D) (hf : PySem.W.findObj K D od "__class__" = some (.bind (.builtin "getset_descriptor.__get__") (.builtin "object.__class__")))
    (X : K.In s.heap) (I : InstAt s.heap x ox D od) (h : Q (some (.ref D)) { s with toks := s.toks + 1 }) : wpAny (model prog w) A (getAttr? (.ref x) "__class__") Q E s := by
  obtain ⟨hp, g, d, t, os⟩ := s
  have M0 := I.type (M := model prog w)
  have M1 := PySem.W.looks_findIn (M := model prog w) X C.hg
  have M2 := PySem.W.looks_findIn (M := model prog w) X C.hk
  have M3 := PySem.W.looks_find (M := model prog w) X I hf
  have sb : Looks (model prog w) hp (isInstance (.ref x) (.type "BaseException")) true := M0.andThen (PySem.W.looks_subIn X C.hs)
  have z1 : (onTheHeap (Value.ref D) && Value.builtin "BaseException.__getattribute__" == Value.builtin "object.__getattribute__") = false := by
    rw [show (Value.builtin "BaseException.__getattribute__" == Value.builtin "object.__getattribute__") = false by decide +kernel]; rfl
  unfold getAttr? getAttrBy? getAttrBy
  apply wpAny_bind; apply wpAny_mkText; apply wpAny_bind; apply wpAny_attempt; apply wpAny_holding; apply wpAny_bind
  apply M0.at; apply wpAny_bind; apply M1.at
  show wpAny _ _ (if (onTheHeap (Value.ref D) && Value.builtin "BaseException.__getattribute__" == Value.builtin "object.__getattribute__") = true then _ else _) _ _ _
  rw [z1, if_neg Bool.false_ne_true]
  unfold getAttrByItsOwn hookBefore
  apply wpAny_bind
  rw [if_pos (show onTheHeap (Value.ref D) = true from rfl)]
  apply M2.at
  apply wpAny_bind; apply wpAny_attempt; apply wpAny_holding
  unfold callGetattribute
  rw [show (false && onTheHeap (Value.builtin "BaseException.__getattribute__")) = false from rfl, if_neg Bool.false_ne_true]
  unfold boundAndCalled
  rw [PySem.F.excAttr_ValueError.ga.bind (.ref x)]
  apply wpAny_bind; apply wpAny_pure
  show wpAny _ _ (call (.builtin "BaseException.__getattribute__") [.ref x, .str "__class__" t]) _ _ _
  apply wpAny_call
  apply codeAny_call_builtin PySem.F.excAttr_ValueError.ga.plain PySem.F.entry_bexc_ga
  refine @PySem.W.check_slot (model prog w) _ _ ⟨hp, g, d, t + 1, os⟩ "BaseException.__getattribute__" "BaseException" "__getattribute__" (.ref x) [.str "__class__" t] [] _ (by decide +kernel) (by decide +kernel) sb (PySem.F.args_bexc_ga (.ref x) (.str "__class__" t)) ?_
  unfold Builtin.«object.__getattribute__»
  apply wpAny_bind
  refine wpAny_of_eq (a := ((Value.ref x : Value), [Value.str "__class__" t])) (by first | rfl | (simp only [slotArgs]; rfl)) ?_
  apply wpAny_bind; apply wpAny_pure; apply wpAny_bind; apply M0.at; apply wpAny_bind; apply M3.at
  show wpAny _ _ (holding [Value.builtin "object.__class__"] (call (.builtin "getset_descriptor.__get__") [.builtin "object.__class__", .ref x, .ref D]) >>= ret) _ _ _
  apply wpAny_bind; apply wpAny_holding; apply wpAny_call
  refine PySem.W.class_get (s := ⟨hp, g, d, t + 1, os⟩) (ox := ox) (od := od) X I C.hm ?_
  apply wpAny_pure
  show wpAny _ _ (handedOut (.ref D)) _ _ _
  rw [PySem.W.handedOut_of (v := .ref D) rfl]
  first
    | exact wpAny_pure (wpAny_pure h)
    | exact wpAny_pure h
    | exact wpAny_pure (wpAny_bind (wpAny_pure (wpAny_pure h)))
/-- isinstance asks an exception with or without a dict -/
theorem kit_exc (C : ExcC K D) (hf : PySem.W.findObj K D od "__class__" = some (.bind (.builtin "getset_descriptor.__get__") (.builtin "object.__class__"))) : KitX K (.ref x) (.ref D) (fun h => InstAt h x ox D od) := by
  obtain ⟨cd, hcd, _⟩ := PySem.W.any_some C.hd
  have at_ : ∀ h : Heap, K.In h → ∃ o, h.get? D = some o ∧ o.data = .cls cd := fun h X => by
    unfold PySem.W.clsIn at hcd
    split at hcd
    · rename_i a b c' sl ho
      cases hcd
      exact ⟨_, X _ _ ho, rfl⟩
    · cases hcd
  refine ⟨fun _ _ _ I => I.type, fun M h X _ => ?_, fun h tp dd its n sl X htp => ?_, fun X I k => cls_of_exc C hf X I k⟩
  · obtain ⟨o, ho, hd⟩ := at_ h X
    intro A' Q' E' s' k q
    unfold isType loadHead
    refine wpAny_bind (wpAny_loadPart (k _ _ ho) ?_)
    rw [hd]
    exact wpAny_pure q
  · obtain ⟨o, ho, hd⟩ := at_ h X
    refine Bool.eq_false_iff.mpr fun q => ?_
    have e : D = tp := Value.ref.inj (beq_iff_eq.mp q)
    rw [e, htp] at ho
    rw [← Option.some.inj ho] at hd
    cases hd
end
/-- isinstance(e, c), e an exception that is held as a value: c's value cv, the answer b -/
def rIsX (K : PySem.W.Frag) : List V → Hp → VK → Prop := fun xs H Q => ∃ (a D : Addr) (c : V) (cv : Value) (b : Bool), xs = [.ref a, c] ∧ (H a = some (ExO (.ref D) a) ∨ ∃ (d : Addr) (fs : List (Str × V)), H a = some (exo a D (some d)) ∧ H d = some (exd d fs)) ∧ ExcC K D ∧
  (∀ u, RelV c u → u = cv) ∧ PySem.W.kitOne K (.ref D) cv = some b ∧ Q (.bl b) H
theorem call_isX {X : Cx} : CallR X (.builtin "isinstance") (rIsX X.K) := by
  intro pins s σ H xs us Q I r h
  obtain ⟨a, D, c, cv, b, rfl, ha, C, hcv, e, q⟩ := h
  cases r with
  | cons rx rr =>
    cases rr with
    | cons rt rr =>
      cases rr
      cases rx
      have ec := hcv _ rt
      subst ec
      have hcl : (PySem.W.clsIn X.K D).isSome = true := by
        obtain ⟨cd, hc, _⟩ := PySem.W.any_some C.hd
        rw [hc]; rfl
      rcases ha with ha | ⟨d, fs, ha, hd⟩
      · obtain ⟨⟨oe, vs, ho, hz, hdt, _⟩, _, _⟩ := I.hok a _ ha
        have J : InstAt s.heap a oe D none := by
          obtain ⟨oc, od, oda, osl⟩ := oe
          obtain ⟨h1, h2⟩ := hz
          dsimp only at h1 h2 hdt
          subst h1 h2 hdt
          exact ⟨ho, rfl, rfl, trivial⟩
        exact PySem.W.kia_one (kit_exc C (PySem.W.findObj_dataN hcl C.ha C.hn C.ht)) I.kIn J e (fun z => nomatch z) fun tk => ⟨.bl b, H, I.kept (t' := tk) fun _ _ z => z, rfl, q⟩
      · obtain ⟨t1, ho⟩ := exo_at I.hok ha
        obtain ⟨mA, ⟨od, es, ep, e1, _⟩, _⟩ := exd_at I.hok hd
        have J : InstAt s.heap a { cls := .ref D, dict := some d, data := .fields #[.ref t1, .none, .none, .none, .bool false, .none] } D (some od) := ⟨ho, rfl, rfl, e1⟩
        exact PySem.W.kia_one (kit_exc C (PySem.W.findObj_data hcl C.ha C.hn C.ht)) I.kIn J e (fun z => nomatch z) fun tk => ⟨.bl b, H, I.kept (t' := tk) fun _ _ z => z, rfl, q⟩
/-- e.f of such an exception -/
structure XGet (K : PySem.W.Frag) (C : Addr) (fld : Str) : Prop where
  ex : ExcC K C
  no : PySem.W.findIn K (.ref C) fld = some none
def tXFld (K : PySem.W.Frag) (fld : Str) (te : TE) : TE := fun σ H Q => te σ H fun x H1 => ∃ (a C d : Addr) (fs : List (Str × V)) (v : V), x = .ref a ∧ XGet K C fld ∧ H1 a = some (exo a C (some d)) ∧ H1 d = some (exd d fs) ∧ fs.lookup fld = some v ∧ Q v H1
theorem pe_xfld {X : Cx} {e : Expr} {te : TE} {fld : Str} {pos : Pos} (he : PE X e te) (hb : attributeBase e fld X.env (eval e X.env) = eval e X.env := by rfl) : PE X (.Attribute e fld pos) (tXFld X.K fld te) := by
  refine ⟨fun pins s σ H Q I h => ?_⟩
  refine attr_of hb (thn (he.run pins s σ H _ I h) fun u s1 ⟨x, H1, I1, rx, a, C, d, fs, v, ex, T, ha, hd, hl, q⟩ => ?_)
  subst ex
  obtain rfl : u = Value.ref a := rx
  obtain ⟨t1, ho⟩ := exo_at I1.hok ha
  obtain ⟨mA, hns, rel⟩ := exd_at I1.hok hd
  obtain ⟨od, e1, l⟩ := lookIn_ns hns
  have rl := rel fld
  rw [hl] at rl
  cases hm : mA fld with
  | none => rw [hm] at rl; exact rl.elim
  | some y =>
    rw [hm] at rl
    have J : InstAt s1.heap a { cls := .ref C, dict := some d, data := .fields #[.ref t1, .none, .none, .none, .bool false, .none] } C (some od) := ⟨ho, rfl, rfl, e1⟩
    exact HandSPX.exc_get I1.kIn J T.ex.hg T.ex.hk T.ex.hs (PySem.W.findObj_own T.ex.hd T.no rfl (by rw [l, hm])) (handed_of rl) ⟨v, H1, I1.tok _, rl, q⟩
end K03


set_option Elab.async false
set_option maxRecDepth 100000
set_option maxHeartbeats 4000000
set_option linter.all false
namespace K03
open PySem PySem.Spec PyProof.Rows L2
open PySem.W (KitX InstAt Looks)
/-- the fields of an exception, at d -/
theorem xd_at {P : Program} {w : World} {H : Hp} {h : Heap} {d : Addr} {fs : List (Str × V)} (hok : HOk P w H h) (e : H d = some (.xd fs)) : ∃ mA, h.Ns1 d mA ∧ ∀ f, RelO (fs.lookup f) (mA f) := by
  have x : ObjOk P w H h d (.xd fs) := hok d _ e
  exact x
/-- isinstance(e, c), e a caught exception that lives on -/
def rIsR (K : PySem.W.Frag) : List V → Hp → VK → Prop := fun xs H Q => ∃ (a D d : Addr) (fs : List (Str × V)) (c : V) (cv : Value) (b : Bool), xs = [.ref a, c] ∧ H a = some (ExR (.ref D) (some d) a) ∧ H d = some (.xd fs) ∧ ExcC K D ∧
  (∀ u, RelV c u → u = cv) ∧ PySem.W.kitOne K (.ref D) cv = some b ∧ Q (.bl b) H
theorem instR {X : Cx} {pins : List (Addr × Obj)} {σ : L2.St} {H : Hp} {s : Shared} {a D d : Addr} {fs : List (Str × V)} (I : Inv X pins σ H s) (ha : H a = some (ExR (.ref D) (some d) a)) (hd : H d = some (.xd fs)) : ∃ (oe : Obj) (od : Obj) (mA : Str → Option Value), InstAt s.heap a oe D (some od) ∧ oe.dict = some d ∧ (∀ f, RelO (fs.lookup f) (mA f)) ∧ s.heap.Ns1 d mA ∧ s.heap.get? d = some od := by
  obtain ⟨oe, vs, ho, ⟨z1, z2⟩, hdt⟩ := exR_at I.hok ha
  obtain ⟨mA, hns, rel⟩ := xd_at I.hok hd
  obtain ⟨od, es, ep, e1, r⟩ := id hns
  exact ⟨oe, od, mA, ⟨ho, z1, by unfold PySem.W.notCls; rw [hdt], by rw [z2]; exact e1⟩, z2, rel, hns, e1⟩
theorem call_isR {X : Cx} : CallR X (.builtin "isinstance") (rIsR X.K) := by
  intro pins s σ H xs us Q I r h
  obtain ⟨a, D, d, fs, c, cv, b, rfl, ha, hd, C, hcv, e, q⟩ := h
  cases r with
  | cons rx rr =>
    cases rr with
    | cons rt rr =>
      cases rr
      cases rx
      have ec := hcv _ rt
      subst ec
      have hcl : (PySem.W.clsIn X.K D).isSome = true := by
        obtain ⟨cd, hc, _⟩ := PySem.W.any_some C.hd
        rw [hc]; rfl
      obtain ⟨oe, od, mA, J, _⟩ := instR I ha hd
      exact PySem.W.kia_one (kit_exc C (PySem.W.findObj_data hcl C.ha C.hn C.ht)) I.kIn J e (fun z => nomatch z) fun tk => ⟨.bl b, H, I.kept (t' := tk) fun _ _ z => z, rfl, q⟩
/-- e.f of such an exception -/
def tRFld (K : PySem.W.Frag) (fld : Str) (te : TE) : TE := fun σ H Q => te σ H fun x H1 => ∃ (a C d : Addr) (fs : List (Str × V)) (v : V), x = .ref a ∧ XGet K C fld ∧ H1 a = some (ExR (.ref C) (some d) a) ∧ H1 d = some (.xd fs) ∧ fs.lookup fld = some v ∧ Q v H1
theorem pe_rfld {X : Cx} {e : Expr} {te : TE} {fld : Str} {pos : Pos} (he : PE X e te) (hb : attributeBase e fld X.env (eval e X.env) = eval e X.env := by rfl) : PE X (.Attribute e fld pos) (tRFld X.K fld te) := by
  refine ⟨fun pins s σ H Q I h => ?_⟩
  refine attr_of hb (thn (he.run pins s σ H _ I h) fun u s1 ⟨x, H1, I1, rx, a, C, d, fs, v, ex, T, ha, hd, hl, q⟩ => ?_)
  subst ex
  obtain rfl : u = Value.ref a := rx
  obtain ⟨oe, od, mA, J, hdd, rel, hns, hod⟩ := instR I1 ha hd
  obtain ⟨od', e1, l⟩ := lookIn_ns hns
  rw [hod] at e1
  cases e1
  have rl := rel fld
  rw [hl] at rl
  cases hm : mA fld with
  | none => rw [hm] at rl; exact rl.elim
  | some y =>
    rw [hm] at rl
    exact HandSPX.exc_get I1.kIn J T.ex.hg T.ex.hk T.ex.hs (PySem.W.findObj_own T.ex.hd T.no rfl (by rw [l, hm])) (handed_of rl) ⟨v, H1, I1.tok _, rl, q⟩
end K03


set_option Elab.async false
set_option maxRecDepth 100000
set_option maxHeartbeats 2000000
set_option linter.all false
namespace K03
open PySem PySem.Spec PyProof.Rows L2 LamX
/-! function values that are handed along and called later -/
/-- from (s0, H0) on: what stood there untracked stands still; the frames that came in between are new -/
structure From (fs0 : List Addr) (s0 : Shared) (H0 : Hp) (fs : List Addr) (s : Shared) (H : Hp) : Prop where
  un : Un fs0 [] H0 H s0.heap s.heap
  nw : ∀ L ∈ fs, L ∈ fs0 ∨ s0.heap.get? L = none
theorem From.refl (fs0 : List Addr) (s0 : Shared) (H0 : Hp) : From fs0 s0 H0 fs0 s0 H0 :=
  ⟨⟨fun _ _ e _ _ _ => e, fun _ o e _ _ _ => ⟨o.slots, e⟩, fun _ _ _ n _ => n, fun _ o e _ => ⟨o, e⟩, fun _ _ e => e, fun _ _ _ e => e, fun _ ps e => ⟨#[], by rw [e]; simp⟩⟩, fun _ m => .inl m⟩
/-- what is asked of the state at which such a value is called -/
def Acts (P : Program) (w : World) (K : PySem.W.Frag) (mg : Str → Option Value) (base : Heap) (fs0 : List Addr) (s0 : Shared) (H0 : Hp) (k : Nat) (f : Addr) (pre : Hp → Prop) (tl : XK → Hp → VK → Prop) : Prop :=
  ∀ (A : Around) (outer : List Env) (s : Shared) (H : Hp) (Q : VK) (E : XK), Room k A → Env0 P w K mg base A outer s H → From fs0 s0 H0 (frs outer) s H → pre H → tl E H Q →
    codeAny (model P w) A (.call (.ref f) ⟨[], []⟩) (CR (L2.CX P w) outer P w H s Q E) s
/-- the value itself -/
structure FunV (fs0 : List Addr) (s0 : Shared) (H0 : Hp) (f : Addr) : Prop where
  ob : PySem.W.FnAt f s0.heap
  nt : H0 f = none
  nf : f ∉ fs0
/-- a def that takes such a value and calls it -/
def TakesV (P : Program) (w : World) (K : PySem.W.Frag) (mg : Str → Option Value) (base : Heap) (j : Nat) (g : Addr) (TT : (XK → Hp → VK → Prop) → Hp → VK → Prop) : Prop :=
  ∀ (kl : Nat) (fs0 : List Addr) (s0 : Shared) (H0 : Hp) (f : Addr) (pre : Hp → Prop) (tl : XK → Hp → VK → Prop) (A : Around) (outer : List Env) (s : Shared) (H : Hp) (Q : VK), Room (kl + j) A → Env0 P w K mg base A outer s H → From fs0 s0 H0 (frs outer) s H →
    FunV fs0 s0 H0 f → Acts P w K mg base fs0 s0 H0 kl f pre tl → pre H → TT tl H Q → codeAny (model P w) A (.call (.ref g) ⟨[.ref f], []⟩) (CR L2.CX0 outer P w H s Q (fun _ _ _ => False)) s
section
variable {Z : Cx} {pins : List (Addr × Obj)} {σ : L2.St} {H : Hp} {s : Shared} {fs0 : List Addr} {s0 : Shared} {H0 : Hp}
theorem From.step (F : From fs0 s0 H0 Z.fs Z.s_0 Z.H_0) (hex : Z.ex = []) (I : Inv Z pins σ H s) : From fs0 s0 H0 (frs Z.stack) s H := by
  have nfs : ∀ b o, s0.heap.get? b = some o → b ∉ fs0 → b ∉ Z.fs := fun b o e hb m => by
    rcases F.nw b m with z | z
    · exact hb z
    · rw [e] at z; cases z
  have nx : ∀ b : Addr, b ∉ Z.ex := fun b => by rw [hex]; simp
  refine ⟨⟨fun b o e n hb hx => ?_, fun b o e n hb hx => ?_, fun b o e n hx => ?_, fun b o e hx => ?_, fun b xs e => I.base.tups b xs (F.un.tups b xs e), fun b o u e => I.base.frzs b o u (F.un.frzs b o u e), fun b ps e => ?_⟩, fun L m => ?_⟩
  · exact I.base.keep b o (F.un.keep b o e n hb hx) (F.un.free b o e n hx) (nfs b o e hb) (nx b)
  · obtain ⟨sl, e1⟩ := F.un.any e n hx
    obtain ⟨sl2, e2⟩ := I.base.any e1 (F.un.free b o e n hx) (nx b)
    exact ⟨sl2, e2⟩
  · obtain ⟨o', e1⟩ := F.un.there b o e hx
    exact I.base.free b o' e1 (F.un.free b o e n hx) (nx b)
  · obtain ⟨o', e1⟩ := F.un.there b o e hx
    exact I.base.there b o' e1 (nx b)
  · obtain ⟨m1, e1⟩ := F.un.tbls b ps e
    obtain ⟨m2, e2⟩ := I.base.tbls b _ e1
    exact ⟨m1 ++ m2, by rw [e2]; simp⟩
  · have m' := I.stkSub L m
    rcases List.mem_cons.mp m' with z | z
    · right
      cases q : s0.heap.get? L with
      | none => rfl
      | some o =>
        obtain ⟨o', e1⟩ := F.un.there L o q (by simp)
        have h1 := Heap.lt_size e1
        have h2 := I.ok.above
        rw [z] at h1
        exact absurd (Nat.lt_of_lt_of_le h1 h2) (Nat.lt_irrefl _)
    · exact F.nw L z
theorem FunV.at (V : FunV fs0 s0 H0 f) {fs : List Addr} {s : Shared} {H : Hp} (F : From fs0 s0 H0 fs s H) : PySem.W.FnAt f s.heap := by
  obtain ⟨cls, d, fd, sl, e⟩ := V.ob
  exact ⟨cls, d, fd, sl, F.un.keep f _ e V.nt V.nf (by simp)⟩
end
section
variable {Z : Cx} {fs0 : List Addr} {s0 : Shared} {H0 : Hp} {k : Nat} {f : Addr} {pre : Hp → Prop} {tl : XK → Hp → VK → Prop}
/-- a(), a holding such a value -/
theorem pe_actV {W : WX} {i : Nat} {a : Str} {p1 p2 : Pos} (F : From fs0 s0 H0 Z.fs Z.s_0 Z.H_0) (hex : Z.ex = []) (V : FunV fs0 s0 H0 f) (AC : Acts Z.prog Z.w Z.K Z.mg Z.base fs0 s0 H0 k f pre tl) (tk : Takes Z W) (hr : Room k Z.A)
    (hN : Z.N[i]? = some a) (hv : Vis Z.env.scope a) (hd : (a == ("__debug__" : Str)) = false := by decide) (hcd : (a == ("__classdict__" : Str)) = false := by decide) :
    PE Z (.Call (.Name a p1) [] [] p2) (fun σZ HZ Q => ∃ (E : XK) (Q0 : VK), (∀ cls d H', E cls d H' → W cls d σZ H') ∧ (∀ v H', Q0 v H' → Q v H') ∧ σZ[i]? = some (some (.ref f)) ∧ pre HZ ∧ tl E HZ Q0) := by
  refine ⟨fun pinsZ sZ σZ HZ Q IZ h => ?_⟩
  obtain ⟨E, Q0, hW, hQ, hs, hc, ht⟩ := h
  refine wpAny_Call_Name_kw (thn ((pe_var (pos := p1) (i := i) hN hv hd hcd).run pinsZ sZ σZ HZ (fun v H1 => v = .ref f ∧ H1 = HZ) IZ ⟨.ref f, hs, rfl, rfl⟩) fun u s1 ⟨v, H1, I1, r1, q1⟩ => ?_)
  obtain ⟨ev, eH⟩ := q1
  subst ev
  rw [eH] at I1
  obtain rfl : u = Value.ref f := r1
  have F1 := F.step hex I1
  refine PySem.W.callWith_F0 (V.at F1) ?_
  refine wpAny_call (codeAny_mono (AC Z.A Z.stack s1 HZ Q0 E hr I1.env0 F1 hc ht) fun r s' hq => ?_)
  cases r with
  | error e => exact tk e s' (XE.of_call I1 hW hq)
  | ok fl =>
    cases fl with
    | ret u => exact (let ⟨v, H', J, rv, q⟩ := I1.after hq; ⟨v, H', J, rv, hQ _ _ q⟩)
    | next => exact False.elim hq
    | brk => exact False.elim hq
    | cont => exact False.elim hq
/-- x(a), a holding such a value, x a def that takes it -/
theorem pe_passV {j i : Nat} {g : Addr} {TT : (XK → Hp → VK → Prop) → Hp → VK → Prop} {x a : Str} {p pa pos : Pos} (F : From fs0 s0 H0 Z.fs Z.s_0 Z.H_0) (hex : Z.ex = []) (V : FunV fs0 s0 H0 f) (AC : Acts Z.prog Z.w Z.K Z.mg Z.base fs0 s0 H0 k f pre tl) (hG : TakesV Z.prog Z.w Z.K Z.mg Z.base j g TT) (hr : Room (k + j) Z.A)
    (hg : Gl Z x) (hm : Z.mg x = some (.ref g)) (hk : PySem.W.keepIn Z.K (.ref g) = true) (hN : Z.N[i]? = some a) (hv : Vis Z.env.scope a) (hdb : (x == ("__debug__" : Str)) = false := by decide) (hd : (a == ("__debug__" : Str)) = false := by decide) (hcd : (a == ("__classdict__" : Str)) = false := by decide) :
    PE Z (.Call (.Name x p) [.Name a pa] [] pos) (fun σZ HZ Q => ∃ Q0 : VK, (∀ v H', Q0 v H' → Q v H') ∧ σZ[i]? = some (some (.ref f)) ∧ pre HZ ∧ TT tl HZ Q0) := by
  refine ⟨fun pinsZ sZ σZ HZ Q IZ h => ?_⟩
  obtain ⟨Q0, hQ, hs, hc, ht⟩ := h
  refine wpAny_Call_Name_kw (ld_glob IZ hg hm ?_ hdb)
  refine PySem.W.callWith_K (h₀ := Z.base) IZ.ok.mod.kin hk ?_ (by rfl) (by rfl)
  show wpAny _ _ (spliced ((false, eval (.Name a pa) Z.env) :: backTo pos (starEach [] Z.env))) _ _ sZ
  refine Calls.spliced_cons (thn ((pe_var (pos := pa) (i := i) hN hv hd hcd).run pinsZ sZ σZ HZ (fun v H1 => v = .ref f ∧ H1 = HZ) IZ ⟨.ref f, hs, rfl, rfl⟩) fun u s1 ⟨v, H1, I1, r1, q1⟩ => ?_)
  obtain ⟨ev, eH⟩ := q1
  subst ev
  rw [eH] at I1
  obtain rfl : u = Value.ref f := r1
  refine Calls.spliced_nil ⟨I1.kIn, ?_⟩
  refine wpAny_call (codeAny_mono (hG k fs0 s0 H0 f pre tl Z.A Z.stack s1 HZ Q0 hr I1.env0 (F.step hex I1) V AC hc ht) fun r s' hq => ?_)
  cases r with
  | error e => exact (show False from hq).elim
  | ok fl =>
    cases fl with
    | ret u => exact (let ⟨v, H', J, rv, q⟩ := I1.after hq; ⟨v, H', J, rv, hQ _ _ q⟩)
    | next => exact False.elim hq
    | brk => exact False.elim hq
    | cont => exact False.elim hq
end
/-! a lambda handed to such a def -/
def tLamV (T : List (Addr × Str)) (q : Str) (TT : (XK → Hp → VK → Prop) → Hp → VK → Prop) (t : XK → TE) : TE := fun σ H Q => Tabs T H ∧ ∀ H1, ExtN H H1 → Tabs T H1 → TT (fun E H' Q' => t E σ H' Q') H1 Q
section
variable {X : Cx} {pins : List (Addr × Obj)} {σ : L2.St} {H : Hp} {s : Shared}
theorem lam_acts {f c' : Addr} {pm ctv : Value} {params : Arguments} {body : Expr} {scope : Scope} {k : Nat} {t : XK → TE} (I : Inv X pins σ H s) (L : LamS X.env.scope scope) (hf : s.heap.get? f = some (PySem.W.kla_obj "<lambda>" (X.env.qual ++ "<lambda>") params body scope (cloFrom X.env.cells scope.names []) pm c' ctv)) (hfn : H f = none) (hfr : f ∉ frs X.stack)
    (hbind : bindArgs (PySem.W.kla_fn "<lambda>" (X.env.qual ++ "<lambda>") params body scope (cloFrom X.env.cells scope.names []) pm (.ref c') ctv) ⟨[], []⟩ = pure [])
    (hbody : ∀ (A : Around) (outer : List Env) (s : Shared) (H : Hp) (E : XK), Room k (A.deeper (lamEnv X scope s.heap.objs.size f c')) → PE (lamCx X A outer s H E scope f c') body (t E)) :
    FunV (frs X.stack) s H f ∧ Acts X.prog X.w X.K X.mg X.base (frs X.stack) s H (k + 1) f (fun HZ => HZ c' = some (CodeO c' (X.env.qual ++ "<lambda>"))) (fun E H' Q' => t E σ H' Q') := by
  refine ⟨⟨⟨_, _, _, _, hf⟩, hfn, hfr⟩, fun A outer s1 HZ Q E hr e0 FR hc ht => ?_⟩
  have of1 := FR.un.keep f _ hf hfn hfr (by simp)
  obtain ⟨⟨oc, vs, t', hoc, hdc, hvc⟩, _, _⟩ := e0.hok c' _ hc
  have lim : s1.heap.NoLimit := e0.mod.nolimit.keeps fun b o e => (e0.bs b o e).1
  refine PySem.W.kla_callFunE hr.depth of1 rfl L.co L.gen rfl ⟨c', oc, vs, t', rfl, hoc, hdc, hvc⟩ ?_
  rw [hbind]
  refine wpAny_pure (wpAny_newFunctionEnv (fun y hy => (L.own y hy).2) (fun y hy => absurd hy (by simp)) (fun h₁ hns hsb => ⟨lim.fresh _ hsb, ?_⟩) L.kind)
  show codeAny _ _ (.expr body (lamEnv X scope s1.heap.objs.size f c')) _ _
  have kp : ∀ b o, s1.heap.get? b = some o → h₁.get? b = some o := fun b o e => hsb.extBut b o (Nat.ne_of_lt (Heap.lt_size e)) (Heap.get?_push_of_some _ e)
  have J : Inv (lamCx X A outer s1 HZ E scope f c') [] σ HZ { s1 with heap := h₁, toks := s1.toks + ([] : List (Str × Value)).length } :=
    lam_start2 I L e0 hr.hd FR.un hns kp
  refine PySem.W.kla_codeExpr (wpAny_mono ((hbody _ _ s1 HZ E (hr.deeper _)).run [] _ _ HZ Q J ht) (fun v s' hq => ?_) fun e s' hq => hq)
  obtain ⟨w', H', J', rv, q⟩ := hq
  exact ⟨w', H', J'.os, J'.bare, J'.base, J'.hok, rv, q⟩
theorem pe_lamV {T : List (Addr × Str)} {TT : (XK → Hp → VK → Prop) → Hp → VK → Prop} {x : Str} {g c P : Addr} {j k : Nat} {params : Arguments} {body : Expr} {scope : Scope} {t : XK → TE} {p lpos pos : Pos} (hg : Gl X x) (hm : X.mg x = some (.ref g)) (hk : PySem.W.keepIn X.K (.ref g) = true)
    (hG : TakesV X.prog X.w X.K X.mg X.base j g TT) (TB : TabB X.base X.mg c P) (hcode : X.env.code = .ref c) (hmT : (P, X.env.qual ++ "<lambda>") ∈ T) (hu : ∀ p ∈ T, p.1 = P → p.2 = X.env.qual ++ "<lambda>") (hr : Room (k + 1 + j) X.A) (L : LamS X.env.scope scope) (hdef : defaultsOf params X.env = ([], []))
    (hbind : ∀ (q : Str) (cl : List (Str × Addr)) (pm cv ctv : Value), bindArgs (PySem.W.kla_fn "<lambda>" q params body scope cl pm cv ctv) ⟨[], []⟩ = pure [])
    (hbody : ∀ (A : Around) (outer : List Env) (s : Shared) (H : Hp) (E : XK) (f c' : Addr), Room k (A.deeper (lamEnv X scope s.heap.objs.size f c')) → PE (lamCx X A outer s H E scope f c') body (t E))
    (hdb : (x == ("__debug__" : Str)) = false := by decide) :
    PE X (.Call (.Name x p) [.Lambda params body scope lpos] [] pos) (tLamV T (X.env.qual ++ "<lambda>") TT t) := by
  refine ⟨fun pins s σ H Q I h => ?_⟩
  obtain ⟨hT, h⟩ := h
  refine wpAny_Call_Name_kw (ld_glob I hg hm ?_ hdb)
  refine PySem.W.callWith_K (h₀ := X.base) I.ok.mod.kin hk ?_ (by rfl) (by rfl)
  show wpAny _ _ (spliced ((false, eval (.Lambda params body scope lpos) X.env) :: backTo pos (starEach [] X.env))) _ _ s
  refine Calls.spliced_cons (lam_make2 I TB hcode hmT hu hT hdef (L.has I.ok) fun f c' pm' ctv H1 s' I1 eN T1 hf hfn hfr hco => ?_)
  refine Calls.spliced_nil ⟨I1.kIn, ?_⟩
  obtain ⟨V, AC⟩ := lam_acts I1 L hf hfn hfr (hbind _ _ _ _ _) fun A outer s H E hr2 => hbody A outer s H E f c' hr2
  refine wpAny_call (codeAny_mono (hG (k + 1) _ s' H1 f _ _ X.A X.stack s' H1 Q hr I1.env0 (From.refl _ _ _) V AC hco (h H1 eN T1)) fun r s2 hq => ?_)
  cases r with
  | error e => exact (show False from hq).elim
  | ok fl =>
    cases fl with
    | ret u => exact I1.after hq
    | next => exact False.elim hq
    | brk => exact False.elim hq
    | cont => exact False.elim hq
end
end K03


set_option Elab.async false
set_option maxRecDepth 100000
set_option maxHeartbeats 2000000
set_option linter.all false
namespace K03
open PySem PySem.Spec PyProof.Rows L2 LamX
abbrev sCaught : Stmt := top 25
abbrev sPart : Stmt := top 29
theorem scCaught : FnScope ["work", "caught", "error"] ["work"] (defScope sCaught) := ⟨rfl, rfl, rfl, by decide +kernel, rfl, by decide +kernel, by decide +kernel⟩
theorem scPart : FnScope ["work", "error"] ["work"] (defScope sPart) := ⟨rfl, rfl, rfl, by decide +kernel, rfl, by decide +kernel, by decide +kernel⟩
/-- what is caught is given back -/
def TTc (K : PySem.W.Frag) (CW : Addr) : (XK → Hp → VK → Prop) → Hp → VK → Prop := fun tl H Q =>
  ∃ (E0 : XK) (Q0 : VK), tl E0 H Q0 ∧ (∀ cls d H', E0 cls d H' → PySem.W.exmOne K cls (.ref CW) = some true ∧ ∀ a, H' a = none → Q (.ref a) (upd H' a (ExR cls d a))) ∧ ∀ v H', Q0 v H' → Q .non H'
section
variable {P : Program} {w : World} {K : PySem.W.Frag} {mg : Str → Option Value} {base : Heap}
theorem caught_takes {g CW : Addr} {fd : FuncData} (F : Fun K "_law_caught" "_law_caught" sCaught g fd) (b : L2.Binds K fd ["work"] []) (gW : mg "WebError" = some (.ref CW)) : TakesV P w K mg base 1 g (TTc K CW) := by
  intro kl fs0 s0 H0 f pre tl A outer s H Q hr e0 FR Vf AC hp ht
  obtain ⟨oc, od, kV, doc, pm, an, cdv, ct, osl, rfl, lk, hcd⟩ := F.ex
  have KX : K.In s.heap := e0.mod.kin.keeps fun b o e => (e0.bs b o e).1
  refine run_ofS (N := ["work", "caught", "error"]) (ps := ["work"]) (us := [.ref f]) (vs := [.ref f]) lk hcd scCaught hr e0 (b s [.ref f] KX rfl) (.cons rfl .nil) rfl fun hr' => ?_
  have nd := scCaught.nd
  have key : ∃ t, PSs (cxOf L2.CX0 P w K mg base ["work", "caught", "error"] "_law_caught" (defScope sCaught) g cdv A outer s H (fun _ _ _ => False)).nox (defBody sCaught) t ∧ t { nx := fun _ H' => Q .non H', rt := Q } (L2.start ["work", "caught", "error"] [.ref f]) H := by
    refine ⟨_, pss_cons (ps_set (i := 1) nd rfl (Or.inl rfl) pe_non) (pss_cons (ps_try_keep (X := (cxOf L2.CX0 P w K mg base ["work", "caught", "error"] "_law_caught" (defScope sCaught) g cdv A outer s H (fun _ _ _ => False)).nox) (c := .ref CW) (i := 2)
        (tb := fun W D σ H => ∃ (Ech : XK) (Q0 : VK), (∀ cls d H', Ech cls d H' → W cls d σ H') ∧ (∀ (v : V) H', Q0 v H' → D.nx σ H') ∧ σ[0]? = some (some (.ref f)) ∧ pre H ∧ tl Ech H Q0)
        rfl rfl rfl nd rfl rfl ⟨rfl, by decide, .inl gW⟩ L2.takes0 (fun W pn xe tk _ => ?_) (fun a oe cls d pn _ _ => pss_one (ps_set (i := 1) nd rfl (Or.inl rfl) (pv 2))))
      (pss_one (ps_ret (pv 1)))), ?_⟩
    · exact pss_one (ps_expr (pe_actV (i := 0) (a := "work") FR rfl Vf AC tk hr' rfl (.inl rfl)))
    · obtain ⟨E0, Q0, ht, hE, hQ⟩ := ht
      refine ⟨E0, Q0, fun cls d H' q => ?_, fun v H' q => ⟨_, rfl, hQ v H' q⟩, rfl, hp, ht⟩
      obtain ⟨e1, e2⟩ := hE cls d H' q
      exact ⟨true, e1, fun _ a na => ⟨_, rfl, fun _ => ⟨_, rfl, e2 a na⟩⟩, fun z => by cases z⟩
  obtain ⟨t, h1, h2⟩ := key
  exact ⟨t, h1.nox, h2⟩
/-- the part of a BadNet, or that there is none -/
def TTp (K : PySem.W.Frag) (CB CW : Addr) : (XK → Hp → VK → Prop) → Hp → VK → Prop := fun tl H Q =>
  ∃ (E0 : XK) (Q0 : VK), tl E0 H Q0 ∧ (∀ cls d H', E0 cls d H' → cls = .ref CB ∧ ∃ (dd : Addr) (v : L2.V), d = some dd ∧ H' dd = some (.xd [("part", v)]) ∧ ∀ a, H' a = none → Q v (upd H' a (ExR cls d a))) ∧ ∀ v H', Q0 v H' → Q (.str "none") H'
theorem cr_either {X : Cx} {f : Value} {r r' : List L2.V → Hp → VK → Prop} (h : CallR X f r) (h' : CallR X f r') : CallR X f (fun xs H Q => r xs H Q ∨ r' xs H Q) :=
  fun pins s σ H xs us Q I rv q => q.elim (h pins s σ H xs us Q I rv) (h' pins s σ H xs us Q I rv)
/-- what the text says of BadNet -/
structure BadN (K : PySem.W.Frag) (CB CW : Addr) : Prop where
  get : XGet K CB "part"
  exm : PySem.W.exmOne K (.ref CB) (.ref CW) = some true
  one : PySem.W.kitOne K (.ref CB) (.ref CB) = some true
  non : PySem.W.kitOne K (.type "NoneType") (.ref CB) = some false
theorem part_takes {g fC CW CB : Addr} {fd : FuncData} (F : Fun K "_law_part" "_law_part" sPart g fd) (b : L2.Binds K fd ["work"] []) (GC : TakesV P w K mg base 1 fC (TTc K CW)) (gC : mg "_law_caught" = some (.ref fC)) (kC : PySem.W.keepIn K (.ref fC) = true) (gB : mg "BadNet" = some (.ref CB)) (B : BadN K CB CW) (mIs : mg "isinstance" = none) : TakesV P w K mg base 2 g (TTp K CB CW) := by
  intro kl fs0 s0 H0 f pre tl A outer s H Q hr e0 FR Vf AC hp ht
  obtain ⟨oc, od, kV, doc, pm, an, cdv, ct, osl, rfl, lk, hcd⟩ := F.ex
  have KX : K.In s.heap := e0.mod.kin.keeps fun b o e => (e0.bs b o e).1
  refine run_ofS (N := ["work", "error"]) (ps := ["work"]) (us := [.ref f]) (vs := [.ref f]) lk hcd scPart (k := kl + 1) hr e0 (b s [.ref f] KX rfl) (.cons rfl .nil) rfl fun hr' => ?_
  have nd := scPart.nd
  have key : ∃ t, PSs (cxOf L2.CX0 P w K mg base ["work", "error"] "_law_part" (defScope sPart) g cdv A outer s H (fun _ _ _ => False)).nox (defBody sPart) t ∧ t { nx := fun _ H' => Q .non H', rt := Q } (L2.start ["work", "error"] [.ref f]) H := by
    refine ⟨_, pss_cons (ps_set (i := 1) nd rfl (Or.inl rfl) (pe_passV (Z := (cxOf L2.CX0 P w K mg base ["work", "error"] "_law_part" (defScope sPart) g cdv A outer s H (fun _ _ _ => False)).nox) (i := 0) (a := "work") FR rfl Vf AC GC hr' rfl gC kC rfl (.inl rfl)))
      (pss_one (ps_ret (pe_ifExp (pt_val (pe_callB (cr_either call_isi call_isR) (by rfl) mIs (by decide +kernel) (pa_cons (pv 1) (pa_cons (pe_glob (v := .ref CB) (by rfl) gB rfl) pa_nil)))) (pe_rfld (pv 1)) (pe_ifExp (pt_cmpR op_isN (pv 1) pe_non (nomark _)) pe_str pe_str)))), ?_⟩
    refine ⟨fun v H' => (v = .non ∧ Q (.str "none") H') ∨ ∃ (a dd : Addr) (y : L2.V), v = .ref a ∧ H' a = some (ExR (.ref CB) (some dd) a) ∧ H' dd = some (.xd [("part", y)]) ∧ Q y H', fun v H' q => ?_, rfl, hp, ?_⟩
    · rcases q with ⟨rfl, q⟩ | ⟨a, dd, y, rfl, ea, ed, q⟩
      · refine ⟨_, rfl, .inl ⟨_, _, _, _, false, rfl, .own CB, .base .non, B.non, ?_⟩⟩
        exact ⟨_, rfl, iteF ⟨_, rfl, rfl, _, rfl, iteT q⟩⟩
      · refine ⟨_, rfl, .inr ⟨a, CB, dd, _, _, _, true, rfl, ea, ed, B.get.ex, fun u r => r, B.one, ?_⟩⟩
        exact ⟨_, rfl, iteT ⟨_, rfl, a, CB, dd, _, _, rfl, B.get, ea, ed, rfl, q⟩⟩
    · obtain ⟨E0, Q0, ht, hE, hQ⟩ := ht
      refine ⟨E0, Q0, ht, fun cls d H' q => ?_, fun v H' q => .inl ⟨rfl, hQ v H' q⟩⟩
      obtain ⟨rfl, dd, y, rfl, ed, hq⟩ := hE cls d H' q
      refine ⟨B.exm, fun a na => .inr ⟨a, dd, y, rfl, upd_same, ?_, hq a na⟩⟩
      rw [upd_ne (ne_of_none ed na)]
      exact ed
  obtain ⟨t, h1, h2⟩ := key
  exact ⟨t, h1.nox, h2⟩
end
end K03


set_option Elab.async false
set_option maxRecDepth 100000
set_option maxHeartbeats 4000000
set_option linter.all false
namespace K03
open PySem PySem.Spec PyProof.Rows L2 NetM
abbrev sNetInit : Stmt := inClass (top 13) 0
abbrev sNetEq : Stmt := inClass (top 13) 1
theorem scNetInit : FnScope ["self", "places", "arrows", "arrow"] ["self", "places", "arrows"] (defScope sNetInit) := ⟨rfl, rfl, rfl, by decide +kernel, rfl, by decide +kernel, by decide +kernel⟩
/-- the way out: a BadNet of this part -/
def Rz (CB : Addr) (H : Hp) (E : XK) (v : L2.V) : Prop := ∀ (d : Addr) (H' : Hp), H d = none → Same H H' → H' d = some (.xd [("part", v)]) → E (.ref CB) (some d) H'
def Good (zs : Zs) (n : Nat) : Prop := (rounds (nums zs) n [0]).length = n ∧ (ordr (nums zs) n n []).length = n
def PrT (K : PySem.W.Frag) (H : Hp) (zs : Zs) : Prop := ∀ z ∈ zs, SqT K H z.1 [.int z.2.1, .int z.2.2]
theorem PrT.same {K : PySem.W.Frag} {H H' : Hp} {zs : Zs} (s : Same H H') (p : PrT K H zs) : PrT K H' zs := fun z m => sqt_same s (p z m)
/-- a Net of these places and arrows -/
def NetAt (K : PySem.W.Frag) (CN : Addr) (H : Hp) (x : Addr) (n : Nat) (zs : List (Int × Int)) : Prop :=
  ∃ (dx t : Addr) (ws : Zs), H x = some (.ins CN dx [("places", .int n), ("arrows", .ref t)]) ∧ H t = some (.tup (rf ws)) ∧ PrT K H ws ∧ nums ws = zs
theorem NetAt.same {K : PySem.W.Frag} {CN : Addr} {H H' : Hp} {x : Addr} {n : Nat} {zs : List (Int × Int)} (s : Same H H') (h : NetAt K CN H x n zs) : NetAt K CN H' x n zs := by
  obtain ⟨dx, t, ws, a, b, c, d⟩ := h
  exact ⟨dx, t, ws, s _ _ a, s _ _ b, c.same s, d⟩
def BadPl (K : PySem.W.Frag) (H : Hp) (x : L2.V) : Prop := ∃ (t : Value) (b c : Bool), TyX K H x t ∧ PySem.W.kitOne K t (.type "int") = some b ∧ PySem.W.kitOne K t (.type "bool") = some c ∧ ((b && !c) = false ∨ ((b && !c) = true ∧ ∃ i : Int, x = .int i ∧ ¬ (1 ≤ i ∧ i ≤ 8)))
/-- what is handed in as arrows, and what becomes of it -/
inductive ArV (K : PySem.W.Frag) (H : Hp) (n : Nat) : L2.V → Option Zs → Prop
  | no {x : L2.V} {t : Value} (h : TyX K H x t) (z : PySem.W.kitAny K t [.type "list", .type "tuple"] = some false) : ArV K H n x none
  | bad {a : Addr} {xs : List L2.V} {bs : List Bool} (h : SqA K H a xs) (ha : ArL K H n xs bs) (hl : xs.length < 1000) (z : (decide (xs.length ≤ 12) && bs.all id) = false) : ArV K H n (.ref a) none
  | ok {a : Addr} {zs : Zs} (h : SqA K H a (rf zs)) (hp : PrA K H zs) (hl : zs.length ≤ 12) (hE : ∀ t h, (t, h) ∈ nums zs → InR n t ∧ InR n h ∧ t ≠ h) : ArV K H n (.ref a) (some zs)
def spNetInit (K : PySem.W.Frag) (CN CB : Addr) : Sp := fun vs H Q E => ∃ (x dx : Addr) (pl ar : L2.V), vs = [.ref x, pl, ar] ∧ H x = some (.ins CN dx []) ∧
  ((BadPl K H pl ∧ Rz CB H E (.str "places")) ∨ ∃ (n : Nat) (o : Option Zs), pl = .int n ∧ 0 < n ∧ n ≤ 8 ∧ ArV K H n ar o ∧ ((∀ zs, o = some zs → ¬ Good zs n) → Rz CB H E (.str "arrows")) ∧
    (∀ zs, o = some zs → Good zs n → ∀ H', NetAt K CN H' x n (nums zs) → (∀ b o, H b = some o → b ≠ x → H' b = some o) → Q .non H'))
/-- what the text says of BadNet's making -/
structure BadM (P : Program) (w : World) (K : PySem.W.Frag) (mg : Str → Option Value) (base : Heap) (CB fB : Addr) (fdB : FuncData) : Prop where
  oex : OexC K CB
  ini : PySem.W.findIn K (.ref CB) "__init__" = some (some (.ref fB))
  tyI : PySem.W.typeIn K (.ref fB) = some (.type "function")
  ok : FnOk P w K mg base CX0 2 fB fdB ["self", "part"] (spInitX CB "part")
  bd : L2.Binds K fdB ["self", "part"] []
  g : mg "BadNet" = some (.ref CB)
theorem mko_of {C : Addr} {fld : Str} {σ : L2.St} {H : Hp} {E : XK} {ta : TA} {v : L2.V} (ht : ∀ Q, Q [v] H → ta σ H Q) (k : ∀ (d : Addr) (H' : Hp), H d = none → Same H H' → H' d = some (.xd [(fld, v)]) → E (.ref C) (some d) H') : tMkO C (spInitX C fld) [] ta σ H E := by
  refine ht _ ⟨by show 1 ≤ 1000; decide, fun a na => ⟨a, v, rfl, upd_same, fun d hd hda => ⟨rfl, d, [(fld, v)], upd_same, ?_, ?_, ?_⟩⟩⟩
  · rw [upd_ne hda, upd_same]
  · rw [upd_ne hda] at hd; exact hd
  · have nd : H d = none := by rw [upd_ne hda] at hd; exact hd
    refine k d _ nd (fun b o e => ?_) upd_same
    have ha : b ≠ a := ne_of_none e na
    have hb : b ≠ d := ne_of_none e nd
    rw [upd_ne hb, del_ne ha, upd_ne ha, upd_ne hb, upd_ne ha]
    exact e
/-- good pairs, as _are_arrows sees them -/
theorem arl_of {K : PySem.W.Frag} {H : Hp} {n : Nat} : ∀ {zs : Zs}, PrA K H zs → (∀ t h, (t, h) ∈ nums zs → InR n t ∧ InR n h ∧ t ≠ h) → ArL K H n (rf zs) (zs.map fun _ => true)
  | [], _, _ => .nil
  | z :: zs, hp, hE => by
    obtain ⟨a, t, h⟩ := z
    obtain ⟨⟨t0, t1⟩, ⟨h0, h1⟩, ne⟩ := hE t h (List.mem_cons_self ..)
    refine .cons ?_ (arl_of (fun z m => hp z (List.mem_cons_of_mem _ m)) fun t h m => hE t h (List.mem_cons_of_mem _ m))
    have h2 : SqA K H a [.int t, .int h] := hp _ (List.mem_cons_self ..)
    have := ArJ.two (K := K) (H := H) (n := n) h2 (EndJ.ok (i := t) ⟨t0, by omega⟩) (EndJ.ok (i := h) ⟨h0, by omega⟩)
    have e : twoOk (some t) (some h) = true := by
      show (!decide (V.int t = V.int h)) = true
      rw [decide_eq_false (fun z => ne (V.int.inj z))]
      rfl
    rw [e] at this
    exact this
end K03


set_option Elab.async false
set_option maxRecDepth 100000
set_option maxHeartbeats 4000000
set_option linter.all false
namespace K03
open PySem PySem.Spec PyProof.Rows L2 NetM
/-- all but the instances stay -/
def Sm (H H' : Hp) : Prop := ∀ b o, H b = some o → (∀ C dx fs, o ≠ .ins C dx fs) → H' b = some o
theorem Sm.of {H H' : Hp} (s : Same H H') : Sm H H' := fun b o e _ => s b o e
theorem Sm.put {H : Hp} {x C dx : Addr} {fs : List (Str × L2.V)} {o : HO} (h : H x = some (.ins C dx fs)) : Sm H (upd H x o) := fun b u e n => by
  have hb : b ≠ x := fun z => by
    rw [z, h] at e
    exact n _ _ _ (Option.some.inj e).symm
  rw [upd_ne hb]
  exact e
theorem Sm.trans {H H1 H2 : Hp} (a : Sm H H1) (b : Sm H1 H2) : Sm H H2 := fun c o e n => b c o (a c o e n) n
theorem Sm.sqt {K : PySem.W.Frag} {H H' : Hp} (s : Sm H H') {a : Addr} {xs : List L2.V} (h : SqT K H a xs) : SqT K H' a xs := by
  rcases h with (h | ⟨o, h⟩) | h
  · exact .inl (.inl (s _ _ h (fun _ _ _ z => by cases z)))
  · exact .inl (.inr ⟨o, s _ _ h (fun _ _ _ z => by cases z)⟩)
  · exact .inr h
theorem Sm.sql {K : PySem.W.Frag} {H H' : Hp} (s : Sm H H') {a : Addr} {xs : List L2.V} (h : SqL K H a xs) : SqL K H' a xs := by
  rcases h with (h | ⟨o, h⟩) | h
  · exact .inl (.inl (s _ _ h (fun _ _ _ z => by cases z)))
  · exact .inl (.inr ⟨o, s _ _ h (fun _ _ _ z => by cases z)⟩)
  · exact .inr h
theorem Sm.sqa {K : PySem.W.Frag} {H H' : Hp} (s : Sm H H') {a : Addr} {xs : List L2.V} (h : SqA K H a xs) : SqA K H' a xs := by
  rcases h with h | h
  · exact .inl (s.sql h)
  · exact .inr (s.sqt h)
theorem PrT.put {K : PySem.W.Frag} {H : Hp} {zs : Zs} {l : Addr} {xs : List L2.V} {o : HO} (p : PrT K H zs) (h : H l = some (.lst xs)) : PrT K (upd H l o) zs := fun z m => by
  rcases p z m with (q | ⟨o', q⟩) | q
  · exact .inl (.inl (by rw [upd_ne (fun e => by rw [e, h] at q; cases q)]; exact q))
  · exact .inl (.inr ⟨o', by rw [upd_ne (fun e => by rw [e, h] at q; cases q)]; exact q⟩)
  · exact .inr q
theorem PrT.app {K : PySem.W.Frag} {H : Hp} {zs : Zs} {t : Addr} {a b : Int} (p : PrT K H zs) (h : SqT K H t [.int a, .int b]) : PrT K H (zs ++ [(t, a, b)]) := fun z m => by
  rcases List.mem_append.mp m with m | m
  · exact p z m
  · rw [List.mem_singleton] at m
    subst m
    exact h
/-- the program's own small defs -/
structure Small (P : Program) (w : World) (K : PySem.W.Frag) (mg : Str → Option Value) (base : Heap) where
  fN : Addr
  fL : Addr
  fT : Addr
  fA : Addr
  fH : Addr
  fO : Addr
  dN : FuncData
  dA : FuncData
  dH : FuncData
  dO : FuncData
  tk : Nat
  okN : FnOk P w K mg base CX0 1 fN dN ["thing"] (spIsNum K)
  okA : FnOk P w K mg base CX0 3 fA dA ["places", "thing"] (spAre K)
  okH : FnOk P w K mg base CX0 1 fH dH ["places", "arrows"] (spHangs K)
  okO : FnOk P w K mg base CX0 1 fO dO ["places", "arrows"] (spBehind K)
  bN : L2.Binds K dN ["thing"] []
  bA : L2.Binds K dA ["places", "thing"] []
  bH : L2.Binds K dH ["places", "arrows"] []
  bO : L2.Binds K dO ["places", "arrows"] []
  gN : mg "is_number" = some (.ref fN)
  gA : mg "_are_arrows" = some (.ref fA)
  gH : mg "_hangs_together" = some (.ref fH)
  gO : mg "places_behind" = some (.ref fO)
  kN : PySem.W.keepIn K (.ref fN) = true
  kA : PySem.W.keepIn K (.ref fA) = true
  kH : PySem.W.keepIn K (.ref fH) = true
  kO : PySem.W.keepIn K (.ref fO) = true
  gMP : mg "MOST_PLACES" = some (.int 8 tk)
  mLen : mg "len" = none
  mTup : mg "tuple" = none
/-- what the text says of the class Net -/
structure NetT (K : PySem.W.Frag) (mg : Str → Option Value) (CN : Addr) : Prop where
  cl : Cls K CN
  nP : NoAttr K CN "places"
  nA : NoAttr K CN "arrows"
  g : mg "Net" = some (.ref CN)
theorem Rz.same {CB : Addr} {H H' : Hp} {E : XK} {v : L2.V} (s : Same H H') (h : Rz CB H E v) : Rz CB H' E v := fun d H2 nd s2 e => h d H2 (by
  cases q : H d with
  | none => rfl
  | some o => rw [s d o q] at nd; cases nd) (s.trans s2) e
theorem iteTb {c : Bool} {A B : Prop} (e : c = true) (h : A) : if c = true then A else B := by rw [if_pos e]; exact h
theorem iteFb {c : Bool} {A B : Prop} (e : c = false) (h : B) : if c = true then A else B := by rw [if_neg (by rw [e]; exact Bool.false_ne_true)]; exact h
section
variable {P : Program} {w : World} {K : PySem.W.Frag} {mg : Str → Option Value} {base : Heap}
theorem ok_netinit {f CN CB fB : Addr} {fd fdB : FuncData} (F : Fun K "__init__" "Net.__init__" sNetInit f fd) (BM : BadM P w K mg base CB fB fdB) (T : NetT K mg CN) (S : Small P w K mg base) : FnOk P w K mg base (L2.CX P w) 4 f fd ["self", "places", "arrows"] (spNetInit K CN CB) := by
  refine F.okX scNetInit (fun vs H Q E h => ?_) (fun cdv A outer s H vs Q E hr h => ?_)
  · obtain ⟨x, dx, pl, ar, rfl, _⟩ := h
    rfl
  · obtain ⟨x, dx, pl, ar, rfl, hx, h⟩ := h
    have nd := scNetInit.nd
    have r1 : Room 1 _ := hr.mono (by decide)
    refine ⟨_, pss_cons (ps_if (PW.pt (pw_or (pt_not (pt_val (pe_call S.okN r1 (by rfl) S.gN S.kN S.bN .nil pass0 (pa_cons (pv 1) pa_nil)))) (pw_or1 (pt_not (pt_chain op_le op_le pe_int (pv 1) (pe_glob (v := .int 8) (by rfl) S.gMP ⟨S.tk, rfl⟩))))))
        (pss_one (ps_raise rfl (takes_of rfl rfl rfl rfl) (pmk_oex BM.oex BM.ini BM.tyI BM.ok hr BM.bd .nil pass0 (by rfl) BM.g (pa_cons pe_str pa_nil)))) pss_nil)
      (pss_cons (ps_if (PW.pt (pw_or (pt_not (pt_val (pe_call S.okA hr (by rfl) S.gA S.kA S.bA .nil pass0 (pa_cons (pv 1) (pa_cons (pv 2) pa_nil))))) (pw_or1 (pt_not (pt_val (pe_call S.okH r1 (by rfl) S.gH S.kH S.bH .nil pass0 (pa_cons (pv 1) (pa_cons (pv 2) pa_nil))))))))
        (pss_one (ps_raise rfl (takes_of rfl rfl rfl rfl) (pmk_oex BM.oex BM.ini BM.tyI BM.ok hr BM.bd .nil pass0 (by rfl) BM.g (pa_cons pe_str pa_nil)))) pss_nil)
      (pss_cons (ps_if (pt_cmpR op_ne (pe_callB call_len_seq (by rfl) S.mLen PySem.boot_len (pa_cons (pe_call S.okO r1 (by rfl) S.gO S.kO S.bO .nil pass0 (pa_cons (pv 1) (pa_cons (pv 2) pa_nil))) pa_nil)) (pv 1) (nomark _))
        (pss_one (ps_raise rfl (takes_of rfl rfl rfl rfl) (pmk_oex BM.oex BM.ini BM.tyI BM.ok hr BM.bd .nil pass0 (by rfl) BM.g (pa_cons pe_str pa_nil)))) pss_nil)
      (pss_cons (ps_fld (pv 0) (pv 1) rfl)
      (pss_one (ps_fld (pv 0) (pe_callTy call_tuple_of (by rfl) S.mTup (by decide +kernel) (pa_cons
        (pe_lc (own := [("arrow", 3)]) (g := gName 3) (by rfl) nd (pi_either (pi_list (pv 2)) (pi_tup (pv 2))) (blkOk_by (N := ["self", "places", "arrows", "arrow"]) (sc := defScope sNetInit) (by decide +kernel)) (fun _ _ _ _ _ => pg_name (i := 3) nd rfl (Or.inl rfl)) (fun _ _ _ _ _ => pts_nil)
          (fun _ _ _ _ _ => pe_callTy (show CallR _ _ (fun xs H Q => ∃ p ys, xs = [.ref p] ∧ ((SqL K H p ys ∧ ∀ l, H l = none → Q (.ref l) (upd H l (.tup ys))) ∨ (SqT K H p ys ∧ Q (.ref p) H))) from call_tuple_of) (by rfl) S.mTup (by decide +kernel) (pa_cons (pv 3) pa_nil))) pa_nil)) rfl))))), ?_⟩
    rcases h with ⟨⟨t, b, c, ht, hb, hc, hbc⟩, hR⟩ | ⟨n, o, rfl, n0, n8, hA, hR, k⟩
    · refine ⟨_, rfl, pl, t, b, c, rfl, ht, hb, hc, ?_⟩
      rcases hbc with e | ⟨e, i, rfl, hi⟩
      · rw [e]
        refine ⟨_, rfl, ?_⟩
        refine iteT ?_
        refine iteT ?_
        exact mko_of (fun Q q => q) hR
      · rw [e]
        refine ⟨_, rfl, ?_⟩
        refine iteF ?_
        refine ⟨_, rfl, _, _, rfl, rfl, _, rfl, ite2 (fun c1 => ?_) (fun c1 => ?_)⟩
        · have h0 := of_decide_eq_true c1
          refine ⟨_, _, rfl, rfl, _, rfl, ?_⟩
          refine iteTb (by rw [decide_eq_false fun z => hi ⟨h0, z⟩]; rfl) ?_
          exact mko_of (fun Q q => q) hR
        · refine ⟨_, rfl, ?_⟩
          refine iteT ?_
          exact mko_of (fun Q q => q) hR
    · refine ⟨_, rfl, .int n, .type "int", true, false, rfl, .base (.int n), (num_int K).1, (num_int K).2, ?_⟩
      refine ⟨_, rfl, ?_⟩
      refine iteF ?_
      refine ⟨_, rfl, _, _, rfl, rfl, _, rfl, iteTb (decide_eq_true (by omega)) ?_⟩
      refine ⟨_, _, rfl, rfl, _, rfl, ?_⟩
      refine iteFb (by rw [decide_eq_true (by omega)]; rfl) ?_
      cases hA with
      | no ht hk =>
        refine ⟨_, rfl, _, rfl, n, _, rfl, .inl ⟨_, ht, hk, fun H1 s1 => ⟨_, rfl, ?_⟩⟩⟩
        refine iteT ?_
        refine iteT ?_
        exact mko_of (fun Q q => q) (Rz.same s1 (hR fun zs e => by cases e))
      | @bad a xs bs hS hb hl z =>
        refine ⟨_, rfl, _, rfl, n, _, rfl, .inr ⟨a, xs, bs, rfl, hS, hb, hl, fun H1 s1 => ⟨_, rfl, ?_⟩⟩⟩
        rw [z]
        refine iteT ?_
        refine iteT ?_
        exact mko_of (fun Q q => q) (Rz.same s1 (hR fun zs e => by cases e))
      | @ok a zs hS hp hl hE =>
        have hal : ((zs.map fun _ => true).all id) = true := by simp
        refine ⟨_, rfl, _, rfl, n, _, rfl, .inr ⟨a, rf zs, zs.map fun _ => true, rfl, hS, arl_of hp hE, by unfold rf; rw [List.length_map]; omega, fun H1 s1 => ⟨_, rfl, ?_⟩⟩⟩
        rw [hal, decide_eq_true (by unfold rf; rw [List.length_map]; omega)]
        refine iteF ?_
        refine ⟨_, rfl, _, rfl, a, n, zs, rfl, hS.same s1, hp.same s1, by omega, n0, n8, fun t h m => ⟨(hE t h m).1, (hE t h m).2.1⟩, fun H2 s2 => ⟨_, rfl, ?_⟩⟩
        by_cases g1 : (rounds (nums zs) n [0]).length = n
        · rw [g1, decide_eq_true rfl]
          refine iteF ?_
          refine ⟨_, rfl, _, rfl, a, n, zs, rfl, (hS.same s1).same s2, (hp.same s1).same s2, by omega, n0, n8, fun p H3 s3 np hpp => ?_⟩
          refine ⟨p, _, rfl, .inl (SqL.of hpp), _, rfl, rfl, _, rfl, ?_⟩
          rw [List.length_map]
          have s03 : Same H H3 := (s1.trans s2).trans s3
          by_cases g2 : (ordr (nums zs) n n []).length = n
          · rw [g2, decide_eq_true rfl]
            refine iteF ?_
            refine ⟨_, rfl, _, rfl, x, CN, dx, [], rfl, s03 _ _ hx, T.cl, T.nP, (by show 0 < 1000; decide), ?_⟩
            have hxa : (upd H3 x (.ins CN dx (putF "places" (.int n) []))) x = some (.ins CN dx [("places", .int n)]) := upd_same
            have sma : Sm H (upd H3 x (.ins CN dx (putF "places" (.int n) []))) := (Sm.of s03).trans (Sm.put (s03 _ _ hx))
            have kea : ∀ b o, H b = some o → b ≠ x → (upd H3 x (.ins CN dx (putF "places" (.int n) []))) b = some o := fun b o e hb => by
              rw [upd_ne hb]
              exact s03 _ _ e
            generalize upd H3 x (.ins CN dx (putF "places" (.int n) [])) = Ha at hxa sma kea
            have hSa : SqA K Ha a (rf zs) := sma.sqa hS
            have hpa : PrA K Ha zs := fun z m => sma.sqa (hp z m)
            have fin : ∀ (D : Addr) (Hd : Hp) (ws : Zs), nums ws = nums zs → PrT K Hd ws → Hd D = some (.lst (rf ws)) → Same Ha Hd → ∀ l, Hd l = none → Q .non (upd (upd Hd l (.tup (rf ws))) x (.ins CN dx (putF "arrows" (.ref l) [("places", .int n)]))) := by
              intro D Hd ws hw pw eD sd l nl
              have nxl : x ≠ l := ne_of_none (sd _ _ hxa) nl
              have sml : Sm Hd (upd (upd Hd l (.tup (rf ws))) x (.ins CN dx (putF "arrows" (.ref l) [("places", .int n)]))) := (Sm.of (same_upd nl)).trans (Sm.put (same_upd nl _ _ (sd _ _ hxa)))
              refine k zs rfl ⟨g1, g2⟩ _ ⟨dx, l, ws, by rw [upd_same]; rfl, by rw [upd_ne nxl.symm, upd_same], fun z m => sml.sqt (pw z m), hw⟩ fun b o e hb => ?_
              rw [upd_ne hb]
              exact same_upd nl _ _ (sd _ _ (kea b o e hb))
            rcases hSa with hSa | hSa
            · skip
              refine .inl ⟨_, rfl, a, rfl, ⟨_, hSa⟩, fun D nD => ?_⟩
              refine lc_list (K := K) (a := a) (xs := rf zs) (fun j Hd => ∃ ws : Zs, nums ws = (nums zs).take j ∧ PrT K Hd ws ∧ Hd D = some (.lst (rf ws)) ∧ Same Ha Hd) ⟨[], rfl, fun z m => by simp at m, upd_same, same_upd nD⟩ (fun j Hd _ hh => by obtain ⟨_, _, _, _, s⟩ := hh; exact s.seq hSa) ?_ ?_
              · rintro j y Hd hj ⟨ws, hw, pw, eD, sd⟩
                obtain ⟨⟨z, z1, z2⟩, hz, rfl⟩ := rf_inv hj
                have hzm : (z, z1, z2) ∈ zs := List.mem_of_getElem? hz
                have hil : j < zs.length := (List.getElem?_eq_some_iff.mp hz).1
                have hwl : ws.length ≤ j := by
                  have := congrArg List.length hw
                  unfold nums at this
                  rw [List.length_map, List.length_take, List.length_map] at this
                  omega
                have htk : (nums zs).take (j + 1) = (nums zs).take j ++ [(z1, z2)] := by
                  rw [List.take_add_one, nums_get hz]; rfl
                have hnw : ∀ l : Addr, nums (ws ++ [(l, z1, z2)]) = (nums zs).take (j + 1) := fun l => by
                  rw [htk, ← hw]
                  unfold nums
                  rw [List.map_append]
                  rfl
                have hq : SqA K Hd z [.int z1, .int z2] := (hpa _ hzm).same sd
                refine ⟨rfl, ?_⟩
                dsimp only [tYes]
                refine iteT ?_
                refine ⟨_, rfl, z, [.int z1, .int z2], rfl, ?_⟩
                rcases hq with q | q
                · refine .inl ⟨q, fun l nl => ⟨_, same_upd nl _ _ eD, small_2000 (by rw [rf_len]; omega), ?_⟩⟩
                  refine ⟨ws ++ [(l, z1, z2)], hnw l, ((pw.same (same_upd nl)).app (.inl (.inl upd_same))).put (same_upd nl _ _ eD), by rw [upd_same, rf_app], same_put (sd.trans (same_upd nl)) nD⟩
                · refine .inr ⟨q, ⟨_, eD, small_2000 (by rw [rf_len]; omega), ?_⟩⟩
                  refine ⟨ws ++ [(z, z1, z2)], hnw z, (pw.app q).put eD, by rw [upd_same, rf_app], same_put sd nD⟩
              · rintro Hd ⟨ws, hw, pw, eD, sd⟩
                have hln : (rf zs).length = (nums zs).length := by unfold rf nums; rw [List.length_map, List.length_map]
                rw [hln, List.take_length] at hw
                exact ⟨D, rf ws, rfl, .inl ⟨SqL.of eD, fun l nl => ⟨_, rfl, x, CN, dx, [("places", .int n)], rfl, same_upd nl _ _ (sd _ _ hxa), T.cl, T.nA, (by show 1 < 1000; decide), fin D Hd ws hw pw eD sd l nl⟩⟩⟩
            · skip
              refine .inr ⟨_, rfl, a, rfl, ⟨_, hSa⟩, fun D nD => ?_⟩
              refine lc_tup (K := K) (a := a) (xs := rf zs) (fun j Hd => ∃ ws : Zs, nums ws = (nums zs).take j ∧ PrT K Hd ws ∧ Hd D = some (.lst (rf ws)) ∧ Same Ha Hd) ⟨[], rfl, fun z m => by simp at m, upd_same, same_upd nD⟩ (fun j Hd _ hh => by obtain ⟨_, _, _, _, s⟩ := hh; exact sqt_same s hSa) ?_ ?_
              · rintro j y Hd hj ⟨ws, hw, pw, eD, sd⟩
                obtain ⟨⟨z, z1, z2⟩, hz, rfl⟩ := rf_inv hj
                have hzm : (z, z1, z2) ∈ zs := List.mem_of_getElem? hz
                have hil : j < zs.length := (List.getElem?_eq_some_iff.mp hz).1
                have hwl : ws.length ≤ j := by
                  have := congrArg List.length hw
                  unfold nums at this
                  rw [List.length_map, List.length_take, List.length_map] at this
                  omega
                have htk : (nums zs).take (j + 1) = (nums zs).take j ++ [(z1, z2)] := by
                  rw [List.take_add_one, nums_get hz]; rfl
                have hnw : ∀ l : Addr, nums (ws ++ [(l, z1, z2)]) = (nums zs).take (j + 1) := fun l => by
                  rw [htk, ← hw]
                  unfold nums
                  rw [List.map_append]
                  rfl
                have hq : SqA K Hd z [.int z1, .int z2] := (hpa _ hzm).same sd
                refine ⟨rfl, ?_⟩
                dsimp only [tYes]
                refine iteT ?_
                refine ⟨_, rfl, z, [.int z1, .int z2], rfl, ?_⟩
                rcases hq with q | q
                · refine .inl ⟨q, fun l nl => ⟨_, same_upd nl _ _ eD, small_2000 (by rw [rf_len]; omega), ?_⟩⟩
                  refine ⟨ws ++ [(l, z1, z2)], hnw l, ((pw.same (same_upd nl)).app (.inl (.inl upd_same))).put (same_upd nl _ _ eD), by rw [upd_same, rf_app], same_put (sd.trans (same_upd nl)) nD⟩
                · refine .inr ⟨q, ⟨_, eD, small_2000 (by rw [rf_len]; omega), ?_⟩⟩
                  refine ⟨ws ++ [(z, z1, z2)], hnw z, (pw.app q).put eD, by rw [upd_same, rf_app], same_put sd nD⟩
              · rintro Hd ⟨ws, hw, pw, eD, sd⟩
                have hln : (rf zs).length = (nums zs).length := by unfold rf nums; rw [List.length_map, List.length_map]
                rw [hln, List.take_length] at hw
                exact ⟨D, rf ws, rfl, .inl ⟨SqL.of eD, fun l nl => ⟨_, rfl, x, CN, dx, [("places", .int n)], rfl, same_upd nl _ _ (sd _ _ hxa), T.cl, T.nA, (by show 1 < 1000; decide), fin D Hd ws hw pw eD sd l nl⟩⟩⟩
          · refine iteTb (by rw [decide_eq_false fun z => g2 (by have := V.int.inj z; omega)]; rfl) ?_
            exact mko_of (fun Q q => q) (Rz.same s03 (hR fun zs' e g => by cases e; exact g2 g.2))
        · refine iteTb (by rw [decide_eq_false fun z => g1 (by have := V.int.inj z; omega)]; rfl) ?_
          exact mko_of (fun Q q => q) (Rz.same (s1.trans s2) (hR fun zs' e g => by cases e; exact g1 g.1))
end
end K03


set_option Elab.async false
set_option maxRecDepth 100000
set_option maxHeartbeats 4000000
set_option linter.all false
namespace K03
open PySem PySem.Spec PyProof.Rows L2 NetM
open PySem.W (KitX InstAt Looks Frag findIn subIn typeIn)
section
variable {prog : Program} {w : World} {A : Around} {E : Value → Shared → Prop} {s : Shared} {K : Frag} {x C L f : Addr} {h₀ : Heap} {m : Str → Option Value} {ox : Obj} {od : Option Obj} {name : Str} {b tb : Value}
/-- a special method that is a builtin slot of object -/
theorem ifBound_B {M : Model} {args : List Value} {Q : Option Value → Shared → Prop} {id : String} (X : K.In s.heap) (I : InstAt s.heap x ox C od) (hs : findIn K (.ref C) name = some (some (.builtin id))) (hb : ∀ self, bindSpecial (.builtin id) self = pure (.builtin id, [self]))
    (h : wpAny M A (call (.builtin id) (.ref x :: args)) (fun v => Q (some v)) E s) : wpAny M A (callSpecialIfBound? (.ref x) name args) Q E s := by
  simp only [callSpecialIfBound?, bindSpecialIfBound?]
  refine wpAny_holding (wpAny_bind (wpAny_bind (wpAny_bind (I.type.here ((PySem.W.looks_findIn X hs).here ?_)))))
  simp only [hb]
  refine wpAny_bind (wpAny_askSetting (wpAny_ite ?_))
  have fin : wpAny M A (call (.builtin id) ([.ref x] ++ args) >>= fun v => pure (some v)) Q E s := wpAny_bind (wpAny_mono h (fun v s' h' => wpAny_pure h') fun _ _ h' => h')
  split
  · exact wpAny_bind (wpAny_pure (wpAny_pure fin))
  · exact wpAny_tryCatch (wpAny_bind (wpAny_pure (wpAny_pure fin)))
theorem objNe_K (X : K.In s.heap) (I : InstAt s.heap x ox C od) (he : findIn K (.ref C) "__eq__" = some (some (.ref f))) (hf : PySem.W.isFn K (.ref f) = true) (hu : A.units < cLine) {Q : Fin → Shared → Prop}
    (hcall : wpAny (model prog w) A (call (.ref f) [.ref x, b]) (fun v s' => ∃ c, v = .bool c ∧ Q (.done (.ret (.bool (!c)))) s') E s) :
    wpAny (model prog w) A (Builtin.«object.__ne__» ⟨[.ref x, b], []⟩) Q E s := by
  obtain ⟨hp, g, d, t, os⟩ := s
  unfold Builtin.«object.__ne__»
  repeat (first
    | with_reducible refine wpAny_cRoomFor hu ?_
    | (refine wpAny_bind (m := callSpecialIfBound? (.ref x) (Str.ofString "__eq__") [b])
        (PySem.W.ifBound_K X I he hf (wpAny_mono hcall (fun r s' hr => by
          obtain ⟨c, rfl, hq⟩ := hr
          repeat (first | exact hq | exact wpAny_pure hq | exact wpAny_truthy_bool hq | (refine wpAny_bind (m := truthy (.bool _)) (wpAny_truthy_bool ?_)) | wp_step)) fun _ _ e => e)))
    | wp_step)
/-- a != b, a of an own class with its own == alone -/
theorem ne_K {Q : Value → Shared → Prop} (hu : A.units + 1 < cLine) (F : Fr h₀ L s.heap m) (X₀ : K.In h₀) (I : InstAt s.heap x ox C od) (hb : Looks (model prog w) s.heap (typeOf b) tb) (hn : PySem.W.notFirst K C tb = true)
    (he : findIn K (.ref C) "__eq__" = some (some (.ref f))) (hf : PySem.W.isFn K (.ref f) = true) (hs : findIn K (.ref C) "__ne__" = some (some (.builtin "object.__ne__"))) (ho : subIn K (.ref C) (.type "object") = some true)
    (h : wpAny (model prog w) A.in1 (call (.ref f) [.ref x, b]) (fun v s' => ∃ c, v = .bool c ∧ Q (.bool (!c)) s') E s) : wpAny (model prog w) A (richCompare .NotEq (.ref x) b) Q E s := by
  have X := X₀.keeps F.keep
  have S := PySem.F.slot_object_ne
  have one : wpAny (model prog w) A (tryCompare (.ref x) (cmpInfo .NotEq).2.1 b) (fun r s' => ∃ v, r = some v ∧ Q v s') E s := by
    unfold tryCompare
    refine wpAny_bind (ifBound_B X I (id := "object.__ne__") hs S.bind (wpAny_call (codeAny_call_builtin S.plain PySem.F.cmpEntry_ne (PySem.W.check_slot PySem.F.cmpKind_ne PySem.F.cmpSplit_ne (I.type.andThen (PySem.W.looks_subIn X ho)) (PySem.F.cmpArgs_ne _ _)
      (objNe_K (A := A.in1) X I he hf (by show A.units + 1 < _; exact hu) (wpAny_mono h (fun v s' hv => ?_) fun _ _ e => e))))))
    obtain ⟨c, rfl, hq⟩ := hv
    first | exact ⟨c, rfl, wpAny_pure ⟨_, rfl, hq⟩⟩ | exact ⟨c, rfl, wpAny_pure (wpAny_pure ⟨_, rfl, hq⟩)⟩
  unfold richCompare
  simp only [oneThing_ref]
  refine wpAny_holding (wpAny_bind (wpAny_cRoomFor (Nat.lt_of_succ_lt hu) ?_))
  refine wpAny_bind (I.type.here (wpAny_bind (hb.here ?_)))
  split
  · rename_i q
    have e : subIn K tb (.ref C) = some false := by
      rcases Bool.or_eq_true_iff.mp hn with e | e
      · rw [beq_iff_eq.mp e] at q; simp at q
      · exact beq_iff_eq.mp e
    refine wpAny_bind ((PySem.W.looks_subIn X e).here ?_)
    simp only [Bool.false_eq_true, if_false]
    refine wpAny_bind (wpAny_mono one (fun r s' z => ?_) fun _ _ e => e)
    obtain ⟨v, rfl, hq⟩ := z
    exact wpAny_pure hq
  · refine wpAny_bind (wpAny_pure ?_)
    simp only [Bool.false_eq_true, if_false]
    refine wpAny_bind (wpAny_mono one (fun r s' z => ?_) fun _ _ e => e)
    obtain ⟨v, rfl, hq⟩ := z
    exact wpAny_pure hq
end
end K03


set_option Elab.async false
set_option maxRecDepth 100000
set_option maxHeartbeats 4000000
set_option linter.all false
namespace K03
open PySem PySem.Spec PyProof.Rows L2 NetM
theorem scNetEq : FnScope ["self", "other"] ["self", "other"] (defScope sNetEq) := ⟨rfl, rfl, rfl, by decide +kernel, rfl, by decide +kernel, by decide +kernel⟩
abbrev pd (p : Int × Int) : PyData := .tuple [.int p.1, .int p.2]
theorem dpall_prs {K : PySem.W.Frag} {H : Hp} : ∀ {zs : Zs}, PrA K H zs → (∀ z ∈ zs, SqT K H z.1 [.int z.2.1, .int z.2.2]) → DpAll K H (rf zs) ((nums zs).map pd)
  | [], _, _ => .nil
  | z :: zs, h, p => .cons (.tup (p z (List.mem_cons_self ..)) (.cons (.int _) (.cons (.int _) .nil))) (dpall_prs (fun z m => h z (List.mem_cons_of_mem _ m)) fun z m => p z (List.mem_cons_of_mem _ m))
theorem PrT.pra {K : PySem.W.Frag} {H : Hp} {zs : Zs} (p : PrT K H zs) : PrA K H zs := fun z m => .inr (p z m)
theorem PL.prt {K : PySem.W.Frag} {H : Hp} {zs : Zs} (p : PL H zs) : PrT K H zs := fun z m => .inl (.inl (p z m))
theorem dp_tup {K : PySem.W.Frag} {H : Hp} {t : Addr} {zs : Zs} (h : SqT K H t (rf zs)) (p : PrT K H zs) : Dp K H (.ref t) (.tuple ((nums zs).map pd)) := .tup h (dpall_prs p.pra p)
theorem dp_lst {K : PySem.W.Frag} {H : Hp} {t : Addr} {zs : Zs} (h : SqL K H t (rf zs)) (p : PrT K H zs) : Dp K H (.ref t) (.list ((nums zs).map pd)) := .lst h (dpall_prs p.pra p)
theorem lay_pd (l : List (Int × Int)) : PyData.canLayAll0 (l.map pd) = true := by
  induction l with
  | nil => rfl
  | cons x r ih => simp [PyData.canLayAll0, PyData.canLay0, ih]
theorem dep_pd (l : List (Int × Int)) : PyData.depthAll (l.map pd) ≤ 2 := by
  induction l with
  | nil => simp [PyData.depthAll]
  | cons x r ih => simp [PyData.depthAll, PyData.depth]; omega
theorem shp_tup (l : List (Int × Int)) : SeqAt.shaped (.tuple (l.map pd)) = true := by
  have h1 := lay_pd l
  have h2 := dep_pd l
  simp [SeqAt.shaped, PyData.canLay0, h1, PyData.depth]
  omega
theorem shp_lst (l : List (Int × Int)) : SeqAt.shaped (.list (l.map pd)) = true := by
  have h1 := lay_pd l
  have h2 := dep_pd l
  simp [SeqAt.shaped, PyData.canLay0, h1, PyData.depth]
  omega
theorem eqvAll_pd : ∀ l m : List (Int × Int), PyData.eqvAll (l.map pd) (m.map pd) = decide (l = m)
  | [], [] => rfl
  | [], _ :: _ => rfl
  | _ :: _, [] => rfl
  | (a, b) :: l, (c, d) :: m => by
    show (PyData.eqv (pd (a, b)) (pd (c, d)) && PyData.eqvAll (l.map pd) (m.map pd)) = _
    rw [eqvAll_pd l m]
    show ((a == c) && ((b == d) && true) && decide (l = m)) = _
    by_cases h1 : a = c
    · by_cases h2 : b = d
      · by_cases h3 : l = m
        · subst h1; subst h2; subst h3; simp
        · subst h1; subst h2
          rw [decide_eq_false h3, decide_eq_false (fun z => h3 (List.cons.inj z).2)]; simp
      · rw [beq_eq_false_iff_ne.mpr h2]
        simp [h2]
    · rw [beq_eq_false_iff_ne.mpr h1]
      simp [h1]
theorem eqv_tup (l m : List (Int × Int)) : PyData.eqv (.tuple (l.map pd)) (.tuple (m.map pd)) = decide (l = m) := eqvAll_pd l m
theorem eqv_lst (l m : List (Int × Int)) : PyData.eqv (.list (l.map pd)) (.list (m.map pd)) = decide (l = m) := eqvAll_pd l m
/-- what the text says of comparing Nets -/
structure NetE (K : PySem.W.Frag) (mg : Str → Option Value) (CN fE : Addr) : Prop where
  t : NetT K mg CN
  eq : PySem.W.findIn K (.ref CN) "__eq__" = some (some (.ref fE))
  fn : PySem.W.isFn K (.ref fE) = true
  ne : PySem.W.findIn K (.ref CN) "__ne__" = some (some (.builtin "object.__ne__"))
  ob : PySem.W.subIn K (.ref CN) (.type "object") = some true
  ha : PySem.W.findIn K (.ref CN) "__class__" = some (some (.builtin "object.__class__"))
  hn : PySem.W.specialIn K (.builtin "object.__class__") "__get__" = some (some (.builtin "getset_descriptor.__get__"))
  hk : PySem.W.takesIn K (.builtin "object.__class__") = some true
  hm : PySem.W.mroIn K CN (.type "object") = some true
  one : PySem.W.kitOne K (.ref CN) (.ref CN) = some true
  tup : PySem.W.kitOne K (.type "tuple") (.ref CN) = some false
  nf : PySem.W.notFirst K CN (.type "tuple") = true
theorem NetE.ty {K : PySem.W.Frag} {mg : Str → Option Value} {CN fE : Addr} (T : NetE K mg CN fE) {H : Hp} {a : Addr} {n : Nat} {zs : List (Int × Int)} (h : NetAt K CN H a n zs) : TyX K H (.ref a) (.ref CN) := by
  obtain ⟨dx, t, ws, e, _⟩ := h
  exact .base (.ins e T.t.cl T.ha T.hn T.hk T.hm)
/-- whether both are Nets of the same parts; other values are tuples -/
def spNetEq (K : PySem.W.Frag) (CN : Addr) : Sp := fun vs H Q _ => ∃ (a : Addr) (n : Nat) (zs : List (Int × Int)) (y : L2.V), vs = [.ref a, y] ∧ NetAt K CN H a n zs ∧
  ((∃ (b : Addr) (m : Nat) (ws : List (Int × Int)), y = .ref b ∧ NetAt K CN H b m ws ∧ ∀ H', Same H H' → Q (.bl (decide (n = m ∧ zs = ws))) H') ∨ (∃ (b : Addr) (xs : List L2.V), y = .ref b ∧ SqT K H b xs ∧ ∀ H', Same H H' → Q (.bl false) H'))
section
variable {P : Program} {w : World} {K : PySem.W.Frag} {mg : Str → Option Value} {base : Heap}
theorem ok_neteq {f CN : Addr} {fd : FuncData} (F : Fun K "__eq__" "Net.__eq__" sNetEq f fd) (T : NetE K mg CN f) (mIs : mg "isinstance" = none) : FnOk P w K mg base CX0 1 f fd ["self", "other"] (spNetEq K CN) := by
  refine F.ok scNetEq (fun vs H Q E h => ?_) (fun cdv A outer s H vs Q E hr h => ?_)
  · obtain ⟨a, n, zs, y, rfl, _⟩ := h
    rfl
  · obtain ⟨a, n, zs, y, rfl, hA, h⟩ := h
    refine ⟨_, pss_one (ps_ret (pe_and (pe_callB call_isi (by rfl) mIs (by decide +kernel) (pa_cons (pv 1) (pa_cons (pe_glob (v := .ref CN) (by rfl) T.t.g rfl) pa_nil)))
      (pe_and (pe_cmpR op_eq (pe_fld (pv 0) rfl) (pe_fld (pv 1) rfl) (nomark _)) (pe_one (pe_cmpR (op_eqD hr.units) (pe_fld (pv 0) rfl) (pe_fld (pv 1) rfl) (nomark _)))))), ?_⟩
    rcases h with ⟨b, m, ws, rfl, hB, k⟩ | ⟨b, xs, rfl, hB, k⟩
    · refine ⟨_, rfl, _, _, _, _, true, rfl, .own CN, T.ty hB, T.one, _, rfl, ?_⟩
      refine iteT ?_
      obtain ⟨dx, t, us, e, et, p, rfl⟩ := hA
      obtain ⟨dx2, t2, us2, e2, et2, p2, rfl⟩ := hB
      refine ⟨_, rfl, a, CN, dx, _, _, rfl, e, T.t.cl, T.t.nP, rfl, _, rfl, b, CN, dx2, _, _, rfl, e2, T.t.cl, T.t.nP, rfl, rfl, _, rfl, ite2 (fun c => ?_) (fun c => ?_)⟩
      · have hnm : n = m := by
          have := V.int.inj (of_decide_eq_true c)
          omega
        refine ⟨_, rfl, a, CN, dx, _, _, rfl, e, T.t.cl, T.t.nA, rfl, _, rfl, b, CN, dx2, _, _, rfl, e2, T.t.cl, T.t.nA, rfl, _, _, dp_tup (SqT.of et) p, dp_tup (SqT.of et2) p2, shp_tup _, shp_tup _, ?_⟩
        rw [eqv_tup]
        have := k H fun _ _ z => z
        rw [decide_eq_decide.mpr (show (n = m ∧ nums us = nums us2) ↔ nums us = nums us2 from ⟨fun z => z.2, fun z => ⟨hnm, z⟩⟩)] at this
        exact this
      · have hnm : ¬ n = m := fun z => c (decide_eq_true (by rw [z]))
        have := k H fun _ _ z => z
        rw [decide_eq_false (fun z => hnm z.1)] at this
        exact this
    · refine ⟨_, rfl, _, _, _, _, false, rfl, .own CN, ?_, T.tup, _, rfl, ?_⟩
      · exact ty_tup hB
      refine iteF ?_
      exact k H fun _ _ z => z
end
section
variable {X : Cx} {CN fE : Addr} {fd : FuncData}
/-- a call of the own ==, wherever one stands -/
theorem run_neteq (F : FnOk X.prog X.w X.K X.mg X.base CX0 1 fE fd ["self", "other"] (spNetEq X.K CN)) (hb : L2.Binds X.K fd ["self", "other"] []) {A : Around} {pins : List (Addr × Obj)} {σ : L2.St} {H : Hp} {s : Shared} {a : Addr} {y : L2.V} {v : Value} {Q : L2.V → Hp → Prop} (sb : Sub X 1 A) (I : Inv X pins σ H s) (ry : RelV y v)
    (h : spNetEq X.K CN [.ref a, y] H (fun u H' => (∃ c, u = .bl c) ∧ Q u H') (fun _ _ _ => False)) : wpAny (model X.prog X.w) A (call (.ref fE) [.ref a, v]) (fun u s' => ∃ c, u = .bool c ∧ ∃ H', Inv X pins σ H' s' ∧ Q (.bl c) H') X.xe s := by
  have e0 : Env0 X.prog X.w X.K X.mg X.base A X.stack s H := by
    have e := I.env0
    exact ⟨by rw [sb.fr]; exact e.frames, e.mod, e.bs, e.bsz, e.funs, e.frf, e.hok, e.bare⟩
  have r2 : Vals [V.ref a, y] [Value.ref a, v] := .cons rfl (.cons ry .nil)
  refine wpAny_call (codeAny_mono (F.run A X.stack s H ⟨[.ref a, v], []⟩ [.ref a, v] [.ref a, y] _ _ sb.room e0 (hb s [.ref a, v] I.kIn rfl) r2 h) fun r s' hq => ?_)
  cases r with
  | error e => exact (show False from hq).elim
  | ok fl =>
    cases fl with
    | ret w =>
      obtain ⟨z, H', I', rz, ⟨c, rfl⟩, q⟩ := I.after hq
      cases rz
      exact ⟨c, rfl, H', I', q⟩
    | next => exact False.elim hq
    | brk => exact False.elim hq
    | cont => exact False.elim hq
def rEqN (K : PySem.W.Frag) (CN : Addr) (f : Bool → Bool) : R2 := fun x y H Q => ∃ (a : Addr) (n : Nat) (zs : List (Int × Int)), x = .ref a ∧ NetAt K CN H a n zs ∧
  ((∃ (b : Addr) (m : Nat) (ws : List (Int × Int)), y = .ref b ∧ NetAt K CN H b m ws ∧ ∀ H', Same H H' → Q (.bl (f (decide (n = m ∧ zs = ws)))) H') ∨ (∃ (b : Addr) (xs : List L2.V), y = .ref b ∧ SqT K H b xs ∧ ∀ H', Same H H' → Q (.bl (f false)) H'))
/-- what the other one is, as its type is asked -/
theorem other_ty {mg : Str → Option Value} (T : NetE X.K mg CN fE) {pins : List (Addr × Obj)} {σ : L2.St} {H : Hp} {s : Shared} (I : Inv X pins σ H s) {y : L2.V} {u : Value} (ry : RelV y u)
    (h : (∃ (b : Addr) (m : Nat) (ws : List (Int × Int)), y = .ref b ∧ NetAt X.K CN H b m ws) ∨ ∃ (b : Addr) (xs : List L2.V), y = .ref b ∧ SqT X.K H b xs) :
    ∃ tb, PySem.W.Looks (model X.prog X.w) s.heap (typeOf u) tb ∧ PySem.W.notFirst X.K CN tb = true := by
  rcases h with ⟨b, m, ws, rfl, dx, t, us, e, _⟩ | ⟨b, xs, rfl, h⟩
  · cases ry
    obtain ⟨mB, J', _⟩ := ins_get I.hok e
    obtain ⟨od', J', _⟩ := J'.look
    exact ⟨_, J'.type, by simp [PySem.W.notFirst]⟩
  · cases ry
    obtain ⟨its, r, ⟨o, ho, hc, _⟩, z⟩ := I.tuple h
    exact ⟨.type "tuple", fun A Q E s' k q => wpAny_typeOf_ref (k _ _ ho) (by rw [hc]; exact q), T.nf⟩
theorem op_eqN {mg : Str → Option Value} (T : NetE X.K mg CN fE) (F : FnOk X.prog X.w X.K X.mg X.base CX0 1 fE fd ["self", "other"] (spNetEq X.K CN)) (hb : L2.Binds X.K fd ["self", "other"] []) (hr : Room 1 X.A) : OpR X (compareOp .Eq) (rEqN X.K CN id) := by
  intro pins s σ H x y v u Q I rx ry hq
  obtain ⟨a, n, zs, rfl, hA, h⟩ := hq
  cases rx
  obtain ⟨dx, t, us, e, et, p, hzs⟩ := id hA
  obtain ⟨mA, J, _⟩ := ins_get I.hok e
  obtain ⟨od, J, _⟩ := J.look
  obtain ⟨m0, hF⟩ := I.fr
  obtain ⟨tb, L, nf⟩ := other_ty T I ry (h.imp (fun ⟨b, m, ws, e, h, _⟩ => ⟨b, m, ws, e, h⟩) fun ⟨b, xs, e, h, _⟩ => ⟨b, xs, e, h⟩)
  show wpAny (model X.prog X.w) X.A (richCompare .Eq (.ref a) u) (EP X pins σ Q) X.xe s
  refine PySem.W.cmp_K (op := .Eq) (tb := tb) (show X.A.units < cLine by have := hr.un; omega) hF I.ok.mod.kin J L nf T.eq T.fn ?_
  refine wpAny_mono (run_neteq (Q := fun u H' => Q u H') F hb ⟨hr, rfl⟩ I ry ?_) (fun r s' z => ?_) fun _ _ x => x
  · refine ⟨a, n, zs, y, rfl, hA, h.imp (fun ⟨b, m, ws, e, h, k⟩ => ⟨b, m, ws, e, h, fun H' s' => ⟨⟨_, rfl⟩, k H' s'⟩⟩) fun ⟨b, xs, e, h, k⟩ => ⟨b, xs, e, h, fun H' s' => ⟨⟨_, rfl⟩, k H' s'⟩⟩⟩
  · obtain ⟨c, rfl, H', I', q⟩ := z
    exact ⟨.bl c, H', I', rfl, q⟩
theorem op_neN {mg : Str → Option Value} (T : NetE X.K mg CN fE) (F : FnOk X.prog X.w X.K X.mg X.base CX0 1 fE fd ["self", "other"] (spNetEq X.K CN)) (hb : L2.Binds X.K fd ["self", "other"] []) (hr : Room 2 X.A) : OpR X (compareOp .NotEq) (rEqN X.K CN not) := by
  intro pins s σ H x y v u Q I rx ry hq
  obtain ⟨a, n, zs, rfl, hA, h⟩ := hq
  cases rx
  obtain ⟨dx, t, us, e, et, p, hzs⟩ := id hA
  obtain ⟨mA, J, _⟩ := ins_get I.hok e
  obtain ⟨od, J, _⟩ := J.look
  obtain ⟨m0, hF⟩ := I.fr
  obtain ⟨tb, L, nf⟩ := other_ty T I ry (h.imp (fun ⟨b, m, ws, e, h, _⟩ => ⟨b, m, ws, e, h⟩) fun ⟨b, xs, e, h, _⟩ => ⟨b, xs, e, h⟩)
  show wpAny (model X.prog X.w) X.A (richCompare .NotEq (.ref a) u) (EP X pins σ Q) X.xe s
  refine ne_K (tb := tb) (show X.A.units + 1 < cLine by have := hr.un; omega) hF I.ok.mod.kin J L nf T.eq T.fn T.ne T.ob ?_
  refine wpAny_mono (run_neteq (Q := fun u H' => ∃ c, u = .bl c ∧ Q (.bl (!c)) H') F hb ⟨hr.in1, rfl⟩ I ry ?_) (fun r s' z => ?_) fun _ _ x => x
  · refine ⟨a, n, zs, y, rfl, hA, h.imp (fun ⟨b, m, ws, e, h, k⟩ => ⟨b, m, ws, e, h, fun H' s' => ⟨⟨_, rfl⟩, _, rfl, k H' s'⟩⟩) fun ⟨b, xs, e, h, k⟩ => ⟨b, xs, e, h, fun H' s' => ⟨⟨_, rfl⟩, _, rfl, k H' s'⟩⟩⟩
  · obtain ⟨c, rfl, H', I', c', ec, q⟩ := z
    cases ec
    exact ⟨c, rfl, .bl (!c), H', I', rfl, q⟩
end
end K03


set_option Elab.async false
set_option maxRecDepth 100000
set_option maxHeartbeats 4000000
set_option linter.all false
namespace K03
open PySem PySem.Spec PyProof.Rows L2 NetM
abbrev sCheck : Stmt := top 14
abbrev sSinks : Stmt := top 15
abbrev sSources : Stmt := top 16
abbrev sTree : Stmt := top 17
abbrev sTurned : Stmt := top 18
theorem scCheck : FnScope ["net"] ["net"] (defScope sCheck) := ⟨rfl, rfl, rfl, by decide +kernel, rfl, by decide +kernel, by decide +kernel⟩
theorem scSinks : FnScope ["net", "tails", "tail", "head", "place"] ["net"] (defScope sSinks) := ⟨rfl, rfl, rfl, by decide +kernel, rfl, by decide +kernel, by decide +kernel⟩
theorem scSources : FnScope ["net", "heads", "tail", "head", "place"] ["net"] (defScope sSources) := ⟨rfl, rfl, rfl, by decide +kernel, rfl, by decide +kernel, by decide +kernel⟩
theorem scTree : FnScope ["net"] ["net"] (defScope sTree) := ⟨rfl, rfl, rfl, by decide +kernel, rfl, by decide +kernel, by decide +kernel⟩
theorem scTurned : FnScope ["net", "tail", "head"] ["net"] (defScope sTurned) := ⟨rfl, rfl, rfl, by decide +kernel, rfl, by decide +kernel, by decide +kernel⟩
/-- what is no Net -/
def NoNet (K : PySem.W.Frag) (CN : Addr) (H : Hp) (x : L2.V) : Prop := ∃ t, TyX K H x t ∧ PySem.W.kitOne K t (.ref CN) = some false
def spCheck (K : PySem.W.Frag) (CN CB : Addr) : Sp := fun vs H Q E => ∃ x : L2.V, vs = [x] ∧ ((NoNet K CN H x ∧ Rz CB H E .non) ∨ ∃ (a : Addr) (n : Nat) (zs : List (Int × Int)), x = .ref a ∧ NetAt K CN H a n zs ∧ Q .non H)
def ends (f : Int × Int → Int) (n : Nat) (zs : List (Int × Int)) : List Int := (rng n).filter fun k => decide (k ∉ zs.map f)
def spEnds (K : PySem.W.Frag) (CN CB : Addr) (f : Int × Int → Int) : Sp := fun vs H Q E => ∃ x : L2.V, vs = [x] ∧ ((NoNet K CN H x ∧ Rz CB H E .non) ∨ ∃ (a : Addr) (n : Nat) (zs : List (Int × Int)), x = .ref a ∧ NetAt K CN H a n zs ∧ zs.length ≤ 12 ∧ n ≤ 8 ∧
  ∀ (p : Addr) (H' : Hp), Same H H' → H p = none → H' p = some (.lst ((ends f n zs).map V.int)) → Q (.ref p) H')
def spTree (K : PySem.W.Frag) (CN CB : Addr) : Sp := fun vs H Q E => ∃ x : L2.V, vs = [x] ∧ ((NoNet K CN H x ∧ Rz CB H E .non) ∨ ∃ (a : Addr) (n : Nat) (zs : List (Int × Int)), x = .ref a ∧ NetAt K CN H a n zs ∧ Q (.bl (decide (V.int zs.length = V.int (n - 1)))) H)
def swp (l : List (Int × Int)) : List (Int × Int) := l.map fun p => (p.2, p.1)
def GoodN (l : List (Int × Int)) (n : Nat) : Prop := (rounds l n [0]).length = n ∧ (ordr l n n []).length = n
def spTurned (K : PySem.W.Frag) (CN CB : Addr) : Sp := fun vs H Q E => ∃ x : L2.V, vs = [x] ∧ ((NoNet K CN H x ∧ Rz CB H E .non) ∨ ∃ (a : Addr) (n : Nat) (zs : List (Int × Int)), x = .ref a ∧ NetAt K CN H a n zs ∧ 0 < n ∧ n ≤ 8 ∧ zs.length ≤ 12 ∧ (∀ t h, (t, h) ∈ zs → InR n t ∧ InR n h ∧ t ≠ h) ∧ GoodN (swp zs) n ∧
  ∀ (y : Addr) (H' : Hp), NetAt K CN H' y n (swp zs) → Same H H' → Q (.ref y) H')
section
variable {P : Program} {w : World} {K : PySem.W.Frag} {mg : Str → Option Value} {base : Heap}
theorem ok_check {f CN CB fB fE : Addr} {fd fdB : FuncData} (F : Fun K "check_net" "check_net" sCheck f fd) (BM : BadM P w K mg base CB fB fdB) (T : NetE K mg CN fE) (mIs : mg "isinstance" = none) : FnOk P w K mg base (L2.CX P w) 4 f fd ["net"] (spCheck K CN CB) := by
  refine F.okX scCheck (fun vs H Q E h => ?_) (fun cdv A outer s H vs Q E hr h => ?_)
  · obtain ⟨x, rfl, _⟩ := h
    rfl
  · obtain ⟨x, rfl, h⟩ := h
    refine ⟨_, pss_one (ps_if (pt_not (pt_val (pe_callB call_isi (by rfl) mIs (by decide +kernel) (pa_cons (pv 0) (pa_cons (pe_glob (v := .ref CN) (by rfl) T.t.g rfl) pa_nil)))))
      (pss_one (ps_raise rfl (takes_of rfl rfl rfl rfl) (pmk_oex BM.oex BM.ini BM.tyI BM.ok hr BM.bd .nil pass0 (by rfl) BM.g (pa_cons pe_non pa_nil)))) pss_nil), ?_⟩
    rcases h with ⟨⟨t, ht, hk⟩, hR⟩ | ⟨a, n, zs, rfl, hA, k⟩
    · refine ⟨_, rfl, _, _, _, _, false, rfl, .own CN, ht, hk, _, rfl, ?_⟩
      refine iteT ?_
      exact mko_of (fun Q q => q) hR
    · refine ⟨_, rfl, _, _, _, _, true, rfl, .own CN, T.ty hA, T.one, _, rfl, ?_⟩
      refine iteF ?_
      exact k
/-- the small def check_net, as it is called -/
structure ChkF (P : Program) (w : World) (K : PySem.W.Frag) (mg : Str → Option Value) (base : Heap) (CN CB : Addr) where
  f : Addr
  fd : FuncData
  ok : FnOk P w K mg base (L2.CX P w) 4 f fd ["net"] (spCheck K CN CB)
  b : L2.Binds K fd ["net"] []
  g : mg "check_net" = some (.ref f)
  kp : PySem.W.keepIn K (.ref f) = true
theorem ok_tree {f CN CB fE : Addr} {fd : FuncData} (F : Fun K "is_tree" "is_tree" sTree f fd) (C : ChkF P w K mg base CN CB) (T : NetE K mg CN fE) (mLen : mg "len" = none) : FnOk P w K mg base (L2.CX P w) 5 f fd ["net"] (spTree K CN CB) := by
  refine F.okX scTree (fun vs H Q E h => ?_) (fun cdv A outer s H vs Q E hr h => ?_)
  · obtain ⟨x, rfl, _⟩ := h
    rfl
  · obtain ⟨x, rfl, h⟩ := h
    refine ⟨_, pss_cons (ps_expr (pe_call C.ok hr (by rfl) C.g C.kp C.b .nil (passes_call (takes_of rfl rfl rfl rfl) fun _ _ _ _ h => h) (pa_cons (pv 0) pa_nil)))
      (pss_one (ps_ret (pe_cmpR op_eq (pe_callB call_len_seq (by rfl) mLen PySem.boot_len (pa_cons (pe_fld (pv 0) rfl) pa_nil)) (pe_op op_sub (pe_fld (pv 0) rfl) pe_int) (nomark _)))), ?_⟩
    rcases h with ⟨hN, hR⟩ | ⟨a, n, zs, rfl, hA, k⟩
    · exact ⟨_, rfl, _, rfl, .inl ⟨hN, hR⟩⟩
    · refine ⟨_, rfl, _, rfl, .inr ⟨a, n, zs, rfl, hA, ?_⟩⟩
      obtain ⟨dx, t, us, e, et, p, rfl⟩ := hA
      refine ⟨_, rfl, a, CN, dx, _, _, rfl, e, T.t.cl, T.t.nA, rfl, t, _, rfl, .inr (SqT.of et), _, rfl, a, CN, dx, _, _, rfl, e, T.t.cl, T.t.nP, rfl, _, _, rfl, rfl, rfl, ?_⟩
      have e1 : (rf us).length = (nums us).length := by unfold rf nums; rw [List.length_map, List.length_map]
      rw [e1]
      exact k
theorem ok_sinks {f CN CB fE : Addr} {fd : FuncData} (F : Fun K "sinks" "sinks" sSinks f fd) (C : ChkF P w K mg base CN CB) (T : NetE K mg CN fE) (mRa : mg "range" = none) : FnOk P w K mg base (L2.CX P w) 5 f fd ["net"] (spEnds K CN CB Prod.fst) := by
  refine F.okX scSinks (fun vs H Q E h => ?_) (fun cdv A outer s H vs Q E hr h => ?_)
  · obtain ⟨x, rfl, _⟩ := h
    rfl
  · obtain ⟨x, rfl, h⟩ := h
    have nd := scSinks.nd
    refine ⟨_, pss_cons (ps_expr (pe_call C.ok hr (by rfl) C.g C.kp C.b .nil (passes_call (takes_of rfl rfl rfl rfl) fun _ _ _ _ h => h) (pa_cons (pv 0) pa_nil)))
      (pss_cons (ps_set (i := 1) nd rfl (Or.inr rfl) (pe_lc (own := [("tail", 2), ("head", 3)]) (g := gTup K 2 (gCons (gName 2) (gCons (gName 3) gNil))) (by rfl) nd (pi_tup (pe_fld (pv 0) rfl)) (blkOk_by (N := ["net", "tails", "tail", "head", "place"]) (sc := defScope sSinks) (by decide +kernel))
          (fun _ _ _ _ _ => pg_tup (by rfl) (pgs_cons (pg_name (i := 2) nd rfl (Or.inl rfl)) (pgs_cons (pg_name (i := 3) nd rfl (Or.inl rfl)) pgs_nil))) (fun _ _ _ _ _ => pts_nil) (fun _ _ _ _ _ => pv 2)))
      (pss_one (ps_ret (pe_lc (own := [("place", 4)]) (g := gName 4) (by rfl) nd (pi_range1 (by rfl) mRa (pa_cons (pe_fld (pv 0) rfl) pa_nil)) (blkOk_by (N := ["net", "tails", "tail", "head", "place"]) (sc := defScope sSinks) (by decide +kernel)) (fun _ _ _ _ _ => pg_name (i := 4) nd rfl (Or.inl rfl))
          (fun _ _ _ _ _ => pts_one (pt_cmpR (show OpR _ _ (rIn K true) from op_notIn_seq) (pv 4) (pv 1) rfl)) (fun _ _ _ _ _ => pv 4))))), ?_⟩
    rcases h with ⟨hN, hR⟩ | ⟨a, n, zs, rfl, hA, hl, n8, k⟩
    · exact ⟨_, rfl, _, rfl, .inl ⟨hN, hR⟩⟩
    · refine ⟨_, rfl, _, rfl, .inr ⟨a, n, zs, rfl, hA, ?_⟩⟩
      obtain ⟨dx, t, us, e, et, p, rfl⟩ := hA
      have hul : us.length ≤ 12 := by unfold nums at hl; rw [List.length_map] at hl; exact hl
      refine ⟨_, rfl, a, CN, dx, _, _, rfl, e, T.t.cl, T.t.nA, rfl, t, rfl, ⟨_, SqT.of et⟩, fun D nD => ?_⟩
      refine lc_tup (K := K) (a := t) (xs := rf us) (fun j Hd => Hd D = some (.lst ((((nums us).take j).map Prod.fst).map V.int)) ∧ Same H Hd) ⟨upd_same, same_upd nD⟩ (fun j Hd _ hh => sqt_same hh.2 (SqT.of et)) ?_ ?_
      · rintro j y Hd hj ⟨eD, sd⟩
        obtain ⟨⟨z, z1, z2⟩, hz, rfl⟩ := rf_inv hj
        have hil : j < us.length := (List.getElem?_eq_some_iff.mp hz).1
        have htk : (nums us).take (j + 1) = (nums us).take j ++ [(z1, z2)] := by
          rw [List.take_add_one, nums_get hz]; rfl
        refine ⟨z, [.int z1, .int z2], rfl, sqt_same sd (p _ (List.mem_of_getElem? hz)), rfl, .int z1, [.int z2], rfl, .int z2, [], rfl, rfl, rfl, ?_⟩
        dsimp only [tYes]
        refine iteT ?_
        refine ⟨_, rfl, _, eD, small_2000 (by rw [List.length_map, List.length_map, List.length_take]; omega), by rw [upd_same, htk, List.map_append, List.map_append]; rfl, same_put sd nD⟩
      · rintro Hd ⟨eD, sd⟩
        have hln : (rf us).length = (nums us).length := by unfold rf nums; rw [List.length_map, List.length_map]
        rw [hln, List.take_length] at eD
        refine ⟨_, rfl, a, CN, dx, _, _, rfl, sd _ _ e, T.t.cl, T.t.nP, rfl, (n : Int), rfl, by omega, by omega, fun rd nrd => ?_⟩
        rw [Int.toNat_natCast]
        refine lc_range (lo := 0) (n := n) (fun i Hc => Hc rd = some (.lst (((rng i).filter fun k => decide (k ∉ (nums us).map Prod.fst)).map V.int)) ∧ Same Hd Hc) ⟨upd_same, same_upd nrd⟩ ?_ ?_
        · rintro i Hc hi ⟨ec, sc⟩
          have ei : (0 + (i : Int)) = (i : Int) := by omega
          rw [ei]
          refine ⟨rfl, ?_⟩
          refine ⟨_, rfl, _, rfl, D, _, rfl, .inl (SqL.of (sc _ _ eD)), rfl, flat_ints _, _, rfl, ?_⟩
          rw [inV_ints]
          by_cases c : (i : Int) ∈ (nums us).map Prod.fst
          · rw [decide_eq_true c]
            refine iteF ?_
            refine ⟨?_, sc⟩
            rw [rng_succ, List.filter_append, List.filter_cons_of_neg (by rw [decide_eq_false (fun z => z c)]; exact Bool.false_ne_true), List.filter_nil, List.append_nil]
            exact ec
          · rw [decide_eq_false c]
            refine iteT ?_
            refine ⟨_, rfl, _, ec, small_2000 (by rw [List.length_map]; exact Nat.le_trans (List.length_filter_le _ _) (by unfold rng; rw [List.length_map, List.length_range]; omega)), ?_, same_put sc nrd⟩
            rw [upd_same, rng_succ, List.filter_append, List.filter_cons_of_pos (by rw [decide_eq_true c]), List.filter_nil, List.map_append]
            rfl
        · rintro Hc ⟨ec, sc⟩
          exact k rd Hc (sd.trans sc) (by
            cases q : H rd with
            | none => rfl
            | some o => rw [sd _ _ q] at nrd; cases nrd) ec
theorem ok_sources {f CN CB fE : Addr} {fd : FuncData} (F : Fun K "sources" "sources" sSources f fd) (C : ChkF P w K mg base CN CB) (T : NetE K mg CN fE) (mRa : mg "range" = none) : FnOk P w K mg base (L2.CX P w) 5 f fd ["net"] (spEnds K CN CB Prod.snd) := by
  refine F.okX scSources (fun vs H Q E h => ?_) (fun cdv A outer s H vs Q E hr h => ?_)
  · obtain ⟨x, rfl, _⟩ := h
    rfl
  · obtain ⟨x, rfl, h⟩ := h
    have nd := scSources.nd
    refine ⟨_, pss_cons (ps_expr (pe_call C.ok hr (by rfl) C.g C.kp C.b .nil (passes_call (takes_of rfl rfl rfl rfl) fun _ _ _ _ h => h) (pa_cons (pv 0) pa_nil)))
      (pss_cons (ps_set (i := 1) nd rfl (Or.inr rfl) (pe_lc (own := [("tail", 2), ("head", 3)]) (g := gTup K 2 (gCons (gName 2) (gCons (gName 3) gNil))) (by rfl) nd (pi_tup (pe_fld (pv 0) rfl)) (blkOk_by (N := ["net", "heads", "tail", "head", "place"]) (sc := defScope sSources) (by decide +kernel))
          (fun _ _ _ _ _ => pg_tup (by rfl) (pgs_cons (pg_name (i := 2) nd rfl (Or.inl rfl)) (pgs_cons (pg_name (i := 3) nd rfl (Or.inl rfl)) pgs_nil))) (fun _ _ _ _ _ => pts_nil) (fun _ _ _ _ _ => pv 3)))
      (pss_one (ps_ret (pe_lc (own := [("place", 4)]) (g := gName 4) (by rfl) nd (pi_range1 (by rfl) mRa (pa_cons (pe_fld (pv 0) rfl) pa_nil)) (blkOk_by (N := ["net", "heads", "tail", "head", "place"]) (sc := defScope sSources) (by decide +kernel)) (fun _ _ _ _ _ => pg_name (i := 4) nd rfl (Or.inl rfl))
          (fun _ _ _ _ _ => pts_one (pt_cmpR (show OpR _ _ (rIn K true) from op_notIn_seq) (pv 4) (pv 1) rfl)) (fun _ _ _ _ _ => pv 4))))), ?_⟩
    rcases h with ⟨hN, hR⟩ | ⟨a, n, zs, rfl, hA, hl, n8, k⟩
    · exact ⟨_, rfl, _, rfl, .inl ⟨hN, hR⟩⟩
    · refine ⟨_, rfl, _, rfl, .inr ⟨a, n, zs, rfl, hA, ?_⟩⟩
      obtain ⟨dx, t, us, e, et, p, rfl⟩ := hA
      have hul : us.length ≤ 12 := by unfold nums at hl; rw [List.length_map] at hl; exact hl
      refine ⟨_, rfl, a, CN, dx, _, _, rfl, e, T.t.cl, T.t.nA, rfl, t, rfl, ⟨_, SqT.of et⟩, fun D nD => ?_⟩
      refine lc_tup (K := K) (a := t) (xs := rf us) (fun j Hd => Hd D = some (.lst ((((nums us).take j).map Prod.snd).map V.int)) ∧ Same H Hd) ⟨upd_same, same_upd nD⟩ (fun j Hd _ hh => sqt_same hh.2 (SqT.of et)) ?_ ?_
      · rintro j y Hd hj ⟨eD, sd⟩
        obtain ⟨⟨z, z1, z2⟩, hz, rfl⟩ := rf_inv hj
        have hil : j < us.length := (List.getElem?_eq_some_iff.mp hz).1
        have htk : (nums us).take (j + 1) = (nums us).take j ++ [(z1, z2)] := by
          rw [List.take_add_one, nums_get hz]; rfl
        refine ⟨z, [.int z1, .int z2], rfl, sqt_same sd (p _ (List.mem_of_getElem? hz)), rfl, .int z1, [.int z2], rfl, .int z2, [], rfl, rfl, rfl, ?_⟩
        dsimp only [tYes]
        refine iteT ?_
        refine ⟨_, rfl, _, eD, small_2000 (by rw [List.length_map, List.length_map, List.length_take]; omega), by rw [upd_same, htk, List.map_append, List.map_append]; rfl, same_put sd nD⟩
      · rintro Hd ⟨eD, sd⟩
        have hln : (rf us).length = (nums us).length := by unfold rf nums; rw [List.length_map, List.length_map]
        rw [hln, List.take_length] at eD
        refine ⟨_, rfl, a, CN, dx, _, _, rfl, sd _ _ e, T.t.cl, T.t.nP, rfl, (n : Int), rfl, by omega, by omega, fun rd nrd => ?_⟩
        rw [Int.toNat_natCast]
        refine lc_range (lo := 0) (n := n) (fun i Hc => Hc rd = some (.lst (((rng i).filter fun k => decide (k ∉ (nums us).map Prod.snd)).map V.int)) ∧ Same Hd Hc) ⟨upd_same, same_upd nrd⟩ ?_ ?_
        · rintro i Hc hi ⟨ec, sc⟩
          have ei : (0 + (i : Int)) = (i : Int) := by omega
          rw [ei]
          refine ⟨rfl, ?_⟩
          refine ⟨_, rfl, _, rfl, D, _, rfl, .inl (SqL.of (sc _ _ eD)), rfl, flat_ints _, _, rfl, ?_⟩
          rw [inV_ints]
          by_cases c : (i : Int) ∈ (nums us).map Prod.snd
          · rw [decide_eq_true c]
            refine iteF ?_
            refine ⟨?_, sc⟩
            rw [rng_succ, List.filter_append, List.filter_cons_of_neg (by rw [decide_eq_false (fun z => z c)]; exact Bool.false_ne_true), List.filter_nil, List.append_nil]
            exact ec
          · rw [decide_eq_false c]
            refine iteT ?_
            refine ⟨_, rfl, _, ec, small_2000 (by rw [List.length_map]; exact Nat.le_trans (List.length_filter_le _ _) (by unfold rng; rw [List.length_map, List.length_range]; omega)), ?_, same_put sc nrd⟩
            rw [upd_same, rng_succ, List.filter_append, List.filter_cons_of_pos (by rw [decide_eq_true c]), List.filter_nil, List.map_append]
            rfl
        · rintro Hc ⟨ec, sc⟩
          exact k rd Hc (sd.trans sc) (by
            cases q : H rd with
            | none => rfl
            | some o => rw [sd _ _ q] at nrd; cases nrd) ec
end
end K03


set_option Elab.async false
set_option maxRecDepth 100000
set_option maxHeartbeats 4000000
set_option linter.all false
namespace K03
open PySem PySem.Spec PyProof.Rows L2 NetM
theorem BadPl.same {K : PySem.W.Frag} {H H' : Hp} (s : Same H H') {x : L2.V} (h : BadPl K H x) : BadPl K H' x := by
  obtain ⟨t, b, c, a1, a2, a3, a4⟩ := h
  exact ⟨t, b, c, TyX.same s a1, a2, a3, a4⟩
theorem ArL.same {K : PySem.W.Frag} {H H' : Hp} (s : Same H H') {n : Int} : ∀ {xs : List L2.V} {bs : List Bool}, ArL K H n xs bs → ArL K H' n xs bs
  | _, _, .nil => .nil
  | _, _, .cons h r => .cons (h.same s) (r.same s)
theorem ArV.same {K : PySem.W.Frag} {H H' : Hp} (s : Same H H') {n : Nat} {x : L2.V} {o : Option Zs} (h : ArV K H n x o) : ArV K H' n x o := by
  cases h with
  | no h z => exact .no (TyX.same s h) z
  | bad h ha hl z => exact .bad (h.same s) (ha.same s) hl z
  | ok h hp hl hE => exact .ok (h.same s) (hp.same s) hl hE
/-- what is asked where a Net is made -/
def MakeN (K : PySem.W.Frag) (CN CB : Addr) (pl ar : L2.V) (H : Hp) (Q : VK) (E : XK) : Prop :=
  (BadPl K H pl ∧ Rz CB H E (.str "places")) ∨ ∃ (n : Nat) (o : Option Zs), pl = .int n ∧ 0 < n ∧ n ≤ 8 ∧ ArV K H n ar o ∧ ((∀ zs, o = some zs → ¬ Good zs n) → Rz CB H E (.str "arrows")) ∧
    (∀ zs, o = some zs → Good zs n → ∀ (x : Addr) (H' : Hp), H x = none → NetAt K CN H' x n (nums zs) → Same H H' → Q (.ref x) H')
theorem MakeN.sp {K : PySem.W.Frag} {CN CB : Addr} {pl ar : L2.V} {H : Hp} {Q : VK} {E : XK} (h : MakeN K CN CB pl ar H Q E) (x dx : Addr) (nx : H x = none) (ndx : H dx = none) (ne : dx ≠ x) :
    spNetInit K CN CB [.ref x, pl, ar] (upd (upd H dx (.own x)) x (.ins CN dx [])) (fun v H2 => v = .non ∧ Q (.ref x) H2) E := by
  have s : Same H (upd (upd H dx (.own x)) x (.ins CN dx [])) := fun b o e => by
    rw [upd_ne (ne_of_none e nx), upd_ne (ne_of_none e ndx)]
    exact e
  refine ⟨x, dx, pl, ar, rfl, upd_same, ?_⟩
  rcases h with ⟨h, hR⟩ | ⟨n, o, rfl, n0, n8, hA, hR, k⟩
  · exact .inl ⟨h.same s, hR.same s⟩
  · refine .inr ⟨n, o, rfl, n0, n8, hA.same s, fun z => (hR z).same s, fun zs e g H' hN k' => ⟨rfl, k zs e g x H' nx hN fun b u eb => k' b u (s b u eb) (ne_of_none eb nx)⟩⟩
/-- Net's making, as it is called -/
structure MkN (P : Program) (w : World) (K : PySem.W.Frag) (mg : Str → Option Value) (base : Heap) (CN CB : Addr) where
  f : Addr
  fd : FuncData
  m : L2.Mk K CN f
  ok : FnOk P w K mg base (L2.CX P w) 4 f fd ["self", "places", "arrows"] (spNetInit K CN CB)
  b : L2.Binds K fd ["self", "places", "arrows"] []
section
variable {P : Program} {w : World} {K : PySem.W.Frag} {mg : Str → Option Value} {base : Heap}
theorem ok_turned {f CN CB fE : Addr} {fd : FuncData} (F : Fun K "turned_net" "turned_net" sTurned f fd) (C : ChkF P w K mg base CN CB) (T : NetE K mg CN fE) (M : MkN P w K mg base CN CB) : FnOk P w K mg base (L2.CX P w) 6 f fd ["net"] (spTurned K CN CB) := by
  refine F.okX scTurned (fun vs H Q E h => ?_) (fun cdv A outer s H vs Q E hr h => ?_)
  · obtain ⟨x, rfl, _⟩ := h
    rfl
  · obtain ⟨x, rfl, h⟩ := h
    have nd := scTurned.nd
    have r4 : Room 4 _ := hr.mono (by decide)
    refine ⟨_, pss_cons (ps_expr (pe_call C.ok r4 (by rfl) C.g C.kp C.b .nil (passes_call (takes_of rfl rfl rfl rfl) fun _ _ _ _ h => h) (pa_cons (pv 0) pa_nil)))
      (pss_one (ps_ret (pe_make M.m M.ok hr (by rfl) T.t.g M.b .nil (passes_call (takes_of rfl rfl rfl rfl) fun _ _ _ _ h => h) (pa_cons (pe_fld (pv 0) rfl) (pa_cons
        (pe_lc (own := [("tail", 1), ("head", 2)]) (g := gTup K 2 (gCons (gName 1) (gCons (gName 2) gNil))) (by rfl) nd (pi_tup (pe_fld (pv 0) rfl)) (blkOk_by (N := ["net", "tail", "head"]) (sc := defScope sTurned) (by decide +kernel))
          (fun _ _ _ _ _ => pg_tup (by rfl) (pgs_cons (pg_name (i := 1) nd rfl (Or.inl rfl)) (pgs_cons (pg_name (i := 2) nd rfl (Or.inl rfl)) pgs_nil))) (fun _ _ _ _ _ => pts_nil) (fun _ _ _ _ _ => pe_tup (pa_cons (pv 2) (pa_cons (pv 1) pa_nil)))) pa_nil))))), ?_⟩
    rcases h with ⟨hN, hR⟩ | ⟨a, n, zs, rfl, hA, n0, n8, hl, hE, hG, k⟩
    · exact ⟨_, rfl, _, rfl, .inl ⟨hN, hR⟩⟩
    · refine ⟨_, rfl, _, rfl, .inr ⟨a, n, zs, rfl, hA, ?_⟩⟩
      obtain ⟨dx, t, us, e, et, p, rfl⟩ := hA
      have hul : us.length ≤ 12 := by unfold nums at hl; rw [List.length_map] at hl; exact hl
      refine ⟨_, rfl, a, CN, dx, _, _, rfl, e, T.t.cl, T.t.nP, rfl, _, rfl, a, CN, dx, _, _, rfl, e, T.t.cl, T.t.nA, rfl, t, rfl, ⟨_, SqT.of et⟩, fun D nD => ?_⟩
      refine lc_tup (K := K) (a := t) (xs := rf us) (fun j Hd => ∃ ws : Zs, nums ws = swp ((nums us).take j) ∧ PL Hd ws ∧ Hd D = some (.lst (rf ws)) ∧ Same H Hd) ⟨[], rfl, fun z m => by simp at m, upd_same, same_upd nD⟩ (fun j Hd _ hh => by obtain ⟨_, _, _, _, s⟩ := hh; exact sqt_same s (SqT.of et)) ?_ ?_
      · rintro j y Hd hj ⟨ws, hw, pw, eD, sd⟩
        obtain ⟨⟨z, z1, z2⟩, hz, rfl⟩ := rf_inv hj
        have hil : j < us.length := (List.getElem?_eq_some_iff.mp hz).1
        have htk : (nums us).take (j + 1) = (nums us).take j ++ [(z1, z2)] := by
          rw [List.take_add_one, nums_get hz]; rfl
        have hwl : ws.length ≤ j := by
          have := congrArg List.length hw
          unfold nums swp at this
          rw [List.length_map, List.length_map, List.length_take, List.length_map] at this
          omega
        refine ⟨z, [.int z1, .int z2], rfl, sqt_same sd (p _ (List.mem_of_getElem? hz)), rfl, .int z1, [.int z2], rfl, .int z2, [], rfl, rfl, rfl, ?_⟩
        dsimp only [tYes]
        refine iteT ?_
        refine ⟨_, rfl, _, rfl, by show 2 ≤ sizeLine; decide, fun q nq => ⟨_, same_upd nq _ _ eD, small_2000 (by rw [rf_len]; omega), ?_⟩⟩
        refine ⟨ws ++ [(q, z2, z1)], ?_, ((pw.same (same_upd nq)).app upd_same).put (same_upd nq _ _ eD), by rw [upd_same, rf_app], same_put (sd.trans (same_upd nq)) nD⟩
        rw [htk]
        unfold swp at hw ⊢
        rw [List.map_append, ← hw]
        unfold nums
        rw [List.map_append]
        rfl
      · rintro Hd ⟨ws, hw, pw, eD, sd⟩
        have hln : (rf us).length = (nums us).length := by unfold rf nums; rw [List.length_map, List.length_map]
        rw [hln, List.take_length] at hw
        refine fun y dy ny ndy ne => MakeN.sp (K := K) (CN := CN) (CB := CB) (.inr ⟨n, some ws, rfl, n0, n8, .ok (.inl (SqL.of eD)) pw.prt.pra ?_ ?_, fun z => absurd (show Good ws n from ?_) (z ws rfl), fun zs' e' g x H' nx hN s' => ?_⟩) y dy ny ndy ne
        · have := congrArg List.length hw
          unfold nums swp at this
          rw [List.length_map, List.length_map, List.length_map] at this
          omega
        · intro t h m
          rw [hw] at m
          unfold swp at m
          obtain ⟨⟨q1, q2⟩, hm, eq⟩ := List.mem_map.mp m
          cases eq
          obtain ⟨h1, h2, h3⟩ := hE _ _ hm
          exact ⟨h2, h1, fun z => h3 z.symm⟩
        · show (rounds (nums ws) n [0]).length = n ∧ (ordr (nums ws) n n []).length = n
          rw [hw]
          exact hG
        · cases e'
          rw [hw] at hN
          exact k x H' hN (sd.trans s')
end
end K03


set_option Elab.async false
set_option maxRecDepth 100000
set_option maxHeartbeats 4000000
set_option linter.all false
namespace K03
open PySem PySem.Spec PyProof.Rows L2 NetM
section
open HT
variable {prog : Program} {w : World} {A : Around} {E : Value → Shared → Prop} {s : Shared}
/-- t[::-1] of a pair: how many places -/
theorem sliceApplied_rev {sl : Addr} {vl vu vs : Value} {Q : Int × Int × Nat → Shared → Prop} (hs : s.heap.IsSliceOf sl vl vu vs) (pl : IsPart vl none) (pu : IsPart vu none) (ps : IsPart vs (some (-1)))
    (h : Q (1, -1, 2) s) : wpAny (model prog w) A (Builtin.Slice.sliceApplied (.ref sl) (pure (2 : Int))) Q E s := by
  obtain ⟨os, hos, hcs, hds⟩ := id hs
  unfold Builtin.Slice.sliceApplied Builtin.Slice.sliceFields
  refine wpAny_bind (wpAny_bind (wpAny_field hos hds (x := vl) rfl (wpAny_bind (wpAny_field hos hds (x := vu) rfl (wpAny_bind (wpAny_field hos hds (x := vs) rfl (wpAny_pure ?_)))))))
  refine wpAny_bind (slicePart_ ps ?_)
  show wpAny _ _ (if ((-1 : Int) == 0) = true then _ else _) _ _ s
  rw [if_neg (by decide)]
  refine wpAny_bind (slicePart_ pl (wpAny_bind (slicePart_ pu (wpAny_bind (wpAny_pure ?_)))))
  show wpAny _ _ (match Builtin.Slice.sliceAdjust none none (-1) (2 : Int) with | (lo, hi) => pure (lo, (-1 : Int), Builtin.Slice.slicePlaces lo hi (-1))) _ _ s
  rw [show Builtin.Slice.sliceAdjust none none (-1) (2 : Int) = (1, -1) by decide]
  show wpAny _ _ (pure ((1 : Int), (-1 : Int), Builtin.Slice.slicePlaces 1 (-1) (-1))) _ _ s
  rw [show Builtin.Slice.slicePlaces 1 (-1) (-1) = 2 by decide]
  exact wpAny_pure h
theorem getItem_pair_rev {t sl : Addr} {u v : Value} {vl vu vs : Value} {Q : Value → Shared → Prop} (ht : IsTup s.heap t #[u, v]) (hs : s.heap.IsSliceOf sl vl vu vs) (pl : IsPart vl none) (pu : IsPart vu none) (ps : IsPart vs (some (-1)))
    (h : Q (.ref s.heap.objs.size) { s with heap := s.heap.push { cls := .type "tuple", data := .seq #[v, u] } }) : wpAny (model prog w) A (getItem (.ref t) (.ref sl)) Q E s := by
  have htake : sizeOk (.seq #[v, u]) := by
    show 2 ≤ sizeLine
    decide
  obtain ⟨os, hos, hcs, hds⟩ := id hs
  have hTs : s.TypeIs (.ref sl) "slice" := ⟨os, hos, hcs⟩
  unfold getItem
  try with_reducible refine wpAny_holding ?_
  first | refine wpAny_bind (wpAny_pure ?_) | skip
  refine wpAny_bind (wpAny_sequenceKey ht.typeIs (by decide) ?_)
  refine wpAny_bind (wpAny_callSpecial?_slot (name := Str.ofString "__getitem__") ht.typeIs PyProof.Rows.slot_tuple_getitem
    (wpAny_call_entry PyProof.Rows.slot_tuple_getitem ht.typeIs entry_tuple_getitem ?_ (args_tuple_getitem _ _)))
  show wpAny _ _ (Builtin.Tuple.tupleItemsOf (.ref t) >>= _) _ _ s
  refine wpAny_bind (tupleItemsOf_ ht ?_)
  refine wpAny_bind (wpAny_typeOf hTs ?_)
  rw [if_pos (by decide)]
  refine wpAny_bind (sliceApplied_rev hs pl pu ps ?_)
  show wpAny _ _ (if ((1 : Int) == 0 && (-1 : Int) == 1 && 2 == (#[u, v] : Array Value).size) = true then _ else _) _ _ s
  rw [if_neg (by show ¬ ((false && (-1 : Int) == 1 && 2 == (#[u, v] : Array Value).size) = true); simp)]
  have e : ((List.range 2).filterMap fun (k : Nat) => (#[u, v] : Array Value)[((1 : Int) + (k : Int) * (-1)).toNat]?).toArray = #[v, u] := rfl
  rw [e]
  first
    | exact wpAny_bind (m := Builtin.Tuple.tupleExact _) (wpAny_newObj_type (wpAny_pure ⟨_, rfl, wpAny_pure h⟩) htake)
    | exact wpAny_bind (m := Builtin.Tuple.tupleExact _) (wpAny_newObj_type (wpAny_bind (wpAny_pure (wpAny_pure ⟨_, rfl, wpAny_pure h⟩))) htake)
    | exact wpAny_bind (wpAny_bind (m := Builtin.Tuple.tupleExact _) (wpAny_newObj_type (wpAny_pure (wpAny_pure ⟨_, rfl, wpAny_pure h⟩)) htake))
    | exact wpAny_bind (wpAny_bind (m := Builtin.Tuple.tupleExact _) (wpAny_newObj_type (wpAny_pure ⟨_, rfl, wpAny_pure h⟩) htake))
end
/-! t[::-1], t a pair -/
def tRevP (K : PySem.W.Frag) (te : TE) : TE := fun σ H Q => te σ H fun x H1 => ∃ (a : Addr) (y z : L2.V), x = .ref a ∧ SqT K H1 a [y, z] ∧ ∀ p, H1 p = none → Q (.ref p) (upd H1 p (.tup [z, y]))
theorem pe_revP {X : Cx} {e : Expr} {te : TE} {k : Nat} {p1 p2 p3 pos : Pos} (he : PE X e te) : PE X (.Subscript e (.Slice none none (some (.UnaryOp .USub (.Constant (.int 1) k p1) p2)) p3) pos) (tRevP X.K te) := by
  refine ⟨fun pins s σ H Q I h => ?_⟩
  refine Subscript_ (thn (he.run pins s σ H _ I h) fun v s1 ⟨x, H1, I1, r1, q1⟩ => ?_)
  obtain ⟨a, y, z, ex, hx, q⟩ := q1
  subst ex
  cases r1
  have hst : PO X (some (.UnaryOp .USub (.Constant (.int 1) k p1) p2)) (tPart (tUn (rU fun i => .int (-i)) (tC (.int 1)))) := po_some (pe_un un_neg pe_int)
  refine wpAny_Slice (thn (po_none.run pins s1 σ H1 (fun o H2 => o = none ∧ H2 = H1) I1 ⟨rfl, rfl⟩) fun vl s2 ⟨l, H2, I2, pl, el, e2⟩ => ?_)
  subst el e2
  refine thn (po_none.run pins s2 σ H2 (fun o H3 => o = none ∧ H3 = H2) I2 ⟨rfl, rfl⟩) fun vu s3 ⟨u, H3, I3, pu, eu, e3⟩ => ?_
  subst eu e3
  refine thn (hst.run pins s3 σ H3 (fun o H4 => o = some (-1) ∧ H4 = H3) I3 ⟨1, rfl, -1, rfl, rfl, rfl⟩) fun vs s4 ⟨o, H4, I4, ps, eo, e4⟩ => ?_
  subst eo e4
  have I5 : Inv X pins σ H4 { s4 with heap := s4.heap.push { cls := .type "slice", data := .fields #[vl, vu, vs] } } := I4.kept (t' := s4.toks) fun b ob q => Heap.get?_push_of_some _ q
  obtain ⟨its, r, ht, hz⟩ := I5.tuple hx
  cases r with
  | @cons _ u0 _ _ r0 rr =>
    cases rr with
    | @cons _ u1 _ _ r1 rr =>
      cases rr
      show wpAny (model X.prog X.w) X.A (subscriptTail e (.Slice none none (some (.UnaryOp .USub (.Constant (.int 1) k p1) p2)) p3) (.ref a) (.ref s4.heap.objs.size)) (EP X pins σ Q) X.xe { s4 with heap := s4.heap.push { cls := .type "slice", data := .fields #[vl, vu, vs] } }
      refine tail_any (ops := [.ref a, .ref s4.heap.objs.size]) ht.typeIs (PyProof.Rows.slot_tuple_getitem.lookup) ?_ (by with_unfolding_all rfl)
      refine getItem_pair_rev (u := u0) (v := u1) ht (Heap.IsSliceOf.new _ vl vu vs) pl pu ps ?_
      refine ⟨.ref _, _, I5.laid (t' := s4.toks) (o := .tup [z, y]) (fun b ob q => Heap.get?_push_of_some _ q) (Nat.le_refl _) ?_, rfl, q _ (I5.hok.fresh (Nat.le_refl _))⟩
      exact ⟨by show 2 ≤ sizeLine; decide, [u1, u0], .cons r1 (.cons r0 .nil), IsTup.new _ _⟩
end K03


set_option Elab.async false
set_option maxRecDepth 100000
set_option maxHeartbeats 4000000
set_option linter.all false
namespace K03
open PySem PySem.Spec PyProof.Rows L2 NetM
abbrev sBent : Stmt := top 30
theorem scBent : FnScope ["draw", "many_here", "pairs_here", "found", "way", "spot", "tail", "head"] ["draw", "many_here", "pairs_here"] (defScope sBent) := ⟨rfl, rfl, rfl, by decide +kernel, rfl, by decide +kernel, by decide +kernel⟩
def VV (n : Nat) (l : List (Int × Int)) : Prop := ∀ t h, (t, h) ∈ l → InR n t ∧ InR n h ∧ t ≠ h
def spBent (K : PySem.W.Frag) : Sp := fun vs H Q _ => ∃ (d lg cl a : Addr) (n : Nat) (zs : Zs), vs = [.ref d, .int n, .ref a] ∧ DrawAt H d lg cl ∧ SqL K H a (rf zs) ∧ PL H zs ∧ zs.length ≤ 100 ∧ 0 < n ∧ n ≤ 8 ∧ VV n (nums zs) ∧
  ∀ (ws : Zs) (p : Addr) (H' : Hp), ws.length ≤ zs.length + 1 → VV n (nums ws) → DrawAt H' d lg cl → Kept d lg H H' → H p = none → H' p = some (.lst (rf ws)) → PL H' ws → Q (.ref p) H'
theorem VV.erase {n : Nat} {zs : Zs} (h : VV n (nums zs)) (j : Nat) : VV n (nums (zs.eraseIdx j)) := fun t q m => by
  obtain ⟨z, hz, e⟩ := List.mem_map.mp m
  exact h t q (List.mem_map.mpr ⟨z, List.mem_of_mem_eraseIdx hz, e⟩)
theorem VV.app {n : Nat} {zs : Zs} (h : VV n (nums zs)) {a : Addr} {x y : Int} (q : InR n x ∧ InR n y ∧ x ≠ y) : VV n (nums (zs ++ [(a, x, y)])) := fun t r m => by
  unfold nums at m
  rw [List.map_append] at m
  rcases List.mem_append.mp m with m | m
  · exact h t r m
  · simp at m
    obtain ⟨rfl, rfl⟩ := m
    exact q
theorem VV.set {n : Nat} {zs : Zs} (h : VV n (nums zs)) {a : Addr} {x y : Int} (q : InR n x ∧ InR n y ∧ x ≠ y) (j : Nat) : VV n (nums (zs.set j (a, x, y))) := fun t r m => by
  obtain ⟨z, hz, e⟩ := List.mem_map.mp m
  rcases List.mem_or_eq_of_mem_set hz with hz | hz
  · exact h t r (List.mem_map.mpr ⟨z, hz, e⟩)
  · subst hz
    cases e
    exact q
theorem rf_set (zs : Zs) (j : Nat) (a : Addr) (x y : Int) : (rf zs).set j (.ref a) = rf (zs.set j (a, x, y)) := by
  unfold rf
  rw [List.map_set]
theorem PL.set {H : Hp} {zs : Zs} {t : Addr} {a b : Int} (p : PL H zs) (h : H t = some (.tup [.int a, .int b])) (j : Nat) : PL H (zs.set j (t, a, b)) := fun z m => by
  rcases List.mem_or_eq_of_mem_set m with m | m
  · exact p z m
  · subst m
    exact h
theorem PL.erase {H : Hp} {zs : Zs} (p : PL H zs) (j : Nat) : PL H (zs.eraseIdx j) := fun z m => p z (List.mem_of_mem_eraseIdx m)
section
variable {P : Program} {w : World} {K : PySem.W.Frag} {mg : Str → Option Value} {base : Heap}
theorem ok_bent {f fT : Addr} {fd fdT : FuncData} (F : Fun K "_law_bent" "_law_bent" sBent f fd) (GT : FnOk P w K mg base CX0 2 fT fdT ["draw", "amount"] spTake) (FT : Fun K "_law_take" "_law_take" sTake fT fdT) (bT : L2.Binds K fdT ["draw", "amount"] []) (gT : mg "_law_take" = some (.ref fT))
    (mLen : mg "len" = none) (mList : mg "list" = none) : FnOk P w K mg base CX0 3 f fd ["draw", "many_here", "pairs_here"] (spBent K) := by
  refine F.ok scBent (fun vs H Q E h => ?_) (fun cdv A outer s H vs Q E hr h => ?_)
  · obtain ⟨d, lg, cl, a, n, zs, rfl, _⟩ := h
    rfl
  · obtain ⟨d, lg, cl, a, n, zs, rfl, D, ha, hp, hl, n0, n8, hv, k⟩ := h
    have nd := scBent.nd
    refine ⟨_, pss_cons (ps_par (i := 3) (j := 4) (by rfl) nd rfl rfl (by decide) rfl rfl (pa_cons (pe_callTy call_list_of (by rfl) mList (by decide +kernel) (pa_cons (pv 2) pa_nil)) (pa_cons (pe_call GT hr (by rfl) gT FT.kp bT .nil pass0 (pa_cons (pv 0) (pa_cons pe_int pa_nil))) pa_nil)) (by rfl))
      (pss_cons (ps_if (PW.pt (pw_and (pt_cmpR op_eq (pv 4) pe_int (nomark _)) (pw_and1 (pt_cmpR (op_neD hr.units) (pv 3) (pe_lst pa_nil) (nomark _)))))
          (pss_one (ps_expr (pe_bm PySem.F.plainAttrs_list PySem.F.slot_list_pop PySem.F.type_list_pop mt_popAt (pv 3) (pa_cons (pe_call GT hr (by rfl) gT FT.kp bT .nil pass0 (pa_cons (pv 0) (pa_cons (pe_callB call_len_seq (by rfl) mLen PySem.boot_len (pa_cons (pv 3) pa_nil)) pa_nil))) pa_nil))))
        (pss_one (ps_if (PW.pt (pw_and (pt_cmpR op_eq (pv 4) pe_int (nomark _)) (pw_and1 (pt_cmpR (op_neD hr.units) (pv 3) (pe_lst pa_nil) (nomark _)))))
          (pss_cons (ps_set (i := 5) nd rfl (Or.inl rfl) (pe_call GT hr (by rfl) gT FT.kp bT .nil pass0 (pa_cons (pv 0) (pa_cons (pe_callB call_len_seq (by rfl) mLen PySem.boot_len (pa_cons (pv 3) pa_nil)) pa_nil))))
            (pss_one (ps_expr (pe_bm PySem.F.plainAttrs_list PySem.F.slot_list_append PySem.F.type_list_append mt_append (pv 3) (pa_cons (pe_revP (pe_ix ix_list (pv 3) (pv 5) (fun _ _ => rfl))) pa_nil)))))
        (pss_one (ps_if (PW.pt (pw_and (pt_cmpR op_eq (pv 4) pe_int (nomark _)) (pw_and1 (pt_cmpR (op_neD hr.units) (pv 3) (pe_lst pa_nil) (nomark _)))))
          (pss_cons (ps_set (i := 5) nd rfl (Or.inl rfl) (pe_call GT hr (by rfl) gT FT.kp bT .nil pass0 (pa_cons (pv 0) (pa_cons (pe_callB call_len_seq (by rfl) mLen PySem.boot_len (pa_cons (pv 3) pa_nil)) pa_nil))))
            (pss_one (ps_asg (pe_revP (pe_ix ix_list (pv 3) (pv 5) (fun _ _ => rfl))) (pg_sub (pv 3) (pv 5) set_list (fun _ => rfl)))))
        (pss_cons (ps_par (i := 6) (j := 7) (by rfl) nd rfl rfl (by decide) rfl rfl (pa_cons (pe_call GT hr (by rfl) gT FT.kp bT .nil pass0 (pa_cons (pv 0) (pa_cons (pv 1) pa_nil))) (pa_cons (pe_call GT hr (by rfl) gT FT.kp bT .nil pass0 (pa_cons (pv 0) (pa_cons (pv 1) pa_nil))) pa_nil)) (by rfl))
          (pss_one (ps_set (i := 3) nd rfl (Or.inl rfl) (pe_ifExp (pt_cmpR op_ne (pv 6) (pv 7) (nomark _)) (pe_op op_cat (pv 3) (pe_lst (pa_cons (pe_tup (pa_cons (pv 6) (pa_cons (pv 7) pa_nil))) pa_nil))) (pv 3))))))))))
      (pss_one (ps_ret (pv 3)))), ?_⟩
    refine ⟨_, rfl, a, _, rfl, .inl ha, fun l nl => ?_⟩
    obtain ⟨ld, llg, lcl⟩ := draw_new D nl
    have e0 : (upd H l (.lst (rf zs))) l = some (.lst (rf zs)) := upd_same
    have D0 : DrawAt (upd H l (.lst (rf zs))) d lg cl := draw_put ld llg lcl D
    have k0 : Kept d lg H (upd H l (.lst (rf zs))) := kept_put nl Kept.refl
    have p0 : PL (upd H l (.lst (rf zs))) zs := hp.same (same_upd nl)
    generalize upd H l (.lst (rf zs)) = H0 at e0 D0 k0 p0
    refine ⟨_, rfl, d, lg, cl, 5, rfl, D0, by decide, by decide, fun way H1 w1 w2 D1 k1 => ?_⟩
    refine ⟨_, _, rfl, ?_⟩
    have e1 := k1 _ _ e0 ld llg
    have p1 := p0.kept D0 k1
    have kx1 := k0.trans k1
    have hl2 : (rf zs).length = zs.length := rf_len zs
    refine ⟨_, rfl, rfl, _, rfl, ?_⟩
    cases zs with
    | nil =>
      refine ite2 (fun c0 => ?_) (fun c0 => ?_)
      · skip
        refine ⟨_, rfl, Nat.zero_le _, fun q2 nq2 => ?_⟩
        have s2 : Same H1 (upd H1 q2 (.lst [])) := same_upd nq2
        have eE2 : (upd H1 q2 (.lst [])) q2 = some (.lst []) := upd_same
        have D2 := draw_same s2 D1
        have kx2 : Kept d lg H (upd H1 q2 (.lst [])) := fun b u h h1 h2 => s2 _ _ (kx1 b u h h1 h2)
        have e2 := s2 _ _ e1
        have p2 := p1.same s2
        generalize upd H1 q2 (.lst []) = H2 at s2 eE2 D2 kx2 e2 p2
        refine ⟨_, _, dp_prs (SqL.of e2) p2, .lst (SqL.of eE2) .nil, shp_prs [], rfl, _, rfl, ?_⟩
        refine iteF ?_
        refine ⟨_, rfl, rfl, _, rfl, ?_⟩
        refine ite2 (fun c1 => ?_) (fun c1 => ?_)
        · skip
          refine ⟨_, rfl, Nat.zero_le _, fun q3 nq3 => ?_⟩
          have s3 : Same H2 (upd H2 q3 (.lst [])) := same_upd nq3
          have eE3 : (upd H2 q3 (.lst [])) q3 = some (.lst []) := upd_same
          have D3 := draw_same s3 D2
          have kx3 : Kept d lg H (upd H2 q3 (.lst [])) := fun b u h h1 h2 => s3 _ _ (kx2 b u h h1 h2)
          have e3 := s3 _ _ e2
          have p3 := p2.same s3
          generalize upd H2 q3 (.lst []) = H3 at s3 eE3 D3 kx3 e3 p3
          refine ⟨_, _, dp_prs (SqL.of e3) p3, .lst (SqL.of eE3) .nil, shp_prs [], rfl, _, rfl, ?_⟩
          refine iteF ?_
          refine ⟨_, rfl, rfl, _, rfl, ?_⟩
          refine ite2 (fun c2 => ?_) (fun c2 => ?_)
          · skip
            refine ⟨_, rfl, Nat.zero_le _, fun q4 nq4 => ?_⟩
            have s4 : Same H3 (upd H3 q4 (.lst [])) := same_upd nq4
            have eE4 : (upd H3 q4 (.lst [])) q4 = some (.lst []) := upd_same
            have D4 := draw_same s4 D3
            have kx4 : Kept d lg H (upd H3 q4 (.lst [])) := fun b u h h1 h2 => s4 _ _ (kx3 b u h h1 h2)
            have e4 := s4 _ _ e3
            have p4 := p3.same s4
            generalize upd H3 q4 (.lst []) = H4 at s4 eE4 D4 kx4 e4 p4
            refine ⟨_, _, dp_prs (SqL.of e4) p4, .lst (SqL.of eE4) .nil, shp_prs [], rfl, _, rfl, ?_⟩
            refine iteF ?_
            refine ⟨_, rfl, _, rfl, d, lg, cl, _, rfl, D4, by omega, by omega, fun t1 H8 t1a t1b D8 k8 => ?_⟩
            refine ⟨_, rfl, _, rfl, d, lg, cl, _, rfl, D8, by omega, by omega, fun t2 H9 t2a t2b D9 k9 => ?_⟩
            refine ⟨_, _, rfl, ?_⟩
            have e9 := k9 _ _ (k8 _ _ e4 ld llg) ld llg
            have p9 := (p4.kept D4 k8).kept D8 k9
            have kx9 := (kx4.trans k8).trans k9
            refine ⟨_, rfl, _, rfl, rfl, _, rfl, ite2 (fun c => ?_) (fun c => ?_)⟩
            · have ht : t1 ≠ t2 := fun z => by rw [z] at c; simp at c
              refine ⟨_, rfl, _, rfl, _, rfl, by show 2 ≤ sizeLine; decide, fun q nq => ?_⟩
              have sA : Same H9 (upd H9 q (.tup [.int t1, .int t2])) := same_upd nq
              have eA : (upd H9 q (.tup [.int t1, .int t2])) q = some (.tup [.int t1, .int t2]) := upd_same
              generalize upd H9 q (.tup [.int t1, .int t2]) = HA at sA eA
              refine ⟨by show 1 ≤ sizeLine; decide, fun b nb => ?_⟩
              have sB : Same HA (upd HA b (.lst [.ref q])) := same_upd nb
              have eB : (upd HA b (.lst [.ref q])) b = some (.lst [.ref q]) := upd_same
              generalize upd HA b (.lst [.ref q]) = HB at sB eB
              have s9B : Same H9 HB := sA.trans sB
              refine ⟨l, b, _, _, rfl, rfl, s9B _ _ e9, eB, by rw [hl2]; exact Nat.le_of_lt (small1000 (by show ([] : Zs).length + 1 ≤ 1000; omega)), fun p np => ?_⟩
              have kB : Kept d lg H HB := fun x u h h1 h2 => s9B _ _ (kx9 x u h h1 h2)
              have DB := draw_same s9B D9
              obtain ⟨pd', plg, pcl⟩ := draw_new DB np
              refine ⟨_, rfl, k ([] ++ [(q, t1, t2)]) p _ (by rw [List.length_append]; exact Nat.le_refl _) (hv.app ⟨⟨t1a, t1b⟩, ⟨t2a, t2b⟩, ht⟩) (draw_put pd' plg pcl DB) (kept_put (kept_none kB pd' plg np) kB) (kept_none kB pd' plg np) (by rw [upd_same, ← rf_app]) (((p9.same s9B).app (sB _ _ eA)).same (same_upd np))⟩
            · refine ⟨_, rfl, _, rfl, k [] l _ (Nat.le_succ _) hv D9 kx9 nl e9 p9⟩
          · skip
            refine iteF ?_
            refine ⟨_, rfl, _, rfl, d, lg, cl, _, rfl, D3, by omega, by omega, fun t1 H8 t1a t1b D8 k8 => ?_⟩
            refine ⟨_, rfl, _, rfl, d, lg, cl, _, rfl, D8, by omega, by omega, fun t2 H9 t2a t2b D9 k9 => ?_⟩
            refine ⟨_, _, rfl, ?_⟩
            have e9 := k9 _ _ (k8 _ _ e3 ld llg) ld llg
            have p9 := (p3.kept D3 k8).kept D8 k9
            have kx9 := (kx3.trans k8).trans k9
            refine ⟨_, rfl, _, rfl, rfl, _, rfl, ite2 (fun c => ?_) (fun c => ?_)⟩
            · have ht : t1 ≠ t2 := fun z => by rw [z] at c; simp at c
              refine ⟨_, rfl, _, rfl, _, rfl, by show 2 ≤ sizeLine; decide, fun q nq => ?_⟩
              have sA : Same H9 (upd H9 q (.tup [.int t1, .int t2])) := same_upd nq
              have eA : (upd H9 q (.tup [.int t1, .int t2])) q = some (.tup [.int t1, .int t2]) := upd_same
              generalize upd H9 q (.tup [.int t1, .int t2]) = HA at sA eA
              refine ⟨by show 1 ≤ sizeLine; decide, fun b nb => ?_⟩
              have sB : Same HA (upd HA b (.lst [.ref q])) := same_upd nb
              have eB : (upd HA b (.lst [.ref q])) b = some (.lst [.ref q]) := upd_same
              generalize upd HA b (.lst [.ref q]) = HB at sB eB
              have s9B : Same H9 HB := sA.trans sB
              refine ⟨l, b, _, _, rfl, rfl, s9B _ _ e9, eB, by rw [hl2]; exact Nat.le_of_lt (small1000 (by show ([] : Zs).length + 1 ≤ 1000; omega)), fun p np => ?_⟩
              have kB : Kept d lg H HB := fun x u h h1 h2 => s9B _ _ (kx9 x u h h1 h2)
              have DB := draw_same s9B D9
              obtain ⟨pd', plg, pcl⟩ := draw_new DB np
              refine ⟨_, rfl, k ([] ++ [(q, t1, t2)]) p _ (by rw [List.length_append]; exact Nat.le_refl _) (hv.app ⟨⟨t1a, t1b⟩, ⟨t2a, t2b⟩, ht⟩) (draw_put pd' plg pcl DB) (kept_put (kept_none kB pd' plg np) kB) (kept_none kB pd' plg np) (by rw [upd_same, ← rf_app]) (((p9.same s9B).app (sB _ _ eA)).same (same_upd np))⟩
            · refine ⟨_, rfl, _, rfl, k [] l _ (Nat.le_succ _) hv D9 kx9 nl e9 p9⟩
        · skip
          refine iteF ?_
          refine ⟨_, rfl, rfl, _, rfl, ?_⟩
          refine ite2 (fun c2 => ?_) (fun c2 => ?_)
          · skip
            refine ⟨_, rfl, Nat.zero_le _, fun q3 nq3 => ?_⟩
            have s3 : Same H2 (upd H2 q3 (.lst [])) := same_upd nq3
            have eE3 : (upd H2 q3 (.lst [])) q3 = some (.lst []) := upd_same
            have D3 := draw_same s3 D2
            have kx3 : Kept d lg H (upd H2 q3 (.lst [])) := fun b u h h1 h2 => s3 _ _ (kx2 b u h h1 h2)
            have e3 := s3 _ _ e2
            have p3 := p2.same s3
            generalize upd H2 q3 (.lst []) = H3 at s3 eE3 D3 kx3 e3 p3
            refine ⟨_, _, dp_prs (SqL.of e3) p3, .lst (SqL.of eE3) .nil, shp_prs [], rfl, _, rfl, ?_⟩
            refine iteF ?_
            refine ⟨_, rfl, _, rfl, d, lg, cl, _, rfl, D3, by omega, by omega, fun t1 H8 t1a t1b D8 k8 => ?_⟩
            refine ⟨_, rfl, _, rfl, d, lg, cl, _, rfl, D8, by omega, by omega, fun t2 H9 t2a t2b D9 k9 => ?_⟩
            refine ⟨_, _, rfl, ?_⟩
            have e9 := k9 _ _ (k8 _ _ e3 ld llg) ld llg
            have p9 := (p3.kept D3 k8).kept D8 k9
            have kx9 := (kx3.trans k8).trans k9
            refine ⟨_, rfl, _, rfl, rfl, _, rfl, ite2 (fun c => ?_) (fun c => ?_)⟩
            · have ht : t1 ≠ t2 := fun z => by rw [z] at c; simp at c
              refine ⟨_, rfl, _, rfl, _, rfl, by show 2 ≤ sizeLine; decide, fun q nq => ?_⟩
              have sA : Same H9 (upd H9 q (.tup [.int t1, .int t2])) := same_upd nq
              have eA : (upd H9 q (.tup [.int t1, .int t2])) q = some (.tup [.int t1, .int t2]) := upd_same
              generalize upd H9 q (.tup [.int t1, .int t2]) = HA at sA eA
              refine ⟨by show 1 ≤ sizeLine; decide, fun b nb => ?_⟩
              have sB : Same HA (upd HA b (.lst [.ref q])) := same_upd nb
              have eB : (upd HA b (.lst [.ref q])) b = some (.lst [.ref q]) := upd_same
              generalize upd HA b (.lst [.ref q]) = HB at sB eB
              have s9B : Same H9 HB := sA.trans sB
              refine ⟨l, b, _, _, rfl, rfl, s9B _ _ e9, eB, by rw [hl2]; exact Nat.le_of_lt (small1000 (by show ([] : Zs).length + 1 ≤ 1000; omega)), fun p np => ?_⟩
              have kB : Kept d lg H HB := fun x u h h1 h2 => s9B _ _ (kx9 x u h h1 h2)
              have DB := draw_same s9B D9
              obtain ⟨pd', plg, pcl⟩ := draw_new DB np
              refine ⟨_, rfl, k ([] ++ [(q, t1, t2)]) p _ (by rw [List.length_append]; exact Nat.le_refl _) (hv.app ⟨⟨t1a, t1b⟩, ⟨t2a, t2b⟩, ht⟩) (draw_put pd' plg pcl DB) (kept_put (kept_none kB pd' plg np) kB) (kept_none kB pd' plg np) (by rw [upd_same, ← rf_app]) (((p9.same s9B).app (sB _ _ eA)).same (same_upd np))⟩
            · refine ⟨_, rfl, _, rfl, k [] l _ (Nat.le_succ _) hv D9 kx9 nl e9 p9⟩
          · skip
            refine iteF ?_
            refine ⟨_, rfl, _, rfl, d, lg, cl, _, rfl, D2, by omega, by omega, fun t1 H8 t1a t1b D8 k8 => ?_⟩
            refine ⟨_, rfl, _, rfl, d, lg, cl, _, rfl, D8, by omega, by omega, fun t2 H9 t2a t2b D9 k9 => ?_⟩
            refine ⟨_, _, rfl, ?_⟩
            have e9 := k9 _ _ (k8 _ _ e2 ld llg) ld llg
            have p9 := (p2.kept D2 k8).kept D8 k9
            have kx9 := (kx2.trans k8).trans k9
            refine ⟨_, rfl, _, rfl, rfl, _, rfl, ite2 (fun c => ?_) (fun c => ?_)⟩
            · have ht : t1 ≠ t2 := fun z => by rw [z] at c; simp at c
              refine ⟨_, rfl, _, rfl, _, rfl, by show 2 ≤ sizeLine; decide, fun q nq => ?_⟩
              have sA : Same H9 (upd H9 q (.tup [.int t1, .int t2])) := same_upd nq
              have eA : (upd H9 q (.tup [.int t1, .int t2])) q = some (.tup [.int t1, .int t2]) := upd_same
              generalize upd H9 q (.tup [.int t1, .int t2]) = HA at sA eA
              refine ⟨by show 1 ≤ sizeLine; decide, fun b nb => ?_⟩
              have sB : Same HA (upd HA b (.lst [.ref q])) := same_upd nb
              have eB : (upd HA b (.lst [.ref q])) b = some (.lst [.ref q]) := upd_same
              generalize upd HA b (.lst [.ref q]) = HB at sB eB
              have s9B : Same H9 HB := sA.trans sB
              refine ⟨l, b, _, _, rfl, rfl, s9B _ _ e9, eB, by rw [hl2]; exact Nat.le_of_lt (small1000 (by show ([] : Zs).length + 1 ≤ 1000; omega)), fun p np => ?_⟩
              have kB : Kept d lg H HB := fun x u h h1 h2 => s9B _ _ (kx9 x u h h1 h2)
              have DB := draw_same s9B D9
              obtain ⟨pd', plg, pcl⟩ := draw_new DB np
              refine ⟨_, rfl, k ([] ++ [(q, t1, t2)]) p _ (by rw [List.length_append]; exact Nat.le_refl _) (hv.app ⟨⟨t1a, t1b⟩, ⟨t2a, t2b⟩, ht⟩) (draw_put pd' plg pcl DB) (kept_put (kept_none kB pd' plg np) kB) (kept_none kB pd' plg np) (by rw [upd_same, ← rf_app]) (((p9.same s9B).app (sB _ _ eA)).same (same_upd np))⟩
            · refine ⟨_, rfl, _, rfl, k [] l _ (Nat.le_succ _) hv D9 kx9 nl e9 p9⟩
      · skip
        refine iteF ?_
        refine ⟨_, rfl, rfl, _, rfl, ?_⟩
        refine ite2 (fun c1 => ?_) (fun c1 => ?_)
        · skip
          refine ⟨_, rfl, Nat.zero_le _, fun q2 nq2 => ?_⟩
          have s2 : Same H1 (upd H1 q2 (.lst [])) := same_upd nq2
          have eE2 : (upd H1 q2 (.lst [])) q2 = some (.lst []) := upd_same
          have D2 := draw_same s2 D1
          have kx2 : Kept d lg H (upd H1 q2 (.lst [])) := fun b u h h1 h2 => s2 _ _ (kx1 b u h h1 h2)
          have e2 := s2 _ _ e1
          have p2 := p1.same s2
          generalize upd H1 q2 (.lst []) = H2 at s2 eE2 D2 kx2 e2 p2
          refine ⟨_, _, dp_prs (SqL.of e2) p2, .lst (SqL.of eE2) .nil, shp_prs [], rfl, _, rfl, ?_⟩
          refine iteF ?_
          refine ⟨_, rfl, rfl, _, rfl, ?_⟩
          refine ite2 (fun c2 => ?_) (fun c2 => ?_)
          · skip
            refine ⟨_, rfl, Nat.zero_le _, fun q3 nq3 => ?_⟩
            have s3 : Same H2 (upd H2 q3 (.lst [])) := same_upd nq3
            have eE3 : (upd H2 q3 (.lst [])) q3 = some (.lst []) := upd_same
            have D3 := draw_same s3 D2
            have kx3 : Kept d lg H (upd H2 q3 (.lst [])) := fun b u h h1 h2 => s3 _ _ (kx2 b u h h1 h2)
            have e3 := s3 _ _ e2
            have p3 := p2.same s3
            generalize upd H2 q3 (.lst []) = H3 at s3 eE3 D3 kx3 e3 p3
            refine ⟨_, _, dp_prs (SqL.of e3) p3, .lst (SqL.of eE3) .nil, shp_prs [], rfl, _, rfl, ?_⟩
            refine iteF ?_
            refine ⟨_, rfl, _, rfl, d, lg, cl, _, rfl, D3, by omega, by omega, fun t1 H8 t1a t1b D8 k8 => ?_⟩
            refine ⟨_, rfl, _, rfl, d, lg, cl, _, rfl, D8, by omega, by omega, fun t2 H9 t2a t2b D9 k9 => ?_⟩
            refine ⟨_, _, rfl, ?_⟩
            have e9 := k9 _ _ (k8 _ _ e3 ld llg) ld llg
            have p9 := (p3.kept D3 k8).kept D8 k9
            have kx9 := (kx3.trans k8).trans k9
            refine ⟨_, rfl, _, rfl, rfl, _, rfl, ite2 (fun c => ?_) (fun c => ?_)⟩
            · have ht : t1 ≠ t2 := fun z => by rw [z] at c; simp at c
              refine ⟨_, rfl, _, rfl, _, rfl, by show 2 ≤ sizeLine; decide, fun q nq => ?_⟩
              have sA : Same H9 (upd H9 q (.tup [.int t1, .int t2])) := same_upd nq
              have eA : (upd H9 q (.tup [.int t1, .int t2])) q = some (.tup [.int t1, .int t2]) := upd_same
              generalize upd H9 q (.tup [.int t1, .int t2]) = HA at sA eA
              refine ⟨by show 1 ≤ sizeLine; decide, fun b nb => ?_⟩
              have sB : Same HA (upd HA b (.lst [.ref q])) := same_upd nb
              have eB : (upd HA b (.lst [.ref q])) b = some (.lst [.ref q]) := upd_same
              generalize upd HA b (.lst [.ref q]) = HB at sB eB
              have s9B : Same H9 HB := sA.trans sB
              refine ⟨l, b, _, _, rfl, rfl, s9B _ _ e9, eB, by rw [hl2]; exact Nat.le_of_lt (small1000 (by show ([] : Zs).length + 1 ≤ 1000; omega)), fun p np => ?_⟩
              have kB : Kept d lg H HB := fun x u h h1 h2 => s9B _ _ (kx9 x u h h1 h2)
              have DB := draw_same s9B D9
              obtain ⟨pd', plg, pcl⟩ := draw_new DB np
              refine ⟨_, rfl, k ([] ++ [(q, t1, t2)]) p _ (by rw [List.length_append]; exact Nat.le_refl _) (hv.app ⟨⟨t1a, t1b⟩, ⟨t2a, t2b⟩, ht⟩) (draw_put pd' plg pcl DB) (kept_put (kept_none kB pd' plg np) kB) (kept_none kB pd' plg np) (by rw [upd_same, ← rf_app]) (((p9.same s9B).app (sB _ _ eA)).same (same_upd np))⟩
            · refine ⟨_, rfl, _, rfl, k [] l _ (Nat.le_succ _) hv D9 kx9 nl e9 p9⟩
          · skip
            refine iteF ?_
            refine ⟨_, rfl, _, rfl, d, lg, cl, _, rfl, D2, by omega, by omega, fun t1 H8 t1a t1b D8 k8 => ?_⟩
            refine ⟨_, rfl, _, rfl, d, lg, cl, _, rfl, D8, by omega, by omega, fun t2 H9 t2a t2b D9 k9 => ?_⟩
            refine ⟨_, _, rfl, ?_⟩
            have e9 := k9 _ _ (k8 _ _ e2 ld llg) ld llg
            have p9 := (p2.kept D2 k8).kept D8 k9
            have kx9 := (kx2.trans k8).trans k9
            refine ⟨_, rfl, _, rfl, rfl, _, rfl, ite2 (fun c => ?_) (fun c => ?_)⟩
            · have ht : t1 ≠ t2 := fun z => by rw [z] at c; simp at c
              refine ⟨_, rfl, _, rfl, _, rfl, by show 2 ≤ sizeLine; decide, fun q nq => ?_⟩
              have sA : Same H9 (upd H9 q (.tup [.int t1, .int t2])) := same_upd nq
              have eA : (upd H9 q (.tup [.int t1, .int t2])) q = some (.tup [.int t1, .int t2]) := upd_same
              generalize upd H9 q (.tup [.int t1, .int t2]) = HA at sA eA
              refine ⟨by show 1 ≤ sizeLine; decide, fun b nb => ?_⟩
              have sB : Same HA (upd HA b (.lst [.ref q])) := same_upd nb
              have eB : (upd HA b (.lst [.ref q])) b = some (.lst [.ref q]) := upd_same
              generalize upd HA b (.lst [.ref q]) = HB at sB eB
              have s9B : Same H9 HB := sA.trans sB
              refine ⟨l, b, _, _, rfl, rfl, s9B _ _ e9, eB, by rw [hl2]; exact Nat.le_of_lt (small1000 (by show ([] : Zs).length + 1 ≤ 1000; omega)), fun p np => ?_⟩
              have kB : Kept d lg H HB := fun x u h h1 h2 => s9B _ _ (kx9 x u h h1 h2)
              have DB := draw_same s9B D9
              obtain ⟨pd', plg, pcl⟩ := draw_new DB np
              refine ⟨_, rfl, k ([] ++ [(q, t1, t2)]) p _ (by rw [List.length_append]; exact Nat.le_refl _) (hv.app ⟨⟨t1a, t1b⟩, ⟨t2a, t2b⟩, ht⟩) (draw_put pd' plg pcl DB) (kept_put (kept_none kB pd' plg np) kB) (kept_none kB pd' plg np) (by rw [upd_same, ← rf_app]) (((p9.same s9B).app (sB _ _ eA)).same (same_upd np))⟩
            · refine ⟨_, rfl, _, rfl, k [] l _ (Nat.le_succ _) hv D9 kx9 nl e9 p9⟩
        · skip
          refine iteF ?_
          refine ⟨_, rfl, rfl, _, rfl, ?_⟩
          refine ite2 (fun c2 => ?_) (fun c2 => ?_)
          · skip
            refine ⟨_, rfl, Nat.zero_le _, fun q2 nq2 => ?_⟩
            have s2 : Same H1 (upd H1 q2 (.lst [])) := same_upd nq2
            have eE2 : (upd H1 q2 (.lst [])) q2 = some (.lst []) := upd_same
            have D2 := draw_same s2 D1
            have kx2 : Kept d lg H (upd H1 q2 (.lst [])) := fun b u h h1 h2 => s2 _ _ (kx1 b u h h1 h2)
            have e2 := s2 _ _ e1
            have p2 := p1.same s2
            generalize upd H1 q2 (.lst []) = H2 at s2 eE2 D2 kx2 e2 p2
            refine ⟨_, _, dp_prs (SqL.of e2) p2, .lst (SqL.of eE2) .nil, shp_prs [], rfl, _, rfl, ?_⟩
            refine iteF ?_
            refine ⟨_, rfl, _, rfl, d, lg, cl, _, rfl, D2, by omega, by omega, fun t1 H8 t1a t1b D8 k8 => ?_⟩
            refine ⟨_, rfl, _, rfl, d, lg, cl, _, rfl, D8, by omega, by omega, fun t2 H9 t2a t2b D9 k9 => ?_⟩
            refine ⟨_, _, rfl, ?_⟩
            have e9 := k9 _ _ (k8 _ _ e2 ld llg) ld llg
            have p9 := (p2.kept D2 k8).kept D8 k9
            have kx9 := (kx2.trans k8).trans k9
            refine ⟨_, rfl, _, rfl, rfl, _, rfl, ite2 (fun c => ?_) (fun c => ?_)⟩
            · have ht : t1 ≠ t2 := fun z => by rw [z] at c; simp at c
              refine ⟨_, rfl, _, rfl, _, rfl, by show 2 ≤ sizeLine; decide, fun q nq => ?_⟩
              have sA : Same H9 (upd H9 q (.tup [.int t1, .int t2])) := same_upd nq
              have eA : (upd H9 q (.tup [.int t1, .int t2])) q = some (.tup [.int t1, .int t2]) := upd_same
              generalize upd H9 q (.tup [.int t1, .int t2]) = HA at sA eA
              refine ⟨by show 1 ≤ sizeLine; decide, fun b nb => ?_⟩
              have sB : Same HA (upd HA b (.lst [.ref q])) := same_upd nb
              have eB : (upd HA b (.lst [.ref q])) b = some (.lst [.ref q]) := upd_same
              generalize upd HA b (.lst [.ref q]) = HB at sB eB
              have s9B : Same H9 HB := sA.trans sB
              refine ⟨l, b, _, _, rfl, rfl, s9B _ _ e9, eB, by rw [hl2]; exact Nat.le_of_lt (small1000 (by show ([] : Zs).length + 1 ≤ 1000; omega)), fun p np => ?_⟩
              have kB : Kept d lg H HB := fun x u h h1 h2 => s9B _ _ (kx9 x u h h1 h2)
              have DB := draw_same s9B D9
              obtain ⟨pd', plg, pcl⟩ := draw_new DB np
              refine ⟨_, rfl, k ([] ++ [(q, t1, t2)]) p _ (by rw [List.length_append]; exact Nat.le_refl _) (hv.app ⟨⟨t1a, t1b⟩, ⟨t2a, t2b⟩, ht⟩) (draw_put pd' plg pcl DB) (kept_put (kept_none kB pd' plg np) kB) (kept_none kB pd' plg np) (by rw [upd_same, ← rf_app]) (((p9.same s9B).app (sB _ _ eA)).same (same_upd np))⟩
            · refine ⟨_, rfl, _, rfl, k [] l _ (Nat.le_succ _) hv D9 kx9 nl e9 p9⟩
          · skip
            refine iteF ?_
            refine ⟨_, rfl, _, rfl, d, lg, cl, _, rfl, D1, by omega, by omega, fun t1 H8 t1a t1b D8 k8 => ?_⟩
            refine ⟨_, rfl, _, rfl, d, lg, cl, _, rfl, D8, by omega, by omega, fun t2 H9 t2a t2b D9 k9 => ?_⟩
            refine ⟨_, _, rfl, ?_⟩
            have e9 := k9 _ _ (k8 _ _ e1 ld llg) ld llg
            have p9 := (p1.kept D1 k8).kept D8 k9
            have kx9 := (kx1.trans k8).trans k9
            refine ⟨_, rfl, _, rfl, rfl, _, rfl, ite2 (fun c => ?_) (fun c => ?_)⟩
            · have ht : t1 ≠ t2 := fun z => by rw [z] at c; simp at c
              refine ⟨_, rfl, _, rfl, _, rfl, by show 2 ≤ sizeLine; decide, fun q nq => ?_⟩
              have sA : Same H9 (upd H9 q (.tup [.int t1, .int t2])) := same_upd nq
              have eA : (upd H9 q (.tup [.int t1, .int t2])) q = some (.tup [.int t1, .int t2]) := upd_same
              generalize upd H9 q (.tup [.int t1, .int t2]) = HA at sA eA
              refine ⟨by show 1 ≤ sizeLine; decide, fun b nb => ?_⟩
              have sB : Same HA (upd HA b (.lst [.ref q])) := same_upd nb
              have eB : (upd HA b (.lst [.ref q])) b = some (.lst [.ref q]) := upd_same
              generalize upd HA b (.lst [.ref q]) = HB at sB eB
              have s9B : Same H9 HB := sA.trans sB
              refine ⟨l, b, _, _, rfl, rfl, s9B _ _ e9, eB, by rw [hl2]; exact Nat.le_of_lt (small1000 (by show ([] : Zs).length + 1 ≤ 1000; omega)), fun p np => ?_⟩
              have kB : Kept d lg H HB := fun x u h h1 h2 => s9B _ _ (kx9 x u h h1 h2)
              have DB := draw_same s9B D9
              obtain ⟨pd', plg, pcl⟩ := draw_new DB np
              refine ⟨_, rfl, k ([] ++ [(q, t1, t2)]) p _ (by rw [List.length_append]; exact Nat.le_refl _) (hv.app ⟨⟨t1a, t1b⟩, ⟨t2a, t2b⟩, ht⟩) (draw_put pd' plg pcl DB) (kept_put (kept_none kB pd' plg np) kB) (kept_none kB pd' plg np) (by rw [upd_same, ← rf_app]) (((p9.same s9B).app (sB _ _ eA)).same (same_upd np))⟩
            · refine ⟨_, rfl, _, rfl, k [] l _ (Nat.le_succ _) hv D9 kx9 nl e9 p9⟩
    | cons z0 zr =>
      have hj0 : (rf (z0 :: zr)).length = zr.length + 1 := by rw [rf_len]; rfl
      refine ite2 (fun c0 => ?_) (fun c0 => ?_)
      · skip
        refine ⟨_, rfl, Nat.zero_le _, fun q2 nq2 => ?_⟩
        have s2 : Same H1 (upd H1 q2 (.lst [])) := same_upd nq2
        have eE2 : (upd H1 q2 (.lst [])) q2 = some (.lst []) := upd_same
        have D2 := draw_same s2 D1
        have kx2 : Kept d lg H (upd H1 q2 (.lst [])) := fun b u h h1 h2 => s2 _ _ (kx1 b u h h1 h2)
        have e2 := s2 _ _ e1
        have p2 := p1.same s2
        generalize upd H1 q2 (.lst []) = H2 at s2 eE2 D2 kx2 e2 p2
        refine ⟨_, _, dp_prs (SqL.of e2) p2, .lst (SqL.of eE2) .nil, shp_prs (z0 :: zr), rfl, _, rfl, ?_⟩
        refine iteT ?_
        refine ⟨_, rfl, .inl ⟨rfl, _, SqL.of e2⟩, _, rfl, _, rfl, l, _, rfl, .inl (SqL.of e2), d, lg, cl, _, rfl, D2, by rw [hj0]; omega, by rw [hj0]; simp at hl; omega, fun z H8 z1 z2 D8 k8 => ?_⟩
        obtain ⟨j, rfl⟩ := Int.eq_ofNat_of_zero_le z1
        have hj : j < (z0 :: zr).length := by rw [hj0] at z2; rw [List.length_cons]; omega
        have ej : (z0 :: zr)[j]? = some ((z0 :: zr)[j]) := List.getElem?_eq_getElem hj
        generalize (z0 :: zr)[j] = zj at ej
        have e8 := k8 _ _ e2 ld llg
        have p8 := p2.kept D2 k8
        have kx8 := kx2.trans k8
        have hs : seqIndex? (j : Int) (rf (z0 :: zr)).length = some j := by
          rw [hj0]
          rw [List.length_cons] at hj
          simp [seqIndex?]
          omega
        refine ⟨l, _, _, j, _, rfl, rfl, e8, by omega, by rw [hj0] at z2; simp at hl; omega, hs, rf_get ej, ?_⟩
        refine ⟨_, rfl, k ((z0 :: zr).eraseIdx j) l _ (by rw [List.length_eraseIdx]; split <;> omega) (hv.erase j) (draw_put ld llg lcl D8) (kept_put nl kx8) nl (by rw [upd_same, rf_erase]) ((p8.erase j).put e8)⟩
      · skip
        refine iteF ?_
        refine ⟨_, rfl, rfl, _, rfl, ?_⟩
        refine ite2 (fun c1 => ?_) (fun c1 => ?_)
        · skip
          refine ⟨_, rfl, Nat.zero_le _, fun q2 nq2 => ?_⟩
          have s2 : Same H1 (upd H1 q2 (.lst [])) := same_upd nq2
          have eE2 : (upd H1 q2 (.lst [])) q2 = some (.lst []) := upd_same
          have D2 := draw_same s2 D1
          have kx2 : Kept d lg H (upd H1 q2 (.lst [])) := fun b u h h1 h2 => s2 _ _ (kx1 b u h h1 h2)
          have e2 := s2 _ _ e1
          have p2 := p1.same s2
          generalize upd H1 q2 (.lst []) = H2 at s2 eE2 D2 kx2 e2 p2
          refine ⟨_, _, dp_prs (SqL.of e2) p2, .lst (SqL.of eE2) .nil, shp_prs (z0 :: zr), rfl, _, rfl, ?_⟩
          refine iteT ?_
          refine ⟨_, rfl, _, rfl, l, _, rfl, .inl (SqL.of e2), d, lg, cl, _, rfl, D2, by rw [hj0]; omega, by rw [hj0]; simp at hl; omega, fun z H8 z1 z2 D8 k8 => ?_⟩
          obtain ⟨j, rfl⟩ := Int.eq_ofNat_of_zero_le z1
          have hj : j < (z0 :: zr).length := by rw [hj0] at z2; rw [List.length_cons]; omega
          have ej : (z0 :: zr)[j]? = some ((z0 :: zr)[j]) := List.getElem?_eq_getElem hj
          generalize (z0 :: zr)[j] = zj at ej
          obtain ⟨za, zx, zy⟩ := zj
          have hzm : (za, zx, zy) ∈ z0 :: zr := List.mem_of_getElem? ej
          have hzv := hv zx zy (List.mem_map.mpr ⟨_, hzm, rfl⟩)
          have e8 := k8 _ _ e2 ld llg
          have p8 := p2.kept D2 k8
          have kx8 := kx2.trans k8
          refine ⟨_, rfl, .inl ⟨rfl, _, SqL.of e8⟩, _, rfl, _, rfl, l, _, _, _, rfl, rfl, SqL.of e8, atI_nat (rf_get ej), za, .int zx, .int zy, rfl, .inl (.inl (p8 _ hzm)), fun q nq => ?_⟩
          have e9 := same_upd (o := .tup [.int zy, .int zx]) nq _ _ e8
          have k9 : Kept d lg H (upd H8 q (.tup [.int zy, .int zx])) := fun x u h h1 h2 => same_upd nq _ _ (kx8 x u h h1 h2)
          have D9 := draw_same (same_upd (o := .tup [.int zy, .int zx]) nq) D8
          have p9 := p8.same (same_upd (o := .tup [.int zy, .int zx]) nq)
          have eq9 : (upd H8 q (.tup [.int zy, .int zx])) q = some (.tup [.int zy, .int zx]) := upd_same
          generalize upd H8 q (.tup [.int zy, .int zx]) = H9 at e9 k9 D9 p9 eq9
          refine ⟨l, _, _, rfl, rfl, e9, small1000 (by rw [hj0]; simp at hl; omega), ?_⟩
          refine ⟨_, rfl, k ((z0 :: zr) ++ [(q, zy, zx)]) l _ (by rw [List.length_append]; exact Nat.le_refl _) (hv.app ⟨hzv.2.1, hzv.1, fun z => hzv.2.2 z.symm⟩) (draw_put ld llg lcl D9) (kept_put nl k9) nl (by rw [upd_same, ← rf_app]) ((p9.app eq9).put e9)⟩
        · skip
          refine iteF ?_
          refine ⟨_, rfl, rfl, _, rfl, ?_⟩
          refine ite2 (fun c2 => ?_) (fun c2 => ?_)
          · skip
            refine ⟨_, rfl, Nat.zero_le _, fun q2 nq2 => ?_⟩
            have s2 : Same H1 (upd H1 q2 (.lst [])) := same_upd nq2
            have eE2 : (upd H1 q2 (.lst [])) q2 = some (.lst []) := upd_same
            have D2 := draw_same s2 D1
            have kx2 : Kept d lg H (upd H1 q2 (.lst [])) := fun b u h h1 h2 => s2 _ _ (kx1 b u h h1 h2)
            have e2 := s2 _ _ e1
            have p2 := p1.same s2
            generalize upd H1 q2 (.lst []) = H2 at s2 eE2 D2 kx2 e2 p2
            refine ⟨_, _, dp_prs (SqL.of e2) p2, .lst (SqL.of eE2) .nil, shp_prs (z0 :: zr), rfl, _, rfl, ?_⟩
            refine iteT ?_
            refine ⟨_, rfl, _, rfl, l, _, rfl, .inl (SqL.of e2), d, lg, cl, _, rfl, D2, by rw [hj0]; omega, by rw [hj0]; simp at hl; omega, fun z H8 z1 z2 D8 k8 => ?_⟩
            obtain ⟨j, rfl⟩ := Int.eq_ofNat_of_zero_le z1
            have hj : j < (z0 :: zr).length := by rw [hj0] at z2; rw [List.length_cons]; omega
            have ej : (z0 :: zr)[j]? = some ((z0 :: zr)[j]) := List.getElem?_eq_getElem hj
            generalize (z0 :: zr)[j] = zj at ej
            obtain ⟨za, zx, zy⟩ := zj
            have hzm : (za, zx, zy) ∈ z0 :: zr := List.mem_of_getElem? ej
            have hzv := hv zx zy (List.mem_map.mpr ⟨_, hzm, rfl⟩)
            have e8 := k8 _ _ e2 ld llg
            have p8 := p2.kept D2 k8
            have kx8 := kx2.trans k8
            refine ⟨_, rfl, _, rfl, l, _, _, _, rfl, rfl, SqL.of e8, atI_nat (rf_get ej), za, .int zx, .int zy, rfl, .inl (.inl (p8 _ hzm)), fun q nq => ?_⟩
            have e9 := same_upd (o := .tup [.int zy, .int zx]) nq _ _ e8
            have k9 : Kept d lg H (upd H8 q (.tup [.int zy, .int zx])) := fun x u h h1 h2 => same_upd nq _ _ (kx8 x u h h1 h2)
            have D9 := draw_same (same_upd (o := .tup [.int zy, .int zx]) nq) D8
            have p9 := p8.same (same_upd (o := .tup [.int zy, .int zx]) nq)
            have eq9 : (upd H8 q (.tup [.int zy, .int zx])) q = some (.tup [.int zy, .int zx]) := upd_same
            generalize upd H8 q (.tup [.int zy, .int zx]) = H9 at e9 k9 D9 p9 eq9
            refine ⟨_, rfl, _, rfl, l, _, _, j, rfl, rfl, e9, by unfold ixN; rw [hj0]; simp at hj; simp; omega, ?_⟩
            refine ⟨_, rfl, k ((z0 :: zr).set j (q, zy, zx)) l _ (by rw [List.length_set]; exact Nat.le_succ _) (hv.set ⟨hzv.2.1, hzv.1, fun z => hzv.2.2 z.symm⟩ j) (draw_put ld llg lcl D9) (kept_put nl k9) nl (by rw [upd_same, rf_set]) ((p9.set eq9 j).put e9)⟩
          · skip
            refine iteF ?_
            refine ⟨_, rfl, _, rfl, d, lg, cl, _, rfl, D1, by omega, by omega, fun t1 H8 t1a t1b D8 k8 => ?_⟩
            refine ⟨_, rfl, _, rfl, d, lg, cl, _, rfl, D8, by omega, by omega, fun t2 H9 t2a t2b D9 k9 => ?_⟩
            refine ⟨_, _, rfl, ?_⟩
            have e9 := k9 _ _ (k8 _ _ e1 ld llg) ld llg
            have p9 := (p1.kept D1 k8).kept D8 k9
            have kx9 := (kx1.trans k8).trans k9
            refine ⟨_, rfl, _, rfl, rfl, _, rfl, ite2 (fun c => ?_) (fun c => ?_)⟩
            · have ht : t1 ≠ t2 := fun z => by rw [z] at c; simp at c
              refine ⟨_, rfl, _, rfl, _, rfl, by show 2 ≤ sizeLine; decide, fun q nq => ?_⟩
              have sA : Same H9 (upd H9 q (.tup [.int t1, .int t2])) := same_upd nq
              have eA : (upd H9 q (.tup [.int t1, .int t2])) q = some (.tup [.int t1, .int t2]) := upd_same
              generalize upd H9 q (.tup [.int t1, .int t2]) = HA at sA eA
              refine ⟨by show 1 ≤ sizeLine; decide, fun b nb => ?_⟩
              have sB : Same HA (upd HA b (.lst [.ref q])) := same_upd nb
              have eB : (upd HA b (.lst [.ref q])) b = some (.lst [.ref q]) := upd_same
              generalize upd HA b (.lst [.ref q]) = HB at sB eB
              have s9B : Same H9 HB := sA.trans sB
              refine ⟨l, b, _, _, rfl, rfl, s9B _ _ e9, eB, by rw [hl2]; exact Nat.le_of_lt (small1000 (by show (z0 :: zr).length + 1 ≤ 1000; omega)), fun p np => ?_⟩
              have kB : Kept d lg H HB := fun x u h h1 h2 => s9B _ _ (kx9 x u h h1 h2)
              have DB := draw_same s9B D9
              obtain ⟨pd', plg, pcl⟩ := draw_new DB np
              refine ⟨_, rfl, k ((z0 :: zr) ++ [(q, t1, t2)]) p _ (by rw [List.length_append]; exact Nat.le_refl _) (hv.app ⟨⟨t1a, t1b⟩, ⟨t2a, t2b⟩, ht⟩) (draw_put pd' plg pcl DB) (kept_put (kept_none kB pd' plg np) kB) (kept_none kB pd' plg np) (by rw [upd_same, ← rf_app]) (((p9.same s9B).app (sB _ _ eA)).same (same_upd np))⟩
            · refine ⟨_, rfl, _, rfl, k (z0 :: zr) l _ (Nat.le_succ _) hv D9 kx9 nl e9 p9⟩
end
end K03


set_option Elab.async false
set_option maxRecDepth 100000
set_option maxHeartbeats 4000000
set_option linter.all false
namespace K03
open PySem PySem.Spec PyProof.Rows L2 NetM LamX
/-! what stays where tables of code may grow -/
section
variable {K : PySem.W.Frag} {H H' : Hp}
theorem TyX.ext (s : ExtN H H') {x : L2.V} {t : Value} (h : TyX K H x t) : TyX K H' x t := by
  cases h with
  | base h =>
    refine .base ?_
    cases h with
    | non => exact .non
    | bl x => exact .bl x
    | int x => exact .int x
    | str x => exact .str x
    | flt x => exact .flt x
    | lst e => exact .lst (s _ _ e (fun _ z => by cases z))
    | frz e => exact .frz (s _ _ e (fun _ z => by cases z))
    | tup e => exact .tup (s _ _ e (fun _ z => by cases z))
    | dK e => exact .dK (s _ _ e (fun _ z => by cases z))
    | dT e => exact .dT (s _ _ e (fun _ z => by cases z))
    | ins e c a b d f => exact .ins (s _ _ e (fun _ z => by cases z)) c a b d f
  | byt b => exact .byt b
  | set e => exact .set (s _ _ e (fun _ z => by cases z))
  | kList e c => exact .kList e c
  | kTuple e c => exact .kTuple e c
  | kDict e c => exact .kDict e c
  | fTuple e => exact .fTuple (s _ _ e (fun _ z => by cases z))
  | fDict e => exact .fDict (s _ _ e (fun _ z => by cases z))
theorem sqt_ext (s : ExtN H H') {a : Addr} {xs : List L2.V} (h : SqT K H a xs) : SqT K H' a xs := by
  rcases h with (h | ⟨o, h⟩) | h
  · exact .inl (.inl (s _ _ h (fun _ z => by cases z)))
  · exact .inl (.inr ⟨o, s _ _ h (fun _ z => by cases z)⟩)
  · exact .inr h
theorem sql_ext (s : ExtN H H') {a : Addr} {xs : List L2.V} (h : SqL K H a xs) : SqL K H' a xs := by
  rcases h with (h | ⟨o, h⟩) | h
  · exact .inl (.inl (s _ _ h (fun _ z => by cases z)))
  · exact .inl (.inr ⟨o, s _ _ h (fun _ z => by cases z)⟩)
  · exact .inr h
theorem sqa_ext (s : ExtN H H') {a : Addr} {xs : List L2.V} (h : SqA K H a xs) : SqA K H' a xs := by
  rcases h with h | h
  · exact .inl (sql_ext s h)
  · exact .inr (sqt_ext s h)
theorem prt_ext (s : ExtN H H') {zs : Zs} (p : PrT K H zs) : PrT K H' zs := fun z m => sqt_ext s (p z m)
theorem pra_ext (s : ExtN H H') {zs : Zs} (p : PrA K H zs) : PrA K H' zs := fun z m => sqa_ext s (p z m)
theorem pl_ext (s : ExtN H H') {zs : Zs} (p : PL H zs) : PL H' zs := fun z m => s _ _ (p z m) (fun _ z => by cases z)
theorem EndJ.ext (s : ExtN H H') {n : Int} {x : L2.V} {o : Option Int} : EndJ K H n x o → EndJ K H' n x o
  | .ok h => .ok h
  | .out h => .out h
  | .no h hb hc z => .no (TyX.ext s h) hb hc z
theorem ArJ.ext (s : ExtN H H') {n : Int} {x : L2.V} {o : Bool} : ArJ K H n x o → ArJ K H' n x o
  | .no h z => .no (TyX.ext s h) z
  | .many h z => .many (sqa_ext s h) z
  | .two h h0 h1 => .two (sqa_ext s h) (h0.ext s) (h1.ext s)
theorem ArL.ext (s : ExtN H H') {n : Int} : ∀ {xs : List L2.V} {bs : List Bool}, ArL K H n xs bs → ArL K H' n xs bs
  | _, _, .nil => .nil
  | _, _, .cons h r => .cons (h.ext s) (r.ext s)
theorem ArV.ext (s : ExtN H H') {n : Nat} {x : L2.V} {o : Option Zs} (h : ArV K H n x o) : ArV K H' n x o := by
  cases h with
  | no h z => exact .no (TyX.ext s h) z
  | bad h ha hl z => exact .bad (sqa_ext s h) (ha.ext s) hl z
  | ok h hp hl hE => exact .ok (sqa_ext s h) (pra_ext s hp) hl hE
theorem BadPl.ext (s : ExtN H H') {x : L2.V} (h : BadPl K H x) : BadPl K H' x := by
  obtain ⟨t, b, c, a1, a2, a3, a4⟩ := h
  exact ⟨t, b, c, TyX.ext s a1, a2, a3, a4⟩
theorem NetAt.ext {CN : Addr} (s : ExtN H H') {x : Addr} {n : Nat} {zs : List (Int × Int)} (h : NetAt K CN H x n zs) : NetAt K CN H' x n zs := by
  obtain ⟨dx, t, ws, a, b, c, d⟩ := h
  exact ⟨dx, t, ws, s _ _ a (fun _ z => by cases z), s _ _ b (fun _ z => by cases z), prt_ext s c, d⟩
theorem NoNet.ext {CN : Addr} (s : ExtN H H') {x : L2.V} (h : NoNet K CN H x) : NoNet K CN H' x := by
  obtain ⟨t, a, b⟩ := h
  exact ⟨t, TyX.ext s a, b⟩
theorem draw_ext (s : ExtN H H') {d lg cl : Addr} (D : DrawAt H d lg cl) : DrawAt H' d lg cl := by
  obtain ⟨⟨r, t, hd⟩, ⟨L, hL, hl⟩, ⟨M, hM, hc⟩, ncl⟩ := D
  exact ⟨⟨r, t, s _ _ hd (fun _ z => by cases z)⟩, ⟨L, hL, s _ _ hl (fun _ z => by cases z)⟩, ⟨M, hM, s _ _ hc (fun _ z => by cases z)⟩, ncl⟩
end
/-- kept but for the draws and the tables -/
def KeptN (d lg : Addr) (H H' : Hp) : Prop := ∀ b o, H b = some o → b ≠ d → b ≠ lg → (∀ ps, o ≠ .tbl ps) → H' b = some o
theorem KeptN.refl {d lg : Addr} {H : Hp} : KeptN d lg H H := fun _ _ e _ _ _ => e
theorem KeptN.trans {d lg : Addr} {H H1 H2 : Hp} (a : KeptN d lg H H1) (b : KeptN d lg H1 H2) : KeptN d lg H H2 := fun x o e h1 h2 n => b x o (a x o e h1 h2 n) h1 h2 n
theorem Kept.n {d lg : Addr} {H H' : Hp} (k : Kept d lg H H') : KeptN d lg H H' := fun b o e h1 h2 _ => k b o e h1 h2
theorem KeptN.ext {d lg : Addr} {H H' : Hp} (k : ExtN H H') : KeptN d lg H H' := fun b o e _ _ n => k b o e n
theorem KeptN.same {d lg : Addr} {H H' : Hp} (k : Same H H') : KeptN d lg H H' := fun b o e _ _ _ => k b o e
theorem ExtN.same {H H' : Hp} (k : Same H H') : ExtN H H' := fun b o e _ => k b o e
theorem Tabs.kept {T : List (Addr × Str)} {d lg cl : Addr} {H H' : Hp} (D : DrawAt H d lg cl) (k : Kept d lg H H') (t : Tabs T H) : Tabs T H' := fun p hp => by
  obtain ⟨⟨r, t', hd⟩, ⟨L, hL, hl⟩, _, _⟩ := D
  obtain ⟨ps, h1, h2, h3⟩ := t p hp
  have key : ∀ b o, H b = some o → (∀ kvs, o ≠ .dK kvs) → (∀ xs, o ≠ .lst xs) → H' b = some o := fun b o e n1 n2 => k b o e (fun z => by rw [z, hd] at e; exact n1 _ (Option.some.inj e).symm) (fun z => by rw [z, hl] at e; exact n2 _ (Option.some.inj e).symm)
  refine ⟨ps, key _ _ h1 (fun _ z => by cases z) (fun _ z => by cases z), h2, fun pos cv hc => ?_⟩
  obtain ⟨c, e1, e2⟩ := h3 pos cv hc
  exact ⟨c, e1, key _ _ e2 (fun _ z => by unfold CodeO at z; cases z) (fun _ z => by unfold CodeO at z; cases z)⟩
/-! a(e, ..), a holding a def of the text -/
def tCallV (P : Program) (w : World) (K : PySem.W.Frag) (mg : Str → Option Value) (base : Heap) (CX : CXT) (k i : Nat) (E : XK) (t : TA) : TE := fun σ H Q => ∃ (f : Addr) (fd : FuncData) (ps : List Str) (sp : Sp), FnOk P w K mg base CX k f fd ps sp ∧ PySem.W.keepIn K (.ref f) = true ∧ L2.Binds K fd ps [] ∧
  σ[i]? = some (some (.ref f)) ∧ t σ H fun vs H1 => sp vs H1 Q E
theorem pe_callVar {X : Cx} {CX : CXT} {k i : Nat} {E : XK} {a : Str} {e : Expr} {es : List Expr} {t : TA} {p pos : Pos} (hr : Room k X.A) (hx : Passes CX X E) (hN : X.N[i]? = some a) (hv : Vis X.env.scope a) (ha : PA X (e :: es) t)
    (hd : (a == ("__debug__" : Str)) = false := by decide) (hcd : (a == ("__classdict__" : Str)) = false := by decide) (he : starEach (e :: es) X.env = (false, eval e X.env) :: starEach es X.env := by rfl) (hpl : (backTo pos (starEach es X.env)).any (·.1) = false := by rfl) :
    PE X (.Call (.Name a p) (e :: es) [] pos) (tCallV X.prog X.w X.K X.mg X.base CX k i E t) := by
  refine ⟨fun pins s σ H Q I h => ?_⟩
  obtain ⟨f, fd, ps, sp, F, hk, hb, hs, ht⟩ := h
  refine wpAny_Call_Name_kw (thn ((pe_var (pos := p) (i := i) hN hv hd hcd).run pins s σ H (fun v H1 => v = .ref f ∧ H1 = H) I ⟨.ref f, hs, rfl, rfl⟩) fun u s1 ⟨v, H1, I1, r1, q1⟩ => ?_)
  obtain ⟨ev, eH⟩ := q1
  subst ev
  rw [eH] at I1
  obtain rfl : u = Value.ref f := r1
  refine PySem.W.callWith_K (h₀ := X.base) I1.ok.mod.kin hk (thn (ha.run pos pins s1 σ H _ I1 ht) fun us s2 ⟨vs, H2, I2, r, q⟩ => ⟨I2.kIn, ?_⟩) he hpl
  exact run_fn (dvs := []) F hr hb .nil hx I2 r (by rw [List.append_nil]; exact q)
/-! a def whose code object is known -/
structure FunC (K : PySem.W.Frag) (x qual : Str) (st : Stmt) (f : Addr) (fd : FuncData) (c : Addr) : Prop where
  ex : ∃ (oc : Value) (od : Option Addr) (kV doc pm : Value) (an : Option Addr) (ct : Value) (osl : Array (Option Value)),
    fd = PySem.W.fnOf x qual (defArgs st) (defBody st) (defScope st) .none kV doc pm an (.ref c) ct ∧ K.lookup f = some ⟨oc, od, .func fd, osl⟩ ∧ PySem.W.codeIn K (.ref c) qual = true
  kp : PySem.W.keepIn K (.ref f) = true
theorem FunC.f {K : PySem.W.Frag} {x qual : Str} {st : Stmt} {f : Addr} {fd : FuncData} {c : Addr} (F : FunC K x qual st f fd c) : Fun K x qual st f fd := by
  obtain ⟨oc, od, kV, doc, pm, an, ct, osl, a, b, d⟩ := F.ex
  exact ⟨⟨oc, od, kV, doc, pm, an, _, ct, osl, a, b, d⟩, F.kp⟩
theorem FunC.ok {P : Program} {w : World} {K : PySem.W.Frag} {mg : Str → Option Value} {base : Heap} {x qual : Str} {st : Stmt} {f c : Addr} {fd : FuncData} {N ps : List Str} {k : Nat} {sp : Sp} (F : FunC K x qual st f fd c) (S : FnScope N ps (defScope st)) (len : ∀ vs H Q E, sp vs H Q E → vs.length = ps.length)
    (hbody : ∀ (A : Around) (outer : List Env) (s : Shared) (H : Hp) (vs : List L2.V) (Q : VK) (E : XK), Room k (A.deeper (envOfC qual (defScope st) s.heap.objs.size f (.ref c))) → sp vs H Q E →
      ∃ t, PSs (cxOf L2.CX0 P w K mg base N qual (defScope st) f (.ref c) A outer s H E).nox (defBody st) t ∧ t { nx := fun _ H' => Q .non H', rt := Q } (L2.start N vs) H) : FnOk P w K mg base L2.CX0 (k + 1) f fd ps sp := by
  obtain ⟨oc, od, kV, doc, pm, an, ct, osl, rfl, lk, hcd⟩ := F.ex
  refine fn_of lk hcd S len fun A outer s H vs Q E hr hsp => ?_
  obtain ⟨t, h, q⟩ := hbody A outer s H vs Q E hr hsp
  exact ⟨t, h.nox, q⟩
end K03


set_option Elab.async false
set_option maxRecDepth 100000
set_option maxHeartbeats 8000000
set_option linter.all false
namespace K03
open PySem PySem.Spec PyProof.Rows L2 NetM LamX GL
abbrev sRef : Stmt := top 31
theorem scRef : FnScope ["draw", "odd", "bad", "work", "error"] ["draw"] (defScope sRef) := ⟨rfl, rfl, rfl, by decide +kernel, rfl, by decide +kernel, by decide +kernel⟩
def BadA (K : PySem.W.Frag) (H : Hp) (x : L2.V) : Prop := ∃ o, ArV K H 2 x o ∧ ∀ zs, o = some zs → ¬ Good zs 2
theorem BadA.ext {K : PySem.W.Frag} {H H' : Hp} (s : ExtN H H') {x : L2.V} (h : BadA K H x) : BadA K H' x := by
  obtain ⟨o, a, b⟩ := h
  exact ⟨o, a.ext s, b⟩
theorem ka_int (K : PySem.W.Frag) : PySem.W.kitAny K (.type "int") [.type "list", .type "tuple"] = some false := by kernel_rfl
theorem ka_non (K : PySem.W.Frag) : PySem.W.kitAny K (.type "NoneType") [.type "list", .type "tuple"] = some false := by kernel_rfl
theorem ka_str (K : PySem.W.Frag) : PySem.W.kitAny K (.type "str") [.type "list", .type "tuple"] = some false := by kernel_rfl
theorem ko_non (K : PySem.W.Frag) : PySem.W.kitOne K (.type "NoneType") (.type "int") = some false ∧ PySem.W.kitOne K (.type "NoneType") (.type "bool") = some false := ⟨by kernel_rfl, by kernel_rfl⟩
theorem ko_str (K : PySem.W.Frag) : PySem.W.kitOne K (.type "str") (.type "int") = some false ∧ PySem.W.kitOne K (.type "str") (.type "bool") = some false := ⟨by kernel_rfl, by kernel_rfl⟩
theorem ko_tup (K : PySem.W.Frag) : PySem.W.kitOne K (.type "tuple") (.type "int") = some false ∧ PySem.W.kitOne K (.type "tuple") (.type "bool") = some false := ⟨by kernel_rfl, by kernel_rfl⟩
section
variable {K : PySem.W.Frag} {H : Hp}
theorem badA_val {x : L2.V} {t : Value} (h : TyX K H x t) (z : PySem.W.kitAny K t [.type "list", .type "tuple"] = some false) : BadA K H x := ⟨none, .no h z, fun _ e => by cases e⟩
theorem badA_lst {a : Addr} {xs : List L2.V} {bs : List Bool} (h : H a = some (.lst xs)) (ha : ArL K H 2 xs bs) (hl : xs.length < 1000) (z : (decide (xs.length ≤ 12) && bs.all id) = false) : BadA K H (.ref a) := ⟨none, .bad (.inl (SqL.of h)) ha hl z, fun _ e => by cases e⟩
theorem badA_nil {a : Addr} (h : H a = some (.lst [])) : BadA K H (.ref a) :=
  ⟨some [], .ok (.inl (SqL.of h)) (fun z m => by simp at m) (by decide) (fun t h m => by simp [nums] at m), fun zs e g => by
    cases e
    exact absurd g.1 (by decide)⟩
theorem sqa_tup {a : Addr} {xs : List L2.V} (h : H a = some (.tup xs)) : SqA K H a xs := .inr (SqT.of h)
theorem arl1 {x : L2.V} {b : Bool} (h : ArJ K H 2 x b) : ArL K H 2 [x] [b] := .cons h .nil
theorem arl_rep {x : L2.V} {b : Bool} (h : ArJ K H 2 x b) : ∀ n, ArL K H 2 (List.replicate n x) (List.replicate n b)
  | 0 => .nil
  | n + 1 => .cons h (arl_rep h n)
theorem e_int (i : Int) (h : 0 ≤ i ∧ i ≤ 1) : EndJ K H 2 (.int i) (some i) := .ok ⟨h.1, h.2⟩
theorem e_out (i : Int) (h : ¬ (0 ≤ i ∧ i ≤ 1)) : EndJ K H 2 (.int i) none := .out h
theorem e_bl (b : Bool) : EndJ K H 2 (.bl b) none := .no (.base (.bl b)) (num_bool K).1 (num_bool K).2 rfl
theorem e_non : EndJ K H 2 .non none := .no (.base .non) (ko_non K).1 (ko_non K).2 rfl
theorem badP_non : BadPl K H .non := ⟨_, _, _, .base .non, (ko_non K).1, (ko_non K).2, .inl rfl⟩
theorem badP_bl (b : Bool) : BadPl K H (.bl b) := ⟨_, _, _, .base (.bl b), (num_bool K).1, (num_bool K).2, .inl rfl⟩
theorem badP_int (i : Int) (h : ¬ (1 ≤ i ∧ i ≤ 8)) : BadPl K H (.int i) := ⟨_, _, _, .base (.int i), (num_int K).1, (num_int K).2, .inr ⟨rfl, i, rfl, h⟩⟩
theorem badP_str (x : Str) : BadPl K H (.str x) := ⟨_, _, _, .base (.str x), (ko_str K).1, (ko_str K).2, .inl rfl⟩
theorem badP_tup {a : Addr} {xs : List L2.V} (h : H a = some (.tup xs)) : BadPl K H (.ref a) := ⟨_, _, _, ty_tup (SqT.of h), (ko_tup K).1, (ko_tup K).2, .inl rfl⟩
end
theorem mk_sp {K : PySem.W.Frag} {CN CB : Addr} {pl ar : L2.V} {H : Hp} {Q2 : VK} {E : XK} {x dx : Addr} (nx : H x = none) (ndx : H dx = none) (ne : dx ≠ x)
    (h : (BadPl K H pl ∧ Rz CB H E (.str "places")) ∨ ∃ (n : Nat) (o : Option Zs), pl = .int n ∧ 0 < n ∧ n ≤ 8 ∧ ArV K H n ar o ∧ ((∀ zs, o = some zs → ¬ Good zs n) → Rz CB H E (.str "arrows")) ∧
      (∀ zs, o = some zs → Good zs n → ∀ (H' : Hp), NetAt K CN H' x n (nums zs) → Same H H' → Q2 .non H')) : spNetInit K CN CB [.ref x, pl, ar] (upd (upd H dx (.own x)) x (.ins CN dx [])) Q2 E := by
  have s : Same H (upd (upd H dx (.own x)) x (.ins CN dx [])) := fun b o e => by
    rw [upd_ne (ne_of_none e nx), upd_ne (ne_of_none e ndx)]
    exact e
  refine ⟨x, dx, pl, ar, rfl, upd_same, ?_⟩
  rcases h with ⟨h, hR⟩ | ⟨n, o, rfl, n0, n8, hA, hR, k⟩
  · exact .inl ⟨h.same s, hR.same s⟩
  · refine .inr ⟨n, o, rfl, n0, n8, hA.same s, fun z => (hR z).same s, fun zs e g H' hN k' => k zs e g H' hN fun b u eb => k' b u (s b u eb) (ne_of_none eb nx)⟩
/-- all that the text says where Nets are made and refused -/
structure Txt (P : Program) (w : World) (K : PySem.W.Frag) (mg : Str → Option Value) (base : Heap) where
  CN : Addr
  CB : Addr
  CW : Addr
  fE : Addr
  fP : Addr
  fC : Addr
  fK : Addr
  dK : FuncData
  net : NetE K mg CN fE
  mkn : MkN P w K mg base CN CB
  bad : BadN K CB CW
  gB : mg "BadNet" = some (.ref CB)
  part : TakesV P w K mg base 2 fP (TTp K CB CW)
  gP : mg "_law_part" = some (.ref fP)
  kP : PySem.W.keepIn K (.ref fP) = true
  caught : TakesV P w K mg base 1 fC (TTc K CW)
  gC : mg "_law_caught" = some (.ref fC)
  kC : PySem.W.keepIn K (.ref fC) = true
  pick : FnOk P w K mg base CX0 3 fK dK ["draw", "some"] spPick
  gK : mg "_law_pick" = some (.ref fK)
  kK : PySem.W.keepIn K (.ref fK) = true
  bK : L2.Binds K dK ["draw", "some"] []
  mLen : mg "len" = none
  mIs : mg "isinstance" = none
  noN : PySem.W.kitOne K (.type "NoneType") (.ref CN) = some false
  noI : PySem.W.kitOne K (.type "int") (.ref CN) = some false
  noT : PySem.W.kitOne K (.type "tuple") (.ref CN) = some false
  noD : PySem.W.kitOne K (.type "dict") (.ref CN) = some false
/-- a def that refuses what is no Net -/
def Refuses (P : Program) (w : World) (K : PySem.W.Frag) (mg : Str → Option Value) (base : Heap) (CN CB f : Addr) : Prop :=
  ∃ (fd : FuncData) (sp : Sp), FnOk P w K mg base (L2.CX P w) 6 f fd ["net"] sp ∧ PySem.W.keepIn K (.ref f) = true ∧ L2.Binds K fd ["net"] [] ∧ ∀ x H Q E, NoNet K CN H x → Rz CB H E .non → sp [x] H Q E
def spRef (T : List (Addr × Str)) : Sp := fun vs H Q _ => ∃ (d lg cl : Addr), vs = [.ref d] ∧ DrawAt H d lg cl ∧ Tabs T H ∧ ∀ H', DrawAt H' d lg cl → KeptN d lg H H' → Tabs T H' → Q (.bl true) H'
def kbN (K : PySem.W.Frag) (fd : FuncData) : Prop := KBn K fd ["self", "places", "arrows"] 1 ["arrows", "places"] (fun us ws => match us, ws with | [x], [a, p] => [x, p, a] | _, _ => us) (fun us ws => match us, ws with | [x], [a, p] => [x, p, a] | _, _ => us)
section
variable {P : Program} {w : World} {K : PySem.W.Frag} {mg : Str → Option Value} {base : Heap}
theorem ok_ref {f c PR : Addr} {fd : FuncData} {T : List (Addr × Str)} (F : FunC K "_law_refused" "_law_refused" sRef f fd c) (X : Txt P w K mg base) (TB : TabB base mg c PR) (hmT : (PR, ("_law_refused" : Str) ++ ".<locals>." ++ "<lambda>") ∈ T) (hu : ∀ p ∈ T, p.1 = PR → p.2 = ("_law_refused" : Str) ++ ".<locals>." ++ "<lambda>")
    (kb : kbN K X.mkn.fd) {f0 f1 f2 f3 : Addr} (g0 : mg "sinks" = some (.ref f0)) (g1 : mg "sources" = some (.ref f1)) (g2 : mg "is_tree" = some (.ref f2)) (g3 : mg "turned_net" = some (.ref f3))
    (R0 : Refuses P w K mg base X.CN X.CB f0) (R1 : Refuses P w K mg base X.CN X.CB f1) (R2 : Refuses P w K mg base X.CN X.CB f2) (R3 : Refuses P w K mg base X.CN X.CB f3) : FnOk P w K mg base CX0 9 f fd ["draw"] (spRef T) := by
  refine F.ok scRef (fun vs H Q E h => ?_) (fun A outer s H vs Q E hr h => ?_)
  · obtain ⟨d, lg, cl, rfl, _⟩ := h
    rfl
  · obtain ⟨d, lg, cl, rfl, D, hT, k⟩ := h
    have nd := scRef.nd
    have r3 : Room 3 _ := hr.mono (by decide)
    have r5 : Room 5 _ := hr.mono (by decide)
    refine ⟨_, pss_cons (ps_set (i := 1) nd rfl (Or.inr rfl) (pe_call X.pick r3 (by rfl) X.gK X.kK X.bK .nil pass0 (pa_cons (pv 0) (pa_cons (pe_lst (pa_cons pe_non (pa_cons pe_bl (pa_cons pe_int (pa_cons pe_int (pa_cons (pe_un un_neg pe_int) (pa_cons pe_str (pa_cons (pe_tup (pa_cons pe_int pa_nil)) pa_nil)))))))) pa_nil))))
      (pss_cons (ps_for PassesOwn.never rfl (pi_list (pe_lst (pa_cons pe_non (pa_cons (pe_lst (pa_cons (pe_tup (pa_cons pe_int (pa_cons pe_int pa_nil))) pa_nil)) (pa_cons (pe_lst (pa_cons (pe_tup (pa_cons pe_int (pa_cons pe_int pa_nil))) pa_nil)) (pa_cons (pe_lst (pa_cons (pe_tup (pa_cons pe_int (pa_cons pe_int (pa_cons pe_int pa_nil)))) pa_nil))
            (pa_cons (pe_lst (pa_cons pe_int pa_nil)) (pa_cons (pe_lst (pa_cons pe_str pa_nil)) (pa_cons (pe_lst (pa_cons (pe_tup (pa_cons pe_bl (pa_cons pe_int pa_nil))) pa_nil)) (pa_cons (pe_op op_repN (pe_lst (pa_cons (pe_tup (pa_cons pe_int (pa_cons pe_int pa_nil))) pa_nil)) pe_int) (pa_cons (pe_lst pa_nil) (pa_cons (pe_lst (pa_cons (pe_tup (pa_cons pe_int (pa_cons pe_non pa_nil))) pa_nil)) pa_nil)))))))))))) (pg_name (i := 2) nd rfl (Or.inr rfl))
          (pss_cons (ps_if (pt_cmpR op_ne (pe_lamV (k := 5) (by rfl) X.gP X.kP X.part TB rfl hmT hu hr (lamS_by (sc := defScope sRef) (by decide +kernel)) rfl (fun _ _ _ _ _ => rfl)
              (fun A outer s H E f c' hr2 => pe_make X.mkn.m X.mkn.ok hr2 (by rfl) X.net.t.g X.mkn.b .nil (passes_call (takes_of rfl rfl rfl rfl) fun _ _ _ _ h => h) (pa_cons pe_int (pa_cons (pv 2) pa_nil)))) pe_str (nomark _)) (pss_one (ps_ret pe_bl)) pss_nil)
          (pss_one (ps_if (pt_cmpR op_ne (pe_lamV (k := 5) (by rfl) X.gP X.kP X.part TB rfl hmT hu hr (lamS_by (sc := defScope sRef) (by decide +kernel)) rfl (fun _ _ _ _ _ => rfl)
              (fun A outer s H E f c' hr2 => pe_makeK0 X.mkn.m X.mkn.ok hr2 (by rfl) X.net.t.g kb (passes_call (takes_of rfl rfl rfl rfl) fun _ _ _ _ h => h) (pk_cons (pv 2) (pk_cons (pv 1) pk_nil)))) pe_str (nomark _)) (pss_one (ps_ret pe_bl)) pss_nil))))
      (pss_cons (ps_if (pt_cmpR op_ne (pe_callB call_len_seq (by rfl) X.mLen PySem.boot_len (pa_cons (pe_fld (pe_make X.mkn.m X.mkn.ok r5 (by rfl) X.net.t.g X.mkn.b .nil (passes_call LamX.takes0 fun _ _ _ _ h => h) (pa_cons pe_int (pa_cons (pe_op op_repN (pe_lst (pa_cons (pe_tup (pa_cons pe_int (pa_cons pe_int pa_nil))) pa_nil)) pe_int) pa_nil))) rfl) pa_nil)) pe_int (nomark _)) (pss_one (ps_ret pe_bl)) pss_nil)
      (pss_cons (ps_for PassesOwn.never rfl (pi_list (pe_lst (pa_cons (pe_glob (v := .ref f0) (by rfl) g0 rfl) (pa_cons (pe_glob (v := .ref f1) (by rfl) g1 rfl) (pa_cons (pe_glob (v := .ref f2) (by rfl) g2 rfl) (pa_cons (pe_glob (v := .ref f3) (by rfl) g3 rfl) pa_nil)))))) (pg_name (i := 3) nd rfl (Or.inr rfl))
          (pss_cons (ps_set (i := 4) nd rfl (Or.inl rfl) (pe_lamV (k := 6) (by rfl) X.gC X.kC X.caught TB rfl hmT hu hr (lamS_by (sc := defScope sRef) (by decide +kernel)) rfl (fun _ _ _ _ _ => rfl)
              (fun A outer s H E f c' hr2 => show PE (lamCx _ A outer s H E _ f c') _ (tCallV P w K mg base (L2.CX P w) 6 3 E _) from pe_callVar (X := lamCx _ A outer s H E _ f c') (i := 3) (a := "work") hr2 (passes_call (takes_of rfl rfl rfl rfl) fun _ _ _ _ h => h) rfl (.inr (.inr rfl)) (pa_cons (pe_call X.pick (hr2.mono (by decide)) (by rfl) X.gK X.kK X.bK .nil pass0 (pa_cons (pv 0) (pa_cons (pe_lst (pa_cons pe_non (pa_cons pe_int (pa_cons (pe_tup (pa_cons pe_int (pa_cons (pe_lst pa_nil) pa_nil))) (pa_cons pe_dnewK pa_nil))))) pa_nil))) pa_nil))))
          (pss_one (ps_if (PW.pt (pw_or (pt_not (pt_val (pe_callB call_isR (by rfl) X.mIs (by decide +kernel) (pa_cons (pv 4) (pa_cons (pe_glob (v := .ref X.CB) (by rfl) X.gB rfl) pa_nil))))) (pw_or1 (pt_cmpR op_notN (pe_rfld (pv 4)) pe_non (nomark _))))) (pss_one (ps_ret pe_bl)) pss_nil))))
      (pss_one (ps_ret pe_bl))))), ?_⟩
    -- odd
    refine ⟨_, rfl, _, rfl, by show 1 ≤ sizeLine; decide, fun p np => ?_⟩
    have sA : Same H (upd H p (.tup [.int 2])) := same_upd np
    have eA : (upd H p (.tup [.int 2])) p = some (.tup [.int 2]) := upd_same
    generalize upd H p (.tup [.int 2]) = HA at sA eA
    refine ⟨by show 7 ≤ sizeLine; decide, fun q nq => ?_⟩
    have sB : Same HA (upd HA q (.lst [.non, .bl true, .int 0, .int 9, .int (-1), .str "2", .ref p])) := same_upd nq
    have eB : (upd HA q (.lst [.non, .bl true, .int 0, .int 9, .int (-1), .str "2", .ref p])) q = some (.lst [.non, .bl true, .int 0, .int 9, .int (-1), .str "2", .ref p]) := upd_same
    have DA := draw_same sA D
    obtain ⟨_, qlg, _⟩ := draw_new DA nq
    generalize upd HA q (.lst [.non, .bl true, .int 0, .int 9, .int (-1), .str "2", .ref p]) = HB at sB eB
    have DB := draw_same sB DA
    have kB : KeptN d lg H HB := KeptN.same (sA.trans sB)
    have tB : Tabs T HB := hT.ext (sA.trans sB)
    refine ⟨d, lg, cl, q, _, rfl, DB, eB, qlg, by show 0 < 7; decide, by show 7 < 1000; decide, fun i odd H1 hi D1 k1 => ?_⟩
    have ep1 : H1 p = some (.tup [.int 2]) := k1 _ _ (sB _ _ eA) (fun z => by obtain ⟨⟨r, t, hd⟩, _⟩ := DB; have e := sB _ _ eA; rw [z, hd] at e; cases e) (fun z => by obtain ⟨_, ⟨L, _, hl⟩, _⟩ := DB; have e := sB _ _ eA; rw [z, hl] at e; cases e)
    have ho : BadPl K H1 odd := by
      match i, hi with
      | 0, hi => cases hi; exact badP_non
      | 1, hi => cases hi; exact badP_bl _
      | 2, hi => cases hi; exact badP_int _ (by decide)
      | 3, hi => cases hi; exact badP_int _ (by decide)
      | 4, hi => cases hi; exact badP_int _ (by decide)
      | 5, hi => cases hi; exact badP_str _
      | 6, hi => cases hi; exact badP_tup ep1
      | n + 7, hi => simp at hi
    have kx1 : KeptN d lg H H1 := kB.trans k1.n
    have tx1 : Tabs T H1 := Tabs.kept DB k1 tB
    clear hi k1 ep1 tB kB DB qlg eB sB eA sA DA nq np
    -- the bad ones
    refine ⟨by show 2 ≤ sizeLine; decide, fun o0 no0 => ?_⟩
    have S0 : Same H1 (upd H1 o0 (.tup [.int 0, .int 0])) := same_upd no0
    have e0 : (upd H1 o0 (.tup [.int 0, .int 0])) o0 = some (.tup [.int 0, .int 0]) := upd_same
    generalize upd H1 o0 (.tup [.int 0, .int 0]) = G0 at S0 e0
    refine ⟨by show 1 ≤ sizeLine; decide, fun o1 no1 => ?_⟩
    have S1 : Same G0 (upd G0 o1 (.lst [.ref o0])) := same_upd no1
    have e1 : (upd G0 o1 (.lst [.ref o0])) o1 = some (.lst [.ref o0]) := upd_same
    generalize upd G0 o1 (.lst [.ref o0]) = G1 at S1 e1
    have b1 : BadA K G1 (.ref o1) := badA_lst e1 (arl1 (.two (sqa_tup (S1 _ _ e0)) (e_int 0 (by decide)) (e_int 0 (by decide)))) (by show 1 < 1000; decide) rfl
    refine ⟨by show 2 ≤ sizeLine; decide, fun o2 no2 => ?_⟩
    have S2 : Same G1 (upd G1 o2 (.tup [.int 0, .int 2])) := same_upd no2
    have e2 : (upd G1 o2 (.tup [.int 0, .int 2])) o2 = some (.tup [.int 0, .int 2]) := upd_same
    generalize upd G1 o2 (.tup [.int 0, .int 2]) = G2 at S2 e2
    refine ⟨by show 1 ≤ sizeLine; decide, fun o3 no3 => ?_⟩
    have S3 : Same G2 (upd G2 o3 (.lst [.ref o2])) := same_upd no3
    have e3 : (upd G2 o3 (.lst [.ref o2])) o3 = some (.lst [.ref o2]) := upd_same
    generalize upd G2 o3 (.lst [.ref o2]) = G3 at S3 e3
    have b3 : BadA K G3 (.ref o3) := badA_lst e3 (arl1 (.two (sqa_tup (S3 _ _ e2)) (e_int 0 (by decide)) (e_out 2 (by decide)))) (by show 1 < 1000; decide) rfl
    refine ⟨by show 3 ≤ sizeLine; decide, fun o4 no4 => ?_⟩
    have S4 : Same G3 (upd G3 o4 (.tup [.int 0, .int 1, .int 1])) := same_upd no4
    have e4 : (upd G3 o4 (.tup [.int 0, .int 1, .int 1])) o4 = some (.tup [.int 0, .int 1, .int 1]) := upd_same
    generalize upd G3 o4 (.tup [.int 0, .int 1, .int 1]) = G4 at S4 e4
    refine ⟨by show 1 ≤ sizeLine; decide, fun o5 no5 => ?_⟩
    have S5 : Same G4 (upd G4 o5 (.lst [.ref o4])) := same_upd no5
    have e5 : (upd G4 o5 (.lst [.ref o4])) o5 = some (.lst [.ref o4]) := upd_same
    generalize upd G4 o5 (.lst [.ref o4]) = G5 at S5 e5
    have b5 : BadA K G5 (.ref o5) := badA_lst e5 (arl1 (.many (sqa_tup (S5 _ _ e4)) (by show 3 ≠ 2; decide))) (by show 1 < 1000; decide) rfl
    refine ⟨by show 1 ≤ sizeLine; decide, fun o6 no6 => ?_⟩
    have S6 : Same G5 (upd G5 o6 (.lst [.int 0])) := same_upd no6
    have e6 : (upd G5 o6 (.lst [.int 0])) o6 = some (.lst [.int 0]) := upd_same
    generalize upd G5 o6 (.lst [.int 0]) = G6 at S6 e6
    have b6 : BadA K G6 (.ref o6) := badA_lst e6 (arl1 (.no (.base (.int 0)) (ka_int K))) (by show 1 < 1000; decide) rfl
    refine ⟨by show 1 ≤ sizeLine; decide, fun o7 no7 => ?_⟩
    have S7 : Same G6 (upd G6 o7 (.lst [.str "01"])) := same_upd no7
    have e7 : (upd G6 o7 (.lst [.str "01"])) o7 = some (.lst [.str "01"]) := upd_same
    generalize upd G6 o7 (.lst [.str "01"]) = G7 at S7 e7
    have b7 : BadA K G7 (.ref o7) := badA_lst e7 (arl1 (.no (.base (.str "01")) (ka_str K))) (by show 1 < 1000; decide) rfl
    refine ⟨by show 2 ≤ sizeLine; decide, fun o8 no8 => ?_⟩
    have S8 : Same G7 (upd G7 o8 (.tup [.bl true, .int 0])) := same_upd no8
    have e8 : (upd G7 o8 (.tup [.bl true, .int 0])) o8 = some (.tup [.bl true, .int 0]) := upd_same
    generalize upd G7 o8 (.tup [.bl true, .int 0]) = G8 at S8 e8
    refine ⟨by show 1 ≤ sizeLine; decide, fun o9 no9 => ?_⟩
    have S9 : Same G8 (upd G8 o9 (.lst [.ref o8])) := same_upd no9
    have e9 : (upd G8 o9 (.lst [.ref o8])) o9 = some (.lst [.ref o8]) := upd_same
    generalize upd G8 o9 (.lst [.ref o8]) = G9 at S9 e9
    have b9 : BadA K G9 (.ref o9) := badA_lst e9 (arl1 (.two (sqa_tup (S9 _ _ e8)) (e_bl true) (e_int 0 (by decide)))) (by show 1 < 1000; decide) rfl
    refine ⟨by show 2 ≤ sizeLine; decide, fun o10 no10 => ?_⟩
    have S10 : Same G9 (upd G9 o10 (.tup [.int 0, .int 1])) := same_upd no10
    have e10 : (upd G9 o10 (.tup [.int 0, .int 1])) o10 = some (.tup [.int 0, .int 1]) := upd_same
    generalize upd G9 o10 (.tup [.int 0, .int 1]) = G10 at S10 e10
    refine ⟨by show 1 ≤ sizeLine; decide, fun o11 no11 => ?_⟩
    have S11 : Same G10 (upd G10 o11 (.lst [.ref o10])) := same_upd no11
    have e11 : (upd G10 o11 (.lst [.ref o10])) o11 = some (.lst [.ref o10]) := upd_same
    generalize upd G10 o11 (.lst [.ref o10]) = G11 at S11 e11
    refine ⟨o11, 13, _, rfl, rfl, e11, by simp, by decide, by decide, by show 1 ≤ 1000; decide, fun o12 no12 _ => ?_⟩
    have S12 : Same G11 (upd G11 o12 (.lst (List.replicate 13 (.ref o10)))) := same_upd no12
    have e12 : (upd G11 o12 (.lst (List.replicate 13 (.ref o10)))) o12 = some (.lst (List.replicate 13 (.ref o10))) := upd_same
    have r12 : upd G11 o12 (.lst (List.replicate (13 : Int).toNat [L2.V.ref o10]).flatten) = upd G11 o12 (.lst (List.replicate 13 (.ref o10))) := rfl
    rw [r12]
    generalize upd G11 o12 (.lst (List.replicate 13 (.ref o10))) = G12 at S12 e12
    have b12 : BadA K G12 (.ref o12) := badA_lst e12 (arl_rep (.two (e0 := some 0) (e1 := some 1) (sqa_tup (S12 _ _ (S11 _ _ e10))) (e_int 0 (by decide)) (e_int 1 (by decide))) 13) (by rw [List.length_replicate]; decide) rfl
    refine ⟨by show 0 ≤ sizeLine; decide, fun o13 no13 => ?_⟩
    have S13 : Same G12 (upd G12 o13 (.lst [])) := same_upd no13
    have e13 : (upd G12 o13 (.lst [])) o13 = some (.lst []) := upd_same
    generalize upd G12 o13 (.lst []) = G13 at S13 e13
    have b13 : BadA K G13 (.ref o13) := badA_nil e13
    refine ⟨by show 2 ≤ sizeLine; decide, fun o14 no14 => ?_⟩
    have S14 : Same G13 (upd G13 o14 (.tup [.int 0, .non])) := same_upd no14
    have e14 : (upd G13 o14 (.tup [.int 0, .non])) o14 = some (.tup [.int 0, .non]) := upd_same
    generalize upd G13 o14 (.tup [.int 0, .non]) = G14 at S14 e14
    refine ⟨by show 1 ≤ sizeLine; decide, fun o15 no15 => ?_⟩
    have S15 : Same G14 (upd G14 o15 (.lst [.ref o14])) := same_upd no15
    have e15 : (upd G14 o15 (.lst [.ref o14])) o15 = some (.lst [.ref o14]) := upd_same
    generalize upd G14 o15 (.lst [.ref o14]) = G15 at S15 e15
    have b15 : BadA K G15 (.ref o15) := badA_lst e15 (arl1 (.two (sqa_tup (S15 _ _ e14)) (e_int 0 (by decide)) e_non)) (by show 1 < 1000; decide) rfl
    refine ⟨by show 10 ≤ sizeLine; decide, fun o16 no16 => ?_⟩
    have S16 : Same G15 (upd G15 o16 (.lst [.non, .ref o1, .ref o3, .ref o5, .ref o6, .ref o7, .ref o9, .ref o12, .ref o13, .ref o15])) := same_upd no16
    have e16 : (upd G15 o16 (.lst [.non, .ref o1, .ref o3, .ref o5, .ref o6, .ref o7, .ref o9, .ref o12, .ref o13, .ref o15])) o16 = some (.lst [.non, .ref o1, .ref o3, .ref o5, .ref o6, .ref o7, .ref o9, .ref o12, .ref o13, .ref o15]) := upd_same
    generalize upd G15 o16 (.lst [.non, .ref o1, .ref o3, .ref o5, .ref o6, .ref o7, .ref o9, .ref o12, .ref o13, .ref o15]) = G16 at S16 e16
    have Z16 : Same G15 G16 := S16
    have Z15 : Same G14 G16 := S15.trans Z16
    have Z14 : Same G13 G16 := S14.trans Z15
    have Z13 : Same G12 G16 := S13.trans Z14
    have Z12 : Same G11 G16 := S12.trans Z13
    have Z11 : Same G10 G16 := S11.trans Z12
    have Z10 : Same G9 G16 := S10.trans Z11
    have Z9 : Same G8 G16 := S9.trans Z10
    have Z8 : Same G7 G16 := S8.trans Z9
    have Z7 : Same G6 G16 := S7.trans Z8
    have Z6 : Same G5 G16 := S6.trans Z7
    have Z5 : Same G4 G16 := S5.trans Z6
    have Z4 : Same G3 G16 := S4.trans Z5
    have Z3 : Same G2 G16 := S3.trans Z4
    have Z2 : Same G1 G16 := S2.trans Z3
    have Z1 : Same G0 G16 := S1.trans Z2
    have Z0 : Same H1 G16 := S0.trans Z1
    have hb : ∀ x ∈ ([.non, .ref o1, .ref o3, .ref o5, .ref o6, .ref o7, .ref o9, .ref o12, .ref o13, .ref o15] : List L2.V), BadA K G16 x := by
      intro x m
      simp only [List.mem_cons, List.not_mem_nil, or_false] at m
      rcases m with rfl | rfl | rfl | rfl | rfl | rfl | rfl | rfl | rfl | rfl
      · exact badA_val (.base .non) (ka_non K)
      · exact b1.ext (ExtN.same Z2)
      · exact b3.ext (ExtN.same Z4)
      · exact b5.ext (ExtN.same Z6)
      · exact b6.ext (ExtN.same Z7)
      · exact b7.ext (ExtN.same Z8)
      · exact b9.ext (ExtN.same Z10)
      · exact b12.ext (ExtN.same Z13)
      · exact b13.ext (ExtN.same Z14)
      · exact b15.ext (ExtN.same Z16)
    have D2 : DrawAt G16 d lg cl := draw_same Z0 D1
    have kx2 : KeptN d lg H G16 := kx1.trans (KeptN.same Z0)
    have tx2 : Tabs T G16 := tx1.ext Z0
    have ho2 : BadPl K G16 odd := ho.ext (ExtN.same Z0)
    generalize hbl : ([.non, .ref o1, .ref o3, .ref o5, .ref o6, .ref o7, .ref o9, .ref o12, .ref o13, .ref o15] : List L2.V) = bl at e16 hb ⊢
    have e2 := e16
    generalize hbo : o16 = ob at e2 ⊢
    generalize G16 = H2 at D2 kx2 tx2 ho2 hb e2
    refine ⟨ob, rfl, ⟨_, SqL.of e2⟩, ?_⟩
    refine for_list (K := K) (a := ob) (xs := bl) (fun i σ Hx => ∃ v2 : Option L2.V, σ = [some (.ref d), some odd, v2, none, none] ∧ DrawAt Hx d lg cl ∧ KeptN d lg H Hx ∧ Tabs T Hx ∧ BadPl K Hx odd ∧ Hx ob = some (.lst bl) ∧ ∀ x ∈ bl, BadA K Hx x) ⟨none, rfl, D2, kx2, tx2, ho2, e2, hb⟩ (fun i σ Hx _ hh => by obtain ⟨_, _, _, _, _, _, e, _⟩ := hh; exact SqL.of e) ?_ ?_
    · rintro i x σ Hx hi ⟨v2, rfl, Dx, kx, tx, ox, ex, bx⟩
      refine ⟨tx, fun Ha sa ta => ?_⟩
      obtain ⟨o, hA, hg⟩ := (bx x (List.mem_of_getElem? hi)).ext sa
      refine ⟨fun cls dd H' => cls = .ref X.CB ∧ ∃ e : Addr, dd = some e ∧ H' e = some (.xd [("part", .str "arrows")]) ∧ Same Ha H', fun _ _ => False, ⟨_, rfl, fun y dy ny ndy ne => MakeN.sp (K := K) (CN := X.CN) (CB := X.CB) (pl := .int 2) (ar := x) (H := Ha) (Q := fun _ _ => False) (E := (fun cls dd H' => cls = .ref X.CB ∧ ∃ e : Addr, dd = some e ∧ H' e = some (.xd [("part", .str "arrows")]) ∧ Same Ha H')) (.inr ⟨2, o, rfl, by decide, by decide, hA, fun _ e H' _ s' ee => ⟨rfl, e, rfl, ee, s'⟩, fun zs e g => absurd g (hg zs e)⟩) y dy ny ndy ne⟩, fun cls dd H' q => ?_, fun v H' q => q.elim⟩
      obtain ⟨rfl, e, rfl, ee, s'⟩ := q
      refine ⟨rfl, e, .str "arrows", rfl, ee, fun a na => ?_⟩
      have sn : ExtN Hx (upd H' a (ExR (.ref X.CB) (some e) a)) := sa.trans (ExtN.same (s'.trans (same_upd na)))
      have tn : Tabs T (upd H' a (ExR (.ref X.CB) (some e) a)) := ta.ext (s'.trans (same_upd na))
      generalize upd H' a (ExR (.ref X.CB) (some e) a) = Hn at sn tn
      refine ⟨rfl, _, rfl, iteFb (by simp) ?_⟩
      refine ⟨tn, fun Hc sc tc => ?_⟩
      have sxc := sn.trans sc
      refine ⟨fun cls dd H' => cls = .ref X.CB ∧ ∃ e : Addr, dd = some e ∧ H' e = some (.xd [("part", .str "places")]) ∧ Same Hc H', fun _ _ => False, ⟨_, rfl, _, rfl, rfl, rfl, fun y dy ny ndy ne => MakeN.sp (K := K) (CN := X.CN) (CB := X.CB) (pl := odd) (ar := x) (H := Hc) (Q := fun _ _ => False) (E := (fun cls dd H' => cls = .ref X.CB ∧ ∃ e : Addr, dd = some e ∧ H' e = some (.xd [("part", .str "places")]) ∧ Same Hc H')) (.inl ⟨ox.ext sxc, fun e H' _ s' ee => ⟨rfl, e, rfl, ee, s'⟩⟩) y dy ny ndy ne⟩, fun cls dd H' q => ?_, fun v H' q => q.elim⟩
      obtain ⟨rfl, e, rfl, ee, s'⟩ := q
      refine ⟨rfl, e, .str "places", rfl, ee, fun a na => ?_⟩
      have se : ExtN Hx (upd H' a (ExR (.ref X.CB) (some e) a)) := sxc.trans (ExtN.same (s'.trans (same_upd na)))
      have te : Tabs T (upd H' a (ExR (.ref X.CB) (some e) a)) := tc.ext (s'.trans (same_upd na))
      generalize upd H' a (ExR (.ref X.CB) (some e) a) = He at se te
      refine ⟨rfl, _, rfl, iteFb (by simp) ?_⟩
      exact ⟨_, rfl, draw_ext se Dx, kx.trans (KeptN.ext se), te, ox.ext se, se _ _ ex (fun _ z => by cases z), fun y m => (bx y m).ext se⟩
    · rintro σ Hx ⟨v2, rfl, Dx, kx, tx, ox, ex, bx⟩
      clear bx ex ox
      -- twelve arrows
      refine ⟨by show 2 ≤ sizeLine; decide, fun t nt => ?_⟩
      have sA : Same Hx (upd Hx t (.tup [.int 0, .int 1])) := same_upd nt
      have eA : (upd Hx t (.tup [.int 0, .int 1])) t = some (.tup [.int 0, .int 1]) := upd_same
      generalize upd Hx t (.tup [.int 0, .int 1]) = HA at sA eA
      refine ⟨by show 1 ≤ sizeLine; decide, fun l nl => ?_⟩
      have sB : Same HA (upd HA l (.lst [.ref t])) := same_upd nl
      have eB : (upd HA l (.lst [.ref t])) l = some (.lst [.ref t]) := upd_same
      generalize upd HA l (.lst [.ref t]) = HB at sB eB
      refine ⟨l, 12, _, rfl, rfl, eB, by simp, by decide, by decide, by show 1 ≤ 1000; decide, fun p np _ => ?_⟩
      have sC : Same HB (upd HB p (.lst (rf (List.replicate 12 (t, 0, 1))))) := same_upd np
      have eC : (upd HB p (.lst (rf (List.replicate 12 (t, 0, 1))))) p = some (.lst (rf (List.replicate 12 (t, 0, 1)))) := upd_same
      have rC : upd HB p (.lst (List.replicate (12 : Int).toNat [L2.V.ref t]).flatten) = upd HB p (.lst (rf (List.replicate 12 (t, 0, 1)))) := rfl
      rw [rC]
      generalize upd HB p (.lst (rf (List.replicate 12 (t, 0, 1)))) = HC at sC eC
      have sxC : Same Hx HC := (sA.trans sB).trans sC
      have hnum : nums (List.replicate 12 (t, (0 : Int), (1 : Int))) = List.replicate 12 (0, 1) := rfl
      refine fun y dy ny ndy ne => mk_sp (pl := .int 2) (ar := .ref p) ny ndy ne (.inr ⟨2, some (List.replicate 12 (t, 0, 1)), rfl, by decide, by decide, .ok (.inl (SqL.of eC)) (fun z m => ?_) (by rw [List.length_replicate]; decide) (fun a b m => ?_), fun z => absurd (show Good (List.replicate 12 (t, 0, 1)) 2 from ?_) (z _ rfl), fun zs' e' g H' hN s' => ?_⟩)
      · rw [List.eq_of_mem_replicate m]
        exact sqa_tup (sC _ _ (sB _ _ eA))
      · rw [hnum] at m
        have := List.eq_of_mem_replicate m
        cases this
        exact ⟨⟨by decide, by decide⟩, ⟨by decide, by decide⟩, by decide⟩
      · show (rounds (List.replicate 12 (0, 1)) 2 [0]).length = 2 ∧ (ordr (List.replicate 12 (0, 1)) 2 2 []).length = 2
        decide
      · cases e'
        obtain ⟨dx, tt, ws, en, et, pw, hw⟩ := hN
        have hl12 : (rf ws).length = 12 := by
          have := congrArg List.length hw
          rw [hnum, List.length_replicate] at this
          unfold nums at this
          rw [List.length_map] at this
          rw [rf_len]
          exact this
        refine ⟨rfl, y, X.CN, dx, _, _, rfl, en, X.net.t.cl, X.net.t.nA, rfl, tt, _, rfl, .inr (SqT.of et), rfl, _, rfl, ?_⟩
        rw [hl12]
        refine iteFb (by decide) ?_
        have sxH : Same Hx H' := sxC.trans s'
        have Dy := draw_same sxH Dx
        have ky : KeptN d lg H H' := kx.trans (KeptN.same sxH)
        have ty : Tabs T H' := tx.ext sxH
        clear hl12 hw pw et en g rC eC sC eB sB eA sA tx kx Dx
        -- the works
        refine ⟨by show 4 ≤ sizeLine; decide, fun wl nwl => ?_⟩
        have hwl := draw_new Dy nwl
        refine ⟨wl, rfl, ⟨_, SqL.of upd_same⟩, ?_⟩
        refine for_list (K := K) (a := wl) (xs := [.ref f0, .ref f1, .ref f2, .ref f3]) (fun i σ Hy => ∃ v2 v3 v4 : Option L2.V, σ = [some (.ref d), some odd, v2, v3, v4] ∧ DrawAt Hy d lg cl ∧ KeptN d lg H Hy ∧ Tabs T Hy ∧ Hy wl = some (.lst [.ref f0, .ref f1, .ref f2, .ref f3])) ⟨v2, none, none, rfl, draw_same (same_upd nwl) Dy, ky.trans (KeptN.same (same_upd nwl)), ty.ext (same_upd nwl), upd_same⟩ (fun i σ Hy _ hh => by obtain ⟨_, _, _, _, _, _, _, e⟩ := hh; exact SqL.of e) ?_ ?_
        · clear ty ky Dy
          rintro i x σ Hy hi ⟨v2, v3, v4, rfl, Dy, ky, ty, ew⟩
          have hR : ∃ ff, x = .ref ff ∧ Refuses P w K mg base X.CN X.CB ff := by
            match i, hi with
            | 0, hi => cases hi; exact ⟨_, rfl, R0⟩
            | 1, hi => cases hi; exact ⟨_, rfl, R1⟩
            | 2, hi => cases hi; exact ⟨_, rfl, R2⟩
            | 3, hi => cases hi; exact ⟨_, rfl, R3⟩
            | n + 4, hi => simp at hi
          obtain ⟨ff, rfl, fdf, sp, hF, hK, hB, hsp⟩ := hR
          refine ⟨ty, fun Ha sa ta => ?_⟩
          have Da := draw_ext sa Dy
          refine ⟨fun cls dd H' => cls = .ref X.CB ∧ ∃ e : Addr, dd = some e ∧ H' e = some (.xd [("part", .non)]) ∧ DrawAt H' d lg cl ∧ KeptN d lg Ha H' ∧ Tabs T H', fun _ _ => False, ⟨ff, fdf, ["net"], sp, hF, hK, hB, rfl, ?_⟩, fun cls dd H' q => ?_, fun v H' q => q.elim⟩
          · refine ⟨_, rfl, Nat.zero_le _, fun l0 m0 => ?_⟩
            have s0 : Same Ha (upd Ha l0 (.lst [])) := same_upd m0
            generalize upd Ha l0 (.lst []) = Hb at s0
            refine ⟨by show 2 ≤ sizeLine; decide, fun t0 m1 => ?_⟩
            have s1 : Same Hb (upd Hb t0 (.tup [.int 2, .ref l0])) := same_upd m1
            have et0 : (upd Hb t0 (.tup [.int 2, .ref l0])) t0 = some (.tup [.int 2, .ref l0]) := upd_same
            generalize upd Hb t0 (.tup [.int 2, .ref l0]) = Hc at s1 et0
            refine fun d0 m2 => ?_
            have s2 : Same Hc (upd Hc d0 (.dK [])) := same_upd m2
            have ed0 : (upd Hc d0 (.dK [])) d0 = some (.dK []) := upd_same
            have nd0 : d0 ≠ d := (draw_new (draw_same (s0.trans s1) Da) m2).1
            generalize upd Hc d0 (.dK []) = Hd at s2 ed0
            refine ⟨by show 4 ≤ sizeLine; decide, fun l1 m3 => ?_⟩
            have s3 : Same Hd (upd Hd l1 (.lst [.non, .int 2, .ref t0, .ref d0])) := same_upd m3
            have el1 : (upd Hd l1 (.lst [.non, .int 2, .ref t0, .ref d0])) l1 = some (.lst [.non, .int 2, .ref t0, .ref d0]) := upd_same
            have nl1 : l1 ≠ lg := (draw_new (draw_same ((s0.trans s1).trans s2) Da) m3).2.1
            generalize upd Hd l1 (.lst [.non, .int 2, .ref t0, .ref d0]) = Hf at s3 el1
            have s03 : Same Ha Hf := ((s0.trans s1).trans s2).trans s3
            have Df := draw_same s03 Da
            have et4 := s3 _ _ (s2 _ _ et0)
            have ed4 := s3 _ _ ed0
            refine ⟨d, lg, cl, l1, _, rfl, Df, el1, nl1, by show 0 < 4; decide, by show 4 < 1000; decide, fun j xv H5 hj D5 k5 => hsp xv H5 _ _ ?_ ?_⟩
            · have et5 : H5 t0 = some (.tup [.int 2, .ref l0]) := k5 _ _ et4 (fun z => by obtain ⟨⟨r, t, hd⟩, _⟩ := Df; rw [z, hd] at et4; cases et4) (fun z => by obtain ⟨_, ⟨L, _, hl⟩, _⟩ := Df; rw [z, hl] at et4; cases et4)
              have ed5 : H5 d0 = some (.dK []) := k5 _ _ ed4 nd0 (fun z => by obtain ⟨_, ⟨L, _, hl⟩, _⟩ := Df; rw [z, hl] at ed4; cases ed4)
              match j, hj with
              | 0, hj => cases hj; exact ⟨_, .base .non, X.noN⟩
              | 1, hj => cases hj; exact ⟨_, .base (.int 2), X.noI⟩
              | 2, hj => cases hj; exact ⟨_, ty_tup (SqT.of et5), X.noT⟩
              | 3, hj => cases hj; exact ⟨_, .base (.dK ed5), X.noD⟩
              | n + 4, hj => simp at hj
            · exact fun e H6 _ s6 ee => ⟨rfl, e, rfl, ee, draw_same s6 D5, ((KeptN.same s03).trans k5.n).trans (KeptN.same s6), (Tabs.kept Df k5 (ta.ext s03)).ext s6⟩
          · obtain ⟨rfl, e, rfl, ee, D', k', t'⟩ := q
            refine ⟨X.bad.exm, fun a na => ?_⟩
            have sn : Same H' (upd H' a (ExR (.ref X.CB) (some e) a)) := same_upd na
            have ea : (upd H' a (ExR (.ref X.CB) (some e) a)) a = some (ExR (.ref X.CB) (some e) a) := upd_same
            have ed := sn _ _ ee
            generalize upd H' a (ExR (.ref X.CB) (some e) a) = Hn at sn ea ed
            refine ⟨_, rfl, a, X.CB, e, _, _, _, true, rfl, ea, ed, X.bad.get.ex, fun u r => r, X.bad.one, _, rfl, ?_⟩
            refine iteF ?_
            refine ⟨_, rfl, a, X.CB, e, _, _, rfl, X.bad.get, ea, ed, rfl, rfl, _, rfl, iteFb (by decide) ?_⟩
            have kan : KeptN d lg Hy Hn := (KeptN.ext sa).trans (k'.trans (KeptN.same sn))
            skip
            exact ⟨_, _, _, rfl, draw_same sn D', ky.trans kan, t'.ext sn, kan _ _ ew hwl.1 hwl.2.1 (fun _ z => by cases z)⟩
        · rintro σ Hy ⟨v2, v3, v4, rfl, Dy, ky, ty, ew⟩
          exact k Hy Dy ky ty
end
end K03


set_option Elab.async false
set_option maxRecDepth 100000
set_option maxHeartbeats 4000000
set_option linter.all false
namespace K03
open PySem PySem.Spec PyProof.Rows L2 NetM GL
/-! how long what is shown may be -/
def Sz (m : Nat) (d : PyData) : Prop := d.shown.length ≤ m
theorem from_le (m : Nat) : ∀ (ts : List Str) (k : Nat) (acc : Str), (∀ t ∈ ts, t.length ≤ m) → (textFrom k acc ts).length ≤ acc.length + ts.length * (m + 2)
  | [], k, acc, _ => by show acc.length ≤ _; omega
  | t :: r, k, acc, h => by
    have ih := from_le m r (k + 1) (acc ++ (if k > 0 then ", " else "" : String) ++ t) fun x hx => h x (List.mem_cons_of_mem _ hx)
    have e : (acc ++ (if k > 0 then ", " else "" : String) ++ t).length = acc.length + (if k > 0 then 2 else 0) + t.length := by
      rw [strLen_append, strLen_append]
      split <;> rfl
    have ht := h t (List.mem_cons_self ..)
    rw [e] at ih
    have e2 : (t :: r).length * (m + 2) = r.length * (m + 2) + (m + 2) := by rw [List.length_cons, Nat.add_mul, Nat.one_mul]
    rw [e2]
    show (textFrom (k + 1) (acc ++ (if k > 0 then ", " else "" : String) ++ t) r).length ≤ _
    have h2 : (if k > 0 then 2 else 0 : Nat) ≤ 2 := by split <;> omega
    exact Nat.le_trans ih (by omega)
theorem list_le {m : Nat} {ts : List Str} (h : ∀ t ∈ ts, t.length ≤ m) : (listText ts).length ≤ ts.length * (m + 2) + 2 := by
  have := from_le m ts 0 "[" h
  unfold listText
  rw [strLen_append]
  have e1 : (("[" : String) : Str).length = 1 := rfl
  have e2 : (("]" : String) : Str).length = 1 := rfl
  rw [e1] at this
  rw [e2]
  omega
theorem piled_le {m : Nat} : ∀ {ts : List Str}, (∀ t ∈ ts, t.length ≤ m) → piled ts ≤ ts.length * (m + 2)
  | [], _ => by simp [piled]
  | t :: r, h => by
    have ih := piled_le (m := m) (ts := r) fun x hx => h x (List.mem_cons_of_mem _ hx)
    have ht := h t (List.mem_cons_self ..)
    rw [piled_cons, List.length_cons, Nat.add_mul, Nat.one_mul]
    omega
theorem tup_le {m : Nat} {ts : List Str} (h : ∀ t ∈ ts, t.length ≤ m) : (tupleText ts).length ≤ ts.length * (m + 2) + 3 := by
  unfold tupleText
  rw [strLen_append, strLen_append]
  have e1 : (("(" : String) : Str).length = 1 := rfl
  have e2 : ∀ c : Bool, (((if c = true then ",)" else ")" : String)) : Str).length ≤ 2 := fun c => by cases c <;> decide
  have e3 := e2 (ts.length == 1)
  rw [e1]
  cases ts with
  | nil =>
    have : (Str.join ", " ([] : List Str)).length = 0 := rfl
    omega
  | cons t r =>
    have h1 := join_length_add (t :: r) (by simp)
    have h2 := piled_le h
    omega
theorem all_mem {ds : List PyData} : ∀ {t : Str}, t ∈ PyData.shownAll ds → ∃ d ∈ ds, t = d.shown := by
  induction ds with
  | nil => intro t h; cases h
  | cons d r ih =>
    intro t h
    rcases List.mem_cons.mp h with h | h
    · exact ⟨d, List.mem_cons_self .., h⟩
    · obtain ⟨d', hd, e⟩ := ih h
      exact ⟨d', List.mem_cons_of_mem _ hd, e⟩
theorem all_len (ds : List PyData) : (PyData.shownAll ds).length = ds.length := by
  induction ds with
  | nil => rfl
  | cons d r ih => show (PyData.shownAll r).length + 1 = _; rw [ih]; rfl
theorem sz_list {m : Nat} {ds : List PyData} (h : ∀ d ∈ ds, Sz m d) : Sz (ds.length * (m + 2) + 2) (.list ds) := by
  show (listText (PyData.shownAll ds)).length ≤ _
  rw [← all_len ds]
  exact list_le fun t ht => by obtain ⟨d, hd, e⟩ := all_mem ht; rw [e]; exact h d hd
theorem sz_tup {m : Nat} {ds : List PyData} (h : ∀ d ∈ ds, Sz m d) : Sz (ds.length * (m + 2) + 3) (.tuple ds) := by
  show (tupleText (PyData.shownAll ds)).length ≤ _
  rw [← all_len ds]
  exact tup_le fun t ht => by obtain ⟨d, hd, e⟩ := all_mem ht; rw [e]; exact h d hd
/-- small numbers, pairs of them, lists of these -/
theorem sz_int {i : Int} (h : 0 ≤ i ∧ i < 1000) : Sz 3 (.int i) := by
  obtain ⟨k, rfl⟩ := Int.eq_ofNat_of_zero_le h.1
  have hk : k < 1000 := by omega
  have key : ((List.range 1000).all fun k => decide ((PyData.int (k : Int)).shown.length ≤ 3)) = true := by decide +kernel
  show (PyData.int (k : Int)).shown.length ≤ 3
  exact of_decide_eq_true (List.all_eq_true.mp key k (List.mem_range.mpr hk))
theorem sh_int {i : Int} (h : 0 ≤ i ∧ i < 1000) : (PyData.int i).showable = true := by
  obtain ⟨k, rfl⟩ := Int.eq_ofNat_of_zero_le h.1
  have hk : k < 1000 := by omega
  have key : ((List.range 1000).all fun k => (PyData.int (k : Int)).showable) = true := by decide +kernel
  exact List.all_eq_true.mp key k (List.mem_range.mpr hk)
end K03


set_option Elab.async false
set_option maxRecDepth 100000
set_option maxHeartbeats 4000000
set_option linter.all false
namespace K03
open PySem PySem.Spec PyProof.Rows L2 NetM GL LamX
section
variable {X : Cx} {CX : CXT} {k : Nat} {f : Addr} {fd : FuncData} {ps ks : List Str} {sp : Sp} {E : XK} {x : Str} {p pos : Pos} {kws : List Keyword} {tk : TA} {g : List Value → List Value → List Value} {gV : List L2.V → List L2.V → List L2.V}
/-- f(k = v, ..) -/
theorem pe_callK0 (F : FnOk X.prog X.w X.K X.mg X.base CX k f fd ps sp) (hr : Room k X.A) (hg : Gl X x) (hm : X.mg x = some (.ref f)) (hk : PySem.W.keepIn X.K (.ref f) = true) (hb : KBinds X.K fd ps ks g gV) (hx : Passes CX X E) (hkw : PK X kws tk)
    (hall : (backToKw pos (keywordEach kws X.env)).all (·.1.isSome) = true := by rfl) (hks : (backToKw pos (keywordEach kws X.env)).filterMap (·.1) = ks := by rfl) (hdb : (x == ("__debug__" : Str)) = false := by decide)
    (hpl : (backToKw pos (keywordEach kws X.env)).any (·.1.isNone) = false := by rfl) : PE X (.Call (.Name x p) [] kws pos) (tCallK sp gV E tNil tk) := by
  refine ⟨fun pins s σ H Q I h => ?_⟩
  refine wpAny_Call_Name_kw (ld_glob I hg hm ?_ hdb)
  refine PySem.W.callWith_KW0 (h₀ := X.base) I.ok.mod.kin hk hall ?_ hpl
  refine thn (hkw.run pos pins s σ H _ I h) fun ws s1 ⟨zs, H1, I1, rz, q1⟩ => ⟨I1.kIn, ?_⟩
  rw [hks]
  exact run_fnk (us := []) (vs := []) F hr hb hx I1 .nil rz q1
end
theorem rdv {K : PySem.W.Frag} {H : Hp} {v : L2.V} {d : PyData} (h : Dp K H v d) (n : d.hasDict = false) : RdV K H v d := fun X pins σ s u e I r => by
  subst e
  obtain ⟨as, R⟩ := Dp.reads I d v u h r
  exact ⟨as, R, fun z => by rw [n] at z; cases z⟩
theorem nd_ints (l : List Int) : PyData.hasDictAll (l.map PyData.int) = false := by
  induction l with
  | nil => rfl
  | cons x r ih => simp [PyData.hasDictAll, PyData.hasDict, ih]
theorem nd_pd (l : List (Int × Int)) : PyData.hasDictAll (l.map pd) = false := by
  induction l with
  | nil => rfl
  | cons x r ih => simp [PyData.hasDictAll, PyData.hasDict, ih]
def Sm9 (i : Int) : Prop := 0 ≤ i ∧ i < 1000
theorem sh_ints {l : List Int} (h : ∀ i ∈ l, Sm9 i) : PyData.showableAll (l.map PyData.int) = true := by
  induction l with
  | nil => rfl
  | cons x r ih =>
    show ((PyData.int x).showable && PyData.showableAll (r.map PyData.int)) = true
    rw [sh_int (h x (List.mem_cons_self ..)), ih fun i m => h i (List.mem_cons_of_mem _ m)]
    rfl
theorem sh_pd {l : List (Int × Int)} (h : ∀ p ∈ l, Sm9 p.1 ∧ Sm9 p.2) : PyData.showableAll (l.map pd) = true := by
  induction l with
  | nil => rfl
  | cons x r ih =>
    show (((PyData.int x.1).showable && ((PyData.int x.2).showable && true)) && PyData.showableAll (r.map pd)) = true
    obtain ⟨h1, h2⟩ := h x (List.mem_cons_self ..)
    rw [sh_int h1, sh_int h2, ih fun i m => h i (List.mem_cons_of_mem _ m)]
    rfl
theorem Sz.mono {m m' : Nat} {d : PyData} (h : Sz m d) (e : m ≤ m') : Sz m' d := Nat.le_trans h e
theorem sz_ints {l : List Int} (h : ∀ i ∈ l, Sm9 i) (hl : l.length ≤ 8) : Sz 42 (.list (l.map PyData.int)) := by
  refine (sz_list (m := 3) (ds := l.map PyData.int) fun d hd => ?_).mono ?_
  · obtain ⟨i, hi, rfl⟩ := List.mem_map.mp hd
    exact sz_int (h i hi)
  · rw [List.length_map]; omega
theorem sz_pd {p : Int × Int} (h : Sm9 p.1 ∧ Sm9 p.2) : Sz 13 (pd p) := by
  refine (sz_tup (m := 3) (ds := [.int p.1, .int p.2]) fun d hd => ?_).mono (by simp)
  rcases List.mem_cons.mp hd with e | hd
  · rw [e]; exact sz_int h.1
  · rw [List.mem_singleton] at hd
    rw [hd]; exact sz_int h.2
theorem sz_pds {l : List (Int × Int)} (h : ∀ p ∈ l, Sm9 p.1 ∧ Sm9 p.2) (hl : l.length ≤ 12) : Sz 183 (.tuple (l.map pd)) := by
  refine (sz_tup (m := 13) (ds := l.map pd) fun d hd => ?_).mono ?_
  · obtain ⟨i, hi, rfl⟩ := List.mem_map.mp hd
    exact sz_pd (h i hi)
  · rw [List.length_map]; omega
/-- [n, ((a, b), ..)] may be shown -/
theorem shown1 {n : Int} {l : List (Int × Int)} (hn : Sm9 n) (h : ∀ p ∈ l, Sm9 p.1 ∧ Sm9 p.2) (hl : l.length ≤ 12) : Shown (.list [.int n, .tuple (l.map pd)]) := by
  refine ⟨?_, ?_, ?_⟩
  · show ((PyData.int n).showable && (PyData.showableAll (l.map pd) && true)) = true
    rw [sh_int hn, sh_pd h]
    rfl
  · have := dep_pd l
    simp [PyData.depth, PyData.depthAll]
    omega
  · refine Nat.le_trans (sz_list (m := 183) (ds := [.int n, .tuple (l.map pd)]) fun d hd => ?_) (by show 2 * (183 + 2) + 2 ≤ sizeLine; decide)
    rcases List.mem_cons.mp hd with e | hd
    · rw [e]; exact (sz_int hn).mono (by omega)
    · rw [List.mem_singleton] at hd
      rw [hd]; exact sz_pds h hl
/-- [[..], [..]] of small numbers may be shown -/
theorem shown2 {l m : List Int} (h : ∀ i ∈ l, Sm9 i) (hl : l.length ≤ 8) (h' : ∀ i ∈ m, Sm9 i) (hl' : m.length ≤ 8) : Shown (.list [.list (l.map PyData.int), .list (m.map PyData.int)]) := by
  refine ⟨?_, ?_, ?_⟩
  · show (PyData.showableAll (l.map PyData.int) && (PyData.showableAll (m.map PyData.int) && true)) = true
    rw [sh_ints h, sh_ints h']
    rfl
  · have h1 := dep_ints l
    have h2 := dep_ints m
    simp [PyData.depth, PyData.depthAll]
    omega
  · refine Nat.le_trans (sz_list (m := 42) (ds := [.list (l.map PyData.int), .list (m.map PyData.int)]) fun d hd => ?_) (by show 2 * (42 + 2) + 2 ≤ sizeLine; decide)
    rcases List.mem_cons.mp hd with e | hd
    · rw [e]; exact sz_ints h hl
    · rw [List.mem_singleton] at hd
      rw [hd]; exact sz_ints h' hl'
theorem shown_bl (b : Bool) : Shown (.bool b) := by
  refine ⟨rfl, by simp [PyData.depth], ?_⟩
  cases b <;> decide
theorem nd1 {n : Int} (l : List (Int × Int)) : (PyData.list [.int n, .tuple (l.map pd)]).hasDict = false := by
  simp [PyData.hasDict, PyData.hasDictAll, nd_pd]
theorem nd2 (l m : List Int) : (PyData.list [.list (l.map PyData.int), .list (m.map PyData.int)]).hasDict = false := by
  simp [PyData.hasDict, PyData.hasDictAll, nd_ints]
end K03


set_option Elab.async false
set_option maxRecDepth 100000
set_option maxHeartbeats 8000000
set_option linter.all false
namespace K03
open PySem PySem.Spec PyProof.Rows L2 NetM GL
abbrev sRight : Stmt := top 32
theorem scRight : FnScope ["many_here", "pairs_here", "net_here", "ends", "begins_here", "back", "k", "tail", "head", "pair"] ["many_here", "pairs_here", "net_here"] (defScope sRight) := ⟨rfl, rfl, rfl, by decide +kernel, rfl, by decide +kernel, by decide +kernel⟩
/-- the four defs of a Net, as they are called -/
structure Four (P : Program) (w : World) (K : PySem.W.Frag) (mg : Str → Option Value) (base : Heap) (CN CB : Addr) where
  f0 : Addr
  f1 : Addr
  f2 : Addr
  f3 : Addr
  d0 : FuncData
  d1 : FuncData
  d2 : FuncData
  d3 : FuncData
  ok0 : FnOk P w K mg base (L2.CX P w) 5 f0 d0 ["net"] (spEnds K CN CB Prod.fst)
  ok1 : FnOk P w K mg base (L2.CX P w) 5 f1 d1 ["net"] (spEnds K CN CB Prod.snd)
  ok2 : FnOk P w K mg base (L2.CX P w) 5 f2 d2 ["net"] (spTree K CN CB)
  ok3 : FnOk P w K mg base (L2.CX P w) 6 f3 d3 ["net"] (spTurned K CN CB)
  b0 : L2.Binds K d0 ["net"] []
  b1 : L2.Binds K d1 ["net"] []
  b2 : L2.Binds K d2 ["net"] []
  b3 : L2.Binds K d3 ["net"] []
  k0 : KBinds K d0 ["net"] ["net"] (fun us ws => us ++ ws) (fun us ws => us ++ ws)
  k1 : KBinds K d1 ["net"] ["net"] (fun us ws => us ++ ws) (fun us ws => us ++ ws)
  g0 : mg "sinks" = some (.ref f0)
  g1 : mg "sources" = some (.ref f1)
  g2 : mg "is_tree" = some (.ref f2)
  g3 : mg "turned_net" = some (.ref f3)
  h0 : PySem.W.keepIn K (.ref f0) = true
  h1 : PySem.W.keepIn K (.ref f1) = true
  h2 : PySem.W.keepIn K (.ref f2) = true
  h3 : PySem.W.keepIn K (.ref f3) = true
def spRight (K : PySem.W.Frag) (CN : Addr) : Sp := fun vs H Q _ => ∃ (a x : Addr) (n : Nat) (zs : Zs), vs = [.int n, .ref a, .ref x] ∧ SqL K H a (rf zs) ∧ PL H zs ∧ zs.length ≤ 12 ∧ 0 < n ∧ n ≤ 8 ∧ VV n (nums zs) ∧ GoodN (nums zs) n ∧ GoodN (swp (nums zs)) n ∧ NetAt K CN H x n (nums zs) ∧
  ∀ H', Same H H' → Q (.bl true) H'
theorem ends_mem {f : Int × Int → Int} {n : Nat} {l : List (Int × Int)} (n8 : n ≤ 8) : ∀ i ∈ ends f n l, Sm9 i := fun i m => by
  unfold ends at m
  have m := (List.mem_filter.mp m).1
  unfold rng at m
  obtain ⟨k, hk, rfl⟩ := List.mem_map.mp m
  have := List.mem_range.mp hk
  exact ⟨by omega, by omega⟩
theorem ends_len {f : Int × Int → Int} {n : Nat} {l : List (Int × Int)} (n8 : n ≤ 8) : (ends f n l).length ≤ 8 := by
  unfold ends
  refine Nat.le_trans (List.length_filter_le _ _) ?_
  unfold rng
  rw [List.length_map, List.length_range]
  exact n8
theorem vv_sm {n : Nat} {l : List (Int × Int)} (n8 : n ≤ 8) (h : VV n l) : ∀ p ∈ l, Sm9 p.1 ∧ Sm9 p.2 := fun p m => by
  obtain ⟨a, b⟩ := p
  obtain ⟨⟨h1, h2⟩, ⟨h3, h4⟩, _⟩ := h a b m
  exact ⟨⟨h1, by show a < 1000; omega⟩, ⟨h3, by show b < 1000; omega⟩⟩
theorem swp_swp (l : List (Int × Int)) : swp (swp l) = l := by
  unfold swp
  rw [List.map_map]
  exact List.map_id' l
theorem vv_swp {n : Nat} {l : List (Int × Int)} (h : VV n l) : VV n (swp l) := fun a b m => by
  unfold swp at m
  obtain ⟨⟨q1, q2⟩, hm, e⟩ := List.mem_map.mp m
  cases e
  obtain ⟨h1, h2, h3⟩ := h _ _ hm
  exact ⟨h2, h1, fun z => h3 z.symm⟩
def LL (H : Hp) (zs : Zs) : Prop := ∀ z ∈ zs, H z.1 = some (.lst [.int z.2.1, .int z.2.2])
theorem LL.same {H H' : Hp} {zs : Zs} (s : Same H H') (p : LL H zs) : LL H' zs := fun z m => s _ _ (p z m)
theorem LL.app {H : Hp} {zs : Zs} {t : Addr} {a b : Int} (p : LL H zs) (h : H t = some (.lst [.int a, .int b])) : LL H (zs ++ [(t, a, b)]) := fun z m => by
  rcases List.mem_append.mp m with m | m
  · exact p z m
  · rw [List.mem_singleton] at m
    subst m
    exact h
theorem LL.put {H : Hp} {zs vs : Zs} {l : Addr} {o : HO} (p : LL H zs) (h : H l = some (.lst (rf vs))) : LL (upd H l o) zs := fun z m => by
  have q := p z m
  rw [upd_ne fun e => ?_]
  · exact q
  · rw [e, h] at q
    have q := HO.lst.inj (Option.some.inj q)
    cases vs with
    | nil => cases q
    | cons v r =>
      have := (List.cons.inj q).1
      cases this
section
variable {P : Program} {w : World} {K : PySem.W.Frag} {mg : Str → Option Value} {base : Heap}
theorem ok_right {f CN CB fE : Addr} {fd dE : FuncData} (F : Fun K "_law_right" "_law_right" sRight f fd) (B : Four P w K mg base CN CB) (T : NetE K mg CN fE) (M : MkN P w K mg base CN CB) (FE : FnOk P w K mg base CX0 1 fE dE ["self", "other"] (spNetEq K CN)) (bE : L2.Binds K dE ["self", "other"] [])
    (mRe : mg "repr" = none) (mRa : mg "range" = none) (mTup : mg "tuple" = none) (mList : mg "list" = none) (mLen : mg "len" = none) : FnG P w K mg base L2.CX0 8 f fd ["many_here", "pairs_here", "net_here"] (spRight K CN) := by
  refine okG F scRight (fun vs H Q E h => ?_) (fun cdv A outer s H vs Q E hga hr h => ?_)
  · obtain ⟨a, x, n, zs, rfl, _⟩ := h
    rfl
  · obtain ⟨a, x, n, zs, rfl, hS, hp, hl, n0, n8, hv, hg, hg', hN, k⟩ := h
    have nd := scRight.nd
    have hu70 : (A.deeper (envOfC "_law_right" (defScope sRight) s.heap.objs.size f cdv)).units + 70 < cLine := by have := hr.un; omega
    have r1 : Room 1 _ := hr.mono (by decide)
    have r2 : Room 2 _ := hr.mono (by decide)
    have r5 : Room 5 _ := hr.mono (by decide)
    have r6 : Room 6 _ := hr.mono (by decide)
    refine ⟨_, pss_cons (ps_if (pt_cmpR op_ne (pe_callB (id := "repr") (call_repr (K := K) rfl (by exact hga) (by exact hu70)) (by rfl) mRe (by decide +kernel) (pa_cons (pe_lst (pa_cons (pe_fld (pv 2) rfl) (pa_cons (pe_fld (pv 2) rfl) pa_nil))) pa_nil)) (pe_callB (id := "repr") (call_repr (K := K) rfl (by exact hga) (by exact hu70)) (by rfl) mRe (by decide +kernel) (pa_cons (pe_lst (pa_cons (pv 0) (pa_cons (pe_callTy call_tuple_of (by rfl) mTup (by decide +kernel) (pa_cons (pv 1) pa_nil)) pa_nil))) pa_nil)) (nomark _)) (pss_one (ps_ret pe_bl)) pss_nil)
      (pss_cons (ps_setLc (i := 3) (own := [("k", 6)]) (g := gName 6) (by rfl) nd rfl rfl (sw_true rfl rfl rfl (by decide +kernel)) (pi_range1 (by rfl) mRa (pa_cons (pv 0) pa_nil)) (blkOk_by (N := ["many_here", "pairs_here", "net_here", "ends", "begins_here", "back", "k", "tail", "head", "pair"]) (sc := defScope sRight) (by decide +kernel)) (fun _ _ _ _ _ => pg_name (i := 6) nd rfl (Or.inr rfl))
          (fun _ _ _ _ _ => pts_one (pt_cmpR (show OpR _ _ (rEqD K) from op_eqD hr.units) (pe_lc (own := [("tail", 7), ("head", 8)]) (g := gTup K 2 (gCons (gName 7) (gCons (gName 8) gNil))) (by rfl) nd (show PI _ _ _ (iList K (tVar 1)) from pi_list (pv 1)) (blkOk_by (N := ["many_here", "pairs_here", "net_here", "ends", "begins_here", "back", "k", "tail", "head", "pair"]) (by kernel_rfl))
            (fun _ _ _ _ _ => pg_tup (by rfl) (pgs_cons (pg_name (i := 7) nd rfl (Or.inl rfl)) (pgs_cons (pg_name (i := 8) nd rfl (Or.inl rfl)) pgs_nil))) (fun _ _ _ _ _ => pts_one (pt_cmpR op_eq (pv 7) (pv 6) (nomark _))) (fun _ _ _ _ _ => pe_int)) (pe_lst pa_nil) (nomark _)))
          (fun _ _ _ _ _ => pv 6))
      (pss_cons (ps_setLc (i := 4) (own := [("k", 6)]) (g := gName 6) (by rfl) nd rfl rfl (sw_true rfl rfl rfl (by decide +kernel)) (pi_range1 (by rfl) mRa (pa_cons (pv 0) pa_nil)) (blkOk_by (N := ["many_here", "pairs_here", "net_here", "ends", "begins_here", "back", "k", "tail", "head", "pair"]) (sc := defScope sRight) (by decide +kernel)) (fun _ _ _ _ _ => pg_name (i := 6) nd rfl (Or.inr rfl))
          (fun _ _ _ _ _ => pts_one (pt_cmpR (show OpR _ _ (rEqD K) from op_eqD hr.units) (pe_lc (own := [("tail", 7), ("head", 8)]) (g := gTup K 2 (gCons (gName 7) (gCons (gName 8) gNil))) (by rfl) nd (show PI _ _ _ (iList K (tVar 1)) from pi_list (pv 1)) (blkOk_by (N := ["many_here", "pairs_here", "net_here", "ends", "begins_here", "back", "k", "tail", "head", "pair"]) (by kernel_rfl))
            (fun _ _ _ _ _ => pg_tup (by rfl) (pgs_cons (pg_name (i := 7) nd rfl (Or.inl rfl)) (pgs_cons (pg_name (i := 8) nd rfl (Or.inl rfl)) pgs_nil))) (fun _ _ _ _ _ => pts_one (pt_cmpR op_eq (pv 8) (pv 6) (nomark _))) (fun _ _ _ _ _ => pe_int)) (pe_lst pa_nil) (nomark _)))
          (fun _ _ _ _ _ => pv 6))
      (pss_cons (ps_if (pt_cmpR op_ne (pe_callB (id := "repr") (call_repr (K := K) rfl (by exact hga) (by exact hu70)) (by rfl) mRe (by decide +kernel) (pa_cons (pe_lst (pa_cons (pe_call B.ok0 r5 (by rfl) B.g0 B.h0 B.b0 .nil (passes_call LamX.takes0 fun _ _ _ _ h => h) (pa_cons (pv 2) pa_nil)) (pa_cons (pe_callK0 B.ok1 r5 (by rfl) B.g1 B.h1 B.k1 (passes_call LamX.takes0 fun _ _ _ _ h => h) (pk_cons (pv 2) pk_nil)) pa_nil))) pa_nil)) (pe_callB (id := "repr") (call_repr (K := K) rfl (by exact hga) (by exact hu70)) (by rfl) mRe (by decide +kernel) (pa_cons (pe_lst (pa_cons (pv 3) (pa_cons (pv 4) pa_nil))) pa_nil)) (nomark _)) (pss_one (ps_ret pe_bl)) pss_nil)
      (pss_cons (ps_expr (pe_bm PySem.F.plainAttrs_list PySem.F.slot_list_append PySem.F.type_list_append mt_append (pe_call B.ok0 r5 (by rfl) B.g0 B.h0 B.b0 .nil (passes_call LamX.takes0 fun _ _ _ _ h => h) (pa_cons (pv 2) pa_nil)) (pa_cons pe_non pa_nil)))
      (pss_cons (ps_expr (pe_bm PySem.F.plainAttrs_list PySem.F.slot_list_append PySem.F.type_list_append mt_append (pe_call B.ok1 r5 (by rfl) B.g1 B.h1 B.b1 .nil (passes_call LamX.takes0 fun _ _ _ _ h => h) (pa_cons (pv 2) pa_nil)) (pa_cons pe_non pa_nil)))
      (pss_cons (ps_if (pt_cmpR op_ne (pe_callB (id := "repr") (call_repr (K := K) rfl (by exact hga) (by exact hu70)) (by rfl) mRe (by decide +kernel) (pa_cons (pe_lst (pa_cons (pe_callK0 B.ok0 r5 (by rfl) B.g0 B.h0 B.k0 (passes_call LamX.takes0 fun _ _ _ _ h => h) (pk_cons (pv 2) pk_nil)) (pa_cons (pe_call B.ok1 r5 (by rfl) B.g1 B.h1 B.b1 .nil (passes_call LamX.takes0 fun _ _ _ _ h => h) (pa_cons (pv 2) pa_nil)) pa_nil))) pa_nil)) (pe_callB (id := "repr") (call_repr (K := K) rfl (by exact hga) (by exact hu70)) (by rfl) mRe (by decide +kernel) (pa_cons (pe_lst (pa_cons (pv 3) (pa_cons (pv 4) pa_nil))) pa_nil)) (nomark _)) (pss_one (ps_ret pe_bl)) pss_nil)
      (pss_cons (ps_if (pt_cmpR op_ne (pe_callB (id := "repr") (call_repr (K := K) rfl (by exact hga) (by exact hu70)) (by rfl) mRe (by decide +kernel) (pa_cons (pe_call B.ok2 r5 (by rfl) B.g2 B.h2 B.b2 .nil (passes_call LamX.takes0 fun _ _ _ _ h => h) (pa_cons (pv 2) pa_nil)) pa_nil)) (pe_callB (id := "repr") (call_repr (K := K) rfl (by exact hga) (by exact hu70)) (by rfl) mRe (by decide +kernel) (pa_cons (pe_cmpR op_eq (pe_callB call_len_seq (by rfl) mLen PySem.boot_len (pa_cons (pv 1) pa_nil)) (pe_op op_sub (pv 0) pe_int) (nomark _)) pa_nil)) (nomark _)) (pss_one (ps_ret pe_bl)) pss_nil)
      (pss_cons (ps_set (i := 5) nd rfl (Or.inl rfl) (pe_make M.m M.ok r5 (by rfl) T.t.g M.b .nil (passes_call LamX.takes0 fun _ _ _ _ h => h) (pa_cons (pv 0) (pa_cons (pe_lc (own := [("pair", 9)]) (g := gName 9) (by rfl) nd (pi_list (pv 1)) (blkOk_by (N := ["many_here", "pairs_here", "net_here", "ends", "begins_here", "back", "k", "tail", "head", "pair"]) (sc := defScope sRight) (by decide +kernel)) (fun _ _ _ _ _ => pg_name (i := 9) nd rfl (Or.inl rfl)) (fun _ _ _ _ _ => pts_nil) (fun _ _ _ _ _ => (show PE _ _ (tRevP K (tVar 9)) from pe_revP (pv 9)))) pa_nil))))
      (pss_cons (ps_if (PW.pt (pw_or (pt_cmpR (op_neN T FE bE r2) (pe_call B.ok3 r6 (by rfl) B.g3 B.h3 B.b3 .nil (passes_call LamX.takes0 fun _ _ _ _ h => h) (pa_cons (pv 2) pa_nil)) (pv 5) (nomark _)) (pw_or1 (pt_cmpR (op_neN T FE bE r2) (pe_call B.ok3 r6 (by rfl) B.g3 B.h3 B.b3 .nil (passes_call LamX.takes0 fun _ _ _ _ h => h) (pa_cons (pv 5) pa_nil)) (pv 2) (nomark _))))) (pss_one (ps_ret pe_bl)) pss_nil)
      (pss_one (ps_ret (pe_and (pe_cmpR (op_eqN T FE bE r1) (pv 2) (pe_make M.m M.ok r5 (by rfl) T.t.g M.b .nil (passes_call LamX.takes0 fun _ _ _ _ h => h) (pa_cons (pv 0) (pa_cons (pe_lc (own := [("pair", 9)]) (g := gName 9) (by rfl) nd (pi_list (pv 1)) (blkOk_by (N := ["many_here", "pairs_here", "net_here", "ends", "begins_here", "back", "k", "tail", "head", "pair"]) (sc := defScope sRight) (by decide +kernel)) (fun _ _ _ _ _ => pg_name (i := 9) nd rfl (Or.inl rfl)) (fun _ _ _ _ _ => pts_nil) (fun _ _ _ _ _ => pe_callTy (show CallR _ _ (fun xs H Q => ∃ p ys, xs = [.ref p] ∧ (SqL K H p ys ∨ SqT K H p ys) ∧ ∀ l, H l = none → Q (.ref l) (upd H l (.lst ys))) from call_list_of) (by rfl) mList (by decide +kernel) (pa_cons (pv 9) pa_nil))) pa_nil))) (nomark _)) (pe_one (pe_cmpR (op_neN T FE bE r2) (pv 2) (pe_tup (pa_cons (pv 0) (pa_cons (pv 1) pa_nil))) (nomark _))))))))))))))), ?_⟩
    obtain ⟨dx, t, us, e, et, pu, hu⟩ := id hN
    have hll : (nums zs).length ≤ 12 := by unfold nums; rw [List.length_map]; exact hl
    -- places and arrows
    refine ⟨_, rfl, x, CN, dx, _, _, rfl, e, T.t.cl, T.t.nP, rfl, _, rfl, x, CN, dx, _, _, rfl, e, T.t.cl, T.t.nA, rfl, by show 2 ≤ sizeLine; decide, fun l1 m1 => ?_⟩
    have s1 : Same H (upd H l1 (.lst [.int n, .ref t])) := same_upd m1
    have e1 : (upd H l1 (.lst [.int n, .ref t])) l1 = some (.lst [.int n, .ref t]) := upd_same
    generalize upd H l1 (.lst [.int n, .ref t]) = H1 at s1 e1
    have dd1 : Dp K H1 (.ref l1) (.list [.int n, .tuple ((nums zs).map pd)]) := .lst (SqL.of e1) (.cons (.int _) (.cons (by rw [← hu]; exact dp_tup (SqT.of (s1 _ _ et)) (pu.same s1)) .nil))
    have sh1 : Shown (.list [.int n, .tuple ((nums zs).map pd)]) := shown1 ⟨by omega, by omega⟩ (vv_sm n8 hv) hll
    refine ⟨_, _, rfl, rdv dd1 (nd1 _), sh1, ?_⟩
    refine ⟨_, rfl, _, rfl, a, rf zs, rfl, .inl ⟨s1.seq hS, fun l2 m2 => ?_⟩⟩
    have s2 : Same H1 (upd H1 l2 (.tup (rf zs))) := same_upd m2
    have e2 : (upd H1 l2 (.tup (rf zs))) l2 = some (.tup (rf zs)) := upd_same
    generalize upd H1 l2 (.tup (rf zs)) = H2 at s2 e2
    refine ⟨by show 2 ≤ sizeLine; decide, fun l3 m3 => ?_⟩
    have s3 : Same H2 (upd H2 l3 (.lst [.int n, .ref l2])) := same_upd m3
    have e3 : (upd H2 l3 (.lst [.int n, .ref l2])) l3 = some (.lst [.int n, .ref l2]) := upd_same
    generalize upd H2 l3 (.lst [.int n, .ref l2]) = H3 at s3 e3
    have s03 : Same H H3 := (s1.trans s2).trans s3
    have dd3 : Dp K H3 (.ref l3) (.list [.int n, .tuple ((nums zs).map pd)]) := .lst (SqL.of e3) (.cons (.int _) (.cons (dp_tup (SqT.of (s3 _ _ e2)) (hp.same s03).prt) .nil))
    refine ⟨_, _, rfl, rdv dd3 (nd1 _), sh1, rfl, _, rfl, iteFb (by simp) ?_⟩
    clear dd1 dd3 sh1
    -- ends
    refine ⟨_, rfl, (n : Int), rfl, by omega, by omega, fun re nre => ?_⟩
    rw [Int.toNat_natCast]
    refine lc_range (lo := 0) (n := n) (fun i Hc => Hc re = some (.lst (((rng i).filter fun k => decide (k ∉ (nums zs).map Prod.fst)).map L2.V.int)) ∧ Same H3 Hc) ⟨upd_same, same_upd nre⟩ ?_ ?_
    · rintro i Hc hi ⟨ec, sc⟩
      have ei : (0 + (i : Int)) = (i : Int) := by omega
      rw [ei]
      refine ⟨rfl, ?_⟩
      have sHc : Same H Hc := s03.trans sc
      refine ⟨_, rfl, a, rfl, ⟨_, sHc.seq hS⟩, fun D nD => ?_⟩
      refine lc_list (K := K) (a := a) (xs := rf zs) (fun j Hd => ∃ L : List Int, L.length ≤ j ∧ (L = [] ↔ ∀ q ∈ (nums zs).take j, q.1 ≠ (i : Int)) ∧ Hd D = some (.lst (L.map L2.V.int)) ∧ Same Hc Hd) ⟨[], Nat.le_refl _, ⟨fun _ q m => by simp at m, fun _ => rfl⟩, upd_same, same_upd nD⟩ (fun j Hd _ hh => by obtain ⟨_, _, _, _, s⟩ := hh; exact (sHc.trans s).seq hS) ?_ ?_
      · rintro j y Hd hj ⟨L, hL, iL, eD, sd⟩
        obtain ⟨⟨z, z1, z2⟩, hz, rfl⟩ := rf_inv hj
        have hil : j < zs.length := (List.getElem?_eq_some_iff.mp hz).1
        have htk : (nums zs).take (j + 1) = (nums zs).take j ++ [(z1, z2)] := by
          rw [List.take_add_one, nums_get hz]; rfl
        refine ⟨z, [.int z1, .int z2], rfl, .inl (.inl ((sHc.trans sd) _ _ (hp _ (List.mem_of_getElem? hz)))), rfl, .int z1, [.int z2], rfl, .int z2, [], rfl, rfl, rfl, ?_⟩
        refine ⟨_, rfl, _, rfl, rfl, _, rfl, ite2 (fun c => ?_) (fun c => ?_)⟩
        · have hzi : z1 = (i : Int) := L2.V.int.inj (of_decide_eq_true c)
          refine ⟨_, eD, small_2000 (by rw [List.length_map]; omega), L ++ [1], by rw [List.length_append]; exact Nat.succ_le_succ hL, ⟨fun z => by simp at z, fun q => ?_⟩, by rw [upd_same, List.map_append]; rfl, same_put sd nD⟩
          rw [htk] at q
          exact absurd hzi (q (z1, z2) (List.mem_append_right _ (List.mem_singleton.mpr rfl)))
        · have hzi : ¬ z1 = (i : Int) := fun q => c (decide_eq_true (by rw [q]))
          refine ⟨L, by omega, ?_, eD, sd⟩
          rw [iL, htk]
          constructor
          · intro q p m
            rcases List.mem_append.mp m with m | m
            · exact q p m
            · rw [List.mem_singleton] at m
              rw [m]
              exact hzi
          · exact fun q p m => q p (List.mem_append_left _ m)
      · rintro Hd ⟨L, hL, iL, eD, sd⟩
        have hln : (rf zs).length = (nums zs).length := by unfold rf nums; rw [List.length_map, List.length_map]
        rw [hln, List.take_length] at iL
        refine ⟨Nat.zero_le _, fun q nq => ⟨_, _, dp_ints (SqL.of (same_upd nq _ _ eD)), .lst (SqL.of upd_same) .nil, shp_ints L, rfl, _, rfl, ?_⟩⟩
        have sq : Same Hc (upd Hd q (.lst [])) := sd.trans (same_upd nq)
        generalize upd Hd q (.lst []) = Hq at sq
        have mem : (i : Int) ∉ (nums zs).map Prod.fst ↔ L = [] := by
          rw [iL]
          constructor
          · exact fun z p m e => z (List.mem_map.mpr ⟨p, m, e⟩)
          · intro z m
            obtain ⟨p, hp', e⟩ := List.mem_map.mp m
            exact z p hp' e
        cases L with
        | nil =>
          refine iteT ?_
          refine ⟨_, rfl, _, sq _ _ ec, small_2000 (by rw [List.length_map]; exact Nat.le_trans (List.length_filter_le _ _) (by unfold rng; rw [List.length_map, List.length_range]; omega)), ?_, same_put (sc.trans sq) nre⟩
          rw [upd_same, rng_succ, List.filter_append, List.filter_cons_of_pos (by exact decide_eq_true (mem.mpr rfl)), List.filter_nil, List.map_append]
          rfl
        | cons y r =>
          refine iteF ?_
          refine ⟨?_, sc.trans sq⟩
          rw [rng_succ, List.filter_append, List.filter_cons_of_neg (by rw [decide_eq_false (fun z => by have := mem.mp z; cases this)]; exact Bool.false_ne_true), List.filter_nil, List.append_nil]
          exact sq _ _ ec
    · rintro H4 ⟨ere, sre⟩
      have s04 : Same H H4 := s03.trans sre
      -- ends
      refine ⟨_, rfl, (n : Int), rfl, by omega, by omega, fun rb nrb => ?_⟩
      rw [Int.toNat_natCast]
      refine lc_range (lo := 0) (n := n) (fun i Hc => Hc rb = some (.lst (((rng i).filter fun k => decide (k ∉ (nums zs).map Prod.snd)).map L2.V.int)) ∧ Same H4 Hc) ⟨upd_same, same_upd nrb⟩ ?_ ?_
      · rintro i Hc hi ⟨ec, sc⟩
        have ei : (0 + (i : Int)) = (i : Int) := by omega
        rw [ei]
        refine ⟨rfl, ?_⟩
        have sHc : Same H Hc := s04.trans sc
        refine ⟨_, rfl, a, rfl, ⟨_, sHc.seq hS⟩, fun D nD => ?_⟩
        refine lc_list (K := K) (a := a) (xs := rf zs) (fun j Hd => ∃ L : List Int, L.length ≤ j ∧ (L = [] ↔ ∀ q ∈ (nums zs).take j, q.2 ≠ (i : Int)) ∧ Hd D = some (.lst (L.map L2.V.int)) ∧ Same Hc Hd) ⟨[], Nat.le_refl _, ⟨fun _ q m => by simp at m, fun _ => rfl⟩, upd_same, same_upd nD⟩ (fun j Hd _ hh => by obtain ⟨_, _, _, _, s⟩ := hh; exact (sHc.trans s).seq hS) ?_ ?_
        · rintro j y Hd hj ⟨L, hL, iL, eD, sd⟩
          obtain ⟨⟨z, z1, z2⟩, hz, rfl⟩ := rf_inv hj
          have hil : j < zs.length := (List.getElem?_eq_some_iff.mp hz).1
          have htk : (nums zs).take (j + 1) = (nums zs).take j ++ [(z1, z2)] := by
            rw [List.take_add_one, nums_get hz]; rfl
          refine ⟨z, [.int z1, .int z2], rfl, .inl (.inl ((sHc.trans sd) _ _ (hp _ (List.mem_of_getElem? hz)))), rfl, .int z1, [.int z2], rfl, .int z2, [], rfl, rfl, rfl, ?_⟩
          refine ⟨_, rfl, _, rfl, rfl, _, rfl, ite2 (fun c => ?_) (fun c => ?_)⟩
          · have hzi : z2 = (i : Int) := L2.V.int.inj (of_decide_eq_true c)
            refine ⟨_, eD, small_2000 (by rw [List.length_map]; omega), L ++ [1], by rw [List.length_append]; exact Nat.succ_le_succ hL, ⟨fun z => by simp at z, fun q => ?_⟩, by rw [upd_same, List.map_append]; rfl, same_put sd nD⟩
            rw [htk] at q
            exact absurd hzi (q (z1, z2) (List.mem_append_right _ (List.mem_singleton.mpr rfl)))
          · have hzi : ¬ z2 = (i : Int) := fun q => c (decide_eq_true (by rw [q]))
            refine ⟨L, by omega, ?_, eD, sd⟩
            rw [iL, htk]
            constructor
            · intro q p m
              rcases List.mem_append.mp m with m | m
              · exact q p m
              · rw [List.mem_singleton] at m
                rw [m]
                exact hzi
            · exact fun q p m => q p (List.mem_append_left _ m)
        · rintro Hd ⟨L, hL, iL, eD, sd⟩
          have hln : (rf zs).length = (nums zs).length := by unfold rf nums; rw [List.length_map, List.length_map]
          rw [hln, List.take_length] at iL
          refine ⟨Nat.zero_le _, fun q nq => ⟨_, _, dp_ints (SqL.of (same_upd nq _ _ eD)), .lst (SqL.of upd_same) .nil, shp_ints L, rfl, _, rfl, ?_⟩⟩
          have sq : Same Hc (upd Hd q (.lst [])) := sd.trans (same_upd nq)
          generalize upd Hd q (.lst []) = Hq at sq
          have mem : (i : Int) ∉ (nums zs).map Prod.snd ↔ L = [] := by
            rw [iL]
            constructor
            · exact fun z p m e => z (List.mem_map.mpr ⟨p, m, e⟩)
            · intro z m
              obtain ⟨p, hp', e⟩ := List.mem_map.mp m
              exact z p hp' e
          cases L with
          | nil =>
            refine iteT ?_
            refine ⟨_, rfl, _, sq _ _ ec, small_2000 (by rw [List.length_map]; exact Nat.le_trans (List.length_filter_le _ _) (by unfold rng; rw [List.length_map, List.length_range]; omega)), ?_, same_put (sc.trans sq) nrb⟩
            rw [upd_same, rng_succ, List.filter_append, List.filter_cons_of_pos (by exact decide_eq_true (mem.mpr rfl)), List.filter_nil, List.map_append]
            rfl
          | cons y r =>
            refine iteF ?_
            refine ⟨?_, sc.trans sq⟩
            rw [rng_succ, List.filter_append, List.filter_cons_of_neg (by rw [decide_eq_false (fun z => by have := mem.mp z; cases this)]; exact Bool.false_ne_true), List.filter_nil, List.append_nil]
            exact sq _ _ ec
      · rintro H5 ⟨erb, srb⟩
        have s05 : Same H H5 := s04.trans srb
        have ere5 := srb _ _ ere
        change H5 re = some (.lst ((ends Prod.fst n (nums zs)).map L2.V.int)) at ere5
        change H5 rb = some (.lst ((ends Prod.snd n (nums zs)).map L2.V.int)) at erb
        have sh2 : Shown (.list [.list ((ends Prod.fst n (nums zs)).map PyData.int), .list ((ends Prod.snd n (nums zs)).map PyData.int)]) := shown2 (ends_mem n8) (ends_len n8) (ends_mem n8) (ends_len n8)
        refine ⟨_, rfl, .ref x, rfl, .inr ⟨x, n, nums zs, rfl, hN.same s05, hll, n8, fun pu Hau sau npu epu => ?_⟩⟩
        refine ⟨_, rfl, .ref x, rfl, .inr ⟨x, n, nums zs, rfl, hN.same (s05.trans sau), hll, n8, fun qu Hbu sbu nqu equ => ?_⟩⟩
        refine ⟨by show 2 ≤ sizeLine; decide, fun lu mu => ?_⟩
        have scu : Same Hbu (upd Hbu lu (.lst [.ref pu, .ref qu])) := same_upd mu
        have elu : (upd Hbu lu (.lst [.ref pu, .ref qu])) lu = some (.lst [.ref pu, .ref qu]) := upd_same
        generalize upd Hbu lu (.lst [.ref pu, .ref qu]) = Hcu at scu elu
        have dau : Dp K Hcu (.ref lu) (.list [.list ((ends Prod.fst n (nums zs)).map PyData.int), .list ((ends Prod.snd n (nums zs)).map PyData.int)]) := .lst (SqL.of elu) (.cons (dp_ints (SqL.of (scu _ _ (sbu _ _ epu)))) (.cons (dp_ints (SqL.of (scu _ _ equ))) .nil))
        refine ⟨_, _, rfl, rdv dau (nd2 _ _), sh2, ?_⟩
        have s5cu : Same H5 Hcu := (sau.trans sbu).trans scu
        refine ⟨_, rfl, _, rfl, by show 2 ≤ sizeLine; decide, fun ou ku => ?_⟩
        have sdu : Same Hcu (upd Hcu ou (.lst [.ref re, .ref rb])) := same_upd ku
        have eou : (upd Hcu ou (.lst [.ref re, .ref rb])) ou = some (.lst [.ref re, .ref rb]) := upd_same
        generalize upd Hcu ou (.lst [.ref re, .ref rb]) = H6 at sdu eou
        have s06' : Same H5 H6 := s5cu.trans sdu
        have s06 : Same H H6 := s05.trans s06'
        have ere6 := s06' _ _ ere5
        have erb6 := s06' _ _ erb
        have dbu : Dp K H6 (.ref ou) (.list [.list ((ends Prod.fst n (nums zs)).map PyData.int), .list ((ends Prod.snd n (nums zs)).map PyData.int)]) := .lst (SqL.of eou) (.cons (dp_ints (SqL.of ere6)) (.cons (dp_ints (SqL.of erb6)) .nil))
        refine ⟨_, _, rfl, rdv dbu (nd2 _ _), sh2, rfl, _, rfl, iteFb (by simp) ?_⟩
        -- what is given is new
        refine ⟨_, rfl, .ref x, rfl, .inr ⟨x, n, nums zs, rfl, hN.same s06, hll, n8, fun pv Hv sv npv epv => ⟨.inl ⟨rfl, _, SqL.of epv⟩, pv, _, _, rfl, rfl, epv, small1000 (by rw [List.length_map]; have := ends_len (f := Prod.fst) (l := nums zs) n8; omega), ?_⟩⟩⟩
        have s7' : Same H6 (upd Hv pv (.lst ((ends Prod.fst n (nums zs)).map L2.V.int ++ [.non]))) := same_put sv npv
        generalize upd Hv pv (.lst ((ends Prod.fst n (nums zs)).map L2.V.int ++ [.non])) = H7 at s7'
        have s07 := s06.trans s7'
        refine ⟨_, rfl, .ref x, rfl, .inr ⟨x, n, nums zs, rfl, hN.same s07, hll, n8, fun pw Hw sw npw epw => ⟨.inl ⟨rfl, _, SqL.of epw⟩, pw, _, _, rfl, rfl, epw, small1000 (by rw [List.length_map]; have := ends_len (f := Prod.snd) (l := nums zs) n8; omega), ?_⟩⟩⟩
        have s8' : Same H7 (upd Hw pw (.lst ((ends Prod.snd n (nums zs)).map L2.V.int ++ [.non]))) := same_put sw npw
        generalize upd Hw pw (.lst ((ends Prod.snd n (nums zs)).map L2.V.int ++ [.non])) = H8 at s8'
        have s08 := s07.trans s8'
        have ere8 := s8' _ _ (s7' _ _ ere6)
        have erb8 := s8' _ _ (s7' _ _ erb6)
        refine ⟨_, rfl, .ref x, rfl, .inr ⟨x, n, nums zs, rfl, hN.same s08, hll, n8, fun py Hay say npy epy => ?_⟩⟩
        refine ⟨_, rfl, .ref x, rfl, .inr ⟨x, n, nums zs, rfl, hN.same (s08.trans say), hll, n8, fun qy Hby sby nqy eqy => ?_⟩⟩
        refine ⟨by show 2 ≤ sizeLine; decide, fun ly my => ?_⟩
        have scy : Same Hby (upd Hby ly (.lst [.ref py, .ref qy])) := same_upd my
        have ely : (upd Hby ly (.lst [.ref py, .ref qy])) ly = some (.lst [.ref py, .ref qy]) := upd_same
        generalize upd Hby ly (.lst [.ref py, .ref qy]) = Hcy at scy ely
        have day : Dp K Hcy (.ref ly) (.list [.list ((ends Prod.fst n (nums zs)).map PyData.int), .list ((ends Prod.snd n (nums zs)).map PyData.int)]) := .lst (SqL.of ely) (.cons (dp_ints (SqL.of (scy _ _ (sby _ _ epy)))) (.cons (dp_ints (SqL.of (scy _ _ eqy))) .nil))
        refine ⟨_, _, rfl, rdv day (nd2 _ _), sh2, ?_⟩
        have s5cy : Same H8 Hcy := (say.trans sby).trans scy
        refine ⟨_, rfl, _, rfl, by show 2 ≤ sizeLine; decide, fun oy ky => ?_⟩
        have sdy : Same Hcy (upd Hcy oy (.lst [.ref re, .ref rb])) := same_upd ky
        have eoy : (upd Hcy oy (.lst [.ref re, .ref rb])) oy = some (.lst [.ref re, .ref rb]) := upd_same
        generalize upd Hcy oy (.lst [.ref re, .ref rb]) = H9 at sdy eoy
        have s09' : Same H8 H9 := s5cy.trans sdy
        have s09 : Same H H9 := s08.trans s09'
        have ere9 := s09' _ _ ere8
        have erb9 := s09' _ _ erb8
        have dby : Dp K H9 (.ref oy) (.list [.list ((ends Prod.fst n (nums zs)).map PyData.int), .list ((ends Prod.snd n (nums zs)).map PyData.int)]) := .lst (SqL.of eoy) (.cons (dp_ints (SqL.of ere9)) (.cons (dp_ints (SqL.of erb9)) .nil))
        refine ⟨_, _, rfl, rdv dby (nd2 _ _), sh2, rfl, _, rfl, iteFb (by simp) ?_⟩
        -- is_tree
        refine ⟨_, rfl, .ref x, rfl, .inr ⟨x, n, nums zs, rfl, hN.same s09, ?_⟩⟩
        refine ⟨_, _, rfl, rdv (.bl _) rfl, shown_bl _, ?_⟩
        refine ⟨_, rfl, a, _, rfl, .inl (s09.seq hS), _, rfl, _, _, rfl, rfl, rfl, ?_⟩
        have hln : (rf zs).length = (nums zs).length := by unfold rf nums; rw [List.length_map, List.length_map]
        rw [hln]
        refine ⟨_, _, rfl, rdv (.bl _) rfl, shown_bl _, rfl, _, rfl, iteFb (by simp) ?_⟩
        -- back
        refine ⟨_, rfl, _, rfl, a, rfl, ⟨_, s09.seq hS⟩, fun D nD => ?_⟩
        refine lc_list (K := K) (a := a) (xs := rf zs) (fun j Hd => ∃ ws : Zs, nums ws = swp ((nums zs).take j) ∧ PL Hd ws ∧ Hd D = some (.lst (rf ws)) ∧ Same H9 Hd) ⟨[], rfl, fun z m => by simp at m, upd_same, same_upd nD⟩ (fun j Hd _ hh => by obtain ⟨_, _, _, _, s⟩ := hh; exact (s09.trans s).seq hS) ?_ ?_
        · rintro j y Hd hj ⟨ws, hw, pw, eD, sd⟩
          obtain ⟨⟨z, z1, z2⟩, hz, rfl⟩ := rf_inv hj
          have hil : j < zs.length := (List.getElem?_eq_some_iff.mp hz).1
          have htk : (nums zs).take (j + 1) = (nums zs).take j ++ [(z1, z2)] := by
            rw [List.take_add_one, nums_get hz]; rfl
          have hwl : ws.length ≤ j := by
            have := congrArg List.length hw
            unfold nums swp at this
            rw [List.length_map, List.length_map, List.length_take, List.length_map] at this
            omega
          refine ⟨rfl, ?_⟩
          dsimp only [tYes]
          refine iteT ?_
          refine ⟨_, rfl, z, .int z1, .int z2, rfl, .inl (.inl ((s09.trans sd) _ _ (hp _ (List.mem_of_getElem? hz)))), fun q nq => ⟨_, same_upd nq _ _ eD, small_2000 (by rw [rf_len]; omega), ?_⟩⟩
          refine ⟨ws ++ [(q, z2, z1)], ?_, ((pw.same (same_upd nq)).app upd_same).put (same_upd nq _ _ eD), by rw [upd_same, rf_app], same_put (sd.trans (same_upd nq)) nD⟩
          rw [htk]
          unfold swp at hw ⊢
          rw [List.map_append, ← hw]
          unfold nums
          rw [List.map_append]
          rfl
        · rintro Hd ⟨ws, hw, pw, eD, sd⟩
          rw [hln, List.take_length] at hw
          refine fun y dy ny ndy ne => mk_sp (pl := .int n) (ar := .ref D) ny ndy ne (.inr ⟨n, some ws, rfl, n0, n8, .ok (.inl (SqL.of eD)) pw.prt.pra ?_ (by rw [hw]; exact vv_swp hv), fun z => absurd (show Good ws n from ?_) (z ws rfl), fun zs' e' g HA hNb sA => ⟨rfl, ?_⟩⟩)
          · have := congrArg List.length hw
            unfold nums swp at this
            rw [List.length_map, List.length_map, List.length_map] at this
            omega
          · show GoodN (nums ws) n
            rw [hw]
            exact hg'
          · cases e'
            rw [hw] at hNb
            have s0A : Same H HA := (s09.trans sd).trans sA
            refine ⟨_, rfl, .ref x, rfl, .inr ⟨x, n, nums zs, rfl, hN.same s0A, n0, n8, hll, hv, hg', fun y1 HB hN1 sB => ?_⟩⟩
            refine ⟨_, rfl, y1, n, _, rfl, hN1, .inl ⟨y, n, _, rfl, hNb.same sB, fun HC sC => ⟨_, rfl, ?_⟩⟩⟩
            refine iteFb (by simp) ?_
            have sAC := sB.trans sC
            refine ⟨_, rfl, .ref y, rfl, .inr ⟨y, n, swp (nums zs), rfl, hNb.same sAC, n0, n8, by unfold swp; rw [List.length_map]; exact hll, vv_swp hv, by rw [swp_swp]; exact hg, fun y2 HD hN2 sD => ?_⟩⟩
            rw [swp_swp] at hN2
            refine ⟨_, rfl, y2, n, _, rfl, hN2, .inl ⟨x, n, _, rfl, hN.same ((s0A.trans sAC).trans sD), fun HE sE => ⟨_, rfl, ?_⟩⟩⟩
            refine iteFb (by simp) ?_
            have s0E : Same H HE := ((s0A.trans sAC).trans sD).trans sE
            -- the same Net, of lists
            refine ⟨_, rfl, _, rfl, _, rfl, a, rfl, ⟨_, s0E.seq hS⟩, fun D2 nD2 => ?_⟩
            refine lc_list (K := K) (a := a) (xs := rf zs) (fun j Hf => ∃ vs : Zs, nums vs = (nums zs).take j ∧ LL Hf vs ∧ Hf D2 = some (.lst (rf vs)) ∧ Same HE Hf) ⟨[], rfl, fun z m => by simp at m, upd_same, same_upd nD2⟩ (fun j Hf _ hh => by obtain ⟨_, _, _, _, s⟩ := hh; exact (s0E.trans s).seq hS) ?_ ?_
            · rintro j yy Hf hj ⟨vs, hvs, pvs, eD2, sf⟩
              obtain ⟨⟨z, z1, z2⟩, hz, rfl⟩ := rf_inv hj
              have hil : j < zs.length := (List.getElem?_eq_some_iff.mp hz).1
              have htk : (nums zs).take (j + 1) = (nums zs).take j ++ [(z1, z2)] := by
                rw [List.take_add_one, nums_get hz]; rfl
              have hwl : vs.length ≤ j := by
                have := congrArg List.length hvs
                unfold nums at this
                rw [List.length_map, List.length_take, List.length_map] at this
                omega
              refine ⟨rfl, ?_⟩
              dsimp only [tYes]
              refine iteT ?_
              refine ⟨_, rfl, z, _, rfl, .inr (.inl (.inl ((s0E.trans sf) _ _ (hp _ (List.mem_of_getElem? hz))))), fun q nq => ⟨_, same_upd nq _ _ eD2, small_2000 (by rw [rf_len]; omega), ?_⟩⟩
              refine ⟨vs ++ [(q, z1, z2)], ?_, ((pvs.same (same_upd nq)).app upd_same).put (same_upd nq _ _ eD2), by rw [upd_same, rf_app], same_put (sf.trans (same_upd nq)) nD2⟩
              rw [htk, ← hvs]
              unfold nums
              rw [List.map_append]
              rfl
            · rintro Hf ⟨vs, hvs, pvs, eD2, sf⟩
              rw [hln, List.take_length] at hvs
              refine fun y3 dy3 ny3 ndy3 ne3 => mk_sp (pl := .int n) (ar := .ref D2) ny3 ndy3 ne3 (.inr ⟨n, some vs, rfl, n0, n8, .ok (.inl (SqL.of eD2)) (fun z m => .inl (SqL.of (pvs z m))) ?_ (by rw [hvs]; exact hv), fun z => absurd (show Good vs n from ?_) (z vs rfl), fun zs' e' g HG hN3 sG => ⟨rfl, ?_⟩⟩)
              · have := congrArg List.length hvs
                unfold nums at this
                rw [List.length_map, List.length_map] at this
                omega
              · show GoodN (nums vs) n
                rw [hvs]
                exact hg
              · cases e'
                rw [hvs] at hN3
                have s0G : Same H HG := (s0E.trans sf).trans sG
                refine ⟨x, n, _, rfl, hN.same s0G, .inl ⟨y3, n, _, rfl, hN3, fun HI sI => ⟨_, rfl, ?_⟩⟩⟩
                refine iteTb (by simp) ?_
                have s0I := s0G.trans sI
                refine ⟨_, rfl, _, rfl, _, rfl, by show 2 ≤ sizeLine; decide, fun q nq => ?_⟩
                refine ⟨x, n, _, rfl, hN.same (s0I.trans (same_upd nq)), .inr ⟨q, _, rfl, SqT.of upd_same, fun HJ sJ => k HJ ((s0I.trans (same_upd nq)).trans sJ)⟩⟩
end
end K03


set_option Elab.async false
set_option maxRecDepth 100000
set_option maxHeartbeats 4000000
set_option linter.all false
namespace K03
open PySem PySem.Spec PyProof.Rows L2 NetM
theorem mem_swp {l : List (Int × Int)} {a b : Int} : (a, b) ∈ swp l ↔ (b, a) ∈ l := by
  unfold swp
  constructor
  · intro m
    obtain ⟨⟨x, y⟩, hm, e⟩ := List.mem_map.mp m
    cases e
    exact hm
  · intro m
    exact List.mem_map.mpr ⟨(b, a), m, rfl⟩
theorem both_swp {l : List (Int × Int)} {a b : Int} : (a, b) ∈ both (swp l) ↔ (a, b) ∈ both l := by
  rw [mem_both, mem_both, mem_swp, mem_swp]
  exact Or.comm
theorem rch_mono {E F : Prs} (h : ∀ a b, (a, b) ∈ E → (a, b) ∈ F) {a b : Int} (r : Rch E a b) : Rch F a b := by
  induction r with
  | refl => exact .refl _
  | step _ e ih => exact .step ih (h _ _ e)
theorem rng_mem {n : Nat} {x : Int} : x ∈ rng n ↔ InR n x := by
  unfold rng InR
  constructor
  · intro m
    obtain ⟨k, hk, rfl⟩ := List.mem_map.mp m
    have := List.mem_range.mp hk
    omega
  · rintro ⟨h0, h1⟩
    obtain ⟨k, rfl⟩ := Int.eq_ofNat_of_zero_le h0
    exact List.mem_map.mpr ⟨k, List.mem_range.mpr (by omega), rfl⟩
theorem rng_nd (n : Nat) : (rng n).Nodup := by
  unfold rng
  rw [List.nodup_iff_pairwise_ne, List.pairwise_map]
  exact List.Pairwise.imp (fun {a b} h z => h (by omega)) List.nodup_range
theorem full_of {E : Prs} {n : Nat} (n0 : 0 < n) (hE : ∀ t h, (t, h) ∈ E → InR n t ∧ InR n h) (h : ∀ k : Nat, k < n → Rch (both E) 0 k) : (rounds E n [0]).length = n := by
  refine (hangs_iff n0 hE (rng_nd n) fun x => ⟨fun m => ?_, fun r => ?_⟩).mpr (by unfold rng; rw [List.length_map, List.length_range]; omega)
  · obtain ⟨h0, h1⟩ := rng_mem.mp m
    obtain ⟨k, rfl⟩ := Int.eq_ofNat_of_zero_le h0
    exact h k (by omega)
  · refine Rch.closed (S := rng n) (fun t g m _ => ?_) (rng_mem.mpr ⟨by omega, by omega⟩) r
    rcases mem_both.mp m with m | m
    · exact rng_mem.mpr (hE _ _ m).2
    · exact rng_mem.mpr (hE _ _ m).1
theorem down_acy {E : Prs} (h : ∀ t g, (t, g) ∈ E → g < t) : Acy E := by
  have dn : ∀ {a b : Int}, Rch E a b → b ≤ a := fun r => by
    induction r with
    | refl => exact Int.le_refl _
    | step _ e ih => have := h _ _ e; omega
  intro t g m r
  have := h t g m
  have := dn r
  omega
theorem Up.good {n : Nat} {zs : Zs} (n0 : 0 < n) (u : Up n n zs) : VV n (nums zs) ∧ GoodN (nums zs) n ∧ GoodN (swp (nums zs)) n := by
  have hv : VV n (nums zs) := fun t h m => by
    obtain ⟨h0, h1, h2⟩ := u.up (t, h) m
    refine ⟨⟨h0, ?_⟩, ⟨?_, h2⟩, ?_⟩
    · show t < n
      have h1 : t < h := h1
      have h2 : h < n := h2
      omega
    · show 0 ≤ h
      have h1 : t < h := h1
      have h0 : 0 ≤ t := h0
      omega
    · have h1 : t < h := h1
      omega
  have hE : ∀ t h, (t, h) ∈ nums zs → InR n t ∧ InR n h := fun t h m => ⟨(hv t h m).1, (hv t h m).2.1⟩
  have hE' : ∀ t h, (t, h) ∈ swp (nums zs) → InR n t ∧ InR n h := fun t h m => (hE h t (mem_swp.mp m)).symm
  have all := tree_all (E := nums zs) (n := n) fun k h1 h2 => u.tree k h1 h2
  refine ⟨hv, ⟨full_of n0 hE all, (order_iff hE).mpr (up_acy fun t g m => (u.up (t, g) m).2.1)⟩, ⟨full_of n0 hE' fun k hk => rch_mono (fun a b m => both_swp.mpr m) (all k hk), (order_iff hE').mpr (down_acy fun t g m => ?_)⟩⟩
  exact (u.up (g, t) (mem_swp.mp m)).2.1
end K03


set_option Elab.async false
set_option maxRecDepth 100000
set_option maxHeartbeats 8000000
set_option linter.all false
namespace K03
open PySem PySem.Spec PyProof.Rows L2 NetM GL LamX
abbrev sLaw : Stmt := top 33
theorem scLaw : FnScope ["script", "draw", "turn", "pairs_here", "lap", "due", "other", "bent", "many_here"] ["script"] (defScope sLaw) := ⟨rfl, rfl, rfl, by decide +kernel, rfl, by decide +kernel, by decide +kernel⟩
theorem FunC.okG {P : Program} {w : World} {K : PySem.W.Frag} {mg : Str → Option Value} {base : Heap} {x qual : Str} {st : Stmt} {f c : Addr} {fd : FuncData} {N ps : List Str} {k : Nat} {sp : Sp} (F : FunC K x qual st f fd c) (S : FnScope N ps (defScope st)) (len : ∀ vs H Q E, sp vs H Q E → vs.length = ps.length)
    (hbody : ∀ (A : Around) (outer : List Env) (s : Shared) (H : Hp) (vs : List L2.V) (Q : VK) (E : XK), A.guards = some [] → Room k (A.deeper (envOfC qual (defScope st) s.heap.objs.size f (.ref c))) → sp vs H Q E →
      ∃ t, PSs (cxOf L2.CX0 P w K mg base N qual (defScope st) f (.ref c) A outer s H E).nox (defBody st) t ∧ t { nx := fun _ H' => Q .non H', rt := Q } (L2.start N vs) H) : FnG P w K mg base L2.CX0 (k + 1) f fd ps sp := by
  obtain ⟨oc, od, kV, doc, pm, an, ct, osl, rfl, lk, hcd⟩ := F.ex
  refine fng_of lk hcd S len fun A outer s H vs Q E hga hr hsp => ?_
  obtain ⟨t, h, q⟩ := hbody A outer s H vs Q E hga hr hsp
  exact ⟨t, h.nox, q⟩
theorem op_addK {X : Cx} : OpR X (binaryOp .Add) (fun x y H Q => ∃ i j k : Int, x = .int i ∧ y = .int j ∧ i + j = k ∧ Q (.int k) H) := by
  intro pins s σ H x y v u Q I rx ry h
  obtain ⟨i, j, k, ex, ey, rfl, q⟩ := h
  exact op_add pins s σ H x y v u Q I rx ry ⟨i, j, ex, ey, q⟩
def spLaw (K : PySem.W.Frag) (T : List (Addr × Str)) : Sp := fun vs H Q _ => ∃ (a : Addr) (ns : List Int), vs = [.ref a] ∧ SqL K H a (ns.map V.int) ∧ ns.length ≤ 63 ∧ Tabs T H ∧ ∀ H', Q (.bl true) H'
/-- the law's own defs -/
structure Own (P : Program) (w : World) (K : PySem.W.Frag) (mg : Str → Option Value) (base : Heap) (T : List (Addr × Str)) (CN : Addr) where
  f : Nat → Addr
  fd : Nat → FuncData
  begun : FnOk P w K mg base CX0 1 (f 0) (fd 0) ["script"] (spBegun K)
  take : FnOk P w K mg base CX0 2 (f 1) (fd 1) ["draw", "amount"] spTake
  pairs : FnOk P w K mg base CX0 4 (f 2) (fd 2) ["draw", "many_here"] spPairs
  bent : FnOk P w K mg base CX0 3 (f 3) (fd 3) ["draw", "many_here", "pairs_here"] (spBent K)
  isnet : FnOk P w K mg base CX0 2 (f 4) (fd 4) ["many_here", "pairs_here"] (spIsNet K)
  ref : FnOk P w K mg base CX0 9 (f 5) (fd 5) ["draw"] (spRef T)
  right : FnG P w K mg base L2.CX0 8 (f 6) (fd 6) ["many_here", "pairs_here", "net_here"] (spRight K CN)
  g : ∀ i x, (["_law_begun", "_law_take", "_law_any_pairs", "_law_bent", "_law_is_net", "_law_refused", "_law_right"] : List Str)[i]? = some x → mg x = some (.ref (f i))
  kp : ∀ i, i < 7 → PySem.W.keepIn K (.ref (f i)) = true
  b0 : L2.Binds K (fd 0) ["script"] []
  b1 : L2.Binds K (fd 1) ["draw", "amount"] []
  b2 : L2.Binds K (fd 2) ["draw", "many_here"] []
  b3 : L2.Binds K (fd 3) ["draw", "many_here", "pairs_here"] []
  b4 : L2.Binds K (fd 4) ["many_here", "pairs_here"] []
  b5 : L2.Binds K (fd 5) ["draw"] []
  b6 : L2.Binds K (fd 6) ["many_here", "pairs_here", "net_here"] []
section
variable {P : Program} {w : World} {K : PySem.W.Frag} {mg : Str → Option Value} {base : Heap}
theorem ok_law {f c Pt : Addr} {fd dE : FuncData} {T : List (Addr × Str)} (F : FunC K "law" "law" sLaw f fd c) (X : Txt P w K mg base) (O : Own P w K mg base T X.CN) (TB : TabB base mg c Pt) (hmT : (Pt, ("law" : Str) ++ ".<locals>." ++ "<lambda>") ∈ T) (hu : ∀ p ∈ T, p.1 = Pt → p.2 = ("law" : Str) ++ ".<locals>." ++ "<lambda>")
    (FE : FnOk P w K mg base CX0 1 X.fE dE ["self", "other"] (spNetEq K X.CN)) (bE : L2.Binds K dE ["self", "other"] []) (mRa : mg "range" = none) (mMin : mg "min" = none) (mTup : mg "tuple" = none) : FnG P w K mg base L2.CX0 10 f fd ["script"] (spLaw K T) := by
  refine F.okG scLaw (fun vs H Q E h => ?_) (fun A outer s H vs Q E hga hr h => ?_)
  · obtain ⟨a, ns, rfl, _⟩ := h
    rfl
  · obtain ⟨a, ns, rfl, hS, hlen, hT, k⟩ := h
    have nd := scLaw.nd
    have r1 : Room 1 _ := hr.mono (by decide)
    have r2 : Room 2 _ := hr.mono (by decide)
    have r3 : Room 3 _ := hr.mono (by decide)
    have r4 : Room 4 _ := hr.mono (by decide)
    have r5 : Room 5 _ := hr.mono (by decide)
    have r8 : Room 8 _ := hr.mono (by decide)
    refine ⟨_, pss_cons (ps_set (i := 1) nd rfl (Or.inl rfl) (pe_call O.begun r1 (by rfl) (O.g 0 _ rfl) (O.kp 0 (by decide)) O.b0 .nil pass0 (pa_cons (pv 0) pa_nil)))
      (pss_cons (ps_for PassesOwn.never rfl (pi_range1 (by rfl) mRa (pa_cons (pe_op op_add pe_int (pe_callB (call_min2 rfl) (by rfl) mMin (by decide +kernel) (pa_cons (pe_callB call_len_seq (by rfl) X.mLen PySem.boot_len (pa_cons (pv 0) pa_nil)) (pa_cons pe_int pa_nil)))) pa_nil)) (pg_name (i := 2) nd rfl (Or.inl rfl))
        (pss_cons (ps_set (i := 8) nd rfl (Or.inr rfl) (pe_op op_addK pe_int (pe_call O.take r2 (by rfl) (O.g 1 _ rfl) (O.kp 1 (by decide)) O.b1 .nil pass0 (pa_cons (pv 1) (pa_cons pe_int pa_nil)))))
        (pss_cons (ps_set (i := 3) nd rfl (Or.inl rfl) (pe_call O.pairs r4 (by rfl) (O.g 2 _ rfl) (O.kp 2 (by decide)) O.b2 .nil pass0 (pa_cons (pv 1) (pa_cons (pv 8) pa_nil))))
        (pss_cons (ps_if (pt_not (pt_val (pe_callG O.right hga r8 (by rfl) (O.g 6 _ rfl) (O.kp 6 (by decide)) O.b6 .nil pass0 (pa_cons (pv 8) (pa_cons (pv 3) (pa_cons
            (pe_make X.mkn.m X.mkn.ok r5 (by rfl) X.net.t.g X.mkn.b .nil (passes_call LamX.takes0 fun _ _ _ _ h => h) (pa_cons (pv 8) (pa_cons (pe_callTy call_tuple_of (by rfl) mTup (by decide +kernel) (pa_cons (pv 3) pa_nil)) pa_nil))) pa_nil)))))) (pss_one (ps_ret pe_bl)) pss_nil)
        (pss_cons (ps_for PassesOwn.never rfl (pi_range1 (by rfl) mRa (pa_cons pe_int pa_nil)) (pg_name (i := 4) nd rfl (Or.inl rfl))
          (pss_cons (ps_set (i := 7) nd rfl (Or.inr rfl) (pe_call O.bent r3 (by rfl) (O.g 3 _ rfl) (O.kp 3 (by decide)) O.b3 .nil pass0 (pa_cons (pv 1) (pa_cons (pv 8) (pa_cons (pv 3) pa_nil)))))
          (pss_cons (ps_set (i := 5) nd rfl (Or.inl rfl) (pe_ifExp (PW.pt (pw_and (pt_val (pe_call O.isnet r2 (by rfl) (O.g 4 _ rfl) (O.kp 4 (by decide)) O.b4 .nil pass0 (pa_cons (pv 8) (pa_cons (pv 7) pa_nil)))) (pw_and1 (pt_cmpR op_lt (pe_callB call_len_seq (by rfl) X.mLen PySem.boot_len (pa_cons (pv 7) pa_nil)) pe_int (nomark _))))) pe_str pe_str))
          (pss_cons (ps_if (pt_cmpR op_ne (pe_lamV (k := 5) (by rfl) X.gP X.kP X.part TB rfl hmT hu r8 (lamS_by (sc := defScope sLaw) (by decide +kernel)) rfl (fun _ _ _ _ _ => rfl)
              (fun A outer s H E f c' hr2 => pe_make X.mkn.m X.mkn.ok hr2 (by rfl) X.net.t.g X.mkn.b .nil (passes_call (takes_of rfl rfl rfl rfl) fun _ _ _ _ h => h) (pa_cons (pv 8) (pa_cons (pv 7) pa_nil)))) (pv 5) (nomark _)) (pss_one (ps_ret pe_bl)) pss_nil)
          (pss_cons (ps_set (i := 6) nd rfl (Or.inl rfl) (pe_ifExp (pt_cmpR op_eq (pv 5) pe_str (nomark _)) (pe_make X.mkn.m X.mkn.ok r5 (by rfl) X.net.t.g X.mkn.b .nil (passes_call LamX.takes0 fun _ _ _ _ h => h) (pa_cons (pv 8) (pa_cons (pv 7) pa_nil))) pe_non))
          (pss_one (ps_if (PW.pt (pw_and (pt_cmpR op_notN (pv 6) pe_non (nomark _)) (pw_and1 (pt_cmpR op_ne (pe_cmpR (op_eqN X.net FE bE r1) (pv 6) (pe_make X.mkn.m X.mkn.ok r5 (by rfl) X.net.t.g X.mkn.b .nil (passes_call LamX.takes0 fun _ _ _ _ h => h) (pa_cons (pv 8) (pa_cons (pv 3) pa_nil))) (nomark _)) (pe_cmpR (op_eqD hr.units) (pv 7) (pv 3) (nomark _)) (nomark _))))) (pss_one (ps_ret pe_bl)) pss_nil)))))))
        (pss_one (ps_if (pt_not (pt_val (pe_call O.ref hr (by rfl) (O.g 5 _ rfl) (O.kp 5 (by decide)) O.b5 .nil pass0 (pa_cons (pv 1) pa_nil)))) (pss_one (ps_ret pe_bl)) pss_nil)))))))
      (pss_one (ps_ret pe_bl))), ?_⟩
    refine ⟨_, rfl, a, ns, rfl, hS, hlen, fun d lg cl H1 D1 s1 nd1 nl1 nc1 => ?_⟩
    have t1 : Tabs T H1 := hT.ext s1
    have hS1 : SqL K H1 a (ns.map L2.V.int) := s1.seq hS
    refine ⟨_, rfl, a, _, rfl, .inl hS1, _, _, rfl, _, _, rfl, rfl, _, rfl, ?_, ?_, ?_⟩
    · rw [List.length_map]; split <;> omega
    · rw [List.length_map]; split <;> omega
    refine for_range (lo := 0) (fun i σ Hx => ∃ v2 v3 v4 v5 v6 v7 v8 : Option L2.V, σ = [some (.ref a), some (.ref d), v2, v3, v4, v5, v6, v7, v8] ∧ DrawAt Hx d lg cl ∧ Tabs T Hx) ⟨none, none, none, none, none, none, none, rfl, D1, t1⟩ ?_ ?_
    · clear hS1 t1 D1 nd1 nl1 nc1
      rintro i σ Hx hi ⟨v2, v3, v4, v5, v6, v7, v8, rfl, Dx, tx⟩
      refine ⟨_, rfl, d, lg, cl, 8, rfl, Dx, by decide, by decide, fun z H2 z1 z2 D2 k2 => ?_⟩
      have t2 := Tabs.kept Dx k2 tx
      obtain ⟨n, hn, n0, n8⟩ : ∃ n : Nat, 1 + z = (n : Int) ∧ 0 < n ∧ n ≤ 8 := ⟨(1 + z).toNat, by omega, by omega, by omega⟩
      refine ⟨1, z, n, rfl, rfl, hn, ?_⟩
      refine ⟨_, rfl, _, rfl, d, lg, cl, n, rfl, D2, n0, n8, fun ys p H3 u hyl D3 k3 np ep pp => ?_⟩
      have t3 := Tabs.kept D2 k3 t2
      obtain ⟨hv, hg, hg'⟩ := u.good n0
      obtain ⟨pd', plg, pcl⟩ := draw_new D2 np
      clear t2 k2 Dx tx z1 z2 hn
      -- right
      refine ⟨_, rfl, _, rfl, _, rfl, _, rfl, p, _, rfl, .inl ⟨SqL.of ep, fun l m => ?_⟩⟩
      have s4 : Same H3 (upd H3 l (.tup (rf ys))) := same_upd m
      have e4 : (upd H3 l (.tup (rf ys))) l = some (.tup (rf ys)) := upd_same
      generalize upd H3 l (.tup (rf ys)) = H4 at s4 e4
      refine fun x dx nx ndx ne => mk_sp (pl := .int n) (ar := .ref l) nx ndx ne (.inr ⟨n, some ys, rfl, n0, n8, .ok (.inr (SqT.of e4)) (pp.same s4).prt.pra (by omega) hv, fun q => absurd (show Good ys n from hg) (q ys rfl), fun zs' e' g H5 hN s5 => ⟨rfl, ?_⟩⟩)
      cases e'
      have s45 := s4.trans s5
      refine ⟨p, x, n, ys, rfl, SqL.of (s45 _ _ ep), pp.same s45, by omega, n0, n8, hv, hg, hg', hN, fun H6 s6 => ?_⟩
      refine ⟨_, rfl, ?_⟩
      refine iteF ?_
      have s36 := s45.trans s6
      have D6 := draw_same s36 D3
      have t6 := t3.ext s36
      have ep6 := s36 _ _ ep
      have pp6 := pp.same s36
      clear hN g s45 e4 s4 s5 s6 t3 ep pp k3 D3
      refine ⟨3, rfl, by decide, by decide, ?_⟩
      refine for_range (lo := 0) (n := 3) (fun j σ Hy => ∃ v2 v4 v5 v6 v7 : Option L2.V, σ = [some (.ref a), some (.ref d), v2, some (.ref p), v4, v5, v6, v7, some (.int n)] ∧ DrawAt Hy d lg cl ∧ Tabs T Hy ∧ Hy p = some (.lst (rf ys)) ∧ PL Hy ys) ⟨_, v4, v5, v6, v7, rfl, D6, t6, ep6, pp6⟩ ?_ ?_
      · clear s36 pp6 ep6 t6 D6
        rintro j σ Hy hj ⟨w2, w4, w5, w6, w7, rfl, Dy, ty, ey, py⟩
        refine ⟨_, rfl, _, rfl, _, rfl, d, lg, cl, p, n, ys, rfl, Dy, SqL.of ey, py, by omega, n0, n8, hv, fun ws q H7 hwl hvw D7 k7 nq eq pw => ?_⟩
        have t7 := Tabs.kept Dy k7 ty
        have e7 := k7 _ _ ey pd' plg
        have p7 := py.kept Dy k7
        refine ⟨_, rfl, _, rfl, q, n, ws, rfl, eq, pw, by omega, n0, n8, fun t h m => ⟨(hvw t h m).1, (hvw t h m).2.1⟩, fun b H8 hb s8 => ⟨_, rfl, ?_⟩⟩
        have D8 := draw_same s8 D7
        have t8 := t7.ext s8
        have e8 := s8 _ _ e7
        have p8 := p7.same s8
        have eq8 := s8 _ _ eq
        have pw8 := pw.same s8
        clear k7 D7 t7 e7 p7 eq pw s8 Dy ty ey py
        have badA : ((b = false) ∨ 13 ≤ ws.length) → ∃ o, ArV K H8 n (.ref q) o ∧ ∀ zs, o = some zs → ¬ Good zs n := fun hbad => by
          by_cases c : ws.length ≤ 12
          · refine ⟨some ws, .ok (.inl (SqL.of eq8)) pw8.prt.pra c hvw, fun zs e g => ?_⟩
            cases e
            rcases hbad with z | z
            · rw [z] at hb
              have := hb.mpr g
              cases this
            · omega
          · refine ⟨none, .bad (.inl (SqL.of eq8)) (arl_of pw8.prt.pra hvw) (by rw [rf_len]; omega) ?_, fun zs e => by cases e⟩
            rw [rf_len, decide_eq_false c, Bool.false_and]
        cases b with
        | false =>
          refine iteF ?_
          refine iteF ?_
          obtain ⟨o, hA, hgb⟩ := badA (.inl rfl)
          refine ⟨t8, fun Ha sa ta => ?_⟩
          refine ⟨fun cls dd H' => cls = .ref X.CB ∧ ∃ e : Addr, dd = some e ∧ H' e = some (.xd [("part", .str "arrows")]) ∧ Same Ha H', fun _ _ => False, ⟨_, rfl, _, rfl, fun y dy ny ndy ne => mk_sp (pl := .int n) (ar := .ref q) ny ndy ne (.inr ⟨n, o, rfl, n0, n8, hA.ext sa, fun _ e H' _ s' ee => ⟨rfl, e, rfl, ee, s'⟩, fun zs e g => absurd g (hgb zs e)⟩)⟩, fun cls dd H' q' => ?_, fun v H' q' => q'.elim⟩
          obtain ⟨rfl, e, rfl, ee, s'⟩ := q'
          refine ⟨rfl, e, .str "arrows", rfl, ee, fun aa na => ?_⟩
          have sn : ExtN H8 (upd H' aa (ExR (.ref X.CB) (some e) aa)) := sa.trans (ExtN.same (s'.trans (same_upd na)))
          have tn : Tabs T (upd H' aa (ExR (.ref X.CB) (some e) aa)) := ta.ext (s'.trans (same_upd na))
          generalize upd H' aa (ExR (.ref X.CB) (some e) aa) = Hn at sn tn
          refine ⟨_, rfl, rfl, _, rfl, iteFb (by simp) ?_⟩
          refine ⟨_, rfl, rfl, _, rfl, iteFb (by decide) ?_⟩
          refine ⟨_, rfl, rfl, _, rfl, iteFb (by decide) ?_⟩
          refine iteF ?_
          exact ⟨_, _, _, _, _, rfl, draw_ext sn D8, tn, sn _ _ e8 (fun _ z => by cases z), pl_ext sn p8⟩
        | true =>
          refine iteT ?_
          refine ⟨_, rfl, q, _, rfl, .inl (SqL.of eq8), _, _, rfl, rfl, _, rfl, ?_⟩
          rw [rf_len]
          refine ite2 (fun c => ?_) (fun c => ?_)
          · have hw12 : ws.length ≤ 12 := by have := of_decide_eq_true c; omega
            have hgood : Good ws n := hb.mp rfl
            refine ⟨t8, fun Ha sa ta => ?_⟩
            refine ⟨fun _ _ _ => False, fun _ H' => Same Ha H', ⟨_, rfl, _, rfl, fun y dy ny ndy ne => mk_sp (pl := .int n) (ar := .ref q) ny ndy ne (.inr ⟨n, some ws, rfl, n0, n8, ArV.ext sa (.ok (.inl (SqL.of eq8)) pw8.prt.pra hw12 hvw), fun z => absurd hgood (z ws rfl), fun zs e g H' hN' s' => ⟨rfl, s'⟩⟩)⟩, fun cls dd H' q' => q'.elim, fun v H9 s9 => ?_⟩
            have sn : ExtN H8 H9 := sa.trans (ExtN.same s9)
            have tn : Tabs T H9 := ta.ext s9
            refine ⟨_, rfl, rfl, _, rfl, iteFb (by simp) ?_⟩
            refine ⟨_, rfl, rfl, _, rfl, iteTb (by decide) ?_⟩
            have eq9 := sn _ _ eq8 (fun _ z => by cases z)
            have pw9 := pl_ext sn pw8
            have D9 := draw_ext sn D8
            have e9 := sn _ _ e8 (fun _ z => by cases z)
            have p9 := pl_ext sn p8
            refine ⟨_, rfl, _, rfl, fun y dy ny ndy ne => mk_sp (pl := .int n) (ar := .ref q) ny ndy ne (.inr ⟨n, some ws, rfl, n0, n8, .ok (.inl (SqL.of eq9)) pw9.prt.pra hw12 hvw, fun z => absurd hgood (z ws rfl), fun zs' e' g HA hNy sA => ⟨rfl, ?_⟩⟩)⟩
            cases e'
            refine ⟨_, rfl, rfl, _, rfl, iteTb (by simp) ?_⟩
            refine ⟨_, rfl, _, rfl, _, rfl, fun y3 dy3 ny3 ndy3 ne3 => mk_sp (pl := .int n) (ar := .ref p) ny3 ndy3 ne3 (.inr ⟨n, some ys, rfl, n0, n8, .ok (.inl (SqL.of (sA _ _ e9))) (p9.same sA).prt.pra (by omega) hv, fun z => absurd (show Good ys n from hg) (z ys rfl), fun zs' e' g' HB hN3 sB => ⟨rfl, ?_⟩⟩)⟩
            cases e'
            refine ⟨y, n, _, rfl, hNy.same sB, .inl ⟨y3, n, _, rfl, hN3, fun HC sC => ?_⟩⟩
            have s9C : Same H9 HC := (sA.trans sB).trans sC
            refine ⟨_, rfl, _, rfl, _, _, dp_lst (SqL.of (s9C _ _ eq9)) (pw9.same s9C).prt, dp_lst (SqL.of (s9C _ _ e9)) (p9.same s9C).prt, shp_lst _, shp_lst _, ?_⟩
            rw [eqv_lst]
            refine ⟨rfl, _, rfl, iteFb (by simp) ?_⟩
            exact ⟨_, _, _, _, _, rfl, draw_same s9C D9, tn.ext s9C, s9C _ _ e9, p9.same s9C⟩
          · have hw13 : 13 ≤ ws.length := by by_cases z : ws.length < 13 <;> first | exact absurd (decide_eq_true (by omega)) c | omega
            obtain ⟨o, hA, hgb⟩ := badA (.inr hw13)
            refine ⟨t8, fun Ha sa ta => ?_⟩
            refine ⟨fun cls dd H' => cls = .ref X.CB ∧ ∃ e : Addr, dd = some e ∧ H' e = some (.xd [("part", .str "arrows")]) ∧ Same Ha H', fun _ _ => False, ⟨_, rfl, _, rfl, fun y dy ny ndy ne => mk_sp (pl := .int n) (ar := .ref q) ny ndy ne (.inr ⟨n, o, rfl, n0, n8, hA.ext sa, fun _ e H' _ s' ee => ⟨rfl, e, rfl, ee, s'⟩, fun zs e g => absurd g (hgb zs e)⟩)⟩, fun cls dd H' q' => ?_, fun v H' q' => q'.elim⟩
            obtain ⟨rfl, e, rfl, ee, s'⟩ := q'
            refine ⟨rfl, e, .str "arrows", rfl, ee, fun aa na => ?_⟩
            have sn : ExtN H8 (upd H' aa (ExR (.ref X.CB) (some e) aa)) := sa.trans (ExtN.same (s'.trans (same_upd na)))
            have tn : Tabs T (upd H' aa (ExR (.ref X.CB) (some e) aa)) := ta.ext (s'.trans (same_upd na))
            generalize upd H' aa (ExR (.ref X.CB) (some e) aa) = Hn at sn tn
            refine ⟨_, rfl, rfl, _, rfl, iteFb (by simp) ?_⟩
            refine ⟨_, rfl, rfl, _, rfl, iteFb (by decide) ?_⟩
            refine ⟨_, rfl, rfl, _, rfl, iteFb (by decide) ?_⟩
            refine iteF ?_
            exact ⟨_, _, _, _, _, rfl, draw_ext sn D8, tn, sn _ _ e8 (fun _ z => by cases z), pl_ext sn p8⟩
      · rintro σ Hy ⟨w2, w4, w5, w6, w7, rfl, Dy, ty, ey, py⟩
        refine ⟨_, rfl, d, lg, cl, rfl, Dy, ty, fun HZ DZ kZ tZ => ⟨_, rfl, ?_⟩⟩
        refine iteF ?_
        exact ⟨_, _, _, _, _, _, _, rfl, DZ, tZ⟩
    · rintro σ Hx ⟨v2, v3, v4, v5, v6, v7, v8, rfl, Dx, tx⟩
      exact k Hx
end
end K03


set_option Elab.async false
set_option maxRecDepth 100000
set_option maxHeartbeats 4000000
set_option linter.all false
namespace K03
open PySem PySem.Spec PyProof.Rows L2 NetM GL LamX
/-! the end, where tables of code objects are written and repr is asked -/
/-- what is tracked when the law begins: the empty tables ts; the script at a, where the written part has nothing there -/
def Hb (K : PySem.W.Frag) (ts : List Addr) (a : Addr) (o : Obj) (xs : List L2.V) : Hp := fun b => if b ∈ ts then some (.tbl #[]) else if (b == a && (K.lookup a).isNone) = true then some (.frz o (.lst xs)) else none
section
variable {K : PySem.W.Frag} {ts : List Addr} {a b : Addr} {o : Obj} {xs : List L2.V}
theorem hb_tab (h : b ∈ ts) : Hb K ts a o xs b = some (.tbl #[]) := if_pos h
theorem hb_scr (h : a ∉ ts) (n : K.lookup a = none) : Hb K ts a o xs a = some (.frz o (.lst xs)) := (if_neg h).trans (if_pos (by rw [n, beq_self_eq_true]; rfl))
theorem hb_all (b : Addr) : (b ∈ ts ∧ Hb K ts a o xs b = some (.tbl #[])) ∨ (b = a ∧ K.lookup a = none ∧ Hb K ts a o xs b = some (.frz o (.lst xs))) ∨ Hb K ts a o xs b = none := by
  by_cases h : b ∈ ts
  · exact .inl ⟨h, if_pos h⟩
  · by_cases z : (b == a && (K.lookup a).isNone) = true
    · have z2 := z
      rw [Bool.and_eq_true, beq_iff_eq, Option.isNone_iff_eq_none] at z2
      exact .inr (.inl ⟨z2.1, z2.2, (if_neg h).trans (if_pos z)⟩)
    · exact .inr (.inr ((if_neg h).trans (if_neg z)))
end
/-- an object of neither kind that is tracked when the law begins -/
def Apart (o : Obj) : Prop := (∀ vs n, o.data ≠ .seq vs n) ∧ o ≠ { cls := .none, data := .fields #[] }
theorem apart_cls {o : Obj} {c : Value} (e : o.cls = c) (hc : c ≠ .none) (h : ∀ vs n, o.data ≠ .seq vs n) : Apart o := ⟨h, by intro z; subst z; exact hc e.symm⟩
theorem apart_dict {o : Obj} {es : Array DictEntry} {ep : Nat} (e : o.data = .dict es ep) : Apart o := ⟨(by intro vs n z; rw [e] at z; cases z), (by intro z; subst z; cases e)⟩
theorem law_callGT {P : Program} {w : World} {K : PySem.W.Frag} {mg mb : Str → Option Value} {k : Nat} {fa a : Addr} {cs : List (Addr × Addr)} {fd : FuncData} {x : Str} {sp : Sp} {s₁ : Shared} {vs : List Value} {ns : List Int}
    (KX : K.In s₁.heap) (hns : s₁.heap.Ns mainGlobals mg) (hb : s₁.heap.Ns builtinsNs mb) (hbb : ∀ x : Str, x ≠ "__name__" → mb x = bootBuiltins x) (hlim : s₁.heap.NoLimit) (hg : s₁.gens = #[])
    (hT : ∀ p ∈ cs, PySem.W.CodeHd s₁.heap p.1 p.2 ∧ s₁.heap.get? p.2 = some { cls := .none, data := .fields #[] }) (nT : ∀ p ∈ cs, K.lookup p.2 = none)
    (hbm : ∃ (bm : Addr) (ob : Obj), mg "__builtins__" = some (.ref bm) ∧ bm ≠ builtinsNs ∧ s₁.heap.get? bm = some ob ∧ ob.cls = .type "module" ∧ ob.dict = some builtinsNs ∧ ob.data = .plain)
    (ha : s₁.heap.get? a = some { cls := .type "list", data := .seq vs.toArray }) (hi : IntsAre vs ns) (hl : ns.length ≤ sizeLine) (hr : Room k callerA)
    (F : ∀ base : Heap, K.In base → base.Ns mainGlobals mg → (∀ p ∈ cs, TabB base mg p.1 p.2) → FnG P w K mg base CX0 k fa fd [x] sp) (hbind : ∀ (s : Shared) (u : Value), BindsTo s fd ⟨[u], []⟩ [(x, u)])
    (hsp : ∀ H : Hp, (∀ p ∈ cs, H p.2 = some (.tbl #[])) → SqL K H a (ns.map V.int) → sp [.ref a] H (fun v _ => v = .bl true) fun _ _ _ => False) :
    codeAny (model P w) callerA (.call (.ref fa) ⟨[.ref a], []⟩) (fun r s' => r = .ok (.ret (.bool true)) ∧ OldK s₁.heap s'.heap ∧ s'.os = s₁.os ∧ AllBare s'.gens) s₁ := by
  obtain ⟨oa, hoa⟩ : ∃ oa : Obj, oa = { cls := .type "list", data := .seq vs.toArray } := ⟨_, rfl⟩
  rw [← hoa] at ha
  have hod : oa.data = .seq vs.toArray := by rw [hoa]
  have rv := vals_ints hi
  have inT : ∀ b : Addr, b ∈ cs.map (·.2) → ∃ p ∈ cs, p.2 = b := fun b h => by
    obtain ⟨p, m, e⟩ := List.mem_map.mp h
    exact ⟨p, m, e⟩
  have tabAt : ∀ b : Addr, b ∈ cs.map (·.2) → s₁.heap.get? b = some { cls := .none, data := .fields #[] } ∧ K.lookup b = none := fun b h => by
    obtain ⟨p, m, rfl⟩ := inT b h
    exact ⟨(hT p m).2, nT p m⟩
  have aT : a ∉ cs.map (·.2) := fun z => by
    have e := (tabAt a z).1
    rw [ha] at e
    have := congrArg Obj.data (Option.some.inj e)
    rw [hod] at this
    cases this
  obtain ⟨H, hH⟩ : ∃ H : Hp, H = Hb K (cs.map (·.2)) a oa (ns.map V.int) := ⟨_, rfl⟩
  have all : ∀ b, (b ∈ cs.map (·.2) ∧ H b = some (.tbl #[])) ∨ (b = a ∧ K.lookup a = none ∧ H b = some (.frz oa (.lst (ns.map V.int)))) ∨ H b = none := fun b => by rw [hH]; exact hb_all b
  have tabH : ∀ p ∈ cs, H p.2 = some (.tbl #[]) := fun p m => by rw [hH]; exact hb_tab (List.mem_map.mpr ⟨p, m, rfl⟩)
  -- what stays to be seen below
  have see : ∀ {b : Addr} {o : Obj}, s₁.heap.get? b = some o → Apart o → (hidT s₁.heap H).get? b = some o := fun {b o} e ap => by
    refine hidT_get e ?_
    rcases all b with ⟨m, _⟩ | ⟨rfl, _, _⟩ | n
    · exact absurd (Option.some.inj (e.symm.trans (tabAt b m).1)) ap.2
    · have := Option.some.inj (e.symm.trans ha)
      rw [this] at ap
      exact absurd hod (ap.1 _ _)
    · exact n
  have seeNs : ∀ {b : Addr} {m : Str → Option Value}, s₁.heap.Ns b m → (hidT s₁.heap H).Ns b m := fun {b m} ⟨o, es, ep, e, d, r⟩ => ⟨o, es, ep, see e (apart_dict d), d, r⟩
  have seeK : K.In (hidT s₁.heap H) := fun b o e => by
    refine hidT_get (KX b o e) ?_
    rcases all b with ⟨m, _⟩ | ⟨rfl, n, _⟩ | n
    · exact absurd ((tabAt b m).2) (by rw [show K.lookup b = some o from e]; intro y; cases y)
    · rw [show K.lookup b = some o from e] at n; cases n
    · exact n
  have md : L2.Mod K mg (hidT s₁.heap H) := ⟨seeK, seeNs hns, ⟨mb, seeNs hb, hbb⟩, let ⟨mc, h1, h2⟩ := hlim; ⟨mc, seeNs h1, h2⟩⟩
  have tb : ∀ p ∈ cs, TabB (hidT s₁.heap H) mg p.1 p.2 := fun p m => by
    obtain ⟨C, tp⟩ := hT p m
    refine ⟨?_, ?_, fun z => ?_⟩
    · obtain ⟨o, us, file, tf, flags, tg, inF, text, tt, e, r1, r2, r⟩ := C
      exact ⟨o, us, file, tf, flags, tg, inF, text, tt, see e (apart_cls r1 (by intro y; cases y) fun _ _ y => by rw [r2] at y; cases y), r1, r2, r⟩
    · obtain ⟨bm, ob, b1, b2, b3, b4, b5, b6⟩ := hbm
      refine ⟨bm, ob, b1, b2, fun q => ?_, fun q => ?_, see b3 (apart_cls b4 (by intro y; cases y) fun _ _ y => by rw [b6] at y; cases y), b4, b5, b6⟩
      · obtain ⟨o, es, ep, e, d, _⟩ := hns
        rw [q, e] at b3
        rw [Option.some.inj b3, b6] at d
        cases d
      · rw [q, tp] at b3
        rw [← Option.some.inj b3] at b4
        cases b4
    · obtain ⟨o, es, ep, e, d, _⟩ := hns
      rw [z, tp] at e
      rw [← Option.some.inj e] at d
      cases d
  have hok : HOk P w H s₁.heap := fun b u z => by
    rcases all b with ⟨m, e⟩ | ⟨rfl, _, e⟩ | e
    · cases z.symm.trans e
      exact (tabAt b m).1
    · cases z.symm.trans e
      subst hoa
      exact ⟨ha, by rw [List.length_map]; exact hl, vs, _, rv, ha⟩
    · cases z.symm.trans e
  have scr : SqL K H a (ns.map V.int) := by
    cases hk : K.lookup a with
    | none => exact .inl (.inr ⟨oa, by rw [hH]; exact hb_scr aT hk⟩)
    | some o =>
      have e := KX a o hk
      rw [ha] at e
      cases e
      exact .inr ⟨oa, vs.toArray, _, hk, by rw [hoa], by rw [hoa], hod, by rw [List.size_toArray, hi.length]; exact hl, by simpa using rv⟩
  have e0 : Env0 P w K mg (hidT s₁.heap H) callerA [] s₁ H := ⟨rfl, md, fun b o e => of_hidT e, Nat.le_of_eq (hidT_size _ _), trivial, fun b z => absurd (show b ∈ ([] : List Addr) from z) (by simp), hok, .of_eq hg⟩
  refine codeAny_mono ((F _ seeK (seeNs hns) tb).run callerA [] s₁ H ⟨[.ref a], []⟩ [.ref a] [.ref a] _ _ rfl hr e0 (hbind s₁ (.ref a)) (.cons rfl .nil) (hsp H tabH scr)) fun r s' h => ?_
  cases r with
  | error e => exact False.elim h
  | ok fl =>
  cases fl with
  | next => exact False.elim h
  | brk => exact False.elim h
  | cont => exact False.elim h
  | ret u =>
  obtain ⟨v, H', os, bare, un, hok', r', q⟩ := h
  obtain rfl : v = .bl true := q
  obtain rfl : u = Value.bool true := r'
  have old : ∀ b o, s₁.heap.get? b = some o → s'.heap.get? b = some o ∨ (isCodeTable s₁.heap b ∧ o = { cls := .none, data := .fields #[] } ∧ ∃ more : Array Value, s'.heap.get? b = some { cls := .none, data := .fields more }) := fun b o e => by
    rcases all b with ⟨m, z⟩ | ⟨rfl, _, z⟩ | z
    · obtain ⟨p, pm, rfl⟩ := inT b m
      obtain ⟨more, z2⟩ := un.tbls p.2 #[] (tabH p pm)
      exact .inr ⟨((hT p pm).1.tab (hT p pm).2).isCodeTable, Option.some.inj (e.symm.trans (hT p pm).2), _, hok' p.2 _ z2⟩
    · have z2 := un.frzs b oa _ z
      obtain ⟨e2, _⟩ := hok' b _ z2
      exact .inl (by rw [e2, ← ha, e])
    · exact .inl (un.keep b o e z (by intro y; exact absurd (show b ∈ ([] : List Addr) from y) (by simp)) (by simp))
  refine ⟨rfl, ⟨fun b o e => ?_, fun b o e => ?_⟩, os, bare⟩
  · rcases old b o e with z | ⟨ct, rfl, more, z⟩
    · exact .inl z
    · exact .inr (.inl ⟨ct, rfl, #[], more, rfl, by rw [Array.empty_append]; exact z⟩)
  · rcases old b o e with z | ⟨_, _, more, z⟩
    · exact ⟨o, z⟩
    · exact ⟨_, z⟩
/-- a law's end with the tables of its defs: xs, their names; the code object and the table of each stand in the written part -/
theorem walk_ofGT {l : PySem.W.OpenLaw} {n k : Nat} {q : Program} {loose : List Str} {XP : (Str → Option Value) → Heap → Prop} {YP : World → Heap → Prop} {d : DefRec} {K : Params → PySem.W.Frag} {sp : World → Sp} {x : Str} {ts : World → List (Str × Addr × Addr)}
    (hn : l.most = some n) (hn2 : n ≤ sizeLine) (hdf : d.params.defaults = []) (hr : Room k callerA) (hY : ∀ (w : World) (h : Heap), YP w h → (K w.params).In h)
    (ht : ∀ w, ∀ p ∈ ts w, PySem.W.codeHdIn (K w.params) p.2.1 p.2.2 = true ∧ (K w.params).lookup p.2.2 = none) (hTY : ∀ (w : World) (h : Heap), YP w h → ∀ p ∈ ts w, h.get? p.2.2 = some { cls := .none, data := .fields #[] })
    (F : ∀ (w : World) (mg : Str → Option Value) (fa : Addr) (h : Heap), (K w.params).In h → h.Ns mainGlobals mg → mg d.name = some (.ref fa) →
      ∃ fd : FuncData, (∀ (s : Shared) (u : Value), BindsTo s fd ⟨[u], []⟩ [(x, u)]) ∧ ∀ base : Heap, (K w.params).In base → base.Ns mainGlobals mg → (∀ p ∈ ts w, TabB base mg p.2.1 p.2.2) → FnG l.prog w (K w.params) mg base CX0 k fa fd [x] (sp w))
    (hsp : ∀ (w : World) (H : Hp) (a : Addr) (ns : List Int), ns.length ≤ n → (∀ z ∈ ns, Builtin.Int.intBits z ≤ 1048576) → (∀ p ∈ ts w, H p.2.2 = some (.tbl #[])) → SqL (K w.params) H a (ns.map V.int) → sp w [.ref a] H (fun v _ => v = .bl true) fun _ _ _ => False) :
    PySem.W.WalkO q loose XP YP l.row.toRowW d [] (fun f vs => PySem.call f vs) := by
  refine Att.attach_callB hn hdf fun w s₀ s₁ mg mb fa o pm cd doc a vs ns G Y ho hd hcd hmg hobj hints hlen hbits hg => ?_
  have KX := hY w _ Y
  obtain ⟨fd, hb, hF⟩ := F w mg fa _ KX G.T.g hmg
  have tab : ∀ p ∈ (ts w).map (·.2), ∃ r ∈ ts w, r.2 = p := fun p m => by
    obtain ⟨r, m, e⟩ := List.mem_map.mp m
    exact ⟨r, m, e⟩
  refine law_callGT (cs := (ts w).map (·.2)) KX G.T.g G.T.b G.T.builtins G.T.nolimit hg (fun p m => ?_) (fun p m => ?_) G.T.bmain hobj hints (Nat.le_trans hlen hn2) hr (fun base b1 b2 b3 => hF base b1 b2 fun p m => b3 _ (List.mem_map.mpr ⟨p, m, rfl⟩)) hb fun H hH hS => hsp w H a ns hlen hbits (fun p m => hH _ (List.mem_map.mpr ⟨p, m, rfl⟩)) hS
  · obtain ⟨r, m2, rfl⟩ := tab p m
    exact ⟨PySem.W.codeHd_of_K KX (ht w r m2).1, hTY w _ Y r m2⟩
  · obtain ⟨r, m2, rfl⟩ := tab p m
    exact (ht w r m2).2
end K03


set_option Elab.async false
set_option maxRecDepth 100000
set_option maxHeartbeats 4000000
set_option linter.all false
namespace K03
open PySem PySem.Spec PyProof.Rows L2 NetM GL LamX
/-! ### all that the top has written, put together -/
def ga (K : PySem.W.Frag) (x : Str) : Addr := match PySem.W.nsIn K mainGlobals x with | some (some (.ref a)) => a | _ => 0
def gB (K : PySem.W.Frag) (x : Str) : Bool := PySem.W.nsIn K mainGlobals x == some (some (.ref (ga K x)))
theorem ga_of {K : PySem.W.Frag} {x : Str} {C : Addr} (h : PySem.W.nsIn K mainGlobals x = some (some (.ref C))) : ga K x = C := by
  unfold ga
  rw [h]
def excB (K : PySem.W.Frag) (D : Addr) : Bool :=
  PySem.W.findIn K (.ref D) "__getattribute__" == some (some (.builtin "BaseException.__getattribute__")) && PySem.W.findIn K (.ref D) "__getattr__" == some none && PySem.W.subIn K (.ref D) (.type "BaseException") == some true && PySem.W.hasDictIn K D &&
  PySem.W.findIn K (.ref D) "__class__" == some (some (.builtin "object.__class__")) && PySem.W.specialIn K (.builtin "object.__class__") "__get__" == some (some (.builtin "getset_descriptor.__get__")) && PySem.W.takesIn K (.builtin "object.__class__") == some true && PySem.W.mroIn K D (.type "object") == some true
theorem excC_of {K : PySem.W.Frag} {D : Addr} (h : excB K D = true) : ExcC K D := by
  unfold excB at h
  simp only [Bool.and_eq_true, beq_iff_eq] at h
  exact ⟨h.1.1.1.1.1.1.1, h.1.1.1.1.1.1.2, h.1.1.1.1.1.2, h.1.1.1.1.2, h.1.1.1.2, h.1.1.2, h.1.2, h.2⟩
theorem mk_x {P : Program} {w : World} {K : PySem.W.Frag} {mg : Str → Option Value} {base : Heap} {C f c cc : Addr} {fld x : Str}
    (hC : PySem.W.nsIn K mainGlobals x = some (some (.ref C))) (C0' : ExcC K (ga K x)) (mgS : mg "super" = none)
    {nm q : Str} {N : Addr} {bs bm : List Value} {sn : List Str} {sub : List Value} {ab : Bool} {col : Option Bool} {dd : Option Addr} {m0 m1 m2 m3 m5 : Option Value}
    (xL : K.lookup C = some (excClassObj nm q C N bs bm true sn sub ab col dd m0 m1 m2 m3 m5 "ValueError.__new__")) (rb : PySem.HandSPX.refsVE bm = true)
    (sa : PySem.W.findIn K (.ref C) "__setattr__" = some (some (.builtin "object.__setattr__"))) (tC : PySem.W.typeIn K (.ref C) = some (.type "type")) (kC : PySem.W.keepIn K (.ref C) = true)
    (no : PySem.W.findIn K (.ref C) fld = some none) (ini : PySem.W.findIn K (.ref C) "__init__" = some (some (.ref f))) (tI : PySem.W.typeIn K (.ref f) = some (.type "function"))
    {qual : Str} {params : Arguments} {scope : Scope} {doc pm ct oc : Value} {an od : Option Addr} {osl : Array (Option Value)} {msg : Str} {kk : Nat} {p0 p1 p2 p3 p4 p5 p6 p7 p8 p9 : Pos}
    (lk : K.lookup f = some ⟨oc, od, .func (PySem.W.ksFn "__init__" qual params
      [.Expr (.Call (.Attribute (.Call (.Name "super" p0) [] [] p1) "__init__" p2) [.Constant (.str msg) kk p5] [] p3) p4, .Assign [.Attribute (.Name "self" p6) fld p7] (.Name fld p8) p9] scope .none .none doc pm an (.ref c) ct cc), osl⟩)
    (hcd : PySem.W.codeIn K (.ref c) qual = true)
    (lc : ∃ ccl cdd vs ccs file tf, K.lookup c = some ⟨ccl, cdd, .fields vs, ccs⟩ ∧ vs[2]? = some (.str file tf) ∧ ((P.main.file : Str) == file) = true)
    (lcell : ∃ cl cld csl, K.lookup cc = some ⟨cl, cld, .cell (some (.ref C)), csl⟩)
    (third : PySem.W.nsIn K cStatics "thirdparty.any" = some none) (mro : PySem.W.mroIn K C (.ref C) = some true) (sup : PySem.W.ks_superIn K C C "__init__" = some (some (.builtin "ValueError.__init__"))) (ve : PySem.W.subIn K (.ref C) (.type "ValueError") = some true)
    (top : (P.main.scope.names.lookup ("super" : Str)).isSome = false) (hs : ∃ ar, (params.posonlyargs ++ params.args).head? = some ar ∧ ar.arg = "self")
    (hS : NdefX.nscB ["self", fld, "__class__"] ["self", fld] ["__class__"] scope = true) (h1 : scope.names.lookup ("super" : Str) = some .globalImplicit) (hdb : (fld == ("__debug__" : Str)) = false) (hdc : (fld == ("__classdict__" : Str)) = false) {pl : Sem Bool}
    (hev : ∀ L : Addr, eval (.Call (.Attribute (.Call (.Name "super" p0) [] [] p1) "__init__" p2) [.Constant (.str msg) kk p5] [] p3) (PySem.W.envX qual scope L f (.ref c) [("__class__", cc)]) = (do
      let ov ← attributeBase (.Call (.Name "super" p0) [] [] p1) "__init__" (PySem.W.envX qual scope L f (.ref c) [("__class__", cc)]) (eval (.Call (.Name "super" p0) [] [] p1) (PySem.W.envX qual scope L f (.ref c) [("__class__", cc)]))
      standAt p2.atName
      let (fn, first) ← holding [ov] (getMethod ov "__init__" pl)
      callWith p3 fn first (backTo p3 (starEach [.Constant (.str msg) kk p5] (PySem.W.envX qual scope L f (.ref c) [("__class__", cc)]))) []))
    (hin : ∀ L : Addr, interactive (PySem.W.envX qual scope L f (.ref c) [("__class__", cc)]) = false)
    (hsn : ∀ L : Addr, swapsWith (.Call (.Attribute (.Call (.Name "super" p0) [] [] p1) "__init__" p2) [.Constant (.str msg) kk p5] [] p3) none p4.line (PySem.W.envX qual scope L f (.ref c) [("__class__", cc)]) = pure false)
    (hsw : ∀ L : Addr, swapsWith (.Name fld p8) (some (.Attribute (.Name "self" p6) fld p7)) p9.line (PySem.W.envX qual scope L f (.ref c) [("__class__", cc)]) = pure false)
    (bind : ∀ (s : Shared) (u v : Value), BindsTo s (PySem.W.ksFn "__init__" qual params
      [.Expr (.Call (.Attribute (.Call (.Name "super" p0) [] [] p1) "__init__" p2) [.Constant (.str msg) kk p5] [] p3) p4, .Assign [.Attribute (.Name "self" p6) fld p7] (.Name fld p8) p9] scope .none .none doc pm an (.ref c) ct cc) ⟨[u, v], []⟩ [("self", u), (fld, v)])
    (bindK : ∀ (s : Shared) (u v : Value), BindsTo s (PySem.W.ksFn "__init__" qual params
      [.Expr (.Call (.Attribute (.Call (.Name "super" p0) [] [] p1) "__init__" p2) [.Constant (.str msg) kk p5] [] p3) p4, .Assign [.Attribute (.Name "self" p6) fld p7] (.Name fld p8) p9] scope .none .none doc pm an (.ref c) ct cc) ⟨[u], [(fld, v)]⟩ [("self", u), (fld, v)]) :
    (∃ fI fd, XCls P w K mg base (ga K x) fI fd fld) ∧ XGet K (ga K x) fld := by
  have C0 : ExcC K C := by rw [← ga_of hC]; exact C0'
  rw [ga_of hC]
  have T : OexC K C := ⟨⟨_, _, _, _, _, _, _, _, _, _, _, _, _, _, _, xL, rb⟩, sa, C0.hs, tC, kC⟩
  obtain ⟨cd, hcls, _⟩ := PySem.W.any_some C0.hd
  obtain ⟨ar, ha1, ha2⟩ := hs
  have S : SupDef P K mg C f c cc := ⟨⟨_, _, _, _, ar, lk, ha1, ha2⟩, lc, lcell, ⟨cd, hcls⟩, top, third, mro, sup, ve, mgS⟩
  exact ⟨⟨f, _, ⟨T, ini, tI, ok_initx ⟨T, no⟩ S lk hcd hS h1 hdb hdc hev hin hsn hsw, bind, bindK⟩⟩, ⟨C0, no⟩⟩

/-- the written part has the def that the top names x, as the row's text has it -/
def Has (K : PySem.W.Frag) (x : Str) (st : Stmt) : Prop := ∃ (f : Addr) (fd : FuncData), PySem.W.nsIn K mainGlobals x = some (some (.ref f)) ∧ Fun K x x st f fd
theorem has_mk {K : PySem.W.Frag} {x : Str} {st : Stmt} {f : Addr} {oc : Value} {od an : Option Addr} {osl : Array (Option Value)} {kV doc pm cdv ct : Value} (a : PySem.W.nsIn K mainGlobals x = some (some (.ref f)))
    (l : K.lookup f = some ⟨oc, od, .func (PySem.W.fnOf x x (defArgs st) (defBody st) (defScope st) .none kV doc pm an cdv ct), osl⟩) (c : PySem.W.codeIn K cdv x = true) (k : PySem.W.keepIn K (.ref f) = true) : Has K x st := ⟨f, _, a, fun_mk l c k⟩
/-- the table of the def that the top names x, and its code object -/
def tb (K : PySem.W.Frag) (x : Str) : Addr × Addr := (PySem.W.tabIn K x).getD (0, 0)
def tbB (K : PySem.W.Frag) (x : Str) : Bool := PySem.W.tabIn K x == some (tb K x) && (K.lookup (tb K x).2).isNone && PySem.W.codeHdIn K (tb K x).1 (tb K x).2
theorem tb_of {K : PySem.W.Frag} {x : Str} (h : tbB K x = true) : PySem.W.tabIn K x = some (tb K x) ∧ K.lookup (tb K x).2 = none ∧ PySem.W.codeHdIn K (tb K x).1 (tb K x).2 = true := by
  unfold tbB at h
  rw [Bool.and_eq_true, Bool.and_eq_true, beq_iff_eq, Option.isNone_iff_eq_none, and_assoc] at h
  exact h
/-- .. and its code object is known -/
theorem Has.code {K : PySem.W.Frag} {x : Str} {st : Stmt} (h : Has K x st) (t : tbB K x = true) : ∃ (f : Addr) (fd : FuncData), PySem.W.nsIn K mainGlobals x = some (some (.ref f)) ∧ FunC K x x st f fd (tb K x).1 := by
  obtain ⟨f, fd, a, ⟨⟨oc, od, kV, doc, pm, an, cdv, ct, osl, rfl, lk, hcd⟩, kp⟩⟩ := h
  have t1 := (tb_of t).1
  unfold PySem.W.tabIn at t1
  rw [a] at t1
  dsimp only at t1
  rw [lk] at t1
  dsimp only [PySem.W.fnOf] at t1
  cases cdv with
  | ref c =>
    dsimp only at t1
    have e : (tb K x).1 = c := by
      split at t1
      · split at t1
        · exact (congrArg Prod.fst (Option.some.inj t1)).symm
        · cases t1
      · cases t1
    rw [e]
    exact ⟨f, _, a, ⟨⟨oc, od, kV, doc, pm, an, ct, osl, rfl, lk, hcd⟩, kp⟩⟩
  | _ => cases t1
/-- a method that the class named x has -/
def HasM (K : PySem.W.Frag) (C : Addr) (m qual : Str) (st : Stmt) : Prop := ∃ (f : Addr) (fd : FuncData), PySem.W.findIn K (.ref C) m = some (some (.ref f)) ∧ PySem.W.isFn K (.ref f) = true ∧ Fun K m qual st f fd
theorem hasm_mk {K : PySem.W.Frag} {C : Addr} {x m qual : Str} {st : Stmt} {f : Addr} {oc : Value} {od an : Option Addr} {osl : Array (Option Value)} {kV doc pm cdv ct : Value} (n : PySem.W.nsIn K mainGlobals x = some (some (.ref C))) (a : PySem.W.findIn K (.ref C) m = some (some (.ref f))) (i : PySem.W.isFn K (.ref f) = true)
    (l : K.lookup f = some ⟨oc, od, .func (PySem.W.fnOf m qual (defArgs st) (defBody st) (defScope st) .none kV doc pm an cdv ct), osl⟩) (c : PySem.W.codeIn K cdv qual = true) (k : PySem.W.keepIn K (.ref f) = true) : HasM K (ga K x) m qual st := by rw [ga_of n]; exact ⟨f, _, a, i, fun_mk l c k⟩
def frees : List Str := ["abs", "int", "len", "isinstance", "range", "repr", "tuple", "list", "min", "all", "bool", "super"]
theorem free_at {K : PySem.W.Frag} {h : Heap} {mg : Str → Option Value} (X : K.In h) (G : h.Ns mainGlobals mg) (z : (frees.all fun x => PySem.W.nsIn K mainGlobals x == some none) = true) (x : Str) (m : x ∈ frees) : mg x = none :=
  PySem.W.mg_none_of X G (beq_iff_eq.mp (List.all_eq_true.mp z x m))
/-- what is told of BadNet and WebError -/
def badB (K : PySem.W.Frag) : Bool := gB K "BadNet" && gB K "WebError" && PySem.W.exmOne K (.ref (ga K "BadNet")) (.ref (ga K "WebError")) == some true && PySem.W.kitOne K (.ref (ga K "BadNet")) (.ref (ga K "BadNet")) == some true &&
  PySem.W.kitOne K (.type "NoneType") (.ref (ga K "BadNet")) == some false
/-- what is told of Net -/
def netB (K : PySem.W.Frag) (CN : Addr) : Bool := gB K "Net" && PySem.W.plainGet K CN Str.empty && PySem.W.hasDictIn K CN && PySem.W.plainOver K CN && PySem.W.findIn K (.ref CN) "__setattr__" == some (some (.builtin "object.__setattr__")) &&
  PySem.W.findIn K (.ref CN) "places" == some none && PySem.W.findIn K (.ref CN) "arrows" == some none && PySem.W.findIn K (.ref CN) "__ne__" == some (some (.builtin "object.__ne__")) && PySem.W.subIn K (.ref CN) (.type "object") == some true &&
  PySem.W.findIn K (.ref CN) "__class__" == some (some (.builtin "object.__class__")) && PySem.W.specialIn K (.builtin "object.__class__") "__get__" == some (some (.builtin "getset_descriptor.__get__")) && PySem.W.takesIn K (.builtin "object.__class__") == some true &&
  PySem.W.mroIn K CN (.type "object") == some true && PySem.W.kitOne K (.ref CN) (.ref CN) == some true && PySem.W.kitOne K (.type "tuple") (.ref CN) == some false && PySem.W.notFirst K CN (.type "tuple") &&
  PySem.W.makesIn K CN && PySem.W.keepIn K (.ref CN) && PySem.W.kitOne K (.type "NoneType") (.ref CN) == some false && PySem.W.kitOne K (.type "int") (.ref CN) == some false && PySem.W.kitOne K (.type "dict") (.ref CN) == some false
def nmOf (x : Str) : Str := x ++ ".<locals>." ++ "<lambda>"
def tabsOf (K : PySem.W.Frag) : List (Str × Addr × Addr) := [("_law_refused", tb K "_law_refused"), ("law", tb K "law")]
def TT (K : PySem.W.Frag) : List (Addr × Str) := [((tb K "_law_refused").2, nmOf "_law_refused"), ((tb K "law").2, nmOf "law")]
theorem tt_of {K : PySem.W.Frag} {H : Hp} (h : ∀ p ∈ tabsOf K, H p.2.2 = some (.tbl #[])) : Tabs (TT K) H := fun p m => by
  unfold TT at m
  simp only [List.mem_cons, List.not_mem_nil, or_false] at m
  rcases m with rfl | rfl
  · exact TabS.nil (h ("_law_refused", tb K "_law_refused") (by simp [tabsOf]))
  · exact TabS.nil (h ("law", tb K "law") (by simp [tabsOf]))
theorem kbinds_net {K : PySem.W.Frag} {x : Str} {st : Stmt} {f : Addr} {fd : FuncData} (F : Fun K x x st f fd)
    (h : ∀ (kV doc pm : Value) (an : Option Addr) (cdv ct u : Value), bindArgs (PySem.W.fnOf x x (defArgs st) (defBody st) (defScope st) .none kV doc pm an cdv ct) ⟨[u], []⟩ = pure [(("net" : Str), u)] ∧ bindArgs (PySem.W.fnOf x x (defArgs st) (defBody st) (defScope st) .none kV doc pm an cdv ct) ⟨[], [("net", u)]⟩ = pure [(("net" : Str), u)]) :
    KBinds K fd ["net"] ["net"] (fun us ws => us ++ ws) (fun us ws => us ++ ws) := by
  obtain ⟨oc, od, kV, doc, pm, an, cdv, ct, osl, rfl, lk, hcd⟩ := F.ex
  refine ⟨fun s us ws _ hl => ?_, fun r1 r2 => ?_⟩
  · match us, ws, hl with
    | [], [u], _ => exact .of_eq (h kV doc pm an cdv ct u).2
    | [u], [], _ => exact .of_eq (h kV doc pm an cdv ct u).1
  · induction r1 with
    | nil => exact r2
    | cons a _ ih => exact .cons a ih
theorem kbn_net {K : PySem.W.Frag} {f : Addr} {fd : FuncData} (F : Fun K "__init__" "Net.__init__" sNetInit f fd) : kbN K fd := by
  obtain ⟨oc, od, kV, doc, pm, an, cdv, ct, osl, rfl, lk, hcd⟩ := F.ex
  refine ⟨fun s us ws _ l1 l2 => ?_, fun r1 r2 => ?_⟩
  · match us, ws, l1, l2 with
    | [x], [a, p], _, _ => exact .of_eq rfl
  · cases r1 with
    | nil => exact .nil
    | cons a r =>
      cases r with
      | nil =>
        cases r2 with
        | nil => exact .cons a .nil
        | cons b r2 =>
          cases r2 with
          | nil => exact .cons a .nil
          | cons c r2 =>
            cases r2 with
            | nil => exact .cons a (.cons c (.cons b .nil))
            | cons _ _ => exact .cons a .nil
      | cons b r => exact .cons a (.cons b r)

theorem all_mk {l : PySem.W.OpenLaw} {w : World} {K : PySem.W.Frag} {h : Heap} {mg : Str → Option Value} {fa : Addr} (X : K.In h) (G : h.Ns mainGlobals mg) (hfa : mg "law" = some (.ref fa))
    (z : (frees.all fun x => PySem.W.nsIn K mainGlobals x == some none) = true) (hB : badB K = true) (hN : netB K (ga K "Net") = true) (t1 : tbB K "_law_refused" = true) (t2 : tbB K "law" = true) (tne : ((tb K "_law_refused").2 == (tb K "law").2) = false)
    {tk1 tk2 : Nat} (mp : PySem.W.nsIn K mainGlobals "MOST_PLACES" = some (some (.int 8 tk1))) (ma : PySem.W.nsIn K mainGlobals "MOST_ARROWS" = some (some (.int 12 tk2)))
    (hx : ∀ (base : Heap), mg "super" = none → (∃ fI fd, XCls l.prog w K mg base (ga K "BadNet") fI fd "part") ∧ XGet K (ga K "BadNet") "part")
    (hI : HasM K (ga K "Net") "__init__" "Net.__init__" sNetInit) (hE : HasM K (ga K "Net") "__eq__" "Net.__eq__" sNetEq)
    (h1 : Has K "is_number" sIsNum) (h2 : Has K "is_number_to" sIsNumTo) (h3 : Has K "is_list" sIsList) (h10 : Has K "_are_arrows" sAre) (h11 : Has K "_hangs_together" sHangs) (h12 : Has K "places_behind" sBehind) (h14 : Has K "check_net" sCheck) (h15 : Has K "sinks" sSinks) (h16 : Has K "sources" sSources) (h17 : Has K "is_tree" sTree) (h18 : Has K "turned_net" sTurned) (h20 : Has K "_law_begun" sBegun) (h21 : Has K "_law_mixed" sMixed) (h22 : Has K "_law_take" sTake) (h23 : Has K "_law_pick" sPick) (h24 : Has K "_law_shuffled" sShuf) (h25 : Has K "_law_caught" sCaught) (h26 : Has K "_law_any_pairs" sPairs) (h27 : Has K "_law_reach" sReach) (h28 : Has K "_law_is_net" sIsNet) (h29 : Has K "_law_part" sPart) (h30 : Has K "_law_bent" sBent) (h32 : Has K "_law_right" sRight) (h31 : Has K "_law_refused" sRef) (h33 : Has K "law" sLaw) :
    ∃ fd : FuncData, (∀ (s : Shared) (v : Value), BindsTo s fd ⟨[v], []⟩ [("script", v)]) ∧ ∀ base : Heap, K.In base → base.Ns mainGlobals mg → (∀ p ∈ tabsOf K, TabB base mg p.2.1 p.2.2) → FnG l.prog w K mg base CX0 10 fa fd ["script"] (spLaw K (TT K)) := by
  obtain ⟨f1, d1, a1, F1⟩ := h1
  obtain ⟨f2, d2, a2, F2⟩ := h2
  obtain ⟨f3, d3, a3, F3⟩ := h3
  obtain ⟨f10, d10, a10, F10⟩ := h10
  obtain ⟨f11, d11, a11, F11⟩ := h11
  obtain ⟨f12, d12, a12, F12⟩ := h12
  obtain ⟨f14, d14, a14, F14⟩ := h14
  obtain ⟨f15, d15, a15, F15⟩ := h15
  obtain ⟨f16, d16, a16, F16⟩ := h16
  obtain ⟨f17, d17, a17, F17⟩ := h17
  obtain ⟨f18, d18, a18, F18⟩ := h18
  obtain ⟨f20, d20, a20, F20⟩ := h20
  obtain ⟨f21, d21, a21, F21⟩ := h21
  obtain ⟨f22, d22, a22, F22⟩ := h22
  obtain ⟨f23, d23, a23, F23⟩ := h23
  obtain ⟨f24, d24, a24, F24⟩ := h24
  obtain ⟨f25, d25, a25, F25⟩ := h25
  obtain ⟨f26, d26, a26, F26⟩ := h26
  obtain ⟨f27, d27, a27, F27⟩ := h27
  obtain ⟨f28, d28, a28, F28⟩ := h28
  obtain ⟨f29, d29, a29, F29⟩ := h29
  obtain ⟨f30, d30, a30, F30⟩ := h30
  obtain ⟨f32, d32, a32, F32⟩ := h32
  obtain ⟨fr_, dr_, ar_, Fr_⟩ := h31.code t1
  obtain ⟨fl_, dl_, al_, Fl_⟩ := h33.code t2
  obtain ⟨fi, di, ai, ii, Fi⟩ := hI
  obtain ⟨fe, de, ae, ie, Fe⟩ := hE
  have e := hfa.symm.trans (PySem.W.mg_of X G al_)
  cases e
  have fr := free_at X G z
  have mAbs := fr "abs" (by decide +kernel)
  have mInt := fr "int" (by decide +kernel)
  have mLen := fr "len" (by decide +kernel)
  have mIs := fr "isinstance" (by decide +kernel)
  have mRa := fr "range" (by decide +kernel)
  have mRe := fr "repr" (by decide +kernel)
  have mTup := fr "tuple" (by decide +kernel)
  have mList := fr "list" (by decide +kernel)
  have mMin := fr "min" (by decide +kernel)
  have mAll := fr "all" (by decide +kernel)
  have mBo := fr "bool" (by decide +kernel)
  have b1 : L2.Binds K d1 ["thing"] [] := F1.binds (ps := ["thing"]) fun _ _ _ _ _ _ us hl => match us, hl with | [_], _ => rfl
  have b2 : L2.Binds K d2 ["thing", "most"] [] := F2.binds (ps := ["thing", "most"]) fun _ _ _ _ _ _ us hl => match us, hl with | [_, _], _ => rfl
  have b3 : L2.Binds K d3 ["thing"] [] := F3.binds (ps := ["thing"]) fun _ _ _ _ _ _ us hl => match us, hl with | [_], _ => rfl
  have b10 : L2.Binds K d10 ["places", "thing"] [] := F10.binds (ps := ["places", "thing"]) fun _ _ _ _ _ _ us hl => match us, hl with | [_, _], _ => rfl
  have b11 : L2.Binds K d11 ["places", "arrows"] [] := F11.binds (ps := ["places", "arrows"]) fun _ _ _ _ _ _ us hl => match us, hl with | [_, _], _ => rfl
  have b12 : L2.Binds K d12 ["places", "arrows"] [] := F12.binds (ps := ["places", "arrows"]) fun _ _ _ _ _ _ us hl => match us, hl with | [_, _], _ => rfl
  have b14 : L2.Binds K d14 ["net"] [] := F14.binds (ps := ["net"]) fun _ _ _ _ _ _ us hl => match us, hl with | [_], _ => rfl
  have b15 : L2.Binds K d15 ["net"] [] := F15.binds (ps := ["net"]) fun _ _ _ _ _ _ us hl => match us, hl with | [_], _ => rfl
  have b16 : L2.Binds K d16 ["net"] [] := F16.binds (ps := ["net"]) fun _ _ _ _ _ _ us hl => match us, hl with | [_], _ => rfl
  have b17 : L2.Binds K d17 ["net"] [] := F17.binds (ps := ["net"]) fun _ _ _ _ _ _ us hl => match us, hl with | [_], _ => rfl
  have b18 : L2.Binds K d18 ["net"] [] := F18.binds (ps := ["net"]) fun _ _ _ _ _ _ us hl => match us, hl with | [_], _ => rfl
  have b20 : L2.Binds K d20 ["script"] [] := F20.binds (ps := ["script"]) fun _ _ _ _ _ _ us hl => match us, hl with | [_], _ => rfl
  have b21 : L2.Binds K d21 ["draw"] [] := F21.binds (ps := ["draw"]) fun _ _ _ _ _ _ us hl => match us, hl with | [_], _ => rfl
  have b22 : L2.Binds K d22 ["draw", "amount"] [] := F22.binds (ps := ["draw", "amount"]) fun _ _ _ _ _ _ us hl => match us, hl with | [_, _], _ => rfl
  have b23 : L2.Binds K d23 ["draw", "some"] [] := F23.binds (ps := ["draw", "some"]) fun _ _ _ _ _ _ us hl => match us, hl with | [_, _], _ => rfl
  have b24 : L2.Binds K d24 ["draw", "some"] [] := F24.binds (ps := ["draw", "some"]) fun _ _ _ _ _ _ us hl => match us, hl with | [_, _], _ => rfl
  have b25 : L2.Binds K d25 ["work"] [] := F25.binds (ps := ["work"]) fun _ _ _ _ _ _ us hl => match us, hl with | [_], _ => rfl
  have b26 : L2.Binds K d26 ["draw", "many_here"] [] := F26.binds (ps := ["draw", "many_here"]) fun _ _ _ _ _ _ us hl => match us, hl with | [_, _], _ => rfl
  have b27 : L2.Binds K d27 ["pairs_here", "begin"] [] := F27.binds (ps := ["pairs_here", "begin"]) fun _ _ _ _ _ _ us hl => match us, hl with | [_, _], _ => rfl
  have b28 : L2.Binds K d28 ["many_here", "pairs_here"] [] := F28.binds (ps := ["many_here", "pairs_here"]) fun _ _ _ _ _ _ us hl => match us, hl with | [_, _], _ => rfl
  have b29 : L2.Binds K d29 ["work"] [] := F29.binds (ps := ["work"]) fun _ _ _ _ _ _ us hl => match us, hl with | [_], _ => rfl
  have b30 : L2.Binds K d30 ["draw", "many_here", "pairs_here"] [] := F30.binds (ps := ["draw", "many_here", "pairs_here"]) fun _ _ _ _ _ _ us hl => match us, hl with | [_, _, _], _ => rfl
  have b32 : L2.Binds K d32 ["many_here", "pairs_here", "net_here"] [] := F32.binds (ps := ["many_here", "pairs_here", "net_here"]) fun _ _ _ _ _ _ us hl => match us, hl with | [_, _, _], _ => rfl
  have g1 := PySem.W.mg_of X G a1
  have g2 := PySem.W.mg_of X G a2
  have g3 := PySem.W.mg_of X G a3
  have g10 := PySem.W.mg_of X G a10
  have g11 := PySem.W.mg_of X G a11
  have g12 := PySem.W.mg_of X G a12
  have g14 := PySem.W.mg_of X G a14
  have g15 := PySem.W.mg_of X G a15
  have g16 := PySem.W.mg_of X G a16
  have g17 := PySem.W.mg_of X G a17
  have g18 := PySem.W.mg_of X G a18
  have g20 := PySem.W.mg_of X G a20
  have g21 := PySem.W.mg_of X G a21
  have g22 := PySem.W.mg_of X G a22
  have g23 := PySem.W.mg_of X G a23
  have g24 := PySem.W.mg_of X G a24
  have g25 := PySem.W.mg_of X G a25
  have g26 := PySem.W.mg_of X G a26
  have g27 := PySem.W.mg_of X G a27
  have g28 := PySem.W.mg_of X G a28
  have g29 := PySem.W.mg_of X G a29
  have g30 := PySem.W.mg_of X G a30
  have g32 := PySem.W.mg_of X G a32
  have gR := PySem.W.mg_of X G ar_
  have bR : L2.Binds K dr_ ["draw"] [] := Fr_.f.binds (ps := ["draw"]) fun _ _ _ _ _ _ us hl => match us, hl with | [_], _ => rfl
  have bI : L2.Binds K di ["self", "places", "arrows"] [] := Fi.binds (ps := ["self", "places", "arrows"]) fun _ _ _ _ _ _ us hl => match us, hl with | [_, _, _], _ => rfl
  have bE : L2.Binds K de ["self", "other"] [] := Fe.binds (ps := ["self", "other"]) fun _ _ _ _ _ _ us hl => match us, hl with | [_, _], _ => rfl
  have kb := kbn_net Fi
  obtain ⟨CN, eN⟩ : ∃ CN, CN = ga K "Net" := ⟨_, rfl⟩
  obtain ⟨CB, eB⟩ : ∃ CB, CB = ga K "BadNet" := ⟨_, rfl⟩
  obtain ⟨CW, eW⟩ : ∃ CW, CW = ga K "WebError" := ⟨_, rfl⟩
  unfold badB gB at hB
  unfold netB gB at hN
  rw [← eN] at hN ai ae
  rw [← eB, ← eW] at hB
  rw [← eB] at hx
  simp only [Bool.and_eq_true, beq_iff_eq] at hB hN
  obtain ⟨⟨⟨⟨gb, gw⟩, xm⟩, one⟩, nonB⟩ := hB
  obtain ⟨⟨⟨⟨⟨⟨⟨⟨⟨⟨⟨⟨⟨⟨⟨⟨⟨⟨⟨⟨gn, pg⟩, hd⟩, po⟩, sa⟩, nP⟩, nA⟩, ne⟩, ob⟩, ha⟩, hn⟩, hk⟩, hm⟩, oneN⟩, tupN⟩, nf⟩, makes⟩, kpN⟩, noN⟩, noI⟩, noD⟩ := hN
  have gBad := PySem.W.mg_of X G gb
  have gWeb := PySem.W.mg_of X G gw
  have gNet := PySem.W.mg_of X G gn
  have NT : NetT K mg CN := ⟨⟨pg, hd, po, sa⟩, nP, nA, gNet⟩
  have NE : NetE K mg CN fe := ⟨NT, ae, ie, ne, ob, ha, hn, hk, hm, oneN, tupN, nf⟩
  refine ⟨dl_, fun s v => ?_, fun base Kb Gb TB => ?_⟩
  · obtain ⟨oc, od, kV, doc, pm, an, cdv, ct, osl, rfl, lk, hcd⟩ := Fl_.f.ex
    exact .of_eq rfl
  · obtain ⟨⟨fB, dB, xc⟩, xg⟩ := hx base (fr "super" (by decide +kernel))
    have BM : BadM l.prog w K mg base CB fB dB := ⟨xc.oex, xc.ini, xc.tyI, xc.ok, fun s us _ hl => by
      match us, hl with
      | [u, v], _ => exact xc.bind s u v, gBad⟩
    have BN : BadN K CB CW := ⟨xg, xm, one, nonB⟩
    have N1 := ok_isnum (P := l.prog) (w := w) (base := base) F1 mIs mInt mBo
    have N2 := ok_isnumto (P := l.prog) (w := w) (base := base) F2 N1 F1 b1 g1
    have N3 := ok_islist (P := l.prog) (w := w) (base := base) F3 mIs mList mTup
    have N10 := ok_are (P := l.prog) (w := w) (base := base) F10 N2 F2 b2 g2 N3 F3 b3 g3 (PySem.W.mg_of X G ma) mAll mLen
    have N11 := ok_hangs (P := l.prog) (w := w) (base := base) F11 mRa mLen
    have N12 := ok_behind (P := l.prog) (w := w) (base := base) F12 mRa mAll
    have SM : Small l.prog w K mg base :=
      { fN := f1, fL := f3, fT := f2, fA := f10, fH := f11, fO := f12, dN := d1, dA := d10, dH := d11, dO := d12, tk := tk1, okN := N1, okA := N10, okH := N11, okO := N12, bN := b1, bA := b10, bH := b11, bO := b12
        gN := g1, gA := g10, gH := g11, gO := g12, kN := F1.kp, kA := F10.kp, kH := F11.kp, kO := F12.kp, gMP := PySem.W.mg_of X G mp, mLen := mLen, mTup := mTup }
    let MK : MkN l.prog w K mg base CN CB := ⟨fi, di, ⟨makes, ai, ii, kpN⟩, ok_netinit Fi BM NT SM, bI⟩
    have FE := ok_neteq (P := l.prog) (w := w) (base := base) Fe NE mIs
    have CH : ChkF l.prog w K mg base CN CB := ⟨f14, d14, ok_check F14 BM NE mIs, b14, g14, F14.kp⟩
    have S15 := ok_sinks F15 CH NE mRa
    have S16 := ok_sources F16 CH NE mRa
    have S17 := ok_tree F17 CH NE mLen
    have S18 := ok_turned F18 CH NE MK
    have L0 := ok_begun (P := l.prog) (w := w) (base := base) F20 mAbs
    have L2_ := ok_take (P := l.prog) (w := w) (base := base) F22 F21 b21 g21 mInt
    have L3 := ok_pick (P := l.prog) (w := w) (base := base) F23 F22 b22 g22 F21 b21 g21 mInt mLen
    have L4 := ok_shuf (P := l.prog) (w := w) (base := base) F24 L2_ F22 b22 g22 mLen mList
    have L6 := ok_pairs (P := l.prog) (w := w) (base := base) F26 L2_ F22 b22 g22 L4 F24 b24 g24 mRa
    have L7 := ok_reach (P := l.prog) (w := w) (mg := mg) (base := base) F27
    have L8 := ok_isnet (P := l.prog) (w := w) (base := base) F28 L7 F27 b27 g27 mLen
    have L10 := ok_bent (P := l.prog) (w := w) (base := base) F30 L2_ F22 b22 g22 mLen mList
    have TC := caught_takes (P := l.prog) (w := w) (base := base) F25 b25 gWeb
    have TP := part_takes (P := l.prog) (w := w) (base := base) F29 b29 TC g25 F25.kp gBad BN mIs
    let TX : Txt l.prog w K mg base :=
      { CN := CN, CB := CB, CW := CW, fE := fe, fP := f29, fC := f25, fK := f23, dK := d23, net := NE, mkn := MK, bad := BN, gB := gBad, part := TP, gP := g29, kP := F29.kp, caught := TC, gC := g25, kC := F25.kp, pick := L3, gK := g23, kK := F23.kp, bK := b23
        mLen := mLen, mIs := mIs, noN := noN, noI := noI, noT := tupN, noD := noD }
    have R0 : Refuses l.prog w K mg base CN CB f15 := ⟨_, _, S15.mono (by decide), F15.kp, b15, fun x H Q E h r => ⟨x, rfl, .inl ⟨h, r⟩⟩⟩
    have R1 : Refuses l.prog w K mg base CN CB f16 := ⟨_, _, S16.mono (by decide), F16.kp, b16, fun x H Q E h r => ⟨x, rfl, .inl ⟨h, r⟩⟩⟩
    have R2 : Refuses l.prog w K mg base CN CB f17 := ⟨_, _, S17.mono (by decide), F17.kp, b17, fun x H Q E h r => ⟨x, rfl, .inl ⟨h, r⟩⟩⟩
    have R3 : Refuses l.prog w K mg base CN CB f18 := ⟨_, _, S18, F18.kp, b18, fun x H Q E h r => ⟨x, rfl, .inl ⟨h, r⟩⟩⟩
    have FO : Four l.prog w K mg base CN CB :=
      { f0 := f15, f1 := f16, f2 := f17, f3 := f18, d0 := d15, d1 := d16, d2 := d17, d3 := d18, ok0 := S15, ok1 := S16, ok2 := S17, ok3 := S18, b0 := b15, b1 := b16, b2 := b17, b3 := b18
        k0 := kbinds_net F15 fun _ _ _ _ _ _ _ => ⟨rfl, rfl⟩, k1 := kbinds_net F16 fun _ _ _ _ _ _ _ => ⟨rfl, rfl⟩, g0 := g15, g1 := g16, g2 := g17, g3 := g18, h0 := F15.kp, h1 := F16.kp, h2 := F17.kp, h3 := F18.kp }
    have hneT : (tb K "_law_refused").2 ≠ (tb K "law").2 := fun q => by rw [q, beq_self_eq_true] at tne; cases tne
    have RF : FnOk l.prog w K mg base CX0 9 fr_ dr_ ["draw"] (spRef (TT K)) := ok_ref Fr_ TX (TB ("_law_refused", tb K "_law_refused") (by simp [tabsOf])) (by simp [TT, nmOf]) (fun p m e => by
      unfold TT at m
      simp only [List.mem_cons, List.not_mem_nil, or_false] at m
      rcases m with rfl | rfl
      · rfl
      · exact absurd e.symm hneT) kb g15 g16 g17 g18 R0 R1 R2 R3
    have RR := ok_right F32 FO NE MK FE bE mRe mRa mTup mList mLen
    refine ok_law Fl_ TX
      { f := fun i => ([f20, f22, f26, f30, f28, fr_, f32] : List Addr).getD i 0, fd := fun i => ([d20, d22, d26, d30, d28, dr_, d32] : List FuncData).getD i default
        begun := L0, take := L2_, pairs := L6, bent := L10, isnet := L8, ref := RF, right := RR
        g := fun i x e => ?_, kp := fun i hi => ?_, b0 := b20, b1 := b22, b2 := b26, b3 := b30, b4 := b28, b5 := bR, b6 := b32 }
      (TB ("law", tb K "law") (by simp [tabsOf])) (by simp [TT, nmOf]) (fun p m e => by
        unfold TT at m
        simp only [List.mem_cons, List.not_mem_nil, or_false] at m
        rcases m with rfl | rfl
        · exact absurd e hneT
        · rfl) FE bE mRa mMin mTup
    · have hi : i < 7 := (List.getElem?_eq_some_iff.mp e).1
      match i, hi, e with
      | 0, _, e => cases e; exact g20
      | 1, _, e => cases e; exact g22
      | 2, _, e => cases e; exact g26
      | 3, _, e => cases e; exact g30
      | 4, _, e => cases e; exact g28
      | 5, _, e => cases e; exact gR
      | 6, _, e => cases e; exact g32
    · match i, hi with
      | 0, _ => exact F20.kp
      | 1, _ => exact F22.kp
      | 2, _ => exact F26.kp
      | 3, _ => exact F30.kp
      | 4, _ => exact F28.kp
      | 5, _ => exact Fr_.kp
      | 6, _ => exact F32.kp

/-- the end for this law -/
theorem walk03 {l : PySem.W.OpenLaw} {q : Program} {loose : List Str} {XP : (Str → Option Value) → Heap → Prop} {YP : World → Heap → Prop} {d : DefRec} {K : Params → PySem.W.Frag}
    (hn : l.most = some 63) (hdf : d.params.defaults = []) (hr : Room 10 callerA) (hY : ∀ (w : World) (h : Heap), YP w h → (K w.params).In h) (t1 : ∀ w : World, tbB (K w.params) "_law_refused" = true) (t2 : ∀ w : World, tbB (K w.params) "law" = true)
    (y1 : ∀ (w : World) (h : Heap), YP w h → h.get? (tb (K w.params) "_law_refused").2 = some { cls := .none, data := .fields #[] }) (y2 : ∀ (w : World) (h : Heap), YP w h → h.get? (tb (K w.params) "law").2 = some { cls := .none, data := .fields #[] })
    (F : ∀ (w : World) (mg : Str → Option Value) (fa : Addr) (h : Heap), (K w.params).In h → h.Ns mainGlobals mg → mg d.name = some (.ref fa) →
      ∃ fd : FuncData, (∀ (s : Shared) (u : Value), BindsTo s fd ⟨[u], []⟩ [("script", u)]) ∧ ∀ base : Heap, (K w.params).In base → base.Ns mainGlobals mg → (∀ p ∈ tabsOf (K w.params), TabB base mg p.2.1 p.2.2) → FnG l.prog w (K w.params) mg base CX0 10 fa fd ["script"] (spLaw (K w.params) (TT (K w.params)))) :
    PySem.W.WalkO q loose XP YP l.row.toRowW d [] (fun f vs => PySem.call f vs) := by
  have two : ∀ {M : Str × Addr × Addr → Prop} (w : World), M ("_law_refused", tb (K w.params) "_law_refused") → M ("law", tb (K w.params) "law") → ∀ p ∈ tabsOf (K w.params), M p := fun w a b p m => by
    unfold tabsOf at m
    simp only [List.mem_cons, List.not_mem_nil, or_false] at m
    rcases m with rfl | rfl
    · exact a
    · exact b
  refine walk_ofGT (n := 63) (k := 10) (x := "script") (K := K) (sp := fun w => spLaw (K w.params) (TT (K w.params))) (ts := fun w => tabsOf (K w.params)) hn (by decide) hdf hr hY (fun w => two w ⟨(tb_of (t1 w)).2.2, (tb_of (t1 w)).2.1⟩ ⟨(tb_of (t2 w)).2.2, (tb_of (t2 w)).2.1⟩) (fun w h Y => two w (y1 w h Y) (y2 w h Y)) F fun w H a ns hl _ hT hS => ?_
  exact ⟨a, ns, rfl, hS, hl, tt_of hT, fun _ => rfl⟩
end K03


open PySem PySem.W PyProof.Rows
set_option maxRecDepth 100000 in
set_option maxHeartbeats 0 in
theorem PySem.Challenge.cw_boughwebs_k03_nets_and_their_ends_holds : PySem.Challenge.rw_boughwebs_k03_nets_and_their_ends.Holds := by
  w_on; o_law; k_head; (case hw => w_witness2)
  k_fill
  refine K03.walk03 (l := PySem.Challenge.rw_boughwebs_k03_nets_and_their_ends) rfl (by kernel_rfl) ⟨rfl, by decide, by decide⟩ (fun w h Y => PySem.W.km_in_of Y) ?t1 ?t2 ?y1 ?y2 ?F
  case t1 => exact fun w => by kernel_rfl
  case t2 => exact fun w => by kernel_rfl
  case y1 => exact fun w h Y => PySem.W.km_tabs_of Y _ (List.contains_iff_mem.mp (by kernel_rfl))
  case y2 => exact fun w h Y => PySem.W.km_tabs_of Y _ (List.contains_iff_mem.mp (by kernel_rfl))
  case F =>
    intro w mg fa h KX G hmg
    refine' K03.all_mk KX G hmg ?z1 ?z2 ?z3 ?z4 ?z5 ?z6 ?mp ?ma (fun base mS => ?hx) ?hI ?hE ?_ ?_ ?_ ?_ ?_ ?_ ?_ ?_ ?_ ?_ ?_ ?_ ?_ ?_ ?_ ?_ ?_ ?_ ?_ ?_ ?_ ?_ ?_ ?_ ?_
    case z1 => kernel_rfl
    case z2 => kernel_rfl
    case z3 => kernel_rfl
    case z4 => kernel_rfl
    case z5 => kernel_rfl
    case z6 => kernel_rfl
    case mp => k_is
    case ma => k_is
    case hx =>
        refine' K03.mk_x (x := "BadNet") ?hC (K03.excC_of ?hE2) mS ?xL ?rb ?sa ?tC ?kC ?no ?ini ?tI ?lk ?hcd ?lc ?lcell ?third ?mro ?sup ?ve ?top ?hs ?hS ?h1 ?hdb ?hdc ?hev ?hin ?hsn ?hsw ?bind ?bindK
        (case hC => k_is); (case hE2 => kernel_rfl); (case xL => k_is); (case rb => decide +kernel); (case sa => k_is); (case tC => k_is); (case kC => k_is); (case no => k_is); (case ini => k_is); (case tI => k_is); (case lk => k_is)
        (case hcd => k_is)
        (case lc => exact ⟨_, _, _, _, _, _, by k_is, by rfl, by kernel_rfl⟩)
        (case lcell => exact ⟨_, _, _, by k_is⟩)
        (case third => k_is); (case mro => k_is); (case sup => kernel_rfl); (case ve => k_is); (case top => kernel_rfl)
        (case hs => exact ⟨_, rfl, rfl⟩)
        (case hS => decide +kernel); (case h1 => rfl); (case hdb => decide); (case hdc => decide)
        (case hev => exact fun L => rfl)
        (case hin => exact fun L => rfl)
        (case hsn => exact fun L => rfl)
        (case hsw => exact fun L => rfl)
        (case bind => exact fun s u v => .of_eq rfl)
        (case bindK => exact fun s u v => .of_eq rfl)
    case hI => (refine' K03.hasm_mk ?n ?a ?i ?l ?c ?k; (case n => k_is); (case a => k_is); (case i => k_is); (case l => k_is); (case c => k_is); (case k => k_is))
    case hE => (refine' K03.hasm_mk ?n ?a ?i ?l ?c ?k; (case n => k_is); (case a => k_is); (case i => k_is); (case l => k_is); (case c => k_is); (case k => k_is))
    all_goals (refine' K03.has_mk ?a ?l ?c ?k; (case a => k_is); (case l => k_is); (case c => k_is); (case k => k_is))
