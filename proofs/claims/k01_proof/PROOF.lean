import PyProof.Rows.All
import Wide.All
import OpenK.AllK
import Wide.FinOn
import HandS.ForMost
import PySem.Challenge.RW_boughwebs_k01_tables_put_together
import HandS.TryOnly
import HandS.IsInst
import KE.KExcSuper
import HandS.ExcInit
import HandS.Nested
import HandS.ExcValue
import HandS.MakeKwOnly
import HandS.ExcIs
import HandS.Exc
import HandS.Lambda
import HandS.Style
import HandS.ExcOwn
import PyProof.ExcBaseAll.ValueError
import HandS.WordsExc
import HandS.OwnEq
import PyProof.InstNe
import KE.GoesMore
import HandS.Zip
import PyProof.SumWalkG
import PyProof.Rows.SumAny
import HandS.Conv
import KE.KNestM
import HandS.EndBits
set_option Elab.async false
set_option maxRecDepth 100000
namespace K01
open PySem PySem.Spec PyProof.Rows L2
def top (i : Nat) : Stmt := PySem.Challenge.pw_boughwebs_k01_tables_put_together.main.body.getD i (.Pass ⟨0, 0, 0, 0⟩)
abbrev sBegun : Stmt := top 32
abbrev sMixed : Stmt := top 33
abbrev sTake : Stmt := top 34
abbrev sPick : Stmt := top 35
theorem scBegun : FnScope ["script", "large", "grain"] ["script"] (defScope sBegun) := ⟨rfl, rfl, rfl, by decide +kernel, rfl, by decide +kernel, by decide +kernel⟩
theorem scMixed : FnScope ["draw", "turn", "found", "great", "blend", "grain"] ["draw"] (defScope sMixed) := ⟨rfl, rfl, rfl, by decide +kernel, rfl, by decide +kernel, by decide +kernel⟩
theorem scTake : FnScope ["draw", "amount", "found"] ["draw", "amount"] (defScope sTake) := ⟨rfl, rfl, rfl, by decide +kernel, rfl, by decide +kernel, by decide +kernel⟩
theorem scPick : FnScope ["draw", "some"] ["draw", "some"] (defScope sPick) := ⟨rfl, rfl, rfl, by decide +kernel, rfl, by decide +kernel, by decide +kernel⟩
/-- the pairs of a state of draws -/
def drawL (lg cl : Addr) (r t : Int) : List (Key × V) := [(.inr "large", .ref lg), (.inr "rest", .int r), (.inr "cells", .ref cl), (.inr "turn", .int t)]
structure DrawAt (H : Hp) (d lg cl : Addr) : Prop where
  dc : ∃ r t : Int, H d = some (.dK (drawL lg cl r t))
  la : ∃ L : List Int, L.length ≤ 63 ∧ H lg = some (.lst (L.map V.int))
  ce : ∃ L : List Int, L.length ≤ 63 ∧ H cl = some (.lst (L.map V.int))
  ne : cl ≠ lg
/-- what the state of draws may change -/
def Kept (d lg : Addr) (H H' : Hp) : Prop := ∀ b o, H b = some o → b ≠ d → b ≠ lg → H' b = some o
def spBegun (K : PySem.W.Frag) : Sp := fun vs H Q _ => ∃ (a : Addr) (ns : List Int), vs = [.ref a] ∧ SqL K H a (ns.map V.int) ∧ ns.length ≤ 63 ∧
  ∀ (d lg cl : Addr) (H' : Hp), DrawAt H' d lg cl → Same H H' → H d = none → H lg = none → H cl = none → Q (.ref d) H'
section
variable {P : Program} {w : World} {K : PySem.W.Frag} {mg : Str → Option Value} {base : Heap}
theorem same_upd {H : Hp} {p : Addr} {o : HO} (h : H p = none) : Same H (upd H p o) := fun b x e => by
  rw [upd_ne (ne_of_none e h)]
  exact e
theorem int_at {ns : List Int} {i : Nat} {x : V} (h : (ns.map V.int)[i]? = some x) : ∃ z, ns[i]? = some z ∧ x = .int z := by
  rw [List.getElem?_map] at h
  cases e : ns[i]? with
  | none => rw [e] at h; cases h
  | some z => rw [e] at h; exact ⟨z, rfl, (Option.some.inj h).symm⟩
theorem cpow18 : CPow 10 18 := ⟨by decide, by decide, by decide⟩
theorem ok_begun {f : Addr} {fd : FuncData} (F : Fun K "_law_begun" "_law_begun" sBegun f fd) (mAbs : mg "abs" = none) : FnOk P w K mg base CX0 1 f fd ["script"] (spBegun K) := by
  refine F.ok scBegun (fun vs H Q E h => ?_) (fun cdv A outer s H vs Q E hr h => ?_)
  · obtain ⟨a, ns, rfl, _⟩ := h
    rfl
  · obtain ⟨a, ns, rfl, hS, hlen, k⟩ := h
    have nd := scBegun.nd
    refine ⟨_, pss_cons (ps_setLc (i := 1) (own := [("grain", 2)]) (g := gName 2) (by rfl) nd rfl rfl (sw_true rfl rfl rfl (by decide +kernel)) (pi_list (pv 0)) (blkOk_by (N := ["script", "large", "grain"]) (sc := defScope sBegun) (by decide +kernel)) (fun _ _ _ _ _ => pg_name (i := 2) nd rfl (Or.inl rfl))
        (fun _ _ _ _ _ => pts_one (pt_cmpR op_ge (pe_callB call_abs (by rfl) mAbs (by decide +kernel) (pa_cons (pv 2) pa_nil)) (pe_op op_pow pe_int pe_int) (nomark _)))
        (fun _ _ _ _ _ => pe_op op_sub (pe_callB call_abs (by rfl) mAbs (by decide +kernel) (pa_cons (pv 2) pa_nil)) (pe_op op_pow pe_int pe_int)))
      (pss_one (ps_ret (pe_disp (pps_cons pe_str (pv 1) (pps_cons pe_str pe_int (pps_cons pe_str
        (pe_lc (own := [("grain", 2)]) (g := gName 2) (by rfl) nd (pi_list (pv 0)) (blkOk_by (N := ["script", "large", "grain"]) (sc := defScope sBegun) (by decide +kernel)) (fun _ _ _ _ _ => pg_name (i := 2) nd rfl (Or.inl rfl)) (fun _ _ _ _ _ => pts_nil)
          (fun _ _ _ _ _ => pe_callB call_abs (by rfl) mAbs (by decide +kernel) (pa_cons (pv 2) pa_nil))) (pps_cons pe_str pe_int pps_nil)))) (by rfl) (by rfl) (fun z => by cases z) (by decide)))), ?_⟩
    refine ⟨_, rfl, a, rfl, ⟨_, hS⟩, fun lg nlg => lc_list (K := K) (a := a) (xs := ns.map V.int) (fun i H1 => Same H H1 ∧ ∃ L : List Int, L.length ≤ i ∧ H1 lg = some (.lst (L.map V.int)))
      ⟨same_upd nlg, [], Nat.le_refl _, upd_same⟩ (fun i H1 _ hp => hp.1.seq hS) ?_ ?_⟩
    · rintro i x H1 hi ⟨s1, L, hL, eL⟩
      obtain ⟨z, hz, rfl⟩ := int_at hi
      have hil : i < ns.length := (List.getElem?_eq_some_iff.mp hz).1
      refine ⟨rfl, _, rfl, _, rfl, _, _, rfl, rfl, cpow18, _, _, rfl, rfl, _, rfl, ?_⟩
      refine ite2 (fun _ => ?_) (fun _ => ⟨s1, L, by omega, eL⟩)
      refine ⟨_, rfl, _, rfl, _, _, rfl, rfl, cpow18, _, _, rfl, rfl, _, eL, small1000 (by rw [List.length_map]; omega), ?_, L ++ [(if z < 0 then -z else z) - 10 ^ (18 : Int).toNat], ?_, ?_⟩
      · intro b o e
        rw [upd_ne (ne_of_none e nlg)]
        exact s1 b o e
      · rw [List.length_append]
        show L.length + 1 ≤ i + 1
        omega
      · rw [upd_same, List.map_append]
        rfl
    · rintro H1 ⟨s1, L, hL, eL⟩
      rw [List.length_map] at hL
      refine fun d hd => ⟨_, rfl, ?_⟩
      have ndlg : lg ≠ d := ne_of_none eL hd
      have s2 : Same H (upd H1 d (.dK [])) := fun b o e => same_upd hd b o (s1 b o e)
      refine ⟨_, rfl, a, rfl, ⟨_, s2.seq hS⟩, fun cl ncl => lc_list (K := K) (a := a) (xs := ns.map V.int) (fun i H2 => Same (upd H1 d (.dK [])) H2 ∧ ∃ M : List Int, M.length ≤ i ∧ H2 cl = some (.lst (M.map V.int)))
        ⟨same_upd ncl, [], Nat.le_refl _, upd_same⟩ (fun i H2 _ hp => (Same.trans s2 hp.1).seq hS) ?_ ?_⟩
      · rintro i x H2 hi ⟨s3, M, hM, eM⟩
        obtain ⟨z, hz, rfl⟩ := int_at hi
        have hil : i < ns.length := (List.getElem?_eq_some_iff.mp hz).1
        refine ⟨rfl, ?_⟩
        dsimp only [tYes]
        refine iteT ?_
        refine ⟨_, rfl, _, rfl, _, eM, small1000 (by rw [List.length_map]; omega), ?_, M ++ [if z < 0 then -z else z], ?_, ?_⟩
        · intro b o e
          rw [upd_ne (ne_of_none e ncl)]
          exact s3 b o e
        · rw [List.length_append]
          show M.length + 1 ≤ i + 1
          omega
        · rw [upd_same, List.map_append]
          rfl
      · rintro H2 ⟨s3, M, hM, eM⟩
        rw [List.length_map] at hM
        have ed : H2 d = some (.dK []) := s3 d _ upd_same
        have el : H2 lg = some (.lst (L.map V.int)) := s3 lg _ (by rw [upd_ne ndlg]; exact eL)
        refine ⟨ed, drawL lg cl 0 0, rfl, (by show 4 ≤ 15; decide), ?_⟩
        have ncd : cl ≠ d := ne_of_none (o := .lst (M.map V.int)) (H := fun b => if b = cl then some (.lst (M.map V.int)) else none) (by simp) (by
          have : d ≠ cl := ne_of_none upd_same ncl
          simp [this]) 
        have ncg : cl ≠ lg := fun z => by
          rw [z, upd_ne ndlg, eL] at ncl
          cases ncl
        have s4 : Same H H2 := fun b o e => s3 b o (s2 b o e)
        refine k d lg cl _ ⟨⟨0, 0, ?_⟩, ⟨L, by omega, ?_⟩, ⟨M, by omega, ?_⟩, ncg⟩ ?_ ?_ nlg ?_
        · rw [upd_same]
          rfl
        · rw [upd_ne ndlg]
          exact el
        · rw [upd_ne ncd]
          exact eM
        · intro b o e
          have : b ≠ d := fun z => by
            subst z
            have := s1 b _ e
            rw [hd] at this
            cases this
          rw [upd_ne this]
          exact s4 b o e
        · cases e : H d with
          | none => rfl
          | some o => 
            have := s1 d _ e
            rw [hd] at this
            cases this
        · cases e : H cl with
          | none => rfl
          | some o => 
            have := s2 cl _ e
            rw [ncl] at this
            cases this
end
end K01


set_option Elab.async false
set_option maxRecDepth 100000
namespace K01
open PySem PySem.Spec PyProof.Rows L2
theorem kne {a b : Str} (h : ¬ a = b) : ¬ (Sum.inr a : Key) = Sum.inr b := fun z => h (Sum.inr.inj z)
theorem n_lr : ¬ (("large" : Str) = "rest") := by decide +kernel
theorem n_lc : ¬ (("large" : Str) = "cells") := by decide +kernel
theorem n_lt : ¬ (("large" : Str) = "turn") := by decide +kernel
theorem n_rc : ¬ (("rest" : Str) = "cells") := by decide +kernel
theorem n_rt : ¬ (("rest" : Str) = "turn") := by decide +kernel
theorem n_ct : ¬ (("cells" : Str) = "turn") := by decide +kernel
variable (lg cl : Addr) (r t z : Int)
theorem g_large : valV (drawL lg cl r t) (.inr "large") = some (.ref lg) := valV_pos rfl
theorem g_rest : valV (drawL lg cl r t) (.inr "rest") = some (.int r) := (valV_neg (kne n_lr)).trans (valV_pos rfl)
theorem g_cells : valV (drawL lg cl r t) (.inr "cells") = some (.ref cl) := (valV_neg (kne n_lc)).trans ((valV_neg (kne n_rc)).trans (valV_pos rfl))
theorem g_turn : valV (drawL lg cl r t) (.inr "turn") = some (.int t) := (valV_neg (kne n_lt)).trans ((valV_neg (kne n_rt)).trans ((valV_neg (kne n_ct)).trans (valV_pos rfl)))
theorem p_rest : putK (drawL lg cl r t) (.inr "rest") (.int z) = drawL lg cl z t := by
  simp [putK, drawL, n_lr, Ne.symm n_rc, Ne.symm n_rt]
theorem p_turn : putK (drawL lg cl r t) (.inr "turn") (.int z) = drawL lg cl r z := by
  simp [putK, drawL, n_lt, n_rt, n_ct]
theorem dl4 : (drawL lg cl r t).length < sizeLine := by show 4 < sizeLine; decide
end K01


set_option Elab.async false
set_option maxRecDepth 100000
namespace K01
open PySem PySem.Spec PyProof.Rows L2
section
variable {P : Program} {w : World} {K : PySem.W.Frag} {mg : Str → Option Value} {base : Heap}
theorem Kept.refl {d lg : Addr} {H : Hp} : Kept d lg H H := fun _ _ e _ _ => e
theorem Kept.trans {d lg : Addr} {H H1 H2 : Hp} (a : Kept d lg H H1) (b : Kept d lg H1 H2) : Kept d lg H H2 := fun x o e h1 h2 => b x o (a x o e h1 h2) h1 h2
theorem Kept.d {d lg : Addr} {H : Hp} {o : HO} : Kept d lg H (upd H d o) := fun x u e h1 _ => by rw [upd_ne h1]; exact e
theorem Kept.l {d lg : Addr} {H : Hp} {o : HO} : Kept d lg H (upd H lg o) := fun x u e _ h2 => by rw [upd_ne h2]; exact e
theorem Kept.new {d lg p : Addr} {H : Hp} {o : HO} (h : H p = none) : Kept d lg H (upd H p o) := fun x u e _ _ => by rw [upd_ne (ne_of_none e h)]; exact e
theorem dne {H : Hp} {d p : Addr} {kvs : List (Key × V)} {xs : List V} (h : H d = some (.dK kvs)) (h' : H p = some (.lst xs)) : d ≠ p := ne_of h h' (by intro z; cases z)
/-- mixed: some int; the state's turn has changed, nothing else -/
def spMixed : Sp := fun vs H Q _ => ∃ (d lg cl : Addr), vs = [.ref d] ∧ DrawAt H d lg cl ∧
  ∀ (z : Int) (H' : Hp), DrawAt H' d lg cl → Kept d lg H H' → H' lg = H lg → Q (.int z) H'
theorem ok_mixed {f : Addr} {fd : FuncData} (F : Fun K "_law_mixed" "_law_mixed" sMixed f fd) (mInt : mg "int" = none) : FnOk P w K mg base CX0 1 f fd ["draw"] spMixed := by
  refine F.ok scMixed (fun vs H Q E h => ?_) (fun cdv A outer s H vs Q E hr h => ?_)
  · obtain ⟨d, lg, cl, rfl, _⟩ := h
    rfl
  · obtain ⟨d, lg, cl, rfl, D, k⟩ := h
    have nd := scMixed.nd
    have hu := hu_of hr
    obtain ⟨⟨r, t, hd⟩, ⟨L, hL, hl⟩, ⟨M, hM, hc⟩, ncl⟩ := id D
    have ndl := dne hd hl
    have ndc := dne hd hc
    refine ⟨_, pss_cons (ps_dput hu (pv 0) pe_str (pe_op op_add (pe_dget hu (pv 0) pe_str (fun _ _ => rfl)) pe_int) rfl)
      (pss_cons (ps_par (i := 1) (j := 2) (by rfl) nd rfl rfl (by decide) rfl rfl (pa_cons (pe_callTy call_int1 (by rfl) mInt (by decide +kernel) (pa_cons (pe_dget hu (pv 0) pe_str (fun _ _ => rfl)) pa_nil)) (pa_cons pe_int pa_nil)) (by rfl))
      (pss_cons (ps_for PassesOwn.never rfl (pi_list (pe_lst (pa_cons pe_int (pa_cons pe_int (pa_cons pe_int pa_nil))))) (pg_name (i := 3) nd rfl (Or.inl rfl))
        (pss_cons (ps_set (i := 4) nd rfl (Or.inl rfl) (pe_op op_modN (pe_op op_add (pe_op op_mul (pv 1) pe_int) (pe_op op_fdivN (pv 3) pe_int)) (pv 3)))
        (pss_cons (ps_for PassesOwn.never rfl (pi_list (pe_dget hu (pv 0) pe_str (fun _ _ => rfl))) (pg_name (i := 5) nd rfl (Or.inl rfl))
          (pss_one (ps_set (i := 4) nd rfl (Or.inl rfl) (pe_op op_modN (pe_op op_add (pe_op op_mul (pv 4) pe_int) (pe_callTy call_int1 (by rfl) mInt (by decide +kernel) (pa_cons (pv 5) pa_nil))) (pv 3)))))
        (pss_one (ps_set (i := 2) nd rfl (Or.inl rfl) (pe_op op_add (pe_op op_mul (pv 2) pe_int) (pe_op op_modN (pe_op op_pow (pv 4) pe_int) (pv 3))))))))
      (pss_one (ps_ret (pv 2))))), ?_⟩
    -- draw['turn'] = draw['turn'] + 1
    refine ⟨_, rfl, d, _, rfl, (g_turn lg cl r t) ▸ DGet.k (k := Sum.inr "turn") hd, _, _, rfl, rfl, _, rfl, d, _, rfl, DPut.k (k := Sum.inr "turn") hd (dl4 lg cl r t), ?_⟩
    rw [p_turn]
    have k1 : Kept d lg H (upd H d (.dK (drawL lg cl r (t + 1)))) := Kept.d
    have hd1 : (upd H d (.dK (drawL lg cl r (t + 1)))) d = some (.dK (drawL lg cl r (t + 1))) := upd_same
    -- turn, found
    refine ⟨_, rfl, d, _, rfl, (g_turn lg cl r (t + 1)) ▸ DGet.k (k := Sum.inr "turn") hd1, .inl ⟨_, rfl, _, _, rfl, ?_⟩⟩
    -- for great in ..
    refine ⟨by decide, fun p np => ?_⟩
    have ndp : d ≠ p := ne_of_none hd1 np
    have hl1 : (upd H d (.dK (drawL lg cl r (t + 1)))) lg = some (.lst (L.map V.int)) := by rw [upd_ne ndl.symm]; exact hl
    have hc1 : (upd H d (.dK (drawL lg cl r (t + 1)))) cl = some (.lst (M.map V.int)) := by rw [upd_ne ndc.symm]; exact hc
    have nlp : lg ≠ p := ne_of_none hl1 np
    have ncp : cl ≠ p := ne_of_none hc1 np
    let H2 := upd (upd H d (.dK (drawL lg cl r (t + 1)))) p (.lst (([2147483629, 2147483587, 2147483579] : List Int).map V.int))
    have hp2 : H2 p = some (.lst (([2147483629, 2147483587, 2147483579] : List Int).map V.int)) := upd_same
    have hd2 : H2 d = some (.dK (drawL lg cl r (t + 1))) := by show upd _ p _ d = _; rw [upd_ne ndp]; exact hd1
    have hl2 : H2 lg = some (.lst (L.map V.int)) := by show upd _ p _ lg = _; rw [upd_ne nlp]; exact hl1
    have hc2 : H2 cl = some (.lst (M.map V.int)) := by show upd _ p _ cl = _; rw [upd_ne ncp]; exact hc1
    have D2 : DrawAt H2 d lg cl := ⟨⟨_, _, hd2⟩, ⟨L, hL, hl2⟩, ⟨M, hM, hc2⟩, ncl⟩
    have k2 : Kept d lg H H2 := k1.trans (Kept.new np)
    refine ⟨p, rfl, ⟨_, SqL.of hp2⟩, for_list (K := K) (a := p) (xs := ([2147483629, 2147483587, 2147483579] : List Int).map V.int) (fun i σ H3 => ∃ (x : Int) (v3 v4 v5 : Option V), σ = [some (.ref d), some (.int (t + 1)), some (.int x), v3, v4, v5] ∧ H3 = H2)
      ⟨0, _, _, _, rfl, rfl⟩ (fun i σ H3 _ ⟨_, _, _, _, _, e⟩ => by rw [e]; exact SqL.of hp2) ?_ ?_⟩
    · rintro i y σ H3 hi ⟨x, v3, v4, v5, rfl, rfl⟩
      obtain ⟨g, hg, rfl⟩ := int_at hi
      have hgb : 0 < g ∧ g < 2147483648 := by
        have := List.mem_of_getElem? hg
        simp only [List.mem_cons, List.mem_nil_iff, or_false] at this
        omega
      refine ⟨_, rfl, _, _, rfl, rfl, .inr (by decide), _, rfl, _, _, rfl, rfl, ⟨by decide, by decide⟩, _, _, rfl, rfl, _, rfl, _, _, rfl, rfl, (by omega), ?_⟩
      have b0 : 0 ≤ ((t + 1) * 69621 + g.fdiv 7).fmod g ∧ ((t + 1) * 69621 + g.fdiv 7).fmod g < g := ⟨Int.fmod_nonneg_of_pos _ hgb.1, Int.fmod_lt_of_pos _ hgb.1⟩
      -- the inner loop
      refine ⟨_, rfl, d, _, rfl, (g_cells lg cl r (t + 1)) ▸ DGet.k (k := Sum.inr "cells") hd2, cl, rfl, ⟨_, SqL.of hc2⟩, for_list (K := K) (a := cl) (xs := M.map V.int) (fun j σ H4 => ∃ (b : Int) (v5 : Option V), σ = [some (.ref d), some (.int (t + 1)), some (.int x), some (.int g), some (.int b), v5] ∧ H4 = H2 ∧ 0 ≤ b ∧ b < g)
        ⟨_, _, rfl, rfl, b0⟩ (fun i σ H3 _ ⟨_, _, _, e, _⟩ => by rw [e]; exact SqL.of hc2) ?_ ?_⟩
      · rintro j y σ H4 hj ⟨b, v5, rfl, rfl, hb1, hb2⟩
        obtain ⟨m, hm, rfl⟩ := int_at hj
        refine ⟨_, rfl, _, _, rfl, rfl, .inr (by decide), _, rfl, .inl ⟨_, rfl, _, _, rfl, rfl, _, rfl, _, _, rfl, rfl, (by omega), ?_⟩⟩
        exact ⟨_, _, rfl, rfl, Int.fmod_nonneg_of_pos _ hgb.1, Int.fmod_lt_of_pos _ hgb.1⟩
      · rintro σ H4 ⟨b, v5, rfl, rfl, hb1, hb2⟩
        refine ⟨_, rfl, _, _, rfl, rfl, .inr (by decide), _, rfl, _, _, rfl, rfl, ⟨by decide, by decide, by omega⟩, _, rfl, _, _, rfl, rfl, (by omega), _, _, rfl, rfl, ?_⟩
        exact ⟨_, _, _, _, rfl, rfl⟩
    · rintro σ H3 ⟨x, v3, v4, v5, rfl, rfl⟩
      exact ⟨_, rfl, k x H2 D2 k2 (hl2.trans hl.symm)⟩
end
end K01


set_option Elab.async false
set_option maxRecDepth 100000
namespace K01
open PySem PySem.Spec PyProof.Rows L2
/-- a draw below n -/
def spTake : Sp := fun vs H Q _ => ∃ (d lg cl : Addr) (n : Int), vs = [.ref d, .int n] ∧ DrawAt H d lg cl ∧ 0 < n ∧ n < 1000000 ∧
  ∀ (z : Int) (H' : Hp), 0 ≤ z → z < n → DrawAt H' d lg cl → Kept d lg H H' → Q (.int z) H'
theorem dp_ints {K : PySem.W.Frag} {H : Hp} {a : Addr} {L : List Int} (h : SqL K H a (L.map V.int)) : Dp K H (.ref a) (.list (L.map PyData.int)) := by
  refine .lst h ?_
  clear h
  induction L with
  | nil => exact .nil
  | cons x r ih => exact .cons (.int x) ih
theorem lay_ints (L : List Int) : PyData.canLayAll0 (L.map PyData.int) = true := by
  induction L with
  | nil => rfl
  | cons x r ih => simp [PyData.canLayAll0, PyData.canLay0, ih]
theorem dep_ints (L : List Int) : PyData.depthAll (L.map PyData.int) ≤ 1 := by
  induction L with
  | nil => simp [PyData.depthAll]
  | cons x r ih => simp [PyData.depthAll, PyData.depth]; omega
theorem shp_ints (L : List Int) : SeqAt.shaped (.list (L.map PyData.int)) = true := by
  have h := dep_ints L
  simp [SeqAt.shaped, PyData.canLay0, lay_ints, PyData.depth]
  omega
section
variable {P : Program} {w : World} {K : PySem.W.Frag} {mg : Str → Option Value} {base : Heap}
theorem ok_take {f fM : Addr} {fd fdM : FuncData} (F : Fun K "_law_take" "_law_take" sTake f fd) (FM : Fun K "_law_mixed" "_law_mixed" sMixed fM fdM) (bM : Binds K fdM ["draw"] []) (gM : mg "_law_mixed" = some (.ref fM)) (mInt : mg "int" = none) : FnOk P w K mg base CX0 2 f fd ["draw", "amount"] spTake := by
  have GM : FnOk P w K mg base CX0 1 fM fdM ["draw"] spMixed := ok_mixed FM mInt
  refine F.ok scTake (fun vs H Q E h => ?_) (fun cdv A outer s H vs Q E hr h => ?_)
  · obtain ⟨d, lg, cl, n, rfl, _⟩ := h
    rfl
  · obtain ⟨d, lg, cl, n, rfl, D, hn, hn2, k⟩ := h
    have nd := scTake.nd
    have hu := hu_of hr
    refine ⟨_, pss_cons (ps_if (pt_cmpR op_eq (pe_dget hu (pv 0) pe_str (fun _ _ => rfl)) pe_int (nomark _))
        (pss_one (ps_dput hu (pv 0) pe_str (pe_ifExp (pt_cmpR (op_neD hr.units) (pe_dget hu (pv 0) pe_str (fun _ _ => rfl)) (pe_lst pa_nil) (nomark _))
          (pe_bm PySem.F.plainAttrs_list PySem.F.slot_list_pop PySem.F.type_list_pop mt_popAt (pe_dget hu (pv 0) pe_str (fun _ _ => rfl)) (pa_cons pe_int pa_nil))
          (pe_call GM hr rfl gM FM.kp bM .nil pass0 (pa_cons (pv 0) pa_nil))) rfl)) pss_nil)
      (pss_cons (ps_set (i := 2) nd rfl (Or.inl rfl) (pe_op op_modN (pe_callTy call_int1 (by rfl) mInt (by decide +kernel) (pa_cons (pe_dget hu (pv 0) pe_str (fun _ _ => rfl)) pa_nil)) (pv 1)))
      (pss_cons (ps_dput hu (pv 0) pe_str (pe_op op_fdivN (pe_callTy call_int1 (by rfl) mInt (by decide +kernel) (pa_cons (pe_dget hu (pv 0) pe_str (fun _ _ => rfl)) pa_nil)) (pv 1)) rfl)
      (pss_one (ps_ret (pv 2))))), ?_⟩
    -- what follows the if, from any state of draws
    have after : ∀ H1 : Hp, DrawAt H1 d lg cl → Kept d lg H H1 →
        tAsg (tOp (rI (fun _ j => j ≠ 0) fun i j => .int (i.fmod j)) (tCB (fun xs H Q => (∃ i, xs = [.int i] ∧ Q (.int i) H) ∨ ∃ k, xs = [.bl k] ∧ Q (.int (if k then 1 else 0)) H) (tCons (tDGet (tVar 0) (tC (.str "rest"))) tNil)) (tVar 1)) (gName 2)
          { nx := fun σ2 H2 => sDPut (tVar 0) (tC (.str "rest")) (tOp (rI CDivN fun i j => .int (i.fdiv j)) (tCB (fun xs H Q => (∃ i, xs = [.int i] ∧ Q (.int i) H) ∨ ∃ k, xs = [.bl k] ∧ Q (.int (if k then 1 else 0)) H) (tCons (tDGet (tVar 0) (tC (.str "rest"))) tNil)) (tVar 1))
              { nx := fun σ3 H3 => tRet (tVar 2) { nx := fun _ H' => Q .non H', rt := Q } σ3 H3, rt := Q } σ2 H2, rt := Q } (start ["draw", "amount", "found"] [.ref d, .int n]) H1 := by
      intro H1 D1 k1
      obtain ⟨⟨r, t, hd⟩, ⟨L, hL, hl⟩, ⟨M, hM, hc⟩, ncl⟩ := id D1
      have ndl := dne hd hl
      have ndc := dne hd hc
      refine ⟨_, rfl, d, _, rfl, (g_rest lg cl r t) ▸ DGet.k (k := Sum.inr "rest") hd, .inl ⟨_, rfl, _, rfl, _, _, rfl, rfl, (by omega), ?_⟩⟩
      refine ⟨_, rfl, d, _, rfl, (g_rest lg cl r t) ▸ DGet.k (k := Sum.inr "rest") hd, .inl ⟨_, rfl, _, rfl, _, _, rfl, rfl, ⟨by omega, by omega⟩, _, rfl, d, _, rfl, DPut.k (k := Sum.inr "rest") hd (dl4 lg cl r t), ?_⟩⟩
      rw [p_rest]
      refine ⟨_, rfl, k _ _ (Int.fmod_nonneg_of_pos _ hn) (Int.fmod_lt_of_pos _ hn) ⟨⟨_, _, upd_same⟩, ⟨L, hL, by rw [upd_ne ndl.symm]; exact hl⟩, ⟨M, hM, by rw [upd_ne ndc.symm]; exact hc⟩, ncl⟩ (k1.trans Kept.d)⟩
    obtain ⟨⟨r, t, hd⟩, ⟨L, hL, hl⟩, ⟨M, hM, hc⟩, ncl⟩ := id D
    have ndl := dne hd hl
    have ndc := dne hd hc
    refine ⟨_, rfl, d, _, rfl, (g_rest lg cl r t) ▸ DGet.k (k := Sum.inr "rest") hd, rfl, _, rfl, ite2 (fun _ => ?_) (fun _ => after H D Kept.refl)⟩
    -- draw['large'] != []
    refine ⟨_, rfl, d, _, rfl, (g_large lg cl r t) ▸ DGet.k (k := Sum.inr "large") hd, by decide, fun e ne => ?_⟩
    have hd1 : (upd H e (.lst [])) d = some (.dK (drawL lg cl r t)) := by rw [upd_ne (ne_of_none hd ne)]; exact hd
    have hl1 : (upd H e (.lst [])) lg = some (.lst (L.map V.int)) := by rw [upd_ne (ne_of_none hl ne)]; exact hl
    have hc1 : (upd H e (.lst [])) cl = some (.lst (M.map V.int)) := by rw [upd_ne (ne_of_none hc ne)]; exact hc
    have D1 : DrawAt (upd H e (.lst [])) d lg cl := ⟨⟨_, _, hd1⟩, ⟨L, hL, hl1⟩, ⟨M, hM, hc1⟩, ncl⟩
    refine ⟨_, _, dp_ints (SqL.of hl1), .lst (SqL.of upd_same) .nil, shp_ints L, rfl, _, rfl, ?_⟩
    cases L with
    | nil =>
      refine iteF ?_
      refine ⟨_, rfl, d, lg, cl, rfl, D1, fun z H2 D2 k2 e2 => ?_⟩
      obtain ⟨⟨r2, t2, hd2⟩, ⟨L2, hL2, hl2⟩, ⟨M2, hM2, hc2⟩, _⟩ := id D2
      refine ⟨_, rfl, d, _, rfl, DPut.k (k := Sum.inr "rest") hd2 (dl4 lg cl r2 t2), ?_⟩
      rw [p_rest]
      exact after _ ⟨⟨_, _, upd_same⟩, ⟨L2, hL2, by rw [upd_ne ndl.symm]; exact hl2⟩, ⟨M2, hM2, by rw [upd_ne ndc.symm]; exact hc2⟩, ncl⟩ ((Kept.new ne).trans (k2.trans Kept.d))
    | cons x L =>
      refine iteT ?_
      refine ⟨_, rfl, d, .ref lg, rfl, (g_large lg cl r t) ▸ DGet.k (k := Sum.inr "large") hd1, .inl ⟨rfl, _, SqL.of hl1⟩, lg, _, 0, 0, .int x, rfl, rfl, hl1, by decide, by decide, ?_, rfl, ?_⟩
      · show seqIndex? 0 (L.map V.int).length.succ = some 0
        simp [seqIndex?]
      · have hd3 : (upd (upd H e (.lst [])) lg (.lst (((x :: L).map V.int).eraseIdx 0))) d = some (.dK (drawL lg cl r t)) := by rw [upd_ne ndl]; exact hd1
        refine ⟨_, rfl, d, _, rfl, DPut.k (k := Sum.inr "rest") hd3 (dl4 lg cl r t), ?_⟩
        rw [p_rest]
        refine after _ ⟨⟨_, _, upd_same⟩, ⟨L, by simp at hL; omega, by rw [upd_ne ndl.symm, upd_same]; rfl⟩, ⟨M, hM, by rw [upd_ne ndc.symm, upd_ne ncl]; exact hc1⟩, ncl⟩ ((Kept.new ne).trans (Kept.l.trans Kept.d))
end
end K01


set_option Elab.async false
set_option maxRecDepth 100000
namespace K01
open PySem PySem.Spec PyProof.Rows L2
/-- one of a list's items -/
def spPick : Sp := fun vs H Q _ => ∃ (d lg cl a : Addr) (xs : List V), vs = [.ref d, .ref a] ∧ DrawAt H d lg cl ∧ H a = some (.lst xs) ∧ a ≠ lg ∧ 0 < xs.length ∧ xs.length < 1000 ∧
  ∀ (i : Nat) (x : V) (H' : Hp), xs[i]? = some x → DrawAt H' d lg cl → Kept d lg H H' → Q x H'
section
variable {P : Program} {w : World} {K : PySem.W.Frag} {mg : Str → Option Value} {base : Heap}
theorem ok_pick {f fT fM : Addr} {fd fdT fdM : FuncData} (F : Fun K "_law_pick" "_law_pick" sPick f fd) (FT : Fun K "_law_take" "_law_take" sTake fT fdT) (bT : Binds K fdT ["draw", "amount"] []) (gT : mg "_law_take" = some (.ref fT))
    (FM : Fun K "_law_mixed" "_law_mixed" sMixed fM fdM) (bM : Binds K fdM ["draw"] []) (gM : mg "_law_mixed" = some (.ref fM)) (mInt : mg "int" = none) (mLen : mg "len" = none) : FnOk P w K mg base CX0 3 f fd ["draw", "some"] spPick := by
  have GT : FnOk P w K mg base CX0 2 fT fdT ["draw", "amount"] spTake := ok_take FT FM bM gM mInt
  refine F.ok scPick (fun vs H Q E h => ?_) (fun cdv A outer s H vs Q E hr h => ?_)
  · obtain ⟨d, lg, cl, a, xs, rfl, _⟩ := h
    rfl
  · obtain ⟨d, lg, cl, a, xs, rfl, D, ha, nal, h0, h1, k⟩ := h
    have nda : d ≠ a := by
      obtain ⟨⟨r, t, hd⟩, _⟩ := D
      exact dne hd ha
    refine ⟨_, pss_one (ps_ret (pe_ix ix_list (pv 1) (pe_call GT hr rfl gT FT.kp bT .nil pass0 (pa_cons (pv 0) (pa_cons (pe_callB call_len_seq (by rfl) mLen PySem.boot_len (pa_cons (pv 1) pa_nil)) pa_nil))) (fun _ _ => rfl))), ?_⟩
    refine ⟨_, rfl, _, rfl, _, rfl, a, xs, rfl, .inl (SqL.of ha), d, lg, cl, _, rfl, D, (by omega), (by omega), fun z H' hz1 hz2 D' k' => ?_⟩
    obtain ⟨j, rfl⟩ := Int.eq_ofNat_of_zero_le hz1
    have hj : j < xs.length := by omega
    have ex := List.getElem?_eq_getElem hj
    exact ⟨a, xs, _, _, rfl, rfl, SqL.of (k' a _ ha nda.symm nal), atI_nat ex, k j _ H' ex D' k'⟩
end
end K01


set_option Elab.async false
set_option maxRecDepth 100000
set_option maxHeartbeats 1000000
set_option linter.all false
namespace GL
open PySem PySem.Spec PyProof.Rows L2
/-! Promises of defs that may ask for repr: nothing is being shown around the call -/
structure FnG (P : Program) (w : World) (K : PySem.W.Frag) (mg : Str → Option Value) (base : Heap) (CX : CXT) (k : Nat) (f : Addr) (fd : FuncData) (ps : List Str) (sp : Sp) : Prop where
  len : ∀ vs H Q E, sp vs H Q E → vs.length = ps.length
  run : ∀ (A : Around) (outer : List Env) (s : Shared) (H : Hp) (args : Args) (us : List Value) (vs : List V) (Q : VK) (E : XK), A.guards = some [] → Room k A → Env0 P w K mg base A outer s H → BindsTo s fd args (ps.zip us) → Vals vs us → sp vs H Q E →
    codeAny (model P w) A (.call (.ref f) args) (CR CX outer P w H s Q E) s
section
variable {P : Program} {w : World} {K : PySem.W.Frag} {mg : Str → Option Value} {base : Heap} {CX : CXT}
theorem FnG.of {k : Nat} {f : Addr} {fd : FuncData} {ps : List Str} {sp : Sp} (F : FnOk P w K mg base CX k f fd ps sp) : FnG P w K mg base CX k f fd ps sp :=
  ⟨F.len, fun A outer s H args us vs Q E _ => F.run A outer s H args us vs Q E⟩
/-- a def by its body -/
theorem fng_of {k : Nat} {f : Addr} {name qual : Str} {st : Stmt} {dV kV doc pm cdv ct oc : Value} {an od : Option Addr} {osl : Array (Option Value)} {N ps : List Str} {sp : Sp}
    (lk : K.lookup f = some ⟨oc, od, .func (PySem.W.fnOf name qual (defArgs st) (defBody st) (defScope st) dV kV doc pm an cdv ct), osl⟩) (hcd : PySem.W.codeIn K cdv qual = true) (S : FnScope N ps (defScope st))
    (len : ∀ vs H Q E, sp vs H Q E → vs.length = ps.length)
    (hbody : ∀ (A : Around) (outer : List Env) (s : Shared) (H : Hp) (vs : List V) (Q : VK) (E : XK), A.guards = some [] → Room k (A.deeper (envOfC qual (defScope st) s.heap.objs.size f cdv)) → sp vs H Q E →
      ∃ t, PSs (cxOf CX P w K mg base N qual (defScope st) f cdv A outer s H E) (defBody st) t ∧ t { nx := fun _ H' => Q .non H', rt := Q } (start N vs) H) :
    FnG P w K mg base CX (k + 1) f (PySem.W.fnOf name qual (defArgs st) (defBody st) (defScope st) dV kV doc pm an cdv ct) ps sp := by
  refine ⟨len, fun A outer s H args us vs Q E hga hr e0 hb r hsp => ?_⟩
  have KX : K.In s.heap := e0.mod.kin.keeps fun b o e => (e0.bs b o e).1
  have lim : s.heap.NoLimit := e0.mod.nolimit.keeps fun b o e => (e0.bs b o e).1
  refine codeAny_call_function hr.depth (KX _ _ lk) rfl S.co S.gen rfl (PySem.W.codeRec_of KX hcd) (hb _ _ _ _ (wpAny_newFunctionEnv_cells S.kind (fun y hy => ?_) fun env he s1 x => ?_))
  · obtain ⟨n, v⟩ := y
    rcases S.par n (List.of_mem_zip hy).1 with q | q
    · exact .inl q
    · exact .inr ⟨q, PySem.W.cellsFrom_some _ _ _ (.inl q)⟩
  · subst he
    refine ⟨lim.keeps x.toInCall.keep, codeAny_func ?_⟩
    obtain ⟨t, ht, hq⟩ := hbody A outer s H vs Q E hga (hr.deeper _) hsp
    have I : Inv (cxOf CX P w K mg base N qual (defScope st) f cdv A outer s H E) [] (start N vs) H s1 := inv_start S hr.hd e0 (len _ _ _ _ hsp) r x
    refine wpAny_mono (ht.run [] s1 (start N vs) H _ I hq) (fun fl s' hs => ?_) fun e s' hs => hs
    cases fl with
    | ret u => exact (by obtain ⟨v, σ', H', J', rv, q'⟩ := hs; exact ⟨v, H', J'.os, J'.bare, J'.base, J'.hok, rv, q'⟩)
    | next => exact (by obtain ⟨σ', H', J', q'⟩ := hs; exact ⟨V.non, H', J'.os, J'.bare, J'.base, J'.hok, rfl, q'⟩)
    | brk => exact (by obtain ⟨_, _, _, q'⟩ := hs; exact q'.elim)
    | cont => exact (by obtain ⟨_, _, _, q'⟩ := hs; exact q'.elim)
theorem okG {x qual : Str} {st : Stmt} {f : Addr} {fd : FuncData} {N ps : List Str} {k : Nat} {sp : Sp} (F : Fun K x qual st f fd) (S : FnScope N ps (defScope st)) (len : ∀ vs H Q E, sp vs H Q E → vs.length = ps.length)
    (hbody : ∀ (cdv : Value) (A : Around) (outer : List Env) (s : Shared) (H : Hp) (vs : List V) (Q : VK) (E : XK), A.guards = some [] → Room k (A.deeper (envOfC qual (defScope st) s.heap.objs.size f cdv)) → sp vs H Q E →
      ∃ t, PSs (cxOf CX0 P w K mg base N qual (defScope st) f cdv A outer s H E).nox (defBody st) t ∧ t { nx := fun _ H' => Q .non H', rt := Q } (start N vs) H) : FnG P w K mg base CX0 (k + 1) f fd ps sp := by
  obtain ⟨oc, od, kV, doc, pm, an, cdv, ct, osl, rfl, lk, hcd⟩ := F.ex
  refine fng_of lk hcd S len fun A outer s H vs Q E hga hr hsp => ?_
  obtain ⟨t, h, q⟩ := hbody cdv A outer s H vs Q E hga hr hsp
  exact ⟨t, h.nox, q⟩
end
section
variable {X : Cx} {CX : CXT} {k : Nat} {f : Addr} {fd : FuncData} {ps : List Str} {sp : Sp} {dvs : List V} {ds : List Value} {E : XK} {x : Str} {p pos : Pos} {e : Expr} {es : List Expr} {t : TA}
theorem run_g {pins : List (Addr × Obj)} {σ : L2.St} {H : Hp} {s : Shared} {Q : VK} {us : List Value} {vs : List V} (F : FnG X.prog X.w X.K X.mg X.base CX k f fd ps sp) (hga : X.A.guards = some []) (hr : Room k X.A) (hb : L2.Binds X.K fd ps ds) (hd : Vals dvs ds) (hx : Passes CX X E)
    (I : Inv X pins σ H s) (r : Vals vs us) (h : sp (vs ++ dvs) H Q E) : wpAny (model X.prog X.w) X.A (call (.ref f) us) (EP X pins σ Q) X.xe s := by
  have r2 : Vals (vs ++ dvs) (us ++ ds) := r.append hd
  have hl : (us ++ ds).length = ps.length := by rw [← r2.length]; exact F.len _ _ _ _ h
  refine wpAny_call (codeAny_mono (F.run X.A X.stack s H ⟨us, []⟩ (us ++ ds) (vs ++ dvs) Q E hga hr I.env0 (hb s us I.kIn hl) r2 h) fun r s' hq => ?_)
  cases r with
  | error e => exact hx pins σ H s e s' I hq
  | ok fl =>
    cases fl with
    | ret u => exact I.after hq
    | next => exact False.elim hq
    | brk => exact False.elim hq
    | cont => exact False.elim hq
/-- f(e, ..) where f may ask for repr -/
theorem pe_callG (F : FnG X.prog X.w X.K X.mg X.base CX k f fd ps sp) (hga : X.A.guards = some []) (hr : Room k X.A) (hg : Gl X x) (hm : X.mg x = some (.ref f)) (hk : PySem.W.keepIn X.K (.ref f) = true) (hb : L2.Binds X.K fd ps ds) (hd : Vals dvs ds) (hx : Passes CX X E)
    (ha : PA X (e :: es) t) (hdb : (x == ("__debug__" : Str)) = false := by decide) (he : starEach (e :: es) X.env = (false, eval e X.env) :: starEach es X.env := by rfl) (hpl : (backTo pos (starEach es X.env)).any (·.1) = false := by rfl) :
    PE X (.Call (.Name x p) (e :: es) [] pos) (tCall sp dvs E t) :=
  ⟨fun pins s σ H Q I h => wpAny_Call_Name_kw (ld_glob I hg hm (PySem.W.callWith_K (h₀ := X.base) I.ok.mod.kin hk (thn (ha.run pos pins s σ H _ I h) fun us s1 ⟨vs, H1, I1, r, q⟩ => ⟨I1.kIn, run_g F hga hr hb hd hx I1 r q⟩) he hpl) hdb)⟩
end
/-- a value that reads as the data d, whatever the state -/
def RdV (K : PySem.W.Frag) (H : Hp) (v : V) (d : PyData) : Prop := ∀ (X : Cx) (pins : List (Addr × Obj)) (σ : L2.St) (s : Shared) (u : Value), X.K = K → Inv X pins σ H s → RelV v u → ∃ as, Reads s.heap u d as ∧ (d.hasDict = true → sysModules ∉ as)
/-- what is asked of data that is shown -/
structure Shown (d : PyData) : Prop where
  sh : d.showable = true
  dp : d.depth ≤ 60
  sz : d.shown.length ≤ sizeLine
section
variable {X : Cx}
theorem call_repr {K : PySem.W.Frag} (hk : X.K = K) (hga : X.A.guards = some []) (hu : X.A.units + 70 < cLine) : CallR X (.builtin "repr") (fun xs H Q => ∃ (v : V) (d : PyData), xs = [v] ∧ RdV K H v d ∧ Shown d ∧ Q (.str d.shown) H) := by
  intro pins s σ H xs us Q I r h
  obtain ⟨v, d, rfl, hd, ⟨hs, hdp, hz⟩, q⟩ := h
  cases r with
  | @cons _ u _ _ r1 rr =>
    cases rr
    obtain ⟨as, R, hm⟩ := hd X pins σ s u hk I r1
    cases R with
    | none => exact P.repr_of_none ⟨.str _, H, I.tok _, ⟨_, rfl⟩, q⟩
    | bool b => exact P.repr_of_bool ⟨.str _, H, I.tok _, ⟨_, rfl⟩, q⟩
    | int i t => exact P.repr_of_int (by simpa [PyData.showable] using hs) ⟨.str _, H, I.tok _, ⟨_, rfl⟩, q⟩
    | str x t => exact P.repr_of_str ⟨.str _, H, I.tok _, ⟨_, rfl⟩, q⟩ hz
    | list h1 h2 h3 h4 => exact repr_of_reads' (.list h1 h2 h3 h4) hs hm hga (by omega) (fun _ _ e => e) (fun h' u tk k => ⟨.str _, H, I.kept (t' := tk) k, ⟨_, rfl⟩, q⟩) hz
    | tuple h1 h2 h3 h4 => exact repr_of_reads' (.tuple h1 h2 h3 h4) hs hm hga (by omega) (fun _ _ e => e) (fun h' u tk k => ⟨.str _, H, I.kept (t' := tk) k, ⟨_, rfl⟩, q⟩) hz
    | dict h1 h2 h3 h4 h5 => exact repr_of_reads' (.dict h1 h2 h3 h4 h5) hs hm hga (by omega) (fun _ _ e => e) (fun h' u tk k => ⟨.str _, H, I.kept (t' := tk) k, ⟨_, rfl⟩, q⟩) hz
end
/-! ### new lists that are not the table of modules -/
section
variable {X : Cx} {pins : List (Addr × Obj)} {σ : L2.St} {H : Hp} {s : Shared}
theorem new_ne (I : Inv X pins σ H s) : s.heap.objs.size ≠ sysModules := by
  obtain ⟨o, es, ep, e, _⟩ := I.mod.glob
  have h1 := Heap.lt_size (I.bk _ _ e)
  have h2 : sysModules < mainGlobals := by decide
  exact Nat.ne_of_gt (Nat.lt_trans h2 h1)
def rCatN : R2 := fun x y H Q => ∃ l b xs zs, x = .ref l ∧ y = .ref b ∧ H l = some (.lst xs) ∧ H b = some (.lst zs) ∧ xs.length + zs.length ≤ sizeLine ∧ ∀ p, H p = none → p ≠ sysModules → Q (.ref p) (upd H p (.lst (xs ++ zs)))
theorem op_catN : OpR X (binaryOp .Add) rCatN := by
  intro pins s σ H x y v u Q I rx ry h
  obtain ⟨l, b, xs, zs, rfl, rfl, hl, hb, hz, q⟩ := h
  cases rx
  cases ry
  obtain ⟨_, its, n, r, e1, e⟩ := I.lstM hl
  obtain ⟨_, its2, n2, r2, e2, e'⟩ := I.lstM hb
  apply PySem.P.add_list e e' _ (by rw [List.size_toArray, List.size_toArray]; omega)
  · rw [show its.toArray ++ its2.toArray = (its ++ its2).toArray by simp]
    exact ⟨.ref _, _, I.lnew (t' := s.toks) (r.append r2) (by rw [List.length_append]; omega), rfl, q _ I.fresh (new_ne I)⟩
theorem rep_flat (its : List Value) (m : Nat) : ∀ acc : List Value, List.foldl (fun a b => a ++ b) acc.toArray (List.replicate m its.toArray) = (acc ++ (List.replicate m its).flatten).toArray := by
  induction m with
  | zero => intro acc; simp
  | succ m ih =>
    intro acc
    rw [List.replicate_succ, List.foldl_cons, List.replicate_succ, List.flatten_cons, show acc.toArray ++ its.toArray = (acc ++ its).toArray by simp, ih (acc ++ its), List.append_assoc]
def rRepN : R2 := fun x y H Q => ∃ l k xs, x = .ref l ∧ y = .int k ∧ H l = some (.lst xs) ∧ xs ≠ [] ∧ 0 ≤ k ∧ k < 1000 ∧ xs.length ≤ 1000 ∧
  ∀ p, H p = none → p ≠ sysModules → Q (.ref p) (upd H p (.lst (List.replicate k.toNat xs).flatten))
theorem op_repN : OpR X (binaryOp .Mult) rRepN := by
  intro pins s σ H x y v u Q I rx ry h
  obtain ⟨l, k, xs, rfl, rfl, hl, hne, k0, k1, hx, q⟩ := h
  cases rx
  obtain ⟨t, rfl⟩ := ry
  obtain ⟨_, its, n, r, e1, e⟩ := I.lstM hl
  have big : (1000000 : Nat) ≤ sizeLine := by decide
  have hm : its.length * k.toNat ≤ 1000 * 1000 := Nat.mul_le_mul (by omega) (by omega)
  have hsz : its.toArray.size * k.toNat ≤ sizeLine := by rw [List.size_toArray]; omega
  have hcap : ¬ its.toArray.size * k.toNat > (2 ^ 63 - 1) / 8 := by rw [List.size_toArray]; omega
  have hfit : ¬ (!Builtin.List.listFitsIndex k) = true := by
    rw [fitsIndex_both (by omega) (by omega)]
    exact Bool.false_ne_true
  have hlong : ¬ Builtin.List.listTooLong (its.toArray.size * k.toNat) = true := by
    rw [notLongL hsz]
    exact Bool.false_ne_true
  have hi : its ≠ [] := fun z => by
    subst z
    cases xs with
    | nil => exact hne rfl
    | cons _ _ => simp at e1
  have hnew : List.foldl (fun x1 x2 => x1 ++ x2) #[] (List.replicate (if its.toArray.isEmpty = true then 0 else k.toNat) its.toArray) = (List.replicate k.toNat its).flatten.toArray := by
    rw [if_neg (by simpa using hi)]
    have z := rep_flat its k.toNat []
    simpa using z
  refine wpAny_binaryOp_repeat_ref (T := "list") (U := "int") (by decide) ⟨_, e, rfl⟩ (fun s' => typeIs_int s' k t) noFill_list_mul F.fills_int_mul F.slot_int_rmul repeat_list F.slot_int_index.lookup ?_
  refine call_meets F.slot_int_rmul (typeIs_int s k t) F.entry_int_rmul (F.args_int_rmul_2 _ _) (int___rmul___int_list k t l its.toArray n) ⟨e, rfl, ⟨_, e, rfl⟩, ?_⟩
  refine call_meets F.slot_list_mul ⟨_, e, rfl⟩ F.entry_list_mul (F.args_list_mul_2 _ _) (AutoListH.list___mul___list_int_3 l its.toArray n k t hfit hcap hlong) ⟨e, ?_⟩
  rw [hnew]
  refine ⟨.ref _, _, I.lnew (t' := s.toks) (r.rep k.toNat) ?_, rfl, q _ I.fresh (new_ne I)⟩
  rw [PyProof.Rows.lm_len_rep_flat, e1, Nat.mul_comm]
  omega
end
/-! ### the law's own head, where the law may ask for repr -/
theorem law_callG {P : Program} {w : World} {K : PySem.W.Frag} {mg mb : Str → Option Value} {k : Nat} {fa a : Addr} {fd : FuncData} {x : Str} {sp : Sp} {s₁ : Shared} {vs : List Value} {ns : List Int}
    (KX : K.In s₁.heap) (hns : s₁.heap.Ns mainGlobals mg) (hb : s₁.heap.Ns builtinsNs mb) (hbb : ∀ x : Str, x ≠ "__name__" → mb x = bootBuiltins x) (hlim : s₁.heap.NoLimit) (hg : s₁.gens = #[])
    (ha : s₁.heap.get? a = some { cls := .type "list", data := .seq vs.toArray }) (hi : IntsAre vs ns) (hl : ns.length ≤ sizeLine) (hr : Room k callerA)
    (F : ∀ base : Heap, K.In base → base.Ns mainGlobals mg → FnG P w K mg base CX0 k fa fd [x] sp) (hbind : ∀ (s : Shared) (u : Value), BindsTo s fd ⟨[u], []⟩ [(x, u)])
    (hsp : ∀ H : Hp, Only H → SqL K H a (ns.map V.int) → sp [.ref a] H (fun v _ => v = .bl true) fun _ _ _ => False) :
    codeAny (model P w) callerA (.call (.ref fa) ⟨[.ref a], []⟩) (fun r s' => r = .ok (.ret (.bool true)) ∧ OldK s₁.heap s'.heap ∧ s'.os = s₁.os ∧ AllBare s'.gens) s₁ := by
  have rv := vals_ints hi
  have nolst : ∀ {b : Addr} {o : Obj} {es : Array DictEntry} {ep : Nat}, s₁.heap.get? b = some o → o.data = .dict es ep → b ≠ a := fun {b o es ep} e d z => by
    rw [z, ha] at e
    rw [← Option.some.inj e] at d
    cases d
  -- what may be tracked at first: the script's object, where it is not of the written part
  have main : ∀ H : Hp, Only H → SqL K H a (ns.map V.int) → HOk P w H s₁.heap → (∀ b, b ≠ a → H b = none) → (K.lookup a ≠ none → H a = none) →
      codeAny (model P w) callerA (.call (.ref fa) ⟨[.ref a], []⟩) (fun r s' => r = .ok (.ret (.bool true)) ∧ OldK s₁.heap s'.heap ∧ s'.os = s₁.os ∧ AllBare s'.gens) s₁ := by
    intro H hO hS hok hA hK
    have keepNs : ∀ {b : Addr} {m : Str → Option Value}, s₁.heap.Ns b m → (hidT s₁.heap H).Ns b m := fun {b m} ⟨o, es, ep, e, d, r⟩ => ⟨o, es, ep, hidT_get e (hA b (nolst e d)), d, r⟩
    have hKb : K.In (hidT s₁.heap H) := fun b o e => hidT_get (KX b o e) (by
      by_cases z : b = a
      · subst z
        exact hK (by rw [show K.lookup b = some o from e]; intro y; cases y)
      · exact hA b z)
    have hM : Mod K mg (hidT s₁.heap H) := ⟨hKb, keepNs hns, ⟨mb, keepNs hb, hbb⟩, let ⟨mc, h1, h2⟩ := hlim; ⟨mc, keepNs h1, h2⟩⟩
    have e0 : Env0 P w K mg (hidT s₁.heap H) callerA [] s₁ H := ⟨rfl, hM, fun b o e => of_hidT e, Nat.le_of_eq (hidT_size _ _), trivial, fun b z => absurd (show b ∈ ([] : List Addr) from z) (by simp), hok, .of_eq hg⟩
    refine codeAny_mono ((F _ hKb (keepNs hns)).run callerA [] s₁ H ⟨[.ref a], []⟩ [.ref a] [.ref a] _ _ rfl hr e0 (hbind s₁ (.ref a)) (.cons rfl .nil) (hsp H hO hS)) fun r s' h => ?_
    cases r with
    | error e => exact False.elim h
    | ok fl =>
      cases fl with
      | next => exact False.elim h
      | brk => exact False.elim h
      | cont => exact False.elim h
      | ret u =>
        obtain ⟨v, H', os, bare, un, hok', r', q⟩ := h
        obtain rfl : v = .bl true := q
        obtain rfl : u = Value.bool true := r'
        refine ⟨rfl, OldK.of_keep fun b o e => ?_, os, bare⟩
        rcases hO b with z | ⟨ob, xs, z⟩
        · exact un.keep b o e z (by intro y; exact absurd (show b ∈ ([] : List Addr) from y) (by simp)) (by simp)
        · obtain ⟨e1, _⟩ := hok b _ z
          obtain ⟨e2, _⟩ := hok' b _ (un.frzs b ob _ z)
          rw [e2, ← Option.some.inj (e1.symm.trans e)]
  cases hk : K.lookup a with
  | some o =>
    have e := KX a o hk
    rw [ha] at e
    cases e
    exact main (fun _ => none) (fun _ => .inl rfl) (.inr ⟨_, vs.toArray, _, hk, rfl, rfl, rfl, by rw [List.size_toArray, hi.length]; exact hl, by simpa using rv⟩) (fun b u z => nomatch (show (none : Option HO) = some u from z)) (fun _ _ => rfl) fun _ => rfl
  | none =>
    have q1 : ∀ b : Addr, b ≠ a → (fun b => if b = a then some (HO.frz { cls := .type "list", data := .seq vs.toArray } (.lst (ns.map V.int))) else none : Hp) b = none := fun b z => if_neg z
    have q2 : (fun b => if b = a then some (HO.frz { cls := .type "list", data := .seq vs.toArray } (.lst (ns.map V.int))) else none : Hp) a = some (HO.frz { cls := .type "list", data := .seq vs.toArray } (.lst (ns.map V.int))) := if_pos rfl
    refine main _ (fun b => ?_) (.inl (.inr ⟨_, q2⟩)) (fun b u z => ?_) q1 fun z => absurd hk z
    · by_cases hb : b = a
      · subst hb; exact .inr ⟨_, _, q2⟩
      · exact .inl (q1 b hb)
    · by_cases hb : b = a
      · subst hb
        have z' := q2.symm.trans z
        cases z'
        exact ⟨ha, by rw [List.length_map]; exact hl, vs, _, rv, ha⟩
      · have z' := (q1 b hb).symm.trans z
        cases z'
theorem walk_ofG {l : PySem.W.OpenLaw} {n k : Nat} {q : Program} {loose : List Str} {XP : (Str → Option Value) → Heap → Prop} {YP : World → Heap → Prop} {d : DefRec} {K : Params → PySem.W.Frag} {sp : World → Sp} {x : Str}
    (hn : l.most = some n) (hn2 : n ≤ sizeLine) (hdf : d.params.defaults = []) (hr : Room k callerA) (hY : ∀ (w : World) (h : Heap), YP w h → (K w.params).In h)
    (F : ∀ (w : World) (mg : Str → Option Value) (fa : Addr) (h : Heap), (K w.params).In h → h.Ns mainGlobals mg → mg d.name = some (.ref fa) →
      ∃ fd : FuncData, (∀ (s : Shared) (u : Value), BindsTo s fd ⟨[u], []⟩ [(x, u)]) ∧ ∀ base : Heap, (K w.params).In base → base.Ns mainGlobals mg → FnG l.prog w (K w.params) mg base CX0 k fa fd [x] (sp w))
    (hsp : ∀ (w : World) (H : Hp) (a : Addr) (ns : List Int), ns.length ≤ n → Only H → SqL (K w.params) H a (ns.map V.int) → sp w [.ref a] H (fun v _ => v = .bl true) fun _ _ _ => False) :
    PySem.W.WalkO q loose XP YP l.row.toRowW d [] (fun f vs => PySem.call f vs) := by
  refine Att.attach_call hn hdf fun w s₀ s₁ mg mb fa o pm cd doc a vs ns G Y ho hd hcd hmg hobj hints hlen hg => ?_
  have KX := hY w _ Y
  obtain ⟨fd, hb, hF⟩ := F w mg fa _ KX G.T.g hmg
  exact law_callG KX G.T.g G.T.b G.T.builtins G.T.nolimit hg hobj hints (Nat.le_trans hlen hn2) hr hF hb fun H hO hS => hsp w H a ns hlen hO hS
end GL


set_option Elab.async false
set_option maxRecDepth 100000
set_option maxHeartbeats 1000000
set_option linter.all false
namespace K01
open PySem PySem.Spec PyProof.Rows L2
def tEi (t t' : TE) : TE := fun σ H Q => t σ H Q ∨ t' σ H Q
def iEi (t t' : TI) : TI := fun σ H R => t σ H R ∨ t' σ H R
def gEi (t t' : TG) : TG := fun v σ H Q => t v σ H Q ∨ t' v σ H Q
/-! either reading, whichever holds -/
section
variable {X : Cx}
theorem pe_either {e : Expr} {t t' : TE} (h : PE X e t) (h' : PE X e t') : PE X e (tEi t t') := ⟨fun pins s σ H Q I q => q.elim (h.run pins s σ H Q I) (h'.run pins s σ H Q I)⟩
theorem pi_either {tg e : Expr} {t t' : TI} (h : PI X tg e t) (h' : PI X tg e t') : PI X tg e (iEi t t') := ⟨fun pins s σ H R I q => q.elim (h.run pins s σ H R I) (h'.run pins s σ H R I)⟩
theorem pg_either {e : Expr} {t t' : TG} (h : PG X e t) (h' : PG X e t') : PG X e (gEi t t') := ⟨fun pins s σ H v u Q I r q => q.elim (h.run pins s σ H v u Q I r) (h'.run pins s σ H v u Q I r)⟩
end
end K01


set_option Elab.async false
set_option maxRecDepth 100000
set_option maxHeartbeats 1000000
set_option linter.all false
namespace K01
open PySem PySem.Spec PyProof.Rows L2
abbrev sIsNum : Stmt := top 1
abbrev sIsNumTo : Stmt := top 2
abbrev sIsList : Stmt := top 3
theorem scIsNum : FnScope ["thing"] ["thing"] (defScope sIsNum) := ⟨rfl, rfl, rfl, by decide +kernel, rfl, by decide +kernel, by decide +kernel⟩
theorem scIsNumTo : FnScope ["thing", "most"] ["thing", "most"] (defScope sIsNumTo) := ⟨rfl, rfl, rfl, by decide +kernel, rfl, by decide +kernel, by decide +kernel⟩
theorem scIsList : FnScope ["thing"] ["thing"] (defScope sIsList) := ⟨rfl, rfl, rfl, by decide +kernel, rfl, by decide +kernel, by decide +kernel⟩
/-- the type, and whether it is what is asked -/
def spIsNum (K : PySem.W.Frag) : Sp := fun vs H Q _ => ∃ (x : V) (t : Value) (b c : Bool), vs = [x] ∧ TyX K H x t ∧ PySem.W.kitOne K t (.type "int") = some b ∧ PySem.W.kitOne K t (.type "bool") = some c ∧ Q (.bl (b && !c)) H
theorem num_int (K : PySem.W.Frag) : PySem.W.kitOne K (.type "int") (.type "int") = some true ∧ PySem.W.kitOne K (.type "int") (.type "bool") = some false := ⟨by kernel_rfl, by kernel_rfl⟩
theorem num_bool (K : PySem.W.Frag) : PySem.W.kitOne K (.type "bool") (.type "int") = some true ∧ PySem.W.kitOne K (.type "bool") (.type "bool") = some true := ⟨by kernel_rfl, by kernel_rfl⟩
section
variable {P : Program} {w : World} {K : PySem.W.Frag} {mg : Str → Option Value} {base : Heap}
theorem ok_isnum {f : Addr} {fd : FuncData} (F : Fun K "is_number" "is_number" sIsNum f fd) (mIs : mg "isinstance" = none) (mInt : mg "int" = none) (mBo : mg "bool" = none) : FnOk P w K mg base CX0 1 f fd ["thing"] (spIsNum K) := by
  refine F.ok scIsNum (fun vs H Q E h => ?_) (fun cdv A outer s H vs Q E hr h => ?_)
  · obtain ⟨x, t, b, c, rfl, _⟩ := h
    rfl
  · obtain ⟨x, t, b, c, rfl, ht, hb, hc, k⟩ := h
    have nd := scIsNum.nd
    refine ⟨_, pss_one (ps_ret (pe_and (pe_callB call_isi (by rfl) mIs (by decide +kernel) (pa_cons (pv 0) (pa_cons (pe_bltn (v := .ty "int") (by rfl) mInt (by decide +kernel) rfl) pa_nil)))
      (pe_one (pe_not (pe_callB call_isi (by rfl) mIs (by decide +kernel) (pa_cons (pv 0) (pa_cons (pe_bltn (v := .ty "bool") (by rfl) mBo (by decide +kernel) rfl) pa_nil))))))), ?_⟩
    refine ⟨_, rfl, x, _, t, _, b, rfl, .ty "int", ht, hb, _, rfl, ?_⟩
    cases b with
    | true =>
      refine iteT ?_
      exact ⟨_, rfl, x, _, t, _, c, rfl, .ty "bool", ht, hc, _, rfl, k⟩
    | false =>
      refine iteF ?_
      exact k
/-- x is told by its type; a number from 0 to m -/
def spIsNumTo (K : PySem.W.Frag) : Sp := fun vs H Q _ => ∃ (x : V) (t : Value) (b c : Bool) (m : Int), vs = [x, .int m] ∧ TyX K H x t ∧ PySem.W.kitOne K t (.type "int") = some b ∧ PySem.W.kitOne K t (.type "bool") = some c ∧
  (((b && !c) = false ∧ Q (.bl false) H) ∨ ((b && !c) = true ∧ ∃ i : Int, x = .int i ∧ Q (.bl (decide (0 ≤ i ∧ i ≤ m))) H))
theorem ok_isnumto {f fN : Addr} {fd fdN : FuncData} (F : Fun K "is_number_to" "is_number_to" sIsNumTo f fd) (GN : FnOk P w K mg base CX0 1 fN fdN ["thing"] (spIsNum K)) (FN : Fun K "is_number" "is_number" sIsNum fN fdN) (bN : L2.Binds K fdN ["thing"] []) (gN : mg "is_number" = some (.ref fN)) : FnOk P w K mg base CX0 2 f fd ["thing", "most"] (spIsNumTo K) := by
  refine F.ok scIsNumTo (fun vs H Q E h => ?_) (fun cdv A outer s H vs Q E hr h => ?_)
  · obtain ⟨x, t, b, c, m, rfl, _⟩ := h
    rfl
  · obtain ⟨x, t, b, c, m, rfl, ht, hb, hc, k⟩ := h
    refine ⟨_, pss_one (ps_ret (pe_and (pe_call GN hr (by rfl) gN FN.kp bN .nil pass0 (pa_cons (pv 0) pa_nil)) (pe_one (pe_chain op_le op_le pe_int (pv 0) (pv 1))))), ?_⟩
    refine ⟨_, rfl, x, t, b, c, rfl, ht, hb, hc, _, rfl, ?_⟩
    rcases k with ⟨e, k⟩ | ⟨e, i, rfl, k⟩
    · rw [e]
      refine iteF ?_
      exact k
    · rw [e]
      refine iteT ?_
      refine ⟨_, rfl, _, _, rfl, rfl, _, rfl, ite2 (fun c1 => ?_) (fun c1 => ?_)⟩
      · have h0 := of_decide_eq_true c1
        refine ⟨_, rfl, _, _, rfl, rfl, ?_⟩
        have e2 : decide (i ≤ m) = decide (0 ≤ i ∧ i ≤ m) := by
          by_cases z : i ≤ m
          · rw [decide_eq_true z, decide_eq_true ⟨h0, z⟩]
          · rw [decide_eq_false z, decide_eq_false fun y => z y.2]
        show Q (.bl (decide (i ≤ m))) H
        rw [e2]
        exact k
      · have h0 : ¬ 0 ≤ i := fun z => c1 (decide_eq_true z)
        rw [decide_eq_false fun y => h0 y.1] at k
        exact k
theorem TyX.same {H H' : Hp} (s : Same H H') {x : V} {t : Value} (h : TyX K H x t) : TyX K H' x t := by
  cases h with
  | base h =>
    refine .base ?_
    cases h with
    | non => exact .non
    | bl x => exact .bl x
    | int x => exact .int x
    | str x => exact .str x
    | flt x => exact .flt x
    | lst e => exact .lst (s _ _ e)
    | frz e => exact .frz (s _ _ e)
    | tup e => exact .tup (s _ _ e)
    | dK e => exact .dK (s _ _ e)
    | dT e => exact .dT (s _ _ e)
    | ins e c a b d f => exact .ins (s _ _ e) c a b d f
  | byt b => exact .byt b
  | set e => exact .set (s _ _ e)
  | kList e c => exact .kList e c
  | kTuple e c => exact .kTuple e c
  | kDict e c => exact .kDict e c
  | fTuple e => exact .fTuple (s _ _ e)
  | fDict e => exact .fDict (s _ _ e)
theorem ty_lst {H : Hp} {a : Addr} {xs : List V} (h : SqL K H a xs) : TyX K H (.ref a) (.type "list") := by
  rcases h with (h | ⟨o, h⟩) | ⟨o, its, n, h, c, _⟩
  · exact .base (.lst h)
  · exact .base (.frz h)
  · exact .kList h c
theorem ty_tup {H : Hp} {a : Addr} {xs : List V} (h : SqT K H a xs) : TyX K H (.ref a) (.type "tuple") := by
  rcases h with (h | ⟨o, h⟩) | ⟨o, its, n, h, c, _⟩
  · exact .base (.tup h)
  · exact .fTuple h
  · exact .kTuple h c
def spIsList (K : PySem.W.Frag) : Sp := fun vs H Q _ => ∃ (x : V) (t : Value) (b : Bool), vs = [x] ∧ TyX K H x t ∧ PySem.W.kitAny K t [.type "list", .type "tuple"] = some b ∧ ∀ H' : Hp, Same H H' → Q (.bl b) H'
theorem ok_islist {f : Addr} {fd : FuncData} (F : Fun K "is_list" "is_list" sIsList f fd) (mIs : mg "isinstance" = none) (mLi : mg "list" = none) (mTu : mg "tuple" = none) : FnOk P w K mg base CX0 1 f fd ["thing"] (spIsList K) := by
  refine F.ok scIsList (fun vs H Q E h => ?_) (fun cdv A outer s H vs Q E hr h => ?_)
  · obtain ⟨x, t, b, rfl, _⟩ := h
    rfl
  · obtain ⟨x, t, b, rfl, ht, hb, k⟩ := h
    refine ⟨_, pss_one (ps_ret (pe_callB call_isiT (by rfl) mIs (by decide +kernel) (pa_cons (pv 0) (pa_cons (pe_tup (pa_cons (pe_bltn (v := .ty "list") (by rfl) mLi (by decide +kernel) rfl) (pa_cons (pe_bltn (v := .ty "tuple") (by rfl) mTu (by decide +kernel) rfl) pa_nil))) pa_nil)))), ?_⟩
    refine ⟨_, rfl, by show 2 ≤ sizeLine; decide, fun tp np => ?_⟩
    exact ⟨x, tp, _, t, [.type "list", .type "tuple"], b, rfl, upd_same, .cons (.ty "list") (.cons (.ty "tuple") .nil), TyX.same (same_upd np) ht, hb, k _ (same_upd np)⟩
end
end K01


set_option Elab.async false
set_option maxRecDepth 100000
set_option maxHeartbeats 1000000
namespace K01
open PySem PySem.Spec PyProof.Rows L2
/-! super().__init__('..') in the __init__ of an own exception class, the exception being made -/
section
open PySem.W
variable {prog : Program} {w : World} {A : Around} {E : Value → Shared → Prop} {h : Heap} {g : Array GenState} {d : Drawn} {tk : Nat} {os : OsState}
theorem call_mw {nm q : Str} {C N u x t : Addr} {bs bm : List Value} {hdct : Bool} {sn : List Str} {sub : List Value} {ab : Bool} {col : Option Bool} {dd dv : Option Addr} {k0 k1 k2 k3 k5 : Option Value} {rest : List Value} {Q : Value → Shared → Prop}
    (hC : h.get? C = some (excClassObj nm q C N bs bm hdct sn sub ab col dd k0 k1 k2 k3 k5 "ValueError.__new__")) (hu : h.get? u = some (kxs_mw "ValueError.__init__" x)) (hx : h.get? x = some (W.excObj C t dv .none)) (hz : rest.length ≤ sizeLine)
    (fin : ∀ h', (∀ b o, b ≠ x → h.get? b = some o → h'.get? b = some o) → h'.get? x = some (W.excObj C h.objs.size dv .none) → Q .none ⟨h', g, d, tk, os⟩) :
    wpAny (model prog w) A (call (.ref u) rest) Q E ⟨h, g, d, tk, os⟩ := by
  apply wpAny_call
  apply codeAny_of_tree
  show wpAny _ A.in1 (callAny (.ref u) ⟨rest, []⟩) _ _ _
  simp only [callAny]
  apply wpAny_bind
  refine wpAny_load hu ?_
  simp only [show (Value.type "method-wrapper" == Value.type "method" || Value.type "method-wrapper" == Value.type "builtin_function_or_method" || Value.type "method-wrapper" == Value.type "method-wrapper") = true by decide, if_true]
  refine KFB.if_so (by decide) (wpAny_bind (check_bound_init F.excBase_ValueError.toExcCallFacts hC hx rfl (wpAny_bind (wpAny_pure (wpAny_pure ⟨plainId_quiet F.excBase_ValueError.init.plain _, codeAny_builtin F.excBase_ValueError.initEntry ?_⟩)))))
  exact exc_init_tree (cls := .ref C) (t0 := t) (dv := dv) (c2 := .none) (c3 := .none) (b4 := .bool false) hx hz fun h' k e _ => fin h' k e
end
/-- what the written part says of an __init__ that says super(): the def at f, its code at c, the cell of its class C at cc -/
structure SupDef (P : Program) (K : PySem.W.Frag) (mg : Str → Option Value) (C f c cc : Addr) : Prop where
  fn : ∃ oc od fd osl ar, K.lookup f = some ⟨oc, od, .func fd, osl⟩ ∧ (fd.params.posonlyargs ++ fd.params.args).head? = some ar ∧ ar.arg = "self"
  code : ∃ ccl cdd vs ccs file tf, K.lookup c = some ⟨ccl, cdd, .fields vs, ccs⟩ ∧ vs[2]? = some (.str file tf) ∧ ((P.main.file : Str) == file) = true
  cell : ∃ cl cld csl, K.lookup cc = some ⟨cl, cld, .cell (some (.ref C)), csl⟩
  cls : ∃ cd, PySem.W.clsIn K C = some cd
  top : (P.main.scope.names.lookup ("super" : Str)).isSome = false
  third : PySem.W.nsIn K cStatics "thirdparty.any" = some none
  mro : PySem.W.mroIn K C (.ref C) = some true
  sup : PySem.W.ks_superIn K C C "__init__" = some (some (.builtin "ValueError.__init__"))
  ve : PySem.W.subIn K (.ref C) (.type "ValueError") = some true
  mgS : mg "super" = none
theorem sup_stmt {X : Cx} {σ : L2.St} {H : Hp} {s : Shared} {C f c cc x L : Addr} {q : Str} {sc : Scope} {msg : Str} {kk : Nat} {body : List Stmt} {p0 p1 p2 p3 p4 p5 : Pos}
    (S : SupDef X.prog X.K X.mg C f c cc) (T : OexC X.K C) (he : X.env = PySem.W.envX q sc L f (.ref c) [("__class__", cc)]) (hk : sc.kind = .function) (h1 : sc.names.lookup ("super" : Str) = some .globalImplicit) (h2 : sc.names.lookup ("__class__" : Str) = some .free) (h3 : sc.names.lookup ("self" : Str) = some .local)
    (I : Inv X [] σ H s) (hN : X.N[0]? = some ("self" : Str)) (hσ : σ[0]? = some (some (.ref x))) (hx : H x = some (exo x C none)) {pl : Sem Bool} (hi : interactive X.env = false)
    (hs : swapsWith (.Call (.Attribute (.Call (.Name "super" p0) [] [] p1) "__init__" p2) [.Constant (.str msg) kk p5] [] p3) none p4.line X.env = pure false)
    (hev : eval (.Call (.Attribute (.Call (.Name "super" p0) [] [] p1) "__init__" p2) [.Constant (.str msg) kk p5] [] p3) X.env = (do
      let ov ← attributeBase (.Call (.Name "super" p0) [] [] p1) "__init__" X.env (eval (.Call (.Name "super" p0) [] [] p1) X.env)
      standAt p2.atName
      let (f, first) ← holding [ov] (getMethod ov "__init__" pl)
      callWith p3 f first (backTo p3 (starEach [.Constant (.str msg) kk p5] X.env)) []))
    (ha : starEach [.Constant (.str msg) kk p5] X.env = [(false, eval (.Constant (.str msg) kk p5) X.env)]) :
    _root_.PySem.wpAt (model X.prog X.w) X.A (.func body X.env) (exec (.Expr (.Call (.Attribute (.Call (.Name "super" p0) [] [] p1) "__init__" p2) [.Constant (.str msg) kk p5] [] p3) p4) X.env) (fun fl s' => fl = .next ∧ Inv X [] σ H s') X.xe s := by
  obtain ⟨oc, od, fd, osl, ar, lf, hp, hself⟩ := S.fn
  obtain ⟨ccl, cdd, vs, ccs, file, tf, lc, hvs, hfile⟩ := S.code
  obtain ⟨cl, cld, csl, lcell⟩ := S.cell
  obtain ⟨cd, hcd⟩ := S.cls
  have KX := I.kIn
  refine ks_wpAt_Expr_any (ks_wpAt_MethodCall ?_ hev) hi hs
  have e1 : X.env.kindOf "super" = some .globalImplicit := by rw [he]; exact h1
  have e2 : X.env.kindOf "__class__" = some .free := by rw [he]; exact h2
  have e3 : X.env.kindOf ar.arg = some .local := by rw [he, hself]; exact h3
  have hkk : X.env.scope.kind = .function := by rw [he]; exact hk
  refine ks_wpAt_super_base e1 e2 (by decide) (by rw [he]) (KX _ _ lf) rfl hp (by rw [he]) (KX _ _ lc) rfl hvs hfile S.top ?_
  -- the three names
  obtain ⟨mb, hb, hbb⟩ := I.mod.blt
  refine PySem.W.ks_loadName_global hkk e1 (Calls.loadGlobal_builtin (by rw [I.ok.glob]; exact I.mod.glob.keeps I.bk) S.mgS (by rw [I.ok.blt]; exact hb.keeps I.bk) ((hbb _ (by decide +kernel)).trans (show bootBuiltins "super" = some (.type "super") by rfl)) ⟨rfl, ?_⟩)
  refine wpAny_loadName_free hkk e2 (by rw [he]; rfl) ⟨_, KX _ _ lcell, rfl⟩ ?_
  obtain ⟨m, hns, hloc⟩ := I.loc
  obtain ⟨u, ru, hlk⟩ := hloc 0 "self" _ hN hσ (.inl (by rw [he]; exact h3))
  obtain rfl : u = Value.ref x := ru
  have hmx : m ar.arg = some (.ref x) := by
    rcases hlk with ⟨_, z⟩ | ⟨z, _⟩
    · rw [hself]; exact z
    · have e4 : X.env.kindOf "self" = some .local := by rw [← hself]; exact e3
      rw [e4] at z
      rcases z with z | z <;> cases z
  refine wpAny_loadName_local hkk e3 hns hmx ?_
  obtain ⟨oD, hD1, hD2⟩ : ∃ oD, s.heap.get? C = some oD ∧ oD.data = .cls cd := by
    unfold PySem.W.clsIn at hcd
    split at hcd
    · rename_i a b cd' sl ho
      cases hcd
      exact ⟨_, KX _ _ ho, rfl⟩
    · cases hcd
  obtain ⟨t1, hox⟩ := exo_at I.hok hx
  obtain ⟨nm, qn, N, bs, bm, sn, sub, ab, col, dd, k0, k1, k2, k3, k5, hC, hbm⟩ := T.cls
  have hxC : x ≠ C := fun z => by
    have y := KX _ _ hC
    rw [← z, hox] at y
    have y1 := congrArg Obj.data (Option.some.inj y)
    cases y1
  obtain ⟨hh, gg, dr, tk, os⟩ := s
  refine ks_wpAny_isType_cls hD1 hD2 ⟨rfl, ?_⟩
  refine ks_wpAny_call_super hD1 hD2 hox rfl (fun z e => by cases e) (PySem.W.looks_mroIn KX S.mro) (fun hp1 e1' k1' => ?_)
  have I1 : Inv X [] σ H ⟨hp1, gg, dr, tk, os⟩ := I.kept k1'
  have KX1 := I1.kIn
  -- .__init__
  have hal : PySem.W.alongIn X.K "__init__" ((cd.mro.dropWhile (· != .ref C)).drop 1) = some (some (.builtin "ValueError.__init__")) := by
    have y := S.sup
    unfold PySem.W.ks_superIn at y
    rw [hcd] at y
    exact y
  have IA : PySem.W.InstAt hp1 x { cls := .ref C, dict := none, data := .fields #[.ref t1, .none, .none, .none, .bool false, .none] } C none := ⟨k1' _ _ hox, rfl, rfl, trivial⟩
  refine PySem.W.kxs_getMethod PySem.W.kxs_ValueError e1' (PySem.W.looks_opaque KX1 S.third) (l₀ := cd.mro) (fun A Q E s k q => wpAny_bind ((PySem.W.looks_clsIn KX1 hcd) A _ E s k (wpAny_pure q))) rfl KX1 hal (IA.type.andThen (PySem.W.looks_subIn KX1 S.ve)) hxC (by decide) ?_
  have k2' : ∀ b o, hp1.get? b = some o → (hp1.push (PySem.W.kxs_mw "ValueError.__init__" x)).get? b = some o := fun b o e => Heap.get?_push_of_some _ e
  have hu2 : (hp1.push (PySem.W.kxs_mw "ValueError.__init__" x)).get? hp1.objs.size = some (PySem.W.kxs_mw "ValueError.__init__" x) := Heap.get?_push_at rfl rfl
  have I2 : Inv X [] σ H ⟨hp1.push (PySem.W.kxs_mw "ValueError.__init__" x), gg, dr, tk + 1, os⟩ := I1.kept k2'
  -- the call
  show wpAny _ _ (callWith p3 (Value.ref hp1.objs.size) [] (backTo p3 (starEach [Expr.Constant (Const.str msg) kk p5] X.env)) []) _ _ _
  rw [ha]
  refine PySem.W.kxs_callWith (i := "ValueError.__init__") (x := x) rfl ?_
  refine Calls.evalArgs_plain ?_
  show wpAny _ _ (spliced [(false, eval (.Constant (.str msg) kk p5) X.env)]) _ _ _
  refine Calls.spliced_cons ?_
  refine Calls.Constant_str (Calls.spliced_nil ⟨hu2, ?_⟩)
  have I4 : Inv X [] σ H ⟨hp1.push (PySem.W.kxs_mw "ValueError.__init__" x), gg, dr, tk + 1 + 1, os⟩ := I2.tok _
  have hx4 := k2' _ _ (k1' _ _ hox)
  refine call_mw (I4.kIn _ _ hC) hu2 hx4 (by show 1 ≤ sizeLine; decide) fun h' kk' hx' => ⟨rfl, ?_⟩
  have J := I4.write (h' := h') (t' := tk + 1 + 1) (x := x) (e := x) (o := exo x C none) (by rw [hx]; exact True.intro) (.inl rfl) kk' ⟨_, hx'⟩ (exo_ok hx')
  have eu : upd H x (exo x C none) = H := by
    funext b
    by_cases hb : b = x
    · rw [hb, upd_same, hx]
    · rw [upd_ne hb]
  rw [eu] at J
  exact J
end K01


set_option Elab.async false
set_option maxRecDepth 100000
set_option maxHeartbeats 1000000
namespace K01
open PySem PySem.Spec PyProof.Rows L2 NdefX
/-! an own exception's __init__: super().__init__('..'); self.f = v -/
def spInitX (C : Addr) (fld : Str) : Sp := fun vs H Q _ => ∃ (x : Addr) (y : V), vs = [.ref x, y] ∧ H x = some (exo x C none) ∧
  ∀ d : Addr, H d = none → d ≠ x → Q .non (upd (upd H d (exd d [(fld, y)])) x (exo x C (some d)))
structure SupTxt (P : Program) (K : PySem.W.Frag) (mg : Str → Option Value) (C : Addr) (fld : Str) : Prop where
  oex : OexC K C
  nofld : PySem.W.findIn K (.ref C) fld = some none
section
variable {P : Program} {w : World} {K : PySem.W.Frag} {mg : Str → Option Value} {base : Heap}
theorem ok_initx {CX : CXT} {C f c cc : Addr} {qual fld : Str} {params : Arguments} {scope : Scope} {doc pm ct oc : Value} {an od : Option Addr} {osl : Array (Option Value)} {msg : Str} {kk : Nat} {p0 p1 p2 p3 p4 p5 p6 p7 p8 p9 : Pos}
    (T : SupTxt P K mg C fld) (S : SupDef P K mg C f c cc)
    (lk : K.lookup f = some ⟨oc, od, .func (PySem.W.ksFn "__init__" qual params
      [.Expr (.Call (.Attribute (.Call (.Name "super" p0) [] [] p1) "__init__" p2) [.Constant (.str msg) kk p5] [] p3) p4, .Assign [.Attribute (.Name "self" p6) fld p7] (.Name fld p8) p9] scope .none .none doc pm an (.ref c) ct cc), osl⟩)
    (hcd : PySem.W.codeIn K (.ref c) qual = true) (hS : nscB ["self", fld, "__class__"] ["self", fld] ["__class__"] scope = true) (h1 : scope.names.lookup ("super" : Str) = some .globalImplicit) (hdb : (fld == ("__debug__" : Str)) = false) (hdc : (fld == ("__classdict__" : Str)) = false) {pl : Sem Bool}
    (hev : ∀ L : Addr, eval (.Call (.Attribute (.Call (.Name "super" p0) [] [] p1) "__init__" p2) [.Constant (.str msg) kk p5] [] p3) (PySem.W.envX qual scope L f (.ref c) [("__class__", cc)]) = (do
      let ov ← attributeBase (.Call (.Name "super" p0) [] [] p1) "__init__" (PySem.W.envX qual scope L f (.ref c) [("__class__", cc)]) (eval (.Call (.Name "super" p0) [] [] p1) (PySem.W.envX qual scope L f (.ref c) [("__class__", cc)]))
      standAt p2.atName
      let (fn, first) ← holding [ov] (getMethod ov "__init__" pl)
      callWith p3 fn first (backTo p3 (starEach [.Constant (.str msg) kk p5] (PySem.W.envX qual scope L f (.ref c) [("__class__", cc)]))) []))
    (hin : ∀ L : Addr, interactive (PySem.W.envX qual scope L f (.ref c) [("__class__", cc)]) = false)
    (hsn : ∀ L : Addr, swapsWith (.Call (.Attribute (.Call (.Name "super" p0) [] [] p1) "__init__" p2) [.Constant (.str msg) kk p5] [] p3) none p4.line (PySem.W.envX qual scope L f (.ref c) [("__class__", cc)]) = pure false)
    (hsw : ∀ L : Addr, swapsWith (.Name fld p8) (some (.Attribute (.Name "self" p6) fld p7)) p9.line (PySem.W.envX qual scope L f (.ref c) [("__class__", cc)]) = pure false) :
    FnOk P w K mg base CX 2 f (PySem.W.ksFn "__init__" qual params
      [.Expr (.Call (.Attribute (.Call (.Name "super" p0) [] [] p1) "__init__" p2) [.Constant (.str msg) kk p5] [] p3) p4, .Assign [.Attribute (.Name "self" p6) fld p7] (.Name fld p8) p9] scope .none .none doc pm an (.ref c) ct cc) ["self", fld] (spInitX C fld) := by
  have N := nscope_by hS
  have len : ∀ vs H Q E, spInitX C fld vs H Q E → vs.length = (["self", fld] : List Str).length := by
    rintro vs H Q E ⟨x, y, rfl, _⟩
    rfl
  refine ⟨len, fun A outer s H args us vs Q E hr e0 hb r hsp => ?_⟩
  have KX : K.In s.heap := e0.mod.kin.keeps fun b o e => (e0.bs b o e).1
  have lim : s.heap.NoLimit := e0.mod.nolimit.keeps fun b o e => (e0.bs b o e).1
  have hl := len _ _ _ _ hsp
  obtain ⟨x, y, rfl, hx, q⟩ := hsp
  refine ks_codeAny_call_defAt hr.depth (KX _ _ lk) rfl lim (PySem.W.codeRec_of KX hcd) rfl hb N.nocell (fun z hz => ?_) (fun h₁ hns kp => ?_) N.co N.gen N.kind
  · obtain ⟨n, v⟩ := z
    exact N.par n (List.of_mem_zip hz).1
  · obtain ⟨cl, cld, csl, lcell⟩ := S.cell
    have C0 : CellsAt [(("__class__" : Str), cc)] ["__class__"] [some (.ref C)] s.heap H := {
      len := rfl
      all := fun y c e => by
        by_cases z : y = ("__class__" : Str)
        · subst z
          have : cc = c := by simpa [List.lookup] using e
          subst this
          exact ⟨(e0.bs _ _ (e0.mod.kin _ _ lcell)).2, _, _, KX _ _ lcell, rfl⟩
        · have : (y == ("__class__" : Str)) = false := by simpa using z
          simp [List.lookup, this] at e
      inj := fun a b c e1 e2 => by
        have key : ∀ y : Str, ([(("__class__" : Str), cc)] : List (Str × Addr)).lookup y = some c → y = "__class__" := fun y e => by
          by_cases z : y = ("__class__" : Str)
          · exact z
          · have : (y == ("__class__" : Str)) = false := by simpa using z
            simp [List.lookup, this] at e
        rw [key a e1, key b e2]
      has := fun i y e => by
        have z : i = 0 ∧ y = "__class__" := by
          cases i with
          | zero => exact ⟨rfl, (Option.some.inj e).symm⟩
          | succ i => simp at e
        obtain ⟨rfl, rfl⟩ := z
        exact ⟨cc, by simp [List.lookup], fun v hv => by
          cases hv
          exact ⟨_, rfl, _, KX _ _ lcell, rfl⟩⟩ }
    let F : NF := ⟨"__init__", qual, params, [.Expr (.Call (.Attribute (.Call (.Name "super" p0) [] [] p1) "__init__" p2) [.Constant (.str msg) kk p5] [] p3) p4, .Assign [.Attribute (.Name "self" p6) fld p7] (.Name fld p8) p9], scope, [("__class__", cc)], c⟩
    have I : Inv (ncx CX P w K mg base ["self", fld, "__class__"] F f A outer s H E) [] (startF ["self", fld, "__class__"] [.ref x, y] [some (.ref C)]) H { s with heap := h₁, toks := s.toks + ((["self", fld] : List Str).zip us).length } :=
      inv_startN (F := F) N hr.hd e0 hl r C0 hns kp
    refine ks_wpAt_execs_cons (ks_wpAt_mono (sup_stmt (X := ncx CX P w K mg base ["self", fld, "__class__"] F f A outer s H E) S T.oex rfl N.kind h1 (N.frk _ (by simp)) (N.par _ (by simp)) I rfl rfl hx (hin _) (hsn _) (hev _) rfl) (fun fl s' hs => ?_) fun _ _ z => z)
    obtain ⟨rfl, J⟩ := hs
    refine wpAt_of_wpAny ?_
    have ht : PSs (ncx CX P w K mg base ["self", fld, "__class__"] F f A outer s H E) [.Assign [.Attribute (.Name "self" p6) fld p7] (.Name fld p8) p9] (tOst K fld (tVar 0) (tVar 1)) :=
      pss_one (ps_ost (pe_var (i := 0) rfl (.inl (N.par _ (by simp)))) (pe_var (i := 1) rfl (.inl (N.par _ (by simp))) hdb hdc) (hsw _))
    have hq : (tOst K fld (tVar 0) (tVar 1)) { nx := fun _ H' => Q .non H', rt := Q } (startF ["self", fld, "__class__"] [.ref x, y] [some (.ref C)]) H :=
      ⟨_, rfl, _, rfl, x, C, rfl, T.oex, T.nofld, .inl ⟨hx, q⟩⟩
    refine wpAny_mono (ht.run [] _ _ H _ J hq) (fun fl s' hs => ?_) fun e s' hs => hs
    cases fl with
    | ret u => exact (by obtain ⟨v, σ', H', J', rv, q'⟩ := hs; exact ⟨v, H', J'.os, J'.bare, J'.base, J'.hok, rv, q'⟩)
    | next => exact (by obtain ⟨σ', H', J', q'⟩ := hs; exact ⟨V.non, H', J'.os, J'.bare, J'.base, J'.hok, rfl, q'⟩)
    | brk => exact (by obtain ⟨_, _, _, q'⟩ := hs; exact q'.elim)
    | cont => exact (by obtain ⟨_, _, _, q'⟩ := hs; exact q'.elim)
end
end K01


set_option Elab.async false
set_option maxRecDepth 100000
set_option maxHeartbeats 1000000
namespace K01
open PySem PySem.Spec PyProof.Rows PySem.HandSPX
section
variable {prog : Program} {w : World} {A : Around} {E : Value → Shared → Prop} {R : Result → Shared → Prop} {h : Heap} {g : Array GenState} {d : Drawn} {t : Nat} {os : OsState}
variable {nm q : Str} {C N fI : Addr} {bs bm : List Value} {hdct : Bool} {sn : List Str} {sub : List Value} {ab : Bool} {col : Option Bool} {dd : Option Addr} {k0 k1 k2 k3 k5 : Option Value} {kn : Str} {kv : Value}
/-- an own exception class is called with one keyword: the look at what is handed to __new__ -/
theorem xk_look {Q : Unit → Shared → Prop} (hT : ∀ X : String, bm.contains (.type X) = ([.type "ValueError", .type "Exception", .type "BaseException", .type "object"] : List Value).contains (.type X))
    (hC : h.get? C = some (excClassObj nm q C N bs bm hdct sn sub ab col dd k0 k1 k2 k3 k5 "ValueError.__new__")) (hq : Q () ⟨h, g, d, t, os⟩) :
    wpAny (model prog w) A (checkBuiltinCall "ValueError.__new__" ⟨[.ref C], [(kn, kv)]⟩) Q E ⟨h, g, d, t, os⟩ := by
  have Z := F.excBase_ValueError
  have c1 : (Value.ref C :: bm).contains (.type "ValueError") = true := by rw [List.contains_cons, hT]; rfl
  have st := Z.noStar
  simp only [checkBuiltinCall, Z.newKind, Z.newSplit, Z.newRow]
  repeat (first | refine wpAny_loadPart_at hC ?_ | (refine wpAny_isSubtype_exc hC ?_; rw [c1]) | refine wpAny_staticBase_exc hC ?_ | refine wpAny_madeBy_exc hC ?_ | simp only [bne_self_eq_false, Bool.false_eq_true, if_false] | wp_step)
  exact hq
/-- .. the object is made -/
theorem xk_new (hT : ∀ X : String, bm.contains (.type X) = ([.type "ValueError", .type "Exception", .type "BaseException", .type "object"] : List Value).contains (.type X))
    (hC : h.get? C = some (excClassObj nm q C N bs bm hdct sn sub ab col dd k0 k1 k2 k3 k5 "ValueError.__new__"))
    (hq : R (.ok (.ret (.ref (h.objs.size + 1)))) ⟨(h.push (PySem.W.kdv_tup [])).push (excO C h.objs.size), g, d, t, os⟩) :
    codeAny (model prog w) A (.builtin "ValueError.__new__" ⟨[.ref C], [(kn, kv)]⟩) R ⟨h, g, d, t, os⟩ := by
  have Z := F.excBase_ValueError
  have ends := Z.ends
  have c1 : (Value.ref C :: bm).contains (.type "ValueError") = true := by rw [List.contains_cons, hT]; rfl
  have c2 : (Value.ref C :: bm).contains (.type "AttributeError") = false := by rw [List.contains_cons, hT]; rfl
  have c3 : (Value.ref C :: bm).contains (.type "NameError") = false := by rw [List.contains_cons, hT]; rfl
  apply codeAny_builtinAt Z.entry
  unfold Builtin.«BaseException.__new__»
  apply PySem.wpAt_bind
  show PySem.wpAt _ _ _ (stack >>= _) _ _ _
  apply PySem.wpAt_bind
  apply PySem.wpAt_stack
  intro p below
  apply PySem.wpAt_of_wpAny
  wp_walk
  apply PySem.wpAt_of_wpAny
  rw [Z.owner]
  repeat (first | with_reducible refine wpAny_madeHere_exc Z.canon hC ?_ | with_reducible refine wpAny_loadPart_at hC ?_ | (with_reducible refine wpAny_isSubtype_exc hC ?_; first | rw [c1] | rw [c2] | rw [c3]) | wp_step)
  rw [← Heap.size_push] at hq
  exact hq
/-- type.__call__ itself is looked at -/
theorem xk_check {Q : Unit → Shared → Prop} (hC : h.get? C = some (excClassObj nm q C N bs bm hdct sn sub ab col dd k0 k1 k2 k3 k5 "ValueError.__new__")) (hq : Q () ⟨h, g, d, t, os⟩) :
    wpAny (model prog w) A (checkBuiltinCall "type.__call__" ⟨[.ref C], [(kn, kv)]⟩) Q E ⟨h, g, d, t, os⟩ := by
  have y3 := tc_sub
  have yT : (⟨h, g, d, t, os⟩ : Shared).TypeIs (.ref C) "type" := ⟨_, hC, rfl⟩
  simp only [checkBuiltinCall, tc_kind, tc_split]
  repeat (any_goals (first | assumption | with_reducible refine wpAny_loadPart_at hC ?_ | with_reducible refine wpAny_onRaise ?_ | with_reducible refine wpAny_map ?_ | wp_step))
theorem xk_type {Q : PySem.Fin → Shared → Prop} (hT : ∀ X : String, bm.contains (.type X) = ([.type "ValueError", .type "Exception", .type "BaseException", .type "object"] : List Value).contains (.type X))
    (hC : h.get? C = some (excClassObj nm q C N bs bm hdct sn sub ab col dd k0 k1 k2 k3 k5 "ValueError.__new__"))
    (hi : PySem.W.Looks (model prog w) h (typeLookup (.ref C) "__init__") (some (.ref fI))) (hb : ∀ self, PySem.W.Looks (model prog w) h (bindSpecial (.ref fI) self) (.ref fI, [self]))
    (hq : codeAny (model prog w) A (.call (.ref fI) ⟨[.ref (h.objs.size + 1)], [(kn, kv)]⟩)
      (fun r s' => match r with | .ok (.ret v) => v = .none ∧ Q (.done (.ret (.ref (h.objs.size + 1)))) s' | .ok _ => False | .error e => E e s')
      ⟨(h.push (PySem.W.kdv_tup [])).push (excO C h.objs.size), g, d, t, os⟩) :
    wpAny (model prog w) A (Builtin.«type.__call__» ⟨[.ref C], [(kn, kv)]⟩) Q E ⟨h, g, d, t, os⟩ := by
  have Z := F.excBase_ValueError
  repeat (first | with_reducible refine wpAny_loadPart_at hC ?_ | with_reducible refine wpAny_madeBy_exc hC ?_ | wp_step)
  apply codeAny_call_builtin_code (Code.quiet_builtin _ Z.quiet) (xk_look hT hC (xk_new hT hC _))
  have k : ∀ b o, h.get? b = some o → ((h.push (PySem.W.kdv_tup [])).push (excO C h.objs.size)).get? b = some o := fun b o e => Heap.get?_push_of_some _ (Heap.get?_push_of_some _ e)
  have hC1 := k _ _ hC
  have hget : ((h.push (PySem.W.kdv_tup [])).push (excO C h.objs.size)).get? (h.objs.size + 1) = some (excO C h.objs.size) := by heap_get
  have hcC : (Value.ref C :: bm).contains (.ref C) = true := by simp
  have i1 := hi.keeps k
  have b1 := (hb (.ref (h.objs.size + 1))).keeps k
  show wpAny _ _ _ _ _ _
  unfold isInstance
  repeat (first | with_reducible refine wpAny_loadPart_at hget ?_ | (with_reducible refine wpAny_isSubtype_exc hC1 ?_; rw [hcC]) | wp_step)
  show wpAny _ _ (typeLookup (.ref C) _) _ _ _
  apply i1.at
  apply wpAny_holding
  apply wpAny_bind
  apply b1.at
  apply wpAny_bind
  apply wpAny_call
  refine codeAny_mono hq fun r s' z => ?_
  rcases r with e | (v | _ | _ | _) <;> first | exact z | exact z.elim | skip
  obtain ⟨rfl, z⟩ := z
  first
    | exact wpAny_pure (wpAny_pure z)
    | (wp_walk; exact z)
/-- .. the class is called: __new__, then its own __init__ with the keyword -/
theorem xk_call (hT : ∀ X : String, bm.contains (.type X) = ([.type "ValueError", .type "Exception", .type "BaseException", .type "object"] : List Value).contains (.type X))
    (hC : h.get? C = some (excClassObj nm q C N bs bm hdct sn sub ab col dd k0 k1 k2 k3 k5 "ValueError.__new__"))
    (hi : PySem.W.Looks (model prog w) h (typeLookup (.ref C) "__init__") (some (.ref fI))) (hb : ∀ self, PySem.W.Looks (model prog w) h (bindSpecial (.ref fI) self) (.ref fI, [self]))
    (hq : codeAny (model prog w) (A.under (.builtin "type.__call__" ⟨[.ref C], [(kn, kv)]⟩)) (.call (.ref fI) ⟨[.ref (h.objs.size + 1)], [(kn, kv)]⟩) (PySem.W.InitBack (h.objs.size + 1) R)
      ⟨(h.push (PySem.W.kdv_tup [])).push (excO C h.objs.size), g, d, t, os⟩) :
    codeAny (model prog w) A (.call (.ref C) ⟨[], [(kn, kv)]⟩) R ⟨h, g, d, t, os⟩ := by
  have Z := F.excBase_ValueError
  have y1 := tc_lookup
  have y2 := tc_bind (.ref C)
  have yT : (⟨h, g, d, t, os⟩ : Shared).TypeIs (.ref C) "type" := ⟨_, hC, rfl⟩
  apply codeAny_of_tree
  show wpAny _ _ (callAny (.ref C) _) _ _ _
  repeat (any_goals (first | assumption | with_reducible refine wpAny_loadPart_at hC ?_ | wp_step))
  refine ⟨rfl, codeAny_call_builtin_at (Code.quiet_builtin _ (by decide +kernel)) entry_typeCall (xk_check hC (xk_type hT hC hi hb ?_))⟩
  refine codeAny_mono hq fun r s' z => ?_
  rcases r with e | (v | _ | _ | _) <;> exact z
end
end K01


set_option Elab.async false
set_option maxRecDepth 100000
set_option maxHeartbeats 1000000
namespace K01
open PySem PySem.Spec PyProof.Rows L2
/-- what the text says of an own exception class with an __init__ (at fI, its function fd) that keeps one field -/
structure XCls (P : Program) (w : World) (K : PySem.W.Frag) (mg : Str → Option Value) (base : Heap) (C fI : Addr) (fd : FuncData) (fld : Str) : Prop where
  oex : OexC K C
  ini : PySem.W.findIn K (.ref C) "__init__" = some (some (.ref fI))
  tyI : PySem.W.typeIn K (.ref fI) = some (.type "function")
  ok : FnOk P w K mg base CX0 2 fI fd ["self", fld] (spInitX C fld)
  bind : ∀ (s : Shared) (u v : Value), BindsTo s fd ⟨[u, v], []⟩ [("self", u), (fld, v)]
  bindK : ∀ (s : Shared) (u v : Value), BindsTo s fd ⟨[u], [(fld, v)]⟩ [("self", u), (fld, v)]
/-- C(e): a new exception with its dict -/
def tXMk (C : Addr) (fld : Str) (te : TE) : TE := fun σ H Q => te σ H fun y H1 => ∀ a d : Addr, H1 a = none → H1 d = none → d ≠ a → Q (.ref a) (upd (upd H1 d (exd d [(fld, y)])) a (exo a C (some d)))
theorem upd_comm {H : Hp} {a b : Addr} {o u : HO} (h : a ≠ b) : upd (upd H a o) b u = upd (upd H b u) a o := by
  funext c
  unfold upd
  by_cases h1 : c = b
  · rw [if_pos h1, if_neg (fun z => h (z.symm.trans h1)), if_pos h1]
  · rw [if_neg h1]
    by_cases h2 : c = a
    · rw [if_pos h2, if_pos h2]
    · rw [if_neg h2, if_neg h2, if_neg h1]
section
variable {X : Cx} {C fI : Addr} {fd : FuncData} {fld : Str} {x : Str} {e : Expr} {te : TE} {p pos kpos : Pos}
theorem xmk_after {pins : List (Addr × Obj)} {σ : L2.St} {H1 : Hp} {s1 s' : Shared} {Q : VK} {a : Addr} {v : V} {r : Value} (q : ∀ d : Addr, H1 a = none → H1 d = none → d ≠ a → Q (.ref a) (upd (upd H1 d (exd d [(fld, v)])) a (exo a C (some d)))) (hn : H1 a = none)
    (I2 : Inv X pins σ (upd H1 a (exo a C none)) s1)
    (hc : CE X.stack X.prog X.w (upd H1 a (exo a C none)) s1 (fun v2 H2 => v2 = .non ∧ ∃ d : Addr, H1 d = none ∧ d ≠ a ∧ H2 = upd (upd (upd H1 a (exo a C none)) d (exd d [(fld, v)])) a (exo a C (some d))) r s') :
    r = .none ∧ EP X pins σ Q (.ref a) s' := by
  obtain ⟨v3, H2, I3, rv, ev, d, hd, hda, rfl⟩ := I2.after hc
  subst ev
  refine ⟨rv, .ref a, _, I3, rfl, ?_⟩
  rw [upd_comm (H := H1) hda.symm, upd_upd]
  exact q d hn hd hda
/-- a new exception of an own class by one value -/
theorem pe_xmk (T : XCls X.prog X.w X.K X.mg X.base C fI fd fld) (hr : Room 3 X.A) (hg : Gl X x) (hm : X.mg x = some (.ref C)) (he : PE X e te) (hdb : (x == ("__debug__" : Str)) = false := by decide)
    (hs : starEach [e] X.env = (false, eval e X.env) :: starEach [] X.env := by rfl) (hpl : (backTo pos (starEach [] X.env)).any (·.1) = false := by rfl) :
    PE X (.Call (.Name x p) [e] [] pos) (tXMk C fld te) := by
  obtain ⟨nm, q, N, bs, bm, sn, sub, ab, col, dd, k0, k1, k2, k3, k5, hC, hbm⟩ := T.oex.cls
  refine ⟨fun pins s σ H Q I h => wpAny_Call_Name_kw (ld_glob I hg hm ?_ hdb)⟩
  refine PySem.W.callWith_K (h₀ := X.base) I.ok.mod.kin T.oex.kC ?_ hs hpl
  rw [hs]
  show wpAny _ _ (spliced ((false, eval e X.env) :: backTo pos (starEach [] X.env))) _ _ s
  refine Calls.spliced_cons (thn (he.run pins s σ H _ I h) fun u s1 ⟨v, H1, I1, r1, q1⟩ => Calls.spliced_nil ⟨I1.kIn, ?_⟩)
  show wpAny _ _ (call (.ref C) [u]) _ _ _
  obtain ⟨hp, g, dr, tk, os⟩ := s1
  have hsz : hp.objs.size ≤ hp.objs.size + 1 := Nat.le_succ _
  have hn : H1 (hp.objs.size + 1) = none := I1.hok.fresh hsz
  have kk : ∀ b o, hp.get? b = some o → ((hp.push (PySem.W.kdv_tup [u])).push (PySem.HandSPX.excO C hp.objs.size)).get? b = some o := fun b o e => Heap.get?_push_of_some _ (Heap.get?_push_of_some _ e)
  have hget : ((hp.push (PySem.W.kdv_tup [u])).push (PySem.HandSPX.excO C hp.objs.size)).get? (hp.objs.size + 1) = some (PySem.HandSPX.excO C hp.objs.size) := by heap_get
  have I2 : Inv X pins σ (upd H1 (hp.objs.size + 1) (exo (hp.objs.size + 1) C none)) ⟨(hp.push (PySem.W.kdv_tup [u])).push (PySem.HandSPX.excO C hp.objs.size), g, dr, tk, os⟩ :=
    I1.laid (t' := tk) (a := hp.objs.size + 1) (o := exo (hp.objs.size + 1) C none) (h' := (hp.push (PySem.W.kdv_tup [u])).push (PySem.HandSPX.excO C hp.objs.size)) kk hsz (exo_ok hget)
  have hsp : spInitX C fld [.ref (hp.objs.size + 1), v] (upd H1 (hp.objs.size + 1) (exo (hp.objs.size + 1) C none))
      (fun v2 H2 => v2 = .non ∧ ∃ d : Addr, H1 d = none ∧ d ≠ hp.objs.size + 1 ∧ H2 = upd (upd (upd H1 (hp.objs.size + 1) (exo (hp.objs.size + 1) C none)) d (exd d [(fld, v)])) (hp.objs.size + 1) (exo (hp.objs.size + 1) C (some d))) (fun _ _ _ => False) :=
    ⟨_, _, rfl, upd_same, fun d hd hda => ⟨rfl, d, by rw [upd_ne hda] at hd; exact hd, hda, rfl⟩⟩
  have hus : ([u] : List Value).length ≤ sizeLine := by show 1 ≤ sizeLine; decide
  apply wpAny_call
  refine PySem.HandSPX.call_own F.excBase_ValueError (fun Y => PySem.HandSPX.refsVE_contains Y bm hbm) (I1.kIn _ _ hC) (PySem.W.looks_findIn I1.kIn T.ini) (fun self => PySem.W.bind_fn I1.kIn self T.tyI) hus
    (codeAny_mono (T.ok.run _ X.stack _ _ ⟨[Value.ref (hp.objs.size + 1), u], []⟩ [Value.ref (hp.objs.size + 1), u] _ _ (fun _ _ _ => False) ((hr.make C [u] [])) (I2.env0.make C [u] []) (T.bind _ _ _) (show Vals [V.ref (hp.objs.size + 1), v] [Value.ref (hp.objs.size + 1), u] from .cons rfl (.cons r1 .nil)) hsp) fun r s' hq' => ?_)
  cases r with
  | error er => exact False.elim hq'
  | ok fl =>
    cases fl with
    | ret u' => exact xmk_after (q1 _) hn I2 hq'
    | next => exact False.elim hq'
    | brk => exact False.elim hq'
    | cont => exact False.elim hq'
/-- .. by one keyword -/
theorem pe_xmkK (T : XCls X.prog X.w X.K X.mg X.base C fI fd fld) (hr : Room 3 X.A) (hg : Gl X x) (hm : X.mg x = some (.ref C)) (he : PE X e te) (hdb : (x == ("__debug__" : Str)) = false := by decide)
    (hall : (backToKw pos (keywordEach [⟨some fld, e, kpos⟩] X.env)).all (·.1.isSome) = true := by rfl) (hks : (backToKw pos (keywordEach [⟨some fld, e, kpos⟩] X.env)).filterMap (·.1) = [fld] := by rfl)
    (hpl : (backToKw pos (keywordEach [⟨some fld, e, kpos⟩] X.env)).any (·.1.isNone) = false := by rfl) :
    PE X (.Call (.Name x p) [] [⟨some fld, e, kpos⟩] pos) (tXMk C fld te) := by
  obtain ⟨nm, q, N, bs, bm, sn, sub, ab, col, dd, k0, k1, k2, k3, k5, hC, hbm⟩ := T.oex.cls
  refine ⟨fun pins s σ H Q I h => wpAny_Call_Name_kw (ld_glob I hg hm ?_ hdb)⟩
  refine PySem.W.callWith_KW0 (h₀ := X.base) I.ok.mod.kin T.oex.kC hall ?_ hpl
  have hk : PK X [⟨some fld, e, kpos⟩] (tCons te tNil) := pk_cons he pk_nil
  refine thn (hk.run pos pins s σ H (fun zs H' => match zs with | [y] => ∀ a d : Addr, H' a = none → H' d = none → d ≠ a → Q (.ref a) (upd (upd H' d (exd d [(fld, y)])) a (exo a C (some d))) | _ => False) I h) fun ws s1 ⟨zs, H1, I1, rz, q1⟩ => ⟨I1.kIn, ?_⟩
  rw [hks]
  cases rz with
  | nil => exact q1.elim
  | @cons v u _ _ r1 rz =>
    cases rz with
    | cons _ _ => exact q1.elim
    | nil =>
      show wpAny _ _ (call (.ref C) [] [(fld, u)]) _ _ _
      obtain ⟨hp, g, dr, tk, os⟩ := s1
      have hsz : hp.objs.size ≤ hp.objs.size + 1 := Nat.le_succ _
      have hn : H1 (hp.objs.size + 1) = none := I1.hok.fresh hsz
      have kk : ∀ b o, hp.get? b = some o → ((hp.push (PySem.W.kdv_tup [])).push (PySem.HandSPX.excO C hp.objs.size)).get? b = some o := fun b o e => Heap.get?_push_of_some _ (Heap.get?_push_of_some _ e)
      have hget : ((hp.push (PySem.W.kdv_tup [])).push (PySem.HandSPX.excO C hp.objs.size)).get? (hp.objs.size + 1) = some (PySem.HandSPX.excO C hp.objs.size) := by heap_get
      have I2 : Inv X pins σ (upd H1 (hp.objs.size + 1) (exo (hp.objs.size + 1) C none)) ⟨(hp.push (PySem.W.kdv_tup [])).push (PySem.HandSPX.excO C hp.objs.size), g, dr, tk, os⟩ :=
        I1.laid (t' := tk) (a := hp.objs.size + 1) (o := exo (hp.objs.size + 1) C none) (h' := (hp.push (PySem.W.kdv_tup [])).push (PySem.HandSPX.excO C hp.objs.size)) kk hsz (exo_ok hget)
      have hsp : spInitX C fld [.ref (hp.objs.size + 1), v] (upd H1 (hp.objs.size + 1) (exo (hp.objs.size + 1) C none))
          (fun v2 H2 => v2 = .non ∧ ∃ d : Addr, H1 d = none ∧ d ≠ hp.objs.size + 1 ∧ H2 = upd (upd (upd H1 (hp.objs.size + 1) (exo (hp.objs.size + 1) C none)) d (exd d [(fld, v)])) (hp.objs.size + 1) (exo (hp.objs.size + 1) C (some d))) (fun _ _ _ => False) :=
        ⟨_, _, rfl, upd_same, fun d hd hda => ⟨rfl, d, by rw [upd_ne hda] at hd; exact hd, hda, rfl⟩⟩
      apply wpAny_call
      refine xk_call (fun Y => PySem.HandSPX.refsVE_contains Y bm hbm) (I1.kIn _ _ hC) (PySem.W.looks_findIn I1.kIn T.ini) (fun self => PySem.W.bind_fn I1.kIn self T.tyI)
        (codeAny_mono (T.ok.run _ X.stack _ _ ⟨[Value.ref (hp.objs.size + 1)], [(fld, u)]⟩ [Value.ref (hp.objs.size + 1), u] _ _ (fun _ _ _ => False) ((hr.make C [] [(fld, u)])) (I2.env0.make C [] [(fld, u)]) (T.bindK _ _ _) (show Vals [V.ref (hp.objs.size + 1), v] [Value.ref (hp.objs.size + 1), u] from .cons rfl (.cons r1 .nil)) hsp) fun r s' hq' => ?_)
      cases r with
      | error er => exact False.elim hq'
      | ok fl =>
        cases fl with
        | ret u' => exact xmk_after (q1 _) hn I2 hq'
        | next => exact False.elim hq'
        | brk => exact False.elim hq'
        | cont => exact False.elim hq'
end
end K01


set_option Elab.async false
set_option maxRecDepth 100000
set_option maxHeartbeats 4000000
namespace K01
open PySem PySem.Spec PyProof.Rows L2
open PySem.W (KitX InstAt Looks)
section
variable {prog : Program} {w : World} {A : Around} {E : Value → Shared → Prop} {s : Shared} {K : PySem.W.Frag} {x D : Addr} {ox : Obj} {od : Option Obj}
/-- e.__class__ of an exception with or without a dict -/
theorem cls_of_exc {Q : Option Value → Shared → Prop} (C : ExcC K D) (hf : PySem.W.findObj K D od "__class__" = some (.bind (.builtin "getset_descriptor.__get__") (.builtin "object.__class__")))
    (X : K.In s.heap) (I : InstAt s.heap x ox D od) (h : Q (some (.ref D)) { s with toks := s.toks + 1 }) : wpAny (model prog w) A (getAttr? (.ref x) "__class__") Q E s := by
  obtain ⟨hp, g, d, t, os⟩ := s
  have M0 := I.type (M := model prog w)
  have M1 := PySem.W.looks_findIn (M := model prog w) X C.hg
  have M2 := PySem.W.looks_findIn (M := model prog w) X C.hk
  have M3 := PySem.W.looks_find (M := model prog w) X I hf
  have sb : Looks (model prog w) hp (isInstance (.ref x) (.type "BaseException")) true := M0.andThen (PySem.W.looks_subIn X C.hs)
  have z1 : (onTheHeap (Value.ref D) && Value.builtin "BaseException.__getattribute__" == Value.builtin "object.__getattribute__") = false := by
    rw [show (Value.builtin "BaseException.__getattribute__" == Value.builtin "object.__getattribute__") = false by decide +kernel]; rfl
  unfold getAttr? getAttrBy? getAttrBy
  apply wpAny_bind; apply wpAny_mkText; apply wpAny_bind; apply wpAny_attempt; apply wpAny_holding; apply wpAny_bind
  apply M0.at; apply wpAny_bind; apply M1.at
  show wpAny _ _ (if (onTheHeap (Value.ref D) && Value.builtin "BaseException.__getattribute__" == Value.builtin "object.__getattribute__") = true then _ else _) _ _ _
  rw [z1, if_neg Bool.false_ne_true]
  unfold getAttrByItsOwn hookBefore
  apply wpAny_bind
  rw [if_pos (show onTheHeap (Value.ref D) = true from rfl)]
  apply M2.at
  apply wpAny_bind; apply wpAny_attempt; apply wpAny_holding
  unfold callGetattribute
  rw [show (false && onTheHeap (Value.builtin "BaseException.__getattribute__")) = false from rfl, if_neg Bool.false_ne_true]
  unfold boundAndCalled
  rw [PySem.F.excAttr_ValueError.ga.bind (.ref x)]
  apply wpAny_bind; apply wpAny_pure
  show wpAny _ _ (call (.builtin "BaseException.__getattribute__") [.ref x, .str "__class__" t]) _ _ _
  apply wpAny_call
  apply codeAny_call_builtin PySem.F.excAttr_ValueError.ga.plain PySem.F.entry_bexc_ga
  refine @PySem.W.check_slot (model prog w) _ _ ⟨hp, g, d, t + 1, os⟩ "BaseException.__getattribute__" "BaseException" "__getattribute__" (.ref x) [.str "__class__" t] [] _ (by decide +kernel) (by decide +kernel) sb (PySem.F.args_bexc_ga (.ref x) (.str "__class__" t)) ?_
  unfold Builtin.«object.__getattribute__»
  apply wpAny_bind
  refine wpAny_of_eq (a := ((Value.ref x : Value), [Value.str "__class__" t])) (by first | rfl | (simp only [slotArgs]; rfl)) ?_
  apply wpAny_bind; apply wpAny_pure; apply wpAny_bind; apply M0.at; apply wpAny_bind; apply M3.at
  show wpAny _ _ (holding [Value.builtin "object.__class__"] (call (.builtin "getset_descriptor.__get__") [.builtin "object.__class__", .ref x, .ref D]) >>= ret) _ _ _
  apply wpAny_bind; apply wpAny_holding; apply wpAny_call
  refine PySem.W.class_get (s := ⟨hp, g, d, t + 1, os⟩) (ox := ox) (od := od) X I C.hm ?_
  apply wpAny_pure
  show wpAny _ _ (handedOut (.ref D)) _ _ _
  rw [PySem.W.handedOut_of (v := .ref D) rfl]
  first
    | exact wpAny_pure (wpAny_pure h)
    | exact wpAny_pure h
    | exact wpAny_pure (wpAny_bind (wpAny_pure (wpAny_pure h)))
/-- isinstance asks an exception with or without a dict -/
theorem kit_exc (C : ExcC K D) (hf : PySem.W.findObj K D od "__class__" = some (.bind (.builtin "getset_descriptor.__get__") (.builtin "object.__class__"))) : KitX K (.ref x) (.ref D) (fun h => InstAt h x ox D od) := by
  obtain ⟨cd, hcd, _⟩ := PySem.W.any_some C.hd
  have at_ : ∀ h : Heap, K.In h → ∃ o, h.get? D = some o ∧ o.data = .cls cd := fun h X => by
    unfold PySem.W.clsIn at hcd
    split at hcd
    · rename_i a b c' sl ho
      cases hcd
      exact ⟨_, X _ _ ho, rfl⟩
    · cases hcd
  refine ⟨fun _ _ _ I => I.type, fun M h X _ => ?_, fun h tp dd its n sl X htp => ?_, fun X I k => cls_of_exc C hf X I k⟩
  · obtain ⟨o, ho, hd⟩ := at_ h X
    intro A' Q' E' s' k q
    unfold isType loadHead
    refine wpAny_bind (wpAny_loadPart (k _ _ ho) ?_)
    rw [hd]
    exact wpAny_pure q
  · obtain ⟨o, ho, hd⟩ := at_ h X
    refine Bool.eq_false_iff.mpr fun q => ?_
    have e : D = tp := Value.ref.inj (beq_iff_eq.mp q)
    rw [e, htp] at ho
    rw [← Option.some.inj ho] at hd
    cases hd
end
/-- isinstance(e, c), e an exception that is held as a value: c's value cv, the answer b -/
def rIsX (K : PySem.W.Frag) : List V → Hp → VK → Prop := fun xs H Q => ∃ (a D : Addr) (c : V) (cv : Value) (b : Bool), xs = [.ref a, c] ∧ (H a = some (ExO (.ref D) a) ∨ ∃ (d : Addr) (fs : List (Str × V)), H a = some (exo a D (some d)) ∧ H d = some (exd d fs)) ∧ ExcC K D ∧
  (∀ u, RelV c u → u = cv) ∧ PySem.W.kitOne K (.ref D) cv = some b ∧ Q (.bl b) H
theorem call_isX {X : Cx} : CallR X (.builtin "isinstance") (rIsX X.K) := by
  intro pins s σ H xs us Q I r h
  obtain ⟨a, D, c, cv, b, rfl, ha, C, hcv, e, q⟩ := h
  cases r with
  | cons rx rr =>
    cases rr with
    | cons rt rr =>
      cases rr
      cases rx
      have ec := hcv _ rt
      subst ec
      have hcl : (PySem.W.clsIn X.K D).isSome = true := by
        obtain ⟨cd, hc, _⟩ := PySem.W.any_some C.hd
        rw [hc]; rfl
      rcases ha with ha | ⟨d, fs, ha, hd⟩
      · obtain ⟨⟨oe, vs, ho, hz, hdt, _⟩, _, _⟩ := I.hok a _ ha
        have J : InstAt s.heap a oe D none := by
          obtain ⟨oc, od, oda, osl⟩ := oe
          obtain ⟨h1, h2⟩ := hz
          dsimp only at h1 h2 hdt
          subst h1 h2 hdt
          exact ⟨ho, rfl, rfl, trivial⟩
        exact PySem.W.kia_one (kit_exc C (PySem.W.findObj_dataN hcl C.ha C.hn C.ht)) I.kIn J e (fun z => nomatch z) fun tk => ⟨.bl b, H, I.kept (t' := tk) fun _ _ z => z, rfl, q⟩
      · obtain ⟨t1, ho⟩ := exo_at I.hok ha
        obtain ⟨mA, ⟨od, es, ep, e1, _⟩, _⟩ := exd_at I.hok hd
        have J : InstAt s.heap a { cls := .ref D, dict := some d, data := .fields #[.ref t1, .none, .none, .none, .bool false, .none] } D (some od) := ⟨ho, rfl, rfl, e1⟩
        exact PySem.W.kia_one (kit_exc C (PySem.W.findObj_data hcl C.ha C.hn C.ht)) I.kIn J e (fun z => nomatch z) fun tk => ⟨.bl b, H, I.kept (t' := tk) fun _ _ z => z, rfl, q⟩
/-- e.f of such an exception -/
structure XGet (K : PySem.W.Frag) (C : Addr) (fld : Str) : Prop where
  ex : ExcC K C
  no : PySem.W.findIn K (.ref C) fld = some none
def tXFld (K : PySem.W.Frag) (fld : Str) (te : TE) : TE := fun σ H Q => te σ H fun x H1 => ∃ (a C d : Addr) (fs : List (Str × V)) (v : V), x = .ref a ∧ XGet K C fld ∧ H1 a = some (exo a C (some d)) ∧ H1 d = some (exd d fs) ∧ fs.lookup fld = some v ∧ Q v H1
theorem pe_xfld {X : Cx} {e : Expr} {te : TE} {fld : Str} {pos : Pos} (he : PE X e te) (hb : attributeBase e fld X.env (eval e X.env) = eval e X.env := by rfl) : PE X (.Attribute e fld pos) (tXFld X.K fld te) := by
  refine ⟨fun pins s σ H Q I h => ?_⟩
  refine attr_of hb (thn (he.run pins s σ H _ I h) fun u s1 ⟨x, H1, I1, rx, a, C, d, fs, v, ex, T, ha, hd, hl, q⟩ => ?_)
  subst ex
  obtain rfl : u = Value.ref a := rx
  obtain ⟨t1, ho⟩ := exo_at I1.hok ha
  obtain ⟨mA, hns, rel⟩ := exd_at I1.hok hd
  obtain ⟨od, e1, l⟩ := lookIn_ns hns
  have rl := rel fld
  rw [hl] at rl
  cases hm : mA fld with
  | none => rw [hm] at rl; exact rl.elim
  | some y =>
    rw [hm] at rl
    have J : InstAt s1.heap a { cls := .ref C, dict := some d, data := .fields #[.ref t1, .none, .none, .none, .bool false, .none] } C (some od) := ⟨ho, rfl, rfl, e1⟩
    exact HandSPX.exc_get I1.kIn J T.ex.hg T.ex.hk T.ex.hs (PySem.W.findObj_own T.ex.hd T.no rfl (by rw [l, hm])) (handed_of rl) ⟨v, H1, I1.tok _, rl, q⟩
end K01


set_option Elab.async false
set_option maxRecDepth 100000
set_option maxHeartbeats 2000000
set_option linter.all false
namespace K01
open PySem PySem.Spec PyProof.Rows L2
/-! a caught exception that outlives its except suite -/
def ExR (cls : Value) (d : Option Addr) (a : Addr) : HO := .ext fun h => ∃ (oe : Obj) (vs : Array Value), h.get? a = some oe ∧ Zc cls d oe ∧ oe.data = .fields vs
theorem exR_ok {P : Program} {w : World} {H : Hp} {h : Heap} {a : Addr} {cls : Value} {d : Option Addr} {oe : Obj} {vs : Array Value} (e : h.get? a = some oe) (z : Zc cls d oe) (hd : oe.data = .fields vs) : ObjOk P w H h a (ExR cls d a) :=
  ⟨⟨oe, vs, e, z, hd⟩, ⟨oe, e⟩, fun _ _ ⟨o, v, q, r⟩ k => ⟨o, v, k o q, r⟩⟩
theorem exR_at {P : Program} {w : World} {H : Hp} {h : Heap} {a : Addr} {cls : Value} {d : Option Addr} (hok : HOk P w H h) (e : H a = some (ExR cls d a)) : ∃ (oe : Obj) (vs : Array Value), h.get? a = some oe ∧ Zc cls d oe ∧ oe.data = .fields vs := by
  have x : ObjOk P w H h a (.ext fun h => ∃ (oe : Obj) (vs : Array Value), h.get? a = some oe ∧ Zc cls d oe ∧ oe.data = .fields vs) := hok a _ e
  exact x.1
section
variable {X : Cx} {pins : List (Addr × Obj)} {σ : L2.St} {H : Hp} {s : Shared}
theorem track {a : Addr} {oe : Obj} {vs : Array Value} {cls : Value} {d : Option Addr} (I : Inv X ((a, oe) :: pins) σ H s) (h0 : X.s_0.heap.get? a = none) (hp : ∀ p ∈ X.pn ++ pins, p.1 ≠ a) (hz : Zc cls d oe) (hd : oe.data = .fields vs) :
    H a = none ∧ Inv X pins σ (upd H a (ExR cls d a)) s := by
  obtain ⟨he, na, nL, nF, nC⟩ := I.pin (a, oe) (by simp)
  refine ⟨na, I.ok, I.os, I.bare, ⟨I.base.keep, I.base.slot, fun b o e n hx => ?_, I.base.there, fun b xs e => ?_, fun b o u e => ?_, fun b ps e => ?_⟩, I.loc, I.cell, ?_, fun x c e => ?_, fun p m => ?_, fun b o e => ?_, I.len⟩
  · have hb : b ≠ a := fun z => by
      rw [z, h0] at e
      cases e
    rw [upd_ne hb]
    exact I.base.free b o e n hx
  · have e' := I.base.tups b xs e
    rw [upd_ne (ne_of_none e' na)]
    exact e'
  · have e' := I.base.frzs b o u e
    rw [upd_ne (ne_of_none e' na)]
    exact e'
  · obtain ⟨more, e'⟩ := I.base.tbls b ps e
    exact ⟨more, by rw [upd_ne (ne_of_none e' na)]; exact e'⟩
  · rw [upd_ne (Ne.symm nL)]
    exact I.free
  · have hc : c ≠ a := fun z => by
      obtain ⟨v, o, ho, hd'⟩ := I.cell x c e
      rw [z] at ho
      have he' : s.heap.get? a = some oe := he
      rw [he'] at ho
      cases ho
      exact nC v hd'
    rw [upd_ne hc]
    exact I.freeC x c e
  · have hm : p ∈ X.pn ++ (a, oe) :: pins := by
      rcases List.mem_append.mp m with m | m
      · exact List.mem_append_left _ m
      · exact List.mem_append_right _ (List.mem_cons_of_mem _ m)
    obtain ⟨e, n, r⟩ := I.pin p hm
    exact ⟨e, by rw [upd_ne (hp p m)]; exact n, r⟩
  · by_cases hb : b = a
    · subst hb
      rw [upd_same] at e
      cases e
      exact exR_ok he hz hd
    · rw [upd_ne hb] at e
      exact (I.hok b o e).stay (fun c v hc q => q) (fun c q => by rw [upd_ne (ne_of_none q na)]; exact q) (fun c xs q => by rw [upd_ne (ne_of_none q na)]; exact q)
end
/-- the wish of a clause 'except x as n' whose exception lives on -/
def wKp (K : PySem.W.Frag) (c : Value) (i : Nat) (ts : Addr → Value → Option Addr → TS) (Wout : WX) (D : Ends) : WX := fun cls d σ H =>
  ∃ b, PySem.W.exmOne K cls c = some b ∧ (b = true → ∀ a, H a = none → ts a cls d { nx := fun σ' H' => H' a = none → D.nx (σ'.set i none) (upd H' a (ExR cls d a)), rt := fun v H' => H' a = none → D.rt v (upd H' a (ExR cls d a)), bk := fun σ' H' => H' a = none → D.bk (σ'.set i none) (upd H' a (ExR cls d a)), ct := fun σ' H' => H' a = none → D.ct (σ'.set i none) (upd H' a (ExR cls d a)) } (σ.set i (some (.ref a))) H) ∧
    (b = false → Wout cls d σ H)
section
variable {X : Cx} {x n : Str} {c : Value} {i : Nat} {body suite : List Stmt} {b₀ : Stmt} {np pos pos' : Pos} {tb : WX → TS} {ts : Addr → Value → Option Addr → TS} {Wout : WX}
theorem ps_try_keep (hs : X.stack = X.env :: X.outer) (hf : X.env.frame = some X.env.locals) (hex : X.ex = []) (hN : X.N.Nodup) (hi : X.N[i]? = some n) (hln : X.env.kindOf n = some .local) (hc : Names X x c) (tk : Takes X Wout)
    (hb : ∀ (W : WX) (pn : List (Addr × Obj)) (xe : Value → Shared → Prop), Takes (X.tr pn xe) W → PassesOwn (model X.prog X.w) X.A X.env xe → PSs (X.tr pn xe) body (tb W))
    (hsu : ∀ (a : Addr) (oe : Obj) (cls : Value) (d : Option Addr) (pn : List (Addr × Obj)), Zc cls d oe → (∃ vs, oe.data = .fields vs) → PSs (X.suite a ((a, oe) :: pn)) (b₀ :: suite) (ts a cls d)) :
    PS X (.Try body [.ExceptHandler (some (.Name x np)) (some n) (b₀ :: suite) pos'] [] [] pos) (fun D σ H => tb (wKp X.K c i ts Wout D) D σ H) := by
  refine ⟨fun pins s σ H D I h => ?_⟩
  have ok := I.ok
  have hfr : X.A.frames = some (X.env :: X.outer) := by rw [ok.frames, hs]
  have hloc : Loc X.env.scope n := .inl hln
  refine wpAny_Try_except ?_
  refine wpAny_mono ((hb (wKp X.K c i ts Wout D) (X.pn ++ pins) (fun e s₁ => wpAny (model X.prog X.w) X.A (noteFrame e X.env) (fun _ s₂ => wpAny (model X.prog X.w) X.A (setFlight e none) (fun _ s₃ =>
    wpAny (model X.prog X.w) X.A (handleBy e X.env [.ExceptHandler (some (.Name x np)) (some n) (b₀ :: suite) pos']) (SP X pins D) X.xe s₃) X.xe s₂) X.xe s₁) (fun u s' xx => ?_) PassesOwn.looking).run [] s σ H D (I.toTry _) h) (fun f s1 hsp => ?_) (fun e s1 he => he)
  · obtain ⟨a, B, sI, pins', σ', H', cls, d, rfl, J', nb, up, sky, na, os, ag, b, hb1, hyes, hno⟩ := xx
    have J : Inv X pins σ' H' sI := J'.ofTry ok
    have sky' : Sky B (X.env :: X.outer) a (Zc cls d) X.env.locals s'.heap := by rw [← hs]; exact sky
    show wpAny (model X.prog X.w) X.A (noteFrame (.ref a) X.env) _ _ _
    refine Sky.land Zc.steady hfr hf sky' fun h3 fl3 up3 => ?_
    have J3 : Inv X pins σ' H' { s' with heap := h3 } := J.landed nb fl3.1 (up.trans up3) os ag
    obtain ⟨oe3, vs3, he3, hz3, hd3⟩ := fl3.there
    have notFr : ∀ {h : Heap} {o : Obj} {vs : Array Value}, h.FunFrames B (X.env :: X.outer) → h.get? a = some o → o.data = .fields vs → a ∉ frs (X.env :: X.outer) := fun {h o vs} ff e dd hm => by
      obtain ⟨_, o', e', hnf⟩ := ff.mem hm
      rw [e] at e'; cases e'
      exact hnf _ dd
    have nfr := notFr fl3.2.2.1 he3 hd3
    have nI : sI.heap.get? a = none := by
      cases q : sI.heap.get? a with
      | none => rfl
      | some o =>
        have z := nb a o q (by rw [hs]; exact nfr)
        rw [fl3.2.1] at z
        cases z
    have n0 : X.s_0.heap.get? a = none := by
      cases q : X.s_0.heap.get? a with
      | none => rfl
      | some o =>
        obtain ⟨o', z⟩ := J.base.there a o q (by rw [hex]; simp)
        rw [nI] at z
        cases z
    have npn : ∀ p ∈ X.pn ++ pins, p.1 ≠ a := fun p m z => by
      have e := (J.pin p m).1
      rw [z, nI] at e
      cases e
    have nL : a ≠ X.env.locals := fun z => nfr (List.mem_filterMap.mpr ⟨X.env, List.mem_cons_self, by rw [hf, z]⟩)
    have nF : a ∉ X.fs := fun hm => by
      obtain ⟨e, he, q⟩ := List.mem_filterMap.mp hm
      exact nfr (List.mem_filterMap.mpr ⟨e, List.mem_cons_of_mem _ he, q⟩)
    have S3 := J3.suite he3 hd3 na nL nF
    refine wpAny_handleBy_cons (codeAny_handlers_test ?_) (by intro q; cases q)
    have LT : PySem.W.Looks (model X.prog X.w) h3 (typeOf (.ref a)) cls := fun A Q E s k q => wpAny_typeOf_ref (k _ _ he3) (by rw [hz3.1]; exact q)
    have LM := PySem.W.exm_one (M := model X.prog X.w) (J3.kIn) LT hb1
    have test : ∀ {Q : Value → Shared → Prop} {E : Value → Shared → Prop}, Q c { s' with heap := h3 } → wpAny (model X.prog X.w) (X.A.mark (some (.ref a))) (eval (.Name x np) X.env) Q E { s' with heap := h3 } := fun {Q E} q => by
      obtain ⟨hg, hdbg, hm | ⟨hm, hv, hnn⟩⟩ := hc
      · exact ld_glob (X := X.suite a ((a, oe3) :: (X.pn ++ pins))) S3 hg hm q hdbg
      · exact ld_blt (X := X.suite a ((a, oe3) :: (X.pn ++ pins))) S3 hg hm hv q hnn hdbg
    refine test (LM.here ?_)
    cases b with
    | true =>
      refine codeAny_handlers_suite_as ?_
      refine HandSPX.lands_againZ fl3 fun h4 fl4 up4 => ?_
      have J4 : Inv X pins σ' H' { s' with heap := h4 } := J.landed nb fl4.1 ((up.trans up3).trans up4) os ag
      obtain ⟨oe4, vs4, he4, hz4, hd4⟩ := fl4.there
      have S4 := J4.suite he4 hd4 na nL nF
      refine store_ok (X := X.suite a ((a, oe4) :: (X.pn ++ pins))) (v := .ref a) S4 hN hi hloc rfl (fun s5 S5 => ?_) (.inr hln)
      refine wpAny_mono ((hsu a oe4 cls d (X.pn ++ pins) hz4 ⟨_, hd4⟩).run [] s5 _ H' _ S5 (hyes rfl a na)) (fun f s6 hsp => ?_) (fun _ _ z => False.elim z)
      have end_ : ∀ {σ6 : L2.St} {H6 : Hp} {Q : Shared → Prop}, Inv (X.suite a ((a, oe4) :: (X.pn ++ pins))) [] σ6 H6 s6 → (∀ s7, H6 a = none → Inv X pins (σ6.set i none) (upd H6 a (ExR cls d a)) s7 → Q s7) →
          wpAny (model X.prog X.w) X.A (do bindName X.env n .none; unbindBehindTheSuite X.env n pos') (fun _ s7 => Q s7) X.xe s6 := fun {σ6 H6 Q} S6 hq => by
        have U : Inv X ((a, oe4) :: pins) σ6 H6 s6 := ⟨ok, S6.os, S6.bare, S6.base, S6.loc, S6.cell, S6.free, S6.freeC, fun p hp => S6.pin p (by
          have hp' : p ∈ X.pn ++ (a, oe4) :: pins := hp
          show p ∈ ((a, oe4) :: (X.pn ++ pins)) ++ []
          simp only [List.mem_append, List.mem_cons, List.append_nil] at hp' ⊢
          rcases hp' with z | z | z
          · exact .inr (.inl z)
          · exact .inl z
          · exact .inr (.inr z)), S6.hok, S6.len⟩
        refine gone_ok U hN hi hln fun s7 J7 => ?_
        obtain ⟨n7, T7⟩ := track (cls := cls) (d := d) J7 n0 npn hz4 hd4
        exact hq s7 n7 T7
      cases f with
      | next =>
        obtain ⟨σ6, H6, S6, q6⟩ := hsp
        exact end_ S6 fun s7 n7 J7 => ⟨_, _, J7, q6 n7⟩
      | brk =>
        obtain ⟨σ6, H6, S6, q6⟩ := hsp
        exact end_ S6 fun s7 n7 J7 => ⟨_, _, J7, q6 n7⟩
      | cont =>
        obtain ⟨σ6, H6, S6, q6⟩ := hsp
        exact end_ S6 fun s7 n7 J7 => ⟨_, _, J7, q6 n7⟩
      | ret u =>
        obtain ⟨v6, σ6, H6, S6, r6, q6⟩ := hsp
        exact end_ S6 fun s7 n7 J7 => ⟨_, _, _, J7, r6, q6 n7⟩
    | false =>
      show wpAny _ X.A (handleBy (.ref a) X.env []) _ _ _
      refine wpAny_handleBy_nil ?_
      obtain ⟨k1, k2, k3, oe, vs, T, oT, ts', he, hz, hd, h1, hr⟩ := id fl3
      unfold PySem.passOn
      refine wpAny_bind (wpAny_field he hd h1 ?_)
      rw [if_neg (show ¬ ((Value.ref T == Value.none) = true) from by simp)]
      have fin : wpAny (model X.prog X.w) X.A (setFlight (.ref a) X.env.frame) (fun _ s4 => wpAny (model X.prog X.w) X.A (throw (.ref a) : Sem Flow) (SP X pins D) X.xe s4) X.xe { s' with heap := h3 } := by
        rw [hf]
        refine HandSPX.setFlight_upZ fl3 fun h4 hh4 up4 => wpAny_throw (tk _ _ ?_)
        exact ⟨a, B, sI, pins, σ', H', cls, d, rfl, J, nb, (up.trans up3).trans up4, .inr (.inr (by rw [hs]; exact hh4)), na, os, ag, hno rfl⟩
      first
        | exact wpAny_bind (wpAny_pure (wpAny_bind fin))
        | exact wpAny_bind fin
  · cases f with
    | next =>
      obtain ⟨σ', H', J', q⟩ := hsp
      exact wpAny_execs_nil ⟨σ', H', J'.ofTry ok, q⟩
    | brk =>
      obtain ⟨σ', H', J', q⟩ := hsp
      exact ⟨σ', H', J'.ofTry ok, q⟩
    | cont =>
      obtain ⟨σ', H', J', q⟩ := hsp
      exact ⟨σ', H', J'.ofTry ok, q⟩
    | ret u =>
      obtain ⟨v, σ', H', J', r, q⟩ := hsp
      exact ⟨v, σ', H', J'.ofTry ok, r, q⟩
end
end K01


set_option Elab.async false
set_option maxRecDepth 100000
set_option maxHeartbeats 4000000
set_option linter.all false
namespace K01
open PySem PySem.Spec PyProof.Rows L2
open PySem.W (KitX InstAt Looks)
/-- the fields of an exception, at d -/
theorem xd_at {P : Program} {w : World} {H : Hp} {h : Heap} {d : Addr} {fs : List (Str × V)} (hok : HOk P w H h) (e : H d = some (.xd fs)) : ∃ mA, h.Ns1 d mA ∧ ∀ f, RelO (fs.lookup f) (mA f) := by
  have x : ObjOk P w H h d (.xd fs) := hok d _ e
  exact x
/-- isinstance(e, c), e a caught exception that lives on -/
def rIsR (K : PySem.W.Frag) : List V → Hp → VK → Prop := fun xs H Q => ∃ (a D d : Addr) (fs : List (Str × V)) (c : V) (cv : Value) (b : Bool), xs = [.ref a, c] ∧ H a = some (ExR (.ref D) (some d) a) ∧ H d = some (.xd fs) ∧ ExcC K D ∧
  (∀ u, RelV c u → u = cv) ∧ PySem.W.kitOne K (.ref D) cv = some b ∧ Q (.bl b) H
theorem instR {X : Cx} {pins : List (Addr × Obj)} {σ : L2.St} {H : Hp} {s : Shared} {a D d : Addr} {fs : List (Str × V)} (I : Inv X pins σ H s) (ha : H a = some (ExR (.ref D) (some d) a)) (hd : H d = some (.xd fs)) : ∃ (oe : Obj) (od : Obj) (mA : Str → Option Value), InstAt s.heap a oe D (some od) ∧ oe.dict = some d ∧ (∀ f, RelO (fs.lookup f) (mA f)) ∧ s.heap.Ns1 d mA ∧ s.heap.get? d = some od := by
  obtain ⟨oe, vs, ho, ⟨z1, z2⟩, hdt⟩ := exR_at I.hok ha
  obtain ⟨mA, hns, rel⟩ := xd_at I.hok hd
  obtain ⟨od, es, ep, e1, r⟩ := id hns
  exact ⟨oe, od, mA, ⟨ho, z1, by unfold PySem.W.notCls; rw [hdt], by rw [z2]; exact e1⟩, z2, rel, hns, e1⟩
theorem call_isR {X : Cx} : CallR X (.builtin "isinstance") (rIsR X.K) := by
  intro pins s σ H xs us Q I r h
  obtain ⟨a, D, d, fs, c, cv, b, rfl, ha, hd, C, hcv, e, q⟩ := h
  cases r with
  | cons rx rr =>
    cases rr with
    | cons rt rr =>
      cases rr
      cases rx
      have ec := hcv _ rt
      subst ec
      have hcl : (PySem.W.clsIn X.K D).isSome = true := by
        obtain ⟨cd, hc, _⟩ := PySem.W.any_some C.hd
        rw [hc]; rfl
      obtain ⟨oe, od, mA, J, _⟩ := instR I ha hd
      exact PySem.W.kia_one (kit_exc C (PySem.W.findObj_data hcl C.ha C.hn C.ht)) I.kIn J e (fun z => nomatch z) fun tk => ⟨.bl b, H, I.kept (t' := tk) fun _ _ z => z, rfl, q⟩
/-- e.f of such an exception -/
def tRFld (K : PySem.W.Frag) (fld : Str) (te : TE) : TE := fun σ H Q => te σ H fun x H1 => ∃ (a C d : Addr) (fs : List (Str × V)) (v : V), x = .ref a ∧ XGet K C fld ∧ H1 a = some (ExR (.ref C) (some d) a) ∧ H1 d = some (.xd fs) ∧ fs.lookup fld = some v ∧ Q v H1
theorem pe_rfld {X : Cx} {e : Expr} {te : TE} {fld : Str} {pos : Pos} (he : PE X e te) (hb : attributeBase e fld X.env (eval e X.env) = eval e X.env := by rfl) : PE X (.Attribute e fld pos) (tRFld X.K fld te) := by
  refine ⟨fun pins s σ H Q I h => ?_⟩
  refine attr_of hb (thn (he.run pins s σ H _ I h) fun u s1 ⟨x, H1, I1, rx, a, C, d, fs, v, ex, T, ha, hd, hl, q⟩ => ?_)
  subst ex
  obtain rfl : u = Value.ref a := rx
  obtain ⟨oe, od, mA, J, hdd, rel, hns, hod⟩ := instR I1 ha hd
  obtain ⟨od', e1, l⟩ := lookIn_ns hns
  rw [hod] at e1
  cases e1
  have rl := rel fld
  rw [hl] at rl
  cases hm : mA fld with
  | none => rw [hm] at rl; exact rl.elim
  | some y =>
    rw [hm] at rl
    exact HandSPX.exc_get I1.kIn J T.ex.hg T.ex.hk T.ex.hs (PySem.W.findObj_own T.ex.hd T.no rfl (by rw [l, hm])) (handed_of rl) ⟨v, H1, I1.tok _, rl, q⟩
end K01


set_option Elab.async false
set_option maxRecDepth 100000
set_option maxHeartbeats 2000000
set_option linter.all false
namespace K01
open PySem PySem.Spec PyProof.Rows L2 LamX
/-! function values that are handed along and called later -/
/-- from (s0, H0) on: what stood there untracked stands still; the frames that came in between are new -/
structure From (fs0 : List Addr) (s0 : Shared) (H0 : Hp) (fs : List Addr) (s : Shared) (H : Hp) : Prop where
  un : Un fs0 [] H0 H s0.heap s.heap
  nw : ∀ L ∈ fs, L ∈ fs0 ∨ s0.heap.get? L = none
theorem From.refl (fs0 : List Addr) (s0 : Shared) (H0 : Hp) : From fs0 s0 H0 fs0 s0 H0 :=
  ⟨⟨fun _ _ e _ _ _ => e, fun _ o e _ _ _ => ⟨o.slots, e⟩, fun _ _ _ n _ => n, fun _ o e _ => ⟨o, e⟩, fun _ _ e => e, fun _ _ _ e => e, fun _ ps e => ⟨#[], by rw [e]; simp⟩⟩, fun _ m => .inl m⟩
/-- what is asked of the state at which such a value is called -/
def Acts (P : Program) (w : World) (K : PySem.W.Frag) (mg : Str → Option Value) (base : Heap) (fs0 : List Addr) (s0 : Shared) (H0 : Hp) (k : Nat) (f : Addr) (pre : Hp → Prop) (tl : XK → Hp → VK → Prop) : Prop :=
  ∀ (A : Around) (outer : List Env) (s : Shared) (H : Hp) (Q : VK) (E : XK), Room k A → Env0 P w K mg base A outer s H → From fs0 s0 H0 (frs outer) s H → pre H → tl E H Q →
    codeAny (model P w) A (.call (.ref f) ⟨[], []⟩) (CR (L2.CX P w) outer P w H s Q E) s
/-- the value itself -/
structure FunV (fs0 : List Addr) (s0 : Shared) (H0 : Hp) (f : Addr) : Prop where
  ob : PySem.W.FnAt f s0.heap
  nt : H0 f = none
  nf : f ∉ fs0
/-- a def that takes such a value and calls it -/
def TakesV (P : Program) (w : World) (K : PySem.W.Frag) (mg : Str → Option Value) (base : Heap) (j : Nat) (g : Addr) (TT : (XK → Hp → VK → Prop) → Hp → VK → Prop) : Prop :=
  ∀ (kl : Nat) (fs0 : List Addr) (s0 : Shared) (H0 : Hp) (f : Addr) (pre : Hp → Prop) (tl : XK → Hp → VK → Prop) (A : Around) (outer : List Env) (s : Shared) (H : Hp) (Q : VK), Room (kl + j) A → Env0 P w K mg base A outer s H → From fs0 s0 H0 (frs outer) s H →
    FunV fs0 s0 H0 f → Acts P w K mg base fs0 s0 H0 kl f pre tl → pre H → TT tl H Q → codeAny (model P w) A (.call (.ref g) ⟨[.ref f], []⟩) (CR L2.CX0 outer P w H s Q (fun _ _ _ => False)) s
section
variable {Z : Cx} {pins : List (Addr × Obj)} {σ : L2.St} {H : Hp} {s : Shared} {fs0 : List Addr} {s0 : Shared} {H0 : Hp}
theorem From.step (F : From fs0 s0 H0 Z.fs Z.s_0 Z.H_0) (hex : Z.ex = []) (I : Inv Z pins σ H s) : From fs0 s0 H0 (frs Z.stack) s H := by
  have nfs : ∀ b o, s0.heap.get? b = some o → b ∉ fs0 → b ∉ Z.fs := fun b o e hb m => by
    rcases F.nw b m with z | z
    · exact hb z
    · rw [e] at z; cases z
  have nx : ∀ b : Addr, b ∉ Z.ex := fun b => by rw [hex]; simp
  refine ⟨⟨fun b o e n hb hx => ?_, fun b o e n hb hx => ?_, fun b o e n hx => ?_, fun b o e hx => ?_, fun b xs e => I.base.tups b xs (F.un.tups b xs e), fun b o u e => I.base.frzs b o u (F.un.frzs b o u e), fun b ps e => ?_⟩, fun L m => ?_⟩
  · exact I.base.keep b o (F.un.keep b o e n hb hx) (F.un.free b o e n hx) (nfs b o e hb) (nx b)
  · obtain ⟨sl, e1⟩ := F.un.any e n hx
    obtain ⟨sl2, e2⟩ := I.base.any e1 (F.un.free b o e n hx) (nx b)
    exact ⟨sl2, e2⟩
  · obtain ⟨o', e1⟩ := F.un.there b o e hx
    exact I.base.free b o' e1 (F.un.free b o e n hx) (nx b)
  · obtain ⟨o', e1⟩ := F.un.there b o e hx
    exact I.base.there b o' e1 (nx b)
  · obtain ⟨m1, e1⟩ := F.un.tbls b ps e
    obtain ⟨m2, e2⟩ := I.base.tbls b _ e1
    exact ⟨m1 ++ m2, by rw [e2]; simp⟩
  · have m' := I.stkSub L m
    rcases List.mem_cons.mp m' with z | z
    · right
      cases q : s0.heap.get? L with
      | none => rfl
      | some o =>
        obtain ⟨o', e1⟩ := F.un.there L o q (by simp)
        have h1 := Heap.lt_size e1
        have h2 := I.ok.above
        rw [z] at h1
        exact absurd (Nat.lt_of_lt_of_le h1 h2) (Nat.lt_irrefl _)
    · exact F.nw L z
theorem FunV.at (V : FunV fs0 s0 H0 f) {fs : List Addr} {s : Shared} {H : Hp} (F : From fs0 s0 H0 fs s H) : PySem.W.FnAt f s.heap := by
  obtain ⟨cls, d, fd, sl, e⟩ := V.ob
  exact ⟨cls, d, fd, sl, F.un.keep f _ e V.nt V.nf (by simp)⟩
end
section
variable {Z : Cx} {fs0 : List Addr} {s0 : Shared} {H0 : Hp} {k : Nat} {f : Addr} {pre : Hp → Prop} {tl : XK → Hp → VK → Prop}
/-- a(), a holding such a value -/
theorem pe_actV {W : WX} {i : Nat} {a : Str} {p1 p2 : Pos} (F : From fs0 s0 H0 Z.fs Z.s_0 Z.H_0) (hex : Z.ex = []) (V : FunV fs0 s0 H0 f) (AC : Acts Z.prog Z.w Z.K Z.mg Z.base fs0 s0 H0 k f pre tl) (tk : Takes Z W) (hr : Room k Z.A)
    (hN : Z.N[i]? = some a) (hv : Vis Z.env.scope a) (hd : (a == ("__debug__" : Str)) = false := by decide) (hcd : (a == ("__classdict__" : Str)) = false := by decide) :
    PE Z (.Call (.Name a p1) [] [] p2) (fun σZ HZ Q => ∃ (E : XK) (Q0 : VK), (∀ cls d H', E cls d H' → W cls d σZ H') ∧ (∀ v H', Q0 v H' → Q v H') ∧ σZ[i]? = some (some (.ref f)) ∧ pre HZ ∧ tl E HZ Q0) := by
  refine ⟨fun pinsZ sZ σZ HZ Q IZ h => ?_⟩
  obtain ⟨E, Q0, hW, hQ, hs, hc, ht⟩ := h
  refine wpAny_Call_Name_kw (thn ((pe_var (pos := p1) (i := i) hN hv hd hcd).run pinsZ sZ σZ HZ (fun v H1 => v = .ref f ∧ H1 = HZ) IZ ⟨.ref f, hs, rfl, rfl⟩) fun u s1 ⟨v, H1, I1, r1, q1⟩ => ?_)
  obtain ⟨ev, eH⟩ := q1
  subst ev
  rw [eH] at I1
  obtain rfl : u = Value.ref f := r1
  have F1 := F.step hex I1
  refine PySem.W.callWith_F0 (V.at F1) ?_
  refine wpAny_call (codeAny_mono (AC Z.A Z.stack s1 HZ Q0 E hr I1.env0 F1 hc ht) fun r s' hq => ?_)
  cases r with
  | error e => exact tk e s' (XE.of_call I1 hW hq)
  | ok fl =>
    cases fl with
    | ret u => exact (let ⟨v, H', J, rv, q⟩ := I1.after hq; ⟨v, H', J, rv, hQ _ _ q⟩)
    | next => exact False.elim hq
    | brk => exact False.elim hq
    | cont => exact False.elim hq
/-- x(a), a holding such a value, x a def that takes it -/
theorem pe_passV {j i : Nat} {g : Addr} {TT : (XK → Hp → VK → Prop) → Hp → VK → Prop} {x a : Str} {p pa pos : Pos} (F : From fs0 s0 H0 Z.fs Z.s_0 Z.H_0) (hex : Z.ex = []) (V : FunV fs0 s0 H0 f) (AC : Acts Z.prog Z.w Z.K Z.mg Z.base fs0 s0 H0 k f pre tl) (hG : TakesV Z.prog Z.w Z.K Z.mg Z.base j g TT) (hr : Room (k + j) Z.A)
    (hg : Gl Z x) (hm : Z.mg x = some (.ref g)) (hk : PySem.W.keepIn Z.K (.ref g) = true) (hN : Z.N[i]? = some a) (hv : Vis Z.env.scope a) (hdb : (x == ("__debug__" : Str)) = false := by decide) (hd : (a == ("__debug__" : Str)) = false := by decide) (hcd : (a == ("__classdict__" : Str)) = false := by decide) :
    PE Z (.Call (.Name x p) [.Name a pa] [] pos) (fun σZ HZ Q => ∃ Q0 : VK, (∀ v H', Q0 v H' → Q v H') ∧ σZ[i]? = some (some (.ref f)) ∧ pre HZ ∧ TT tl HZ Q0) := by
  refine ⟨fun pinsZ sZ σZ HZ Q IZ h => ?_⟩
  obtain ⟨Q0, hQ, hs, hc, ht⟩ := h
  refine wpAny_Call_Name_kw (ld_glob IZ hg hm ?_ hdb)
  refine PySem.W.callWith_K (h₀ := Z.base) IZ.ok.mod.kin hk ?_ (by rfl) (by rfl)
  show wpAny _ _ (spliced ((false, eval (.Name a pa) Z.env) :: backTo pos (starEach [] Z.env))) _ _ sZ
  refine Calls.spliced_cons (thn ((pe_var (pos := pa) (i := i) hN hv hd hcd).run pinsZ sZ σZ HZ (fun v H1 => v = .ref f ∧ H1 = HZ) IZ ⟨.ref f, hs, rfl, rfl⟩) fun u s1 ⟨v, H1, I1, r1, q1⟩ => ?_)
  obtain ⟨ev, eH⟩ := q1
  subst ev
  rw [eH] at I1
  obtain rfl : u = Value.ref f := r1
  refine Calls.spliced_nil ⟨I1.kIn, ?_⟩
  refine wpAny_call (codeAny_mono (hG k fs0 s0 H0 f pre tl Z.A Z.stack s1 HZ Q0 hr I1.env0 (F.step hex I1) V AC hc ht) fun r s' hq => ?_)
  cases r with
  | error e => exact (show False from hq).elim
  | ok fl =>
    cases fl with
    | ret u => exact (let ⟨v, H', J, rv, q⟩ := I1.after hq; ⟨v, H', J, rv, hQ _ _ q⟩)
    | next => exact False.elim hq
    | brk => exact False.elim hq
    | cont => exact False.elim hq
end
/-! a lambda handed to such a def -/
def tLamV (T : List (Addr × Str)) (q : Str) (TT : (XK → Hp → VK → Prop) → Hp → VK → Prop) (t : XK → TE) : TE := fun σ H Q => Tabs T H ∧ ∀ H1, ExtN H H1 → Tabs T H1 → TT (fun E H' Q' => t E σ H' Q') H1 Q
section
variable {X : Cx} {pins : List (Addr × Obj)} {σ : L2.St} {H : Hp} {s : Shared}
theorem lam_acts {f c' : Addr} {pm ctv : Value} {params : Arguments} {body : Expr} {scope : Scope} {k : Nat} {t : XK → TE} (I : Inv X pins σ H s) (L : LamS X.env.scope scope) (hf : s.heap.get? f = some (PySem.W.kla_obj "<lambda>" (X.env.qual ++ "<lambda>") params body scope (cloFrom X.env.cells scope.names []) pm c' ctv)) (hfn : H f = none) (hfr : f ∉ frs X.stack)
    (hbind : bindArgs (PySem.W.kla_fn "<lambda>" (X.env.qual ++ "<lambda>") params body scope (cloFrom X.env.cells scope.names []) pm (.ref c') ctv) ⟨[], []⟩ = pure [])
    (hbody : ∀ (A : Around) (outer : List Env) (s : Shared) (H : Hp) (E : XK), Room k (A.deeper (lamEnv X scope s.heap.objs.size f c')) → PE (lamCx X A outer s H E scope f c') body (t E)) :
    FunV (frs X.stack) s H f ∧ Acts X.prog X.w X.K X.mg X.base (frs X.stack) s H (k + 1) f (fun HZ => HZ c' = some (CodeO c' (X.env.qual ++ "<lambda>"))) (fun E H' Q' => t E σ H' Q') := by
  refine ⟨⟨⟨_, _, _, _, hf⟩, hfn, hfr⟩, fun A outer s1 HZ Q E hr e0 FR hc ht => ?_⟩
  have of1 := FR.un.keep f _ hf hfn hfr (by simp)
  obtain ⟨⟨oc, vs, t', hoc, hdc, hvc⟩, _, _⟩ := e0.hok c' _ hc
  have lim : s1.heap.NoLimit := e0.mod.nolimit.keeps fun b o e => (e0.bs b o e).1
  refine PySem.W.kla_callFunE hr.depth of1 rfl L.co L.gen rfl ⟨c', oc, vs, t', rfl, hoc, hdc, hvc⟩ ?_
  rw [hbind]
  refine wpAny_pure (wpAny_newFunctionEnv (fun y hy => (L.own y hy).2) (fun y hy => absurd hy (by simp)) (fun h₁ hns hsb => ⟨lim.fresh _ hsb, ?_⟩) L.kind)
  show codeAny _ _ (.expr body (lamEnv X scope s1.heap.objs.size f c')) _ _
  have kp : ∀ b o, s1.heap.get? b = some o → h₁.get? b = some o := fun b o e => hsb.extBut b o (Nat.ne_of_lt (Heap.lt_size e)) (Heap.get?_push_of_some _ e)
  have J : Inv (lamCx X A outer s1 HZ E scope f c') [] σ HZ { s1 with heap := h₁, toks := s1.toks + ([] : List (Str × Value)).length } :=
    lam_start2 I L e0 hr.hd FR.un hns kp
  refine PySem.W.kla_codeExpr (wpAny_mono ((hbody _ _ s1 HZ E (hr.deeper _)).run [] _ _ HZ Q J ht) (fun v s' hq => ?_) fun e s' hq => hq)
  obtain ⟨w', H', J', rv, q⟩ := hq
  exact ⟨w', H', J'.os, J'.bare, J'.base, J'.hok, rv, q⟩
theorem pe_lamV {T : List (Addr × Str)} {TT : (XK → Hp → VK → Prop) → Hp → VK → Prop} {x : Str} {g c P : Addr} {j k : Nat} {params : Arguments} {body : Expr} {scope : Scope} {t : XK → TE} {p lpos pos : Pos} (hg : Gl X x) (hm : X.mg x = some (.ref g)) (hk : PySem.W.keepIn X.K (.ref g) = true)
    (hG : TakesV X.prog X.w X.K X.mg X.base j g TT) (TB : TabB X.base X.mg c P) (hcode : X.env.code = .ref c) (hmT : (P, X.env.qual ++ "<lambda>") ∈ T) (hu : ∀ p ∈ T, p.1 = P → p.2 = X.env.qual ++ "<lambda>") (hr : Room (k + 1 + j) X.A) (L : LamS X.env.scope scope) (hdef : defaultsOf params X.env = ([], []))
    (hbind : ∀ (q : Str) (cl : List (Str × Addr)) (pm cv ctv : Value), bindArgs (PySem.W.kla_fn "<lambda>" q params body scope cl pm cv ctv) ⟨[], []⟩ = pure [])
    (hbody : ∀ (A : Around) (outer : List Env) (s : Shared) (H : Hp) (E : XK) (f c' : Addr), Room k (A.deeper (lamEnv X scope s.heap.objs.size f c')) → PE (lamCx X A outer s H E scope f c') body (t E))
    (hdb : (x == ("__debug__" : Str)) = false := by decide) :
    PE X (.Call (.Name x p) [.Lambda params body scope lpos] [] pos) (tLamV T (X.env.qual ++ "<lambda>") TT t) := by
  refine ⟨fun pins s σ H Q I h => ?_⟩
  obtain ⟨hT, h⟩ := h
  refine wpAny_Call_Name_kw (ld_glob I hg hm ?_ hdb)
  refine PySem.W.callWith_K (h₀ := X.base) I.ok.mod.kin hk ?_ (by rfl) (by rfl)
  show wpAny _ _ (spliced ((false, eval (.Lambda params body scope lpos) X.env) :: backTo pos (starEach [] X.env))) _ _ s
  refine Calls.spliced_cons (lam_make2 I TB hcode hmT hu hT hdef (L.has I.ok) fun f c' pm' ctv H1 s' I1 eN T1 hf hfn hfr hco => ?_)
  refine Calls.spliced_nil ⟨I1.kIn, ?_⟩
  obtain ⟨V, AC⟩ := lam_acts I1 L hf hfn hfr (hbind _ _ _ _ _) fun A outer s H E hr2 => hbody A outer s H E f c' hr2
  refine wpAny_call (codeAny_mono (hG (k + 1) _ s' H1 f _ _ X.A X.stack s' H1 Q hr I1.env0 (From.refl _ _ _) V AC hco (h H1 eN T1)) fun r s2 hq => ?_)
  cases r with
  | error e => exact (show False from hq).elim
  | ok fl =>
    cases fl with
    | ret u => exact I1.after hq
    | next => exact False.elim hq
    | brk => exact False.elim hq
    | cont => exact False.elim hq
end
end K01


set_option Elab.async false
set_option maxRecDepth 100000
set_option maxHeartbeats 2000000
set_option linter.all false
namespace K01
open PySem PySem.Spec PyProof.Rows L2
/-! ### a list or a tuple, whichever it is -/
def SqA (K : PySem.W.Frag) (H : Hp) (a : Addr) (xs : List V) : Prop := SqL K H a xs ∨ SqT K H a xs
theorem sqt_same {K : PySem.W.Frag} {H H' : Hp} (s : Same H H') {a : Addr} {xs : List V} (h : SqT K H a xs) : SqT K H' a xs := by
  rcases h with (h | ⟨o, h⟩) | h
  · exact .inl (.inl (s _ _ h))
  · exact .inl (.inr ⟨o, s _ _ h⟩)
  · exact .inr h
theorem SqA.same {K : PySem.W.Frag} {H H' : Hp} {a : Addr} {xs : List V} (s : Same H H') (h : SqA K H a xs) : SqA K H' a xs := h.elim (fun h => .inl (s.seq h)) fun h => .inr (sqt_same s h)
/-- what stood at a stands there still -/
def Stay (K : PySem.W.Frag) (a : Addr) (H H' : Hp) : Prop := (∀ ys, SqL K H a ys → SqL K H' a ys) ∧ ∀ ys, SqT K H a ys → SqT K H' a ys
theorem Stay.of {K : PySem.W.Frag} {a : Addr} {H H' : Hp} (s : Same H H') : Stay K a H H' := ⟨fun _ h => s.seq h, fun _ h => sqt_same s h⟩
theorem Stay.sqa {K : PySem.W.Frag} {a : Addr} {H H' : Hp} (s : Stay K a H H') {xs : List V} (h : SqA K H a xs) : SqA K H' a xs := h.elim (fun h => .inl (s.1 _ h)) fun h => .inr (s.2 _ h)
/-- J walks the items xs that stood at a -/
def IsW (K : PySem.W.Frag) (a : Addr) (xs : List V) (H1 : Hp) (J : It) : Prop := ∀ i H, Stay K a H1 H → (∀ x, xs[i]? = some x → J.go i H) ∧ (∀ x H', J.yld i H x H' → H' = H ∧ xs[i]? = some x) ∧ (xs.length ≤ i → J.stop i H)
def iSeq (K : PySem.W.Frag) (tl : TE) : TI := fun σ H R => tl σ H fun x H1 => ∃ a xs, x = .ref a ∧ SqA K H1 a xs ∧ ∀ J, IsW K a xs H1 J → R J H1
section
variable {X : Cx}
theorem pi_seq {tg l : Expr} {tl : TE} (hl : PE X l tl) : PI X tg l (iSeq X.K tl) := by
  refine ⟨fun pins s σ H R I h => ?_⟩
  refine thn (hl.run pins s σ H _ I h) fun v s1 ⟨x, H1, I1, r1, q1⟩ => ?_
  obtain ⟨a, xs, rfl, hs, q⟩ := q1
  rcases hs with hs | hs
  · have w : IsW X.K a xs H1 (Itl X.K a) := fun i H st => ⟨fun x e => ⟨xs, x, st.1 _ hs, e⟩, fun x H' y => ⟨y.1, y.2 xs (st.1 _ hs)⟩, fun e => ⟨xs, st.1 _ hs, e⟩⟩
    cases r1
    obtain ⟨its, rv, p, hz⟩ := I1.list hs
    refine wpAny_pyIter_list p.isList ?_
    refine ⟨s1.heap.objs.size, [s1.heap.objs.size], _, _, H1, rfl, I1.kept (t' := s1.toks) fun b o e => Heap.get?_push_of_some _ e, turn_list a _, ⟨_, Heap.get?_push_size _ rfl, rfl, rfl⟩, fun b hb => ?_, q _ w⟩
    obtain rfl : b = s1.heap.objs.size := by simpa using hb
    exact I1.fpOk (Nat.le_refl _) (I1.hok.fresh (Nat.le_refl _))
  · have w : IsW X.K a xs H1 (Itt X.K a) := fun i H st => ⟨fun x e => ⟨xs, x, st.2 _ hs, e⟩, fun x H' y => ⟨y.1, y.2 xs (st.2 _ hs)⟩, fun e => ⟨xs, st.2 _ hs, e⟩⟩
    cases r1
    obtain ⟨its, rv, p, hz⟩ := I1.tuple hs
    refine wpAny_pyIter_tuple (show s1.heap.IsTuple a its.toArray from p) ?_
    refine ⟨s1.heap.objs.size, [s1.heap.objs.size], _, _, H1, rfl, I1.kept (t' := s1.toks) fun b o e => Heap.get?_push_of_some _ e, turn_tuple a _, ⟨_, Heap.get?_push_size _ rfl, rfl, rfl⟩, fun b hb => ?_, q _ w⟩
    obtain rfl : b = s1.heap.objs.size := by simpa using hb
    exact I1.fpOk (Nat.le_refl _) (I1.hok.fresh (Nat.le_refl _))
end
theorem for_seq {K : PySem.W.Frag} {a : Addr} {xs : List V} {H1 : Hp} {J : It} (Wk : IsW K a xs H1 J) {g : TG} {tb : TS} {D : Ends} {σ : L2.St} {H : Hp} (Pv : Nat → L2.St → Hp → Prop) (h0 : Pv 0 σ H) (hl : ∀ i σ H, i ≤ xs.length → Pv i σ H → Stay K a H1 H)
    (hs : ∀ i x σ H, xs[i]? = some x → Pv i σ H → g x σ H fun σ2 H2 => tb { D with nx := Pv (i + 1), ct := Pv (i + 1), bk := D.nx } σ2 H2) (hd : ∀ σ H, Pv xs.length σ H → D.nx σ H) :
    ∃ W : Nat → Nat → L2.St → Hp → Prop, (∃ m, W 0 m σ H) ∧ ∀ i m σ H, W i m σ H →
      (J.stop i H ∧ D.nx σ H) ∨ (J.go i H ∧ ∃ N : L2.St → Hp → Prop, (∀ σ' H', N σ' H' → ∃ m', m' < m ∧ W (i + 1) m' σ' H') ∧ ∀ x H', J.yld i H x H' → g x σ H' fun σ2 H2 => tb { D with nx := N, ct := N, bk := D.nx } σ2 H2) := by
  refine ⟨fun i m σ H => m + i = xs.length ∧ Pv i σ H, ⟨xs.length, rfl, h0⟩, fun i m σ H h => ?_⟩
  obtain ⟨hm, p⟩ := h
  obtain ⟨w1, w2, w3⟩ := Wk i H (hl i σ H (by omega) p)
  rcases Nat.lt_or_ge i xs.length with lt | ge
  · refine .inr ⟨w1 xs[i] (List.getElem?_eq_getElem lt), Pv (i + 1), fun σ' H' p' => ⟨m - 1, by omega, by omega, p'⟩, fun x H' y => ?_⟩
    obtain ⟨rfl, e⟩ := w2 x H' y
    exact hs i x σ _ e p
  · have e : i = xs.length := by omega
    subst e
    exact .inl ⟨w3 (Nat.le_refl _), hd σ H p⟩
theorem lc_seq {K : PySem.W.Frag} {a : Addr} {xs : List V} {H0 : Hp} {J : It} (Wk : IsW K a xs H0 J) {g : TG} {tt : TT} {te : TE} {vs : List Nat} {σ : L2.St} {H1 : Hp} {D : Addr} {Qd : Hp → Prop} (Pv : Nat → Hp → Prop) (h0 : Pv 0 (upd H1 D (.lst []))) (hl : ∀ i H, i ≤ xs.length → Pv i H → Stay K a H0 H)
    (hs : ∀ i x H, xs[i]? = some x → Pv i H → g x (wipe σ vs) H fun σ2 H2 => wipe σ2 vs = wipe σ vs ∧ tt σ2 H2 fun b H3 =>
      if b = true then te σ2 H3 fun y H4 => ∃ acc, H4 D = some (.lst acc) ∧ acc.length < sizeLine ∧ Pv (i + 1) (upd H4 D (.lst (acc ++ [y]))) else Pv (i + 1) H3) (hd : ∀ H, Pv xs.length H → Qd H) :
    ∃ W : Nat → Nat → Hp → Prop, (∃ m, W 0 m (upd H1 D (.lst []))) ∧ ∀ i m H, W i m H →
      (J.stop i H ∧ Qd H) ∨ (J.go i H ∧ ∃ Nx : Hp → Prop, (∀ H', Nx H' → ∃ m', m' < m ∧ W (i + 1) m' H') ∧ ∀ x H', J.yld i H x H' → g x (wipe σ vs) H' fun σ2 H2 => wipe σ2 vs = wipe σ vs ∧ tt σ2 H2 fun b H3 =>
        if b = true then te σ2 H3 fun y H4 => ∃ acc, H4 D = some (.lst acc) ∧ acc.length < sizeLine ∧ Nx (upd H4 D (.lst (acc ++ [y]))) else Nx H3) := by
  refine ⟨fun i m H => m + i = xs.length ∧ Pv i H, ⟨xs.length, rfl, h0⟩, fun i m H h => ?_⟩
  obtain ⟨hm, p⟩ := h
  obtain ⟨w1, w2, w3⟩ := Wk i H (hl i H (by omega) p)
  rcases Nat.lt_or_ge i xs.length with lt | ge
  · refine .inr ⟨w1 xs[i] (List.getElem?_eq_getElem lt), Pv (i + 1), fun H' p' => ⟨m - 1, by omega, by omega, p'⟩, fun x H' y => ?_⟩
    obtain ⟨rfl, e⟩ := w2 x H' y
    exact hs i x _ e p
  · have e : i = xs.length := by omega
    subst e
    exact .inl ⟨w3 (Nat.le_refl _), hd H p⟩
/-! ### x is True -/
def rIsT : R2 := fun x y H Q => ∃ b : Bool, y = .bl b ∧ ((∃ i, x = .int i ∧ Q (.bl false) H) ∨ ∃ c : Bool, x = .bl c ∧ Q (.bl (decide (c = b))) H)
theorem op_isT {X : Cx} : OpR X (compareOp .Is) rIsT := by
  intro pins s σ H x y v u Q I rx ry h
  obtain ⟨b, rfl, h⟩ := h
  cases (show u = Value.bool b from ry)
  rcases h with ⟨i, rfl, q⟩ | ⟨c, rfl, q⟩
  · obtain ⟨t, e⟩ := (show ∃ t, v = Value.int i t from rx)
    subst e
    exact wpAny_is_other rfl (fun z => by cases z) ⟨.bl false, H, I, rfl, q⟩
  · cases (show v = Value.bool c from rx)
    by_cases e : c = b
    · subst e
      exact wpAny_is_self rfl ⟨.bl true, H, I, rfl, by simpa using q⟩
    · exact wpAny_is_other rfl (fun z => e (Value.bool.inj z)) ⟨.bl false, H, I, rfl, by simpa [e] using q⟩
/-! ### own errors without an __init__ -/
/-- what the text says of such a class -/
structure PlX (K : PySem.W.Frag) (mg : Str → Option Value) (x : Str) (C : Addr) : Prop where
  q : PySem.W.excIn K C [.type "ValueError", .type "Exception", .type "BaseException", .type "object"] "ValueError.__new__" = true
  g : mg x = some (.ref C)
  k : PySem.W.keepIn K (.ref C) = true
  s : PySem.W.subIn K (.ref C) (.type "BaseException") = some true
  t : PySem.W.typeIn K (.ref C) = some (.type "type")
/-- the way out: this error -/
def Rp (C : Addr) (H : Hp) (E : XK) : Prop := ∀ H', Same H H' → E (.ref C) none H'
theorem Rp.same {C : Addr} {H H' : Hp} {E : XK} (s : Same H H') (h : Rp C H E) : Rp C H' E := fun H2 s2 => h H2 (s.trans s2)
end K01


set_option Elab.async false
set_option maxRecDepth 100000
set_option maxHeartbeats 2000000
set_option linter.all false
namespace K01
open PySem PySem.Spec PyProof.Rows L2
abbrev sIsPrime : Stmt := top 12
abbrev sCheckP : Stmt := top 13
abbrev sLines : Stmt := top 14
theorem scIsPrime : FnScope ["thing"] ["thing"] (defScope sIsPrime) := ⟨rfl, rfl, rfl, by decide +kernel, rfl, by decide +kernel, by decide +kernel⟩
theorem scCheckP : FnScope ["prime"] ["prime"] (defScope sCheckP) := ⟨rfl, rfl, rfl, by decide +kernel, rfl, by decide +kernel, by decide +kernel⟩
theorem scLines : FnScope ["thing", "tall", "wide", "line", "number"] ["thing", "tall", "wide"] (defScope sLines) := ⟨rfl, rfl, rfl, by decide +kernel, rfl, by decide +kernel, by decide +kernel⟩
def primes : List Int := [2, 3, 5, 7, 11, 13, 17, 19, 23, 29, 31, 37, 41, 43, 47, 53, 59, 61, 67, 71, 73, 79, 83, 89, 97]
/-- what is no number, or a number -/
inductive NuJ (K : PySem.W.Frag) (H : Hp) : V → Option Int → Prop
  | int (i : Int) : NuJ K H (.int i) (some i)
  | bl (b : Bool) : NuJ K H (.bl b) none
  | no {x : V} {t : Value} (h : TyX K H x t) (z : PySem.W.kitOne K t (.type "int") = some false) {c : Bool} (zb : PySem.W.kitOne K t (.type "bool") = some c) : NuJ K H x none
theorem NuJ.same {K : PySem.W.Frag} {H H' : Hp} (s : Same H H') {x : V} {o : Option Int} : NuJ K H x o → NuJ K H' x o
  | .int i => .int i
  | .bl b => .bl b
  | .no h z zb => .no (TyX.same s h) z zb
theorem nu_isnum {K : PySem.W.Frag} {H : Hp} {x : V} {o : Option Int} {Q : VK} {E : XK} (h : NuJ K H x o) (q : Q (.bl o.isSome) H) : spIsNum K [x] H Q E := by
  cases h with
  | int i => exact ⟨_, _, true, false, rfl, .base (.int i), (num_int K).1, (num_int K).2, q⟩
  | bl b => exact ⟨_, _, true, true, rfl, .base (.bl b), (num_bool K).1, (num_bool K).2, q⟩
  | no h z zb => exact ⟨_, _, false, _, rfl, h, z, zb, q⟩
theorem nu_isnumto {K : PySem.W.Frag} {H : Hp} {x : V} {o : Option Int} {m : Int} {Q : VK} {E : XK} (h : NuJ K H x o) (q : Q (.bl (match o with | some i => decide (0 ≤ i ∧ i ≤ m) | none => false)) H) : spIsNumTo K [x, .int m] H Q E := by
  cases h with
  | int i => exact ⟨_, _, true, false, m, rfl, .base (.int i), (num_int K).1, (num_int K).2, .inr ⟨rfl, i, rfl, q⟩⟩
  | bl b => exact ⟨_, _, true, true, m, rfl, .base (.bl b), (num_bool K).1, (num_bool K).2, .inl ⟨rfl, q⟩⟩
  | no h z zb => exact ⟨_, _, false, _, m, rfl, h, z, zb, .inl ⟨rfl, q⟩⟩
/-- what the text says of PRIMES and GREATEST -/
structure ConT (K : PySem.W.Frag) (mg : Str → Option Value) where
  aP : Addr
  tk : Nat
  gP : mg "PRIMES" = some (.ref aP)
  sP : ∀ H : Hp, SqT K H aP (primes.map V.int)
  gG : mg "GREATEST" = some (.int 60 tk)
def isP (o : Option Int) : Bool := match o with | some i => decide (i ∈ primes) | none => false
def spIsPrime (K : PySem.W.Frag) : Sp := fun vs H Q _ => ∃ (x : V) (o : Option Int), vs = [x] ∧ NuJ K H x o ∧ Q (.bl (isP o)) H
theorem inV_ints (h : Int) (l : List Int) : inV (.int h) (l.map V.int) = decide (h ∈ l) := by
  unfold inV
  induction l with
  | nil => simp
  | cons x r ih =>
    rw [List.map_cons, List.any_cons, ih]
    by_cases c : x = h
    · subst c; simp [eqV]
    · have c' : ¬ h = x := fun e => c e.symm
      simp [eqV, c, c']
theorem flat_ints (l : List Int) : (l.map V.int).all flatV = true := by
  rw [List.all_map]
  exact List.all_eq_true.mpr fun x _ => rfl
section
variable {P : Program} {w : World} {K : PySem.W.Frag} {mg : Str → Option Value} {base : Heap}
theorem ok_isprime {f fN : Addr} {fd fdN : FuncData} (F : Fun K "is_prime" "is_prime" sIsPrime f fd) (GN : FnOk P w K mg base CX0 1 fN fdN ["thing"] (spIsNum K)) (kN : PySem.W.keepIn K (.ref fN) = true) (bN : L2.Binds K fdN ["thing"] []) (gN : mg "is_number" = some (.ref fN)) (C : ConT K mg) : FnOk P w K mg base CX0 2 f fd ["thing"] (spIsPrime K) := by
  refine F.ok scIsPrime (fun vs H Q E h => ?_) (fun cdv A outer s H vs Q E hr h => ?_)
  · obtain ⟨x, o, rfl, _⟩ := h
    rfl
  · obtain ⟨x, o, rfl, hx, k⟩ := h
    have nd := scIsPrime.nd
    refine ⟨_, pss_one (ps_ret (pe_and (pe_call GN hr (by rfl) gN kN bN .nil pass0 (pa_cons (pv 0) pa_nil)) (pe_one (pe_cmpR op_in_seq (pv 0) (pe_glob (v := .ref C.aP) (by rfl) C.gP rfl) rfl)))), ?_⟩
    refine ⟨_, rfl, ?_⟩
    dsimp only [tNil, List.cons_append, List.nil_append]
    refine nu_isnum hx ⟨_, rfl, ?_⟩
    cases hx with
    | int i =>
      refine iteT ?_
      refine ⟨_, rfl, C.aP, _, rfl, .inr (C.sP H), rfl, flat_ints _, ?_⟩
      rw [inV_ints]
      exact k
    | bl b =>
      refine iteF ?_
      exact k
    | no _ _ _ =>
      refine iteF ?_
      exact k
def spCheckP (K : PySem.W.Frag) (CP : Addr) : Sp := fun vs H Q E => ∃ (x : V) (o : Option Int), vs = [x] ∧ NuJ K H x o ∧ ((isP o = true ∧ Q .non H) ∨ (isP o = false ∧ Rp CP H E))
theorem ok_checkp {f fN CP : Addr} {fd fdN : FuncData} (F : Fun K "check_prime" "check_prime" sCheckP f fd) (GN : FnOk P w K mg base CX0 2 fN fdN ["thing"] (spIsPrime K)) (kN : PySem.W.keepIn K (.ref fN) = true) (bN : L2.Binds K fdN ["thing"] []) (gN : mg "is_prime" = some (.ref fN)) (B : PlX K mg "BadPrime" CP) : FnOk P w K mg base (L2.CX P w) 3 f fd ["prime"] (spCheckP K CP) := by
  refine F.okX scCheckP (fun vs H Q E h => ?_) (fun cdv A outer s H vs Q E hr h => ?_)
  · obtain ⟨x, o, rfl, _⟩ := h
    rfl
  · obtain ⟨x, o, rfl, hx, k⟩ := h
    have nd := scCheckP.nd
    refine ⟨_, pss_one (ps_if (pt_not (pt_val (pe_call GN hr (by rfl) gN kN bN .nil pass0 (pa_cons (pv 0) pa_nil))))
      (pss_one (ps_raise rfl (takes_of rfl rfl rfl rfl) (pmk_own PySem.F.excBase_ValueError B.q B.g B.k (raises_own B.s B.t) (by rfl)))) pss_nil), ?_⟩
    refine ⟨_, rfl, ?_⟩
    refine ⟨x, o, rfl, hx, _, rfl, ?_⟩
    rcases k with ⟨e, k⟩ | ⟨e, k⟩
    · rw [e]
      refine iteF ?_
      exact k
    · rw [e]
      refine iteT ?_
      exact k H (Same.refl _)
end
end K01


set_option Elab.async false
set_option maxRecDepth 100000
set_option maxHeartbeats 2000000
set_option linter.all false
namespace K01
open PySem PySem.Spec PyProof.Rows L2
theorem kit_list (K : PySem.W.Frag) : PySem.W.kitAny K (.type "list") [.type "list", .type "tuple"] = some true := by kernel_rfl
theorem kit_tup (K : PySem.W.Frag) : PySem.W.kitAny K (.type "tuple") [.type "list", .type "tuple"] = some true := by kernel_rfl
theorem ty_sqa {K : PySem.W.Frag} {H : Hp} {a : Addr} {xs : List V} (h : SqA K H a xs) : ∃ t, TyX K H (.ref a) t ∧ PySem.W.kitAny K t [.type "list", .type "tuple"] = some true := by
  rcases h with h | h
  · exact ⟨_, ty_lst h, kit_list K⟩
  · exact ⟨_, ty_tup h, kit_tup K⟩
/-- all of them, if none lacks -/
def allO {α : Type} : List (Option α) → Option (List α)
  | [] => some []
  | some x :: r => (allO r).map (x :: ·)
  | none :: _ => none
theorem allO_take {α : Type} {os : List (Option α)} {i : Nat} (h : os[i]? = some none) : allO os = none := by
  induction os generalizing i with
  | nil => simp at h
  | cons o r ih =>
    cases i with
    | zero =>
      rw [List.getElem?_cons_zero] at h
      cases h
      rfl
    | succ i =>
      rw [List.getElem?_cons_succ] at h
      cases o with
      | none => rfl
      | some x => show (allO r).map _ = none; rw [ih h]; rfl
theorem allO_all {α : Type} {os : List (Option α)} (h : ∀ (i : Nat) (o : Option α), os[i]? = some o → o.isSome = true) : (allO os).isSome = true := by
  induction os with
  | nil => rfl
  | cons o r ih =>
    have h0 := h 0 o rfl
    cases o with
    | none => cases h0
    | some x =>
      have := ih fun i o e => h (i + 1) o e
      show ((allO r).map _).isSome = true
      rw [Option.isSome_map]
      exact this
inductive NuL (K : PySem.W.Frag) (H : Hp) : List V → List (Option Int) → Prop
  | nil : NuL K H [] []
  | cons {x : V} {xs : List V} {o : Option Int} {os : List (Option Int)} (h : NuJ K H x o) (r : NuL K H xs os) : NuL K H (x :: xs) (o :: os)
theorem NuL.at {K : PySem.W.Frag} {H : Hp} : ∀ {xs : List V} {os : List (Option Int)} {i : Nat} {x : V}, NuL K H xs os → xs[i]? = some x → ∃ o, os[i]? = some o ∧ NuJ K H x o
  | _, _, _, _, .nil, e => by simp at e
  | _, _, 0, _, .cons h r, e => by cases e; exact ⟨_, rfl, h⟩
  | _, _, i + 1, _, .cons h r, e => NuL.at (i := i) r e
theorem NuL.len {K : PySem.W.Frag} {H : Hp} : ∀ {xs : List V} {os : List (Option Int)}, NuL K H xs os → os.length = xs.length
  | _, _, .nil => rfl
  | _, _, .cons _ r => by rw [List.length_cons, List.length_cons, r.len]
theorem NuL.same {K : PySem.W.Frag} {H H' : Hp} (s : Same H H') : ∀ {xs : List V} {os : List (Option Int)}, NuL K H xs os → NuL K H' xs os
  | _, _, .nil => .nil
  | _, _, .cons h r => .cons (h.same s) (r.same s)
theorem nul_ints {K : PySem.W.Frag} {H : Hp} : ∀ l : List Int, NuL K H (l.map V.int) (l.map some)
  | [] => .nil
  | i :: l => .cons (.int i) (nul_ints l)
theorem allO_some {α : Type} : ∀ l : List α, allO (l.map some) = some l
  | [] => rfl
  | x :: l => by show (allO (l.map some)).map _ = _; rw [allO_some l]; rfl
/-- a line of w numbers, or none -/
inductive RowJ (K : PySem.W.Frag) (H : Hp) (w : Nat) : V → Option (List Int) → Prop
  | no {x : V} {t : Value} (h : TyX K H x t) (z : PySem.W.kitAny K t [.type "list", .type "tuple"] = some false) : RowJ K H w x none
  | len {a : Addr} {ys : List V} (h : SqA K H a ys) (z : ys.length ≠ w) : RowJ K H w (.ref a) none
  | row {a : Addr} {ys : List V} {os : List (Option Int)} (h : SqA K H a ys) (l : ys.length = w) (n : NuL K H ys os) : RowJ K H w (.ref a) (allO os)
theorem RowJ.same {K : PySem.W.Frag} {H H' : Hp} (s : Same H H') {w : Nat} {x : V} {o : Option (List Int)} : RowJ K H w x o → RowJ K H' w x o
  | .no h z => .no (TyX.same s h) z
  | .len h z => .len (h.same s) z
  | .row h l n => .row (h.same s) l (n.same s)
theorem RowJ.ints {K : PySem.W.Frag} {H : Hp} {w : Nat} {a : Addr} {l : List Int} (h : SqA K H a (l.map V.int)) (e : l.length = w) : RowJ K H w (.ref a) (some l) := by
  have := RowJ.row (w := w) h (by rw [List.length_map]; exact e) (nul_ints l)
  rw [allO_some] at this
  exact this
inductive RowL (K : PySem.W.Frag) (H : Hp) (w : Nat) : List V → List (Option (List Int)) → Prop
  | nil : RowL K H w [] []
  | cons {x : V} {xs : List V} {o : Option (List Int)} {os : List (Option (List Int))} (h : RowJ K H w x o) (r : RowL K H w xs os) : RowL K H w (x :: xs) (o :: os)
theorem RowL.at {K : PySem.W.Frag} {H : Hp} {w : Nat} : ∀ {xs : List V} {os : List (Option (List Int))} {i : Nat} {x : V}, RowL K H w xs os → xs[i]? = some x → ∃ o, os[i]? = some o ∧ RowJ K H w x o
  | _, _, _, _, .nil, e => by simp at e
  | _, _, 0, _, .cons h r, e => by cases e; exact ⟨_, rfl, h⟩
  | _, _, i + 1, _, .cons h r, e => RowL.at (i := i) r e
theorem RowL.len {K : PySem.W.Frag} {H : Hp} {w : Nat} : ∀ {xs : List V} {os : List (Option (List Int))}, RowL K H w xs os → os.length = xs.length
  | _, _, .nil => rfl
  | _, _, .cons _ r => by rw [List.length_cons, List.length_cons, r.len]
theorem RowL.same {K : PySem.W.Frag} {H H' : Hp} (s : Same H H') {w : Nat} : ∀ {xs : List V} {os : List (Option (List Int))}, RowL K H w xs os → RowL K H' w xs os
  | _, _, .nil => .nil
  | _, _, .cons h r => .cons (h.same s) (r.same s)
/-- t lines of w numbers, or none -/
inductive LnJ (K : PySem.W.Frag) (H : Hp) (t w : Nat) : V → Option (List (List Int)) → Prop
  | no {x : V} {ty : Value} (h : TyX K H x ty) (z : PySem.W.kitAny K ty [.type "list", .type "tuple"] = some false) : LnJ K H t w x none
  | len {a : Addr} {ys : List V} (h : SqA K H a ys) (z : ys.length ≠ t) : LnJ K H t w (.ref a) none
  | lns {a : Addr} {ys : List V} {os : List (Option (List Int))} (h : SqA K H a ys) (l : ys.length = t) (n : RowL K H w ys os) : LnJ K H t w (.ref a) (allO os)
theorem LnJ.same {K : PySem.W.Frag} {H H' : Hp} (s : Same H H') {t w : Nat} {x : V} {o : Option (List (List Int))} : LnJ K H t w x o → LnJ K H' t w x o
  | .no h z => .no (TyX.same s h) z
  | .len h z => .len (h.same s) z
  | .lns h l n => .lns (h.same s) l (n.same s)
def spLines (K : PySem.W.Frag) : Sp := fun vs H Q _ => ∃ (x : V) (t w : Nat) (o : Option (List (List Int))), vs = [x, .int t, .int w] ∧ LnJ K H t w x o ∧ ∀ H', Same H H' → Q (.bl o.isSome) H'
section
variable {P : Program} {w : World} {K : PySem.W.Frag} {mg : Str → Option Value} {base : Heap}
theorem ok_lines {f fL : Addr} {fd fdL : FuncData} (F : Fun K "_are_lines" "_are_lines" sLines f fd) (GL : FnOk P w K mg base CX0 1 fL fdL ["thing"] (spIsList K)) (kL : PySem.W.keepIn K (.ref fL) = true) (bL : L2.Binds K fdL ["thing"] []) (gL : mg "is_list" = some (.ref fL))
    (mIs : mg "isinstance" = none) (mInt : mg "int" = none) (mLen : mg "len" = none) : FnOk P w K mg base CX0 2 f fd ["thing", "tall", "wide"] (spLines K) := by
  refine F.ok scLines (fun vs H Q E h => ?_) (fun cdv A outer s H vs Q E hr h => ?_)
  · obtain ⟨x, t, wd, o, rfl, _⟩ := h
    rfl
  · obtain ⟨x, t, wd, o, rfl, hx, k⟩ := h
    have nd := scLines.nd
    refine ⟨_, pss_cons (ps_if (PW.pt (pw_or (pt_not (pt_val (pe_call GL hr (by rfl) gL kL bL .nil pass0 (pa_cons (pv 0) pa_nil)))) (pw_or1 (pt_cmpR op_ne (pe_callB call_len_seq (by rfl) mLen PySem.boot_len (pa_cons (pv 0) pa_nil)) (pv 1) (nomark _)))))
        (pss_one (ps_ret pe_bl)) pss_nil)
      (pss_cons (ps_for PassesOwn.never rfl (pi_seq (pv 0)) (pg_name (i := 3) nd rfl (Or.inl rfl))
        (pss_cons (ps_if (PW.pt (pw_or (pt_not (pt_val (pe_call GL hr (by rfl) gL kL bL .nil pass0 (pa_cons (pv 3) pa_nil)))) (pw_or1 (pt_cmpR op_ne (pe_callB call_len_seq (by rfl) mLen PySem.boot_len (pa_cons (pv 3) pa_nil)) (pv 2) (nomark _)))))
          (pss_one (ps_ret pe_bl)) pss_nil)
        (pss_one (ps_for PassesOwn.never rfl (pi_seq (pv 3)) (pg_name (i := 4) nd rfl (Or.inl rfl))
          (pss_one (ps_if (PW.pt (pw_or (pt_not (pt_val (pe_callB call_isi (by rfl) mIs (by decide +kernel) (pa_cons (pv 4) (pa_cons (pe_bltn (v := .ty "int") (by rfl) mInt (by decide +kernel) rfl) pa_nil))))) (pw_or (pt_cmpR op_isT (pv 4) pe_bl (nomark _)) (pw_or1 (pt_cmpR op_isT (pv 4) pe_bl (nomark _))))))
            (pss_one (ps_ret pe_bl)) pss_nil))))))
      (pss_one (ps_ret pe_bl))), ?_⟩
    cases hx with
    | @no x ty ht hk =>
      refine ⟨_, rfl, _, ty, false, rfl, ht, hk, fun H1 s1 => ⟨_, rfl, ?_⟩⟩
      refine iteT ?_
      refine iteT ?_
      exact k H1 s1
    | @len a ys hs hz =>
      obtain ⟨ty, ht, hk⟩ := ty_sqa hs
      refine ⟨_, rfl, _, ty, true, rfl, ht, hk, fun H1 s1 => ⟨_, rfl, ?_⟩⟩
      refine iteF ?_
      refine ⟨_, rfl, a, ys, rfl, hs.same s1, _, rfl, rfl, _, rfl, ?_⟩
      have z2 : ¬ (V.int (ys.length : Int) = V.int (t : Int)) := fun z => hz (by have := V.int.inj z; omega)
      refine (if_pos (by rw [decide_eq_false z2]; rfl)).mpr ?_
      exact k H1 s1
    | @lns a ys os hs hl hn =>
      obtain ⟨ty, ht, hk⟩ := ty_sqa hs
      refine ⟨_, rfl, _, ty, true, rfl, ht, hk, fun H1 s1 => ⟨_, rfl, ?_⟩⟩
      refine iteF ?_
      refine ⟨_, rfl, a, ys, rfl, hs.same s1, _, rfl, rfl, _, rfl, ?_⟩
      refine iteNS (by rw [hl]) ?_
      refine ⟨_, rfl, a, ys, rfl, hs.same s1, fun J hJ => ?_⟩
      refine for_seq hJ (fun i σ Hx => ∃ v3 v4 : Option V, σ = [some (.ref a), some (.int t), some (.int wd), v3, v4] ∧ (∀ (j : Nat) (o : Option (List Int)), j < i → os[j]? = some o → o.isSome = true) ∧ Same H1 Hx) ⟨none, none, rfl, fun j o hj => by omega, Same.refl _⟩ (fun i σ Hx _ hh => by obtain ⟨_, _, _, _, s⟩ := hh; exact .of s) ?_ ?_
      · rintro i y σ Hx hi ⟨v3, v4, rfl, hb, sx⟩
        obtain ⟨o, eo, jo⟩ := hn.at hi
        have jx := jo.same (s1.trans sx)
        cases jx with
        | @no y ty2 ht2 hk2 =>
          refine ⟨_, rfl, _, ty2, false, rfl, ht2, hk2, fun H2 s2 => ⟨_, rfl, ?_⟩⟩
          refine iteT ?_
          refine iteT ?_
          have := k H2 (s1.trans (sx.trans s2))
          rw [allO_take eo] at this
          exact this
        | @len a2 zs hz hzl =>
          obtain ⟨ty2, ht2, hk2⟩ := ty_sqa hz
          refine ⟨_, rfl, _, ty2, true, rfl, ht2, hk2, fun H2 s2 => ⟨_, rfl, ?_⟩⟩
          refine iteF ?_
          refine ⟨_, rfl, a2, zs, rfl, hz.same s2, _, rfl, rfl, _, rfl, ?_⟩
          have z2 : ¬ (V.int (zs.length : Int) = V.int (wd : Int)) := fun z => hzl (by have := V.int.inj z; omega)
          refine (if_pos (by rw [decide_eq_false z2]; rfl)).mpr ?_
          have := k H2 (s1.trans (sx.trans s2))
          rw [allO_take eo] at this
          exact this
        | @row a2 zs ns hz hzl hn2 =>
          obtain ⟨ty2, ht2, hk2⟩ := ty_sqa hz
          refine ⟨_, rfl, _, ty2, true, rfl, ht2, hk2, fun H2 s2 => ⟨_, rfl, ?_⟩⟩
          refine iteF ?_
          refine ⟨_, rfl, a2, zs, rfl, hz.same s2, _, rfl, rfl, _, rfl, ?_⟩
          refine iteNS (by rw [hzl]) ?_
          have sx2 := sx.trans s2
          refine ⟨_, rfl, a2, zs, rfl, hz.same s2, fun J2 hJ2 => ?_⟩
          refine for_seq hJ2 (fun j σ Hy => ∃ v4 : Option V, σ = [some (.ref a), some (.int t), some (.int wd), some (.ref a2), v4] ∧ (∀ (j' : Nat) (o : Option Int), j' < j → ns[j']? = some o → o.isSome = true) ∧ Same H2 Hy) ⟨v4, rfl, fun j o hj => by omega, Same.refl _⟩ (fun i σ Hx _ hh => by obtain ⟨_, _, _, s⟩ := hh; exact .of s) ?_ ?_
          · rintro j z σ Hy hj ⟨v4, rfl, hb2, sy⟩
            obtain ⟨o2, eo2, jo2⟩ := hn2.at hj
            have jy := jo2.same (s2.trans sy)
            have bad : o2 = none → Q (.bl false) Hy := fun e => by
              have := k Hy (s1.trans (sx2.trans sy))
              rw [allO_take (show os[i]? = some none by rw [eo, allO_take (by rw [eo2, e])])] at this
              exact this
            cases jy with
            | int n =>
              refine ⟨_, rfl, _, _, _, _, true, rfl, .ty "int", .base (.int n), (num_int K).1, _, rfl, ?_⟩
              refine iteF ?_
              refine ⟨_, rfl, true, rfl, .inl ⟨n, rfl, _, rfl, ?_⟩⟩
              refine iteF ?_
              refine ⟨_, rfl, false, rfl, .inl ⟨n, rfl, _, rfl, ?_⟩⟩
              refine iteF ?_
              refine ⟨_, rfl, fun j' o' hj' e' => ?_, sy⟩
              by_cases c : j' = j
              · subst c
                rw [eo2] at e'
                cases e'
                rfl
              · exact hb2 j' o' (by omega) e'
            | bl b =>
              refine ⟨_, rfl, _, _, _, _, true, rfl, .ty "int", .base (.bl b), (num_bool K).1, _, rfl, ?_⟩
              refine iteF ?_
              refine ⟨_, rfl, true, rfl, .inr ⟨b, rfl, _, rfl, ?_⟩⟩
              cases b with
              | true =>
                refine iteT ?_
                refine iteT ?_
                exact bad rfl
              | false =>
                refine iteF ?_
                refine ⟨_, rfl, false, rfl, .inr ⟨false, rfl, _, rfl, ?_⟩⟩
                refine iteT ?_
                exact bad rfl
            | @no z ty3 ht3 hk3 c hz3 =>
              refine ⟨_, rfl, _, _, _, _, false, rfl, .ty "int", ht3, hk3, _, rfl, ?_⟩
              refine iteT ?_
              refine iteT ?_
              exact bad rfl
          · rintro σ Hy ⟨v4, rfl, hb2, sy⟩
            refine ⟨_, _, rfl, fun j' o' hj' e' => ?_, sx2.trans sy⟩
            by_cases c : j' = i
            · subst c
              rw [eo] at e'
              cases e'
              exact allO_all fun i2 o2 e2 => hb2 i2 o2 (by
                rw [← hn2.len]
                exact (List.getElem?_eq_some_iff.mp e2).1) e2
            · exact hb j' o' (by omega) e'
      · rintro σ Hx ⟨v3, v4, rfl, hb, sx⟩
        have := k Hx (s1.trans sx)
        rw [allO_all fun i2 o2 e2 => hb i2 o2 (by
          rw [← hn.len]
          exact (List.getElem?_eq_some_iff.mp e2).1) e2] at this
        exact this
end
end K01


set_option Elab.async false
set_option maxRecDepth 100000
set_option maxHeartbeats 2000000
set_option linter.all false
namespace K01
open PySem PySem.Spec PyProof.Rows L2
def Sm (H H' : Hp) : Prop := ∀ b o, H b = some o → (∀ C dx fs, o ≠ .ins C dx fs) → H' b = some o
theorem Sm.of {H H' : Hp} (s : Same H H') : Sm H H' := fun b o e _ => s b o e
theorem Sm.put {H : Hp} {x C dx : Addr} {fs : List (Str × V)} {o : HO} (h : H x = some (.ins C dx fs)) : Sm H (upd H x o) := fun b u e n => by
  have hb : b ≠ x := fun z => by
    rw [z, h] at e
    exact n _ _ _ (Option.some.inj e).symm
  rw [upd_ne hb]
  exact e
theorem Sm.trans {H H1 H2 : Hp} (a : Sm H H1) (b : Sm H1 H2) : Sm H H2 := fun c o e n => b c o (a c o e n) n
theorem Sm.sqt {K : PySem.W.Frag} {H H' : Hp} (s : Sm H H') {a : Addr} {xs : List V} (h : SqT K H a xs) : SqT K H' a xs := by
  rcases h with (h | ⟨o, h⟩) | h
  · exact .inl (.inl (s _ _ h (fun _ _ _ z => by cases z)))
  · exact .inl (.inr ⟨o, s _ _ h (fun _ _ _ z => by cases z)⟩)
  · exact .inr h
theorem Sm.sql {K : PySem.W.Frag} {H H' : Hp} (s : Sm H H') {a : Addr} {xs : List V} (h : SqL K H a xs) : SqL K H' a xs := by
  rcases h with (h | ⟨o, h⟩) | h
  · exact .inl (.inl (s _ _ h (fun _ _ _ z => by cases z)))
  · exact .inl (.inr ⟨o, s _ _ h (fun _ _ _ z => by cases z)⟩)
  · exact .inr h
theorem Sm.sqa {K : PySem.W.Frag} {H H' : Hp} (s : Sm H H') {a : Addr} {xs : List V} (h : SqA K H a xs) : SqA K H' a xs := h.elim (fun h => .inl (s.sql h)) fun h => .inr (s.sqt h)
theorem Sm.stay {K : PySem.W.Frag} {H H' : Hp} (s : Sm H H') (a : Addr) : Stay K a H H' := ⟨fun _ h => s.sql h, fun _ h => s.sqt h⟩
/-- rows in memory: the address of a tuple, and what stands in it -/
abbrev Rs := List (Addr × List Int)
def rv (zs : Rs) : List V := zs.map fun z => V.ref z.1
def rn (zs : Rs) : List (List Int) := zs.map (·.2)
theorem rv_len (zs : Rs) : (rv zs).length = zs.length := by unfold rv; rw [List.length_map]
theorem rn_len (zs : Rs) : (rn zs).length = zs.length := by unfold rn; rw [List.length_map]
theorem rv_app (zs : Rs) (z : Addr × List Int) : rv (zs ++ [z]) = rv zs ++ [.ref z.1] := by unfold rv; rw [List.map_append]; rfl
theorem rn_app (zs : Rs) (z : Addr × List Int) : rn (zs ++ [z]) = rn zs ++ [z.2] := by unfold rn; rw [List.map_append]; rfl
/-- each is a tuple -/
def RT (H : Hp) (zs : Rs) : Prop := ∀ z ∈ zs, H z.1 = some (.tup (z.2.map V.int))
/-- each is a list or a tuple -/
def RA (K : PySem.W.Frag) (H : Hp) (zs : Rs) : Prop := ∀ z ∈ zs, SqA K H z.1 (z.2.map V.int)
theorem RT.same {H H' : Hp} (s : Same H H') {zs : Rs} (h : RT H zs) : RT H' zs := fun z m => s _ _ (h z m)
theorem RA.same {K : PySem.W.Frag} {H H' : Hp} (s : Same H H') {zs : Rs} (h : RA K H zs) : RA K H' zs := fun z m => (h z m).same s
theorem RT.ra {K : PySem.W.Frag} {H : Hp} {zs : Rs} (h : RT H zs) : RA K H zs := fun z m => .inr (.inl (.inl (h z m)))
theorem RT.app {H : Hp} {zs : Rs} (h : RT H zs) {a : Addr} {l : List Int} (e : H a = some (.tup (l.map V.int))) : RT H (zs ++ [(a, l)]) := fun z m => by
  rcases List.mem_append.mp m with m | m
  · exact h z m
  · rw [List.mem_singleton] at m
    subst m
    exact e
/-- a list is written: the tuples stay -/
theorem RT.put {H : Hp} {zs : Rs} {l : Addr} {xs : List V} {o : HO} (p : RT H zs) (h : H l = some (.lst xs)) : RT (upd H l o) zs := fun z m => by
  have := p z m
  rw [upd_ne (fun e => by rw [e, h] at this; cases this)]
  exact this
/-- a Table of these lines -/
def TabAt (CT : Addr) (H : Hp) (x : Addr) (p : Int) (t w : Nat) (L : List (List Int)) : Prop :=
  ∃ (dx a : Addr) (zs : Rs), H x = some (.ins CT dx [("prime", .int p), ("tall", .int t), ("wide", .int w), ("lines", .ref a)]) ∧ H a = some (.tup (rv zs)) ∧ RT H zs ∧ rn zs = L
theorem TabAt.same {CT : Addr} {H H' : Hp} (s : Same H H') {x : Addr} {p : Int} {t w : Nat} {L : List (List Int)} (h : TabAt CT H x p t w L) : TabAt CT H' x p t w L := by
  obtain ⟨dx, a, zs, e1, e2, e3, e4⟩ := h
  exact ⟨dx, a, zs, s _ _ e1, s _ _ e2, e3.same s, e4⟩
/-- all of a Table's bounds -/
structure GoodT (p : Int) (t w : Nat) (L : List (List Int)) : Prop where
  pr : p ∈ primes
  t60 : t ≤ 60
  w60 : w ≤ 60
  len : L.length = t
  wid : ∀ l ∈ L, l.length = w
  mod : ∀ l ∈ L, ∀ i ∈ l, 0 ≤ i ∧ i < p
theorem prime_pos {p : Int} (h : p ∈ primes) : 2 ≤ p ∧ p ≤ 97 := by
  unfold primes at h
  simp only [List.mem_cons, List.not_mem_nil, or_false] at h
  omega
/-- the lines modulo p -/
def modT (p : Int) (L : List (List Int)) : List (List Int) := L.map fun l => l.map (· % p)
theorem good_mod {p : Int} (hp : p ∈ primes) {t w : Nat} {L : List (List Int)} (ht : t ≤ 60) (hw : w ≤ 60) (e : L.length = t) (h : ∀ l ∈ L, l.length = w) : GoodT p t w (modT p L) where
  pr := hp
  t60 := ht
  w60 := hw
  len := by unfold modT; rw [List.length_map]; exact e
  wid := fun l m => by
    obtain ⟨l0, m0, rfl⟩ := List.mem_map.mp m
    rw [List.length_map]
    exact h l0 m0
  mod := fun l m i mi => by
    obtain ⟨l0, m0, rfl⟩ := List.mem_map.mp m
    obtain ⟨i0, _, rfl⟩ := List.mem_map.mp mi
    have := prime_pos hp
    exact ⟨Int.emod_nonneg _ (by omega), Int.emod_lt_of_pos _ (by omega)⟩
end K01


set_option Elab.async false
set_option maxRecDepth 100000
set_option maxHeartbeats 4000000
set_option linter.all false
namespace K01
open PySem PySem.Spec PyProof.Rows L2
abbrev sTabInit : Stmt := inClass (top 15) 0
abbrev sTabEq : Stmt := inClass (top 15) 1
theorem scTabInit : FnScope ["self", "prime", "tall", "wide", "lines", "line", "number"] ["self", "prime", "tall", "wide", "lines"] (defScope sTabInit) := ⟨rfl, rfl, rfl, by decide +kernel, rfl, by decide +kernel, by decide +kernel⟩
theorem iteTb {c : Bool} {A B : Prop} (e : c = true) (h : A) : if c = true then A else B := by rw [if_pos e]; exact h
theorem iteFb {c : Bool} {A B : Prop} (e : c = false) (h : B) : if c = true then A else B := by rw [if_neg (by rw [e]; exact Bool.false_ne_true)]; exact h
theorem same_put {H0 H : Hp} {p : Addr} {o : HO} (s : Same H0 H) (n : H0 p = none) : Same H0 (upd H p o) := fun b x e => by
  rw [upd_ne (ne_of_none e n)]
  exact s b x e
theorem small_2000 {n : Nat} (h : n ≤ 2000) : n < sizeLine := Nat.lt_of_le_of_lt h (by decide)
/-- what the text says of the class Table -/
structure TabT (K : PySem.W.Frag) (mg : Str → Option Value) (CT : Addr) : Prop where
  cl : Cls K CT
  nP : NoAttr K CT "prime"
  nT : NoAttr K CT "tall"
  nW : NoAttr K CT "wide"
  nL : NoAttr K CT "lines"
  g : mg "Table" = some (.ref CT)
/-- the program's own small defs -/
structure Sml (P : Program) (w : World) (K : PySem.W.Frag) (mg : Str → Option Value) (base : Heap) (CP CB : Addr) where
  fC : Addr
  fN : Addr
  fL : Addr
  dC : FuncData
  dN : FuncData
  dL : FuncData
  con : ConT K mg
  okC : FnOk P w K mg base (L2.CX P w) 3 fC dC ["prime"] (spCheckP K CP)
  okN : FnOk P w K mg base CX0 2 fN dN ["thing", "most"] (spIsNumTo K)
  okL : FnOk P w K mg base CX0 2 fL dL ["thing", "tall", "wide"] (spLines K)
  bC : L2.Binds K dC ["prime"] []
  bN : L2.Binds K dN ["thing", "most"] []
  bL : L2.Binds K dL ["thing", "tall", "wide"] []
  gC : mg "check_prime" = some (.ref fC)
  gN : mg "is_number_to" = some (.ref fN)
  gL : mg "_are_lines" = some (.ref fL)
  kC : PySem.W.keepIn K (.ref fC) = true
  kN : PySem.W.keepIn K (.ref fN) = true
  kL : PySem.W.keepIn K (.ref fL) = true
  bad : PlX K mg "BadTable" CB
  mTup : mg "tuple" = none
/-- a size, or not -/
def szO (o : Option Int) : Option Nat := match o with | some i => if 0 ≤ i ∧ i ≤ 60 then some i.toNat else none | none => none
def szB (o : Option Int) : Bool := match o with | some i => decide (0 ≤ i ∧ i ≤ 60) | none => false
theorem nu_size {K : PySem.W.Frag} {H : Hp} {x : V} {o : Option Int} {Q : VK} {E : XK} (h : NuJ K H x o) (q : Q (.bl (szB o)) H) : spIsNumTo K [x, .int 60] H Q E := by
  cases h with
  | int i => exact ⟨_, _, true, false, 60, rfl, .base (.int i), (num_int K).1, (num_int K).2, .inr ⟨rfl, i, rfl, q⟩⟩
  | bl b => exact ⟨_, _, true, true, 60, rfl, .base (.bl b), (num_bool K).1, (num_bool K).2, .inl ⟨rfl, q⟩⟩
  | no h z zb => exact ⟨_, _, false, _, 60, rfl, h, z, zb, .inl ⟨rfl, q⟩⟩
theorem sz_none {o : Option Int} (h : szO o = none) : szB o = false := by
  cases o with
  | none => rfl
  | some i =>
    unfold szO at h
    unfold szB
    dsimp only at h ⊢
    split at h
    · cases h
    · rename_i c
      exact decide_eq_false c
theorem sz_some {o : Option Int} {t : Nat} (h : szO o = some t) : szB o = true ∧ o = some (t : Int) ∧ t ≤ 60 := by
  cases o with
  | none => cases h
  | some i =>
    unfold szO at h
    unfold szB
    dsimp only at h ⊢
    split at h
    · rename_i c
      cases h
      exact ⟨decide_eq_true c, by congr 1; omega, by omega⟩
    · cases h
theorem nu_some {K : PySem.W.Frag} {H : Hp} {x : V} {i : Int} (h : NuJ K H x (some i)) : x = .int i := by cases h; rfl
theorem allO_cons {α : Type} {o : Option α} {r : List (Option α)} {l : List α} (h : allO (o :: r) = some l) : ∃ x l', o = some x ∧ allO r = some l' ∧ l = x :: l' := by
  cases o with
  | none => cases h
  | some x =>
    have h2 : (allO r).map (x :: ·) = some l := h
    obtain ⟨l', e1, e2⟩ := Option.map_eq_some_iff.mp h2
    exact ⟨x, l', rfl, e1, e2.symm⟩
theorem nul_inv {K : PySem.W.Frag} {H : Hp} : ∀ {ys : List V} {os : List (Option Int)} {l : List Int}, NuL K H ys os → allO os = some l → ys = l.map V.int
  | _, _, _, .nil, e => by cases e; rfl
  | _, _, _, .cons h r, e => by
    obtain ⟨x, l', rfl, e2, rfl⟩ := allO_cons e
    rw [nu_some h, nul_inv r e2]
    rfl
theorem row_inv {K : PySem.W.Frag} {H : Hp} {w : Nat} {x : V} {l : List Int} (h : RowJ K H w x (some l)) : ∃ a, x = .ref a ∧ SqA K H a (l.map V.int) ∧ l.length = w := by
  generalize ho : some l = o at h
  cases h with
  | no _ _ => cases ho
  | len _ _ => cases ho
  | @row a ys os hs hl hn =>
    have := nul_inv hn ho.symm
    subst this
    exact ⟨a, rfl, hs, by rw [List.length_map] at hl; exact hl⟩
theorem rowl_inv {K : PySem.W.Frag} {H : Hp} {w : Nat} : ∀ {ys : List V} {os : List (Option (List Int))} {L : List (List Int)}, RowL K H w ys os → allO os = some L → ∃ zs : Rs, ys = rv zs ∧ RA K H zs ∧ rn zs = L ∧ ∀ l ∈ L, l.length = w
  | _, _, _, .nil, e => by cases e; exact ⟨[], rfl, fun z m => by simp at m, rfl, fun l m => by simp at m⟩
  | _, _, _, .cons h r, e => by
    obtain ⟨l, L', rfl, e2, rfl⟩ := allO_cons e
    obtain ⟨a, rfl, hs, hl⟩ := row_inv h
    obtain ⟨zs, rfl, ha, rfl, hw⟩ := rowl_inv r e2
    refine ⟨(a, l) :: zs, rfl, fun z m => ?_, rfl, fun l' m => ?_⟩
    · rcases List.mem_cons.mp m with rfl | m
      · exact hs
      · exact ha z m
    · rcases List.mem_cons.mp m with rfl | m
      · exact hl
      · exact hw l' m
theorem ln_inv {K : PySem.W.Frag} {H : Hp} {t w : Nat} {x : V} {L : List (List Int)} (h : LnJ K H t w x (some L)) : ∃ (a : Addr) (zs : Rs), x = .ref a ∧ SqA K H a (rv zs) ∧ RA K H zs ∧ rn zs = L ∧ zs.length = t ∧ ∀ l ∈ L, l.length = w := by
  generalize ho : some L = o at h
  cases h with
  | no _ _ => cases ho
  | len _ _ => cases ho
  | @lns a ys os hs hl hn =>
    obtain ⟨zs, rfl, ha, e, hw⟩ := rowl_inv hn ho.symm
    exact ⟨a, zs, rfl, hs, ha, e, by rw [rv_len] at hl; exact hl, hw⟩
theorem rv_inv {zs : Rs} {i : Nat} {x : V} (h : (rv zs)[i]? = some x) : ∃ z, zs[i]? = some z ∧ x = .ref z.1 := by
  unfold rv at h
  rw [List.getElem?_map] at h
  cases e : zs[i]? with
  | none => rw [e] at h; cases h
  | some z => rw [e] at h; cases h; exact ⟨z, rfl, rfl⟩
theorem map_inv {α : Type} {f : α → V} {l : List α} {i : Nat} {x : V} (h : (l.map f)[i]? = some x) : ∃ z, l[i]? = some z ∧ x = f z := by
  rw [List.getElem?_map] at h
  cases e : l[i]? with
  | none => rw [e] at h; cases h
  | some z => rw [e] at h; cases h; exact ⟨z, rfl, rfl⟩
def spTabInit (K : PySem.W.Frag) (CT CP CB : Addr) : Sp := fun vs H Q E => ∃ (x dx : Addr) (pv tv wv lv : V) (op ot ow : Option Int), vs = [.ref x, pv, tv, wv, lv] ∧ H x = some (.ins CT dx []) ∧ NuJ K H pv op ∧
  ((isP op = false ∧ Rp CP H E) ∨ ∃ p, op = some p ∧ p ∈ primes ∧ NuJ K H tv ot ∧ NuJ K H wv ow ∧
    (((szO ot = none ∨ szO ow = none) ∧ Rp CB H E) ∨ ∃ (t w : Nat) (o : Option (List (List Int))), szO ot = some t ∧ szO ow = some w ∧ LnJ K H t w lv o ∧
      ((o = none ∧ Rp CB H E) ∨ ∃ (L : List (List Int)), o = some L ∧ ∀ H', TabAt CT H' x p t w (modT p L) → (∀ b u, H b = some u → b ≠ x → H' b = some u) → Q .non H')))
section
variable {P : Program} {w : World} {K : PySem.W.Frag} {mg : Str → Option Value} {base : Heap}
theorem ok_tabinit {f CT CP CB : Addr} {fd : FuncData} (F : Fun K "__init__" "Table.__init__" sTabInit f fd) (T : TabT K mg CT) (S : Sml P w K mg base CP CB) : FnOk P w K mg base (L2.CX P w) 4 f fd ["self", "prime", "tall", "wide", "lines"] (spTabInit K CT CP CB) := by
  refine F.okX scTabInit (fun vs H Q E h => ?_) (fun cdv A outer s H vs Q E hr h => ?_)
  · obtain ⟨x, dx, pv, tv, wv, lv, op, ot, ow, rfl, _⟩ := h
    rfl
  · obtain ⟨x, dx, pv, tv, wv, lv, op, ot, ow, rfl, hx, hp, h⟩ := h
    have nd := scTabInit.nd
    have r2 : Room 2 _ := hr.mono (by decide)
    refine ⟨_, pss_cons (ps_expr (pe_call S.okC hr (by rfl) S.gC S.kC S.bC .nil (passes_call (takes_of rfl rfl rfl rfl) fun _ _ _ _ h => h) (pa_cons (L2.pv 1) pa_nil)))
      (pss_cons (ps_if (PW.pt (pw_or (pt_not (pt_val (pe_call S.okN r2 (by rfl) S.gN S.kN S.bN .nil pass0 (pa_cons (L2.pv 2) (pa_cons (pe_glob (v := .int 60) (by rfl) S.con.gG ⟨S.con.tk, rfl⟩) pa_nil)))))
          (pw_or1 (pt_not (pt_val (pe_call S.okN r2 (by rfl) S.gN S.kN S.bN .nil pass0 (pa_cons (L2.pv 3) (pa_cons (pe_glob (v := .int 60) (by rfl) S.con.gG ⟨S.con.tk, rfl⟩) pa_nil))))))))
        (pss_one (ps_raise rfl (takes_of rfl rfl rfl rfl) (pmk_own PySem.F.excBase_ValueError S.bad.q S.bad.g S.bad.k (raises_own S.bad.s S.bad.t) (by rfl)))) pss_nil)
      (pss_cons (ps_if (pt_not (pt_val (pe_call S.okL r2 (by rfl) S.gL S.kL S.bL .nil pass0 (pa_cons (L2.pv 4) (pa_cons (L2.pv 2) (pa_cons (L2.pv 3) pa_nil))))))
        (pss_one (ps_raise rfl (takes_of rfl rfl rfl rfl) (pmk_own PySem.F.excBase_ValueError S.bad.q S.bad.g S.bad.k (raises_own S.bad.s S.bad.t) (by rfl)))) pss_nil)
      (pss_cons (ps_fld (L2.pv 0) (L2.pv 1) rfl)
      (pss_cons (ps_fld (L2.pv 0) (L2.pv 2) rfl)
      (pss_cons (ps_fld (L2.pv 0) (L2.pv 3) rfl)
      (pss_one (ps_fld (L2.pv 0) (pe_callTy call_tuple_of (by rfl) S.mTup (by decide +kernel) (pa_cons
        (pe_lc (own := [("line", 5)]) (g := gName 5) (by rfl) nd (pi_seq (L2.pv 4)) (blkOk_by (N := ["self", "prime", "tall", "wide", "lines", "line", "number"]) (sc := defScope sTabInit) (by decide +kernel)) (fun _ _ _ _ _ => pg_name (i := 5) nd rfl (Or.inl rfl)) (fun _ _ _ _ _ => pts_nil)
          (fun _ _ _ _ _ => pe_callTy (show CallR _ _ (fun xs H Q => ∃ p ys, xs = [.ref p] ∧ ((SqL K H p ys ∧ ∀ l, H l = none → Q (.ref l) (upd H l (.tup ys))) ∨ (SqT K H p ys ∧ Q (.ref p) H))) from call_tuple_of) (by rfl) S.mTup (by decide +kernel) (pa_cons
            (pe_lc (own := [("number", 6)]) (g := gName 6) (by rfl) nd (show PI _ _ _ (iSeq K (tVar 5)) from pi_seq (L2.pv 5)) (blkOk_by (N := ["self", "prime", "tall", "wide", "lines", "line", "number"]) (by kernel_rfl)) (fun _ _ _ _ _ => pg_name (i := 6) nd rfl (Or.inl rfl)) (fun _ _ _ _ _ => pts_nil)
              (fun _ _ _ _ _ => pe_op op_mod (L2.pv 6) (L2.pv 1))) pa_nil))) pa_nil)) rfl))))))), ?_⟩
    rcases h with ⟨e, hR⟩ | ⟨p, rfl, hp2, ht, hw, h⟩
    · exact ⟨_, rfl, pv, op, rfl, hp, .inr ⟨e, hR⟩⟩
    obtain rfl := nu_some hp
    refine ⟨_, rfl, _, _, rfl, hp, .inl ⟨decide_eq_true hp2, ?_⟩⟩
    refine ⟨_, rfl, ?_⟩
    dsimp only [tCons, tNil, tC, List.cons_append, List.nil_append]
    refine nu_size ht ⟨_, rfl, ?_⟩
    have badT : Rp CB H E → Rp CB H E := fun h => h
    rcases h with ⟨hbad, hR⟩ | ⟨t, wd, o, et, ew, hL, h⟩
    · cases es : szO ot with
      | none =>
        rw [sz_none es]
        refine iteT ?_
        refine iteT ?_
        exact hR H (Same.refl _)
      | some t =>
        rw [(sz_some es).1]
        refine iteF ?_
        refine ⟨_, rfl, ?_⟩
        dsimp only [tCons, tNil, tC, List.cons_append, List.nil_append]
        refine nu_size hw ⟨_, rfl, ?_⟩
        rw [sz_none (hbad.resolve_left (by rw [es]; intro z; cases z))]
        refine iteT ?_
        exact hR H (Same.refl _)
    obtain ⟨bt, rfl, t60⟩ := sz_some et
    obtain ⟨bw, rfl, w60⟩ := sz_some ew
    obtain rfl := nu_some ht
    obtain rfl := nu_some hw
    rw [bt]
    refine iteF ?_
    refine ⟨_, rfl, ?_⟩
    dsimp only [tCons, tNil, tC, List.cons_append, List.nil_append]
    refine nu_size hw ⟨_, rfl, ?_⟩
    rw [bw]
    refine iteF ?_
    refine ⟨_, rfl, _, rfl, _, rfl, lv, t, wd, o, rfl, hL, fun H1 s1 => ⟨_, rfl, ?_⟩⟩
    rcases h with ⟨rfl, hR⟩ | ⟨L, rfl, k⟩
    · refine iteT ?_
      exact hR H1 s1
    refine iteF ?_
    obtain ⟨a, zs, rfl, hS, hA, rfl, hzt, hwl⟩ := ln_inv hL
    refine ⟨_, rfl, _, rfl, x, CT, dx, [], rfl, s1 _ _ hx, T.cl, T.nP, (by show 0 < 1000; decide), ?_⟩
    refine ⟨_, rfl, _, rfl, x, CT, dx, _, rfl, upd_same, T.cl, T.nT, (by show 1 < 1000; decide), ?_⟩
    refine ⟨_, rfl, _, rfl, x, CT, dx, _, rfl, upd_same, T.cl, T.nW, (by show 2 < 1000; decide), ?_⟩
    have shape : ∀ y, (upd (upd (upd H1 x (.ins CT dx (putF "prime" (.int p) []))) x (.ins CT dx (putF "tall" (.int t) (putF "prime" (.int p) [])))) x (.ins CT dx (putF "wide" (.int wd) (putF "tall" (.int t) (putF "prime" (.int p) []))))) y = (upd H1 x (.ins CT dx [("prime", .int p), ("tall", .int t), ("wide", .int wd)])) y := fun y => by
      by_cases c : y = x
      · subst c; rw [upd_same, upd_same]; rfl
      · rw [upd_ne c, upd_ne c, upd_ne c, upd_ne c]
    rw [show (upd (upd (upd H1 x (.ins CT dx (putF "prime" (.int p) []))) x (.ins CT dx (putF "tall" (.int t) (putF "prime" (.int p) [])))) x (.ins CT dx (putF "wide" (.int wd) (putF "tall" (.int t) (putF "prime" (.int p) []))))) = upd H1 x (.ins CT dx [("prime", .int p), ("tall", .int t), ("wide", .int wd)]) from funext shape]
    have hxa : (upd H1 x (.ins CT dx [("prime", .int p), ("tall", .int t), ("wide", .int wd)])) x = some (.ins CT dx [("prime", .int p), ("tall", .int t), ("wide", .int wd)]) := upd_same
    have sma : Sm H (upd H1 x (.ins CT dx [("prime", .int p), ("tall", .int t), ("wide", .int wd)])) := (Sm.of s1).trans (Sm.put (s1 _ _ hx))
    have kea : ∀ b o, H b = some o → b ≠ x → (upd H1 x (.ins CT dx [("prime", .int p), ("tall", .int t), ("wide", .int wd)])) b = some o := fun b o e hb => by
      rw [upd_ne hb]
      exact s1 _ _ e
    generalize upd H1 x (.ins CT dx [("prime", .int p), ("tall", .int t), ("wide", .int wd)]) = Ha at hxa sma kea
    have hSa : SqA K Ha a (rv zs) := sma.sqa hS
    have hpa : RA K Ha zs := fun z m => sma.sqa (hA z m)
    have hp0 := prime_pos hp2
    refine ⟨_, rfl, a, rv zs, rfl, hSa, fun J hJ D nD => ?_⟩
    refine lc_seq hJ (fun j Hd => ∃ ws : Rs, rn ws = (modT p (rn zs)).take j ∧ RT Hd ws ∧ Hd D = some (.lst (rv ws)) ∧ Same Ha Hd) ⟨[], rfl, fun z m => by simp at m, upd_same, same_upd nD⟩ (fun j Hd _ hh => by obtain ⟨_, _, _, _, s⟩ := hh; exact .of s) ?_ ?_
    · rintro j y Hd hj ⟨ws, hw2, pw, eD, sd⟩
      obtain ⟨⟨r, l⟩, hz, rfl⟩ := rv_inv hj
      have hzm : (r, l) ∈ zs := List.mem_of_getElem? hz
      have hjl : j < zs.length := (List.getElem?_eq_some_iff.mp hz).1
      have hll : l.length = wd := hwl l (List.mem_map.mpr ⟨_, hzm, rfl⟩)
      have hwsl : ws.length ≤ j := by
        have := congrArg List.length hw2
        rw [rn_len, List.length_take] at this
        omega
      refine ⟨rfl, ?_⟩
      dsimp only [tYes]
      refine iteT ?_
      refine ⟨_, rfl, r, l.map V.int, rfl, (hpa _ hzm).same sd, fun J2 hJ2 D2 nD2 => ?_⟩
      refine lc_seq hJ2 (fun i He => He D2 = some (.lst ((l.take i).map fun n => V.int (n % p))) ∧ Same Hd He) ⟨upd_same, same_upd nD2⟩ (fun i He _ hh => .of hh.2) ?_ ?_
      · rintro i y He hi ⟨eD2, se⟩
        obtain ⟨n, hn, rfl⟩ := map_inv hi
        have hil : i < l.length := (List.getElem?_eq_some_iff.mp hn).1
        refine ⟨rfl, ?_⟩
        dsimp only [tYes]
        refine iteT ?_
        refine ⟨_, rfl, _, rfl, n, p, rfl, rfl, by omega, _, eD2, small_2000 (by rw [List.length_map, List.length_take]; omega), ?_, same_put se nD2⟩
        rw [upd_same, List.take_add_one, hn, List.map_append]
        rfl
      · rintro He ⟨eD2, se⟩
        rw [List.length_map, List.take_length] at eD2
        refine ⟨D2, _, rfl, .inl ⟨SqL.of eD2, fun q nq => ⟨_, same_upd nq _ _ (se _ _ eD), small_2000 (by rw [rv_len]; omega), ?_⟩⟩⟩
        refine ⟨ws ++ [(q, l.map (· % p))], ?_, ((pw.same (se.trans (same_upd nq))).app (by rw [upd_same, List.map_map]; rfl)).put (same_upd nq _ _ (se _ _ eD)), by rw [upd_same, rv_app], same_put ((sd.trans se).trans (same_upd nq)) nD⟩
        rw [rn_app, hw2, List.take_add_one]
        unfold modT rn
        rw [List.getElem?_map, List.getElem?_map, hz]
        rfl
    · rintro Hd ⟨ws, hw2, pw, eD, sd⟩
      have hlen : (modT p (rn zs)).length = (rv zs).length := by unfold modT; rw [List.length_map, rn_len, rv_len]
      rw [← hlen, List.take_length] at hw2
      refine ⟨D, rv ws, rfl, .inl ⟨SqL.of eD, fun q nq => ?_⟩⟩
      have nxq : x ≠ q := ne_of_none (sd _ _ hxa) nq
      refine ⟨_, rfl, x, CT, dx, _, rfl, same_upd nq _ _ (sd _ _ hxa), T.cl, T.nL, (by show 3 < 1000; decide), ?_⟩
      refine k _ ⟨dx, q, ws, by rw [upd_same]; rfl, by rw [upd_ne nxq.symm, upd_same], fun z m => ?_, hw2⟩ fun b o e hb => ?_
      · have hz1 := pw z m
        rw [upd_ne (fun e => by rw [e, sd _ _ hxa] at hz1; cases hz1)]
        exact same_upd nq _ _ hz1
      · rw [upd_ne hb]
        exact same_upd nq _ _ (sd _ _ (kea b o e hb))
end
end K01


set_option Elab.async false
set_option maxRecDepth 100000
set_option maxHeartbeats 4000000
set_option linter.all false
namespace K01
open PySem PySem.Spec PyProof.Rows L2
open PySem.W (KitX InstAt Looks Frag findIn subIn typeIn)
section
variable {prog : Program} {w : World} {A : Around} {E : Value → Shared → Prop} {s : Shared} {K : Frag} {x C L f : Addr} {h₀ : Heap} {m : Str → Option Value} {ox : Obj} {od : Option Obj} {name : Str} {b tb : Value}
/-- a special method that is a builtin slot of object -/
theorem ifBound_B {M : Model} {args : List Value} {Q : Option Value → Shared → Prop} {id : String} (X : K.In s.heap) (I : InstAt s.heap x ox C od) (hs : findIn K (.ref C) name = some (some (.builtin id))) (hb : ∀ self, bindSpecial (.builtin id) self = pure (.builtin id, [self]))
    (h : wpAny M A (call (.builtin id) (.ref x :: args)) (fun v => Q (some v)) E s) : wpAny M A (callSpecialIfBound? (.ref x) name args) Q E s := by
  simp only [callSpecialIfBound?, bindSpecialIfBound?]
  refine wpAny_holding (wpAny_bind (wpAny_bind (wpAny_bind (I.type.here ((PySem.W.looks_findIn X hs).here ?_)))))
  simp only [hb]
  refine wpAny_bind (wpAny_askSetting (wpAny_ite ?_))
  have fin : wpAny M A (call (.builtin id) ([.ref x] ++ args) >>= fun v => pure (some v)) Q E s := wpAny_bind (wpAny_mono h (fun v s' h' => wpAny_pure h') fun _ _ h' => h')
  split
  · exact wpAny_bind (wpAny_pure (wpAny_pure fin))
  · exact wpAny_tryCatch (wpAny_bind (wpAny_pure (wpAny_pure fin)))
theorem objNe_K (X : K.In s.heap) (I : InstAt s.heap x ox C od) (he : findIn K (.ref C) "__eq__" = some (some (.ref f))) (hf : PySem.W.isFn K (.ref f) = true) (hu : A.units < cLine) {Q : Fin → Shared → Prop}
    (hcall : wpAny (model prog w) A (call (.ref f) [.ref x, b]) (fun v s' => ∃ c, v = .bool c ∧ Q (.done (.ret (.bool (!c)))) s') E s) :
    wpAny (model prog w) A (Builtin.«object.__ne__» ⟨[.ref x, b], []⟩) Q E s := by
  obtain ⟨hp, g, d, t, os⟩ := s
  unfold Builtin.«object.__ne__»
  repeat (first
    | with_reducible refine wpAny_cRoomFor hu ?_
    | (refine wpAny_bind (m := callSpecialIfBound? (.ref x) (Str.ofString "__eq__") [b])
        (PySem.W.ifBound_K X I he hf (wpAny_mono hcall (fun r s' hr => by
          obtain ⟨c, rfl, hq⟩ := hr
          repeat (first | exact hq | exact wpAny_pure hq | exact wpAny_truthy_bool hq | (refine wpAny_bind (m := truthy (.bool _)) (wpAny_truthy_bool ?_)) | wp_step)) fun _ _ e => e)))
    | wp_step)
/-- a != b, a of an own class with its own == alone -/
theorem ne_K {Q : Value → Shared → Prop} (hu : A.units + 1 < cLine) (F : Fr h₀ L s.heap m) (X₀ : K.In h₀) (I : InstAt s.heap x ox C od) (hb : Looks (model prog w) s.heap (typeOf b) tb) (hn : PySem.W.notFirst K C tb = true)
    (he : findIn K (.ref C) "__eq__" = some (some (.ref f))) (hf : PySem.W.isFn K (.ref f) = true) (hs : findIn K (.ref C) "__ne__" = some (some (.builtin "object.__ne__"))) (ho : subIn K (.ref C) (.type "object") = some true)
    (h : wpAny (model prog w) A.in1 (call (.ref f) [.ref x, b]) (fun v s' => ∃ c, v = .bool c ∧ Q (.bool (!c)) s') E s) : wpAny (model prog w) A (richCompare .NotEq (.ref x) b) Q E s := by
  have X := X₀.keeps F.keep
  have S := PySem.F.slot_object_ne
  have one : wpAny (model prog w) A (tryCompare (.ref x) (cmpInfo .NotEq).2.1 b) (fun r s' => ∃ v, r = some v ∧ Q v s') E s := by
    unfold tryCompare
    refine wpAny_bind (ifBound_B X I (id := "object.__ne__") hs S.bind (wpAny_call (codeAny_call_builtin S.plain PySem.F.cmpEntry_ne (PySem.W.check_slot PySem.F.cmpKind_ne PySem.F.cmpSplit_ne (I.type.andThen (PySem.W.looks_subIn X ho)) (PySem.F.cmpArgs_ne _ _)
      (objNe_K (A := A.in1) X I he hf (by show A.units + 1 < _; exact hu) (wpAny_mono h (fun v s' hv => ?_) fun _ _ e => e))))))
    obtain ⟨c, rfl, hq⟩ := hv
    first | exact ⟨c, rfl, wpAny_pure ⟨_, rfl, hq⟩⟩ | exact ⟨c, rfl, wpAny_pure (wpAny_pure ⟨_, rfl, hq⟩)⟩
  unfold richCompare
  simp only [oneThing_ref]
  refine wpAny_holding (wpAny_bind (wpAny_cRoomFor (Nat.lt_of_succ_lt hu) ?_))
  refine wpAny_bind (I.type.here (wpAny_bind (hb.here ?_)))
  split
  · rename_i q
    have e : subIn K tb (.ref C) = some false := by
      rcases Bool.or_eq_true_iff.mp hn with e | e
      · rw [beq_iff_eq.mp e] at q; simp at q
      · exact beq_iff_eq.mp e
    refine wpAny_bind ((PySem.W.looks_subIn X e).here ?_)
    simp only [Bool.false_eq_true, if_false]
    refine wpAny_bind (wpAny_mono one (fun r s' z => ?_) fun _ _ e => e)
    obtain ⟨v, rfl, hq⟩ := z
    exact wpAny_pure hq
  · refine wpAny_bind (wpAny_pure ?_)
    simp only [Bool.false_eq_true, if_false]
    refine wpAny_bind (wpAny_mono one (fun r s' z => ?_) fun _ _ e => e)
    obtain ⟨v, rfl, hq⟩ := z
    exact wpAny_pure hq
end
end K01


set_option Elab.async false
set_option maxRecDepth 100000
set_option maxHeartbeats 4000000
set_option linter.all false
namespace K01
open PySem PySem.Spec PyProof.Rows L2
theorem scTabEq : FnScope ["self", "other"] ["self", "other"] (defScope sTabEq) := ⟨rfl, rfl, rfl, by decide +kernel, rfl, by decide +kernel, by decide +kernel⟩
/-! tables as data -/
abbrev di (l : List Int) : List PyData := l.map PyData.int
abbrev dt (l : List Int) : PyData := .tuple (di l)
theorem dp_int {K : PySem.W.Frag} {H : Hp} : ∀ l : List Int, DpAll K H (l.map V.int) (di l)
  | [] => .nil
  | i :: l => .cons (.int i) (dp_int l)
theorem dp_rows {K : PySem.W.Frag} {H : Hp} : ∀ {zs : Rs}, RT H zs → DpAll K H (rv zs) ((rn zs).map dt)
  | [], _ => .nil
  | z :: zs, h => .cons (.tup (SqT.of (h z (List.mem_cons_self ..))) (dp_int _)) (dp_rows fun z m => h z (List.mem_cons_of_mem _ m))
theorem dp_tab {K : PySem.W.Frag} {H : Hp} {t : Addr} {zs : Rs} (h : H t = some (.tup (rv zs))) (p : RT H zs) : Dp K H (.ref t) (.tuple ((rn zs).map dt)) := .tup (SqT.of h) (dp_rows p)
theorem lay_di (l : List Int) : PyData.canLayAll0 (di l) = true := by
  induction l with
  | nil => rfl
  | cons x r ih => simp [PyData.canLayAll0, PyData.canLay0, ih]
theorem lay_dt (L : List (List Int)) : PyData.canLayAll0 (L.map dt) = true := by
  induction L with
  | nil => rfl
  | cons x r ih =>
    have := lay_di x
    simp [PyData.canLayAll0, PyData.canLay0, ih, this]
theorem dep_di (l : List Int) : PyData.depthAll (di l) ≤ 1 := by
  induction l with
  | nil => simp [PyData.depthAll]
  | cons x r ih => simp [PyData.depthAll, PyData.depth]; omega
theorem dep_dt (L : List (List Int)) : PyData.depthAll (L.map dt) ≤ 2 := by
  induction L with
  | nil => simp [PyData.depthAll]
  | cons x r ih =>
    have := dep_di x
    simp [PyData.depthAll, PyData.depth]; omega
theorem shp_tab (L : List (List Int)) : SeqAt.shaped (.tuple (L.map dt)) = true := by
  have h1 := lay_dt L
  have h2 := dep_dt L
  simp [SeqAt.shaped, PyData.canLay0, h1, PyData.depth]
  omega
theorem eqvAll_di : ∀ l m : List Int, PyData.eqvAll (di l) (di m) = decide (l = m)
  | [], [] => rfl
  | [], _ :: _ => rfl
  | _ :: _, [] => rfl
  | a :: l, b :: m => by
    show ((a == b) && PyData.eqvAll (di l) (di m)) = _
    rw [eqvAll_di l m]
    by_cases h1 : a = b
    · by_cases h3 : l = m
      · subst h1; subst h3; simp
      · subst h1
        rw [decide_eq_false h3, decide_eq_false (fun z => h3 (List.cons.inj z).2)]; simp
    · rw [beq_eq_false_iff_ne.mpr h1, decide_eq_false (fun z => h1 (List.cons.inj z).1)]; rfl
theorem eqvAll_dt : ∀ l m : List (List Int), PyData.eqvAll (l.map dt) (m.map dt) = decide (l = m)
  | [], [] => rfl
  | [], _ :: _ => rfl
  | _ :: _, [] => rfl
  | a :: l, b :: m => by
    show (PyData.eqvAll (di a) (di b) && PyData.eqvAll (l.map dt) (m.map dt)) = _
    rw [eqvAll_dt l m, eqvAll_di a b]
    by_cases h1 : a = b
    · by_cases h3 : l = m
      · subst h1; subst h3; simp
      · subst h1
        rw [decide_eq_false h3, decide_eq_false (fun z => h3 (List.cons.inj z).2)]; simp
    · rw [decide_eq_false h1, decide_eq_false (fun z => h1 (List.cons.inj z).1)]; rfl
theorem eqv_tab (l m : List (List Int)) : PyData.eqv (.tuple (l.map dt)) (.tuple (m.map dt)) = decide (l = m) := eqvAll_dt l m
/-- what the text says of comparing Tables -/
structure TabE (K : PySem.W.Frag) (mg : Str → Option Value) (CT fE : Addr) : Prop where
  t : TabT K mg CT
  eq : PySem.W.findIn K (.ref CT) "__eq__" = some (some (.ref fE))
  fn : PySem.W.isFn K (.ref fE) = true
  ne : PySem.W.findIn K (.ref CT) "__ne__" = some (some (.builtin "object.__ne__"))
  ob : PySem.W.subIn K (.ref CT) (.type "object") = some true
  ha : PySem.W.findIn K (.ref CT) "__class__" = some (some (.builtin "object.__class__"))
  hn : PySem.W.specialIn K (.builtin "object.__class__") "__get__" = some (some (.builtin "getset_descriptor.__get__"))
  hk : PySem.W.takesIn K (.builtin "object.__class__") = some true
  hm : PySem.W.mroIn K CT (.type "object") = some true
  one : PySem.W.kitOne K (.ref CT) (.ref CT) = some true
theorem TabE.ty {K : PySem.W.Frag} {mg : Str → Option Value} {CT fE : Addr} (T : TabE K mg CT fE) {H : Hp} {a : Addr} {p : Int} {t w : Nat} {L : List (List Int)} (h : TabAt CT H a p t w L) : TyX K H (.ref a) (.ref CT) := by
  obtain ⟨dx, b, zs, e, _⟩ := h
  exact .base (.ins e T.t.cl T.ha T.hn T.hk T.hm)
def eqT (p : Int) (t w : Nat) (L : List (List Int)) (p2 : Int) (t2 w2 : Nat) (L2 : List (List Int)) : Bool := decide (p = p2 ∧ t = t2 ∧ w = w2 ∧ L = L2)
def spTabEq (CT : Addr) : Sp := fun vs H Q _ => ∃ (a b : Addr) (p : Int) (t w : Nat) (L : List (List Int)) (p2 : Int) (t2 w2 : Nat) (L2 : List (List Int)), vs = [.ref a, .ref b] ∧ TabAt CT H a p t w L ∧ TabAt CT H b p2 t2 w2 L2 ∧ ∀ H', Same H H' → Q (.bl (eqT p t w L p2 t2 w2 L2)) H'
section
variable {P : Program} {w : World} {K : PySem.W.Frag} {mg : Str → Option Value} {base : Heap}
theorem ok_tabeq {f CT : Addr} {fd : FuncData} (F : Fun K "__eq__" "Table.__eq__" sTabEq f fd) (T : TabE K mg CT f) (mIs : mg "isinstance" = none) : FnOk P w K mg base CX0 1 f fd ["self", "other"] (spTabEq CT) := by
  refine F.ok scTabEq (fun vs H Q E h => ?_) (fun cdv A outer s H vs Q E hr h => ?_)
  · obtain ⟨a, b, p, t, w, L, p2, t2, w2, L2, rfl, _⟩ := h
    rfl
  · obtain ⟨a, b, p, t, wd, L, p2, t2, wd2, L2, rfl, hA, hB, k⟩ := h
    refine ⟨_, pss_one (ps_ret (pe_and (pe_callB call_isi (by rfl) mIs (by decide +kernel) (pa_cons (pv 1) (pa_cons (pe_glob (v := .ref CT) (by rfl) T.t.g rfl) pa_nil)))
      (pe_and (pe_cmpR op_eq (pe_fld (pv 0) rfl) (pe_fld (pv 1) rfl) (nomark _)) (pe_and (pe_cmpR op_eq (pe_fld (pv 0) rfl) (pe_fld (pv 1) rfl) (nomark _)) (pe_and (pe_cmpR op_eq (pe_fld (pv 0) rfl) (pe_fld (pv 1) rfl) (nomark _))
        (pe_one (pe_cmpR (op_eqD hr.units) (pe_fld (pv 0) rfl) (pe_fld (pv 1) rfl) (nomark _)))))))), ?_⟩
    refine ⟨_, rfl, _, _, _, _, true, rfl, .own CT, T.ty hB, T.one, _, rfl, ?_⟩
    refine iteT ?_
    obtain ⟨dx, x1, us, e, et, p1, rfl⟩ := hA
    obtain ⟨dx2, x2, us2, e2, et2, p2', rfl⟩ := hB
    have k0 := k H fun _ _ z => z
    unfold eqT at k0
    refine ⟨_, rfl, a, CT, dx, _, _, rfl, e, T.t.cl, T.t.nP, rfl, _, rfl, b, CT, dx2, _, _, rfl, e2, T.t.cl, T.t.nP, rfl, rfl, _, rfl, ite2 (fun c => ?_) (fun c => ?_)⟩
    · have hp : p = p2 := V.int.inj (of_decide_eq_true c)
      refine ⟨_, rfl, a, CT, dx, _, _, rfl, e, T.t.cl, T.t.nT, rfl, _, rfl, b, CT, dx2, _, _, rfl, e2, T.t.cl, T.t.nT, rfl, rfl, _, rfl, ite2 (fun c => ?_) (fun c => ?_)⟩
      · have ht : t = t2 := by
          have := V.int.inj (of_decide_eq_true c)
          omega
        refine ⟨_, rfl, a, CT, dx, _, _, rfl, e, T.t.cl, T.t.nW, rfl, _, rfl, b, CT, dx2, _, _, rfl, e2, T.t.cl, T.t.nW, rfl, rfl, _, rfl, ite2 (fun c => ?_) (fun c => ?_)⟩
        · have hw : wd = wd2 := by
            have := V.int.inj (of_decide_eq_true c)
            omega
          refine ⟨_, rfl, a, CT, dx, _, _, rfl, e, T.t.cl, T.t.nL, rfl, _, rfl, b, CT, dx2, _, _, rfl, e2, T.t.cl, T.t.nL, rfl, _, _, dp_tab et p1, dp_tab et2 p2', shp_tab _, shp_tab _, ?_⟩
          rw [eqv_tab]
          rw [decide_eq_decide.mpr (show (p = p2 ∧ t = t2 ∧ wd = wd2 ∧ rn us = rn us2) ↔ rn us = rn us2 from ⟨fun z => z.2.2.2, fun z => ⟨hp, ht, hw, z⟩⟩)] at k0
          exact k0
        · rw [decide_eq_false (fun z => c (decide_eq_true (by rw [z.2.2.1])))] at k0
          exact k0
      · rw [decide_eq_false (fun z => c (decide_eq_true (by rw [z.2.1])))] at k0
        exact k0
    · rw [decide_eq_false (fun z => c (decide_eq_true (by rw [z.1])))] at k0
      exact k0
end
section
variable {X : Cx} {CT fE : Addr} {fd : FuncData}
theorem run_tabeq (F : FnOk X.prog X.w X.K X.mg X.base CX0 1 fE fd ["self", "other"] (spTabEq CT)) (hb : L2.Binds X.K fd ["self", "other"] []) {A : Around} {pins : List (Addr × Obj)} {σ : L2.St} {H : Hp} {s : Shared} {a : Addr} {y : V} {v : Value} {Q : V → Hp → Prop} (sb : Sub X 1 A) (I : Inv X pins σ H s) (ry : RelV y v)
    (h : spTabEq CT [.ref a, y] H (fun u H' => (∃ c, u = .bl c) ∧ Q u H') (fun _ _ _ => False)) : wpAny (model X.prog X.w) A (call (.ref fE) [.ref a, v]) (fun u s' => ∃ c, u = .bool c ∧ ∃ H', Inv X pins σ H' s' ∧ Q (.bl c) H') X.xe s := by
  have e0 : Env0 X.prog X.w X.K X.mg X.base A X.stack s H := by
    have e := I.env0
    exact ⟨by rw [sb.fr]; exact e.frames, e.mod, e.bs, e.bsz, e.funs, e.frf, e.hok, e.bare⟩
  have r2 : Vals [V.ref a, y] [Value.ref a, v] := .cons rfl (.cons ry .nil)
  refine wpAny_call (codeAny_mono (F.run A X.stack s H ⟨[.ref a, v], []⟩ [.ref a, v] [.ref a, y] _ _ sb.room e0 (hb s [.ref a, v] I.kIn rfl) r2 h) fun r s' hq => ?_)
  cases r with
  | error e => exact (show False from hq).elim
  | ok fl =>
    cases fl with
    | ret w =>
      obtain ⟨z, H', I', rz, ⟨c, rfl⟩, q⟩ := I.after hq
      cases rz
      exact ⟨c, rfl, H', I', q⟩
    | next => exact False.elim hq
    | brk => exact False.elim hq
    | cont => exact False.elim hq
def rEqT (CT : Addr) (f : Bool → Bool) : R2 := fun x y H Q => ∃ (a b : Addr) (p : Int) (t w : Nat) (L : List (List Int)) (p2 : Int) (t2 w2 : Nat) (L2 : List (List Int)), x = .ref a ∧ y = .ref b ∧ TabAt CT H a p t w L ∧ TabAt CT H b p2 t2 w2 L2 ∧ ∀ H', Same H H' → Q (.bl (f (eqT p t w L p2 t2 w2 L2))) H'
theorem tab_look {pins : List (Addr × Obj)} {σ : L2.St} {H : Hp} {s : Shared} (I : Inv X pins σ H s) {b : Addr} {p : Int} {t w : Nat} {L : List (List Int)} (h : TabAt CT H b p t w L) : ∃ tb, PySem.W.Looks (model X.prog X.w) s.heap (typeOf (.ref b)) tb ∧ PySem.W.notFirst X.K CT tb = true := by
  obtain ⟨dx, _, _, e, _⟩ := h
  obtain ⟨mB, J', _⟩ := ins_get I.hok e
  obtain ⟨od', J', _⟩ := J'.look
  exact ⟨_, J'.type, by simp [PySem.W.notFirst]⟩
theorem op_eqT {mg : Str → Option Value} (T : TabE X.K mg CT fE) (F : FnOk X.prog X.w X.K X.mg X.base CX0 1 fE fd ["self", "other"] (spTabEq CT)) (hb : L2.Binds X.K fd ["self", "other"] []) (hr : Room 1 X.A) : OpR X (compareOp .Eq) (rEqT CT id) := by
  intro pins s σ H x y v u Q I rx ry hq
  obtain ⟨a, b, p, t, wd, L, p2, t2, wd2, L2, rfl, rfl, hA, hB, k⟩ := hq
  cases rx
  cases ry
  obtain ⟨tb, Lk, nf⟩ := tab_look I hB
  obtain ⟨dx, x1, us, e, et, _⟩ := id hA
  obtain ⟨mA, J, _⟩ := ins_get I.hok e
  obtain ⟨od, J, _⟩ := J.look
  obtain ⟨m0, hF⟩ := I.fr
  show wpAny (model X.prog X.w) X.A (richCompare .Eq (.ref a) (.ref b)) (EP X pins σ Q) X.xe s
  refine PySem.W.cmp_K (op := .Eq) (tb := tb) (show X.A.units < cLine by have := hr.un; omega) hF I.ok.mod.kin J Lk nf T.eq T.fn ?_
  refine wpAny_mono (run_tabeq (Q := fun u H' => Q u H') F hb ⟨hr, rfl⟩ I (y := .ref b) rfl ⟨a, b, p, t, wd, L, p2, t2, wd2, L2, rfl, hA, hB, fun H' s' => ⟨⟨_, rfl⟩, k H' s'⟩⟩) (fun r s' z => ?_) fun _ _ x => x
  obtain ⟨c, rfl, H', I', q⟩ := z
  exact ⟨.bl c, H', I', rfl, q⟩
theorem op_neT {mg : Str → Option Value} (T : TabE X.K mg CT fE) (F : FnOk X.prog X.w X.K X.mg X.base CX0 1 fE fd ["self", "other"] (spTabEq CT)) (hb : L2.Binds X.K fd ["self", "other"] []) (hr : Room 2 X.A) : OpR X (compareOp .NotEq) (rEqT CT not) := by
  intro pins s σ H x y v u Q I rx ry hq
  obtain ⟨a, b, p, t, wd, L, p2, t2, wd2, L2, rfl, rfl, hA, hB, k⟩ := hq
  cases rx
  cases ry
  obtain ⟨tb, Lk, nf⟩ := tab_look I hB
  obtain ⟨dx, x1, us, e, et, _⟩ := id hA
  obtain ⟨mA, J, _⟩ := ins_get I.hok e
  obtain ⟨od, J, _⟩ := J.look
  obtain ⟨m0, hF⟩ := I.fr
  show wpAny (model X.prog X.w) X.A (richCompare .NotEq (.ref a) (.ref b)) (EP X pins σ Q) X.xe s
  refine ne_K (tb := tb) (show X.A.units + 1 < cLine by have := hr.un; omega) hF I.ok.mod.kin J Lk nf T.eq T.fn T.ne T.ob ?_
  refine wpAny_mono (run_tabeq (Q := fun u H' => ∃ c, u = .bl c ∧ Q (.bl (!c)) H') F hb ⟨hr.in1, rfl⟩ I (y := .ref b) rfl ⟨a, b, p, t, wd, L, p2, t2, wd2, L2, rfl, hA, hB, fun H' s' => ⟨⟨_, rfl⟩, _, rfl, k H' s'⟩⟩) (fun r s' z => ?_) fun _ _ x => x
  obtain ⟨c, rfl, H', I', c', ec, q⟩ := z
  cases ec
  exact ⟨c, rfl, .bl (!c), H', I', rfl, q⟩
end
end K01


set_option Elab.async false
set_option maxRecDepth 100000
set_option maxHeartbeats 4000000
set_option linter.all false
namespace K01
open PySem PySem.Spec PyProof.Rows L2
abbrev sCheckT : Stmt := top 16
abbrev sCols : Stmt := top 17
abbrev sScaled : Stmt := top 22
abbrev sSize : Stmt := top 23
abbrev sPlain : Stmt := top 24
abbrev sEmpty : Stmt := top 25
abbrev sAcross : Stmt := top 26
theorem scCheckT : FnScope ["one"] ["one"] (defScope sCheckT) := ⟨rfl, rfl, rfl, by decide +kernel, rfl, by decide +kernel, by decide +kernel⟩
theorem scCols : FnScope ["one", "line", "k"] ["one"] (defScope sCols) := ⟨rfl, rfl, rfl, by decide +kernel, rfl, by decide +kernel, by decide +kernel⟩
theorem scScaled : FnScope ["one", "number", "a", "line"] ["one", "number"] (defScope sScaled) := ⟨rfl, rfl, rfl, by decide +kernel, rfl, by decide +kernel, by decide +kernel⟩
theorem scAcross : FnScope ["one"] ["one"] (defScope sAcross) := ⟨rfl, rfl, rfl, by decide +kernel, rfl, by decide +kernel, by decide +kernel⟩
/-- a Table is made: what is asked -/
theorem mkt_sp {K : PySem.W.Frag} {CT CP CB : Addr} {pl tl wl ll : V} {H : Hp} {Q2 : VK} {E : XK} {x dx : Addr} (nx : H x = none) (ndx : H dx = none) (ne : dx ≠ x) {op ot ow : Option Int} (hp : NuJ K H pl op)
    (h : (isP op = false ∧ Rp CP H E) ∨ ∃ p, op = some p ∧ p ∈ primes ∧ NuJ K H tl ot ∧ NuJ K H wl ow ∧
      (((szO ot = none ∨ szO ow = none) ∧ Rp CB H E) ∨ ∃ (t w : Nat) (o : Option (List (List Int))), szO ot = some t ∧ szO ow = some w ∧ LnJ K H t w ll o ∧
        ((o = none ∧ Rp CB H E) ∨ ∃ (L : List (List Int)), o = some L ∧ ∀ H', TabAt CT H' x p t w (modT p L) → Same H H' → Q2 .non H'))) :
    spTabInit K CT CP CB [.ref x, pl, tl, wl, ll] (upd (upd H dx (.own x)) x (.ins CT dx [])) Q2 E := by
  have s : Same H (upd (upd H dx (.own x)) x (.ins CT dx [])) := fun b o e => by
    rw [upd_ne (ne_of_none e nx), upd_ne (ne_of_none e ndx)]
    exact e
  refine ⟨x, dx, pl, tl, wl, ll, op, ot, ow, rfl, upd_same, hp.same s, ?_⟩
  rcases h with ⟨e, hR⟩ | ⟨p, e, hp2, ht, hw, h⟩
  · exact .inl ⟨e, hR.same s⟩
  refine .inr ⟨p, e, hp2, ht.same s, hw.same s, ?_⟩
  rcases h with ⟨e, hR⟩ | ⟨t, w, o, et, ew, hL, h⟩
  · exact .inl ⟨e, hR.same s⟩
  refine .inr ⟨t, w, o, et, ew, hL.same s, ?_⟩
  rcases h with ⟨e, hR⟩ | ⟨L, e, k⟩
  · exact .inl ⟨e, hR.same s⟩
  exact .inr ⟨L, e, fun H' hT k' => k H' hT fun b u eb => k' b u (s b u eb) (ne_of_none eb nx)⟩
theorem szO_nat {t : Nat} (h : t ≤ 60) : szO (some (t : Int)) = some t := by
  unfold szO
  dsimp only
  rw [if_pos ⟨by omega, by omega⟩]
  congr 1
/-- good parts -/
theorem mkt_good {K : PySem.W.Frag} {CT CP CB : Addr} {p : Int} {t w : Nat} {ll : V} {H : Hp} {Q2 : VK} {E : XK} {x dx : Addr} (nx : H x = none) (ndx : H dx = none) (ne : dx ≠ x) (hp : p ∈ primes) (ht : t ≤ 60) (hw : w ≤ 60) {L : List (List Int)} (hL : LnJ K H t w ll (some L))
    (k : ∀ H', TabAt CT H' x p t w (modT p L) → Same H H' → Q2 .non H') : spTabInit K CT CP CB [.ref x, .int p, .int t, .int w, ll] (upd (upd H dx (.own x)) x (.ins CT dx [])) Q2 E :=
  mkt_sp nx ndx ne (.int p) (.inr ⟨p, rfl, hp, .int t, .int w, .inr ⟨t, w, _, szO_nat ht, szO_nat hw, hL, .inr ⟨L, rfl, k⟩⟩⟩)
/-- rows of lists or tuples are lines -/
theorem rowl_of {K : PySem.W.Frag} {H : Hp} {w : Nat} : ∀ {zs : Rs}, RA K H zs → (∀ l ∈ rn zs, l.length = w) → RowL K H w (rv zs) ((rn zs).map some)
  | [], _, _ => .nil
  | z :: zs, h, e => .cons (RowJ.ints (h z (List.mem_cons_self ..)) (e z.2 (List.mem_cons_self ..))) (rowl_of (fun z m => h z (List.mem_cons_of_mem _ m)) fun l m => e l (List.mem_cons_of_mem _ m))
theorem lnj_of {K : PySem.W.Frag} {H : Hp} {t w : Nat} {a : Addr} {zs : Rs} (h : SqA K H a (rv zs)) (r : RA K H zs) (e : zs.length = t) (ew : ∀ l ∈ rn zs, l.length = w) : LnJ K H t w (.ref a) (some (rn zs)) := by
  have := LnJ.lns (t := t) (w := w) h (by rw [rv_len]; exact e) (rowl_of r ew)
  rw [allO_some] at this
  exact this
theorem modT_id {p : Int} {t w : Nat} {L : List (List Int)} (g : GoodT p t w L) : modT p L = L := by
  unfold modT
  rw [show (fun l : List Int => l.map (· % p)) = fun l => l.map (· % p) from rfl]
  conv => rhs; rw [← List.map_id L]
  refine List.map_congr_left fun l m => ?_
  conv => rhs; rw [show id l = l.map id from (List.map_id l).symm]
  refine List.map_congr_left fun i mi => ?_
  obtain ⟨h0, h1⟩ := g.mod l m i mi
  exact Int.emod_eq_of_lt h0 h1
/-- what is no Table -/
def NoTab (K : PySem.W.Frag) (CT : Addr) (H : Hp) (x : V) : Prop := ∃ t, TyX K H x t ∧ PySem.W.kitOne K t (.ref CT) = some false
theorem NoTab.same {K : PySem.W.Frag} {CT : Addr} {H H' : Hp} (s : Same H H') {x : V} (h : NoTab K CT H x) : NoTab K CT H' x := h.imp fun t q => ⟨TyX.same s q.1, q.2⟩
def spCheckT (K : PySem.W.Frag) (CT CB : Addr) : Sp := fun vs H Q E => ∃ x : V, vs = [x] ∧ ((NoTab K CT H x ∧ Rp CB H E) ∨ ∃ (a : Addr) (p : Int) (t w : Nat) (L : List (List Int)), x = .ref a ∧ TabAt CT H a p t w L ∧ Q .non H)
section
variable {P : Program} {w : World} {K : PySem.W.Frag} {mg : Str → Option Value} {base : Heap}
theorem ok_checkt {f CT CB fE : Addr} {fd : FuncData} (F : Fun K "check_table" "check_table" sCheckT f fd) (B : PlX K mg "BadTable" CB) (T : TabE K mg CT fE) (mIs : mg "isinstance" = none) : FnOk P w K mg base (L2.CX P w) 4 f fd ["one"] (spCheckT K CT CB) := by
  refine F.okX scCheckT (fun vs H Q E h => ?_) (fun cdv A outer s H vs Q E hr h => ?_)
  · obtain ⟨x, rfl, _⟩ := h
    rfl
  · obtain ⟨x, rfl, h⟩ := h
    refine ⟨_, pss_one (ps_if (pt_not (pt_val (pe_callB call_isi (by rfl) mIs (by decide +kernel) (pa_cons (pv 0) (pa_cons (pe_glob (v := .ref CT) (by rfl) T.t.g rfl) pa_nil)))))
      (pss_one (ps_raise rfl (takes_of rfl rfl rfl rfl) (pmk_own PySem.F.excBase_ValueError B.q B.g B.k (raises_own B.s B.t) (by rfl)))) pss_nil), ?_⟩
    rcases h with ⟨⟨t, ht, hk⟩, hR⟩ | ⟨a, p, t, wd, L, rfl, hA, k⟩
    · refine ⟨_, rfl, _, _, _, _, false, rfl, .own CT, ht, hk, _, rfl, ?_⟩
      refine iteT ?_
      exact hR H (Same.refl _)
    · refine ⟨_, rfl, _, _, _, _, true, rfl, .own CT, T.ty hA, T.one, _, rfl, ?_⟩
      refine iteF ?_
      exact k
/-- column k of the lines L -/
def colOf (L : List (List Int)) (k : Nat) : List Int := L.map fun l => l.getD k 0
def colsOf (L : List (List Int)) (w : Nat) : List (List Int) := (List.range w).map (colOf L)
/-- each is a list that stands alone -/
def RL (H : Hp) (zs : Rs) : Prop := ∀ z ∈ zs, H z.1 = some (.lst (z.2.map V.int))
def spCols (CT : Addr) : Sp := fun vs H Q _ => ∃ (a : Addr) (p : Int) (t w : Nat) (L : List (List Int)), vs = [.ref a] ∧ TabAt CT H a p t w L ∧ GoodT p t w L ∧
  ∀ (D : Addr) (zs : Rs) (H' : Hp), H' D = some (.lst (rv zs)) → RL H' zs → rn zs = colsOf L w → H D = none → Same H H' → Q (.ref D) H'
theorem ok_cols {f CT fE : Addr} {fd : FuncData} (F : Fun K "columns_of" "columns_of" sCols f fd) (T : TabE K mg CT fE) (mRa : mg "range" = none) : FnOk P w K mg base CX0 1 f fd ["one"] (spCols CT) := by
  refine F.ok scCols (fun vs H Q E h => ?_) (fun cdv A outer s H vs Q E hr h => ?_)
  · obtain ⟨a, p, t, wd, L, rfl, _⟩ := h
    rfl
  · obtain ⟨a, p, t, wd, L, rfl, hA, hG, k⟩ := h
    have nd := scCols.nd
    refine ⟨_, pss_one (ps_ret (pe_lc (own := [("k", 2)]) (g := gName 2) (by rfl) nd (pi_range1 (by rfl) mRa (pa_cons (pe_fld (pv 0) rfl) pa_nil)) (blkOk_by (N := ["one", "line", "k"]) (sc := defScope sCols) (by decide +kernel)) (fun _ _ _ _ _ => pg_name (i := 2) nd rfl (Or.inr rfl)) (fun _ _ _ _ _ => pts_nil)
      (fun _ _ _ _ _ => pe_lc (own := [("line", 1)]) (g := gName 1) (by rfl) nd (show PI _ _ _ (iSeq K (tFld K (tVar 0) "lines")) from pi_seq (pe_fld (pv 0) rfl)) (blkOk_by (N := ["one", "line", "k"]) (by kernel_rfl)) (fun _ _ _ _ _ => pg_name (i := 1) nd rfl (Or.inl rfl)) (fun _ _ _ _ _ => pts_nil)
        (fun _ _ _ _ _ => pe_ix (show IxR _ (rIxT K) from ix_tup) (pv 1) (pv 2) (fun _ _ => rfl))))), ?_⟩
    obtain ⟨dx, b, us, e, eb, hr2, rfl⟩ := id hA
    have w60 := hG.w60
    have t60 := hG.t60
    have hlen : us.length = t := by rw [← rn_len]; exact hG.len
    refine ⟨_, rfl, a, CT, dx, _, _, rfl, e, T.t.cl, T.t.nW, rfl, wd, rfl, by omega, by omega, fun D nD => ?_⟩
    rw [Int.toNat_natCast]
    refine lc_range (lo := 0) (n := wd) (fun k Hd => ∃ ws : Rs, rn ws = (colsOf (rn us) wd).take k ∧ RL Hd ws ∧ Hd D = some (.lst (rv ws)) ∧ (∀ z ∈ ws, z.1 ≠ D) ∧ Same H Hd) ⟨[], rfl, fun z m => by simp at m, upd_same, fun z m => by simp at m, same_upd nD⟩ ?_ ?_
    · rintro k Hd hk ⟨ws, hw2, pw, eD, nw, sd⟩
      have hwsl : ws.length ≤ k := by
        have := congrArg List.length hw2
        rw [rn_len, List.length_take] at this
        omega
      refine ⟨rfl, ?_⟩
      dsimp only [tYes]
      refine iteT ?_
      refine ⟨_, rfl, a, CT, dx, _, _, rfl, sd _ _ e, T.t.cl, T.t.nL, rfl, b, rv us, rfl, .inr (.inl (.inl (sd _ _ eb))), fun J2 hJ2 D2 nD2 => ?_⟩
      refine lc_seq hJ2 (fun i He => He D2 = some (.lst ((colOf ((rn us).take i) k).map V.int)) ∧ Same Hd He) ⟨upd_same, same_upd nD2⟩ (fun i He _ hh => .of hh.2) ?_ ?_
      · rintro i y He hi ⟨eD2, se⟩
        obtain ⟨⟨r, l⟩, hz, rfl⟩ := rv_inv hi
        have hzm : (r, l) ∈ us := List.mem_of_getElem? hz
        have hil : i < us.length := (List.getElem?_eq_some_iff.mp hz).1
        have hll : l.length = wd := hG.wid l (List.mem_map.mpr ⟨_, hzm, rfl⟩)
        refine ⟨rfl, ?_⟩
        dsimp only [tYes]
        refine iteT ?_
        have hat : atI (l.map V.int) ((0 : Int) + (k : Nat)) = some (.int (l.getD k 0)) := by
          rw [Int.zero_add]
          refine atI_nat ?_
          rw [List.getElem?_map, List.getElem?_eq_getElem (by omega)]
          rw [List.getD_eq_getElem?_getD, List.getElem?_eq_getElem (by omega)]
          rfl
        refine ⟨_, rfl, _, rfl, r, l.map V.int, _, _, rfl, rfl, .inl (.inl (se _ _ (sd _ _ (hr2 _ hzm)))), hat, _, eD2, small_2000 (by rw [List.length_map]; unfold colOf; rw [List.length_map, List.length_take]; omega), ?_, same_put se nD2⟩
        rw [upd_same, List.take_add_one]
        unfold colOf
        rw [List.map_append, List.map_append]
        unfold rn
        rw [List.getElem?_map, hz]
        rfl
      · rintro He ⟨eD2, se⟩
        have hl2 : (rv us).length = (rn us).length := by rw [rv_len, rn_len]
        rw [hl2, List.take_length] at eD2
        have nDD : D2 ≠ D := fun z => by rw [z, eD] at nD2; cases nD2
        refine ⟨_, se _ _ eD, small_2000 (by rw [rv_len]; omega), ws ++ [(D2, colOf (rn us) k)], ?_, ?_, by rw [upd_same, rv_app], ?_, same_put (sd.trans se) nD⟩
        · rw [rn_app, hw2, List.take_add_one]
          unfold colsOf
          rw [List.getElem?_map, List.getElem?_range hk]
          rfl
        · rintro z m
          rcases List.mem_append.mp m with m | m
          · rw [upd_ne (nw z m)]
            exact se _ _ (pw z m)
          · rw [List.mem_singleton] at m
            subst m
            rw [upd_ne nDD]
            exact eD2
        · rintro z m
          rcases List.mem_append.mp m with m | m
          · exact nw z m
          · rw [List.mem_singleton] at m
            subst m
            exact nDD
    · rintro Hd ⟨ws, hw2, pw, eD, nw, sd⟩
      have hcl : (colsOf (rn us) wd).length = wd := by unfold colsOf; rw [List.length_map, List.length_range]
      rw [List.take_of_length_le (by omega)] at hw2
      exact k D ws Hd eD pw hw2 nD sd
end
end K01


set_option Elab.async false
set_option maxRecDepth 100000
set_option maxHeartbeats 4000000
set_option linter.all false
namespace K01
open PySem PySem.Spec PyProof.Rows L2
/-- the way out: an error with this field -/
def Rz (CB : Addr) (H : Hp) (E : XK) (v : V) : Prop := ∀ (d : Addr) (H' : Hp), H d = none → Same H H' → H' d = some (.xd [("part", v)]) → E (.ref CB) (some d) H'
theorem Rz.same {CB : Addr} {H H' : Hp} {E : XK} {v : V} (s : Same H H') (h : Rz CB H E v) : Rz CB H' E v := fun d H2 nd s2 e => h d H2 (by
  cases q : H d with
  | none => rfl
  | some o => rw [s d o q] at nd; cases nd) (s.trans s2) e
/-- what the text says of BadNumber's making -/
structure BadM (P : Program) (w : World) (K : PySem.W.Frag) (mg : Str → Option Value) (base : Heap) (CB fB : Addr) (fdB : FuncData) : Prop where
  oex : OexC K CB
  ini : PySem.W.findIn K (.ref CB) "__init__" = some (some (.ref fB))
  tyI : PySem.W.typeIn K (.ref fB) = some (.type "function")
  ok : FnOk P w K mg base CX0 2 fB fdB ["self", "part"] (spInitX CB "part")
  bd : L2.Binds K fdB ["self", "part"] []
  g : mg "BadNumber" = some (.ref CB)
theorem mko_of {C : Addr} {fld : Str} {σ : L2.St} {H : Hp} {E : XK} {ta : TA} {v : V} (ht : ∀ Q, Q [v] H → ta σ H Q) (k : ∀ (d : Addr) (H' : Hp), H d = none → Same H H' → H' d = some (.xd [(fld, v)]) → E (.ref C) (some d) H') : tMkO C (spInitX C fld) [] ta σ H E := by
  refine ht _ ⟨by show 1 ≤ 1000; decide, fun a na => ⟨a, v, rfl, upd_same, fun d hd hda => ⟨rfl, d, [(fld, v)], upd_same, ?_, ?_, ?_⟩⟩⟩
  · rw [upd_ne hda, upd_same]
  · rw [upd_ne hda] at hd; exact hd
  · have nd : H d = none := by rw [upd_ne hda] at hd; exact hd
    refine k d _ nd (fun b o e => ?_) upd_same
    have ha : b ≠ a := ne_of_none e na
    have hb : b ≠ d := ne_of_none e nd
    rw [upd_ne hb, del_ne ha, upd_ne ha, upd_ne hb, upd_ne ha]
    exact e
/-- Table and check_table, as they are called -/
structure Pg (P : Program) (w : World) (K : PySem.W.Frag) (mg : Str → Option Value) (base : Heap) (CT CP CB : Addr) where
  fE : Addr
  fI : Addr
  dI : FuncData
  fK : Addr
  dK : FuncData
  T : TabE K mg CT fE
  m : L2.Mk K CT fI
  ok : FnOk P w K mg base (L2.CX P w) 4 fI dI ["self", "prime", "tall", "wide", "lines"] (spTabInit K CT CP CB)
  b : L2.Binds K dI ["self", "prime", "tall", "wide", "lines"] []
  okK : FnOk P w K mg base (L2.CX P w) 4 fK dK ["one"] (spCheckT K CT CB)
  bK : L2.Binds K dK ["one"] []
  gK : mg "check_table" = some (.ref fK)
  kK : PySem.W.keepIn K (.ref fK) = true
theorem RL.ra {K : PySem.W.Frag} {H : Hp} {zs : Rs} (h : RL H zs) : RA K H zs := fun z m => .inl (SqL.of (h z m))
theorem good_cols {p : Int} {t w : Nat} {L : List (List Int)} (g : GoodT p t w L) : GoodT p w t (colsOf L w) where
  pr := g.pr
  t60 := g.w60
  w60 := g.t60
  len := by unfold colsOf; rw [List.length_map, List.length_range]
  wid := fun l m => by
    unfold colsOf at m
    obtain ⟨k, _, rfl⟩ := List.mem_map.mp m
    unfold colOf
    rw [List.length_map]
    exact g.len
  mod := fun l m i mi => by
    unfold colsOf at m
    obtain ⟨k, hk, rfl⟩ := List.mem_map.mp m
    unfold colOf at mi
    obtain ⟨l0, m0, rfl⟩ := List.mem_map.mp mi
    have hk2 := List.mem_range.mp hk
    refine g.mod l0 m0 _ ?_
    rw [List.getD_eq_getElem?_getD, List.getElem?_eq_getElem (by rw [g.wid l0 m0]; exact hk2)]
    exact List.getElem_mem ..
def spAcross (K : PySem.W.Frag) (CT CB : Addr) : Sp := fun vs H Q E => ∃ x : V, vs = [x] ∧ ((NoTab K CT H x ∧ Rp CB H E) ∨ ∃ (a : Addr) (p : Int) (t w : Nat) (L : List (List Int)), x = .ref a ∧ TabAt CT H a p t w L ∧ GoodT p t w L ∧
  ∀ (y : Addr) (H' : Hp), TabAt CT H' y p w t (colsOf L w) → Same H H' → Q (.ref y) H')
/-- how a field of a Table is read -/
theorem tab_fld {CT : Addr} {H : Hp} {a : Addr} {p : Int} {t w : Nat} {L : List (List Int)} (h : TabAt CT H a p t w L) : ∃ dx b, H a = some (.ins CT dx [("prime", .int p), ("tall", .int t), ("wide", .int w), ("lines", .ref b)]) := by
  obtain ⟨dx, b, _, e, _⟩ := h
  exact ⟨dx, b, e⟩
section
variable {P : Program} {w : World} {K : PySem.W.Frag} {mg : Str → Option Value} {base : Heap} {CT CP CB : Addr}
theorem ok_across {f fC : Addr} {fd fdC : FuncData} (F : Fun K "across" "across" sAcross f fd) (G : Pg P w K mg base CT CP CB) (GC : FnOk P w K mg base CX0 1 fC fdC ["one"] (spCols CT)) (bC : L2.Binds K fdC ["one"] []) (gC : mg "columns_of" = some (.ref fC)) (kC : PySem.W.keepIn K (.ref fC) = true) : FnOk P w K mg base (L2.CX P w) 6 f fd ["one"] (spAcross K CT CB) := by
  refine F.okX scAcross (fun vs H Q E h => ?_) (fun cdv A outer s H vs Q E hr h => ?_)
  · obtain ⟨x, rfl, _⟩ := h
    rfl
  · obtain ⟨x, rfl, h⟩ := h
    have nd := scAcross.nd
    have r1 : Room 1 _ := hr.mono (by decide)
    have r4 : Room 4 _ := hr.mono (by decide)
    refine ⟨_, pss_cons (ps_expr (pe_call G.okK r4 (by rfl) G.gK G.kK G.bK .nil (passes_call (takes_of rfl rfl rfl rfl) fun _ _ _ _ h => h) (pa_cons (pv 0) pa_nil)))
      (pss_one (ps_ret (pe_make G.m G.ok hr (by rfl) G.T.t.g G.b .nil (passes_call (takes_of rfl rfl rfl rfl) fun _ _ _ _ h => h) (pa_cons (pe_fld (pv 0) rfl) (pa_cons (pe_fld (pv 0) rfl) (pa_cons (pe_fld (pv 0) rfl) (pa_cons (pe_call GC r1 (by rfl) gC kC bC .nil pass0 (pa_cons (pv 0) pa_nil)) pa_nil))))))), ?_⟩
    rcases h with ⟨h, hR⟩ | ⟨a, p, t, wd, L, rfl, hA, hG, k⟩
    · exact ⟨_, rfl, x, rfl, .inl ⟨h, hR⟩⟩
    · refine ⟨_, rfl, _, rfl, .inr ⟨a, p, t, wd, L, rfl, hA, ?_⟩⟩
      obtain ⟨dx, b, e⟩ := tab_fld hA
      refine ⟨_, rfl, a, CT, dx, _, _, rfl, e, G.T.t.cl, G.T.t.nP, rfl, _, rfl, a, CT, dx, _, _, rfl, e, G.T.t.cl, G.T.t.nW, rfl, _, rfl, a, CT, dx, _, _, rfl, e, G.T.t.cl, G.T.t.nT, rfl, ?_⟩
      refine ⟨_, rfl, a, p, t, wd, L, rfl, hA, hG, fun D zs H1 eD hz hn nD s1 => ?_⟩
      intro y dy ny ndy ne
      have g2 := good_cols hG
      refine mkt_good ny ndy ne hG.pr hG.w60 hG.t60 (L := rn zs) (lnj_of (.inl (SqL.of eD)) hz.ra (by rw [← rn_len, hn]; exact g2.len) (by rw [hn]; exact g2.wid)) fun H2 hT s2 => ⟨rfl, ?_⟩
      rw [hn, modT_id g2] at hT
      exact k y H2 hT (s1.trans s2)
end
end K01


set_option Elab.async false
set_option maxRecDepth 100000
set_option maxHeartbeats 4000000
set_option linter.all false
namespace K01
open PySem PySem.Spec PyProof.Rows L2
theorem scSize : FnScope ["thing", "part"] ["thing", "part"] (defScope sSize) := ⟨rfl, rfl, rfl, by decide +kernel, rfl, by decide +kernel, by decide +kernel⟩
theorem scPlain : FnScope ["prime", "size", "lines", "k", "at"] ["prime", "size"] (defScope sPlain) := ⟨rfl, rfl, rfl, by decide +kernel, rfl, by decide +kernel, by decide +kernel⟩
theorem scEmpty : FnScope ["prime", "tall", "wide"] ["prime", "tall", "wide"] (defScope sEmpty) := ⟨rfl, rfl, rfl, by decide +kernel, rfl, by decide +kernel, by decide +kernel⟩
def spScaled (K : PySem.W.Frag) (CT CB CN : Addr) : Sp := fun vs H Q E => ∃ x y : V, vs = [x, y] ∧ ((NoTab K CT H x ∧ Rp CB H E) ∨ ∃ (a : Addr) (p : Int) (t w : Nat) (L : List (List Int)), x = .ref a ∧ TabAt CT H a p t w L ∧ GoodT p t w L ∧
  ((NuJ K H y none ∧ Rz CN H E (.str "number")) ∨ ∃ i : Int, y = .int i ∧ ∀ (z : Addr) (H' : Hp), TabAt CT H' z p t w (modT p (L.map fun l => l.map (i * ·))) → Same H H' → Q (.ref z) H'))
def spSize (K : PySem.W.Frag) (CN : Addr) : Sp := fun vs H Q E => ∃ (x : V) (o : Option Int) (m : Str), vs = [x, .str m] ∧ NuJ K H x o ∧ ((szO o = none ∧ Rz CN H E (.str m)) ∨ ((szO o).isSome = true ∧ Q .non H))
section
variable {P : Program} {w : World} {K : PySem.W.Frag} {mg : Str → Option Value} {base : Heap} {CT CP CB : Addr}
theorem ok_size {f fN CN fB : Addr} {fd fdN fdB : FuncData} (F : Fun K "check_size" "check_size" sSize f fd) (GN : FnOk P w K mg base CX0 2 fN fdN ["thing", "most"] (spIsNumTo K)) (bN : L2.Binds K fdN ["thing", "most"] []) (gN : mg "is_number_to" = some (.ref fN)) (kN : PySem.W.keepIn K (.ref fN) = true) (C : ConT K mg) (BM : BadM P w K mg base CN fB fdB) :
    FnOk P w K mg base (L2.CX P w) 4 f fd ["thing", "part"] (spSize K CN) := by
  refine F.okX scSize (fun vs H Q E h => ?_) (fun cdv A outer s H vs Q E hr h => ?_)
  · obtain ⟨x, o, m, rfl, _⟩ := h
    rfl
  · obtain ⟨x, o, m, rfl, hx, h⟩ := h
    have nd := scSize.nd
    have r2 : Room 2 _ := hr.mono (by decide)
    refine ⟨_, pss_one (ps_if (pt_not (pt_val (pe_call GN r2 (by rfl) gN kN bN .nil pass0 (pa_cons (pv 0) (pa_cons (pe_glob (v := .int 60) (by rfl) C.gG ⟨C.tk, rfl⟩) pa_nil)))))
      (pss_one (ps_raise rfl (takes_of rfl rfl rfl rfl) (pmk_oex BM.oex BM.ini BM.tyI BM.ok hr BM.bd .nil pass0 (by rfl) BM.g (pa_cons (pv 1) pa_nil)))) pss_nil), ?_⟩
    refine ⟨_, rfl, ?_⟩
    dsimp only [tCons, tNil, tC, List.cons_append, List.nil_append]
    refine nu_size hx ⟨_, rfl, ?_⟩
    rcases h with ⟨e, hR⟩ | ⟨e, k⟩
    · rw [sz_none e]
      refine iteT ?_
      exact mko_of (fun Q q => ⟨_, rfl, q⟩) hR
    · obtain ⟨t, et⟩ := Option.isSome_iff_exists.mp e
      rw [(sz_some et).1]
      refine iteF ?_
      exact k
theorem ok_scaled {f fN CN fB : Addr} {fd fdN fdB : FuncData} (F : Fun K "scaled" "scaled" sScaled f fd) (G : Pg P w K mg base CT CP CB) (GN : FnOk P w K mg base CX0 1 fN fdN ["thing"] (spIsNum K)) (bN : L2.Binds K fdN ["thing"] []) (gN : mg "is_number" = some (.ref fN)) (kN : PySem.W.keepIn K (.ref fN) = true) (BM : BadM P w K mg base CN fB fdB) :
    FnOk P w K mg base (L2.CX P w) 6 f fd ["one", "number"] (spScaled K CT CB CN) := by
  refine F.okX scScaled (fun vs H Q E h => ?_) (fun cdv A outer s H vs Q E hr h => ?_)
  · obtain ⟨x, y, rfl, _⟩ := h
    rfl
  · obtain ⟨x, y, rfl, h⟩ := h
    have nd := scScaled.nd
    have r1 : Room 1 _ := hr.mono (by decide)
    have r3 : Room 3 _ := hr.mono (by decide)
    have r4 : Room 4 _ := hr.mono (by decide)
    refine ⟨_, pss_cons (ps_expr (pe_call G.okK r4 (by rfl) G.gK G.kK G.bK .nil (passes_call (takes_of rfl rfl rfl rfl) fun _ _ _ _ h => h) (pa_cons (pv 0) pa_nil)))
      (pss_cons (ps_if (pt_not (pt_val (pe_call GN r1 (by rfl) gN kN bN .nil pass0 (pa_cons (pv 1) pa_nil))))
        (pss_one (ps_raise rfl (takes_of rfl rfl rfl rfl) (pmk_oex BM.oex BM.ini BM.tyI BM.ok r3 BM.bd .nil pass0 (by rfl) BM.g (pa_cons pe_str pa_nil)))) pss_nil)
      (pss_one (ps_ret (pe_make G.m G.ok hr (by rfl) G.T.t.g G.b .nil (passes_call (takes_of rfl rfl rfl rfl) fun _ _ _ _ h => h) (pa_cons (pe_fld (pv 0) rfl) (pa_cons (pe_fld (pv 0) rfl) (pa_cons (pe_fld (pv 0) rfl) (pa_cons
        (pe_lc (own := [("line", 3)]) (g := gName 3) (by rfl) nd (pi_seq (pe_fld (pv 0) rfl)) (blkOk_by (N := ["one", "number", "a", "line"]) (sc := defScope sScaled) (by decide +kernel)) (fun _ _ _ _ _ => pg_name (i := 3) nd rfl (Or.inl rfl)) (fun _ _ _ _ _ => pts_nil)
          (fun _ _ _ _ _ => pe_lc (own := [("a", 2)]) (g := gName 2) (by rfl) nd (show PI _ _ _ (iSeq K (tVar 3)) from pi_seq (pv 3)) (blkOk_by (N := ["one", "number", "a", "line"]) (by kernel_rfl)) (fun _ _ _ _ _ => pg_name (i := 2) nd rfl (Or.inl rfl)) (fun _ _ _ _ _ => pts_nil)
            (fun _ _ _ _ _ => pe_op op_mul (pv 1) (pv 2)))) pa_nil)))))))), ?_⟩
    rcases h with ⟨h, hR⟩ | ⟨a, p, t, wd, L, rfl, hA, hG, h⟩
    · exact ⟨_, rfl, x, rfl, .inl ⟨h, hR⟩⟩
    · refine ⟨_, rfl, _, rfl, .inr ⟨a, p, t, wd, L, rfl, hA, ?_⟩⟩
      refine ⟨_, rfl, ?_⟩
      dsimp only [tCons, tNil, tC, List.cons_append, List.nil_append]
      rcases h with ⟨h, hR⟩ | ⟨i, rfl, k⟩
      · refine nu_isnum h ⟨_, rfl, ?_⟩
        refine iteT ?_
        exact mko_of (fun Q q => q) hR
      · refine nu_isnum (.int i) ⟨_, rfl, ?_⟩
        refine iteF ?_
        obtain ⟨dx, b, us, e, eb, hr2, rfl⟩ := id hA
        have w60 := hG.w60
        have t60 := hG.t60
        have hlen : us.length = t := by rw [← rn_len]; exact hG.len
        refine ⟨_, rfl, a, CT, dx, _, _, rfl, e, G.T.t.cl, G.T.t.nP, rfl, _, rfl, a, CT, dx, _, _, rfl, e, G.T.t.cl, G.T.t.nT, rfl, _, rfl, a, CT, dx, _, _, rfl, e, G.T.t.cl, G.T.t.nW, rfl, ?_⟩
        refine ⟨_, rfl, a, CT, dx, _, _, rfl, e, G.T.t.cl, G.T.t.nL, rfl, b, rv us, rfl, .inr (.inl (.inl eb)), fun J hJ D nD => ?_⟩
        refine lc_seq hJ (fun j Hd => ∃ ws : Rs, rn ws = ((rn us).map fun l => l.map (i * ·)).take j ∧ RL Hd ws ∧ Hd D = some (.lst (rv ws)) ∧ (∀ z ∈ ws, z.1 ≠ D) ∧ Same H Hd) ⟨[], rfl, fun z m => by simp at m, upd_same, fun z m => by simp at m, same_upd nD⟩ (fun j Hd _ hh => by obtain ⟨_, _, _, _, _, s⟩ := hh; exact .of s) ?_ ?_
        · rintro j y Hd hj ⟨ws, hw2, pw, eD, nw, sd⟩
          obtain ⟨⟨r, l⟩, hz, rfl⟩ := rv_inv hj
          have hzm : (r, l) ∈ us := List.mem_of_getElem? hz
          have hjl : j < us.length := (List.getElem?_eq_some_iff.mp hz).1
          have hll : l.length = wd := hG.wid l (List.mem_map.mpr ⟨_, hzm, rfl⟩)
          have hwsl : ws.length ≤ j := by
            have := congrArg List.length hw2
            rw [rn_len, List.length_take] at this
            omega
          refine ⟨rfl, ?_⟩
          dsimp only [tYes]
          refine iteT ?_
          refine ⟨_, rfl, r, l.map V.int, rfl, .inr (.inl (.inl (sd _ _ (hr2 _ hzm)))), fun J2 hJ2 D2 nD2 => ?_⟩
          refine lc_seq hJ2 (fun m He => He D2 = some (.lst ((l.take m).map fun n => V.int (i * n))) ∧ Same Hd He) ⟨upd_same, same_upd nD2⟩ (fun m He _ hh => .of hh.2) ?_ ?_
          · rintro m y He hi ⟨eD2, se⟩
            obtain ⟨n, hn, rfl⟩ := map_inv hi
            have hil : m < l.length := (List.getElem?_eq_some_iff.mp hn).1
            have hb := hG.mod l (List.mem_map.mpr ⟨_, hzm, rfl⟩) n (List.mem_of_getElem? hn)
            have hp97 := prime_pos hG.pr
            refine ⟨rfl, ?_⟩
            dsimp only [tYes]
            refine iteT ?_
            refine ⟨_, rfl, _, rfl, i, n, rfl, rfl, .inr ⟨by omega, by omega⟩, _, eD2, small_2000 (by rw [List.length_map, List.length_take]; omega), ?_, same_put se nD2⟩
            rw [upd_same, List.take_add_one, hn, List.map_append]
            rfl
          · rintro He ⟨eD2, se⟩
            rw [List.length_map, List.take_length] at eD2
            have nDD : D2 ≠ D := fun z => by rw [z, eD] at nD2; cases nD2
            refine ⟨_, se _ _ eD, small_2000 (by rw [rv_len]; omega), ws ++ [(D2, l.map (i * ·))], ?_, ?_, by rw [upd_same, rv_app], ?_, same_put (sd.trans se) nD⟩
            · rw [rn_app, hw2, List.take_add_one]
              unfold rn
              rw [List.getElem?_map, List.getElem?_map, hz]
              rfl
            · rintro z m
              rcases List.mem_append.mp m with m | m
              · rw [upd_ne (nw z m)]
                exact se _ _ (pw z m)
              · rw [List.mem_singleton] at m
                subst m
                rw [upd_ne nDD]
                show He D2 = some (.lst ((l.map (i * ·)).map V.int))
                rw [eD2, List.map_map]
                rfl
            · rintro z m
              rcases List.mem_append.mp m with m | m
              · exact nw z m
              · rw [List.mem_singleton] at m
                subst m
                exact nDD
        · rintro Hd ⟨ws, hw2, pw, eD, nw, sd⟩
          rw [rv_len, List.take_of_length_le (by rw [List.length_map, rn_len]; exact Nat.le_refl _)] at hw2
          intro y dy ny ndy ne
          refine mkt_good ny ndy ne hG.pr hG.t60 hG.w60 (L := rn ws) (lnj_of (.inl (SqL.of eD)) pw.ra (by rw [← rn_len, hw2, List.length_map, rn_len]; exact hlen) (fun l m => by
            rw [hw2] at m
            obtain ⟨l0, m0, rfl⟩ := List.mem_map.mp m
            rw [List.length_map]
            exact hG.wid l0 m0)) fun H2 hT s2 => ⟨rfl, ?_⟩
          rw [hw2] at hT
          exact k y H2 hT (sd.trans s2)
end
end K01


set_option Elab.async false
set_option maxRecDepth 100000
set_option maxHeartbeats 4000000
set_option linter.all false
namespace K01
open PySem PySem.Spec PyProof.Rows L2
theorem rep1 (v : V) : ∀ n : Nat, (List.replicate n [v]).flatten = List.replicate n v
  | 0 => rfl
  | n + 1 => by rw [List.replicate_succ, List.flatten_cons, rep1 v n]; rfl
/-- a row more -/
theorem rl_add {He : Hp} {ws : Rs} {D D2 : Addr} {l : List Int} {o : HO} (pw : RL He ws) (nw : ∀ z ∈ ws, z.1 ≠ D) (e2 : He D2 = some (.lst (l.map V.int))) (ne : D2 ≠ D) : RL (upd He D o) (ws ++ [(D2, l)]) ∧ ∀ z ∈ ws ++ [(D2, l)], z.1 ≠ D := by
  refine ⟨fun z m => ?_, fun z m => ?_⟩
  · rcases List.mem_append.mp m with m | m
    · rw [upd_ne (nw z m)]
      exact pw z m
    · rw [List.mem_singleton] at m
      subst m
      rw [upd_ne ne]
      exact e2
  · rcases List.mem_append.mp m with m | m
    · exact nw z m
    · rw [List.mem_singleton] at m
      subst m
      exact ne
def unitRow (n a : Nat) : List Int := (List.range n).map fun k => if k = a then 1 else 0
def unitL (n : Nat) : List (List Int) := (List.range n).map (unitRow n)
theorem good_unit {p : Int} {n : Nat} (hp : p ∈ primes) (h : n ≤ 60) : GoodT p n n (unitL n) where
  pr := hp
  t60 := h
  w60 := h
  len := by unfold unitL; rw [List.length_map, List.length_range]
  wid := fun l m => by
    unfold unitL at m
    obtain ⟨a, _, rfl⟩ := List.mem_map.mp m
    unfold unitRow
    rw [List.length_map, List.length_range]
  mod := fun l m i mi => by
    unfold unitL at m
    obtain ⟨a, _, rfl⟩ := List.mem_map.mp m
    unfold unitRow at mi
    obtain ⟨k, _, rfl⟩ := List.mem_map.mp mi
    have := prime_pos hp
    split <;> omega
def zeroL (t w : Nat) : List (List Int) := List.replicate t (List.replicate w 0)
theorem good_zero {p : Int} {t w : Nat} (hp : p ∈ primes) (ht : t ≤ 60) (hw : w ≤ 60) : GoodT p t w (zeroL t w) where
  pr := hp
  t60 := ht
  w60 := hw
  len := by unfold zeroL; rw [List.length_replicate]
  wid := fun l m => by
    unfold zeroL at m
    rw [List.eq_of_mem_replicate m, List.length_replicate]
  mod := fun l m i mi => by
    unfold zeroL at m
    rw [List.eq_of_mem_replicate m] at mi
    rw [List.eq_of_mem_replicate mi]
    have := prime_pos hp
    omega
def spPlain (K : PySem.W.Frag) (CT CP CN : Addr) : Sp := fun vs H Q E => ∃ (x y : V) (op o : Option Int), vs = [x, y] ∧ NuJ K H x op ∧ ((isP op = false ∧ Rp CP H E) ∨ ∃ p, op = some p ∧ p ∈ primes ∧ NuJ K H y o ∧
  ((szO o = none ∧ Rz CN H E (.str "size")) ∨ ∃ n, szO o = some n ∧ ∀ (z : Addr) (H' : Hp), TabAt CT H' z p n n (unitL n) → Same H H' → Q (.ref z) H'))
def spEmpty (K : PySem.W.Frag) (CT CP CN : Addr) : Sp := fun vs H Q E => ∃ (x y y2 : V) (op o o2 : Option Int), vs = [x, y, y2] ∧ NuJ K H x op ∧ ((isP op = false ∧ Rp CP H E) ∨ ∃ p, op = some p ∧ p ∈ primes ∧ NuJ K H y o ∧ NuJ K H y2 o2 ∧
  ((szO o = none ∧ Rz CN H E (.str "tall")) ∨ ∃ t, szO o = some t ∧ ((szO o2 = none ∧ Rz CN H E (.str "wide")) ∨ ∃ w, szO o2 = some w ∧ ∀ (z : Addr) (H' : Hp), TabAt CT H' z p t w (zeroL t w) → Same H H' → Q (.ref z) H')))
/-- check_prime and check_size, as they are called -/
structure Ck (P : Program) (w : World) (K : PySem.W.Frag) (mg : Str → Option Value) (base : Heap) (CP CN : Addr) where
  fP : Addr
  dP : FuncData
  fS : Addr
  dS : FuncData
  okP : FnOk P w K mg base (L2.CX P w) 3 fP dP ["prime"] (spCheckP K CP)
  bP : L2.Binds K dP ["prime"] []
  gP : mg "check_prime" = some (.ref fP)
  kP : PySem.W.keepIn K (.ref fP) = true
  okS : FnOk P w K mg base (L2.CX P w) 4 fS dS ["thing", "part"] (spSize K CN)
  bS : L2.Binds K dS ["thing", "part"] []
  gS : mg "check_size" = some (.ref fS)
  kS : PySem.W.keepIn K (.ref fS) = true
section
variable {P : Program} {w : World} {K : PySem.W.Frag} {mg : Str → Option Value} {base : Heap} {CT CP CB CN : Addr}
theorem ok_plain {f : Addr} {fd : FuncData} (F : Fun K "plain" "plain" sPlain f fd) (G : Pg P w K mg base CT CP CB) (C : Ck P w K mg base CP CN) (mRa : mg "range" = none) : FnOk P w K mg base (L2.CX P w) 6 f fd ["prime", "size"] (spPlain K CT CP CN) := by
  refine F.okX scPlain (fun vs H Q E h => ?_) (fun cdv A outer s H vs Q E hr h => ?_)
  · obtain ⟨x, y, op, o, rfl, _⟩ := h
    rfl
  · obtain ⟨x, y, op, o, rfl, hx, h⟩ := h
    have nd := scPlain.nd
    have r3 : Room 3 _ := hr.mono (by decide)
    have r4 : Room 4 _ := hr.mono (by decide)
    refine ⟨_, pss_cons (ps_expr (pe_call C.okP r3 (by rfl) C.gP C.kP C.bP .nil (passes_call (takes_of rfl rfl rfl rfl) fun _ _ _ _ h => h) (pa_cons (pv 0) pa_nil)))
      (pss_cons (ps_expr (pe_call C.okS r4 (by rfl) C.gS C.kS C.bS .nil (passes_call (takes_of rfl rfl rfl rfl) fun _ _ _ _ h => h) (pa_cons (pv 1) (pa_cons pe_str pa_nil))))
      (pss_cons (ps_setLc (i := 2) (own := [("at", 4)]) (g := gName 4) (by rfl) nd rfl rfl (sw_true rfl rfl rfl (by decide +kernel)) (pi_range1 (by rfl) mRa (pa_cons (pv 1) pa_nil)) (blkOk_by (N := ["prime", "size", "lines", "k", "at"]) (sc := defScope sPlain) (by decide +kernel)) (fun _ _ _ _ _ => pg_name (i := 4) nd rfl (Or.inr rfl)) (fun _ _ _ _ _ => pts_nil)
          (fun _ _ _ _ _ => pe_lc (own := [("k", 3)]) (g := gName 3) (by rfl) nd (pi_range1 (by rfl) mRa (pa_cons (pv 1) pa_nil)) (blkOk_by (N := ["prime", "size", "lines", "k", "at"]) (by kernel_rfl)) (fun _ _ _ _ _ => pg_name (i := 3) nd rfl (Or.inl rfl)) (fun _ _ _ _ _ => pts_nil)
            (fun _ _ _ _ _ => pe_ifExp (pt_cmpR op_eq (pv 3) (pv 4) (nomark _)) pe_int pe_int)))
      (pss_one (ps_ret (pe_make G.m G.ok hr (by rfl) G.T.t.g G.b .nil (passes_call (takes_of rfl rfl rfl rfl) fun _ _ _ _ h => h) (pa_cons (pv 0) (pa_cons (pv 1) (pa_cons (pv 1) (pa_cons (pv 2) pa_nil))))))))), ?_⟩
    rcases h with ⟨e, hR⟩ | ⟨p, rfl, hp, hy, h⟩
    · exact ⟨_, rfl, x, op, rfl, hx, .inr ⟨e, hR⟩⟩
    obtain rfl := nu_some hx
    refine ⟨_, rfl, _, _, rfl, hx, .inl ⟨decide_eq_true hp, ?_⟩⟩
    rcases h with ⟨e, hR⟩ | ⟨n, e, k⟩
    · exact ⟨_, rfl, y, o, _, rfl, hy, .inl ⟨e, hR⟩⟩
    obtain ⟨_, rfl, n60⟩ := sz_some e
    obtain rfl := nu_some hy
    refine ⟨_, rfl, _, _, _, rfl, hy, .inr ⟨by rw [e]; rfl, ?_⟩⟩
    refine ⟨_, rfl, n, rfl, by omega, by omega, fun D nD => ?_⟩
    rw [Int.toNat_natCast]
    refine lc_range (lo := 0) (n := n) (fun a Hd => ∃ ws : Rs, rn ws = (unitL n).take a ∧ RL Hd ws ∧ Hd D = some (.lst (rv ws)) ∧ (∀ z ∈ ws, z.1 ≠ D) ∧ Same H Hd) ⟨[], rfl, fun z m => by simp at m, upd_same, fun z m => by simp at m, same_upd nD⟩ ?_ ?_
    · rintro a Hd ha ⟨ws, hw2, pw, eD, nw, sd⟩
      have hwsl : ws.length ≤ a := by
        have := congrArg List.length hw2
        rw [rn_len, List.length_take] at this
        omega
      refine ⟨rfl, ?_⟩
      dsimp only [tYes]
      refine iteT ?_
      refine ⟨_, rfl, n, rfl, by omega, by omega, fun D2 nD2 => ?_⟩
      rw [Int.toNat_natCast]
      refine lc_range (lo := 0) (n := n) (fun k He => He D2 = some (.lst (((unitRow n a).take k).map V.int)) ∧ Same Hd He) ⟨upd_same, same_upd nD2⟩ ?_ ?_
      · rintro k He hk ⟨eD2, se⟩
        refine ⟨rfl, ?_⟩
        dsimp only [tYes]
        refine iteT ?_
        have fin : ∀ z : Int, z = (if k = a then 1 else 0) → ∃ acc, He D2 = some (.lst acc) ∧ acc.length < sizeLine ∧ ((upd He D2 (.lst (acc ++ [.int z]))) D2 = some (.lst (((unitRow n a).take (k + 1)).map V.int)) ∧ Same Hd (upd He D2 (.lst (acc ++ [.int z])))) := fun z ez => by
          refine ⟨_, eD2, small_2000 (by rw [List.length_map, List.length_take]; unfold unitRow; rw [List.length_map, List.length_range]; omega), ?_, same_put se nD2⟩
          rw [upd_same, List.take_add_one]
          unfold unitRow
          rw [List.getElem?_map, List.getElem?_range hk, List.map_append, ez]
          rfl
        refine ⟨_, rfl, _, rfl, rfl, _, rfl, ite2 (fun c => ?_) (fun c => ?_)⟩
        · have : k = a := by have := V.int.inj (of_decide_eq_true c); omega
          exact fin 1 (by rw [if_pos this])
        · have : ¬ k = a := fun z => c (decide_eq_true (by rw [z]))
          exact fin 0 (by rw [if_neg this])
      · rintro He ⟨eD2, se⟩
        rw [List.take_of_length_le (by unfold unitRow; rw [List.length_map, List.length_range]; exact Nat.le_refl _)] at eD2
        have nDD : D2 ≠ D := fun z => by rw [z, eD] at nD2; cases nD2
        obtain ⟨q1, q2⟩ := rl_add (o := .lst (rv ws ++ [.ref D2])) (fun z m => se _ _ (pw z m)) nw eD2 nDD
        refine ⟨_, se _ _ eD, small_2000 (by rw [rv_len]; omega), ws ++ [(D2, unitRow n a)], ?_, q1, by rw [upd_same, rv_app], q2, same_put (sd.trans se) nD⟩
        rw [rn_app, hw2, List.take_add_one]
        unfold unitL
        rw [List.getElem?_map, List.getElem?_range ha]
        rfl
    · rintro Hd ⟨ws, hw2, pw, eD, nw, sd⟩
      have gU := good_unit (n := n) hp n60
      rw [List.take_of_length_le (by rw [gU.len]; exact Nat.le_refl _)] at hw2
      refine ⟨_, rfl, _, rfl, _, rfl, _, rfl, fun x dx nx ndx ne => ?_⟩
      refine mkt_good nx ndx ne hp n60 n60 (L := rn ws) (lnj_of (.inl (SqL.of eD)) pw.ra (by rw [← rn_len, hw2]; exact gU.len) (by rw [hw2]; exact gU.wid)) fun H2 hT s2 => ⟨rfl, ?_⟩
      rw [hw2, modT_id gU] at hT
      exact k x H2 hT (sd.trans s2)
theorem ok_empty {f : Addr} {fd : FuncData} (F : Fun K "empty" "empty" sEmpty f fd) (G : Pg P w K mg base CT CP CB) (C : Ck P w K mg base CP CN) : FnOk P w K mg base (L2.CX P w) 6 f fd ["prime", "tall", "wide"] (spEmpty K CT CP CN) := by
  refine F.okX scEmpty (fun vs H Q E h => ?_) (fun cdv A outer s H vs Q E hr h => ?_)
  · obtain ⟨x, y, y2, op, o, o2, rfl, _⟩ := h
    rfl
  · obtain ⟨x, y, y2, op, o, o2, rfl, hx, h⟩ := h
    have nd := scEmpty.nd
    have r3 : Room 3 _ := hr.mono (by decide)
    have r4 : Room 4 _ := hr.mono (by decide)
    refine ⟨_, pss_cons (ps_expr (pe_call C.okP r3 (by rfl) C.gP C.kP C.bP .nil (passes_call (takes_of rfl rfl rfl rfl) fun _ _ _ _ h => h) (pa_cons (pv 0) pa_nil)))
      (pss_cons (ps_expr (pe_call C.okS r4 (by rfl) C.gS C.kS C.bS .nil (passes_call (takes_of rfl rfl rfl rfl) fun _ _ _ _ h => h) (pa_cons (pv 1) (pa_cons pe_str pa_nil))))
      (pss_cons (ps_expr (pe_call C.okS r4 (by rfl) C.gS C.kS C.bS .nil (passes_call (takes_of rfl rfl rfl rfl) fun _ _ _ _ h => h) (pa_cons (pv 2) (pa_cons pe_str pa_nil))))
      (pss_one (ps_ret (pe_make G.m G.ok hr (by rfl) G.T.t.g G.b .nil (passes_call (takes_of rfl rfl rfl rfl) fun _ _ _ _ h => h) (pa_cons (pv 0) (pa_cons (pv 1) (pa_cons (pv 2) (pa_cons (pe_op op_rep (pe_lst (pa_cons (pe_op op_rep (pe_lst (pa_cons pe_int pa_nil)) (pv 2)) pa_nil)) (pv 1)) pa_nil))))))))), ?_⟩
    rcases h with ⟨e, hR⟩ | ⟨p, rfl, hp, hy, hy2, h⟩
    · exact ⟨_, rfl, x, op, rfl, hx, .inr ⟨e, hR⟩⟩
    obtain rfl := nu_some hx
    refine ⟨_, rfl, _, _, rfl, hx, .inl ⟨decide_eq_true hp, ?_⟩⟩
    rcases h with ⟨e, hR⟩ | ⟨t, e, h⟩
    · exact ⟨_, rfl, y, o, _, rfl, hy, .inl ⟨e, hR⟩⟩
    obtain ⟨_, rfl, t60⟩ := sz_some e
    obtain rfl := nu_some hy
    refine ⟨_, rfl, _, _, _, rfl, hy, .inr ⟨by rw [e]; rfl, ?_⟩⟩
    rcases h with ⟨e2, hR⟩ | ⟨wd, e2, k⟩
    · exact ⟨_, rfl, y2, o2, _, rfl, hy2, .inl ⟨e2, hR⟩⟩
    obtain ⟨_, rfl, w60⟩ := sz_some e2
    obtain rfl := nu_some hy2
    refine ⟨_, rfl, _, _, _, rfl, hy2, .inr ⟨by rw [e2]; rfl, ?_⟩⟩
    refine ⟨_, rfl, _, rfl, _, rfl, ?_⟩
    refine ⟨by show 1 ≤ sizeLine; decide, fun q0 n0 => ⟨_, rfl, q0, (wd : Int), [.int 0], rfl, rfl, upd_same, by omega, by omega, by rw [Int.toNat_natCast]; exact Nat.le_of_lt (small_2000 (by show 1 * _ ≤ 2000; omega)), fun q1 n1 => ?_⟩⟩
    rw [Int.toNat_natCast]
    have e1 : (upd (upd H q0 (.lst [.int 0])) q1 (.lst (List.replicate wd [V.int 0]).flatten)) q1 = some (.lst ((List.replicate wd (0 : Int)).map V.int)) := by
      rw [upd_same, List.map_replicate, rep1]
    have s1 : Same H (upd (upd H q0 (.lst [.int 0])) q1 (.lst (List.replicate wd [V.int 0]).flatten)) := (same_upd n0).trans (same_upd n1)
    generalize upd (upd H q0 (.lst [.int 0])) q1 (.lst (List.replicate wd [V.int 0]).flatten) = H1 at e1 s1
    refine ⟨by show 1 ≤ sizeLine; decide, fun q2 n2 => ⟨_, rfl, q2, (t : Int), [.ref q1], rfl, rfl, upd_same, by omega, by omega, by rw [Int.toNat_natCast]; exact Nat.le_of_lt (small_2000 (by show 1 * _ ≤ 2000; omega)), fun q3 n3 => ?_⟩⟩
    rw [Int.toNat_natCast]
    have e3 : (upd (upd H1 q2 (.lst [.ref q1])) q3 (.lst (List.replicate t [V.ref q1]).flatten)) q3 = some (.lst (rv (List.replicate t (q1, List.replicate wd (0 : Int))))) := by
      rw [upd_same]
      unfold rv
      rw [List.map_replicate, rep1]
    have s2 : Same H1 (upd (upd H1 q2 (.lst [.ref q1])) q3 (.lst (List.replicate t [V.ref q1]).flatten)) := (same_upd n2).trans (same_upd n3)
    have e12 := s2 _ _ e1
    generalize upd (upd H1 q2 (.lst [.ref q1])) q3 (.lst (List.replicate t [V.ref q1]).flatten) = H2 at e3 s2 e12
    intro x dx nx ndx ne
    have gZ := good_zero (p := p) hp t60 w60
    have hrn : rn (List.replicate t (q1, List.replicate wd (0 : Int))) = zeroL t wd := by unfold rn zeroL; rw [List.map_replicate]
    refine mkt_good nx ndx ne hp t60 w60 (lnj_of (zs := List.replicate t (q1, List.replicate wd (0 : Int))) (.inl (SqL.of e3)) (fun z m => by
      rw [List.eq_of_mem_replicate m]
      exact .inl (SqL.of e12)) (by rw [List.length_replicate]) (by rw [hrn]; exact gZ.wid)) fun H3 hT s3 => ⟨rfl, ?_⟩
    rw [hrn, modT_id gZ] at hT
    exact k x H3 hT ((s1.trans s2).trans s3)
end
end K01


set_option Elab.async false
set_option maxRecDepth 100000
set_option maxHeartbeats 4000000
set_option linter.all false
namespace K01
open PySem PySem.Spec PyProof.Rows L2
/-! zip of two, each of them a list or a tuple -/
def sk (k : Bool) (K : PySem.W.Frag) (H : Hp) (a : Addr) (xs : List V) : Prop := match k with | true => SqT K H a xs | false => SqL K H a xs
def ik (k : Bool) (h : Heap) (it a : Addr) (i : Nat) : Prop := match k with | true => h.IsTupleIter it a i | false => h.IsListIter it a i
def hk (k : Bool) (h : Heap) (a : Addr) (items : Array Value) : Prop := match k with | true => h.IsTuple a items | false => h.IsList a items
theorem dr_k {prog : Program} {w : World} {A : Around} (k : Bool) (hh : A.handled = none) (it a : Addr) (hne : a ≠ it) (items : Array Value) : Draws prog w A it [it, a] items.size (fun i v => items[i]? = some v) (fun i h => ik k h it a i ∧ hk k h a items) := by
  cases k
  · exact Draws.list hh it a hne items
  · exact Draws.tuple hh it a hne items
theorem ik_obj {k : Bool} {h : Heap} {it a : Addr} {i : Nat} (x : ik k h it a i) : ∃ o, h.get? it = some o ∧ ∀ v, o.data ≠ .cell v := by
  cases k <;> exact (let ⟨o, e, _, d⟩ := x; ⟨o, e, fun v z => by rw [d] at z; cases z⟩)
theorem ik_keep {k : Bool} {h h' : Heap} {it a : Addr} {i : Nat} (x : ik k h it a i) (e : ∀ o, h.get? it = some o → h'.get? it = some o) : ik k h' it a i := by
  cases k
  · exact Heap.IsListIter.at x fun o q => e o q
  · exact Heap.IsTupleIter.at x fun o q => e o q
theorem ik_beg {k : Bool} {h : Heap} {it a : Addr} (e : h.get? it = some { cls := .type (match k with | true => "tuple_iterator" | false => "list_iterator"), data := .fields #[.ref a, .int 0 0] }) : ik k h it a 0 := by
  cases k <;> exact ⟨_, e, rfl, rfl⟩
theorem bg_k (k : Bool) (a : Addr) (items : Array Value) : Begins (.ref a) { cls := .type (match k with | true => "tuple_iterator" | false => "list_iterator"), data := .fields #[.ref a, .int 0 0] } fun h => hk k h a items := by
  cases k
  · exact begins_list a items
  · exact begins_tuple a items
section
variable {X : Cx} {pins : List (Addr × Obj)} {σ : L2.St} {H : Hp} {s : Shared}
theorem src_k {k : Bool} (I : Inv X pins σ H s) {a : Addr} {xs : List V} (h : sk k X.K H a xs) : ∃ its : List Value, Vals xs its ∧ hk k s.heap a its.toArray ∧ a < s.heap.objs.size := by
  cases k
  · obtain ⟨its, rv, p, _⟩ := I.list h
    exact ⟨its, rv, p.isList, p.lt⟩
  · obtain ⟨its, rv, p, _⟩ := I.tuple h
    obtain ⟨o, e, _⟩ := id p
    exact ⟨its, rv, p, Heap.lt_size e⟩
theorem sk_inj {k : Bool} (I : Inv X pins σ H s) {a : Addr} {xs ys : List V} (h : sk k X.K H a xs) (h' : sk k X.K H a ys) : xs = ys := by
  cases k
  · exact I.list_inj h h'
  · exact I.tuple_inj h h'
end
/-- the two as they stand at each turn, the items in new pairs -/
def Iz2 (k1 k2 : Bool) (K : PySem.W.Frag) (a b : Addr) : It where
  go i H := ∃ (xs ys : List V) (x y : V), sk k1 K H a xs ∧ sk k2 K H b ys ∧ xs[i]? = some x ∧ ys[i]? = some y
  yld i H v H' := ∃ T x y, v = .ref T ∧ H T = none ∧ H' = upd H T (.tup [x, y]) ∧ (∀ xs, sk k1 K H a xs → xs[i]? = some x) ∧ ∀ ys, sk k2 K H b ys → ys[i]? = some y
  stop i H := ∃ xs ys : List V, sk k1 K H a xs ∧ sk k2 K H b ys ∧ i ≤ xs.length ∧ i ≤ ys.length ∧ (i = xs.length ∨ i = ys.length)
theorem sep_of {z TI TO i1 i2 a b : Addr} (D : ZipApart z TI TO i1 i2 a b) : ZipSep2 z TI TO i1 i2 [i1, a] [i2, b] where
  TIz := D.TIz
  TOz := D.TOz
  TITO := D.TITO
  TIi1 := D.TIi1
  mem1 := by simp
  zf1 := by
    have := D.i1z
    have := D.l1z
    simp only [List.mem_cons, List.not_mem_nil, or_false, not_or]
    exact ⟨fun e => D.i1z e.symm, fun e => D.l1z e.symm⟩
  Tf1 := by
    simp only [List.mem_cons, List.not_mem_nil, or_false, not_or]
    exact ⟨D.TOi1, fun e => D.l1TO e.symm⟩
  TIi2 := D.TIi2
  mem2 := by simp
  zf2 := by
    simp only [List.mem_cons, List.not_mem_nil, or_false, not_or]
    exact ⟨fun e => D.i2z e.symm, fun e => D.l2z e.symm⟩
  Tf2 := by
    simp only [List.mem_cons, List.not_mem_nil, or_false, not_or]
    exact ⟨D.TOi2, fun e => D.l2TO e.symm⟩
  sep1_2 := by
    simp only [List.mem_cons, List.not_mem_nil, or_false, not_or]
    exact ⟨D.i12, fun e => D.l2i1 e.symm⟩
  sep2_1 := by
    simp only [List.mem_cons, List.not_mem_nil, or_false, not_or]
    exact ⟨fun e => D.i12 e.symm, fun e => D.l1i2 e.symm⟩
theorem turn_z2 {P : Program} {w : World} {K : PySem.W.Frag} {elts : List Expr} {kk : Nat} {tpos : Pos} {k1 k2 : Bool} {a b z TI TO i1 i2 : Addr} (D : ZipApart z TI TO i1 i2 a b) :
    Turn P w K (.Tuple elts kk tpos) (Iz2 k1 k2 K a b) [z, TI, TO, i1, i2] z (fun i h => IsZip h z TI TO .none ∧ IsTupOf2 h TI (.ref i1) (.ref i2) ∧ (∃ x y, IsTupOf2 h TO x y) ∧ ik k1 h i1 a i ∧ ik k2 h i2 b i) where
  mem := by simp
  obj := fun i h st c hc => by
    obtain ⟨q1, q2, ⟨x, y, q3⟩, q4, q5⟩ := st
    simp only [List.mem_cons, List.not_mem_nil, or_false] at hc
    rcases hc with rfl | rfl | rfl | rfl | rfl
    · exact ⟨_, q1, fun v q => nomatch q⟩
    · exact ⟨_, q2, fun v q => nomatch q⟩
    · exact ⟨_, q3, fun v q => nomatch q⟩
    · exact ik_obj q4
    · exact ik_obj q5
  keep := fun i h h' st e => by
    obtain ⟨q1, q2, ⟨x, y, q3⟩, q4, q5⟩ := st
    exact ⟨e z (by simp) _ q1, e TI (by simp) _ q2, ⟨x, y, e TO (by simp) _ q3⟩, ik_keep q4 (e i1 (by simp)), ik_keep q5 (e i2 (by simp))⟩
  item := by
    intro X hP hw hK hc i pins s σ H E I hf st hg
    subst hP hw hK
    obtain ⟨q1, q2, ⟨x0, y0, q3⟩, q4, q5⟩ := st
    obtain ⟨xs, ys, x, y, hqx, hqy, hx, hy⟩ := hg
    obtain ⟨its, rx, px, _⟩ := src_k I hqx
    obtain ⟨its2, ry, py, _⟩ := src_k I hqy
    obtain ⟨u, hu, ru⟩ := rx.get hx
    obtain ⟨u2, hu2, ru2⟩ := ry.get hy
    have hin : X.A.in1.handled = none := I.ok.hd hc
    refine wpAny_pyNext_zipD2_item (sep_of D) (dr_k k1 hin i1 a D.l1i1 its.toArray) (dr_k k2 hin i2 b D.l2i2 its2.toArray) q1 q2 q3 ⟨q4, px⟩ ⟨q5, py⟩ (by simpa using (List.getElem?_eq_some_iff.mp hu).1) (by simpa using (List.getElem?_eq_some_iff.mp hu2).1) fun v1 v2 h' tk e1 e2 z' TO' d1 d2 hT hsz ke => ?_
    obtain rfl : u = v1 := by
      have e1' : its.toArray[i]? = some v1 := e1
      simp only [List.getElem?_toArray] at e1'
      rw [hu] at e1'
      exact Option.some.inj e1'
    obtain rfl : u2 = v2 := by
      have e2' : its2.toArray[i]? = some v2 := e2
      simp only [List.getElem?_toArray] at e2'
      rw [hu2] at e2'
      exact Option.some.inj e2'
    refine ⟨_, rfl, wpAny_letOwnedTupleGo_zip (s := { s with heap := h', toks := tk }) z' fun h'' z'' sb => ?_⟩
    have hzl : z < s.heap.objs.size := Heap.lt_size q1
    have hT2 : h''.get? s.heap.objs.size = some { cls := .type "tuple", data := .seq #[u, u2] } := (sb.2 _ (Nat.ne_of_gt hzl)).trans hT
    have kp : ∀ c o, c ∉ [z, TI, TO, i1, i2] → s.heap.get? c = some o → h''.get? c = some o := fun c o nc e => by
      simp only [List.mem_cons, List.not_mem_nil, or_false, not_or] at nc
      exact (sb.2 c nc.1).trans (ke c o nc.1 nc.2.2.1 nc.2.2.2.1 nc.2.2.2.2 e)
    have nw : ObjOk X.prog X.w (upd H s.heap.objs.size (.tup [x, y])) h'' s.heap.objs.size (.tup [x, y]) := ⟨by show 2 ≤ sizeLine; decide, [u, u2], .cons ru (.cons ru2 .nil), ⟨_, hT2, rfl, _, rfl⟩⟩
    refine ⟨.ref s.heap.objs.size, _, I.turnedNew (t' := tk) (ch := [z, TI, TO, i1, i2]) kp hf (Nat.le_refl _) nw, rfl, ⟨_, x, y, rfl, I.hok.fresh (Nat.le_refl _), rfl, fun l hl => by rw [sk_inj I hl hqx]; exact hx, fun l hl => by rw [sk_inj I hl hqy]; exact hy⟩, ⟨z'', ?_, ⟨u, u2, (sb.2 _ D.TOz).trans TO'⟩, ?_, ?_⟩, fun c hcm => ?_⟩
    · exact (sb.2 _ D.TIz).trans (ke _ _ D.TIz D.TITO D.TIi1 D.TIi2 q2)
    · exact ik_keep d1.1 fun o q => (sb.2 _ D.i1z).trans q
    · exact ik_keep d2.1 fun o q => (sb.2 _ D.i2z).trans q
    · have hlt : c < s.heap.objs.size := by
        have hcm2 := hcm
        simp only [List.mem_cons, List.not_mem_nil, or_false] at hcm2
        rcases hcm2 with rfl | rfl | rfl | rfl | rfl
        · exact hzl
        · exact Heap.lt_size q2
        · exact Heap.lt_size q3
        · obtain ⟨o, e, _⟩ := ik_obj q4; exact Heap.lt_size e
        · obtain ⟨o, e, _⟩ := ik_obj q5; exact Heap.lt_size e
      rw [upd_ne (Nat.ne_of_lt hlt)]
      exact (hf c hcm).1
  done := by
    intro X hP hw hK hc i pins s σ H E I hf st hg
    subst hP hw hK
    obtain ⟨q1, q2, ⟨x0, y0, q3⟩, q4, q5⟩ := st
    obtain ⟨xs, ys, hqx, hqy, l1, l2, hend⟩ := hg
    obtain ⟨its, rx, px, _⟩ := src_k I hqx
    obtain ⟨its2, ry, py, _⟩ := src_k I hqy
    have e1 := rx.length
    have e2 := ry.length
    have hin : X.A.in1.handled = none := I.ok.hd hc
    refine wpAny_pyNext_zipD2_end (sep_of D) (dr_k k1 hin i1 a D.l1i1 its.toArray) (dr_k k2 hin i2 b D.l2i2 its2.toArray) q1 q2 q3 ⟨q4, px⟩ ⟨q5, py⟩ (by simp; omega) (by simp; omega) (by simp; omega) fun h' tk ke => ⟨rfl, I.turnedL (t' := tk) (ch := [z, TI, TO, i1, i2]) (fun c o nc e => ?_) hf⟩
    simp only [List.mem_cons, List.not_mem_nil, or_false, not_or] at nc
    exact ke c o nc.1 nc.2.2.1 nc.2.2.2.1 nc.2.2.2.2 e
  self := fun A i s Q E st h => wpAny_pyIter_zip st.1 h
/-- J walks the pairs of the items xs that stood at a and ys that stood at b -/
def IsZ (K : PySem.W.Frag) (a b : Addr) (xs ys : List V) (H1 : Hp) (J : It) : Prop := ∀ i H, Stay K a H1 H → Stay K b H1 H → (∀ x y, xs[i]? = some x → ys[i]? = some y → J.go i H) ∧ (∀ v H', J.yld i H v H' → ∃ T x y, v = .ref T ∧ H T = none ∧ H' = upd H T (.tup [x, y]) ∧ xs[i]? = some x ∧ ys[i]? = some y) ∧
  (i ≤ xs.length → i ≤ ys.length → (i = xs.length ∨ i = ys.length) → J.stop i H)
def iZ2 (K : PySem.W.Frag) (ta : TA) : TI := fun σ H R => ta σ H fun vs H1 => ∃ a b xs ys, vs = [.ref a, .ref b] ∧ SqA K H1 a xs ∧ SqA K H1 b ys ∧ ∀ J, IsZ K a b xs ys H1 J → R J H1
theorem sk_of {K : PySem.W.Frag} {H : Hp} {a : Addr} {xs : List V} (h : SqA K H a xs) : ∃ k, sk k K H a xs := h.elim (fun h => ⟨false, h⟩) fun h => ⟨true, h⟩
theorem sk_stay {K : PySem.W.Frag} {H H' : Hp} {a : Addr} {xs : List V} {k : Bool} (s : Stay K a H H') (h : sk k K H a xs) : sk k K H' a xs := by
  cases k
  · exact s.1 _ h
  · exact s.2 _ h
theorem pi_z2 {X : Cx} {e e2 : Expr} {ta : TA} {p pos tpos : Pos} {elts : List Expr} {kk : Nat} (hg : Gl X "zip") (hm : X.mg "zip" = none) (ha : PA X [e, e2] ta)
    (hs : starEach [e, e2] X.env = (false, eval e X.env) :: starEach [e2] X.env := by rfl) (hpl : (backTo pos (starEach [e2] X.env)).any (·.1) = false := by rfl) :
    PI X (.Tuple elts kk tpos) (.Call (.Name "zip" p) [e, e2] [] pos) (iZ2 X.K ta) := by
  refine ⟨fun pins s σ H R I h => ?_⟩
  refine Call_ (ld_blt I hg hm PyProof.Rows.boot_zip (PyProof.Rows.callWith_type1 (thn (ha.run pos pins s σ H _ I h) fun us s1 ⟨vs, H1, I1, r1, q1⟩ => ?_) hs hpl))
  obtain ⟨a, b, xs, ys, rfl, hx, hy, q⟩ := q1
  obtain ⟨k1, hx⟩ := sk_of hx
  obtain ⟨k2, hy⟩ := sk_of hy
  have wk : IsZ X.K a b xs ys H1 (Iz2 k1 k2 X.K a b) := fun i H s1 s2 => ⟨fun x y e1 e2 => ⟨xs, ys, x, y, sk_stay s1 hx, sk_stay s2 hy, e1, e2⟩, fun v H' ⟨T, x, y, e1, e2, e3, f1, f2⟩ => ⟨T, x, y, e1, e2, e3, f1 _ (sk_stay s1 hx), f2 _ (sk_stay s2 hy)⟩, fun l1 l2 e => ⟨xs, ys, sk_stay s1 hx, sk_stay s2 hy, l1, l2, e⟩⟩
  obtain ⟨its, rx, px, la⟩ := src_k I1 hx
  obtain ⟨its2, ry, py, lb⟩ := src_k I1 hy
  cases r1 with
  | cons r rr =>
    cases rr with
    | cons r' rr =>
      cases rr
      cases r
      cases r'
      refine zip_begins2 (bg_k k1 a its.toArray) (bg_k k2 b its2.toArray) px py fun h' hz hTI hTO h1 h2 hsz kp => wpAny_pyIter_zip hz ?_
      refine ⟨s1.heap.objs.size + 4, [s1.heap.objs.size + 4, s1.heap.objs.size + 2, s1.heap.objs.size + 3, s1.heap.objs.size, s1.heap.objs.size + 1], _, _, H1, rfl, I1.kept (t' := s1.toks) kp, turn_z2 (PySem.W.ktu_apart s1.heap.objs.size a b la lb), ⟨hz, hTI, ⟨_, _, hTO⟩, ik_beg h1, ik_beg h2⟩, fun c hcm => ?_, q _ wk⟩
      have hle : s1.heap.objs.size ≤ c := by
        simp only [List.mem_cons, List.not_mem_nil, or_false] at hcm
        rcases hcm with e | e | e | e | e <;> rw [e] <;> first | exact Nat.le_add_right _ _ | exact Nat.le_refl _
      exact I1.fpOk hle (I1.hok.fresh hle)
end K01
namespace K01
open PySem PySem.Spec PyProof.Rows L2
theorem lc_z2 {K : PySem.W.Frag} {a b : Addr} {xs ys : List V} {H0 : Hp} {J : It} (Wk : IsZ K a b xs ys H0 J) (hl : xs.length = ys.length) {g : TG} {tt : TT} {te : TE} {vs : List Nat} {σ : L2.St} {H1 : Hp} {D : Addr} {Qd : Hp → Prop} (Pv : Nat → Hp → Prop) (h0 : Pv 0 (upd H1 D (.lst [])))
    (hq : ∀ i H, i ≤ xs.length → Pv i H → Stay K a H0 H ∧ Stay K b H0 H)
    (hs : ∀ i x y T H, xs[i]? = some x → ys[i]? = some y → Pv i H → H T = none → g (.ref T) (wipe σ vs) (upd H T (.tup [x, y])) fun σ2 H2 => wipe σ2 vs = wipe σ vs ∧ tt σ2 H2 fun b H3 =>
      if b = true then te σ2 H3 fun y H4 => ∃ acc, H4 D = some (.lst acc) ∧ acc.length < sizeLine ∧ Pv (i + 1) (upd H4 D (.lst (acc ++ [y]))) else Pv (i + 1) H3) (hd : ∀ H, Pv xs.length H → Qd H) :
    ∃ W : Nat → Nat → Hp → Prop, (∃ m, W 0 m (upd H1 D (.lst []))) ∧ ∀ i m H, W i m H →
      (J.stop i H ∧ Qd H) ∨ (J.go i H ∧ ∃ Nx : Hp → Prop, (∀ H', Nx H' → ∃ m', m' < m ∧ W (i + 1) m' H') ∧ ∀ x H', J.yld i H x H' → g x (wipe σ vs) H' fun σ2 H2 => wipe σ2 vs = wipe σ vs ∧ tt σ2 H2 fun b H3 =>
        if b = true then te σ2 H3 fun y H4 => ∃ acc, H4 D = some (.lst acc) ∧ acc.length < sizeLine ∧ Nx (upd H4 D (.lst (acc ++ [y]))) else Nx H3) := by
  refine ⟨fun i m H => m + i = xs.length ∧ Pv i H, ⟨xs.length, rfl, h0⟩, fun i m H h => ?_⟩
  obtain ⟨hm, p⟩ := h
  obtain ⟨s1, s2⟩ := hq i H (by omega) p
  obtain ⟨w1, w2, w3⟩ := Wk i H s1 s2
  rcases Nat.lt_or_ge i xs.length with lt | ge
  · refine .inr ⟨w1 xs[i] (ys[i]'(by omega)) (List.getElem?_eq_getElem lt) (List.getElem?_eq_getElem (by omega)), Pv (i + 1), fun H' p' => ⟨m - 1, by omega, by omega, p'⟩, fun v H' hv => ?_⟩
    obtain ⟨T, x, y, rfl, hT, rfl, e1, e2⟩ := w2 v H' hv
    exact hs i x y T _ e1 e2 p hT
  · have e : i = xs.length := by omega
    subst e
    exact .inl ⟨w3 (Nat.le_refl _) (by omega) (.inl rfl), hd H p⟩
end K01


set_option Elab.async false
set_option maxRecDepth 100000
set_option maxHeartbeats 4000000
set_option linter.all false
namespace K01
open PySem PySem.Spec PyProof.Rows L2
abbrev sTimes : Stmt := top 18
abbrev sAlike : Stmt := top 19
abbrev sPlus : Stmt := top 20
abbrev sMinus : Stmt := top 21
theorem scTimes : FnScope ["one", "two", "columns", "lines", "a", "b", "column", "line"] ["one", "two"] (defScope sTimes) := ⟨rfl, rfl, rfl, by decide +kernel, rfl, by decide +kernel, by decide +kernel⟩
theorem scAlike : FnScope ["one", "two"] ["one", "two"] (defScope sAlike) := ⟨rfl, rfl, rfl, by decide +kernel, rfl, by decide +kernel, by decide +kernel⟩
theorem scPlus : FnScope ["one", "two", "lines", "a", "b", "first", "second"] ["one", "two"] (defScope sPlus) := ⟨rfl, rfl, rfl, by decide +kernel, rfl, by decide +kernel, by decide +kernel⟩
theorem scMinus : FnScope ["one", "two", "lines", "a", "b", "first", "second"] ["one", "two"] (defScope sMinus) := ⟨rfl, rfl, rfl, by decide +kernel, rfl, by decide +kernel, by decide +kernel⟩
def dot (l c : List Int) : Int := (List.zipWith (· * ·) l c).sum
/-- a product of lines, not yet modulo the prime -/
def mulL (L C : List (List Int)) : List (List Int) := L.map fun l => C.map fun c => dot l c
/-- two Tables, or none -/
def TwoT (K : PySem.W.Frag) (CT CB : Addr) (x y : V) (H : Hp) (E : XK) (ok : Addr → Int → Nat → Nat → List (List Int) → Addr → Int → Nat → Nat → List (List Int) → Prop) : Prop :=
  (NoTab K CT H x ∧ Rp CB H E) ∨ ∃ (a : Addr) (p : Int) (t w : Nat) (L : List (List Int)), x = .ref a ∧ TabAt CT H a p t w L ∧ GoodT p t w L ∧
    ((NoTab K CT H y ∧ Rp CB H E) ∨ ∃ (b : Addr) (p2 : Int) (t2 w2 : Nat) (L2 : List (List Int)), y = .ref b ∧ TabAt CT H b p2 t2 w2 L2 ∧ GoodT p2 t2 w2 L2 ∧ ok a p t w L b p2 t2 w2 L2)
def spTimes (K : PySem.W.Frag) (CT CB : Addr) : Sp := fun vs H Q E => ∃ x y : V, vs = [x, y] ∧ TwoT K CT CB x y H E fun _ p t w L _ p2 t2 w2 L2 =>
  ((p ≠ p2 ∨ w ≠ t2) ∧ Rp CB H E) ∨ (p = p2 ∧ w = t2 ∧ ∀ (z : Addr) (H' : Hp), TabAt CT H' z p t w2 (modT p (mulL L (colsOf L2 w2))) → Same H H' → Q (.ref z) H')
def spAlike (K : PySem.W.Frag) (CT CB : Addr) : Sp := fun vs H Q E => ∃ x y : V, vs = [x, y] ∧ TwoT K CT CB x y H E fun _ p t w L _ p2 t2 w2 L2 =>
  (¬ (p = p2 ∧ t = t2 ∧ w = w2) ∧ Rp CB H E) ∨ (p = p2 ∧ t = t2 ∧ w = w2 ∧ Q .non H)
def zipL (f : Int → Int → Int) (L M : List (List Int)) : List (List Int) := List.zipWith (List.zipWith f) L M
def spSum2 (K : PySem.W.Frag) (CT CB : Addr) (f : Int → Int → Int) : Sp := fun vs H Q E => ∃ x y : V, vs = [x, y] ∧ TwoT K CT CB x y H E fun _ p t w L _ p2 t2 w2 L2 =>
  (¬ (p = p2 ∧ t = t2 ∧ w = w2) ∧ Rp CB H E) ∨ (p = p2 ∧ t = t2 ∧ w = w2 ∧ ∀ (z : Addr) (H' : Hp), TabAt CT H' z p t w (modT p (zipL f L L2)) → Same H H' → Q (.ref z) H')
section
variable {P : Program} {w : World} {K : PySem.W.Frag} {mg : Str → Option Value} {base : Heap} {CT CP CB : Addr}
theorem ok_alike {f : Addr} {fd : FuncData} (F : Fun K "_check_alike" "_check_alike" sAlike f fd) (G : Pg P w K mg base CT CP CB) (B : PlX K mg "BadTable" CB) : FnOk P w K mg base (L2.CX P w) 5 f fd ["one", "two"] (spAlike K CT CB) := by
  refine F.okX scAlike (fun vs H Q E h => ?_) (fun cdv A outer s H vs Q E hr h => ?_)
  · obtain ⟨x, y, rfl, _⟩ := h
    rfl
  · obtain ⟨x, y, rfl, h⟩ := h
    have nd := scAlike.nd
    have T := G.T
    refine ⟨_, pss_cons (ps_expr (pe_call G.okK hr (by rfl) G.gK G.kK G.bK .nil (passes_call (takes_of rfl rfl rfl rfl) fun _ _ _ _ h => h) (pa_cons (pv 0) pa_nil)))
      (pss_cons (ps_expr (pe_call G.okK hr (by rfl) G.gK G.kK G.bK .nil (passes_call (takes_of rfl rfl rfl rfl) fun _ _ _ _ h => h) (pa_cons (pv 1) pa_nil)))
      (pss_one (ps_if (PW.pt (pw_or (pt_cmpR op_ne (pe_fld (pv 0) rfl) (pe_fld (pv 1) rfl) (nomark _)) (pw_or (pt_cmpR op_ne (pe_fld (pv 0) rfl) (pe_fld (pv 1) rfl) (nomark _)) (pw_or1 (pt_cmpR op_ne (pe_fld (pv 0) rfl) (pe_fld (pv 1) rfl) (nomark _))))))
        (pss_one (ps_raise rfl (takes_of rfl rfl rfl rfl) (pmk_own PySem.F.excBase_ValueError B.q B.g B.k (raises_own B.s B.t) (by rfl)))) pss_nil))), ?_⟩
    rcases h with ⟨h, hR⟩ | ⟨a, p, t, wd, L, rfl, hA, gA, h⟩
    · exact ⟨_, rfl, x, rfl, .inl ⟨h, hR⟩⟩
    refine ⟨_, rfl, _, rfl, .inr ⟨a, p, t, wd, L, rfl, hA, ?_⟩⟩
    rcases h with ⟨h, hR⟩ | ⟨b, p2, t2, w2, M, rfl, hB, gB, h⟩
    · exact ⟨_, rfl, y, rfl, .inl ⟨h, hR⟩⟩
    refine ⟨_, rfl, _, rfl, .inr ⟨b, p2, t2, w2, M, rfl, hB, ?_⟩⟩
    obtain ⟨dx, d, e⟩ := tab_fld hA
    obtain ⟨dx2, d2, e2⟩ := tab_fld hB
    refine ⟨_, rfl, a, CT, dx, _, _, rfl, e, T.t.cl, T.t.nP, rfl, _, rfl, b, CT, dx2, _, _, rfl, e2, T.t.cl, T.t.nP, rfl, rfl, _, rfl, ?_⟩
    have out : ¬ (p = p2 ∧ t = t2 ∧ wd = w2) → E (.ref CB) none H := fun n => by
      rcases h with ⟨_, hR⟩ | ⟨h1, h2, h3, _⟩
      · exact hR H (Same.refl _)
      · exact absurd ⟨h1, h2, h3⟩ n
    by_cases c1 : p = p2
    · refine iteFb (by rw [decide_eq_true (by rw [c1])]; rfl) ?_
      refine ⟨_, rfl, a, CT, dx, _, _, rfl, e, T.t.cl, T.t.nT, rfl, _, rfl, b, CT, dx2, _, _, rfl, e2, T.t.cl, T.t.nT, rfl, rfl, _, rfl, ?_⟩
      by_cases c2 : t = t2
      · refine iteFb (by rw [decide_eq_true (by rw [c2])]; rfl) ?_
        refine ⟨_, rfl, a, CT, dx, _, _, rfl, e, T.t.cl, T.t.nW, rfl, _, rfl, b, CT, dx2, _, _, rfl, e2, T.t.cl, T.t.nW, rfl, rfl, _, rfl, ?_⟩
        by_cases c3 : wd = w2
        · refine iteFb (by rw [decide_eq_true (by rw [c3])]; rfl) ?_
          rcases h with ⟨n, _⟩ | ⟨_, _, _, k⟩
          · exact absurd ⟨c1, c2, c3⟩ n
          · exact k
        · refine iteTb (by rw [decide_eq_false (fun z => c3 (by have := V.int.inj z; omega))]; rfl) ?_
          exact out fun z => c3 z.2.2
      · refine iteTb (by rw [decide_eq_false (fun z => c2 (by have := V.int.inj z; omega))]; rfl) ?_
        refine iteT ?_
        exact out fun z => c2 z.2.1
    · refine iteTb (by rw [decide_eq_false (fun z => c1 (V.int.inj z))]; rfl) ?_
      refine iteT ?_
      exact out fun z => c1 z.1
end
end K01


set_option Elab.async false
set_option maxRecDepth 100000
set_option maxHeartbeats 4000000
set_option linter.all false
namespace K01
open PySem PySem.Spec PyProof.Rows L2
section
variable {P : Program} {w : World} {K : PySem.W.Frag} {mg : Str → Option Value} {base : Heap} {CT CP CB : Addr}
theorem ok_plus {f fA : Addr} {fd fdA : FuncData} (F : Fun K "plus" "plus" sPlus f fd) (G : Pg P w K mg base CT CP CB) (GA : FnOk P w K mg base (L2.CX P w) 5 fA fdA ["one", "two"] (spAlike K CT CB)) (bA : L2.Binds K fdA ["one", "two"] []) (gA : mg "_check_alike" = some (.ref fA)) (kA : PySem.W.keepIn K (.ref fA) = true) (mZ : mg "zip" = none) :
    FnOk P w K mg base (L2.CX P w) 6 f fd ["one", "two"] (spSum2 K CT CB (· + ·)) := by
  refine F.okX scPlus (fun vs H Q E h => ?_) (fun cdv A outer s H vs Q E hr h => ?_)
  · obtain ⟨x, y, rfl, _⟩ := h
    rfl
  · obtain ⟨x, y, rfl, h⟩ := h
    have nd := scPlus.nd
    have T := G.T
    refine ⟨_, pss_cons (ps_expr (pe_call GA hr (by rfl) gA kA bA .nil (passes_call (takes_of rfl rfl rfl rfl) fun _ _ _ _ h => h) (pa_cons (pv 0) (pa_cons (pv 1) pa_nil))))
      (pss_cons (ps_setLc (i := 2) (own := [("first", 5), ("second", 6)]) (g := gTup K 2 (gCons (gName 5) (gCons (gName 6) gNil))) (by rfl) nd rfl rfl (sw_true rfl rfl rfl (by decide +kernel)) (pi_z2 (by rfl) mZ (pa_cons (pe_fld (pv 0) rfl) (pa_cons (pe_fld (pv 1) rfl) pa_nil))) (blkOk_by (own := [("first", 5), ("second", 6)]) (N := ["one", "two", "lines", "a", "b", "first", "second"]) (sc := defScope sPlus) (by decide +kernel))
          (fun _ _ _ _ _ => pg_tup (by rfl) (pgs_cons (pg_name (i := 5) nd rfl (Or.inl rfl)) (pgs_cons (pg_name (i := 6) nd rfl (Or.inl rfl)) pgs_nil))) (fun _ _ _ _ _ => pts_nil)
          (fun _ _ _ _ _ => pe_lc (own := [("a", 3), ("b", 4)]) (g := gTup K 2 (gCons (gName 3) (gCons (gName 4) gNil))) (by rfl) nd (show PI _ _ _ (iZ2 K (tCons (tVar 5) (tCons (tVar 6) tNil))) from pi_z2 (by rfl) mZ (pa_cons (pv 5) (pa_cons (pv 6) pa_nil))) (blkOk_by (own := [("a", 3), ("b", 4)]) (N := ["one", "two", "lines", "a", "b", "first", "second"]) (by kernel_rfl))
            (fun _ _ _ _ _ => pg_tup (by rfl) (pgs_cons (pg_name (i := 3) nd rfl (Or.inl rfl)) (pgs_cons (pg_name (i := 4) nd rfl (Or.inl rfl)) pgs_nil))) (fun _ _ _ _ _ => pts_nil)
            (fun _ _ _ _ _ => pe_op op_add (pv 3) (pv 4))))
      (pss_one (ps_ret (pe_make G.m G.ok hr (by rfl) T.t.g G.b .nil (passes_call (takes_of rfl rfl rfl rfl) fun _ _ _ _ h => h) (pa_cons (pe_fld (pv 0) rfl) (pa_cons (pe_fld (pv 0) rfl) (pa_cons (pe_fld (pv 0) rfl) (pa_cons (pv 2) pa_nil)))))))), ?_⟩
    refine ⟨_, rfl, _, rfl, x, y, rfl, ?_⟩
    rcases h with ⟨h, hR⟩ | ⟨a, p, t, wd, L, rfl, hA, gA, h⟩
    · exact .inl ⟨h, hR⟩
    refine .inr ⟨a, p, t, wd, L, rfl, hA, gA, ?_⟩
    rcases h with ⟨h, hR⟩ | ⟨b, p2, t2, w2, M, rfl, hB, gB, h⟩
    · exact .inl ⟨h, hR⟩
    refine .inr ⟨b, p2, t2, w2, M, rfl, hB, gB, ?_⟩
    rcases h with ⟨n, hR⟩ | ⟨rfl, rfl, rfl, k⟩
    · exact .inl ⟨n, hR⟩
    refine .inr ⟨rfl, rfl, rfl, ?_⟩
    obtain ⟨dx, la, us, e, ea, ra, rfl⟩ := id hA
    obtain ⟨dx2, lb, vs, e2, eb, rb, rfl⟩ := id hB
    have t60 := gA.t60
    have w60 := gA.w60
    have lu : us.length = t := by rw [← rn_len]; exact gA.len
    have lv : vs.length = t := by rw [← rn_len]; exact gB.len
    refine ⟨_, rfl, a, CT, dx, _, _, rfl, e, T.t.cl, T.t.nL, rfl, _, rfl, b, CT, dx2, _, _, rfl, e2, T.t.cl, T.t.nL, rfl, ?_⟩
    refine ⟨la, lb, rv us, rv vs, rfl, .inr (.inl (.inl ea)), .inr (.inl (.inl eb)), fun J hJ D nD => ?_⟩
    refine lc_z2 hJ (by rw [rv_len, rv_len, lu, lv]) (fun i Hd => ∃ ws : Rs, rn ws = (zipL (· + ·) (rn us) (rn vs)).take i ∧ RL Hd ws ∧ Hd D = some (.lst (rv ws)) ∧ (∀ z ∈ ws, z.1 ≠ D) ∧ Same H Hd) ⟨[], rfl, fun z m => by simp at m, upd_same, fun z m => by simp at m, same_upd nD⟩
      (fun i Hd _ hh => by obtain ⟨_, _, _, _, _, s⟩ := hh; exact ⟨.of s, .of s⟩) ?_ ?_
    · rintro i x y U Hd hx hy ⟨ws, hw2, pw, eD, nw, sd⟩ nU
      obtain ⟨⟨r1, l1⟩, hz1, rfl⟩ := rv_inv hx
      obtain ⟨⟨r2, l2⟩, hz2, rfl⟩ := rv_inv hy
      have m1 : (r1, l1) ∈ us := List.mem_of_getElem? hz1
      have m2 : (r2, l2) ∈ vs := List.mem_of_getElem? hz2
      have hil : i < us.length := (List.getElem?_eq_some_iff.mp hz1).1
      have ll1 : l1.length = wd := gA.wid l1 (List.mem_map.mpr ⟨_, m1, rfl⟩)
      have ll2 : l2.length = wd := gB.wid l2 (List.mem_map.mpr ⟨_, m2, rfl⟩)
      have hwsl : ws.length ≤ i := by
        have := congrArg List.length hw2
        rw [rn_len, List.length_take] at this
        omega
      have sU : Same Hd (upd Hd U (.tup [.ref r1, .ref r2])) := same_upd nU
      refine ⟨U, [.ref r1, .ref r2], rfl, .inl (.inl upd_same), rfl, .ref r1, [.ref r2], rfl, .ref r2, [], rfl, rfl, rfl, ?_⟩
      dsimp only [tYes]
      refine iteT ?_
      refine ⟨_, rfl, _, rfl, r1, r2, l1.map V.int, l2.map V.int, rfl, .inr (.inl (.inl (sU _ _ (sd _ _ (ra _ m1))))), .inr (.inl (.inl (sU _ _ (sd _ _ (rb _ m2))))), fun J2 hJ2 D2 nD2 => ?_⟩
      have sU2 : Same Hd (upd (upd Hd U (.tup [.ref r1, .ref r2])) D2 (.lst [])) := sU.trans (same_upd nD2)
      have nD2' : Hd D2 = none := by
        cases q : Hd D2 with
        | none => rfl
        | some o => rw [sU _ _ q] at nD2; cases nD2
      refine lc_z2 hJ2 (by rw [List.length_map, List.length_map, ll1, ll2]) (fun j He => He D2 = some (.lst (((List.zipWith (· + ·) l1 l2).take j).map V.int)) ∧ Same (upd Hd U (.tup [.ref r1, .ref r2])) He) ⟨upd_same, same_upd nD2⟩ (fun j He _ hh => ⟨.of hh.2, .of hh.2⟩) ?_ ?_
      · rintro j x y U2 He hx hy ⟨eD2, se⟩ nU2
        obtain ⟨i1, hn1, rfl⟩ := map_inv hx
        obtain ⟨i2, hn2, rfl⟩ := map_inv hy
        have hjl : j < l1.length := (List.getElem?_eq_some_iff.mp hn1).1
        refine ⟨U2, [.int i1, .int i2], rfl, .inl (.inl upd_same), rfl, .int i1, [.int i2], rfl, .int i2, [], rfl, rfl, rfl, ?_⟩
        dsimp only [tYes]
        refine iteT ?_
        have n2 : D2 ≠ U2 := fun z => by rw [z, nU2] at eD2; cases eD2
        refine ⟨_, rfl, _, rfl, i1, i2, rfl, rfl, _, same_upd nU2 _ _ eD2, small_2000 (by rw [List.length_map, List.length_take, List.length_zipWith]; omega), ?_, same_put (se.trans (same_upd nU2)) nD2⟩
        rw [upd_same, List.take_add_one, List.getElem?_zipWith, hn1, hn2, List.map_append]
        rfl
      · rintro He ⟨eD2, se⟩
        rw [List.take_of_length_le (by rw [List.length_zipWith, List.length_map]; omega)] at eD2
        have nDD : D2 ≠ D := fun z => by rw [z, eD] at nD2'; cases nD2'
        have se2 := sU.trans se
        obtain ⟨q1, q2⟩ := rl_add (o := .lst (rv ws ++ [.ref D2])) (fun z m => se2 _ _ (pw z m)) nw eD2 nDD
        refine ⟨_, se2 _ _ eD, small_2000 (by rw [rv_len]; omega), ws ++ [(D2, List.zipWith (· + ·) l1 l2)], ?_, q1, by rw [upd_same, rv_app], q2, same_put (sd.trans se2) nD⟩
        rw [rn_app, hw2, List.take_add_one]
        unfold zipL rn
        rw [List.getElem?_zipWith, List.getElem?_map, List.getElem?_map, hz1, hz2]
        rfl
    · rintro Hd ⟨ws, hw2, pw, eD, nw, sd⟩
      have hzl : (zipL (· + ·) (rn us) (rn vs)).length = t := by unfold zipL; rw [List.length_zipWith, rn_len, rn_len, lu, lv, Nat.min_self]
      rw [List.take_of_length_le (by rw [hzl, rv_len, lu]; exact Nat.le_refl _)] at hw2
      refine ⟨_, rfl, a, CT, dx, _, _, rfl, sd _ _ e, T.t.cl, T.t.nP, rfl, _, rfl, a, CT, dx, _, _, rfl, sd _ _ e, T.t.cl, T.t.nT, rfl, _, rfl, a, CT, dx, _, _, rfl, sd _ _ e, T.t.cl, T.t.nW, rfl, _, rfl, fun x dx nx ndx ne => ?_⟩
      refine mkt_good nx ndx ne gA.pr t60 w60 (L := rn ws) (lnj_of (.inl (SqL.of eD)) pw.ra (by rw [← rn_len, hw2, hzl]) (fun l m => by
        rw [hw2] at m
        unfold zipL at m
        obtain ⟨i, hi, e3⟩ := List.mem_iff_getElem.mp m
        rw [List.getElem_zipWith] at e3
        rw [← e3, List.length_zipWith, gA.wid _ (List.getElem_mem ..), gB.wid _ (List.getElem_mem ..), Nat.min_self])) fun H2 hT s2 => ⟨rfl, ?_⟩
      rw [hw2] at hT
      exact k x H2 hT (sd.trans s2)
theorem ok_minus {f fA : Addr} {fd fdA : FuncData} (F : Fun K "minus" "minus" sMinus f fd) (G : Pg P w K mg base CT CP CB) (GA : FnOk P w K mg base (L2.CX P w) 5 fA fdA ["one", "two"] (spAlike K CT CB)) (bA : L2.Binds K fdA ["one", "two"] []) (gA : mg "_check_alike" = some (.ref fA)) (kA : PySem.W.keepIn K (.ref fA) = true) (mZ : mg "zip" = none) :
    FnOk P w K mg base (L2.CX P w) 6 f fd ["one", "two"] (spSum2 K CT CB (· - ·)) := by
  refine F.okX scMinus (fun vs H Q E h => ?_) (fun cdv A outer s H vs Q E hr h => ?_)
  · obtain ⟨x, y, rfl, _⟩ := h
    rfl
  · obtain ⟨x, y, rfl, h⟩ := h
    have nd := scMinus.nd
    have T := G.T
    refine ⟨_, pss_cons (ps_expr (pe_call GA hr (by rfl) gA kA bA .nil (passes_call (takes_of rfl rfl rfl rfl) fun _ _ _ _ h => h) (pa_cons (pv 0) (pa_cons (pv 1) pa_nil))))
      (pss_cons (ps_setLc (i := 2) (own := [("first", 5), ("second", 6)]) (g := gTup K 2 (gCons (gName 5) (gCons (gName 6) gNil))) (by rfl) nd rfl rfl (sw_true rfl rfl rfl (by decide +kernel)) (pi_z2 (by rfl) mZ (pa_cons (pe_fld (pv 0) rfl) (pa_cons (pe_fld (pv 1) rfl) pa_nil))) (blkOk_by (own := [("first", 5), ("second", 6)]) (N := ["one", "two", "lines", "a", "b", "first", "second"]) (sc := defScope sMinus) (by decide +kernel))
          (fun _ _ _ _ _ => pg_tup (by rfl) (pgs_cons (pg_name (i := 5) nd rfl (Or.inl rfl)) (pgs_cons (pg_name (i := 6) nd rfl (Or.inl rfl)) pgs_nil))) (fun _ _ _ _ _ => pts_nil)
          (fun _ _ _ _ _ => pe_lc (own := [("a", 3), ("b", 4)]) (g := gTup K 2 (gCons (gName 3) (gCons (gName 4) gNil))) (by rfl) nd (show PI _ _ _ (iZ2 K (tCons (tVar 5) (tCons (tVar 6) tNil))) from pi_z2 (by rfl) mZ (pa_cons (pv 5) (pa_cons (pv 6) pa_nil))) (blkOk_by (own := [("a", 3), ("b", 4)]) (N := ["one", "two", "lines", "a", "b", "first", "second"]) (by kernel_rfl))
            (fun _ _ _ _ _ => pg_tup (by rfl) (pgs_cons (pg_name (i := 3) nd rfl (Or.inl rfl)) (pgs_cons (pg_name (i := 4) nd rfl (Or.inl rfl)) pgs_nil))) (fun _ _ _ _ _ => pts_nil)
            (fun _ _ _ _ _ => pe_op op_sub (pv 3) (pv 4))))
      (pss_one (ps_ret (pe_make G.m G.ok hr (by rfl) T.t.g G.b .nil (passes_call (takes_of rfl rfl rfl rfl) fun _ _ _ _ h => h) (pa_cons (pe_fld (pv 0) rfl) (pa_cons (pe_fld (pv 0) rfl) (pa_cons (pe_fld (pv 0) rfl) (pa_cons (pv 2) pa_nil)))))))), ?_⟩
    refine ⟨_, rfl, _, rfl, x, y, rfl, ?_⟩
    rcases h with ⟨h, hR⟩ | ⟨a, p, t, wd, L, rfl, hA, gA, h⟩
    · exact .inl ⟨h, hR⟩
    refine .inr ⟨a, p, t, wd, L, rfl, hA, gA, ?_⟩
    rcases h with ⟨h, hR⟩ | ⟨b, p2, t2, w2, M, rfl, hB, gB, h⟩
    · exact .inl ⟨h, hR⟩
    refine .inr ⟨b, p2, t2, w2, M, rfl, hB, gB, ?_⟩
    rcases h with ⟨n, hR⟩ | ⟨rfl, rfl, rfl, k⟩
    · exact .inl ⟨n, hR⟩
    refine .inr ⟨rfl, rfl, rfl, ?_⟩
    obtain ⟨dx, la, us, e, ea, ra, rfl⟩ := id hA
    obtain ⟨dx2, lb, vs, e2, eb, rb, rfl⟩ := id hB
    have t60 := gA.t60
    have w60 := gA.w60
    have lu : us.length = t := by rw [← rn_len]; exact gA.len
    have lv : vs.length = t := by rw [← rn_len]; exact gB.len
    refine ⟨_, rfl, a, CT, dx, _, _, rfl, e, T.t.cl, T.t.nL, rfl, _, rfl, b, CT, dx2, _, _, rfl, e2, T.t.cl, T.t.nL, rfl, ?_⟩
    refine ⟨la, lb, rv us, rv vs, rfl, .inr (.inl (.inl ea)), .inr (.inl (.inl eb)), fun J hJ D nD => ?_⟩
    refine lc_z2 hJ (by rw [rv_len, rv_len, lu, lv]) (fun i Hd => ∃ ws : Rs, rn ws = (zipL (· - ·) (rn us) (rn vs)).take i ∧ RL Hd ws ∧ Hd D = some (.lst (rv ws)) ∧ (∀ z ∈ ws, z.1 ≠ D) ∧ Same H Hd) ⟨[], rfl, fun z m => by simp at m, upd_same, fun z m => by simp at m, same_upd nD⟩
      (fun i Hd _ hh => by obtain ⟨_, _, _, _, _, s⟩ := hh; exact ⟨.of s, .of s⟩) ?_ ?_
    · rintro i x y U Hd hx hy ⟨ws, hw2, pw, eD, nw, sd⟩ nU
      obtain ⟨⟨r1, l1⟩, hz1, rfl⟩ := rv_inv hx
      obtain ⟨⟨r2, l2⟩, hz2, rfl⟩ := rv_inv hy
      have m1 : (r1, l1) ∈ us := List.mem_of_getElem? hz1
      have m2 : (r2, l2) ∈ vs := List.mem_of_getElem? hz2
      have hil : i < us.length := (List.getElem?_eq_some_iff.mp hz1).1
      have ll1 : l1.length = wd := gA.wid l1 (List.mem_map.mpr ⟨_, m1, rfl⟩)
      have ll2 : l2.length = wd := gB.wid l2 (List.mem_map.mpr ⟨_, m2, rfl⟩)
      have hwsl : ws.length ≤ i := by
        have := congrArg List.length hw2
        rw [rn_len, List.length_take] at this
        omega
      have sU : Same Hd (upd Hd U (.tup [.ref r1, .ref r2])) := same_upd nU
      refine ⟨U, [.ref r1, .ref r2], rfl, .inl (.inl upd_same), rfl, .ref r1, [.ref r2], rfl, .ref r2, [], rfl, rfl, rfl, ?_⟩
      dsimp only [tYes]
      refine iteT ?_
      refine ⟨_, rfl, _, rfl, r1, r2, l1.map V.int, l2.map V.int, rfl, .inr (.inl (.inl (sU _ _ (sd _ _ (ra _ m1))))), .inr (.inl (.inl (sU _ _ (sd _ _ (rb _ m2))))), fun J2 hJ2 D2 nD2 => ?_⟩
      have sU2 : Same Hd (upd (upd Hd U (.tup [.ref r1, .ref r2])) D2 (.lst [])) := sU.trans (same_upd nD2)
      have nD2' : Hd D2 = none := by
        cases q : Hd D2 with
        | none => rfl
        | some o => rw [sU _ _ q] at nD2; cases nD2
      refine lc_z2 hJ2 (by rw [List.length_map, List.length_map, ll1, ll2]) (fun j He => He D2 = some (.lst (((List.zipWith (· - ·) l1 l2).take j).map V.int)) ∧ Same (upd Hd U (.tup [.ref r1, .ref r2])) He) ⟨upd_same, same_upd nD2⟩ (fun j He _ hh => ⟨.of hh.2, .of hh.2⟩) ?_ ?_
      · rintro j x y U2 He hx hy ⟨eD2, se⟩ nU2
        obtain ⟨i1, hn1, rfl⟩ := map_inv hx
        obtain ⟨i2, hn2, rfl⟩ := map_inv hy
        have hjl : j < l1.length := (List.getElem?_eq_some_iff.mp hn1).1
        refine ⟨U2, [.int i1, .int i2], rfl, .inl (.inl upd_same), rfl, .int i1, [.int i2], rfl, .int i2, [], rfl, rfl, rfl, ?_⟩
        dsimp only [tYes]
        refine iteT ?_
        have n2 : D2 ≠ U2 := fun z => by rw [z, nU2] at eD2; cases eD2
        refine ⟨_, rfl, _, rfl, i1, i2, rfl, rfl, _, same_upd nU2 _ _ eD2, small_2000 (by rw [List.length_map, List.length_take, List.length_zipWith]; omega), ?_, same_put (se.trans (same_upd nU2)) nD2⟩
        rw [upd_same, List.take_add_one, List.getElem?_zipWith, hn1, hn2, List.map_append]
        rfl
      · rintro He ⟨eD2, se⟩
        rw [List.take_of_length_le (by rw [List.length_zipWith, List.length_map]; omega)] at eD2
        have nDD : D2 ≠ D := fun z => by rw [z, eD] at nD2'; cases nD2'
        have se2 := sU.trans se
        obtain ⟨q1, q2⟩ := rl_add (o := .lst (rv ws ++ [.ref D2])) (fun z m => se2 _ _ (pw z m)) nw eD2 nDD
        refine ⟨_, se2 _ _ eD, small_2000 (by rw [rv_len]; omega), ws ++ [(D2, List.zipWith (· - ·) l1 l2)], ?_, q1, by rw [upd_same, rv_app], q2, same_put (sd.trans se2) nD⟩
        rw [rn_app, hw2, List.take_add_one]
        unfold zipL rn
        rw [List.getElem?_zipWith, List.getElem?_map, List.getElem?_map, hz1, hz2]
        rfl
    · rintro Hd ⟨ws, hw2, pw, eD, nw, sd⟩
      have hzl : (zipL (· - ·) (rn us) (rn vs)).length = t := by unfold zipL; rw [List.length_zipWith, rn_len, rn_len, lu, lv, Nat.min_self]
      rw [List.take_of_length_le (by rw [hzl, rv_len, lu]; exact Nat.le_refl _)] at hw2
      refine ⟨_, rfl, a, CT, dx, _, _, rfl, sd _ _ e, T.t.cl, T.t.nP, rfl, _, rfl, a, CT, dx, _, _, rfl, sd _ _ e, T.t.cl, T.t.nT, rfl, _, rfl, a, CT, dx, _, _, rfl, sd _ _ e, T.t.cl, T.t.nW, rfl, _, rfl, fun x dx nx ndx ne => ?_⟩
      refine mkt_good nx ndx ne gA.pr t60 w60 (L := rn ws) (lnj_of (.inl (SqL.of eD)) pw.ra (by rw [← rn_len, hw2, hzl]) (fun l m => by
        rw [hw2] at m
        unfold zipL at m
        obtain ⟨i, hi, e3⟩ := List.mem_iff_getElem.mp m
        rw [List.getElem_zipWith] at e3
        rw [← e3, List.length_zipWith, gA.wid _ (List.getElem_mem ..), gB.wid _ (List.getElem_mem ..), Nat.min_self])) fun H2 hT s2 => ⟨rfl, ?_⟩
      rw [hw2] at hT
      exact k x H2 hT (sd.trans s2)
end
end K01


set_option Elab.async false
set_option maxRecDepth 100000
set_option maxHeartbeats 4000000
set_option linter.all false
namespace K01
open PySem PySem.Spec PyProof.Rows L2
theorem dot_zip (l c : List Int) : (List.zipWith (· * ·) l c).sum = dot l c := rfl
section
variable {P : Program} {w : World} {K : PySem.W.Frag} {mg : Str → Option Value} {base : Heap} {CT CP CB : Addr}
theorem ok_times {f fC : Addr} {fd fdC : FuncData} (F : Fun K "times" "times" sTimes f fd) (G : Pg P w K mg base CT CP CB) (B : PlX K mg "BadTable" CB) (GC : FnOk P w K mg base CX0 1 fC fdC ["one"] (spCols CT)) (bC : L2.Binds K fdC ["one"] []) (gC : mg "columns_of" = some (.ref fC)) (kC : PySem.W.keepIn K (.ref fC) = true) (mZ : mg "zip" = none) (mSum : mg "sum" = none) :
    FnOk P w K mg base (L2.CX P w) 6 f fd ["one", "two"] (spTimes K CT CB) := by
  refine F.okX scTimes (fun vs H Q E h => ?_) (fun cdv A outer s H vs Q E hr h => ?_)
  · obtain ⟨x, y, rfl, _⟩ := h
    rfl
  · obtain ⟨x, y, rfl, h⟩ := h
    have nd := scTimes.nd
    have T := G.T
    have r1 : Room 1 _ := hr.mono (by decide)
    have r4 : Room 4 _ := hr.mono (by decide)
    refine ⟨_, pss_cons (ps_expr (pe_call G.okK r4 (by rfl) G.gK G.kK G.bK .nil (passes_call (takes_of rfl rfl rfl rfl) fun _ _ _ _ h => h) (pa_cons (pv 0) pa_nil)))
      (pss_cons (ps_expr (pe_call G.okK r4 (by rfl) G.gK G.kK G.bK .nil (passes_call (takes_of rfl rfl rfl rfl) fun _ _ _ _ h => h) (pa_cons (pv 1) pa_nil)))
      (pss_cons (ps_if (PW.pt (pw_or (pt_cmpR op_ne (pe_fld (pv 0) rfl) (pe_fld (pv 1) rfl) (nomark _)) (pw_or1 (pt_cmpR op_ne (pe_fld (pv 0) rfl) (pe_fld (pv 1) rfl) (nomark _)))))
        (pss_one (ps_raise rfl (takes_of rfl rfl rfl rfl) (pmk_own PySem.F.excBase_ValueError B.q B.g B.k (raises_own B.s B.t) (by rfl)))) pss_nil)
      (pss_cons (ps_set (i := 2) nd rfl (Or.inr rfl) (pe_call GC r1 (by rfl) gC kC bC .nil pass0 (pa_cons (pv 1) pa_nil)))
      (pss_cons (ps_setLc (i := 3) (own := [("line", 7)]) (g := gName 7) (by rfl) nd rfl rfl (sw_true rfl rfl rfl (by decide +kernel)) (pi_seq (pe_fld (pv 0) rfl)) (blkOk_by (own := [("line", 7)]) (N := ["one", "two", "columns", "lines", "a", "b", "column", "line"]) (sc := defScope sTimes) (by decide +kernel))
          (fun _ _ _ _ _ => pg_name (i := 7) nd rfl (Or.inr rfl)) (fun _ _ _ _ _ => pts_nil)
          (fun _ _ _ _ _ => pe_lc (own := [("column", 6)]) (g := gName 6) (by rfl) nd (show PI _ _ _ (iSeq K (tVar 2)) from pi_seq (pv 2)) (blkOk_by (own := [("column", 6)]) (N := ["one", "two", "columns", "lines", "a", "b", "column", "line"]) (by kernel_rfl))
            (fun _ _ _ _ _ => pg_name (i := 6) nd rfl (Or.inl rfl)) (fun _ _ _ _ _ => pts_nil)
            (fun _ _ _ _ _ => pe_callB (show CallR _ _ (rSum K) from cr_sum (by rfl)) (by rfl) mSum (by decide +kernel) (pa_cons
              (pe_lc (own := [("a", 4), ("b", 5)]) (g := gTup K 2 (gCons (gName 4) (gCons (gName 5) gNil))) (by rfl) nd (show PI _ _ _ (iZ2 K (tCons (tVar 7) (tCons (tVar 6) tNil))) from pi_z2 (by rfl) mZ (pa_cons (pv 7) (pa_cons (pv 6) pa_nil))) (blkOk_by (own := [("a", 4), ("b", 5)]) (N := ["one", "two", "columns", "lines", "a", "b", "column", "line"]) (by kernel_rfl))
                (fun _ _ _ _ _ => pg_tup (by rfl) (pgs_cons (pg_name (i := 4) nd rfl (Or.inl rfl)) (pgs_cons (pg_name (i := 5) nd rfl (Or.inl rfl)) pgs_nil))) (fun _ _ _ _ _ => pts_nil)
                (fun _ _ _ _ _ => pe_op op_mul (pv 4) (pv 5))) pa_nil))))
      (pss_one (ps_ret (pe_make G.m G.ok hr (by rfl) T.t.g G.b .nil (passes_call (takes_of rfl rfl rfl rfl) fun _ _ _ _ h => h) (pa_cons (pe_fld (pv 0) rfl) (pa_cons (pe_fld (pv 0) rfl) (pa_cons (pe_fld (pv 1) rfl) (pa_cons (pv 3) pa_nil))))))))))), ?_⟩
    rcases h with ⟨h, hR⟩ | ⟨a, p, t, wd, L, rfl, hA, gA, h⟩
    · exact ⟨_, rfl, x, rfl, .inl ⟨h, hR⟩⟩
    refine ⟨_, rfl, _, rfl, .inr ⟨a, p, t, wd, L, rfl, hA, ?_⟩⟩
    rcases h with ⟨h, hR⟩ | ⟨b, p2, t2, w2, M, rfl, hB, gB, h⟩
    · exact ⟨_, rfl, y, rfl, .inl ⟨h, hR⟩⟩
    refine ⟨_, rfl, _, rfl, .inr ⟨b, p2, t2, w2, M, rfl, hB, ?_⟩⟩
    obtain ⟨dx, la, us, e, ea, ra, rfl⟩ := id hA
    obtain ⟨dx2, d2, e2⟩ := tab_fld hB
    refine ⟨_, rfl, a, CT, dx, _, _, rfl, e, T.t.cl, T.t.nP, rfl, _, rfl, b, CT, dx2, _, _, rfl, e2, T.t.cl, T.t.nP, rfl, rfl, _, rfl, ?_⟩
    by_cases c1 : p = p2
    rotate_left
    · refine iteTb (by rw [decide_eq_false (fun z => c1 (V.int.inj z))]; rfl) ?_
      refine iteT ?_
      rcases h with ⟨_, hR⟩ | ⟨h1, _⟩
      · exact hR H (Same.refl _)
      · exact absurd h1 c1
    refine iteFb (by rw [decide_eq_true (by rw [c1])]; rfl) ?_
    refine ⟨_, rfl, a, CT, dx, _, _, rfl, e, T.t.cl, T.t.nW, rfl, _, rfl, b, CT, dx2, _, _, rfl, e2, T.t.cl, T.t.nT, rfl, rfl, _, rfl, ?_⟩
    by_cases c2 : wd = t2
    rotate_left
    · refine iteTb (by rw [decide_eq_false (fun z => c2 (by have := V.int.inj z; omega))]; rfl) ?_
      rcases h with ⟨_, hR⟩ | ⟨_, h2, _⟩
      · exact hR H (Same.refl _)
      · exact absurd h2 c2
    refine iteFb (by rw [decide_eq_true (by rw [c2])]; rfl) ?_
    rcases h with ⟨n, _⟩ | ⟨_, _, k⟩
    · exact absurd n (by rw [c1, c2]; simp)
    subst c1
    subst c2
    refine ⟨_, rfl, b, p, wd, w2, M, rfl, hB, gB, fun C zs H1 eC rC hzs nC s1 => ?_⟩
    have gC2 := good_cols gB
    have t60 := gA.t60
    have w60 := gA.w60
    have w260 := gB.w60
    have lu : us.length = t := by rw [← rn_len]; exact gA.len
    have lz : zs.length = w2 := by rw [← rn_len, hzs]; exact gC2.len
    refine ⟨_, rfl, a, CT, dx, _, _, rfl, s1 _ _ e, T.t.cl, T.t.nL, rfl, la, rv us, rfl, .inr (.inl (.inl (s1 _ _ ea))), fun J hJ D nD => ?_⟩
    refine lc_seq hJ (fun i Hd => ∃ ws : Rs, rn ws = (mulL (rn us) (rn zs)).take i ∧ RL Hd ws ∧ Hd D = some (.lst (rv ws)) ∧ (∀ z ∈ ws, z.1 ≠ D) ∧ Same H1 Hd) ⟨[], rfl, fun z m => by simp at m, upd_same, fun z m => by simp at m, same_upd nD⟩ (fun j Hd _ hh => by obtain ⟨_, _, _, _, _, s⟩ := hh; exact .of s) ?_ ?_
    · rintro i y Hd hi ⟨ws, hw2, pw, eD, nw, sd⟩
      obtain ⟨⟨r, l⟩, hz, rfl⟩ := rv_inv hi
      have hzm : (r, l) ∈ us := List.mem_of_getElem? hz
      have hil : i < us.length := (List.getElem?_eq_some_iff.mp hz).1
      have hlm : l ∈ rn us := List.mem_map.mpr ⟨_, hzm, rfl⟩
      have hll : l.length = wd := gA.wid l hlm
      have hwsl : ws.length ≤ i := by
        have := congrArg List.length hw2
        rw [rn_len, List.length_take] at this
        omega
      refine ⟨rfl, ?_⟩
      dsimp only [tYes]
      refine iteT ?_
      refine ⟨_, rfl, C, rv zs, rfl, .inl (SqL.of (sd _ _ eC)), fun J2 hJ2 D2 nD2 => ?_⟩
      refine lc_seq hJ2 (fun j He => He D2 = some (.lst ((((rn zs).map fun c => dot l c).take j).map V.int)) ∧ Same Hd He) ⟨upd_same, same_upd nD2⟩ (fun j He _ hh => .of hh.2) ?_ ?_
      · rintro j y He hj ⟨eD2, se⟩
        obtain ⟨⟨rc, c⟩, hz2, rfl⟩ := rv_inv hj
        have hcm : (rc, c) ∈ zs := List.mem_of_getElem? hz2
        have hjl : j < zs.length := (List.getElem?_eq_some_iff.mp hz2).1
        have hcl : c.length = wd := gC2.wid c (by rw [← hzs]; exact List.mem_map.mpr ⟨_, hcm, rfl⟩)
        refine ⟨rfl, ?_⟩
        dsimp only [tYes]
        refine iteT ?_
        have sHe : Same H1 He := sd.trans se
        refine ⟨_, rfl, _, rfl, r, rc, l.map V.int, c.map V.int, rfl, .inr (.inl (.inl (sHe _ _ (s1 _ _ (ra _ hzm))))), .inl (SqL.of (sHe _ _ (rC _ hcm))), fun J3 hJ3 D3 nD3 => ?_⟩
        refine lc_z2 hJ3 (by rw [List.length_map, List.length_map, hll, hcl]) (fun m Hf => Hf D3 = some (.lst (((List.zipWith (· * ·) l c).take m).map V.int)) ∧ Same He Hf) ⟨upd_same, same_upd nD3⟩ (fun m Hf _ hh => ⟨.of hh.2, .of hh.2⟩) ?_ ?_
        · rintro m x y U Hf hx hy ⟨eD3, sf⟩ nU
          obtain ⟨i1, hn1, rfl⟩ := map_inv hx
          obtain ⟨i2, hn2, rfl⟩ := map_inv hy
          have hml : m < l.length := (List.getElem?_eq_some_iff.mp hn1).1
          have hb := gA.mod l hlm i1 (List.mem_of_getElem? hn1)
          have hp97 := prime_pos gA.pr
          refine ⟨U, [.int i1, .int i2], rfl, .inl (.inl upd_same), rfl, .int i1, [.int i2], rfl, .int i2, [], rfl, rfl, rfl, ?_⟩
          dsimp only [tYes]
          refine iteT ?_
          refine ⟨_, rfl, _, rfl, i1, i2, rfl, rfl, .inl ⟨by omega, by omega⟩, _, same_upd nU _ _ eD3, small_2000 (by rw [List.length_map, List.length_take, List.length_zipWith]; omega), ?_, same_put (sf.trans (same_upd nU)) nD3⟩
          rw [upd_same, List.take_add_one, List.getElem?_zipWith, hn1, hn2, List.map_append]
          rfl
        · rintro Hf ⟨eD3, sf⟩
          rw [List.take_of_length_le (by rw [List.length_zipWith, List.length_map]; omega)] at eD3
          refine ⟨D3, List.zipWith (· * ·) l c, rfl, SqL.of eD3, _, sf _ _ eD2, small_2000 (by rw [List.length_map, List.length_take, List.length_map, rn_len]; omega), ?_, same_put (se.trans sf) nD2⟩
          rw [upd_same, List.take_add_one, List.map_append]
          unfold rn
          rw [List.getElem?_map, List.getElem?_map, hz2]
          rfl
      · rintro He ⟨eD2, se⟩
        rw [List.take_of_length_le (by rw [List.length_map, rn_len, rv_len]; exact Nat.le_refl _)] at eD2
        have nDD : D2 ≠ D := fun z => by rw [z, eD] at nD2; cases nD2
        obtain ⟨q1, q2⟩ := rl_add (o := .lst (rv ws ++ [.ref D2])) (fun z m => se _ _ (pw z m)) nw eD2 nDD
        refine ⟨_, se _ _ eD, small_2000 (by rw [rv_len]; omega), ws ++ [(D2, (rn zs).map fun c => dot l c)], ?_, q1, by rw [upd_same, rv_app], q2, same_put (sd.trans se) nD⟩
        rw [rn_app, hw2, List.take_add_one]
        unfold mulL
        conv => rhs; unfold rn
        rw [List.getElem?_map, List.getElem?_map, hz]
        rfl
    · rintro Hd ⟨ws, hw2, pw, eD, nw, sd⟩
      have hml : (mulL (rn us) (rn zs)).length = t := by unfold mulL; rw [List.length_map, rn_len, lu]
      rw [List.take_of_length_le (by rw [hml, rv_len, lu]; exact Nat.le_refl _)] at hw2
      have sd1 := s1.trans sd
      refine ⟨_, rfl, a, CT, dx, _, _, rfl, sd1 _ _ e, T.t.cl, T.t.nP, rfl, _, rfl, a, CT, dx, _, _, rfl, sd1 _ _ e, T.t.cl, T.t.nT, rfl, _, rfl, b, CT, dx2, _, _, rfl, sd1 _ _ e2, T.t.cl, T.t.nW, rfl, _, rfl, fun x dx nx ndx ne => ?_⟩
      refine mkt_good nx ndx ne gA.pr t60 w260 (L := rn ws) (lnj_of (.inl (SqL.of eD)) pw.ra (by rw [← rn_len, hw2, hml]) (fun l m => by
        rw [hw2] at m
        unfold mulL at m
        obtain ⟨l0, _, rfl⟩ := List.mem_map.mp m
        rw [List.length_map, rn_len, lz])) fun H2 hT s2 => ⟨rfl, ?_⟩
      rw [hw2, hzs] at hT
      exact k x H2 hT (sd1.trans s2)
end
end K01


set_option Elab.async false
set_option maxRecDepth 100000
set_option maxHeartbeats 4000000
set_option linter.all false
namespace K01
open PySem PySem.Spec PyProof.Rows L2
abbrev sChkTs : Stmt := top 27
theorem scChkTs : FnScope ["tables", "table"] ["tables"] (defScope sChkTs) := ⟨rfl, rfl, rfl, by decide +kernel, rfl, by decide +kernel, by decide +kernel⟩
/-- a Table in memory and its parts -/
structure Tb where
  a : Addr
  p : Int
  t : Nat
  w : Nat
  L : List (List Int)
def tv (ts : List Tb) : List V := ts.map fun z => V.ref z.a
theorem tv_len (ts : List Tb) : (tv ts).length = ts.length := by unfold tv; rw [List.length_map]
theorem tv_inv {ts : List Tb} {i : Nat} {x : V} (h : (tv ts)[i]? = some x) : ∃ z, ts[i]? = some z ∧ x = .ref z.a := by
  unfold tv at h
  rw [List.getElem?_map] at h
  cases e : ts[i]? with
  | none => rw [e] at h; cases h
  | some z => rw [e] at h; cases h; exact ⟨z, rfl, rfl⟩
def TsAt (CT : Addr) (H : Hp) (ts : List Tb) : Prop := ∀ z ∈ ts, TabAt CT H z.a z.p z.t z.w z.L ∧ GoodT z.p z.t z.w z.L
theorem TsAt.same {CT : Addr} {H H' : Hp} (s : Same H H') {ts : List Tb} (h : TsAt CT H ts) : TsAt CT H' ts := fun z m => ⟨(h z m).1.same s, (h z m).2⟩
/-- a list of Tables, or none -/
inductive TsJ (K : PySem.W.Frag) (CT : Addr) (H : Hp) : V → Option (Tb × List Tb) → Prop
  | no {x : V} {t : Value} (h : TyX K H x t) (z : PySem.W.kitAny K t [.type "list", .type "tuple"] = some false) : TsJ K CT H x none
  | nil {a : Addr} (h : SqA K H a []) : TsJ K CT H (.ref a) none
  | bad {a : Addr} {ts : List Tb} {y : V} {r : List V} (h : SqA K H a (tv ts ++ y :: r)) (ht : TsAt CT H ts) (hy : NoTab K CT H y) : TsJ K CT H (.ref a) none
  | ok {a : Addr} {z : Tb} {ts : List Tb} (h : SqA K H a (tv (z :: ts))) (ht : TsAt CT H (z :: ts)) (hl : ts.length < 1000) : TsJ K CT H (.ref a) (some (z, ts))
def spChkTs (K : PySem.W.Frag) (CT CB : Addr) : Sp := fun vs H Q E => ∃ (x : V) (o : Option (Tb × List Tb)), vs = [x] ∧ TsJ K CT H x o ∧ ((o = none ∧ Rp CB H E) ∨ ∃ z ts, o = some (z, ts) ∧
  ((¬ (∀ y ∈ ts, y.p = z.p) ∧ Rp CB H E) ∨ ((∀ y ∈ ts, y.p = z.p) ∧ ∀ H', Same H H' → Q .non H')))
theorem all_map {α : Type} {f : α → Bool} : ∀ l : List α, (l.map f).all id = true ↔ ∀ x ∈ l, f x = true
  | [] => by simp
  | x :: r => by simp
section
variable {P : Program} {w : World} {K : PySem.W.Frag} {mg : Str → Option Value} {base : Heap} {CT CP CB : Addr}
theorem ok_chkts {f fL : Addr} {fd fdL : FuncData} (F : Fun K "_check_tables" "_check_tables" sChkTs f fd) (G : Pg P w K mg base CT CP CB) (B : PlX K mg "BadTable" CB) (GL : FnOk P w K mg base CX0 1 fL fdL ["thing"] (spIsList K)) (kL : PySem.W.keepIn K (.ref fL) = true) (bL : L2.Binds K fdL ["thing"] []) (gL : mg "is_list" = some (.ref fL))
    (mLen : mg "len" = none) (mAll : mg "all" = none) : FnOk P w K mg base (L2.CX P w) 5 f fd ["tables"] (spChkTs K CT CB) := by
  refine F.okX scChkTs (fun vs H Q E h => ?_) (fun cdv A outer s H vs Q E hr h => ?_)
  · obtain ⟨x, o, rfl, _⟩ := h
    rfl
  · obtain ⟨x, o, rfl, hx, h⟩ := h
    have nd := scChkTs.nd
    have T := G.T
    have r1 : Room 1 _ := hr.mono (by decide)
    refine ⟨_, pss_cons (ps_if (PW.pt (pw_or (pt_not (pt_val (pe_call GL r1 (by rfl) gL kL bL .nil pass0 (pa_cons (pv 0) pa_nil)))) (pw_or1 (pt_cmpR op_eq (pe_callB call_len_seq (by rfl) mLen PySem.boot_len (pa_cons (pv 0) pa_nil)) pe_int (nomark _)))))
        (pss_one (ps_raise rfl (takes_of rfl rfl rfl rfl) (pmk_own PySem.F.excBase_ValueError B.q B.g B.k (raises_own B.s B.t) (by rfl)))) pss_nil)
      (pss_cons (ps_for (passes_of rfl) rfl (pi_seq (pv 0)) (pg_name (i := 1) nd rfl (Or.inl rfl))
        (pss_one (ps_expr (pe_call G.okK hr (by rfl) G.gK G.kK G.bK .nil (passes_call (takes_of rfl rfl rfl rfl) fun _ _ _ _ h => h) (pa_cons (pv 1) pa_nil)))))
      (pss_one (ps_if (pt_not (pt_val (pe_callB (cr_all (by rfl)) (by rfl) mAll (by decide +kernel) (pa_cons
          (pe_lc (own := [("table", 1)]) (g := gName 1) (by rfl) nd (pi_seq (pv 0)) (blkOk_by (own := [("table", 1)]) (N := ["tables", "table"]) (sc := defScope sChkTs) (by decide +kernel)) (fun _ _ _ _ _ => pg_name (i := 1) nd rfl (Or.inl rfl)) (fun _ _ _ _ _ => pts_nil)
            (fun _ _ _ _ _ => pe_cmpR op_eq (show PE _ _ (tFld K (tVar 1) "prime") from pe_fld (pv 1) rfl) (show PE _ _ (tFld K (tOp (rIx K) (tVar 0) (tC (.int 0))) "prime") from pe_fld (pe_ix (show IxR _ (rIx K) from ix_seq) (pv 0) pe_int (fun _ _ => rfl)) rfl) (nomark _))) pa_nil))))
        (pss_one (ps_raise rfl (takes_of rfl rfl rfl rfl) (pmk_own PySem.F.excBase_ValueError B.q B.g B.k (raises_own B.s B.t) (by rfl)))) pss_nil))), ?_⟩
    cases hx with
    | @no x ty ht hk =>
      rcases h with ⟨_, hR⟩ | ⟨z, ts, e, _⟩
      rotate_left
      · cases e
      refine ⟨_, rfl, _, ty, false, rfl, ht, hk, fun H1 s1 => ⟨_, rfl, ?_⟩⟩
      refine iteT ?_
      refine iteT ?_
      exact hR H1 s1
    | @nil a hs =>
      rcases h with ⟨_, hR⟩ | ⟨z, ts, e, _⟩
      rotate_left
      · cases e
      obtain ⟨ty, ht, hk⟩ := ty_sqa hs
      refine ⟨_, rfl, _, ty, true, rfl, ht, hk, fun H1 s1 => ⟨_, rfl, ?_⟩⟩
      refine iteF ?_
      refine ⟨_, rfl, a, [], rfl, hs.same s1, rfl, _, rfl, ?_⟩
      refine iteTb (by decide) ?_
      exact hR H1 s1
    | @bad a ts y r hs hts hy =>
      rcases h with ⟨_, hR⟩ | ⟨z, ts, e, _⟩
      rotate_left
      · cases e
      obtain ⟨ty, ht, hk⟩ := ty_sqa hs
      refine ⟨_, rfl, _, ty, true, rfl, ht, hk, fun H1 s1 => ⟨_, rfl, ?_⟩⟩
      refine iteF ?_
      refine ⟨_, rfl, a, _, rfl, hs.same s1, rfl, _, rfl, ?_⟩
      refine iteFb (decide_eq_false (fun z => by have := V.int.inj z; rw [List.length_append, List.length_cons] at this; omega)) ?_
      refine ⟨_, rfl, a, _, rfl, hs.same s1, fun J hJ => ?_⟩
      refine for_seq hJ (fun i σ Hx => ∃ v1 : Option V, σ = [some (.ref a), v1] ∧ i ≤ ts.length ∧ Same H1 Hx) ⟨none, rfl, Nat.zero_le _, Same.refl _⟩ (fun i σ Hx _ hh => by obtain ⟨_, _, _, s⟩ := hh; exact .of s) ?_ ?_
      · rintro i x σ Hx hi ⟨v1, rfl, hle, sx⟩
        by_cases c : i < ts.length
        · rw [List.getElem?_append_left (by rw [tv_len]; exact c)] at hi
          obtain ⟨z, hz, rfl⟩ := tv_inv hi
          have hm := hts z (List.mem_of_getElem? hz)
          refine ⟨_, rfl, _, rfl, .inr ⟨z.a, z.p, z.t, z.w, z.L, rfl, hm.1.same (s1.trans sx), ?_⟩⟩
          exact ⟨_, rfl, by omega, sx⟩
        · have e : i = ts.length := by omega
          subst e
          rw [List.getElem?_append_right (by rw [tv_len]; exact Nat.le_refl _), tv_len, Nat.sub_self] at hi
          cases hi
          exact ⟨_, rfl, y, rfl, .inl ⟨hy.same (s1.trans sx), hR.same (s1.trans sx)⟩⟩
      · rintro σ Hx ⟨v1, rfl, hle, sx⟩
        rw [List.length_append, tv_len, List.length_cons] at hle
        omega
    | @ok a z ts hs hts hl =>
      rcases h with ⟨e, _⟩ | ⟨z', ts', e, h⟩
      · cases e
      cases e
      obtain ⟨ty, ht, hk⟩ := ty_sqa hs
      refine ⟨_, rfl, _, ty, true, rfl, ht, hk, fun H1 s1 => ⟨_, rfl, ?_⟩⟩
      refine iteF ?_
      refine ⟨_, rfl, a, _, rfl, hs.same s1, rfl, _, rfl, ?_⟩
      refine iteFb (decide_eq_false (fun z => by have := V.int.inj z; rw [tv_len, List.length_cons] at this; omega)) ?_
      refine ⟨_, rfl, a, _, rfl, hs.same s1, fun J hJ => ?_⟩
      refine for_seq hJ (fun i σ Hx => ∃ v1 : Option V, σ = [some (.ref a), v1] ∧ Same H1 Hx) ⟨none, rfl, Same.refl _⟩ (fun i σ Hx _ hh => by obtain ⟨_, _, s⟩ := hh; exact .of s) ?_ ?_
      · rintro i x σ Hx hi ⟨v1, rfl, sx⟩
        obtain ⟨z2, hz, rfl⟩ := tv_inv hi
        have hm := hts z2 (List.mem_of_getElem? hz)
        exact ⟨_, rfl, _, rfl, .inr ⟨z2.a, z2.p, z2.t, z2.w, z2.L, rfl, hm.1.same (s1.trans sx), _, rfl, sx⟩⟩
      · rintro σ Hx ⟨v1, rfl, sx⟩
        have s1x := s1.trans sx
        refine ⟨_, rfl, a, _, rfl, hs.same s1x, fun J2 hJ2 D nD => ?_⟩
        refine lc_seq hJ2 (fun i Hd => Hd D = some (.lst ((((z :: ts).map fun y => decide (y.p = z.p)).take i).map V.bl)) ∧ Same Hx Hd) ⟨upd_same, same_upd nD⟩ (fun j Hd _ hh => .of hh.2) ?_ ?_
        · rintro i x Hd hi ⟨eD, sd⟩
          obtain ⟨z2, hz, rfl⟩ := tv_inv hi
          have hm := hts z2 (List.mem_of_getElem? hz)
          have hil := (List.getElem?_eq_some_iff.mp hz).1
          rw [List.length_cons] at hil
          have sHd := s1x.trans sd
          obtain ⟨dx, b, e⟩ := tab_fld (hm.1.same sHd)
          obtain ⟨dx0, b0, e0⟩ := tab_fld ((hts z (List.mem_cons_self ..)).1.same sHd)
          refine ⟨rfl, ?_⟩
          dsimp only [tYes]
          refine iteT ?_
          refine ⟨_, rfl, z2.a, CT, dx, _, _, rfl, e, T.t.cl, T.t.nP, rfl, ?_⟩
          have fin : ∃ acc, Hd D = some (.lst acc) ∧ acc.length < sizeLine ∧ ((upd Hd D (.lst (acc ++ [.bl (decide (V.int z2.p = V.int z.p))]))) D = some (.lst ((((z :: ts).map fun y => decide (y.p = z.p)).take (i + 1)).map V.bl)) ∧ Same Hx (upd Hd D (.lst (acc ++ [.bl (decide (V.int z2.p = V.int z.p))])))) := by
            refine ⟨_, eD, small_2000 (by rw [List.length_map, List.length_take]; omega), ?_, same_put sd nD⟩
            rw [upd_same, List.take_add_one, List.getElem?_map, hz, List.map_append]
            rw [decide_eq_decide.mpr (show V.int z2.p = V.int z.p ↔ z2.p = z.p from ⟨V.int.inj, fun e => by rw [e]⟩)]
            rfl
          rcases hs.same sHd with q | q
          · exact ⟨_, rfl, .inl ⟨a, _, 0, .ref z.a, rfl, rfl, q, atI_nat (j := 0) rfl, z.a, CT, dx0, _, _, rfl, e0, T.t.cl, T.t.nP, rfl, rfl, fin⟩⟩
          · exact ⟨_, rfl, .inr (.inl ⟨a, _, 0, .ref z.a, rfl, rfl, q, atI_nat (j := 0) rfl, z.a, CT, dx0, _, _, rfl, e0, T.t.cl, T.t.nP, rfl, rfl, fin⟩)⟩
        · rintro Hd ⟨eD, sd⟩
          rw [List.take_of_length_le (by rw [List.length_map, tv_len]; exact Nat.le_refl _)] at eD
          have sHd := s1x.trans sd
          refine ⟨D, _, rfl, SqL.of eD, _, rfl, ?_⟩
          have hal : (((z :: ts).map fun y => decide (y.p = z.p)).all id) = true ↔ ∀ y ∈ ts, y.p = z.p := by
            rw [all_map]
            simp
          rcases h with ⟨n, hR⟩ | ⟨y, k⟩
          · refine iteTb (by rw [Bool.eq_false_iff.mpr (fun z => n (hal.mp z))]; rfl) ?_
            exact hR Hd sHd
          · refine iteFb (by rw [hal.mpr y]; rfl) ?_
            exact k Hd sHd
end
end K01


set_option Elab.async false
set_option maxRecDepth 100000
set_option maxHeartbeats 4000000
set_option linter.all false
namespace K01
open PySem PySem.Spec PyProof.Rows L2
abbrev sBeside : Stmt := top 28
abbrev sOver : Stmt := top 29
theorem scBeside : FnScope ["tables", "first", "wide", "lines", "table", "number", "k"] ["tables"] (defScope sBeside) := ⟨rfl, rfl, rfl, by decide +kernel, rfl, by decide +kernel, by decide +kernel⟩
theorem scOver : FnScope ["tables", "first", "lines", "table", "line"] ["tables"] (defScope sOver) := ⟨rfl, rfl, rfl, by decide +kernel, rfl, by decide +kernel, by decide +kernel⟩
/-- a walk over items, whatever is done at each of them -/
theorem walk_seq {K : PySem.W.Frag} {a : Addr} {xs : List V} {H0 Hs : Hp} {J : It} (Wk : IsW K a xs H0 J) (Pv : Nat → Hp → Prop) (h0 : Pv 0 Hs) (hl : ∀ i H, i ≤ xs.length → Pv i H → Stay K a H0 H) {B : (Hp → Prop) → V → Hp → Prop} {Qd : Hp → Prop}
    (hs : ∀ i x H, xs[i]? = some x → Pv i H → B (Pv (i + 1)) x H) (hd : ∀ H, Pv xs.length H → Qd H) :
    ∃ W : Nat → Nat → Hp → Prop, (∃ m, W 0 m Hs) ∧ ∀ i m H, W i m H → (J.stop i H ∧ Qd H) ∨ (J.go i H ∧ ∃ Nx : Hp → Prop, (∀ H', Nx H' → ∃ m', m' < m ∧ W (i + 1) m' H') ∧ ∀ x H', J.yld i H x H' → B Nx x H') := by
  refine ⟨fun i m H => m + i = xs.length ∧ Pv i H, ⟨xs.length, rfl, h0⟩, fun i m H h => ?_⟩
  obtain ⟨hm, p⟩ := h
  obtain ⟨w1, w2, w3⟩ := Wk i H (hl i H (by omega) p)
  rcases Nat.lt_or_ge i xs.length with lt | ge
  · refine .inr ⟨w1 xs[i] (List.getElem?_eq_getElem lt), Pv (i + 1), fun H' p' => ⟨m - 1, by omega, by omega, p'⟩, fun x H' y => ?_⟩
    obtain ⟨rfl, e⟩ := w2 x H' y
    exact hs i x _ e p
  · have e : i = xs.length := by omega
    subst e
    exact .inl ⟨w3 (Nat.le_refl _), hd H p⟩
/-- line k of all, one behind the other -/
def besRow (ts : List Tb) (k : Nat) : List Int := (ts.map fun z => z.L.getD k []).flatten
def besL (ts : List Tb) (t : Nat) : List (List Int) := (List.range t).map (besRow ts)
def sumW (ts : List Tb) : Nat := (ts.map fun z => z.w).sum
def sumT (ts : List Tb) : Nat := (ts.map fun z => z.t).sum
def overL (ts : List Tb) : List (List Int) := (ts.map fun z => z.L).flatten
def spBeside (K : PySem.W.Frag) (CT CB : Addr) : Sp := fun vs H Q E => ∃ (x : V) (o : Option (Tb × List Tb)), vs = [x] ∧ TsJ K CT H x o ∧ ((o = none ∧ Rp CB H E) ∨ ∃ z ts, o = some (z, ts) ∧ sumW (z :: ts) ≤ 1000 ∧
  (((¬ ((∀ y ∈ ts, y.p = z.p) ∧ (∀ y ∈ ts, y.t = z.t) ∧ sumW (z :: ts) ≤ 60)) ∧ Rp CB H E) ∨ ((∀ y ∈ ts, y.p = z.p) ∧ (∀ y ∈ ts, y.t = z.t) ∧ sumW (z :: ts) ≤ 60 ∧ ∀ (n : Addr) (H' : Hp), TabAt CT H' n z.p z.t (sumW (z :: ts)) (besL (z :: ts) z.t) → Same H H' → Q (.ref n) H')))
def spOver (K : PySem.W.Frag) (CT CB : Addr) : Sp := fun vs H Q E => ∃ (x : V) (o : Option (Tb × List Tb)), vs = [x] ∧ TsJ K CT H x o ∧ ((o = none ∧ Rp CB H E) ∨ ∃ z ts, o = some (z, ts) ∧ sumT (z :: ts) ≤ 1000 ∧
  (((¬ ((∀ y ∈ ts, y.p = z.p) ∧ (∀ y ∈ ts, y.w = z.w) ∧ sumT (z :: ts) ≤ 60)) ∧ Rp CB H E) ∨ ((∀ y ∈ ts, y.p = z.p) ∧ (∀ y ∈ ts, y.w = z.w) ∧ sumT (z :: ts) ≤ 60 ∧ ∀ (n : Addr) (H' : Hp), TabAt CT H' n z.p (sumT (z :: ts)) z.w (overL (z :: ts)) → Same H H' → Q (.ref n) H')))
theorem tsj_inv {K : PySem.W.Frag} {CT : Addr} {H : Hp} {x : V} {z : Tb} {ts : List Tb} (h : TsJ K CT H x (some (z, ts))) : ∃ a, x = .ref a ∧ SqA K H a (tv (z :: ts)) ∧ TsAt CT H (z :: ts) ∧ ts.length < 1000 := by
  generalize ho : some (z, ts) = o at h
  cases h with
  | no _ _ => cases ho
  | nil _ => cases ho
  | bad _ _ _ => cases ho
  | ok h ht hl => cases ho; exact ⟨_, rfl, h, ht, hl⟩
theorem ix_fst {K : PySem.W.Frag} {H : Hp} {a : Addr} {v : V} {r : List V} (h : SqA K H a (v :: r)) {Q : VK} (q : Q v H) : rIx K (.ref a) (.int 0) H Q := by
  rcases h with h | h
  · exact .inl ⟨a, _, 0, v, rfl, rfl, h, atI_nat (j := 0) rfl, q⟩
  · exact .inr (.inl ⟨a, _, 0, v, rfl, rfl, h, atI_nat (j := 0) rfl, q⟩)
theorem sum_nat {α : Type} (f : α → Nat) : ∀ l : List α, (l.map fun y => ((f y : Nat) : Int)).sum = ((l.map f).sum : Nat)
  | [] => rfl
  | x :: r => by rw [List.map_cons, List.map_cons, List.sum_cons, List.sum_cons, sum_nat f r]; omega
theorem bes_len {ts : List Tb} {k : Nat} (h : ∀ z ∈ ts, k < z.L.length ∧ ∀ l ∈ z.L, l.length = z.w) : (besRow ts k).length = sumW ts := by
  unfold besRow sumW
  rw [List.length_flatten, List.map_map]
  congr 1
  refine List.map_congr_left fun z m => ?_
  obtain ⟨h1, h2⟩ := h z m
  show (z.L.getD k []).length = z.w
  rw [List.getD_eq_getElem?_getD, List.getElem?_eq_getElem h1]
  exact h2 _ (List.getElem_mem ..)
theorem good_bes {CT : Addr} {H : Hp} {ts : List Tb} {p : Int} {t : Nat} (hp : p ∈ primes) (h : TsAt CT H ts) (ep : ∀ y ∈ ts, y.p = p) (et : ∀ y ∈ ts, y.t = t) (t60 : t ≤ 60) (w60 : sumW ts ≤ 60) : GoodT p t (sumW ts) (besL ts t) where
  pr := hp
  t60 := t60
  w60 := w60
  len := by unfold besL; rw [List.length_map, List.length_range]
  wid := fun l m => by
    unfold besL at m
    obtain ⟨k, hk, rfl⟩ := List.mem_map.mp m
    exact bes_len fun z mz => ⟨by rw [(h z mz).2.len, et z mz]; exact List.mem_range.mp hk, (h z mz).2.wid⟩
  mod := fun l m i mi => by
    unfold besL at m
    obtain ⟨k, hk, rfl⟩ := List.mem_map.mp m
    unfold besRow at mi
    obtain ⟨l0, m0, mi⟩ := List.mem_flatten.mp mi
    obtain ⟨z, mz, rfl⟩ := List.mem_map.mp m0
    have g := (h z mz).2
    have hk2 : k < z.L.length := by rw [g.len, et z mz]; exact List.mem_range.mp hk
    rw [List.getD_eq_getElem?_getD, List.getElem?_eq_getElem hk2] at mi
    have := g.mod _ (List.getElem_mem hk2) i mi
    rw [ep z mz] at this
    exact this
theorem sumW_take : ∀ (ts : List Tb) (i : Nat), sumW (ts.take i) ≤ sumW ts
  | [], i => by rw [List.take_nil]; exact Nat.le_refl _
  | z :: ts, 0 => Nat.zero_le _
  | z :: ts, i + 1 => by
    have := sumW_take ts i
    unfold sumW at *
    rw [List.take_succ_cons, List.map_cons, List.map_cons, List.sum_cons, List.sum_cons]
    omega
theorem besRow_app (ts : List Tb) (z : Tb) (k : Nat) : besRow (ts ++ [z]) k = besRow ts k ++ z.L.getD k [] := by
  unfold besRow
  rw [List.map_append, List.flatten_append]
  simp
theorem sumW_app (ts : List Tb) (z : Tb) : sumW (ts ++ [z]) = sumW ts + z.w := by
  unfold sumW
  rw [List.map_append, List.sum_append]
  simp
theorem stay_but {K : PySem.W.Frag} {H H' : Hp} {a D : Addr} (n : a ≠ D) (s : ∀ b o, H b = some o → b ≠ D → H' b = some o) : Stay K a H H' := by
  refine ⟨fun ys h => ?_, fun ys h => ?_⟩
  · rcases h with (h | ⟨o, h⟩) | h
    · exact .inl (.inl (s _ _ h n))
    · exact .inl (.inr ⟨o, s _ _ h n⟩)
    · exact .inr h
  · rcases h with (h | ⟨o, h⟩) | h
    · exact .inl (.inl (s _ _ h n))
    · exact .inl (.inr ⟨o, s _ _ h n⟩)
    · exact .inr h
section
variable {P : Program} {w : World} {K : PySem.W.Frag} {mg : Str → Option Value} {base : Heap} {CT CP CB : Addr}
theorem ok_beside {f fA : Addr} {fd fdA : FuncData} (F : Fun K "beside" "beside" sBeside f fd) (G : Pg P w K mg base CT CP CB) (B : PlX K mg "BadTable" CB) (GA : FnOk P w K mg base (L2.CX P w) 5 fA fdA ["tables"] (spChkTs K CT CB)) (bA : L2.Binds K fdA ["tables"] []) (gA : mg "_check_tables" = some (.ref fA)) (kA : PySem.W.keepIn K (.ref fA) = true)
    (mAll : mg "all" = none) (mSum : mg "sum" = none) (mRa : mg "range" = none) : FnOk P w K mg base (L2.CX P w) 6 f fd ["tables"] (spBeside K CT CB) := by
  refine F.okX scBeside (fun vs H Q E h => ?_) (fun cdv A outer s H vs Q E hr h => ?_)
  · obtain ⟨x, o, rfl, _⟩ := h
    rfl
  · obtain ⟨x, o, rfl, hx, h⟩ := h
    have nd := scBeside.nd
    have T := G.T
    refine ⟨_, pss_cons (ps_expr (pe_call GA hr (by rfl) gA kA bA .nil (passes_call (takes_of rfl rfl rfl rfl) fun _ _ _ _ h => h) (pa_cons (pv 0) pa_nil)))
      (pss_cons (ps_set (i := 1) nd rfl (Or.inr rfl) (pe_ix (show IxR _ (rIx K) from ix_seq) (pv 0) pe_int (fun _ _ => rfl)))
      (pss_cons (ps_if (pt_not (pt_val (pe_callB (cr_all (by rfl)) (by rfl) mAll (by decide +kernel) (pa_cons
          (pe_lc (own := [("table", 4)]) (g := gName 4) (by rfl) nd (pi_seq (pv 0)) (blkOk_by (own := [("table", 4)]) (N := ["tables", "first", "wide", "lines", "table", "number", "k"]) (sc := defScope sBeside) (by decide +kernel)) (fun _ _ _ _ _ => pg_name (i := 4) nd rfl (Or.inl rfl)) (fun _ _ _ _ _ => pts_nil)
            (fun _ _ _ _ _ => pe_cmpR op_eq (show PE _ _ (tFld K (tVar 4) "tall") from pe_fld (pv 4) rfl) (show PE _ _ (tFld K (tVar 1) "tall") from pe_fld (pv 1) rfl) (nomark _))) pa_nil))))
        (pss_one (ps_raise rfl (takes_of rfl rfl rfl rfl) (pmk_own PySem.F.excBase_ValueError B.q B.g B.k (raises_own B.s B.t) (by rfl)))) pss_nil)
      (pss_cons (ps_set (i := 2) nd rfl (Or.inl rfl) (pe_callB (cr_sum (by rfl)) (by rfl) mSum (by decide +kernel) (pa_cons
          (pe_lc (own := [("table", 4)]) (g := gName 4) (by rfl) nd (pi_seq (pv 0)) (blkOk_by (own := [("table", 4)]) (N := ["tables", "first", "wide", "lines", "table", "number", "k"]) (sc := defScope sBeside) (by decide +kernel)) (fun _ _ _ _ _ => pg_name (i := 4) nd rfl (Or.inl rfl)) (fun _ _ _ _ _ => pts_nil)
            (fun _ _ _ _ _ => show PE _ _ (tFld K (tVar 4) "wide") from pe_fld (pv 4) rfl)) pa_nil)))
      (pss_cons (ps_setLc (i := 3) (own := [("k", 6)]) (g := gName 6) (by rfl) nd rfl rfl (sw_true rfl rfl rfl (by decide +kernel)) (pi_range1 (by rfl) mRa (pa_cons (pe_fld (pv 1) rfl) pa_nil)) (blkOk_by (own := [("k", 6)]) (N := ["tables", "first", "wide", "lines", "table", "number", "k"]) (sc := defScope sBeside) (by decide +kernel)) (fun _ _ _ _ _ => pg_name (i := 6) nd rfl (Or.inr rfl)) (fun _ _ _ _ _ => pts_nil)
          (fun _ _ _ _ _ => pe_lc2 (own := [("table", 4), ("number", 5)]) (vs1 := [5]) (g := gName 4) (g1 := gName 5) (by rfl) nd (show PI _ _ _ (iSeq K (tVar 0)) from pi_seq (pv 0)) (blkOk_by (own := [("table", 4), ("number", 5)]) (N := ["tables", "first", "wide", "lines", "table", "number", "k"]) (by kernel_rfl)) (by decide)
            (fun _ _ _ _ _ => pg_name (i := 4) nd rfl (Or.inl rfl)) (fun _ _ _ _ _ => pts_nil)
            (fun _ _ _ _ _ => show PI _ _ _ (iSeq K (tOp (rIxT K) (tFld K (tVar 4) "lines") (tVar 6))) from pi_seq (pe_ix (show IxR _ (rIxT K) from ix_tup) (pe_fld (pv 4) rfl) (pv 6) (fun _ _ => rfl)))
            (fun _ _ _ _ _ => pg_name (i := 5) nd rfl (Or.inl rfl)) (fun _ _ _ _ _ => pts_nil) (fun _ _ _ _ _ => pv 5)))
      (pss_one (ps_ret (pe_make G.m G.ok hr (by rfl) T.t.g G.b .nil (passes_call (takes_of rfl rfl rfl rfl) fun _ _ _ _ h => h) (pa_cons (pe_fld (pv 1) rfl) (pa_cons (pe_fld (pv 1) rfl) (pa_cons (pv 2) (pa_cons (pv 3) pa_nil))))))))))), ?_⟩
    rcases h with ⟨rfl, hR⟩ | ⟨z, ts, rfl, sw, h⟩
    · exact ⟨_, rfl, x, _, rfl, hx, .inl ⟨rfl, hR⟩⟩
    obtain ⟨a, rfl, hs, hts, hl⟩ := tsj_inv hx
    refine ⟨_, rfl, _, _, rfl, hx, .inr ⟨z, ts, rfl, ?_⟩⟩
    by_cases ep : ∀ y ∈ ts, y.p = z.p
    rotate_left
    · rcases h with ⟨_, hR⟩ | ⟨e, _⟩
      · exact .inl ⟨ep, hR⟩
      · exact absurd e ep
    refine .inr ⟨ep, fun H1 s1 => ?_⟩
    have hz := (hts z (List.mem_cons_self ..))
    refine ⟨_, rfl, ix_fst (hs.same s1) ?_⟩
    refine ⟨_, rfl, a, _, rfl, hs.same s1, fun J hJ D nD => ?_⟩
    refine lc_seq hJ (fun i Hd => Hd D = some (.lst ((((z :: ts).map fun y => decide (y.t = z.t)).take i).map V.bl)) ∧ Same H1 Hd) ⟨upd_same, same_upd nD⟩ (fun j Hd _ hh => .of hh.2) ?_ ?_
    · rintro i x Hd hi ⟨eD, sd⟩
      obtain ⟨z2, hz2, rfl⟩ := tv_inv hi
      have hm := hts z2 (List.mem_of_getElem? hz2)
      have hil := (List.getElem?_eq_some_iff.mp hz2).1
      rw [List.length_cons] at hil
      have sHd := s1.trans sd
      obtain ⟨dx, b, e⟩ := tab_fld (hm.1.same sHd)
      obtain ⟨dx0, b0, e0⟩ := tab_fld (hz.1.same sHd)
      refine ⟨rfl, ?_⟩
      dsimp only [tYes]
      refine iteT ?_
      refine ⟨_, rfl, z2.a, CT, dx, _, _, rfl, e, T.t.cl, T.t.nT, rfl, _, rfl, z.a, CT, dx0, _, _, rfl, e0, T.t.cl, T.t.nT, rfl, rfl, _, eD, small_2000 (by rw [List.length_map, List.length_take]; omega), ?_, same_put sd nD⟩
      rw [upd_same, List.take_add_one, List.getElem?_map, hz2, List.map_append]
      rw [decide_eq_decide.mpr (show V.int z2.t = V.int z.t ↔ z2.t = z.t from ⟨fun e => by have := V.int.inj e; omega, fun e => by rw [e]⟩)]
      rfl
    rintro Hd ⟨eD, sd⟩
    rw [List.take_of_length_le (by rw [List.length_map, tv_len]; exact Nat.le_refl _)] at eD
    have sHd := s1.trans sd
    refine ⟨D, _, rfl, SqL.of eD, _, rfl, ?_⟩
    have hal : (((z :: ts).map fun y => decide (y.t = z.t)).all id) = true ↔ ∀ y ∈ ts, y.t = z.t := by
      rw [all_map]
      simp
    by_cases et : ∀ y ∈ ts, y.t = z.t
    rotate_left
    · refine iteTb (by rw [Bool.eq_false_iff.mpr (fun z => et (hal.mp z))]; rfl) ?_
      rcases h with ⟨_, hR⟩ | ⟨_, e, _⟩
      · exact hR Hd sHd
      · exact absurd e et
    refine iteFb (by rw [hal.mpr et]; rfl) ?_
    refine ⟨_, rfl, a, _, rfl, hs.same sHd, fun J2 hJ2 D2 nD2 => ?_⟩
    refine lc_seq hJ2 (fun i He => He D2 = some (.lst ((((z :: ts).map fun y => ((y.w : Nat) : Int)).take i).map V.int)) ∧ Same Hd He) ⟨upd_same, same_upd nD2⟩ (fun j He _ hh => .of hh.2) ?_ ?_
    · rintro i x He hi ⟨eD2, se⟩
      obtain ⟨z2, hz2, rfl⟩ := tv_inv hi
      have hm := hts z2 (List.mem_of_getElem? hz2)
      have hil := (List.getElem?_eq_some_iff.mp hz2).1
      rw [List.length_cons] at hil
      obtain ⟨dx, b, e⟩ := tab_fld (hm.1.same (sHd.trans se))
      refine ⟨rfl, ?_⟩
      dsimp only [tYes]
      refine iteT ?_
      refine ⟨_, rfl, z2.a, CT, dx, _, _, rfl, e, T.t.cl, T.t.nW, rfl, _, eD2, small_2000 (by rw [List.length_map, List.length_take]; omega), ?_, same_put se nD2⟩
      rw [upd_same, List.take_add_one, List.getElem?_map, hz2, List.map_append]
      rfl
    rintro He ⟨eD2, se⟩
    rw [List.take_of_length_le (by rw [List.length_map, tv_len]; exact Nat.le_refl _)] at eD2
    have sHe := sHd.trans se
    refine ⟨D2, _, rfl, SqL.of eD2, ?_⟩
    rw [sum_nat (fun y : Tb => y.w)]
    rw [show (List.map (fun y : Tb => y.w) (z :: ts)).sum = sumW (z :: ts) from rfl]
    have t60 := hz.2.t60
    obtain ⟨dx0, b0, e0⟩ := tab_fld hz.1
    refine ⟨_, rfl, z.a, CT, dx0, _, _, rfl, sHe _ _ e0, T.t.cl, T.t.nT, rfl, z.t, rfl, by omega, by omega, fun D3 nD3 => ?_⟩
    rw [Int.toNat_natCast]
    have eta : ∀ y ∈ z :: ts, y.t = z.t := fun y m => by
      rcases List.mem_cons.mp m with rfl | m
      · rfl
      · exact et y m
    have epa : ∀ y ∈ z :: ts, y.p = z.p := fun y m => by
      rcases List.mem_cons.mp m with rfl | m
      · rfl
      · exact ep y m
    refine lc_range (lo := 0) (n := z.t) (fun k Hf => ∃ ws : Rs, rn ws = (besL (z :: ts) z.t).take k ∧ RL Hf ws ∧ Hf D3 = some (.lst (rv ws)) ∧ (∀ y ∈ ws, y.1 ≠ D3) ∧ Same He Hf) ⟨[], rfl, fun z m => by simp at m, upd_same, fun z m => by simp at m, same_upd nD3⟩ ?_ ?_
    · rintro k Hf hk ⟨ws, hw2, pw, eD3, nw, sf⟩
      have hwsl : ws.length ≤ k := by
        have := congrArg List.length hw2
        rw [rn_len, List.length_take] at this
        omega
      have sHf := sHe.trans sf
      refine ⟨rfl, ?_⟩
      dsimp only [tYes]
      refine iteT ?_
      refine ⟨_, rfl, a, _, rfl, hs.same sHf, fun J4 hJ4 D4 nD4 => ?_⟩
      refine walk_seq hJ4 (fun i Hg => Hg D4 = some (.lst ((besRow ((z :: ts).take i) k).map V.int)) ∧ Same Hf Hg) ⟨upd_same, same_upd nD4⟩ (fun i Hg _ hh => .of hh.2) ?_ ?_
      · rintro i x Hg hi ⟨eD4, sg⟩
        obtain ⟨z2, hz2, rfl⟩ := tv_inv hi
        have hm := hts z2 (List.mem_of_getElem? hz2)
        obtain ⟨dx, b, us, e, eb, ru, hru⟩ := hm.1.same (sHf.trans sg)
        have hk2 : k < z2.L.length := by rw [hm.2.len, eta z2 (List.mem_of_getElem? hz2)]; exact hk
        have hk3 : k < us.length := by rw [← rn_len, hru]; exact hk2
        obtain ⟨⟨r, l⟩, hus⟩ : ∃ y, us[k]? = some y := ⟨_, List.getElem?_eq_getElem hk3⟩
        have hum : (r, l) ∈ us := List.mem_of_getElem? hus
        have hlL : z2.L.getD k [] = l := by
          rw [← hru, List.getD_eq_getElem?_getD]
          unfold rn
          rw [List.getElem?_map, hus]
          rfl
        have hll : l.length = z2.w := hm.2.wid l (by rw [← hru]; exact List.mem_map.mpr ⟨_, hum, rfl⟩)
        have htk : (z :: ts).take (i + 1) = (z :: ts).take i ++ [z2] := by rw [List.take_add_one, hz2]; rfl
        have hbl : (besRow ((z :: ts).take i) k).length = sumW ((z :: ts).take i) := bes_len fun y m => by
          have m2 := List.mem_of_mem_take m
          exact ⟨by rw [(hts y m2).2.len, eta y m2]; exact hk, (hts y m2).2.wid⟩
        have hsum : sumW ((z :: ts).take i) + z2.w ≤ sumW (z :: ts) := by
          have := sumW_take (z :: ts) (i + 1)
          rw [htk, sumW_app] at this
          exact this
        have hat : atI (rv us) ((0 : Int) + (k : Nat)) = some (.ref r) := by
          rw [Int.zero_add]
          refine atI_nat ?_
          unfold rv
          rw [List.getElem?_map, hus]
          rfl
        refine ⟨rfl, ?_⟩
        dsimp only [tYes]
        refine iteT ?_
        refine ⟨_, rfl, z2.a, CT, dx, _, _, rfl, e, T.t.cl, T.t.nL, rfl, _, rfl, b, rv us, _, _, rfl, rfl, .inl (.inl eb), hat, r, l.map V.int, rfl, .inr (.inl (.inl (ru _ hum))), fun J5 hJ5 => ?_⟩
        have nr : r ≠ D4 := fun z => by
          have := ru _ hum
          rw [show (r, l).1 = D4 from z, eD4] at this
          cases this
        refine walk_seq hJ5 (fun j Hh => Hh D4 = some (.lst ((besRow ((z :: ts).take i) k ++ l.take j).map V.int)) ∧ Same Hf Hh ∧ ∀ b o, Hg b = some o → b ≠ D4 → Hh b = some o) ⟨by rw [List.take_zero, List.append_nil]; exact eD4, sg, fun _ _ h _ => h⟩ (fun j Hh _ hh => stay_but nr hh.2.2) ?_ ?_
        · rintro j x Hh hj ⟨eh, sh, bh⟩
          obtain ⟨n, hn, rfl⟩ := map_inv hj
          have hjl : j < l.length := (List.getElem?_eq_some_iff.mp hn).1
          refine ⟨rfl, ?_⟩
          dsimp only [tYes]
          refine iteT ?_
          refine ⟨_, rfl, _, eh, small_2000 (by rw [List.length_map, List.length_append, List.length_take]; omega), ?_, same_put sh nD4, fun b o e h => by rw [upd_ne h]; exact bh b o e h⟩
          rw [upd_same, List.take_add_one, hn]
          simp only [List.map_append, List.append_assoc]
          rfl
        · rintro Hh ⟨eh, sh, bh⟩
          rw [List.length_map, List.take_length] at eh
          refine ⟨?_, sh⟩
          rw [htk, besRow_app, hlL]
          exact eh
      · rintro Hg ⟨eD4, sg⟩
        rw [List.take_of_length_le (by rw [tv_len]; exact Nat.le_refl _)] at eD4
        have nDD : D4 ≠ D3 := fun z => by rw [z, eD3] at nD4; cases nD4
        obtain ⟨q1, q2⟩ := rl_add (o := .lst (rv ws ++ [.ref D4])) (fun z m => sg _ _ (pw z m)) nw eD4 nDD
        refine ⟨_, sg _ _ eD3, small_2000 (by rw [rv_len]; omega), ws ++ [(D4, besRow (z :: ts) k)], ?_, q1, by rw [upd_same, rv_app], q2, same_put (sf.trans sg) nD3⟩
        rw [rn_app, hw2, List.take_add_one]
        unfold besL
        rw [List.getElem?_map, List.getElem?_range hk]
        rfl
    · rintro Hf ⟨ws, hw2, pw, eD3, nw, sf⟩
      have hbl : (besL (z :: ts) z.t).length = z.t := by unfold besL; rw [List.length_map, List.length_range]
      rw [List.take_of_length_le (by rw [hbl]; exact Nat.le_refl _)] at hw2
      have sHf := sHe.trans sf
      refine ⟨_, rfl, z.a, CT, dx0, _, _, rfl, sHf _ _ e0, T.t.cl, T.t.nP, rfl, _, rfl, z.a, CT, dx0, _, _, rfl, sHf _ _ e0, T.t.cl, T.t.nT, rfl, _, rfl, _, rfl, fun x dx nx ndx ne => ?_⟩
      by_cases w60 : sumW (z :: ts) ≤ 60
      · rcases h with ⟨n, _⟩ | ⟨_, _, _, k⟩
        · exact absurd ⟨ep, et, w60⟩ n
        have gB := good_bes hz.2.pr hts epa eta t60 w60
        refine mkt_good nx ndx ne hz.2.pr t60 w60 (L := rn ws) (lnj_of (.inl (SqL.of eD3)) pw.ra (by rw [← rn_len, hw2, hbl]) (by rw [hw2]; exact gB.wid)) fun H2 hT s2 => ⟨rfl, ?_⟩
        rw [hw2, modT_id gB] at hT
        exact k x H2 hT (sHf.trans s2)
      · refine mkt_sp nx ndx ne (.int z.p) (.inr ⟨z.p, rfl, hz.2.pr, .int z.t, .int (sumW (z :: ts)), .inl ⟨.inr ?_, ?_⟩⟩)
        · unfold szO
          dsimp only
          rw [if_neg (by omega)]
        · rcases h with ⟨_, hR⟩ | ⟨_, _, c, _⟩
          · exact hR.same sHf
          · exact absurd c w60
end
end K01


set_option Elab.async false
set_option maxRecDepth 100000
set_option maxHeartbeats 4000000
set_option linter.all false
namespace K01
open PySem PySem.Spec PyProof.Rows L2
theorem over_app (ts : List Tb) (z : Tb) : overL (ts ++ [z]) = overL ts ++ z.L := by
  unfold overL
  rw [List.map_append, List.flatten_append]
  simp
theorem sumT_app (ts : List Tb) (z : Tb) : sumT (ts ++ [z]) = sumT ts + z.t := by
  unfold sumT
  rw [List.map_append, List.sum_append]
  simp
theorem sumT_take : ∀ (ts : List Tb) (i : Nat), sumT (ts.take i) ≤ sumT ts
  | [], i => by rw [List.take_nil]; exact Nat.le_refl _
  | z :: ts, 0 => Nat.zero_le _
  | z :: ts, i + 1 => by
    have := sumT_take ts i
    unfold sumT at *
    rw [List.take_succ_cons, List.map_cons, List.map_cons, List.sum_cons, List.sum_cons]
    omega
theorem over_len {ts : List Tb} (h : ∀ z ∈ ts, z.L.length = z.t) : (overL ts).length = sumT ts := by
  unfold overL sumT
  rw [List.length_flatten, List.map_map]
  congr 1
  exact List.map_congr_left fun z m => h z m
theorem good_over {CT : Addr} {H : Hp} {ts : List Tb} {p : Int} {w : Nat} (hp : p ∈ primes) (h : TsAt CT H ts) (ep : ∀ y ∈ ts, y.p = p) (ew : ∀ y ∈ ts, y.w = w) (w60 : w ≤ 60) (t60 : sumT ts ≤ 60) : GoodT p (sumT ts) w (overL ts) where
  pr := hp
  t60 := t60
  w60 := w60
  len := over_len fun z m => (h z m).2.len
  wid := fun l m => by
    unfold overL at m
    obtain ⟨l0, m0, m1⟩ := List.mem_flatten.mp m
    obtain ⟨z, mz, rfl⟩ := List.mem_map.mp m0
    rw [(h z mz).2.wid l m1, ew z mz]
  mod := fun l m i mi => by
    unfold overL at m
    obtain ⟨l0, m0, m1⟩ := List.mem_flatten.mp m
    obtain ⟨z, mz, rfl⟩ := List.mem_map.mp m0
    have := (h z mz).2.mod l m1 i mi
    rw [ep z mz] at this
    exact this
section
variable {P : Program} {w : World} {K : PySem.W.Frag} {mg : Str → Option Value} {base : Heap} {CT CP CB : Addr}
theorem ok_over {f fA : Addr} {fd fdA : FuncData} (F : Fun K "over" "over" sOver f fd) (G : Pg P w K mg base CT CP CB) (B : PlX K mg "BadTable" CB) (GA : FnOk P w K mg base (L2.CX P w) 5 fA fdA ["tables"] (spChkTs K CT CB)) (bA : L2.Binds K fdA ["tables"] []) (gA : mg "_check_tables" = some (.ref fA)) (kA : PySem.W.keepIn K (.ref fA) = true)
    (mAll : mg "all" = none) (mLen : mg "len" = none) : FnOk P w K mg base (L2.CX P w) 6 f fd ["tables"] (spOver K CT CB) := by
  refine F.okX scOver (fun vs H Q E h => ?_) (fun cdv A outer s H vs Q E hr h => ?_)
  · obtain ⟨x, o, rfl, _⟩ := h
    rfl
  · obtain ⟨x, o, rfl, hx, h⟩ := h
    have nd := scOver.nd
    have T := G.T
    refine ⟨_, pss_cons (ps_expr (pe_call GA hr (by rfl) gA kA bA .nil (passes_call (takes_of rfl rfl rfl rfl) fun _ _ _ _ h => h) (pa_cons (pv 0) pa_nil)))
      (pss_cons (ps_set (i := 1) nd rfl (Or.inr rfl) (pe_ix (show IxR _ (rIx K) from ix_seq) (pv 0) pe_int (fun _ _ => rfl)))
      (pss_cons (ps_if (pt_not (pt_val (pe_callB (cr_all (by rfl)) (by rfl) mAll (by decide +kernel) (pa_cons
          (pe_lc (own := [("table", 3)]) (g := gName 3) (by rfl) nd (pi_seq (pv 0)) (blkOk_by (own := [("table", 3)]) (N := ["tables", "first", "lines", "table", "line"]) (sc := defScope sOver) (by decide +kernel)) (fun _ _ _ _ _ => pg_name (i := 3) nd rfl (Or.inl rfl)) (fun _ _ _ _ _ => pts_nil)
            (fun _ _ _ _ _ => pe_cmpR op_eq (show PE _ _ (tFld K (tVar 3) "wide") from pe_fld (pv 3) rfl) (show PE _ _ (tFld K (tVar 1) "wide") from pe_fld (pv 1) rfl) (nomark _))) pa_nil))))
        (pss_one (ps_raise rfl (takes_of rfl rfl rfl rfl) (pmk_own PySem.F.excBase_ValueError B.q B.g B.k (raises_own B.s B.t) (by rfl)))) pss_nil)
      (pss_cons (ps_setLc2 (i := 2) (own := [("table", 3), ("line", 4)]) (vs1 := [4]) (g := gName 3) (g1 := gName 4) (by rfl) nd rfl rfl (sw_true rfl rfl rfl (by decide +kernel)) (pi_seq (pv 0)) (blkOk_by (own := [("table", 3), ("line", 4)]) (N := ["tables", "first", "lines", "table", "line"]) (sc := defScope sOver) (by decide +kernel)) (by decide)
            (fun _ _ _ _ _ => pg_name (i := 3) nd rfl (Or.inl rfl)) (fun _ _ _ _ _ => pts_nil)
            (fun _ _ _ _ _ => show PI _ _ _ (iSeq K (tFld K (tVar 3) "lines")) from pi_seq (pe_fld (pv 3) rfl))
            (fun _ _ _ _ _ => pg_name (i := 4) nd rfl (Or.inl rfl)) (fun _ _ _ _ _ => pts_nil) (fun _ _ _ _ _ => pv 4))
      (pss_one (ps_ret (pe_make G.m G.ok hr (by rfl) T.t.g G.b .nil (passes_call (takes_of rfl rfl rfl rfl) fun _ _ _ _ h => h) (pa_cons (pe_fld (pv 1) rfl) (pa_cons (pe_callB call_len_seq (by rfl) mLen PySem.boot_len (pa_cons (pv 2) pa_nil)) (pa_cons (pe_fld (pv 1) rfl) (pa_cons (pv 2) pa_nil)))))))))), ?_⟩
    rcases h with ⟨rfl, hR⟩ | ⟨z, ts, rfl, sw, h⟩
    · exact ⟨_, rfl, x, _, rfl, hx, .inl ⟨rfl, hR⟩⟩
    obtain ⟨a, rfl, hs, hts, hl⟩ := tsj_inv hx
    refine ⟨_, rfl, _, _, rfl, hx, .inr ⟨z, ts, rfl, ?_⟩⟩
    by_cases ep : ∀ y ∈ ts, y.p = z.p
    rotate_left
    · rcases h with ⟨_, hR⟩ | ⟨e, _⟩
      · exact .inl ⟨ep, hR⟩
      · exact absurd e ep
    refine .inr ⟨ep, fun H1 s1 => ?_⟩
    have hz := (hts z (List.mem_cons_self ..))
    refine ⟨_, rfl, ix_fst (hs.same s1) ?_⟩
    refine ⟨_, rfl, a, _, rfl, hs.same s1, fun J hJ D nD => ?_⟩
    refine lc_seq hJ (fun i Hd => Hd D = some (.lst ((((z :: ts).map fun y => decide (y.w = z.w)).take i).map V.bl)) ∧ Same H1 Hd) ⟨upd_same, same_upd nD⟩ (fun j Hd _ hh => .of hh.2) ?_ ?_
    · rintro i x Hd hi ⟨eD, sd⟩
      obtain ⟨z2, hz2, rfl⟩ := tv_inv hi
      have hm := hts z2 (List.mem_of_getElem? hz2)
      have hil := (List.getElem?_eq_some_iff.mp hz2).1
      rw [List.length_cons] at hil
      have sHd := s1.trans sd
      obtain ⟨dx, b, e⟩ := tab_fld (hm.1.same sHd)
      obtain ⟨dx0, b0, e0⟩ := tab_fld (hz.1.same sHd)
      refine ⟨rfl, ?_⟩
      dsimp only [tYes]
      refine iteT ?_
      refine ⟨_, rfl, z2.a, CT, dx, _, _, rfl, e, T.t.cl, T.t.nW, rfl, _, rfl, z.a, CT, dx0, _, _, rfl, e0, T.t.cl, T.t.nW, rfl, rfl, _, eD, small_2000 (by rw [List.length_map, List.length_take]; omega), ?_, same_put sd nD⟩
      rw [upd_same, List.take_add_one, List.getElem?_map, hz2, List.map_append]
      rw [decide_eq_decide.mpr (show V.int z2.w = V.int z.w ↔ z2.w = z.w from ⟨fun e => by have := V.int.inj e; omega, fun e => by rw [e]⟩)]
      rfl
    rintro Hd ⟨eD, sd⟩
    rw [List.take_of_length_le (by rw [List.length_map, tv_len]; exact Nat.le_refl _)] at eD
    have sHd := s1.trans sd
    refine ⟨D, _, rfl, SqL.of eD, _, rfl, ?_⟩
    have hal : (((z :: ts).map fun y => decide (y.w = z.w)).all id) = true ↔ ∀ y ∈ ts, y.w = z.w := by
      rw [all_map]
      simp
    by_cases ew : ∀ y ∈ ts, y.w = z.w
    rotate_left
    · refine iteTb (by rw [Bool.eq_false_iff.mpr (fun z => ew (hal.mp z))]; rfl) ?_
      rcases h with ⟨_, hR⟩ | ⟨_, e, _⟩
      · exact hR Hd sHd
      · exact absurd e ew
    refine iteFb (by rw [hal.mpr ew]; rfl) ?_
    have ewa : ∀ y ∈ z :: ts, y.w = z.w := fun y m => by
      rcases List.mem_cons.mp m with rfl | m
      · rfl
      · exact ew y m
    have epa : ∀ y ∈ z :: ts, y.p = z.p := fun y m => by
      rcases List.mem_cons.mp m with rfl | m
      · rfl
      · exact ep y m
    obtain ⟨dx0, b0, e0⟩ := tab_fld hz.1
    refine ⟨_, rfl, a, _, rfl, hs.same sHd, fun J4 hJ4 D4 nD4 => ?_⟩
    refine walk_seq hJ4 (fun i Hg => ∃ ws : Rs, rn ws = overL ((z :: ts).take i) ∧ RT Hg ws ∧ Hg D4 = some (.lst (rv ws)) ∧ Same Hd Hg) ⟨[], rfl, fun z m => by simp at m, upd_same, same_upd nD4⟩ (fun i Hg _ hh => by obtain ⟨_, _, _, _, s⟩ := hh; exact .of s) ?_ ?_
    · rintro i x Hg hi ⟨ws, hw, pw, eD4, sg⟩
      obtain ⟨z2, hz2, rfl⟩ := tv_inv hi
      have hm := hts z2 (List.mem_of_getElem? hz2)
      obtain ⟨dx, b, us, e, eb, ru, hru⟩ := hm.1.same (sHd.trans sg)
      have htk : (z :: ts).take (i + 1) = (z :: ts).take i ++ [z2] := by rw [List.take_add_one, hz2]; rfl
      have hul : us.length = z2.t := by rw [← rn_len, hru]; exact hm.2.len
      have hwl : ws.length = sumT ((z :: ts).take i) := by
        rw [← rn_len, hw]
        exact over_len fun y m => (hts y (List.mem_of_mem_take m)).2.len
      have hsum : sumT ((z :: ts).take i) + z2.t ≤ sumT (z :: ts) := by
        have := sumT_take (z :: ts) (i + 1)
        rw [htk, sumT_app] at this
        exact this
      have nb : b ≠ D4 := fun z => by rw [z, eD4] at eb; cases eb
      refine ⟨rfl, ?_⟩
      dsimp only [tYes]
      refine iteT ?_
      refine ⟨_, rfl, z2.a, CT, dx, _, _, rfl, e, T.t.cl, T.t.nL, rfl, b, rv us, rfl, .inr (.inl (.inl eb)), fun J5 hJ5 => ?_⟩
      refine walk_seq hJ5 (fun j Hh => ∃ ws2 : Rs, ws2 = ws ++ us.take j ∧ RT Hh ws2 ∧ RT Hh us ∧ Hh D4 = some (.lst (rv ws2)) ∧ Same Hd Hh ∧ ∀ b o, Hg b = some o → b ≠ D4 → Hh b = some o) ⟨ws, by rw [List.take_zero, List.append_nil], pw, ru, eD4, sg, fun _ _ h _ => h⟩ (fun j Hh _ hh => by obtain ⟨_, _, _, _, _, _, q⟩ := hh; exact stay_but nb q) ?_ ?_
      · rintro j x Hh hj ⟨ws2, rfl, pw2, ru2, eh, sh, bh⟩
        obtain ⟨y, hy, rfl⟩ := rv_inv hj
        have hjl : j < us.length := (List.getElem?_eq_some_iff.mp hy).1
        refine ⟨rfl, ?_⟩
        dsimp only [tYes]
        refine iteT ?_
        refine ⟨_, rfl, _, eh, small_2000 (by rw [rv_len, List.length_append, List.length_take]; omega), ?_⟩
        refine ⟨ws ++ us.take j ++ [y], by rw [List.take_add_one, hy, List.append_assoc]; rfl, (pw2.app (ru2 y (List.mem_of_getElem? hy))).put eh, ru2.put eh, by rw [upd_same, rv_app], same_put sh nD4, fun b o e h => by rw [upd_ne h]; exact bh b o e h⟩
      · rintro Hh ⟨ws2, e2, pw2, ru2, eh, sh, bh⟩
        rw [rv_len, List.take_length] at e2
        refine ⟨ws2, ?_, pw2, eh, sh⟩
        rw [e2, htk, over_app, ← hw, ← hru]
        unfold rn
        rw [List.map_append]
    · rintro Hg ⟨ws, hw, pw, eD4, sg⟩
      rw [List.take_of_length_le (by rw [tv_len]; exact Nat.le_refl _)] at hw
      have sHg := sHd.trans sg
      have hwl : ws.length = sumT (z :: ts) := by
        rw [← rn_len, hw]
        exact over_len fun y m => (hts y m).2.len
      refine ⟨_, rfl, z.a, CT, dx0, _, _, rfl, sHg _ _ e0, T.t.cl, T.t.nP, rfl, _, rfl, D4, _, rfl, .inl (SqL.of eD4), _, rfl, z.a, CT, dx0, _, _, rfl, sHg _ _ e0, T.t.cl, T.t.nW, rfl, _, rfl, fun x dx nx ndx ne => ?_⟩
      rw [rv_len, hwl]
      have w60 := hz.2.w60
      by_cases t60 : sumT (z :: ts) ≤ 60
      · rcases h with ⟨n, _⟩ | ⟨_, _, _, k⟩
        · exact absurd ⟨ep, ew, t60⟩ n
        have gO := good_over hz.2.pr hts epa ewa w60 t60
        refine mkt_good nx ndx ne hz.2.pr t60 w60 (L := rn ws) (lnj_of (.inl (SqL.of eD4)) pw.ra hwl (by rw [hw]; exact gO.wid)) fun H2 hT s2 => ⟨rfl, ?_⟩
        rw [hw, modT_id gO] at hT
        exact k x H2 hT (sHg.trans s2)
      · refine mkt_sp nx ndx ne (.int z.p) (.inr ⟨z.p, rfl, hz.2.pr, .int (sumT (z :: ts)), .int z.w, .inl ⟨.inl ?_, ?_⟩⟩)
        · unfold szO
          dsimp only
          rw [if_neg (by omega)]
        · rcases h with ⟨_, hR⟩ | ⟨_, _, c, _⟩
          · exact hR.same sHg
          · exact absurd c t60
end
end K01


set_option Elab.async false
set_option maxRecDepth 100000
set_option maxHeartbeats 4000000
set_option linter.all false
namespace K01
open PySem PySem.Spec PyProof.Rows L2
abbrev sCorner : Stmt := top 30
theorem scCorner : FnScope ["tables", "table", "wide", "lines", "ahead", "behind", "line"] ["tables"] (defScope sCorner) := ⟨rfl, rfl, rfl, by decide +kernel, rfl, by decide +kernel, by decide +kernel⟩
theorem op_subK {X : Cx} : OpR X (binaryOp .Sub) (fun x y H Q => ∃ i j k : Int, x = .int i ∧ y = .int j ∧ i - j = k ∧ Q (.int k) H) := by
  intro pins s σ H x y v u Q I rx ry h
  obtain ⟨i, j, k, ex, ey, rfl, q⟩ := h
  exact op_sub pins s σ H x y v u Q I rx ry ⟨i, j, ex, ey, q⟩
/-- the lines of one of them, so many noughts ahead and behind -/
def padL (x y : Nat) (L : List (List Int)) : List (List Int) := L.map fun l => List.replicate x 0 ++ l ++ List.replicate y 0
/-- along the diagonal, W columns in all, x of them gone -/
def corL (W : Nat) : Nat → List Tb → List (List Int)
  | _, [] => []
  | x, z :: ts => padL x (W - x - z.w) z.L ++ corL W (x + z.w) ts
def spCorner (K : PySem.W.Frag) (CT CB : Addr) : Sp := fun vs H Q E => ∃ (x : V) (o : Option (Tb × List Tb)), vs = [x] ∧ TsJ K CT H x o ∧ ((o = none ∧ Rp CB H E) ∨ ∃ z ts, o = some (z, ts) ∧ sumT (z :: ts) ≤ 1000 ∧ sumW (z :: ts) ≤ 1000 ∧
  (((¬ ((∀ y ∈ ts, y.p = z.p) ∧ sumT (z :: ts) ≤ 60 ∧ sumW (z :: ts) ≤ 60)) ∧ Rp CB H E) ∨ ((∀ y ∈ ts, y.p = z.p) ∧ sumT (z :: ts) ≤ 60 ∧ sumW (z :: ts) ≤ 60 ∧ ∀ (n : Addr) (H' : Hp), TabAt CT H' n z.p (sumT (z :: ts)) (sumW (z :: ts)) (corL (sumW (z :: ts)) 0 (z :: ts)) → Same H H' → Q (.ref n) H')))
theorem corL_app (W : Nat) : ∀ (x : Nat) (ts : List Tb) (z : Tb), corL W x (ts ++ [z]) = corL W x ts ++ padL (x + sumW ts) (W - (x + sumW ts) - z.w) z.L
  | x, [], z => by simp [corL, sumW]
  | x, y :: ts, z => by
    have e : x + sumW (y :: ts) = x + y.w + sumW ts := by unfold sumW; rw [List.map_cons, List.sum_cons]; omega
    rw [e]
    show padL x (W - x - y.w) y.L ++ corL W (x + y.w) (ts ++ [z]) = padL x (W - x - y.w) y.L ++ corL W (x + y.w) ts ++ _
    rw [corL_app W (x + y.w) ts z, List.append_assoc]
theorem corL_len (W : Nat) : ∀ (x : Nat) (ts : List Tb), (∀ z ∈ ts, z.L.length = z.t) → (corL W x ts).length = sumT ts
  | _, [], _ => rfl
  | x, z :: ts, h => by
    show (padL x (W - x - z.w) z.L ++ corL W (x + z.w) ts).length = _
    rw [List.length_append, corL_len W (x + z.w) ts fun y m => h y (List.mem_cons_of_mem _ m)]
    unfold padL sumT
    rw [List.length_map, h z (List.mem_cons_self ..), List.map_cons, List.sum_cons]
theorem corL_mem (W : Nat) : ∀ (x : Nat) (ts : List Tb) (l : List Int), l ∈ corL W x ts → x + sumW ts = W → (∀ z ∈ ts, ∀ r ∈ z.L, r.length = z.w) → ∃ z ∈ ts, ∃ r ∈ z.L, l.length = W ∧ ∀ i ∈ l, i = 0 ∨ i ∈ r
  | _, [], l, h, _, _ => by cases h
  | x, z :: ts, l, h, e, hw => by
    have e2 : sumW (z :: ts) = z.w + sumW ts := by unfold sumW; rw [List.map_cons, List.sum_cons]
    rcases List.mem_append.mp (show l ∈ padL x (W - x - z.w) z.L ++ corL W (x + z.w) ts from h) with h | h
    · unfold padL at h
      obtain ⟨r, hr, rfl⟩ := List.mem_map.mp h
      refine ⟨z, List.mem_cons_self .., r, hr, ?_, fun i m => ?_⟩
      · rw [List.length_append, List.length_append, List.length_replicate, List.length_replicate, hw z (List.mem_cons_self ..) r hr]
        omega
      · rcases List.mem_append.mp m with m | m
        · rcases List.mem_append.mp m with m | m
          · exact .inl (List.eq_of_mem_replicate m)
          · exact .inr m
        · exact .inl (List.eq_of_mem_replicate m)
    · obtain ⟨y, my, r, hr, q1, q2⟩ := corL_mem W (x + z.w) ts l h (by omega) fun y m => hw y (List.mem_cons_of_mem _ m)
      exact ⟨y, List.mem_cons_of_mem _ my, r, hr, q1, q2⟩
theorem good_cor {CT : Addr} {H : Hp} {ts : List Tb} {p : Int} (hp : p ∈ primes) (h : TsAt CT H ts) (ep : ∀ y ∈ ts, y.p = p) (t60 : sumT ts ≤ 60) (w60 : sumW ts ≤ 60) : GoodT p (sumT ts) (sumW ts) (corL (sumW ts) 0 ts) where
  pr := hp
  t60 := t60
  w60 := w60
  len := corL_len _ _ _ fun z m => (h z m).2.len
  wid := fun l m => by
    obtain ⟨_, _, _, _, e, _⟩ := corL_mem _ 0 ts l m (by omega) fun z mz => (h z mz).2.wid
    exact e
  mod := fun l m i mi => by
    obtain ⟨z, mz, r, hr, _, q⟩ := corL_mem _ 0 ts l m (by omega) fun z mz => (h z mz).2.wid
    have hp2 := prime_pos hp
    rcases q i mi with rfl | q
    · omega
    · have := (h z mz).2.mod r hr i q
      rw [ep z mz] at this
      exact this
section
variable {P : Program} {w : World} {K : PySem.W.Frag} {mg : Str → Option Value} {base : Heap} {CT CP CB : Addr}
theorem ok_corner {f fA : Addr} {fd fdA : FuncData} (F : Fun K "corner" "corner" sCorner f fd) (G : Pg P w K mg base CT CP CB) (GA : FnOk P w K mg base (L2.CX P w) 5 fA fdA ["tables"] (spChkTs K CT CB)) (bA : L2.Binds K fdA ["tables"] []) (gA : mg "_check_tables" = some (.ref fA)) (kA : PySem.W.keepIn K (.ref fA) = true)
    (mSum : mg "sum" = none) (mLen : mg "len" = none) (mList : mg "list" = none) : FnOk P w K mg base (L2.CX P w) 6 f fd ["tables"] (spCorner K CT CB) := by
  refine F.okX scCorner (fun vs H Q E h => ?_) (fun cdv A outer s H vs Q E hr h => ?_)
  · obtain ⟨x, o, rfl, _⟩ := h
    rfl
  · obtain ⟨x, o, rfl, hx, h⟩ := h
    have nd := scCorner.nd
    have T := G.T
    refine ⟨_, pss_cons (ps_expr (pe_call GA hr (by rfl) gA kA bA .nil (passes_call (takes_of rfl rfl rfl rfl) fun _ _ _ _ h => h) (pa_cons (pv 0) pa_nil)))
      (pss_cons (ps_set (i := 2) nd rfl (Or.inl rfl) (pe_callB (cr_sum (by rfl)) (by rfl) mSum (by decide +kernel) (pa_cons
          (pe_lc (own := [("table", 1)]) (g := gName 1) (by rfl) nd (pi_seq (pv 0)) (blkOk_by (own := [("table", 1)]) (N := ["tables", "table", "wide", "lines", "ahead", "behind", "line"]) (sc := defScope sCorner) (by decide +kernel)) (fun _ _ _ _ _ => pg_name (i := 1) nd rfl (Or.inl rfl)) (fun _ _ _ _ _ => pts_nil)
            (fun _ _ _ _ _ => show PE _ _ (tFld K (tVar 1) "wide") from pe_fld (pv 1) rfl)) pa_nil)))
      (pss_cons (ps_set (i := 3) nd rfl (Or.inl rfl) (pe_lst pa_nil))
      (pss_cons (ps_set (i := 4) nd rfl (Or.inr rfl) pe_int)
      (pss_cons (ps_for (passes_of rfl) rfl (pi_seq (pv 0)) (pg_name (i := 1) nd rfl (Or.inl rfl))
        (pss_cons (ps_set (i := 5) nd rfl (Or.inr rfl) (pe_op op_subK (pe_op op_sub (pv 2) (pv 4)) (pe_fld (pv 1) rfl)))
        (pss_cons (ps_set (i := 3) nd rfl (Or.inl rfl) (pe_op op_cat (pv 3)
            (pe_lc (own := [("line", 6)]) (g := gName 6) (by rfl) nd (pi_seq (pe_fld (pv 1) rfl)) (blkOk_by (own := [("line", 6)]) (N := ["tables", "table", "wide", "lines", "ahead", "behind", "line"]) (sc := defScope sCorner) (by decide +kernel)) (fun _ _ _ _ _ => pg_name (i := 6) nd rfl (Or.inl rfl)) (fun _ _ _ _ _ => pts_nil)
              (fun _ _ _ _ _ => pe_op op_cat (pe_op op_cat (pe_op op_rep (pe_lst (pa_cons pe_int pa_nil)) (pv 4)) (pe_callTy (show CallR _ _ (fun xs H Q => ∃ p ys, xs = [.ref p] ∧ (SqL K H p ys ∨ SqT K H p ys) ∧ ∀ l, H l = none → Q (.ref l) (upd H l (.lst ys))) from call_list_of) (by rfl) mList (by decide +kernel) (pa_cons (pv 6) pa_nil))) (pe_op op_rep (pe_lst (pa_cons pe_int pa_nil)) (pv 5))))))
        (pss_one (ps_aug (i := 4) nd rfl (Or.inr rfl) (pe_fld (pv 1) rfl) ip_add)))))
      (pss_one (ps_ret (pe_make G.m G.ok hr (by rfl) T.t.g G.b .nil (passes_call (takes_of rfl rfl rfl rfl) fun _ _ _ _ h => h) (pa_cons (pe_fld (pe_ix (show IxR _ (rIx K) from ix_seq) (pv 0) pe_int (fun _ _ => rfl)) rfl) (pa_cons (pe_callB call_len_seq (by rfl) mLen PySem.boot_len (pa_cons (pv 3) pa_nil)) (pa_cons (pv 2) (pa_cons (pv 3) pa_nil))))))))))), ?_⟩
    rcases h with ⟨rfl, hR⟩ | ⟨z, ts, rfl, st, sw, h⟩
    · exact ⟨_, rfl, x, _, rfl, hx, .inl ⟨rfl, hR⟩⟩
    obtain ⟨a, rfl, hs, hts, hl⟩ := tsj_inv hx
    refine ⟨_, rfl, _, _, rfl, hx, .inr ⟨z, ts, rfl, ?_⟩⟩
    by_cases ep : ∀ y ∈ ts, y.p = z.p
    rotate_left
    · rcases h with ⟨_, hR⟩ | ⟨e, _⟩
      · exact .inl ⟨ep, hR⟩
      · exact absurd e ep
    refine .inr ⟨ep, fun H1 s1 => ?_⟩
    have hz := (hts z (List.mem_cons_self ..))
    have epa : ∀ y ∈ z :: ts, y.p = z.p := fun y m => by
      rcases List.mem_cons.mp m with rfl | m
      · rfl
      · exact ep y m
    refine ⟨_, rfl, a, _, rfl, hs.same s1, fun J2 hJ2 D2 nD2 => ?_⟩
    refine lc_seq hJ2 (fun i He => He D2 = some (.lst ((((z :: ts).map fun y => ((y.w : Nat) : Int)).take i).map V.int)) ∧ Same H1 He) ⟨upd_same, same_upd nD2⟩ (fun j He _ hh => .of hh.2) ?_ ?_
    · rintro i x He hi ⟨eD2, se⟩
      obtain ⟨z2, hz2, rfl⟩ := tv_inv hi
      have hm := hts z2 (List.mem_of_getElem? hz2)
      have hil := (List.getElem?_eq_some_iff.mp hz2).1
      rw [List.length_cons] at hil
      obtain ⟨dx, b, e⟩ := tab_fld (hm.1.same (s1.trans se))
      refine ⟨rfl, ?_⟩
      dsimp only [tYes]
      refine iteT ?_
      refine ⟨_, rfl, z2.a, CT, dx, _, _, rfl, e, T.t.cl, T.t.nW, rfl, _, eD2, small_2000 (by rw [List.length_map, List.length_take]; omega), ?_, same_put se nD2⟩
      rw [upd_same, List.take_add_one, List.getElem?_map, hz2, List.map_append]
      rfl
    rintro He ⟨eD2, se⟩
    rw [List.take_of_length_le (by rw [List.length_map, tv_len]; exact Nat.le_refl _)] at eD2
    have sHe := s1.trans se
    refine ⟨D2, _, rfl, SqL.of eD2, ?_⟩
    rw [sum_nat (fun y : Tb => y.w)]
    rw [show (List.map (fun y : Tb => y.w) (z :: ts)).sum = sumW (z :: ts) from rfl]
    refine ⟨Nat.zero_le _, fun q nq => ?_⟩
    obtain ⟨W, hW⟩ : ∃ W, W = sumW (z :: ts) := ⟨_, rfl⟩
    rw [← hW]
    have sq := sHe.trans (same_upd (o := .lst []) nq)
    have eq : (upd He q (.lst [])) q = some (.lst []) := upd_same
    generalize upd He q (.lst []) = H2 at sq eq
    refine ⟨_, rfl, a, _, rfl, hs.same sq, fun J hJ => ?_⟩
    refine for_seq hJ (fun i σ Hx => ∃ (v1 v5 v6 : Option V) (q : Addr) (ws : Rs), σ = [some (.ref a), v1, some (.int W), some (.ref q), some (.int (sumW ((z :: ts).take i) : Nat)), v5, v6] ∧ rn ws = corL W 0 ((z :: ts).take i) ∧ RL Hx ws ∧ Hx q = some (.lst (rv ws)) ∧ Same H2 Hx)
      ⟨_, _, _, q, [], rfl, rfl, fun z m => by simp at m, eq, Same.refl _⟩ (fun i σ Hx _ hh => by obtain ⟨_, _, _, _, _, _, _, _, _, s⟩ := hh; exact .of s) ?_ ?_
    · rintro i x σ Hx hi ⟨v1, v5, v6, q, ws, rfl, hw, pw, eq2, sx⟩
      obtain ⟨z2, hz2, rfl⟩ := tv_inv hi
      have hm := hts z2 (List.mem_of_getElem? hz2)
      have sHx := sq.trans sx
      obtain ⟨dx, b, us, e, eb, ru, hru⟩ := hm.1.same sHx
      have htk : (z :: ts).take (i + 1) = (z :: ts).take i ++ [z2] := by rw [List.take_add_one, hz2]; rfl
      have hsw : sumW ((z :: ts).take i) + z2.w ≤ W := by
        have := sumW_take (z :: ts) (i + 1)
        rw [htk, sumW_app] at this
        omega
      have hst : sumT ((z :: ts).take i) + z2.t ≤ 1000 := by
        have := sumT_take (z :: ts) (i + 1)
        rw [htk, sumT_app] at this
        omega
      have hwl : ws.length = sumT ((z :: ts).take i) := by
        rw [← rn_len, hw]
        exact corL_len _ _ _ fun y m => (hts y (List.mem_of_mem_take m)).2.len
      have hul : us.length = z2.t := by rw [← rn_len, hru]; exact hm.2.len
      obtain ⟨X, hX⟩ : ∃ X, X = sumW ((z :: ts).take i) := ⟨_, rfl⟩
      rw [← hX] at hsw
      rw [← hX]
      obtain ⟨Y, hY⟩ : ∃ Y, Y = W - X - z2.w := ⟨_, rfl⟩
      have hYi : (W : Int) - (X : Int) - (z2.w : Int) = (Y : Int) := by omega
      have w1000 : W ≤ 1000 := by omega
      refine ⟨_, rfl, _, rfl, _, _, rfl, rfl, _, rfl, z2.a, CT, dx, _, _, rfl, e, T.t.cl, T.t.nW, rfl, _, _, (Y : Int), rfl, rfl, hYi, ?_⟩
      refine ⟨_, rfl, _, rfl, z2.a, CT, dx, _, _, rfl, e, T.t.cl, T.t.nL, rfl, b, rv us, rfl, .inr (.inl (.inl eb)), fun J3 hJ3 D nD => ?_⟩
      refine lc_seq hJ3 (fun j Hd => ∃ ps : Rs, rn ps = (padL X Y (rn us)).take j ∧ RL Hd ps ∧ Hd D = some (.lst (rv ps)) ∧ (∀ y ∈ ps, y.1 ≠ D) ∧ Same Hx Hd) ⟨[], rfl, fun z m => by simp at m, upd_same, fun z m => by simp at m, same_upd nD⟩ (fun j Hd _ hh => by obtain ⟨_, _, _, _, _, s⟩ := hh; exact .of s) ?_ ?_
      · rintro j y Hd hj ⟨ps, hp, pp, eD, nw, sd⟩
        obtain ⟨⟨r, l⟩, hr, rfl⟩ := rv_inv hj
        have hrm : (r, l) ∈ us := List.mem_of_getElem? hr
        have hjl : j < us.length := (List.getElem?_eq_some_iff.mp hr).1
        have hll : l.length = z2.w := hm.2.wid l (by rw [← hru]; exact List.mem_map.mpr ⟨_, hrm, rfl⟩)
        have hpl : ps.length ≤ j := by
          have := congrArg List.length hp
          rw [rn_len, List.length_take] at this
          omega
        have erd := sd _ _ (ru _ hrm)
        refine ⟨rfl, ?_⟩
        dsimp only [tYes]
        refine iteT ?_
        refine ⟨by show 1 ≤ sizeLine; decide, fun q0 n0 => ⟨_, rfl, q0, (X : Int), [.int 0], rfl, rfl, upd_same, by omega, by omega, by rw [Int.toNat_natCast]; exact Nat.le_of_lt (small_2000 (by show 1 * _ ≤ 2000; omega)), fun q1 n1 => ?_⟩⟩
        rw [Int.toNat_natCast, rep1]
        have sa : Same Hd (upd (upd Hd q0 (.lst [.int 0])) q1 (.lst (List.replicate X (V.int 0)))) := (same_upd n0).trans (same_upd n1)
        have ea : (upd (upd Hd q0 (.lst [.int 0])) q1 (.lst (List.replicate X (V.int 0)))) q1 = some (.lst (List.replicate X (V.int 0))) := upd_same
        generalize upd (upd Hd q0 (.lst [.int 0])) q1 (.lst (List.replicate X (V.int 0))) = Ha at sa ea
        refine ⟨_, rfl, r, l.map V.int, rfl, .inr (.inl (.inl (sa _ _ erd))), fun q2 n2 => ?_⟩
        have n12 : q1 ≠ q2 := fun z => by rw [z, n2] at ea; cases ea
        refine ⟨q1, q2, _, _, rfl, rfl, same_upd n2 _ _ ea, upd_same, Nat.le_of_lt (small_2000 (by rw [List.length_replicate, List.length_map]; omega)), fun q3 n3 => ?_⟩
        have sb : Same Hd (upd (upd Ha q2 (.lst (l.map V.int))) q3 (.lst (List.replicate X (V.int 0) ++ l.map V.int))) := (sa.trans (same_upd n2)).trans (same_upd n3)
        have eb3 : (upd (upd Ha q2 (.lst (l.map V.int))) q3 (.lst (List.replicate X (V.int 0) ++ l.map V.int))) q3 = some (.lst (List.replicate X (V.int 0) ++ l.map V.int)) := upd_same
        generalize upd (upd Ha q2 (.lst (l.map V.int))) q3 (.lst (List.replicate X (V.int 0) ++ l.map V.int)) = Hb at sb eb3
        refine ⟨by show 1 ≤ sizeLine; decide, fun q4 n4 => ⟨_, rfl, q4, (Y : Int), [.int 0], rfl, rfl, upd_same, by omega, by omega, by rw [Int.toNat_natCast]; exact Nat.le_of_lt (small_2000 (by show 1 * _ ≤ 2000; omega)), fun q5 n5 => ?_⟩⟩
        rw [Int.toNat_natCast, rep1]
        have sc : Same Hb (upd (upd Hb q4 (.lst [.int 0])) q5 (.lst (List.replicate Y (V.int 0)))) := (same_upd n4).trans (same_upd n5)
        have ec : (upd (upd Hb q4 (.lst [.int 0])) q5 (.lst (List.replicate Y (V.int 0)))) q5 = some (.lst (List.replicate Y (V.int 0))) := upd_same
        generalize upd (upd Hb q4 (.lst [.int 0])) q5 (.lst (List.replicate Y (V.int 0))) = Hc at sc ec
        refine ⟨q3, q5, _, _, rfl, rfl, sc _ _ eb3, ec, Nat.le_of_lt (small_2000 (by rw [List.length_append, List.length_replicate, List.length_replicate, List.length_map]; omega)), fun q6 n6 => ?_⟩
        have sc2 := (sb.trans sc).trans (same_upd (o := .lst (List.replicate X (V.int 0) ++ l.map V.int ++ List.replicate Y (V.int 0))) n6)
        have e6 : (upd Hc q6 (.lst (List.replicate X (V.int 0) ++ l.map V.int ++ List.replicate Y (V.int 0)))) q6 = some (.lst ((List.replicate X 0 ++ l ++ List.replicate Y 0).map V.int)) := by
          rw [upd_same, List.map_append, List.map_append, List.map_replicate, List.map_replicate]
        have n6D : q6 ≠ D := fun z => by rw [z, sc _ _ (sb _ _ eD)] at n6; cases n6
        generalize upd Hc q6 (.lst (List.replicate X (V.int 0) ++ l.map V.int ++ List.replicate Y (V.int 0))) = Hf at sc2 e6
        obtain ⟨p1, p2⟩ := rl_add (o := .lst (rv ps ++ [.ref q6])) (fun z m => sc2 _ _ (pp z m)) nw e6 n6D
        refine ⟨_, sc2 _ _ eD, small_2000 (by rw [rv_len]; omega), ps ++ [(q6, List.replicate X 0 ++ l ++ List.replicate Y 0)], ?_, p1, by rw [upd_same, rv_app], p2, same_put (sd.trans sc2) nD⟩
        rw [rn_app, hp, List.take_add_one]
        unfold padL rn
        rw [List.getElem?_map, List.getElem?_map, hr]
        rfl
      · rintro Hd ⟨ps, hp, pp, eD, nw, sd⟩
        have hpl : ps.length = us.length := by
          have := congrArg List.length hp
          unfold padL at this
          rw [rn_len, List.length_take, List.length_map, rn_len, rv_len, Nat.min_self] at this
          exact this
        rw [List.take_of_length_le (by unfold padL; rw [List.length_map, rn_len, rv_len]; exact Nat.le_refl _)] at hp
        refine ⟨q, D, _, _, rfl, rfl, sd _ _ eq2, eD, Nat.le_of_lt (small_2000 (by rw [rv_len, rv_len]; omega)), fun q7 n7 => ?_⟩
        have s7 : Same Hd (upd Hd q7 (.lst (rv ws ++ rv ps))) := same_upd n7
        have e7 : (upd Hd q7 (.lst (rv ws ++ rv ps))) q7 = some (.lst (rv (ws ++ ps))) := by
          rw [upd_same]
          unfold rv
          rw [List.map_append]
        generalize upd Hd q7 (.lst (rv ws ++ rv ps)) = Hg at s7 e7
        refine ⟨_, rfl, _, rfl, z2.a, CT, dx, _, _, rfl, s7 _ _ (sd _ _ e), T.t.cl, T.t.nW, rfl, _, _, rfl, rfl, ?_⟩
        refine ⟨some (.ref z2.a), some (.int Y), v6, q7, ws ++ ps, ?_, ?_, fun y m => ?_, e7, (sx.trans sd).trans s7⟩
        · rw [htk, sumW_app, ← hX]
          rfl
        · rw [htk, corL_app, ← hw, Nat.zero_add, ← hX, ← hY, ← hru, ← hp]
          unfold rn
          rw [List.map_append]
        · rcases List.mem_append.mp m with m | m
          · exact s7 _ _ (sd _ _ (pw y m))
          · exact s7 _ _ (pp y m)
    · rintro σ Hx ⟨v1, v5, v6, q, ws, rfl, hw, pw, eq2, sx⟩
      rw [List.take_of_length_le (by rw [tv_len]; exact Nat.le_refl _)] at hw
      have sHx := sq.trans sx
      have hwl : ws.length = sumT (z :: ts) := by
        rw [← rn_len, hw]
        exact corL_len _ _ _ fun y m => (hts y m).2.len
      obtain ⟨dx0, b0, e0⟩ := tab_fld (hz.1.same sHx)
      refine ⟨_, rfl, ix_fst (hs.same sHx) ?_⟩
      refine ⟨z.a, CT, dx0, _, _, rfl, e0, T.t.cl, T.t.nP, rfl, _, rfl, q, _, rfl, .inl (SqL.of eq2), _, rfl, _, rfl, fun x dx nx ndx ne => ?_⟩
      rw [rv_len, hwl]
      by_cases t60 : sumT (z :: ts) ≤ 60 ∧ W ≤ 60
      · rcases h with ⟨n, _⟩ | ⟨_, _, _, k⟩
        · exact absurd ⟨ep, t60.1, by omega⟩ n
        have gO := good_cor hz.2.pr hts epa t60.1 (by omega)
        rw [hW]
        rw [hW] at hw
        refine mkt_good nx ndx ne hz.2.pr t60.1 (by omega) (L := rn ws) (lnj_of (.inl (SqL.of eq2)) pw.ra hwl (by rw [hw]; exact gO.wid)) fun H3 hT s2 => ⟨rfl, ?_⟩
        rw [hw, modT_id gO] at hT
        exact k x H3 hT (sHx.trans s2)
      · refine mkt_sp nx ndx ne (.int z.p) (.inr ⟨z.p, rfl, hz.2.pr, .int (sumT (z :: ts)), .int W, .inl ⟨?_, ?_⟩⟩)
        · unfold szO
          dsimp only
          by_cases c : sumT (z :: ts) ≤ 60
          · exact .inr (by rw [if_neg (by omega)])
          · exact .inl (by rw [if_neg (by omega)])
        · rcases h with ⟨_, hR⟩ | ⟨_, c, c2, _⟩
          · exact hR.same sHx
          · exact absurd ⟨c, by omega⟩ t60
end
end K01


set_option Elab.async false
set_option maxRecDepth 100000
set_option maxHeartbeats 4000000
set_option linter.all false
namespace K01
open PySem PySem.Spec PyProof.Rows L2
abbrev sTurned : Stmt := top 44
abbrev sRests : Stmt := top 45
theorem scTurned : FnScope ["some", "wide", "line_here", "k"] ["some", "wide"] (defScope sTurned) := ⟨rfl, rfl, rfl, by decide +kernel, rfl, by decide +kernel, by decide +kernel⟩
theorem scRests : FnScope ["field", "some", "item", "line_here"] ["field", "some"] (defScope sRests) := ⟨rfl, rfl, rfl, by decide +kernel, rfl, by decide +kernel, by decide +kernel⟩
/-- lists that stand anew: their rows, too -/
def NewL (H : Hp) (L : List (List Int)) (D : Addr) (zs : Rs) (H' : Hp) : Prop := H' D = some (.lst (rv zs)) ∧ RL H' zs ∧ rn zs = L ∧ H D = none ∧ (∀ z ∈ zs, H z.1 = none ∧ z.1 ≠ D) ∧ Same H H'
theorem new_row {H He : Hp} {ws : Rs} {D D2 : Addr} {l : List Int} (s : Same H He) (nw : ∀ z ∈ ws, H z.1 = none ∧ z.1 ≠ D) (n : He D2 = none) (ne : D2 ≠ D) : ∀ z ∈ ws ++ [(D2, l)], H z.1 = none ∧ z.1 ≠ D := fun z m => by
  rcases List.mem_append.mp m with m | m
  · exact nw z m
  · rw [List.mem_singleton] at m
    subst m
    refine ⟨?_, ne⟩
    cases q : H D2 with
    | none => rfl
    | some o => rw [s _ _ q] at n; cases n
def spRests (K : PySem.W.Frag) : Sp := fun vs H Q _ => ∃ (p : Int) (a : Addr) (us : Rs), vs = [.int p, .ref a] ∧ 0 < p ∧ SqA K H a (rv us) ∧ RA K H us ∧ us.length ≤ 1000 ∧ (∀ l ∈ rn us, l.length ≤ 1000) ∧ ∀ D zs H', NewL H (modT p (rn us)) D zs H' → Q (.ref D) H'
def spTurnL (K : PySem.W.Frag) : Sp := fun vs H Q _ => ∃ (a : Addr) (us : Rs) (w : Nat), vs = [.ref a, .int w] ∧ SqA K H a (rv us) ∧ RA K H us ∧ us.length ≤ 1000 ∧ w ≤ 1000 ∧ (∀ l ∈ rn us, w ≤ l.length) ∧ ∀ D zs H', NewL H (colsOf (rn us) w) D zs H' → Q (.ref D) H'
section
variable {P : Program} {w : World} {K : PySem.W.Frag} {mg : Str → Option Value} {base : Heap}
theorem ok_rests {f : Addr} {fd : FuncData} (F : Fun K "_law_rests" "_law_rests" sRests f fd) : FnOk P w K mg base CX0 1 f fd ["field", "some"] (spRests K) := by
  refine F.ok scRests (fun vs H Q E h => ?_) (fun cdv A outer s H vs Q E hr h => ?_)
  · obtain ⟨p, a, us, rfl, _⟩ := h
    rfl
  · obtain ⟨p, a, us, rfl, hp, hS, hA, hl, hw, k⟩ := h
    have nd := scRests.nd
    refine ⟨_, pss_one (ps_ret (pe_lc (own := [("line_here", 3)]) (g := gName 3) (by rfl) nd (pi_seq (pv 1)) (blkOk_by (own := [("line_here", 3)]) (N := ["field", "some", "item", "line_here"]) (sc := defScope sRests) (by decide +kernel)) (fun _ _ _ _ _ => pg_name (i := 3) nd rfl (Or.inl rfl)) (fun _ _ _ _ _ => pts_nil)
      (fun _ _ _ _ _ => pe_lc (own := [("item", 2)]) (g := gName 2) (by rfl) nd (show PI _ _ _ (iSeq K (tVar 3)) from pi_seq (pv 3)) (blkOk_by (own := [("item", 2)]) (N := ["field", "some", "item", "line_here"]) (by kernel_rfl)) (fun _ _ _ _ _ => pg_name (i := 2) nd rfl (Or.inl rfl)) (fun _ _ _ _ _ => pts_nil)
        (fun _ _ _ _ _ => pe_op op_mod (pv 2) (pv 0))))), ?_⟩
    refine ⟨_, rfl, a, rv us, rfl, hS, fun J hJ D nD => ?_⟩
    refine lc_seq hJ (fun j Hd => ∃ ws : Rs, rn ws = (modT p (rn us)).take j ∧ RL Hd ws ∧ Hd D = some (.lst (rv ws)) ∧ (∀ z ∈ ws, H z.1 = none ∧ z.1 ≠ D) ∧ Same H Hd) ⟨[], rfl, fun z m => by simp at m, upd_same, fun z m => by simp at m, same_upd nD⟩ (fun j Hd _ hh => by obtain ⟨_, _, _, _, _, s⟩ := hh; exact .of s) ?_ ?_
    · rintro j y Hd hj ⟨ws, hw2, pw, eD, nw, sd⟩
      obtain ⟨⟨r, l⟩, hz, rfl⟩ := rv_inv hj
      have hzm : (r, l) ∈ us := List.mem_of_getElem? hz
      have hjl : j < us.length := (List.getElem?_eq_some_iff.mp hz).1
      have hll : l.length ≤ 1000 := hw l (List.mem_map.mpr ⟨_, hzm, rfl⟩)
      have hwsl : ws.length ≤ j := by
        have := congrArg List.length hw2
        rw [rn_len, List.length_take] at this
        omega
      refine ⟨rfl, ?_⟩
      dsimp only [tYes]
      refine iteT ?_
      refine ⟨_, rfl, r, l.map V.int, rfl, (hA _ hzm).same sd, fun J2 hJ2 D2 nD2 => ?_⟩
      refine lc_seq hJ2 (fun m He => He D2 = some (.lst (((l.map (· % p)).take m).map V.int)) ∧ Same Hd He) ⟨upd_same, same_upd nD2⟩ (fun m He _ hh => .of hh.2) ?_ ?_
      · rintro m y He hi ⟨eD2, se⟩
        obtain ⟨n, hn, rfl⟩ := map_inv hi
        have hil : m < l.length := (List.getElem?_eq_some_iff.mp hn).1
        refine ⟨rfl, ?_⟩
        dsimp only [tYes]
        refine iteT ?_
        refine ⟨_, rfl, _, rfl, n, p, rfl, rfl, hp, _, eD2, small_2000 (by rw [List.length_map, List.length_take]; omega), ?_, same_put se nD2⟩
        rw [upd_same, List.take_add_one, List.getElem?_map, hn, List.map_append]
        rfl
      · rintro He ⟨eD2, se⟩
        rw [List.length_map, List.take_of_length_le (by rw [List.length_map]; exact Nat.le_refl _)] at eD2
        have nDD : D2 ≠ D := fun z => by rw [z, eD] at nD2; cases nD2
        obtain ⟨q1, _⟩ := rl_add (o := .lst (rv ws ++ [.ref D2])) (fun z m => se _ _ (pw z m)) (fun z m => (nw z m).2) eD2 nDD
        refine ⟨_, se _ _ eD, small_2000 (by rw [rv_len]; omega), ws ++ [(D2, l.map (· % p))], ?_, q1, by rw [upd_same, rv_app], new_row sd nw nD2 nDD, same_put (sd.trans se) nD⟩
        rw [rn_app, hw2, List.take_add_one]
        unfold modT rn
        rw [List.getElem?_map, List.getElem?_map, hz]
        rfl
    · rintro Hd ⟨ws, hw2, pw, eD, nw, sd⟩
      rw [List.take_of_length_le (by unfold modT; rw [List.length_map, rn_len, rv_len]; exact Nat.le_refl _)] at hw2
      exact k D ws Hd ⟨eD, pw, hw2, nD, nw, sd⟩
theorem ok_turned {f : Addr} {fd : FuncData} (F : Fun K "_law_turned" "_law_turned" sTurned f fd) (mRa : mg "range" = none) : FnOk P w K mg base CX0 1 f fd ["some", "wide"] (spTurnL K) := by
  refine F.ok scTurned (fun vs H Q E h => ?_) (fun cdv A outer s H vs Q E hr h => ?_)
  · obtain ⟨a, us, wd, rfl, _⟩ := h
    rfl
  · obtain ⟨a, us, wd, rfl, hS, hA, hl, hw, hL, k⟩ := h
    have nd := scTurned.nd
    refine ⟨_, pss_one (ps_ret (pe_lc (own := [("k", 3)]) (g := gName 3) (by rfl) nd (pi_range1 (by rfl) mRa (pa_cons (pv 1) pa_nil)) (blkOk_by (own := [("k", 3)]) (N := ["some", "wide", "line_here", "k"]) (sc := defScope sTurned) (by decide +kernel)) (fun _ _ _ _ _ => pg_name (i := 3) nd rfl (Or.inr rfl)) (fun _ _ _ _ _ => pts_nil)
      (fun _ _ _ _ _ => pe_lc (own := [("line_here", 2)]) (g := gName 2) (by rfl) nd (show PI _ _ _ (iSeq K (tVar 0)) from pi_seq (pv 0)) (blkOk_by (own := [("line_here", 2)]) (N := ["some", "wide", "line_here", "k"]) (by kernel_rfl)) (fun _ _ _ _ _ => pg_name (i := 2) nd rfl (Or.inl rfl)) (fun _ _ _ _ _ => pts_nil)
        (fun _ _ _ _ _ => pe_ix (show IxR _ (rIx K) from ix_seq) (pv 2) (pv 3) (fun _ _ => rfl))))), ?_⟩
    refine ⟨_, rfl, wd, rfl, by omega, by omega, fun D nD => ?_⟩
    rw [Int.toNat_natCast]
    refine lc_range (lo := 0) (n := wd) (fun k Hd => ∃ ws : Rs, rn ws = (colsOf (rn us) wd).take k ∧ RL Hd ws ∧ Hd D = some (.lst (rv ws)) ∧ (∀ z ∈ ws, H z.1 = none ∧ z.1 ≠ D) ∧ Same H Hd) ⟨[], rfl, fun z m => by simp at m, upd_same, fun z m => by simp at m, same_upd nD⟩ ?_ ?_
    · rintro k Hd hk ⟨ws, hw2, pw, eD, nw, sd⟩
      have hwsl : ws.length ≤ k := by
        have := congrArg List.length hw2
        rw [rn_len, List.length_take] at this
        omega
      refine ⟨rfl, ?_⟩
      dsimp only [tYes]
      refine iteT ?_
      refine ⟨_, rfl, a, rv us, rfl, hS.same sd, fun J2 hJ2 D2 nD2 => ?_⟩
      refine lc_seq hJ2 (fun i He => He D2 = some (.lst ((colOf ((rn us).take i) k).map V.int)) ∧ Same Hd He) ⟨upd_same, same_upd nD2⟩ (fun i He _ hh => .of hh.2) ?_ ?_
      · rintro i y He hi ⟨eD2, se⟩
        obtain ⟨⟨r, l⟩, hz, rfl⟩ := rv_inv hi
        have hzm : (r, l) ∈ us := List.mem_of_getElem? hz
        have hil : i < us.length := (List.getElem?_eq_some_iff.mp hz).1
        have hll : wd ≤ l.length := hL l (List.mem_map.mpr ⟨_, hzm, rfl⟩)
        refine ⟨rfl, ?_⟩
        dsimp only [tYes]
        refine iteT ?_
        have hat : atI (l.map V.int) ((0 : Int) + (k : Nat)) = some (.int (l.getD k 0)) := by
          rw [Int.zero_add]
          refine atI_nat ?_
          rw [List.getElem?_map, List.getElem?_eq_getElem (by omega)]
          rw [List.getD_eq_getElem?_getD, List.getElem?_eq_getElem (by omega)]
          rfl
        have fin : ∃ acc, He D2 = some (.lst acc) ∧ acc.length < sizeLine ∧ ((upd He D2 (.lst (acc ++ [.int (l.getD k 0)]))) D2 = some (.lst ((colOf ((rn us).take (i + 1)) k).map V.int)) ∧ Same Hd (upd He D2 (.lst (acc ++ [.int (l.getD k 0)])))) := by
          refine ⟨_, eD2, small_2000 (by rw [List.length_map]; unfold colOf; rw [List.length_map, List.length_take]; omega), ?_, same_put se nD2⟩
          rw [upd_same, List.take_add_one]
          unfold colOf
          rw [List.map_append, List.map_append]
          unfold rn
          rw [List.getElem?_map, hz]
          rfl
        rcases ((hA _ hzm).same sd).same se with q | q
        · exact ⟨_, rfl, _, rfl, .inl ⟨r, l.map V.int, _, _, rfl, rfl, q, hat, fin⟩⟩
        · exact ⟨_, rfl, _, rfl, .inr (.inl ⟨r, l.map V.int, _, _, rfl, rfl, q, hat, fin⟩)⟩
      · rintro He ⟨eD2, se⟩
        have hl2 : (rv us).length = (rn us).length := by rw [rv_len, rn_len]
        rw [hl2, List.take_length] at eD2
        have nDD : D2 ≠ D := fun z => by rw [z, eD] at nD2; cases nD2
        obtain ⟨q1, _⟩ := rl_add (o := .lst (rv ws ++ [.ref D2])) (fun z m => se _ _ (pw z m)) (fun z m => (nw z m).2) eD2 nDD
        refine ⟨_, se _ _ eD, small_2000 (by rw [rv_len]; omega), ws ++ [(D2, colOf (rn us) k)], ?_, q1, by rw [upd_same, rv_app], new_row sd nw nD2 nDD, same_put (sd.trans se) nD⟩
        rw [rn_app, hw2, List.take_add_one]
        unfold colsOf
        rw [List.getElem?_map, List.getElem?_range hk]
        rfl
    · rintro Hd ⟨ws, hw2, pw, eD, nw, sd⟩
      have hcl : (colsOf (rn us) wd).length = wd := by unfold colsOf; rw [List.length_map, List.length_range]
      rw [List.take_of_length_le (by omega)] at hw2
      exact k D ws Hd ⟨eD, pw, hw2, nD, nw, sd⟩
end
end K01


set_option Elab.async false
set_option maxRecDepth 100000
set_option maxHeartbeats 4000000
set_option linter.all false
namespace K01
open PySem PySem.Spec PyProof.Rows L2
abbrev sField : Stmt := top 36
abbrev sUnit : Stmt := top 39
abbrev sSizeL : Stmt := top 41
theorem scField : FnScope ["draw"] ["draw"] (defScope sField) := ⟨rfl, rfl, rfl, by decide +kernel, rfl, by decide +kernel, by decide +kernel⟩
theorem scSizeL : FnScope ["draw"] ["draw"] (defScope sSizeL) := ⟨rfl, rfl, rfl, by decide +kernel, rfl, by decide +kernel, by decide +kernel⟩
theorem scUnit : FnScope ["size", "spot", "k"] ["size"] (defScope sUnit) := ⟨rfl, rfl, rfl, by decide +kernel, rfl, by decide +kernel, by decide +kernel⟩
theorem draw_same {H H' : Hp} {d lg cl : Addr} (s : Same H H') (D : DrawAt H d lg cl) : DrawAt H' d lg cl := by
  obtain ⟨⟨r, t, hd⟩, ⟨L, hL, hl⟩, ⟨M, hM, hc⟩, ncl⟩ := D
  exact ⟨⟨r, t, s _ _ hd⟩, ⟨L, hL, s _ _ hl⟩, ⟨M, hM, s _ _ hc⟩, ncl⟩
theorem draw_put {H : Hp} {d lg cl p : Addr} {o : HO} (a : p ≠ d) (b : p ≠ lg) (c : p ≠ cl) (D : DrawAt H d lg cl) : DrawAt (upd H p o) d lg cl := by
  obtain ⟨⟨r, t, hd⟩, ⟨L, hL, hl⟩, ⟨M, hM, hc⟩, ncl⟩ := D
  exact ⟨⟨r, t, by rw [upd_ne a.symm]; exact hd⟩, ⟨L, hL, by rw [upd_ne b.symm]; exact hl⟩, ⟨M, hM, by rw [upd_ne c.symm]; exact hc⟩, ncl⟩
theorem draw_new {H : Hp} {d lg cl p : Addr} (D : DrawAt H d lg cl) (h : H p = none) : p ≠ d ∧ p ≠ lg ∧ p ≠ cl := by
  obtain ⟨⟨r, t, hd⟩, ⟨L, hL, hl⟩, ⟨M, hM, hc⟩, ncl⟩ := D
  exact ⟨fun e => (by rw [e, hd] at h; cases h), fun e => (by rw [e, hl] at h; cases h), fun e => (by rw [e, hc] at h; cases h)⟩
theorem kept_put {H Hx : Hp} {d lg p : Addr} {o : HO} (z : H p = none) (k : Kept d lg H Hx) : Kept d lg H (upd Hx p o) := fun b x e h1 h2 => by
  rw [upd_ne (ne_of_none e z)]
  exact k b x e h1 h2
/-- one of these numbers is drawn -/
def spOne (ns : List Int) : Sp := fun vs H Q _ => ∃ (d lg cl : Addr), vs = [.ref d] ∧ DrawAt H d lg cl ∧ ∀ (p : Int) (H' : Hp), p ∈ ns → DrawAt H' d lg cl → Kept d lg H H' → Q (.int p) H'
theorem one_pick {ns : List Int} {H : Hp} {d lg cl : Addr} {Q : VK} {E : XK} (D : DrawAt H d lg cl) (n0 : 0 < ns.length) (n1 : ns.length < 1000) (k : ∀ (p : Int) (H' : Hp), p ∈ ns → DrawAt H' d lg cl → Kept d lg H H' → Q (.int p) H') {q : Addr} (nq : H q = none) :
    spPick [.ref d, .ref q] (upd H q (.lst (ns.map V.int))) Q E := by
  refine ⟨d, lg, cl, q, ns.map V.int, rfl, draw_same (same_upd nq) D, upd_same, (draw_new D nq).2.1, by rw [List.length_map]; exact n0, by rw [List.length_map]; exact n1, fun i x H' hx D' k' => ?_⟩
  obtain ⟨p, hp, rfl⟩ := map_inv hx
  exact k p H' (List.mem_of_getElem? hp) D' fun b o e h1 h2 => k' b o (same_upd nq _ _ e) h1 h2
def spUnitL : Sp := fun vs H Q _ => ∃ n : Nat, vs = [.int n] ∧ n ≤ 1000 ∧ ∀ D zs H', NewL H (unitL n) D zs H' → Q (.ref D) H'
section
variable {P : Program} {w : World} {K : PySem.W.Frag} {mg : Str → Option Value} {base : Heap}
theorem ok_field {f fP : Addr} {fd fdP : FuncData} (F : Fun K "_law_field" "_law_field" sField f fd) (GP : FnOk P w K mg base CX0 3 fP fdP ["draw", "some"] spPick) (bP : L2.Binds K fdP ["draw", "some"] []) (gP : mg "_law_pick" = some (.ref fP)) (kP : PySem.W.keepIn K (.ref fP) = true) : FnOk P w K mg base CX0 4 f fd ["draw"] (spOne [2, 2, 2, 3, 3, 5, 7, 97]) := by
  refine F.ok scField (fun vs H Q E h => ?_) (fun cdv A outer s H vs Q E hr h => ?_)
  · obtain ⟨d, lg, cl, rfl, _⟩ := h
    rfl
  · obtain ⟨d, lg, cl, rfl, D, k⟩ := h
    have nd := scField.nd
    refine ⟨_, pss_one (ps_ret (pe_call GP hr (by rfl) gP kP bP .nil pass0 (pa_cons (pv 0) (pa_cons (pe_lst (pa_cons pe_int (pa_cons pe_int (pa_cons pe_int (pa_cons pe_int (pa_cons pe_int (pa_cons pe_int (pa_cons pe_int (pa_cons pe_int pa_nil))))))))) pa_nil)))), ?_⟩
    refine ⟨_, rfl, by show 8 ≤ sizeLine; decide, fun q nq => ?_⟩
    exact one_pick (E := fun _ _ _ => False) D (by decide) (by decide) k nq
theorem ok_sizel {f fP : Addr} {fd fdP : FuncData} (F : Fun K "_law_size" "_law_size" sSizeL f fd) (GP : FnOk P w K mg base CX0 3 fP fdP ["draw", "some"] spPick) (bP : L2.Binds K fdP ["draw", "some"] []) (gP : mg "_law_pick" = some (.ref fP)) (kP : PySem.W.keepIn K (.ref fP) = true) : FnOk P w K mg base CX0 4 f fd ["draw"] (spOne [0, 1, 1, 2, 2, 3, 4, 5]) := by
  refine F.ok scSizeL (fun vs H Q E h => ?_) (fun cdv A outer s H vs Q E hr h => ?_)
  · obtain ⟨d, lg, cl, rfl, _⟩ := h
    rfl
  · obtain ⟨d, lg, cl, rfl, D, k⟩ := h
    have nd := scSizeL.nd
    refine ⟨_, pss_one (ps_ret (pe_call GP hr (by rfl) gP kP bP .nil pass0 (pa_cons (pv 0) (pa_cons (pe_lst (pa_cons pe_int (pa_cons pe_int (pa_cons pe_int (pa_cons pe_int (pa_cons pe_int (pa_cons pe_int (pa_cons pe_int (pa_cons pe_int pa_nil))))))))) pa_nil)))), ?_⟩
    refine ⟨_, rfl, by show 8 ≤ sizeLine; decide, fun q nq => ?_⟩
    exact one_pick (E := fun _ _ _ => False) D (by decide) (by decide) k nq
theorem ok_unit {f : Addr} {fd : FuncData} (F : Fun K "_law_unit" "_law_unit" sUnit f fd) (mRa : mg "range" = none) (mInt : mg "int" = none) : FnOk P w K mg base CX0 1 f fd ["size"] spUnitL := by
  refine F.ok scUnit (fun vs H Q E h => ?_) (fun cdv A outer s H vs Q E hr h => ?_)
  · obtain ⟨n, rfl, _⟩ := h
    rfl
  · obtain ⟨n, rfl, hn, kk⟩ := h
    have nd := scUnit.nd
    refine ⟨_, pss_one (ps_ret (pe_lc (own := [("k", 2)]) (g := gName 2) (by rfl) nd (pi_range1 (by rfl) mRa (pa_cons (pv 0) pa_nil)) (blkOk_by (own := [("k", 2)]) (N := ["size", "spot", "k"]) (sc := defScope sUnit) (by decide +kernel)) (fun _ _ _ _ _ => pg_name (i := 2) nd rfl (Or.inr rfl)) (fun _ _ _ _ _ => pts_nil)
      (fun _ _ _ _ _ => pe_lc (own := [("spot", 1)]) (g := gName 1) (by rfl) nd (pi_range1 (by rfl) mRa (pa_cons (pv 0) pa_nil)) (blkOk_by (own := [("spot", 1)]) (N := ["size", "spot", "k"]) (by kernel_rfl)) (fun _ _ _ _ _ => pg_name (i := 1) nd rfl (Or.inl rfl)) (fun _ _ _ _ _ => pts_nil)
        (fun _ _ _ _ _ => pe_callTy (show CallR _ _ (fun xs H Q => (∃ i, xs = [.int i] ∧ Q (.int i) H) ∨ ∃ k, xs = [.bl k] ∧ Q (.int (if k then 1 else 0)) H) from call_int1) (by rfl) mInt (by decide +kernel) (pa_cons (pe_cmpR op_eq (pv 2) (pv 1) (nomark _)) pa_nil))))), ?_⟩
    refine ⟨_, rfl, n, rfl, by omega, by omega, fun D nD => ?_⟩
    rw [Int.toNat_natCast]
    refine lc_range (lo := 0) (n := n) (fun a Hd => ∃ ws : Rs, rn ws = (unitL n).take a ∧ RL Hd ws ∧ Hd D = some (.lst (rv ws)) ∧ (∀ z ∈ ws, H z.1 = none ∧ z.1 ≠ D) ∧ Same H Hd) ⟨[], rfl, fun z m => by simp at m, upd_same, fun z m => by simp at m, same_upd nD⟩ ?_ ?_
    · rintro a Hd ha ⟨ws, hw2, pw, eD, nw, sd⟩
      have hwsl : ws.length ≤ a := by
        have := congrArg List.length hw2
        rw [rn_len, List.length_take] at this
        omega
      refine ⟨rfl, ?_⟩
      dsimp only [tYes]
      refine iteT ?_
      refine ⟨_, rfl, n, rfl, by omega, by omega, fun D2 nD2 => ?_⟩
      rw [Int.toNat_natCast]
      refine lc_range (lo := 0) (n := n) (fun k He => He D2 = some (.lst (((unitRow n a).take k).map V.int)) ∧ Same Hd He) ⟨upd_same, same_upd nD2⟩ ?_ ?_
      · rintro k He hk ⟨eD2, se⟩
        refine ⟨rfl, ?_⟩
        dsimp only [tYes]
        refine iteT ?_
        refine ⟨_, rfl, _, rfl, rfl, .inr ⟨_, rfl, _, eD2, small_2000 (by rw [List.length_map, List.length_take]; unfold unitRow; rw [List.length_map, List.length_range]; omega), ?_, same_put se nD2⟩⟩
        rw [upd_same, List.take_add_one]
        unfold unitRow
        rw [List.getElem?_map, List.getElem?_range hk, List.map_append]
        have e : (if decide (V.int (0 + (a : Int)) = V.int (0 + (k : Int))) = true then (1 : Int) else 0) = if k = a then 1 else 0 := by
          by_cases c : k = a
          · rw [if_pos c, if_pos (decide_eq_true (by rw [c]))]
          · rw [if_neg c, if_neg (fun z => c (by have := V.int.inj (of_decide_eq_true z); omega))]
        rw [e]
        rfl
      · rintro He ⟨eD2, se⟩
        rw [List.take_of_length_le (by unfold unitRow; rw [List.length_map, List.length_range]; exact Nat.le_refl _)] at eD2
        have nDD : D2 ≠ D := fun z => by rw [z, eD] at nD2; cases nD2
        obtain ⟨q1, _⟩ := rl_add (o := .lst (rv ws ++ [.ref D2])) (fun z m => se _ _ (pw z m)) (fun z m => (nw z m).2) eD2 nDD
        refine ⟨_, se _ _ eD, small_2000 (by rw [rv_len]; omega), ws ++ [(D2, unitRow n a)], ?_, q1, by rw [upd_same, rv_app], new_row sd nw nD2 nDD, same_put (sd.trans se) nD⟩
        rw [rn_app, hw2, List.take_add_one]
        unfold unitL
        rw [List.getElem?_map, List.getElem?_range ha]
        rfl
    · rintro Hd ⟨ws, hw2, pw, eD, nw, sd⟩
      rw [List.take_of_length_le (by unfold unitL; rw [List.length_map, List.length_range]; exact Nat.le_refl _)] at hw2
      exact kk D ws Hd ⟨eD, pw, hw2, nD, nw, sd⟩
end
end K01


set_option Elab.async false
set_option maxRecDepth 100000
set_option maxHeartbeats 4000000
set_option linter.all false
namespace K01
open PySem PySem.Spec PyProof.Rows L2
abbrev sLists : Stmt := top 37
theorem scLists : FnScope ["draw", "field", "tall", "wide", "found", "down", "k"] ["draw", "field", "tall", "wide"] (defScope sLists) := ⟨rfl, rfl, rfl, by decide +kernel, rfl, by decide +kernel, by decide +kernel⟩
/-- new lists of numbers below p; the draw has gone on -/
structure NewD (d lg cl : Addr) (H : Hp) (t w : Nat) (b : Int → Prop) (D : Addr) (zs : Rs) (H' : Hp) : Prop where
  at_ : H' D = some (.lst (rv zs))
  rl : RL H' zs
  len : zs.length = t
  wid : ∀ l ∈ rn zs, l.length = w ∧ ∀ i ∈ l, b i
  nD : H D = none
  nz : ∀ z ∈ zs, H z.1 = none ∧ z.1 ≠ D
  dr : DrawAt H' d lg cl
  kp : Kept d lg H H'
def spLists : Sp := fun vs H Q _ => ∃ (d lg cl : Addr) (p : Int) (t w : Nat), vs = [.ref d, .int p, .int t, .int w] ∧ DrawAt H d lg cl ∧ 0 < p ∧ p < 1000000 ∧ t ≤ 1000 ∧ w ≤ 1000 ∧
  ∀ D zs H', NewD d lg cl H t w (fun i => 0 ≤ i ∧ i < p) D zs H' → Q (.ref D) H'
theorem kept_none {H Hx : Hp} {d lg p : Addr} (k : Kept d lg H Hx) (h1 : p ≠ d) (h2 : p ≠ lg) (z : Hx p = none) : H p = none := by
  cases e : H p with
  | none => rfl
  | some u => rw [k p u e h1 h2] at z; cases z
section
variable {P : Program} {w : World} {K : PySem.W.Frag} {mg : Str → Option Value} {base : Heap}
theorem ok_lists {f fT : Addr} {fd fdT : FuncData} (F : Fun K "_law_lists" "_law_lists" sLists f fd) (GT : FnOk P w K mg base CX0 2 fT fdT ["draw", "amount"] spTake) (bT : L2.Binds K fdT ["draw", "amount"] []) (gT : mg "_law_take" = some (.ref fT)) (kT : PySem.W.keepIn K (.ref fT) = true) (mRa : mg "range" = none) :
    FnOk P w K mg base CX0 3 f fd ["draw", "field", "tall", "wide"] spLists := by
  refine F.ok scLists (fun vs H Q E h => ?_) (fun cdv A outer s H vs Q E hr h => ?_)
  · obtain ⟨d, lg, cl, p, t, wd, rfl, _⟩ := h
    rfl
  · obtain ⟨d, lg, cl, p, t, wd, rfl, D, p0, p1, ht, hw, k⟩ := h
    have nd := scLists.nd
    refine ⟨_, pss_cons (ps_set (i := 4) nd rfl (Or.inl rfl) (pe_lst pa_nil))
      (pss_cons (ps_for PassesOwn.never rfl (pi_range1 (by rfl) mRa (pa_cons (pv 2) pa_nil)) (pg_name (i := 5) nd rfl (Or.inl rfl))
        (pss_one (ps_expr (pe_bm PySem.F.plainAttrs_list PySem.F.slot_list_append PySem.F.type_list_append mt_append (pv 4) (pa_cons
          (pe_lc (own := [("k", 6)]) (g := gName 6) (by rfl) nd (pi_range1 (by rfl) mRa (pa_cons (pv 3) pa_nil)) (blkOk_by (own := [("k", 6)]) (N := ["draw", "field", "tall", "wide", "found", "down", "k"]) (sc := defScope sLists) (by decide +kernel)) (fun _ _ _ _ _ => pg_name (i := 6) nd rfl (Or.inl rfl)) (fun _ _ _ _ _ => pts_nil)
            (fun _ _ _ _ _ => pe_ifExp (pt_cmpR op_eq (pe_call GT hr (by rfl) gT kT bT .nil pass0 (pa_cons (pv 0) (pa_cons pe_int pa_nil))) pe_int (nomark _)) pe_int (pe_call GT hr (by rfl) gT kT bT .nil pass0 (pa_cons (pv 0) (pa_cons (pv 1) pa_nil))))) pa_nil)))))
      (pss_one (ps_ret (pv 4)))), ?_⟩
    refine ⟨Nat.zero_le _, fun fo nf => ?_⟩
    obtain ⟨fd', flg, fcl⟩ := draw_new D nf
    refine ⟨_, rfl, t, rfl, by omega, by omega, ?_⟩
    rw [Int.toNat_natCast]
    refine for_range (lo := 0) (n := t) (fun i σ Hx => ∃ (ws : Rs) (v5 : Option V), σ = [some (.ref d), some (.int p), some (.int t), some (.int wd), some (.ref fo), v5, none] ∧ ws.length = i ∧ (∀ l ∈ rn ws, l.length = wd ∧ ∀ i ∈ l, 0 ≤ i ∧ i < p) ∧ RL Hx ws ∧ Hx fo = some (.lst (rv ws)) ∧ (∀ z ∈ ws, H z.1 = none ∧ z.1 ≠ fo ∧ z.1 ≠ d ∧ z.1 ≠ lg) ∧ DrawAt Hx d lg cl ∧ Kept d lg H Hx)
      ⟨[], none, rfl, rfl, fun l m => by simp [rn] at m, fun z m => by simp at m, upd_same, fun z m => by simp at m, draw_put fd' flg fcl D, kept_put nf Kept.refl⟩ ?_ ?_
    · rintro i σ Hx hi ⟨ws, v5, rfl, hl, hb, pw, ef, nw, Dx, kx⟩
      refine ⟨_, rfl, .inl ⟨rfl, _, SqL.of ef⟩, _, rfl, wd, rfl, by omega, by omega, fun D2 nD2 => ?_⟩
      rw [Int.toNat_natCast]
      obtain ⟨ed, elg, ecl⟩ := draw_new Dx nD2
      have nDf : D2 ≠ fo := fun z => by rw [z, ef] at nD2; cases nD2
      refine lc_range (lo := 0) (n := wd) (fun j He => ∃ l : List Int, l.length = j ∧ (∀ i ∈ l, 0 ≤ i ∧ i < p) ∧ He D2 = some (.lst (l.map V.int)) ∧ DrawAt He d lg cl ∧ Kept d lg Hx He) ⟨[], rfl, fun i m => by simp at m, upd_same, draw_put ed elg ecl Dx, kept_put nD2 Kept.refl⟩ ?_ ?_
      · rintro j He hj ⟨l, hlj, hlb, eD2, De, ke⟩
        refine ⟨rfl, ?_⟩
        dsimp only [tYes]
        refine iteT ?_
        have fin : ∀ (v : Int) (Hf : Hp), 0 ≤ v → v < p → DrawAt Hf d lg cl → Kept d lg He Hf → ∃ acc, Hf D2 = some (.lst acc) ∧ acc.length < sizeLine ∧ ∃ l : List Int, l.length = j + 1 ∧ (∀ i ∈ l, 0 ≤ i ∧ i < p) ∧ (upd Hf D2 (.lst (acc ++ [.int v]))) D2 = some (.lst (l.map V.int)) ∧ DrawAt (upd Hf D2 (.lst (acc ++ [.int v]))) d lg cl ∧ Kept d lg Hx (upd Hf D2 (.lst (acc ++ [.int v]))) := fun v Hf v0 v1 Df kf => by
          refine ⟨_, kf _ _ eD2 ed elg, small_2000 (by rw [List.length_map]; omega), l ++ [v], by rw [List.length_append, hlj]; rfl, fun i m => ?_, by rw [upd_same, List.map_append]; rfl, draw_put ed elg ecl Df, kept_put nD2 (ke.trans kf)⟩
          rcases List.mem_append.mp m with m | m
          · exact hlb i m
          · rw [List.mem_singleton] at m
            subst m
            exact ⟨v0, v1⟩
        refine ⟨_, rfl, d, lg, cl, 3, rfl, De, by decide, by decide, fun v H2 v0 v1 D2' k2 => ⟨rfl, _, rfl, ite2 (fun c => ?_) (fun c => ?_)⟩⟩
        · exact fin 0 H2 (Int.le_refl _) p0 D2' k2
        · exact ⟨_, rfl, _, rfl, d, lg, cl, p, rfl, D2', p0, p1, fun v2 H3 a0 a1 D3 k3 => fin v2 H3 a0 a1 D3 (k2.trans k3)⟩
      · rintro He ⟨l, hlj, hlb, eD2, De, ke⟩
        have ef2 := ke _ _ ef fd' flg
        refine ⟨fo, _, _, rfl, rfl, ef2, small1000 (by rw [rv_len]; omega), ?_⟩
        have pw2 : RL He ws := fun z m => ke _ _ (pw z m) (nw z m).2.2.1 (nw z m).2.2.2
        obtain ⟨q1, _⟩ := rl_add (o := .lst (rv ws ++ [.ref D2])) pw2 (fun z m => (nw z m).2.1) eD2 nDf
        refine ⟨ws ++ [(D2, l)], _, rfl, by rw [List.length_append, hl]; rfl, fun l2 m => ?_, q1, by rw [upd_same, rv_app], fun z m => ?_, draw_put fd' flg fcl De, kept_put nf (kx.trans ke)⟩
        · rw [rn_app] at m
          rcases List.mem_append.mp m with m | m
          · exact hb l2 m
          · rw [List.mem_singleton] at m
            subst m
            exact ⟨hlj, hlb⟩
        · rcases List.mem_append.mp m with m | m
          · exact nw z m
          · rw [List.mem_singleton] at m
            subst m
            exact ⟨kept_none kx ed elg nD2, nDf, ed, elg⟩
    · rintro σ Hx ⟨ws, v5, rfl, hl, hb, pw, ef, nw, Dx, kx⟩
      exact ⟨_, rfl, k fo ws Hx ⟨ef, pw, hl, hb, nf, fun z m => ⟨(nw z m).1, (nw z m).2.1⟩, Dx, kx⟩⟩
end
end K01


set_option Elab.async false
set_option maxRecDepth 100000
set_option maxHeartbeats 4000000
set_option linter.all false
namespace K01
open PySem PySem.Spec PyProof.Rows L2
abbrev sWild : Stmt := top 42
theorem scWild : FnScope ["draw", "field", "tall", "wide", "found", "item", "line_here"] ["draw", "field", "tall", "wide"] (defScope sWild) := ⟨rfl, rfl, rfl, by decide +kernel, rfl, by decide +kernel, by decide +kernel⟩
theorem stay_kept {K : PySem.W.Frag} {H H' : Hp} {d lg a : Addr} (n1 : a ≠ d) (n2 : a ≠ lg) (k : Kept d lg H H') : Stay K a H H' := by
  refine ⟨fun ys h => ?_, fun ys h => ?_⟩
  · rcases h with (h | ⟨o, h⟩) | h
    · exact .inl (.inl (k _ _ h n1 n2))
    · exact .inl (.inr ⟨o, k _ _ h n1 n2⟩)
    · exact .inr h
  · rcases h with (h | ⟨o, h⟩) | h
    · exact .inl (.inl (k _ _ h n1 n2))
    · exact .inl (.inr ⟨o, k _ _ h n1 n2⟩)
    · exact .inr h
def spWild : Sp := fun vs H Q _ => ∃ (d lg cl : Addr) (p : Int) (t w : Nat), vs = [.ref d, .int p, .int t, .int w] ∧ DrawAt H d lg cl ∧ 0 < p ∧ p ≤ 97 ∧ t ≤ 1000 ∧ w ≤ 1000 ∧
  ∀ D zs H', NewD d lg cl H t w (fun i => -1000 < i ∧ i < 1000) D zs H' → Q (.ref D) H'
theorem wild_b {i p z : Int} (h0 : 0 ≤ i) (h1 : i < p) (p1 : p ≤ 97) (z0 : 0 ≤ z) (z1 : z < 5) : -1000 < i + p * (z - 2) ∧ i + p * (z - 2) < 1000 := by
  have c : z = 0 ∨ z = 1 ∨ z = 2 ∨ z = 3 ∨ z = 4 := by omega
  rcases c with rfl | rfl | rfl | rfl | rfl <;> omega
section
variable {P : Program} {w : World} {K : PySem.W.Frag} {mg : Str → Option Value} {base : Heap}
theorem ok_wild {f fT fL : Addr} {fd fdT fdL : FuncData} (F : Fun K "_law_wild" "_law_wild" sWild f fd) (GT : FnOk P w K mg base CX0 2 fT fdT ["draw", "amount"] spTake) (bT : L2.Binds K fdT ["draw", "amount"] []) (gT : mg "_law_take" = some (.ref fT)) (kT : PySem.W.keepIn K (.ref fT) = true)
    (GL : FnOk P w K mg base CX0 3 fL fdL ["draw", "field", "tall", "wide"] spLists) (bL : L2.Binds K fdL ["draw", "field", "tall", "wide"] []) (gL : mg "_law_lists" = some (.ref fL)) (kL : PySem.W.keepIn K (.ref fL) = true) :
    FnOk P w K mg base CX0 4 f fd ["draw", "field", "tall", "wide"] spWild := by
  refine F.ok scWild (fun vs H Q E h => ?_) (fun cdv A outer s H vs Q E hr h => ?_)
  · obtain ⟨d, lg, cl, p, t, wd, rfl, _⟩ := h
    rfl
  · obtain ⟨d, lg, cl, p, t, wd, rfl, D, p0, p1, ht, hw, k⟩ := h
    have nd := scWild.nd
    have r2 : Room 2 _ := hr.mono (by decide)
    refine ⟨_, pss_cons (ps_set (i := 4) nd rfl (Or.inl rfl) (pe_call GL hr (by rfl) gL kL bL .nil pass0 (pa_cons (pv 0) (pa_cons (pv 1) (pa_cons (pv 2) (pa_cons (pv 3) pa_nil))))))
      (pss_one (ps_ret (pe_lc (own := [("line_here", 6)]) (g := gName 6) (by rfl) nd (pi_seq (pv 4)) (blkOk_by (own := [("line_here", 6)]) (N := ["draw", "field", "tall", "wide", "found", "item", "line_here"]) (sc := defScope sWild) (by decide +kernel)) (fun _ _ _ _ _ => pg_name (i := 6) nd rfl (Or.inl rfl)) (fun _ _ _ _ _ => pts_nil)
        (fun _ _ _ _ _ => pe_lc (own := [("item", 5)]) (g := gName 5) (by rfl) nd (show PI _ _ _ (iSeq K (tVar 6)) from pi_seq (pv 6)) (blkOk_by (own := [("item", 5)]) (N := ["draw", "field", "tall", "wide", "found", "item", "line_here"]) (by kernel_rfl)) (fun _ _ _ _ _ => pg_name (i := 5) nd rfl (Or.inl rfl)) (fun _ _ _ _ _ => pts_nil)
          (fun _ _ _ _ _ => pe_op op_add (pv 5) (pe_op op_mul (pv 1) (pe_op op_sub (pe_call GT r2 (by rfl) gT kT bT .nil pass0 (pa_cons (pv 0) (pa_cons pe_int pa_nil))) pe_int))))))), ?_⟩
    refine ⟨_, rfl, _, rfl, _, rfl, _, rfl, d, lg, cl, p, t, wd, rfl, D, p0, by omega, ht, hw, fun A0 us H1 N => ?_⟩
    have nA : A0 ≠ d ∧ A0 ≠ lg ∧ A0 ≠ cl := draw_new D N.nD
    refine ⟨_, rfl, A0, rv us, rfl, .inl (SqL.of N.at_), fun J hJ D1 nD1 => ?_⟩
    obtain ⟨ed, elg, ecl⟩ := draw_new N.dr nD1
    refine lc_seq hJ (fun i Hx => ∃ ws : Rs, ws.length = i ∧ (∀ l ∈ rn ws, l.length = wd ∧ ∀ i ∈ l, -1000 < i ∧ i < 1000) ∧ RL Hx ws ∧ Hx D1 = some (.lst (rv ws)) ∧ (∀ z ∈ ws, H1 z.1 = none ∧ z.1 ≠ D1 ∧ z.1 ≠ d ∧ z.1 ≠ lg) ∧ DrawAt Hx d lg cl ∧ Kept d lg H1 Hx)
      ⟨[], rfl, fun l m => by simp [rn] at m, fun z m => by simp at m, upd_same, fun z m => by simp at m, draw_put ed elg ecl N.dr, kept_put nD1 Kept.refl⟩ (fun i Hx _ hh => by obtain ⟨_, _, _, _, _, _, _, kx⟩ := hh; exact stay_kept nA.1 nA.2.1 kx) ?_ ?_
    · rintro i y Hx hi ⟨ws, hl, hb, pw, ef, nw, Dx, kx⟩
      obtain ⟨⟨r, l⟩, hz, rfl⟩ := rv_inv hi
      have hzm : (r, l) ∈ us := List.mem_of_getElem? hz
      obtain ⟨hll, hlb⟩ := N.wid l (List.mem_map.mpr ⟨_, hzm, rfl⟩)
      have nr := draw_new D (N.nz _ hzm).1
      have er := kx _ _ (N.rl _ hzm) nr.1 nr.2.1
      have hil : i < us.length := (List.getElem?_eq_some_iff.mp hz).1
      have hut := N.len
      refine ⟨rfl, ?_⟩
      dsimp only [tYes]
      refine iteT ?_
      refine ⟨_, rfl, r, l.map V.int, rfl, .inl (SqL.of er), fun J2 hJ2 D2 nD2 => ?_⟩
      obtain ⟨e2d, e2lg, e2cl⟩ := draw_new Dx nD2
      have nDf : D2 ≠ D1 := fun z => by rw [z, ef] at nD2; cases nD2
      refine lc_seq hJ2 (fun j He => ∃ m : List Int, m.length = j ∧ (∀ i ∈ m, -1000 < i ∧ i < 1000) ∧ He D2 = some (.lst (m.map V.int)) ∧ DrawAt He d lg cl ∧ Kept d lg Hx He) ⟨[], rfl, fun i m => by simp at m, upd_same, draw_put e2d e2lg e2cl Dx, kept_put nD2 Kept.refl⟩ (fun j He _ hh => by obtain ⟨_, _, _, _, _, ke⟩ := hh; exact stay_kept nr.1 nr.2.1 ke) ?_ ?_
      · rintro j y He hj ⟨m, hmj, hmb, eD2, De, ke⟩
        obtain ⟨n, hn, rfl⟩ := map_inv hj
        have hjl : j < l.length := (List.getElem?_eq_some_iff.mp hn).1
        have hnb := hlb n (List.mem_of_getElem? hn)
        refine ⟨rfl, ?_⟩
        dsimp only [tYes]
        refine iteT ?_
        refine ⟨_, rfl, _, rfl, _, rfl, d, lg, cl, 5, rfl, De, by decide, by decide, fun v H2 v0 v1 D2' k2 => ?_⟩
        refine ⟨v, 2, rfl, rfl, p, v - 2, rfl, rfl, .inl ⟨by omega, by omega⟩, n, p * (v - 2), rfl, rfl, ?_⟩
        refine ⟨_, k2 _ _ eD2 e2d e2lg, small_2000 (by rw [List.length_map]; omega), m ++ [n + p * (v - 2)], by rw [List.length_append, hmj]; rfl, fun i mm => ?_, by rw [upd_same, List.map_append]; rfl, draw_put e2d e2lg e2cl D2', kept_put nD2 (ke.trans k2)⟩
        rcases List.mem_append.mp mm with mm | mm
        · exact hmb i mm
        · rw [List.mem_singleton] at mm
          subst mm
          exact wild_b hnb.1 hnb.2 p1 v0 v1
      · rintro He ⟨m, hmj, hmb, eD2, De, ke⟩
        rw [List.length_map] at hmj
        have ef2 := ke _ _ ef ed elg
        have pw2 : RL He ws := fun z m => ke _ _ (pw z m) (nw z m).2.2.1 (nw z m).2.2.2
        obtain ⟨q1, _⟩ := rl_add (o := .lst (rv ws ++ [.ref D2])) pw2 (fun z m => (nw z m).2.1) eD2 nDf
        refine ⟨_, ef2, small_2000 (by rw [rv_len]; omega), ws ++ [(D2, m)], by rw [List.length_append, hl]; rfl, fun l2 mm => ?_, q1, by rw [upd_same, rv_app], fun z mm => ?_, draw_put ed elg ecl De, kept_put nD1 (kx.trans ke)⟩
        · rw [rn_app] at mm
          rcases List.mem_append.mp mm with mm | mm
          · exact hb l2 mm
          · rw [List.mem_singleton] at mm
            subst mm
            exact ⟨by rw [hmj, hll], hmb⟩
        · rcases List.mem_append.mp mm with mm | mm
          · exact nw z mm
          · rw [List.mem_singleton] at mm
            subst mm
            exact ⟨kept_none kx e2d e2lg nD2, nDf, e2d, e2lg⟩
    · rintro Hx ⟨ws, hl, hb, pw, ef, nw, Dx, kx⟩
      rw [rv_len, N.len] at hl
      refine k D1 ws Hx ⟨ef, pw, hl, hb, kept_none N.kp ed elg nD1, fun z m => ⟨kept_none N.kp (nw z m).2.2.1 (nw z m).2.2.2 (nw z m).1, (nw z m).2.1⟩, Dx, N.kp.trans kx⟩
end
end K01


set_option Elab.async false
set_option maxRecDepth 100000
set_option maxHeartbeats 4000000
set_option linter.all false
namespace K01
open PySem PySem.Spec PyProof.Rows L2
abbrev sProduct : Stmt := top 38
theorem scProduct : FnScope ["field", "one", "two", "wide", "found", "line_here", "sums", "k", "item", "here", "there"] ["field", "one", "two", "wide"] (defScope sProduct) := ⟨rfl, rfl, rfl, by decide +kernel, rfl, by decide +kernel, by decide +kernel⟩
/-- a loop over enumerate of a list that stays -/
theorem for_en {K : PySem.W.Frag} {a : Addr} {xs : List V} {g : TG} {tb : TS} {D : Ends} {σ : L2.St} {H : Hp} (Pv : Nat → L2.St → Hp → Prop) (h0 : Pv 0 σ H) (hl : ∀ i σ H, i ≤ xs.length → Pv i σ H → SqL K H a xs)
    (hs : ∀ i x U σ H, xs[i]? = some x → Pv i σ H → H U = none → g (.ref U) σ (upd H U (.tup [.int (i : Nat), x])) fun σ2 H2 => tb { D with nx := Pv (i + 1), ct := Pv (i + 1), bk := D.nx } σ2 H2) (hd : ∀ σ H, Pv xs.length σ H → D.nx σ H) :
    ∃ W : Nat → Nat → L2.St → Hp → Prop, (∃ m, W 0 m σ H) ∧ ∀ i m σ H, W i m σ H →
      ((Ite K a).stop i H ∧ D.nx σ H) ∨ ((Ite K a).go i H ∧ ∃ N : L2.St → Hp → Prop, (∀ σ' H', N σ' H' → ∃ m', m' < m ∧ W (i + 1) m' σ' H') ∧ ∀ x H', (Ite K a).yld i H x H' → g x σ H' fun σ2 H2 => tb { D with nx := N, ct := N, bk := D.nx } σ2 H2) := by
  refine ⟨fun i m σ H => m + i = xs.length ∧ Pv i σ H, ⟨xs.length, rfl, h0⟩, fun i m σ H h => ?_⟩
  obtain ⟨hm, p⟩ := h
  have q := hl i σ H (by omega) p
  rcases Nat.lt_or_ge i xs.length with lt | ge
  · refine .inr ⟨⟨xs, xs[i], q, List.getElem?_eq_getElem lt⟩, Pv (i + 1), fun σ' H' p' => ⟨m - 1, by omega, by omega, p'⟩, fun v H' y => ?_⟩
    obtain ⟨U, x, rfl, hU, rfl, e⟩ := y
    exact hs i x U σ _ (e xs q) p hU
  · have e : i = xs.length := by omega
    subst e
    exact .inl ⟨⟨xs, q, Nat.le_refl _⟩, hd σ H p⟩
theorem ix_at {K : PySem.W.Frag} {H : Hp} {a : Addr} {v : V} {xs : List V} {j : Nat} (h : SqA K H a xs) (e : xs[j]? = some v) {Q : VK} (q : Q v H) : rIx K (.ref a) (.int (j : Nat)) H Q := by
  rcases h with h | h
  · exact .inl ⟨a, _, j, v, rfl, rfl, h, atI_nat e, q⟩
  · exact .inr (.inl ⟨a, _, j, v, rfl, rfl, h, atI_nat e, q⟩)
/-- one line of a product, as this law adds it up -/
def accR (M : List (List Int)) (s : List Int) : List (Nat × Int) → List Int
  | [] => s
  | (k, i) :: r => accR M (List.zipWith (fun h t => h + i * t) s (M.getD k [])) r
def enumI (l : List Int) : List (Nat × Int) := (List.range l.length).zip l
def accRow (M : List (List Int)) (w : Nat) (l : List Int) (j : Nat) : List Int := accR M (List.replicate w 0) ((enumI l).take j)
theorem accR_app (M : List (List Int)) : ∀ (s : List Int) (r : List (Nat × Int)) (q : Nat × Int), accR M s (r ++ [q]) = List.zipWith (fun h t => h + q.2 * t) (accR M s r) (M.getD q.1 [])
  | s, [], (k, i) => rfl
  | s, (k, i) :: r, q => by
    show accR M _ (r ++ [q]) = _
    rw [accR_app M _ r q]
    rfl
theorem accR_len (M : List (List Int)) (w : Nat) : ∀ (s : List Int) (r : List (Nat × Int)), s.length = w → (∀ q ∈ r, (M.getD q.1 []).length = w) → (accR M s r).length = w
  | s, [], e, _ => e
  | s, (k, i) :: r, e, h => accR_len M w _ r (by rw [List.length_zipWith, e, h (k, i) (List.mem_cons_self ..), Nat.min_self]) fun q m => h q (List.mem_cons_of_mem _ m)
theorem enum_at {l : List Int} {j : Nat} {n : Int} (h : l[j]? = some n) : (enumI l)[j]? = some (j, n) := by
  unfold enumI
  have hj := (List.getElem?_eq_some_iff.mp h).1
  rw [List.getElem?_zip_eq_some]
  exact ⟨List.getElem?_range hj, h⟩
def spProduct (K : PySem.W.Frag) : Sp := fun vs H Q _ => ∃ (p : Int) (a b : Addr) (us vs2 : Rs) (w : Nat), vs = [.int p, .ref a, .ref b, .int w] ∧ 0 < p ∧ H a = some (.lst (rv us)) ∧ RL H us ∧ SqA K H b (rv vs2) ∧ RA K H vs2 ∧ us.length ≤ 1000 ∧ w ≤ 1000 ∧
  (∀ l ∈ rn us, l.length = vs2.length ∧ ∀ i ∈ l, -1000 < i ∧ i < 1000) ∧ (∀ l ∈ rn vs2, l.length = w) ∧ ∀ D zs H', NewL H (modT p ((rn us).map fun l => accRow (rn vs2) w l l.length)) D zs H' → Q (.ref D) H'
section
variable {P : Program} {w : World} {K : PySem.W.Frag} {mg : Str → Option Value} {base : Heap}
theorem ok_product {f : Addr} {fd : FuncData} (F : Fun K "_law_product" "_law_product" sProduct f fd) (mEn : mg "enumerate" = none) (mZ : mg "zip" = none) : FnOk P w K mg base CX0 1 f fd ["field", "one", "two", "wide"] (spProduct K) := by
  refine F.ok scProduct (fun vs H Q E h => ?_) (fun cdv A outer s H vs Q E hr h => ?_)
  · obtain ⟨p, a, b, us, vs2, wd, rfl, _⟩ := h
    rfl
  · obtain ⟨p, a, b, us, vs2, wd, rfl, hp, hA, rA, hB, rB, hl, hw, hL, hM, k⟩ := h
    have nd := scProduct.nd
    refine ⟨_, pss_cons (ps_set (i := 4) nd rfl (Or.inl rfl) (pe_lst pa_nil))
      (pss_cons (ps_for PassesOwn.never rfl (pi_seq (pv 1)) (pg_name (i := 5) nd rfl (Or.inl rfl))
        (pss_cons (ps_set (i := 6) nd rfl (Or.inl rfl) (pe_op op_rep (pe_lst (pa_cons pe_int pa_nil)) (pv 3)))
        (pss_cons (ps_for PassesOwn.never rfl (pi_enum (by rfl) mEn (pa_cons (pv 5) pa_nil)) (pg_tup (by rfl) (pgs_cons (pg_name (i := 7) nd rfl (Or.inl rfl)) (pgs_cons (pg_name (i := 8) nd rfl (Or.inr rfl)) pgs_nil)))
          (pss_one (ps_setLc (i := 6) (own := [("here", 9), ("there", 10)]) (g := gTup K 2 (gCons (gName 9) (gCons (gName 10) gNil))) (by rfl) nd rfl rfl (sw_true rfl rfl rfl (by decide +kernel)) (pi_z2 (by rfl) mZ (pa_cons (pv 6) (pa_cons (pe_ix (show IxR _ (rIx K) from ix_seq) (pv 2) (pv 7) (fun _ _ => rfl)) pa_nil))) (blkOk_by (own := [("here", 9), ("there", 10)]) (N := ["field", "one", "two", "wide", "found", "line_here", "sums", "k", "item", "here", "there"]) (sc := defScope sProduct) (by decide +kernel))
            (fun _ _ _ _ _ => pg_tup (by rfl) (pgs_cons (pg_name (i := 9) nd rfl (Or.inl rfl)) (pgs_cons (pg_name (i := 10) nd rfl (Or.inl rfl)) pgs_nil))) (fun _ _ _ _ _ => pts_nil)
            (fun _ _ _ _ _ => pe_op op_add (pv 9) (pe_op op_mul (pv 8) (pv 10))))))
        (pss_one (ps_expr (pe_bm PySem.F.plainAttrs_list PySem.F.slot_list_append PySem.F.type_list_append mt_append (pv 4) (pa_cons
          (pe_lc (own := [("item", 8)]) (g := gName 8) (by rfl) nd (pi_seq (pv 6)) (blkOk_by (own := [("item", 8)]) (N := ["field", "one", "two", "wide", "found", "line_here", "sums", "k", "item", "here", "there"]) (sc := defScope sProduct) (by decide +kernel)) (fun _ _ _ _ _ => pg_name (i := 8) nd rfl (Or.inl rfl)) (fun _ _ _ _ _ => pts_nil)
            (fun _ _ _ _ _ => pe_op op_mod (pv 8) (pv 0))) pa_nil)))))))
      (pss_one (ps_ret (pv 4)))), ?_⟩
    refine ⟨Nat.zero_le _, fun fo nf => ?_⟩
    have sf0 : Same H (upd H fo (.lst [])) := same_upd nf
    have naf : a ≠ fo := fun z => by rw [z, nf] at hA; cases hA
    refine ⟨_, rfl, a, rv us, rfl, .inl (SqL.of (sf0 _ _ hA)), fun J hJ => ?_⟩
    refine for_seq hJ (fun i σ Hx => ∃ (ws : Rs) (v5 v6 v7 v8 : Option V), σ = [some (.int p), some (.ref a), some (.ref b), some (.int wd), some (.ref fo), v5, v6, v7, v8, none, none] ∧ rn ws = (modT p ((rn us).map fun l => accRow (rn vs2) wd l l.length)).take i ∧ RL Hx ws ∧ Hx fo = some (.lst (rv ws)) ∧ (∀ z ∈ ws, H z.1 = none ∧ z.1 ≠ fo) ∧ Same H Hx ∧ Stay K a (upd H fo (.lst [])) Hx)
      ⟨[], none, none, none, none, rfl, rfl, fun z m => by simp at m, upd_same, fun z m => by simp at m, sf0, .of (Same.refl _)⟩ (fun i σ Hx _ hh => by obtain ⟨_, _, _, _, _, _, _, _, _, _, _, q⟩ := hh; exact q) ?_ ?_
    · rintro i x σ Hx hi ⟨ws, v5, v6, v7, v8, rfl, hw2, pw, ef, nw, sx, stx⟩
      obtain ⟨⟨r, l⟩, hz, rfl⟩ := rv_inv hi
      have hzm : (r, l) ∈ us := List.mem_of_getElem? hz
      have hil : i < us.length := (List.getElem?_eq_some_iff.mp hz).1
      obtain ⟨hll, hlb⟩ := hL l (List.mem_map.mpr ⟨_, hzm, rfl⟩)
      have hwsl : ws.length ≤ i := by
        have := congrArg List.length hw2
        rw [rn_len, List.length_take] at this
        omega
      have erx := sx _ _ (rA _ hzm)
      refine ⟨by show 1 ≤ sizeLine; decide, fun q0 n0 => ⟨_, rfl, q0, (wd : Int), [.int 0], rfl, rfl, upd_same, by omega, by omega, by rw [Int.toNat_natCast]; exact Nat.le_of_lt (small_2000 (by show 1 * _ ≤ 2000; omega)), fun q1 n1 => ?_⟩⟩
      rw [Int.toNat_natCast, rep1]
      have sa : Same Hx (upd (upd Hx q0 (.lst [.int 0])) q1 (.lst (List.replicate wd (V.int 0)))) := (same_upd n0).trans (same_upd n1)
      have ea : (upd (upd Hx q0 (.lst [.int 0])) q1 (.lst (List.replicate wd (V.int 0)))) q1 = some (.lst ((List.replicate wd (0 : Int)).map V.int)) := by rw [upd_same, List.map_replicate]
      generalize upd (upd Hx q0 (.lst [.int 0])) q1 (.lst (List.replicate wd (V.int 0))) = Ha at sa ea
      refine ⟨_, rfl, r, l.map V.int, rfl, SqL.of (sa _ _ erx), ?_⟩
      refine for_en (fun j σ He => ∃ (v7 v8 : Option V) (q : Addr), σ = [some (.int p), some (.ref a), some (.ref b), some (.int wd), some (.ref fo), some (.ref r), some (.ref q), v7, v8, none, none] ∧ He q = some (.lst ((accRow (rn vs2) wd l j).map V.int)) ∧ Same Hx He)
        ⟨_, _, q1, rfl, ea, sa⟩ (fun j σ He _ hh => by obtain ⟨_, _, _, _, _, s⟩ := hh; exact SqL.of (s _ _ erx)) ?_ ?_
      · rintro j y U σ He hj ⟨v7, v8, q, rfl, eq, se⟩ nU
        obtain ⟨n, hn, rfl⟩ := map_inv hj
        have hjl : j < l.length := (List.getElem?_eq_some_iff.mp hn).1
        have hnb := hlb n (List.mem_of_getElem? hn)
        have hjv : j < vs2.length := by omega
        obtain ⟨⟨rb, m⟩, hm⟩ : ∃ y, vs2[j]? = some y := ⟨_, List.getElem?_eq_getElem hjv⟩
        have hmm : (rb, m) ∈ vs2 := List.mem_of_getElem? hm
        have hml : m.length = wd := hM m (List.mem_map.mpr ⟨_, hmm, rfl⟩)
        have hMj : (rn vs2).getD j [] = m := by
          rw [List.getD_eq_getElem?_getD]
          unfold rn
          rw [List.getElem?_map, hm]
          rfl
        have hal : (accRow (rn vs2) wd l j).length = wd := by
          refine accR_len _ _ _ _ (List.length_replicate ..) fun qq mq => ?_
          have m2 := List.mem_of_mem_take mq
          unfold enumI at m2
          have hk := List.mem_range.mp (List.of_mem_zip m2).1
          rw [List.getD_eq_getElem?_getD, List.getElem?_eq_getElem (by rw [rn_len]; omega)]
          exact hM _ (List.getElem_mem ..)
        have sU : Same He (upd He U (.tup [.int j, .int n])) := same_upd nU
        refine ⟨U, [.int j, .int n], rfl, .inl (.inl upd_same), rfl, .int j, [.int n], rfl, .int n, [], rfl, rfl, ?_⟩
        have sUx := (sx.trans se).trans sU
        have hgv : (rv vs2)[j]? = some (.ref rb) := by unfold rv; rw [List.getElem?_map, hm]; rfl
        refine ⟨_, rfl, _, rfl, _, rfl, ix_at (hB.same sUx) hgv ?_⟩
        refine ⟨q, rb, _, m.map V.int, rfl, .inl (SqL.of (sU _ _ eq)), (rB _ hmm).same sUx, fun J3 hJ3 D3 nD3 => ?_⟩
        refine lc_z2 hJ3 (by rw [List.length_map, List.length_map, hal, hml]) (fun c Hf => Hf D3 = some (.lst (((List.zipWith (fun h t => h + n * t) (accRow (rn vs2) wd l j) m).take c).map V.int)) ∧ Same (upd He U (.tup [.int j, .int n])) Hf) ⟨upd_same, same_upd nD3⟩ (fun c Hf _ hh => ⟨.of hh.2, .of hh.2⟩) ?_ ?_
        · rintro c x y U2 Hf hx hy ⟨eD3, sf⟩ nU2
          obtain ⟨i1, hn1, rfl⟩ := map_inv hx
          obtain ⟨i2, hn2, rfl⟩ := map_inv hy
          have hcl : c < m.length := (List.getElem?_eq_some_iff.mp hn2).1
          refine ⟨U2, [.int i1, .int i2], rfl, .inl (.inl upd_same), rfl, .int i1, [.int i2], rfl, .int i2, [], rfl, rfl, rfl, ?_⟩
          dsimp only [tYes]
          refine iteT ?_
          refine ⟨_, rfl, _, rfl, _, rfl, n, i2, rfl, rfl, .inl ⟨by omega, by omega⟩, i1, n * i2, rfl, rfl, _, same_upd nU2 _ _ eD3, small_2000 (by rw [List.length_map, List.length_take, List.length_zipWith]; omega), ?_, same_put (sf.trans (same_upd nU2)) nD3⟩
          rw [upd_same, List.take_add_one, List.getElem?_zipWith, hn1, hn2, List.map_append]
          rfl
        · rintro Hf ⟨eD3, sf⟩
          rw [List.take_of_length_le (by rw [List.length_zipWith, List.length_map]; omega)] at eD3
          refine ⟨_, _, D3, rfl, ?_, (se.trans sU).trans sf⟩
          have e : accRow (rn vs2) wd l (j + 1) = List.zipWith (fun h t => h + n * t) (accRow (rn vs2) wd l j) m := by
            unfold accRow
            rw [List.take_add_one, enum_at hn]
            show accR _ _ (_ ++ [(j, n)]) = _
            rw [accR_app, hMj]
          rw [e]
          exact eD3
      · rintro σ He ⟨v7, v8, q, rfl, eq, se⟩
        rw [List.length_map] at eq
        have hal : (accRow (rn vs2) wd l l.length).length = wd := by
          refine accR_len _ _ _ _ (List.length_replicate ..) fun qq mq => ?_
          have m2 := List.mem_of_mem_take mq
          unfold enumI at m2
          have hk := List.mem_range.mp (List.of_mem_zip m2).1
          rw [List.getD_eq_getElem?_getD, List.getElem?_eq_getElem (by rw [rn_len]; omega)]
          exact hM _ (List.getElem_mem ..)
        generalize hg : accRow (rn vs2) wd l l.length = R at eq hal
        refine ⟨_, rfl, .inl ⟨rfl, _, SqL.of (se _ _ ef)⟩, _, rfl, q, _, rfl, .inl (SqL.of eq), fun J4 hJ4 D4 nD4 => ?_⟩
        refine lc_seq hJ4 (fun m Hf => Hf D4 = some (.lst (((R.map (· % p)).take m).map V.int)) ∧ Same He Hf) ⟨upd_same, same_upd nD4⟩ (fun m Hf _ hh => .of hh.2) ?_ ?_
        · rintro m y Hf hi2 ⟨eD4, sf⟩
          obtain ⟨n, hn, rfl⟩ := map_inv hi2
          have hil2 : m < R.length := (List.getElem?_eq_some_iff.mp hn).1
          refine ⟨rfl, ?_⟩
          dsimp only [tYes]
          refine iteT ?_
          refine ⟨_, rfl, _, rfl, n, p, rfl, rfl, hp, _, eD4, small_2000 (by rw [List.length_map, List.length_take]; omega), ?_, same_put sf nD4⟩
          rw [upd_same, List.take_add_one, List.getElem?_map, hn, List.map_append]
          rfl
        · rintro Hf ⟨eD4, sf⟩
          rw [List.length_map, List.take_of_length_le (by rw [List.length_map]; exact Nat.le_refl _)] at eD4
          have ef4 := sf _ _ (se _ _ ef)
          have nDD : D4 ≠ fo := fun z => by rw [z, se _ _ ef] at nD4; cases nD4
          obtain ⟨q1', _⟩ := rl_add (o := .lst (rv ws ++ [.ref D4])) (fun z m => sf _ _ (se _ _ (pw z m))) (fun z m => (nw z m).2) eD4 nDD
          refine ⟨fo, _, _, rfl, rfl, ef4, small_2000 (by rw [rv_len]; omega), ?_⟩
          have sall := (sx.trans se).trans sf
          refine ⟨ws ++ [(D4, R.map (· % p))], _, _, _, _, rfl, ?_, q1', by rw [upd_same, rv_app], new_row (sx.trans se) nw nD4 nDD, same_put sall nf, ?_⟩
          · rw [rn_app, hw2, List.take_add_one]
            unfold modT
            rw [List.getElem?_map, List.getElem?_map]
            conv => rhs; unfold rn
            rw [List.getElem?_map, hz]
            show _ = _ ++ [(accRow (rn vs2) wd l l.length).map (· % p)]
            rw [hg]
            rfl
          · refine stay_but naf fun b o e h => ?_
            rw [upd_ne h] at e ⊢
            exact sall _ _ e
    · rintro σ Hx ⟨ws, v5, v6, v7, v8, rfl, hw2, pw, ef, nw, sx, stx⟩
      rw [List.take_of_length_le (by unfold modT; rw [List.length_map, List.length_map, rn_len, rv_len]; exact Nat.le_refl _)] at hw2
      exact ⟨_, rfl, k fo ws Hx ⟨ef, pw, hw2, nf, nw, sx⟩⟩
end
end K01


set_option Elab.async false
set_option maxRecDepth 100000
set_option maxHeartbeats 4000000
set_option linter.all false
namespace K01
open PySem PySem.Spec PyProof.Rows L2
/-! products: the law's adding up and the program's are the same modulo the prime -/
theorem dot_nil (c : List Int) : dot [] c = 0 := rfl
theorem dot_cons (x y : Int) (l c : List Int) : dot (x :: l) (y :: c) = x * y + dot l c := by
  unfold dot
  rw [List.zipWith_cons_cons, List.sum_cons]
theorem dot_app : ∀ (l c : List Int) (x y : Int), l.length = c.length → dot (l ++ [x]) (c ++ [y]) = dot l c + x * y
  | [], [], x, y, _ => by rw [List.nil_append, List.nil_append, dot_cons, dot_nil]; omega
  | [], _ :: _, _, _, h => by simp at h
  | _ :: _, [], _, _, h => by simp at h
  | a :: l, b :: c, x, y, h => by
    rw [List.cons_append, List.cons_append, dot_cons, dot_cons, dot_app l c x y (by simpa using h)]
    omega
theorem dot_mod (p : Int) : ∀ l c : List Int, dot (l.map (· % p)) (c.map (· % p)) % p = dot l c % p
  | [], _ => rfl
  | _ :: _, [] => rfl
  | a :: l, b :: c => by
    rw [List.map_cons, List.map_cons, dot_cons, dot_cons, Int.add_emod, dot_mod p l c, ← Int.mul_emod, ← Int.add_emod]
theorem acc_dot {M : List (List Int)} {w : Nat} {l : List Int} (hM : ∀ r ∈ M, r.length = w) (hl : l.length = M.length) : ∀ j, j ≤ l.length → accRow M w l j = (List.range w).map fun c => dot (l.take j) ((colOf M c).take j)
  | 0, _ => by
    show List.replicate w 0 = _
    rw [show (fun c => dot (l.take 0) ((colOf M c).take 0)) = fun _ => (0 : Int) from rfl, List.map_const', List.length_range]
  | j + 1, h => by
    have hj : j < l.length := by omega
    have hjM : j < M.length := by omega
    have ih := acc_dot hM hl j (by omega)
    have e1 : accRow M w l (j + 1) = List.zipWith (fun h t => h + l[j] * t) (accRow M w l j) M[j] := by
      unfold accRow
      rw [List.take_add_one, enum_at (List.getElem?_eq_getElem hj)]
      show accR _ _ (_ ++ [(j, l[j])]) = _
      rw [accR_app]
      show List.zipWith _ _ (M.getD j []) = _
      rw [List.getD_eq_getElem?_getD, List.getElem?_eq_getElem hjM]
      rfl
    rw [e1, ih]
    have hw := hM _ (List.getElem_mem hjM)
    refine List.ext_getElem (by rw [List.length_zipWith, List.length_map, List.length_map, List.length_range, hw, Nat.min_self]) fun c h1 h2 => ?_
    have hc : c < w := by rw [List.length_map, List.length_range] at h2; exact h2
    rw [List.getElem_zipWith, List.getElem_map, List.getElem_map, List.getElem_range]
    have e2 : l.take (j + 1) = l.take j ++ [l[j]] := by rw [List.take_add_one, List.getElem?_eq_getElem hj]; rfl
    have e3 : (colOf M c).take (j + 1) = (colOf M c).take j ++ [M[j][c]] := by
      rw [List.take_add_one]
      unfold colOf
      rw [List.getElem?_map, List.getElem?_eq_getElem hjM]
      show _ ++ [M[j].getD c 0] = _
      rw [List.getD_eq_getElem?_getD, List.getElem?_eq_getElem (by omega)]
      rfl
    rw [e2, e3, dot_app _ _ _ _ (by rw [List.length_take, List.length_take]; unfold colOf; rw [List.length_map, hl])]
theorem col_mod (p : Int) (M : List (List Int)) (c : Nat) : colOf (modT p M) c = (colOf M c).map (· % p) := by
  unfold colOf modT
  rw [List.map_map, List.map_map]
  refine List.map_congr_left fun l _ => ?_
  show (l.map (· % p)).getD c 0 = l.getD c 0 % p
  rw [List.getD_eq_getElem?_getD, List.getD_eq_getElem?_getD, List.getElem?_map]
  cases l[c]? with
  | none => exact (Int.zero_emod p).symm
  | some x => rfl
theorem mul_acc {p : Int} {L M : List (List Int)} {w : Nat} (hL : ∀ l ∈ L, l.length = M.length) (hM : ∀ r ∈ M, r.length = w) : modT p (mulL (modT p L) (colsOf (modT p M) w)) = modT p (L.map fun l => accRow M w l l.length) := by
  unfold mulL colsOf
  show ((modT p L).map _).map _ = (L.map _).map _
  unfold modT
  rw [List.map_map, List.map_map, List.map_map]
  refine List.map_congr_left fun l m => ?_
  show List.map (· % p) (List.map (fun c => dot (l.map (· % p)) c) ((List.range w).map (colOf (modT p M)))) = List.map (· % p) (accRow M w l l.length)
  rw [acc_dot hM (hL l m) l.length (Nat.le_refl _), List.map_map, List.map_map, List.map_map]
  refine List.map_congr_left fun c _ => ?_
  show dot (l.map (· % p)) (colOf (modT p M) c) % p = dot (l.take l.length) ((colOf M c).take l.length) % p
  rw [col_mod, dot_mod, List.take_length, List.take_of_length_le (by unfold colOf; rw [List.length_map, hL l m]; exact Nat.le_refl _)]
end K01


set_option Elab.async false
set_option maxRecDepth 100000
set_option maxHeartbeats 4000000
set_option linter.all false
namespace K01
open PySem PySem.Spec PyProof.Rows L2
abbrev sPrimeL : Stmt := top 49
theorem scPrimeL : FnScope ["number", "k"] ["number"] (defScope sPrimeL) := ⟨rfl, rfl, rfl, by decide +kernel, rfl, by decide +kernel, by decide +kernel⟩
def spPrimeL : Sp := fun vs H Q _ => ∃ n : Int, vs = [.int n] ∧ ∀ H', Same H H' → Q (.bl (decide (n ∈ primes))) H'
theorem primes_small : ∀ m : Nat, m < 96 → ((List.range m).all fun j => decide ((m + 2) % (2 + j) ≠ 0)) = decide (((m + 2 : Nat) : Int) ∈ primes) := by decide +kernel
theorem primes_iff {n : Int} (h0 : 2 ≤ n) (h1 : n ≤ 97) : (∀ j : Nat, j < (n - 2).toNat → n % (2 + (j : Int)) ≠ 0) ↔ n ∈ primes := by
  obtain ⟨m, rfl⟩ : ∃ m : Nat, n = ((m + 2 : Nat) : Int) := ⟨(n - 2).toNat, by omega⟩
  have e : (((m + 2 : Nat) : Int) - 2).toNat = m := by omega
  rw [e]
  have z := primes_small m (by omega)
  rw [← decide_eq_true_iff (p := ((m + 2 : Nat) : Int) ∈ primes), ← z, List.all_eq_true]
  refine ⟨fun h j hj => ?_, fun h j hj => ?_⟩
  · have := h j (List.mem_range.mp hj)
    refine decide_eq_true fun q => this ?_
    have q2 : (((m + 2) % (2 + j) : Nat) : Int) = 0 := by rw [q]; rfl
    rw [Int.natCast_emod] at q2
    exact q2
  · have := of_decide_eq_true (h j (List.mem_range.mpr hj))
    intro q
    refine this ?_
    have q2 : (((m + 2) % (2 + j) : Nat) : Int) = 0 := by rw [Int.natCast_emod]; exact q
    exact Int.ofNat.inj q2
section
variable {P : Program} {w : World} {K : PySem.W.Frag} {mg : Str → Option Value} {base : Heap}
theorem ok_primel {f : Addr} {fd : FuncData} (F : Fun K "_law_is_prime" "_law_is_prime" sPrimeL f fd) (mRa : mg "range" = none) : FnOk P w K mg base CX0 1 f fd ["number"] spPrimeL := by
  refine F.ok scPrimeL (fun vs H Q E h => ?_) (fun cdv A outer s H vs Q E hr h => ?_)
  · obtain ⟨n, rfl, _⟩ := h
    rfl
  · obtain ⟨n, rfl, k⟩ := h
    have nd := scPrimeL.nd
    refine ⟨_, pss_cons (ps_if (PW.pt (pw_or (pt_cmpR op_lt (pv 0) pe_int (nomark _)) (pw_or1 (pt_cmpR op_gt (pv 0) pe_int (nomark _))))) (pss_one (ps_ret pe_bl)) pss_nil)
      (pss_one (ps_ret (pe_cmpR (op_eqD hr.units)
        (pe_lc (own := [("k", 1)]) (g := gName 1) (by rfl) nd (pi_range2 (by rfl) mRa (pa_cons pe_int (pa_cons (pv 0) pa_nil))) (blkOk_by (own := [("k", 1)]) (N := ["number", "k"]) (sc := defScope sPrimeL) (by decide +kernel)) (fun _ _ _ _ _ => pg_name (i := 1) nd rfl (Or.inl rfl)) (fun _ _ _ _ _ => pts_one (pt_cmpR op_eq (pe_op op_mod (pv 0) (pv 1)) pe_int (nomark _)))
          (fun _ _ _ _ _ => pv 1)) (pe_lst pa_nil) (nomark _)))), ?_⟩
    have out : ¬ (2 ≤ n ∧ n ≤ 97) → Q (.bl false) H := fun h => by
      have := k H (Same.refl _)
      rw [decide_eq_false (fun m => h (prime_pos m))] at this
      exact this
    refine ⟨_, rfl, n, 2, rfl, rfl, _, rfl, ite2 (fun c => ?_) (fun c => ?_)⟩
    · refine iteT ?_
      exact out fun z => by have := of_decide_eq_true c; omega
    have h0 : 2 ≤ n := by by_cases z : n < 2 <;> first | exact absurd (decide_eq_true z) c | omega
    refine ⟨_, rfl, n, 97, rfl, rfl, _, rfl, ite2 (fun c2 => ?_) (fun c2 => ?_)⟩
    · exact out fun z => by have := of_decide_eq_true c2; omega
    have h1 : n ≤ 97 := by by_cases z : n > 97 <;> first | exact absurd (decide_eq_true z) c2 | omega
    refine ⟨_, rfl, 2, n, rfl, ⟨by decide, by decide, by omega, by omega⟩, fun D nD => ?_⟩
    refine lc_range (lo := 2) (n := (n - 2).toNat) (fun i Hd => ∃ l : List Int, Hd D = some (.lst (l.map V.int)) ∧ l.length ≤ i ∧ (l = [] ↔ ∀ j : Nat, j < i → n % (2 + (j : Int)) ≠ 0) ∧ Same H Hd) ⟨[], upd_same, Nat.le_refl _, ⟨fun _ j hj => by omega, fun _ => rfl⟩, same_upd nD⟩ ?_ ?_
    · rintro i Hd hi ⟨l, eD, hl, hiff, sd⟩
      refine ⟨rfl, ?_⟩
      refine ⟨_, rfl, _, rfl, n, 2 + (i : Int), rfl, rfl, by omega, rfl, _, rfl, ?_⟩
      by_cases c3 : n % (2 + (i : Int)) = 0
      · refine iteTb (decide_eq_true (show V.int (n % (2 + (i : Int))) = V.int 0 by rw [c3])) ?_
        refine ⟨_, rfl, _, eD, small_2000 (by rw [List.length_map]; omega), l ++ [2 + (i : Int)], by rw [upd_same, List.map_append]; rfl, by rw [List.length_append]; exact Nat.succ_le_succ hl, ⟨fun z => by simp at z, fun z => absurd c3 (z i (by omega))⟩, same_put sd nD⟩
      · refine iteFb (decide_eq_false (fun z => c3 (V.int.inj z))) ?_
        refine ⟨l, eD, by omega, ⟨fun z j hj => ?_, fun z => hiff.mpr fun j hj => z j (by omega)⟩, sd⟩
        by_cases c4 : j = i
        · subst c4; exact c3
        · exact hiff.mp z j (by omega)
    · rintro Hd ⟨l, eD, hl, hiff, sd⟩
      refine ⟨Nat.zero_le _, fun e ne => ?_⟩
      have s2 := sd.trans (same_upd (o := .lst []) ne)
      refine ⟨_, _, dp_ints (SqL.of (same_upd ne _ _ eD)), .lst (SqL.of upd_same) .nil, shp_ints l, rfl, ?_⟩
      have ee : PyData.eqv (.list (l.map PyData.int)) (.list []) = decide (n ∈ primes) := by
        rw [decide_eq_decide.mpr (show n ∈ primes ↔ l = [] from ((primes_iff h0 h1).symm.trans hiff.symm))]
        cases l <;> rfl
      rw [ee]
      exact k _ s2
end
end K01


set_option Elab.async false
set_option maxRecDepth 100000
set_option maxHeartbeats 4000000
set_option linter.all false
namespace K01
open PySem PySem.Spec PyProof.Rows L2
open PySem.W (KitX InstAt Looks)
open LamX
abbrev sCaught : Stmt := top 40
abbrev sIsBad : Stmt := top 46
theorem scCaught : FnScope ["work", "caught", "error"] ["work"] (defScope sCaught) := ⟨rfl, rfl, rfl, by decide +kernel, rfl, by decide +kernel, by decide +kernel⟩
theorem scIsBad : FnScope ["work"] ["work"] (defScope sIsBad) := ⟨rfl, rfl, rfl, by decide +kernel, rfl, by decide +kernel, by decide +kernel⟩
/-- what is caught is given back -/
def TTc (K : PySem.W.Frag) (CW : Addr) : (XK → Hp → VK → Prop) → Hp → VK → Prop := fun tl H Q =>
  ∃ (E0 : XK) (Q0 : VK), tl E0 H Q0 ∧ (∀ cls d H', E0 cls d H' → PySem.W.exmOne K cls (.ref CW) = some true ∧ ∀ a, H' a = none → Q (.ref a) (upd H' a (ExR cls d a))) ∧ ∀ v H', Q0 v H' → Q .non H'
section
variable {P : Program} {w : World} {K : PySem.W.Frag} {mg : Str → Option Value} {base : Heap}
theorem caught_takes {g CW : Addr} {fd : FuncData} (F : Fun K "_law_caught" "_law_caught" sCaught g fd) (b : L2.Binds K fd ["work"] []) (gW : mg "WebError" = some (.ref CW)) : TakesV P w K mg base 1 g (TTc K CW) := by
  intro kl fs0 s0 H0 f pre tl A outer s H Q hr e0 FR Vf AC hp ht
  obtain ⟨oc, od, kV, doc, pm, an, cdv, ct, osl, rfl, lk, hcd⟩ := F.ex
  have KX : K.In s.heap := e0.mod.kin.keeps fun b o e => (e0.bs b o e).1
  refine run_ofS (N := ["work", "caught", "error"]) (ps := ["work"]) (us := [.ref f]) (vs := [.ref f]) lk hcd scCaught hr e0 (b s [.ref f] KX rfl) (.cons rfl .nil) rfl fun hr' => ?_
  have nd := scCaught.nd
  have key : ∃ t, PSs (cxOf L2.CX0 P w K mg base ["work", "caught", "error"] "_law_caught" (defScope sCaught) g cdv A outer s H (fun _ _ _ => False)).nox (defBody sCaught) t ∧ t { nx := fun _ H' => Q .non H', rt := Q } (L2.start ["work", "caught", "error"] [.ref f]) H := by
    refine ⟨_, pss_cons (ps_set (i := 1) nd rfl (Or.inl rfl) pe_non) (pss_cons (ps_try_keep (X := (cxOf L2.CX0 P w K mg base ["work", "caught", "error"] "_law_caught" (defScope sCaught) g cdv A outer s H (fun _ _ _ => False)).nox) (c := .ref CW) (i := 2)
        (tb := fun W D σ H => ∃ (Ech : XK) (Q0 : VK), (∀ cls d H', Ech cls d H' → W cls d σ H') ∧ (∀ (v : V) H', Q0 v H' → D.nx σ H') ∧ σ[0]? = some (some (.ref f)) ∧ pre H ∧ tl Ech H Q0)
        rfl rfl rfl nd rfl rfl ⟨rfl, by decide, .inl gW⟩ L2.takes0 (fun W pn xe tk _ => ?_) (fun a oe cls d pn _ _ => pss_one (ps_set (i := 1) nd rfl (Or.inl rfl) (pv 2))))
      (pss_one (ps_ret (pv 1)))), ?_⟩
    · exact pss_one (ps_expr (pe_actV (i := 0) (a := "work") FR rfl Vf AC tk hr' rfl (.inl rfl)))
    · obtain ⟨E0, Q0, ht, hE, hQ⟩ := ht
      refine ⟨E0, Q0, fun cls d H' q => ?_, fun v H' q => ⟨_, rfl, hQ v H' q⟩, rfl, hp, ht⟩
      obtain ⟨e1, e2⟩ := hE cls d H' q
      exact ⟨true, e1, fun _ a na => ⟨_, rfl, fun _ => ⟨_, rfl, e2 a na⟩⟩, fun z => by cases z⟩
  obtain ⟨t, h1, h2⟩ := key
  exact ⟨t, h1.nox, h2⟩
end
theorem cr_either {X : Cx} {f : Value} {r r' : List V → Hp → VK → Prop} (h : CallR X f r) (h' : CallR X f r') : CallR X f (fun xs H Q => r xs H Q ∨ r' xs H Q) :=
  fun pins s σ H xs us Q I rv q => q.elim (h pins s σ H xs us Q I rv) (h' pins s σ H xs us Q I rv)
/-- isinstance(e, c), e a caught exception without a dict that lives on -/
def rIsR0 (K : PySem.W.Frag) : List V → Hp → VK → Prop := fun xs H Q => ∃ (a D : Addr) (c : V) (cv : Value) (b : Bool), xs = [.ref a, c] ∧ H a = some (ExR (.ref D) none a) ∧ ExcC K D ∧ (∀ u, RelV c u → u = cv) ∧ PySem.W.kitOne K (.ref D) cv = some b ∧ Q (.bl b) H
theorem call_isR0 {X : Cx} : CallR X (.builtin "isinstance") (rIsR0 X.K) := by
  intro pins s σ H xs us Q I r h
  obtain ⟨a, D, c, cv, b, rfl, ha, C, hcv, e, q⟩ := h
  cases r with
  | cons rx rr =>
    cases rr with
    | cons rt rr =>
      cases rr
      cases rx
      have ec := hcv _ rt
      subst ec
      obtain ⟨oe, vs, ho, ⟨z1, z2⟩, hdt⟩ := exR_at I.hok ha
      have J : InstAt s.heap a oe D none := by
        obtain ⟨oc, od, oda, osl⟩ := oe
        dsimp only at z1 z2 hdt
        subst z1 z2 hdt
        exact ⟨ho, rfl, rfl, trivial⟩
      exact PySem.W.kia_one (PySem.W.handS_kitx_exc C.hg C.hk C.hs C.hd C.ha C.hn C.ht C.hm) I.kIn J e (fun z => nomatch z) fun tk => ⟨.bl b, H, I.kept (t' := tk) fun _ _ z => z, rfl, q⟩
/-- whether a BadTable is raised -/
def TTb (CB : Addr) : (XK → Hp → VK → Prop) → Hp → VK → Prop := fun tl H Q =>
  ∃ (E0 : XK) (Q0 : VK), tl E0 H Q0 ∧ (∀ cls d H', E0 cls d H' → cls = .ref CB ∧ d = none ∧ ∀ a, H' a = none → Q (.bl true) (upd H' a (ExR (.ref CB) none a))) ∧ ∀ v H', Q0 v H' → Q (.bl false) H'
/-- what the text says of BadTable where it is caught -/
structure BadN (K : PySem.W.Frag) (CB CW : Addr) : Prop where
  ex : ExcC K CB
  exm : PySem.W.exmOne K (.ref CB) (.ref CW) = some true
  one : PySem.W.kitOne K (.ref CB) (.ref CB) = some true
  non : PySem.W.kitOne K (.type "NoneType") (.ref CB) = some false
section
variable {P : Program} {w : World} {K : PySem.W.Frag} {mg : Str → Option Value} {base : Heap}
theorem isbad_takes {g fC CW CB : Addr} {fd : FuncData} (F : Fun K "_law_is_bad" "_law_is_bad" sIsBad g fd) (b : L2.Binds K fd ["work"] []) (GC : TakesV P w K mg base 1 fC (TTc K CW)) (gC : mg "_law_caught" = some (.ref fC)) (kC : PySem.W.keepIn K (.ref fC) = true) (gB : mg "BadTable" = some (.ref CB)) (B : BadN K CB CW) (mIs : mg "isinstance" = none) : TakesV P w K mg base 2 g (TTb CB) := by
  intro kl fs0 s0 H0 f pre tl A outer s H Q hr e0 FR Vf AC hp ht
  obtain ⟨oc, od, kV, doc, pm, an, cdv, ct, osl, rfl, lk, hcd⟩ := F.ex
  have KX : K.In s.heap := e0.mod.kin.keeps fun b o e => (e0.bs b o e).1
  refine run_ofS (N := ["work"]) (ps := ["work"]) (us := [.ref f]) (vs := [.ref f]) lk hcd scIsBad (k := kl + 1) hr e0 (b s [.ref f] KX rfl) (.cons rfl .nil) rfl fun hr' => ?_
  have nd := scIsBad.nd
  have key : ∃ t, PSs (cxOf L2.CX0 P w K mg base ["work"] "_law_is_bad" (defScope sIsBad) g cdv A outer s H (fun _ _ _ => False)).nox (defBody sIsBad) t ∧ t { nx := fun _ H' => Q .non H', rt := Q } (L2.start ["work"] [.ref f]) H := by
    refine ⟨_, pss_one (ps_ret (pe_callB (cr_either call_isi call_isR0) (by rfl) mIs (by decide +kernel) (pa_cons (pe_passV (Z := (cxOf L2.CX0 P w K mg base ["work"] "_law_is_bad" (defScope sIsBad) g cdv A outer s H (fun _ _ _ => False)).nox) (i := 0) (a := "work") FR rfl Vf AC GC hr' rfl gC kC rfl (.inl rfl)) (pa_cons (pe_glob (v := .ref CB) (by rfl) gB rfl) pa_nil)))), ?_⟩
    refine ⟨fun v H' => (v = .non ∧ Q (.bl false) H') ∨ ∃ a : Addr, v = .ref a ∧ H' a = some (ExR (.ref CB) none a) ∧ Q (.bl true) H', fun v H' q => ?_, rfl, hp, ?_⟩
    · rcases q with ⟨rfl, q⟩ | ⟨a, rfl, ea, q⟩
      · exact .inl ⟨_, _, _, _, false, rfl, .own CB, .base .non, B.non, q⟩
      · exact .inr ⟨a, CB, _, _, true, rfl, ea, B.ex, fun u r => r, B.one, q⟩
    · obtain ⟨E0, Q0, ht, hE, hQ⟩ := ht
      refine ⟨E0, Q0, ht, fun cls d H' q => ?_, fun v H' q => .inl ⟨rfl, hQ v H' q⟩⟩
      obtain ⟨rfl, rfl, hq⟩ := hE cls d H' q
      exact ⟨B.exm, fun a na => .inr ⟨a, rfl, upd_same, hq a na⟩⟩
  obtain ⟨t, h1, h2⟩ := key
  exact ⟨t, h1.nox, h2⟩
end
end K01


set_option Elab.async false
set_option maxRecDepth 100000
set_option maxHeartbeats 4000000
set_option linter.all false
namespace K01
open PySem PySem.Spec PyProof.Rows L2
/-! ### sum of a list of lists, from a new list on -/
theorem args_sum2 (a b : Value) : argsOk "sum" ⟨[a, b], []⟩ := by unfold argsOk; kernel_rfl
theorem sub_list_str : isSubtype (.type "list") (.type "str") = pure false := by rw [isSubtype_type]; kernel_rfl
theorem sub_list_bytes : isSubtype (.type "list") (.type "bytes") = pure false := by rw [isSubtype_type]; kernel_rfl
theorem sub_list_bytearray : isSubtype (.type "list") (.type "bytearray") = pure false := by rw [isSubtype_type]; kernel_rfl
def preL (ls : List (List Value)) (i : Nat) : List Value := (ls.take i).flatten
theorem preL_succ {ls : List (List Value)} {i : Nat} {x : List Value} (h : ls[i]? = some x) : preL ls (i + 1) = preL ls i ++ x := by
  unfold preL
  rw [List.take_add_one, h, List.flatten_append]
  simp
section
variable {prog : Program} {w : World} {A : Around} {R : Result → Shared → Prop}
theorem sum_loopL (hh : A.handled = none) {I l S : Addr} {as_ : List Addr} {ls : List (List Value)} (hlen : as_.length = ls.length) (hlI : l ≠ I) (hSI : S ≠ I) (hSl : S ≠ l) (hsz : ∀ i x, ls[i]? = some x → (preL ls i).length + x.length ≤ sizeLine) :
    ∀ (k i : Nat) (s : Shared) (cur m c : Nat), ls.length - i = k → i ≤ ls.length → s.heap.IsListIter I l i → s.heap.IsList l (as_.map Value.ref).toArray → s.heap.get? S = some { cls := .type "list", dict := none, data := .seq #[.ref cur] c, slots := #[] } →
    PySem.IsL s.heap cur (preL ls i).toArray m → cur ≠ S → cur ≠ I → (∀ (j : Nat) (a : Addr) (x : List Value), as_[j]? = some a → ls[j]? = some x → a ≠ S ∧ a ≠ I ∧ ∃ m, PySem.IsL s.heap a x.toArray m) →
    (∀ h' tk cur' m', (∀ b o, b ≠ I → b ≠ S → s.heap.get? b = some o → h'.get? b = some o) → PySem.IsL h' cur' (preL ls ls.length).toArray m' → ((cur' = cur ∧ i = ls.length) ∨ s.heap.objs.size ≤ cur') → R (.ok (.ret (.ref cur'))) { s with heap := h', toks := tk }) →
    codeAny (model prog w) A (.builtin "sum.loop" ⟨[.ref I, .ref S, rawInt 2, rawInt 0], []⟩) R s := by
  intro k
  induction k with
  | zero =>
    intro i s cur m c hk hi hit hl hS hc hcS hcI hal hR
    have hin : i = ls.length := by omega
    subst hin
    refine codeAny_builtin F.entry_sum_loop ?_
    rw [Around.under_plainId F.plain_sum_loop _]
    show wpAny _ A.in1 (seqItems? (.ref S) >>= _) _ _ s
    refine wpAny_bind (wpAny_seqItems hS rfl ?_)
    show wpAny _ A.in1 (tryCatch (pyNext (.ref I)) _ >>= _) _ _ s
    refine wpAny_bind (wpAny_tryCatch (wpAny_pyNext_list_end hh hit hl (by simp [hlen]) fun h' he => ?_))
    exact wpAny_pure (hR h' s.toks cur m (fun b o hb _ e => he b o hb e) (he cur _ hcI hc) (.inl ⟨rfl, rfl⟩))
  | succ k ih =>
    intro i s cur m c hk hi hit hl hS hc hcS hcI hal hR
    have hlt : i < ls.length := by omega
    obtain ⟨a, ha⟩ : ∃ a, as_[i]? = some a := ⟨as_[i]'(by omega), List.getElem?_eq_getElem (by omega)⟩
    obtain ⟨x, hx⟩ : ∃ x, ls[i]? = some x := ⟨ls[i], List.getElem?_eq_getElem hlt⟩
    refine codeAny_builtin F.entry_sum_loop ?_
    rw [Around.under_plainId F.plain_sum_loop _]
    show wpAny _ A.in1 (seqItems? (.ref S) >>= _) _ _ s
    refine wpAny_bind (wpAny_seqItems hS rfl ?_)
    show wpAny _ A.in1 (tryCatch (pyNext (.ref I)) _ >>= _) _ _ s
    refine wpAny_bind (wpAny_tryCatch (wpAny_pyNext_list_item hit hl (x := .ref a) (by simp [ha]) fun h' hit' hs' => ?_))
    have k1 : ∀ b o, b ≠ I → s.heap.get? b = some o → h'.get? b = some o := fun b o hb e => hs'.extBut b o hb e
    have hsz1 : s.heap.objs.size = h'.objs.size := hs'.1.symm
    obtain ⟨haS, haI, m2, ha2⟩ := hal i a x ha hx
    have hS1 := k1 S _ hSI hS
    have hc1 := k1 cur _ hcI hc
    have ha1 := k1 a _ haI ha2
    show wpAny _ A.in1 ((holding [Value.ref a] (binaryOp .Add (.ref cur) (.ref a))).attempt >>= _) _ _ _
    refine wpAny_bind (wpAny_attempt (wpAny_holding (PySem.P.add_list hc1 ha1 ?_ (by simpa using hsz i x hx))))
    obtain ⟨N, hN⟩ : ∃ N, N = h'.objs.size := ⟨_, rfl⟩
    have eN : (preL ls i).toArray ++ x.toArray = (preL ls (i + 1)).toArray := by rw [preL_succ hx]; simp
    rw [eN]
    have hS2 := Heap.get?_push_of_some { cls := .type "list", data := .seq (preL ls (i + 1)).toArray } hS1
    have hNS : N ≠ S := fun z => by
      have := Heap.lt_size hS1
      rw [← z, hN] at this
      exact Nat.lt_irrefl _ this
    have hNI : N ≠ I := fun z => by
      obtain ⟨oi, ei, _⟩ := hit'
      have := Heap.lt_size ei
      rw [← z, hN] at this
      exact Nat.lt_irrefl _ this
    show wpAny _ A.in1 (updateSeq S (fun _ => #[.ref h'.objs.size]) >>= _) _ _ _
    refine wpAny_bind (wpAny_updateSeq hS2 rfl ?_)
    have hS3 := Heap.get?_update_self (Obj.mapSeq fun _ => #[Value.ref h'.objs.size]) hS2 rfl
    refine wpAny_bind (wpAny_letGo ?_)
    refine wpAny_bind (wpAny_updateSeq hS3 rfl ?_)
    have up : ∀ b o, b ≠ S → h'.get? b = some o → (Heap.update (Heap.update (h'.push { cls := .type "list", data := .seq (preL ls (i + 1)).toArray }) S (Obj.mapSeq fun _ => #[Value.ref h'.objs.size])) S (Obj.mapSeq fun _ => #[Value.ref h'.objs.size])).get? b = some o := fun b o hb e =>
      (Heap.get?_update_other _ _ (Ne.symm hb)).trans ((Heap.get?_update_other _ _ (Ne.symm hb)).trans (Heap.get?_push_of_some _ e))
    have upN : PySem.IsL (Heap.update (Heap.update (h'.push { cls := .type "list", data := .seq (preL ls (i + 1)).toArray }) S (Obj.mapSeq fun _ => #[Value.ref h'.objs.size])) S (Obj.mapSeq fun _ => #[Value.ref h'.objs.size])) N (preL ls (i + 1)).toArray 0 :=
      (Heap.get?_update_other _ _ (Ne.symm hNS)).trans ((Heap.get?_update_other _ _ (Ne.symm hNS)).trans (by rw [hN]; exact Heap.get?_push_size _ rfl))
    refine wpAny_pure ⟨plainId_quiet F.plain_sum_loop _, ih (i + 1) _ N 0 _ (by omega) hlt ?_ ?_ (by rw [hN]; exact Heap.get?_update_self _ hS3 rfl) upN hNS hNI (fun j a' x' hj hx' => ?_) fun h'' tk'' cur' m' hk'' hc' hn => ?_⟩
    · obtain ⟨oi, ei, r⟩ := hit'
      exact ⟨oi, up I oi (Ne.symm hSI) ei, r⟩
    · obtain ⟨ol, el, r⟩ := hl
      exact ⟨ol, up l ol (Ne.symm hSl) (k1 l ol hlI el), r⟩
    · obtain ⟨q1, q2, m3, q3⟩ := hal j a' x' hj hx'
      exact ⟨q1, q2, m3, up a' _ q1 (k1 a' _ q2 q3)⟩
    · refine hR h'' tk'' cur' m' (fun b o hb1 hb2 e => hk'' b o hb1 hb2 (up b o hb2 (k1 b o hb1 e))) hc' (.inr ?_)
      rcases hn with ⟨e, _⟩ | hn
      · rw [e, hN, hsz1]
        exact Nat.le_refl _
      · refine Nat.le_trans ?_ hn
        show s.heap.objs.size ≤ (Heap.update (Heap.update (h'.push _) S _) S _).objs.size
        rw [Heap.size_update, Heap.size_update, Heap.size_push]
        omega
theorem call_sumL {E : Value → Shared → Prop} {s : Shared} (hh : A.handled = none) {l z : Addr} {as_ : List Addr} {ls : List (List Value)} {Q : Value → Shared → Prop} {mz : Nat} (hlen : as_.length = ls.length) (hl : s.heap.IsList l (as_.map Value.ref).toArray) (hz : PySem.IsL s.heap z #[] mz)
    (hal : ∀ (j : Nat) (a : Addr) (x : List Value), as_[j]? = some a → ls[j]? = some x → ∃ m, PySem.IsL s.heap a x.toArray m) (h0 : 0 < ls.length) (hsz : ∀ i x, ls[i]? = some x → (preL ls i).length + x.length ≤ sizeLine)
    (h : ∀ h' tk cur m, (∀ b o, s.heap.get? b = some o → h'.get? b = some o) → PySem.IsL h' cur (preL ls ls.length).toArray m → s.heap.objs.size ≤ cur → Q (.ref cur) { s with heap := h', toks := tk }) :
    wpAny (model prog w) A (call (.builtin "sum") [.ref l, .ref z]) Q E s := by
  refine call_function_tree F.kind_sum F.plain_sum F.entry_sum (args_sum2 _ _) ?_
  unfold Builtin.«sum»
  simp only [List.length_cons, List.length_nil]
  rw [if_neg (by decide)]
  refine wpAny_bind (wpAny_of_eq (show Builtin.Builtins.bindParams "sum" ["start"] 0 ⟨[.ref z], []⟩ = pure [some (.ref z)] from rfl) ?_)
  have ltl : l < s.heap.objs.size := by obtain ⟨_, e, _⟩ := hl; exact Heap.lt_size e
  have ltz : z < s.heap.objs.size := Heap.lt_size hz
  dsimp only
  refine wpAny_bind (wpAny_pyIter_list hl ?_)
  refine wpAny_bind (wpAny_pure ?_)
  have hz2 : PySem.IsL (s.heap.push { cls := .type "list_iterator", data := .fields #[.ref l, .int 0 0] }) z #[] mz := Heap.get?_push_of_some _ hz
  simp only [List.forIn_cons, List.forIn_nil]
  refine wpAny_bind (wpAny_bind (wpAny_bind (wpAny_isInstance (T := "list") (b := false) ⟨_, hz2, rfl⟩ sub_list_str ?_)))
  simp only [Bool.false_eq_true, if_false]
  refine wpAny_pure (wpAny_bind (wpAny_bind (wpAny_isInstance (T := "list") (b := false) ⟨_, hz2, rfl⟩ sub_list_bytes ?_)))
  simp only [Bool.false_eq_true, if_false]
  refine wpAny_pure (wpAny_bind (wpAny_bind (wpAny_isInstance (T := "list") (b := false) ⟨_, hz2, rfl⟩ sub_list_bytearray ?_)))
  simp only [Bool.false_eq_true, if_false]
  refine wpAny_pure (wpAny_pure ?_)
  refine wpAny_bind (wpAny_newObj_type ?_)
  obtain ⟨I, hI⟩ : ∃ I, I = s.heap.objs.size := ⟨_, rfl⟩
  obtain ⟨S, hS⟩ : ∃ S, S = s.heap.objs.size + 1 := ⟨_, rfl⟩
  have lI : l ≠ I := by rw [hI]; exact Nat.ne_of_lt ltl
  have SI : S ≠ I := by rw [hI, hS]; exact Nat.ne_of_gt (Nat.lt_succ_self _)
  have Sl : S ≠ l := by rw [hS]; exact Nat.ne_of_gt (Nat.lt_succ_of_lt ltl)
  have zS : z ≠ S := by rw [hS]; exact Nat.ne_of_lt (Nat.lt_succ_of_lt ltz)
  have zI : z ≠ I := by rw [hI]; exact Nat.ne_of_lt ltz
  have sz1 : (s.heap.push { cls := .type "list_iterator", data := .fields #[.ref l, .int 0 0] }).objs.size = S := by rw [Heap.size_push, hS]
  rw [sz1]
  subst hI
  have old : ∀ b o, s.heap.get? b = some o → ((s.heap.push { cls := .type "list_iterator", data := .fields #[.ref l, .int 0 0] }).push { cls := .type "list", data := .seq #[.ref z] }).get? b = some o := fun b o e => Heap.get?_push_of_some _ (Heap.get?_push_of_some _ e)
  refine wpAny_pure ⟨plainId_quiet F.plain_sum_loop _, sum_loopL hh (I := s.heap.objs.size) (l := l) (S := S) hlen lI SI Sl hsz ls.length 0 _ z mz 0 (by omega) (Nat.zero_le _) ?_ ?_ ?_ (old z _ hz) zS zI (fun j a x ha hx => ?_) fun h' tk cur' m' hk hc hn => ?_⟩
  · exact ⟨_, Heap.get?_push_of_some _ (Heap.get?_push_size _ rfl), rfl, rfl⟩
  · obtain ⟨ol, el, r⟩ := hl
    exact ⟨ol, old l ol el, r⟩
  · rw [← sz1]
    exact Heap.get?_push_size _ rfl
  · obtain ⟨m, e⟩ := hal j a x ha hx
    have := Heap.lt_size e
    exact ⟨by rw [hS]; exact Nat.ne_of_lt (Nat.lt_succ_of_lt this), Nat.ne_of_lt this, m, old a _ e⟩
  · refine h h' tk cur' m' (fun b o e => ?_) hc ?_
    · have := Heap.lt_size e
      exact hk b o (Nat.ne_of_lt this) (by rw [hS]; exact Nat.ne_of_lt (Nat.lt_succ_of_lt this)) (old b o e)
    · rcases hn with ⟨_, e⟩ | hn
      · omega
      · refine Nat.le_trans ?_ hn
        show s.heap.objs.size ≤ ((s.heap.push _).push _).objs.size
        rw [Heap.size_push, Heap.size_push]
        omega
/-- sum(list of lists, a new list) -/
theorem call_sum2 {X : Cx} (hc : X.calm = true) : CallR X (.builtin "sum") (fun xs H Q => ∃ (l z : Addr) (as_ : List Addr) (vls : List (List V)), xs = [.ref l, .ref z] ∧ SqL X.K H l (as_.map V.ref) ∧ H z = some (.lst []) ∧ as_.length = vls.length ∧ (∀ (j : Nat) (a : Addr) (x : List V), as_[j]? = some a → vls[j]? = some x → H a = some (.lst x)) ∧ 0 < vls.length ∧ vls.length ≤ 1000 ∧ (∀ x ∈ vls, x.length ≤ 1000) ∧
    ∀ p, H p = none → Q (.ref p) (upd H p (.lst vls.flatten))) := by
  intro pins s σ H xs us Q I r h
  obtain ⟨l, z, as_, vls, rfl, hl, hz, hlen, hal, h0, h1, h2, q⟩ := h
  obtain ⟨its, rv, hl2, _⟩ := I.list hl
  have ei : its = as_.map Value.ref := by
    clear hal hlen hl2 hl q h0 h1 h2
    revert rv
    generalize as_ = bs
    intro rv
    induction bs generalizing its with
    | nil => cases rv; rfl
    | cons b bs ih =>
      cases rv with
      | cons r1 rr =>
        cases r1
        rw [ih _ rr]
        rfl
  subst ei
  cases r with
  | cons rx rr =>
    cases rr with
    | cons rt rr =>
      cases rr
      cases rx
      cases rt
      obtain ⟨_, zi, mz, rz, e1, ez⟩ := I.lstM hz
      cases rz
      have each : ∀ (vl : List (List V)) (bs : List Addr), bs.length = vl.length → (∀ (j : Nat) (a : Addr) (x : List V), bs[j]? = some a → vl[j]? = some x → H a = some (.lst x)) →
          ∃ ls : List (List Value), ls.length = vl.length ∧ (∀ (j : Nat) (x : List V) (y : List Value), vl[j]? = some x → ls[j]? = some y → Vals x y) ∧ ∀ (j : Nat) (a : Addr) (y : List Value), bs[j]? = some a → ls[j]? = some y → ∃ m, PySem.IsL s.heap a y.toArray m := by
        intro vl
        induction vl with
        | nil => intro bs _ _; exact ⟨[], rfl, fun j x y h => by simp at h, fun j a y _ h => by simp at h⟩
        | cons x vl ih =>
          intro bs hb hh
          cases bs with
          | nil => cases hb
          | cons b bs =>
            obtain ⟨ls, q1, q2, q3⟩ := ih bs (by simpa using hb) fun j a x h1 h2 => hh (j + 1) a x h1 h2
            obtain ⟨_, yi, m, r, e1, e⟩ := I.lstM (hh 0 b x rfl rfl)
            refine ⟨yi :: ls, by rw [List.length_cons, q1, List.length_cons], fun j x' y' h1 h2 => ?_, fun j a y' h1 h2 => ?_⟩
            · cases j with
              | zero => cases h1; cases h2; exact r
              | succ j => exact q2 j x' y' h1 h2
            · cases j with
              | zero => cases h1; cases h2; exact ⟨m, e⟩
              | succ j => exact q3 j a y' h1 h2
      obtain ⟨ls, l1, l2, l3⟩ := each vls as_ hlen hal
      have fl : ∀ (vl : List (List V)) (ll : List (List Value)), ll.length = vl.length → (∀ (j : Nat) (x : List V) (y : List Value), vl[j]? = some x → ll[j]? = some y → Vals x y) → Vals vl.flatten ll.flatten := by
        intro vl
        induction vl with
        | nil => intro ll hb _; cases ll with
          | nil => exact .nil
          | cons _ _ => cases hb
        | cons x vl ih =>
          intro ll hb hh
          cases ll with
          | nil => cases hb
          | cons y ll => exact (hh 0 x y rfl rfl).append (ih ll (by simpa using hb) fun j x y h1 h2 => hh (j + 1) x y h1 h2)
      have ylen : ∀ y ∈ ls, y.length ≤ 1000 := fun y hy => by
        obtain ⟨j, hj⟩ := List.getElem?_of_mem hy
        have lt : j < vls.length := by have := (List.getElem?_eq_some_iff.mp hj).1; omega
        have := (l2 j _ y (List.getElem?_eq_getElem lt) hj).length
        have := h2 _ (List.getElem_mem lt)
        omega
      have flen : ∀ (ll : List (List Value)), (∀ y ∈ ll, y.length ≤ 1000) → ll.flatten.length ≤ ll.length * 1000 := by
        intro ll
        induction ll with
        | nil => intro _; simp
        | cons y ll ih =>
          intro hy
          have := ih fun y m => hy y (List.mem_cons_of_mem _ m)
          have := hy y (List.mem_cons_self ..)
          rw [List.flatten_cons, List.length_append, List.length_cons]
          omega
      have big : (2000000 : Nat) ≤ sizeLine := by decide
      refine call_sumL (ls := ls) (I.ok.hd hc) (by omega) hl2.isList ez l3 (by omega) (fun i x hx => ?_) fun h' tk cur m hk hcur hge => ?_
      · have := flen (ls.take i) fun y hy => ylen y (List.mem_of_mem_take hy)
        have := ylen x (List.mem_of_getElem? hx)
        have : (ls.take i).length ≤ 1000 := by rw [List.length_take]; omega
        unfold preL
        omega
      · have e2 : preL ls ls.length = ls.flatten := by unfold preL; rw [List.take_length]
        rw [e2] at hcur
        have rf := fl vls ls l1 l2
        have fz := flen ls ylen
        refine ⟨.ref cur, upd H cur (.lst vls.flatten), I.laid (t' := tk) hk hge ⟨by rw [rf.length]; omega, ls.flatten, m, rf, hcur⟩, rfl, q cur (I.hok.fresh hge)⟩
end
end K01


set_option Elab.async false
set_option maxRecDepth 100000
set_option maxHeartbeats 4000000
set_option linter.all false
namespace K01
open PySem PySem.Spec PyProof.Rows L2 GL
abbrev sShows : Stmt := top 43
theorem scShows : FnScope ["table", "field", "tall", "wide", "some", "due", "item", "line_here"] ["table", "field", "tall", "wide", "some"] (defScope sShows) := ⟨rfl, rfl, rfl, by decide +kernel, rfl, by decide +kernel, by decide +kernel⟩
/-! how long what is shown may be -/
def Sz (m : Nat) (d : PyData) : Prop := d.shown.length ≤ m
theorem from_le (m : Nat) : ∀ (ts : List Str) (k : Nat) (acc : Str), (∀ t ∈ ts, t.length ≤ m) → (textFrom k acc ts).length ≤ acc.length + ts.length * (m + 2)
  | [], k, acc, _ => by show acc.length ≤ _; omega
  | t :: r, k, acc, h => by
    have ih := from_le m r (k + 1) (acc ++ (if k > 0 then ", " else "" : String) ++ t) fun x hx => h x (List.mem_cons_of_mem _ hx)
    have e : (acc ++ (if k > 0 then ", " else "" : String) ++ t).length = acc.length + (if k > 0 then 2 else 0) + t.length := by
      rw [strLen_append, strLen_append]
      split <;> rfl
    have ht := h t (List.mem_cons_self ..)
    rw [e] at ih
    have e2 : (t :: r).length * (m + 2) = r.length * (m + 2) + (m + 2) := by rw [List.length_cons, Nat.add_mul, Nat.one_mul]
    rw [e2]
    show (textFrom (k + 1) (acc ++ (if k > 0 then ", " else "" : String) ++ t) r).length ≤ _
    have h2 : (if k > 0 then 2 else 0 : Nat) ≤ 2 := by split <;> omega
    exact Nat.le_trans ih (by omega)
theorem list_le {m : Nat} {ts : List Str} (h : ∀ t ∈ ts, t.length ≤ m) : (listText ts).length ≤ ts.length * (m + 2) + 2 := by
  have := from_le m ts 0 "[" h
  unfold listText
  rw [strLen_append]
  have e1 : (("[" : String) : Str).length = 1 := rfl
  have e2 : (("]" : String) : Str).length = 1 := rfl
  rw [e1] at this
  rw [e2]
  omega
theorem piled_le {m : Nat} : ∀ {ts : List Str}, (∀ t ∈ ts, t.length ≤ m) → piled ts ≤ ts.length * (m + 2)
  | [], _ => by simp [piled]
  | t :: r, h => by
    have ih := piled_le (m := m) (ts := r) fun x hx => h x (List.mem_cons_of_mem _ hx)
    have ht := h t (List.mem_cons_self ..)
    rw [piled_cons, List.length_cons, Nat.add_mul, Nat.one_mul]
    omega
theorem tup_le {m : Nat} {ts : List Str} (h : ∀ t ∈ ts, t.length ≤ m) : (tupleText ts).length ≤ ts.length * (m + 2) + 3 := by
  unfold tupleText
  rw [strLen_append, strLen_append]
  have e1 : (("(" : String) : Str).length = 1 := rfl
  have e2 : ∀ c : Bool, (((if c = true then ",)" else ")" : String)) : Str).length ≤ 2 := fun c => by cases c <;> decide
  have e3 := e2 (ts.length == 1)
  rw [e1]
  cases ts with
  | nil =>
    have : (Str.join ", " ([] : List Str)).length = 0 := rfl
    omega
  | cons t r =>
    have h1 := join_length_add (t :: r) (by simp)
    have h2 := piled_le h
    omega
theorem all_mem {ds : List PyData} : ∀ {t : Str}, t ∈ PyData.shownAll ds → ∃ d ∈ ds, t = d.shown := by
  induction ds with
  | nil => intro t h; cases h
  | cons d r ih =>
    intro t h
    rcases List.mem_cons.mp h with h | h
    · exact ⟨d, List.mem_cons_self .., h⟩
    · obtain ⟨d', hd, e⟩ := ih h
      exact ⟨d', List.mem_cons_of_mem _ hd, e⟩
theorem all_len (ds : List PyData) : (PyData.shownAll ds).length = ds.length := by
  induction ds with
  | nil => rfl
  | cons d r ih => show (PyData.shownAll r).length + 1 = _; rw [ih]; rfl
theorem Sz.mono {m m' : Nat} {d : PyData} (h : Sz m d) (e : m ≤ m') : Sz m' d := Nat.le_trans h e
theorem sz_list {m : Nat} {ds : List PyData} (h : ∀ d ∈ ds, Sz m d) : Sz (ds.length * (m + 2) + 2) (.list ds) := by
  show (listText (PyData.shownAll ds)).length ≤ _
  rw [← all_len ds]
  exact list_le fun t ht => by obtain ⟨d, hd, e⟩ := all_mem ht; rw [e]; exact h d hd
theorem sz_tup {m : Nat} {ds : List PyData} (h : ∀ d ∈ ds, Sz m d) : Sz (ds.length * (m + 2) + 3) (.tuple ds) := by
  show (tupleText (PyData.shownAll ds)).length ≤ _
  rw [← all_len ds]
  exact tup_le fun t ht => by obtain ⟨d, hd, e⟩ := all_mem ht; rw [e]; exact h d hd
/-- small numbers, below 0 too -/
theorem sm_int {i : Int} (h : -1000 < i ∧ i < 1000) : Sz 5 (.int i) ∧ (PyData.int i).showable = true := by
  have key : ((List.range 2000).all fun k => decide ((PyData.int ((k : Int) - 1000)).shown.length ≤ 5) && (PyData.int ((k : Int) - 1000)).showable) = true := by decide +kernel
  obtain ⟨k, hk⟩ := Int.eq_ofNat_of_zero_le (show 0 ≤ i + 1000 by omega)
  have hk2 : k < 2000 := by omega
  have e : i = (k : Int) - 1000 := by omega
  subst e
  have q := List.all_eq_true.mp key k (List.mem_range.mpr hk2)
  rw [Bool.and_eq_true] at q
  exact ⟨of_decide_eq_true (p := (PyData.int ((k : Int) - 1000)).shown.length ≤ 5) q.1, q.2⟩
def SmL (L : List (List Int)) : Prop := ∀ l ∈ L, ∀ i ∈ l, -1000 < i ∧ i < 1000
theorem sh_di {l : List Int} (h : ∀ i ∈ l, -1000 < i ∧ i < 1000) : PyData.showableAll (di l) = true := by
  induction l with
  | nil => rfl
  | cons x r ih =>
    show ((PyData.int x).showable && PyData.showableAll (di r)) = true
    rw [(sm_int (h x (List.mem_cons_self ..))).2, ih fun i m => h i (List.mem_cons_of_mem _ m)]
    rfl
theorem sh_dt {L : List (List Int)} (h : SmL L) : PyData.showableAll (L.map dt) = true := by
  induction L with
  | nil => rfl
  | cons x r ih =>
    show (PyData.showableAll (di x) && PyData.showableAll (r.map dt)) = true
    rw [sh_di (h x (List.mem_cons_self ..)), ih fun l m => h l (List.mem_cons_of_mem _ m)]
    rfl
theorem nd_di (l : List Int) : PyData.hasDictAll (di l) = false := by
  induction l with
  | nil => rfl
  | cons x r ih => simp [PyData.hasDictAll, PyData.hasDict, ih]
theorem nd_dt (L : List (List Int)) : PyData.hasDictAll (L.map dt) = false := by
  induction L with
  | nil => rfl
  | cons x r ih =>
    have := nd_di x
    simp [PyData.hasDictAll, PyData.hasDict, ih, this]
theorem rdv {K : PySem.W.Frag} {H : Hp} {v : L2.V} {d : PyData} (h : Dp K H v d) (n : d.hasDict = false) : RdV K H v d := fun X pins σ s u e I r => by
  subst e
  obtain ⟨as, R⟩ := Dp.reads I d v u h r
  exact ⟨as, R, fun z => by rw [n] at z; cases z⟩
theorem mul_le2 {a b c : Nat} (h : a ≤ b) : a * c ≤ b * c := Nat.mul_le_mul_right c h
theorem sz_dt {l : List Int} (hl : l.length ≤ 60) (h : ∀ i ∈ l, -1000 < i ∧ i < 1000) : Sz 500 (dt l) := by
  refine (sz_tup (m := 5) (ds := di l) fun d hd => ?_).mono ?_
  · obtain ⟨i, hi, rfl⟩ := List.mem_map.mp hd
    exact (sm_int (h i hi)).1
  · have e : (di l).length = l.length := List.length_map ..
    rw [e]; omega
theorem shown_tab {L : List (List Int)} (h1 : L.length ≤ 60) (h2 : ∀ l ∈ L, l.length ≤ 60) (h : SmL L) : Shown (.tuple (L.map dt)) := by
  refine ⟨sh_dt h, ?_, ?_⟩
  · have := dep_dt L
    simp only [PyData.depth]
    omega
  · refine Nat.le_trans (sz_tup (m := 500) (ds := L.map dt) fun d hd => ?_) ?_
    · obtain ⟨l, hl, rfl⟩ := List.mem_map.mp hd
      exact sz_dt (h2 l hl) (h l hl)
    · rw [List.length_map]
      have big : (100000 : Nat) ≤ sizeLine := by decide
      have := mul_le2 (c := 500 + 2) h1
      omega
theorem small_mod {p : Int} (hp : p ∈ primes) (L : List (List Int)) : SmL (modT p L) := fun l m i mi => by
  obtain ⟨l0, m0, rfl⟩ := List.mem_map.mp m
  obtain ⟨i0, _, rfl⟩ := List.mem_map.mp mi
  have := prime_pos hp
  have h0 := Int.emod_nonneg i0 (show p ≠ 0 by omega)
  have h1 := Int.emod_lt_of_pos i0 (show 0 < p by omega)
  omega
def spShows (K : PySem.W.Frag) (CT : Addr) : Sp := fun vs H Q _ => ∃ (x a : Addr) (p : Int) (t w : Nat) (us : Rs), vs = [.ref x, .int p, .int t, .int w, .ref a] ∧ TabAt CT H x p t w (modT p (rn us)) ∧ GoodT p t w (modT p (rn us)) ∧ SqA K H a (rv us) ∧ RA K H us ∧ ∀ H', Same H H' → Q (.bl true) H'
section
variable {P : Program} {w : World} {K : PySem.W.Frag} {mg : Str → Option Value} {base : Heap} {CT CP CB : Addr}
theorem ok_shows {f fE : Addr} {fd dE : FuncData} (F : Fun K "_law_shows" "_law_shows" sShows f fd) (G : Pg P w K mg base CT CP CB) (FE : FnOk P w K mg base CX0 1 G.fE dE ["self", "other"] (spTabEq CT)) (bE : L2.Binds K dE ["self", "other"] [])
    (mRe : mg "repr" = none) (mTup : mg "tuple" = none) (mIs : mg "isinstance" = none) : FnG P w K mg base L2.CX0 8 f fd ["table", "field", "tall", "wide", "some"] (spShows K CT) := by
  refine okG F scShows (fun vs H Q E h => ?_) (fun cdv A outer s H vs Q E hga hr h => ?_)
  · obtain ⟨x, a, p, t, wd, us, rfl, _⟩ := h
    rfl
  · obtain ⟨x, a, p, t, wd, us, rfl, hT, hG, hS, hA, k⟩ := h
    have nd := scShows.nd
    have hu70 : (A.deeper (envOfC "_law_shows" (defScope sShows) s.heap.objs.size f cdv)).units + 70 < cLine := by have := hr.un; omega
    have r1 : Room 1 _ := hr.mono (by decide)
    have r5 : Room 5 _ := hr.mono (by decide)
    refine ⟨_, pss_cons (ps_set (i := 5) nd rfl (Or.inl rfl) (pe_callTy (show CallR _ _ (fun xs H Q => ∃ p ys, xs = [.ref p] ∧ ((SqL K H p ys ∧ ∀ l, H l = none → Q (.ref l) (upd H l (.tup ys))) ∨ (SqT K H p ys ∧ Q (.ref p) H))) from call_tuple_of) (by rfl) mTup (by decide +kernel) (pa_cons
        (pe_lc (own := [("line_here", 7)]) (g := gName 7) (by rfl) nd (pi_seq (pv 4)) (blkOk_by (N := ["table", "field", "tall", "wide", "some", "due", "item", "line_here"]) (sc := defScope sShows) (by decide +kernel)) (fun _ _ _ _ _ => pg_name (i := 7) nd rfl (Or.inl rfl)) (fun _ _ _ _ _ => pts_nil)
          (fun _ _ _ _ _ => pe_callTy (show CallR _ _ (fun xs H Q => ∃ p ys, xs = [.ref p] ∧ ((SqL K H p ys ∧ ∀ l, H l = none → Q (.ref l) (upd H l (.tup ys))) ∨ (SqT K H p ys ∧ Q (.ref p) H))) from call_tuple_of) (by rfl) mTup (by decide +kernel) (pa_cons
            (pe_lc (own := [("item", 6)]) (g := gName 6) (by rfl) nd (show PI _ _ _ (iSeq K (tVar 7)) from pi_seq (pv 7)) (blkOk_by (N := ["table", "field", "tall", "wide", "some", "due", "item", "line_here"]) (by kernel_rfl)) (fun _ _ _ _ _ => pg_name (i := 6) nd rfl (Or.inl rfl)) (fun _ _ _ _ _ => pts_nil)
              (fun _ _ _ _ _ => pe_op op_mod (pv 6) (pv 1))) pa_nil))) pa_nil)))
      (pss_cons (ps_if (PW.pt (pw_or (pt_not (pt_val (pe_callB call_isi (by rfl) mIs (by decide +kernel) (pa_cons (pv 0) (pa_cons (pe_glob (v := .ref CT) (by rfl) G.T.t.g rfl) pa_nil)))))
          (pw_or (pt_cmpR op_ne (pe_fld (pv 0) rfl) (pv 1) (nomark _)) (pw_or (pt_cmpR op_ne (pe_fld (pv 0) rfl) (pv 2) (nomark _)) (pw_or1 (pt_cmpR op_ne (pe_fld (pv 0) rfl) (pv 3) (nomark _))))))) (pss_one (ps_ret pe_bl)) pss_nil)
      (pss_one (ps_ret (pe_and (pe_cmpR op_eq (pe_callB (id := "repr") (call_repr (K := K) rfl (by exact hga) (by exact hu70)) (by rfl) mRe (by decide +kernel) (pa_cons (pe_fld (pv 0) rfl) pa_nil)) (pe_callB (id := "repr") (call_repr (K := K) rfl (by exact hga) (by exact hu70)) (by rfl) mRe (by decide +kernel) (pa_cons (pv 5) pa_nil)) (nomark _))
        (pe_one (pe_cmpR (op_eqT G.T FE bE r1) (pv 0) (pe_make G.m G.ok r5 (by rfl) G.T.t.g G.b .nil (passes_call L2.takes0 fun _ _ _ _ h => h) (pa_cons (pv 1) (pa_cons (pv 2) (pa_cons (pv 3) (pa_cons (pv 5) pa_nil))))) (nomark _))))))), ?_⟩
    have hl60 : us.length ≤ 60 := by
      have := hG.len
      have := hG.t60
      unfold modT at *
      rw [List.length_map, rn_len] at *
      omega
    have hw60 : ∀ l ∈ rn us, l.length = wd := fun l m => by
      have := hG.wid (l.map (· % p)) (List.mem_map.mpr ⟨l, m, rfl⟩)
      rw [List.length_map] at this
      exact this
    have w60 := hG.w60
    have hp0 := prime_pos hG.pr
    refine ⟨_, rfl, a, rv us, rfl, hS, fun J hJ D nD => ?_⟩
    refine lc_seq hJ (fun j Hd => ∃ ws : Rs, rn ws = (modT p (rn us)).take j ∧ RT Hd ws ∧ Hd D = some (.lst (rv ws)) ∧ Same H Hd) ⟨[], rfl, fun z m => by simp at m, upd_same, same_upd nD⟩ (fun j Hd _ hh => by obtain ⟨_, _, _, _, s⟩ := hh; exact .of s) ?_ ?_
    · rintro j y Hd hj ⟨ws, hw2, pw, eD, sd⟩
      obtain ⟨⟨r, l⟩, hz, rfl⟩ := rv_inv hj
      have hzm : (r, l) ∈ us := List.mem_of_getElem? hz
      have hjl : j < us.length := (List.getElem?_eq_some_iff.mp hz).1
      have hll : l.length = wd := hw60 l (List.mem_map.mpr ⟨_, hzm, rfl⟩)
      have hwsl : ws.length ≤ j := by
        have := congrArg List.length hw2
        rw [rn_len, List.length_take] at this
        omega
      refine ⟨rfl, ?_⟩
      dsimp only [tYes]
      refine iteT ?_
      refine ⟨_, rfl, r, l.map V.int, rfl, (hA _ hzm).same sd, fun J2 hJ2 D2 nD2 => ?_⟩
      refine lc_seq hJ2 (fun i He => He D2 = some (.lst ((l.take i).map fun n => V.int (n % p))) ∧ Same Hd He) ⟨upd_same, same_upd nD2⟩ (fun i He _ hh => .of hh.2) ?_ ?_
      · rintro i y He hi ⟨eD2, se⟩
        obtain ⟨n, hn, rfl⟩ := map_inv hi
        have hil : i < l.length := (List.getElem?_eq_some_iff.mp hn).1
        refine ⟨rfl, ?_⟩
        dsimp only [tYes]
        refine iteT ?_
        refine ⟨_, rfl, _, rfl, n, p, rfl, rfl, by omega, _, eD2, small_2000 (by rw [List.length_map, List.length_take]; omega), ?_, same_put se nD2⟩
        rw [upd_same, List.take_add_one, hn, List.map_append]
        rfl
      · rintro He ⟨eD2, se⟩
        rw [List.length_map, List.take_length] at eD2
        refine ⟨D2, _, rfl, .inl ⟨SqL.of eD2, fun q nq => ⟨_, same_upd nq _ _ (se _ _ eD), small_2000 (by rw [rv_len]; omega), ?_⟩⟩⟩
        refine ⟨ws ++ [(q, l.map (· % p))], ?_, ((pw.same (se.trans (same_upd nq))).app (by rw [upd_same, List.map_map]; rfl)).put (same_upd nq _ _ (se _ _ eD)), by rw [upd_same, rv_app], same_put ((sd.trans se).trans (same_upd nq)) nD⟩
        rw [rn_app, hw2, List.take_add_one]
        unfold modT rn
        rw [List.getElem?_map, List.getElem?_map, hz]
        rfl
    · rintro Hd ⟨ws, hw2, pw, eD, sd⟩
      have hlen : (modT p (rn us)).length = (rv us).length := by unfold modT; rw [List.length_map, rn_len, rv_len]
      rw [← hlen, List.take_length] at hw2
      refine ⟨D, rv ws, rfl, .inl ⟨SqL.of eD, fun q nq => ?_⟩⟩
      have s1 : Same H (upd Hd q (.tup (rv ws))) := sd.trans (same_upd nq)
      have pq : RT (upd Hd q (.tup (rv ws))) ws := pw.same (same_upd nq)
      have eq : (upd Hd q (.tup (rv ws))) q = some (.tup (rv ws)) := upd_same
      generalize upd Hd q (.tup (rv ws)) = H1 at s1 pq eq
      have hT1 := hT.same s1
      obtain ⟨dx, b, zs, e, eb, pz, ez⟩ := id hT1
      have d1 : Dp K H1 (.ref b) (.tuple ((modT p (rn us)).map dt)) := by rw [← ez]; exact dp_tab eb pz
      have d2 : Dp K H1 (.ref q) (.tuple ((modT p (rn us)).map dt)) := by rw [← hw2]; exact dp_tab eq pq
      have sh : Shown (.tuple ((modT p (rn us)).map dt)) := shown_tab (by rw [hG.len]; exact hG.t60) (fun l m => by rw [hG.wid l m]; exact hG.w60) (small_mod hG.pr _)
      refine ⟨_, rfl, _, _, _, _, true, rfl, .own CT, G.T.ty hT1, G.T.one, _, rfl, ?_⟩
      refine iteF ?_
      refine ⟨_, rfl, x, CT, dx, _, _, rfl, e, G.T.t.cl, G.T.t.nP, rfl, _, rfl, rfl, _, rfl, ?_⟩
      refine iteFb (by simp) ?_
      refine ⟨_, rfl, x, CT, dx, _, _, rfl, e, G.T.t.cl, G.T.t.nT, rfl, _, rfl, rfl, _, rfl, ?_⟩
      refine iteFb (by simp) ?_
      refine ⟨_, rfl, x, CT, dx, _, _, rfl, e, G.T.t.cl, G.T.t.nW, rfl, _, rfl, rfl, _, rfl, ?_⟩
      refine iteFb (by simp) ?_
      refine ⟨_, rfl, x, CT, dx, _, _, rfl, e, G.T.t.cl, G.T.t.nL, rfl, _, _, rfl, rdv d1 (nd_dt _), sh, ?_⟩
      refine ⟨_, rfl, _, _, rfl, rdv d2 (nd_dt _), sh, rfl, _, rfl, ?_⟩
      refine iteTb (by simp) ?_
      refine ⟨_, rfl, _, rfl, _, rfl, _, rfl, _, rfl, ?_⟩
      intro y dy ny ndy ne
      refine mkt_good ny ndy ne hG.pr hG.t60 hG.w60 (L := rn ws) (lnj_of (.inr (SqT.of eq)) pq.ra (by rw [← rn_len, hw2]; exact hG.len) (fun l m => by
        rw [hw2] at m
        exact hG.wid l m)) fun H2 hT2 s2 => ?_
      rw [hw2, modT_id hG] at hT2
      refine ⟨rfl, x, y, p, t, wd, _, p, t, wd, _, rfl, rfl, hT1.same s2, hT2, fun H3 s3 => ?_⟩
      have e5 : eqT p t wd (modT p (rn us)) p t wd (modT p (rn us)) = true := by unfold eqT; simp
      rw [e5]
      exact k H3 ((s1.trans s2).trans s3)
end
end K01


set_option Elab.async false
set_option maxRecDepth 100000
set_option maxHeartbeats 4000000
set_option linter.all false
namespace K01
open PySem PySem.Spec PyProof.Rows L2 GL
abbrev sUnequal : Stmt := top 51
theorem scUnequal : FnScope ["field", "other"] ["field"] (defScope sUnequal) := ⟨rfl, rfl, rfl, by decide +kernel, rfl, by decide +kernel, by decide +kernel⟩
/-- a Table of these lines is made -/
theorem mkt_l {K : PySem.W.Frag} {CT CP CB : Addr} {p : Int} {t w : Nat} {a : Addr} {zs : Rs} {H : Hp} {Q2 : VK} {E : XK} {x dx : Addr} (nx : H x = none) (ndx : H dx = none) (ne : dx ≠ x) (hp : p ∈ primes) (ht : t ≤ 60) (hw : w ≤ 60) (hS : SqA K H a (rv zs)) (hA : RA K H zs) (e : zs.length = t) (ew : ∀ l ∈ rn zs, l.length = w)
    (k : ∀ H', TabAt CT H' x p t w (modT p (rn zs)) → Same H H' → Q2 .non H') : spTabInit K CT CP CB [.ref x, .int p, .int t, .int w, .ref a] (upd (upd H dx (.own x)) x (.ins CT dx [])) Q2 E :=
  mkt_good nx ndx ne hp ht hw (lnj_of hS hA e ew) k
/-- the other prime -/
def odd5 (p : Int) : Int := if p ≠ 5 then 5 else 7
theorem odd5_pr (p : Int) : odd5 p ∈ primes := by unfold odd5; split <;> decide
theorem odd5_ne (p : Int) : p ≠ odd5 p := by unfold odd5; split <;> omega
theorem eqT_f {p : Int} {t w : Nat} {L : List (List Int)} {p2 : Int} {t2 w2 : Nat} {L2 : List (List Int)} (h : ¬ (p = p2 ∧ t = t2 ∧ w = w2)) : eqT p t w L p2 t2 w2 L2 = false := decide_eq_false fun z => h ⟨z.1, z.2.1, z.2.2.1⟩
theorem eqT_t (p : Int) (t w : Nat) (L : List (List Int)) : eqT p t w L p t w L = true := decide_eq_true ⟨rfl, rfl, rfl, rfl⟩
theorem modT_nil (p : Int) : modT p [] = [] := rfl
/-- the reading of a rule, told anew -/
theorem PE_conv {X : Cx} {e : Expr} {t t' : TE} (h : PE X e t) (c : ∀ σ H Q, t' σ H Q → t σ H Q) : PE X e t' := ⟨fun pins s σ H Q I q => h.run pins s σ H Q I (c σ H Q q)⟩
def tOdd (i : Nat) : TE := fun σ H Q => ∃ p : Int, σ[i]? = some (some (.int p)) ∧ Q (.int (odd5 p)) H
theorem odd_conv {i : Nat} : ∀ σ H Q, tOdd i σ H Q → tIf (tTest (tOp rNe (tVar i) (tC (.int 5)))) (tC (.int 5)) (tC (.int 7)) σ H Q := fun σ H Q ⟨p, e, q⟩ => by
  refine ⟨_, e, rfl, _, rfl, ?_⟩
  unfold odd5 at q
  by_cases c : p = 5
  · subst c
    rw [if_neg (by simp)] at q
    rw [if_neg (by simp)]
    exact q
  · rw [if_pos c] at q
    rw [if_pos (by rw [decide_eq_false (fun z => c (V.int.inj z))]; rfl)]
    exact q
def spUnequal : Sp := fun vs H Q _ => ∃ p : Int, vs = [.int p] ∧ p ∈ primes ∧ ∀ H', Same H H' → Q (.bl true) H'
section
variable {P : Program} {w : World} {K : PySem.W.Frag} {mg : Str → Option Value} {base : Heap} {CT CP CB : Addr}
theorem ok_unequal {f : Addr} {fd dE : FuncData} (F : Fun K "_law_unequal" "_law_unequal" sUnequal f fd) (G : Pg P w K mg base CT CP CB) (FE : FnOk P w K mg base CX0 1 G.fE dE ["self", "other"] (spTabEq CT)) (bE : L2.Binds K dE ["self", "other"] []) : FnOk P w K mg base CX0 6 f fd ["field"] spUnequal := by
  refine F.ok scUnequal (fun vs H Q E h => ?_) (fun cdv A outer s H vs Q E hr h => ?_)
  · obtain ⟨p, rfl, _⟩ := h
    rfl
  · obtain ⟨p, rfl, hp, k⟩ := h
    have nd := scUnequal.nd
    have r1 : Room 1 _ := hr.mono (by decide)
    refine ⟨_, pss_cons (ps_set (i := 1) nd rfl (Or.inl rfl) (PE_conv (pe_ifExp (pt_cmpR op_ne (pv 0) pe_int (nomark _)) pe_int pe_int) (odd_conv (i := 0))))
      (pss_cons (ps_if (PW.pt (pw_or (pt_cmpR (op_eqT G.T FE bE r1) (pe_make G.m G.ok hr (by rfl) G.T.t.g G.b .nil (passes_call L2.takes0 fun _ _ _ _ h => h) (pa_cons (pv 0) (pa_cons pe_int (pa_cons pe_int (pa_cons (pe_lst pa_nil) pa_nil))))) (pe_make G.m G.ok hr (by rfl) G.T.t.g G.b .nil (passes_call L2.takes0 fun _ _ _ _ h => h) (pa_cons (pv 0) (pa_cons pe_int (pa_cons pe_int (pa_cons (pe_lst pa_nil) pa_nil))))) (nomark _))
        (pw_or1 (pt_cmpR (op_eqT G.T FE bE r1) (pe_make G.m G.ok hr (by rfl) G.T.t.g G.b .nil (passes_call L2.takes0 fun _ _ _ _ h => h) (pa_cons (pv 0) (pa_cons pe_int (pa_cons pe_int (pa_cons (pe_lst pa_nil) pa_nil))))) (pe_make G.m G.ok hr (by rfl) G.T.t.g G.b .nil (passes_call L2.takes0 fun _ _ _ _ h => h) (pa_cons (pv 1) (pa_cons pe_int (pa_cons pe_int (pa_cons (pe_lst pa_nil) pa_nil))))) (nomark _))))) (pss_one (ps_ret pe_bl)) pss_nil)
      (pss_cons (ps_if (pt_cmpR (op_eqT G.T FE bE r1) (pe_make G.m G.ok hr (by rfl) G.T.t.g G.b .nil (passes_call L2.takes0 fun _ _ _ _ h => h) (pa_cons (pv 0) (pa_cons pe_int (pa_cons pe_int (pa_cons (pe_lst (pa_cons (pe_lst pa_nil) (pa_cons (pe_lst pa_nil) pa_nil))) pa_nil))))) (pe_make G.m G.ok hr (by rfl) G.T.t.g G.b .nil (passes_call L2.takes0 fun _ _ _ _ h => h) (pa_cons (pv 1) (pa_cons pe_int (pa_cons pe_int (pa_cons (pe_lst (pa_cons (pe_lst pa_nil) (pa_cons (pe_lst pa_nil) pa_nil))) pa_nil))))) (nomark _)) (pss_one (ps_ret pe_bl)) pss_nil)
      (pss_one (ps_ret (pe_cmpR (op_eqT G.T FE bE r1) (pe_make G.m G.ok hr (by rfl) G.T.t.g G.b .nil (passes_call L2.takes0 fun _ _ _ _ h => h) (pa_cons (pv 0) (pa_cons pe_int (pa_cons pe_int (pa_cons (pe_lst pa_nil) pa_nil))))) (pe_make G.m G.ok hr (by rfl) G.T.t.g G.b .nil (passes_call L2.takes0 fun _ _ _ _ h => h) (pa_cons (pv 0) (pa_cons pe_int (pa_cons pe_int (pa_cons (pe_tup pa_nil) pa_nil))))) (nomark _)))))), ?_⟩
    have nilA : ∀ {H : Hp} {l : Addr}, H l = some (.lst []) → SqA K H l (rv []) := fun e => .inl (SqL.of e)
    have nilR : ∀ {H : Hp}, RA K H [] := fun z m => by simp at m
    have ho := odd5_pr p
    have hne := odd5_ne p
    refine ⟨p, rfl, ?_⟩
    generalize odd5 p = o at ho hne ⊢
    refine ⟨_, rfl, by show 0 ≤ sizeLine; decide, fun l1 n1 => ?_⟩
    have q1 : Same H (upd H l1 (.lst [])) := same_upd n1
    have e1 : (upd H l1 (.lst [])) l1 = some (.lst []) := upd_same
    generalize upd H l1 (.lst []) = G1 at q1 e1
    intro y1 d1 ny1 nd1 ne1
    refine mkt_l (t := 0) (w := 2) (zs := []) ny1 nd1 ne1 hp (by decide) (by decide) (nilA e1) nilR rfl (fun l m => by simp [rn] at m) fun H1 T1 s1 => ⟨rfl, ?_⟩
    refine ⟨_, rfl, by show 0 ≤ sizeLine; decide, fun l2 n2 => ?_⟩
    have q2 : Same H1 (upd H1 l2 (.lst [])) := same_upd n2
    have e2 : (upd H1 l2 (.lst [])) l2 = some (.lst []) := upd_same
    generalize upd H1 l2 (.lst []) = G2 at q2 e2
    intro y2 d2 ny2 nd2 ne2
    refine mkt_l (t := 0) (w := 3) (zs := []) ny2 nd2 ne2 hp (by decide) (by decide) (nilA e2) nilR rfl (fun l m => by simp [rn] at m) fun H2 T2 s2 => ⟨rfl, ?_⟩
    refine ⟨y1, y2, p, 0, 2, _, p, 0, 3, _, rfl, rfl, T1.same (q2.trans s2), T2, fun H3 s3 => ?_⟩
    refine ⟨_, rfl, ?_⟩
    rw [eqT_f (by omega)]
    refine iteF ?_
    refine ⟨_, rfl, by show 0 ≤ sizeLine; decide, fun l4 n4 => ?_⟩
    have q4 : Same H3 (upd H3 l4 (.lst [])) := same_upd n4
    have e4 : (upd H3 l4 (.lst [])) l4 = some (.lst []) := upd_same
    generalize upd H3 l4 (.lst []) = G4 at q4 e4
    intro y4 d4 ny4 nd4 ne4
    refine mkt_l (t := 0) (w := 2) (zs := []) ny4 nd4 ne4 hp (by decide) (by decide) (nilA e4) nilR rfl (fun l m => by simp [rn] at m) fun H4 T4 s4 => ⟨rfl, ?_⟩
    refine ⟨_, rfl, by show 0 ≤ sizeLine; decide, fun l5 n5 => ?_⟩
    have q5 : Same H4 (upd H4 l5 (.lst [])) := same_upd n5
    have e5 : (upd H4 l5 (.lst [])) l5 = some (.lst []) := upd_same
    generalize upd H4 l5 (.lst []) = G5 at q5 e5
    intro y5 d5 ny5 nd5 ne5
    refine mkt_l (t := 0) (w := 2) (zs := []) ny5 nd5 ne5 ho (by decide) (by decide) (nilA e5) nilR rfl (fun l m => by simp [rn] at m) fun H5 T5 s5 => ⟨rfl, ?_⟩
    refine ⟨y4, y5, p, 0, 2, _, o, 0, 2, _, rfl, rfl, T4.same (q5.trans s5), T5, fun H6 s6 => ?_⟩
    refine ⟨_, rfl, ?_⟩
    rw [eqT_f (fun z => hne z.1)]
    refine iteF ?_
    refine ⟨_, rfl, by show 0 ≤ sizeLine; decide, fun a7 m7 => ⟨by show 0 ≤ sizeLine; decide, fun b7 u7 => ⟨by show 2 ≤ sizeLine; decide, fun l7 n7 => ?_⟩⟩⟩
    have q7 : Same H6 (upd (upd (upd H6 a7 (.lst [])) b7 (.lst [])) l7 (.lst [.ref a7, .ref b7])) := ((same_upd m7).trans (same_upd u7)).trans (same_upd n7)
    have e7 : (upd (upd (upd H6 a7 (.lst [])) b7 (.lst [])) l7 (.lst [.ref a7, .ref b7])) l7 = some (.lst (rv [(a7, []), (b7, [])])) := upd_same
    have r7 : RL (upd (upd (upd H6 a7 (.lst [])) b7 (.lst [])) l7 (.lst [.ref a7, .ref b7])) [(a7, []), (b7, [])] := fun z m => by
      rcases List.mem_cons.mp m with m | m
      · rw [m]; exact same_upd n7 _ _ (same_upd u7 _ _ upd_same)
      · rw [List.mem_singleton] at m; rw [m]; exact same_upd n7 _ _ upd_same
    generalize upd (upd (upd H6 a7 (.lst [])) b7 (.lst [])) l7 (.lst [.ref a7, .ref b7]) = G7 at q7 e7 r7
    intro y7 d7 ny7 nd7 ne7
    refine mkt_l (t := 2) (w := 0) (zs := [(a7, []), (b7, [])]) ny7 nd7 ne7 hp (by decide) (by decide) (.inl (SqL.of e7)) r7.ra rfl (fun l m => by simp [rn] at m; rw [m]; rfl) fun H7 T7 s7 => ⟨rfl, ?_⟩
    refine ⟨_, rfl, by show 0 ≤ sizeLine; decide, fun a8 m8 => ⟨by show 0 ≤ sizeLine; decide, fun b8 u8 => ⟨by show 2 ≤ sizeLine; decide, fun l8 n8 => ?_⟩⟩⟩
    have q8 : Same H7 (upd (upd (upd H7 a8 (.lst [])) b8 (.lst [])) l8 (.lst [.ref a8, .ref b8])) := ((same_upd m8).trans (same_upd u8)).trans (same_upd n8)
    have e8 : (upd (upd (upd H7 a8 (.lst [])) b8 (.lst [])) l8 (.lst [.ref a8, .ref b8])) l8 = some (.lst (rv [(a8, []), (b8, [])])) := upd_same
    have r8 : RL (upd (upd (upd H7 a8 (.lst [])) b8 (.lst [])) l8 (.lst [.ref a8, .ref b8])) [(a8, []), (b8, [])] := fun z m => by
      rcases List.mem_cons.mp m with m | m
      · rw [m]; exact same_upd n8 _ _ (same_upd u8 _ _ upd_same)
      · rw [List.mem_singleton] at m; rw [m]; exact same_upd n8 _ _ upd_same
    generalize upd (upd (upd H7 a8 (.lst [])) b8 (.lst [])) l8 (.lst [.ref a8, .ref b8]) = G8 at q8 e8 r8
    intro y8 d8 ny8 nd8 ne8
    refine mkt_l (t := 2) (w := 0) (zs := [(a8, []), (b8, [])]) ny8 nd8 ne8 ho (by decide) (by decide) (.inl (SqL.of e8)) r8.ra rfl (fun l m => by simp [rn] at m; rw [m]; rfl) fun H8 T8 s8 => ⟨rfl, ?_⟩
    refine ⟨y7, y8, p, 2, 0, _, o, 2, 0, _, rfl, rfl, T7.same (q8.trans s8), T8, fun H9 s9 => ?_⟩
    refine ⟨_, rfl, ?_⟩
    rw [eqT_f (fun z => hne z.1)]
    refine iteF ?_
    refine ⟨_, rfl, by show 0 ≤ sizeLine; decide, fun l10 n10 => ?_⟩
    have q10 : Same H9 (upd H9 l10 (.lst [])) := same_upd n10
    have e10 : (upd H9 l10 (.lst [])) l10 = some (.lst []) := upd_same
    generalize upd H9 l10 (.lst []) = G10 at q10 e10
    intro y10 d10 ny10 nd10 ne10
    refine mkt_l (t := 0) (w := 0) (zs := []) ny10 nd10 ne10 hp (by decide) (by decide) (nilA e10) nilR rfl (fun l m => by simp [rn] at m) fun H10 T10 s10 => ⟨rfl, ?_⟩
    refine ⟨_, rfl, by show 0 ≤ sizeLine; decide, fun l11 n11 => ?_⟩
    have q11 : Same H10 (upd H10 l11 (.tup [])) := same_upd n11
    have e11 : (upd H10 l11 (.tup [])) l11 = some (.tup []) := upd_same
    generalize upd H10 l11 (.tup []) = G11 at q11 e11
    intro y11 d11 ny11 nd11 ne11
    refine mkt_l (t := 0) (w := 0) (zs := []) ny11 nd11 ne11 hp (by decide) (by decide) (.inr (SqT.of e11)) nilR rfl (fun l m => by simp [rn] at m) fun H11 T11 s11 => ⟨rfl, ?_⟩
    refine ⟨y10, y11, p, 0, 0, _, p, 0, 0, _, rfl, rfl, T10.same (q11.trans s11), T11, fun H12 s12 => ?_⟩
    rw [show eqT p 0 0 (modT p (rn [])) p 0 0 (modT p (rn [])) = true from eqT_t p 0 0 _]
    exact k _ (((((((((((((((((((q1.trans s1).trans q2).trans s2).trans s3).trans q4).trans s4).trans q5).trans s5).trans s6).trans q7).trans s7).trans q8).trans s8).trans s9).trans q10).trans s10).trans q11).trans s11).trans s12)
end
end K01


set_option Elab.async false
set_option maxRecDepth 100000
set_option maxHeartbeats 4000000
set_option linter.all false
namespace K01
open PySem PySem.Spec PyProof.Rows L2 LamX GL
/-! what stays where tables of code may grow -/
section
variable {K : PySem.W.Frag} {H H' : Hp}
theorem TyX.ext (s : ExtN H H') {x : L2.V} {t : Value} (h : TyX K H x t) : TyX K H' x t := by
  cases h with
  | base h =>
    refine .base ?_
    cases h with
    | non => exact .non
    | bl x => exact .bl x
    | int x => exact .int x
    | str x => exact .str x
    | flt x => exact .flt x
    | lst e => exact .lst (s _ _ e (fun _ z => by cases z))
    | frz e => exact .frz (s _ _ e (fun _ z => by cases z))
    | tup e => exact .tup (s _ _ e (fun _ z => by cases z))
    | dK e => exact .dK (s _ _ e (fun _ z => by cases z))
    | dT e => exact .dT (s _ _ e (fun _ z => by cases z))
    | ins e c a b d f => exact .ins (s _ _ e (fun _ z => by cases z)) c a b d f
  | byt b => exact .byt b
  | set e => exact .set (s _ _ e (fun _ z => by cases z))
  | kList e c => exact .kList e c
  | kTuple e c => exact .kTuple e c
  | kDict e c => exact .kDict e c
  | fTuple e => exact .fTuple (s _ _ e (fun _ z => by cases z))
  | fDict e => exact .fDict (s _ _ e (fun _ z => by cases z))
theorem sqt_ext (s : ExtN H H') {a : Addr} {xs : List L2.V} (h : SqT K H a xs) : SqT K H' a xs := by
  rcases h with (h | ⟨o, h⟩) | h
  · exact .inl (.inl (s _ _ h (fun _ z => by cases z)))
  · exact .inl (.inr ⟨o, s _ _ h (fun _ z => by cases z)⟩)
  · exact .inr h
theorem sql_ext (s : ExtN H H') {a : Addr} {xs : List L2.V} (h : SqL K H a xs) : SqL K H' a xs := by
  rcases h with (h | ⟨o, h⟩) | h
  · exact .inl (.inl (s _ _ h (fun _ z => by cases z)))
  · exact .inl (.inr ⟨o, s _ _ h (fun _ z => by cases z)⟩)
  · exact .inr h
theorem sqa_ext (s : ExtN H H') {a : Addr} {xs : List L2.V} (h : SqA K H a xs) : SqA K H' a xs := by
  rcases h with h | h
  · exact .inl (sql_ext s h)
  · exact .inr (sqt_ext s h)
theorem ra_ext (s : ExtN H H') {zs : Rs} (p : RA K H zs) : RA K H' zs := fun z m => sqa_ext s (p z m)
theorem rl_ext (s : ExtN H H') {zs : Rs} (p : RL H zs) : RL H' zs := fun z m => s _ _ (p z m) (fun _ z => by cases z)
theorem rt_ext (s : ExtN H H') {zs : Rs} (p : RT H zs) : RT H' zs := fun z m => s _ _ (p z m) (fun _ z => by cases z)
theorem TabAt.ext {CT : Addr} (s : ExtN H H') {x : Addr} {p : Int} {t w : Nat} {L : List (List Int)} (h : TabAt CT H x p t w L) : TabAt CT H' x p t w L := by
  obtain ⟨dx, a, zs, e1, e2, e3, e4⟩ := h
  exact ⟨dx, a, zs, s _ _ e1 (fun _ z => by cases z), s _ _ e2 (fun _ z => by cases z), rt_ext s e3, e4⟩
theorem ts_ext {CT : Addr} (s : ExtN H H') {ts : List Tb} (h : TsAt CT H ts) : TsAt CT H' ts := fun z m => ⟨TabAt.ext s (h z m).1, (h z m).2⟩
theorem draw_ext (s : ExtN H H') {d lg cl : Addr} (D : DrawAt H d lg cl) : DrawAt H' d lg cl := by
  obtain ⟨⟨r, t, hd⟩, ⟨L, hL, hl⟩, ⟨M, hM, hc⟩, ncl⟩ := D
  exact ⟨⟨r, t, s _ _ hd (fun _ z => by cases z)⟩, ⟨L, hL, s _ _ hl (fun _ z => by cases z)⟩, ⟨M, hM, s _ _ hc (fun _ z => by cases z)⟩, ncl⟩
end
/-- kept but for the draws and the tables -/
def KeptN (d lg : Addr) (H H' : Hp) : Prop := ∀ b o, H b = some o → b ≠ d → b ≠ lg → (∀ ps, o ≠ .tbl ps) → H' b = some o
theorem KeptN.refl {d lg : Addr} {H : Hp} : KeptN d lg H H := fun _ _ e _ _ _ => e
theorem KeptN.trans {d lg : Addr} {H H1 H2 : Hp} (a : KeptN d lg H H1) (b : KeptN d lg H1 H2) : KeptN d lg H H2 := fun x o e h1 h2 n => b x o (a x o e h1 h2 n) h1 h2 n
theorem Kept.n {d lg : Addr} {H H' : Hp} (k : Kept d lg H H') : KeptN d lg H H' := fun b o e h1 h2 _ => k b o e h1 h2
theorem KeptN.ext {d lg : Addr} {H H' : Hp} (k : ExtN H H') : KeptN d lg H H' := fun b o e _ _ n => k b o e n
theorem KeptN.same {d lg : Addr} {H H' : Hp} (k : Same H H') : KeptN d lg H H' := fun b o e _ _ _ => k b o e
theorem ExtN.same {H H' : Hp} (k : Same H H') : ExtN H H' := fun b o e _ => k b o e
theorem Tabs.kept {T : List (Addr × Str)} {d lg cl : Addr} {H H' : Hp} (D : DrawAt H d lg cl) (k : Kept d lg H H') (t : Tabs T H) : Tabs T H' := fun p hp => by
  obtain ⟨⟨r, t', hd⟩, ⟨L, hL, hl⟩, _, _⟩ := D
  obtain ⟨ps, h1, h2, h3⟩ := t p hp
  have key : ∀ b o, H b = some o → (∀ kvs, o ≠ .dK kvs) → (∀ xs, o ≠ .lst xs) → H' b = some o := fun b o e n1 n2 => k b o e (fun z => by rw [z, hd] at e; exact n1 _ (Option.some.inj e).symm) (fun z => by rw [z, hl] at e; exact n2 _ (Option.some.inj e).symm)
  refine ⟨ps, key _ _ h1 (fun _ z => by cases z) (fun _ z => by cases z), h2, fun pos cv hc => ?_⟩
  obtain ⟨c, e1, e2⟩ := h3 pos cv hc
  exact ⟨c, e1, key _ _ e2 (fun _ z => by unfold CodeO at z; cases z) (fun _ z => by unfold CodeO at z; cases z)⟩
/-! a(e, ..), a holding a def of the text -/
def tCallV (P : Program) (w : World) (K : PySem.W.Frag) (mg : Str → Option Value) (base : Heap) (CX : CXT) (k i : Nat) (E : XK) (t : TA) : TE := fun σ H Q => ∃ (f : Addr) (fd : FuncData) (ps : List Str) (sp : Sp), FnOk P w K mg base CX k f fd ps sp ∧ PySem.W.keepIn K (.ref f) = true ∧ L2.Binds K fd ps [] ∧
  σ[i]? = some (some (.ref f)) ∧ t σ H fun vs H1 => sp vs H1 Q E
theorem pe_callVar {X : Cx} {CX : CXT} {k i : Nat} {E : XK} {a : Str} {e : Expr} {es : List Expr} {t : TA} {p pos : Pos} (hr : Room k X.A) (hx : Passes CX X E) (hN : X.N[i]? = some a) (hv : Vis X.env.scope a) (ha : PA X (e :: es) t)
    (hd : (a == ("__debug__" : Str)) = false := by decide) (hcd : (a == ("__classdict__" : Str)) = false := by decide) (he : starEach (e :: es) X.env = (false, eval e X.env) :: starEach es X.env := by rfl) (hpl : (backTo pos (starEach es X.env)).any (·.1) = false := by rfl) :
    PE X (.Call (.Name a p) (e :: es) [] pos) (tCallV X.prog X.w X.K X.mg X.base CX k i E t) := by
  refine ⟨fun pins s σ H Q I h => ?_⟩
  obtain ⟨f, fd, ps, sp, F, hk, hb, hs, ht⟩ := h
  refine wpAny_Call_Name_kw (thn ((pe_var (pos := p) (i := i) hN hv hd hcd).run pins s σ H (fun v H1 => v = .ref f ∧ H1 = H) I ⟨.ref f, hs, rfl, rfl⟩) fun u s1 ⟨v, H1, I1, r1, q1⟩ => ?_)
  obtain ⟨ev, eH⟩ := q1
  subst ev
  rw [eH] at I1
  obtain rfl : u = Value.ref f := r1
  refine PySem.W.callWith_K (h₀ := X.base) I1.ok.mod.kin hk (thn (ha.run pos pins s1 σ H _ I1 ht) fun us s2 ⟨vs, H2, I2, r, q⟩ => ⟨I2.kIn, ?_⟩) he hpl
  exact run_fn (dvs := []) F hr hb .nil hx I2 r (by rw [List.append_nil]; exact q)
/-! a def whose code object is known -/
structure FunC (K : PySem.W.Frag) (x qual : Str) (st : Stmt) (f : Addr) (fd : FuncData) (c : Addr) : Prop where
  ex : ∃ (oc : Value) (od : Option Addr) (kV doc pm : Value) (an : Option Addr) (ct : Value) (osl : Array (Option Value)),
    fd = PySem.W.fnOf x qual (defArgs st) (defBody st) (defScope st) .none kV doc pm an (.ref c) ct ∧ K.lookup f = some ⟨oc, od, .func fd, osl⟩ ∧ PySem.W.codeIn K (.ref c) qual = true
  kp : PySem.W.keepIn K (.ref f) = true
theorem FunC.f {K : PySem.W.Frag} {x qual : Str} {st : Stmt} {f : Addr} {fd : FuncData} {c : Addr} (F : FunC K x qual st f fd c) : Fun K x qual st f fd := by
  obtain ⟨oc, od, kV, doc, pm, an, ct, osl, a, b, d⟩ := F.ex
  exact ⟨⟨oc, od, kV, doc, pm, an, _, ct, osl, a, b, d⟩, F.kp⟩
theorem FunC.ok {P : Program} {w : World} {K : PySem.W.Frag} {mg : Str → Option Value} {base : Heap} {x qual : Str} {st : Stmt} {f c : Addr} {fd : FuncData} {N ps : List Str} {k : Nat} {sp : Sp} (F : FunC K x qual st f fd c) (S : FnScope N ps (defScope st)) (len : ∀ vs H Q E, sp vs H Q E → vs.length = ps.length)
    (hbody : ∀ (A : Around) (outer : List Env) (s : Shared) (H : Hp) (vs : List L2.V) (Q : VK) (E : XK), Room k (A.deeper (envOfC qual (defScope st) s.heap.objs.size f (.ref c))) → sp vs H Q E →
      ∃ t, PSs (cxOf L2.CX0 P w K mg base N qual (defScope st) f (.ref c) A outer s H E).nox (defBody st) t ∧ t { nx := fun _ H' => Q .non H', rt := Q } (L2.start N vs) H) : FnOk P w K mg base L2.CX0 (k + 1) f fd ps sp := by
  obtain ⟨oc, od, kV, doc, pm, an, ct, osl, rfl, lk, hcd⟩ := F.ex
  refine fn_of lk hcd S len fun A outer s H vs Q E hr hsp => ?_
  obtain ⟨t, h, q⟩ := hbody A outer s H vs Q E hr hsp
  exact ⟨t, h.nox, q⟩
theorem FunC.okG {P : Program} {w : World} {K : PySem.W.Frag} {mg : Str → Option Value} {base : Heap} {x qual : Str} {st : Stmt} {f c : Addr} {fd : FuncData} {N ps : List Str} {k : Nat} {sp : Sp} (F : FunC K x qual st f fd c) (S : FnScope N ps (defScope st)) (len : ∀ vs H Q E, sp vs H Q E → vs.length = ps.length)
    (hbody : ∀ (A : Around) (outer : List Env) (s : Shared) (H : Hp) (vs : List L2.V) (Q : VK) (E : XK), A.guards = some [] → Room k (A.deeper (envOfC qual (defScope st) s.heap.objs.size f (.ref c))) → sp vs H Q E →
      ∃ t, PSs (cxOf L2.CX0 P w K mg base N qual (defScope st) f (.ref c) A outer s H E).nox (defBody st) t ∧ t { nx := fun _ H' => Q .non H', rt := Q } (L2.start N vs) H) : FnG P w K mg base L2.CX0 (k + 1) f fd ps sp := by
  obtain ⟨oc, od, kV, doc, pm, an, ct, osl, rfl, lk, hcd⟩ := F.ex
  refine fng_of lk hcd S len fun A outer s H vs Q E hga hr hsp => ?_
  obtain ⟨t, h, q⟩ := hbody A outer s H vs Q E hga hr hsp
  exact ⟨t, h.nox, q⟩
/-! ### a lambda that is kept -/
/-- what a lambda was made of -/
structure LamD where
  q : Str
  params : Arguments
  body : Expr
  scope : Scope
  cl : List (Str × Addr)
  c : Addr
def LamD.at_ (L : LamD) (f : Addr) (h : Heap) : Prop := ∃ pm ctv : Value, h.get? f = some (PySem.W.kla_obj "<lambda>" L.q L.params L.body L.scope L.cl pm L.c ctv)
def LamO (f : Addr) (L : LamD) : HO := .ext (L.at_ f)
theorem lamO_at {P : Program} {w : World} {H : Hp} {h : Heap} {f : Addr} {L : LamD} (hok : HOk P w H h) (e : H f = some (LamO f L)) : L.at_ f h :=
  let ⟨z, _, _⟩ := hok f _ e
  z
theorem lamO_new {P : Program} {w : World} {H : Hp} {h : Heap} {f : Addr} {L : LamD} (e : L.at_ f h) : ObjOk P w H h f (LamO f L) := by
  obtain ⟨pm, ctv, e⟩ := e
  exact ⟨⟨pm, ctv, e⟩, ⟨_, e⟩, fun h1 h2 ⟨pm, ctv, e⟩ st => ⟨pm, ctv, st _ e⟩⟩
theorem lamO_ne {f : Addr} {L : LamD} (ps : Array Value) : LamO f L ≠ .tbl ps := fun z => by
  unfold LamO at z
  cases z
/-- the value itself, known by what stands where it is called -/
def FunW (fs0 : List Addr) (s0 : Shared) (H0 : Hp) (f : Addr) (pre : Hp → Prop) : Prop := ∀ (P : Program) (w : World) (fs : List Addr) (s : Shared) (H : Hp), From fs0 s0 H0 fs s H → pre H → HOk P w H s.heap → PySem.W.FnAt f s.heap
def TakesW (P : Program) (w : World) (K : PySem.W.Frag) (mg : Str → Option Value) (base : Heap) (j : Nat) (g : Addr) (TT : (XK → Hp → VK → Prop) → Hp → VK → Prop) : Prop :=
  ∀ (kl : Nat) (fs0 : List Addr) (s0 : Shared) (H0 : Hp) (f : Addr) (pre : Hp → Prop) (tl : XK → Hp → VK → Prop) (A : Around) (outer : List Env) (s : Shared) (H : Hp) (Q : VK), Room (kl + j) A → Env0 P w K mg base A outer s H → From fs0 s0 H0 (frs outer) s H →
    FunW fs0 s0 H0 f pre → Acts P w K mg base fs0 s0 H0 kl f pre tl → pre H → TT tl H Q → codeAny (model P w) A (.call (.ref g) ⟨[.ref f], []⟩) (CR L2.CX0 outer P w H s Q (fun _ _ _ => False)) s
section
variable {Z : Cx} {fs0 : List Addr} {s0 : Shared} {H0 : Hp} {k : Nat} {f : Addr} {pre : Hp → Prop} {tl : XK → Hp → VK → Prop}
theorem pe_actW {W : WX} {i : Nat} {a : Str} {p1 p2 : Pos} (F : From fs0 s0 H0 Z.fs Z.s_0 Z.H_0) (hex : Z.ex = []) (V : FunW fs0 s0 H0 f pre) (AC : Acts Z.prog Z.w Z.K Z.mg Z.base fs0 s0 H0 k f pre tl) (tk : Takes Z W) (hr : Room k Z.A)
    (hN : Z.N[i]? = some a) (hv : Vis Z.env.scope a) (hd : (a == ("__debug__" : Str)) = false := by decide) (hcd : (a == ("__classdict__" : Str)) = false := by decide) :
    PE Z (.Call (.Name a p1) [] [] p2) (fun σZ HZ Q => ∃ (E : XK) (Q0 : VK), (∀ cls d H', E cls d H' → W cls d σZ H') ∧ (∀ v H', Q0 v H' → Q v H') ∧ σZ[i]? = some (some (.ref f)) ∧ pre HZ ∧ tl E HZ Q0) := by
  refine ⟨fun pinsZ sZ σZ HZ Q IZ h => ?_⟩
  obtain ⟨E, Q0, hW, hQ, hs, hc, ht⟩ := h
  refine wpAny_Call_Name_kw (thn ((pe_var (pos := p1) (i := i) hN hv hd hcd).run pinsZ sZ σZ HZ (fun v H1 => v = .ref f ∧ H1 = HZ) IZ ⟨.ref f, hs, rfl, rfl⟩) fun u s1 ⟨v, H1, I1, r1, q1⟩ => ?_)
  obtain ⟨ev, eH⟩ := q1
  subst ev
  rw [eH] at I1
  obtain rfl : u = Value.ref f := r1
  have F1 := F.step hex I1
  refine PySem.W.callWith_F0 (V _ _ _ _ _ F1 hc I1.hok) ?_
  refine wpAny_call (codeAny_mono (AC Z.A Z.stack s1 HZ Q0 E hr I1.env0 F1 hc ht) fun r s' hq => ?_)
  cases r with
  | error e => exact tk e s' (XE.of_call I1 hW hq)
  | ok fl =>
    cases fl with
    | ret u => exact (let ⟨v, H', J, rv, q⟩ := I1.after hq; ⟨v, H', J, rv, hQ _ _ q⟩)
    | next => exact False.elim hq
    | brk => exact False.elim hq
    | cont => exact False.elim hq
theorem pe_passW {j i : Nat} {g : Addr} {TT : (XK → Hp → VK → Prop) → Hp → VK → Prop} {x a : Str} {p pa pos : Pos} (F : From fs0 s0 H0 Z.fs Z.s_0 Z.H_0) (hex : Z.ex = []) (V : FunW fs0 s0 H0 f pre) (AC : Acts Z.prog Z.w Z.K Z.mg Z.base fs0 s0 H0 k f pre tl) (hG : TakesW Z.prog Z.w Z.K Z.mg Z.base j g TT) (hr : Room (k + j) Z.A)
    (hg : Gl Z x) (hm : Z.mg x = some (.ref g)) (hk : PySem.W.keepIn Z.K (.ref g) = true) (hN : Z.N[i]? = some a) (hv : Vis Z.env.scope a) (hdb : (x == ("__debug__" : Str)) = false := by decide) (hd : (a == ("__debug__" : Str)) = false := by decide) (hcd : (a == ("__classdict__" : Str)) = false := by decide) :
    PE Z (.Call (.Name x p) [.Name a pa] [] pos) (fun σZ HZ Q => ∃ Q0 : VK, (∀ v H', Q0 v H' → Q v H') ∧ σZ[i]? = some (some (.ref f)) ∧ pre HZ ∧ TT tl HZ Q0) := by
  refine ⟨fun pinsZ sZ σZ HZ Q IZ h => ?_⟩
  obtain ⟨Q0, hQ, hs, hc, ht⟩ := h
  refine wpAny_Call_Name_kw (ld_glob IZ hg hm ?_ hdb)
  refine PySem.W.callWith_K (h₀ := Z.base) IZ.ok.mod.kin hk ?_ (by rfl) (by rfl)
  show wpAny _ _ (spliced ((false, eval (.Name a pa) Z.env) :: backTo pos (starEach [] Z.env))) _ _ sZ
  refine Calls.spliced_cons (thn ((pe_var (pos := pa) (i := i) hN hv hd hcd).run pinsZ sZ σZ HZ (fun v H1 => v = .ref f ∧ H1 = HZ) IZ ⟨.ref f, hs, rfl, rfl⟩) fun u s1 ⟨v, H1, I1, r1, q1⟩ => ?_)
  obtain ⟨ev, eH⟩ := q1
  subst ev
  rw [eH] at I1
  obtain rfl : u = Value.ref f := r1
  refine Calls.spliced_nil ⟨I1.kIn, ?_⟩
  refine wpAny_call (codeAny_mono (hG k fs0 s0 H0 f pre tl Z.A Z.stack s1 HZ Q0 hr I1.env0 (F.step hex I1) V AC hc ht) fun r s' hq => ?_)
  cases r with
  | error e => exact (show False from hq).elim
  | ok fl =>
    cases fl with
    | ret u => exact (let ⟨v, H', J, rv, q⟩ := I1.after hq; ⟨v, H', J, rv, hQ _ _ q⟩)
    | next => exact False.elim hq
    | brk => exact False.elim hq
    | cont => exact False.elim hq
end
section
variable {X : Cx} {pins : List (Addr × Obj)} {σ : L2.St} {H : Hp} {s : Shared}
/-- a lambda that stands tracked, where it is called -/
theorem lam_actsK {f : Addr} {L : LamD} {k : Nat} {t : XK → TE} (I : Inv X pins σ H s) (S : LamS X.env.scope L.scope) (hq : L.q = X.env.qual ++ "<lambda>") (hcl : L.cl = cloFrom X.env.cells L.scope.names [])
    (hbind : ∀ pm ctv : Value, bindArgs (PySem.W.kla_fn "<lambda>" (X.env.qual ++ "<lambda>") L.params L.body L.scope (cloFrom X.env.cells L.scope.names []) pm (.ref L.c) ctv) ⟨[], []⟩ = pure [])
    (hbody : ∀ (A : Around) (outer : List Env) (s : Shared) (H : Hp) (E : XK), Room k (A.deeper (lamEnv X L.scope s.heap.objs.size f L.c)) → PE (lamCx X A outer s H E L.scope f L.c) L.body (t E)) :
    FunW (frs X.stack) s H f (fun HZ => HZ L.c = some (CodeO L.c (X.env.qual ++ "<lambda>")) ∧ HZ f = some (LamO f L)) ∧ Acts X.prog X.w X.K X.mg X.base (frs X.stack) s H (k + 1) f (fun HZ => HZ L.c = some (CodeO L.c (X.env.qual ++ "<lambda>")) ∧ HZ f = some (LamO f L)) (fun E H' Q' => t E σ H' Q') := by
  obtain ⟨q, params, body, scope, cl, c'⟩ := L
  dsimp only at hq hcl S hbind hbody
  subst hq hcl
  refine ⟨fun P w fs s1 HZ FR hc hok => ?_, fun A outer s1 HZ Q E hr e0 FR hc ht => ?_⟩
  · obtain ⟨pm, ctv, e⟩ := lamO_at hok hc.2
    exact ⟨_, _, _, _, e⟩
  obtain ⟨hc, hf⟩ := hc
  obtain ⟨pm, ctv, of1⟩ := lamO_at e0.hok hf
  obtain ⟨⟨oc, vs, t', hoc, hdc, hvc⟩, _, _⟩ := e0.hok c' _ hc
  have lim : s1.heap.NoLimit := e0.mod.nolimit.keeps fun b o e => (e0.bs b o e).1
  refine PySem.W.kla_callFunE hr.depth of1 rfl S.co S.gen rfl ⟨c', oc, vs, t', rfl, hoc, hdc, hvc⟩ ?_
  rw [hbind]
  refine wpAny_pure (wpAny_newFunctionEnv (fun y hy => (S.own y hy).2) (fun y hy => absurd hy (by simp)) (fun h₁ hns hsb => ⟨lim.fresh _ hsb, ?_⟩) S.kind)
  show codeAny _ _ (.expr body (lamEnv X scope s1.heap.objs.size f c')) _ _
  have kp : ∀ b o, s1.heap.get? b = some o → h₁.get? b = some o := fun b o e => hsb.extBut b o (Nat.ne_of_lt (Heap.lt_size e)) (Heap.get?_push_of_some _ e)
  have J : Inv (lamCx X A outer s1 HZ E scope f c') [] σ HZ { s1 with heap := h₁, toks := s1.toks + ([] : List (Str × Value)).length } :=
    lam_start2 I S e0 hr.hd FR.un hns kp
  refine PySem.W.kla_codeExpr (wpAny_mono ((hbody _ _ s1 HZ E (hr.deeper _)).run [] _ _ HZ Q J ht) (fun v s' hq => ?_) fun e s' hq => hq)
  obtain ⟨w', H', J', rv, q⟩ := hq
  exact ⟨w', H', J'.os, J'.bare, J'.base, J'.hok, rv, q⟩
/-- x(a), a holding a lambda of this body that was kept -/
def tUseW (X : Cx) (TT : (XK → Hp → VK → Prop) → Hp → VK → Prop) (k i : Nat) : TE := fun σ H Q => ∃ (f : Addr) (L : LamD) (t : XK → TE), σ[i]? = some (some (.ref f)) ∧ H L.c = some (CodeO L.c (X.env.qual ++ "<lambda>")) ∧ H f = some (LamO f L) ∧ LamS X.env.scope L.scope ∧ L.q = X.env.qual ++ "<lambda>" ∧ L.cl = cloFrom X.env.cells L.scope.names [] ∧
  (∀ pm ctv : Value, bindArgs (PySem.W.kla_fn "<lambda>" (X.env.qual ++ "<lambda>") L.params L.body L.scope (cloFrom X.env.cells L.scope.names []) pm (.ref L.c) ctv) ⟨[], []⟩ = pure []) ∧
  (∀ (A : Around) (outer : List Env) (s : Shared) (H : Hp) (E : XK), Room k (A.deeper (lamEnv X L.scope s.heap.objs.size f L.c)) → PE (lamCx X A outer s H E L.scope f L.c) L.body (t E)) ∧ TT (fun E H' Q' => t E σ H' Q') H Q
theorem pe_useW {TT : (XK → Hp → VK → Prop) → Hp → VK → Prop} {x a : Str} {g : Addr} {j k i : Nat} {p pa pos : Pos} (hg : Gl X x) (hm : X.mg x = some (.ref g)) (hk : PySem.W.keepIn X.K (.ref g) = true) (hG : TakesW X.prog X.w X.K X.mg X.base j g TT) (hr : Room (k + 1 + j) X.A)
    (hN : X.N[i]? = some a) (hv : Vis X.env.scope a) (hdb : (x == ("__debug__" : Str)) = false := by decide) (hd : (a == ("__debug__" : Str)) = false := by decide) (hcd : (a == ("__classdict__" : Str)) = false := by decide) :
    PE X (.Call (.Name x p) [.Name a pa] [] pos) (tUseW X TT k i) := by
  refine ⟨fun pinsZ sZ σZ HZ Q IZ h => ?_⟩
  obtain ⟨f, L, t, hs, hc, hf, S, hq, hcl, hb, hbody, ht⟩ := h
  refine wpAny_Call_Name_kw (ld_glob IZ hg hm ?_ hdb)
  refine PySem.W.callWith_K (h₀ := X.base) IZ.ok.mod.kin hk ?_ (by rfl) (by rfl)
  show wpAny _ _ (spliced ((false, eval (.Name a pa) X.env) :: backTo pos (starEach [] X.env))) _ _ sZ
  refine Calls.spliced_cons (thn ((pe_var (pos := pa) (i := i) hN hv hd hcd).run pinsZ sZ σZ HZ (fun v H1 => v = .ref f ∧ H1 = HZ) IZ ⟨.ref f, hs, rfl, rfl⟩) fun u s1 ⟨v, H1, I1, r1, q1⟩ => ?_)
  obtain ⟨ev, eH⟩ := q1
  subst ev
  rw [eH] at I1
  obtain rfl : u = Value.ref f := r1
  refine Calls.spliced_nil ⟨I1.kIn, ?_⟩
  obtain ⟨V, AC⟩ := lam_actsK I1 S hq hcl hb hbody
  refine wpAny_call (codeAny_mono (hG (k + 1) _ s1 HZ f _ _ X.A X.stack s1 HZ Q hr I1.env0 (From.refl _ _ _) V AC ⟨hc, hf⟩ ht) fun r s' hq => ?_)
  cases r with
  | error e => exact (show False from hq).elim
  | ok fl =>
    cases fl with
    | ret u => exact I1.after hq
    | next => exact False.elim hq
    | brk => exact False.elim hq
    | cont => exact False.elim hq
/-- the lambda as a value -/
def tLamK (X : Cx) (T : List (Addr × Str)) (params : Arguments) (body : Expr) (scope : Scope) : TE := fun σ H Q => Tabs T H ∧ ∀ (f c' : Addr) (H1 : Hp), ExtN H H1 → Tabs T H1 → H f = none → H1 f = some (LamO f ⟨X.env.qual ++ "<lambda>", params, body, scope, cloFrom X.env.cells scope.names [], c'⟩) → H1 c' = some (CodeO c' (X.env.qual ++ "<lambda>")) → Q (.ref f) H1
theorem pe_lamKeep {T : List (Addr × Str)} {c P : Addr} {params : Arguments} {body : Expr} {scope : Scope} {pos : Pos} (TB : TabB X.base X.mg c P) (hcode : X.env.code = .ref c) (hm : (P, X.env.qual ++ "<lambda>") ∈ T) (hu : ∀ p ∈ T, p.1 = P → p.2 = X.env.qual ++ "<lambda>")
    (L : LamS X.env.scope scope) (hdef : defaultsOf params X.env = ([], [])) : PE X (.Lambda params body scope pos) (tLamK X T params body scope) := by
  refine ⟨fun pins s σ H Q I q => ?_⟩
  obtain ⟨hT, q⟩ := q
  obtain ⟨ps, hP, ht, ha⟩ := hT _ hm
  have hfree := L.has I.ok
  have bP : s.heap.BuiltinsAt X.mg P := TB.bm.keeps I.bk
  have hP' : s.heap.get? P = some { cls := .none, data := .fields ps } := I.hok P _ hP
  refine PySem.W.kla_eval hdef ?_
  cases hc : codeAmong pos ps.toList with
  | some cv =>
    obtain ⟨c', e, hco⟩ := ha pos cv hc
    subst e
    refine PySem.W.kla_makeFunctionHit (ps := ps) (P := P) (c := c) (mg := X.mg) (closure_ok hfree) I.ok.glob (I.mod.glob.keeps I.bk) hcode (TB.code.keeps I.bk) hP' ht hc bP fun ctv h' tk old ge => ?_
    have I0 : Inv X pins σ H { s with heap := h', toks := tk } := I.kept old
    have nf : H h'.objs.size = none := I0.hok.fresh (Nat.le_refl _)
    have I1 := I0.laid (t' := tk) (a := h'.objs.size) (o := LamO h'.objs.size ⟨X.env.qual ++ "<lambda>", params, body, scope, cloFrom X.env.cells scope.names [], c'⟩) (h' := h'.push (PySem.W.kla_obj "<lambda>" (X.env.qual ++ "<lambda>") params body scope (cloFrom X.env.cells scope.names []) ((X.mg "__name__").getD .none) c' ctv))
      (fun b u e => Heap.get?_push_of_some _ e) (Nat.le_refl _) (lamO_new ⟨_, _, Heap.get?_push_size _ rfl⟩)
    have st : Same H (upd H h'.objs.size (LamO h'.objs.size ⟨X.env.qual ++ "<lambda>", params, body, scope, cloFrom X.env.cells scope.names [], c'⟩)) := same_upd nf
    exact ⟨.ref h'.objs.size, _, I1, rfl, q _ c' _ (ExtN.same st) (hT.ext st) nf upd_same (st _ _ hco)⟩
  | none =>
    refine PySem.W.kla_makeFunction (ps := ps) (P := P) (c := c) (mg := X.mg) (closure_ok hfree) I.ok.glob (I.mod.glob.keeps I.bk) hcode (TB.code.keeps I.bk) hP' ht hc TB.gP bP fun c' ctv h' tk old ge lt rec tb => ?_
    obtain ⟨c2, oc, vs, t, e2, hoc, hd, hv⟩ := rec
    cases e2
    have nC : H c' = none := I.hok.fresh ge
    have I0 := inv_table (t' := tk) (more := #[rawInt pos.line, rawInt pos.col, .ref c']) (h' := h') I hP old tb ge ⟨oc, vs, t, hoc, hd, hv⟩
    have xE : ExtN H (upd (upd H P (.tbl (ps ++ #[rawInt pos.line, rawInt pos.col, .ref c']))) c' (CodeO c' (X.env.qual ++ "<lambda>"))) := fun b o e n => by
      have n1 : b ≠ c' := ne_of_none e nC
      have n2 : b ≠ P := fun z => by
        rw [z, hP] at e
        exact n ps (Option.some.inj e).symm
      rw [upd_ne n1, upd_ne n2, e]
    have tT : Tabs T (upd (upd H P (.tbl (ps ++ #[rawInt pos.line, rawInt pos.col, .ref c']))) c' (CodeO c' (X.env.qual ++ "<lambda>"))) := fun p hp => by
      by_cases hb : p.1 = P
      · have eL : (ps ++ #[rawInt pos.line, rawInt pos.col, .ref c']).toList = ps.toList ++ [rawInt pos.line, rawInt pos.col, .ref c'] := by simp
        rw [hu p hp hb, hb]
        refine ⟨_, (by rw [upd_ne (ne_of_none hP nC), upd_same]), (by rw [eL]; exact PySem.TriplesOk_snoc _ _ _ _ ht), fun p' cv hcv => ?_⟩
        rw [eL] at hcv
        rcases among_app _ ht hcv with z | z
        · obtain ⟨c0, e1, e2⟩ := ha p' cv z
          exact ⟨c0, e1, xE _ _ e2 codeO_ne⟩
        · exact ⟨c', z, upd_same⟩
      · obtain ⟨ps', a1, a2, a3⟩ := hT p hp
        refine ⟨ps', (by rw [upd_ne (ne_of_none a1 nC), upd_ne hb]; exact a1), a2, fun p' cv hcv => ?_⟩
        obtain ⟨c0, e1, e2⟩ := a3 p' cv hcv
        exact ⟨c0, e1, xE _ _ e2 codeO_ne⟩
    have hco : (upd (upd H P (.tbl (ps ++ #[rawInt pos.line, rawInt pos.col, .ref c']))) c' (CodeO c' (X.env.qual ++ "<lambda>"))) c' = some (CodeO c' (X.env.qual ++ "<lambda>")) := upd_same
    generalize upd (upd H P (.tbl (ps ++ #[rawInt pos.line, rawInt pos.col, .ref c']))) c' (CodeO c' (X.env.qual ++ "<lambda>")) = H1 at I0 xE tT hco
    have nf : H1 h'.objs.size = none := I0.hok.fresh (Nat.le_refl _)
    have nf0 : H h'.objs.size = none := I.hok.fresh (Nat.le_trans ge (Nat.le_of_lt lt))
    have I1 := I0.laid (t' := tk) (a := h'.objs.size) (o := LamO h'.objs.size ⟨X.env.qual ++ "<lambda>", params, body, scope, cloFrom X.env.cells scope.names [], c'⟩) (h' := h'.push (PySem.W.kla_obj "<lambda>" (X.env.qual ++ "<lambda>") params body scope (cloFrom X.env.cells scope.names []) ((X.mg "__name__").getD .none) c' ctv))
      (fun b u e => Heap.get?_push_of_some _ e) (Nat.le_refl _) (lamO_new ⟨_, _, Heap.get?_push_size _ rfl⟩)
    have st : Same H1 (upd H1 h'.objs.size (LamO h'.objs.size ⟨X.env.qual ++ "<lambda>", params, body, scope, cloFrom X.env.cells scope.names [], c'⟩)) := same_upd nf
    exact ⟨.ref h'.objs.size, _, I1, rfl, q _ c' _ (xE.trans (ExtN.same st)) (tT.ext st) nf0 upd_same (st _ _ hco)⟩
end
section
variable {P : Program} {w : World} {K : PySem.W.Frag} {mg : Str → Option Value} {base : Heap}
theorem caught_takesW {g CW : Addr} {fd : FuncData} (F : Fun K "_law_caught" "_law_caught" sCaught g fd) (b : L2.Binds K fd ["work"] []) (gW : mg "WebError" = some (.ref CW)) : TakesW P w K mg base 1 g (TTc K CW) := by
  intro kl fs0 s0 H0 f pre tl A outer s H Q hr e0 FR Vf AC hp ht
  obtain ⟨oc, od, kV, doc, pm, an, cdv, ct, osl, rfl, lk, hcd⟩ := F.ex
  have KX : K.In s.heap := e0.mod.kin.keeps fun b o e => (e0.bs b o e).1
  refine run_ofS (N := ["work", "caught", "error"]) (ps := ["work"]) (us := [.ref f]) (vs := [.ref f]) lk hcd scCaught hr e0 (b s [.ref f] KX rfl) (.cons rfl .nil) rfl fun hr' => ?_
  have nd := scCaught.nd
  have key : ∃ t, PSs (cxOf L2.CX0 P w K mg base ["work", "caught", "error"] "_law_caught" (defScope sCaught) g cdv A outer s H (fun _ _ _ => False)).nox (defBody sCaught) t ∧ t { nx := fun _ H' => Q .non H', rt := Q } (L2.start ["work", "caught", "error"] [.ref f]) H := by
    refine ⟨_, pss_cons (ps_set (i := 1) nd rfl (Or.inl rfl) pe_non) (pss_cons (ps_try_keep (X := (cxOf L2.CX0 P w K mg base ["work", "caught", "error"] "_law_caught" (defScope sCaught) g cdv A outer s H (fun _ _ _ => False)).nox) (c := .ref CW) (i := 2)
        (tb := fun W D σ H => ∃ (Ech : XK) (Q0 : VK), (∀ cls d H', Ech cls d H' → W cls d σ H') ∧ (∀ (v : V) H', Q0 v H' → D.nx σ H') ∧ σ[0]? = some (some (.ref f)) ∧ pre H ∧ tl Ech H Q0)
        rfl rfl rfl nd rfl rfl ⟨rfl, by decide, .inl gW⟩ L2.takes0 (fun W pn xe tk _ => ?_) (fun a oe cls d pn _ _ => pss_one (ps_set (i := 1) nd rfl (Or.inl rfl) (pv 2))))
      (pss_one (ps_ret (pv 1)))), ?_⟩
    · exact pss_one (ps_expr (pe_actW (i := 0) (a := "work") FR rfl Vf AC tk hr' rfl (.inl rfl)))
    · obtain ⟨E0, Q0, ht, hE, hQ⟩ := ht
      refine ⟨E0, Q0, fun cls d H' q => ?_, fun v H' q => ⟨_, rfl, hQ v H' q⟩, rfl, hp, ht⟩
      obtain ⟨e1, e2⟩ := hE cls d H' q
      exact ⟨true, e1, fun _ a na => ⟨_, rfl, fun _ => ⟨_, rfl, e2 a na⟩⟩, fun z => by cases z⟩
  obtain ⟨t, h1, h2⟩ := key
  exact ⟨t, h1.nox, h2⟩
theorem isbad_takesW {g fC CW CB : Addr} {fd : FuncData} (F : Fun K "_law_is_bad" "_law_is_bad" sIsBad g fd) (b : L2.Binds K fd ["work"] []) (GC : TakesW P w K mg base 1 fC (TTc K CW)) (gC : mg "_law_caught" = some (.ref fC)) (kC : PySem.W.keepIn K (.ref fC) = true) (gB : mg "BadTable" = some (.ref CB)) (B : BadN K CB CW) (mIs : mg "isinstance" = none) : TakesW P w K mg base 2 g (TTb CB) := by
  intro kl fs0 s0 H0 f pre tl A outer s H Q hr e0 FR Vf AC hp ht
  obtain ⟨oc, od, kV, doc, pm, an, cdv, ct, osl, rfl, lk, hcd⟩ := F.ex
  have KX : K.In s.heap := e0.mod.kin.keeps fun b o e => (e0.bs b o e).1
  refine run_ofS (N := ["work"]) (ps := ["work"]) (us := [.ref f]) (vs := [.ref f]) lk hcd scIsBad (k := kl + 1) hr e0 (b s [.ref f] KX rfl) (.cons rfl .nil) rfl fun hr' => ?_
  have nd := scIsBad.nd
  have key : ∃ t, PSs (cxOf L2.CX0 P w K mg base ["work"] "_law_is_bad" (defScope sIsBad) g cdv A outer s H (fun _ _ _ => False)).nox (defBody sIsBad) t ∧ t { nx := fun _ H' => Q .non H', rt := Q } (L2.start ["work"] [.ref f]) H := by
    refine ⟨_, pss_one (ps_ret (pe_callB (cr_either call_isi call_isR0) (by rfl) mIs (by decide +kernel) (pa_cons (pe_passW (Z := (cxOf L2.CX0 P w K mg base ["work"] "_law_is_bad" (defScope sIsBad) g cdv A outer s H (fun _ _ _ => False)).nox) (i := 0) (a := "work") FR rfl Vf AC GC hr' rfl gC kC rfl (.inl rfl)) (pa_cons (pe_glob (v := .ref CB) (by rfl) gB rfl) pa_nil)))), ?_⟩
    refine ⟨fun v H' => (v = .non ∧ Q (.bl false) H') ∨ ∃ a : Addr, v = .ref a ∧ H' a = some (ExR (.ref CB) none a) ∧ Q (.bl true) H', fun v H' q => ?_, rfl, hp, ?_⟩
    · rcases q with ⟨rfl, q⟩ | ⟨a, rfl, ea, q⟩
      · exact .inl ⟨_, _, _, _, false, rfl, .own CB, .base .non, B.non, q⟩
      · exact .inr ⟨a, CB, _, _, true, rfl, ea, B.ex, fun u r => r, B.one, q⟩
    · obtain ⟨E0, Q0, ht, hE, hQ⟩ := ht
      refine ⟨E0, Q0, ht, fun cls d H' q => ?_, fun v H' q => .inl ⟨rfl, hQ v H' q⟩⟩
      obtain ⟨rfl, rfl, hq⟩ := hE cls d H' q
      exact ⟨B.exm, fun a na => .inr ⟨a, rfl, upd_same, hq a na⟩⟩
  obtain ⟨t, h1, h2⟩ := key
  exact ⟨t, h1.nox, h2⟩
end
end K01


set_option Elab.async false
set_option maxRecDepth 100000
set_option maxHeartbeats 4000000
set_option linter.all false
namespace K01
open PySem PySem.Spec PyProof.Rows L2 LamX GL
abbrev sPrimesR : Stmt := top 50
theorem scPrimesR : FnScope ["draw", "some", "number", "error", "lap"] ["draw"] (defScope sPrimesR) := ⟨rfl, rfl, rfl, by decide +kernel, rfl, by decide +kernel, by decide +kernel⟩
/-- the law's names, as they are called -/
structure Ln (P : Program) (w : World) (K : PySem.W.Frag) (mg : Str → Option Value) (base : Heap) (CB CP CW : Addr) where
  fT : Addr
  dT : FuncData
  take : FnOk P w K mg base CX0 2 fT dT ["draw", "amount"] spTake
  bT : L2.Binds K dT ["draw", "amount"] []
  gT : mg "_law_take" = some (.ref fT)
  kT : PySem.W.keepIn K (.ref fT) = true
  fK : Addr
  dK : FuncData
  pick : FnOk P w K mg base CX0 3 fK dK ["draw", "some"] spPick
  bK : L2.Binds K dK ["draw", "some"] []
  gK : mg "_law_pick" = some (.ref fK)
  kK : PySem.W.keepIn K (.ref fK) = true
  fC : Addr
  caught : TakesV P w K mg base 1 fC (TTc K CW)
  gC : mg "_law_caught" = some (.ref fC)
  kC : PySem.W.keepIn K (.ref fC) = true
  fB : Addr
  isb : TakesV P w K mg base 2 fB (TTb CB)
  isbW : TakesW P w K mg base 2 fB (TTb CB)
  gB : mg "_law_is_bad" = some (.ref fB)
  kB : PySem.W.keepIn K (.ref fB) = true
  badB : BadN K CB CW
  badP : BadN K CP CW
  gCB : mg "BadTable" = some (.ref CB)
  gCP : mg "BadPrime" = some (.ref CP)
  mIs : mg "isinstance" = none
  mRa : mg "range" = none
def spDr (T : List (Addr × Str)) : Sp := fun vs H Q _ => ∃ (d lg cl : Addr), vs = [.ref d] ∧ DrawAt H d lg cl ∧ Tabs T H ∧ ∀ H', DrawAt H' d lg cl → KeptN d lg H H' → Tabs T H' → Q (.bl true) H'
def tSomeP : TE := fun σ H Q => ∃ d lg cl : Addr, σ = [some (.ref d), none, none, none, none] ∧ DrawAt H d lg cl ∧ ∀ (Da : Addr) (l : List Int) (H' : Hp), l.length ≤ 200 → H' Da = some (.lst (l.map V.int)) → H Da = none → DrawAt H' d lg cl → Kept d lg H H' → Q (.ref Da) H'
section
variable {P : Program} {w : World} {K : PySem.W.Frag} {mg : Str → Option Value} {base : Heap} {CT CP CB CW : Addr}
theorem ok_primesr {f c Pt fL : Addr} {fd dL : FuncData} {T : List (Addr × Str)} (F : FunC K "_law_primes_right" "_law_primes_right" sPrimesR f fd c) (G : Pg P w K mg base CT CP CB) (N : Ln P w K mg base CB CP CW) (TB : TabB base mg c Pt) (hmT : (Pt, ("_law_primes_right" : Str) ++ ".<locals>." ++ "<lambda>") ∈ T) (hu : ∀ p ∈ T, p.1 = Pt → p.2 = ("_law_primes_right" : Str) ++ ".<locals>." ++ "<lambda>")
    (GL : FnOk P w K mg base CX0 1 fL dL ["number"] spPrimeL) (bL : L2.Binds K dL ["number"] []) (gL : mg "_law_is_prime" = some (.ref fL)) (kL : PySem.W.keepIn K (.ref fL) = true) (mList : mg "list" = none) : FnOk P w K mg base CX0 8 f fd ["draw"] (spDr T) := by
  refine F.ok scPrimesR (fun vs H Q E h => ?_) (fun A outer s H vs Q E hr h => ?_)
  · obtain ⟨d, lg, cl, rfl, _⟩ := h
    rfl
  · obtain ⟨d, lg, cl, rfl, D, hT, k⟩ := h
    have nd := scPrimesR.nd
    have r1 : Room 1 _ := hr.mono (by decide)
    have r2 : Room 2 _ := hr.mono (by decide)
    have r6 : Room 6 _ := hr.mono (by decide)
    refine ⟨_, pss_cons (ps_set (i := 1) nd rfl (Or.inl rfl) (PE_conv (t' := tSomeP) (pe_ifExp (pt_cmpR op_eq (pe_call N.take r2 (by rfl) N.gT N.kT N.bT .nil pass0 (pa_cons (pv 0) (pa_cons pe_int pa_nil))) pe_int (nomark _))
        (pe_listRg rfl (by rfl) mList (prg_2 (by rfl) N.mRa (pe_un un_neg pe_int) pe_int))
        (pe_lc (own := [("lap", 4)]) (g := gName 4) (by rfl) nd (pi_range1 (by rfl) N.mRa (pa_cons pe_int pa_nil)) (blkOk_by (own := [("lap", 4)]) (N := ["draw", "some", "number", "error", "lap"]) (sc := defScope sPrimesR) (by decide +kernel)) (fun _ _ _ _ _ => pg_name (i := 4) nd rfl (Or.inl rfl)) (fun _ _ _ _ _ => pts_nil)
          (fun _ _ _ _ _ => pe_op op_sub (pe_call N.take r2 (by rfl) N.gT N.kT N.bT .nil pass0 (pa_cons (pv 0) (pa_cons pe_int pa_nil))) pe_int))) (fun σ H Q h => ?_)))
      (pss_cons (ps_for PassesOwn.never rfl (pi_list (pv 1)) (pg_name (i := 2) nd rfl (Or.inr rfl))
        (pss_cons (ps_set (i := 3) nd rfl (Or.inl rfl) (pe_lamV (k := 5) (by rfl) N.gC N.kC N.caught TB rfl hmT hu hr (lamS_by (sc := defScope sPrimesR) (by decide +kernel)) rfl (fun _ _ _ _ _ => rfl)
            (fun A outer s H E f c' hr2 => pe_make G.m G.ok hr2 (by rfl) G.T.t.g G.b .nil (passes_call (takes_of rfl rfl rfl rfl) fun _ _ _ _ h => h) (pa_cons (pv 2) (pa_cons pe_int (pa_cons pe_int (pa_cons (pe_lst pa_nil) pa_nil)))))))
        (pss_cons (ps_if (PW.pt (pw_and (pt_val (pe_call GL r1 (by rfl) gL kL bL .nil pass0 (pa_cons (pv 2) pa_nil))) (pw_and1 (pt_cmpR op_notN (pv 3) pe_non (nomark _))))) (pss_one (ps_ret pe_bl)) pss_nil)
        (pss_one (ps_if (PW.pt (pw_and (pt_not (pt_val (pe_call GL r1 (by rfl) gL kL bL .nil pass0 (pa_cons (pv 2) pa_nil)))) (pw_and1 (pt_not (pt_val (pe_callB (cr_either call_isi call_isR0) (by rfl) N.mIs (by decide +kernel) (pa_cons (pv 3) (pa_cons (pe_glob (v := .ref CP) (by rfl) N.gCP rfl) pa_nil)))))))) (pss_one (ps_ret pe_bl)) pss_nil)))))
      (pss_one (ps_ret pe_bl))), ?_⟩
    · obtain ⟨d, lg, cl, rfl, D, k⟩ := h
      refine ⟨_, rfl, d, lg, cl, 4, rfl, D, by decide, by decide, fun v H2 v0 v1 D2 k2 => ⟨rfl, _, rfl, ite2 (fun c => ?_) (fun c => ?_)⟩⟩
      · refine ⟨1, rfl, -1, 102, rfl, rfl, ⟨by decide, by decide, by decide, by decide, by decide⟩, fun q nq => ?_⟩
        obtain ⟨ed, elg, ecl⟩ := draw_new D2 nq
        refine k q ((List.range 103).map fun i => -1 + (i : Nat)) _ (by decide) ?_ (kept_none k2 ed elg nq) (draw_put ed elg ecl D2) (k2.trans (Kept.new nq))
        rw [upd_same, List.map_map]
        rfl
      · refine ⟨6, rfl, by decide, by decide, fun D2a nD2 => ?_⟩
        obtain ⟨ed, elg, ecl⟩ := draw_new D2 nD2
        refine lc_range (lo := 0) (n := 6) (fun j He => ∃ l : List Int, l.length = j ∧ He D2a = some (.lst (l.map V.int)) ∧ DrawAt He d lg cl ∧ Kept d lg H He) ⟨[], rfl, upd_same, draw_put ed elg ecl D2, k2.trans (Kept.new nD2)⟩ ?_ ?_
        · rintro j He hj ⟨l, hlj, eD2, De, ke⟩
          refine ⟨rfl, ?_⟩
          dsimp only [tYes]
          refine iteT ?_
          refine ⟨_, rfl, d, lg, cl, 104, rfl, De, by decide, by decide, fun v2 H3 a0 a1 D3 k3 => ⟨_, _, rfl, rfl, _, k3 _ _ eD2 ed elg, small_2000 (by rw [List.length_map]; omega), l ++ [v2 - 1], by rw [List.length_append, hlj]; rfl, by rw [upd_same, List.map_append]; rfl, draw_put ed elg ecl D3, ?_⟩⟩
          exact kept_put (kept_none k2 ed elg nD2) (ke.trans k3)
        · rintro He ⟨l, hlj, eD2, De, ke⟩
          exact k D2a l He (by omega) eD2 (kept_none k2 ed elg nD2) De ke
    · refine ⟨d, lg, cl, rfl, D, fun Da l H1 hl eDa nDa D1 k1 => ?_⟩
      obtain ⟨ad, alg, acl⟩ := draw_new D nDa
      have t1 := Tabs.kept D k1 hT
      have kn1 : KeptN d lg H H1 := k1.n
      clear k1 nDa D hT
      refine ⟨_, rfl, Da, rfl, ⟨_, SqL.of eDa⟩, ?_⟩
      refine for_list (K := K) (a := Da) (xs := l.map V.int) (fun i σ Hx => ∃ v2 v3 : Option V, σ = [some (.ref d), some (.ref Da), v2, v3, none] ∧ DrawAt Hx d lg cl ∧ KeptN d lg H Hx ∧ Tabs T Hx ∧ Hx Da = some (.lst (l.map V.int))) ⟨none, none, rfl, D1, kn1, t1, eDa⟩ (fun i σ Hx _ hh => by obtain ⟨_, _, _, _, _, _, e⟩ := hh; exact SqL.of e) ?_ ?_
      · rintro i x σ Hx hi ⟨v2, v3, rfl, Dx, kx, tx, ex⟩
        obtain ⟨n, hn, rfl⟩ := map_inv hi
        refine ⟨tx, fun Ha sa ta => ?_⟩
        by_cases hp : n ∈ primes
        · refine ⟨fun _ _ _ => False, fun _ H' => Same Ha H', ⟨_, rfl, by show 0 ≤ sizeLine; decide, fun z nz y dy ny ndy ne => ?_⟩, fun _ _ _ q => q.elim, fun v H9 s9 => ?_⟩
          · exact mkt_l (t := 0) (w := 0) (zs := []) ny ndy ne hp (by decide) (by decide) (.inl (SqL.of upd_same)) (fun z m => by simp at m) rfl (fun l m => by simp [rn] at m) fun H2 _ s2 => ⟨rfl, (same_upd nz).trans s2⟩
          · have sn : ExtN Hx H9 := sa.trans (ExtN.same s9)
            have tn : Tabs T H9 := ta.ext s9
            refine ⟨_, rfl, n, rfl, fun H3 s3 => ?_⟩
            rw [decide_eq_true hp]
            refine ⟨_, rfl, ?_⟩
            refine iteT ?_
            refine ⟨_, rfl, rfl, _, rfl, iteFb (by simp) ?_⟩
            refine ⟨_, rfl, n, rfl, fun H4 s4 => ?_⟩
            rw [decide_eq_true hp]
            refine ⟨_, rfl, ?_⟩
            refine iteF ?_
            have s94 := s3.trans s4
            refine ⟨_, _, rfl, draw_same s94 (draw_ext sn Dx), (kx.trans (KeptN.ext sn)).trans (KeptN.same s94), tn.ext s94, s94 _ _ (sn _ _ ex (fun _ z => by cases z))⟩
        · refine ⟨fun cls dd H' => cls = .ref CP ∧ dd = none ∧ Same Ha H', fun _ _ => False, ⟨_, rfl, by show 0 ≤ sizeLine; decide, fun z nz y dy ny ndy ne => ?_⟩, fun cls dd H' q' => ?_, fun v H' q' => q'.elim⟩
          · exact mkt_sp (ot := none) (ow := none) ny ndy ne (.int n) (.inl ⟨decide_eq_false hp, fun H' s' => ⟨rfl, rfl, (same_upd nz).trans s'⟩⟩)
          · obtain ⟨rfl, rfl, s'⟩ := q'
            refine ⟨N.badP.exm, fun aa na => ?_⟩
            have e9 : (upd H' aa (ExR (.ref CP) none aa)) aa = some (ExR (.ref CP) none aa) := upd_same
            have s9 : Same Ha (upd H' aa (ExR (.ref CP) none aa)) := s'.trans (same_upd na)
            generalize upd H' aa (ExR (.ref CP) none aa) = H9 at e9 s9
            have sn : ExtN Hx H9 := sa.trans (ExtN.same s9)
            have tn : Tabs T H9 := ta.ext s9
            refine ⟨_, rfl, n, rfl, fun H3 s3 => ?_⟩
            rw [decide_eq_false hp]
            refine ⟨_, rfl, ?_⟩
            refine iteF ?_
            refine ⟨_, rfl, n, rfl, fun H4 s4 => ?_⟩
            rw [decide_eq_false hp]
            refine ⟨_, rfl, ?_⟩
            refine iteT ?_
            have s94 := s3.trans s4
            refine ⟨_, rfl, .inr ⟨aa, CP, _, _, true, rfl, s94 _ _ e9, N.badP.ex, fun u r => r, N.badP.one, _, rfl, ?_⟩⟩
            refine iteF ?_
            refine ⟨_, _, rfl, draw_same s94 (draw_ext sn Dx), (kx.trans (KeptN.ext sn)).trans (KeptN.same s94), tn.ext s94, s94 _ _ (sn _ _ ex (fun _ z => by cases z))⟩
      · rintro σ Hx ⟨v2, v3, rfl, Dx, kx, tx, ex⟩
        exact k Hx Dx kx tx
end
end K01


set_option Elab.async false
set_option maxRecDepth 100000
set_option maxHeartbeats 4000000
set_option linter.all false
namespace K01
open PySem PySem.Spec PyProof.Rows L2 LamX GL
/-! what is the same modulo the prime -/
theorem mod_mod (i p : Int) : i % p % p = i % p := Int.emod_emod_of_dvd i (Int.dvd_refl p)
theorem modT_modT (p : Int) (L : List (List Int)) : modT p (modT p L) = modT p L := by
  unfold modT
  rw [List.map_map]
  refine List.map_congr_left fun l _ => ?_
  show (l.map (· % p)).map (· % p) = _
  rw [List.map_map]
  exact List.map_congr_left fun i _ => mod_mod i p
theorem zip_mod {p : Int} {f : Int → Int → Int} (hf : ∀ a b, f (a % p) (b % p) % p = f a b % p) (L M : List (List Int)) : modT p (zipL f (modT p L) (modT p M)) = modT p (zipL f L M) := by
  unfold zipL modT
  rw [List.zipWith_map, List.map_zipWith, List.map_zipWith]
  congr 1
  funext a b
  rw [List.zipWith_map, List.map_zipWith, List.map_zipWith]
  congr 1
  funext x y
  exact hf x y
theorem add_mod2 {p : Int} (a b : Int) : (a % p + b % p) % p = (a + b) % p := (Int.add_emod a b p).symm
theorem sub_mod2 {p : Int} (a b : Int) : (a % p - b % p) % p = (a - b) % p := (Int.sub_emod a b p).symm
theorem scal_mod (p i : Int) (L : List (List Int)) : modT p ((modT p L).map fun l => l.map (i * ·)) = modT p (L.map fun l => l.map (· * i)) := by
  unfold modT
  rw [List.map_map, List.map_map, List.map_map]
  refine List.map_congr_left fun l _ => ?_
  show ((l.map (· % p)).map (i * ·)).map (· % p) = (l.map (· * i)).map (· % p)
  rw [List.map_map, List.map_map, List.map_map]
  refine List.map_congr_left fun x _ => ?_
  show (i * (x % p)) % p = (x * i) % p
  rw [Int.mul_comm, Int.mul_emod, mod_mod, ← Int.mul_emod]
theorem cols_mod (p : Int) (L : List (List Int)) (w : Nat) : colsOf (modT p L) w = modT p (colsOf L w) := by
  unfold colsOf
  conv => rhs; unfold modT
  rw [List.map_map]
  exact List.map_congr_left fun k _ => col_mod p L k
/-! lists of lists in memory -/
structure LsD (d lg : Addr) (H : Hp) (D : Addr) (zs : Rs) (t w : Nat) : Prop where
  at_ : H D = some (.lst (rv zs))
  rl : RL H zs
  len : zs.length = t
  wid : ∀ l ∈ rn zs, l.length = w ∧ ∀ i ∈ l, -1000 < i ∧ i < 1000
  ne : D ≠ d ∧ D ≠ lg
  nz : ∀ z ∈ zs, z.1 ≠ d ∧ z.1 ≠ lg
theorem LsD.kn {d lg D : Addr} {H H' : Hp} {zs : Rs} {t w : Nat} (k : KeptN d lg H H') (h : LsD d lg H D zs t w) : LsD d lg H' D zs t w where
  at_ := k _ _ h.at_ h.ne.1 h.ne.2 (fun _ z => by cases z)
  rl := fun z m => k _ _ (h.rl z m) (h.nz z m).1 (h.nz z m).2 (fun _ e => by cases e)
  len := h.len
  wid := h.wid
  ne := h.ne
  nz := h.nz
theorem LsD.of {d lg cl D : Addr} {H H' : Hp} {zs : Rs} {t w : Nat} (D0 : DrawAt H d lg cl) (N : NewD d lg cl H t w (fun i => -1000 < i ∧ i < 1000) D zs H') : LsD d lg H' D zs t w where
  at_ := N.at_
  rl := N.rl
  len := N.len
  wid := N.wid
  ne := ⟨(draw_new D0 N.nD).1, (draw_new D0 N.nD).2.1⟩
  nz := fun z m => ⟨(draw_new D0 (N.nz z m).1).1, (draw_new D0 (N.nz z m).1).2.1⟩
theorem LsD.sqa {K : PySem.W.Frag} {d lg D : Addr} {H : Hp} {zs : Rs} {t w : Nat} (h : LsD d lg H D zs t w) : SqA K H D (rv zs) := .inl (SqL.of h.at_)
theorem LsD.w1 {d lg D : Addr} {H : Hp} {zs : Rs} {t w : Nat} (h : LsD d lg H D zs t w) : ∀ l ∈ rn zs, l.length = w := fun l m => (h.wid l m).1
theorem LsD.rlen {d lg D : Addr} {H : Hp} {zs : Rs} {t w : Nat} (h : LsD d lg H D zs t w) : (rn zs).length = t := by rw [rn_len, h.len]
theorem TabAt.kn {CT d lg cl : Addr} {H H' : Hp} {x : Addr} {p : Int} {t w : Nat} {L : List (List Int)} (D : DrawAt H d lg cl) (k : KeptN d lg H H') (h : TabAt CT H x p t w L) : TabAt CT H' x p t w L := by
  obtain ⟨⟨r, t', hd⟩, ⟨M, hM, hl⟩, _, _⟩ := D
  obtain ⟨dx, a, zs, e1, e2, e3, e4⟩ := h
  have key : ∀ b o, H b = some o → (∀ kvs, o ≠ .dK kvs) → (∀ xs, o ≠ .lst xs) → (∀ ps, o ≠ .tbl ps) → H' b = some o := fun b o e n1 n2 n3 => k b o e (fun z => by rw [z, hd] at e; exact n1 _ (Option.some.inj e).symm) (fun z => by rw [z, hl] at e; exact n2 _ (Option.some.inj e).symm) n3
  exact ⟨dx, a, zs, key _ _ e1 (fun _ z => by cases z) (fun _ z => by cases z) (fun _ z => by cases z), key _ _ e2 (fun _ z => by cases z) (fun _ z => by cases z) (fun _ z => by cases z), fun z m => key _ _ (e3 z m) (fun _ z => by cases z) (fun _ z => by cases z) (fun _ z => by cases z), e4⟩
/-- what is new is not the draws' -/
theorem ne_draw {H : Hp} {d lg cl p : Addr} (D : DrawAt H d lg cl) (h : H p = none) : p ≠ d ∧ p ≠ lg := ⟨(draw_new D h).1, (draw_new D h).2.1⟩
/-! lists of lists as data -/
abbrev dl (l : List Int) : PyData := .list (di l)
theorem dp_rowl {K : PySem.W.Frag} {H : Hp} : ∀ {zs : Rs}, RL H zs → DpAll K H (rv zs) ((rn zs).map dl)
  | [], _ => .nil
  | z :: zs, h => .cons (.lst (SqL.of (h z (List.mem_cons_self ..))) (dp_int _)) (dp_rowl fun z m => h z (List.mem_cons_of_mem _ m))
theorem dp_lists {K : PySem.W.Frag} {H : Hp} {t : Addr} {zs : Rs} (h : H t = some (.lst (rv zs))) (p : RL H zs) : Dp K H (.ref t) (.list ((rn zs).map dl)) := .lst (SqL.of h) (dp_rowl p)
theorem lay_dl (L : List (List Int)) : PyData.canLayAll0 (L.map dl) = true := by
  induction L with
  | nil => rfl
  | cons x r ih =>
    have := lay_di x
    simp [PyData.canLayAll0, PyData.canLay0, ih, this]
theorem dep_dl (L : List (List Int)) : PyData.depthAll (L.map dl) ≤ 2 := by
  induction L with
  | nil => simp [PyData.depthAll]
  | cons x r ih =>
    have := dep_di x
    simp [PyData.depthAll, PyData.depth]; omega
theorem shp_dl (L : List (List Int)) : SeqAt.shaped (.list (L.map dl)) = true := by
  have h1 := lay_dl L
  have h2 := dep_dl L
  simp [SeqAt.shaped, PyData.canLay0, h1, PyData.depth]
  omega
theorem eqvAll_dl : ∀ l m : List (List Int), PyData.eqvAll (l.map dl) (m.map dl) = decide (l = m)
  | [], [] => rfl
  | [], _ :: _ => rfl
  | _ :: _, [] => rfl
  | a :: l, b :: m => by
    show (PyData.eqvAll (di a) (di b) && PyData.eqvAll (l.map dl) (m.map dl)) = _
    rw [eqvAll_dl l m, eqvAll_di a b]
    by_cases h1 : a = b
    · by_cases h3 : l = m
      · subst h1; subst h3; simp
      · subst h1
        rw [decide_eq_false h3, decide_eq_false (fun z => h3 (List.cons.inj z).2)]; simp
    · rw [decide_eq_false h1, decide_eq_false (fun z => h1 (List.cons.inj z).1)]; rfl
theorem eqv_dl (l m : List (List Int)) : PyData.eqv (.list (l.map dl)) (.list (m.map dl)) = decide (l = m) := eqvAll_dl l m
theorem nd_dl (L : List (List Int)) : PyData.hasDictAll (L.map dl) = false := by
  induction L with
  | nil => rfl
  | cons x r ih =>
    have := nd_di x
    simp [PyData.hasDictAll, PyData.hasDict, ih, this]
theorem sh_dl {L : List (List Int)} (h : SmL L) : PyData.showableAll (L.map dl) = true := by
  induction L with
  | nil => rfl
  | cons x r ih =>
    show (PyData.showableAll (di x) && PyData.showableAll (r.map dl)) = true
    rw [sh_di (h x (List.mem_cons_self ..)), ih fun l m => h l (List.mem_cons_of_mem _ m)]
    rfl
theorem sz_dl {l : List Int} (hl : l.length ≤ 5) (h : ∀ i ∈ l, -1000 < i ∧ i < 1000) : Sz 40 (dl l) := by
  refine (sz_list (m := 5) (ds := di l) fun d hd => ?_).mono ?_
  · obtain ⟨i, hi, rfl⟩ := List.mem_map.mp hd
    exact (sm_int (h i hi)).1
  · have e : (di l).length = l.length := List.length_map ..
    rw [e]; omega
theorem sz_dls {L : List (List Int)} (h1 : L.length ≤ 5) (h2 : ∀ l ∈ L, l.length ≤ 5) (h : SmL L) : Sz 220 (.list (L.map dl)) := by
  refine (sz_list (m := 40) (ds := L.map dl) fun d hd => ?_).mono ?_
  · obtain ⟨l, hl, rfl⟩ := List.mem_map.mp hd
    exact sz_dl (h2 l hl) (h l hl)
  · rw [List.length_map]
    omega
abbrev dTwo (L M : List (List Int)) : PyData := .list [.list (L.map dl), .list (M.map dl)]
theorem shown_two {L M : List (List Int)} (h1 : L.length ≤ 5) (h2 : ∀ l ∈ L, l.length ≤ 5) (h : SmL L) (k1 : M.length ≤ 5) (k2 : ∀ l ∈ M, l.length ≤ 5) (k : SmL M) : Shown (dTwo L M) := by
  refine ⟨?_, ?_, ?_⟩
  · show (PyData.showableAll (L.map dl) && (PyData.showableAll (M.map dl) && true)) = true
    rw [sh_dl h, sh_dl k]
    rfl
  · have a := dep_dl L
    have b := dep_dl M
    simp only [PyData.depth, PyData.depthAll]
    omega
  · refine Nat.le_trans (sz_list (m := 220) (ds := [.list (L.map dl), .list (M.map dl)]) fun d hd => ?_) ?_
    · rcases List.mem_cons.mp hd with e | hd
      · rw [e]; exact sz_dls h1 h2 h
      · rw [List.mem_singleton] at hd
        rw [hd]; exact sz_dls k1 k2 k
    · have big : (100000 : Nat) ≤ sizeLine := by decide
      show 2 * 222 + 2 ≤ _
      omega
theorem nd_two (L M : List (List Int)) : (dTwo L M).hasDict = false := by
  have a := nd_dl L
  have b := nd_dl M
  simp [PyData.hasDict, PyData.hasDictAll, a, b]
theorem dp_two {K : PySem.W.Frag} {H : Hp} {q a b : Addr} {us vs : Rs} (hq : H q = some (.lst [.ref a, .ref b])) (ha : H a = some (.lst (rv us))) (ra : RL H us) (hb : H b = some (.lst (rv vs))) (rb : RL H vs) : Dp K H (.ref q) (dTwo (rn us) (rn vs)) :=
  .lst (SqL.of hq) (.cons (dp_lists ha ra) (.cons (dp_lists hb rb) .nil))
/-! calls by names, in turned order -/
section
variable {X : Cx} {CX : CXT} {k : Nat} {f : Addr} {fd : FuncData} {ps ks : List Str} {sp : Sp} {E : XK} {x : Str} {p pos : Pos} {kws : List Keyword} {tk : TA} {g : List Value → List Value → List Value} {gV : List L2.V → List L2.V → List L2.V}
/-- f(k = v, ..) -/
theorem pe_callK0 (F : FnOk X.prog X.w X.K X.mg X.base CX k f fd ps sp) (hr : Room k X.A) (hg : Gl X x) (hm : X.mg x = some (.ref f)) (hk : PySem.W.keepIn X.K (.ref f) = true) (hb : KBinds X.K fd ps ks g gV) (hx : Passes CX X E) (hkw : PK X kws tk)
    (hall : (backToKw pos (keywordEach kws X.env)).all (·.1.isSome) = true := by rfl) (hks : (backToKw pos (keywordEach kws X.env)).filterMap (·.1) = ks := by rfl) (hdb : (x == ("__debug__" : Str)) = false := by decide)
    (hpl : (backToKw pos (keywordEach kws X.env)).any (·.1.isNone) = false := by rfl) : PE X (.Call (.Name x p) [] kws pos) (tCallK sp gV E tNil tk) := by
  refine ⟨fun pins s σ H Q I h => ?_⟩
  refine wpAny_Call_Name_kw (ld_glob I hg hm ?_ hdb)
  refine PySem.W.callWith_KW0 (h₀ := X.base) I.ok.mod.kin hk hall ?_ hpl
  refine thn (hkw.run pos pins s σ H _ I h) fun ws s1 ⟨zs, H1, I1, rz, q1⟩ => ⟨I1.kIn, ?_⟩
  rw [hks]
  exact run_fnk (us := []) (vs := []) F hr hb hx I1 .nil rz q1
end
def bk {α : Type} (us ws : List α) : List α := us ++ ws.reverse
theorem vals_rev : ∀ {zs : List L2.V} {ws : List Value}, Vals zs ws → Vals zs.reverse ws.reverse
  | _, _, .nil => .nil
  | _, _, .cons a r => by
    rw [List.reverse_cons, List.reverse_cons]
    exact (vals_rev r).append (.cons a .nil)
theorem bk_rel {vs : List L2.V} {us : List Value} {zs : List L2.V} {ws : List Value} (r1 : Vals vs us) (r2 : Vals zs ws) : Vals (bk vs zs) (bk us ws) := r1.append (vals_rev r2)
abbrev fnT (x : Str) (st : Stmt) (kV doc pm : Value) (an : Option Addr) (cdv ct : Value) : FuncData := PySem.W.fnOf x x (defArgs st) (defBody st) (defScope st) .none kV doc pm an cdv ct
theorem len_bk {us ws : List Value} : (bk us ws).length = us.length + ws.length := by unfold bk; rw [List.length_append, List.length_reverse]
theorem two1 {us ws : List Value} (h : us.length + ws.length = 1) : (∃ u, us = [u] ∧ ws = []) ∨ (∃ u, us = [] ∧ ws = [u]) := by
  match us, ws with
  | [], [u] => exact .inr ⟨u, rfl, rfl⟩
  | [u], [] => exact .inl ⟨u, rfl, rfl⟩
  | [], [] => simp at h
  | [], _ :: _ :: _ => simp at h
  | [_], _ :: _ => simp at h
  | _ :: _ :: _, _ => simp at h; omega
theorem two2 {us ws : List Value} (h : us.length + ws.length = 2) : (∃ u v, us = [u, v] ∧ ws = []) ∨ (∃ u v, us = [u] ∧ ws = [v]) ∨ (∃ u v, us = [] ∧ ws = [v, u]) := by
  cases us with
  | nil => 
    match ws with
    | [v, u] => exact .inr (.inr ⟨u, v, rfl, rfl⟩)
    | [] => simp at h
    | [_] => simp at h
    | _ :: _ :: _ :: _ => simp at h
  | cons u us =>
    have h1 : us.length + ws.length = 1 := by rw [List.length_cons] at h; omega
    rcases two1 h1 with ⟨v, rfl, rfl⟩ | ⟨v, rfl, rfl⟩
    · exact .inl ⟨u, v, rfl, rfl⟩
    · exact .inr (.inl ⟨u, v, rfl, rfl⟩)
theorem two3 {us ws : List Value} (h : us.length + ws.length = 3) : (∃ u v w, us = [u, v, w] ∧ ws = []) ∨ (∃ u v w, us = [u, v] ∧ ws = [w]) ∨ (∃ u v w, us = [u] ∧ ws = [w, v]) ∨ (∃ u v w, us = [] ∧ ws = [w, v, u]) := by
  cases us with
  | nil => 
    match ws with
    | [w, v, u] => exact .inr (.inr (.inr ⟨u, v, w, rfl, rfl⟩))
    | [] => simp at h
    | [_] => simp at h
    | [_, _] => simp at h
    | _ :: _ :: _ :: _ :: _ => simp at h
  | cons u us =>
    have h1 : us.length + ws.length = 2 := by rw [List.length_cons] at h; omega
    rcases two2 h1 with ⟨v, w, rfl, rfl⟩ | ⟨v, w, rfl, rfl⟩ | ⟨v, w, rfl, rfl⟩
    · exact .inl ⟨u, v, w, rfl, rfl⟩
    · exact .inr (.inl ⟨u, v, w, rfl, rfl⟩)
    · exact .inr (.inr (.inl ⟨u, v, w, rfl, rfl⟩))
theorem kb1 {K : PySem.W.Frag} {x a : Str} {st : Stmt} {f : Addr} {fd : FuncData} (F : Fun K x x st f fd)
    (h : ∀ (kV doc pm : Value) (an : Option Addr) (cdv ct u : Value), bindArgs (fnT x st kV doc pm an cdv ct) ⟨[u], []⟩ = pure [(a, u)] ∧ bindArgs (fnT x st kV doc pm an cdv ct) ⟨[], [(a, u)]⟩ = pure [(a, u)]) : KBinds K fd [a] [a] bk bk := by
  obtain ⟨oc, od, kV, doc, pm, an, cdv, ct, osl, rfl, lk, hcd⟩ := F.ex
  refine ⟨fun s us ws _ hl => ?_, bk_rel⟩
  rw [len_bk] at hl
  rcases two1 hl with ⟨u, rfl, rfl⟩ | ⟨u, rfl, rfl⟩
  · exact .of_eq (h kV doc pm an cdv ct u).1
  · exact .of_eq (h kV doc pm an cdv ct u).2
theorem kb2 {K : PySem.W.Frag} {x a b : Str} {st : Stmt} {f : Addr} {fd : FuncData} (F : Fun K x x st f fd)
    (h : ∀ (kV doc pm : Value) (an : Option Addr) (cdv ct u v : Value), bindArgs (fnT x st kV doc pm an cdv ct) ⟨[u, v], []⟩ = pure [(a, u), (b, v)] ∧ bindArgs (fnT x st kV doc pm an cdv ct) ⟨[u], [(b, v)]⟩ = pure [(a, u), (b, v)] ∧ bindArgs (fnT x st kV doc pm an cdv ct) ⟨[], [(b, v), (a, u)]⟩ = pure [(a, u), (b, v)]) : KBinds K fd [a, b] [b, a] bk bk := by
  obtain ⟨oc, od, kV, doc, pm, an, cdv, ct, osl, rfl, lk, hcd⟩ := F.ex
  refine ⟨fun s us ws _ hl => ?_, bk_rel⟩
  rw [len_bk] at hl
  rcases two2 hl with ⟨u, v, rfl, rfl⟩ | ⟨u, v, rfl, rfl⟩ | ⟨u, v, rfl, rfl⟩
  · exact .of_eq (h kV doc pm an cdv ct u v).1
  · exact .of_eq (h kV doc pm an cdv ct u v).2.1
  · exact .of_eq (h kV doc pm an cdv ct u v).2.2
theorem kb3 {K : PySem.W.Frag} {x a b c : Str} {st : Stmt} {f : Addr} {fd : FuncData} (F : Fun K x x st f fd)
    (h : ∀ (kV doc pm : Value) (an : Option Addr) (cdv ct u v w : Value), bindArgs (fnT x st kV doc pm an cdv ct) ⟨[u, v, w], []⟩ = pure [(a, u), (b, v), (c, w)] ∧ bindArgs (fnT x st kV doc pm an cdv ct) ⟨[u, v], [(c, w)]⟩ = pure [(a, u), (b, v), (c, w)] ∧ bindArgs (fnT x st kV doc pm an cdv ct) ⟨[u], [(c, w), (b, v)]⟩ = pure [(a, u), (b, v), (c, w)] ∧ bindArgs (fnT x st kV doc pm an cdv ct) ⟨[], [(c, w), (b, v), (a, u)]⟩ = pure [(a, u), (b, v), (c, w)]) : KBinds K fd [a, b, c] [c, b, a] bk bk := by
  obtain ⟨oc, od, kV, doc, pm, an, cdv, ct, osl, rfl, lk, hcd⟩ := F.ex
  refine ⟨fun s us ws _ hl => ?_, bk_rel⟩
  rw [len_bk] at hl
  rcases two3 hl with ⟨u, v, w, rfl, rfl⟩ | ⟨u, v, w, rfl, rfl⟩ | ⟨u, v, w, rfl, rfl⟩ | ⟨u, v, w, rfl, rfl⟩
  · exact .of_eq (h kV doc pm an cdv ct u v w).1
  · exact .of_eq (h kV doc pm an cdv ct u v w).2.1
  · exact .of_eq (h kV doc pm an cdv ct u v w).2.2.1
  · exact .of_eq (h kV doc pm an cdv ct u v w).2.2.2
end K01


set_option Elab.async false
set_option maxRecDepth 100000
set_option maxHeartbeats 4000000
set_option linter.all false
namespace K01
open PySem PySem.Spec PyProof.Rows L2 LamX GL
/-- a def that may raise, as it is called -/
structure Fn1 (P : Program) (w : World) (K : PySem.W.Frag) (mg : Str → Option Value) (base : Heap) (x : Str) (ps ks : List Str) (sp : Sp) where
  f : Addr
  fd : FuncData
  ok : FnOk P w K mg base (L2.CX P w) 6 f fd ps sp
  b : L2.Binds K fd ps []
  kb : KBinds K fd ps ks bk bk
  g : mg x = some (.ref f)
  kp : PySem.W.keepIn K (.ref f) = true
/-- one that doesn't -/
structure Fn0 (P : Program) (w : World) (K : PySem.W.Frag) (mg : Str → Option Value) (base : Heap) (n : Nat) (x : Str) (ps : List Str) (sp : Sp) where
  f : Addr
  fd : FuncData
  ok : FnOk P w K mg base CX0 n f fd ps sp
  b : L2.Binds K fd ps []
  g : mg x = some (.ref f)
  kp : PySem.W.keepIn K (.ref f) = true
structure FnG1 (P : Program) (w : World) (K : PySem.W.Frag) (mg : Str → Option Value) (base : Heap) (n : Nat) (x : Str) (ps : List Str) (sp : Sp) where
  f : Addr
  fd : FuncData
  ok : FnG P w K mg base CX0 n f fd ps sp
  b : L2.Binds K fd ps []
  g : mg x = some (.ref f)
  kp : PySem.W.keepIn K (.ref f) = true
/-- what the text says of BadNumber where it is caught -/
structure BadNN (K : PySem.W.Frag) (CN CW : Addr) : Prop where
  ex : ExcC K CN
  exm : PySem.W.exmOne K (.ref CN) (.ref CW) = some true
  one : PySem.W.kitOne K (.ref CN) (.ref CN) = some true
  get : XGet K CN "part"
/-- all that the law's last defs call -/
structure Al (P : Program) (w : World) (K : PySem.W.Frag) (mg : Str → Option Value) (base : Heap) (CT CP CB CN CW : Addr) where
  G : Pg P w K mg base CT CP CB
  dE : FuncData
  FE : FnOk P w K mg base CX0 1 G.fE dE ["self", "other"] (spTabEq CT)
  bE : L2.Binds K dE ["self", "other"] []
  N : Ln P w K mg base CB CP CW
  ti : Fn1 P w K mg base "times" ["one", "two"] ["two", "one"] (spTimes K CT CB)
  pl : Fn1 P w K mg base "plus" ["one", "two"] ["two", "one"] (spSum2 K CT CB (· + ·))
  mi : Fn1 P w K mg base "minus" ["one", "two"] ["two", "one"] (spSum2 K CT CB (· - ·))
  sc : Fn1 P w K mg base "scaled" ["one", "number"] ["number", "one"] (spScaled K CT CB CN)
  ac : Fn1 P w K mg base "across" ["one"] ["one"] (spAcross K CT CB)
  pn : Fn1 P w K mg base "plain" ["prime", "size"] ["size", "prime"] (spPlain K CT CP CN)
  em : Fn1 P w K mg base "empty" ["prime", "tall", "wide"] ["wide", "tall", "prime"] (spEmpty K CT CP CN)
  be : Fn1 P w K mg base "beside" ["tables"] ["tables"] (spBeside K CT CB)
  ov : Fn1 P w K mg base "over" ["tables"] ["tables"] (spOver K CT CB)
  co : Fn1 P w K mg base "corner" ["tables"] ["tables"] (spCorner K CT CB)
  sh : FnG1 P w K mg base 8 "_law_shows" ["table", "field", "tall", "wide", "some"] (spShows K CT)
  pr : Fn0 P w K mg base 1 "_law_product" ["field", "one", "two", "wide"] (spProduct K)
  tu : Fn0 P w K mg base 1 "_law_turned" ["some", "wide"] (spTurnL K)
  re : Fn0 P w K mg base 1 "_law_rests" ["field", "some"] (spRests K)
  un : Fn0 P w K mg base 1 "_law_unit" ["size"] spUnitL
  si : Fn0 P w K mg base 4 "_law_size" ["draw"] (spOne [0, 1, 1, 2, 2, 3, 4, 5])
  fi : Fn0 P w K mg base 4 "_law_field" ["draw"] (spOne [2, 2, 2, 3, 3, 5, 7, 97])
  wi : Fn0 P w K mg base 4 "_law_wild" ["draw", "field", "tall", "wide"] spWild
  badN : BadNN K CN CW
  gCN : mg "BadNumber" = some (.ref CN)
  mRe : mg "repr" = none
  mZ : mg "zip" = none
  mSum : mg "sum" = none
  mLen : mg "len" = none
  mList : mg "list" = none
  mMin : mg "min" = none
  noN : ∀ H : Hp, NoTab K CT H .non
abbrev N47 : List Str := ["draw", "field", "tall", "middle", "wide", "one", "two", "three", "shown_here", "first", "second", "third", "added", "less", "number", "many_times", "longer", "odd", "taller", "work", "here", "there", "a", "b", "item"]
abbrev sPrR : Stmt := top 47
theorem scPrR : FnScope N47 ["draw", "field"] (defScope sPrR) := ⟨rfl, rfl, rfl, by decide +kernel, rfl, by decide +kernel, by decide +kernel⟩
abbrev X47 (P : Program) (w : World) (K : PySem.W.Frag) (mg : Str → Option Value) (base : Heap) (f c : Addr) (A : Around) (outer : List Env) (s : Shared) (H : Hp) (E : XK) : Cx := (cxOf L2.CX0 P w K mg base N47 "_law_products_right" (defScope sPrR) f (.ref c) A outer s H E).nox
/-- what stands while the products are looked at -/
structure D47 (CT d lg cl : Addr) (T : List (Addr × Str)) (p : Int) (t m wd : Nat) (A1 A2 A3 : Addr) (us vs ts : Rs) (H0 H : Hp) : Prop where
  dr : DrawAt H d lg cl
  tb : Tabs T H
  l1 : LsD d lg H A1 us t m
  l2 : LsD d lg H A2 vs m wd
  l3 : LsD d lg H A3 ts t m
  kn : KeptN d lg H0 H
  pr : p ∈ primes
  ht : t ≤ 5
  hm : m ≤ 5
  hw : wd ≤ 5
section
variable {CT d lg cl : Addr} {T : List (Addr × Str)} {p : Int} {t m wd : Nat} {A1 A2 A3 : Addr} {us vs ts : Rs} {H0 H H' : Hp}
theorem D47.to (S : D47 CT d lg cl T p t m wd A1 A2 A3 us vs ts H0 H) (D : DrawAt H' d lg cl) (k : KeptN d lg H H') (tb : Tabs T H') : D47 CT d lg cl T p t m wd A1 A2 A3 us vs ts H0 H' where
  dr := D
  tb := tb
  l1 := S.l1.kn k
  l2 := S.l2.kn k
  l3 := S.l3.kn k
  kn := S.kn.trans k
  pr := S.pr
  ht := S.ht
  hm := S.hm
  hw := S.hw
theorem D47.same (S : D47 CT d lg cl T p t m wd A1 A2 A3 us vs ts H0 H) (s : Same H H') : D47 CT d lg cl T p t m wd A1 A2 A3 us vs ts H0 H' := S.to (draw_same s S.dr) (KeptN.same s) (S.tb.ext s)
theorem D47.ext (S : D47 CT d lg cl T p t m wd A1 A2 A3 us vs ts H0 H) (s : ExtN H H') (tb : Tabs T H') : D47 CT d lg cl T p t m wd A1 A2 A3 us vs ts H0 H' := S.to (draw_ext s S.dr) (KeptN.ext s) tb
end
theorem good_of {p : Int} {d lg D : Addr} {H : Hp} {zs : Rs} {t w : Nat} (hp : p ∈ primes) (ht : t ≤ 5) (hw : w ≤ 5) (h : LsD d lg H D zs t w) : GoodT p t w (modT p (rn zs)) := good_mod hp (by omega) (by omega) h.rlen h.w1
abbrev rests (p : Int) (us : Rs) : List (List Int) := modT p (rn us)
section
variable {P : Program} {w : World} {K : PySem.W.Frag} {mg : Str → Option Value} {base : Heap} {CT CP CB CN CW : Addr}
/-- the end: first != odd and (first == third) == (rests == rests) -/
theorem p47_end {f c : Addr} {A : Around} {outer : List Env} {s : Shared} {Hs : Hp} {E : XK} (Y : Al P w K mg base CT CP CB CN CW) (hr : Room 9 (A.deeper (envOfC "_law_products_right" (defScope sPrR) s.heap.objs.size f (.ref c)))) :
    ∃ t, PSs (X47 P w K mg base f c A outer s Hs E) ((defBody sPrR).drop 21) t ∧ ∀ (D : Ends) (H0 H : Hp) (T : List (Addr × Str)) (d lg cl : Addr) (p : Int) (tt m wd : Nat) (A1 A2 A3 : Addr) (us vs ts : Rs) (x1 x3 xo : Addr) (po : Int) (v1 v2 v3 v4 v5 v6 v7 v8 v9 v10 v11 v12 v13 v14 v15 : Option V),
      D47 CT d lg cl T p tt m wd A1 A2 A3 us vs ts H0 H → TabAt CT H x1 p tt m (modT p (rn us)) → TabAt CT H x3 p tt m (modT p (rn ts)) → TabAt CT H xo po tt m (modT po (rn us)) → p ≠ po →
      (∀ H', DrawAt H' d lg cl → KeptN d lg H0 H' → Tabs T H' → D.rt (.bl true) H') →
      t D [some (.ref d), some (.int p), v1, v2, v3, some (.ref A1), v4, some (.ref A3), v5, some (.ref x1), v6, some (.ref x3), v7, v8, v9, v10, v11, some (.ref xo), v12, v13, v14, v15, none, none, none] H := by
  have r1 : Room 1 _ := hr.mono (by decide)
  have r2 : Room 2 _ := hr.mono (by decide)
  refine ⟨_, pss_one (ps_ret (pe_and (pe_cmpR (op_neT Y.G.T Y.FE Y.bE r2) (pv 9) (pv 17) (nomark _))
    (pe_one (pe_cmpR op_eq (pe_cmpR (op_eqT Y.G.T Y.FE Y.bE r1) (pv 9) (pv 11) (nomark _))
      (pe_cmpR (op_eqD hr.units) (pe_call Y.re.ok r1 (by rfl) Y.re.g Y.re.kp Y.re.b .nil pass0 (pa_cons (pv 1) (pa_cons (pv 5) pa_nil))) (pe_call Y.re.ok r1 (by rfl) Y.re.g Y.re.kp Y.re.b .nil pass0 (pa_cons (pv 1) (pa_cons (pv 7) pa_nil))) (nomark _)) (nomark _))))), ?_⟩
  intro D H0 H T d lg cl p tt m wd A1 A2 A3 us vs ts x1 x3 xo po v1 v2 v3 v4 v5 v6 v7 v8 v9 v10 v11 v12 v13 v14 v15 S h1 h3 ho hne k
  have p0 := prime_pos S.pr
  have ht := S.ht
  have hm := S.hm
  refine ⟨_, rfl, _, rfl, x1, xo, p, tt, m, _, po, tt, m, _, rfl, rfl, h1, ho, fun H1 s1 => ?_⟩
  rw [eqT_f (fun z => hne z.1)]
  refine ⟨_, rfl, ?_⟩
  refine iteT ?_
  refine ⟨_, rfl, _, rfl, x1, x3, p, tt, m, _, p, tt, m, _, rfl, rfl, h1.same s1, h3.same s1, fun H2 s2 => ?_⟩
  have S2 := S.same (s1.trans s2)
  refine ⟨_, rfl, _, rfl, p, A1, us, rfl, by omega, S2.l1.sqa, S2.l1.rl.ra, by rw [S2.l1.len]; omega, fun l ml => by rw [S2.l1.w1 l ml]; omega, fun D1 z1 H3 n1 => ?_⟩
  obtain ⟨e1, r1', w1, _, _, s3⟩ := n1
  have S3 := S2.same s3
  refine ⟨_, rfl, _, rfl, p, A3, ts, rfl, by omega, S3.l3.sqa, S3.l3.rl.ra, by rw [S3.l3.len]; omega, fun l ml => by rw [S3.l3.w1 l ml]; omega, fun D2 z2 H4 n2 => ?_⟩
  obtain ⟨e2, r2', w2, _, _, s4⟩ := n2
  refine ⟨_, _, dp_lists (s4 _ _ e1) (fun z mz => s4 _ _ (r1' z mz)), dp_lists e2 r2', shp_dl _, shp_dl _, ?_⟩
  rw [eqv_dl, w1, w2]
  refine ⟨rfl, ?_⟩
  have e : decide (V.bl (id (eqT p tt m (modT p (rn us)) p tt m (modT p (rn ts)))) = V.bl (decide (modT p (rn us) = modT p (rn ts)))) = true := by
    have : eqT p tt m (modT p (rn us)) p tt m (modT p (rn ts)) = decide (modT p (rn us) = modT p (rn ts)) := by
      unfold eqT
      exact decide_eq_decide.mpr ⟨fun z => z.2.2.2, fun z => ⟨rfl, rfl, rfl, z⟩⟩
    rw [this]
    exact decide_eq_true rfl
  rw [e]
  have S4 := S3.same s4
  exact k _ S4.dr S4.kn S4.tb
end
end K01


set_option Elab.async false
set_option maxRecDepth 100000
set_option maxHeartbeats 4000000
set_option linter.all false
namespace K01
open PySem PySem.Spec PyProof.Rows L2 LamX GL
theorem ttb_bad {CB : Addr} {tl : XK → Hp → VK → Prop} {H : Hp} {Q : VK} (h : tl (fun cls dd H' => cls = .ref CB ∧ dd = none ∧ Same H H') H (fun _ _ => False)) (k : ∀ H', Same H H' → Q (.bl true) H') : TTb CB tl H Q :=
  ⟨_, _, h, fun cls dd H' q => ⟨q.1, q.2.1, fun a na => k _ (q.2.2.trans (same_upd na))⟩, fun v H' q => q.elim⟩
theorem rp_bad {CB : Addr} {H H1 : Hp} (s : Same H H1) : Rp CB H1 (fun cls dd H' => cls = .ref CB ∧ dd = none ∧ Same H H') := fun H' s' => ⟨rfl, rfl, s.trans s'⟩
theorem TsAt.kn {CT d lg cl : Addr} {H H' : Hp} (D : DrawAt H d lg cl) (k : KeptN d lg H H') {ts : List Tb} (h : TsAt CT H ts) : TsAt CT H' ts := fun z m => ⟨TabAt.kn D k (h z m).1, (h z m).2⟩
/-- two Tables that do not go together -/
theorem two_bad {K : PySem.W.Frag} {CT CB : Addr} {H : Hp} {E : XK} {a b : Tb} {ok : Addr → Int → Nat → Nat → List (List Int) → Addr → Int → Nat → Nat → List (List Int) → Prop} (ha : TabAt CT H a.a a.p a.t a.w a.L ∧ GoodT a.p a.t a.w a.L) (hb : TabAt CT H b.a b.p b.t b.w b.L ∧ GoodT b.p b.t b.w b.L) (h : ok a.a a.p a.t a.w a.L b.a b.p b.t b.w b.L) : TwoT K CT CB (.ref a.a) (.ref b.a) H E ok :=
  .inr ⟨a.a, a.p, a.t, a.w, a.L, rfl, ha.1, ha.2, .inr ⟨b.a, b.p, b.t, b.w, b.L, rfl, hb.1, hb.2, h⟩⟩
/-- what hangs on the tables of code where lambdas are made -/
structure Tc (base : Heap) (mg : Str → Option Value) (T : List (Addr × Str)) (q : Str) (c Pt : Addr) : Prop where
  TB : TabB base mg c Pt
  mem : (Pt, q ++ ".<locals>." ++ "<lambda>") ∈ T
  uq : ∀ p ∈ T, p.1 = Pt → p.2 = q ++ ".<locals>." ++ "<lambda>"
theorem lam_passes {X : Cx} {A : Around} {outer : List Env} {s : Shared} {H : Hp} {E : XK} {scope : Scope} {f c' : Addr} : Passes (L2.CX X.prog X.w) (lamCx X A outer s H E scope f c') E := passes_call (takes_of rfl rfl rfl rfl) fun _ _ _ _ h => h
section
variable {P : Program} {w : World} {K : PySem.W.Frag} {mg : Str → Option Value} {base : Heap} {CT CP CB CN CW : Addr}
/-- the loop over plus and minus, and what follows -/
theorem p47_loop {f c Pt : Addr} {A : Around} {outer : List Env} {s : Shared} {Hs : Hp} {E : XK} {T : List (Addr × Str)} (Y : Al P w K mg base CT CP CB CN CW) (C : Tc base mg T "_law_products_right" c Pt) (hr : Room 9 (A.deeper (envOfC "_law_products_right" (defScope sPrR) s.heap.objs.size f (.ref c)))) :
    ∃ t, PSs (X47 P w K mg base f c A outer s Hs E) ((defBody sPrR).drop 20) t ∧ ∀ (D : Ends) (H0 H : Hp) (d lg cl : Addr) (p : Int) (tt m wd : Nat) (A1 A2 A3 : Addr) (us vs ts : Rs) (x1 x3 xo xt : Addr) (po : Int) (Lt : List (List Int)) (v1 v2 v3 v4 v5 v6 v7 v8 v9 v10 v11 v13 v14 v15 : Option V),
      D47 CT d lg cl T p tt m wd A1 A2 A3 us vs ts H0 H → TsAt CT H [⟨x1, p, tt, m, modT p (rn us)⟩, ⟨x3, p, tt, m, modT p (rn ts)⟩, ⟨xo, po, tt, m, modT po (rn us)⟩, ⟨xt, p, tt + 1, m, Lt⟩] → p ≠ po →
      (∀ H', DrawAt H' d lg cl → KeptN d lg H0 H' → Tabs T H' → D.rt (.bl true) H') →
      t D [some (.ref d), some (.int p), v1, v2, v3, some (.ref A1), v4, some (.ref A3), v5, some (.ref x1), v6, some (.ref x3), v7, v8, v9, v10, v11, some (.ref xo), some (.ref xt), v13, v14, v15, none, none, none] H := by
  have nd := scPrR.nd
  obtain ⟨te, pe, re⟩ := p47_end (f := f) (c := c) (outer := outer) (Hs := Hs) (E := E) Y hr
  refine ⟨_, pss_cons (ps_for PassesOwn.never rfl (pi_list (pe_lst (pa_cons (pe_glob (v := .ref Y.pl.f) (by rfl) Y.pl.g rfl) (pa_cons (pe_glob (v := .ref Y.mi.f) (by rfl) Y.mi.g rfl) pa_nil)))) (pg_name (i := 19) nd rfl (Or.inr rfl))
      (pss_cons (ps_if (pt_not (pt_val (pe_lamV (k := 6) (by rfl) Y.N.gB Y.N.kB Y.N.isb C.TB rfl C.mem C.uq hr (lamS_by (sc := defScope sPrR) (by decide +kernel)) rfl (fun _ _ _ _ _ => rfl)
            (fun A' o' s' H' E' f' c' hr2 => show PE _ _ (tCallV P w K mg base (L2.CX P w) 6 19 E' (tCons (tVar 9) (tCons (tVar 17) tNil))) from pe_callVar (CX := L2.CX P w) (k := 6) (i := 19) hr2 (lam_passes (X := X47 P w K mg base f c A outer s Hs E) (A := A') (outer := o') (s := s') (H := H') (E := E') (f := f') (c' := c')) rfl (.inr (.inr rfl)) (pa_cons (pv 9) (pa_cons (pv 17) pa_nil)))))) (pss_one (ps_ret pe_bl)) pss_nil)
      (pss_one (ps_if (pt_not (pt_val (pe_lamV (k := 6) (by rfl) Y.N.gB Y.N.kB Y.N.isb C.TB rfl C.mem C.uq hr (lamS_by (sc := defScope sPrR) (by decide +kernel)) rfl (fun _ _ _ _ _ => rfl)
            (fun A' o' s' H' E' f' c' hr2 => show PE _ _ (tCallV P w K mg base (L2.CX P w) 6 19 E' (tCons (tVar 9) (tCons (tVar 18) tNil))) from pe_callVar (CX := L2.CX P w) (k := 6) (i := 19) hr2 (lam_passes (X := X47 P w K mg base f c A outer s Hs E) (A := A') (outer := o') (s := s') (H := H') (E := E') (f := f') (c' := c')) rfl (.inr (.inr rfl)) (pa_cons (pv 9) (pa_cons (pv 18) pa_nil)))))) (pss_one (ps_ret pe_bl)) pss_nil)))) pe, ?_⟩
  intro D H0 H d lg cl p tt m wd A1 A2 A3 us vs ts x1 x3 xo xt po Lt v1 v2 v3 v4 v5 v6 v7 v8 v9 v10 v11 v13 v14 v15 S hT hne k
  refine ⟨by show 2 ≤ sizeLine; decide, fun q nq => ?_⟩
  refine ⟨q, rfl, ⟨_, SqL.of upd_same⟩, ?_⟩
  have sq : Same H (upd H q (.lst [.ref Y.pl.f, .ref Y.mi.f])) := same_upd nq
  refine for_list (K := K) (a := q) (xs := [.ref Y.pl.f, .ref Y.mi.f]) (fun i σ Hx => ∃ v19 : Option V, σ = [some (.ref d), some (.int p), v1, v2, v3, some (.ref A1), v4, some (.ref A3), v5, some (.ref x1), v6, some (.ref x3), v7, v8, v9, v10, v11, some (.ref xo), some (.ref xt), v19, v14, v15, none, none, none] ∧
      D47 CT d lg cl T p tt m wd A1 A2 A3 us vs ts H0 Hx ∧ TsAt CT Hx [⟨x1, p, tt, m, modT p (rn us)⟩, ⟨x3, p, tt, m, modT p (rn ts)⟩, ⟨xo, po, tt, m, modT po (rn us)⟩, ⟨xt, p, tt + 1, m, Lt⟩] ∧ Hx q = some (.lst [.ref Y.pl.f, .ref Y.mi.f])) ⟨v13, rfl, S.same sq, hT.same sq, upd_same⟩ (fun i σ Hx _ hh => by obtain ⟨_, _, _, _, e⟩ := hh; exact SqL.of e) ?_ ?_
  · rintro i x σ Hx hi ⟨v19, rfl, Sx, Tx, ex⟩
    have hx : ∃ (fw : Addr) (fdw : FuncData) (g : Int → Int → Int), FnOk P w K mg base (L2.CX P w) 6 fw fdw ["one", "two"] (spSum2 K CT CB g) ∧ PySem.W.keepIn K (.ref fw) = true ∧ L2.Binds K fdw ["one", "two"] [] ∧ x = .ref fw := by
      match i, hi with
      | 0, hi => cases hi; exact ⟨_, _, _, Y.pl.ok, Y.pl.kp, Y.pl.b, rfl⟩
      | 1, hi => cases hi; exact ⟨_, _, _, Y.mi.ok, Y.mi.kp, Y.mi.b, rfl⟩
    obtain ⟨fw, fdw, g, ow, kw, bw, rfl⟩ := hx
    refine ⟨Sx.tb, fun Ha sa ta => ?_⟩
    have Sa := Sx.ext sa ta
    have Ta := ts_ext sa Tx
    refine ttb_bad ⟨fw, fdw, _, _, ow, kw, bw, rfl, _, rfl, _, rfl, _, _, rfl, two_bad (a := ⟨x1, p, tt, m, modT p (rn us)⟩) (b := ⟨xo, po, tt, m, modT po (rn us)⟩) (Ta _ (by simp)) (Ta _ (by simp)) (.inl ⟨fun z => hne z.1, rp_bad (Same.refl _)⟩)⟩ fun Hb sb => ?_
    refine ⟨_, rfl, ?_⟩
    refine iteF ?_
    have Sb := Sa.same sb
    have Tb2 := Ta.same sb
    refine ⟨Sb.tb, fun Hc sc tc => ?_⟩
    have Sc := Sb.ext sc tc
    have Tc2 := ts_ext sc Tb2
    refine ttb_bad ⟨fw, fdw, _, _, ow, kw, bw, rfl, _, rfl, _, rfl, _, _, rfl, two_bad (a := ⟨x1, p, tt, m, modT p (rn us)⟩) (b := ⟨xt, p, tt + 1, m, Lt⟩) (Tc2 _ (by simp)) (Tc2 _ (by simp)) (.inl ⟨fun z => by have := z.2.1; dsimp only at this; omega, rp_bad (Same.refl _)⟩)⟩ fun Hd sd => ?_
    refine ⟨_, rfl, ?_⟩
    refine iteF ?_
    have lst : ∀ {G G' : Hp}, ExtN G G' → G q = some (.lst [.ref Y.pl.f, .ref Y.mi.f]) → G' q = some (.lst [.ref Y.pl.f, .ref Y.mi.f]) := fun e h => e _ _ h (fun _ z => by cases z)
    exact ⟨_, rfl, Sc.same sd, Tc2.same sd, sd _ _ (lst sc (sb _ _ (lst sa ex)))⟩
  · rintro σ Hx ⟨v19, rfl, Sx, Tx, ex⟩
    exact re _ _ _ _ _ _ _ _ _ _ _ _ _ _ _ _ _ _ _ _ _ _ _ _ _ _ _ _ _ _ _ _ _ _ _ _ Sx (Tx ⟨x1, p, tt, m, modT p (rn us)⟩ (by simp)).1 (Tx ⟨x3, p, tt, m, modT p (rn ts)⟩ (by simp)).1 (Tx ⟨xo, po, tt, m, modT po (rn us)⟩ (by simp)).1 hne k
end
end K01


set_option Elab.async false
set_option maxRecDepth 100000
set_option maxHeartbeats 4000000
set_option linter.all false
namespace K01
open PySem PySem.Spec PyProof.Rows L2 LamX GL
theorem rl_rep {H : Hp} {a : Addr} {l : List Int} {n : Nat} (e : H a = some (.lst (l.map V.int))) : RL H (List.replicate n (a, l)) := fun z m => by rw [List.eq_of_mem_replicate m]; exact e
theorem rv_rep (a : Addr) (l : List Int) (n : Nat) : rv (List.replicate n (a, l)) = List.replicate n (.ref a) := by unfold rv; rw [List.map_replicate]
theorem rn_rep (a : Addr) (l : List Int) (n : Nat) : rn (List.replicate n (a, l)) = List.replicate n l := by unfold rn; rw [List.map_replicate]
theorem cast1 (n : Nat) : ((n : Int) + 1) = ((n + 1 : Nat) : Int) := rfl
section
variable {P : Program} {w : World} {K : PySem.W.Frag} {mg : Str → Option Value} {base : Heap} {CT CP CB CN CW : Addr}
/-- from longer on -/
theorem p47_b {f c Pt : Addr} {A : Around} {outer : List Env} {s : Shared} {Hs : Hp} {E : XK} {T : List (Addr × Str)} (Y : Al P w K mg base CT CP CB CN CW) (C : Tc base mg T "_law_products_right" c Pt) (hr : Room 9 (A.deeper (envOfC "_law_products_right" (defScope sPrR) s.heap.objs.size f (.ref c)))) :
    ∃ t, PSs (X47 P w K mg base f c A outer s Hs E) ((defBody sPrR).drop 16) t ∧ ∀ (D : Ends) (H0 H : Hp) (d lg cl : Addr) (p : Int) (tt m wd : Nat) (A1 A2 A3 : Addr) (us vs ts : Rs) (x1 x3 : Addr) (v3 v4 v5 v6 v7 v8 v9 v10 v14 v15 : Option V),
      D47 CT d lg cl T p tt m wd A1 A2 A3 us vs ts H0 H → TsAt CT H [⟨x1, p, tt, m, modT p (rn us)⟩, ⟨x3, p, tt, m, modT p (rn ts)⟩] →
      (∀ H', DrawAt H' d lg cl → KeptN d lg H0 H' → Tabs T H' → D.rt (.bl true) H') →
      t D [some (.ref d), some (.int p), some (.int tt), some (.int m), v3, some (.ref A1), v4, some (.ref A3), v5, some (.ref x1), v6, some (.ref x3), v7, v8, v9, v10, none, none, none, none, v14, v15, none, none, none] H := by
  have nd := scPrR.nd
  have r5 : Room 5 _ := hr.mono (by decide)
  obtain ⟨te, pe, re⟩ := p47_loop (f := f) (c := c) (outer := outer) (Hs := Hs) (E := E) Y C hr
  refine ⟨_, pss_cons (ps_set (i := 16) nd rfl (Or.inr rfl) (pe_make Y.G.m Y.G.ok r5 (by rfl) Y.G.T.t.g Y.G.b .nil (passes_call L2.takes0 fun _ _ _ _ h => h) (pa_cons (pv 1) (pa_cons (pe_op op_add (pv 3) pe_int) (pa_cons pe_int (pa_cons (pe_op op_rep (pe_lst (pa_cons (pe_lst (pa_cons pe_int pa_nil)) pa_nil)) (pe_op op_add (pv 3) pe_int)) pa_nil))))))
      (pss_cons (ps_if (pt_not (pt_val (pe_lamV (k := 6) (by rfl) Y.N.gB Y.N.kB Y.N.isb C.TB rfl C.mem C.uq hr (lamS_by (sc := defScope sPrR) (by decide +kernel)) rfl (fun _ _ _ _ _ => rfl)
            (fun A' o' s' H' E' f' c' hr2 => pe_call Y.ti.ok hr2 (by rfl) Y.ti.g Y.ti.kp Y.ti.b .nil (passes_call (takes_of rfl rfl rfl rfl) fun _ _ _ _ h => h) (pa_cons (pv 9) (pa_cons (pv 16) pa_nil)))))) (pss_one (ps_ret pe_bl)) pss_nil)
      (pss_cons (ps_set (i := 17) nd rfl (Or.inr rfl) (pe_make Y.G.m Y.G.ok r5 (by rfl) Y.G.T.t.g Y.G.b .nil (passes_call L2.takes0 fun _ _ _ _ h => h) (pa_cons (PE_conv (pe_ifExp (pt_cmpR op_ne (pv 1) pe_int (nomark _)) pe_int pe_int) (odd_conv (i := 1))) (pa_cons (pv 2) (pa_cons (pv 3) (pa_cons (pv 5) pa_nil))))))
      (pss_cons (ps_set (i := 18) nd rfl (Or.inr rfl) (pe_make Y.G.m Y.G.ok r5 (by rfl) Y.G.T.t.g Y.G.b .nil (passes_call L2.takes0 fun _ _ _ _ h => h) (pa_cons (pv 1) (pa_cons (pe_op op_add (pv 2) pe_int) (pa_cons (pv 3) (pa_cons (pe_op op_rep (pe_lst (pa_cons (pe_op op_rep (pe_lst (pa_cons pe_int pa_nil)) (pv 3)) pa_nil)) (pe_op op_add (pv 2) pe_int)) pa_nil)))))) pe))), ?_⟩
  intro D H0 H d lg cl p tt m wd A1 A2 A3 us vs ts x1 x3 v3 v4 v5 v6 v7 v8 v9 v10 v14 v15 S hT k
  have hpr := S.pr
  have ht := S.ht
  have hm := S.hm
  refine ⟨_, rfl, _, rfl, (m : Int), 1, rfl, rfl, ?_⟩
  refine ⟨by show 1 ≤ sizeLine; decide, fun q0 n0 => ⟨by show 1 ≤ sizeLine; decide, fun q1 n1 => ⟨_, rfl, (m : Int), 1, rfl, rfl, ?_⟩⟩⟩
  refine ⟨q1, (m : Int) + 1, [.ref q0], rfl, rfl, upd_same, by omega, by omega, ?_, fun q2 n2 => ?_⟩
  · rw [cast1, Int.toNat_natCast]
    exact Nat.le_of_lt (small_2000 (by show 1 * _ ≤ 2000; omega))
  rw [cast1, Int.toNat_natCast, rep1]
  have sa : Same H (upd (upd (upd H q0 (.lst [.int 0])) q1 (.lst [.ref q0])) q2 (.lst (List.replicate (m + 1) (V.ref q0)))) := ((same_upd n0).trans (same_upd n1)).trans (same_upd n2)
  have ea : (upd (upd (upd H q0 (.lst [.int 0])) q1 (.lst [.ref q0])) q2 (.lst (List.replicate (m + 1) (V.ref q0)))) q2 = some (.lst (rv (List.replicate (m + 1) (q0, [0])))) := by rw [upd_same, rv_rep]
  have ra : RL (upd (upd (upd H q0 (.lst [.int 0])) q1 (.lst [.ref q0])) q2 (.lst (List.replicate (m + 1) (V.ref q0)))) (List.replicate (m + 1) (q0, [0])) := rl_rep (same_upd n2 _ _ (same_upd n1 _ _ upd_same))
  generalize upd (upd (upd H q0 (.lst [.int 0])) q1 (.lst [.ref q0])) q2 (.lst (List.replicate (m + 1) (V.ref q0))) = Ha at sa ea ra
  intro xl dl1 nl ndl nel
  refine mkt_l (t := m + 1) (w := 1) (zs := List.replicate (m + 1) (q0, [0])) nl ndl nel hpr (by omega) (by decide) (.inl (SqL.of ea)) ra.ra (List.length_replicate ..) (fun l ml => by rw [rn_rep] at ml; rw [List.eq_of_mem_replicate ml]; rfl) fun H1 T1 s1 => ⟨rfl, ?_⟩
  have g1 : GoodT p (m + 1) 1 (modT p (rn (List.replicate (m + 1) (q0, [0])))) := good_mod hpr (by omega) (by decide) (by rw [rn_len, List.length_replicate]) fun l ml => by rw [rn_rep] at ml; rw [List.eq_of_mem_replicate ml]; rfl
  have S1 := S.same (sa.trans s1)
  have hT1 := hT.same (sa.trans s1)
  refine ⟨S1.tb, fun Hb sb tb => ?_⟩
  have S2 := S1.ext sb tb
  have hT2 := ts_ext sb hT1
  have Tl2 := TabAt.ext sb T1
  refine ttb_bad ⟨_, rfl, _, rfl, _, _, rfl, two_bad (a := ⟨x1, p, tt, m, modT p (rn us)⟩) (b := ⟨xl, p, m + 1, 1, _⟩) (hT2 _ (by simp)) ⟨Tl2, g1⟩ (.inl ⟨.inr (by dsimp only; omega), rp_bad (Same.refl _)⟩)⟩ fun Hc sc => ?_
  refine ⟨_, rfl, ?_⟩
  refine iteF ?_
  have S3 := S2.same sc
  have hT3 := hT2.same sc
  refine ⟨p, rfl, _, rfl, _, rfl, _, rfl, ?_⟩
  intro xo dxo no ndo neo
  refine mkt_l (t := tt) (w := m) (zs := us) no ndo neo (odd5_pr p) (by omega) (by omega) S3.l1.sqa S3.l1.rl.ra S3.l1.len S3.l1.w1 fun H4 T4 s4 => ⟨rfl, ?_⟩
  have S4 := S3.same s4
  have hT4 := hT3.same s4
  have go : GoodT (odd5 p) tt m (modT (odd5 p) (rn us)) := good_of (odd5_pr p) ht hm S3.l1
  refine ⟨_, rfl, _, rfl, (tt : Int), 1, rfl, rfl, _, rfl, ?_⟩
  refine ⟨by show 1 ≤ sizeLine; decide, fun q3 n3 => ⟨_, rfl, q3, (m : Int), [.int 0], rfl, rfl, upd_same, by omega, by omega, ?_, fun q4 n4 => ?_⟩⟩
  · rw [Int.toNat_natCast]
    exact Nat.le_of_lt (small_2000 (by show 1 * _ ≤ 2000; omega))
  rw [Int.toNat_natCast, rep1]
  have sd : Same H4 (upd (upd H4 q3 (.lst [.int 0])) q4 (.lst (List.replicate m (V.int 0)))) := (same_upd n3).trans (same_upd n4)
  have ed : (upd (upd H4 q3 (.lst [.int 0])) q4 (.lst (List.replicate m (V.int 0)))) q4 = some (.lst ((List.replicate m (0 : Int)).map V.int)) := by rw [upd_same, List.map_replicate]
  generalize upd (upd H4 q3 (.lst [.int 0])) q4 (.lst (List.replicate m (V.int 0))) = Hd at sd ed
  refine ⟨by show 1 ≤ sizeLine; decide, fun q5 n5 => ⟨_, rfl, (tt : Int), 1, rfl, rfl, q5, (tt : Int) + 1, [.ref q4], rfl, rfl, upd_same, by omega, by omega, ?_, fun q6 n6 => ?_⟩⟩
  · rw [cast1, Int.toNat_natCast]
    exact Nat.le_of_lt (small_2000 (by show 1 * _ ≤ 2000; omega))
  rw [cast1, Int.toNat_natCast, rep1]
  have se : Same H4 (upd (upd Hd q5 (.lst [.ref q4])) q6 (.lst (List.replicate (tt + 1) (V.ref q4)))) := sd.trans ((same_upd n5).trans (same_upd n6))
  have ee : (upd (upd Hd q5 (.lst [.ref q4])) q6 (.lst (List.replicate (tt + 1) (V.ref q4)))) q6 = some (.lst (rv (List.replicate (tt + 1) (q4, List.replicate m 0)))) := by rw [upd_same, rv_rep]
  have re2 : RL (upd (upd Hd q5 (.lst [.ref q4])) q6 (.lst (List.replicate (tt + 1) (V.ref q4)))) (List.replicate (tt + 1) (q4, List.replicate m 0)) := rl_rep (same_upd n6 _ _ (same_upd n5 _ _ ed))
  generalize upd (upd Hd q5 (.lst [.ref q4])) q6 (.lst (List.replicate (tt + 1) (V.ref q4))) = He at se ee re2
  intro xt dxt nt ndt net
  refine mkt_l (t := tt + 1) (w := m) (zs := List.replicate (tt + 1) (q4, List.replicate m 0)) nt ndt net hpr (by omega) (by omega) (.inl (SqL.of ee)) re2.ra (List.length_replicate ..) (fun l ml => by rw [rn_rep] at ml; rw [List.eq_of_mem_replicate ml, List.length_replicate]) fun H5 T5 s5 => ⟨rfl, ?_⟩
  have g5 : GoodT p (tt + 1) m (modT p (rn (List.replicate (tt + 1) (q4, List.replicate m 0)))) := good_mod hpr (by omega) (by omega) (by rw [rn_len, List.length_replicate]) fun l ml => by rw [rn_rep] at ml; rw [List.eq_of_mem_replicate ml, List.length_replicate]
  have s45 := se.trans s5
  have hT5 := hT4.same s45
  have fin : TsAt CT H5 [⟨x1, p, tt, m, modT p (rn us)⟩, ⟨x3, p, tt, m, modT p (rn ts)⟩, ⟨xo, odd5 p, tt, m, modT (odd5 p) (rn us)⟩, ⟨xt, p, tt + 1, m, modT p (rn (List.replicate (tt + 1) (q4, List.replicate m 0)))⟩] := fun z mz => by
    simp only [List.mem_cons, List.not_mem_nil, or_false] at mz
    rcases mz with rfl | rfl | rfl | rfl
    · exact hT5 _ (by simp)
    · exact hT5 _ (by simp)
    · exact ⟨T4.same s45, go⟩
    · exact ⟨T5, g5⟩
  exact re D H0 H5 d lg cl p tt m wd A1 A2 A3 us vs ts x1 x3 xo xt (odd5 p) _ _ _ _ _ _ _ _ _ _ _ _ _ _ _ (S4.same s45) fin (odd5_ne p) k
end
end K01


set_option Elab.async false
set_option maxRecDepth 100000
set_option maxHeartbeats 4000000
set_option linter.all false
namespace K01
open PySem PySem.Spec PyProof.Rows L2 LamX GL
theorem D47.kept {CT d lg cl : Addr} {T : List (Addr × Str)} {p : Int} {t m wd : Nat} {A1 A2 A3 : Addr} {us vs ts : Rs} {H0 H H' : Hp} (S : D47 CT d lg cl T p t m wd A1 A2 A3 us vs ts H0 H) (D : DrawAt H' d lg cl) (k : Kept d lg H H') : D47 CT d lg cl T p t m wd A1 A2 A3 us vs ts H0 H' := S.to D k.n (Tabs.kept S.dr k S.tb)
section
variable {P : Program} {w : World} {K : PySem.W.Frag} {mg : Str → Option Value} {base : Heap} {CT CP CB CN CW : Addr}
/-- from number on -/
theorem p47_c {f c Pt : Addr} {A : Around} {outer : List Env} {s : Shared} {Hs : Hp} {E : XK} {T : List (Addr × Str)} (Y : Al P w K mg base CT CP CB CN CW) (C : Tc base mg T "_law_products_right" c Pt) (hga : A.guards = some []) (hr : Room 9 (A.deeper (envOfC "_law_products_right" (defScope sPrR) s.heap.objs.size f (.ref c)))) :
    ∃ t, PSs (X47 P w K mg base f c A outer s Hs E) ((defBody sPrR).drop 12) t ∧ ∀ (D : Ends) (H0 H : Hp) (d lg cl : Addr) (p : Int) (tt m wd : Nat) (A1 A2 A3 : Addr) (us vs ts : Rs) (x1 x3 : Addr) (v3 v4 v5 v6 v7 v8 v14 v15 : Option V),
      D47 CT d lg cl T p tt m wd A1 A2 A3 us vs ts H0 H → TsAt CT H [⟨x1, p, tt, m, modT p (rn us)⟩, ⟨x3, p, tt, m, modT p (rn ts)⟩] →
      (∀ H', DrawAt H' d lg cl → KeptN d lg H0 H' → Tabs T H' → D.rt (.bl true) H') →
      t D [some (.ref d), some (.int p), some (.int tt), some (.int m), v3, some (.ref A1), v4, some (.ref A3), v5, some (.ref x1), v6, some (.ref x3), v7, v8, none, none, none, none, none, none, v14, v15, none, none, none] H := by
  have nd := scPrR.nd
  have r1 : Room 1 _ := hr.mono (by decide)
  have r3 : Room 3 _ := hr.mono (by decide)
  have r6 : Room 6 _ := hr.mono (by decide)
  have r8 : Room 8 _ := hr.mono (by decide)
  obtain ⟨te, pe, re⟩ := p47_b (f := f) (c := c) (outer := outer) (Hs := Hs) (E := E) Y C hr
  refine ⟨_, pss_cons (ps_set (i := 14) nd rfl (Or.inr rfl) (pe_call Y.N.pick r3 (by rfl) Y.N.gK Y.N.kK Y.N.bK .nil pass0 (pa_cons (pv 0) (pa_cons (pe_lst (pa_cons pe_int (pa_cons pe_int (pa_cons (pe_un un_neg pe_int) (pa_cons pe_int (pa_cons (pv 1) (pa_cons (pe_op op_pow pe_int pe_int) (pa_cons (pe_un un_neg pe_int) pa_nil)))))))) pa_nil))))
      (pss_cons (ps_setLc (i := 15) (own := [("a", 22)]) (g := gName 22) (by rfl) nd rfl rfl (sw_true rfl rfl rfl (by decide +kernel)) (pi_seq (pv 5)) (blkOk_by (own := [("a", 22)]) (N := N47) (sc := defScope sPrR) (by decide +kernel)) (fun _ _ _ _ _ => pg_name (i := 22) nd rfl (Or.inl rfl)) (fun _ _ _ _ _ => pts_nil)
          (fun _ _ _ _ _ => pe_lc (own := [("item", 24)]) (g := gName 24) (by rfl) nd (show PI _ _ _ (iSeq K (tVar 22)) from pi_seq (pv 22)) (blkOk_by (own := [("item", 24)]) (N := N47) (by kernel_rfl)) (fun _ _ _ _ _ => pg_name (i := 24) nd rfl (Or.inl rfl)) (fun _ _ _ _ _ => pts_nil)
            (fun _ _ _ _ _ => pe_op op_mul (pv 24) (pv 14))))
      (pss_cons (ps_if (pt_not (pt_val (pe_callG Y.sh.ok hga r8 (by rfl) Y.sh.g Y.sh.kp Y.sh.b .nil pass0 (pa_cons (pe_callK0 Y.sc.ok r6 (by rfl) Y.sc.g Y.sc.kp Y.sc.kb (passes_call L2.takes0 fun _ _ _ _ h => h) (pk_cons (pv 14) (pk_cons (pv 9) pk_nil))) (pa_cons (pv 1) (pa_cons (pv 2) (pa_cons (pv 3) (pa_cons (pv 15) pa_nil)))))))) (pss_one (ps_ret pe_bl)) pss_nil)
      (pss_cons (ps_if (pt_not (pt_val (pe_callG Y.sh.ok hga r8 (by rfl) Y.sh.g Y.sh.kp Y.sh.b .nil pass0 (pa_cons (pe_call Y.ac.ok r6 (by rfl) Y.ac.g Y.ac.kp Y.ac.b .nil (passes_call L2.takes0 fun _ _ _ _ h => h) (pa_cons (pv 9) pa_nil)) (pa_cons (pv 1) (pa_cons (pv 3) (pa_cons (pv 2) (pa_cons (pe_call Y.tu.ok r1 (by rfl) Y.tu.g Y.tu.kp Y.tu.b .nil pass0 (pa_cons (pv 5) (pa_cons (pv 3) pa_nil))) pa_nil)))))))) (pss_one (ps_ret pe_bl)) pss_nil) pe))), ?_⟩
  intro D H0 H d lg cl p tt m wd A1 A2 A3 us vs ts x1 x3 v3 v4 v5 v6 v7 v8 v14 v15 S hT k
  have hpr := S.pr
  have hp97 := prime_pos hpr
  have ht := S.ht
  have hm := S.hm
  refine ⟨_, rfl, 1, rfl, _, rfl, 10, 20, rfl, rfl, ⟨by decide, by decide, by decide⟩, 7, rfl, by show 7 ≤ sizeLine; decide, fun q nq => ?_⟩
  refine one_pick (ns := [0, 1, -1, 2, p, 10 ^ (20 : Int).toNat, -7]) (E := fun _ _ _ => False) S.dr (by show 0 < 7; decide) (by show 7 < 1000; decide) (fun n H1 _ D1 k1 => ?_) nq
  have S1 := S.kept D1 k1
  have hT1 := hT.kn S.dr k1.n
  refine ⟨_, rfl, A1, rv us, rfl, S1.l1.sqa, fun J hJ B nB => ?_⟩
  have eus := S1.l1.rl
  have lus : us.length = tt := S1.l1.len
  refine lc_seq hJ (fun j Hd => ∃ ws : Rs, rn ws = ((rn us).map fun l => l.map (· * n)).take j ∧ RL Hd ws ∧ Hd B = some (.lst (rv ws)) ∧ (∀ z ∈ ws, z.1 ≠ B) ∧ Same H1 Hd) ⟨[], rfl, fun z m => by simp at m, upd_same, fun z m => by simp at m, same_upd nB⟩ (fun j Hd _ hh => by obtain ⟨_, _, _, _, _, s⟩ := hh; exact .of s) ?_ ?_
  · rintro j y Hd hj ⟨ws, hw2, pw, eD, nw, sd⟩
    obtain ⟨⟨r, l⟩, hz, rfl⟩ := rv_inv hj
    have hzm : (r, l) ∈ us := List.mem_of_getElem? hz
    have hjl : j < us.length := (List.getElem?_eq_some_iff.mp hz).1
    obtain ⟨hll, hlb⟩ := S1.l1.wid l (List.mem_map.mpr ⟨_, hzm, rfl⟩)
    have hwsl : ws.length ≤ j := by
      have := congrArg List.length hw2
      rw [rn_len, List.length_take] at this
      omega
    refine ⟨rfl, ?_⟩
    dsimp only [tYes]
    refine iteT ?_
    refine ⟨_, rfl, r, l.map V.int, rfl, .inl (SqL.of (sd _ _ (eus _ hzm))), fun J2 hJ2 D2 nD2 => ?_⟩
    refine lc_seq hJ2 (fun i He => He D2 = some (.lst ((l.take i).map fun x => V.int (x * n))) ∧ Same Hd He) ⟨upd_same, same_upd nD2⟩ (fun m He _ hh => .of hh.2) ?_ ?_
    · rintro i y He hi ⟨eD2, se⟩
      obtain ⟨x, hx, rfl⟩ := map_inv hi
      have hil : i < l.length := (List.getElem?_eq_some_iff.mp hx).1
      have hb := hlb x (List.mem_of_getElem? hx)
      refine ⟨rfl, ?_⟩
      dsimp only [tYes]
      refine iteT ?_
      refine ⟨_, rfl, _, rfl, x, n, rfl, rfl, .inl ⟨by omega, by omega⟩, _, eD2, small_2000 (by rw [List.length_map, List.length_take]; omega), ?_, same_put se nD2⟩
      rw [upd_same, List.take_add_one, hx, List.map_append]
      rfl
    · rintro He ⟨eD2, se⟩
      rw [List.length_map, List.take_length] at eD2
      have nDD : D2 ≠ B := fun z => by rw [z, eD] at nD2; cases nD2
      obtain ⟨q1, q2⟩ := rl_add (o := .lst (rv ws ++ [.ref D2])) (l := l.map (· * n)) (fun z m => se _ _ (pw z m)) nw (by rw [eD2, List.map_map]; rfl) nDD
      refine ⟨_, se _ _ eD, small_2000 (by rw [rv_len]; omega), ws ++ [(D2, l.map (· * n))], ?_, q1, by rw [upd_same, rv_app], q2, same_put (sd.trans se) nB⟩
      rw [rn_app, hw2, List.take_add_one]
      unfold rn
      rw [List.getElem?_map, List.getElem?_map, hz]
      rfl
  · rintro Hd ⟨ws, hw2, pw, eD, nw, sd⟩
    rw [rv_len, List.take_of_length_le (by rw [List.length_map, rn_len]; exact Nat.le_refl _)] at hw2
    have S2 := S1.same sd
    have hT2 := hT1.same sd
    refine ⟨_, rfl, _, rfl, _, _, rfl, .inr ⟨x1, p, tt, m, modT p (rn us), rfl, (hT2 ⟨x1, p, tt, m, modT p (rn us)⟩ (by simp)).1, (hT2 ⟨x1, p, tt, m, modT p (rn us)⟩ (by simp)).2, .inr ⟨n, rfl, fun z H3 hz s3 => ?_⟩⟩⟩
    rw [scal_mod, ← hw2] at hz
    have S3 := S2.same s3
    have hT3 := hT2.same s3
    have gw : GoodT p tt m (modT p (rn ws)) := good_mod hpr (by omega) (by omega) (by rw [hw2, List.length_map]; exact S3.l1.rlen) fun l ml => by
      rw [hw2] at ml
      obtain ⟨l0, m0, rfl⟩ := List.mem_map.mp ml
      rw [List.length_map]
      exact S3.l1.w1 l0 m0
    refine ⟨_, rfl, _, rfl, _, rfl, _, rfl, z, B, p, tt, m, ws, rfl, hz, gw, .inl (SqL.of (s3 _ _ eD)), RL.ra fun y my => s3 _ _ (pw y my), fun H4 s4 => ?_⟩
    refine ⟨_, rfl, ?_⟩
    refine iteF ?_
    have S4 := S3.same s4
    have hT4 := hT3.same s4
    refine ⟨_, rfl, _, rfl, .inr ⟨x1, p, tt, m, modT p (rn us), rfl, (hT4 ⟨x1, p, tt, m, modT p (rn us)⟩ (by simp)).1, (hT4 ⟨x1, p, tt, m, modT p (rn us)⟩ (by simp)).2, fun y H5 hy s5 => ?_⟩⟩
    have S5 := S4.same s5
    refine ⟨_, rfl, _, rfl, _, rfl, _, rfl, _, rfl, A1, us, m, rfl, S5.l1.sqa, S5.l1.rl.ra, by omega, by omega, fun l ml => by rw [S5.l1.w1 l ml]; exact Nat.le_refl _, fun B2 zs H6 N6 => ?_⟩
    obtain ⟨e6, r6', w6, _, _, s6⟩ := N6
    have hy6 := hy.same s6
    rw [cols_mod, ← w6] at hy6
    have g6 : GoodT p m tt (modT p (rn zs)) := by
      have := good_cols (good_of hpr ht hm S5.l1)
      rw [cols_mod, ← w6] at this
      exact this
    refine ⟨y, B2, p, m, tt, zs, rfl, hy6, g6, .inl (SqL.of e6), r6'.ra, fun H7 s7 => ?_⟩
    refine ⟨_, rfl, ?_⟩
    refine iteF ?_
    have s57 := (s5.trans s6).trans s7
    exact re D H0 H7 d lg cl p tt m wd A1 A2 A3 us vs ts x1 x3 _ _ _ _ _ _ _ _ _ _ (S4.same s57) (hT4.same s57) k
end
end K01


set_option Elab.async false
set_option maxRecDepth 100000
set_option maxHeartbeats 4000000
set_option linter.all false
namespace K01
open PySem PySem.Spec PyProof.Rows L2 LamX GL
section
variable {P : Program} {w : World} {K : PySem.W.Frag} {mg : Str → Option Value} {base : Heap} {CT CP CB CN CW : Addr}
/-- from the look at times on -/
theorem p47_d {f c Pt : Addr} {A : Around} {outer : List Env} {s : Shared} {Hs : Hp} {E : XK} {T : List (Addr × Str)} (Y : Al P w K mg base CT CP CB CN CW) (C : Tc base mg T "_law_products_right" c Pt) (hga : A.guards = some []) (hr : Room 9 (A.deeper (envOfC "_law_products_right" (defScope sPrR) s.heap.objs.size f (.ref c)))) :
    ∃ t, PSs (X47 P w K mg base f c A outer s Hs E) ((defBody sPrR).drop 7) t ∧ ∀ (D : Ends) (H0 H : Hp) (d lg cl : Addr) (p : Int) (tt m wd : Nat) (A1 A2 A3 : Addr) (us vs ts : Rs) (x1 x2 x3 : Addr) (v5 v14 v15 : Option V),
      D47 CT d lg cl T p tt m wd A1 A2 A3 us vs ts H0 H → TsAt CT H [⟨x1, p, tt, m, modT p (rn us)⟩, ⟨x2, p, m, wd, modT p (rn vs)⟩, ⟨x3, p, tt, m, modT p (rn ts)⟩] →
      (∀ H', DrawAt H' d lg cl → KeptN d lg H0 H' → Tabs T H' → D.rt (.bl true) H') →
      t D [some (.ref d), some (.int p), some (.int tt), some (.int m), some (.int wd), some (.ref A1), some (.ref A2), some (.ref A3), v5, some (.ref x1), some (.ref x2), some (.ref x3), none, none, none, none, none, none, none, none, v14, v15, none, none, none] H := by
  have nd := scPrR.nd
  have r1 : Room 1 _ := hr.mono (by decide)
  have r6 : Room 6 _ := hr.mono (by decide)
  have r8 : Room 8 _ := hr.mono (by decide)
  obtain ⟨te, pe, re⟩ := p47_c (f := f) (c := c) (outer := outer) (Hs := Hs) (E := E) Y C hga hr
  refine ⟨_, pss_cons (ps_if (pt_not (pt_val (pe_callG Y.sh.ok hga r8 (by rfl) Y.sh.g Y.sh.kp Y.sh.b .nil pass0 (pa_cons (pe_callK0 Y.ti.ok r6 (by rfl) Y.ti.g Y.ti.kp Y.ti.kb (passes_call L2.takes0 fun _ _ _ _ h => h) (pk_cons (pv 10) (pk_cons (pv 9) pk_nil))) (pa_cons (pv 1) (pa_cons (pv 2) (pa_cons (pv 4) (pa_cons (pe_call Y.pr.ok r1 (by rfl) Y.pr.g Y.pr.kp Y.pr.b .nil pass0 (pa_cons (pv 1) (pa_cons (pv 5) (pa_cons (pv 6) (pa_cons (pv 4) pa_nil))))) pa_nil)))))))) (pss_one (ps_ret pe_bl)) pss_nil)
      (pss_cons (ps_setLc (i := 12) (own := [("a", 22), ("b", 23)]) (g := gTup K 2 (gCons (gName 22) (gCons (gName 23) gNil))) (by rfl) nd rfl rfl (sw_true rfl rfl rfl (by decide +kernel)) (pi_z2 (by rfl) Y.mZ (pa_cons (pv 5) (pa_cons (pv 7) pa_nil))) (blkOk_by (own := [("a", 22), ("b", 23)]) (N := N47) (sc := defScope sPrR) (by decide +kernel))
          (fun _ _ _ _ _ => pg_tup (by rfl) (pgs_cons (pg_name (i := 22) nd rfl (Or.inl rfl)) (pgs_cons (pg_name (i := 23) nd rfl (Or.inl rfl)) pgs_nil))) (fun _ _ _ _ _ => pts_nil)
          (fun _ _ _ _ _ => pe_lc (own := [("here", 20), ("there", 21)]) (g := gTup K 2 (gCons (gName 20) (gCons (gName 21) gNil))) (by rfl) nd (show PI _ _ _ (iZ2 K (tCons (tVar 22) (tCons (tVar 23) tNil))) from pi_z2 (by rfl) Y.mZ (pa_cons (pv 22) (pa_cons (pv 23) pa_nil))) (blkOk_by (own := [("here", 20), ("there", 21)]) (N := N47) (by kernel_rfl))
            (fun _ _ _ _ _ => pg_tup (by rfl) (pgs_cons (pg_name (i := 20) nd rfl (Or.inl rfl)) (pgs_cons (pg_name (i := 21) nd rfl (Or.inl rfl)) pgs_nil))) (fun _ _ _ _ _ => pts_nil)
            (fun _ _ _ _ _ => pe_op op_add (pv 20) (pv 21))))
      (pss_cons (ps_setLc (i := 13) (own := [("a", 22), ("b", 23)]) (g := gTup K 2 (gCons (gName 22) (gCons (gName 23) gNil))) (by rfl) nd rfl rfl (sw_true rfl rfl rfl (by decide +kernel)) (pi_z2 (by rfl) Y.mZ (pa_cons (pv 5) (pa_cons (pv 7) pa_nil))) (blkOk_by (own := [("a", 22), ("b", 23)]) (N := N47) (sc := defScope sPrR) (by decide +kernel))
          (fun _ _ _ _ _ => pg_tup (by rfl) (pgs_cons (pg_name (i := 22) nd rfl (Or.inl rfl)) (pgs_cons (pg_name (i := 23) nd rfl (Or.inl rfl)) pgs_nil))) (fun _ _ _ _ _ => pts_nil)
          (fun _ _ _ _ _ => pe_lc (own := [("here", 20), ("there", 21)]) (g := gTup K 2 (gCons (gName 20) (gCons (gName 21) gNil))) (by rfl) nd (show PI _ _ _ (iZ2 K (tCons (tVar 22) (tCons (tVar 23) tNil))) from pi_z2 (by rfl) Y.mZ (pa_cons (pv 22) (pa_cons (pv 23) pa_nil))) (blkOk_by (own := [("here", 20), ("there", 21)]) (N := N47) (by kernel_rfl))
            (fun _ _ _ _ _ => pg_tup (by rfl) (pgs_cons (pg_name (i := 20) nd rfl (Or.inl rfl)) (pgs_cons (pg_name (i := 21) nd rfl (Or.inl rfl)) pgs_nil))) (fun _ _ _ _ _ => pts_nil)
            (fun _ _ _ _ _ => pe_op op_sub (pv 20) (pv 21))))
      (pss_cons (ps_if (pt_not (pt_val (pe_callG Y.sh.ok hga r8 (by rfl) Y.sh.g Y.sh.kp Y.sh.b .nil pass0 (pa_cons (pe_callK0 Y.pl.ok r6 (by rfl) Y.pl.g Y.pl.kp Y.pl.kb (passes_call L2.takes0 fun _ _ _ _ h => h) (pk_cons (pv 11) (pk_cons (pv 9) pk_nil))) (pa_cons (pv 1) (pa_cons (pv 2) (pa_cons (pv 3) (pa_cons (pv 12) pa_nil)))))))) (pss_one (ps_ret pe_bl)) pss_nil)
      (pss_cons (ps_if (pt_not (pt_val (pe_callG Y.sh.ok hga r8 (by rfl) Y.sh.g Y.sh.kp Y.sh.b .nil pass0 (pa_cons (pe_callK0 Y.mi.ok r6 (by rfl) Y.mi.g Y.mi.kp Y.mi.kb (passes_call L2.takes0 fun _ _ _ _ h => h) (pk_cons (pv 11) (pk_cons (pv 9) pk_nil))) (pa_cons (pv 1) (pa_cons (pv 2) (pa_cons (pv 3) (pa_cons (pv 13) pa_nil)))))))) (pss_one (ps_ret pe_bl)) pss_nil)
      pe)))), ?_⟩
  intro D H0 H d lg cl p tt m wd A1 A2 A3 us vs ts x1 x2 x3 v5 v14 v15 S hT k
  have hpr := S.pr
  have hp97 := prime_pos hpr
  have ht := S.ht
  have hm := S.hm
  have hw := S.hw
  refine ⟨_, rfl, _, rfl, _, _, rfl, two_bad (a := ⟨x1, p, tt, m, modT p (rn us)⟩) (b := ⟨x2, p, m, wd, modT p (rn vs)⟩) (hT _ (by simp)) (hT _ (by simp)) (.inr ⟨rfl, rfl, fun z H1 hz s1 => ?_⟩)⟩
  have S1 := S.same s1
  have hlM : ∀ l ∈ rn us, l.length = (rn vs).length := fun l ml => by rw [S1.l1.w1 l ml, S1.l2.rlen]
  rw [mul_acc hlM S1.l2.w1] at hz
  refine ⟨_, rfl, _, rfl, _, rfl, _, rfl, _, rfl, _, rfl, _, rfl, p, A1, A2, us, vs, wd, rfl, by omega, S1.l1.at_, S1.l1.rl, S1.l2.sqa, S1.l2.rl.ra, by rw [S1.l1.len]; omega, by omega, fun l ml => ⟨by rw [hlM l ml, rn_len], (S1.l1.wid l ml).2⟩, S1.l2.w1, fun B0 zs H2 N2 => ?_⟩
  obtain ⟨e2, r2', w2, _, _, s2⟩ := N2
  have hz2 := hz.same s2
  have eqz : modT p (rn zs) = modT p ((rn us).map fun l => accRow (rn vs) wd l l.length) := by rw [w2, modT_modT]
  have ga : GoodT p tt wd (modT p (rn zs)) := by
    rw [w2]
    refine good_mod hpr (by omega) (by omega) ?_ fun l ml => ?_
    · unfold modT; rw [List.length_map, List.length_map]; exact S1.l1.rlen
    · unfold modT at ml
      rw [List.map_map] at ml
      obtain ⟨l0, m0, rfl⟩ := List.mem_map.mp ml
      show (List.map (· % p) (accRow (rn vs) wd l0 l0.length)).length = wd
      rw [List.length_map, acc_dot S1.l2.w1 (hlM l0 m0) _ (Nat.le_refl _), List.length_map, List.length_range]
  refine ⟨z, B0, p, tt, wd, zs, rfl, by rw [eqz]; exact hz2, ga, .inl (SqL.of e2), r2'.ra, fun H3 s3 => ?_⟩
  refine ⟨_, rfl, ?_⟩
  refine iteF ?_
  have s13 := (s1.trans s2).trans s3
  have S3 := S.same s13
  have hT3 := hT.same s13
  clear hz hz2 ga eqz e2 r2' w2
  have lus3 : us.length = tt := S3.l1.len
  have lts3 : ts.length = tt := S3.l3.len
  refine ⟨_, rfl, _, rfl, A1, A3, rv us, rv ts, rfl, S3.l1.sqa, S3.l3.sqa, fun J hJ B nB => ?_⟩
  refine lc_z2 hJ (by rw [rv_len, rv_len, lus3, lts3]) (fun i Hd => ∃ ws : Rs, rn ws = (zipL (· + ·) (rn us) (rn ts)).take i ∧ RL Hd ws ∧ Hd B = some (.lst (rv ws)) ∧ (∀ z ∈ ws, z.1 ≠ B) ∧ Same H3 Hd) ⟨[], rfl, fun z m => by simp at m, upd_same, fun z m => by simp at m, same_upd nB⟩
    (fun i Hd _ hh => by obtain ⟨_, _, _, _, _, s⟩ := hh; exact ⟨.of s, .of s⟩) ?_ ?_
  · rintro i x y U Hd hx hy ⟨ws, hw2, pw, eD, nw, sd⟩ nU
    obtain ⟨⟨q1, l1⟩, hz1, rfl⟩ := rv_inv hx
    obtain ⟨⟨q2, l2⟩, hz2, rfl⟩ := rv_inv hy
    have m1 : (q1, l1) ∈ us := List.mem_of_getElem? hz1
    have m2 : (q2, l2) ∈ ts := List.mem_of_getElem? hz2
    have hil : i < us.length := (List.getElem?_eq_some_iff.mp hz1).1
    have ll1 : l1.length = m := S3.l1.w1 l1 (List.mem_map.mpr ⟨_, m1, rfl⟩)
    have ll2 : l2.length = m := S3.l3.w1 l2 (List.mem_map.mpr ⟨_, m2, rfl⟩)
    have hwsl : ws.length ≤ i := by
      have := congrArg List.length hw2
      rw [rn_len, List.length_take] at this
      omega
    have sU : Same Hd (upd Hd U (.tup [.ref q1, .ref q2])) := same_upd nU
    have nUB : U ≠ B := fun z => by rw [z, eD] at nU; cases nU
    refine ⟨U, [.ref q1, .ref q2], rfl, .inl (.inl upd_same), rfl, .ref q1, [.ref q2], rfl, .ref q2, [], rfl, rfl, rfl, ?_⟩
    dsimp only [tYes]
    refine iteT ?_
    have su := sd.trans sU
    refine ⟨_, rfl, _, rfl, q1, q2, l1.map V.int, l2.map V.int, rfl, .inl (SqL.of (su _ _ (S3.l1.rl _ m1))), .inl (SqL.of (su _ _ (S3.l3.rl _ m2))), fun J2 hJ2 D2 nD2 => ?_⟩
    refine lc_z2 hJ2 (by rw [List.length_map, List.length_map, ll1, ll2]) (fun j He => He D2 = some (.lst (((List.zipWith (· + ·) l1 l2).take j).map V.int)) ∧ Same (upd Hd U (.tup [.ref q1, .ref q2])) He) ⟨upd_same, same_upd nD2⟩ (fun j He _ hh => ⟨.of hh.2, .of hh.2⟩) ?_ ?_
    · rintro j x y U2 He hx hy ⟨eD2, se⟩ nU2
      obtain ⟨i1, hn1, rfl⟩ := map_inv hx
      obtain ⟨i2, hn2, rfl⟩ := map_inv hy
      have hjl : j < l1.length := (List.getElem?_eq_some_iff.mp hn1).1
      refine ⟨U2, [.int i1, .int i2], rfl, .inl (.inl upd_same), rfl, .int i1, [.int i2], rfl, .int i2, [], rfl, rfl, rfl, ?_⟩
      dsimp only [tYes]
      refine iteT ?_
      refine ⟨_, rfl, _, rfl, i1, i2, rfl, rfl, _, same_upd nU2 _ _ eD2, small_2000 (by rw [List.length_map, List.length_take, List.length_zipWith]; omega), ?_, same_put (se.trans (same_upd nU2)) nD2⟩
      rw [upd_same, List.take_add_one, List.getElem?_zipWith, hn1, hn2, List.map_append]
      rfl
    · rintro He ⟨eD2, se⟩
      rw [List.take_of_length_le (by rw [List.length_zipWith, List.length_map]; omega)] at eD2
      have eU := sU.trans se
      have nDD : D2 ≠ B := fun z => by rw [z, sU _ _ eD] at nD2; cases nD2
      obtain ⟨t1, t2⟩ := rl_add (o := .lst (rv ws ++ [.ref D2])) (fun z m => eU _ _ (pw z m)) nw eD2 nDD
      refine ⟨_, eU _ _ eD, small_2000 (by rw [rv_len]; omega), ws ++ [(D2, List.zipWith (· + ·) l1 l2)], ?_, t1, by rw [upd_same, rv_app], t2, same_put (sd.trans eU) nB⟩
      rw [rn_app, hw2, List.take_add_one]
      unfold zipL rn
      rw [List.getElem?_zipWith, List.getElem?_map, List.getElem?_map, hz1, hz2]
      rfl
  rintro H4 ⟨ws3, hw3, pw3, eD3, nw3, sd3⟩
  rw [rv_len, List.take_of_length_le (by unfold zipL; rw [List.length_zipWith, rn_len, rn_len]; omega)] at hw3
  have S4 := S3.same sd3
  have hT4 := hT3.same sd3
  have gw3 : GoodT p tt m (modT p (rn ws3)) := by
    refine good_mod hpr (by omega) (by omega) ?_ fun l ml => ?_
    · rw [hw3]; unfold zipL; rw [List.length_zipWith, rn_len, rn_len]; omega
    · rw [hw3] at ml
      unfold zipL at ml
      obtain ⟨i, hi, e⟩ := List.getElem_of_mem ml
      rw [List.getElem_zipWith] at e
      rw [← e, List.length_zipWith, S3.l1.w1 _ (List.getElem_mem _), S3.l3.w1 _ (List.getElem_mem _), Nat.min_self]
  have lus4 : us.length = tt := S4.l1.len
  have lts4 : ts.length = tt := S4.l3.len
  refine ⟨_, rfl, _, rfl, A1, A3, rv us, rv ts, rfl, S4.l1.sqa, S4.l3.sqa, fun J hJ B nB => ?_⟩
  refine lc_z2 hJ (by rw [rv_len, rv_len, lus4, lts4]) (fun i Hd => ∃ ws : Rs, rn ws = (zipL (· - ·) (rn us) (rn ts)).take i ∧ RL Hd ws ∧ Hd B = some (.lst (rv ws)) ∧ (∀ z ∈ ws, z.1 ≠ B) ∧ Same H4 Hd) ⟨[], rfl, fun z m => by simp at m, upd_same, fun z m => by simp at m, same_upd nB⟩
    (fun i Hd _ hh => by obtain ⟨_, _, _, _, _, s⟩ := hh; exact ⟨.of s, .of s⟩) ?_ ?_
  · rintro i x y U Hd hx hy ⟨ws, hw2, pw, eD, nw, sd⟩ nU
    obtain ⟨⟨q1, l1⟩, hz1, rfl⟩ := rv_inv hx
    obtain ⟨⟨q2, l2⟩, hz2, rfl⟩ := rv_inv hy
    have m1 : (q1, l1) ∈ us := List.mem_of_getElem? hz1
    have m2 : (q2, l2) ∈ ts := List.mem_of_getElem? hz2
    have hil : i < us.length := (List.getElem?_eq_some_iff.mp hz1).1
    have ll1 : l1.length = m := S4.l1.w1 l1 (List.mem_map.mpr ⟨_, m1, rfl⟩)
    have ll2 : l2.length = m := S4.l3.w1 l2 (List.mem_map.mpr ⟨_, m2, rfl⟩)
    have hwsl : ws.length ≤ i := by
      have := congrArg List.length hw2
      rw [rn_len, List.length_take] at this
      omega
    have sU : Same Hd (upd Hd U (.tup [.ref q1, .ref q2])) := same_upd nU
    have nUB : U ≠ B := fun z => by rw [z, eD] at nU; cases nU
    refine ⟨U, [.ref q1, .ref q2], rfl, .inl (.inl upd_same), rfl, .ref q1, [.ref q2], rfl, .ref q2, [], rfl, rfl, rfl, ?_⟩
    dsimp only [tYes]
    refine iteT ?_
    have su := sd.trans sU
    refine ⟨_, rfl, _, rfl, q1, q2, l1.map V.int, l2.map V.int, rfl, .inl (SqL.of (su _ _ (S4.l1.rl _ m1))), .inl (SqL.of (su _ _ (S4.l3.rl _ m2))), fun J2 hJ2 D2 nD2 => ?_⟩
    refine lc_z2 hJ2 (by rw [List.length_map, List.length_map, ll1, ll2]) (fun j He => He D2 = some (.lst (((List.zipWith (· - ·) l1 l2).take j).map V.int)) ∧ Same (upd Hd U (.tup [.ref q1, .ref q2])) He) ⟨upd_same, same_upd nD2⟩ (fun j He _ hh => ⟨.of hh.2, .of hh.2⟩) ?_ ?_
    · rintro j x y U2 He hx hy ⟨eD2, se⟩ nU2
      obtain ⟨i1, hn1, rfl⟩ := map_inv hx
      obtain ⟨i2, hn2, rfl⟩ := map_inv hy
      have hjl : j < l1.length := (List.getElem?_eq_some_iff.mp hn1).1
      refine ⟨U2, [.int i1, .int i2], rfl, .inl (.inl upd_same), rfl, .int i1, [.int i2], rfl, .int i2, [], rfl, rfl, rfl, ?_⟩
      dsimp only [tYes]
      refine iteT ?_
      refine ⟨_, rfl, _, rfl, i1, i2, rfl, rfl, _, same_upd nU2 _ _ eD2, small_2000 (by rw [List.length_map, List.length_take, List.length_zipWith]; omega), ?_, same_put (se.trans (same_upd nU2)) nD2⟩
      rw [upd_same, List.take_add_one, List.getElem?_zipWith, hn1, hn2, List.map_append]
      rfl
    · rintro He ⟨eD2, se⟩
      rw [List.take_of_length_le (by rw [List.length_zipWith, List.length_map]; omega)] at eD2
      have eU := sU.trans se
      have nDD : D2 ≠ B := fun z => by rw [z, sU _ _ eD] at nD2; cases nD2
      obtain ⟨t1, t2⟩ := rl_add (o := .lst (rv ws ++ [.ref D2])) (fun z m => eU _ _ (pw z m)) nw eD2 nDD
      refine ⟨_, eU _ _ eD, small_2000 (by rw [rv_len]; omega), ws ++ [(D2, List.zipWith (· - ·) l1 l2)], ?_, t1, by rw [upd_same, rv_app], t2, same_put (sd.trans eU) nB⟩
      rw [rn_app, hw2, List.take_add_one]
      unfold zipL rn
      rw [List.getElem?_zipWith, List.getElem?_map, List.getElem?_map, hz1, hz2]
      rfl
  rintro H5 ⟨ws4, hw4, pw4, eD4, nw4, sd4⟩
  rw [rv_len, List.take_of_length_le (by unfold zipL; rw [List.length_zipWith, rn_len, rn_len]; omega)] at hw4
  have S5 := S4.same sd4
  have hT5 := hT4.same sd4
  have gw4 : GoodT p tt m (modT p (rn ws4)) := by
    refine good_mod hpr (by omega) (by omega) ?_ fun l ml => ?_
    · rw [hw4]; unfold zipL; rw [List.length_zipWith, rn_len, rn_len]; omega
    · rw [hw4] at ml
      unfold zipL at ml
      obtain ⟨i, hi, e⟩ := List.getElem_of_mem ml
      rw [List.getElem_zipWith] at e
      rw [← e, List.length_zipWith, S4.l1.w1 _ (List.getElem_mem _), S4.l3.w1 _ (List.getElem_mem _), Nat.min_self]
  refine ⟨_, rfl, _, rfl, _, _, rfl, two_bad (a := ⟨x1, p, tt, m, modT p (rn us)⟩) (b := ⟨x3, p, tt, m, modT p (rn ts)⟩) (hT5 _ (by simp)) (hT5 _ (by simp)) (.inr ⟨rfl, rfl, rfl, fun z H6 hz s6 => ?_⟩)⟩
  rw [zip_mod add_mod2, ← hw3] at hz
  have e3' := s6 _ _ (sd4 _ _ eD3)
  refine ⟨_, rfl, _, rfl, _, rfl, _, rfl, _, _, p, tt, m, ws3, rfl, hz, gw3, .inl (SqL.of e3'), RL.ra fun y my => s6 _ _ (sd4 _ _ (pw3 y my)), fun H7 s7 => ?_⟩
  refine ⟨_, rfl, ?_⟩
  refine iteF ?_
  have s57 := s6.trans s7
  have S7 := S5.same s57
  have hT7 := hT5.same s57
  refine ⟨_, rfl, _, rfl, _, _, rfl, two_bad (a := ⟨x1, p, tt, m, modT p (rn us)⟩) (b := ⟨x3, p, tt, m, modT p (rn ts)⟩) (hT7 _ (by simp)) (hT7 _ (by simp)) (.inr ⟨rfl, rfl, rfl, fun z2 H8 hz2 s8 => ?_⟩)⟩
  rw [zip_mod sub_mod2, ← hw4] at hz2
  have s58 := s57.trans s8
  refine ⟨_, rfl, _, rfl, _, rfl, _, rfl, _, _, p, tt, m, ws4, rfl, hz2, gw4, .inl (SqL.of (s58 _ _ eD4)), RL.ra fun y my => s58 _ _ (pw4 y my), fun H9 s9 => ?_⟩
  refine ⟨_, rfl, ?_⟩
  refine iteF ?_
  have s59 := s58.trans s9
  have hT9 := hT5.same s59
  have fin : TsAt CT H9 [⟨x1, p, tt, m, modT p (rn us)⟩, ⟨x3, p, tt, m, modT p (rn ts)⟩] := fun z mz => by
    simp only [List.mem_cons, List.not_mem_nil, or_false] at mz
    rcases mz with rfl | rfl
    · exact hT9 _ (by simp)
    · exact hT9 _ (by simp)
  exact re D H0 H9 d lg cl p tt m wd A1 A2 A3 us vs ts x1 x3 _ _ _ _ _ _ _ _ (S5.same s59) fin k
end
end K01


set_option Elab.async false
set_option maxRecDepth 100000
set_option maxHeartbeats 4000000
set_option linter.all false
namespace K01
open PySem PySem.Spec PyProof.Rows L2 LamX GL
theorem size_nat {p : Int} (h : p ∈ ([0, 1, 1, 2, 2, 3, 4, 5] : List Int)) : ∃ t : Nat, t ≤ 5 ∧ p = (t : Int) := by
  simp only [List.mem_cons, List.not_mem_nil, or_false] at h
  exact ⟨p.toNat, by omega, by omega⟩
/-- a def of the law that takes the draws and the field -/
def spDf (T : List (Addr × Str)) : Sp := fun vs H Q _ => ∃ (d lg cl : Addr) (p : Int), vs = [.ref d, .int p] ∧ DrawAt H d lg cl ∧ p ∈ primes ∧ Tabs T H ∧ ∀ H', DrawAt H' d lg cl → KeptN d lg H H' → Tabs T H' → Q (.bl true) H'
section
variable {P : Program} {w : World} {K : PySem.W.Frag} {mg : Str → Option Value} {base : Heap} {CT CP CB CN CW : Addr}
theorem ok_prodr {f c Pt : Addr} {fd : FuncData} {T : List (Addr × Str)} (F : FunC K "_law_products_right" "_law_products_right" sPrR f fd c) (Y : Al P w K mg base CT CP CB CN CW) (C : Tc base mg T "_law_products_right" c Pt) : FnG P w K mg base CX0 10 f fd ["draw", "field"] (spDf T) := by
  refine F.okG scPrR (fun vs H Q E h => ?_) (fun A outer s H vs Q E hga hr h => ?_)
  · obtain ⟨d, lg, cl, p, rfl, _⟩ := h
    rfl
  · obtain ⟨d, lg, cl, p, rfl, DR, hpr, hT, k⟩ := h
    have nd := scPrR.nd
    have hu70 : (A.deeper (envOfC "_law_products_right" (defScope sPrR) s.heap.objs.size f (.ref c))).units + 70 < cLine := by have := hr.un; omega
    have r4 : Room 4 _ := hr.mono (by decide)
    have r5 : Room 5 _ := hr.mono (by decide)
    obtain ⟨te, pe, re⟩ := p47_d (f := f) (c := c) (outer := outer) (Hs := H) (E := E) Y C hga hr
    refine ⟨_, pss_cons (ps_par3 (i := 2) (j := 3) (l := 4) (by rfl) nd rfl rfl rfl (by decide) (by decide) (by decide) rfl rfl rfl (pa_cons (pe_call Y.si.ok r4 (by rfl) Y.si.g Y.si.kp Y.si.b .nil pass0 (pa_cons (pv 0) pa_nil)) (pa_cons (pe_call Y.si.ok r4 (by rfl) Y.si.g Y.si.kp Y.si.b .nil pass0 (pa_cons (pv 0) pa_nil)) (pa_cons (pe_call Y.si.ok r4 (by rfl) Y.si.g Y.si.kp Y.si.b .nil pass0 (pa_cons (pv 0) pa_nil)) pa_nil))) (by rfl))
      (pss_cons (ps_par (i := 5) (j := 6) (by rfl) nd rfl rfl (by decide) rfl rfl (pa_cons (pe_call Y.wi.ok r4 (by rfl) Y.wi.g Y.wi.kp Y.wi.b .nil pass0 (pa_cons (pv 0) (pa_cons (pv 1) (pa_cons (pv 2) (pa_cons (pv 3) pa_nil))))) (pa_cons (pe_call Y.wi.ok r4 (by rfl) Y.wi.g Y.wi.kp Y.wi.b .nil pass0 (pa_cons (pv 0) (pa_cons (pv 1) (pa_cons (pv 3) (pa_cons (pv 4) pa_nil))))) pa_nil)) (by rfl))
      (pss_cons (ps_set (i := 7) nd rfl (Or.inl rfl) (pe_call Y.wi.ok r4 (by rfl) Y.wi.g Y.wi.kp Y.wi.b .nil pass0 (pa_cons (pv 0) (pa_cons (pv 1) (pa_cons (pv 2) (pa_cons (pv 3) pa_nil))))))
      (pss_cons (ps_set (i := 8) nd rfl (Or.inl rfl) (pe_callB (id := "repr") (call_repr (K := K) rfl (by exact hga) (by exact hu70)) (by rfl) Y.mRe (by decide +kernel) (pa_cons (pe_lst (pa_cons (pv 5) (pa_cons (pv 6) pa_nil))) pa_nil)))
      (pss_cons (ps_asg (pe_tup (pa_cons (pe_make Y.G.m Y.G.ok r5 (by rfl) Y.G.T.t.g Y.G.b .nil (passes_call L2.takes0 fun _ _ _ _ h => h) (pa_cons (pv 1) (pa_cons (pv 2) (pa_cons (pv 3) (pa_cons (pv 5) pa_nil))))) (pa_cons (pe_make Y.G.m Y.G.ok r5 (by rfl) Y.G.T.t.g Y.G.b .nil (passes_call L2.takes0 fun _ _ _ _ h => h) (pa_cons (pv 1) (pa_cons (pv 3) (pa_cons (pv 4) (pa_cons (pv 6) pa_nil))))) pa_nil))) (pg_tup (by rfl) (pgs_cons (pg_name (i := 9) nd rfl (Or.inr rfl)) (pgs_cons (pg_name (i := 10) nd rfl (Or.inl rfl)) pgs_nil))))
      (pss_cons (ps_if (pt_cmpR op_ne (pe_callB (id := "repr") (call_repr (K := K) rfl (by exact hga) (by exact hu70)) (by rfl) Y.mRe (by decide +kernel) (pa_cons (pe_lst (pa_cons (pv 5) (pa_cons (pv 6) pa_nil))) pa_nil)) (pv 8) (nomark _)) (pss_one (ps_ret pe_bl)) pss_nil)
      (pss_cons (ps_set (i := 11) nd rfl (Or.inl rfl) (pe_make Y.G.m Y.G.ok r5 (by rfl) Y.G.T.t.g Y.G.b .nil (passes_call L2.takes0 fun _ _ _ _ h => h) (pa_cons (pv 1) (pa_cons (pv 2) (pa_cons (pv 3) (pa_cons (pv 7) pa_nil)))))) pe)))))), ?_⟩
    have hp97 := prime_pos hpr
    refine ⟨_, rfl, d, lg, cl, rfl, DR, fun i1 H1 m1 D1 k1 => ⟨_, rfl, d, lg, cl, rfl, D1, fun i2 H2 m2 D2 k2 => ⟨_, rfl, d, lg, cl, rfl, D2, fun i3 H3 m3 D3 k3 => ?_⟩⟩⟩
    obtain ⟨tt, ht, rfl⟩ := size_nat m1
    obtain ⟨m, hm, rfl⟩ := size_nat m2
    obtain ⟨wd, hw, rfl⟩ := size_nat m3
    refine ⟨_, _, _, rfl, ?_⟩
    refine ⟨_, rfl, _, rfl, _, rfl, _, rfl, d, lg, cl, p, tt, m, rfl, D3, by omega, by omega, by omega, by omega, fun A1 us H4 N4 => ?_⟩
    refine ⟨_, rfl, _, rfl, _, rfl, _, rfl, d, lg, cl, p, m, wd, rfl, N4.dr, by omega, by omega, by omega, by omega, fun A2 vs H5 N5 => ?_⟩
    refine ⟨_, _, rfl, ?_⟩
    refine ⟨_, rfl, _, rfl, _, rfl, _, rfl, d, lg, cl, p, tt, m, rfl, N5.dr, by omega, by omega, by omega, by omega, fun A3 ts H6 N6 => ?_⟩
    have l1 : LsD d lg H6 A1 us tt m := ((LsD.of D3 N4).kn N5.kp.n).kn N6.kp.n
    have l2 : LsD d lg H6 A2 vs m wd := (LsD.of N4.dr N5).kn N6.kp.n
    have l3 : LsD d lg H6 A3 ts tt m := LsD.of N5.dr N6
    have k6 : Kept d lg H H6 := ((((k1.trans k2).trans k3).trans N4.kp).trans N5.kp).trans N6.kp
    have S : D47 CT d lg cl T p tt m wd A1 A2 A3 us vs ts H H6 := ⟨N6.dr, Tabs.kept DR k6 hT, l1, l2, l3, k6.n, hpr, ht, hm, hw⟩
    have sm : ∀ {D : Addr} {zs : Rs} {a b : Nat} {G : Hp}, LsD d lg G D zs a b → SmL (rn zs) := fun l x mx i mi => (l.wid x mx).2 i mi
    have shw : Shown (dTwo (rn us) (rn vs)) := shown_two (by rw [l1.rlen]; exact ht) (fun l ml => by rw [l1.w1 l ml]; exact hm) (sm l1) (by rw [l2.rlen]; exact hm) (fun l ml => by rw [l2.w1 l ml]; exact hw) (sm l2)
    have rd : ∀ {G : Hp} {q : Addr}, D47 CT d lg cl T p tt m wd A1 A2 A3 us vs ts H G → G q = some (.lst [.ref A1, .ref A2]) → RdV K G (.ref q) (dTwo (rn us) (rn vs)) := fun S e => rdv (dp_two e S.l1.at_ S.l1.rl S.l2.at_ S.l2.rl) (nd_two _ _)
    clear N4 N5 N6 l1 l2 l3
    refine ⟨_, rfl, _, rfl, by show 2 ≤ sizeLine; decide, fun q7 n7 => ⟨_, _, rfl, rd (S.same (same_upd n7)) upd_same, shw, ?_⟩⟩
    have S7 := S.same (same_upd (o := .lst [.ref A1, .ref A2]) n7)
    generalize upd H6 q7 (.lst [.ref A1, .ref A2]) = H7 at S7
    refine ⟨_, rfl, _, rfl, _, rfl, _, rfl, ?_⟩
    intro x1 dx1 nx1 nd1 ne1
    refine mkt_l (t := tt) (w := m) (zs := us) nx1 nd1 ne1 hpr (by omega) (by omega) S7.l1.sqa S7.l1.rl.ra S7.l1.len S7.l1.w1 fun H8 T8 s8 => ⟨rfl, ?_⟩
    have S8 := S7.same s8
    refine ⟨_, rfl, _, rfl, _, rfl, _, rfl, ?_⟩
    intro x2 dx2 nx2 nd2 ne2
    refine mkt_l (t := m) (w := wd) (zs := vs) nx2 nd2 ne2 hpr (by omega) (by omega) S8.l2.sqa S8.l2.rl.ra S8.l2.len S8.l2.w1 fun H9 T9 s9 => ⟨rfl, ?_⟩
    refine ⟨by show 2 ≤ sizeLine; decide, fun q10 n10 => ?_⟩
    have s89 : Same H8 (upd H9 q10 (.tup [.ref x1, .ref x2])) := s9.trans (same_upd n10)
    have S10 := S8.same s89
    have T10 := T9.same (same_upd (o := .tup [.ref x1, .ref x2]) n10)
    have T8' := T8.same s89
    refine ⟨q10, [.ref x1, .ref x2], rfl, .inl (.inl upd_same), rfl, .ref x1, [.ref x2], rfl, .ref x2, [], rfl, rfl, ?_⟩
    generalize upd H9 q10 (.tup [.ref x1, .ref x2]) = H10 at S10 T10 T8'
    refine ⟨_, rfl, _, rfl, by show 2 ≤ sizeLine; decide, fun q11 n11 => ⟨_, _, rfl, rd (S10.same (same_upd n11)) upd_same, shw, ?_⟩⟩
    have s11 : Same H10 (upd H10 q11 (.lst [.ref A1, .ref A2])) := same_upd n11
    generalize upd H10 q11 (.lst [.ref A1, .ref A2]) = H11 at s11
    refine ⟨_, rfl, rfl, _, rfl, ?_⟩
    refine iteFb (by simp) ?_
    have S11 := S10.same s11
    refine ⟨_, rfl, _, rfl, _, rfl, _, rfl, ?_⟩
    intro x3 dx3 nx3 nd3 ne3
    refine mkt_l (t := tt) (w := m) (zs := ts) nx3 nd3 ne3 hpr (by omega) (by omega) S11.l3.sqa S11.l3.rl.ra S11.l3.len S11.l3.w1 fun H12 T12 s12 => ⟨rfl, ?_⟩
    have S12 := S11.same s12
    have s112 := s11.trans s12
    have fin : TsAt CT H12 [⟨x1, p, tt, m, modT p (rn us)⟩, ⟨x2, p, m, wd, modT p (rn vs)⟩, ⟨x3, p, tt, m, modT p (rn ts)⟩] := fun z mz => by
      simp only [List.mem_cons, List.not_mem_nil, or_false] at mz
      rcases mz with rfl | rfl | rfl
      · exact ⟨T8'.same s112, good_of hpr ht hm S12.l1⟩
      · exact ⟨T10.same s112, good_of hpr hm hw S12.l2⟩
      · exact ⟨T12, good_of hpr ht hm S12.l3⟩
    exact re _ H H12 d lg cl p tt m wd A1 A2 A3 us vs ts x1 x2 x3 _ _ _ S12 fin k
end
end K01


set_option Elab.async false
set_option maxRecDepth 100000
set_option maxHeartbeats 4000000
set_option linter.all false
namespace K01
open PySem PySem.Spec PyProof.Rows L2 LamX GL
/-- one of the tables that are put together: how wide, its lists, the Table -/
structure It where
  w : Nat
  A : Addr
  us : Rs
  x : Addr
abbrev sumw (its : List It) : Nat := (its.map (·.w)).sum
/-- what one of them is, as the program sees it -/
def tbI (p : Int) (t : Nat) (i : It) : Tb := ⟨i.x, p, t, i.w, modT p (rn i.us)⟩
/-- its columns -/
def tbC (p : Int) (t : Nat) (i : It) (y : Addr) : Tb := ⟨y, p, i.w, t, modT p (colsOf (rn i.us) i.w)⟩
theorem tvI (p : Int) (t : Nat) (its : List It) : tv (its.map (tbI p t)) = its.map fun i => V.ref i.x := by
  unfold tv
  rw [List.map_map]
  rfl
theorem sumW_I (p : Int) (t : Nat) (its : List It) : sumW (its.map (tbI p t)) = sumw its := by
  unfold sumW sumw
  rw [List.map_map]
  rfl
theorem sumT_I (p : Int) (t : Nat) : ∀ its : List It, sumT (its.map (tbI p t)) = t * its.length
  | [] => rfl
  | i :: r => by
    have := sumT_I p t r
    unfold sumT at *
    rw [List.map_cons, List.map_cons, List.sum_cons, this, List.length_cons, Nat.mul_succ]
    show t + _ = _
    omega
theorem getD_mod (p : Int) (L : List (List Int)) (k : Nat) : (modT p L).getD k [] = (L.getD k []).map (· % p) := by
  rw [List.getD_eq_getElem?_getD, List.getD_eq_getElem?_getD]
  unfold modT
  rw [List.getElem?_map]
  cases L[k]? <;> rfl
/-- line k of all, not modulo the prime -/
def besRw (its : List It) (k : Nat) : List Int := (its.map fun i => (rn i.us).getD k []).flatten
def besR (its : List It) (t : Nat) : List (List Int) := (List.range t).map (besRw its)
theorem bes_mod (p : Int) (t : Nat) (its : List It) : besL (its.map (tbI p t)) t = modT p (besR its t) := by
  unfold besL besR
  conv => rhs; unfold modT
  rw [List.map_map]
  refine List.map_congr_left fun k _ => ?_
  show besRow (its.map (tbI p t)) k = (besRw its k).map (· % p)
  unfold besRow besRw
  rw [List.map_map, List.map_flatten, List.map_map]
  congr 1
  exact List.map_congr_left fun i _ => getD_mod p _ k
/-- the items fit: so many lines, so wide -/
def Fit (t : Nat) (its : List It) : Prop := ∀ i ∈ its, (rn i.us).length = t ∧ ∀ l ∈ rn i.us, l.length = i.w
theorem row_w {t : Nat} {i : It} (h : (rn i.us).length = t ∧ ∀ l ∈ rn i.us, l.length = i.w) {k : Nat} (hk : k < t) : ((rn i.us).getD k []).length = i.w := by
  rw [List.getD_eq_getElem?_getD, List.getElem?_eq_getElem (by omega)]
  exact h.2 _ (List.getElem_mem _)
theorem besRw_len {t : Nat} : ∀ {its : List It}, Fit t its → ∀ {k : Nat}, k < t → (besRw its k).length = sumw its
  | [], _, _, _ => rfl
  | i :: r, h, k, hk => by
    have ih := besRw_len (fun j m => h j (List.mem_cons_of_mem _ m)) hk
    unfold besRw at *
    rw [List.map_cons, List.flatten_cons, List.length_append, ih, row_w (h i (List.mem_cons_self ..)) hk]
    show _ = ((i :: r).map (·.w)).sum
    rw [List.map_cons, List.sum_cons]
theorem besR_len (its : List It) (t : Nat) : (besR its t).length = t := by unfold besR; rw [List.length_map, List.length_range]
theorem besR_w {t : Nat} {its : List It} (h : Fit t its) : ∀ l ∈ besR its t, l.length = sumw its := fun l m => by
  unfold besR at m
  obtain ⟨k, hk, rfl⟩ := List.mem_map.mp m
  exact besRw_len h (List.mem_range.mp hk)
theorem colOf_tab {t : Nat} {L : List (List Int)} (e : L.length = t) (j : Nat) : colOf L j = (List.range t).map fun k => (L.getD k []).getD j 0 := by
  subst e
  unfold colOf
  refine List.ext_getElem (by rw [List.length_map, List.length_map, List.length_range]) fun k h1 h2 => ?_
  rw [List.length_map] at h1
  rw [List.getElem_map, List.getElem_map, List.getElem_range]
  show _ = (L.getD k []).getD j 0
  rw [List.getD_eq_getElem?_getD (l := L), List.getElem?_eq_getElem h1]
  rfl
theorem col_bes {t : Nat} : ∀ {its : List It}, Fit t its → colsOf (besR its t) (sumw its) = (its.map fun i => colsOf (rn i.us) i.w).flatten
  | [], _ => rfl
  | i :: r, h => by
    have hr : Fit t r := fun j m => h j (List.mem_cons_of_mem _ m)
    have ih := col_bes hr
    have hi := h i (List.mem_cons_self ..)
    rw [List.map_cons, List.flatten_cons, ← ih]
    have es : sumw (i :: r) = i.w + sumw r := by unfold sumw; rw [List.map_cons, List.sum_cons]
    rw [es]
    unfold colsOf
    rw [List.range_add, List.map_append, List.map_map]
    have at_ : ∀ j, colOf (besR (i :: r) t) j = (List.range t).map fun k => (((rn i.us).getD k []) ++ besRw r k).getD j 0 := fun j => by
      unfold colOf besR
      rw [List.map_map]
      rfl
    congr 1
    · refine List.map_congr_left fun j mj => ?_
      have hj := List.mem_range.mp mj
      rw [at_, colOf_tab hi.1]
      refine List.map_congr_left fun k mk => ?_
      have hk := List.mem_range.mp mk
      have hw := row_w hi hk
      generalize (rn i.us).getD k [] = g at hw ⊢
      rw [List.getD_eq_getElem?_getD, List.getD_eq_getElem?_getD, List.getElem?_append_left (by omega)]
    · refine List.map_congr_left fun j mj => ?_
      have hj := List.mem_range.mp mj
      show colOf (besR (i :: r) t) (i.w + j) = colOf (besR r t) j
      rw [at_]
      unfold colOf besR
      rw [List.map_map]
      refine List.map_congr_left fun k mk => ?_
      have hk := List.mem_range.mp mk
      show _ = (besRw r k).getD j 0
      have hw := row_w hi hk
      generalize (rn i.us).getD k [] = g at hw ⊢
      rw [List.getD_eq_getElem?_getD, List.getD_eq_getElem?_getD, List.getElem?_append_right (by omega), hw, Nat.add_sub_cancel_left]
theorem modT_flat (p : Int) (Ls : List (List (List Int))) : modT p Ls.flatten = (Ls.map (modT p)).flatten := by
  unfold modT
  rw [List.map_flatten]
/-- along the diagonal, not modulo the prime -/
def padR (x y : Nat) (l : List Int) : List Int := List.replicate x 0 ++ l ++ List.replicate y 0
def corR (W : Nat) : Nat → List It → List (List Int)
  | _, [] => []
  | x, i :: r => (rn i.us).map (padR x (W - x - i.w)) ++ corR W (x + i.w) r
theorem corR_app (W : Nat) : ∀ (x : Nat) (its : List It) (i : It), corR W x (its ++ [i]) = corR W x its ++ (rn i.us).map (padR (x + sumw its) (W - (x + sumw its) - i.w))
  | x, [], i => by simp [corR, sumw]
  | x, y :: r, i => by
    have e : x + sumw (y :: r) = x + y.w + sumw r := by unfold sumw; rw [List.map_cons, List.sum_cons]; omega
    rw [e]
    show (rn y.us).map _ ++ corR W (x + y.w) (r ++ [i]) = ((rn y.us).map _ ++ corR W (x + y.w) r) ++ _
    rw [corR_app W (x + y.w) r i, List.append_assoc]
theorem pad_mod (p : Int) (x y : Nat) (L : List (List Int)) : padL x y (modT p L) = modT p (L.map (padR x y)) := by
  unfold padL modT
  rw [List.map_map, List.map_map]
  refine List.map_congr_left fun l _ => ?_
  show _ = (padR x y l).map (· % p)
  unfold padR
  rw [List.map_append, List.map_append, List.map_replicate, List.map_replicate, Int.zero_emod]
  rfl
theorem modT_app (p : Int) (L M : List (List Int)) : modT p (L ++ M) = modT p L ++ modT p M := by unfold modT; rw [List.map_append]
theorem cor_mod (p : Int) (t W : Nat) : ∀ (x : Nat) (its : List It), corL W x (its.map (tbI p t)) = modT p (corR W x its)
  | _, [] => rfl
  | x, i :: r => by
    show padL x (W - x - i.w) (modT p (rn i.us)) ++ corL W (x + i.w) (r.map (tbI p t)) = modT p ((rn i.us).map (padR x (W - x - i.w)) ++ corR W (x + i.w) r)
    rw [modT_app, cor_mod p t W (x + i.w) r, pad_mod]
theorem corR_len {W t : Nat} : ∀ {x : Nat} {its : List It}, Fit t its → (corR W x its).length = t * its.length
  | _, [], _ => rfl
  | x, i :: r, h => by
    show ((rn i.us).map _ ++ corR W (x + i.w) r).length = _
    rw [List.length_append, List.length_map, corR_len (fun j m => h j (List.mem_cons_of_mem _ m)), (h i (List.mem_cons_self ..)).1, List.length_cons, Nat.mul_succ]
    omega
theorem corR_w {W t : Nat} : ∀ {x : Nat} {its : List It}, Fit t its → x + sumw its ≤ W → ∀ l ∈ corR W x its, l.length = W
  | _, [], _, _, l, m => by cases m
  | x, i :: r, h, hx, l, m => by
    have e : sumw (i :: r) = i.w + sumw r := by unfold sumw; rw [List.map_cons, List.sum_cons]
    rw [e] at hx
    rcases List.mem_append.mp m with m | m
    · obtain ⟨l0, m0, rfl⟩ := List.mem_map.mp m
      have := (h i (List.mem_cons_self ..)).2 l0 m0
      unfold padR
      rw [List.length_append, List.length_append, List.length_replicate, List.length_replicate, this]
      omega
    · exact corR_w (fun j m => h j (List.mem_cons_of_mem _ m)) (by omega) l m
end K01


set_option Elab.async false
set_option maxRecDepth 100000
set_option maxHeartbeats 4000000
set_option linter.all false
namespace K01
open PySem PySem.Spec PyProof.Rows L2 LamX GL
/-- for over a zip of two -/
theorem for_z2 {K : PySem.W.Frag} {a b : Addr} {xs ys : List L2.V} {H1 : Hp} {J : L2.It} (Wk : IsZ K a b xs ys H1 J) (hl : xs.length = ys.length) {g : TG} {tb : TS} {D : Ends} {σ : L2.St} {H : Hp} (Pv : Nat → L2.St → Hp → Prop) (h0 : Pv 0 σ H) (hq : ∀ i σ H, i ≤ xs.length → Pv i σ H → Stay K a H1 H ∧ Stay K b H1 H)
    (hs : ∀ i x y U σ H, xs[i]? = some x → ys[i]? = some y → Pv i σ H → H U = none → g (.ref U) σ (upd H U (.tup [x, y])) fun σ2 H2 => tb { D with nx := Pv (i + 1), ct := Pv (i + 1), bk := D.nx } σ2 H2) (hd : ∀ σ H, Pv xs.length σ H → D.nx σ H) :
    ∃ W : Nat → Nat → L2.St → Hp → Prop, (∃ m, W 0 m σ H) ∧ ∀ i m σ H, W i m σ H →
      (J.stop i H ∧ D.nx σ H) ∨ (J.go i H ∧ ∃ N : L2.St → Hp → Prop, (∀ σ' H', N σ' H' → ∃ m', m' < m ∧ W (i + 1) m' σ' H') ∧ ∀ x H', J.yld i H x H' → g x σ H' fun σ2 H2 => tb { D with nx := N, ct := N, bk := D.nx } σ2 H2) := by
  refine ⟨fun i m σ H => m + i = xs.length ∧ Pv i σ H, ⟨xs.length, rfl, h0⟩, fun i m σ H h => ?_⟩
  obtain ⟨hm, p⟩ := h
  obtain ⟨s1, s2⟩ := hq i σ H (by omega) p
  obtain ⟨w1, w2, w3⟩ := Wk i H s1 s2
  rcases Nat.lt_or_ge i xs.length with lt | ge
  · refine .inr ⟨w1 xs[i] (ys[i]'(by omega)) (List.getElem?_eq_getElem lt) (List.getElem?_eq_getElem (by omega)), Pv (i + 1), fun σ' H' p' => ⟨m - 1, by omega, by omega, p'⟩, fun v H' hv => ?_⟩
    obtain ⟨U, x, y, rfl, hU, rfl, e1, e2⟩ := w2 v H' hv
    exact hs i x y U σ _ e1 e2 p hU
  · have e : i = xs.length := by omega
    subst e
    exact .inl ⟨w3 (Nat.le_refl _) (by omega) (.inl rfl), hd σ H p⟩
/-- what stands while the lists of tables are looked at -/
structure D48 (CT d lg cl : Addr) (T : List (Addr × Str)) (p : Int) (t : Nat) (its : List It) (Av Al At : Addr) (H0 H : Hp) : Prop where
  dr : DrawAt H d lg cl
  tb : Tabs T H
  kn : KeptN d lg H0 H
  pr : p ∈ primes
  ht : t ≤ 5
  hw : ∀ i ∈ its, i.w ≤ 5
  n1 : 1 ≤ its.length
  n3 : its.length ≤ 3
  av : H Av = some (.lst (its.map fun i => V.int i.w))
  al : H Al = some (.lst (its.map fun i => V.ref i.A))
  tl : H At = some (.lst (its.map fun i => V.ref i.x))
  ls : ∀ i ∈ its, LsD d lg H i.A i.us t i.w
  ts : TsAt CT H (its.map (tbI p t))
section
variable {CT d lg cl : Addr} {T : List (Addr × Str)} {p : Int} {t : Nat} {its : List It} {Av Al At : Addr} {H0 H H' : Hp}
theorem D48.ext (S : D48 CT d lg cl T p t its Av Al At H0 H) (s : ExtN H H') (tb : Tabs T H') : D48 CT d lg cl T p t its Av Al At H0 H' where
  dr := draw_ext s S.dr
  tb := tb
  kn := S.kn.trans (KeptN.ext s)
  pr := S.pr
  ht := S.ht
  hw := S.hw
  n1 := S.n1
  n3 := S.n3
  av := s _ _ S.av (fun _ z => by cases z)
  al := s _ _ S.al (fun _ z => by cases z)
  tl := s _ _ S.tl (fun _ z => by cases z)
  ls := fun i m => (S.ls i m).kn (KeptN.ext s)
  ts := ts_ext s S.ts
theorem D48.same (S : D48 CT d lg cl T p t its Av Al At H0 H) (s : Same H H') : D48 CT d lg cl T p t its Av Al At H0 H' := S.ext (ExtN.same s) (S.tb.ext s)
theorem D48.fit (S : D48 CT d lg cl T p t its Av Al At H0 H) : Fit t its := fun i m => ⟨(S.ls i m).rlen, (S.ls i m).w1⟩
end
theorem sumw_le : ∀ {its : List It}, (∀ i ∈ its, i.w ≤ 5) → sumw its ≤ 5 * its.length
  | [], _ => Nat.le_refl _
  | i :: r, h => by
    have a := h i (List.mem_cons_self ..)
    have b := sumw_le fun j m => h j (List.mem_cons_of_mem i m)
    unfold sumw at *
    rw [List.map_cons, List.sum_cons, List.length_cons]
    omega
theorem D48.sum {CT d lg cl : Addr} {T : List (Addr × Str)} {p : Int} {t : Nat} {its : List It} {Av Al At : Addr} {H0 H : Hp} (S : D48 CT d lg cl T p t its Av Al At H0 H) : sumw its ≤ 15 := by
  have := sumw_le S.hw
  have := S.n3
  omega
theorem tv_add (p : Int) (t : Nat) (its : List It) (o : Tb) : tv (its.map (tbI p t) ++ [o]) = (its.map fun i => V.ref i.x) ++ [V.ref o.a] := by
  unfold tv
  rw [List.map_append, List.map_map]
  rfl
theorem tsj_add {K : PySem.W.Frag} {CT a : Addr} {H : Hp} {p : Int} {t : Nat} {its : List It} {o : Tb} (n1 : 1 ≤ its.length) (n3 : its.length ≤ 3) (h : H a = some (.lst ((its.map fun i => V.ref i.x) ++ [V.ref o.a]))) (ht : TsAt CT H (its.map (tbI p t) ++ [o])) :
    ∃ z ts, z :: ts = its.map (tbI p t) ++ [o] ∧ TsJ K CT H (.ref a) (some (z, ts)) ∧ z.p = p ∧ z.t = t ∧ o ∈ ts := by
  cases its with
  | nil => exact absurd n1 (by decide)
  | cons i r =>
    refine ⟨tbI p t i, r.map (tbI p t) ++ [o], rfl, .ok (.inl (SqL.of ?_)) ht ?_, rfl, rfl, by simp⟩
    · rw [h, ← tv_add p t (i :: r) o]
      rfl
    · rw [List.length_append, List.length_map]
      rw [List.length_cons] at n3
      show r.length + 1 < 1000
      omega
theorem tsj_none {K : PySem.W.Frag} {CT a : Addr} {H : Hp} {p : Int} {t : Nat} {its : List It} {y : L2.V} (h : H a = some (.lst ((its.map fun i => V.ref i.x) ++ [y]))) (ht : TsAt CT H (its.map (tbI p t))) (hy : NoTab K CT H y) : TsJ K CT H (.ref a) none := by
  refine .bad (ts := its.map (tbI p t)) (y := y) (r := []) (.inl (SqL.of ?_)) ht hy
  rw [h, tvI]
theorem ts_add {CT : Addr} {H : Hp} {ts : List Tb} {o : Tb} (h : TsAt CT H ts) (ho : TabAt CT H o.a o.p o.t o.w o.L ∧ GoodT o.p o.t o.w o.L) : TsAt CT H (ts ++ [o]) := fun z m => by
  rcases List.mem_append.mp m with m | m
  · exact h z m
  · rw [List.mem_singleton] at m
    subst m
    exact ho
theorem sumW_add (p : Int) (t : Nat) (its : List It) (o : Tb) : sumW (its.map (tbI p t) ++ [o]) = sumw its + o.w := by rw [sumW_app, sumW_I]
theorem sumT_add (p : Int) (t : Nat) (its : List It) (o : Tb) : sumT (its.map (tbI p t) ++ [o]) = t * its.length + o.t := by rw [sumT_app, sumT_I]
/-- what beside, over, corner refuse -/
def BadArg (K : PySem.W.Frag) (CT : Addr) (H : Hp) (x : L2.V) : Prop := TsJ K CT H x none ∨ ∃ z ts, TsJ K CT H x (some (z, ts)) ∧ ¬ (∀ y ∈ ts, y.p = z.p) ∧ sumW (z :: ts) ≤ 1000 ∧ sumT (z :: ts) ≤ 1000
def Refuses (K : PySem.W.Frag) (CT CB : Addr) (sp : Sp) : Prop := ∀ (x : L2.V) (H : Hp) (Q : VK) (E : XK), BadArg K CT H x → Rp CB H E → sp [x] H Q E
theorem ref_beside (K : PySem.W.Frag) (CT CB : Addr) : Refuses K CT CB (spBeside K CT CB) := fun x H Q E hb hR => by
  rcases hb with h | ⟨z, ts, h, np, sw, st⟩
  · exact ⟨x, none, rfl, h, .inl ⟨rfl, hR⟩⟩
  · exact ⟨x, _, rfl, h, .inr ⟨z, ts, rfl, sw, .inl ⟨fun c => np c.1, hR⟩⟩⟩
theorem ref_over (K : PySem.W.Frag) (CT CB : Addr) : Refuses K CT CB (spOver K CT CB) := fun x H Q E hb hR => by
  rcases hb with h | ⟨z, ts, h, np, sw, st⟩
  · exact ⟨x, none, rfl, h, .inl ⟨rfl, hR⟩⟩
  · exact ⟨x, _, rfl, h, .inr ⟨z, ts, rfl, st, .inl ⟨fun c => np c.1, hR⟩⟩⟩
theorem ref_corner (K : PySem.W.Frag) (CT CB : Addr) : Refuses K CT CB (spCorner K CT CB) := fun x H Q E hb hR => by
  rcases hb with h | ⟨z, ts, h, np, sw, st⟩
  · exact ⟨x, none, rfl, h, .inl ⟨rfl, hR⟩⟩
  · exact ⟨x, _, rfl, h, .inr ⟨z, ts, rfl, st, sw, .inl ⟨fun c => np c.1, hR⟩⟩⟩
abbrev N48 : List Str := ["draw", "field", "same", "several", "size", "lists_here", "some", "due", "columns", "found", "ahead_here", "back", "odd", "bad", "tables_here", "taller", "work", "k", "line_here"]
abbrev sLiR : Stmt := top 48
theorem scLiR : FnScope N48 ["draw", "field"] (defScope sLiR) := ⟨rfl, rfl, rfl, by decide +kernel, rfl, by decide +kernel, by decide +kernel⟩
abbrev X48 (P : Program) (w : World) (K : PySem.W.Frag) (mg : Str → Option Value) (base : Heap) (f c : Addr) (A : Around) (outer : List Env) (s : Shared) (H : Hp) (E : XK) : Cx := (cxOf L2.CX0 P w K mg base N48 "_law_lists_right" (defScope sLiR) f (.ref c) A outer s H E).nox
section
variable {P : Program} {w : World} {K : PySem.W.Frag} {mg : Str → Option Value} {base : Heap} {CT CP CB CN CW : Addr}
/-- from taller on -/
theorem p48_end {f c Pt : Addr} {A : Around} {outer : List Env} {s : Shared} {Hs : Hp} {E : XK} {T : List (Addr × Str)} (Y : Al P w K mg base CT CP CB CN CW) (C : Tc base mg T "_law_lists_right" c Pt) (hr : Room 9 (A.deeper (envOfC "_law_lists_right" (defScope sLiR) s.heap.objs.size f (.ref c)))) :
    ∃ t, PSs (X48 P w K mg base f c A outer s Hs E) ((defBody sLiR).drop 12) t ∧ ∀ (D : Ends) (H0 H : Hp) (d lg cl : Addr) (p : Int) (tt : Nat) (its : List It) (Av Al At : Addr) (v4 v6 v7 v8 v9 v10 v11 v12 v13 v16 : Option V),
      D48 CT d lg cl T p tt its Av Al At H0 H →
      (∀ H', DrawAt H' d lg cl → KeptN d lg H0 H' → Tabs T H' → D.rt (.bl true) H') →
      t D [some (.ref d), some (.int p), some (.int tt), some (.ref Av), v4, some (.ref Al), v6, v7, v8, v9, v10, v11, v12, v13, some (.ref At), none, v16, none, none] H := by
  have nd := scLiR.nd
  have r5 : Room 5 _ := hr.mono (by decide)
  refine ⟨_, pss_cons (ps_set (i := 15) nd rfl (Or.inr rfl) (pe_make Y.G.m Y.G.ok r5 (by rfl) Y.G.T.t.g Y.G.b .nil (passes_call L2.takes0 fun _ _ _ _ h => h) (pa_cons (pv 1) (pa_cons (pe_op op_add (pv 2) pe_int) (pa_cons pe_int (pa_cons (pe_op op_rep (pe_lst (pa_cons (pe_lst (pa_cons pe_int pa_nil)) pa_nil)) (pe_op op_add (pv 2) pe_int)) pa_nil))))))
      (pss_one (ps_ret (pe_lamV (k := 6) (by rfl) Y.N.gB Y.N.kB Y.N.isb C.TB rfl C.mem C.uq hr (lamS_by (sc := defScope sLiR) (by decide +kernel)) rfl (fun _ _ _ _ _ => rfl)
            (fun A' o' s' H' E' f' c' hr2 => pe_call Y.be.ok hr2 (by rfl) Y.be.g Y.be.kp Y.be.b .nil (passes_call (takes_of rfl rfl rfl rfl) fun _ _ _ _ h => h) (pa_cons (pe_op op_cat (pv 14) (pe_lst (pa_cons (pv 15) pa_nil))) pa_nil))))), ?_⟩
  intro D H0 H d lg cl p tt its Av Al At v4 v6 v7 v8 v9 v10 v11 v12 v13 v16 S k
  have hpr := S.pr
  have ht := S.ht
  have hsum := S.sum
  have n3 := S.n3
  refine ⟨_, rfl, _, rfl, (tt : Int), 1, rfl, rfl, ?_⟩
  refine ⟨by show 1 ≤ sizeLine; decide, fun q0 n0 => ⟨by show 1 ≤ sizeLine; decide, fun q1 n1 => ⟨_, rfl, (tt : Int), 1, rfl, rfl, ?_⟩⟩⟩
  refine ⟨q1, (tt : Int) + 1, [.ref q0], rfl, rfl, upd_same, by omega, by omega, ?_, fun q2 n2 => ?_⟩
  · rw [cast1, Int.toNat_natCast]
    exact Nat.le_of_lt (small_2000 (by show 1 * _ ≤ 2000; omega))
  rw [cast1, Int.toNat_natCast, rep1]
  have sa : Same H (upd (upd (upd H q0 (.lst [.int 0])) q1 (.lst [.ref q0])) q2 (.lst (List.replicate (tt + 1) (V.ref q0)))) := ((same_upd n0).trans (same_upd n1)).trans (same_upd n2)
  have ea : (upd (upd (upd H q0 (.lst [.int 0])) q1 (.lst [.ref q0])) q2 (.lst (List.replicate (tt + 1) (V.ref q0)))) q2 = some (.lst (rv (List.replicate (tt + 1) (q0, [0])))) := by rw [upd_same, rv_rep]
  have ra : RL (upd (upd (upd H q0 (.lst [.int 0])) q1 (.lst [.ref q0])) q2 (.lst (List.replicate (tt + 1) (V.ref q0)))) (List.replicate (tt + 1) (q0, [0])) := rl_rep (same_upd n2 _ _ (same_upd n1 _ _ upd_same))
  generalize upd (upd (upd H q0 (.lst [.int 0])) q1 (.lst [.ref q0])) q2 (.lst (List.replicate (tt + 1) (V.ref q0))) = Ha at sa ea ra
  intro xl dl1 nl ndl nel
  refine mkt_l (t := tt + 1) (w := 1) (zs := List.replicate (tt + 1) (q0, [0])) nl ndl nel hpr (by omega) (by decide) (.inl (SqL.of ea)) ra.ra (List.length_replicate ..) (fun l ml => by rw [rn_rep] at ml; rw [List.eq_of_mem_replicate ml]; rfl) fun H1 T1 s1 => ⟨rfl, ?_⟩
  have g1 : GoodT p (tt + 1) 1 (modT p (rn (List.replicate (tt + 1) (q0, [0])))) := good_mod hpr (by omega) (by decide) (by rw [rn_len, List.length_replicate]) fun l ml => by rw [rn_rep] at ml; rw [List.eq_of_mem_replicate ml]; rfl
  have S1 := S.same (sa.trans s1)
  refine ⟨S1.tb, fun Hb sb tb => ?_⟩
  have S2 := S1.ext sb tb
  have Tl2 := TabAt.ext sb T1
  refine ttb_bad ⟨_, rfl, _, rfl, by show 1 ≤ sizeLine; decide, fun q3 n3' => ⟨At, q3, _, _, rfl, rfl, same_upd n3' _ _ S2.tl, upd_same, Nat.le_of_lt (small_2000 (by rw [List.length_map]; show _ + 1 ≤ 2000; omega)), fun q4 n4 => ?_⟩⟩ fun Hc sc => ?_
  · have s34 := (same_upd (o := .lst [.ref xl]) n3').trans (same_upd (o := .lst ((its.map fun i => V.ref i.x) ++ [V.ref xl])) n4)
    obtain ⟨z, ts, ez, hz, zp, zt, mo⟩ := tsj_add (K := K) (o := ⟨xl, p, tt + 1, 1, modT p (rn (List.replicate (tt + 1) (q0, [0])))⟩) S.n1 S.n3 upd_same (ts_add (S2.ts.same s34) ⟨Tl2.same s34, g1⟩)
    refine ⟨_, _, rfl, hz, .inr ⟨z, ts, rfl, ?_, .inl ⟨fun c => ?_, rp_bad s34⟩⟩⟩
    · rw [ez, sumW_add]
      show _ + 1 ≤ 1000
      omega
    · have := c.2.1 _ mo
      rw [zt] at this
      dsimp only at this
      omega
  · have S3 := S2.same sc
    exact k Hc S3.dr S3.kn S3.tb
end
end K01


set_option Elab.async false
set_option maxRecDepth 100000
set_option maxHeartbeats 4000000
set_option linter.all false
namespace K01
open PySem PySem.Spec PyProof.Rows L2 LamX GL
theorem lst_ext {H H' : Hp} {a : Addr} {xs : List L2.V} (s : ExtN H H') (e : H a = some (.lst xs)) : H' a = some (.lst xs) := s _ _ e (fun _ z => by cases z)
section
variable {P : Program} {w : World} {K : PySem.W.Frag} {mg : Str → Option Value} {base : Heap} {CT CP CB CN CW : Addr}
/-- the loop over beside, over, corner, and what follows -/
theorem p48_loop {f c Pt : Addr} {A : Around} {outer : List Env} {s : Shared} {Hs : Hp} {E : XK} {T : List (Addr × Str)} (Y : Al P w K mg base CT CP CB CN CW) (C : Tc base mg T "_law_lists_right" c Pt) (hr : Room 9 (A.deeper (envOfC "_law_lists_right" (defScope sLiR) s.heap.objs.size f (.ref c)))) :
    ∃ t, PSs (X48 P w K mg base f c A outer s Hs E) ((defBody sLiR).drop 11) t ∧ ∀ (D : Ends) (H0 H : Hp) (d lg cl : Addr) (p : Int) (tt : Nat) (its : List It) (Av Al At xo : Addr) (Lo : List (List Int)) (v4 v6 v7 v8 v9 v10 v11 v13 v16 : Option V),
      D48 CT d lg cl T p tt its Av Al At H0 H → TabAt CT H xo (odd5 p) tt 0 Lo → GoodT (odd5 p) tt 0 Lo →
      (∀ H', DrawAt H' d lg cl → KeptN d lg H0 H' → Tabs T H' → D.rt (.bl true) H') →
      t D [some (.ref d), some (.int p), some (.int tt), some (.ref Av), v4, some (.ref Al), v6, v7, v8, v9, v10, v11, some (.ref xo), v13, some (.ref At), none, v16, none, none] H := by
  have nd := scLiR.nd
  obtain ⟨te, pe, re⟩ := p48_end (f := f) (c := c) (outer := outer) (Hs := Hs) (E := E) Y C hr
  refine ⟨_, pss_cons (ps_for PassesOwn.never rfl (pi_list (pe_lst (pa_cons (pe_glob (v := .ref Y.be.f) (by rfl) Y.be.g rfl) (pa_cons (pe_glob (v := .ref Y.ov.f) (by rfl) Y.ov.g rfl) (pa_cons (pe_glob (v := .ref Y.co.f) (by rfl) Y.co.g rfl) pa_nil))))) (pg_name (i := 16) nd rfl (Or.inr rfl))
      (pss_one (ps_for PassesOwn.never rfl (pi_list (pe_lst (pa_cons (pe_lst pa_nil) (pa_cons pe_non (pa_cons (pe_op op_cat (pv 14) (pe_lst (pa_cons pe_non pa_nil))) (pa_cons (pe_op op_cat (pv 14) (pe_lst (pa_cons (pv 12) pa_nil))) pa_nil)))))) (pg_name (i := 13) nd rfl (Or.inr rfl))
        (pss_one (ps_if (pt_not (pt_val (pe_lamV (k := 6) (by rfl) Y.N.gB Y.N.kB Y.N.isb C.TB rfl C.mem C.uq hr (lamS_by (sc := defScope sLiR) (by decide +kernel)) rfl (fun _ _ _ _ _ => rfl)
            (fun A' o' s' H' E' f' c' hr2 => show PE _ _ (tCallV P w K mg base (L2.CX P w) 6 16 E' (tCons (tVar 13) tNil)) from pe_callVar (CX := L2.CX P w) (k := 6) (i := 16) hr2 (lam_passes (X := X48 P w K mg base f c A outer s Hs E) (A := A') (outer := o') (s := s') (H := H') (E := E') (f := f') (c' := c')) rfl (.inr (.inr rfl)) (pa_cons (pv 13) pa_nil))))) (pss_one (ps_ret pe_bl)) pss_nil))))) pe, ?_⟩
  intro D H0 H d lg cl p tt its Av Al At xo Lo v4 v6 v7 v8 v9 v10 v11 v13 v16 S hO gO k
  have hsum := S.sum
  have n3 := S.n3
  have hpo := odd5_ne p
  refine ⟨by show 3 ≤ sizeLine; decide, fun q nq => ?_⟩
  refine ⟨q, rfl, ⟨_, SqL.of upd_same⟩, ?_⟩
  have sq : Same H (upd H q (.lst [.ref Y.be.f, .ref Y.ov.f, .ref Y.co.f])) := same_upd nq
  refine for_list (K := K) (a := q) (xs := [.ref Y.be.f, .ref Y.ov.f, .ref Y.co.f]) (fun i σ Hx => ∃ v13 v16 : Option V, σ = [some (.ref d), some (.int p), some (.int tt), some (.ref Av), v4, some (.ref Al), v6, v7, v8, v9, v10, v11, some (.ref xo), v13, some (.ref At), none, v16, none, none] ∧
      D48 CT d lg cl T p tt its Av Al At H0 Hx ∧ TabAt CT Hx xo (odd5 p) tt 0 Lo ∧ Hx q = some (.lst [.ref Y.be.f, .ref Y.ov.f, .ref Y.co.f])) ⟨v13, v16, rfl, S.same sq, hO.same sq, upd_same⟩ (fun i σ Hx _ hh => by obtain ⟨_, _, _, _, _, e⟩ := hh; exact SqL.of e) ?_ ?_
  · rintro i x σ Hx hi ⟨v13, v16, rfl, Sx, Ox, ex⟩
    have hx : ∃ (fw : Addr) (fdw : FuncData) (sp : Sp), FnOk P w K mg base (L2.CX P w) 6 fw fdw ["tables"] sp ∧ PySem.W.keepIn K (.ref fw) = true ∧ L2.Binds K fdw ["tables"] [] ∧ x = .ref fw ∧ Refuses K CT CB sp := by
      match i, hi with
      | 0, hi => cases hi; exact ⟨_, _, _, Y.be.ok, Y.be.kp, Y.be.b, rfl, ref_beside K CT CB⟩
      | 1, hi => cases hi; exact ⟨_, _, _, Y.ov.ok, Y.ov.kp, Y.ov.b, rfl, ref_over K CT CB⟩
      | 2, hi => cases hi; exact ⟨_, _, _, Y.co.ok, Y.co.kp, Y.co.b, rfl, ref_corner K CT CB⟩
    clear hi
    obtain ⟨fw, fdw, sp, ow, kw, bw, rfl, rw_⟩ := hx
    refine ⟨by show 0 ≤ sizeLine; decide, fun r0 m0 => ?_⟩
    refine ⟨_, rfl, by show 1 ≤ sizeLine; decide, fun r1 m1 => ⟨At, r1, _, _, rfl, rfl, same_upd m1 _ _ (same_upd m0 _ _ Sx.tl), upd_same, Nat.le_of_lt (small_2000 (by rw [List.length_map]; show _ + 1 ≤ 2000; omega)), fun r2 m2 => ?_⟩⟩
    have sA : Same Hx (upd (upd (upd Hx r0 (.lst [])) r1 (.lst [.non])) r2 (.lst ((its.map fun i => V.ref i.x) ++ [.non]))) := ((same_upd m0).trans (same_upd m1)).trans (same_upd m2)
    have eA0 : (upd (upd (upd Hx r0 (.lst [])) r1 (.lst [.non])) r2 (.lst ((its.map fun i => V.ref i.x) ++ [.non]))) r0 = some (.lst []) := same_upd m2 _ _ (same_upd m1 _ _ upd_same)
    have eA2 : (upd (upd (upd Hx r0 (.lst [])) r1 (.lst [.non])) r2 (.lst ((its.map fun i => V.ref i.x) ++ [.non]))) r2 = some (.lst ((its.map fun i => V.ref i.x) ++ [.non])) := upd_same
    generalize upd (upd (upd Hx r0 (.lst [])) r1 (.lst [.non])) r2 (.lst ((its.map fun i => V.ref i.x) ++ [.non])) = HA at sA eA0 eA2
    refine ⟨_, rfl, _, rfl, by show 1 ≤ sizeLine; decide, fun r3 m3 => ⟨At, r3, _, _, rfl, rfl, same_upd m3 _ _ (sA _ _ Sx.tl), upd_same, Nat.le_of_lt (small_2000 (by rw [List.length_map]; show _ + 1 ≤ 2000; omega)), fun r4 m4 => ?_⟩⟩
    have sB : Same HA (upd (upd HA r3 (.lst [.ref xo])) r4 (.lst ((its.map fun i => V.ref i.x) ++ [.ref xo]))) := (same_upd m3).trans (same_upd m4)
    have eB4 : (upd (upd HA r3 (.lst [.ref xo])) r4 (.lst ((its.map fun i => V.ref i.x) ++ [.ref xo]))) r4 = some (.lst ((its.map fun i => V.ref i.x) ++ [.ref xo])) := upd_same
    generalize upd (upd HA r3 (.lst [.ref xo])) r4 (.lst ((its.map fun i => V.ref i.x) ++ [.ref xo])) = HB at sB eB4
    refine ⟨by show 4 ≤ sizeLine; decide, fun q2 nq2 => ?_⟩
    refine ⟨q2, rfl, ⟨_, SqL.of upd_same⟩, ?_⟩
    have sC : Same Hx (upd HB q2 (.lst [.ref r0, .non, .ref r2, .ref r4])) := (sA.trans sB).trans (same_upd nq2)
    have e0 : (upd HB q2 (.lst [.ref r0, .non, .ref r2, .ref r4])) r0 = some (.lst []) := same_upd nq2 _ _ (sB _ _ eA0)
    have e2 : (upd HB q2 (.lst [.ref r0, .non, .ref r2, .ref r4])) r2 = some (.lst ((its.map fun i => V.ref i.x) ++ [.non])) := same_upd nq2 _ _ (sB _ _ eA2)
    have e4 : (upd HB q2 (.lst [.ref r0, .non, .ref r2, .ref r4])) r4 = some (.lst ((its.map fun i => V.ref i.x) ++ [.ref xo])) := same_upd nq2 _ _ eB4
    have eq2 : (upd HB q2 (.lst [.ref r0, .non, .ref r2, .ref r4])) q2 = some (.lst [.ref r0, .non, .ref r2, .ref r4]) := upd_same
    generalize upd HB q2 (.lst [.ref r0, .non, .ref r2, .ref r4]) = HC at sC e0 e2 e4 eq2
    refine for_list (K := K) (a := q2) (xs := [.ref r0, .non, .ref r2, .ref r4]) (fun j σ Hy => ∃ v13 : Option V, σ = [some (.ref d), some (.int p), some (.int tt), some (.ref Av), v4, some (.ref Al), v6, v7, v8, v9, v10, v11, some (.ref xo), v13, some (.ref At), none, some (.ref fw), none, none] ∧
        D48 CT d lg cl T p tt its Av Al At H0 Hy ∧ TabAt CT Hy xo (odd5 p) tt 0 Lo ∧ Hy q = some (.lst [.ref Y.be.f, .ref Y.ov.f, .ref Y.co.f]) ∧ Hy q2 = some (.lst [.ref r0, .non, .ref r2, .ref r4]) ∧ Hy r0 = some (.lst []) ∧ Hy r2 = some (.lst ((its.map fun i => V.ref i.x) ++ [.non])) ∧ Hy r4 = some (.lst ((its.map fun i => V.ref i.x) ++ [.ref xo])))
      ⟨v13, rfl, Sx.same sC, Ox.same sC, sC _ _ ex, eq2, e0, e2, e4⟩ (fun i σ Hx _ hh => by obtain ⟨_, _, _, _, _, e, _⟩ := hh; exact SqL.of e) ?_ ?_
    · rintro j y σ Hy hj ⟨v13, rfl, Sy, Oy, f0, f1, f2, f3, f4⟩
      refine ⟨Sy.tb, fun Ha sa ta => ?_⟩
      have Sa := Sy.ext sa ta
      have Oa := TabAt.ext sa Oy
      have hb : BadArg K CT Ha y := by
        match j, hj with
        | 0, hj => cases hj; exact .inl (.nil (.inl (SqL.of (lst_ext sa f2))))
        | 1, hj => cases hj; exact .inl (.no (.base .non) (by kernel_rfl))
        | 2, hj => cases hj; exact .inl (tsj_none (lst_ext sa f3) Sa.ts (Y.noN Ha))
        | 3, hj =>
          cases hj
          obtain ⟨z, ts, ez, hz, zp, zt, mo⟩ := tsj_add (K := K) (o := ⟨xo, odd5 p, tt, 0, Lo⟩) S.n1 S.n3 (lst_ext sa f4) (ts_add Sa.ts ⟨Oa, gO⟩)
          refine .inr ⟨z, ts, hz, fun c => ?_, ?_, ?_⟩
          · have := c _ mo
            rw [zp] at this
            exact hpo this.symm
          · rw [ez, sumW_add]
            show _ + 0 ≤ 1000
            omega
          · rw [ez, sumT_add]
            show tt * its.length + tt ≤ 1000
            have := Nat.mul_le_mul S.ht S.n3
            have := S.ht
            omega
      refine ttb_bad ⟨fw, fdw, _, _, ow, kw, bw, rfl, _, rfl, rw_ _ _ _ _ hb (rp_bad (Same.refl _))⟩ fun Hb sb => ?_
      refine ⟨_, rfl, ?_⟩
      refine iteF ?_
      exact ⟨_, rfl, Sa.same sb, Oa.same sb, sb _ _ (lst_ext sa f0), sb _ _ (lst_ext sa f1), sb _ _ (lst_ext sa f2), sb _ _ (lst_ext sa f3), sb _ _ (lst_ext sa f4)⟩
    · rintro σ Hy ⟨v13, rfl, Sy, Oy, f0, _⟩
      exact ⟨_, _, rfl, Sy, Oy, f0⟩
  · rintro σ Hx ⟨v13, v16, rfl, Sx, Ox, ex⟩
    exact re _ _ _ _ _ _ _ _ _ _ _ _ _ _ _ _ _ _ _ _ _ _ Sx k
end
end K01


set_option Elab.async false
set_option maxRecDepth 100000
set_option maxHeartbeats 4000000
set_option linter.all false
namespace K01
open PySem PySem.Spec PyProof.Rows L2 LamX GL
theorem tsj_ok {K : PySem.W.Frag} {CT a : Addr} {H : Hp} {p : Int} {t : Nat} {its : List It} (n1 : 1 ≤ its.length) (n3 : its.length ≤ 3) (h : H a = some (.lst (its.map fun i => V.ref i.x))) (ht : TsAt CT H (its.map (tbI p t))) :
    ∃ z ts, z :: ts = its.map (tbI p t) ∧ TsJ K CT H (.ref a) (some (z, ts)) ∧ z.p = p ∧ z.t = t ∧ (∀ y ∈ ts, y.p = z.p) ∧ ∀ y ∈ ts, y.t = z.t := by
  cases its with
  | nil => exact absurd n1 (by decide)
  | cons i r =>
    refine ⟨tbI p t i, r.map (tbI p t), rfl, .ok (.inl (SqL.of ?_)) ht ?_, rfl, rfl, fun y m => ?_, fun y m => ?_⟩
    · rw [h, ← tvI p t (i :: r)]
      rfl
    · rw [List.length_map]
      rw [List.length_cons] at n3
      omega
    · obtain ⟨j, _, rfl⟩ := List.mem_map.mp m
      rfl
    · obtain ⟨j, _, rfl⟩ := List.mem_map.mp m
      rfl
theorem D48.avi {CT d lg cl : Addr} {T : List (Addr × Str)} {p : Int} {t : Nat} {its : List It} {Av Al At : Addr} {H0 H : Hp} (S : D48 CT d lg cl T p t its Av Al At H0 H) : H Av = some (.lst ((its.map fun i => ((i.w : Nat) : Int)).map V.int)) := by
  rw [List.map_map]
  exact S.av
theorem D48.tn {CT d lg cl : Addr} {T : List (Addr × Str)} {p : Int} {t : Nat} {its : List It} {Av Al At : Addr} {H0 H : Hp} (S : D48 CT d lg cl T p t its Av Al At H0 H) : t * its.length ≤ 15 := Nat.le_trans (Nat.mul_le_mul S.ht S.n3) (by decide)
section
variable {P : Program} {w : World} {K : PySem.W.Frag} {mg : Str → Option Value} {base : Heap} {CT CP CB CN CW : Addr}
/-- from the look at corner on -/
theorem p48_c {f c Pt : Addr} {A : Around} {outer : List Env} {s : Shared} {Hs : Hp} {E : XK} {T : List (Addr × Str)} (Y : Al P w K mg base CT CP CB CN CW) (C : Tc base mg T "_law_lists_right" c Pt) (hga : A.guards = some []) (hr : Room 9 (A.deeper (envOfC "_law_lists_right" (defScope sLiR) s.heap.objs.size f (.ref c)))) :
    ∃ t, PSs (X48 P w K mg base f c A outer s Hs E) ((defBody sLiR).drop 9) t ∧ ∀ (D : Ends) (H0 H : Hp) (d lg cl : Addr) (p : Int) (tt : Nat) (its : List It) (Av Al At Fa : Addr) (ws : Rs) (v4 v6 v7 v8 v10 v11 v13 v16 : Option V),
      D48 CT d lg cl T p tt its Av Al At H0 H → H Fa = some (.lst (rv ws)) → RL H ws → rn ws = corR (sumw its) 0 its →
      (∀ H', DrawAt H' d lg cl → KeptN d lg H0 H' → Tabs T H' → D.rt (.bl true) H') →
      t D [some (.ref d), some (.int p), some (.int tt), some (.ref Av), v4, some (.ref Al), v6, v7, v8, some (.ref Fa), v10, v11, none, v13, some (.ref At), none, v16, none, none] H := by
  have nd := scLiR.nd
  have r5 : Room 5 _ := hr.mono (by decide)
  have r6 : Room 6 _ := hr.mono (by decide)
  have r8 : Room 8 _ := hr.mono (by decide)
  obtain ⟨te, pe, re⟩ := p48_loop (f := f) (c := c) (outer := outer) (Hs := Hs) (E := E) Y C hr
  refine ⟨_, pss_cons (ps_if (pt_not (pt_val (pe_callG Y.sh.ok hga r8 (by rfl) Y.sh.g Y.sh.kp Y.sh.b .nil pass0 (pa_cons (pe_callK0 Y.co.ok r6 (by rfl) Y.co.g Y.co.kp Y.co.kb (passes_call L2.takes0 fun _ _ _ _ h => h) (pk_cons (pv 14) pk_nil)) (pa_cons (pv 1) (pa_cons (pe_op op_mul (pv 2) (pe_callB call_len_seq (by rfl) Y.mLen PySem.boot_len (pa_cons (pv 3) pa_nil))) (pa_cons (pe_callB (cr_sum (by rfl)) (by rfl) Y.mSum (by decide +kernel) (pa_cons (pv 3) pa_nil)) (pa_cons (pv 9) pa_nil)))))))) (pss_one (ps_ret pe_bl)) pss_nil)
      (pss_cons (ps_set (i := 12) nd rfl (Or.inl rfl) (pe_make Y.G.m Y.G.ok r5 (by rfl) Y.G.T.t.g Y.G.b .nil (passes_call L2.takes0 fun _ _ _ _ h => h) (pa_cons (PE_conv (pe_ifExp (pt_cmpR op_ne (pv 1) pe_int (nomark _)) pe_int pe_int) (odd_conv (i := 1))) (pa_cons (pv 2) (pa_cons pe_int (pa_cons (pe_op op_rep (pe_lst (pa_cons (pe_lst pa_nil) pa_nil)) (pv 2)) pa_nil)))))) pe), ?_⟩
  intro D H0 H d lg cl p tt its Av Al At Fa ws v4 v6 v7 v8 v10 v11 v13 v16 S hF pw hws k
  have hpr := S.pr
  have ht := S.ht
  have hsum := S.sum
  have htn := S.tn
  have n3 := S.n3
  obtain ⟨z, ts, ez, hz, zp, zt, ep, et⟩ := tsj_ok (K := K) S.n1 S.n3 S.tl S.ts
  have eT : sumT (z :: ts) = tt * its.length := by rw [ez, sumT_I]
  have eW : sumW (z :: ts) = sumw its := by rw [ez, sumW_I]
  refine ⟨_, rfl, _, _, rfl, hz, .inr ⟨z, ts, rfl, by omega, by omega, .inr ⟨ep, by omega, by omega, fun n H1 hn s1 => ?_⟩⟩⟩
  rw [eT, eW, zp, ez, cor_mod, ← hws] at hn
  have S1 := S.same s1
  refine ⟨_, rfl, _, rfl, _, rfl, Av, _, rfl, .inl (SqL.of S1.av), (tt : Int), (its.length : Nat), rfl, by rw [List.length_map], .inl ⟨by omega, by omega⟩, ?_⟩
  have em : (fun i j : Int => V.int (i * j)) (tt : Int) ((its.length : Nat) : Int) = V.int ((tt * its.length : Nat) : Int) := by
    show V.int _ = _
    rw [Int.natCast_mul]
  rw [em]
  refine ⟨_, rfl, Av, _, rfl, SqL.of S1.avi, ?_⟩
  rw [sum_nat (fun i : It => i.w)]
  have gw : GoodT p (tt * its.length) (sumw its) (modT p (rn ws)) := by
    rw [hws]
    exact good_mod hpr (by omega) (by omega) (corR_len S.fit) (corR_w S.fit (by omega))
  refine ⟨_, rfl, n, Fa, p, tt * its.length, sumw its, ws, rfl, hn, gw, .inl (SqL.of (s1 _ _ hF)), RL.ra fun y my => s1 _ _ (pw y my), fun H2 s2 => ?_⟩
  refine ⟨_, rfl, ?_⟩
  refine iteF ?_
  have S2 := S1.same s2
  refine ⟨p, rfl, _, rfl, by show 0 ≤ sizeLine; decide, fun q0 n0 => ⟨by show 1 ≤ sizeLine; decide, fun q1 n1 => ⟨_, rfl, q1, (tt : Int), [.ref q0], rfl, rfl, upd_same, by omega, by omega, ?_, fun q2 n2 => ?_⟩⟩⟩
  · rw [Int.toNat_natCast]
    exact Nat.le_of_lt (small_2000 (by show 1 * _ ≤ 2000; omega))
  rw [Int.toNat_natCast, rep1]
  have sa : Same H2 (upd (upd (upd H2 q0 (.lst [])) q1 (.lst [.ref q0])) q2 (.lst (List.replicate tt (V.ref q0)))) := ((same_upd n0).trans (same_upd n1)).trans (same_upd n2)
  have ea : (upd (upd (upd H2 q0 (.lst [])) q1 (.lst [.ref q0])) q2 (.lst (List.replicate tt (V.ref q0)))) q2 = some (.lst (rv (List.replicate tt (q0, [])))) := by rw [upd_same, rv_rep]
  have ra : RL (upd (upd (upd H2 q0 (.lst [])) q1 (.lst [.ref q0])) q2 (.lst (List.replicate tt (V.ref q0)))) (List.replicate tt (q0, [])) := rl_rep (same_upd n2 _ _ (same_upd n1 _ _ upd_same))
  generalize upd (upd (upd H2 q0 (.lst [])) q1 (.lst [.ref q0])) q2 (.lst (List.replicate tt (V.ref q0))) = Ha at sa ea ra
  intro xo dxo no ndo neo
  have hrl : ∀ l ∈ rn (List.replicate tt (q0, ([] : List Int))), l.length = 0 := fun l ml => by rw [rn_rep] at ml; rw [List.eq_of_mem_replicate ml]; rfl
  refine mkt_l (t := tt) (w := 0) (zs := List.replicate tt (q0, [])) no ndo neo (odd5_pr p) (by omega) (by decide) (.inl (SqL.of ea)) ra.ra (List.length_replicate ..) hrl fun H3 T3 s3 => ⟨rfl, ?_⟩
  have g3 : GoodT (odd5 p) tt 0 (modT (odd5 p) (rn (List.replicate tt (q0, [])))) := good_mod (odd5_pr p) (by omega) (by decide) (by rw [rn_len, List.length_replicate]) hrl
  exact re D H0 H3 d lg cl p tt its Av Al At xo _ _ _ _ _ _ _ _ _ _ (S2.same (sa.trans s3)) T3 g3 k
end
end K01


set_option Elab.async false
set_option maxRecDepth 100000
set_option maxHeartbeats 4000000
set_option linter.all false
namespace K01
open PySem PySem.Spec PyProof.Rows L2 LamX GL
theorem it_inv {α : Type} {f : α → L2.V} {l : List α} {i : Nat} {x : L2.V} {z : α} (hz : l[i]? = some z) (h : (l.map f)[i]? = some x) : x = f z := by
  rw [List.getElem?_map, hz] at h
  exact (Option.some.inj h).symm
theorem sumw_app (its : List It) (i : It) : sumw (its ++ [i]) = sumw its + i.w := by unfold sumw; rw [List.map_append, List.sum_append]; simp
theorem sumw_take (its : List It) (k : Nat) : sumw (its.take k) ≤ sumw its := by
  have : its = its.take k ++ its.drop k := (List.take_append_drop k its).symm
  conv => rhs; rw [this]
  unfold sumw
  rw [List.map_append, List.sum_append]
  exact Nat.le_add_right _ _
theorem rl_append {H : Hp} {xs ys : Rs} (a : RL H xs) (b : RL H ys) : RL H (xs ++ ys) := fun z m => (List.mem_append.mp m).elim (a z) (b z)
section
variable {P : Program} {w : World} {K : PySem.W.Frag} {mg : Str → Option Value} {base : Heap} {CT CP CB CN CW : Addr}
/-- from found, ahead_here on -/
theorem p48_f {f c Pt : Addr} {A : Around} {outer : List Env} {s : Shared} {Hs : Hp} {E : XK} {T : List (Addr × Str)} (Y : Al P w K mg base CT CP CB CN CW) (C : Tc base mg T "_law_lists_right" c Pt) (hga : A.guards = some []) (hr : Room 9 (A.deeper (envOfC "_law_lists_right" (defScope sLiR) s.heap.objs.size f (.ref c)))) :
    ∃ t, PSs (X48 P w K mg base f c A outer s Hs E) ((defBody sLiR).drop 7) t ∧ ∀ (D : Ends) (H0 H : Hp) (d lg cl : Addr) (p : Int) (tt : Nat) (its : List It) (Av Al At : Addr) (v4 v6 v7 v8 v9 v10 v11 v13 v16 : Option V),
      D48 CT d lg cl T p tt its Av Al At H0 H →
      (∀ H', DrawAt H' d lg cl → KeptN d lg H0 H' → Tabs T H' → D.rt (.bl true) H') →
      t D [some (.ref d), some (.int p), some (.int tt), some (.ref Av), v4, some (.ref Al), v6, v7, v8, v9, v10, v11, none, v13, some (.ref At), none, v16, none, none] H := by
  have nd := scLiR.nd
  obtain ⟨te, pe, re⟩ := p48_c (f := f) (c := c) (outer := outer) (Hs := Hs) (E := E) Y C hga hr
  refine ⟨_, pss_cons (ps_asg (pe_tup (pa_cons (pe_lst pa_nil) (pa_cons pe_int pa_nil))) (pg_tup (by rfl) (pgs_cons (pg_name (i := 9) nd rfl (by first | exact Or.inl rfl | exact Or.inr rfl)) (pgs_cons (pg_name (i := 10) nd rfl (by first | exact Or.inl rfl | exact Or.inr rfl)) pgs_nil))))
      (pss_cons (ps_for PassesOwn.never rfl (pi_z2 (by rfl) Y.mZ (pa_cons (pv 3) (pa_cons (pv 5) pa_nil))) (pg_tup (by rfl) (pgs_cons (pg_name (i := 4) nd rfl (by first | exact Or.inl rfl | exact Or.inr rfl)) (pgs_cons (pg_name (i := 6) nd rfl (by first | exact Or.inl rfl | exact Or.inr rfl)) pgs_nil)))
        (pss_cons (ps_set (i := 11) nd rfl (by first | exact Or.inl rfl | exact Or.inr rfl) (pe_op op_rep (pe_lst (pa_cons pe_int pa_nil)) (pe_op op_subK (pe_op op_sub (pe_callB (cr_sum (by rfl)) (by rfl) Y.mSum (by decide +kernel) (pa_cons (pv 3) pa_nil)) (pv 10)) (pv 4))))
        (pss_cons (ps_set (i := 9) nd rfl (by first | exact Or.inl rfl | exact Or.inr rfl) (pe_op op_cat (pv 9)
            (pe_lc (own := [("line_here", 18)]) (g := gName 18) (by rfl) nd (pi_seq (pv 6)) (blkOk_by (own := [("line_here", 18)]) (N := N48) (sc := defScope sLiR) (by decide +kernel)) (fun _ _ _ _ _ => pg_name (i := 18) nd rfl (Or.inl rfl)) (fun _ _ _ _ _ => pts_nil)
              (fun _ _ _ _ _ => pe_op op_cat (pe_op op_cat (pe_op op_rep (pe_lst (pa_cons pe_int pa_nil)) (pv 10)) (pv 18)) (pv 11)))))
        (pss_one (ps_set (i := 10) nd rfl (by first | exact Or.inl rfl | exact Or.inr rfl) (pe_op op_add (pv 10) (pv 4)))))))
      pe), ?_⟩
  intro D H0 H d lg cl p tt its Av Al At v4 v6 v7 v8 v9 v10 v11 v13 v16 S k
  have hsum := S.sum
  have htn := S.tn
  have n3 := S.n3
  have ht := S.ht
  refine ⟨by show 0 ≤ sizeLine; decide, fun q nq => ?_⟩
  refine ⟨by show 2 ≤ sizeLine; decide, fun qt nqt => ?_⟩
  refine ⟨qt, [.ref q, .int 0], rfl, .inl (.inl upd_same), rfl, .ref q, [.int 0], rfl, .int 0, [], rfl, rfl, ?_⟩
  have s1 : Same H (upd (upd H q (.lst [])) qt (.tup [.ref q, .int 0])) := (same_upd nq).trans (same_upd nqt)
  have eq : (upd (upd H q (.lst [])) qt (.tup [.ref q, .int 0])) q = some (.lst []) := same_upd nqt _ _ upd_same
  generalize upd (upd H q (.lst [])) qt (.tup [.ref q, .int 0]) = H1 at s1 eq
  have S1 := S.same s1
  refine ⟨_, rfl, _, rfl, Av, Al, _, _, rfl, .inl (SqL.of S1.av), .inl (SqL.of S1.al), fun J hJ => ?_⟩
  refine for_z2 hJ (by rw [List.length_map, List.length_map]) (fun i σ Hx => ∃ (v4 v6 v11 : Option V) (Fa : Addr) (ws : Rs), σ = [some (.ref d), some (.int p), some (.int tt), some (.ref Av), v4, some (.ref Al), v6, v7, v8, some (.ref Fa), some (.int (sumw (its.take i) : Nat)), v11, none, v13, some (.ref At), none, v16, none, none] ∧
      rn ws = corR (sumw its) 0 (its.take i) ∧ RL Hx ws ∧ Hx Fa = some (.lst (rv ws)) ∧ Same H1 Hx) ⟨_, _, _, q, [], rfl, rfl, fun z m => by simp at m, eq, Same.refl _⟩ (fun i σ Hx _ hh => by obtain ⟨_, _, _, _, _, _, _, _, _, s⟩ := hh; exact ⟨.of s, .of s⟩) ?_ ?_
  · rintro i x y U σ Hx hx hy ⟨v4, v6, v11, Fa, ws, rfl, hw, pw, eF, sx⟩ nU
    obtain ⟨z, hz, rfl⟩ := map_inv hx
    obtain rfl := it_inv hz hy
    have zm : z ∈ its := List.mem_of_getElem? hz
    have htk : its.take (i + 1) = its.take i ++ [z] := by rw [List.take_add_one, hz]; rfl
    have hsw : sumw (its.take i) + z.w ≤ sumw its := by
      have := sumw_take its (i + 1)
      rw [htk, sumw_app] at this
      exact this
    have L := S1.ls z zm
    have hwl : ws.length ≤ 15 := by
      rw [← rn_len, hw, corR_len (fun j m => S.fit j (List.mem_of_mem_take m))]
      refine Nat.le_trans (Nat.mul_le_mul_left _ ?_) htn
      rw [List.length_take]
      exact Nat.min_le_right _ _
    obtain ⟨X, hX⟩ : ∃ X, X = sumw (its.take i) := ⟨_, rfl⟩
    obtain ⟨W, hW⟩ : ∃ W, W = sumw its := ⟨_, rfl⟩
    rw [← hX, ← hW] at hsw
    rw [← hX]
    rw [← hW] at hsum
    obtain ⟨Yb, hY⟩ : ∃ Yb, Yb = W - X - z.w := ⟨_, rfl⟩
    have hYi : (W : Int) - (X : Int) - (z.w : Int) = (Yb : Int) := by omega
    refine ⟨U, [.int z.w, .ref z.A], rfl, .inl (.inl upd_same), rfl, .int z.w, [.ref z.A], rfl, .ref z.A, [], rfl, rfl, ?_⟩
    have sU : Same Hx (upd Hx U (.tup [.int z.w, .ref z.A])) := same_upd nU
    generalize upd Hx U (.tup [.int z.w, .ref z.A]) = HU at sU
    have S2 := S1.same (sx.trans sU)
    refine ⟨by show 1 ≤ sizeLine; decide, fun q0 n0 => ⟨_, rfl, Av, _, rfl, SqL.of (same_upd n0 _ _ S2.avi), ?_⟩⟩
    rw [sum_nat (fun i : It => i.w)]
    refine ⟨_, rfl, _, _, rfl, rfl, _, rfl, _, _, (Yb : Int), rfl, rfl, by rw [← hYi, hW], ?_⟩
    refine ⟨q0, (Yb : Int), [.int 0], rfl, rfl, upd_same, by omega, by omega, by rw [Int.toNat_natCast]; exact Nat.le_of_lt (small_2000 (by show 1 * _ ≤ 2000; omega)), fun q1 n1 => ?_⟩
    rw [Int.toNat_natCast, rep1]
    have sb : Same HU (upd (upd HU q0 (.lst [.int 0])) q1 (.lst (List.replicate Yb (V.int 0)))) := (same_upd n0).trans (same_upd n1)
    have eb : (upd (upd HU q0 (.lst [.int 0])) q1 (.lst (List.replicate Yb (V.int 0)))) q1 = some (.lst (List.replicate Yb (V.int 0))) := upd_same
    generalize upd (upd HU q0 (.lst [.int 0])) q1 (.lst (List.replicate Yb (V.int 0))) = Hb at sb eb
    have L2' := (S2.same sb).ls z zm
    refine ⟨_, rfl, _, rfl, z.A, rv z.us, rfl, L2'.sqa, fun J3 hJ3 D3 nD3 => ?_⟩
    refine lc_seq hJ3 (fun j Hd => ∃ ps : Rs, rn ps = ((rn z.us).map (padR X Yb)).take j ∧ RL Hd ps ∧ Hd D3 = some (.lst (rv ps)) ∧ (∀ y ∈ ps, y.1 ≠ D3) ∧ Same Hb Hd) ⟨[], rfl, fun z m => by simp at m, upd_same, fun z m => by simp at m, same_upd nD3⟩ (fun j Hd _ hh => by obtain ⟨_, _, _, _, _, s⟩ := hh; exact .of s) ?_ ?_
    · rintro j y Hd hj ⟨ps, hp, pp, eD, nw, sd⟩
      obtain ⟨⟨r, l⟩, hr, rfl⟩ := rv_inv hj
      have hrm : (r, l) ∈ z.us := List.mem_of_getElem? hr
      have hjl : j < z.us.length := (List.getElem?_eq_some_iff.mp hr).1
      have hul := L2'.len
      have hll : l.length = z.w := L2'.w1 l (List.mem_map.mpr ⟨_, hrm, rfl⟩)
      have hpl : ps.length ≤ j := by
        have := congrArg List.length hp
        rw [rn_len, List.length_take] at this
        omega
      have erd := sd _ _ (L2'.rl _ hrm)
      refine ⟨rfl, ?_⟩
      dsimp only [tYes]
      refine iteT ?_
      refine ⟨by show 1 ≤ sizeLine; decide, fun q0 n0 => ⟨_, rfl, q0, (X : Int), [.int 0], rfl, rfl, upd_same, by omega, by omega, by rw [Int.toNat_natCast]; exact Nat.le_of_lt (small_2000 (by show 1 * _ ≤ 2000; omega)), fun q2 n2 => ?_⟩⟩
      rw [Int.toNat_natCast, rep1]
      have sa : Same Hd (upd (upd Hd q0 (.lst [.int 0])) q2 (.lst (List.replicate X (V.int 0)))) := (same_upd n0).trans (same_upd n2)
      have ea : (upd (upd Hd q0 (.lst [.int 0])) q2 (.lst (List.replicate X (V.int 0)))) q2 = some (.lst (List.replicate X (V.int 0))) := upd_same
      generalize upd (upd Hd q0 (.lst [.int 0])) q2 (.lst (List.replicate X (V.int 0))) = Ha at sa ea
      refine ⟨_, rfl, q2, r, List.replicate X (V.int 0), l.map V.int, rfl, rfl, ea, sa _ _ erd, Nat.le_of_lt (small_2000 (by rw [List.length_replicate, List.length_map]; omega)), fun q3 n3 => ?_⟩
      have e3 : (upd Ha q3 (.lst (List.replicate X (V.int 0) ++ l.map V.int))) q3 = some (.lst (List.replicate X (V.int 0) ++ l.map V.int)) := upd_same
      have sc := sa.trans (same_upd (o := .lst (List.replicate X (V.int 0) ++ l.map V.int)) n3)
      generalize upd Ha q3 (.lst (List.replicate X (V.int 0) ++ l.map V.int)) = Hc at sc e3
      refine ⟨_, rfl, q3, q1, _, _, rfl, rfl, e3, sc _ _ (sd _ _ eb), Nat.le_of_lt (small_2000 (by rw [List.length_append, List.length_replicate, List.length_replicate, List.length_map]; omega)), fun q6 n6 => ?_⟩
      have sc2 := sc.trans (same_upd (o := .lst (List.replicate X (V.int 0) ++ l.map V.int ++ List.replicate Yb (V.int 0))) n6)
      have e6 : (upd Hc q6 (.lst (List.replicate X (V.int 0) ++ l.map V.int ++ List.replicate Yb (V.int 0)))) q6 = some (.lst ((padR X Yb l).map V.int)) := by
        unfold padR
        rw [upd_same, List.map_append, List.map_append, List.map_replicate, List.map_replicate]
      have n6D : q6 ≠ D3 := fun z => by rw [z, sc _ _ eD] at n6; cases n6
      generalize upd Hc q6 (.lst (List.replicate X (V.int 0) ++ l.map V.int ++ List.replicate Yb (V.int 0))) = Hf at sc2 e6
      obtain ⟨p1, p2⟩ := rl_add (o := .lst (rv ps ++ [.ref q6])) (fun z m => sc2 _ _ (pp z m)) nw e6 n6D
      refine ⟨_, sc2 _ _ eD, small_2000 (by rw [rv_len]; omega), ps ++ [(q6, padR X Yb l)], ?_, p1, by rw [upd_same, rv_app], p2, same_put (sd.trans sc2) nD3⟩
      rw [rn_app, hp, List.take_add_one]
      unfold rn
      rw [List.getElem?_map, List.getElem?_map, hr]
      rfl
    · rintro Hd ⟨ps, hp, pp, eD, nw, sd⟩
      rw [rv_len, List.take_of_length_le (by rw [List.length_map, rn_len]; exact Nat.le_refl _)] at hp
      have hul := L2'.len
      have hpl : ps.length = z.us.length := by rw [← rn_len, hp, List.length_map, rn_len]
      have sxd : Same Hx Hd := (sU.trans sb).trans sd
      refine ⟨Fa, D3, _, _, rfl, rfl, sxd _ _ eF, eD, Nat.le_of_lt (small_2000 (by rw [rv_len, rv_len]; omega)), fun q7 n7 => ?_⟩
      refine ⟨_, rfl, _, rfl, _, _, rfl, rfl, ?_⟩
      have s7 : Same Hd (upd Hd q7 (.lst (rv ws ++ rv ps))) := same_upd n7
      refine ⟨some (.int z.w), some (.ref z.A), some (.ref q1), q7, ws ++ ps, ?_, ?_, rl_append (fun z m => s7 _ _ (sxd _ _ (pw z m))) (fun z m => s7 _ _ (pp z m)), ?_, (sx.trans sxd).trans s7⟩
      · rw [htk, sumw_app, ← hX]
        rfl
      · rw [htk, corR_app, ← hw, ← hX, ← hW]
        unfold rn at hp ⊢
        rw [List.map_append, hp, Nat.zero_add, hY]
      · rw [upd_same]
        unfold rv
        rw [List.map_append]
  · rintro σ Hx ⟨v4, v6, v11, Fa, ws, rfl, hw, pw, eF, sx⟩
    rw [List.length_map, List.take_length] at hw
    exact re D H0 Hx d lg cl p tt its Av Al At Fa ws _ _ _ _ _ _ _ _ (S1.same sx) eF pw hw k
end
end K01


set_option Elab.async false
set_option maxRecDepth 100000
set_option maxHeartbeats 4000000
set_option linter.all false
namespace K01
open PySem PySem.Spec PyProof.Rows L2 LamX GL
/-- a Table stays when a list grows -/
theorem tab_lst {CT x D : Addr} {H : Hp} {xs : List L2.V} {o : HO} {p : Int} {t w : Nat} {L : List (List Int)} (e : H D = some (.lst xs)) (h : TabAt CT H x p t w L) : TabAt CT (upd H D o) x p t w L := by
  obtain ⟨dx, a, zs, e1, e2, e3, e4⟩ := h
  have key : ∀ b u, H b = some u → (∀ ys, u ≠ .lst ys) → (upd H D o) b = some u := fun b u eb n => by
    rw [upd_ne (fun z => by rw [z, e] at eb; exact n _ (Option.some.inj eb).symm)]
    exact eb
  exact ⟨dx, a, zs, key _ _ e1 (fun _ z => by cases z), key _ _ e2 (fun _ z => by cases z), fun z m => key _ _ (e3 z m) (fun _ z => by cases z), e4⟩
/-- columns that were made -/
abbrev cj (p : Int) (t : Nat) (j : It × Addr) : Tb := tbC p t j.1 j.2
theorem ts_lst {CT D : Addr} {H : Hp} {xs : List L2.V} {o : HO} {ts : List Tb} (e : H D = some (.lst xs)) (h : TsAt CT H ts) : TsAt CT (upd H D o) ts := fun z m => ⟨tab_lst e (h z m).1, (h z m).2⟩
theorem sumT_C (p : Int) (t : Nat) : ∀ js : List (It × Addr), sumT (js.map (cj p t)) = sumw (js.map (·.1))
  | [] => rfl
  | j :: r => by
    have := sumT_C p t r
    unfold sumT sumw at *
    rw [List.map_cons, List.map_cons, List.sum_cons, this, List.map_cons, List.map_cons, List.sum_cons]
    rfl
theorem over_C (p : Int) (t : Nat) (js : List (It × Addr)) : overL (js.map (cj p t)) = modT p (((js.map (·.1)).map fun i => colsOf (rn i.us) i.w).flatten) := by
  unfold overL
  rw [modT_flat, List.map_map, List.map_map, List.map_map]
  rfl
theorem tv_C (p : Int) (t : Nat) (js : List (It × Addr)) : tv (js.map (cj p t)) = js.map fun j => V.ref j.2 := by
  unfold tv
  rw [List.map_map]
  rfl
theorem cols_len (L : List (List Int)) (w : Nat) : (colsOf L w).length = w := by unfold colsOf; rw [List.length_map, List.length_range]
theorem cols_w {L : List (List Int)} {w t : Nat} (h : L.length = t) : ∀ l ∈ colsOf L w, l.length = t := fun l m => by
  unfold colsOf at m
  obtain ⟨k, _, rfl⟩ := List.mem_map.mp m
  unfold colOf
  rw [List.length_map, h]
section
variable {P : Program} {w : World} {K : PySem.W.Frag} {mg : Str → Option Value} {base : Heap} {CT CP CB CN CW : Addr}
/-- from columns on -/
theorem p48_g {f c Pt : Addr} {A : Around} {outer : List Env} {s : Shared} {Hs : Hp} {E : XK} {T : List (Addr × Str)} (Y : Al P w K mg base CT CP CB CN CW) (mTup : mg "tuple" = none) (C : Tc base mg T "_law_lists_right" c Pt) (hga : A.guards = some []) (hr : Room 9 (A.deeper (envOfC "_law_lists_right" (defScope sLiR) s.heap.objs.size f (.ref c)))) :
    ∃ t, PSs (X48 P w K mg base f c A outer s Hs E) ((defBody sLiR).drop 5) t ∧ ∀ (D : Ends) (H0 H : Hp) (d lg cl : Addr) (p : Int) (tt : Nat) (its : List It) (Av Al At Du : Addr) (ds : Rs) (v4 v6 v8 v9 v10 v11 v13 v16 : Option V),
      D48 CT d lg cl T p tt its Av Al At H0 H → H Du = some (.lst (rv ds)) → RL H ds → rn ds = besR its tt →
      (∀ H', DrawAt H' d lg cl → KeptN d lg H0 H' → Tabs T H' → D.rt (.bl true) H') →
      t D [some (.ref d), some (.int p), some (.int tt), some (.ref Av), v4, some (.ref Al), v6, some (.ref Du), v8, v9, v10, v11, none, v13, some (.ref At), none, v16, none, none] H := by
  have nd := scLiR.nd
  have r1 : Room 1 _ := hr.mono (by decide)
  have r5 : Room 5 _ := hr.mono (by decide)
  have r6 : Room 6 _ := hr.mono (by decide)
  have r8 : Room 8 _ := hr.mono (by decide)
  obtain ⟨te, pe, re⟩ := p48_f (f := f) (c := c) (outer := outer) (Hs := Hs) (E := E) Y C hga hr
  refine ⟨_, pss_cons (ps_setLc (i := 8) (own := [("size", 4), ("some", 6)]) (g := gTup K 2 (gCons (gName 4) (gCons (gName 6) gNil))) (by rfl) nd rfl rfl (sw_true rfl rfl rfl (by decide +kernel)) (pi_z2 (by rfl) Y.mZ (pa_cons (pv 3) (pa_cons (pv 5) pa_nil))) (blkOk_by (own := [("size", 4), ("some", 6)]) (N := N48) (sc := defScope sLiR) (by decide +kernel))
          (fun _ _ _ _ _ => pg_tup (by rfl) (pgs_cons (pg_name (i := 4) nd rfl (by first | exact Or.inl rfl | exact Or.inr rfl)) (pgs_cons (pg_name (i := 6) nd rfl (by first | exact Or.inl rfl | exact Or.inr rfl)) pgs_nil))) (fun _ _ _ _ _ => pts_nil)
          (fun _ _ _ _ _ => pe_make Y.G.m Y.G.ok r5 (by rfl) Y.G.T.t.g Y.G.b .nil (passes_call L2.takes0 fun _ _ _ _ h => h) (pa_cons (pv 1) (pa_cons (pv 4) (pa_cons (pv 2) (pa_cons (pe_call Y.tu.ok r1 (by rfl) Y.tu.g Y.tu.kp Y.tu.b .nil pass0 (pa_cons (pv 6) (pa_cons (pv 4) pa_nil))) pa_nil))))))
      (pss_cons (ps_if (pt_not (pt_val (pe_callG Y.sh.ok hga r8 (by rfl) Y.sh.g Y.sh.kp Y.sh.b .nil pass0 (pa_cons (pe_callK0 Y.ov.ok r6 (by rfl) Y.ov.g Y.ov.kp Y.ov.kb (passes_call L2.takes0 fun _ _ _ _ h => h) (pk_cons (pe_callTy (show CallR _ _ (fun xs H Q => ∃ p ys, xs = [.ref p] ∧ ((SqL K H p ys ∧ ∀ l, H l = none → Q (.ref l) (upd H l (.tup ys))) ∨ (SqT K H p ys ∧ Q (.ref p) H))) from call_tuple_of) (by rfl) mTup (by decide +kernel) (pa_cons (pv 8) pa_nil)) pk_nil)) (pa_cons (pv 1) (pa_cons (pe_callB (cr_sum (by rfl)) (by rfl) Y.mSum (by decide +kernel) (pa_cons (pv 3) pa_nil)) (pa_cons (pv 2) (pa_cons (pe_call Y.tu.ok r1 (by rfl) Y.tu.g Y.tu.kp Y.tu.b .nil pass0 (pa_cons (pv 7) (pa_cons (pe_callB (cr_sum (by rfl)) (by rfl) Y.mSum (by decide +kernel) (pa_cons (pv 3) pa_nil)) pa_nil))) pa_nil)))))))) (pss_one (ps_ret pe_bl)) pss_nil)
      pe), ?_⟩
  intro D H0 H d lg cl p tt its Av Al At Du ds v4 v6 v8 v9 v10 v11 v13 v16 S eDu pDu hds k
  have hpr := S.pr
  have hsum := S.sum
  have ht := S.ht
  have n3 := S.n3
  refine ⟨_, rfl, _, rfl, Av, Al, _, _, rfl, .inl (SqL.of S.av), .inl (SqL.of S.al), fun J hJ D8 nD8 => ?_⟩
  refine lc_z2 hJ (by rw [List.length_map, List.length_map]) (fun i Hd => ∃ js : List (It × Addr), js.map (·.1) = its.take i ∧ TsAt CT Hd (js.map (cj p tt)) ∧ Hd D8 = some (.lst (js.map fun j => V.ref j.2)) ∧ Same H Hd) ⟨[], rfl, fun z m => by simp at m, upd_same, same_upd nD8⟩ (fun i Hd _ hh => by obtain ⟨_, _, _, _, s⟩ := hh; exact ⟨.of s, .of s⟩) ?_ ?_
  · rintro i x y U Hd hx hy ⟨js, hjs, tjs, eD, sd⟩ nU
    obtain ⟨z, hz, rfl⟩ := map_inv hx
    obtain rfl := it_inv hz hy
    have zm : z ∈ its := List.mem_of_getElem? hz
    have hil := (List.getElem?_eq_some_iff.mp hz).1
    have hjl : js.length ≤ i := by
      have := congrArg List.length hjs
      rw [List.length_map, List.length_take] at this
      omega
    refine ⟨U, [.int z.w, .ref z.A], rfl, .inl (.inl upd_same), rfl, .int z.w, [.ref z.A], rfl, .ref z.A, [], rfl, rfl, rfl, ?_⟩
    dsimp only [tYes]
    refine iteT ?_
    have sU : Same Hd (upd Hd U (.tup [.int z.w, .ref z.A])) := same_upd nU
    generalize upd Hd U (.tup [.int z.w, .ref z.A]) = HU at sU
    have L := (S.same (sd.trans sU)).ls z zm
    have hw5 := S.hw z zm
    refine ⟨_, rfl, _, rfl, _, rfl, _, rfl, _, rfl, z.A, z.us, z.w, rfl, L.sqa, L.rl.ra, by rw [L.len]; omega, by omega, fun l ml => by rw [L.w1 l ml]; exact Nat.le_refl _, fun B zs H1 N1 => ?_⟩
    obtain ⟨e1, p1, w1, _, _, s1⟩ := N1
    intro x dx nx ndx ne
    refine mkt_l (t := z.w) (w := tt) (zs := zs) nx ndx ne hpr (by omega) (by omega) (.inl (SqL.of e1)) p1.ra (by rw [← rn_len, w1, cols_len]) (fun l ml => by rw [w1] at ml; exact cols_w L.rlen l ml) fun H2 T2 s2 => ⟨rfl, ?_⟩
    have s02 : Same Hd H2 := (sU.trans s1).trans s2
    have eD2 := s02 _ _ eD
    rw [w1] at T2
    have g2 : GoodT p z.w tt (modT p (colsOf (rn z.us) z.w)) := good_mod hpr (by omega) (by omega) (cols_len _ _) (cols_w L.rlen)
    refine ⟨_, eD2, small_2000 (by rw [List.length_map]; omega), js ++ [(z, x)], ?_, ?_, ?_, same_put (sd.trans s02) nD8⟩
    · rw [List.map_append, hjs, List.take_add_one, hz]
      rfl
    · refine ts_lst eD2 fun y my => ?_
      rw [List.map_append] at my
      rcases List.mem_append.mp my with my | my
      · exact tjs.same s02 y my
      · rw [List.map_cons, List.map_nil, List.mem_singleton] at my
        subst my
        exact ⟨T2, g2⟩
    · rw [upd_same, List.map_append]
      rfl
  · rintro Hd ⟨js, hjs, tjs, eD, sd⟩
    rw [List.length_map, List.take_length] at hjs
    have S1 := S.same sd
    refine ⟨_, rfl, D8, _, rfl, .inl ⟨SqL.of eD, fun q nq => ?_⟩⟩
    have sq : Same Hd (upd Hd q (.tup (js.map fun j => V.ref j.2))) := same_upd nq
    have eq : (upd Hd q (.tup (js.map fun j => V.ref j.2))) q = some (.tup (js.map fun j => V.ref j.2)) := upd_same
    generalize upd Hd q (.tup (js.map fun j => V.ref j.2)) = Hq at sq eq
    have S2 := S1.same sq
    have t2 := tjs.same sq
    have hlj : js.length = its.length := by rw [← hjs, List.length_map]
    have hz : ∃ z ts, z :: ts = js.map (cj p tt) ∧ TsJ K CT Hq (.ref q) (some (z, ts)) ∧ z.p = p ∧ z.w = tt ∧ (∀ y ∈ ts, y.p = z.p) ∧ ∀ y ∈ ts, y.w = z.w := by
      cases js with
      | nil => exact absurd S.n1 (by rw [← hlj]; decide)
      | cons j r =>
        refine ⟨cj p tt j, r.map (cj p tt), rfl, .ok (.inr (SqT.of ?_)) t2 ?_, rfl, rfl, fun y m => ?_, fun y m => ?_⟩
        · rw [eq, ← tv_C p tt (j :: r)]
          rfl
        · rw [List.length_map]
          rw [List.length_cons] at hlj
          omega
        · obtain ⟨j', _, rfl⟩ := List.mem_map.mp m
          rfl
        · obtain ⟨j', _, rfl⟩ := List.mem_map.mp m
          rfl
    obtain ⟨z, ts, ez, hz, zp, zw, ep, ew⟩ := hz
    have eT : sumT (z :: ts) = sumw its := by rw [ez, sumT_C, hjs]
    have eL : overL (z :: ts) = modT p (colsOf (rn ds) (sumw its)) := by rw [ez, over_C, hjs, hds, col_bes S.fit]
    refine ⟨_, _, rfl, hz, .inr ⟨z, ts, rfl, by omega, .inr ⟨ep, ew, by omega, fun n H1 hn s1 => ?_⟩⟩⟩
    rw [eT, eL, zp, zw] at hn
    have S3 := S2.same s1
    refine ⟨_, rfl, _, rfl, Av, _, rfl, SqL.of S3.avi, ?_⟩
    rw [sum_nat (fun i : It => i.w)]
    refine ⟨_, rfl, _, rfl, _, rfl, Av, _, rfl, SqL.of S3.avi, ?_⟩
    rw [sum_nat (fun i : It => i.w)]
    have s13 : Same H H1 := (sd.trans sq).trans s1
    have dl0 : ds.length = tt := by rw [← rn_len, hds, besR_len]
    refine ⟨Du, ds, sumw its, rfl, .inl (SqL.of (s13 _ _ eDu)), RL.ra fun y my => s13 _ _ (pDu y my), by omega, by omega, fun l ml => ?_, fun B zs H4 N4 => ?_⟩
    · rw [hds] at ml
      rw [besR_w S.fit l ml]
      exact Nat.le_refl _
    obtain ⟨e4, p4, w4, _, _, s4⟩ := N4
    have hn4 := hn.same s4
    rw [← w4] at hn4
    have g4 : GoodT p (sumw its) tt (modT p (rn zs)) := by
      rw [w4]
      exact good_mod hpr (by omega) (by omega) (cols_len _ _) (cols_w (by rw [rn_len, dl0]))
    refine ⟨n, B, p, sumw its, tt, zs, rfl, hn4, g4, .inl (SqL.of e4), p4.ra, fun H5 s5 => ?_⟩
    refine ⟨_, rfl, ?_⟩
    refine iteF ?_
    exact re D H0 H5 d lg cl p tt its Av Al At _ _ _ _ _ _ _ _ _ ((S3.same s4).same s5) k
end
end K01


set_option Elab.async false
set_option maxRecDepth 100000
set_option maxHeartbeats 4000000
set_option linter.all false
namespace K01
open PySem PySem.Spec PyProof.Rows L2 LamX GL
/-- what sum(list of lists, []) asks -/
def rSumL (K : PySem.W.Frag) : List L2.V → Hp → VK → Prop := fun xs H Q => ∃ (l z : Addr) (as_ : List Addr) (vls : List (List L2.V)), xs = [.ref l, .ref z] ∧ SqL K H l (as_.map V.ref) ∧ H z = some (.lst []) ∧ as_.length = vls.length ∧ (∀ (j : Nat) (a : Addr) (x : List L2.V), as_[j]? = some a → vls[j]? = some x → H a = some (.lst x)) ∧ 0 < vls.length ∧ vls.length ≤ 1000 ∧ (∀ x ∈ vls, x.length ≤ 1000) ∧
    ∀ p, H p = none → Q (.ref p) (upd H p (.lst vls.flatten))
theorem call_sumLK {X : Cx} (hc : X.calm = true) : CallR X (.builtin "sum") (rSumL X.K) := call_sum2 hc
/-- line k of one of them, where it stands -/
abbrev rowK (k : Nat) (z : It) : Addr × List Int := z.us.getD k (0, [])
theorem rowK_mem {k : Nat} {z : It} (h : k < z.us.length) : rowK k z ∈ z.us ∧ z.us[k]? = some (rowK k z) := by
  have e : z.us.getD k (0, []) = z.us[k] := by rw [List.getD_eq_getElem?_getD, List.getElem?_eq_getElem h]; rfl
  show z.us.getD k (0, []) ∈ z.us ∧ z.us[k]? = some (z.us.getD k (0, []))
  rw [e]
  exact ⟨List.getElem_mem _, List.getElem?_eq_getElem h⟩
theorem rowK_rn (k : Nat) (z : It) : (rn z.us).getD k [] = (rowK k z).2 := by
  show _ = (z.us.getD k (0, [])).2
  rw [List.getD_eq_getElem?_getD, List.getD_eq_getElem?_getD]
  unfold rn
  rw [List.getElem?_map]
  cases z.us[k]? <;> rfl
theorem flat_rows (k : Nat) (its : List It) : (its.map fun z => (rowK k z).2.map V.int).flatten = (besRw its k).map V.int := by
  unfold besRw
  rw [List.map_flatten, List.map_map]
  congr 1
  refine List.map_congr_left fun z _ => ?_
  show _ = List.map V.int ((rn z.us).getD k [])
  rw [rowK_rn]
section
variable {P : Program} {w : World} {K : PySem.W.Frag} {mg : Str → Option Value} {base : Heap} {CT CP CB CN CW : Addr}
/-- from due on -/
theorem p48_h {f c Pt : Addr} {A : Around} {outer : List Env} {s : Shared} {Hs : Hp} {E : XK} {T : List (Addr × Str)} (Y : Al P w K mg base CT CP CB CN CW) (mTup : mg "tuple" = none) (C : Tc base mg T "_law_lists_right" c Pt) (hga : A.guards = some []) (hr : Room 9 (A.deeper (envOfC "_law_lists_right" (defScope sLiR) s.heap.objs.size f (.ref c)))) :
    ∃ t, PSs (X48 P w K mg base f c A outer s Hs E) ((defBody sLiR).drop 3) t ∧ ∀ (D : Ends) (H0 H : Hp) (d lg cl : Addr) (p : Int) (tt : Nat) (its : List It) (Av Al At : Addr) (v4 v6 v7 v8 v9 v10 v11 v13 v16 : Option V),
      D48 CT d lg cl T p tt its Av Al At H0 H →
      (∀ H', DrawAt H' d lg cl → KeptN d lg H0 H' → Tabs T H' → D.rt (.bl true) H') →
      t D [some (.ref d), some (.int p), some (.int tt), some (.ref Av), v4, some (.ref Al), v6, v7, v8, v9, v10, v11, none, v13, some (.ref At), none, v16, none, none] H := by
  have nd := scLiR.nd
  have r6 : Room 6 _ := hr.mono (by decide)
  have r8 : Room 8 _ := hr.mono (by decide)
  obtain ⟨te, pe, re⟩ := p48_g (f := f) (c := c) (outer := outer) (Hs := Hs) (E := E) Y mTup C hga hr
  refine ⟨_, pss_cons (ps_setLc (i := 7) (own := [("k", 17)]) (g := gName 17) (by rfl) nd rfl rfl (sw_true rfl rfl rfl (by decide +kernel)) (pi_range1 (by rfl) Y.N.mRa (pa_cons (pv 2) pa_nil)) (blkOk_by (own := [("k", 17)]) (N := N48) (sc := defScope sLiR) (by decide +kernel))
          (fun _ _ _ _ _ => pg_name (i := 17) nd rfl (by first | exact Or.inl rfl | exact Or.inr rfl)) (fun _ _ _ _ _ => pts_nil)
          (fun _ _ _ _ _ => pe_callB (show CallR _ _ (rSumL K) from call_sumLK (by rfl)) (by rfl) Y.mSum (by decide +kernel) (pa_cons (pe_lc (own := [("some", 6)]) (g := gName 6) (by rfl) nd (show PI _ _ _ (iSeq K (tVar 5)) from pi_seq (pv 5)) (blkOk_by (own := [("some", 6)]) (N := N48) (by kernel_rfl))
            (fun _ _ _ _ _ => pg_name (i := 6) nd rfl (by first | exact Or.inl rfl | exact Or.inr rfl)) (fun _ _ _ _ _ => pts_nil)
            (fun _ _ _ _ _ => pe_ix (show IxR _ (rIx K) from ix_seq) (pv 6) (pv 17) (fun _ _ => rfl))) (pa_cons (pe_lst pa_nil) pa_nil))))
      (pss_cons (ps_if (pt_not (pt_val (pe_callG Y.sh.ok hga r8 (by rfl) Y.sh.g Y.sh.kp Y.sh.b .nil pass0 (pa_cons (pe_callK0 Y.be.ok r6 (by rfl) Y.be.g Y.be.kp Y.be.kb (passes_call L2.takes0 fun _ _ _ _ h => h) (pk_cons (pv 14) pk_nil)) (pa_cons (pv 1) (pa_cons (pv 2) (pa_cons (pe_callB (cr_sum (by rfl)) (by rfl) Y.mSum (by decide +kernel) (pa_cons (pv 3) pa_nil)) (pa_cons (pv 7) pa_nil)))))))) (pss_one (ps_ret pe_bl)) pss_nil)
      pe), ?_⟩
  intro D H0 H d lg cl p tt its Av Al At v4 v6 v7 v8 v9 v10 v11 v13 v16 S k
  have hpr := S.pr
  have hsum := S.sum
  have ht := S.ht
  have n3 := S.n3
  refine ⟨_, rfl, tt, rfl, by omega, by omega, fun D7 nD7 => ?_⟩
  rw [Int.toNat_natCast]
  refine lc_range (lo := 0) (n := tt) (fun k Hd => ∃ ws : Rs, rn ws = (besR its tt).take k ∧ RL Hd ws ∧ Hd D7 = some (.lst (rv ws)) ∧ (∀ z ∈ ws, z.1 ≠ D7) ∧ Same H Hd) ⟨[], rfl, fun z m => by simp at m, upd_same, fun z m => by simp at m, same_upd nD7⟩ ?_ ?_
  · rintro i Hd hi ⟨ws, hw2, pw, eD, nw, sd⟩
    have hwsl : ws.length ≤ i := by
      have := congrArg List.length hw2
      rw [rn_len, List.length_take] at this
      omega
    have Sd := S.same sd
    refine ⟨rfl, ?_⟩
    dsimp only [tYes]
    refine iteT ?_
    refine ⟨_, rfl, Al, _, rfl, .inl (SqL.of Sd.al), fun J2 hJ2 D2 nD2 => ?_⟩
    refine lc_seq hJ2 (fun j He => He D2 = some (.lst ((its.take j).map fun z => V.ref (rowK i z).1)) ∧ Same Hd He) ⟨upd_same, same_upd nD2⟩ (fun j He _ hh => .of hh.2) ?_ ?_
    · rintro j y He hj ⟨eD2, se⟩
      obtain ⟨z, hz, rfl⟩ := map_inv hj
      have zm : z ∈ its := List.mem_of_getElem? hz
      have hjl := (List.getElem?_eq_some_iff.mp hz).1
      have L := (Sd.same se).ls z zm
      obtain ⟨rm, re⟩ := rowK_mem (k := i) (z := z) (by rw [L.len]; exact hi)
      refine ⟨rfl, ?_⟩
      dsimp only [tYes]
      refine iteT ?_
      have hat : atI (rv z.us) ((0 : Int) + (i : Nat)) = some (.ref (rowK i z).1) := by
        rw [Int.zero_add]
        refine atI_nat ?_
        unfold rv
        rw [List.getElem?_map, re]
        rfl
      refine ⟨_, rfl, _, rfl, .inl ⟨z.A, rv z.us, _, _, rfl, rfl, SqL.of L.at_, hat, ?_⟩⟩
      refine ⟨_, eD2, small_2000 (by rw [List.length_map, List.length_take]; omega), ?_, same_put se nD2⟩
      rw [upd_same, List.take_add_one, hz, List.map_append]
      rfl
    · rintro He ⟨eD2, se⟩
      rw [List.length_map, List.take_length] at eD2
      have Se := Sd.same se
      refine ⟨by show 0 ≤ sizeLine; decide, fun q nq => ?_⟩
      have sq : Same He (upd He q (.lst [])) := same_upd nq
      refine ⟨D2, q, its.map fun z => (rowK i z).1, its.map fun z => (rowK i z).2.map V.int, rfl, SqL.of ?_, upd_same, by rw [List.length_map, List.length_map], ?_, by rw [List.length_map]; exact S.n1, by rw [List.length_map]; omega, ?_, fun p1 np1 => ?_⟩
      · rw [sq _ _ eD2, List.map_map]
        rfl
      · intro j a x ha hx
        rw [List.getElem?_map] at ha hx
        cases hz : its[j]? with
        | none => rw [hz] at ha; cases ha
        | some z =>
          rw [hz] at ha hx
          cases ha
          cases hx
          have zm : z ∈ its := List.mem_of_getElem? hz
          have L := Se.ls z zm
          exact sq _ _ (L.rl _ (rowK_mem (k := i) (z := z) (by rw [L.len]; exact hi)).1)
      · intro x hx
        obtain ⟨z, zm, rfl⟩ := List.mem_map.mp hx
        have L := Se.ls z zm
        have rm := (rowK_mem (k := i) (z := z) (by rw [L.len]; exact hi)).1
        have := L.w1 (rowK i z).2 (List.mem_map.mpr ⟨_, rm, rfl⟩)
        have := S.hw z zm
        rw [List.length_map]
        omega
      rw [flat_rows]
      have s2 : Same Hd (upd (upd He q (.lst [])) p1 (.lst ((besRw its i).map V.int))) := (se.trans sq).trans (same_upd np1)
      have e1 : (upd (upd He q (.lst [])) p1 (.lst ((besRw its i).map V.int))) p1 = some (.lst ((besRw its i).map V.int)) := upd_same
      have n1D : p1 ≠ D7 := fun z => by rw [z, sq _ _ (se _ _ eD)] at np1; cases np1
      generalize upd (upd He q (.lst [])) p1 (.lst ((besRw its i).map V.int)) = Hf at s2 e1
      obtain ⟨q1, q2⟩ := rl_add (o := .lst (rv ws ++ [.ref p1])) (fun z m => s2 _ _ (pw z m)) nw e1 n1D
      refine ⟨_, s2 _ _ eD, small_2000 (by rw [rv_len]; omega), ws ++ [(p1, besRw its i)], ?_, q1, by rw [upd_same, rv_app], q2, same_put (sd.trans s2) nD7⟩
      rw [rn_app, hw2, List.take_add_one]
      unfold besR
      rw [List.getElem?_map, List.getElem?_range hi]
      rfl
  · rintro Hd ⟨ds, hds, pds, eD, nw, sd⟩
    rw [List.take_of_length_le (by rw [besR_len]; exact Nat.le_refl _)] at hds
    have S1 := S.same sd
    obtain ⟨z, ts, ez, hz, zp, zt, ep, et⟩ := tsj_ok (K := K) S1.n1 S1.n3 S1.tl S1.ts
    have eW : sumW (z :: ts) = sumw its := by rw [ez, sumW_I]
    refine ⟨_, rfl, _, _, rfl, hz, .inr ⟨z, ts, rfl, by omega, .inr ⟨ep, et, by omega, fun n H1 hn s1 => ?_⟩⟩⟩
    rw [eW, zp, zt, ez, bes_mod, ← hds] at hn
    have S2 := S1.same s1
    refine ⟨_, rfl, _, rfl, _, rfl, Av, _, rfl, SqL.of S2.avi, ?_⟩
    rw [sum_nat (fun i : It => i.w)]
    have g2 : GoodT p tt (sumw its) (modT p (rn ds)) := by
      rw [hds]
      exact good_mod hpr (by omega) (by omega) (besR_len _ _) (besR_w S.fit)
    refine ⟨_, rfl, n, D7, p, tt, sumw its, ds, rfl, hn, g2, .inl (SqL.of (s1 _ _ eD)), RL.ra fun y my => s1 _ _ (pds y my), fun H2 s2 => ?_⟩
    refine ⟨_, rfl, ?_⟩
    refine iteF ?_
    have s12 := s1.trans s2
    exact re D H0 H2 d lg cl p tt its Av Al At D7 ds _ _ _ _ _ _ _ _ (S2.same s2) (s12 _ _ eD) (fun y my => s12 _ _ (pds y my)) hds k
end
end K01


set_option Elab.async false
set_option maxRecDepth 100000
set_option maxHeartbeats 4000000
set_option linter.all false
namespace K01
open PySem PySem.Spec PyProof.Rows L2 LamX GL
theorem LsD.put {d lg D D2 : Addr} {H : Hp} {zs : Rs} {t w : Nat} {o : HO} (n1 : D ≠ D2) (n2 : ∀ z ∈ zs, z.1 ≠ D2) (h : LsD d lg H D zs t w) : LsD d lg (upd H D2 o) D zs t w where
  at_ := by rw [upd_ne n1]; exact h.at_
  rl := fun z m => by rw [upd_ne (n2 z m)]; exact h.rl z m
  len := h.len
  wid := h.wid
  ne := h.ne
  nz := h.nz
theorem size_nats {x : Int} (h : x ∈ ([0, 1, 1, 2, 2, 3, 4, 5] : List Int)) : ∃ t : Nat, t ≤ 5 ∧ x = (t : Int) := size_nat h
theorem ini_nat {v : Int} (h0 : 0 ≤ v) (h1 : v < 3) : ∃ m : Nat, 1 ≤ m ∧ m ≤ 3 ∧ 1 + v = (m : Int) := ⟨(1 + v).toNat, by omega, by omega, by omega⟩
section
variable {P : Program} {w : World} {K : PySem.W.Frag} {mg : Str → Option Value} {base : Heap} {CT CP CB CN CW : Addr}
theorem ok_listr {f c Pt : Addr} {fd : FuncData} {T : List (Addr × Str)} (F : FunC K "_law_lists_right" "_law_lists_right" sLiR f fd c) (Y : Al P w K mg base CT CP CB CN CW) (mTup : mg "tuple" = none) (C : Tc base mg T "_law_lists_right" c Pt) : FnG P w K mg base CX0 10 f fd ["draw", "field"] (spDf T) := by
  refine F.okG scLiR (fun vs H Q E h => ?_) (fun A outer s H vs Q E hga hr h => ?_)
  · obtain ⟨d, lg, cl, p, rfl, _⟩ := h
    rfl
  · obtain ⟨d, lg, cl, p, rfl, DR, hpr, hT, k⟩ := h
    have nd := scLiR.nd
    have r2 : Room 2 _ := hr.mono (by decide)
    have r4 : Room 4 _ := hr.mono (by decide)
    have r5 : Room 5 _ := hr.mono (by decide)
    obtain ⟨te, pe, re⟩ := p48_h (f := f) (c := c) (outer := outer) (Hs := H) (E := E) Y mTup C hga hr
    refine ⟨_, pss_cons (ps_asg (pe_tup (pa_cons (pe_call Y.si.ok r4 (by rfl) Y.si.g Y.si.kp Y.si.b .nil pass0 (pa_cons (pv 0) pa_nil)) (pa_cons
          (pe_lc (own := [("k", 17)]) (g := gName 17) (by rfl) nd (pi_range1 (by rfl) Y.N.mRa (pa_cons (pe_op op_add pe_int (pe_call Y.N.take r2 (by rfl) Y.N.gT Y.N.kT Y.N.bT .nil pass0 (pa_cons (pv 0) (pa_cons pe_int pa_nil)))) pa_nil)) (blkOk_by (own := [("k", 17)]) (N := N48) (sc := defScope sLiR) (by decide +kernel))
            (fun _ _ _ _ _ => pg_name (i := 17) nd rfl (by first | exact Or.inl rfl | exact Or.inr rfl)) (fun _ _ _ _ _ => pts_nil)
            (fun _ _ _ _ _ => pe_call Y.si.ok r4 (by rfl) Y.si.g Y.si.kp Y.si.b .nil pass0 (pa_cons (pv 0) pa_nil))) pa_nil))) (pg_tup (by rfl) (pgs_cons (pg_name (i := 2) nd rfl (by first | exact Or.inl rfl | exact Or.inr rfl)) (pgs_cons (pg_name (i := 3) nd rfl (by first | exact Or.inl rfl | exact Or.inr rfl)) pgs_nil))))
      (pss_cons (ps_set (i := 5) nd rfl (by first | exact Or.inl rfl | exact Or.inr rfl) (pe_lc (own := [("size", 4)]) (g := gName 4) (by rfl) nd (pi_seq (pv 3)) (blkOk_by (own := [("size", 4)]) (N := N48) (sc := defScope sLiR) (by decide +kernel))
            (fun _ _ _ _ _ => pg_name (i := 4) nd rfl (by first | exact Or.inl rfl | exact Or.inr rfl)) (fun _ _ _ _ _ => pts_nil)
            (fun _ _ _ _ _ => pe_call Y.wi.ok r4 (by rfl) Y.wi.g Y.wi.kp Y.wi.b .nil pass0 (pa_cons (pv 0) (pa_cons (pv 1) (pa_cons (pv 2) (pa_cons (pv 4) pa_nil)))))))
      (pss_cons (ps_set (i := 14) nd rfl (by first | exact Or.inl rfl | exact Or.inr rfl) (pe_lc (own := [("size", 4), ("some", 6)]) (g := gTup K 2 (gCons (gName 4) (gCons (gName 6) gNil))) (by rfl) nd (pi_z2 (by rfl) Y.mZ (pa_cons (pv 3) (pa_cons (pv 5) pa_nil))) (blkOk_by (own := [("size", 4), ("some", 6)]) (N := N48) (sc := defScope sLiR) (by decide +kernel))
          (fun _ _ _ _ _ => pg_tup (by rfl) (pgs_cons (pg_name (i := 4) nd rfl (by first | exact Or.inl rfl | exact Or.inr rfl)) (pgs_cons (pg_name (i := 6) nd rfl (by first | exact Or.inl rfl | exact Or.inr rfl)) pgs_nil))) (fun _ _ _ _ _ => pts_nil)
          (fun _ _ _ _ _ => pe_make Y.G.m Y.G.ok r5 (by rfl) Y.G.T.t.g Y.G.b .nil (passes_call L2.takes0 fun _ _ _ _ h => h) (pa_cons (pv 1) (pa_cons (pv 2) (pa_cons (pv 4) (pa_cons (pv 6) pa_nil)))))))
      pe)), ?_⟩
    have hp97 := prime_pos hpr
    refine ⟨_, rfl, d, lg, cl, rfl, DR, fun i1 H1 m1 D1 k1 => ?_⟩
    obtain ⟨tt, ht, rfl⟩ := size_nats m1
    refine ⟨_, rfl, d, lg, cl, 3, rfl, D1, by decide, by decide, fun v H2 v0 v1 D2 k2 => ?_⟩
    obtain ⟨m, hm1, hm3, em⟩ := ini_nat v0 v1
    refine ⟨1, v, rfl, rfl, (m : Int), by rw [← em], by omega, by omega, fun Av nAv => ?_⟩
    rw [Int.toNat_natCast]
    obtain ⟨ad, alg, acl⟩ := draw_new D2 nAv
    refine lc_range (lo := 0) (n := m) (fun j Hd => ∃ ws : List Nat, ws.length = j ∧ (∀ x ∈ ws, x ≤ 5) ∧ Hd Av = some (.lst (ws.map fun x => V.int (x : Nat))) ∧ DrawAt Hd d lg cl ∧ Kept d lg H2 Hd) ⟨[], rfl, fun x mx => by simp at mx, upd_same, draw_put ad alg acl D2, kept_put nAv Kept.refl⟩ ?_ ?_
    · rintro j Hd hj ⟨ws, hl, hb, eA, Dd, kd⟩
      refine ⟨rfl, ?_⟩
      dsimp only [tYes]
      refine iteT ?_
      refine ⟨_, rfl, d, lg, cl, rfl, Dd, fun x H3 mx D3 k3 => ?_⟩
      obtain ⟨x, hx, rfl⟩ := size_nats mx
      refine ⟨_, k3 _ _ eA ad alg, small_2000 (by rw [List.length_map]; omega), ws ++ [x], by rw [List.length_append, hl]; rfl, fun y my => ?_, by rw [upd_same, List.map_append]; rfl, draw_put ad alg acl D3, kept_put nAv (kd.trans k3)⟩
      rcases List.mem_append.mp my with my | my
      · exact hb y my
      · rw [List.mem_singleton] at my
        omega
    rintro H3 ⟨ws, hl, hb, eA, D3, k3⟩
    have kA : Kept d lg H H3 := (k1.trans k2).trans k3
    refine ⟨by show 2 ≤ sizeLine; decide, fun qt nqt => ?_⟩
    refine ⟨qt, [.int tt, .ref Av], rfl, .inl (.inl upd_same), rfl, .int tt, [.ref Av], rfl, .ref Av, [], rfl, rfl, ?_⟩
    have sQ : Same H3 (upd H3 qt (.tup [.int tt, .ref Av])) := same_upd nqt
    have D4 := draw_same sQ D3
    have k4 : Kept d lg H (upd H3 qt (.tup [.int tt, .ref Av])) := kA.trans (fun b o e _ _ => sQ b o e)
    have eA4 := sQ _ _ eA
    generalize upd H3 qt (.tup [.int tt, .ref Av]) = H4 at D4 k4 eA4
    clear sQ kA k3 D3 eA
    refine ⟨_, rfl, Av, _, rfl, .inl (SqL.of eA4), fun J hJ Al nAl => ?_⟩
    obtain ⟨ld, llg, lcl⟩ := draw_new D4 nAl
    refine lc_seq hJ (fun i Hd => ∃ its : List It, (its.map fun z => z.w) = ws.take i ∧ (∀ z ∈ its, LsD d lg Hd z.A z.us tt z.w ∧ z.A ≠ Al ∧ ∀ y ∈ z.us, y.1 ≠ Al) ∧ Hd Al = some (.lst (its.map fun z => V.ref z.A)) ∧ DrawAt Hd d lg cl ∧ Kept d lg H4 Hd)
      ⟨[], rfl, fun z mz => by simp at mz, upd_same, draw_put ld llg lcl D4, kept_put nAl Kept.refl⟩ (fun i Hd _ hh => by obtain ⟨_, _, _, _, _, kx⟩ := hh; exact stay_kept ad alg kx) ?_ ?_
    · rintro i y Hd hi ⟨its, hits, hls, eL, Dd, kd⟩
      obtain ⟨x, hx, rfl⟩ := map_inv hi
      have hx5 := hb x (List.mem_of_getElem? hx)
      have hil := (List.getElem?_eq_some_iff.mp hx).1
      have hitl : its.length ≤ i := by
        have := congrArg List.length hits
        rw [List.length_map, List.length_take] at this
        omega
      refine ⟨rfl, ?_⟩
      dsimp only [tYes]
      refine iteT ?_
      refine ⟨_, rfl, _, rfl, _, rfl, _, rfl, d, lg, cl, p, tt, x, rfl, Dd, by omega, by omega, by omega, by omega, fun B zs H5 N5 => ?_⟩
      have L5 : LsD d lg H5 B zs tt x := LsD.of Dd N5
      have nB : B ≠ Al := fun z => by have := N5.nD; rw [z, eL] at this; cases this
      have nz : ∀ y ∈ zs, y.1 ≠ Al := fun y my z => by have := (N5.nz y my).1; rw [z, eL] at this; cases this
      refine ⟨_, N5.kp _ _ eL ld llg, small_2000 (by rw [List.length_map]; omega), its ++ [⟨x, B, zs, 0⟩], ?_, fun z mz => ?_, by rw [upd_same, List.map_append]; rfl, draw_put ld llg lcl N5.dr, kept_put nAl (kd.trans N5.kp)⟩
      · rw [List.map_append, hits, List.take_add_one, hx]
        rfl
      · rcases List.mem_append.mp mz with mz | mz
        · obtain ⟨a1, a2, a3⟩ := hls z mz
          exact ⟨(a1.kn N5.kp.n).put a2 a3, a2, a3⟩
        · rw [List.mem_singleton] at mz
          subst mz
          exact ⟨L5.put nB nz, nB, nz⟩
    rintro H5 ⟨its, hits, hls, eL, D5, k5⟩
    rw [List.length_map, List.take_length] at hits
    have eA5 := k5 _ _ eA4 ad alg
    rw [← hits, List.map_map] at eA5
    replace eA5 : H5 Av = some (.lst (its.map fun z => V.int (z.w : Nat))) := eA5
    have hn : its.length = m := by rw [← hl, ← hits, List.length_map]
    have hw5 : ∀ z ∈ its, z.w ≤ 5 := fun z mz => hb _ (by rw [← hits]; exact List.mem_map.mpr ⟨z, mz, rfl⟩)
    have k05 : Kept d lg H H5 := k4.trans k5
    have t5 := Tabs.kept DR k05 hT
    have ls5 : ∀ z ∈ its, LsD d lg H5 z.A z.us tt z.w := fun z mz => (hls z mz).1
    clear hls k5 eA4 hits hJ nAl
    refine ⟨_, rfl, _, rfl, Av, Al, _, _, rfl, .inl (SqL.of eA5), .inl (SqL.of eL), fun J2 hJ2 At nAt => ?_⟩
    refine lc_z2 hJ2 (by rw [List.length_map, List.length_map]) (fun i Hd => ∃ js : List It, (js.map fun z => (⟨z.w, z.A, z.us, 0⟩ : It)) = ((its.map fun z => (⟨z.w, z.A, z.us, 0⟩ : It)).take i) ∧ TsAt CT Hd (js.map (tbI p tt)) ∧ Hd At = some (.lst (js.map fun j => V.ref j.x)) ∧ Same H5 Hd) ⟨[], rfl, fun z m => by simp at m, upd_same, same_upd nAt⟩ (fun i Hd _ hh => by obtain ⟨_, _, _, _, s⟩ := hh; exact ⟨.of s, .of s⟩) ?_ ?_
    · rintro i x y U Hd hx hy ⟨js, hjs, tjs, eD, sd⟩ nU
      obtain ⟨z, hz, rfl⟩ := map_inv hx
      obtain rfl := it_inv hz hy
      have zm : z ∈ its := List.mem_of_getElem? hz
      have hil := (List.getElem?_eq_some_iff.mp hz).1
      have hjl : js.length ≤ i := by
        have := congrArg List.length hjs
        rw [List.length_map, List.length_take] at this
        omega
      refine ⟨U, [.int z.w, .ref z.A], rfl, .inl (.inl upd_same), rfl, .int z.w, [.ref z.A], rfl, .ref z.A, [], rfl, rfl, rfl, ?_⟩
      dsimp only [tYes]
      refine iteT ?_
      have sU : Same Hd (upd Hd U (.tup [.int z.w, .ref z.A])) := same_upd nU
      generalize upd Hd U (.tup [.int z.w, .ref z.A]) = HU at sU
      have L := (ls5 z zm).kn (KeptN.same (sd.trans sU))
      have hw5' := hw5 z zm
      refine ⟨_, rfl, _, rfl, _, rfl, _, rfl, ?_⟩
      intro x dx nx ndx ne
      refine mkt_l (t := tt) (w := z.w) (zs := z.us) nx ndx ne hpr (by omega) (by omega) L.sqa L.rl.ra L.len L.w1 fun H6 T6 s6 => ⟨rfl, ?_⟩
      have s06 : Same Hd H6 := sU.trans s6
      have eD6 := s06 _ _ eD
      have g6 : GoodT p tt z.w (modT p (rn z.us)) := good_of hpr ht hw5' L
      refine ⟨_, eD6, small_2000 (by rw [List.length_map]; omega), js ++ [⟨z.w, z.A, z.us, x⟩], ?_, ?_, ?_, same_put (sd.trans s06) nAt⟩
      · rw [List.map_append, hjs, List.take_add_one, List.getElem?_map, hz]
        rfl
      · refine ts_lst eD6 fun y my => ?_
        rw [List.map_append] at my
        rcases List.mem_append.mp my with my | my
        · exact tjs.same s06 y my
        · rw [List.map_cons, List.map_nil, List.mem_singleton] at my
          subst my
          exact ⟨T6, g6⟩
      · rw [upd_same, List.map_append]
        rfl
    · rintro H6 ⟨js, hjs, tjs, eD, sd⟩
      rw [List.length_map, List.take_of_length_le (by rw [List.length_map]; exact Nat.le_refl _)] at hjs
      have key : ∀ (f : It → L2.V), (∀ z : It, f z = f ⟨z.w, z.A, z.us, 0⟩) → its.map f = js.map f := fun f hf => by
        have h1 : its.map f = (its.map fun z => (⟨z.w, z.A, z.us, 0⟩ : It)).map f := by rw [List.map_map]; exact List.map_congr_left fun z _ => hf z
        have h2 : js.map f = (js.map fun z => (⟨z.w, z.A, z.us, 0⟩ : It)).map f := by rw [List.map_map]; exact List.map_congr_left fun z _ => hf z
        rw [h1, h2, hjs]
      have of_ : ∀ z ∈ js, ∃ y ∈ its, z.w = y.w ∧ z.A = y.A ∧ z.us = y.us := fun z mz => by
        have : (⟨z.w, z.A, z.us, 0⟩ : It) ∈ its.map fun z => (⟨z.w, z.A, z.us, 0⟩ : It) := by rw [← hjs]; exact List.mem_map.mpr ⟨z, mz, rfl⟩
        obtain ⟨y, my, e⟩ := List.mem_map.mp this
        injection e with e1 e2 e3 _
        exact ⟨y, my, e1.symm, e2.symm, e3.symm⟩
      have hlj : js.length = m := by
        have := congrArg List.length hjs
        rw [List.length_map, List.length_map] at this
        omega
      have k56 : KeptN d lg H H6 := k05.n.trans (KeptN.same sd)
      have S : D48 CT d lg cl T p tt js Av Al At H H6 := {
        dr := draw_same sd D5
        tb := t5.ext sd
        kn := k56
        pr := hpr
        ht := ht
        hw := fun z mz => by obtain ⟨y, my, e, _⟩ := of_ z mz; rw [e]; exact hw5 y my
        n1 := by omega
        n3 := by omega
        av := by rw [sd _ _ eA5]; congr 2; exact key (fun z => V.int z.w) fun _ => rfl
        al := by rw [sd _ _ eL]; congr 2; exact key (fun z => V.ref z.A) fun _ => rfl
        tl := eD
        ls := fun z mz => by obtain ⟨y, my, e1, e2, e3⟩ := of_ z mz; rw [e1, e2, e3]; exact (ls5 y my).kn (KeptN.same sd)
        ts := tjs }
      exact re _ H H6 d lg cl p tt js Av Al At _ _ _ _ _ _ _ _ _ S k
end
end K01


set_option Elab.async false
set_option maxRecDepth 100000
set_option maxHeartbeats 4000000
set_option linter.all false
namespace K01
open PySem PySem.Spec PyProof.Rows L2 LamX GL
theorem NuJ.ext {K : PySem.W.Frag} {H H' : Hp} (s : ExtN H H') {x : L2.V} {o : Option Int} : NuJ K H x o → NuJ K H' x o
  | .int i => .int i
  | .bl b => .bl b
  | .no h z zb => .no (TyX.ext s h) z zb
theorem ko_non (K : PySem.W.Frag) : PySem.W.kitOne K (.type "NoneType") (.type "int") = some false ∧ PySem.W.kitOne K (.type "NoneType") (.type "bool") = some false := ⟨by kernel_rfl, by kernel_rfl⟩
theorem ko_str (K : PySem.W.Frag) : PySem.W.kitOne K (.type "str") (.type "int") = some false ∧ PySem.W.kitOne K (.type "str") (.type "bool") = some false := ⟨by kernel_rfl, by kernel_rfl⟩
theorem ko_tup (K : PySem.W.Frag) : PySem.W.kitOne K (.type "tuple") (.type "int") = some false ∧ PySem.W.kitOne K (.type "tuple") (.type "bool") = some false := ⟨by kernel_rfl, by kernel_rfl⟩
section
variable {K : PySem.W.Frag} {H : Hp}
theorem nu_non : NuJ K H .non none := .no (.base .non) (ko_non K).1 (ko_non K).2
theorem nu_str (x : Str) : NuJ K H (.str x) none := .no (.base (.str x)) (ko_str K).1 (ko_str K).2
theorem nu_tup {a : Addr} {xs : List L2.V} (h : H a = some (.tup xs)) : NuJ K H (.ref a) none := .no (ty_tup (SqT.of h)) (ko_tup K).1 (ko_tup K).2
end
/-- no such number -/
def WrJ (ok : Int → Prop) (H : Hp) (x : L2.V) : Prop := x = .non ∨ (∃ b, x = .bl b) ∨ (∃ z, x = .str z) ∨ (∃ i, x = .int i ∧ ¬ ok i) ∨ ∃ a xs, x = .ref a ∧ H a = some (.tup xs)
theorem WrJ.to {ok : Int → Prop} {H H' : Hp} {x : L2.V} (s : ∀ a xs, H a = some (.tup xs) → H' a = some (.tup xs)) (h : WrJ ok H x) : WrJ ok H' x := by
  rcases h with h | h | h | h | ⟨a, xs, e, h⟩
  · exact .inl h
  · exact .inr (.inl h)
  · exact .inr (.inr (.inl h))
  · exact .inr (.inr (.inr (.inl h)))
  · exact .inr (.inr (.inr (.inr ⟨a, xs, e, s _ _ h⟩)))
theorem WrJ.ext {ok : Int → Prop} {H H' : Hp} {x : L2.V} (s : ExtN H H') (h : WrJ ok H x) : WrJ ok H' x := h.to fun a xs e => s _ _ e (fun _ z => by cases z)
theorem WrJ.put {ok : Int → Prop} {H : Hp} {x : L2.V} {q : Addr} {xs : List L2.V} {o : HO} (e : H q = some (.lst xs)) (h : WrJ ok H x) : WrJ ok (upd H q o) x := h.to fun a ys ea => by
  rw [upd_ne (fun z => by rw [z, e] at ea; cases ea)]
  exact ea
theorem WrJ.nu {ok : Int → Prop} {K : PySem.W.Frag} {H : Hp} {x : L2.V} (h : WrJ ok H x) : ∃ o, NuJ K H x o ∧ ∀ i, o = some i → ¬ ok i := by
  rcases h with rfl | ⟨b, rfl⟩ | ⟨z, rfl⟩ | ⟨i, rfl, h⟩ | ⟨a, xs, rfl, h⟩
  · exact ⟨_, nu_non, fun _ e => by cases e⟩
  · exact ⟨_, .bl b, fun _ e => by cases e⟩
  · exact ⟨_, nu_str z, fun _ e => by cases e⟩
  · exact ⟨_, .int i, fun j e => by cases e; exact h⟩
  · exact ⟨_, nu_tup h, fun _ e => by cases e⟩
/-- no prime -/
abbrev OddJ := WrJ (· ∈ primes)
/-- no size -/
abbrev BigJ := WrJ (fun i => 0 ≤ i ∧ i ≤ 60)
theorem odd_nu {K : PySem.W.Frag} {H : Hp} {x : L2.V} (h : OddJ H x) : ∃ o, NuJ K H x o ∧ isP o = false := by
  obtain ⟨o, a, b⟩ := h.nu (K := K)
  refine ⟨o, a, ?_⟩
  cases o with
  | none => rfl
  | some i => exact decide_eq_false (b i rfl)
theorem big_nu {K : PySem.W.Frag} {H : Hp} {x : L2.V} (h : BigJ H x) : ∃ o, NuJ K H x o ∧ szO o = none := by
  obtain ⟨o, a, b⟩ := h.nu (K := K)
  refine ⟨o, a, ?_⟩
  cases o with
  | none => rfl
  | some i => exact if_neg (b i rfl)
theorem KeptN.put {d lg q : Addr} {H0 Hn Hx : Hp} {o : HO} (n : KeptN d lg H0 Hn) (nq : Hn q = none) (k : KeptN d lg H0 Hx) : KeptN d lg H0 (upd Hx q o) := fun b u e h1 h2 ht => by
  rw [upd_ne (fun z => by have := n b u e h1 h2 ht; rw [z, nq] at this; cases this)]
  exact k b u e h1 h2 ht
theorem Tabs.put {T : List (Addr × Str)} {H : Hp} {q : Addr} {xs : List L2.V} {o : HO} (e : H q = some (.lst xs)) (t : Tabs T H) : Tabs T (upd H q o) := fun p hp => by
  obtain ⟨ps, h1, h2, h3⟩ := t p hp
  refine ⟨ps, by rw [upd_ne (fun z => by rw [z, e] at h1; cases h1)]; exact h1, h2, fun pos cv hc => ?_⟩
  obtain ⟨c, e1, e2⟩ := h3 pos cv hc
  exact ⟨c, e1, by rw [upd_ne (fun z => by rw [z, e] at e2; unfold CodeO at e2; cases e2)]; exact e2⟩
/-- what stands while wrong values are looked at -/
structure D52 (d lg cl : Addr) (T : List (Addr × Str)) (p : Int) (odd size : L2.V) (H0 H : Hp) : Prop where
  dr : DrawAt H d lg cl
  tb : Tabs T H
  kn : KeptN d lg H0 H
  pr : p ∈ primes
  od : OddJ H odd
  sz : BigJ H size
section
variable {d lg cl : Addr} {T : List (Addr × Str)} {p : Int} {odd size : L2.V} {H0 H H' : Hp}
theorem D52.ext (S : D52 d lg cl T p odd size H0 H) (s : ExtN H H') (tb : Tabs T H') : D52 d lg cl T p odd size H0 H' where
  dr := draw_ext s S.dr
  tb := tb
  kn := S.kn.trans (KeptN.ext s)
  pr := S.pr
  od := S.od.ext s
  sz := S.sz.ext s
theorem D52.same (S : D52 d lg cl T p odd size H0 H) (s : Same H H') : D52 d lg cl T p odd size H0 H' := S.ext (ExtN.same s) (S.tb.ext s)
end
/-- a list of its own grows -/
theorem D52.put {d lg cl : Addr} {T : List (Addr × Str)} {p : Int} {odd size : L2.V} {H0 Hn H : Hp} {q : Addr} {xs : List L2.V} {o : HO} (Sn : D52 d lg cl T p odd size H0 Hn) (nq : Hn q = none) (e : H q = some (.lst xs)) (S : D52 d lg cl T p odd size H0 H) : D52 d lg cl T p odd size H0 (upd H q o) where
  dr := by obtain ⟨a, b, c⟩ := draw_new Sn.dr nq; exact draw_put a b c S.dr
  tb := Tabs.put e S.tb
  kn := KeptN.put Sn.kn nq S.kn
  pr := S.pr
  od := S.od.put e
  sz := S.sz.put e
/-- a BadNumber that was caught -/
def ErA (CN : Addr) (H : Hp) (a : Addr) (m : Str) : Prop := ∃ d, H a = some (ExR (.ref CN) (some d) a) ∧ H d = some (.xd [("part", .str m)])
theorem exr_ne {cls : Value} {d : Option Addr} {a : Addr} : (∀ ps, ExR cls d a ≠ .tbl ps) ∧ (∀ xs, ExR cls d a ≠ .lst xs) ∧ ∀ ks, ExR cls d a ≠ .dK ks := ⟨fun _ z => (by unfold ExR at z; cases z), fun _ z => (by unfold ExR at z; cases z), fun _ z => (by unfold ExR at z; cases z)⟩
theorem ErA.ext {CN : Addr} {H H' : Hp} {a : Addr} {m : Str} (s : ExtN H H') (h : ErA CN H a m) : ErA CN H' a m := by
  obtain ⟨d, e1, e2⟩ := h
  exact ⟨d, s _ _ e1 exr_ne.1, s _ _ e2 (fun _ z => by cases z)⟩
theorem ErA.same {CN : Addr} {H H' : Hp} {a : Addr} {m : Str} (s : Same H H') (h : ErA CN H a m) : ErA CN H' a m := h.ext (ExtN.same s)
theorem ErA.kept {CN : Addr} {H H' : Hp} {d lg cl a : Addr} {m : Str} (D : DrawAt H d lg cl) (k : Kept d lg H H') (h : ErA CN H a m) : ErA CN H' a m := by
  obtain ⟨x, e1, e2⟩ := h
  obtain ⟨⟨r, t', hd⟩, ⟨L, hL, hl⟩, _, _⟩ := D
  refine ⟨x, k _ _ e1 (fun z => ?_) (fun z => ?_), k _ _ e2 (fun z => ?_) (fun z => ?_)⟩
  · rw [z, hd] at e1; exact exr_ne.2.2 _ (Option.some.inj e1).symm
  · rw [z, hl] at e1; exact exr_ne.2.1 _ (Option.some.inj e1).symm
  · rw [z, hd] at e2; cases e2
  · rw [z, hl] at e2; cases e2
theorem ErA.put {CN : Addr} {H : Hp} {a q : Addr} {m : Str} {xs : List L2.V} {o : HO} (e : H q = some (.lst xs)) (h : ErA CN H a m) : ErA CN (upd H q o) a m := by
  obtain ⟨x, e1, e2⟩ := h
  refine ⟨x, ?_, ?_⟩
  · rw [upd_ne (fun z => by rw [z, e] at e1; exact exr_ne.2.1 _ (Option.some.inj e1).symm)]; exact e1
  · rw [upd_ne (fun z => by rw [z, e] at e2; cases e2)]; exact e2
theorem ttc_bad {K : PySem.W.Frag} {CN CW : Addr} {tl : XK → Hp → VK → Prop} {H : Hp} {Q : VK} {R : Hp → Prop} {m : Str} (N : BadNN K CN CW) (h : tl (fun cls dd H' => cls = .ref CN ∧ ∃ d', dd = some d' ∧ H' d' = some (.xd [("part", .str m)]) ∧ R H') H (fun _ _ => False))
    (k : ∀ a H', R H' → ∀ H2, H' a = none → Same H' H2 → ErA CN H2 a m → Q (.ref a) H2) : TTc K CW tl H Q :=
  ⟨_, _, h, fun cls dd H' q => by
    obtain ⟨rfl, d', rfl, e, r⟩ := q
    refine ⟨N.exm, fun a na => k a H' r _ na (same_upd na) ⟨d', upd_same, ?_⟩⟩
    rw [upd_ne (ne_of_none e na)]
    exact e, fun v H' q => q.elim⟩
theorem rz_bad {CN : Addr} {H H1 : Hp} {m : Str} (s : Same H H1) : Rz CN H1 (fun cls dd H' => cls = .ref CN ∧ ∃ d', dd = some d' ∧ H' d' = some (.xd [("part", .str m)]) ∧ Same H H') (.str m) := fun d H' _ s' e => ⟨rfl, d, rfl, e, s.trans s'⟩
end K01


set_option Elab.async false
set_option maxRecDepth 100000
set_option maxHeartbeats 4000000
set_option linter.all false
namespace K01
open PySem PySem.Spec PyProof.Rows L2 LamX GL
abbrev N52 : List Str := ["draw", "field", "bad", "work", "errors_here", "odd", "size", "some", "error"]
abbrev sRf : Stmt := top 52
theorem scRf : FnScope N52 ["draw", "field"] (defScope sRf) := ⟨rfl, rfl, rfl, by decide +kernel, rfl, by decide +kernel, by decide +kernel⟩
abbrev X52 (P : Program) (w : World) (K : PySem.W.Frag) (mg : Str → Option Value) (base : Heap) (f c : Addr) (A : Around) (outer : List Env) (s : Shared) (H : Hp) (E : XK) : Cx := (cxOf L2.CX0 P w K mg base N52 "_law_refused" (defScope sRf) f (.ref c) A outer s H E).nox
theorem dp_bls {K : PySem.W.Frag} {H : Hp} : ∀ n : Nat, DpAll K H (List.replicate n (.bl true)) (List.replicate n (.bool true))
  | 0 => .nil
  | n + 1 => .cons (.bl true) (dp_bls n)
def errs4 : List Str := ["size", "tall", "wide", "number"]
theorem dp_strs {K : PySem.W.Frag} {H : Hp} : ∀ l : List Str, DpAll K H (l.map V.str) (l.map PyData.str)
  | [] => .nil
  | x :: r => .cons (.str x) (dp_strs r)
theorem shp_errs : SeqAt.shaped (.list (errs4.map PyData.str)) = true := by simp [errs4, SeqAt.shaped, PyData.canLay0, PyData.canLayAll0, PyData.depth, PyData.depthAll]; decide +kernel
theorem at4 {xs : List Addr} {i : Nat} {x : L2.V} (h : (xs.map V.ref)[i]? = some x) : ∃ a, xs[i]? = some a ∧ x = .ref a := by
  rw [List.getElem?_map] at h
  cases e : xs[i]? with
  | none => rw [e] at h; cases h
  | some a => rw [e] at h; cases h; exact ⟨a, rfl, rfl⟩
section
variable {P : Program} {w : World} {K : PySem.W.Frag} {mg : Str → Option Value} {base : Heap} {CT CP CB CN CW : Addr}
/-- from errors_here on -/
theorem p52_e {f c Pt : Addr} {A : Around} {outer : List Env} {s : Shared} {Hs : Hp} {E : XK} {T : List (Addr × Str)} (Y : Al P w K mg base CT CP CB CN CW) (C : Tc base mg T "_law_refused" c Pt) (hr : Room 9 (A.deeper (envOfC "_law_refused" (defScope sRf) s.heap.objs.size f (.ref c)))) :
    ∃ t, PSs (X52 P w K mg base f c A outer s Hs E) ((defBody sRf).drop 12) t ∧ ∀ (D : Ends) (H0 H : Hp) (d lg cl : Addr) (p : Int) (odd size : L2.V) (v2 v3 v4 v7 : Option V),
      D52 d lg cl T p odd size H0 H →
      (∀ H', DrawAt H' d lg cl → KeptN d lg H0 H' → Tabs T H' → D.rt (.bl true) H') →
      t D [some (.ref d), some (.int p), v2, v3, v4, some odd, some size, v7, none] H := by
  have nd := scRf.nd
  have r8 : Room 8 _ := hr.mono (by decide)
  refine ⟨_, pss_cons (ps_set (i := 4) nd rfl (by first | exact Or.inl rfl | exact Or.inr rfl) (pe_lst (pa_cons (pe_lamV (k := 6) (by rfl) Y.N.gC Y.N.kC Y.N.caught C.TB rfl C.mem C.uq r8 (lamS_by (sc := defScope sRf) (by decide +kernel)) rfl (fun _ _ _ _ _ => rfl)
            (fun A' o' s' H' E' f' c' hr2 => pe_call Y.pn.ok hr2 (by rfl) Y.pn.g Y.pn.kp Y.pn.b .nil (passes_call (takes_of rfl rfl rfl rfl) fun _ _ _ _ h => h) (pa_cons (pv 1) (pa_cons (pv 6) pa_nil)))) pa_nil)))
      (pss_cons (ps_expr (pe_bm PySem.F.plainAttrs_list PySem.F.slot_list_append PySem.F.type_list_append mt_append (pv 4) (pa_cons (pe_lamV (k := 6) (by rfl) Y.N.gC Y.N.kC Y.N.caught C.TB rfl C.mem C.uq r8 (lamS_by (sc := defScope sRf) (by decide +kernel)) rfl (fun _ _ _ _ _ => rfl)
            (fun A' o' s' H' E' f' c' hr2 => pe_call Y.em.ok hr2 (by rfl) Y.em.g Y.em.kp Y.em.b .nil (passes_call (takes_of rfl rfl rfl rfl) fun _ _ _ _ h => h) (pa_cons (pv 1) (pa_cons (pv 6) (pa_cons (pv 6) pa_nil))))) pa_nil)))
      (pss_cons (ps_expr (pe_bm PySem.F.plainAttrs_list PySem.F.slot_list_append PySem.F.type_list_append mt_append (pv 4) (pa_cons (pe_lamV (k := 6) (by rfl) Y.N.gC Y.N.kC Y.N.caught C.TB rfl C.mem C.uq r8 (lamS_by (sc := defScope sRf) (by decide +kernel)) rfl (fun _ _ _ _ _ => rfl)
            (fun A' o' s' H' E' f' c' hr2 => pe_call Y.em.ok hr2 (by rfl) Y.em.g Y.em.kp Y.em.b .nil (passes_call (takes_of rfl rfl rfl rfl) fun _ _ _ _ h => h) (pa_cons (pv 1) (pa_cons pe_int (pa_cons (pv 6) pa_nil))))) pa_nil)))
      (pss_cons (ps_expr (pe_bm PySem.F.plainAttrs_list PySem.F.slot_list_append PySem.F.type_list_append mt_append (pv 4) (pa_cons (pe_lamV (k := 6) (by rfl) Y.N.gC Y.N.kC Y.N.caught C.TB rfl C.mem C.uq r8 (lamS_by (sc := defScope sRf) (by decide +kernel)) rfl (fun _ _ _ _ _ => rfl)
            (fun A' o' s' H' E' f' c' hr2 => pe_call Y.sc.ok hr2 (by rfl) Y.sc.g Y.sc.kp Y.sc.b .nil (passes_call (takes_of rfl rfl rfl rfl) fun _ _ _ _ h => h)
              (pa_cons (pe_make Y.G.m Y.G.ok (hr2.mono (by decide)) (by rfl) Y.G.T.t.g Y.G.b .nil (passes_call (takes_of rfl rfl rfl rfl) fun _ _ _ _ h => h) (pa_cons (pv 1) (pa_cons pe_int (pa_cons pe_int (pa_cons (pe_lst pa_nil) pa_nil)))))
              (pa_cons (pe_call Y.N.pick (hr2.mono (by decide)) (by rfl) Y.N.gK Y.N.kK Y.N.bK .nil pass0 (pa_cons (pv 0) (pa_cons (pe_lst (pa_cons pe_non (pa_cons pe_bl (pa_cons pe_str pa_nil)))) pa_nil))) pa_nil)))) pa_nil)))
      (pss_cons (ps_if (pt_cmpR (op_neD hr.units) (pe_lc (own := [("error", 8)]) (g := gName 8) (by rfl) nd (pi_seq (pv 4)) (blkOk_by (own := [("error", 8)]) (N := N52) (sc := defScope sRf) (by decide +kernel)) (fun _ _ _ _ _ => pg_name (i := 8) nd rfl (by first | exact Or.inl rfl | exact Or.inr rfl)) (fun _ _ _ _ _ => pts_nil)
              (fun _ _ _ _ _ => pe_callB (show CallR _ _ (rIsR K) from call_isR) (by rfl) Y.N.mIs (by decide +kernel) (pa_cons (pv 8) (pa_cons (pe_glob (v := .ref CN) (by rfl) Y.gCN rfl) pa_nil)))) (pe_op op_rep (pe_lst (pa_cons pe_bl pa_nil)) pe_int) (nomark _)) (pss_one (ps_ret pe_bl)) pss_nil)
      (pss_one (ps_ret (pe_cmpR (op_eqD hr.units) (pe_lc (own := [("error", 8)]) (g := gName 8) (by rfl) nd (pi_seq (pv 4)) (blkOk_by (own := [("error", 8)]) (N := N52) (sc := defScope sRf) (by decide +kernel)) (fun _ _ _ _ _ => pg_name (i := 8) nd rfl (by first | exact Or.inl rfl | exact Or.inr rfl)) (fun _ _ _ _ _ => pts_nil)
              (fun _ _ _ _ _ => show PE _ _ (tRFld K "part" (tVar 8)) from pe_rfld (pv 8))) (pe_lst (pa_cons pe_str (pa_cons pe_str (pa_cons pe_str (pa_cons pe_str pa_nil))))) (nomark _)))))))), ?_⟩
  intro D H0 H d lg cl p odd size v2 v3 v4 v7 S k
  have hpr := S.pr
  -- plain(field, size)
  refine ⟨S.tb, fun H1 s1 t1 => ?_⟩
  have S1 := S.ext s1 t1
  obtain ⟨os, hos, zos⟩ := big_nu (K := K) S1.sz
  refine ttc_bad (R := Same H1) Y.badN ⟨_, rfl, _, rfl, _, _, _, _, rfl, .int p, .inr ⟨p, rfl, hpr, hos, .inl ⟨zos, rz_bad (Same.refl _)⟩⟩⟩ fun a1 H2 s2 H2' _ s2' er1 => ?_
  have Sn := S1.same (s2.trans s2')
  refine ⟨by show 1 ≤ sizeLine; decide, fun Ea nEa => ?_⟩
  have sE : Same H2' (upd H2' Ea (.lst [.ref a1])) := same_upd nEa
  have S3 := Sn.same sE
  have E1 := er1.same sE
  have eE : (upd H2' Ea (.lst [.ref a1])) Ea = some (.lst [.ref a1]) := upd_same
  obtain ⟨ed, elg, ecl⟩ := draw_new Sn.dr nEa
  generalize upd H2' Ea (.lst [.ref a1]) = H3 at S3 E1 eE
  clear S S1 hos er1 s1 t1 s2 s2' sE
  -- empty(field, size, size)
  refine ⟨_, rfl, .inl ⟨rfl, _, SqL.of eE⟩, S3.tb, fun H4 s4 t4 => ?_⟩
  have S4 := S3.ext s4 t4
  obtain ⟨os, hos, zos⟩ := big_nu (K := K) S4.sz
  refine ttc_bad (R := Same H4) Y.badN ⟨_, rfl, _, rfl, _, rfl, _, _, _, _, _, _, rfl, .int p, .inr ⟨p, rfl, hpr, hos, hos, .inl ⟨zos, rz_bad (Same.refl _)⟩⟩⟩ fun a2 H5 s5 H5' _ s5' er2 => ?_
  have s55 := s5.trans s5'
  have eE5 := s55 _ _ (lst_ext s4 eE)
  refine ⟨Ea, _, _, rfl, rfl, eE5, small1000 (by show 1 ≤ 1000; decide), ?_⟩
  have S6 := Sn.put (o := .lst ([.ref a1] ++ [.ref a2])) nEa eE5 (S4.same s55)
  have E16 := (E1.ext s4 |>.same s55).put (o := .lst ([.ref a1] ++ [.ref a2])) eE5
  have E26 := er2.put (o := .lst ([.ref a1] ++ [.ref a2])) eE5
  have e6 : (upd H5' Ea (.lst ([.ref a1] ++ [.ref a2]))) Ea = some (.lst [.ref a1, .ref a2]) := upd_same
  generalize upd H5' Ea (.lst ([.ref a1] ++ [.ref a2])) = H6 at S6 E16 E26 e6
  clear S3 E1 eE S4 hos er2 s4 t4 s5 s5' s55 eE5
  -- empty(field, 1, size)
  refine ⟨_, rfl, .inl ⟨rfl, _, SqL.of e6⟩, S6.tb, fun H7 s7 t7 => ?_⟩
  have S7 := S6.ext s7 t7
  obtain ⟨os, hos, zos⟩ := big_nu (K := K) S7.sz
  refine ttc_bad (R := Same H7) Y.badN ⟨_, rfl, _, rfl, _, _, _, _, _, _, rfl, .int p, .inr ⟨p, rfl, hpr, .int 1, hos, .inr ⟨1, szO_nat (t := 1) (by decide), .inl ⟨zos, rz_bad (Same.refl _)⟩⟩⟩⟩ fun a3 H8 s8 H8' _ s8' er3 => ?_
  have s88 := s8.trans s8'
  have eE8 := s88 _ _ (lst_ext s7 e6)
  refine ⟨Ea, _, _, rfl, rfl, eE8, small1000 (by show 2 ≤ 1000; decide), ?_⟩
  have S9 := Sn.put (o := .lst ([.ref a1, .ref a2] ++ [.ref a3])) nEa eE8 (S7.same s88)
  have E19 := (E16.ext s7 |>.same s88).put (o := .lst ([.ref a1, .ref a2] ++ [.ref a3])) eE8
  have E29 := (E26.ext s7 |>.same s88).put (o := .lst ([.ref a1, .ref a2] ++ [.ref a3])) eE8
  have E39 := er3.put (o := .lst ([.ref a1, .ref a2] ++ [.ref a3])) eE8
  have e9 : (upd H8' Ea (.lst ([.ref a1, .ref a2] ++ [.ref a3]))) Ea = some (.lst [.ref a1, .ref a2, .ref a3]) := upd_same
  generalize upd H8' Ea (.lst ([.ref a1, .ref a2] ++ [.ref a3])) = H9 at S9 E19 E29 E39 e9
  clear S6 E16 E26 e6 S7 hos er3 s7 t7 s8 s8' s88 eE8
  -- scaled(Table(field, 0, 0, []), ..)
  refine ⟨_, rfl, .inl ⟨rfl, _, SqL.of e9⟩, S9.tb, fun H10 s10 t10 => ?_⟩
  have S10 := S9.ext s10 t10
  have e10 := lst_ext s10 e9
  have E1x := E19.ext s10
  have E2x := E29.ext s10
  have E3x := E39.ext s10
  refine ttc_bad (m := "number") (R := fun H' => DrawAt H' d lg cl ∧ Kept d lg H10 H') Y.badN ⟨_, rfl, by show 0 ≤ sizeLine; decide, fun z nz y dy ny ndy ne => ?_⟩ fun a4 H12 r12 H12' na4 s12 er4 => ?_
  · refine mkt_l (t := 0) (w := 0) (zs := []) ny ndy ne hpr (by decide) (by decide) (.inl (SqL.of upd_same)) (fun z m => by simp at m) rfl (fun l m => by simp [rn] at m) fun H11 T11 s11 => ⟨rfl, ?_⟩
    have s111 := (same_upd (o := .lst []) nz).trans s11
    have D11 := draw_same s111 S10.dr
    refine ⟨_, rfl, by show 3 ≤ sizeLine; decide, fun q nq => ?_⟩
    have sq : Same H11 (upd H11 q (.lst [.non, .bl true, .str "1"])) := same_upd nq
    refine ⟨d, lg, cl, q, [.non, .bl true, .str "1"], rfl, draw_same sq D11, upd_same, (draw_new D11 nq).2.1, by show 0 < 3; decide, by show 3 < 1000; decide, fun i x H12 hx D12 k12 => ?_⟩
    have T12 := (T11.same sq).kn (draw_same sq D11) k12.n
    have kk : Kept d lg H10 H12 := fun b o e h1 h2 => k12 b o (sq _ _ (s111 _ _ e)) h1 h2
    have hx' : NuJ K H12 x none := by
      match i, hx with
      | 0, hx => cases hx; exact nu_non
      | 1, hx => cases hx; exact .bl true
      | 2, hx => cases hx; exact nu_str _
      | n + 3, hx => simp at hx
    refine ⟨_, _, rfl, .inr ⟨y, p, 0, 0, _, rfl, T12, good_mod hpr (by decide) (by decide) rfl (fun l m => by simp [rn] at m), .inl ⟨hx', fun dd H' nd' s' e' => ⟨rfl, dd, rfl, e', draw_same s' D12, fun b o e h1 h2 => s' _ _ (kk b o e h1 h2)⟩⟩⟩⟩
  · obtain ⟨D12, k12⟩ := r12
    have k12' : Kept d lg H10 H12' := fun b o e h1 h2 => s12 _ _ (k12 b o e h1 h2)
    have e12 := k12' _ _ e10 ed elg
    have D12' := draw_same s12 D12
    have t12 := Tabs.kept S10.dr k12' S10.tb
    have E1y := E1x.kept S10.dr k12'
    have E2y := E2x.kept S10.dr k12'
    have E3y := E3x.kept S10.dr k12'
    refine ⟨Ea, _, _, rfl, rfl, e12, small1000 (by show 3 ≤ 1000; decide), ?_⟩
    have E1z := E1y.put (o := .lst ([.ref a1, .ref a2, .ref a3] ++ [.ref a4])) e12
    have E2z := E2y.put (o := .lst ([.ref a1, .ref a2, .ref a3] ++ [.ref a4])) e12
    have E3z := E3y.put (o := .lst ([.ref a1, .ref a2, .ref a3] ++ [.ref a4])) e12
    have E4z := er4.put (o := .lst ([.ref a1, .ref a2, .ref a3] ++ [.ref a4])) e12
    have D13 : DrawAt (upd H12' Ea (.lst ([.ref a1, .ref a2, .ref a3] ++ [.ref a4]))) d lg cl := draw_put ed elg ecl D12'
    have t13 : Tabs T (upd H12' Ea (.lst ([.ref a1, .ref a2, .ref a3] ++ [.ref a4]))) := Tabs.put e12 t12
    have k13 : KeptN d lg H0 (upd H12' Ea (.lst ([.ref a1, .ref a2, .ref a3] ++ [.ref a4]))) := KeptN.put Sn.kn nEa (S10.kn.trans k12'.n)
    have e13 : (upd H12' Ea (.lst ([.ref a1, .ref a2, .ref a3] ++ [.ref a4]))) Ea = some (.lst ([a1, a2, a3, a4].map V.ref)) := upd_same
    generalize upd H12' Ea (.lst ([.ref a1, .ref a2, .ref a3] ++ [.ref a4])) = H13 at E1z E2z E3z E4z D13 t13 k13 e13
    have E5 : ∀ (i : Nat) (a : Addr), [a1, a2, a3, a4][i]? = some a → ∃ m, errs4[i]? = some m ∧ ErA CN H13 a m := fun i a hi => by
      match i, hi with
      | 0, hi => cases hi; exact ⟨_, rfl, E1z⟩
      | 1, hi => cases hi; exact ⟨_, rfl, E2z⟩
      | 2, hi => cases hi; exact ⟨_, rfl, E3z⟩
      | 3, hi => cases hi; exact ⟨_, rfl, E4z⟩
      | n + 4, hi => simp at hi
    clear E1z E2z E3z E4z E1y E2y E3y t12 D12' e12 k12' k12 D12 er4 E1x E2x E3x e10 S10 E19 E29 E39 e9 S9
    -- all are BadNumber
    refine ⟨_, rfl, Ea, _, rfl, .inl (SqL.of e13), fun J hJ D2 nD2 => ?_⟩
    refine lc_seq hJ (fun i He => He D2 = some (.lst (List.replicate i (.bl true))) ∧ Same H13 He) ⟨upd_same, same_upd nD2⟩ (fun i He _ hh => .of hh.2) ?_ ?_
    · rintro i x He hi ⟨eD2, se⟩
      obtain ⟨a, ha, rfl⟩ := at4 hi
      obtain ⟨m, hm, er⟩ := E5 i a ha
      obtain ⟨d', e1, e2⟩ := er.same se
      have hil := (List.getElem?_eq_some_iff.mp ha).1
      rw [show [a1, a2, a3, a4].length = 4 from rfl] at hil
      refine ⟨rfl, ?_⟩
      dsimp only [tYes]
      refine iteT ?_
      refine ⟨_, rfl, a, CN, d', _, _, _, true, rfl, e1, e2, Y.badN.ex, fun u r => r, Y.badN.one, _, eD2, small_2000 (by rw [List.length_replicate]; omega), ?_, same_put se nD2⟩
      rw [upd_same, List.replicate_succ']
    rintro He ⟨eD2, se⟩
    refine ⟨by show 1 ≤ sizeLine; decide, fun q0 n0 => ⟨q0, 4, [.bl true], rfl, rfl, upd_same, by decide, by decide, by decide, fun q1 n1 => ?_⟩⟩
    have s01 : Same He (upd (upd He q0 (.lst [.bl true])) q1 (.lst (List.replicate (4 : Int).toNat [V.bl true]).flatten)) := (same_upd n0).trans (same_upd n1)
    have e1 : (upd (upd He q0 (.lst [.bl true])) q1 (.lst (List.replicate (4 : Int).toNat [V.bl true]).flatten)) q1 = some (.lst (List.replicate 4 (.bl true))) := upd_same
    generalize upd (upd He q0 (.lst [.bl true])) q1 (.lst (List.replicate (4 : Int).toNat [V.bl true]).flatten) = H14 at s01 e1
    refine ⟨.list (List.replicate 4 (.bool true)), .list (List.replicate 4 (.bool true)), .lst (SqL.of (s01 _ _ eD2)) (dp_bls 4), .lst (SqL.of e1) (dp_bls 4), rfl, rfl, _, rfl, iteFb (by decide) ?_⟩
    have s14 : Same H13 H14 := se.trans s01
    refine ⟨_, rfl, Ea, _, rfl, .inl (SqL.of (s14 _ _ e13)), fun J2 hJ2 D3 nD3 => ?_⟩
    refine lc_seq hJ2 (fun i He => He D3 = some (.lst ((errs4.take i).map V.str)) ∧ Same H14 He) ⟨upd_same, same_upd nD3⟩ (fun i He _ hh => .of hh.2) ?_ ?_
    · rintro i x Hf hi ⟨eD3, sf⟩
      obtain ⟨a, ha, rfl⟩ := at4 hi
      obtain ⟨m, hm, er⟩ := E5 i a ha
      obtain ⟨d', e1, e2⟩ := er.same (s14.trans sf)
      have hil := (List.getElem?_eq_some_iff.mp ha).1
      rw [show [a1, a2, a3, a4].length = 4 from rfl] at hil
      refine ⟨rfl, ?_⟩
      dsimp only [tYes]
      refine iteT ?_
      refine ⟨_, rfl, a, CN, d', _, .str m, rfl, Y.badN.get, e1, e2, rfl, _, eD3, small_2000 (by rw [List.length_map, List.length_take]; omega), ?_, same_put sf nD3⟩
      rw [upd_same, List.take_add_one, hm, List.map_append]
      rfl
    rintro Hf ⟨eD3, sf⟩
    refine ⟨by show 4 ≤ sizeLine; decide, fun q2 n2 => ?_⟩
    have s2 : Same Hf (upd Hf q2 (.lst [.str "size", .str "tall", .str "wide", .str "number"])) := same_upd n2
    have e2 : (upd Hf q2 (.lst [.str "size", .str "tall", .str "wide", .str "number"])) q2 = some (.lst (errs4.map V.str)) := upd_same
    generalize upd Hf q2 (.lst [.str "size", .str "tall", .str "wide", .str "number"]) = H15 at s2 e2
    refine ⟨.list (errs4.map PyData.str), .list (errs4.map PyData.str), .lst (SqL.of (s2 _ _ eD3)) (dp_strs errs4), .lst (SqL.of e2) (dp_strs errs4), shp_errs, shp_errs, ?_⟩
    have s15 : Same H13 H15 := (s14.trans sf).trans s2
    rw [show PyData.eqv (.list (errs4.map PyData.str)) (.list (errs4.map PyData.str)) = true by decide]
    exact k H15 (draw_same s15 D13) (k13.trans (KeptN.same s15)) (t13.ext s15)
end
end K01


set_option Elab.async false
set_option maxRecDepth 100000
set_option maxHeartbeats 4000000
set_option linter.all false
namespace K01
open PySem PySem.Spec PyProof.Rows L2 LamX GL
theorem ttc_pr {K : PySem.W.Frag} {CP CW : Addr} {tl : XK → Hp → VK → Prop} {H : Hp} {Q : VK} (N : BadN K CP CW) (h : tl (fun cls dd H' => cls = .ref CP ∧ dd = none ∧ Same H H') H (fun _ _ => False))
    (k : ∀ a H', Same H H' → H' a = some (ExR (.ref CP) none a) → Q (.ref a) H') : TTc K CW tl H Q :=
  ⟨_, _, h, fun cls dd H' q => by
    obtain ⟨rfl, rfl, r⟩ := q
    exact ⟨N.exm, fun a na => k a _ (r.trans (same_upd na)) upd_same⟩, fun v H' q => q.elim⟩
theorem NuL.ext {K : PySem.W.Frag} {H H' : Hp} (s : ExtN H H') : ∀ {xs : List L2.V} {os : List (Option Int)}, NuL K H xs os → NuL K H' xs os
  | _, _, .nil => .nil
  | _, _, .cons h r => .cons (h.ext s) (NuL.ext s r)
theorem RowJ.ext {K : PySem.W.Frag} {H H' : Hp} (s : ExtN H H') {w : Nat} {x : L2.V} {o : Option (List Int)} : RowJ K H w x o → RowJ K H' w x o
  | .no h z => .no (TyX.ext s h) z
  | .len h z => .len (sqa_ext s h) z
  | .row h l n => .row (sqa_ext s h) l (n.ext s)
theorem RowL.ext {K : PySem.W.Frag} {H H' : Hp} (s : ExtN H H') {w : Nat} : ∀ {xs : List L2.V} {os : List (Option (List Int))}, RowL K H w xs os → RowL K H' w xs os
  | _, _, .nil => .nil
  | _, _, .cons h r => .cons (h.ext s) (RowL.ext s r)
theorem LnJ.ext {K : PySem.W.Frag} {H H' : Hp} (s : ExtN H H') {t w : Nat} {x : L2.V} {o : Option (List (List Int))} : LnJ K H t w x o → LnJ K H' t w x o
  | .no h z => .no (TyX.ext s h) z
  | .len h z => .len (sqa_ext s h) z
  | .lns h l n => .lns (sqa_ext s h) l (n.ext s)
/-- a lambda that was kept and is refused where it is called -/
def RefL (X : Cx) (CB : Addr) (p : Int) (size : L2.V) (H : Hp) (f : Addr) : Prop := ∃ (L : LamD) (t : XK → TE), H L.c = some (CodeO L.c (X.env.qual ++ "<lambda>")) ∧ H f = some (LamO f L) ∧ LamS X.env.scope L.scope ∧ L.q = X.env.qual ++ "<lambda>" ∧ L.cl = cloFrom X.env.cells L.scope.names [] ∧
  (∀ pm ctv : Value, bindArgs (PySem.W.kla_fn "<lambda>" (X.env.qual ++ "<lambda>") L.params L.body L.scope (cloFrom X.env.cells L.scope.names []) pm (.ref L.c) ctv) ⟨[], []⟩ = pure []) ∧
  (∀ (A : Around) (outer : List Env) (s : Shared) (H : Hp) (E : XK), Room 6 (A.deeper (lamEnv X L.scope s.heap.objs.size f L.c)) → PE (lamCx X A outer s H E L.scope f L.c) L.body (t E)) ∧
  ∀ (σ : L2.St) (H1 : Hp), σ[1]? = some (some (.int p)) → σ[6]? = some (some size) → BigJ H1 size → t (fun cls dd H' => cls = .ref CB ∧ dd = none ∧ Same H1 H') σ H1 (fun _ _ => False)
theorem RefL.to {X : Cx} {CB : Addr} {p : Int} {size : L2.V} {H H' : Hp} {f : Addr} (s : ∀ b o, H b = some o → (∀ xs, o ≠ .lst xs) → (∀ ps, o ≠ .tbl ps) → H' b = some o) (h : RefL X CB p size H f) : RefL X CB p size H' f := by
  obtain ⟨L, t, e1, e2, r⟩ := h
  exact ⟨L, t, s _ _ e1 (fun _ z => by unfold CodeO at z; cases z) codeO_ne, s _ _ e2 (fun _ z => by unfold LamO at z; cases z) lamO_ne, r⟩
theorem RefL.ext {X : Cx} {CB : Addr} {p : Int} {size : L2.V} {H H' : Hp} {f : Addr} (s : ExtN H H') (h : RefL X CB p size H f) : RefL X CB p size H' f := h.to fun b o e _ n => s b o e n
theorem RefL.put {X : Cx} {CB : Addr} {p : Int} {size : L2.V} {H : Hp} {f q : Addr} {xs : List L2.V} {o : HO} (e : H q = some (.lst xs)) (h : RefL X CB p size H f) : RefL X CB p size (upd H q o) f := h.to fun b u eb n _ => by
  rw [upd_ne (fun z => by rw [z, e] at eb; exact n _ (Option.some.inj eb).symm)]
  exact eb
/-- a list of them -/
def RefLs (X : Cx) (CB : Addr) (p : Int) (size : L2.V) (H : Hp) (B : Addr) : Prop := ∃ fs : List Addr, H B = some (.lst (fs.map V.ref)) ∧ ∀ f ∈ fs, RefL X CB p size H f
theorem RefLs.ext {X : Cx} {CB : Addr} {p : Int} {size : L2.V} {H H' : Hp} {B : Addr} (s : ExtN H H') (h : RefLs X CB p size H B) : RefLs X CB p size H' B := by
  obtain ⟨fs, e, r⟩ := h
  exact ⟨fs, lst_ext s e, fun f m => (r f m).ext s⟩
section
variable {P : Program} {w : World} {K : PySem.W.Frag} {mg : Str → Option Value} {base : Heap} {CT CP CB CN CW : Addr}
/-- from plain(odd, 1) on -/
theorem p52_d {f c Pt : Addr} {A : Around} {outer : List Env} {s : Shared} {Hs : Hp} {E : XK} {T : List (Addr × Str)} (Y : Al P w K mg base CT CP CB CN CW) (C : Tc base mg T "_law_refused" c Pt) (hr : Room 9 (A.deeper (envOfC "_law_refused" (defScope sRf) s.heap.objs.size f (.ref c)))) :
    ∃ t, PSs (X52 P w K mg base f c A outer s Hs E) ((defBody sRf).drop 10) t ∧ ∀ (D : Ends) (H0 H : Hp) (d lg cl : Addr) (p : Int) (odd size : L2.V) (v2 v3 v4 v7 : Option V),
      D52 d lg cl T p odd size H0 H →
      (∀ H', DrawAt H' d lg cl → KeptN d lg H0 H' → Tabs T H' → D.rt (.bl true) H') →
      t D [some (.ref d), some (.int p), v2, v3, v4, some odd, some size, v7, none] H := by
  have nd := scRf.nd
  have r8 : Room 8 _ := hr.mono (by decide)
  obtain ⟨te, pe, re⟩ := p52_e (f := f) (c := c) (outer := outer) (Hs := Hs) (E := E) Y C hr
  refine ⟨_, pss_cons (ps_if (pt_not (pt_val (pe_callB (cr_either call_isi call_isR0) (by rfl) Y.N.mIs (by decide +kernel) (pa_cons (pe_lamV (k := 6) (by rfl) Y.N.gC Y.N.kC Y.N.caught C.TB rfl C.mem C.uq r8 (lamS_by (sc := defScope sRf) (by decide +kernel)) rfl (fun _ _ _ _ _ => rfl)
            (fun A' o' s' H' E' f' c' hr2 => pe_call Y.pn.ok hr2 (by rfl) Y.pn.g Y.pn.kp Y.pn.b .nil (passes_call (takes_of rfl rfl rfl rfl) fun _ _ _ _ h => h) (pa_cons (pv 5) (pa_cons pe_int pa_nil)))) (pa_cons (pe_glob (v := .ref CP) (by rfl) Y.N.gCP rfl) pa_nil))))) (pss_one (ps_ret pe_bl)) pss_nil)
      (pss_cons (ps_if (pt_not (pt_val (pe_callB (cr_either call_isi call_isR0) (by rfl) Y.N.mIs (by decide +kernel) (pa_cons (pe_lamV (k := 6) (by rfl) Y.N.gC Y.N.kC Y.N.caught C.TB rfl C.mem C.uq r8 (lamS_by (sc := defScope sRf) (by decide +kernel)) rfl (fun _ _ _ _ _ => rfl)
            (fun A' o' s' H' E' f' c' hr2 => pe_call Y.em.ok hr2 (by rfl) Y.em.g Y.em.kp Y.em.b .nil (passes_call (takes_of rfl rfl rfl rfl) fun _ _ _ _ h => h) (pa_cons (pv 5) (pa_cons pe_int (pa_cons pe_int pa_nil))))) (pa_cons (pe_glob (v := .ref CP) (by rfl) Y.N.gCP rfl) pa_nil))))) (pss_one (ps_ret pe_bl)) pss_nil)
      pe), ?_⟩
  intro D H0 H d lg cl p odd size v2 v3 v4 v7 S k
  refine ⟨S.tb, fun H1 s1 t1 => ?_⟩
  have S1 := S.ext s1 t1
  obtain ⟨oo, hoo, zoo⟩ := odd_nu (K := K) S1.od
  refine ttc_pr Y.N.badP ⟨_, rfl, _, _, _, none, rfl, hoo, .inl ⟨zoo, rp_bad (Same.refl _)⟩⟩ fun a H2 s2 e2 => ?_
  refine .inr ⟨a, CP, _, _, true, rfl, e2, Y.N.badP.ex, fun u r => r, Y.N.badP.one, _, rfl, ?_⟩
  refine iteF ?_
  have S2 := S1.same s2
  refine ⟨S2.tb, fun H3 s3 t3 => ?_⟩
  have S3 := S2.ext s3 t3
  obtain ⟨oo, hoo, zoo⟩ := odd_nu (K := K) S3.od
  refine ttc_pr Y.N.badP ⟨_, rfl, _, _, _, _, none, none, rfl, hoo, .inl ⟨zoo, rp_bad (Same.refl _)⟩⟩ fun a H4 s4 e4 => ?_
  refine .inr ⟨a, CP, _, _, true, rfl, e4, Y.N.badP.ex, fun u r => r, Y.N.badP.one, _, rfl, ?_⟩
  refine iteF ?_
  exact re D H0 H4 d lg cl p odd size _ _ _ _ (S3.same s4) k
/-- the loop over what was kept -/
theorem p52_c {f c Pt : Addr} {A : Around} {outer : List Env} {s : Shared} {Hs : Hp} {E : XK} {T : List (Addr × Str)} (Y : Al P w K mg base CT CP CB CN CW) (C : Tc base mg T "_law_refused" c Pt) (hr : Room 9 (A.deeper (envOfC "_law_refused" (defScope sRf) s.heap.objs.size f (.ref c)))) :
    ∃ t, PSs (X52 P w K mg base f c A outer s Hs E) ((defBody sRf).drop 9) t ∧ ∀ (D : Ends) (H0 H : Hp) (d lg cl : Addr) (p : Int) (odd size : L2.V) (B : Addr) (v3 v4 v7 : Option V),
      D52 d lg cl T p odd size H0 H → RefLs (X52 P w K mg base f c A outer s Hs E) CB p size H B →
      (∀ H', DrawAt H' d lg cl → KeptN d lg H0 H' → Tabs T H' → D.rt (.bl true) H') →
      t D [some (.ref d), some (.int p), some (.ref B), v3, v4, some odd, some size, v7, none] H := by
  have nd := scRf.nd
  obtain ⟨te, pe, re⟩ := p52_d (f := f) (c := c) (outer := outer) (Hs := Hs) (E := E) Y C hr
  refine ⟨_, pss_cons (ps_for PassesOwn.never rfl (pi_seq (pv 2)) (pg_name (i := 3) nd rfl (by first | exact Or.inl rfl | exact Or.inr rfl))
      (pss_one (ps_if (pt_not (pt_val (pe_useW (k := 6) (i := 3) (by rfl) Y.N.gB Y.N.kB Y.N.isbW hr rfl (.inl rfl)))) (pss_one (ps_ret pe_bl)) pss_nil))) pe, ?_⟩
  intro D H0 H d lg cl p odd size B v3 v4 v7 S ⟨fs, eB, hfs⟩ k
  refine ⟨_, rfl, B, _, rfl, .inl (SqL.of eB), fun J hJ => ?_⟩
  refine for_seq hJ (fun i σ Hx => ∃ v3 : Option V, σ = [some (.ref d), some (.int p), some (.ref B), v3, v4, some odd, some size, v7, none] ∧ D52 d lg cl T p odd size H0 Hx ∧ Same H Hx) ⟨_, rfl, S, Same.refl _⟩ (fun i σ Hx _ hh => by obtain ⟨_, _, _, s⟩ := hh; exact .of s) ?_ ?_
  · rintro i x σ Hx hi ⟨v3, rfl, Sx, sx⟩
    obtain ⟨g, hg, rfl⟩ := at4 hi
    obtain ⟨L, t, e1, e2, l1, l2, l3, l4, l5, l6⟩ := hfs g (List.mem_of_getElem? hg)
    refine ⟨g, L, t, rfl, sx _ _ e1, sx _ _ e2, l1, l2, l3, l4, l5, ?_⟩
    refine ttb_bad (l6 _ _ rfl rfl Sx.sz) fun H2 s2 => ?_
    refine ⟨_, rfl, ?_⟩
    refine iteF ?_
    exact ⟨_, rfl, Sx.same s2, sx.trans s2⟩
  · rintro σ Hx ⟨v3, rfl, Sx, sx⟩
    exact re D H0 Hx d lg cl p odd size _ _ _ _ Sx k
end
end K01


set_option Elab.async false
set_option maxRecDepth 100000
set_option maxHeartbeats 4000000
set_option linter.all false
namespace K01
open PySem PySem.Spec PyProof.Rows L2 LamX GL
theorem ka_int (K : PySem.W.Frag) : PySem.W.kitAny K (.type "int") [.type "list", .type "tuple"] = some false := by kernel_rfl
theorem ka_non (K : PySem.W.Frag) : PySem.W.kitAny K (.type "NoneType") [.type "list", .type "tuple"] = some false := by kernel_rfl
theorem ka_str (K : PySem.W.Frag) : PySem.W.kitAny K (.type "str") [.type "list", .type "tuple"] = some false := by kernel_rfl
abbrev NoLn (K : PySem.W.Frag) (H : Hp) (x : L2.V) : Prop := LnJ K H 1 1 x none
section
variable {P : Program} {w : World} {K : PySem.W.Frag} {mg : Str → Option Value} {base : Heap} {CT CP CB CN CW : Addr}
theorem nl_row {H : Hp} {a : Addr} {x : L2.V} (h : H a = some (.lst [x])) (r : RowJ K H 1 x none) : NoLn K H (.ref a) := LnJ.lns (os := [none]) (.inl (SqL.of h)) rfl (.cons r .nil)
/-- from the loop over wrong lines on -/
theorem p52_b {f c Pt : Addr} {A : Around} {outer : List Env} {s : Shared} {Hs : Hp} {E : XK} {T : List (Addr × Str)} (Y : Al P w K mg base CT CP CB CN CW) (C : Tc base mg T "_law_refused" c Pt) (hr : Room 9 (A.deeper (envOfC "_law_refused" (defScope sRf) s.heap.objs.size f (.ref c)))) :
    ∃ t, PSs (X52 P w K mg base f c A outer s Hs E) ((defBody sRf).drop 8) t ∧ ∀ (D : Ends) (H0 H : Hp) (d lg cl : Addr) (p : Int) (odd size : L2.V) (B : Addr) (v3 v4 v7 : Option V),
      D52 d lg cl T p odd size H0 H → RefLs (X52 P w K mg base f c A outer s Hs E) CB p size H B →
      (∀ H', DrawAt H' d lg cl → KeptN d lg H0 H' → Tabs T H' → D.rt (.bl true) H') →
      t D [some (.ref d), some (.int p), some (.ref B), v3, v4, some odd, some size, v7, none] H := by
  have nd := scRf.nd
  obtain ⟨te, pe, re⟩ := p52_c (f := f) (c := c) (outer := outer) (Hs := Hs) (E := E) Y C hr
  refine ⟨_, pss_cons (ps_for PassesOwn.never rfl (pi_list (pe_lst (pa_cons (pe_lst (pa_cons (pe_lst (pa_cons pe_bl pa_nil)) pa_nil)) (pa_cons (pe_lst (pa_cons pe_int pa_nil)) (pa_cons (pe_lst (pa_cons (pe_lst (pa_cons pe_int pa_nil)) (pa_cons (pe_lst (pa_cons pe_int pa_nil)) pa_nil)))
          (pa_cons (pe_lst (pa_cons (pe_lst (pa_cons pe_int (pa_cons pe_int pa_nil))) pa_nil)) (pa_cons pe_str (pa_cons pe_non (pa_cons (pe_lst (pa_cons (pe_lst (pa_cons pe_str pa_nil)) pa_nil)) pa_nil))))))))) (pg_name (i := 7) nd rfl (by first | exact Or.inl rfl | exact Or.inr rfl))
      (pss_one (ps_if (pt_not (pt_val (pe_lamV (k := 6) (by rfl) Y.N.gB Y.N.kB Y.N.isb C.TB rfl C.mem C.uq hr (lamS_by (sc := defScope sRf) (by decide +kernel)) rfl (fun _ _ _ _ _ => rfl)
            (fun A' o' s' H' E' f' c' hr2 => pe_make Y.G.m Y.G.ok (hr2.mono (by decide)) (by rfl) Y.G.T.t.g Y.G.b .nil (passes_call (takes_of rfl rfl rfl rfl) fun _ _ _ _ h => h) (pa_cons (pv 1) (pa_cons pe_int (pa_cons pe_int (pa_cons (pv 7) pa_nil)))))))) (pss_one (ps_ret pe_bl)) pss_nil))) pe, ?_⟩
  intro D H0 H d lg cl p odd size B v3 v4 v7 S hB k
  have hpr := S.pr
  refine ⟨by show 1 ≤ sizeLine; decide, fun a0 n0 => ?_⟩
  have z0 : Same H (upd H a0 (.lst [.bl true])) := same_upd n0
  have e0 : (upd H a0 (.lst [.bl true])) a0 = some (.lst [.bl true]) := upd_same
  generalize upd H a0 (.lst [.bl true]) = G0 at z0 e0
  refine ⟨by show 1 ≤ sizeLine; decide, fun a1 n1 => ?_⟩
  have z1 : Same G0 (upd G0 a1 (.lst [.ref a0])) := same_upd n1
  have b1 : NoLn K (upd G0 a1 (.lst [.ref a0])) (.ref a1) := nl_row upd_same (.row (os := [none]) (.inl (SqL.of (z1 _ _ e0))) rfl (.cons (.bl true) .nil))
  generalize upd G0 a1 (.lst [.ref a0]) = G1 at z1 b1
  refine ⟨by show 1 ≤ sizeLine; decide, fun a2 n2 => ?_⟩
  have z2 : Same G1 (upd G1 a2 (.lst [.int 0])) := same_upd n2
  have b2 : NoLn K (upd G1 a2 (.lst [.int 0])) (.ref a2) := nl_row upd_same (.no (.base (.int 0)) (ka_int K))
  generalize upd G1 a2 (.lst [.int 0]) = G2 at z2 b2
  refine ⟨by show 1 ≤ sizeLine; decide, fun a3 n3 => ⟨by show 1 ≤ sizeLine; decide, fun a4 n4 => ⟨by show 2 ≤ sizeLine; decide, fun a5 n5 => ?_⟩⟩⟩
  have z5 : Same G2 (upd (upd (upd G2 a3 (.lst [.int 0])) a4 (.lst [.int 0])) a5 (.lst [.ref a3, .ref a4])) := ((same_upd n3).trans (same_upd n4)).trans (same_upd n5)
  have b5 : NoLn K (upd (upd (upd G2 a3 (.lst [.int 0])) a4 (.lst [.int 0])) a5 (.lst [.ref a3, .ref a4])) (.ref a5) := .len (.inl (SqL.of upd_same)) (show 2 ≠ 1 by decide)
  generalize upd (upd (upd G2 a3 (.lst [.int 0])) a4 (.lst [.int 0])) a5 (.lst [.ref a3, .ref a4]) = G5 at z5 b5
  refine ⟨by show 2 ≤ sizeLine; decide, fun a6 n6 => ⟨by show 1 ≤ sizeLine; decide, fun a7 n7 => ?_⟩⟩
  have z7 : Same G5 (upd (upd G5 a6 (.lst [.int 0, .int 0])) a7 (.lst [.ref a6])) := (same_upd n6).trans (same_upd n7)
  have b7 : NoLn K (upd (upd G5 a6 (.lst [.int 0, .int 0])) a7 (.lst [.ref a6])) (.ref a7) := nl_row upd_same (.len (.inl (SqL.of (same_upd n7 _ _ upd_same))) (show 2 ≠ 1 by decide))
  generalize upd (upd G5 a6 (.lst [.int 0, .int 0])) a7 (.lst [.ref a6]) = G7 at z7 b7
  refine ⟨by show 1 ≤ sizeLine; decide, fun a8 n8 => ⟨by show 1 ≤ sizeLine; decide, fun a9 n9 => ?_⟩⟩
  have z9 : Same G7 (upd (upd G7 a8 (.lst [.str "0"])) a9 (.lst [.ref a8])) := (same_upd n8).trans (same_upd n9)
  have b9 : NoLn K (upd (upd G7 a8 (.lst [.str "0"])) a9 (.lst [.ref a8])) (.ref a9) := nl_row upd_same (.row (os := [none]) (.inl (SqL.of (same_upd n9 _ _ upd_same))) rfl (.cons (nu_str _) .nil))
  generalize upd (upd G7 a8 (.lst [.str "0"])) a9 (.lst [.ref a8]) = G9 at z9 b9
  refine ⟨by show 7 ≤ sizeLine; decide, fun q nq => ?_⟩
  have zq : Same G9 (upd G9 q (.lst [.ref a1, .ref a2, .ref a5, .ref a7, .str "0", .non, .ref a9])) := same_upd nq
  have eq : (upd G9 q (.lst [.ref a1, .ref a2, .ref a5, .ref a7, .str "0", .non, .ref a9])) q = some (.lst [.ref a1, .ref a2, .ref a5, .ref a7, .str "0", .non, .ref a9]) := upd_same
  generalize upd G9 q (.lst [.ref a1, .ref a2, .ref a5, .ref a7, .str "0", .non, .ref a9]) = GQ at zq eq
  have w7 : Same G7 GQ := z9.trans zq
  have w5 : Same G5 GQ := z7.trans w7
  have w2 : Same G2 GQ := z5.trans w5
  have w1 : Same G1 GQ := z2.trans w2
  have w0 : Same H GQ := (z0.trans z1).trans w1
  have SQ := S.same w0
  have BQ := hB.ext (ExtN.same w0)
  have bad : ∀ (i : Nat) (x : L2.V), ([.ref a1, .ref a2, .ref a5, .ref a7, .str "0", .non, .ref a9] : List L2.V)[i]? = some x → NoLn K GQ x := fun i x hi => by
    match i, hi with
    | 0, hi => cases hi; exact b1.same w1
    | 1, hi => cases hi; exact b2.same w2
    | 2, hi => cases hi; exact b5.same w5
    | 3, hi => cases hi; exact b7.same w7
    | 4, hi => cases hi; exact .no (.base (.str _)) (ka_str K)
    | 5, hi => cases hi; exact .no (.base .non) (ka_non K)
    | 6, hi => cases hi; exact b9.same zq
    | n + 7, hi => simp at hi
  clear z0 z1 z2 z5 z7 z9 zq w7 w5 w2 w1 w0 b1 b2 b5 b7 b9 e0 n0 n1 n2 n3 n4 n5 n6 n7 n8 n9 nq S hB
  refine ⟨q, rfl, ⟨_, SqL.of eq⟩, ?_⟩
  refine for_list (K := K) (a := q) (xs := [.ref a1, .ref a2, .ref a5, .ref a7, .str "0", .non, .ref a9]) (fun i σ Hx => ∃ v7 : Option V, σ = [some (.ref d), some (.int p), some (.ref B), v3, v4, some odd, some size, v7, none] ∧ D52 d lg cl T p odd size H0 Hx ∧ RefLs (X52 P w K mg base f c A outer s Hs E) CB p size Hx B ∧ Hx q = some (.lst [.ref a1, .ref a2, .ref a5, .ref a7, .str "0", .non, .ref a9]) ∧
      ∀ (i : Nat) (x : L2.V), ([.ref a1, .ref a2, .ref a5, .ref a7, .str "0", .non, .ref a9] : List L2.V)[i]? = some x → NoLn K Hx x) ⟨_, rfl, SQ, BQ, eq, bad⟩ (fun i σ Hx _ hh => by obtain ⟨_, _, _, _, e, _⟩ := hh; exact SqL.of e) ?_ ?_
  · rintro i x σ Hx hi ⟨v7, rfl, Sx, Bx, ex, bx⟩
    have hx := bx i x hi
    refine ⟨Sx.tb, fun Ha sa ta => ?_⟩
    have Sa := Sx.ext sa ta
    refine ttb_bad ⟨_, rfl, _, rfl, fun y dy ny ndy ne => ?_⟩ fun Hb sb => ?_
    · exact mkt_sp ny ndy ne (.int p) (.inr ⟨p, rfl, hpr, .int 1, .int 1, .inr ⟨1, 1, none, szO_nat (t := 1) (by decide), szO_nat (t := 1) (by decide), hx.ext sa, .inl ⟨rfl, rp_bad (Same.refl _)⟩⟩⟩)
    refine ⟨_, rfl, ?_⟩
    refine iteF ?_
    have sab : ExtN Hx Hb := sa.trans (ExtN.same sb)
    exact ⟨_, rfl, Sa.same sb, Bx.ext sab, lst_ext sab ex, fun j y hj => (bx j y hj).ext sab⟩
  · rintro σ Hx ⟨v7, rfl, Sx, Bx, ex, bx⟩
    exact re D H0 Hx d lg cl p odd size B _ _ _ Sx Bx k
end
end K01


set_option Elab.async false
set_option maxRecDepth 100000
set_option maxHeartbeats 4000000
set_option linter.all false
namespace K01
open PySem PySem.Spec PyProof.Rows L2 LamX GL
theorem refl_mk {X : Cx} {CB : Addr} {p : Int} {size : L2.V} {H : Hp} {f : Addr} {L : LamD} {t : XK → TE} (e2 : H f = some (LamO f L)) (e1 : H L.c = some (CodeO L.c (X.env.qual ++ "<lambda>"))) (S : LamS X.env.scope L.scope) (hq : L.q = X.env.qual ++ "<lambda>") (hcl : L.cl = cloFrom X.env.cells L.scope.names [])
    (hb : ∀ pm ctv : Value, bindArgs (PySem.W.kla_fn "<lambda>" (X.env.qual ++ "<lambda>") L.params L.body L.scope (cloFrom X.env.cells L.scope.names []) pm (.ref L.c) ctv) ⟨[], []⟩ = pure [])
    (hbody : ∀ (A : Around) (outer : List Env) (s : Shared) (H : Hp) (E : XK), Room 6 (A.deeper (lamEnv X L.scope s.heap.objs.size f L.c)) → PE (lamCx X A outer s H E L.scope f L.c) L.body (t E))
    (sem : ∀ (σ : L2.St) (H1 : Hp), σ[1]? = some (some (.int p)) → σ[6]? = some (some size) → BigJ H1 size → t (fun cls dd H' => cls = .ref CB ∧ dd = none ∧ Same H1 H') σ H1 (fun _ _ => False)) : RefL X CB p size H f := ⟨L, t, e1, e2, S, hq, hcl, hb, hbody, sem⟩
theorem RefLs.add {X : Cx} {CB : Addr} {p : Int} {size : L2.V} {H H' : Hp} {B g : Addr} (s : ExtN H H') (h : RefLs X CB p size H B) (r : RefL X CB p size H' g) : ∃ fs : List Addr, H' B = some (.lst (fs.map V.ref)) ∧ RefLs X CB p size (upd H' B (.lst (fs.map V.ref ++ [.ref g]))) B := by
  obtain ⟨fs, e, q⟩ := h
  have e' := lst_ext s e
  refine ⟨fs, e', fs ++ [g], by rw [upd_same, List.map_append]; rfl, fun x m => ?_⟩
  rcases List.mem_append.mp m with m | m
  · exact ((q x m).ext s).put e'
  · rw [List.mem_singleton] at m
    subst m
    exact r.put e'
section
variable {P : Program} {w : World} {K : PySem.W.Frag} {mg : Str → Option Value} {base : Heap} {CT CP CB CN CW : Addr}
/-- from bad on -/
theorem p52_a {f c Pt : Addr} {A : Around} {outer : List Env} {s : Shared} {Hs : Hp} {E : XK} {T : List (Addr × Str)} (Y : Al P w K mg base CT CP CB CN CW) (noL : PySem.W.kitOne K (.type "list") (.ref CT) = some false) (C : Tc base mg T "_law_refused" c Pt) (hr : Room 9 (A.deeper (envOfC "_law_refused" (defScope sRf) s.heap.objs.size f (.ref c)))) :
    ∃ t, PSs (X52 P w K mg base f c A outer s Hs E) ((defBody sRf).drop 3) t ∧ ∀ (D : Ends) (H0 H : Hp) (d lg cl : Addr) (p : Int) (odd size : L2.V) (v2 v3 v4 v7 : Option V),
      D52 d lg cl T p odd size H0 H →
      (∀ H', DrawAt H' d lg cl → KeptN d lg H0 H' → Tabs T H' → D.rt (.bl true) H') →
      t D [some (.ref d), some (.int p), v2, v3, v4, some odd, some size, v7, none] H := by
  have nd := scRf.nd
  obtain ⟨te, pe, re⟩ := p52_b (f := f) (c := c) (outer := outer) (Hs := Hs) (E := E) Y C hr
  refine ⟨_, pss_cons (ps_set (i := 2) nd rfl (by first | exact Or.inl rfl | exact Or.inr rfl) (pe_lst (pa_cons (pe_lamKeep C.TB rfl C.mem C.uq (lamS_by (sc := defScope sRf) (by decide +kernel)) rfl) pa_nil)))
      (pss_cons (ps_expr (pe_bm PySem.F.plainAttrs_list PySem.F.slot_list_append PySem.F.type_list_append mt_append (pv 2) (pa_cons (pe_lamKeep C.TB rfl C.mem C.uq (lamS_by (sc := defScope sRf) (by decide +kernel)) rfl) pa_nil)))
      (pss_cons (ps_expr (pe_bm PySem.F.plainAttrs_list PySem.F.slot_list_append PySem.F.type_list_append mt_append (pv 2) (pa_cons (pe_lamKeep C.TB rfl C.mem C.uq (lamS_by (sc := defScope sRf) (by decide +kernel)) rfl) pa_nil)))
      (pss_cons (ps_expr (pe_bm PySem.F.plainAttrs_list PySem.F.slot_list_append PySem.F.type_list_append mt_append (pv 2) (pa_cons (pe_lamKeep C.TB rfl C.mem C.uq (lamS_by (sc := defScope sRf) (by decide +kernel)) rfl) pa_nil)))
      (pss_cons (ps_expr (pe_bm PySem.F.plainAttrs_list PySem.F.slot_list_append PySem.F.type_list_append mt_append (pv 2) (pa_cons (pe_lamKeep C.TB rfl C.mem C.uq (lamS_by (sc := defScope sRf) (by decide +kernel)) rfl) pa_nil)))
      pe)))), ?_⟩
  intro D H0 H d lg cl p odd size v2 v3 v4 v7 S k
  have hpr := S.pr
  have lS : ∀ {L : Scope}, LamS (defScope sRf) L → LamS (defScope sRf) L := fun h => h
  refine ⟨S.tb, fun g0 c0 H1 s1 t1 _ eg0 ec0 => ?_⟩
  have R0 : RefL (X52 P w K mg base f c A outer s Hs E) CB p size H1 g0 := refl_mk eg0 ec0 (lamS_by (sc := defScope sRf) (by kernel_rfl)) rfl rfl (fun _ _ => rfl)
    (fun A' o' s' H' E' hr2 => pe_make Y.G.m Y.G.ok (hr2.mono (by decide)) (by rfl) Y.G.T.t.g Y.G.b .nil (passes_call (takes_of rfl rfl rfl rfl) fun _ _ _ _ h => h) (pa_cons (pv 1) (pa_cons (pv 6) (pa_cons pe_int (pa_cons (pe_lst (pa_cons (pe_lst (pa_cons pe_int pa_nil)) pa_nil)) pa_nil)))))
    (fun σ G h1 h6 hb => by
      obtain ⟨os, hos, zos⟩ := big_nu (K := K) hb
      refine ⟨_, h1, _, h6, by show 1 ≤ sizeLine; decide, fun r0 n0 => ⟨by show 1 ≤ sizeLine; decide, fun r1 n1 => fun y dy ny ndy ne => ?_⟩⟩
      have sr : Same G (upd (upd G r0 (.lst [.int 0])) r1 (.lst [.ref r0])) := (same_upd n0).trans (same_upd n1)
      exact mkt_sp ny ndy ne (.int p) (.inr ⟨p, rfl, hpr, hos.same sr, .int 1, .inl ⟨.inl zos, rp_bad sr⟩⟩))
  have S1 := S.ext s1 t1
  refine ⟨by show 1 ≤ sizeLine; decide, fun B nB => ?_⟩
  have sB : Same H1 (upd H1 B (.lst [.ref g0])) := same_upd nB
  have Sn := S1
  have S2 := S1.same sB
  have L2' : RefLs (X52 P w K mg base f c A outer s Hs E) CB p size (upd H1 B (.lst [.ref g0])) B := ⟨[g0], upd_same, fun x m => by
    rw [List.mem_singleton] at m
    subst m
    exact R0.ext (ExtN.same sB)⟩
  have bl2 : ∃ xs, (upd H1 B (.lst [.ref g0])) B = some (.lst xs) ∧ xs.length ≤ 1 := ⟨_, upd_same, Nat.le_refl _⟩
  generalize upd H1 B (.lst [.ref g0]) = H2 at S2 L2' bl2
  clear sB R0 ec0 eg0 s1 t1 S1 S
  -- the second
  obtain ⟨x2, eB2, lB2⟩ := bl2
  refine ⟨_, rfl, .inl ⟨rfl, _, SqL.of eB2⟩, S2.tb, fun g1 c1 H3 s3 t3 _ eg1 ec1 => ?_⟩
  have R1 : RefL (X52 P w K mg base f c A outer s Hs E) CB p size H3 g1 := refl_mk eg1 ec1 (lamS_by (sc := defScope sRf) (by kernel_rfl)) rfl rfl (fun _ _ => rfl)
    (fun A' o' s' H' E' hr2 => pe_make Y.G.m Y.G.ok (hr2.mono (by decide)) (by rfl) Y.G.T.t.g Y.G.b .nil (passes_call (takes_of rfl rfl rfl rfl) fun _ _ _ _ h => h) (pa_cons (pv 1) (pa_cons pe_int (pa_cons (pv 6) (pa_cons (pe_lst (pa_cons (pe_lst (pa_cons pe_int pa_nil)) pa_nil)) pa_nil)))))
    (fun σ G h1 h6 hb => by
      obtain ⟨os, hos, zos⟩ := big_nu (K := K) hb
      refine ⟨_, h1, _, h6, by show 1 ≤ sizeLine; decide, fun r0 n0 => ⟨by show 1 ≤ sizeLine; decide, fun r1 n1 => fun y dy ny ndy ne => ?_⟩⟩
      have sr : Same G (upd (upd G r0 (.lst [.int 0])) r1 (.lst [.ref r0])) := (same_upd n0).trans (same_upd n1)
      exact mkt_sp ny ndy ne (.int p) (.inr ⟨p, rfl, hpr, .int 1, hos.same sr, .inl ⟨.inr zos, rp_bad sr⟩⟩))
  obtain ⟨fs, eB3, L3⟩ := L2'.add s3 R1
  have hfs : fs.length ≤ 1 := by
    have e := lst_ext s3 eB2
    rw [eB3] at e
    injection e with e
    injection e with e
    rw [← e, List.length_map] at lB2
    exact lB2
  refine ⟨B, _, _, rfl, rfl, eB3, small1000 (by rw [List.length_map]; omega), ?_⟩
  have S4 := Sn.put (o := .lst (fs.map V.ref ++ [.ref g1])) nB eB3 (S2.ext s3 t3)
  have bl4 : ∃ xs, (upd H3 B (.lst (fs.map V.ref ++ [.ref g1]))) B = some (.lst xs) ∧ xs.length ≤ 2 := ⟨_, upd_same, by rw [List.length_append, List.length_map]; show _ + 1 ≤ 2; omega⟩
  generalize upd H3 B (.lst (fs.map V.ref ++ [.ref g1])) = H4 at S4 L3 bl4
  clear S2 L2' R1 eg1 ec1 s3 t3 eB3 eB2 lB2 hfs
  -- the third
  obtain ⟨x4, eB4, lB4⟩ := bl4
  refine ⟨_, rfl, .inl ⟨rfl, _, SqL.of eB4⟩, S4.tb, fun g2 c2 H5 s5 t5 _ eg2 ec2 => ?_⟩
  have R2 : RefL (X52 P w K mg base f c A outer s Hs E) CB p size H5 g2 := refl_mk eg2 ec2 (lamS_by (sc := defScope sRf) (by kernel_rfl)) rfl rfl (fun _ _ => rfl)
    (fun A' o' s' H' E' hr2 => pe_call Y.ac.ok hr2 (by rfl) Y.ac.g Y.ac.kp Y.ac.b .nil (passes_call (takes_of rfl rfl rfl rfl) fun _ _ _ _ h => h) (pa_cons pe_non pa_nil))
    (fun σ G h1 h6 hb => ⟨_, rfl, .inl ⟨Y.noN G, rp_bad (Same.refl _)⟩⟩)
  obtain ⟨fs, eB5, L5⟩ := L3.add s5 R2
  have hfs : fs.length ≤ 2 := by
    have e := lst_ext s5 eB4
    rw [eB5] at e
    injection e with e
    injection e with e
    rw [← e, List.length_map] at lB4
    exact lB4
  refine ⟨B, _, _, rfl, rfl, eB5, small1000 (by rw [List.length_map]; omega), ?_⟩
  have S6 := Sn.put (o := .lst (fs.map V.ref ++ [.ref g2])) nB eB5 (S4.ext s5 t5)
  have bl6 : ∃ xs, (upd H5 B (.lst (fs.map V.ref ++ [.ref g2]))) B = some (.lst xs) ∧ xs.length ≤ 3 := ⟨_, upd_same, by rw [List.length_append, List.length_map]; show _ + 1 ≤ 3; omega⟩
  generalize upd H5 B (.lst (fs.map V.ref ++ [.ref g2])) = H6 at S6 L5 bl6
  clear S4 L3 R2 eg2 ec2 s5 t5 eB5 eB4 lB4 hfs
  -- the fourth
  obtain ⟨x6, eB6, lB6⟩ := bl6
  refine ⟨_, rfl, .inl ⟨rfl, _, SqL.of eB6⟩, S6.tb, fun g3 c3 H7 s7 t7 _ eg3 ec3 => ?_⟩
  have R3 : RefL (X52 P w K mg base f c A outer s Hs E) CB p size H7 g3 := refl_mk eg3 ec3 (lamS_by (sc := defScope sRf) (by kernel_rfl)) rfl rfl (fun _ _ => rfl)
    (fun A' o' s' H' E' hr2 => pe_call Y.sc.ok hr2 (by rfl) Y.sc.g Y.sc.kp Y.sc.b .nil (passes_call (takes_of rfl rfl rfl rfl) fun _ _ _ _ h => h) (pa_cons (pe_lst (pa_cons (pe_lst (pa_cons pe_int pa_nil)) pa_nil)) (pa_cons pe_int pa_nil)))
    (fun σ G h1 h6 hb => by
      refine ⟨by show 1 ≤ sizeLine; decide, fun r0 n0 => ⟨by show 1 ≤ sizeLine; decide, fun r1 n1 => ?_⟩⟩
      have sr : Same G (upd (upd G r0 (.lst [.int 0])) r1 (.lst [.ref r0])) := (same_upd n0).trans (same_upd n1)
      exact ⟨_, _, rfl, .inl ⟨⟨_, .base (.lst upd_same), noL⟩, rp_bad sr⟩⟩)
  obtain ⟨fs, eB7, L7⟩ := L5.add s7 R3
  have hfs : fs.length ≤ 3 := by
    have e := lst_ext s7 eB6
    rw [eB7] at e
    injection e with e
    injection e with e
    rw [← e, List.length_map] at lB6
    exact lB6
  refine ⟨B, _, _, rfl, rfl, eB7, small1000 (by rw [List.length_map]; omega), ?_⟩
  have S8 := Sn.put (o := .lst (fs.map V.ref ++ [.ref g3])) nB eB7 (S6.ext s7 t7)
  have bl8 : ∃ xs, (upd H7 B (.lst (fs.map V.ref ++ [.ref g3]))) B = some (.lst xs) ∧ xs.length ≤ 4 := ⟨_, upd_same, by rw [List.length_append, List.length_map]; show _ + 1 ≤ 4; omega⟩
  generalize upd H7 B (.lst (fs.map V.ref ++ [.ref g3])) = H8 at S8 L7 bl8
  clear S6 L5 R3 eg3 ec3 s7 t7 eB7 eB6 lB6 hfs
  -- the fifth
  obtain ⟨x8, eB8, lB8⟩ := bl8
  refine ⟨_, rfl, .inl ⟨rfl, _, SqL.of eB8⟩, S8.tb, fun g4 c4 H9 s9 t9 _ eg4 ec4 => ?_⟩
  have R4 : RefL (X52 P w K mg base f c A outer s Hs E) CB p size H9 g4 := refl_mk eg4 ec4 (lamS_by (sc := defScope sRf) (by kernel_rfl)) rfl rfl (fun _ _ => rfl)
    (fun A' o' s' H' E' hr2 => pe_call Y.ti.ok hr2 (by rfl) Y.ti.g Y.ti.kp Y.ti.b .nil (passes_call (takes_of rfl rfl rfl rfl) fun _ _ _ _ h => h) (pa_cons pe_non (pa_cons pe_non pa_nil)))
    (fun σ G h1 h6 hb => ⟨_, _, rfl, .inl ⟨Y.noN G, rp_bad (Same.refl _)⟩⟩)
  obtain ⟨fs, eB9, L9⟩ := L7.add s9 R4
  have hfs : fs.length ≤ 4 := by
    have e := lst_ext s9 eB8
    rw [eB9] at e
    injection e with e
    injection e with e
    rw [← e, List.length_map] at lB8
    exact lB8
  refine ⟨B, _, _, rfl, rfl, eB9, small1000 (by rw [List.length_map]; omega), ?_⟩
  have S10 := Sn.put (o := .lst (fs.map V.ref ++ [.ref g4])) nB eB9 (S8.ext s9 t9)
  exact re D H0 _ d lg cl p odd size B _ _ _ S10 L9 k
theorem WrJ.kept {ok : Int → Prop} {H H' : Hp} {d lg cl : Addr} {x : L2.V} (D : DrawAt H d lg cl) (k : Kept d lg H H') (h : WrJ ok H x) : WrJ ok H' x := h.to fun a xs e => by
  obtain ⟨⟨r, t', hd⟩, ⟨L, hL, hl⟩, _, _⟩ := D
  exact k _ _ e (fun z => by rw [z, hd] at e; cases e) (fun z => by rw [z, hl] at e; cases e)
theorem ok_refused {f c Pt : Addr} {fd : FuncData} {T : List (Addr × Str)} (F : FunC K "_law_refused" "_law_refused" sRf f fd c) (Y : Al P w K mg base CT CP CB CN CW) (noL : PySem.W.kitOne K (.type "list") (.ref CT) = some false) (C : Tc base mg T "_law_refused" c Pt) : FnOk P w K mg base CX0 10 f fd ["draw", "field"] (spDf T) := by
  refine F.ok scRf (fun vs H Q E h => ?_) (fun A outer s H vs Q E hr h => ?_)
  · obtain ⟨d, lg, cl, p, rfl, _⟩ := h
    rfl
  · obtain ⟨d, lg, cl, p, rfl, DR, hpr, hT, k⟩ := h
    have nd := scRf.nd
    have r3 : Room 3 _ := hr.mono (by decide)
    have r8 : Room 8 _ := hr.mono (by decide)
    obtain ⟨te, pe, re⟩ := p52_a (f := f) (c := c) (outer := outer) (Hs := H) (E := E) Y noL C hr
    refine ⟨_, pss_cons (ps_set (i := 5) nd rfl (by first | exact Or.inl rfl | exact Or.inr rfl) (pe_call Y.N.pick r3 (by rfl) Y.N.gK Y.N.kK Y.N.bK .nil pass0 (pa_cons (pv 0) (pa_cons (pe_lst (pa_cons pe_non (pa_cons pe_bl (pa_cons pe_str (pa_cons (pe_tup (pa_cons pe_int pa_nil)) (pa_cons pe_int (pa_cons pe_int (pa_cons pe_int (pa_cons pe_int (pa_cons (pe_un un_neg pe_int) pa_nil)))))))))) pa_nil))))
      (pss_cons (ps_set (i := 6) nd rfl (by first | exact Or.inl rfl | exact Or.inr rfl) (pe_call Y.N.pick r3 (by rfl) Y.N.gK Y.N.kK Y.N.bK .nil pass0 (pa_cons (pv 0) (pa_cons (pe_lst (pa_cons pe_non (pa_cons pe_bl (pa_cons (pe_un un_neg pe_int) (pa_cons pe_int (pa_cons pe_str (pa_cons (pe_tup (pa_cons pe_int pa_nil)) pa_nil))))))) pa_nil))))
      (pss_cons (ps_if (pt_not (pt_val (pe_callB (cr_either call_isi call_isR0) (by rfl) Y.N.mIs (by decide +kernel) (pa_cons (pe_lamV (k := 6) (by rfl) Y.N.gC Y.N.kC Y.N.caught C.TB rfl C.mem C.uq r8 (lamS_by (sc := defScope sRf) (by decide +kernel)) rfl (fun _ _ _ _ _ => rfl)
            (fun A' o' s' H' E' f' c' hr2 => pe_make Y.G.m Y.G.ok (hr2.mono (by decide)) (by rfl) Y.G.T.t.g Y.G.b .nil (passes_call (takes_of rfl rfl rfl rfl) fun _ _ _ _ h => h) (pa_cons (pv 5) (pa_cons (pv 6) (pa_cons (pv 6) (pa_cons pe_non pa_nil)))))) (pa_cons (pe_glob (v := .ref CP) (by rfl) Y.N.gCP rfl) pa_nil))))) (pss_one (ps_ret pe_bl)) pss_nil)
      pe)), ?_⟩
    -- odd
    refine ⟨_, rfl, by show 1 ≤ sizeLine; decide, fun pT nT => ⟨_, rfl, by show 9 ≤ sizeLine; decide, fun q nq => ?_⟩⟩
    have sA : Same H (upd H pT (.tup [.int 2])) := same_upd nT
    have eA : (upd H pT (.tup [.int 2])) pT = some (.tup [.int 2]) := upd_same
    generalize upd H pT (.tup [.int 2]) = HA at sA eA nq
    have DA := draw_same sA DR
    obtain ⟨_, qlg, _⟩ := draw_new DA nq
    have sB : Same HA (upd HA q (.lst [.non, .bl true, .str "2", .ref pT, .int 1, .int 4, .int 0, .int 101, .int (-3)])) := same_upd nq
    have eB : (upd HA q (.lst [.non, .bl true, .str "2", .ref pT, .int 1, .int 4, .int 0, .int 101, .int (-3)])) q = some (.lst [.non, .bl true, .str "2", .ref pT, .int 1, .int 4, .int 0, .int 101, .int (-3)]) := upd_same
    generalize upd HA q (.lst [.non, .bl true, .str "2", .ref pT, .int 1, .int 4, .int 0, .int 101, .int (-3)]) = HB at sB eB
    have DB := draw_same sB DA
    have eT := sB _ _ eA
    refine ⟨d, lg, cl, q, _, rfl, DB, eB, qlg, by show 0 < 9; decide, by show 9 < 1000; decide, fun i odd H1 hi D1 k1 => ?_⟩
    have ho : OddJ HB odd := by
      match i, hi with
      | 0, hi => cases hi; exact .inl rfl
      | 1, hi => cases hi; exact .inr (.inl ⟨_, rfl⟩)
      | 2, hi => cases hi; exact .inr (.inr (.inl ⟨_, rfl⟩))
      | 3, hi => cases hi; exact .inr (.inr (.inr (.inr ⟨_, _, rfl, eT⟩)))
      | 4, hi => cases hi; exact .inr (.inr (.inr (.inl ⟨_, rfl, by decide⟩)))
      | 5, hi => cases hi; exact .inr (.inr (.inr (.inl ⟨_, rfl, by decide⟩)))
      | 6, hi => cases hi; exact .inr (.inr (.inr (.inl ⟨_, rfl, by decide⟩)))
      | 7, hi => cases hi; exact .inr (.inr (.inr (.inl ⟨_, rfl, by decide⟩)))
      | 8, hi => cases hi; exact .inr (.inr (.inr (.inl ⟨_, rfl, by decide⟩)))
      | n + 9, hi => simp at hi
    have ho1 := ho.kept DB k1
    have kn1 : KeptN d lg H H1 := (KeptN.same (sA.trans sB)).trans k1.n
    have t1 : Tabs T H1 := Tabs.kept DB k1 (hT.ext (sA.trans sB))
    clear hi ho k1 eT DB eB sB qlg DA eA sA nq nT
    -- size
    refine ⟨_, rfl, _, rfl, by show 1 ≤ sizeLine; decide, fun pT nT => ⟨by show 6 ≤ sizeLine; decide, fun q nq => ?_⟩⟩
    have sA : Same H1 (upd H1 pT (.tup [.int 1])) := same_upd nT
    have eA : (upd H1 pT (.tup [.int 1])) pT = some (.tup [.int 1]) := upd_same
    generalize upd H1 pT (.tup [.int 1]) = HA at sA eA nq
    have DA := draw_same sA D1
    obtain ⟨_, qlg, _⟩ := draw_new DA nq
    have sB : Same HA (upd HA q (.lst [.non, .bl true, .int (-1), .int 61, .str "1", .ref pT])) := same_upd nq
    have eB : (upd HA q (.lst [.non, .bl true, .int (-1), .int 61, .str "1", .ref pT])) q = some (.lst [.non, .bl true, .int (-1), .int 61, .str "1", .ref pT]) := upd_same
    generalize upd HA q (.lst [.non, .bl true, .int (-1), .int 61, .str "1", .ref pT]) = HB at sB eB
    have DB := draw_same sB DA
    have eT := sB _ _ eA
    refine ⟨d, lg, cl, q, _, rfl, DB, eB, qlg, by show 0 < 6; decide, by show 6 < 1000; decide, fun i size H2 hi D2 k2 => ?_⟩
    have hz : BigJ HB size := by
      match i, hi with
      | 0, hi => cases hi; exact .inl rfl
      | 1, hi => cases hi; exact .inr (.inl ⟨_, rfl⟩)
      | 2, hi => cases hi; exact .inr (.inr (.inr (.inl ⟨_, rfl, by decide⟩)))
      | 3, hi => cases hi; exact .inr (.inr (.inr (.inl ⟨_, rfl, by decide⟩)))
      | 4, hi => cases hi; exact .inr (.inr (.inl ⟨_, rfl⟩))
      | 5, hi => cases hi; exact .inr (.inr (.inr (.inr ⟨_, _, rfl, eT⟩)))
      | n + 6, hi => simp at hi
    have S : D52 d lg cl T p odd size H H2 := ⟨D2, Tabs.kept DB k2 (t1.ext (sA.trans sB)), kn1.trans ((KeptN.same (sA.trans sB)).trans k2.n), hpr, (ho1.ext (ExtN.same (sA.trans sB))).kept DB k2, hz.kept DB k2⟩
    clear hi hz k2 eT DB eB sB qlg DA eA sA nq nT ho1 kn1 t1
    refine ⟨S.tb, fun H3 s3 t3 => ?_⟩
    have S3 := S.ext s3 t3
    obtain ⟨oo, hoo, zoo⟩ := odd_nu (K := K) S3.od
    refine ttc_pr Y.N.badP ⟨_, rfl, _, rfl, _, rfl, fun y dy ny ndy ne => ?_⟩ fun a H4 s4 e4 => ?_
    · exact mkt_sp (ot := none) (ow := none) ny ndy ne hoo (.inl ⟨zoo, rp_bad (Same.refl _)⟩)
    refine .inr ⟨a, CP, _, _, true, rfl, e4, Y.N.badP.ex, fun u r => r, Y.N.badP.one, _, rfl, ?_⟩
    refine iteF ?_
    exact re _ H H4 d lg cl p odd size _ _ _ _ (S3.same s4) k
end
end K01


set_option Elab.async false
set_option maxRecDepth 100000
set_option maxHeartbeats 8000000
set_option linter.all false
namespace K01
open PySem PySem.Spec PyProof.Rows L2 LamX GL
abbrev sLaw : Stmt := top 53
abbrev N53 : List Str := ["script", "draw", "turn", "size", "wide", "field", "long_here"]
theorem scLaw : FnScope N53 ["script"] (defScope sLaw) := ⟨rfl, rfl, rfl, by decide +kernel, rfl, by decide +kernel, by decide +kernel⟩
abbrev X53 (P : Program) (w : World) (K : PySem.W.Frag) (mg : Str → Option Value) (base : Heap) (f c : Addr) (A : Around) (outer : List Env) (s : Shared) (H : Hp) (E : XK) : Cx := (cxOf L2.CX0 P w K mg base N53 "law" (defScope sLaw) f (.ref c) A outer s H E).nox
def loopBody : Stmt → List Stmt
  | .For _ _ b _ _ => b
  | _ => []
abbrev lawLoop : List Stmt := loopBody ((defBody sLaw).getD 1 (.Pass ⟨0, 0, 0, 0⟩))
def spLaw (K : PySem.W.Frag) (T : List (Addr × Str)) : Sp := fun vs H Q _ => ∃ (a : Addr) (ns : List Int), vs = [.ref a] ∧ SqL K H a (ns.map V.int) ∧ ns.length ≤ 63 ∧ Tabs T H ∧ ∀ H', Q (.bl true) H'
/-- the law's own defs that look at a part of it -/
structure Own (P : Program) (w : World) (K : PySem.W.Frag) (mg : Str → Option Value) (base : Heap) (T : List (Addr × Str)) where
  be : Fn0 P w K mg base 1 "_law_begun" ["script"] (spBegun K)
  pr : Fn0 P w K mg base 8 "_law_primes_right" ["draw"] (spDr T)
  un : Fn0 P w K mg base 6 "_law_unequal" ["field"] spUnequal
  po : FnG1 P w K mg base 10 "_law_products_right" ["draw", "field"] (spDf T)
  li : FnG1 P w K mg base 10 "_law_lists_right" ["draw", "field"] (spDf T)
  re : Fn0 P w K mg base 10 "_law_refused" ["draw", "field"] (spDf T)
def bigs : List Int := [11, 13, 17, 19, 23, 29, 31, 37, 41, 43, 47, 53, 59, 61, 67, 71, 73, 79, 83, 89]
theorem bigs_pr : ∀ p ∈ bigs, p ∈ primes := by decide
theorem smalls_pr : ∀ p ∈ ([2, 2, 2, 3, 3, 5, 7, 97] : List Int), p ∈ primes := by decide
theorem sizes_ok : ∀ p ∈ ([0, 1, 3, 60] : List Int), ∃ n : Nat, n ≤ 60 ∧ p = (n : Int) := fun p h => by
  simp only [List.mem_cons, List.not_mem_nil, or_false] at h
  exact ⟨p.toNat, by omega, by omega⟩
theorem wides_ok : ∀ p ∈ ([0, 1, 2, 60] : List Int), ∃ n : Nat, n ≤ 60 ∧ p = (n : Int) := fun p h => by
  simp only [List.mem_cons, List.not_mem_nil, or_false] at h
  exact ⟨p.toNat, by omega, by omega⟩
section
variable {P : Program} {w : World} {K : PySem.W.Frag} {mg : Str → Option Value} {base : Heap} {CT CP CB CN CW : Addr}
theorem good_nil {p : Int} {w : Nat} (hp : p ∈ primes) (hw : w ≤ 60) : GoodT p 0 w [] := good_mod (L := []) hp (by decide) hw rfl (fun l m => by simp at m)
/-- one more Table beside the long one: too wide -/
theorem long_bad {H : Hp} {q x y : Addr} {p : Int} (e : H q = some (.lst [.ref x, .ref y])) (hx : TabAt CT H x p 0 60 []) (hy : TabAt CT H y p 0 1 []) (hp : p ∈ primes) : TsJ K CT H (.ref q) (some (⟨x, p, 0, 60, []⟩, [⟨y, p, 0, 1, []⟩])) :=
  .ok (.inl (SqL.of e)) (fun z m => by
    simp only [List.mem_cons, List.not_mem_nil, or_false] at m
    rcases m with rfl | rfl
    · exact ⟨hx, good_nil hp (show 60 ≤ 60 by decide)⟩
    · exact ⟨hy, good_nil hp (show 1 ≤ 60 by decide)⟩) (show 1 < 1000 by decide)
theorem long_one {H : Hp} {q x : Addr} {p : Int} (e : H q = some (.lst [.ref x])) (hx : TabAt CT H x p 0 60 []) (hp : p ∈ primes) : TsJ K CT H (.ref q) (some (⟨x, p, 0, 60, []⟩, [])) :=
  .ok (.inl (SqL.of e)) (fun z m => by
    rw [List.mem_singleton] at m
    subst m
    exact ⟨hx, good_nil hp (show 60 ≤ 60 by decide)⟩) (show 0 < 1000 by decide)
/-- what stands in the law's loop -/
structure D53 (d lg cl : Addr) (T : List (Addr × Str)) (p : Int) (H : Hp) : Prop where
  dr : DrawAt H d lg cl
  tb : Tabs T H
  pr : p ∈ primes
theorem D53.ext {d lg cl : Addr} {T : List (Addr × Str)} {p : Int} {H H' : Hp} (S : D53 d lg cl T p H) (s : ExtN H H') (tb : Tabs T H') : D53 d lg cl T p H' := ⟨draw_ext s S.dr, tb, S.pr⟩
theorem D53.same {d lg cl : Addr} {T : List (Addr × Str)} {p : Int} {H H' : Hp} (S : D53 d lg cl T p H) (s : Same H H') : D53 d lg cl T p H' := S.ext (ExtN.same s) (S.tb.ext s)
/-- from long_here on -/
theorem p53_b {f c Pt : Addr} {A : Around} {outer : List Env} {s : Shared} {Hs : Hp} {E : XK} {T : List (Addr × Str)} (Y : Al P w K mg base CT CP CB CN CW) (C : Tc base mg T "law" c Pt) (hga : A.guards = some []) (hr : Room 10 (A.deeper (envOfC "law" (defScope sLaw) s.heap.objs.size f (.ref c)))) :
    ∃ t, PSs (X53 P w K mg base f c A outer s Hs E) (lawLoop.drop 5) t ∧ ∀ (D : Ends) (H : Hp) (a d lg cl : Addr) (p : Int) (v2 v3 v4 v6 : Option V),
      D53 d lg cl T p H →
      (∀ (v3 v4 v6 : Option V) H', D53 d lg cl T p H' → D.nx [some (.ref a), some (.ref d), v2, v3, v4, some (.int p), v6] H') →
      t D [some (.ref a), some (.ref d), v2, v3, v4, some (.int p), v6] H := by
  have nd := scLaw.nd
  have r1 : Room 1 _ := hr.mono (by decide)
  have r2 : Room 2 _ := hr.mono (by decide)
  have r3 : Room 3 _ := hr.mono (by decide)
  have r5 : Room 5 _ := hr.mono (by decide)
  have r6 : Room 6 _ := hr.mono (by decide)
  have r8 : Room 8 _ := hr.mono (by decide)
  have r9 : Room 9 _ := hr.mono (by decide)
  refine ⟨_, pss_cons (ps_set (i := 6) nd rfl (by first | exact Or.inl rfl | exact Or.inr rfl) (pe_make Y.G.m Y.G.ok r5 (by rfl) Y.G.T.t.g Y.G.b .nil (passes_call L2.takes0 fun _ _ _ _ h => h) (pa_cons (pv 5) (pa_cons pe_int (pa_cons pe_int (pa_cons (pe_lst pa_nil) pa_nil))))))
      (pss_cons (ps_if (PW.pt (pw_or (pt_cmpR (op_neT Y.G.T Y.FE Y.bE r2) (pe_call Y.be.ok r6 (by rfl) Y.be.g Y.be.kp Y.be.b .nil (passes_call L2.takes0 fun _ _ _ _ h => h) (pa_cons (pe_lst (pa_cons (pv 6) pa_nil)) pa_nil)) (pv 6) (nomark _))
          (pw_or1 (pt_not (pt_val (pe_lamV (k := 6) (by rfl) Y.N.gB Y.N.kB Y.N.isb C.TB rfl C.mem C.uq r9 (lamS_by (sc := defScope sLaw) (by decide +kernel)) rfl (fun _ _ _ _ _ => rfl)
            (fun A' o' s' H' E' f' c' hr2 => pe_call Y.be.ok hr2 (by rfl) Y.be.g Y.be.kp Y.be.b .nil (passes_call (takes_of rfl rfl rfl rfl) fun _ _ _ _ h => h) (pa_cons (pe_lst (pa_cons (pv 6) (pa_cons (pe_make Y.G.m Y.G.ok (hr2.mono (by decide)) (by rfl) Y.G.T.t.g Y.G.b .nil (passes_call (takes_of rfl rfl rfl rfl) fun _ _ _ _ h => h) (pa_cons (pv 5) (pa_cons pe_int (pa_cons pe_int (pa_cons (pe_lst pa_nil) pa_nil))))) pa_nil))) pa_nil)))))))) (pss_one (ps_ret pe_bl)) pss_nil)
      (pss_cons (ps_if (pt_not (pt_val (pe_lamV (k := 6) (by rfl) Y.N.gB Y.N.kB Y.N.isb C.TB rfl C.mem C.uq r9 (lamS_by (sc := defScope sLaw) (by decide +kernel)) rfl (fun _ _ _ _ _ => rfl)
            (fun A' o' s' H' E' f' c' hr2 => pe_call Y.co.ok hr2 (by rfl) Y.co.g Y.co.kp Y.co.b .nil (passes_call (takes_of rfl rfl rfl rfl) fun _ _ _ _ h => h) (pa_cons (pe_lst (pa_cons (pv 6) (pa_cons (pe_make Y.G.m Y.G.ok (hr2.mono (by decide)) (by rfl) Y.G.T.t.g Y.G.b .nil (passes_call (takes_of rfl rfl rfl rfl) fun _ _ _ _ h => h) (pa_cons (pv 5) (pa_cons pe_int (pa_cons pe_int (pa_cons (pe_lst pa_nil) pa_nil))))) pa_nil))) pa_nil))))) (pss_one (ps_ret pe_bl)) pss_nil)
      (pss_cons (ps_par (i := 3) (j := 4) (by rfl) nd rfl rfl (by decide) rfl rfl (pa_cons (pe_call Y.N.pick r3 (by rfl) Y.N.gK Y.N.kK Y.N.bK .nil pass0 (pa_cons (pv 1) (pa_cons (pe_lst (pa_cons pe_int (pa_cons pe_int (pa_cons pe_int (pa_cons pe_int pa_nil))))) pa_nil))) (pa_cons (pe_call Y.N.pick r3 (by rfl) Y.N.gK Y.N.kK Y.N.bK .nil pass0 (pa_cons (pv 1) (pa_cons (pe_lst (pa_cons pe_int (pa_cons pe_int (pa_cons pe_int (pa_cons pe_int pa_nil))))) pa_nil))) pa_nil)) (by rfl))
      (pss_cons (ps_if (pt_not (pt_val (pe_callG Y.sh.ok hga r8 (by rfl) Y.sh.g Y.sh.kp Y.sh.b .nil pass0 (pa_cons (pe_call Y.pn.ok r6 (by rfl) Y.pn.g Y.pn.kp Y.pn.b .nil (passes_call L2.takes0 fun _ _ _ _ h => h) (pa_cons (pv 5) (pa_cons (pv 3) pa_nil))) (pa_cons (pv 5) (pa_cons (pv 3) (pa_cons (pv 3) (pa_cons (pe_call Y.un.ok r1 (by rfl) Y.un.g Y.un.kp Y.un.b .nil pass0 (pa_cons (pv 3) pa_nil)) pa_nil)))))))) (pss_one (ps_ret pe_bl)) pss_nil)
      (pss_one (ps_if (pt_not (pt_val (pe_callG Y.sh.ok hga r8 (by rfl) Y.sh.g Y.sh.kp Y.sh.b .nil pass0 (pa_cons (pe_callK0 Y.em.ok r6 (by rfl) Y.em.g Y.em.kp Y.em.kb (passes_call L2.takes0 fun _ _ _ _ h => h) (pk_cons (pv 4) (pk_cons (pv 3) (pk_cons (pv 5) pk_nil)))) (pa_cons (pv 5) (pa_cons (pv 3) (pa_cons (pv 4) (pa_cons (pe_op op_rep (pe_lst (pa_cons (pe_op op_rep (pe_lst (pa_cons pe_int pa_nil)) (pv 4)) pa_nil)) (pv 3)) pa_nil)))))))) (pss_one (ps_ret pe_bl)) pss_nil)))))), ?_⟩
  intro D H a d lg cl p v2 v3 v4 v6 S k
  have hpr := S.pr
  have nilA : ∀ {H : Hp} {l : Addr}, H l = some (.lst []) → SqA K H l (rv []) := fun e => .inl (SqL.of e)
  have nilR : ∀ {H : Hp}, RA K H [] := fun z m => by simp at m
  refine ⟨_, rfl, by show 0 ≤ sizeLine; decide, fun l1 n1 => ?_⟩
  intro xl dl1 nl ndl nel
  refine mkt_l (t := 0) (w := 60) (zs := []) nl ndl nel hpr (by decide) (by decide) (nilA upd_same) nilR rfl (fun l m => by simp [rn] at m) fun H1 T1 s1 => ⟨rfl, ?_⟩
  replace T1 : TabAt CT H1 xl p 0 60 [] := T1
  have S1 := S.same ((same_upd (o := .lst []) n1).trans s1)
  -- beside([long_here]) != long_here
  refine ⟨_, rfl, by show 1 ≤ sizeLine; decide, fun q2 n2 => ?_⟩
  have sq : Same H1 (upd H1 q2 (.lst [.ref xl])) := same_upd n2
  refine ⟨_, _, rfl, long_one upd_same (T1.same sq) hpr, .inr ⟨_, _, rfl, show 60 ≤ 1000 by decide, .inr ⟨fun _ m => by simp at m, fun _ m => by simp at m, show 60 ≤ 60 by decide, fun n H2 hn s2 => ?_⟩⟩⟩
  replace hn : TabAt CT H2 n p 0 60 [] := hn
  have s12 := sq.trans s2
  have S2 := S1.same s12
  have T2 := T1.same s12
  refine ⟨_, rfl, n, xl, p, 0, 60, _, p, 0, 60, _, rfl, rfl, hn, T2, fun H3 s3 => ?_⟩
  rw [eqT_t]
  refine ⟨_, rfl, ?_⟩
  refine iteF ?_
  have S3 := S2.same s3
  have T3 := T2.same s3
  clear S S1 S2 T1 T2 hn s12 sq s1 s2
  -- with one more
  refine ⟨S3.tb, fun Ha sa ta => ?_⟩
  have Sa := S3.ext sa ta
  have Ta := TabAt.ext sa T3
  refine ttb_bad ⟨_, rfl, _, rfl, by show 0 ≤ sizeLine; decide, fun q3 n3 y dy ny ndy ne => ?_⟩ fun Hb sb => ?_
  · refine mkt_l (t := 0) (w := 1) (zs := []) ny ndy ne hpr (by decide) (by decide) (nilA upd_same) nilR rfl (fun l m => by simp [rn] at m) fun Hc Tc' sc => ⟨rfl, ?_⟩
    have sac := (same_upd (o := .lst []) n3).trans sc
    refine ⟨by show 2 ≤ sizeLine; decide, fun q4 n4 => ?_⟩
    have s4 : Same Hc (upd Hc q4 (.lst [.ref xl, .ref y])) := same_upd n4
    refine ⟨_, _, rfl, long_bad upd_same ((Ta.same sac).same s4) (TabAt.same s4 Tc') hpr, .inr ⟨_, _, rfl, show 61 ≤ 1000 by decide, .inl ⟨fun c => absurd c.2.2 (show ¬ 61 ≤ 60 by decide), rp_bad (sac.trans s4)⟩⟩⟩
  refine ⟨_, rfl, ?_⟩
  refine iteF ?_
  have S4 := Sa.same sb
  have T4 := Ta.same sb
  clear Sa Ta S3 T3 sa ta sb
  -- corner
  refine ⟨S4.tb, fun Ha sa ta => ?_⟩
  have Sa := S4.ext sa ta
  have Ta := TabAt.ext sa T4
  refine ttb_bad ⟨_, rfl, _, rfl, by show 0 ≤ sizeLine; decide, fun q3 n3 y dy ny ndy ne => ?_⟩ fun Hb sb => ?_
  · refine mkt_l (t := 0) (w := 1) (zs := []) ny ndy ne hpr (by decide) (by decide) (nilA upd_same) nilR rfl (fun l m => by simp [rn] at m) fun Hc Tc' sc => ⟨rfl, ?_⟩
    have sac := (same_upd (o := .lst []) n3).trans sc
    refine ⟨by show 2 ≤ sizeLine; decide, fun q4 n4 => ?_⟩
    have s4 : Same Hc (upd Hc q4 (.lst [.ref xl, .ref y])) := same_upd n4
    refine ⟨_, _, rfl, long_bad upd_same ((Ta.same sac).same s4) (TabAt.same s4 Tc') hpr, .inr ⟨_, _, rfl, show 0 ≤ 1000 by decide, show 61 ≤ 1000 by decide, .inl ⟨fun c => absurd c.2.2 (show ¬ 61 ≤ 60 by decide), rp_bad (sac.trans s4)⟩⟩⟩
  refine ⟨_, rfl, ?_⟩
  refine iteF ?_
  have S5 := Sa.same sb
  clear Sa Ta S4 T4 sa ta sb
  -- size, wide
  refine ⟨_, rfl, by show 4 ≤ sizeLine; decide, fun q5 n5 => ?_⟩
  refine one_pick (ns := [0, 1, 3, 60]) (E := fun _ _ _ => False) S5.dr (by show 0 < 4; decide) (by show 4 < 1000; decide) (fun i6 H6 m6 D6 k6 => ?_) n5
  obtain ⟨sz, hsz, rfl⟩ := sizes_ok i6 m6
  refine ⟨_, rfl, by show 4 ≤ sizeLine; decide, fun q7 n7 => ?_⟩
  refine one_pick (ns := [0, 1, 2, 60]) (E := fun _ _ _ => False) D6 (by show 0 < 4; decide) (by show 4 < 1000; decide) (fun i8 H8 m8 D8 k8 => ?_) n7
  obtain ⟨wi, hwi, rfl⟩ := wides_ok i8 m8
  have S8 : D53 d lg cl T p H8 := ⟨D8, Tabs.kept D6 k8 (Tabs.kept S5.dr k6 S5.tb), hpr⟩
  clear S5 k6 k8 D6 D8
  refine ⟨_, _, rfl, ?_⟩
  -- plain
  refine ⟨_, rfl, _, rfl, _, _, _, _, rfl, .int p, .inr ⟨p, rfl, hpr, .int sz, .inr ⟨sz, szO_nat hsz, fun z H9 hz s9 => ?_⟩⟩⟩
  have S9 := S8.same s9
  refine ⟨_, rfl, _, rfl, _, rfl, _, rfl, sz, rfl, by omega, fun B zs H10 N10 => ?_⟩
  obtain ⟨e10, p10, w10, _, _, s10⟩ := N10
  have eU : modT p (rn zs) = unitL sz := by rw [w10, modT_id (good_unit hpr hsz)]
  refine ⟨z, B, p, sz, sz, zs, rfl, by rw [eU]; exact hz.same s10, by rw [eU]; exact good_unit hpr hsz, .inl (SqL.of e10), p10.ra, fun H11 s11 => ?_⟩
  refine ⟨_, rfl, ?_⟩
  refine iteF ?_
  have S11 := (S9.same s10).same s11
  clear S8 S9 hz s9 s10 s11 e10 p10 w10 eU
  -- empty
  refine ⟨_, rfl, _, rfl, _, rfl, _, _, _, _, _, _, rfl, .int p, .inr ⟨p, rfl, hpr, .int sz, .int wi, .inr ⟨sz, szO_nat hsz, .inr ⟨wi, szO_nat hwi, fun z H12 hz s12 => ?_⟩⟩⟩⟩
  have S12 := S11.same s12
  refine ⟨_, rfl, _, rfl, _, rfl, by show 1 ≤ sizeLine; decide, fun q0 n0 => ⟨_, rfl, q0, (wi : Int), [.int 0], rfl, rfl, upd_same, by omega, by omega, by rw [Int.toNat_natCast]; exact Nat.le_of_lt (small_2000 (by show 1 * _ ≤ 2000; omega)), fun q1 n1' => ?_⟩⟩
  rw [Int.toNat_natCast, rep1]
  have s01 : Same H12 (upd (upd H12 q0 (.lst [.int 0])) q1 (.lst (List.replicate wi (V.int 0)))) := (same_upd n0).trans (same_upd n1')
  have e01 : (upd (upd H12 q0 (.lst [.int 0])) q1 (.lst (List.replicate wi (V.int 0)))) q1 = some (.lst ((List.replicate wi (0 : Int)).map V.int)) := by rw [upd_same, List.map_replicate]
  generalize upd (upd H12 q0 (.lst [.int 0])) q1 (.lst (List.replicate wi (V.int 0))) = H13 at s01 e01
  refine ⟨by show 1 ≤ sizeLine; decide, fun q2 n2' => ⟨_, rfl, q2, (sz : Int), [.ref q1], rfl, rfl, upd_same, by omega, by omega, by rw [Int.toNat_natCast]; exact Nat.le_of_lt (small_2000 (by show 1 * _ ≤ 2000; omega)), fun q3 n3 => ?_⟩⟩
  rw [Int.toNat_natCast, rep1]
  have s23 : Same H13 (upd (upd H13 q2 (.lst [.ref q1])) q3 (.lst (List.replicate sz (V.ref q1)))) := (same_upd n2').trans (same_upd n3)
  have e23 : (upd (upd H13 q2 (.lst [.ref q1])) q3 (.lst (List.replicate sz (V.ref q1)))) q3 = some (.lst (rv (List.replicate sz (q1, List.replicate wi (0 : Int))))) := by rw [upd_same, rv_rep]
  have r23 : RL (upd (upd H13 q2 (.lst [.ref q1])) q3 (.lst (List.replicate sz (V.ref q1)))) (List.replicate sz (q1, List.replicate wi (0 : Int))) := rl_rep (s23 _ _ e01)
  generalize upd (upd H13 q2 (.lst [.ref q1])) q3 (.lst (List.replicate sz (V.ref q1))) = H14 at s23 e23 r23
  have eZ : modT p (rn (List.replicate sz (q1, List.replicate wi (0 : Int)))) = zeroL sz wi := by rw [rn_rep]; exact modT_id (good_zero hpr hsz hwi)
  have s14 := s01.trans s23
  refine ⟨z, q3, p, sz, wi, List.replicate sz (q1, List.replicate wi (0 : Int)), rfl, by rw [eZ]; exact hz.same s14, by rw [eZ]; exact good_zero hpr hsz hwi, .inl (SqL.of e23), r23.ra, fun H15 s15 => ?_⟩
  refine ⟨_, rfl, ?_⟩
  refine iteF ?_
  exact k _ _ _ _ ((S12.same s14).same s15)
end
end K01


set_option Elab.async false
set_option maxRecDepth 100000
set_option maxHeartbeats 8000000
set_option linter.all false
namespace K01
open PySem PySem.Spec PyProof.Rows L2 LamX GL
section
variable {P : Program} {w : World} {K : PySem.W.Frag} {mg : Str → Option Value} {base : Heap} {CT CP CB CN CW : Addr}
/-- from the looks on -/
theorem p53_a {f c Pt : Addr} {A : Around} {outer : List Env} {s : Shared} {Hs : Hp} {E : XK} {T : List (Addr × Str)} (Y : Al P w K mg base CT CP CB CN CW) (O : Own P w K mg base T) (C : Tc base mg T "law" c Pt) (hga : A.guards = some []) (hr : Room 10 (A.deeper (envOfC "law" (defScope sLaw) s.heap.objs.size f (.ref c)))) :
    ∃ t, PSs (X53 P w K mg base f c A outer s Hs E) (lawLoop.drop 2) t ∧ ∀ (D : Ends) (H : Hp) (a d lg cl : Addr) (p : Int) (v2 v3 v4 v6 : Option V),
      D53 d lg cl T p H →
      (∀ (v3 v4 v6 : Option V) H', D53 d lg cl T p H' → D.nx [some (.ref a), some (.ref d), v2, v3, v4, some (.int p), v6] H') →
      t D [some (.ref a), some (.ref d), v2, v3, v4, some (.int p), v6] H := by
  have nd := scLaw.nd
  have r6 : Room 6 _ := hr.mono (by decide)
  have r8 : Room 8 _ := hr.mono (by decide)
  obtain ⟨te, pe, re⟩ := p53_b (f := f) (c := c) (outer := outer) (Hs := Hs) (E := E) Y C hga hr
  refine ⟨_, pss_cons (ps_if (PW.pt (pw_or (pt_not (pt_val (pe_call O.pr.ok r8 (by rfl) O.pr.g O.pr.kp O.pr.b .nil pass0 (pa_cons (pv 1) pa_nil)))) (pw_or1 (pt_not (pt_val (pe_call O.un.ok r6 (by rfl) O.un.g O.un.kp O.un.b .nil pass0 (pa_cons (pv 5) pa_nil))))))) (pss_one (ps_ret pe_bl)) pss_nil)
      (pss_cons (ps_if (PW.pt (pw_or (pt_not (pt_val (pe_callG O.po.ok hga hr (by rfl) O.po.g O.po.kp O.po.b .nil pass0 (pa_cons (pv 1) (pa_cons (pv 5) pa_nil))))) (pw_or1 (pt_not (pt_val (pe_callG O.li.ok hga hr (by rfl) O.li.g O.li.kp O.li.b .nil pass0 (pa_cons (pv 1) (pa_cons (pv 5) pa_nil)))))))) (pss_one (ps_ret pe_bl)) pss_nil)
      (pss_cons (ps_if (pt_not (pt_val (pe_call O.re.ok hr (by rfl) O.re.g O.re.kp O.re.b .nil pass0 (pa_cons (pv 1) (pa_cons (pv 5) pa_nil))))) (pss_one (ps_ret pe_bl)) pss_nil)
      pe)), ?_⟩
  intro D H a d lg cl p v2 v3 v4 v6 S k
  have hpr := S.pr
  refine ⟨_, rfl, d, lg, cl, rfl, S.dr, S.tb, fun H1 D1 _ t1 => ?_⟩
  refine ⟨_, rfl, ?_⟩
  refine iteF ?_
  refine ⟨_, rfl, p, rfl, hpr, fun H2 s2 => ?_⟩
  refine ⟨_, rfl, ?_⟩
  refine iteF ?_
  refine ⟨_, rfl, _, rfl, d, lg, cl, p, rfl, draw_same s2 D1, hpr, t1.ext s2, fun H3 D3 _ t3 => ?_⟩
  refine ⟨_, rfl, ?_⟩
  refine iteF ?_
  refine ⟨_, rfl, _, rfl, d, lg, cl, p, rfl, D3, hpr, t3, fun H4 D4 _ t4 => ?_⟩
  refine ⟨_, rfl, ?_⟩
  refine iteF ?_
  refine ⟨_, rfl, _, rfl, d, lg, cl, p, rfl, D4, hpr, t4, fun H5 D5 _ t5 => ?_⟩
  refine ⟨_, rfl, ?_⟩
  refine iteF ?_
  exact re D H5 a d lg cl p _ _ _ _ ⟨D5, t5, hpr⟩ k
theorem ok_law {f c Pt : Addr} {fd : FuncData} {T : List (Addr × Str)} (F : FunC K "law" "law" sLaw f fd c) (Y : Al P w K mg base CT CP CB CN CW) (O : Own P w K mg base T) (C : Tc base mg T "law" c Pt) : FnG P w K mg base L2.CX0 11 f fd ["script"] (spLaw K T) := by
  refine F.okG scLaw (fun vs H Q E h => ?_) (fun A outer s H vs Q E hga hr h => ?_)
  · obtain ⟨a, ns, rfl, _⟩ := h
    rfl
  · obtain ⟨a, ns, rfl, hS, hlen, hT, k⟩ := h
    have nd := scLaw.nd
    have r1 : Room 1 _ := hr.mono (by decide)
    have r2 : Room 2 _ := hr.mono (by decide)
    have r3 : Room 3 _ := hr.mono (by decide)
    have r4 : Room 4 _ := hr.mono (by decide)
    obtain ⟨te, pe, re⟩ := p53_a (f := f) (c := c) (outer := outer) (Hs := H) (E := E) Y O C hga hr
    refine ⟨_, pss_cons (ps_set (i := 1) nd rfl (by first | exact Or.inl rfl | exact Or.inr rfl) (pe_call O.be.ok r1 (by rfl) O.be.g O.be.kp O.be.b .nil pass0 (pa_cons (pv 0) pa_nil)))
      (pss_cons (ps_for PassesOwn.never rfl (pi_range1 (by rfl) Y.N.mRa (pa_cons (pe_op op_add pe_int (pe_callB (call_min2 rfl) (by rfl) Y.mMin (by decide +kernel) (pa_cons (pe_callB call_len_seq (by rfl) Y.mLen PySem.boot_len (pa_cons (pv 0) pa_nil)) (pa_cons pe_int pa_nil)))) pa_nil)) (pg_name (i := 2) nd rfl (by first | exact Or.inl rfl | exact Or.inr rfl))
        (pss_cons (ps_set (i := 5) nd rfl (by first | exact Or.inl rfl | exact Or.inr rfl) (pe_call Y.fi.ok r4 (by rfl) Y.fi.g Y.fi.kp Y.fi.b .nil pass0 (pa_cons (pv 1) pa_nil)))
        (pss_cons (ps_if (pt_cmpR op_eq (pe_call Y.N.take r2 (by rfl) Y.N.gT Y.N.kT Y.N.bT .nil pass0 (pa_cons (pv 1) (pa_cons pe_int pa_nil))) pe_int (nomark _)) (pss_one (ps_set (i := 5) nd rfl (by first | exact Or.inl rfl | exact Or.inr rfl) (pe_call Y.N.pick r3 (by rfl) Y.N.gK Y.N.kK Y.N.bK .nil pass0 (pa_cons (pv 1) (pa_cons (pe_lst
            (pa_cons pe_int (pa_cons pe_int (pa_cons pe_int (pa_cons pe_int (pa_cons pe_int (pa_cons pe_int (pa_cons pe_int (pa_cons pe_int (pa_cons pe_int (pa_cons pe_int (pa_cons pe_int (pa_cons pe_int (pa_cons pe_int (pa_cons pe_int (pa_cons pe_int (pa_cons pe_int (pa_cons pe_int (pa_cons pe_int (pa_cons pe_int (pa_cons pe_int pa_nil))))))))))))))))))))) pa_nil))))) pss_nil)
        pe)))
      (pss_one (ps_ret pe_bl))), ?_⟩
    refine ⟨_, rfl, a, ns, rfl, hS, hlen, fun d lg cl H1 D1 s1 nd1 nl1 nc1 => ?_⟩
    have t1 : Tabs T H1 := hT.ext s1
    have hS1 : SqL K H1 a (ns.map L2.V.int) := s1.seq hS
    refine ⟨_, rfl, a, _, rfl, .inl hS1, _, _, rfl, _, _, rfl, rfl, _, rfl, ?_, ?_, ?_⟩
    · rw [List.length_map]; split <;> omega
    · rw [List.length_map]; split <;> omega
    refine for_range (lo := 0) (fun i σ Hx => ∃ v2 v3 v4 v5 v6 : Option L2.V, σ = [some (.ref a), some (.ref d), v2, v3, v4, v5, v6] ∧ DrawAt Hx d lg cl ∧ Tabs T Hx) ⟨none, none, none, none, none, rfl, D1, t1⟩ ?_ ?_
    · clear hS1 t1 D1 nd1 nl1 nc1
      rintro i σ Hx hi ⟨v2, v3, v4, v5, v6, rfl, Dx, tx⟩
      refine ⟨_, rfl, d, lg, cl, rfl, Dx, fun p H2 m2 D2 k2 => ?_⟩
      have t2 := Tabs.kept Dx k2 tx
      refine ⟨_, rfl, d, lg, cl, 3, rfl, D2, by decide, by decide, fun z H3 z0 z1 D3 k3 => ⟨rfl, _, rfl, ite2 (fun c => ?_) (fun c => ?_)⟩⟩
      · have t3 := Tabs.kept D2 k3 t2
        refine ⟨_, rfl, by show 20 ≤ sizeLine; decide, fun q nq => ?_⟩
        refine one_pick (ns := bigs) (E := fun _ _ _ => False) D3 (by show 0 < 20; decide) (by show 20 < 1000; decide) (fun p' H4 m4 D4 k4 => ?_) nq
        exact re _ H4 a d lg cl p' _ _ _ _ ⟨D4, Tabs.kept D3 k4 t3, bigs_pr p' m4⟩ fun _ _ _ H' S' => ⟨_, _, _, _, _, rfl, S'.dr, S'.tb⟩
      · have t3 := Tabs.kept D2 k3 t2
        exact re _ H3 a d lg cl p _ _ _ _ ⟨D3, t3, smalls_pr p m2⟩ fun _ _ _ H' S' => ⟨_, _, _, _, _, rfl, S'.dr, S'.tb⟩
    · rintro σ Hx ⟨v2, v3, v4, v5, v6, rfl, Dx, tx⟩
      exact k Hx
end
end K01


set_option Elab.async false
set_option maxRecDepth 100000
set_option maxHeartbeats 4000000
set_option linter.all false
namespace K01
open PySem PySem.Spec PyProof.Rows L2 GL LamX
/-! the end, where tables of code objects are written and repr is asked -/
/-- what is tracked when the law begins: the empty tables ts; the script at a, where the written part has nothing there -/
def Hb (K : PySem.W.Frag) (ts : List Addr) (a : Addr) (o : Obj) (xs : List L2.V) : Hp := fun b => if b ∈ ts then some (.tbl #[]) else if (b == a && (K.lookup a).isNone) = true then some (.frz o (.lst xs)) else none
section
variable {K : PySem.W.Frag} {ts : List Addr} {a b : Addr} {o : Obj} {xs : List L2.V}
theorem hb_tab (h : b ∈ ts) : Hb K ts a o xs b = some (.tbl #[]) := if_pos h
theorem hb_scr (h : a ∉ ts) (n : K.lookup a = none) : Hb K ts a o xs a = some (.frz o (.lst xs)) := (if_neg h).trans (if_pos (by rw [n, beq_self_eq_true]; rfl))
theorem hb_all (b : Addr) : (b ∈ ts ∧ Hb K ts a o xs b = some (.tbl #[])) ∨ (b = a ∧ K.lookup a = none ∧ Hb K ts a o xs b = some (.frz o (.lst xs))) ∨ Hb K ts a o xs b = none := by
  by_cases h : b ∈ ts
  · exact .inl ⟨h, if_pos h⟩
  · by_cases z : (b == a && (K.lookup a).isNone) = true
    · have z2 := z
      rw [Bool.and_eq_true, beq_iff_eq, Option.isNone_iff_eq_none] at z2
      exact .inr (.inl ⟨z2.1, z2.2, (if_neg h).trans (if_pos z)⟩)
    · exact .inr (.inr ((if_neg h).trans (if_neg z)))
end
/-- an object of neither kind that is tracked when the law begins -/
def Apart (o : Obj) : Prop := (∀ vs n, o.data ≠ .seq vs n) ∧ o ≠ { cls := .none, data := .fields #[] }
theorem apart_cls {o : Obj} {c : Value} (e : o.cls = c) (hc : c ≠ .none) (h : ∀ vs n, o.data ≠ .seq vs n) : Apart o := ⟨h, by intro z; subst z; exact hc e.symm⟩
theorem apart_dict {o : Obj} {es : Array DictEntry} {ep : Nat} (e : o.data = .dict es ep) : Apart o := ⟨(by intro vs n z; rw [e] at z; cases z), (by intro z; subst z; cases e)⟩
theorem law_callGT {P : Program} {w : World} {K : PySem.W.Frag} {mg mb : Str → Option Value} {k : Nat} {fa a : Addr} {cs : List (Addr × Addr)} {fd : FuncData} {x : Str} {sp : Sp} {s₁ : Shared} {vs : List Value} {ns : List Int}
    (KX : K.In s₁.heap) (hns : s₁.heap.Ns mainGlobals mg) (hb : s₁.heap.Ns builtinsNs mb) (hbb : ∀ x : Str, x ≠ "__name__" → mb x = bootBuiltins x) (hlim : s₁.heap.NoLimit) (hg : s₁.gens = #[])
    (hT : ∀ p ∈ cs, PySem.W.CodeHd s₁.heap p.1 p.2 ∧ s₁.heap.get? p.2 = some { cls := .none, data := .fields #[] }) (nT : ∀ p ∈ cs, K.lookup p.2 = none)
    (hbm : ∃ (bm : Addr) (ob : Obj), mg "__builtins__" = some (.ref bm) ∧ bm ≠ builtinsNs ∧ s₁.heap.get? bm = some ob ∧ ob.cls = .type "module" ∧ ob.dict = some builtinsNs ∧ ob.data = .plain)
    (ha : s₁.heap.get? a = some { cls := .type "list", data := .seq vs.toArray }) (hi : IntsAre vs ns) (hl : ns.length ≤ sizeLine) (hr : Room k callerA)
    (F : ∀ base : Heap, K.In base → base.Ns mainGlobals mg → (∀ p ∈ cs, TabB base mg p.1 p.2) → FnG P w K mg base CX0 k fa fd [x] sp) (hbind : ∀ (s : Shared) (u : Value), BindsTo s fd ⟨[u], []⟩ [(x, u)])
    (hsp : ∀ H : Hp, (∀ p ∈ cs, H p.2 = some (.tbl #[])) → SqL K H a (ns.map V.int) → sp [.ref a] H (fun v _ => v = .bl true) fun _ _ _ => False) :
    codeAny (model P w) callerA (.call (.ref fa) ⟨[.ref a], []⟩) (fun r s' => r = .ok (.ret (.bool true)) ∧ OldK s₁.heap s'.heap ∧ s'.os = s₁.os ∧ AllBare s'.gens) s₁ := by
  obtain ⟨oa, hoa⟩ : ∃ oa : Obj, oa = { cls := .type "list", data := .seq vs.toArray } := ⟨_, rfl⟩
  rw [← hoa] at ha
  have hod : oa.data = .seq vs.toArray := by rw [hoa]
  have rv := vals_ints hi
  have inT : ∀ b : Addr, b ∈ cs.map (·.2) → ∃ p ∈ cs, p.2 = b := fun b h => by
    obtain ⟨p, m, e⟩ := List.mem_map.mp h
    exact ⟨p, m, e⟩
  have tabAt : ∀ b : Addr, b ∈ cs.map (·.2) → s₁.heap.get? b = some { cls := .none, data := .fields #[] } ∧ K.lookup b = none := fun b h => by
    obtain ⟨p, m, rfl⟩ := inT b h
    exact ⟨(hT p m).2, nT p m⟩
  have aT : a ∉ cs.map (·.2) := fun z => by
    have e := (tabAt a z).1
    rw [ha] at e
    have := congrArg Obj.data (Option.some.inj e)
    rw [hod] at this
    cases this
  obtain ⟨H, hH⟩ : ∃ H : Hp, H = Hb K (cs.map (·.2)) a oa (ns.map V.int) := ⟨_, rfl⟩
  have all : ∀ b, (b ∈ cs.map (·.2) ∧ H b = some (.tbl #[])) ∨ (b = a ∧ K.lookup a = none ∧ H b = some (.frz oa (.lst (ns.map V.int)))) ∨ H b = none := fun b => by rw [hH]; exact hb_all b
  have tabH : ∀ p ∈ cs, H p.2 = some (.tbl #[]) := fun p m => by rw [hH]; exact hb_tab (List.mem_map.mpr ⟨p, m, rfl⟩)
  -- what stays to be seen below
  have see : ∀ {b : Addr} {o : Obj}, s₁.heap.get? b = some o → Apart o → (hidT s₁.heap H).get? b = some o := fun {b o} e ap => by
    refine hidT_get e ?_
    rcases all b with ⟨m, _⟩ | ⟨rfl, _, _⟩ | n
    · exact absurd (Option.some.inj (e.symm.trans (tabAt b m).1)) ap.2
    · have := Option.some.inj (e.symm.trans ha)
      rw [this] at ap
      exact absurd hod (ap.1 _ _)
    · exact n
  have seeNs : ∀ {b : Addr} {m : Str → Option Value}, s₁.heap.Ns b m → (hidT s₁.heap H).Ns b m := fun {b m} ⟨o, es, ep, e, d, r⟩ => ⟨o, es, ep, see e (apart_dict d), d, r⟩
  have seeK : K.In (hidT s₁.heap H) := fun b o e => by
    refine hidT_get (KX b o e) ?_
    rcases all b with ⟨m, _⟩ | ⟨rfl, n, _⟩ | n
    · exact absurd ((tabAt b m).2) (by rw [show K.lookup b = some o from e]; intro y; cases y)
    · rw [show K.lookup b = some o from e] at n; cases n
    · exact n
  have md : L2.Mod K mg (hidT s₁.heap H) := ⟨seeK, seeNs hns, ⟨mb, seeNs hb, hbb⟩, let ⟨mc, h1, h2⟩ := hlim; ⟨mc, seeNs h1, h2⟩⟩
  have tb : ∀ p ∈ cs, TabB (hidT s₁.heap H) mg p.1 p.2 := fun p m => by
    obtain ⟨C, tp⟩ := hT p m
    refine ⟨?_, ?_, fun z => ?_⟩
    · obtain ⟨o, us, file, tf, flags, tg, inF, text, tt, e, r1, r2, r⟩ := C
      exact ⟨o, us, file, tf, flags, tg, inF, text, tt, see e (apart_cls r1 (by intro y; cases y) fun _ _ y => by rw [r2] at y; cases y), r1, r2, r⟩
    · obtain ⟨bm, ob, b1, b2, b3, b4, b5, b6⟩ := hbm
      refine ⟨bm, ob, b1, b2, fun q => ?_, fun q => ?_, see b3 (apart_cls b4 (by intro y; cases y) fun _ _ y => by rw [b6] at y; cases y), b4, b5, b6⟩
      · obtain ⟨o, es, ep, e, d, _⟩ := hns
        rw [q, e] at b3
        rw [Option.some.inj b3, b6] at d
        cases d
      · rw [q, tp] at b3
        rw [← Option.some.inj b3] at b4
        cases b4
    · obtain ⟨o, es, ep, e, d, _⟩ := hns
      rw [z, tp] at e
      rw [← Option.some.inj e] at d
      cases d
  have hok : HOk P w H s₁.heap := fun b u z => by
    rcases all b with ⟨m, e⟩ | ⟨rfl, _, e⟩ | e
    · cases z.symm.trans e
      exact (tabAt b m).1
    · cases z.symm.trans e
      subst hoa
      exact ⟨ha, by rw [List.length_map]; exact hl, vs, _, rv, ha⟩
    · cases z.symm.trans e
  have scr : SqL K H a (ns.map V.int) := by
    cases hk : K.lookup a with
    | none => exact .inl (.inr ⟨oa, by rw [hH]; exact hb_scr aT hk⟩)
    | some o =>
      have e := KX a o hk
      rw [ha] at e
      cases e
      exact .inr ⟨oa, vs.toArray, _, hk, by rw [hoa], by rw [hoa], hod, by rw [List.size_toArray, hi.length]; exact hl, by simpa using rv⟩
  have e0 : Env0 P w K mg (hidT s₁.heap H) callerA [] s₁ H := ⟨rfl, md, fun b o e => of_hidT e, Nat.le_of_eq (hidT_size _ _), trivial, fun b z => absurd (show b ∈ ([] : List Addr) from z) (by simp), hok, .of_eq hg⟩
  refine codeAny_mono ((F _ seeK (seeNs hns) tb).run callerA [] s₁ H ⟨[.ref a], []⟩ [.ref a] [.ref a] _ _ rfl hr e0 (hbind s₁ (.ref a)) (.cons rfl .nil) (hsp H tabH scr)) fun r s' h => ?_
  cases r with
  | error e => exact False.elim h
  | ok fl =>
  cases fl with
  | next => exact False.elim h
  | brk => exact False.elim h
  | cont => exact False.elim h
  | ret u =>
  obtain ⟨v, H', os, bare, un, hok', r', q⟩ := h
  obtain rfl : v = .bl true := q
  obtain rfl : u = Value.bool true := r'
  have old : ∀ b o, s₁.heap.get? b = some o → s'.heap.get? b = some o ∨ (isCodeTable s₁.heap b ∧ o = { cls := .none, data := .fields #[] } ∧ ∃ more : Array Value, s'.heap.get? b = some { cls := .none, data := .fields more }) := fun b o e => by
    rcases all b with ⟨m, z⟩ | ⟨rfl, _, z⟩ | z
    · obtain ⟨p, pm, rfl⟩ := inT b m
      obtain ⟨more, z2⟩ := un.tbls p.2 #[] (tabH p pm)
      exact .inr ⟨((hT p pm).1.tab (hT p pm).2).isCodeTable, Option.some.inj (e.symm.trans (hT p pm).2), _, hok' p.2 _ z2⟩
    · have z2 := un.frzs b oa _ z
      obtain ⟨e2, _⟩ := hok' b _ z2
      exact .inl (by rw [e2, ← ha, e])
    · exact .inl (un.keep b o e z (by intro y; exact absurd (show b ∈ ([] : List Addr) from y) (by simp)) (by simp))
  refine ⟨rfl, ⟨fun b o e => ?_, fun b o e => ?_⟩, os, bare⟩
  · rcases old b o e with z | ⟨ct, rfl, more, z⟩
    · exact .inl z
    · exact .inr (.inl ⟨ct, rfl, #[], more, rfl, by rw [Array.empty_append]; exact z⟩)
  · rcases old b o e with z | ⟨_, _, more, z⟩
    · exact ⟨o, z⟩
    · exact ⟨_, z⟩
/-- a law's end with the tables of its defs: xs, their names; the code object and the table of each stand in the written part -/
theorem walk_ofGT {l : PySem.W.OpenLaw} {n k : Nat} {q : Program} {loose : List Str} {XP : (Str → Option Value) → Heap → Prop} {YP : World → Heap → Prop} {d : DefRec} {K : Params → PySem.W.Frag} {sp : World → Sp} {x : Str} {ts : World → List (Str × Addr × Addr)}
    (hn : l.most = some n) (hn2 : n ≤ sizeLine) (hdf : d.params.defaults = []) (hr : Room k callerA) (hY : ∀ (w : World) (h : Heap), YP w h → (K w.params).In h)
    (ht : ∀ w, ∀ p ∈ ts w, PySem.W.codeHdIn (K w.params) p.2.1 p.2.2 = true ∧ (K w.params).lookup p.2.2 = none) (hTY : ∀ (w : World) (h : Heap), YP w h → ∀ p ∈ ts w, h.get? p.2.2 = some { cls := .none, data := .fields #[] })
    (F : ∀ (w : World) (mg : Str → Option Value) (fa : Addr) (h : Heap), (K w.params).In h → h.Ns mainGlobals mg → mg d.name = some (.ref fa) →
      ∃ fd : FuncData, (∀ (s : Shared) (u : Value), BindsTo s fd ⟨[u], []⟩ [(x, u)]) ∧ ∀ base : Heap, (K w.params).In base → base.Ns mainGlobals mg → (∀ p ∈ ts w, TabB base mg p.2.1 p.2.2) → FnG l.prog w (K w.params) mg base CX0 k fa fd [x] (sp w))
    (hsp : ∀ (w : World) (H : Hp) (a : Addr) (ns : List Int), ns.length ≤ n → (∀ z ∈ ns, Builtin.Int.intBits z ≤ 1048576) → (∀ p ∈ ts w, H p.2.2 = some (.tbl #[])) → SqL (K w.params) H a (ns.map V.int) → sp w [.ref a] H (fun v _ => v = .bl true) fun _ _ _ => False) :
    PySem.W.WalkO q loose XP YP l.row.toRowW d [] (fun f vs => PySem.call f vs) := by
  refine Att.attach_callB hn hdf fun w s₀ s₁ mg mb fa o pm cd doc a vs ns G Y ho hd hcd hmg hobj hints hlen hbits hg => ?_
  have KX := hY w _ Y
  obtain ⟨fd, hb, hF⟩ := F w mg fa _ KX G.T.g hmg
  have tab : ∀ p ∈ (ts w).map (·.2), ∃ r ∈ ts w, r.2 = p := fun p m => by
    obtain ⟨r, m, e⟩ := List.mem_map.mp m
    exact ⟨r, m, e⟩
  refine law_callGT (cs := (ts w).map (·.2)) KX G.T.g G.T.b G.T.builtins G.T.nolimit hg (fun p m => ?_) (fun p m => ?_) G.T.bmain hobj hints (Nat.le_trans hlen hn2) hr (fun base b1 b2 b3 => hF base b1 b2 fun p m => b3 _ (List.mem_map.mpr ⟨p, m, rfl⟩)) hb fun H hH hS => hsp w H a ns hlen hbits (fun p m => hH _ (List.mem_map.mpr ⟨p, m, rfl⟩)) hS
  · obtain ⟨r, m2, rfl⟩ := tab p m
    exact ⟨PySem.W.codeHd_of_K KX (ht w r m2).1, hTY w _ Y r m2⟩
  · obtain ⟨r, m2, rfl⟩ := tab p m
    exact (ht w r m2).2
end K01


set_option Elab.async false
set_option maxRecDepth 100000
set_option maxHeartbeats 4000000
set_option linter.all false
namespace K01
open PySem PySem.Spec PyProof.Rows L2 GL LamX
/-! ### all that the top has written, put together -/
def ga (K : PySem.W.Frag) (x : Str) : Addr := match PySem.W.nsIn K mainGlobals x with | some (some (.ref a)) => a | _ => 0
def gB (K : PySem.W.Frag) (x : Str) : Bool := PySem.W.nsIn K mainGlobals x == some (some (.ref (ga K x)))
theorem ga_of {K : PySem.W.Frag} {x : Str} {C : Addr} (h : PySem.W.nsIn K mainGlobals x = some (some (.ref C))) : ga K x = C := by
  unfold ga
  rw [h]
def excB (K : PySem.W.Frag) (D : Addr) : Bool :=
  PySem.W.findIn K (.ref D) "__getattribute__" == some (some (.builtin "BaseException.__getattribute__")) && PySem.W.findIn K (.ref D) "__getattr__" == some none && PySem.W.subIn K (.ref D) (.type "BaseException") == some true && PySem.W.hasDictIn K D &&
  PySem.W.findIn K (.ref D) "__class__" == some (some (.builtin "object.__class__")) && PySem.W.specialIn K (.builtin "object.__class__") "__get__" == some (some (.builtin "getset_descriptor.__get__")) && PySem.W.takesIn K (.builtin "object.__class__") == some true && PySem.W.mroIn K D (.type "object") == some true
theorem excC_of {K : PySem.W.Frag} {D : Addr} (h : excB K D = true) : ExcC K D := by
  unfold excB at h
  simp only [Bool.and_eq_true, beq_iff_eq] at h
  exact ⟨h.1.1.1.1.1.1.1, h.1.1.1.1.1.1.2, h.1.1.1.1.1.2, h.1.1.1.1.2, h.1.1.1.2, h.1.1.2, h.1.2, h.2⟩
theorem mk_x {P : Program} {w : World} {K : PySem.W.Frag} {mg : Str → Option Value} {base : Heap} {C f c cc : Addr} {fld x : Str}
    (hC : PySem.W.nsIn K mainGlobals x = some (some (.ref C))) (C0' : ExcC K (ga K x)) (mgS : mg "super" = none)
    {nm q : Str} {N : Addr} {bs bm : List Value} {sn : List Str} {sub : List Value} {ab : Bool} {col : Option Bool} {dd : Option Addr} {m0 m1 m2 m3 m5 : Option Value}
    (xL : K.lookup C = some (excClassObj nm q C N bs bm true sn sub ab col dd m0 m1 m2 m3 m5 "ValueError.__new__")) (rb : PySem.HandSPX.refsVE bm = true)
    (sa : PySem.W.findIn K (.ref C) "__setattr__" = some (some (.builtin "object.__setattr__"))) (tC : PySem.W.typeIn K (.ref C) = some (.type "type")) (kC : PySem.W.keepIn K (.ref C) = true)
    (no : PySem.W.findIn K (.ref C) fld = some none) (ini : PySem.W.findIn K (.ref C) "__init__" = some (some (.ref f))) (tI : PySem.W.typeIn K (.ref f) = some (.type "function"))
    {qual : Str} {params : Arguments} {scope : Scope} {doc pm ct oc : Value} {an od : Option Addr} {osl : Array (Option Value)} {msg : Str} {kk : Nat} {p0 p1 p2 p3 p4 p5 p6 p7 p8 p9 : Pos}
    (lk : K.lookup f = some ⟨oc, od, .func (PySem.W.ksFn "__init__" qual params
      [.Expr (.Call (.Attribute (.Call (.Name "super" p0) [] [] p1) "__init__" p2) [.Constant (.str msg) kk p5] [] p3) p4, .Assign [.Attribute (.Name "self" p6) fld p7] (.Name fld p8) p9] scope .none .none doc pm an (.ref c) ct cc), osl⟩)
    (hcd : PySem.W.codeIn K (.ref c) qual = true)
    (lc : ∃ ccl cdd vs ccs file tf, K.lookup c = some ⟨ccl, cdd, .fields vs, ccs⟩ ∧ vs[2]? = some (.str file tf) ∧ ((P.main.file : Str) == file) = true)
    (lcell : ∃ cl cld csl, K.lookup cc = some ⟨cl, cld, .cell (some (.ref C)), csl⟩)
    (third : PySem.W.nsIn K cStatics "thirdparty.any" = some none) (mro : PySem.W.mroIn K C (.ref C) = some true) (sup : PySem.W.ks_superIn K C C "__init__" = some (some (.builtin "ValueError.__init__"))) (ve : PySem.W.subIn K (.ref C) (.type "ValueError") = some true)
    (top : (P.main.scope.names.lookup ("super" : Str)).isSome = false) (hs : ∃ ar, (params.posonlyargs ++ params.args).head? = some ar ∧ ar.arg = "self")
    (hS : NdefX.nscB ["self", fld, "__class__"] ["self", fld] ["__class__"] scope = true) (h1 : scope.names.lookup ("super" : Str) = some .globalImplicit) (hdb : (fld == ("__debug__" : Str)) = false) (hdc : (fld == ("__classdict__" : Str)) = false) {pl : Sem Bool}
    (hev : ∀ L : Addr, eval (.Call (.Attribute (.Call (.Name "super" p0) [] [] p1) "__init__" p2) [.Constant (.str msg) kk p5] [] p3) (PySem.W.envX qual scope L f (.ref c) [("__class__", cc)]) = (do
      let ov ← attributeBase (.Call (.Name "super" p0) [] [] p1) "__init__" (PySem.W.envX qual scope L f (.ref c) [("__class__", cc)]) (eval (.Call (.Name "super" p0) [] [] p1) (PySem.W.envX qual scope L f (.ref c) [("__class__", cc)]))
      standAt p2.atName
      let (fn, first) ← holding [ov] (getMethod ov "__init__" pl)
      callWith p3 fn first (backTo p3 (starEach [.Constant (.str msg) kk p5] (PySem.W.envX qual scope L f (.ref c) [("__class__", cc)]))) []))
    (hin : ∀ L : Addr, interactive (PySem.W.envX qual scope L f (.ref c) [("__class__", cc)]) = false)
    (hsn : ∀ L : Addr, swapsWith (.Call (.Attribute (.Call (.Name "super" p0) [] [] p1) "__init__" p2) [.Constant (.str msg) kk p5] [] p3) none p4.line (PySem.W.envX qual scope L f (.ref c) [("__class__", cc)]) = pure false)
    (hsw : ∀ L : Addr, swapsWith (.Name fld p8) (some (.Attribute (.Name "self" p6) fld p7)) p9.line (PySem.W.envX qual scope L f (.ref c) [("__class__", cc)]) = pure false)
    (bind : ∀ (s : Shared) (u v : Value), BindsTo s (PySem.W.ksFn "__init__" qual params
      [.Expr (.Call (.Attribute (.Call (.Name "super" p0) [] [] p1) "__init__" p2) [.Constant (.str msg) kk p5] [] p3) p4, .Assign [.Attribute (.Name "self" p6) fld p7] (.Name fld p8) p9] scope .none .none doc pm an (.ref c) ct cc) ⟨[u, v], []⟩ [("self", u), (fld, v)])
    (bindK : ∀ (s : Shared) (u v : Value), BindsTo s (PySem.W.ksFn "__init__" qual params
      [.Expr (.Call (.Attribute (.Call (.Name "super" p0) [] [] p1) "__init__" p2) [.Constant (.str msg) kk p5] [] p3) p4, .Assign [.Attribute (.Name "self" p6) fld p7] (.Name fld p8) p9] scope .none .none doc pm an (.ref c) ct cc) ⟨[u], [(fld, v)]⟩ [("self", u), (fld, v)]) :
    (∃ fI fd, XCls P w K mg base (ga K x) fI fd fld) ∧ XGet K (ga K x) fld := by
  have C0 : ExcC K C := by rw [← ga_of hC]; exact C0'
  rw [ga_of hC]
  have T : OexC K C := ⟨⟨_, _, _, _, _, _, _, _, _, _, _, _, _, _, _, xL, rb⟩, sa, C0.hs, tC, kC⟩
  obtain ⟨cd, hcls, _⟩ := PySem.W.any_some C0.hd
  obtain ⟨ar, ha1, ha2⟩ := hs
  have S : SupDef P K mg C f c cc := ⟨⟨_, _, _, _, ar, lk, ha1, ha2⟩, lc, lcell, ⟨cd, hcls⟩, top, third, mro, sup, ve, mgS⟩
  exact ⟨⟨f, _, ⟨T, ini, tI, ok_initx ⟨T, no⟩ S lk hcd hS h1 hdb hdc hev hin hsn hsw, bind, bindK⟩⟩, ⟨C0, no⟩⟩

/-- the written part has the def that the top names x, as the row's text has it -/
def Has (K : PySem.W.Frag) (x : Str) (st : Stmt) : Prop := ∃ (f : Addr) (fd : FuncData), PySem.W.nsIn K mainGlobals x = some (some (.ref f)) ∧ Fun K x x st f fd
theorem has_mk {K : PySem.W.Frag} {x : Str} {st : Stmt} {f : Addr} {oc : Value} {od an : Option Addr} {osl : Array (Option Value)} {kV doc pm cdv ct : Value} (a : PySem.W.nsIn K mainGlobals x = some (some (.ref f)))
    (l : K.lookup f = some ⟨oc, od, .func (PySem.W.fnOf x x (defArgs st) (defBody st) (defScope st) .none kV doc pm an cdv ct), osl⟩) (c : PySem.W.codeIn K cdv x = true) (k : PySem.W.keepIn K (.ref f) = true) : Has K x st := ⟨f, _, a, fun_mk l c k⟩
/-- the table of the def that the top names x, and its code object -/
def tb (K : PySem.W.Frag) (x : Str) : Addr × Addr := (PySem.W.tabIn K x).getD (0, 0)
def tbB (K : PySem.W.Frag) (x : Str) : Bool := PySem.W.tabIn K x == some (tb K x) && (K.lookup (tb K x).2).isNone && PySem.W.codeHdIn K (tb K x).1 (tb K x).2
theorem tb_of {K : PySem.W.Frag} {x : Str} (h : tbB K x = true) : PySem.W.tabIn K x = some (tb K x) ∧ K.lookup (tb K x).2 = none ∧ PySem.W.codeHdIn K (tb K x).1 (tb K x).2 = true := by
  unfold tbB at h
  rw [Bool.and_eq_true, Bool.and_eq_true, beq_iff_eq, Option.isNone_iff_eq_none, and_assoc] at h
  exact h
/-- .. and its code object is known -/
theorem Has.code {K : PySem.W.Frag} {x : Str} {st : Stmt} (h : Has K x st) (t : tbB K x = true) : ∃ (f : Addr) (fd : FuncData), PySem.W.nsIn K mainGlobals x = some (some (.ref f)) ∧ FunC K x x st f fd (tb K x).1 := by
  obtain ⟨f, fd, a, ⟨⟨oc, od, kV, doc, pm, an, cdv, ct, osl, rfl, lk, hcd⟩, kp⟩⟩ := h
  have t1 := (tb_of t).1
  unfold PySem.W.tabIn at t1
  rw [a] at t1
  dsimp only at t1
  rw [lk] at t1
  dsimp only [PySem.W.fnOf] at t1
  cases cdv with
  | ref c =>
    dsimp only at t1
    have e : (tb K x).1 = c := by
      split at t1
      · split at t1
        · exact (congrArg Prod.fst (Option.some.inj t1)).symm
        · cases t1
      · cases t1
    rw [e]
    exact ⟨f, _, a, ⟨⟨oc, od, kV, doc, pm, an, ct, osl, rfl, lk, hcd⟩, kp⟩⟩
  | _ => cases t1
/-- a method that the class named x has -/
def HasM (K : PySem.W.Frag) (C : Addr) (m qual : Str) (st : Stmt) : Prop := ∃ (f : Addr) (fd : FuncData), PySem.W.findIn K (.ref C) m = some (some (.ref f)) ∧ PySem.W.isFn K (.ref f) = true ∧ Fun K m qual st f fd
theorem hasm_mk {K : PySem.W.Frag} {C : Addr} {x m qual : Str} {st : Stmt} {f : Addr} {oc : Value} {od an : Option Addr} {osl : Array (Option Value)} {kV doc pm cdv ct : Value} (n : PySem.W.nsIn K mainGlobals x = some (some (.ref C))) (a : PySem.W.findIn K (.ref C) m = some (some (.ref f))) (i : PySem.W.isFn K (.ref f) = true)
    (l : K.lookup f = some ⟨oc, od, .func (PySem.W.fnOf m qual (defArgs st) (defBody st) (defScope st) .none kV doc pm an cdv ct), osl⟩) (c : PySem.W.codeIn K cdv qual = true) (k : PySem.W.keepIn K (.ref f) = true) : HasM K (ga K x) m qual st := by rw [ga_of n]; exact ⟨f, _, a, i, fun_mk l c k⟩

def frees : List Str := ["abs", "int", "len", "isinstance", "range", "repr", "tuple", "list", "min", "all", "bool", "super", "zip", "sum", "enumerate"]
theorem free_at {K : PySem.W.Frag} {h : Heap} {mg : Str → Option Value} (X : K.In h) (G : h.Ns mainGlobals mg) (z : (frees.all fun x => PySem.W.nsIn K mainGlobals x == some none) = true) (x : Str) (m : x ∈ frees) : mg x = none :=
  PySem.W.mg_none_of X G (beq_iff_eq.mp (List.all_eq_true.mp z x m))
/-- what is told of an error that is caught -/
def badB (K : PySem.W.Frag) (x : Str) : Bool := gB K x && PySem.W.exmOne K (.ref (ga K x)) (.ref (ga K "WebError")) == some true && PySem.W.kitOne K (.ref (ga K x)) (.ref (ga K x)) == some true && PySem.W.kitOne K (.type "NoneType") (.ref (ga K x)) == some false
def plxB (K : PySem.W.Frag) (x : Str) : Bool := PySem.W.excIn K (ga K x) [.type "ValueError", .type "Exception", .type "BaseException", .type "object"] "ValueError.__new__" && PySem.W.keepIn K (.ref (ga K x)) && PySem.W.subIn K (.ref (ga K x)) (.type "BaseException") == some true && PySem.W.typeIn K (.ref (ga K x)) == some (.type "type")
theorem plx_of {K : PySem.W.Frag} {mg : Str → Option Value} {x : Str} (g : mg x = some (.ref (ga K x))) (h : plxB K x = true) : PlX K mg x (ga K x) := by
  unfold plxB at h
  simp only [Bool.and_eq_true, beq_iff_eq] at h
  exact ⟨h.1.1.1, g, h.1.1.2, h.1.2, h.2⟩
/-- what is told of Table -/
def tabB (K : PySem.W.Frag) (CN : Addr) : Bool := gB K "Table" && PySem.W.plainGet K CN Str.empty && PySem.W.hasDictIn K CN && PySem.W.plainOver K CN && PySem.W.findIn K (.ref CN) "__setattr__" == some (some (.builtin "object.__setattr__")) &&
  PySem.W.findIn K (.ref CN) "prime" == some none && PySem.W.findIn K (.ref CN) "tall" == some none && PySem.W.findIn K (.ref CN) "wide" == some none && PySem.W.findIn K (.ref CN) "lines" == some none && PySem.W.findIn K (.ref CN) "__ne__" == some (some (.builtin "object.__ne__")) && PySem.W.subIn K (.ref CN) (.type "object") == some true &&
  PySem.W.findIn K (.ref CN) "__class__" == some (some (.builtin "object.__class__")) && PySem.W.specialIn K (.builtin "object.__class__") "__get__" == some (some (.builtin "getset_descriptor.__get__")) && PySem.W.takesIn K (.builtin "object.__class__") == some true &&
  PySem.W.mroIn K CN (.type "object") == some true && PySem.W.kitOne K (.ref CN) (.ref CN) == some true && PySem.W.makesIn K CN && PySem.W.keepIn K (.ref CN) && PySem.W.kitOne K (.type "NoneType") (.ref CN) == some false && PySem.W.kitOne K (.type "list") (.ref CN) == some false
def nmOf (x : Str) : Str := x ++ ".<locals>." ++ "<lambda>"
def nm5 : List Str := ["_law_products_right", "_law_lists_right", "_law_primes_right", "_law_refused", "law"]
def tabsOf (K : PySem.W.Frag) : List (Str × Addr × Addr) := nm5.map fun x => (x, tb K x)
def TT (K : PySem.W.Frag) : List (Addr × Str) := nm5.map fun x => ((tb K x).2, nmOf x)
def apB (K : PySem.W.Frag) : Bool := nm5.all fun x => nm5.all fun y => x == y || (tb K x).2 != (tb K y).2
theorem tt_of {K : PySem.W.Frag} {H : Hp} (h : ∀ p ∈ tabsOf K, H p.2.2 = some (.tbl #[])) : Tabs (TT K) H := fun p m => by
  obtain ⟨x, mx, rfl⟩ := List.mem_map.mp m
  exact TabS.nil (h (x, tb K x) (List.mem_map.mpr ⟨x, mx, rfl⟩))
theorem tc_of {K : PySem.W.Frag} {base : Heap} {mg : Str → Option Value} (ap : apB K = true) (TB : ∀ p ∈ tabsOf K, TabB base mg p.2.1 p.2.2) {x : Str} (mx : x ∈ nm5) : Tc base mg (TT K) x (tb K x).1 (tb K x).2 where
  TB := TB (x, tb K x) (List.mem_map.mpr ⟨x, mx, rfl⟩)
  mem := List.mem_map.mpr ⟨x, mx, rfl⟩
  uq := fun p m e => by
    obtain ⟨y, my, rfl⟩ := List.mem_map.mp m
    have z := List.all_eq_true.mp (List.all_eq_true.mp ap x mx) y my
    rw [Bool.or_eq_true, beq_iff_eq, bne_iff_ne] at z
    rcases z with z | z
    · rw [z]
      rfl
    · exact absurd e.symm z
theorem mx5 (x : Str) (h : nm5.contains x = true) : x ∈ nm5 := List.contains_iff_mem.mp h

theorem all_mk {l : PySem.W.OpenLaw} {w : World} {K : PySem.W.Frag} {h : Heap} {mg : Str → Option Value} {fa : Addr} (X : K.In h) (G : h.Ns mainGlobals mg) (hfa : mg "law" = some (.ref fa))
    (z : (frees.all fun x => PySem.W.nsIn K mainGlobals x == some none) = true) (gw : gB K "WebError" = true) (hB : badB K "BadTable" = true) (hP : badB K "BadPrime" = true) (hN : badB K "BadNumber" = true) (eB : excB K (ga K "BadTable") = true) (eP : excB K (ga K "BadPrime") = true)
    (xB : plxB K "BadTable" = true) (xP : plxB K "BadPrime" = true) (hT : tabB K (ga K "Table") = true) (tbs : (nm5.all fun x => tbB K x) = true) (ap : apB K = true)
    {tk : Nat} (mG : PySem.W.nsIn K mainGlobals "GREATEST" = some (some (.int 60 tk)))
    (mP : ∃ (aP : Addr) (o : Obj) (its : Array Value) (n : Nat), PySem.W.nsIn K mainGlobals "PRIMES" = some (some (.ref aP)) ∧ K.lookup aP = some o ∧ o.cls = .type "tuple" ∧ o.data = .seq its n ∧ its.size ≤ sizeLine ∧ Vals (primes.map V.int) its.toList)
    (hx : ∀ (base : Heap), mg "super" = none → (∃ fI fd, XCls l.prog w K mg base (ga K "BadNumber") fI fd "part") ∧ XGet K (ga K "BadNumber") "part")
    (hI : HasM K (ga K "Table") "__init__" "Table.__init__" sTabInit) (hE : HasM K (ga K "Table") "__eq__" "Table.__eq__" sTabEq)
    (h1 : Has K "is_number" sIsNum) (h2 : Has K "is_number_to" sIsNumTo) (h3 : Has K "is_list" sIsList) (h12 : Has K "is_prime" sIsPrime) (h13 : Has K "check_prime" sCheckP) (h14 : Has K "_are_lines" sLines) (h16 : Has K "check_table" sCheckT) (h17 : Has K "columns_of" sCols) (h18 : Has K "times" sTimes) (h19 : Has K "_check_alike" sAlike) (h20 : Has K "plus" sPlus) (h21 : Has K "minus" sMinus) (h22 : Has K "scaled" sScaled) (h23 : Has K "check_size" sSize) (h24 : Has K "plain" sPlain) (h25 : Has K "empty" sEmpty) (h26 : Has K "across" sAcross) (h27 : Has K "_check_tables" sChkTs) (h28 : Has K "beside" sBeside) (h29 : Has K "over" sOver) (h30 : Has K "corner" sCorner) (h32 : Has K "_law_begun" sBegun) (h33 : Has K "_law_mixed" sMixed) (h34 : Has K "_law_take" sTake) (h35 : Has K "_law_pick" sPick) (h36 : Has K "_law_field" sField) (h37 : Has K "_law_lists" sLists) (h38 : Has K "_law_product" sProduct) (h39 : Has K "_law_unit" sUnit) (h40 : Has K "_law_caught" sCaught) (h41 : Has K "_law_size" sSizeL) (h42 : Has K "_law_wild" sWild) (h43 : Has K "_law_shows" sShows) (h44 : Has K "_law_turned" sTurned) (h45 : Has K "_law_rests" sRests) (h46 : Has K "_law_is_bad" sIsBad) (h49 : Has K "_law_is_prime" sPrimeL) (h51 : Has K "_law_unequal" sUnequal) (h47 : Has K "_law_products_right" sPrR) (h48 : Has K "_law_lists_right" sLiR) (h50 : Has K "_law_primes_right" sPrimesR) (h52 : Has K "_law_refused" sRf) (h53 : Has K "law" sLaw) :
    ∃ fd : FuncData, (∀ (s : Shared) (v : Value), BindsTo s fd ⟨[v], []⟩ [("script", v)]) ∧ ∀ base : Heap, K.In base → base.Ns mainGlobals mg → (∀ p ∈ tabsOf K, TabB base mg p.2.1 p.2.2) → FnG l.prog w K mg base CX0 11 fa fd ["script"] (spLaw K (TT K)) := by
  obtain ⟨f1, d1, a1, F1⟩ := h1
  obtain ⟨f2, d2, a2, F2⟩ := h2
  obtain ⟨f3, d3, a3, F3⟩ := h3
  obtain ⟨f12, d12, a12, F12⟩ := h12
  obtain ⟨f13, d13, a13, F13⟩ := h13
  obtain ⟨f14, d14, a14, F14⟩ := h14
  obtain ⟨f16, d16, a16, F16⟩ := h16
  obtain ⟨f17, d17, a17, F17⟩ := h17
  obtain ⟨f18, d18, a18, F18⟩ := h18
  obtain ⟨f19, d19, a19, F19⟩ := h19
  obtain ⟨f20, d20, a20, F20⟩ := h20
  obtain ⟨f21, d21, a21, F21⟩ := h21
  obtain ⟨f22, d22, a22, F22⟩ := h22
  obtain ⟨f23, d23, a23, F23⟩ := h23
  obtain ⟨f24, d24, a24, F24⟩ := h24
  obtain ⟨f25, d25, a25, F25⟩ := h25
  obtain ⟨f26, d26, a26, F26⟩ := h26
  obtain ⟨f27, d27, a27, F27⟩ := h27
  obtain ⟨f28, d28, a28, F28⟩ := h28
  obtain ⟨f29, d29, a29, F29⟩ := h29
  obtain ⟨f30, d30, a30, F30⟩ := h30
  obtain ⟨f32, d32, a32, F32⟩ := h32
  obtain ⟨f33, d33, a33, F33⟩ := h33
  obtain ⟨f34, d34, a34, F34⟩ := h34
  obtain ⟨f35, d35, a35, F35⟩ := h35
  obtain ⟨f36, d36, a36, F36⟩ := h36
  obtain ⟨f37, d37, a37, F37⟩ := h37
  obtain ⟨f38, d38, a38, F38⟩ := h38
  obtain ⟨f39, d39, a39, F39⟩ := h39
  obtain ⟨f40, d40, a40, F40⟩ := h40
  obtain ⟨f41, d41, a41, F41⟩ := h41
  obtain ⟨f42, d42, a42, F42⟩ := h42
  obtain ⟨f43, d43, a43, F43⟩ := h43
  obtain ⟨f44, d44, a44, F44⟩ := h44
  obtain ⟨f45, d45, a45, F45⟩ := h45
  obtain ⟨f46, d46, a46, F46⟩ := h46
  obtain ⟨f49, d49, a49, F49⟩ := h49
  obtain ⟨f51, d51, a51, F51⟩ := h51
  obtain ⟨f47, d47, a47, F47⟩ := h47.code (List.all_eq_true.mp tbs "_law_products_right" (mx5 _ (by decide +kernel)))
  obtain ⟨f48, d48, a48, F48⟩ := h48.code (List.all_eq_true.mp tbs "_law_lists_right" (mx5 _ (by decide +kernel)))
  obtain ⟨f50, d50, a50, F50⟩ := h50.code (List.all_eq_true.mp tbs "_law_primes_right" (mx5 _ (by decide +kernel)))
  obtain ⟨f52, d52, a52, F52⟩ := h52.code (List.all_eq_true.mp tbs "_law_refused" (mx5 _ (by decide +kernel)))
  obtain ⟨f53, d53, a53, F53⟩ := h53.code (List.all_eq_true.mp tbs "law" (mx5 _ (by decide +kernel)))
  obtain ⟨fi, di, ai, ii, Fi⟩ := hI
  obtain ⟨fe, de, ae, ie, Fe⟩ := hE
  obtain ⟨aP, oP, itsP, nP, aPg, lP, cP, dP, sP, vP⟩ := mP
  have e := hfa.symm.trans (PySem.W.mg_of X G a53)
  cases e
  have fr := free_at X G z
  have mAbs := fr "abs" (by decide +kernel)
  have mInt := fr "int" (by decide +kernel)
  have mLen := fr "len" (by decide +kernel)
  have mIs := fr "isinstance" (by decide +kernel)
  have mRa := fr "range" (by decide +kernel)
  have mRe := fr "repr" (by decide +kernel)
  have mTup := fr "tuple" (by decide +kernel)
  have mList := fr "list" (by decide +kernel)
  have mMin := fr "min" (by decide +kernel)
  have mAll := fr "all" (by decide +kernel)
  have mBo := fr "bool" (by decide +kernel)
  have mZ := fr "zip" (by decide +kernel)
  have mSum := fr "sum" (by decide +kernel)
  have mEn := fr "enumerate" (by decide +kernel)
  have b1 : L2.Binds K d1 ["thing"] [] := F1.binds (ps := ["thing"]) fun _ _ _ _ _ _ us hl => match us, hl with | [_], _ => rfl
  have b2 : L2.Binds K d2 ["thing", "most"] [] := F2.binds (ps := ["thing", "most"]) fun _ _ _ _ _ _ us hl => match us, hl with | [_, _], _ => rfl
  have b3 : L2.Binds K d3 ["thing"] [] := F3.binds (ps := ["thing"]) fun _ _ _ _ _ _ us hl => match us, hl with | [_], _ => rfl
  have b12 : L2.Binds K d12 ["thing"] [] := F12.binds (ps := ["thing"]) fun _ _ _ _ _ _ us hl => match us, hl with | [_], _ => rfl
  have b13 : L2.Binds K d13 ["prime"] [] := F13.binds (ps := ["prime"]) fun _ _ _ _ _ _ us hl => match us, hl with | [_], _ => rfl
  have b14 : L2.Binds K d14 ["thing", "tall", "wide"] [] := F14.binds (ps := ["thing", "tall", "wide"]) fun _ _ _ _ _ _ us hl => match us, hl with | [_, _, _], _ => rfl
  have b16 : L2.Binds K d16 ["one"] [] := F16.binds (ps := ["one"]) fun _ _ _ _ _ _ us hl => match us, hl with | [_], _ => rfl
  have b17 : L2.Binds K d17 ["one"] [] := F17.binds (ps := ["one"]) fun _ _ _ _ _ _ us hl => match us, hl with | [_], _ => rfl
  have b18 : L2.Binds K d18 ["one", "two"] [] := F18.binds (ps := ["one", "two"]) fun _ _ _ _ _ _ us hl => match us, hl with | [_, _], _ => rfl
  have b19 : L2.Binds K d19 ["one", "two"] [] := F19.binds (ps := ["one", "two"]) fun _ _ _ _ _ _ us hl => match us, hl with | [_, _], _ => rfl
  have b20 : L2.Binds K d20 ["one", "two"] [] := F20.binds (ps := ["one", "two"]) fun _ _ _ _ _ _ us hl => match us, hl with | [_, _], _ => rfl
  have b21 : L2.Binds K d21 ["one", "two"] [] := F21.binds (ps := ["one", "two"]) fun _ _ _ _ _ _ us hl => match us, hl with | [_, _], _ => rfl
  have b22 : L2.Binds K d22 ["one", "number"] [] := F22.binds (ps := ["one", "number"]) fun _ _ _ _ _ _ us hl => match us, hl with | [_, _], _ => rfl
  have b23 : L2.Binds K d23 ["thing", "part"] [] := F23.binds (ps := ["thing", "part"]) fun _ _ _ _ _ _ us hl => match us, hl with | [_, _], _ => rfl
  have b24 : L2.Binds K d24 ["prime", "size"] [] := F24.binds (ps := ["prime", "size"]) fun _ _ _ _ _ _ us hl => match us, hl with | [_, _], _ => rfl
  have b25 : L2.Binds K d25 ["prime", "tall", "wide"] [] := F25.binds (ps := ["prime", "tall", "wide"]) fun _ _ _ _ _ _ us hl => match us, hl with | [_, _, _], _ => rfl
  have b26 : L2.Binds K d26 ["one"] [] := F26.binds (ps := ["one"]) fun _ _ _ _ _ _ us hl => match us, hl with | [_], _ => rfl
  have b27 : L2.Binds K d27 ["tables"] [] := F27.binds (ps := ["tables"]) fun _ _ _ _ _ _ us hl => match us, hl with | [_], _ => rfl
  have b28 : L2.Binds K d28 ["tables"] [] := F28.binds (ps := ["tables"]) fun _ _ _ _ _ _ us hl => match us, hl with | [_], _ => rfl
  have b29 : L2.Binds K d29 ["tables"] [] := F29.binds (ps := ["tables"]) fun _ _ _ _ _ _ us hl => match us, hl with | [_], _ => rfl
  have b30 : L2.Binds K d30 ["tables"] [] := F30.binds (ps := ["tables"]) fun _ _ _ _ _ _ us hl => match us, hl with | [_], _ => rfl
  have b32 : L2.Binds K d32 ["script"] [] := F32.binds (ps := ["script"]) fun _ _ _ _ _ _ us hl => match us, hl with | [_], _ => rfl
  have b33 : L2.Binds K d33 ["draw"] [] := F33.binds (ps := ["draw"]) fun _ _ _ _ _ _ us hl => match us, hl with | [_], _ => rfl
  have b34 : L2.Binds K d34 ["draw", "amount"] [] := F34.binds (ps := ["draw", "amount"]) fun _ _ _ _ _ _ us hl => match us, hl with | [_, _], _ => rfl
  have b35 : L2.Binds K d35 ["draw", "some"] [] := F35.binds (ps := ["draw", "some"]) fun _ _ _ _ _ _ us hl => match us, hl with | [_, _], _ => rfl
  have b36 : L2.Binds K d36 ["draw"] [] := F36.binds (ps := ["draw"]) fun _ _ _ _ _ _ us hl => match us, hl with | [_], _ => rfl
  have b37 : L2.Binds K d37 ["draw", "field", "tall", "wide"] [] := F37.binds (ps := ["draw", "field", "tall", "wide"]) fun _ _ _ _ _ _ us hl => match us, hl with | [_, _, _, _], _ => rfl
  have b38 : L2.Binds K d38 ["field", "one", "two", "wide"] [] := F38.binds (ps := ["field", "one", "two", "wide"]) fun _ _ _ _ _ _ us hl => match us, hl with | [_, _, _, _], _ => rfl
  have b39 : L2.Binds K d39 ["size"] [] := F39.binds (ps := ["size"]) fun _ _ _ _ _ _ us hl => match us, hl with | [_], _ => rfl
  have b40 : L2.Binds K d40 ["work"] [] := F40.binds (ps := ["work"]) fun _ _ _ _ _ _ us hl => match us, hl with | [_], _ => rfl
  have b41 : L2.Binds K d41 ["draw"] [] := F41.binds (ps := ["draw"]) fun _ _ _ _ _ _ us hl => match us, hl with | [_], _ => rfl
  have b42 : L2.Binds K d42 ["draw", "field", "tall", "wide"] [] := F42.binds (ps := ["draw", "field", "tall", "wide"]) fun _ _ _ _ _ _ us hl => match us, hl with | [_, _, _, _], _ => rfl
  have b43 : L2.Binds K d43 ["table", "field", "tall", "wide", "some"] [] := F43.binds (ps := ["table", "field", "tall", "wide", "some"]) fun _ _ _ _ _ _ us hl => match us, hl with | [_, _, _, _, _], _ => rfl
  have b44 : L2.Binds K d44 ["some", "wide"] [] := F44.binds (ps := ["some", "wide"]) fun _ _ _ _ _ _ us hl => match us, hl with | [_, _], _ => rfl
  have b45 : L2.Binds K d45 ["field", "some"] [] := F45.binds (ps := ["field", "some"]) fun _ _ _ _ _ _ us hl => match us, hl with | [_, _], _ => rfl
  have b46 : L2.Binds K d46 ["work"] [] := F46.binds (ps := ["work"]) fun _ _ _ _ _ _ us hl => match us, hl with | [_], _ => rfl
  have b49 : L2.Binds K d49 ["number"] [] := F49.binds (ps := ["number"]) fun _ _ _ _ _ _ us hl => match us, hl with | [_], _ => rfl
  have b51 : L2.Binds K d51 ["field"] [] := F51.binds (ps := ["field"]) fun _ _ _ _ _ _ us hl => match us, hl with | [_], _ => rfl
  have b47 : L2.Binds K d47 ["draw", "field"] [] := F47.f.binds (ps := ["draw", "field"]) fun _ _ _ _ _ _ us hl => match us, hl with | [_, _], _ => rfl
  have b48 : L2.Binds K d48 ["draw", "field"] [] := F48.f.binds (ps := ["draw", "field"]) fun _ _ _ _ _ _ us hl => match us, hl with | [_, _], _ => rfl
  have b50 : L2.Binds K d50 ["draw"] [] := F50.f.binds (ps := ["draw"]) fun _ _ _ _ _ _ us hl => match us, hl with | [_], _ => rfl
  have b52 : L2.Binds K d52 ["draw", "field"] [] := F52.f.binds (ps := ["draw", "field"]) fun _ _ _ _ _ _ us hl => match us, hl with | [_, _], _ => rfl
  have b53 : L2.Binds K d53 ["script"] [] := F53.f.binds (ps := ["script"]) fun _ _ _ _ _ _ us hl => match us, hl with | [_], _ => rfl
  have g1 := PySem.W.mg_of X G a1
  have g2 := PySem.W.mg_of X G a2
  have g3 := PySem.W.mg_of X G a3
  have g12 := PySem.W.mg_of X G a12
  have g13 := PySem.W.mg_of X G a13
  have g14 := PySem.W.mg_of X G a14
  have g16 := PySem.W.mg_of X G a16
  have g17 := PySem.W.mg_of X G a17
  have g18 := PySem.W.mg_of X G a18
  have g19 := PySem.W.mg_of X G a19
  have g20 := PySem.W.mg_of X G a20
  have g21 := PySem.W.mg_of X G a21
  have g22 := PySem.W.mg_of X G a22
  have g23 := PySem.W.mg_of X G a23
  have g24 := PySem.W.mg_of X G a24
  have g25 := PySem.W.mg_of X G a25
  have g26 := PySem.W.mg_of X G a26
  have g27 := PySem.W.mg_of X G a27
  have g28 := PySem.W.mg_of X G a28
  have g29 := PySem.W.mg_of X G a29
  have g30 := PySem.W.mg_of X G a30
  have g32 := PySem.W.mg_of X G a32
  have g33 := PySem.W.mg_of X G a33
  have g34 := PySem.W.mg_of X G a34
  have g35 := PySem.W.mg_of X G a35
  have g36 := PySem.W.mg_of X G a36
  have g37 := PySem.W.mg_of X G a37
  have g38 := PySem.W.mg_of X G a38
  have g39 := PySem.W.mg_of X G a39
  have g40 := PySem.W.mg_of X G a40
  have g41 := PySem.W.mg_of X G a41
  have g42 := PySem.W.mg_of X G a42
  have g43 := PySem.W.mg_of X G a43
  have g44 := PySem.W.mg_of X G a44
  have g45 := PySem.W.mg_of X G a45
  have g46 := PySem.W.mg_of X G a46
  have g49 := PySem.W.mg_of X G a49
  have g51 := PySem.W.mg_of X G a51
  have g47 := PySem.W.mg_of X G a47
  have g48 := PySem.W.mg_of X G a48
  have g50 := PySem.W.mg_of X G a50
  have g52 := PySem.W.mg_of X G a52
  have g53 := PySem.W.mg_of X G a53
  have bI : L2.Binds K di ["self", "prime", "tall", "wide", "lines"] [] := Fi.binds (ps := ["self", "prime", "tall", "wide", "lines"]) fun _ _ _ _ _ _ us hl => match us, hl with | [_, _, _, _, _], _ => rfl
  have bE : L2.Binds K de ["self", "other"] [] := Fe.binds (ps := ["self", "other"]) fun _ _ _ _ _ _ us hl => match us, hl with | [_, _], _ => rfl
  have gPr := PySem.W.mg_of X G aPg
  have gGr := PySem.W.mg_of X G mG
  unfold badB gB at hB hP hN
  unfold tabB gB at hT
  unfold gB at gw
  simp only [Bool.and_eq_true, beq_iff_eq] at hB hP hN hT gw
  obtain ⟨⟨⟨gB0, xmB⟩, oneB⟩, nonB⟩ := hB
  obtain ⟨⟨⟨gP0, xmP⟩, oneP⟩, nonP⟩ := hP
  obtain ⟨⟨⟨gN0, xmN⟩, oneN⟩, nonN⟩ := hN
  obtain ⟨⟨⟨⟨⟨⟨⟨⟨⟨⟨⟨⟨⟨⟨⟨⟨⟨⟨⟨gn, pg⟩, hd⟩, po⟩, sa⟩, nPr⟩, nTa⟩, nWi⟩, nLi⟩, ne⟩, ob⟩, ha⟩, hn⟩, hk⟩, hm⟩, one⟩, makes⟩, kpT⟩, noN⟩, noL⟩ := hT
  have gTab := PySem.W.mg_of X G gn
  have gBT := PySem.W.mg_of X G gB0
  have gBP := PySem.W.mg_of X G gP0
  have gBN := PySem.W.mg_of X G gN0
  have gWeb := PySem.W.mg_of X G gw
  have PB : PlX K mg "BadTable" (ga K "BadTable") := plx_of gBT xB
  have PP : PlX K mg "BadPrime" (ga K "BadPrime") := plx_of gBP xP
  have exB := excC_of eB
  have exP := excC_of eP
  clear xB xP eB eP z
  obtain ⟨CT, eT⟩ : ∃ CT, CT = ga K "Table" := ⟨_, rfl⟩
  obtain ⟨CB, eCB⟩ : ∃ CB, CB = ga K "BadTable" := ⟨_, rfl⟩
  obtain ⟨CP, eCP⟩ : ∃ CP, CP = ga K "BadPrime" := ⟨_, rfl⟩
  obtain ⟨CN, eCN⟩ : ∃ CN, CN = ga K "BadNumber" := ⟨_, rfl⟩
  obtain ⟨CW, eCW⟩ : ∃ CW, CW = ga K "WebError" := ⟨_, rfl⟩
  rw [← eT] at gTab pg hd po sa nPr nTa nWi nLi ne ob ha hm one makes kpT noN noL ai ae
  rw [← eCB] at gBT xmB oneB nonB PB exB
  rw [← eCP] at gBP xmP oneP nonP PP exP
  rw [← eCN] at gBN xmN oneN nonN hx
  rw [← eCW] at gWeb xmB xmP xmN
  have NT : TabT K mg CT := ⟨⟨pg, hd, po, sa⟩, nPr, nTa, nWi, nLi, gTab⟩
  have NE : TabE K mg CT fe := ⟨NT, ae, ie, ne, ob, ha, hn, hk, hm, one⟩
  let CO : ConT K mg := ⟨aP, tk, gPr, fun H => .inr ⟨oP, itsP, nP, lP, cP, dP, sP, vP⟩, gGr⟩
  refine ⟨d53, fun s v => ?_, fun base Kb Gb TB => ?_⟩
  · obtain ⟨oc, od, kV, doc, pm, an, cdv, ct, osl, rfl, lk, hcd⟩ := F53.f.ex
    exact .of_eq rfl
  · obtain ⟨⟨fB, dB, xc⟩, xg⟩ := hx base (fr "super" (by decide +kernel))
    have BM : BadM l.prog w K mg base CN fB dB := ⟨xc.oex, xc.ini, xc.tyI, xc.ok, fun s us _ hl => by
      match us, hl with
      | [u, v], _ => exact xc.bind s u v, gBN⟩
    have BB : BadN K CB CW := ⟨exB, xmB, oneB, nonB⟩
    have BP : BadN K CP CW := ⟨exP, xmP, oneP, nonP⟩
    have BNN : BadNN K CN CW := ⟨xg.ex, xmN, oneN, xg⟩
    have S1 := ok_isnum (P := l.prog) (w := w) (base := base) F1 mIs mInt mBo
    have S2 := ok_isnumto (P := l.prog) (w := w) (base := base) F2 S1 F1 b1 g1
    have S3 := ok_islist (P := l.prog) (w := w) (base := base) F3 mIs mList mTup
    have S12 := ok_isprime (P := l.prog) (w := w) (base := base) F12 S1 F1.kp b1 g1 CO
    have S13 := ok_checkp (P := l.prog) (w := w) (base := base) F13 S12 F12.kp b12 g12 PP
    have S14 := ok_lines (P := l.prog) (w := w) (base := base) F14 S3 F3.kp b3 g3 mIs mInt mLen
    have SM : Sml l.prog w K mg base CP CB := ⟨f13, f2, f14, d13, d2, d14, CO, S13, S2, S14, b13, b2, b14, g13, g2, g14, F13.kp, F2.kp, F14.kp, PB, mTup⟩
    have SI := ok_tabinit Fi NT SM
    have S16 := ok_checkt (P := l.prog) (w := w) (base := base) F16 PB NE mIs
    have FE := ok_tabeq (P := l.prog) (w := w) (base := base) Fe NE mIs
    let GG : Pg l.prog w K mg base CT CP CB := ⟨fe, fi, di, f16, d16, NE, ⟨makes, ai, ii, kpT⟩, SI, bI, S16, b16, g16, F16.kp⟩
    have S17 := ok_cols (P := l.prog) (w := w) (base := base) F17 NE mRa
    have S18 := ok_times F18 GG PB S17 b17 g17 F17.kp mZ mSum
    have S19 := ok_alike F19 GG PB
    have S20 := ok_plus F20 GG S19 b19 g19 F19.kp mZ
    have S21 := ok_minus F21 GG S19 b19 g19 F19.kp mZ
    have S22 := ok_scaled F22 GG S1 b1 g1 F1.kp BM
    have S23 := ok_size (P := l.prog) (w := w) (base := base) F23 S2 b2 g2 F2.kp CO BM
    let CK : Ck l.prog w K mg base CP CN := ⟨f13, d13, f23, d23, S13, b13, g13, F13.kp, S23, b23, g23, F23.kp⟩
    have S24 := ok_plain F24 GG CK mRa
    have S25 := ok_empty F25 GG CK
    have S26 := ok_across F26 GG S17 b17 g17 F17.kp
    have S27 := ok_chkts F27 GG PB S3 F3.kp b3 g3 mLen mAll
    have S28 := ok_beside F28 GG PB S27 b27 g27 F27.kp mAll mSum mRa
    have S29 := ok_over F29 GG PB S27 b27 g27 F27.kp mAll mLen
    have S30 := ok_corner F30 GG S27 b27 g27 F27.kp mSum mLen mList
    have S32 := ok_begun (P := l.prog) (w := w) (base := base) F32 mAbs
    have S34 := ok_take (P := l.prog) (w := w) (base := base) F34 F33 b33 g33 mInt
    have S35 := ok_pick (P := l.prog) (w := w) (base := base) F35 F34 b34 g34 F33 b33 g33 mInt mLen
    have S36 := ok_field (P := l.prog) (w := w) (base := base) F36 S35 b35 g35 F35.kp
    have S37 := ok_lists (P := l.prog) (w := w) (base := base) F37 S34 b34 g34 F34.kp mRa
    have S38 := ok_product (P := l.prog) (w := w) (base := base) F38 mEn mZ
    have S39 := ok_unit (P := l.prog) (w := w) (base := base) F39 mRa mInt
    have S41 := ok_sizel (P := l.prog) (w := w) (base := base) F41 S35 b35 g35 F35.kp
    have S42 := ok_wild (P := l.prog) (w := w) (base := base) F42 S34 b34 g34 F34.kp S37 b37 g37 F37.kp
    have S43 := ok_shows (fE := fe) F43 GG FE bE mRe mTup mIs
    have S44 := ok_turned (P := l.prog) (w := w) (base := base) F44 mRa
    have S45 := ok_rests (P := l.prog) (w := w) (base := base) (mg := mg) F45
    have S49 := ok_primel (P := l.prog) (w := w) (base := base) F49 mRa
    have S51 := ok_unequal F51 GG FE bE
    have TC := caught_takes (P := l.prog) (w := w) (base := base) F40 b40 gWeb
    have TCW := caught_takesW (P := l.prog) (w := w) (base := base) F40 b40 gWeb
    have TI := isbad_takes (P := l.prog) (w := w) (base := base) F46 b46 TC g40 F40.kp gBT BB mIs
    have TIW := isbad_takesW (P := l.prog) (w := w) (base := base) F46 b46 TCW g40 F40.kp gBT BB mIs
    let LN : Ln l.prog w K mg base CB CP CW := ⟨f34, d34, S34, b34, g34, F34.kp, f35, d35, S35, b35, g35, F35.kp, f40, TC, g40, F40.kp, f46, TI, TIW, g46, F46.kp, BB, BP, gBT, gBP, mIs, mRa⟩
    let AL : Al l.prog w K mg base CT CP CB CN CW :=
      { G := GG, dE := de, FE := FE, bE := bE, N := LN
        ti := ⟨f18, d18, S18, b18, kb2 F18 fun _ _ _ _ _ _ _ _ => ⟨rfl, rfl, rfl⟩, g18, F18.kp⟩
        pl := ⟨f20, d20, S20, b20, kb2 F20 fun _ _ _ _ _ _ _ _ => ⟨rfl, rfl, rfl⟩, g20, F20.kp⟩
        mi := ⟨f21, d21, S21, b21, kb2 F21 fun _ _ _ _ _ _ _ _ => ⟨rfl, rfl, rfl⟩, g21, F21.kp⟩
        sc := ⟨f22, d22, S22, b22, kb2 F22 fun _ _ _ _ _ _ _ _ => ⟨rfl, rfl, rfl⟩, g22, F22.kp⟩
        ac := ⟨f26, d26, S26, b26, kb1 F26 fun _ _ _ _ _ _ _ => ⟨rfl, rfl⟩, g26, F26.kp⟩
        pn := ⟨f24, d24, S24, b24, kb2 F24 fun _ _ _ _ _ _ _ _ => ⟨rfl, rfl, rfl⟩, g24, F24.kp⟩
        em := ⟨f25, d25, S25, b25, kb3 F25 fun _ _ _ _ _ _ _ _ _ => ⟨rfl, rfl, rfl, rfl⟩, g25, F25.kp⟩
        be := ⟨f28, d28, S28, b28, kb1 F28 fun _ _ _ _ _ _ _ => ⟨rfl, rfl⟩, g28, F28.kp⟩
        ov := ⟨f29, d29, S29, b29, kb1 F29 fun _ _ _ _ _ _ _ => ⟨rfl, rfl⟩, g29, F29.kp⟩
        co := ⟨f30, d30, S30, b30, kb1 F30 fun _ _ _ _ _ _ _ => ⟨rfl, rfl⟩, g30, F30.kp⟩
        sh := ⟨f43, d43, S43, b43, g43, F43.kp⟩
        pr := ⟨f38, d38, S38, b38, g38, F38.kp⟩
        tu := ⟨f44, d44, S44, b44, g44, F44.kp⟩
        re := ⟨f45, d45, S45, b45, g45, F45.kp⟩
        un := ⟨f39, d39, S39, b39, g39, F39.kp⟩
        si := ⟨f41, d41, S41, b41, g41, F41.kp⟩
        fi := ⟨f36, d36, S36, b36, g36, F36.kp⟩
        wi := ⟨f42, d42, S42, b42, g42, F42.kp⟩
        badN := BNN, gCN := gBN, mRe := mRe, mZ := mZ, mSum := mSum, mLen := mLen, mList := mList, mMin := mMin
        noN := fun H => ⟨_, .base .non, noN⟩ }
    have C47 := tc_of ap TB (mx5 "_law_products_right" (by decide +kernel))
    have C48 := tc_of ap TB (mx5 "_law_lists_right" (by decide +kernel))
    have C50 := tc_of ap TB (mx5 "_law_primes_right" (by decide +kernel))
    have C52 := tc_of ap TB (mx5 "_law_refused" (by decide +kernel))
    have C53 := tc_of ap TB (mx5 "law" (by decide +kernel))
    have S50 := ok_primesr F50 GG LN C50.TB C50.mem C50.uq S49 b49 g49 F49.kp mList
    have S47 := ok_prodr F47 AL C47
    have S48 := ok_listr F48 AL mTup C48
    have S52 := ok_refused F52 AL noL C52
    exact ok_law F53 AL ⟨⟨f32, d32, S32, b32, g32, F32.kp⟩, ⟨f50, d50, S50, b50, g50, F50.kp⟩, ⟨f51, d51, S51, b51, g51, F51.kp⟩, ⟨f47, d47, S47, b47, g47, F47.kp⟩, ⟨f48, d48, S48, b48, g48, F48.kp⟩, ⟨f52, d52, S52, b52, g52, F52.kp⟩⟩ C53
/-- the end for this law -/
theorem walk01 {l : PySem.W.OpenLaw} {q : Program} {loose : List Str} {XP : (Str → Option Value) → Heap → Prop} {YP : World → Heap → Prop} {d : DefRec} {K : Params → PySem.W.Frag}
    (hn : l.most = some 63) (hdf : d.params.defaults = []) (hr : Room 11 callerA) (hY : ∀ (w : World) (h : Heap), YP w h → (K w.params).In h) (t1 : ∀ w : World, (nm5.all fun x => tbB (K w.params) x) = true)
    (y1 : ∀ (w : World) (h : Heap), YP w h → ∀ x ∈ nm5, h.get? (tb (K w.params) x).2 = some { cls := .none, data := .fields #[] })
    (F : ∀ (w : World) (mg : Str → Option Value) (fa : Addr) (h : Heap), (K w.params).In h → h.Ns mainGlobals mg → mg d.name = some (.ref fa) →
      ∃ fd : FuncData, (∀ (s : Shared) (u : Value), BindsTo s fd ⟨[u], []⟩ [("script", u)]) ∧ ∀ base : Heap, (K w.params).In base → base.Ns mainGlobals mg → (∀ p ∈ tabsOf (K w.params), TabB base mg p.2.1 p.2.2) → FnG l.prog w (K w.params) mg base CX0 11 fa fd ["script"] (spLaw (K w.params) (TT (K w.params)))) :
    PySem.W.WalkO q loose XP YP l.row.toRowW d [] (fun f vs => PySem.call f vs) := by
  refine walk_ofGT (n := 63) (k := 11) (x := "script") (K := K) (sp := fun w => spLaw (K w.params) (TT (K w.params))) (ts := fun w => tabsOf (K w.params)) hn (by decide) hdf hr hY (fun w p m => ?_) (fun w h Y p m => ?_) F fun w H a ns hl _ hT hS => ?_
  · obtain ⟨x, mx, rfl⟩ := List.mem_map.mp m
    have := tb_of (List.all_eq_true.mp (t1 w) x mx)
    exact ⟨this.2.2, this.2.1⟩
  · obtain ⟨x, mx, rfl⟩ := List.mem_map.mp m
    exact y1 w h Y x mx
  · exact ⟨a, ns, rfl, hS, hl, tt_of hT, fun _ => rfl⟩
end K01


open PySem PySem.W PyProof.Rows
set_option maxRecDepth 100000 in
set_option maxHeartbeats 0 in
theorem PySem.Challenge.cw_boughwebs_k01_tables_put_together_holds : PySem.Challenge.rw_boughwebs_k01_tables_put_together.Holds := by
  w_on; o_law; k_head; (case hw => w_witness2)
  k_fill
  refine K01.walk01 (l := PySem.Challenge.rw_boughwebs_k01_tables_put_together) rfl (by kernel_rfl) ⟨rfl, by decide, by decide⟩ (fun w h Y => PySem.W.km_in_of Y) ?t1 ?y1 ?F
  case t1 => exact fun w => by kernel_rfl
  case y1 =>
    intro w h Y x mx
    simp only [K01.nm5, List.mem_cons, List.not_mem_nil, or_false] at mx
    rcases mx with rfl | rfl | rfl | rfl | rfl
    · exact PySem.W.km_tabs_of Y _ (List.contains_iff_mem.mp (by kernel_rfl))
    · exact PySem.W.km_tabs_of Y _ (List.contains_iff_mem.mp (by kernel_rfl))
    · exact PySem.W.km_tabs_of Y _ (List.contains_iff_mem.mp (by kernel_rfl))
    · exact PySem.W.km_tabs_of Y _ (List.contains_iff_mem.mp (by kernel_rfl))
    · exact PySem.W.km_tabs_of Y _ (List.contains_iff_mem.mp (by kernel_rfl))
  case F =>
    intro w mg fa h KX G hmg
    refine' K01.all_mk KX G hmg ?z1 ?z2 ?z3 ?z4 ?z5 ?z6 ?z7 ?z8 ?z9 ?z10 ?z11 ?z12 ?mp ?mq (fun base mS => ?hx) ?hI ?hE ?_ ?_ ?_ ?_ ?_ ?_ ?_ ?_ ?_ ?_ ?_ ?_ ?_ ?_ ?_ ?_ ?_ ?_ ?_ ?_ ?_ ?_ ?_ ?_ ?_ ?_ ?_ ?_ ?_ ?_ ?_ ?_ ?_ ?_ ?_ ?_ ?_ ?_ ?_ ?_ ?_ ?_ ?_
    case z1 => kernel_rfl
    case z2 => kernel_rfl
    case z3 => kernel_rfl
    case z4 => kernel_rfl
    case z5 => kernel_rfl
    case z6 => kernel_rfl
    case z7 => kernel_rfl
    case z8 => kernel_rfl
    case z9 => kernel_rfl
    case z10 => kernel_rfl
    case z11 => kernel_rfl
    case z12 => kernel_rfl
    case mp => k_is
    case mq => exact ⟨_, _, _, _, by k_is, by k_is, by rfl, by rfl, by decide, by repeat (first | exact .nil | refine .cons ⟨_, rfl⟩ ?_)⟩
    case hx =>
        refine' K01.mk_x (x := "BadNumber") ?hC (K01.excC_of ?hE2) mS ?xL ?rb ?sa ?tC ?kC ?no ?ini ?tI ?lk ?hcd ?lc ?lcell ?third ?mro ?sup ?ve ?top ?hs ?hS ?h1 ?hdb ?hdc ?hev ?hin ?hsn ?hsw ?bind ?bindK
        (case hC => k_is); (case hE2 => kernel_rfl); (case xL => k_is); (case rb => decide +kernel); (case sa => k_is); (case tC => k_is); (case kC => k_is); (case no => k_is); (case ini => k_is); (case tI => k_is); (case lk => k_is)
        (case hcd => k_is)
        (case lc => exact ⟨_, _, _, _, _, _, by k_is, by rfl, by kernel_rfl⟩)
        (case lcell => exact ⟨_, _, _, by k_is⟩)
        (case third => k_is); (case mro => k_is); (case sup => kernel_rfl); (case ve => k_is); (case top => kernel_rfl)
        (case hs => exact ⟨_, rfl, rfl⟩)
        (case hS => decide +kernel); (case h1 => rfl); (case hdb => decide); (case hdc => decide)
        (case hev => exact fun L => rfl)
        (case hin => exact fun L => rfl)
        (case hsn => exact fun L => rfl)
        (case hsw => exact fun L => rfl)
        (case bind => exact fun s u v => .of_eq rfl)
        (case bindK => exact fun s u v => .of_eq rfl)
    case hI => (refine' K01.hasm_mk ?n ?a ?i ?l ?c ?k; (case n => k_is); (case a => k_is); (case i => k_is); (case l => k_is); (case c => k_is); (case k => k_is))
    case hE => (refine' K01.hasm_mk ?n ?a ?i ?l ?c ?k; (case n => k_is); (case a => k_is); (case i => k_is); (case l => k_is); (case c => k_is); (case k => k_is))
    all_goals (refine' K01.has_mk ?a ?l ?c ?k; (case a => k_is); (case l => k_is); (case c => k_is); (case k => k_is))
