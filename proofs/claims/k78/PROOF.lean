import PyProof.Rows.All
import Wide.All
import OpenK.AllK
import Wide.FinOn
import HandS.ForMost
import HandS.Wide
import HandS.Codes
import HandS.ExcValue
import HandS.ExcInit
import HandS.ExcField
import HandS.ExcIs
import HandS.IsInst
import KE.KExcIs
import HandS.FStr
import PySem.Challenge.RW_chancepoints_k78_errors_made
set_option Elab.async false
set_option maxRecDepth 100000
namespace Pre
open PySem L2
def top (i : Nat) : Stmt := PySem.Challenge.pw_chancepoints_k78_errors_made.main.body.getD i (.Pass ⟨0, 0, 0, 0⟩)
abbrev sBegun : Stmt := top 44
abbrev sBlended : Stmt := top 45
abbrev sDraw : Stmt := top 46
abbrev sPick : Stmt := top 47

/-! ## the state of the draws -/
abbrev kG : Key := .inr "great"
abbrev kC : Key := .inr "cells"
abbrev kR : Key := .inr "rest"
abbrev kT : Key := .inr "turn"
def stp (g c : Addr) (r t : Int) : List (Key × V) := [(kG, .ref g), (kC, .ref c), (kR, .int r), (kT, .int t)]
theorem z1 : ¬ ("great" : Str) = "cells" := by decide +kernel
theorem z2 : ¬ ("great" : Str) = "rest" := by decide +kernel
theorem z3 : ¬ ("great" : Str) = "turn" := by decide +kernel
theorem z4 : ¬ ("cells" : Str) = "rest" := by decide +kernel
theorem z5 : ¬ ("cells" : Str) = "turn" := by decide +kernel
theorem z6 : ¬ ("rest" : Str) = "turn" := by decide +kernel
theorem n1 : ¬ kG = kC := by decide +kernel
theorem n2 : ¬ kG = kR := by decide +kernel
theorem n3 : ¬ kG = kT := by decide +kernel
theorem n4 : ¬ kC = kR := by decide +kernel
theorem n5 : ¬ kC = kT := by decide +kernel
theorem n6 : ¬ kR = kT := by decide +kernel
theorem n1' : ¬ kC = kG := fun e => n1 e.symm
theorem n2' : ¬ kR = kG := fun e => n2 e.symm
theorem n3' : ¬ kT = kG := fun e => n3 e.symm
theorem n4' : ¬ kR = kC := fun e => n4 e.symm
theorem n5' : ¬ kT = kC := fun e => n5 e.symm
theorem n6' : ¬ kT = kR := fun e => n6 e.symm
theorem st_g {g c : Addr} {r t : Int} : valV (stp g c r t) kG = some (.ref g) := valV_pos rfl
theorem st_c {g c : Addr} {r t : Int} : valV (stp g c r t) kC = some (.ref c) := by
  unfold stp
  rw [valV_neg n1, valV_pos rfl]
theorem st_r {g c : Addr} {r t : Int} : valV (stp g c r t) kR = some (.int r) := by
  unfold stp
  rw [valV_neg n2, valV_neg n4, valV_pos rfl]
theorem st_t {g c : Addr} {r t : Int} : valV (stp g c r t) kT = some (.int t) := by
  unfold stp
  rw [valV_neg n3, valV_neg n5, valV_neg n6, valV_pos rfl]
theorem put_t {g c : Addr} {r t u : Int} : putK (stp g c r t) kT (.int u) = stp g c r u := by
  unfold putK stp
  have h : ([(kG, V.ref g), (kC, .ref c), (kR, .int r), (kT, .int t)].any fun kv => decide (kv.1 = kT)) = true := by simp
  rw [if_pos h]
  simp only [List.map_cons, List.map_nil, if_neg n3, if_neg n5, if_neg n6, if_pos]
theorem put_r {g c : Addr} {r t u : Int} : putK (stp g c r t) kR (.int u) = stp g c u t := by
  unfold putK stp
  have h : ([(kG, V.ref g), (kC, .ref c), (kR, .int r), (kT, .int t)].any fun kv => decide (kv.1 = kR)) = true := by simp
  rw [if_pos h]
  simp only [List.map_cons, List.map_nil, if_neg n2, if_neg n4, if_neg n6', if_pos]
theorem merge_st {g c : Addr} {r t : Int} : mergeK [] [(kG, V.ref g), (kC, .ref c), (kR, .int r), (kT, .int t)] = stp g c r t := by
  unfold mergeK stp
  simp only [List.foldl_cons, List.foldl_nil]
  have e1 : putK ([] : List (Key × V)) kG (.ref g) = [(kG, .ref g)] := by simp [putK]
  have e2 : putK [(kG, V.ref g)] kC (.ref c) = [(kG, .ref g), (kC, .ref c)] := by simp [putK, z1]
  have e3 : putK [(kG, V.ref g), (kC, .ref c)] kR (.int r) = [(kG, .ref g), (kC, .ref c), (kR, .int r)] := by simp [putK, z2, z4]
  have e4 : putK [(kG, V.ref g), (kC, .ref c), (kR, .int r)] kT (.int t) = [(kG, .ref g), (kC, .ref c), (kR, .int r), (kT, .int t)] := by simp [putK, z3, z5, z6]
  rw [e1, e2, e3, e4]
theorem stp_len {g c : Addr} {r t : Int} : (stp g c r t).length < sizeLine := by show 4 < sizeLine; decide

/-- at p the state of the draws, its two lists at g and c; at most n times were the cells blended -/
structure St (H : Hp) (p g c : Addr) (n : Nat) : Prop where
  ex : ∃ (gs cs : List Int) (r t : Int), H p = some (.dK (stp g c r t)) ∧ H g = some (.lst (gs.map V.int)) ∧ H c = some (.lst (cs.map V.int)) ∧ gs.length ≤ 63 ∧ cs.length ≤ 63 ∧ 0 ≤ t ∧ t ≤ n
  ne : g ≠ c
/-- all that was tracked stands, but for the state and its great ones -/
def Kp (p g : Addr) (H H' : Hp) : Prop := ∀ b o, b ≠ p → b ≠ g → H b = some o → H' b = some o
theorem Kp.refl {p g : Addr} {H : Hp} : Kp p g H H := fun _ _ _ _ e => e
theorem Kp.trans {p g : Addr} {H H1 H2 : Hp} (a : Kp p g H H1) (b : Kp p g H1 H2) : Kp p g H H2 := fun x o h1 h2 e => b x o h1 h2 (a x o h1 h2 e)
theorem Kp.of {p g : Addr} {H H' : Hp} (a : Same H H') : Kp p g H H' := fun x o _ _ e => a x o e
theorem Kp.upd_p {p g : Addr} {H : Hp} {o : HO} : Kp p g H (upd H p o) := fun x u h1 _ e => by rw [upd_ne h1]; exact e
theorem Kp.upd_g {p g : Addr} {H : Hp} {o : HO} : Kp p g H (upd H g o) := fun x u _ h2 e => by rw [upd_ne h2]; exact e
theorem same_upd {H : Hp} {p : Addr} {o : HO} (h : H p = none) : Same H (upd H p o) := fun b u e => by
  rw [upd_ne (ne_of_none e h)]
  exact e
theorem dk_ne_lst {H : Hp} {a b : Addr} {kvs : List (Key × V)} {xs : List V} (h1 : H a = some (.dK kvs)) (h2 : H b = some (.lst xs)) : a ≠ b := ne_of h1 h2 (by intro z; cases z)
theorem ints_at {K : PySem.W.Frag} {xs : List Int} {i : Nat} {y : V} (h : (xs.map V.int)[i]? = some y) : ∃ u, y = V.int u ∧ xs[i]? = some u ∧ i < xs.length := by
  rw [List.getElem?_map] at h
  cases e : xs[i]? with
  | none =>
    rw [e] at h
    cases h
  | some u =>
    rw [e] at h
    exact ⟨u, (Option.some.inj h).symm, rfl, (List.getElem?_eq_some_iff.mp e).1⟩
theorem dpAll_ints {K : PySem.W.Frag} {H : Hp} : ∀ (xs : List Int), DpAll K H (xs.map V.int) (xs.map PyData.int)
  | [] => .nil
  | x :: xs => .cons (.int x) (dpAll_ints xs)
theorem can_ints : ∀ (xs : List Int), PyData.canLayAll0 (xs.map PyData.int) = true
  | [] => rfl
  | x :: xs => by
    show (PyData.canLay0 (.int x) && PyData.canLayAll0 (xs.map PyData.int)) = true
    rw [can_ints xs]
    rfl
theorem depth_ints : ∀ (xs : List Int), PyData.depthAll (xs.map PyData.int) = 0
  | [] => rfl
  | x :: xs => by
    show max (PyData.depth (.int x)) (PyData.depthAll (xs.map PyData.int)) = 0
    rw [depth_ints xs]
    rfl
theorem shaped_ints (xs : List Int) : SeqAt.shaped (.list (xs.map PyData.int)) = true := by
  unfold SeqAt.shaped
  have h1 : PyData.canLay0 (.list (xs.map PyData.int)) = true := can_ints xs
  have h2 : PyData.depth (.list (xs.map PyData.int)) = 1 := by
    show PyData.depthAll (xs.map PyData.int) + 1 = 1
    rw [depth_ints]
  rw [h1, h2]
  rfl

/-! ## what a def of the draws asks of the module -/
structure TxtP (mg : Str → Option Value) : Prop where
  abs : mg "abs" = none
  int : mg "int" = none
  len : mg "len" = none

def spBegun (K : PySem.W.Frag) : Sp := fun vs H Q _ => ∃ (a : Addr) (ns : List Int), vs = [.ref a] ∧ SqL K H a (ns.map V.int) ∧ ns.length ≤ 63 ∧
  ∀ (H' : Hp) (p g c : Addr), Same H H' → St H' p g c 0 → H p = none → H g = none → Q (.ref p) H'
def spBlended : Sp := fun vs H Q _ => ∃ (p g c : Addr) (cs : List Int) (r t : Int), vs = [.ref p] ∧ H p = some (.dK (stp g c r t)) ∧ H c = some (.lst (cs.map V.int)) ∧ 0 ≤ t ∧ t < 2 ^ 40 ∧
  ∀ (H' : Hp) (f : Int), Same (upd H p (.dK (stp g c r (t + 1)))) H' → Q (.int f) H'
def spDraw : Sp := fun vs H Q _ => ∃ (p g c : Addr) (n : Nat) (m : Int), vs = [.ref p, .int m] ∧ St H p g c n ∧ n < 2 ^ 40 ∧ 0 < m ∧ m < 2 ^ 30 ∧
  ∀ (H' : Hp) (f : Int), Kp p g H H' → St H' p g c (n + 1) → 0 ≤ f → f < m → Q (.int f) H'
def spPick (K : PySem.W.Frag) : Sp := fun vs H Q _ => ∃ (p g c : Addr) (n : Nat) (l : Addr) (xs : List V), vs = [.ref p, .ref l] ∧ St H p g c n ∧ n < 2 ^ 40 ∧ H l = some (.lst xs) ∧ l ≠ g ∧ 0 < xs.length ∧ xs.length ≤ 1000 ∧
  ∀ (H' : Hp) (i : Nat) (y : V), Kp p g H H' → St H' p g c (n + 1) → i < xs.length → xs[i]? = some y → Q y H'

section
variable {P : Program} {w : World} {K : PySem.W.Frag} {mg : Str → Option Value} {base : Heap}
abbrev nBegun : List Str := ["script", "great", "cell"]
theorem scBegun : FnScope nBegun ["script"] (defScope sBegun) := ⟨rfl, rfl, rfl, by decide +kernel, rfl, by decide +kernel, by decide +kernel⟩
theorem ok_begun {f : Addr} {fd : FuncData} (F : Fun K "_law_begun" "_law_begun" sBegun f fd) (T : TxtP mg) : FnOk P w K mg base CX0 1 f fd ["script"] (spBegun K) := by
  refine F.ok scBegun (fun vs H Q E h => ?_) (fun cdv A outer s H vs Q E hr h => ?_)
  · obtain ⟨a, ns, rfl, _⟩ := h
    rfl
  · obtain ⟨a, ns, rfl, hS, hlen, k⟩ := h
    have nd := scBegun.nd
    refine ⟨_, pss_cons (ps_setLc (i := 1) (own := [("cell", 2)]) (g := gName 2) rfl nd rfl rfl (sw_true rfl rfl rfl (by decide +kernel)) (pi_list (pv 0)) (blkOk_by (own := [("cell", 2)]) (N := nBegun) (sc := defScope sBegun) (by decide +kernel))
          (fun _ _ _ _ _ => pg_name (i := 2) nd rfl (Or.inl rfl))
          (fun _ _ _ _ _ => pts_one (pt_cmpR op_ge (pe_callB call_abs (by rfl) T.abs (by decide +kernel) (pa_cons (pv 2) pa_nil)) (pe_op op_pow pe_int pe_int) (nomark _)))
          (fun _ _ _ _ _ => pe_op op_sub (pe_callB call_abs (by rfl) T.abs (by decide +kernel) (pa_cons (pv 2) pa_nil)) (pe_op op_pow pe_int pe_int)))
      (pss_one (ps_ret (pe_disp (pps_cons pe_str (pv 1) (pps_cons pe_str
          (pe_lc (own := [("cell", 2)]) (g := gName 2) (tt := tYes) rfl nd (pi_list (pv 0)) (blkOk_by (own := [("cell", 2)]) (N := nBegun) (sc := defScope sBegun) (by decide +kernel))
            (fun _ _ _ _ _ => pg_name (i := 2) nd rfl (Or.inl rfl)) (fun _ _ _ _ _ => pts_nil) (fun _ _ _ _ _ => pe_callB call_abs (by rfl) T.abs (by decide +kernel) (pa_cons (pv 2) pa_nil)))
          (pps_cons pe_str pe_int (pps_cons pe_str pe_int pps_nil)))) (by rfl) (by rfl) (fun z => by cases z) (by decide)))), ?_⟩
    refine ⟨_, rfl, a, rfl, ⟨_, hS⟩, fun D hD => lc_list (K := K) (a := a) (xs := ns.map V.int) (fun i H' => ∃ gs : List Int, Same H H' ∧ H' D = some (.lst (gs.map V.int)) ∧ gs.length ≤ i)
      ⟨[], same_upd hD, upd_same, Nat.le_refl _⟩ (fun i H' _ ⟨_, s1, _⟩ => s1.seq hS) ?_ ?_⟩
    · rintro i y H' hi ⟨gs, s1, hd, hl⟩
      obtain ⟨u, rfl, hu, hlt⟩ := ints_at (K := K) hi
      refine ⟨rfl, _, rfl, _, rfl, _, _, rfl, rfl, ⟨by decide, by decide, by decide⟩, _, _, rfl, rfl, _, rfl, ?_⟩
      refine ite2 (fun _ => ?_) (fun _ => ?_)
      · refine ⟨_, rfl, _, rfl, _, _, rfl, rfl, ⟨by decide, by decide, by decide⟩, _, _, rfl, rfl, _, hd, ?_, ?_⟩
        · rw [List.length_map]
          exact Nat.lt_of_le_of_lt hl (Nat.lt_of_lt_of_le hlt (Nat.le_trans hlen (by decide)))
        · refine ⟨gs ++ [_], fun b o e => ?_, by rw [upd_same, List.map_append]; rfl, by rw [List.length_append]; exact Nat.succ_le_succ hl⟩
          rw [upd_ne (ne_of_none e hD)]
          exact s1 _ _ e
      · exact ⟨gs, s1, hd, Nat.le_succ_of_le hl⟩
    · rintro H1 ⟨gs, s1, hd, hl⟩
      rw [List.length_map] at hl
      refine fun p hp1 => ?_
      have npD : p ≠ D := fun e => by
        rw [e, hd] at hp1
        cases hp1
      have s2 : Same H (upd H1 p (.dK [])) := s1.trans (same_upd hp1)
      have hd2 : (upd H1 p (.dK [])) D = some (.lst (gs.map V.int)) := by rw [upd_ne npD.symm]; exact hd
      have hp2 : (upd H1 p (.dK [])) p = some (.dK []) := upd_same
      generalize hH2 : upd H1 p (.dK []) = H2 at s2 hd2 hp2
      refine ⟨_, rfl, _, rfl, a, rfl, ⟨_, s2.seq hS⟩, fun D2 hD2 => lc_list (K := K) (a := a) (xs := ns.map V.int) (fun i H' => ∃ cs : List Int, Same H2 H' ∧ H' D2 = some (.lst (cs.map V.int)) ∧ cs.length ≤ i)
        ⟨[], same_upd hD2, upd_same, Nat.le_refl _⟩ (fun i H' _ ⟨_, s3, _⟩ => s3.seq (s2.seq hS)) ?_ ?_⟩
      · rintro i y H' hi ⟨cs, s3, hd3, hl3⟩
        obtain ⟨u, rfl, hu, hlt⟩ := ints_at (K := K) hi
        refine ⟨rfl, ?_⟩
        refine ⟨_, rfl, _, rfl, _, hd3, ?_, ?_⟩
        · rw [List.length_map]
          exact Nat.lt_of_le_of_lt hl3 (Nat.lt_of_lt_of_le hlt (Nat.le_trans hlen (by decide)))
        · refine ⟨cs ++ [_], fun b o e => ?_, by rw [upd_same, List.map_append]; rfl, by rw [List.length_append]; exact Nat.succ_le_succ hl3⟩
          rw [upd_ne (ne_of_none e hD2)]
          exact s3 _ _ e
      · rintro H3 ⟨cs, s3, hd3, hl3⟩
        rw [List.length_map] at hl3
        have nD2 : D ≠ D2 := ne_of_none hd2 hD2
        have npD2 : p ≠ D2 := ne_of_none hp2 hD2
        refine ⟨s3 _ _ hp2, [(kG, .ref D), (kC, .ref D2), (kR, .int 0), (kT, .int 0)], rfl, by show 4 ≤ 15; decide, ?_⟩
        rw [merge_st]
        have hp0 : H p = none := s1.free hp1
        refine k _ p D D2 (fun b o e => ?_) ⟨⟨gs, cs, 0, 0, upd_same, ?_, ?_, Nat.le_trans hl hlen, Nat.le_trans hl3 hlen, Int.le_refl _, Int.le_refl _⟩, nD2⟩ hp0 hD
        · rw [upd_ne (ne_of_none e hp0)]
          exact s3 _ _ (s2 _ _ e)
        · rw [upd_ne npD.symm]
          exact s3 _ _ hd2
        · rw [upd_ne npD2.symm]
          exact hd3

abbrev nBlended : List Str := ["state", "turn", "found", "prime", "blend", "cell"]
theorem scBlended : FnScope nBlended ["state"] (defScope sBlended) := ⟨rfl, rfl, rfl, by decide +kernel, rfl, by decide +kernel, by decide +kernel⟩
theorem get_t {H : Hp} {p g c : Addr} {r t : Int} (h : H p = some (.dK (stp g c r t))) : DGet H p (.str "turn") (some (.int t)) := by
  have q := DGet.k (k := kT) h
  rw [st_t] at q
  exact q
theorem get_r {H : Hp} {p g c : Addr} {r t : Int} (h : H p = some (.dK (stp g c r t))) : DGet H p (.str "rest") (some (.int r)) := by
  have q := DGet.k (k := kR) h
  rw [st_r] at q
  exact q
theorem get_c {H : Hp} {p g c : Addr} {r t : Int} (h : H p = some (.dK (stp g c r t))) : DGet H p (.str "cells") (some (.ref c)) := by
  have q := DGet.k (k := kC) h
  rw [st_c] at q
  exact q
theorem get_g {H : Hp} {p g c : Addr} {r t : Int} (h : H p = some (.dK (stp g c r t))) : DGet H p (.str "great") (some (.ref g)) := by
  have q := DGet.k (k := kG) h
  rw [st_g] at q
  exact q
theorem dput_t {H : Hp} {p g c : Addr} {r t u : Int} (h : H p = some (.dK (stp g c r t))) : DPut H p (.str "turn") (.int u) (upd H p (.dK (stp g c r u))) := by
  have q := DPut.k (k := kT) (v := .int u) h stp_len
  rw [put_t] at q
  exact q
theorem dput_r {H : Hp} {p g c : Addr} {r t u : Int} (h : H p = some (.dK (stp g c r t))) : DPut H p (.str "rest") (.int u) (upd H p (.dK (stp g c u t))) := by
  have q := DPut.k (k := kR) (v := .int u) h stp_len
  rw [put_r] at q
  exact q
theorem prime_at {i : Nat} {x : V} (h : ([V.int 2147483579, .int 2147483629, .int 2147483563] : List V)[i]? = some x) : ∃ u : Int, x = .int u ∧ 0 < u ∧ u < 2147483648 := by
  match i, h with
  | 0, h => exact ⟨_, (Option.some.inj h).symm, by decide, by decide⟩
  | 1, h => exact ⟨_, (Option.some.inj h).symm, by decide, by decide⟩
  | 2, h => exact ⟨_, (Option.some.inj h).symm, by decide, by decide⟩
  | n + 3, h => cases h
theorem ok_blended {f : Addr} {fd : FuncData} (F : Fun K "_law_blended" "_law_blended" sBlended f fd) (T : TxtP mg) : FnOk P w K mg base CX0 1 f fd ["state"] spBlended := by
  refine F.ok scBlended (fun vs H Q E h => ?_) (fun cdv A outer s H vs Q E hr h => ?_)
  · obtain ⟨p, g, c, cs, r, t, rfl, _⟩ := h
    rfl
  · obtain ⟨p, g, c, cs, r, t, rfl, hp, hc, t0, t1, k⟩ := h
    have nd := scBlended.nd
    have hu := hu_of hr
    refine ⟨_, pss_cons (ps_par (i := 1) (j := 2) rfl nd rfl rfl (by decide) rfl rfl (pa_cons (pe_op op_add (pe_dget hu (pv 0) pe_str (fun _ _ => rfl)) pe_int) (pa_cons pe_int pa_nil)) (by rfl))
      (pss_cons (ps_dput hu (pv 0) pe_str (pv 1) rfl)
      (pss_cons (ps_for PassesOwn.never rfl (pi_list (pe_lst (pa_cons pe_int (pa_cons pe_int (pa_cons pe_int pa_nil))))) (pg_name (i := 3) nd rfl (Or.inl rfl))
        (pss_cons (ps_set (i := 4) nd rfl (Or.inl rfl) (pe_op op_add (pe_op op_mul pe_int (pv 1)) (pe_op op_fdivW (pv 3) pe_int)))
        (pss_cons (ps_for PassesOwn.never rfl (pi_list (pe_dget hu (pv 0) pe_str (fun _ _ => rfl))) (pg_name (i := 5) nd rfl (Or.inl rfl))
            (pss_one (ps_set (i := 4) nd rfl (Or.inl rfl) (pe_op op_mod (pe_callTy call_int1 (by rfl) T.int (by decide +kernel) (pa_cons (pe_op op_add (pe_op op_add (pe_op op_mul (pv 4) pe_int) (pv 5)) (pv 1)) pa_nil)) (pv 3)))))
        (pss_one (ps_set (i := 2) nd rfl (Or.inl rfl) (pe_op op_add (pe_op op_mul (pv 2) pe_int) (pe_op op_mod (pe_callTy call_int1 (by rfl) T.int (by decide +kernel) (pa_cons (pe_op op_pow (pv 4) pe_int) pa_nil)) (pv 3))))))))
      (pss_one (ps_ret (pv 2))))), ?_⟩
    refine ⟨_, rfl, p, _, rfl, get_t hp, t, 1, rfl, rfl, _, _, rfl, ?_⟩
    refine ⟨_, rfl, _, rfl, p, _, rfl, dput_t hp, ?_⟩
    refine ⟨by show 3 ≤ sizeLine; decide, fun l hl => ?_⟩
    have npl : p ≠ l := fun e => by
      rw [e, upd_same] at hl
      cases hl
    have ncp : c ≠ p := ne_of hc hp (by intro z; cases z)
    have ncl : c ≠ l := fun e => by
      rw [← e, upd_ne ncp, hc] at hl
      cases hl
    have s0 : Same (upd H p (.dK (stp g c r (t + 1)))) (upd (upd H p (.dK (stp g c r (t + 1)))) l (.lst [.int 2147483579, .int 2147483629, .int 2147483563])) := same_upd hl
    generalize hHH : upd (upd H p (.dK (stp g c r (t + 1)))) l (.lst [.int 2147483579, .int 2147483629, .int 2147483563]) = HH at s0
    have hp' : HH p = some (.dK (stp g c r (t + 1))) := s0 _ _ upd_same
    have hc' : HH c = some (.lst (cs.map V.int)) := s0 _ _ (by rw [upd_ne ncp]; exact hc)
    have hl' : HH l = some (.lst [.int 2147483579, .int 2147483629, .int 2147483563]) := by rw [← hHH]; exact upd_same
    refine ⟨l, rfl, ⟨_, SqL.of hl'⟩, for_list (K := K) (a := l) (xs := [.int 2147483579, .int 2147483629, .int 2147483563])
      (fun i σ H' => ∃ (fo : Int) (pr bl ce : Option V), σ = [some (.ref p), some (.int (t + 1)), some (.int fo), pr, bl, ce] ∧ H' = HH) ⟨0, none, none, none, rfl, rfl⟩ (fun i σ H' _ ⟨_, _, _, _, _, e⟩ => by rw [e]; exact SqL.of hl') ?_ ?_⟩
    · rintro i x σ H' hx ⟨fo, pr, bl, ce, rfl, rfl⟩
      obtain ⟨q, rfl, q0, q1⟩ := prime_at hx
      refine ⟨_, rfl, 48271, t + 1, rfl, rfl, .inl ⟨by decide, by decide⟩, _, rfl, q, 53, rfl, rfl, ⟨by decide, by decide +kernel⟩, _, _, rfl, rfl, ?_⟩
      refine ⟨_, rfl, p, _, rfl, get_c hp', c, rfl, ⟨_, SqL.of hc'⟩, for_list (K := K) (a := c) (xs := cs.map V.int)
        (fun j σ H'' => ∃ (b : Int) (ce : Option V), σ = [some (.ref p), some (.int (t + 1)), some (.int fo), some (.int q), some (.int b), ce] ∧ H'' = H' ∧ 0 ≤ b ∧ b < 2 ^ 60) ⟨_, ce, rfl, rfl, ?_, ?_⟩
        (fun i σ H' _ ⟨_, _, _, e, _⟩ => by rw [e]; exact SqL.of hc') ?_ ?_⟩
      · have z : 0 ≤ q / 53 := Int.ediv_nonneg (by omega) (by decide)
        omega
      · have z : q / 53 ≤ q := Int.ediv_le_self _ (by omega)
        omega
      · rintro j y σ H'' hy ⟨b, ce', rfl, rfl, b0, b1⟩
        obtain ⟨u, rfl, _, _⟩ := ints_at (K := K) hy
        refine ⟨_, rfl, b, 69621, rfl, rfl, .inr ⟨by decide, by decide⟩, _, rfl, _, _, rfl, rfl, _, rfl, _, _, rfl, rfl, .inl ⟨_, rfl, _, rfl, _, q, rfl, rfl, q0, ?_⟩⟩
        refine ⟨_, _, rfl, rfl, Int.emod_nonneg _ (by omega), ?_⟩
        have z := Int.emod_lt_of_pos (b * 69621 + u + (t + 1)) q0
        omega
      · rintro σ H'' ⟨b, ce', rfl, rfl, b0, b1⟩
        refine ⟨_, rfl, fo, 2147483647, rfl, rfl, .inr ⟨by decide, by decide⟩, _, rfl, b, 5, rfl, rfl, ⟨by decide, by decide, by omega⟩, .inl ⟨_, rfl, _, rfl, _, q, rfl, rfl, q0, _, _, rfl, rfl, ?_⟩⟩
        exact ⟨_, _, _, _, rfl, rfl⟩
    · rintro σ H' ⟨fo, pr, bl, ce, rfl, rfl⟩
      exact ⟨_, rfl, k _ _ s0⟩

theorem eqv_ints_nil : ∀ gs : List Int, PyData.eqv (.list (gs.map PyData.int)) (.list []) = gs.isEmpty
  | [] => rfl
  | _ :: _ => rfl
theorem dp_ints {H : Hp} {a : Addr} {gs : List Int} (h : H a = some (.lst (gs.map V.int))) : Dp K H (.ref a) (.list (gs.map PyData.int)) := .lst (SqL.of h) (dpAll_ints (K := K) gs)
abbrev nDraw : List Str := ["state", "room", "found"]
theorem scDraw : FnScope nDraw ["state", "room"] (defScope sDraw) := ⟨rfl, rfl, rfl, by decide +kernel, rfl, by decide +kernel, by decide +kernel⟩
theorem ok_draw {f fB : Addr} {fd fdB : FuncData} (F : Fun K "_law_draw" "_law_draw" sDraw f fd) (T : TxtP mg) (FB : Fun K "_law_blended" "_law_blended" sBlended fB fdB) (mgB : mg "_law_blended" = some (.ref fB)) :
    FnOk P w K mg base CX0 2 f fd ["state", "room"] spDraw := by
  have GB : FnOk P w K mg base CX0 1 fB fdB ["state"] spBlended := ok_blended FB T
  have bB : Binds K fdB ["state"] [] := FB.binds (ps := ["state"]) fun _ _ _ _ _ _ us hl => match us, hl with | [_], _ => rfl
  refine F.ok scDraw (fun vs H Q E h => ?_) (fun cdv A outer s H vs Q E hr h => ?_)
  · obtain ⟨p, g, c, n, m, rfl, _⟩ := h
    rfl
  · obtain ⟨p, g, c, n, m, rfl, ⟨⟨gs, cs, r, t, hp, hg, hc, lg, lc, t0, t1⟩, ngc⟩, hn, m0, m1, k⟩ := h
    have nd := scDraw.nd
    have hu := hu_of hr
    have npg : p ≠ g := dk_ne_lst hp hg
    have npc : p ≠ c := dk_ne_lst hp hc
    refine ⟨_, C8.pss_cut (ps_if (pt_cmpR op_eq (pe_dget hu (pv 0) pe_str (fun _ _ => rfl)) pe_int (nomark _))
        (pss_one (ps_dput hu (pv 0) pe_str (pe_ifExp (pt_cmpR (op_neD hr.units) (pe_dget hu (pv 0) pe_str (fun _ _ => rfl)) (pe_lst pa_nil) (nomark _))
          (pe_bm PySem.F.plainAttrs_list PySem.F.slot_list_pop PySem.F.type_list_pop mt_popAt (pe_dget hu (pv 0) pe_str (fun _ _ => rfl)) (pa_cons pe_int pa_nil))
          (pe_call GB hr rfl mgB FB.kp bB .nil pass0 (pa_cons (pv 0) pa_nil))) rfl)) pss_nil)
      (pss_cons (ps_set (i := 2) nd rfl (Or.inl rfl) (pe_op op_mod (pe_callTy call_int1 (by rfl) T.int (by decide +kernel) (pa_cons (pe_dget hu (pv 0) pe_str (fun _ _ => rfl)) pa_nil)) (pv 1)))
      (pss_cons (ps_dput hu (pv 0) pe_str (pe_op op_fdivW (pe_dget hu (pv 0) pe_str (fun _ _ => rfl)) (pv 1)) rfl)
      (pss_one (ps_ret (pv 2))))), ?_⟩
    refine ⟨fun σ H' => σ = [some (.ref p), some (.int m), none] ∧ Kp p g H H' ∧ ∃ (gs' : List Int) (r' t' : Int), H' p = some (.dK (stp g c r' t')) ∧ H' g = some (.lst (gs'.map V.int)) ∧ H' c = some (.lst (cs.map V.int)) ∧ gs'.length ≤ 63 ∧ 0 ≤ t' ∧ t' ≤ n + 1, ?_, ?_⟩
    · refine ⟨_, rfl, p, _, rfl, get_r hp, rfl, _, rfl, ?_⟩
      refine ite2 (fun _ => ?_) (fun _ => ?_)
      · refine ⟨_, rfl, p, _, rfl, get_g hp, by show 0 ≤ sizeLine; decide, fun l hl => ?_⟩
        have s0 : Same H (upd H l (.lst [])) := same_upd hl
        have hp1 := s0 _ _ hp
        have hg1 := s0 _ _ hg
        have hc1 := s0 _ _ hc
        have hl1 : (upd H l (.lst [])) l = some (.lst (([] : List Int).map V.int)) := upd_same
        generalize hH1 : upd H l (.lst []) = H1 at s0 hp1 hg1 hc1 hl1
        refine ⟨_, _, dp_ints hg1, dp_ints hl1, shaped_ints _, shaped_ints _, _, rfl, ?_⟩
        have eq : PyData.eqv (.list (gs.map PyData.int)) (.list (([] : List Int).map PyData.int)) = gs.isEmpty := eqv_ints_nil gs
        rw [eq]
        refine ite2 (fun hne => ?_) (fun _ => ?_)
        · match gs, hne, lg, hg1 with
          | [], hne, _, _ => exact absurd hne (by simp)
          | u :: gs', _, lg, hg1 =>
            refine ⟨_, rfl, p, _, rfl, get_g hp1, .inl ⟨rfl, _, SqL.of hg1⟩, g, _, 0, 0, .int u, rfl, rfl, hg1, by decide, by decide, ?_, rfl, ?_⟩
            · rw [List.length_map, List.length_cons]
              unfold seqIndex?
              simp
            · have hp2 : (upd H1 g (.lst (((u :: gs').map V.int).eraseIdx 0))) p = some (.dK (stp g c r t)) := by rw [upd_ne npg]; exact hp1
              refine ⟨_, rfl, p, _, rfl, dput_r hp2, ?_⟩
              refine ⟨rfl, (Kp.of s0).trans (Kp.upd_g.trans Kp.upd_p), gs', u, t, upd_same, ?_, ?_, ?_, t0, by omega⟩
              · rw [upd_ne npg.symm, upd_same]
                rfl
              · rw [upd_ne npc.symm, upd_ne ngc.symm]
                exact hc1
              · simp only [List.length_cons] at lg
                omega
        · refine ⟨_, rfl, p, g, c, cs, r, t, rfl, hp1, hc1, t0, by omega, fun H2 f0 s2 => ?_⟩
          have hp2 := s2 _ _ upd_same
          refine ⟨_, rfl, p, _, rfl, dput_r hp2, ?_⟩
          refine ⟨rfl, (Kp.of s0).trans (Kp.upd_p.trans ((Kp.of s2).trans Kp.upd_p)), gs, f0, t + 1, upd_same, ?_, ?_, lg, by omega, by omega⟩
          · rw [upd_ne npg.symm]
            exact s2 _ _ (by rw [upd_ne npg.symm]; exact hg1)
          · rw [upd_ne npc.symm]
            exact s2 _ _ (by rw [upd_ne npc.symm]; exact hc1)
      · exact ⟨rfl, Kp.refl, gs, r, t, hp, hg, hc, lg, t0, by omega⟩
    · rintro σ H' ⟨rfl, kp, gs', r', t', hp', hg', hc', lg', t0', t1'⟩
      refine ⟨_, rfl, p, _, rfl, get_r hp', .inl ⟨_, rfl, _, rfl, _, m, rfl, rfl, m0, ?_⟩⟩
      refine ⟨_, rfl, p, _, rfl, get_r hp', _, rfl, _, m, rfl, rfl, wide_div m0 (b := 30) (by omega) (by decide) (by decide), _, rfl, p, _, rfl, dput_r hp', ?_⟩
      refine ⟨_, rfl, k _ _ (kp.trans Kp.upd_p) ⟨⟨gs', cs, r' / m, t', upd_same, ?_, ?_, lg', lc, t0', t1'⟩, ngc⟩ (Int.emod_nonneg _ (by omega)) (Int.emod_lt_of_pos _ m0)⟩
      · rw [upd_ne npg.symm]
        exact hg'
      · rw [upd_ne npc.symm]
        exact hc'
abbrev nPick : List Str := ["state", "some"]
theorem scPick : FnScope nPick ["state", "some"] (defScope sPick) := ⟨rfl, rfl, rfl, by decide +kernel, rfl, by decide +kernel, by decide +kernel⟩
theorem ok_pick {f fD fB : Addr} {fd fdD fdB : FuncData} (F : Fun K "_law_pick" "_law_pick" sPick f fd) (T : TxtP mg) (FD : Fun K "_law_draw" "_law_draw" sDraw fD fdD) (mgD : mg "_law_draw" = some (.ref fD)) (FB : Fun K "_law_blended" "_law_blended" sBlended fB fdB) (mgB : mg "_law_blended" = some (.ref fB)) :
    FnOk P w K mg base CX0 3 f fd ["state", "some"] (spPick K) := by
  have GD : FnOk P w K mg base CX0 2 fD fdD ["state", "room"] spDraw := ok_draw FD T FB mgB
  have bD : Binds K fdD ["state", "room"] [] := FD.binds (ps := ["state", "room"]) fun _ _ _ _ _ _ us hl => match us, hl with | [_, _], _ => rfl
  refine F.ok scPick (fun vs H Q E h => ?_) (fun cdv A outer s H vs Q E hr h => ?_)
  · obtain ⟨p, g, c, n, l, xs, rfl, _⟩ := h
    rfl
  · obtain ⟨p, g, c, n, l, xs, rfl, hs, hn, hl, nlg, x0, x1, k⟩ := h
    have nlp : l ≠ p := by
      obtain ⟨⟨gs, cs, r, t, hp, _⟩, _⟩ := hs
      exact (dk_ne_lst hp hl).symm
    refine ⟨_, pss_one (ps_ret (pe_ix ix_list (pv 1) (pe_call GD hr rfl mgD FD.kp bD .nil pass0 (pa_cons (pv 0) (pa_cons (pe_callB call_len_seq (by rfl) T.len PySem.boot_len (pa_cons (pv 1) pa_nil)) pa_nil))) (fun _ _ => rfl))), ?_⟩
    refine ⟨_, rfl, _, rfl, _, rfl, l, _, rfl, .inl (SqL.of hl), p, g, c, n, (xs.length : Int), rfl, hs, hn, by omega, by omega, fun H' f0 kp s' f1 f2 => ?_⟩
    have hl' := kp l _ nlp nlg hl
    obtain ⟨i, rfl⟩ := Int.eq_ofNat_of_zero_le f1
    have hi : i < xs.length := by omega
    refine ⟨l, _, _, xs[i], rfl, rfl, SqL.of hl', atI_nat (List.getElem?_eq_getElem hi), ?_⟩
    exact k _ i _ kp s' hi (List.getElem?_eq_getElem hi)
end
end Pre
namespace Xr
open PySem PySem.Spec PyProof.Rows L2

/-! ## exceptions of own classes as values: made with an own __init__, their fields, isinstance -/
/-- what isinstance and a field's read ask of the class at C -/
structure IsC (K : PySem.W.Frag) (C : Addr) : Prop where
  cl : (PySem.W.clsIn K C).isSome = true
  ga : PySem.W.findIn K (.ref C) "__getattribute__" = some (some (.builtin "BaseException.__getattribute__"))
  gt : PySem.W.findIn K (.ref C) "__getattr__" = some none
  sb : PySem.W.subIn K (.ref C) (.type "BaseException") = some true
  ca : PySem.W.findIn K (.ref C) "__class__" = some (some (.builtin "object.__class__"))
  mo : PySem.W.mroIn K C (.type "object") = some true
structure IsK (K : PySem.W.Frag) : Prop where
  hn : PySem.W.specialIn K (.builtin "object.__class__") "__get__" = some (some (.builtin "getset_descriptor.__get__"))
  tks : PySem.W.takesIn K (.builtin "object.__class__") = some true
/-- at a stands an exception of the class at C, not raised -/
inductive Exi (H : Hp) (a C : Addr) : Prop where
  | plain (h : H a = some (ExO (.ref C) a))
  | own {d : Addr} {fs : List (Str × V)} (h : H a = some (exo a C (some d))) (hd : H d = some (exd d fs))
theorem Exi.same {H H' : Hp} {a C : Addr} (x : Exi H a C) (s : Same H H') : Exi H' a C := by
  cases x with
  | plain h => exact .plain (s _ _ h)
  | own h hd => exact .own (s _ _ h) (s _ _ hd)
def rIsX (K : PySem.W.Frag) : List V → Hp → VK → Prop := fun xs H Q => ∃ (a C : Addr) (c : V) (cv : Value) (b : Bool), xs = [.ref a, c] ∧ Exi H a C ∧ IsC K C ∧ ClsV c cv ∧ PySem.W.kitOne K (.ref C) cv = some b ∧ Q (.bl b) H
section
variable {X : Cx}
theorem inst_of {ps0 : List (Addr × Obj)} {σ : L2.St} {H : Hp} {s : Shared} {a C : Addr} (I : Inv X ps0 σ H s) (x : Exi H a C) : ∃ ox od, PySem.W.InstAt s.heap a ox C od := by
  cases x with
  | plain h =>
    obtain ⟨⟨oe, vals, ho, hz, hd, _⟩, _, _⟩ := (show ObjOk X.prog X.w H s.heap a (ExO (.ref C) a) from I.hok a _ h)
    exact ⟨oe, none, ho, hz.1, by unfold PySem.W.notCls; rw [hd] <;> rfl, by rw [hz.2]; trivial⟩
  | own h hd =>
    obtain ⟨t1, ho⟩ := exo_at I.hok h
    obtain ⟨mA, hns, _⟩ := exd_at I.hok hd
    obtain ⟨od, h2, _⟩ := lookIn_ns hns
    exact ⟨_, some od, ho, rfl, rfl, h2⟩
theorem call_isX (Z : IsK X.K) : CallR X (.builtin "isinstance") (rIsX X.K) := by
  intro ps0 s σ H xs args Q I r h
  obtain ⟨a, C, c, cv, b, rfl, x, T, k, e, q⟩ := h
  obtain ⟨u1, u2, rfl, r1, r2⟩ := vals2 r
  cases (show u1 = Value.ref a from r1)
  have e2 := k.eq r2
  subst e2
  obtain ⟨ox, od, J⟩ := inst_of I x
  exact PySem.W.kia_one (PySem.W.kitx_exc (od := od) T.cl T.ga T.gt T.sb T.ca Z.hn Z.tks T.mo) I.kIn J e (by intro fin; cases fin) fun tks => ⟨.bl b, H, I.tok tks, rfl, q⟩
/-- e.f, e an exception that was made with an own __init__ -/
def tXo (K : PySem.W.Frag) (f : Str) (te : TE) : TE := fun σ H Q => te σ H fun x H1 => ∃ (a C d : Addr) (fs : List (Str × V)) (v : V), x = .ref a ∧ IsC K C ∧ PySem.W.hasDictIn K C = true ∧ PySem.W.findIn K (.ref C) f = some none ∧ H1 a = some (exo a C (some d)) ∧ H1 d = some (exd d fs) ∧ fs.lookup f = some v ∧ Q v H1
theorem pe_xo {e : Expr} {te : TE} {pos : Pos} {f : Str} (he : PE X e te) (hb : attributeBase e f X.env (eval e X.env) = eval e X.env := by rfl) : PE X (.Attribute e f pos) (tXo X.K f te) := by
  refine ⟨fun ps0 s σ H Q I h => ?_⟩
  refine attr_of hb (thn (he.run ps0 s σ H _ I h) fun u s1 hh => ?_)
  obtain ⟨x, H1, I1, rx, a, C, d, fs, v, ex, T, hdC, hno, ha, hd, l, q⟩ := hh
  subst ex
  obtain rfl : u = Value.ref a := rx
  obtain ⟨t1, ho⟩ := exo_at I1.hok ha
  obtain ⟨mA, hns, hr⟩ := exd_at I1.hok hd
  obtain ⟨od, h2, hl⟩ := lookIn_ns hns
  obtain ⟨u, hu, ru⟩ := RelO.some_of (v := v) (o := mA f) (by rw [← l]; exact hr f)
  have J : PySem.W.InstAt s1.heap a _ C (some od) := ⟨ho, rfl, rfl, h2⟩
  exact HandSPX.exc_get I1.kIn J T.ga T.gt T.sb (PySem.W.findObj_own hdC hno rfl (by rw [hl, hu])) (handed_of ru) ⟨v, H1, I1.tok _, ru, q⟩
/-- {x}: None or an int -/
def tFmtN (te : TE) : TE := fun σ H Q => te σ H fun x H1 => (x = .non ∧ Q (.str "None") H1) ∨ ∃ i : Int, x = .int i ∧ i.natAbs.log2 < 1920 ∧ Q (.str (toString i)) H1
theorem pe_fmtN {e : Expr} {te : TE} {pos : Pos} (he : PE X e te) : PE X (.FormattedValue e (-1) none pos) (tFmtN te) := by
  refine ⟨fun ps0 s σ H Q I h => ?_⟩
  refine wpAny_FormattedValue_plain (thn (he.run ps0 s σ H _ I h) fun v s1 hv => ?_)
  obtain ⟨x, H1, I1, r1, q⟩ := hv
  rcases q with ⟨rfl, q⟩ | ⟨i, rfl, hz, q⟩
  · cases (show v = Value.none from r1)
    exact wpAny_formatField_none ⟨.str "None", H1, I1.tok _, ⟨_, rfl⟩, q⟩
  · obtain ⟨t, rfl⟩ := r1
    exact wpAny_formatField_int hz ⟨.str (toString i), H1, I1.tok _, ⟨_, rfl⟩, q⟩
/-- B.__init__(self, ..), B an own class that has ValueError's -/
theorem pe_ceinit {B : Str} {C0 : Addr} {e : Expr} {es : List Expr} {ta : TA} {p1 p2 pos : Pos} {pl : Sem Bool} (hg : Gl X B) (hm : X.mg B = some (.ref C0)) (hs : PySem.W.specialIn X.K (.ref C0) "__getattribute__" = some (some (.builtin "type.__getattribute__")))
    (hr : PySem.W.readsIn X.K C0 (.type "type") = true) (vV : PySem.W.findCls X.K (.ref C0) (.type "type") "__init__" = some (.val (.builtin "ValueError.__init__"))) (ha : PA X (e :: es) ta)
    (nodbg : (B == ("__debug__" : Str)) = false := by decide)
    (hc : eval (.Call (.Attribute (.Name B p1) "__init__" p2) (e :: es) [] pos) X.env = (do
      let ov ← eval (.Name B p1) X.env
      standAt p2.atName
      let (f, first) ← holding [ov] (getMethod ov "__init__" pl)
      callWith pos f first (backTo pos (starEach (e :: es) X.env)) (backToKw pos (keywordEach [] X.env))) := by rfl)
    (he : starEach (e :: es) X.env = (false, eval e X.env) :: starEach es X.env := by rfl) (nosp : (backTo pos (starEach es X.env)).any (·.1) = false := by rfl) :
    PE X (.Call (.Attribute (.Name B p1) "__init__" p2) (e :: es) [] pos) (tVeI X.K ta) := by
  refine ⟨fun ps0 s σ H Q I h => ?_⟩
  refine PySem.W.methodCall_KW (ld_glob I hg hm ?_ nodbg) hc
  refine PySem.W.method_cls I.kIn hs (PySem.W.cls_value I.kIn hr vV (by decide +kernel) ?_)
  show wpAny _ _ (callWith pos (Value.builtin "ValueError.__init__") [] (backTo pos (starEach (e :: es) X.env)) []) _ _ _
  refine PyProof.Rows.callWith_method1 (thn (ha.run pos ps0 _ σ H _ (I.tok _) h) fun args s1 ⟨vals, H1, I1, r1, a, C, ws, isN, hl, T, ea, q⟩ => ?_) he nosp
  subst isN
  cases r1 with
  | @cons _ self _ rest rself rw' =>
    obtain rfl : self = Value.ref a := rself
    have few : rest.length ≤ sizeLine := by
      rw [← Paired.length rw', sizeLine_eq]
      omega
    exact oinit_ok T I1 ea few fun s' J => ⟨.non, H1, J, rfl, q⟩
/-- C(e, ..), C's own __init__ keeping sp: a value -/
def tMkV (C : Addr) (sp : Sp) (ta : TA) : TE := fun σ H Q => ta σ H fun vals H1 => vals.length ≤ 1000 ∧ ∀ a, H1 a = none → sp (.ref a :: vals) (upd H1 a (exo a C none)) (fun v H2 => v = .non ∧ Q (.ref a) H2) (fun _ _ _ => False)
theorem pe_oexV {CX : CXT} {x : Str} {C fI : Addr} {k : Nat} {fd : FuncData} {ps : List Str} {sp : Sp} {e : Expr} {es : List Expr} {ta : TA} {p pos : Pos} (T : OexC X.K C) (iC : PySem.W.findIn X.K (.ref C) "__init__" = some (some (.ref fI))) (tI : PySem.W.typeIn X.K (.ref fI) = some (.type "function"))
    (F1 : FnOk X.prog X.w X.K X.mg X.base CX k fI fd ps sp) (hr : Room (k + 1) X.A) (hb : Binds X.K fd ps []) (hx : Passes CX X (fun _ _ _ => False)) (hg : Gl X x) (hm : X.mg x = some (.ref C)) (ha : PA X (e :: es) ta)
    (nodbg : (x == ("__debug__" : Str)) = false := by decide) (he : starEach (e :: es) X.env = (false, eval e X.env) :: starEach es X.env := by rfl) (nosp : (backTo pos (starEach es X.env)).any (·.1) = false := by rfl) :
    PE X (.Call (.Name x p) (e :: es) [] pos) (tMkV C sp ta) := by
  refine ⟨fun ps0 s σ H Q I h => ?_⟩
  obtain ⟨nm, qn, N, bs, bm, sn, sub, ab, col, dd, k0, k1, k2, k3, k5, lookC, refs⟩ := T.cls
  refine wpAny_Call_Name_kw (ld_glob I hg hm ?_ nodbg)
  refine PySem.W.callWith_K (h₀ := X.base) I.ok.mod.kin T.kC (thn (ha.run pos ps0 s σ H _ I h) fun args s1 ⟨vals, H1, I1, r1, hz, q1⟩ => ⟨I1.kIn, ?_⟩) he nosp
  show wpAny _ _ (call (.ref C) args) _ _ _
  obtain ⟨mem, g, drw, tks, oss⟩ := s1
  have big : mem.objs.size ≤ mem.objs.size + 1 := Nat.le_succ _
  have hn : H1 (mem.objs.size + 1) = none := I1.hok.fresh big
  have hq := q1 (mem.objs.size + 1) hn
  have old : ∀ b o, mem.get? b = some o → ((mem.push (PySem.W.kdv_tup args)).push (PySem.HandSPX.excO C mem.objs.size)).get? b = some o := fun b o e => Heap.get?_push_of_some _ (Heap.get?_push_of_some _ e)
  have atNew : ((mem.push (PySem.W.kdv_tup args)).push (PySem.HandSPX.excO C mem.objs.size)).get? (mem.objs.size + 1) = some (PySem.HandSPX.excO C mem.objs.size) := by heap_get
  have J2 : Inv X ps0 σ (upd H1 (mem.objs.size + 1) (exo (mem.objs.size + 1) C none)) ⟨(mem.push (PySem.W.kdv_tup args)).push (PySem.HandSPX.excO C mem.objs.size), g, drw, tks, oss⟩ :=
    I1.laid (t' := tks) (a := mem.objs.size + 1) (o := exo (mem.objs.size + 1) C none) (h' := (mem.push (PySem.W.kdv_tup args)).push (PySem.HandSPX.excO C mem.objs.size)) old big (exo_ok atNew)
  have r2 : Vals (V.ref (mem.objs.size + 1) :: vals) (Value.ref (mem.objs.size + 1) :: args) := .cons rfl r1
  have hl : (Value.ref (mem.objs.size + 1) :: args ++ []).length = ps.length := by
    have e := r2.length
    rw [F1.len _ _ _ _ hq] at e
    rw [List.append_nil]
    exact e.symm
  have few : args.length ≤ sizeLine := by
    rw [← Paired.length r1, sizeLine_eq]
    omega
  refine wpAny_call (PySem.HandSPX.call_own F.excBase_ValueError (fun Y => PySem.HandSPX.refsVE_contains Y bm refs) (I1.kIn _ _ lookC) (PySem.W.looks_findIn I1.kIn iC) (fun self => PySem.W.bind_fn I1.kIn self tI) few
    (codeAny_mono (F1.run _ X.stack _ _ ⟨Value.ref (mem.objs.size + 1) :: args, []⟩ (Value.ref (mem.objs.size + 1) :: args) _ _ (fun _ _ _ => False) (hr.make C args []) (J2.env0.make C args []) (by have fin := hb _ (Value.ref (mem.objs.size + 1) :: args) J2.kIn hl; rw [List.append_nil] at fin; exact fin) r2 hq) fun r s' out => ?_))
  cases r with
  | error er => exact hx ps0 σ _ _ er s' J2 out
  | ok fl =>
    cases fl with
    | ret u =>
      obtain ⟨v, H', J3, rv, isN, qq⟩ := J2.after out
      subst isN
      exact ⟨rv, ⟨V.ref (mem.objs.size + 1), H', J3, rfl, qq⟩⟩
    | next => exact False.elim out
    | brk => exact False.elim out
    | cont => exact False.elim out
end

/-! ## C(k = e): the same by keywords -/
section
open PySem.HandSPX
variable {M : Model} {A : Around} {E : Value → Shared → Prop} {h : Heap} {g : Array GenState} {d : Drawn} {t : Nat} {oss : OsState}
variable {nm q : Str} {C N : Addr} {bs bm bmB : List Value} {hdct : Bool} {sn : List Str} {sub : List Value} {ab : Bool} {col : Option Bool} {dd : Option Addr} {k0 k1 k2 k3 k5 : Option Value} {B newId initId : String} {kn : Str} {kv : Value}
theorem check_new_kw (F : ExcBaseFacts B newId initId bmB) (hT : ∀ X : String, bm.contains (.type X) = bmB.contains (.type X)) {Q : Unit → Shared → Prop}
    (atC : h.get? C = some (excClassObj nm q C N bs bm hdct sn sub ab col dd k0 k1 k2 k3 k5 newId)) (hq : Q () ⟨h, g, d, t, oss⟩) : wpAny M A (checkBuiltinCall newId ⟨[.ref C], [(kn, kv)]⟩) Q E ⟨h, g, d, t, oss⟩ := by
  have hasB : (Value.ref C :: bm).contains (.type B) = true := by rw [List.contains_cons, hT, F.hasB, Bool.or_true]
  have nstar := F.noStar
  simp only [checkBuiltinCall, F.newKind, F.newSplit, F.newRow]
  repeat (first | refine wpAny_loadPart_at atC ?_ | (refine wpAny_isSubtype_exc atC ?_; rw [hasB]) | refine wpAny_staticBase_exc atC ?_ | refine wpAny_madeBy_exc atC ?_ | simp only [bne_self_eq_false, Bool.false_eq_true, if_false] | wp_step)
  exact hq
theorem check_type_call_kw {Q : Unit → Shared → Prop} (atC : h.get? C = some (excClassObj nm q C N bs bm hdct sn sub ab col dd k0 k1 k2 k3 k5 newId))
    (hq : Q () ⟨h, g, d, t, oss⟩) : wpAny M A (checkBuiltinCall "type.__call__" ⟨[.ref C], [(kn, kv)]⟩) Q E ⟨h, g, d, t, oss⟩ := by
  have f3 := tc_sub
  have hT : (⟨h, g, d, t, oss⟩ : Shared).TypeIs (.ref C) "type" := ⟨_, atC, rfl⟩
  simp only [checkBuiltinCall, tc_kind, tc_split]
  repeat (any_goals (first | assumption | with_reducible refine wpAny_loadPart_at atC ?_ | with_reducible refine wpAny_onRaise ?_ | with_reducible refine wpAny_map ?_ | wp_step))
end
section
open PySem.HandSPX
variable {prog : Program} {w : World} {A : Around} {E : Value → Shared → Prop} {R : Result → Shared → Prop} {h : Heap} {g : Array GenState} {d : Drawn} {t : Nat} {oss : OsState}
variable {nm q : Str} {C N : Addr} {bs bm bmB : List Value} {hdct : Bool} {sn : List Str} {sub : List Value} {ab : Bool} {col : Option Bool} {dd : Option Addr} {k0 k1 k2 k3 k5 : Option Value} {B newId initId : String} {kn : Str} {kv : Value}
theorem new_kw (F : ExcBaseFacts B newId initId bmB) (hT : ∀ X : String, bm.contains (.type X) = bmB.contains (.type X))
    (atC : h.get? C = some (excClassObj nm q C N bs bm hdct sn sub ab col dd k0 k1 k2 k3 k5 newId))
    (hq : R (.ok (.ret (.ref (h.objs.size + 1)))) ⟨(h.push (PySem.W.kdv_tup [])).push (excO C h.objs.size), g, d, t, oss⟩) :
    codeAny (model prog w) A (.builtin newId ⟨[.ref C], [(kn, kv)]⟩) R ⟨h, g, d, t, oss⟩ := by
  have ends := F.ends
  have hasB : (Value.ref C :: bm).contains (.type B) = true := by rw [List.contains_cons, hT, F.hasB, Bool.or_true]
  have noA : (Value.ref C :: bm).contains (.type "AttributeError") = false := by rw [List.contains_cons, hT, F.noAttr]; rfl
  have noN : (Value.ref C :: bm).contains (.type "NameError") = false := by rw [List.contains_cons, hT, F.noName]; rfl
  have hrest : ([] : List Value).length ≤ sizeLine := Nat.zero_le _
  refine codeAny_builtinAt F.entry ?_
  unfold Builtin.«BaseException.__new__»
  refine PySem.wpAt_bind ?_
  show PySem.wpAt _ _ _ (stack >>= _) _ _ _
  refine PySem.wpAt_bind (PySem.wpAt_stack fun p below => PySem.wpAt_of_wpAny ?_)
  wp_walk
  refine PySem.wpAt_of_wpAny ?_
  rw [F.owner]
  repeat (first | with_reducible refine wpAny_madeHere_exc F.canon atC ?_ | with_reducible refine wpAny_loadPart_at atC ?_ | (with_reducible refine wpAny_isSubtype_exc atC ?_; first | rw [hasB] | rw [noA] | rw [noN]) | wp_step)
  show R _ _
  rw [Heap.size_push]
  exact hq
theorem type_call_kw (F : ExcBaseFacts B newId initId bmB) (hT : ∀ X : String, bm.contains (.type X) = bmB.contains (.type X)) {fI : Addr} {Q : Fin → Shared → Prop}
    (atC : h.get? C = some (excClassObj nm q C N bs bm hdct sn sub ab col dd k0 k1 k2 k3 k5 newId))
    (hi : PySem.W.Looks (model prog w) h (typeLookup (.ref C) "__init__") (some (.ref fI))) (hb : ∀ self, PySem.W.Looks (model prog w) h (bindSpecial (.ref fI) self) (.ref fI, [self]))
    (hq : codeAny (model prog w) A (.call (.ref fI) ⟨[.ref (h.objs.size + 1)], [(kn, kv)]⟩)
      (fun r s' => match r with | .ok (.ret v) => v = .none ∧ Q (.done (.ret (.ref (h.objs.size + 1)))) s' | .ok _ => False | .error e => E e s')
      ⟨(h.push (PySem.W.kdv_tup [])).push (excO C h.objs.size), g, d, t, oss⟩) :
    wpAny (model prog w) A (Builtin.«type.__call__» ⟨[.ref C], [(kn, kv)]⟩) Q E ⟨h, g, d, t, oss⟩ := by
  repeat (first | with_reducible refine wpAny_loadPart_at atC ?_ | with_reducible refine wpAny_madeBy_exc atC ?_ | wp_step)
  refine codeAny_call_builtin_code (Code.quiet_builtin _ F.quiet) (check_new_kw F hT atC ?_)
  refine new_kw F hT atC ?_
  show wpAny _ _ _ _ _ _
  have k : ∀ b o, h.get? b = some o → ((h.push (PySem.W.kdv_tup [])).push (excO C h.objs.size)).get? b = some o := fun b o e => Heap.get?_push_of_some _ (Heap.get?_push_of_some _ e)
  have hC₁ := k _ _ atC
  have atNew : ((h.push (PySem.W.kdv_tup [])).push (excO C h.objs.size)).get? (h.objs.size + 1) = some (excO C h.objs.size) := by heap_get
  have hasC : (Value.ref C :: bm).contains (.ref C) = true := by simp
  have ini := hi.keeps k
  have bnd := (hb (.ref (h.objs.size + 1))).keeps k
  unfold isInstance
  repeat (first | with_reducible refine wpAny_loadPart_at atNew ?_ | (with_reducible refine wpAny_isSubtype_exc hC₁ ?_; rw [hasC]) | wp_step)
  show wpAny _ _ (typeLookup (.ref C) _) _ _ _
  refine ini.at ?_
  refine wpAny_holding (wpAny_bind (bnd.at ?_))
  refine wpAny_bind (wpAny_call (codeAny_mono hq fun r s' fin => ?_))
  rcases r with e | (v | _ | _ | _) <;> first | exact fin | exact fin.elim | skip
  obtain ⟨rfl, fin⟩ := fin
  first
    | exact wpAny_pure (wpAny_pure fin)
    | (wp_walk; exact fin)
theorem call_kw (F : ExcBaseFacts B newId initId bmB) (hT : ∀ X : String, bm.contains (.type X) = bmB.contains (.type X)) {fI : Addr}
    (atC : h.get? C = some (excClassObj nm q C N bs bm hdct sn sub ab col dd k0 k1 k2 k3 k5 newId))
    (hi : PySem.W.Looks (model prog w) h (typeLookup (.ref C) "__init__") (some (.ref fI))) (hb : ∀ self, PySem.W.Looks (model prog w) h (bindSpecial (.ref fI) self) (.ref fI, [self]))
    (hq : codeAny (model prog w) (A.under (.builtin "type.__call__" ⟨[.ref C], [(kn, kv)]⟩)) (.call (.ref fI) ⟨[.ref (h.objs.size + 1)], [(kn, kv)]⟩) (PySem.W.InitBack (h.objs.size + 1) R)
      ⟨(h.push (PySem.W.kdv_tup [])).push (excO C h.objs.size), g, d, t, oss⟩) :
    codeAny (model prog w) A (.call (.ref C) ⟨[], [(kn, kv)]⟩) R ⟨h, g, d, t, oss⟩ := by
  have f1 := tc_lookup
  have f2 := tc_bind (.ref C)
  have tyC : (⟨h, g, d, t, oss⟩ : Shared).TypeIs (.ref C) "type" := ⟨_, atC, rfl⟩
  refine codeAny_of_tree ?_
  show wpAny _ _ (callAny (.ref C) _) _ _ _
  repeat (any_goals (first | assumption | with_reducible refine wpAny_loadPart_at atC ?_ | wp_step))
  refine ⟨rfl, ?_⟩
  refine codeAny_call_builtin_at (Code.quiet_builtin _ (by decide +kernel)) entry_typeCall (check_type_call_kw atC (type_call_kw F hT atC hi hb ?_))
  refine codeAny_mono hq fun r s' fin => ?_
  rcases r with e | (v | _ | _ | _) <;> exact fin
end
end Xr
namespace Xr
open PySem PySem.Spec PyProof.Rows L2
section
variable {X : Cx}
/-- C(k = e), C's own __init__ keeping sp: a value -/
def tMkK (C : Addr) (sp : Sp) (tks : TA) : TE := fun σ H Q => tks σ H fun zs H1 => ∃ v, zs = [v] ∧ ∀ a, H1 a = none → sp [.ref a, v] (upd H1 a (exo a C none)) (fun v H2 => v = .non ∧ Q (.ref a) H2) (fun _ _ _ => False)
theorem pe_oexK {CX : CXT} {x kn : Str} {C fI : Addr} {k : Nat} {fd : FuncData} {ps : List Str} {sp : Sp} {kws : List Keyword} {tks : TA} {p pos : Pos} (T : OexC X.K C) (iC : PySem.W.findIn X.K (.ref C) "__init__" = some (some (.ref fI))) (tI : PySem.W.typeIn X.K (.ref fI) = some (.type "function"))
    (F1 : FnOk X.prog X.w X.K X.mg X.base CX k fI fd ps sp) (hr : Room (k + 1) X.A) (hb : ∀ (s : Shared) (a b : Value), BindsTo s fd ⟨[a], [(kn, b)]⟩ (ps.zip [a, b])) (hx : Passes CX X (fun _ _ _ => False)) (hg : Gl X x) (hm : X.mg x = some (.ref C)) (hkw : PK X kws tks)
    (hall : (backToKw pos (keywordEach kws X.env)).all (·.1.isSome) = true := by rfl) (hks : (backToKw pos (keywordEach kws X.env)).filterMap (·.1) = [kn] := by rfl)
    (nodbg : (x == ("__debug__" : Str)) = false := by decide)
    (nosp : ((backTo pos (starEach [] X.env)).any (·.1) || (backToKw pos (keywordEach kws X.env)).any (·.1.isNone)) = false := by rfl) :
    PE X (.Call (.Name x p) [] kws pos) (tMkK C sp tks) := by
  refine ⟨fun ps0 s σ H Q I h => ?_⟩
  obtain ⟨nm, qn, N, bs, bm, sn, sub, ab, col, dd, k0, k1, k2, k3, k5, lookC, refs⟩ := T.cls
  refine wpAny_Call_Name_kw (ld_glob I hg hm ?_ nodbg)
  refine PySem.W.callWith_KW0 (h₀ := X.base) I.ok.mod.kin T.kC hall (thn (hkw.run pos ps0 s σ H _ I h) fun ws s1 ⟨zs, H1, I1, r1, v, ez, q1⟩ => ⟨I1.kIn, ?_⟩) nosp
  rw [hks]
  subst ez
  cases r1 with
  | @cons _ u _ rest ru rw' =>
    cases rw'
    show wpAny _ _ (call (.ref C) [] [(kn, u)]) _ _ _
    obtain ⟨mem, g, drw, tks, oss⟩ := s1
    have big : mem.objs.size ≤ mem.objs.size + 1 := Nat.le_succ _
    have hn : H1 (mem.objs.size + 1) = none := I1.hok.fresh big
    have hq := q1 (mem.objs.size + 1) hn
    have old : ∀ b o, mem.get? b = some o → ((mem.push (PySem.W.kdv_tup [])).push (PySem.HandSPX.excO C mem.objs.size)).get? b = some o := fun b o e => Heap.get?_push_of_some _ (Heap.get?_push_of_some _ e)
    have atNew : ((mem.push (PySem.W.kdv_tup [])).push (PySem.HandSPX.excO C mem.objs.size)).get? (mem.objs.size + 1) = some (PySem.HandSPX.excO C mem.objs.size) := by heap_get
    have J2 : Inv X ps0 σ (upd H1 (mem.objs.size + 1) (exo (mem.objs.size + 1) C none)) ⟨(mem.push (PySem.W.kdv_tup [])).push (PySem.HandSPX.excO C mem.objs.size), g, drw, tks, oss⟩ :=
      I1.laid (t' := tks) (a := mem.objs.size + 1) (o := exo (mem.objs.size + 1) C none) (h' := (mem.push (PySem.W.kdv_tup [])).push (PySem.HandSPX.excO C mem.objs.size)) old big (exo_ok atNew)
    have r2 : Vals [V.ref (mem.objs.size + 1), v] [Value.ref (mem.objs.size + 1), u] := .cons rfl (.cons ru .nil)
    refine wpAny_call (call_kw F.excBase_ValueError (fun Y => PySem.HandSPX.refsVE_contains Y bm refs) (I1.kIn _ _ lookC) (PySem.W.looks_findIn I1.kIn iC) (fun self => PySem.W.bind_fn I1.kIn self tI)
      (codeAny_mono (F1.run _ X.stack _ _ ⟨[Value.ref (mem.objs.size + 1)], [(kn, u)]⟩ [Value.ref (mem.objs.size + 1), u] _ _ (fun _ _ _ => False) (hr.make C [] [(kn, u)]) (J2.env0.make C [] [(kn, u)]) (hb _ _ _) r2 hq) fun r s' out => ?_))
    cases r with
    | error er => exact hx ps0 σ _ _ er s' J2 out
    | ok fl =>
      cases fl with
      | ret u =>
        obtain ⟨v, H', J3, rv, isN, qq⟩ := J2.after out
        subst isN
        exact ⟨rv, ⟨V.ref (mem.objs.size + 1), H', J3, rfl, qq⟩⟩
      | next => exact False.elim out
      | brk => exact False.elim out
      | cont => exact False.elim out
end
end Xr
namespace Lw
open PySem PySem.Spec PyProof.Rows L2
abbrev sPlain : Stmt := Pre.top 48
abbrev sBeneath : Stmt := Pre.top 49
abbrev sLaw : Stmt := Pre.top 50
abbrev veT : List Value := [.type "ValueError", .type "Exception", .type "BaseException", .type "object"]
/-- what the law asks of a plain error's class -/
structure PlF (K : PySem.W.Frag) (E M C : Addr) : Prop where
  i : Xr.IsC K C
  v : PySem.W.kitOne K (.ref C) (.type "ValueError") = some true
  e : PySem.W.kitOne K (.ref C) (.ref E) = some true
  m : PySem.W.kitOne K (.ref C) (.ref M) = some false
structure PlC (K : PySem.W.Frag) (mg : Str → Option Value) (x : Str) (C : Addr) : Prop where
  g : mg x = some (.ref C)
  q : PySem.W.excIn K C veT "ValueError.__new__" = true
  k : PySem.W.keepIn K (.ref C) = true
def AllP (K : PySem.W.Frag) (E M : Addr) (H : Hp) (xs : List V) : Prop := ∀ x ∈ xs, ∃ a C, x = .ref a ∧ Xr.Exi H a C ∧ PlF K E M C
theorem AllP.same {K : PySem.W.Frag} {E M : Addr} {H H' : Hp} {xs : List V} (a : AllP K E M H xs) (s : Same H H') : AllP K E M H' xs := fun x hx => by
  obtain ⟨p, C, e, q, f⟩ := a x hx
  exact ⟨p, C, e, q.same s, f⟩
theorem AllP.app {K : PySem.W.Frag} {E M : Addr} {H : Hp} {xs ys : List V} (a : AllP K E M H xs) (b : AllP K E M H ys) : AllP K E M H (xs ++ ys) := fun x hx => by
  rcases List.mem_append.mp hx with h | h
  · exact a x h
  · exact b x h
section
variable {X : Cx} {E M : Addr}
/-- n plain errors, made of the word in slot 0 -/
def tPl (K : PySem.W.Frag) (E M : Addr) (n : Nat) : TA := fun σ H Q => (∃ v, σ[0]? = some (some v)) ∧ ∀ xs H', Same H H' → AllP K E M H' xs → xs.length = n → Q xs H'
theorem pl_nil : PA X [] (tPl X.K E M 0) := ⟨fun pos pins s σ H Q I h => pa_nil.run pos pins s σ H Q I (h.2 [] H (Same.refl H) (fun _ hx => nomatch hx) rfl)⟩
theorem pl_cons {x y : Str} {C : Addr} {p q pos : Pos} {es : List Expr} {n : Nat} (T : PlC X.K X.mg x C) (F : PlF X.K E M C) (hN : X.N[0]? = some y) (hr : PA X es (tPl X.K E M n)) (hv : Vis X.env.scope y := by first | exact Or.inl rfl | exact Or.inr (Or.inl rfl)) (hg : Gl X x := by rfl)
    (hd : (y == ("__debug__" : Str)) = false := by decide) (hcd : (y == ("__classdict__" : Str)) = false := by decide) (hdb : (x == ("__debug__" : Str)) = false := by decide)
    (he : starEach (.Call (.Name x p) [.Name y q] [] pos :: es) X.env = (false, eval (.Call (.Name x p) [.Name y q] [] pos) X.env) :: starEach es X.env := by rfl) :
    PA X (.Call (.Name x p) [.Name y q] [] pos :: es) (tPl X.K E M (n + 1)) := by
  refine ⟨fun pos' pins s σ H Q I h => ?_⟩
  refine (pa_cons (pe_exc1 PySem.F.excBase_ValueError T.q T.g T.k hg (pe_var (i := 0) hN hv hd hcd) rfl hdb) hr he).run pos' pins s σ H Q I ?_
  obtain ⟨⟨v, hv⟩, k⟩ := h
  refine ⟨v, hv, fun a ha => ⟨⟨v, hv⟩, fun xs H' s' al ln => k (.ref a :: xs) H' ((Pre.same_upd ha).trans s') (fun x hx => ?_) (by rw [List.length_cons, ln])⟩⟩
  rcases List.mem_cons.mp hx with rfl | hx
  · exact ⟨a, C, rfl, .plain (s' _ _ upd_same), F⟩
  · exact al x hx
def PWord (v : V) : Prop := ∃ z : Str, v = .str z ∧ z.length ≤ 10
/-- isinstance(A(word), B), never -/
def tFl : TE := fun σ H Q => (∃ v, σ[0]? = some (some v) ∧ PWord v) ∧ ∀ H', Same H H' → Q (.bl false) H'
theorem pe_fl {x y b : Str} {A B : Addr} {p q pos p2 pb p3 : Pos} (T : PlC X.K X.mg x A) (i : Xr.IsC X.K A) (hB : X.mg b = some (.ref B)) (hf : PySem.W.kitOne X.K (.ref A) (.ref B) = some false) (Z : Xr.IsK X.K) (hm : X.mg "isinstance" = none) (hN : X.N[0]? = some y) (hv : Vis X.env.scope y := by first | exact Or.inl rfl | exact Or.inr (Or.inl rfl))
    (hg : Gl X x := by rfl) (hgb : Gl X b := by rfl) (hgi : Gl X "isinstance" := by rfl)
    (hd : (y == ("__debug__" : Str)) = false := by decide) (hcd : (y == ("__classdict__" : Str)) = false := by decide) (hdb : (x == ("__debug__" : Str)) = false := by decide) (hdb2 : (b == ("__debug__" : Str)) = false := by decide) (hcb : (b == ("__classdict__" : Str)) = false := by decide) :
    PE X (.Call (.Name "isinstance" p2) [.Call (.Name x p) [.Name y q] [] pos, .Name b pb] [] p3) tFl := by
  refine ⟨fun pins s σ H Q I h => ?_⟩
  refine (pe_callB (Xr.call_isX Z) hgi hm (by decide +kernel) (pa_cons (pe_exc1 PySem.F.excBase_ValueError T.q T.g T.k hg (pe_var (i := 0) hN hv hd hcd) rfl hdb) (pa_cons (pe_glob (v := .ref B) hgb hB rfl hdb2) pa_nil))).run pins s σ H Q I ?_
  obtain ⟨⟨v, hv, _⟩, k⟩ := h
  exact ⟨v, hv, fun a ha => ⟨a, A, _, _, false, rfl, .plain upd_same, i, .own B, hf, k _ (Pre.same_upd ha)⟩⟩
def tFls (n : Nat) : TA := fun σ H Q => (∃ v, σ[0]? = some (some v) ∧ PWord v) ∧ ∀ H', Same H H' → Q (List.replicate n (.bl false)) H'
theorem fl_nil : PA X [] (tFls 0) := ⟨fun pos pins s σ H Q I h => pa_nil.run pos pins s σ H Q I (h.2 H (Same.refl H))⟩
theorem fl_cons {e : Expr} {es : List Expr} {n : Nat} (he : PE X e tFl) (hr : PA X es (tFls n)) (hs : starEach (e :: es) X.env = (false, eval e X.env) :: starEach es X.env := by rfl) : PA X (e :: es) (tFls (n + 1)) := by
  refine ⟨fun pos' pins s σ H Q I h => (pa_cons he hr hs).run pos' pins s σ H Q I ?_⟩
  obtain ⟨hv, k⟩ := h
  exact ⟨hv, fun H1 s1 => ⟨hv, fun H2 s2 => k H2 (s1.trans s2)⟩⟩
end
/-- the plain errors of the text -/
structure Pls (K : PySem.W.Frag) (mg : Str → Option Value) (E M c0 c1 c2 c3 c4 c5 c6 c7 c8 c9 c10 c11 c12 c13 c14 c15 c16 c17 c18 c19 c20 c21 c22 c23 c24 c25 c26 c27 c28 c29 c30 c31 c32 c33 c34 c35 : Addr) : Prop where
  p0 : PlC K mg "BadBook" c0
  p1 : PlC K mg "BadBottom" c1
  p2 : PlC K mg "BadChances" c2
  p3 : PlC K mg "BadCoins" c3
  p4 : PlC K mg "BadExpression" c4
  p5 : PlC K mg "BadForm" c5
  p6 : PlC K mg "BadGrid" c6
  p7 : PlC K mg "BadKind" c7
  p8 : PlC K mg "BadKinds" c8
  p9 : PlC K mg "BadLength" c9
  p10 : PlC K mg "BadLine" c10
  p11 : PlC K mg "BadManner" c11
  p12 : PlC K mg "BadMany" c12
  p13 : PlC K mg "BadMost" c13
  p14 : PlC K mg "BadName" c14
  p15 : PlC K mg "BadNames" c15
  p16 : PlC K mg "BadNumber" c16
  p17 : PlC K mg "BadNumbers" c17
  p18 : PlC K mg "BadPass" c18
  p19 : PlC K mg "BadPath" c19
  p20 : PlC K mg "BadPaths" c20
  p21 : PlC K mg "BadProgram" c21
  p22 : PlC K mg "BadSure" c22
  p23 : PlC K mg "BadSurrounding" c23
  p24 : PlC K mg "BadTable" c24
  p25 : PlC K mg "BadTables" c25
  p26 : PlC K mg "BadTake" c26
  p27 : PlC K mg "BadTalk" c27
  p28 : PlC K mg "BadTalks" c28
  p29 : PlC K mg "BadTape" c29
  p30 : PlC K mg "BadThing" c30
  p31 : PlC K mg "BadThings" c31
  p32 : PlC K mg "BadWeight" c32
  p33 : PlC K mg "BadWeights" c33
  p34 : PlC K mg "NoChance" c34
  p35 : PlC K mg "NoMaker" c35
  f0 : PlF K E M c0
  f1 : PlF K E M c1
  f2 : PlF K E M c2
  f3 : PlF K E M c3
  f4 : PlF K E M c4
  f5 : PlF K E M c5
  f6 : PlF K E M c6
  f7 : PlF K E M c7
  f8 : PlF K E M c8
  f9 : PlF K E M c9
  f10 : PlF K E M c10
  f11 : PlF K E M c11
  f12 : PlF K E M c12
  f13 : PlF K E M c13
  f14 : PlF K E M c14
  f15 : PlF K E M c15
  f16 : PlF K E M c16
  f17 : PlF K E M c17
  f18 : PlF K E M c18
  f19 : PlF K E M c19
  f20 : PlF K E M c20
  f21 : PlF K E M c21
  f22 : PlF K E M c22
  f23 : PlF K E M c23
  f24 : PlF K E M c24
  f25 : PlF K E M c25
  f26 : PlF K E M c26
  f27 : PlF K E M c27
  f28 : PlF K E M c28
  f29 : PlF K E M c29
  f30 : PlF K E M c30
  f31 : PlF K E M c31
  f32 : PlF K E M c32
  f33 : PlF K E M c33
  f34 : PlF K E M c34
  f35 : PlF K E M c35
  b0 : PySem.W.kitOne K (.ref c8) (.ref c7) = some false
  b1 : PySem.W.kitOne K (.ref c7) (.ref c8) = some false
  b2 : PySem.W.kitOne K (.ref c15) (.ref c14) = some false
  b3 : PySem.W.kitOne K (.ref c14) (.ref c15) = some false
  b4 : PySem.W.kitOne K (.ref c17) (.ref c16) = some false
  b5 : PySem.W.kitOne K (.ref c16) (.ref c17) = some false
  b6 : PySem.W.kitOne K (.ref c20) (.ref c19) = some false
  b7 : PySem.W.kitOne K (.ref c19) (.ref c20) = some false
  b8 : PySem.W.kitOne K (.ref c25) (.ref c24) = some false
  b9 : PySem.W.kitOne K (.ref c24) (.ref c25) = some false
  b10 : PySem.W.kitOne K (.ref c28) (.ref c27) = some false
  b11 : PySem.W.kitOne K (.ref c27) (.ref c28) = some false
  b12 : PySem.W.kitOne K (.ref c31) (.ref c30) = some false
  b13 : PySem.W.kitOne K (.ref c30) (.ref c31) = some false
  b14 : PySem.W.kitOne K (.ref c33) (.ref c32) = some false
  b15 : PySem.W.kitOne K (.ref c32) (.ref c33) = some false
  b16 : PySem.W.kitOne K (.ref c21) (.ref c4) = some false
  b17 : PySem.W.kitOne K (.ref c4) (.ref c21) = some false
section
variable {X : Cx} {E M : Addr}
/-- [..] of n plain errors -/
def tPlL (K : PySem.W.Frag) (E M : Addr) (n : Nat) : TE := fun σ H Q => (∃ v, σ[0]? = some (some v)) ∧ ∀ xs l H', Same H H' → AllP K E M H' xs → xs.length = n → H' l = some (.lst xs) → Q (.ref l) H'
theorem pe_plL {es : List Expr} {n : Nat} {pos : Pos} (h : PA X es (tPl X.K E M n)) (hn : n ≤ 1000 := by decide) : PE X (.List es pos) (tPlL X.K E M n) := by
  refine ⟨fun pins s σ H Q I q => (pe_lst h).run pins s σ H Q I ?_⟩
  obtain ⟨hv, k⟩ := q
  refine ⟨hv, fun xs H1 s1 al ln => ⟨by rw [ln]; exact Nat.le_trans hn (by decide), fun l hl => k xs l _ (s1.trans (Pre.same_upd hl)) (al.same (Pre.same_upd hl)) ln upd_same⟩⟩
/-- some + [..] -/
def tPlC (K : PySem.W.Frag) (E M : Addr) (m n : Nat) : TE := fun σ H Q => (∃ v, σ[0]? = some (some v)) ∧ ∃ a xs, σ[1]? = some (some (.ref a)) ∧ H a = some (.lst xs) ∧ AllP K E M H xs ∧ xs.length = m ∧ ∀ ys l H', Same H H' → AllP K E M H' ys → ys.length = m + n → H' l = some (.lst ys) → Q (.ref l) H'
theorem pe_plC {y : Str} {q pos p2 : Pos} {es : List Expr} {m n : Nat} (h : PA X es (tPl X.K E M n)) (hN : X.N[1]? = some y) (hn : n ≤ 1000 := by decide) (hm : m + n ≤ 1000 := by decide) (hv : Vis X.env.scope y := by first | exact Or.inl rfl | exact Or.inr (Or.inl rfl)) (hd : (y == ("__debug__" : Str)) = false := by decide)
    (hcd : (y == ("__classdict__" : Str)) = false := by decide) : PE X (.BinOp (.Name y q) .Add (.List es pos) p2) (tPlC X.K E M m n) := by
  refine ⟨fun pins s σ H Q I g => (pe_op op_cat (pe_var (i := 1) hN hv hd hcd) (pe_plL h hn)).run pins s σ H Q I ?_⟩
  obtain ⟨hv, a, xs, h1, ha, al, ln, k⟩ := g
  refine ⟨_, h1, hv, fun ys l H1 s1 al2 ln2 hl => ⟨a, l, xs, ys, rfl, rfl, s1 _ _ ha, hl, ?_, fun p hp => ?_⟩⟩
  · rw [ln, ln2]
    exact Nat.le_trans hm (by decide)
  · exact k (xs ++ ys) p _ (s1.trans (Pre.same_upd hp)) (((al.same s1).app al2).same (Pre.same_upd hp)) (by rw [List.length_append, ln, ln2]) upd_same
/-- [..] of n isinstances -/
def tFlL (n : Nat) : TE := fun σ H Q => (∃ v, σ[0]? = some (some v) ∧ PWord v) ∧ ∀ l H', Same H H' → H' l = some (.lst (List.replicate n (.bl false))) → Q (.ref l) H'
theorem pe_flL {es : List Expr} {n : Nat} {pos : Pos} (h : PA X es (tFls n)) (hn : n ≤ 1000 := by decide) : PE X (.List es pos) (tFlL n) := by
  refine ⟨fun pins s σ H Q I q => (pe_lst h).run pins s σ H Q I ?_⟩
  obtain ⟨hv, k⟩ := q
  refine ⟨hv, fun H1 s1 => ⟨by rw [List.length_replicate]; exact Nat.le_trans hn (by decide), fun l hl => k l _ (s1.trans (Pre.same_upd hl)) upd_same⟩⟩
def tFlC (m n : Nat) : TE := fun σ H Q => (∃ v, σ[0]? = some (some v) ∧ PWord v) ∧ ∃ a, σ[1]? = some (some (.ref a)) ∧ H a = some (.lst (List.replicate m (.bl false))) ∧ ∀ l H', Same H H' → H' l = some (.lst (List.replicate (m + n) (.bl false))) → Q (.ref l) H'
theorem pe_flC {y : Str} {q pos p2 : Pos} {es : List Expr} {m n : Nat} (h : PA X es (tFls n)) (hN : X.N[1]? = some y) (hn : n ≤ 1000 := by decide) (hm : m + n ≤ 1000 := by decide) (hv : Vis X.env.scope y := by first | exact Or.inl rfl | exact Or.inr (Or.inl rfl)) (hd : (y == ("__debug__" : Str)) = false := by decide)
    (hcd : (y == ("__classdict__" : Str)) = false := by decide) : PE X (.BinOp (.Name y q) .Add (.List es pos) p2) (tFlC m n) := by
  refine ⟨fun pins s σ H Q I g => (pe_op op_cat (pe_var (i := 1) hN hv hd hcd) (pe_flL h hn)).run pins s σ H Q I ?_⟩
  obtain ⟨hv, a, h1, ha, k⟩ := g
  refine ⟨_, h1, hv, fun l H1 s1 hl => ⟨a, l, _, _, rfl, rfl, s1 _ _ ha, hl, ?_, fun p hp => ?_⟩⟩
  · rw [List.length_replicate, List.length_replicate]
    exact Nat.le_trans hm (by decide)
  · exact k p _ (s1.trans (Pre.same_upd hp)) (by rw [upd_same, List.replicate_append_replicate])
end
section
variable {P0 : Program} {w : World} {K : PySem.W.Frag} {mg : Str → Option Value} {base : Heap} {E M c0 c1 c2 c3 c4 c5 c6 c7 c8 c9 c10 c11 c12 c13 c14 c15 c16 c17 c18 c19 c20 c21 c22 c23 c24 c25 c26 c27 c28 c29 c30 c31 c32 c33 c34 c35 : Addr}
def spPlain (K : PySem.W.Frag) (E M : Addr) : Sp := fun vs H Q _ => ∃ v, vs = [v] ∧ ∀ xs l H', Same H H' → AllP K E M H' xs → xs.length = 36 → H' l = some (.lst xs) → Q (.ref l) H'
theorem scPlain : FnScope ["word", "some"] ["word"] (defScope sPlain) := ⟨rfl, rfl, rfl, by decide +kernel, rfl, by decide +kernel, by decide +kernel⟩
theorem ok_plain {f : Addr} {fd : FuncData} (F : Fun K "_law_plain" "_law_plain" sPlain f fd) (P : Pls K mg E M c0 c1 c2 c3 c4 c5 c6 c7 c8 c9 c10 c11 c12 c13 c14 c15 c16 c17 c18 c19 c20 c21 c22 c23 c24 c25 c26 c27 c28 c29 c30 c31 c32 c33 c34 c35) : FnOk P0 w K mg base CX0 1 f fd ["word"] (spPlain K E M) := by
  refine F.ok scPlain (fun vs H Q E h => ?_) (fun cdv A outer s H vs Q E hr h => ?_)
  · obtain ⟨v, rfl, _⟩ := h
    rfl
  · obtain ⟨v, rfl, k⟩ := h
    have nd := scPlain.nd
    refine ⟨_, (pss_cons (ps_set (i := 1) nd rfl (Or.inl rfl) (pe_plL (pl_cons P.p0 P.f0 rfl (pl_cons P.p1 P.f1 rfl (pl_cons P.p2 P.f2 rfl (pl_cons P.p3 P.f3 rfl (pl_cons P.p4 P.f4 rfl (pl_cons P.p5 P.f5 rfl pl_nil))))))))
      (pss_cons (ps_set (i := 1) nd rfl (Or.inl rfl) (pe_plC (m := 6) (pl_cons P.p6 P.f6 rfl (pl_cons P.p7 P.f7 rfl (pl_cons P.p8 P.f8 rfl (pl_cons P.p9 P.f9 rfl (pl_cons P.p10 P.f10 rfl (pl_cons P.p11 P.f11 rfl pl_nil)))))) rfl))
      (pss_cons (ps_set (i := 1) nd rfl (Or.inl rfl) (pe_plC (m := 12) (pl_cons P.p12 P.f12 rfl (pl_cons P.p13 P.f13 rfl (pl_cons P.p14 P.f14 rfl (pl_cons P.p15 P.f15 rfl (pl_cons P.p16 P.f16 rfl (pl_cons P.p17 P.f17 rfl pl_nil)))))) rfl))
      (pss_cons (ps_set (i := 1) nd rfl (Or.inl rfl) (pe_plC (m := 18) (pl_cons P.p18 P.f18 rfl (pl_cons P.p19 P.f19 rfl (pl_cons P.p20 P.f20 rfl (pl_cons P.p21 P.f21 rfl (pl_cons P.p22 P.f22 rfl (pl_cons P.p23 P.f23 rfl pl_nil)))))) rfl))
      (pss_cons (ps_set (i := 1) nd rfl (Or.inl rfl) (pe_plC (m := 24) (pl_cons P.p24 P.f24 rfl (pl_cons P.p25 P.f25 rfl (pl_cons P.p26 P.f26 rfl (pl_cons P.p27 P.f27 rfl (pl_cons P.p28 P.f28 rfl (pl_cons P.p29 P.f29 rfl pl_nil)))))) rfl))
      (pss_one (ps_ret (pe_plC (m := 30) (pl_cons P.p30 P.f30 rfl (pl_cons P.p31 P.f31 rfl (pl_cons P.p32 P.f32 rfl (pl_cons P.p33 P.f33 rfl (pl_cons P.p34 P.f34 rfl (pl_cons P.p35 P.f35 rfl pl_nil)))))) rfl)))))))), ?_⟩
    refine ⟨⟨_, rfl⟩, fun x1 l1 H1 s1 a1 n1 h1 => ?_⟩
    refine ⟨⟨_, rfl⟩, _, _, rfl, h1, a1, n1, fun x2 l2 H2 s2 a2 n2 h2 => ?_⟩
    refine ⟨⟨_, rfl⟩, _, _, rfl, h2, a2, n2, fun x3 l3 H3 s3 a3 n3 h3 => ?_⟩
    refine ⟨⟨_, rfl⟩, _, _, rfl, h3, a3, n3, fun x4 l4 H4 s4 a4 n4 h4 => ?_⟩
    refine ⟨⟨_, rfl⟩, _, _, rfl, h4, a4, n4, fun x5 l5 H5 s5 a5 n5 h5 => ?_⟩
    refine ⟨⟨_, rfl⟩, _, _, rfl, h5, a5, n5, fun x6 l6 H6 s6 a6 n6 h6 => ?_⟩
    exact k x6 l6 H6 (s1.trans (s2.trans (s3.trans (s4.trans (s5.trans s6))))) a6 n6 h6
end
/-! ## the five errors with fields -/
structure Bas (K : PySem.W.Frag) (mg : Str → Option Value) (E : Addr) : Prop where
  g : mg "ChanceError" = some (.ref E)
  s : PySem.W.specialIn K (.ref E) "__getattribute__" = some (some (.builtin "type.__getattribute__"))
  r : PySem.W.readsIn K E (.type "type") = true
  v : PySem.W.findCls K (.ref E) (.type "type") "__init__" = some (.val (.builtin "ValueError.__init__"))
structure OwC (K : PySem.W.Frag) (mg : Str → Option Value) (x f : Str) (C fI : Addr) : Prop where
  g : mg x = some (.ref C)
  o : OexC K C
  iC : PySem.W.findIn K (.ref C) "__init__" = some (some (.ref fI))
  tI : PySem.W.typeIn K (.ref fI) = some (.type "function")
  no : PySem.W.findIn K (.ref C) f = some none
  hd : PySem.W.hasDictIn K C = true
  i : Xr.IsC K C
def PNum (v : V) : Prop := v = .non ∨ v = .int 0 ∨ v = .int 1 ∨ v = .int 7 ∨ v = .int 4000
/-- C.__init__(self, v) stores v under f -/
def spIni (C : Addr) (f : Str) (P : V → Prop) : Sp := fun vs H Q _ => ∃ (a : Addr) (v : V), vs = [.ref a, v] ∧ P v ∧ H a = some (exo a C none) ∧ ∀ dx, H dx = none → dx ≠ a → Q .non (upd (upd H dx (exd dx [(f, v)])) a (exo a C (some dx)))
abbrev sText : Stmt := inClass (Pre.top 32) 0
abbrev sNoName : Stmt := inClass (Pre.top 39) 0
abbrev sTaken : Stmt := inClass (Pre.top 40) 0
abbrev sMany : Stmt := inClass (Pre.top 41) 0
abbrev sUsed : Stmt := inClass (Pre.top 42) 0
section
variable {P0 : Program} {w : World} {K : PySem.W.Frag} {mg : Str → Option Value} {base : Heap} {E : Addr}
theorem scText : FnScope ["self", "at"] ["self", "at"] (defScope sText) := ⟨rfl, rfl, rfl, by decide +kernel, rfl, by decide +kernel, by decide +kernel⟩
theorem scNoName : FnScope ["self", "name"] ["self", "name"] (defScope sNoName) := ⟨rfl, rfl, rfl, by decide +kernel, rfl, by decide +kernel, by decide +kernel⟩
theorem scTaken : FnScope ["self", "name"] ["self", "name"] (defScope sTaken) := ⟨rfl, rfl, rfl, by decide +kernel, rfl, by decide +kernel, by decide +kernel⟩
theorem scMany : FnScope ["self", "most"] ["self", "most"] (defScope sMany) := ⟨rfl, rfl, rfl, by decide +kernel, rfl, by decide +kernel, by decide +kernel⟩
theorem scUsed : FnScope ["self", "name"] ["self", "name"] (defScope sUsed) := ⟨rfl, rfl, rfl, by decide +kernel, rfl, by decide +kernel, by decide +kernel⟩
theorem ok_text {f C : Addr} {fd : FuncData} (F : Fun K "__init__" "BadText.__init__" sText f fd) (B : Bas K mg E) (T : OwC K mg "BadText" "at" C f) : FnOk P0 w K mg base CX0 1 f fd ["self", "at"] (spIni C "at" PNum) := by
  refine F.ok scText (fun vs H Q E h => ?_) (fun cdv A outer s H vs Q E hr h => ?_)
  · obtain ⟨a, v, rfl, _⟩ := h
    rfl
  · obtain ⟨a, v, rfl, hP, ha, k⟩ := h
    refine ⟨_, pss_cons (ps_expr (Xr.pe_ceinit rfl B.g B.s B.r B.v (pa_cons (pv 0) (pa_cons (pe_joined (PJ.cons pe_str (PJ.cons (Xr.pe_fmtN (pv 1)) PJ.nil))) pa_nil)))) (pss_one (ps_ost (pv 0) (pv 1))), ?_⟩
    rcases hP with rfl | rfl | rfl | rfl | rfl
    · exact ⟨_, rfl, _, rfl, by decide +kernel, _, rfl, .inl ⟨rfl, _, rfl, by decide +kernel, a, C, _, rfl, by decide, T.o, ha, _, rfl, _, rfl, a, C, rfl, T.o, T.no, .inl ⟨ha, k⟩⟩⟩
    all_goals exact ⟨_, rfl, _, rfl, by decide +kernel, _, rfl, .inr ⟨_, rfl, by decide +kernel, _, rfl, by decide +kernel, a, C, _, rfl, by decide, T.o, ha, _, rfl, _, rfl, a, C, rfl, T.o, T.no, .inl ⟨ha, k⟩⟩⟩
theorem ok_many {f C : Addr} {fd : FuncData} (F : Fun K "__init__" "TooMany.__init__" sMany f fd) (B : Bas K mg E) (T : OwC K mg "TooMany" "most" C f) : FnOk P0 w K mg base CX0 1 f fd ["self", "most"] (spIni C "most" PNum) := by
  refine F.ok scMany (fun vs H Q E h => ?_) (fun cdv A outer s H vs Q E hr h => ?_)
  · obtain ⟨a, v, rfl, _⟩ := h
    rfl
  · obtain ⟨a, v, rfl, hP, ha, k⟩ := h
    refine ⟨_, pss_cons (ps_expr (Xr.pe_ceinit rfl B.g B.s B.r B.v (pa_cons (pv 0) (pa_cons (pe_joined (PJ.cons pe_str (PJ.cons (Xr.pe_fmtN (pv 1)) PJ.nil))) pa_nil)))) (pss_one (ps_ost (pv 0) (pv 1))), ?_⟩
    rcases hP with rfl | rfl | rfl | rfl | rfl
    · exact ⟨_, rfl, _, rfl, by decide +kernel, _, rfl, .inl ⟨rfl, _, rfl, by decide +kernel, a, C, _, rfl, by decide, T.o, ha, _, rfl, _, rfl, a, C, rfl, T.o, T.no, .inl ⟨ha, k⟩⟩⟩
    all_goals exact ⟨_, rfl, _, rfl, by decide +kernel, _, rfl, .inr ⟨_, rfl, by decide +kernel, _, rfl, by decide +kernel, a, C, _, rfl, by decide, T.o, ha, _, rfl, _, rfl, a, C, rfl, T.o, T.no, .inl ⟨ha, k⟩⟩⟩
theorem ok_noname {f C : Addr} {fd : FuncData} (F : Fun K "__init__" "NoName.__init__" sNoName f fd) (B : Bas K mg E) (T : OwC K mg "NoName" "name" C f) : FnOk P0 w K mg base CX0 1 f fd ["self", "name"] (spIni C "name" PWord) := by
  refine F.ok scNoName (fun vs H Q E h => ?_) (fun cdv A outer s H vs Q E hr h => ?_)
  · obtain ⟨a, v, rfl, _⟩ := h
    rfl
  · obtain ⟨a, v, rfl, ⟨z, rfl, hz⟩, ha, k⟩ := h
    refine ⟨_, pss_cons (ps_expr (Xr.pe_ceinit rfl B.g B.s B.r B.v (pa_cons (pv 0) (pa_cons pe_str pa_nil)))) (pss_one (ps_ost (pv 0) (pv 1))), ?_⟩
    exact ⟨_, rfl, a, C, _, rfl, by decide, T.o, ha, _, rfl, _, rfl, a, C, rfl, T.o, T.no, .inl ⟨ha, k⟩⟩
theorem fits {a : Str} {z : Str} (ha : a.length ≤ 100) (hz : z.length ≤ 10) : (a ++ z).length ≤ 110 := by
  rw [Str.length_append]
  omega
theorem fits_line {n : Nat} (h : n ≤ 1000) : n ≤ sizeLine := Nat.le_trans h (by decide)
theorem ok_taken {f C : Addr} {fd : FuncData} (F : Fun K "__init__" "Taken.__init__" sTaken f fd) (B : Bas K mg E) (T : OwC K mg "Taken" "name" C f) : FnOk P0 w K mg base CX0 1 f fd ["self", "name"] (spIni C "name" PWord) := by
  refine F.ok scTaken (fun vs H Q E h => ?_) (fun cdv A outer s H vs Q E hr h => ?_)
  · obtain ⟨a, v, rfl, _⟩ := h
    rfl
  · obtain ⟨a, v, rfl, ⟨z, rfl, hz⟩, ha, k⟩ := h
    refine ⟨_, pss_cons (ps_expr (Xr.pe_ceinit rfl B.g B.s B.r B.v (pa_cons (pv 0) (pa_cons (pe_joined (PJ.cons (pe_fmt (pv 1)) (PJ.cons pe_str PJ.nil))) pa_nil)))) (pss_one (ps_ost (pv 0) (pv 1))), ?_⟩
    have l1 : (Str.empty ++ z).length ≤ 110 := fits (by decide) hz
    have l2 : ((Str.empty ++ z) ++ (" is taken" : Str)).length ≤ 1000 := by
      rw [Str.length_append]
      have e : (" is taken" : Str).length = 9 := by decide +kernel
      omega
    exact ⟨_, rfl, _, rfl, .inl ⟨z, rfl, fits_line (by omega), _, rfl, fits_line (by omega), _, rfl, fits_line l2, a, C, _, rfl, (by show 1 ≤ 1000; decide), T.o, ha, _, rfl, _, rfl, a, C, rfl, T.o, T.no, .inl ⟨ha, k⟩⟩⟩
theorem ok_used {f C : Addr} {fd : FuncData} (F : Fun K "__init__" "Used.__init__" sUsed f fd) (B : Bas K mg E) (T : OwC K mg "Used" "name" C f) : FnOk P0 w K mg base CX0 1 f fd ["self", "name"] (spIni C "name" PWord) := by
  refine F.ok scUsed (fun vs H Q E h => ?_) (fun cdv A outer s H vs Q E hr h => ?_)
  · obtain ⟨a, v, rfl, _⟩ := h
    rfl
  · obtain ⟨a, v, rfl, ⟨z, rfl, hz⟩, ha, k⟩ := h
    refine ⟨_, pss_cons (ps_expr (Xr.pe_ceinit rfl B.g B.s B.r B.v (pa_cons (pv 0) (pa_cons (pe_joined (PJ.cons pe_str (PJ.cons (pe_fmt (pv 1)) PJ.nil))) pa_nil)))) (pss_one (ps_ost (pv 0) (pv 1))), ?_⟩
    have l2 : ((Str.empty ++ ("used by " : Str)) ++ z).length ≤ 1000 := by
      have e : (Str.empty ++ ("used by " : Str)).length ≤ 100 := by decide +kernel
      have := fits e hz
      omega
    exact ⟨_, rfl, _, rfl, by decide +kernel, _, rfl, .inl ⟨z, rfl, fits_line (by omega), _, rfl, fits_line l2, a, C, _, rfl, (by show 1 ≤ 1000; decide), T.o, ha, _, rfl, _, rfl, a, C, rfl, T.o, T.no, .inl ⟨ha, k⟩⟩⟩
end
section
variable {X : Cx}
theorem ini_same {H : Hp} {a dx C : Addr} {o u v : HO} (ha : H a = none) (hd : (upd H a o) dx = none) (ne : dx ≠ a) : Same H (upd (upd (upd H a o) dx u) a v) := fun b w e => by
  have h1 : b ≠ a := ne_of_none e ha
  rw [upd_ne ne] at hd
  rw [upd_ne h1, upd_ne (ne_of_none e hd), upd_ne h1]
  exact e
/-- isinstance(A(word), B), never: A with its own __init__ -/
theorem pe_flO {CX : CXT} {x y b f : Str} {A B fI : Addr} {fd : FuncData} {ps : List Str} {k : Nat} {p q pos p2 pb p3 : Pos} (T : OwC X.K X.mg x f A fI) (G : FnOk X.prog X.w X.K X.mg X.base CX k fI fd ps (spIni A f PWord)) (hr : Room (k + 1) X.A) (hbi : Binds X.K fd ps []) (hx : Passes CX X (fun _ _ _ => False))
    (hB : X.mg b = some (.ref B)) (hf : PySem.W.kitOne X.K (.ref A) (.ref B) = some false) (Z : Xr.IsK X.K) (hm : X.mg "isinstance" = none) (hN : X.N[0]? = some y) (hv : Vis X.env.scope y := by first | exact Or.inl rfl | exact Or.inr (Or.inl rfl))
    (hg : Gl X x := by rfl) (hgb : Gl X b := by rfl) (hgi : Gl X "isinstance" := by rfl)
    (hd : (y == ("__debug__" : Str)) = false := by decide) (hcd : (y == ("__classdict__" : Str)) = false := by decide) (hdb : (x == ("__debug__" : Str)) = false := by decide) (hdb2 : (b == ("__debug__" : Str)) = false := by decide) :
    PE X (.Call (.Name "isinstance" p2) [.Call (.Name x p) [.Name y q] [] pos, .Name b pb] [] p3) tFl := by
  refine ⟨fun pins s σ H Q I h => ?_⟩
  refine (pe_callB (Xr.call_isX Z) hgi hm (by decide +kernel) (pa_cons (Xr.pe_oexV T.o T.iC T.tI G hr hbi hx hg T.g (pa_cons (pe_var (i := 0) hN hv hd hcd) pa_nil) hdb rfl rfl) (pa_cons (pe_glob (v := .ref B) hgb hB rfl hdb2) pa_nil))).run pins s σ H Q I ?_
  obtain ⟨⟨v, hv, hw⟩, k⟩ := h
  refine ⟨v, hv, (by show 1 ≤ 1000; decide), fun a ha => ⟨a, v, rfl, hw, upd_same, fun dx hdx ne => ⟨rfl, a, A, _, _, false, rfl, .own (fs := [(f, v)]) upd_same (by rw [upd_ne ne, upd_same]), T.i, .own B, hf, k _ (ini_same (C := A) ha hdx ne)⟩⟩⟩
end
section
variable {P0 : Program} {w : World} {K : PySem.W.Frag} {mg : Str → Option Value} {base : Heap} {E M c0 c1 c2 c3 c4 c5 c6 c7 c8 c9 c10 c11 c12 c13 c14 c15 c16 c17 c18 c19 c20 c21 c22 c23 c24 c25 c26 c27 c28 c29 c30 c31 c32 c33 c34 c35 : Addr}
def spBeneath : Sp := fun vs H Q _ => ∃ v, vs = [v] ∧ PWord v ∧ ∀ l H', Same H H' → H' l = some (.lst (List.replicate 21 (.bl false))) → Q (.ref l) H'
theorem scBeneath : FnScope ["word", "some"] ["word"] (defScope sBeneath) := ⟨rfl, rfl, rfl, by decide +kernel, rfl, by decide +kernel, by decide +kernel⟩
theorem ok_beneath {f a1 i1 a2 i2 a3 i3 : Addr} {fd d1 d2 d3 : FuncData} (F : Fun K "_law_beneath" "_law_beneath" sBeneath f fd) (P : Pls K mg E M c0 c1 c2 c3 c4 c5 c6 c7 c8 c9 c10 c11 c12 c13 c14 c15 c16 c17 c18 c19 c20 c21 c22 c23 c24 c25 c26 c27 c28 c29 c30 c31 c32 c33 c34 c35) (B : Bas K mg E) (Z : Xr.IsK K) (zi : mg "isinstance" = none)
    (F1 : Fun K "__init__" "NoName.__init__" sNoName i1 d1) (T1 : OwC K mg "NoName" "name" a1 i1) (F2 : Fun K "__init__" "Taken.__init__" sTaken i2 d2) (T2 : OwC K mg "Taken" "name" a2 i2) (F3 : Fun K "__init__" "Used.__init__" sUsed i3 d3) (T3 : OwC K mg "Used" "name" a3 i3)
    (e1 : PySem.W.kitOne K (.ref a1) (.ref c14) = some false) (e2 : PySem.W.kitOne K (.ref a2) (.ref c14) = some false) (e3 : PySem.W.kitOne K (.ref a3) (.ref a2) = some false) : FnOk P0 w K mg base CX0 3 f fd ["word"] spBeneath := by
  have G1 : FnOk P0 w K mg base CX0 1 i1 d1 ["self", "name"] (spIni a1 "name" PWord) := ok_noname F1 B T1
  have G2 : FnOk P0 w K mg base CX0 1 i2 d2 ["self", "name"] (spIni a2 "name" PWord) := ok_taken F2 B T2
  have G3 : FnOk P0 w K mg base CX0 1 i3 d3 ["self", "name"] (spIni a3 "name" PWord) := ok_used F3 B T3
  have b1 := F1.binds (ps := ["self", "name"]) fun _ _ _ _ _ _ us hl => match us, hl with | [_, _], _ => rfl
  have b2 := F2.binds (ps := ["self", "name"]) fun _ _ _ _ _ _ us hl => match us, hl with | [_, _], _ => rfl
  have b3 := F3.binds (ps := ["self", "name"]) fun _ _ _ _ _ _ us hl => match us, hl with | [_, _], _ => rfl
  refine F.ok scBeneath (fun vs H Q E h => ?_) (fun cdv A outer s H vs Q E hr h => ?_)
  · obtain ⟨v, rfl, _⟩ := h
    rfl
  · obtain ⟨v, rfl, hw, k⟩ := h
    have nd := scBeneath.nd
    refine ⟨_, (pss_cons (ps_set (i := 1) nd rfl (Or.inl rfl) (pe_flL (fl_cons (pe_fl P.p8 P.f8.i P.p7.g P.b0 Z zi rfl) (fl_cons (pe_fl P.p7 P.f7.i P.p8.g P.b1 Z zi rfl) fl_nil))))
      (pss_cons (ps_set (i := 1) nd rfl (Or.inl rfl) (pe_flC (m := 2) (fl_cons (pe_fl P.p15 P.f15.i P.p14.g P.b2 Z zi rfl) (fl_cons (pe_fl P.p14 P.f14.i P.p15.g P.b3 Z zi rfl) fl_nil)) rfl))
      (pss_cons (ps_set (i := 1) nd rfl (Or.inl rfl) (pe_flC (m := 4) (fl_cons (pe_fl P.p17 P.f17.i P.p16.g P.b4 Z zi rfl) (fl_cons (pe_fl P.p16 P.f16.i P.p17.g P.b5 Z zi rfl) fl_nil)) rfl))
      (pss_cons (ps_set (i := 1) nd rfl (Or.inl rfl) (pe_flC (m := 6) (fl_cons (pe_fl P.p20 P.f20.i P.p19.g P.b6 Z zi rfl) (fl_cons (pe_fl P.p19 P.f19.i P.p20.g P.b7 Z zi rfl) fl_nil)) rfl))
      (pss_cons (ps_set (i := 1) nd rfl (Or.inl rfl) (pe_flC (m := 8) (fl_cons (pe_fl P.p25 P.f25.i P.p24.g P.b8 Z zi rfl) (fl_cons (pe_fl P.p24 P.f24.i P.p25.g P.b9 Z zi rfl) fl_nil)) rfl))
      (pss_cons (ps_set (i := 1) nd rfl (Or.inl rfl) (pe_flC (m := 10) (fl_cons (pe_fl P.p28 P.f28.i P.p27.g P.b10 Z zi rfl) (fl_cons (pe_fl P.p27 P.f27.i P.p28.g P.b11 Z zi rfl) fl_nil)) rfl))
      (pss_cons (ps_set (i := 1) nd rfl (Or.inl rfl) (pe_flC (m := 12) (fl_cons (pe_fl P.p31 P.f31.i P.p30.g P.b12 Z zi rfl) (fl_cons (pe_fl P.p30 P.f30.i P.p31.g P.b13 Z zi rfl) fl_nil)) rfl))
      (pss_cons (ps_set (i := 1) nd rfl (Or.inl rfl) (pe_flC (m := 14) (fl_cons (pe_fl P.p33 P.f33.i P.p32.g P.b14 Z zi rfl) (fl_cons (pe_fl P.p32 P.f32.i P.p33.g P.b15 Z zi rfl) fl_nil)) rfl))
      (pss_cons (ps_set (i := 1) nd rfl (Or.inl rfl) (pe_flC (m := 16) (fl_cons (pe_fl P.p21 P.f21.i P.p4.g P.b16 Z zi rfl) (fl_cons (pe_fl P.p4 P.f4.i P.p21.g P.b17 Z zi rfl) fl_nil)) rfl))
      (pss_one (ps_ret (pe_flC (m := 18) (fl_cons (pe_flO T1 G1 hr b1 pass0 P.p14.g e1 Z zi rfl) (fl_cons (pe_flO T2 G2 hr b2 pass0 P.p14.g e2 Z zi rfl) (fl_cons (pe_flO T3 G3 hr b3 pass0 T2.g e3 Z zi rfl) fl_nil))) rfl)))))))))))), ?_⟩
    refine ⟨⟨_, rfl, hw⟩, fun l1 H1 s1 h1 => ?_⟩
    refine ⟨⟨_, rfl, hw⟩, _, rfl, h1, fun l2 H2 s2 h2 => ?_⟩
    refine ⟨⟨_, rfl, hw⟩, _, rfl, h2, fun l3 H3 s3 h3 => ?_⟩
    refine ⟨⟨_, rfl, hw⟩, _, rfl, h3, fun l4 H4 s4 h4 => ?_⟩
    refine ⟨⟨_, rfl, hw⟩, _, rfl, h4, fun l5 H5 s5 h5 => ?_⟩
    refine ⟨⟨_, rfl, hw⟩, _, rfl, h5, fun l6 H6 s6 h6 => ?_⟩
    refine ⟨⟨_, rfl, hw⟩, _, rfl, h6, fun l7 H7 s7 h7 => ?_⟩
    refine ⟨⟨_, rfl, hw⟩, _, rfl, h7, fun l8 H8 s8 h8 => ?_⟩
    refine ⟨⟨_, rfl, hw⟩, _, rfl, h8, fun l9 H9 s9 h9 => ?_⟩
    refine ⟨⟨_, rfl, hw⟩, _, rfl, h9, fun l10 H10 s10 h10 => ?_⟩
    exact k l10 H10 (s1.trans (s2.trans (s3.trans (s4.trans (s5.trans (s6.trans (s7.trans (s8.trans (s9.trans s10))))))))) h10
end
section
variable {P0 : Program} {w : World} {K : PySem.W.Frag} {mg : Str → Option Value} {base : Heap} {E M a1 i1 a2 i2 a3 i3 a4 i4 i5 fB fD fP fG fL fN c0 c1 c2 c3 c4 c5 c6 c7 c8 c9 c10 c11 c12 c13 c14 c15 c16 c17 c18 c19 c20 c21 c22 c23 c24 c25 c26 c27 c28 c29 c30 c31 c32 c33 c34 c35 : Addr} {d1 d2 d3 d4 d5 dB dD dP dG dL dN : FuncData}
theorem st_same {H H' : Hp} {p g c : Addr} {n : Nat} (h : Pre.St H p g c n) (s : Same H H') : Pre.St H' p g c n := by
  obtain ⟨⟨gs, cs, r, t, h1, h2, h3, h4⟩, h5⟩ := h
  exact ⟨⟨gs, cs, r, t, s _ _ h1, s _ _ h2, s _ _ h3, h4⟩, h5⟩
structure Txt (K : PySem.W.Frag) (mg : Str → Option Value) (E M a1 i1 a2 i2 a3 i3 a4 i4 i5 fB fD fP fG fL fN c0 c1 c2 c3 c4 c5 c6 c7 c8 c9 c10 c11 c12 c13 c14 c15 c16 c17 c18 c19 c20 c21 c22 c23 c24 c25 c26 c27 c28 c29 c30 c31 c32 c33 c34 c35 : Addr) (d1 d2 d3 d4 d5 dB dD dP dG dL dN : FuncData) : Prop where
  P : Pls K mg E M c0 c1 c2 c3 c4 c5 c6 c7 c8 c9 c10 c11 c12 c13 c14 c15 c16 c17 c18 c19 c20 c21 c22 c23 c24 c25 c26 c27 c28 c29 c30 c31 c32 c33 c34 c35
  B : Bas K mg E
  Z : Xr.IsK K
  zi : mg "isinstance" = none
  zv : mg "ValueError" = none
  T : Pre.TxtP mg
  F1 : Fun K "__init__" "NoName.__init__" sNoName i1 d1
  T1 : OwC K mg "NoName" "name" a1 i1
  F2 : Fun K "__init__" "Taken.__init__" sTaken i2 d2
  T2 : OwC K mg "Taken" "name" a2 i2
  F3 : Fun K "__init__" "Used.__init__" sUsed i3 d3
  T3 : OwC K mg "Used" "name" a3 i3
  F4 : Fun K "__init__" "BadText.__init__" sText i4 d4
  T4 : OwC K mg "BadText" "at" a4 i4
  F5 : Fun K "__init__" "TooMany.__init__" sMany i5 d5
  T5 : OwC K mg "TooMany" "most" M i5
  e1 : PySem.W.kitOne K (.ref a1) (.ref c14) = some false
  e2 : PySem.W.kitOne K (.ref a2) (.ref c14) = some false
  e3 : PySem.W.kitOne K (.ref a3) (.ref a2) = some false
  u1 : PySem.W.kitOne K (.ref a1) (.ref E) = some true
  u2 : PySem.W.kitOne K (.ref a2) (.ref E) = some true
  u3 : PySem.W.kitOne K (.ref a3) (.ref E) = some true
  u4 : PySem.W.kitOne K (.ref a4) (.ref E) = some true
  u5 : PySem.W.kitOne K (.ref M) (.ref E) = some true
  v1 : PySem.W.kitOne K (.ref a1) (.ref M) = some false
  v2 : PySem.W.kitOne K (.ref a2) (.ref M) = some false
  v3 : PySem.W.kitOne K (.ref a3) (.ref M) = some false
  v5 : PySem.W.kitOne K (.ref M) (.ref a4) = some false
  FB : Fun K "_law_begun" "_law_begun" Pre.sBegun fB dB
  gB : mg "_law_begun" = some (.ref fB)
  FD : Fun K "_law_blended" "_law_blended" Pre.sBlended fD dD
  gD : mg "_law_blended" = some (.ref fD)
  FG : Fun K "_law_draw" "_law_draw" Pre.sDraw fG dG
  gG : mg "_law_draw" = some (.ref fG)
  FP : Fun K "_law_pick" "_law_pick" Pre.sPick fP dP
  gP : mg "_law_pick" = some (.ref fP)
  FL : Fun K "_law_plain" "_law_plain" sPlain fL dL
  gL : mg "_law_plain" = some (.ref fL)
  FN : Fun K "_law_beneath" "_law_beneath" sBeneath fN dN
  gN : mg "_law_beneath" = some (.ref fN)
def spLaw (K : PySem.W.Frag) : Sp := fun vs H Q _ => ∃ (a : Addr) (ns : List Int), vs = [.ref a] ∧ SqL K H a (ns.map V.int) ∧ ns.length ≤ 63 ∧ ∀ H', Q (.bl true) H'
theorem words {i : Nat} {y : V} (h : ([V.str "no", .str "why", .str "x y", .str ""] : List V)[i]? = some y) : PWord y := by
  match i, h with
  | 0, h => exact ⟨_, (Option.some.inj h).symm, by decide +kernel⟩
  | 1, h => exact ⟨_, (Option.some.inj h).symm, by decide +kernel⟩
  | 2, h => exact ⟨_, (Option.some.inj h).symm, by decide +kernel⟩
  | 3, h => exact ⟨_, (Option.some.inj h).symm, by decide +kernel⟩
  | n + 4, h => cases h
theorem nums {i : Nat} {y : V} (h : ([V.int 0, .int 1, .int 7, .int 4000, .non] : List V)[i]? = some y) : PNum y := by
  match i, h with
  | 0, h => exact .inr (.inl (Option.some.inj h).symm)
  | 1, h => exact .inr (.inr (.inl (Option.some.inj h).symm))
  | 2, h => exact .inr (.inr (.inr (.inl (Option.some.inj h).symm)))
  | 3, h => exact .inr (.inr (.inr (.inr (Option.some.inj h).symm)))
  | 4, h => exact .inl (Option.some.inj h).symm
  | n + 5, h => cases h
theorem iteF' {c : Bool} {A B : Prop} (h : c = false) (b : B) : if c = true then A else B := by
  rw [h]
  exact iteF b
theorem iteNE {v : V} {A B : Prop} (b : B) : if (!decide (v = v)) = true then A else B := iteF' (by simp) b
theorem scal_num {v : V} (h : PNum v) : scal v v = true := by
  rcases h with rfl | rfl | rfl | rfl | rfl <;> rfl
theorem scal_word {v : V} (h : PWord v) : scal v v = true := by
  obtain ⟨z, rfl, _⟩ := h
  rfl
theorem put_at {H : Hp} {a dx : Addr} {u v : HO} (ne : dx ≠ a) : (upd (upd H dx u) a v) dx = some u := by
  rw [upd_ne ne, upd_same]
/-- x is an exception that keeps y as its name -/
def OwnAt (K : PySem.W.Frag) (E M : Addr) (y : V) (H : Hp) (x : V) : Prop := ∃ a C d, x = .ref a ∧ H a = some (exo a C (some d)) ∧ H d = some (exd d [("name", y)]) ∧ Xr.IsC K C ∧ PySem.W.hasDictIn K C = true ∧ PySem.W.findIn K (.ref C) "name" = some none ∧ PySem.W.kitOne K (.ref C) (.ref E) = some true ∧ PySem.W.kitOne K (.ref C) (.ref M) = some false
theorem OwnAt.same {K : PySem.W.Frag} {E M : Addr} {y : V} {H H' : Hp} {x : V} (h : OwnAt K E M y H x) (s : Same H H') : OwnAt K E M y H' x := by
  obtain ⟨a, C, d, e, h1, h2, h3⟩ := h
  exact ⟨a, C, d, e, s _ _ h1, s _ _ h2, h3⟩
theorem own_made {K : PySem.W.Frag} {E M : Addr} {y : V} {H : Hp} {x : Str} {a dx C fI : Addr} {mg : Str → Option Value} (T : OwC K mg x "name" C fI) (u : PySem.W.kitOne K (.ref C) (.ref E) = some true) (v : PySem.W.kitOne K (.ref C) (.ref M) = some false) (ne : dx ≠ a) :
    OwnAt K E M y (upd (upd H dx (exd dx [("name", y)])) a (exo a C (some dx))) (.ref a) := ⟨a, C, dx, rfl, upd_same, put_at ne, T.i, T.hd, T.no, u, v⟩
theorem scLaw : FnScope ["script", "state", "word", "error", "n"] ["script"] (defScope sLaw) := ⟨rfl, rfl, rfl, by decide +kernel, rfl, by decide +kernel, by decide +kernel⟩
theorem ok_law {f : Addr} {fd : FuncData} (F : Fun K "law" "law" sLaw f fd) (T : Txt K mg E M a1 i1 a2 i2 a3 i3 a4 i4 i5 fB fD fP fG fL fN c0 c1 c2 c3 c4 c5 c6 c7 c8 c9 c10 c11 c12 c13 c14 c15 c16 c17 c18 c19 c20 c21 c22 c23 c24 c25 c26 c27 c28 c29 c30 c31 c32 c33 c34 c35 d1 d2 d3 d4 d5 dB dD dP dG dL dN) : FnOk P0 w K mg base CX0 4 f fd ["script"] (spLaw K) := by
  have GB : FnOk P0 w K mg base CX0 1 fB dB ["script"] (Pre.spBegun K) := Pre.ok_begun T.FB T.T
  have GP : FnOk P0 w K mg base CX0 3 fP dP ["state", "some"] (Pre.spPick K) := Pre.ok_pick T.FP T.T T.FG T.gG T.FD T.gD
  have GL : FnOk P0 w K mg base CX0 1 fL dL ["word"] (spPlain K E M) := ok_plain T.FL T.P
  have GN : FnOk P0 w K mg base CX0 3 fN dN ["word"] spBeneath := ok_beneath T.FN T.P T.B T.Z T.zi T.F1 T.T1 T.F2 T.T2 T.F3 T.T3 T.e1 T.e2 T.e3
  have G1 : FnOk P0 w K mg base CX0 1 i1 d1 ["self", "name"] (spIni a1 "name" PWord) := ok_noname T.F1 T.B T.T1
  have G2 : FnOk P0 w K mg base CX0 1 i2 d2 ["self", "name"] (spIni a2 "name" PWord) := ok_taken T.F2 T.B T.T2
  have G3 : FnOk P0 w K mg base CX0 1 i3 d3 ["self", "name"] (spIni a3 "name" PWord) := ok_used T.F3 T.B T.T3
  have G4 : FnOk P0 w K mg base CX0 1 i4 d4 ["self", "at"] (spIni a4 "at" PNum) := ok_text T.F4 T.B T.T4
  have G5 : FnOk P0 w K mg base CX0 1 i5 d5 ["self", "most"] (spIni M "most" PNum) := ok_many T.F5 T.B T.T5
  have b1 := T.F1.binds (ps := ["self", "name"]) fun _ _ _ _ _ _ us hl => match us, hl with | [_, _], _ => rfl
  have b3 := T.F3.binds (ps := ["self", "name"]) fun _ _ _ _ _ _ us hl => match us, hl with | [_, _], _ => rfl
  have b4 := T.F4.binds (ps := ["self", "at"]) fun _ _ _ _ _ _ us hl => match us, hl with | [_, _], _ => rfl
  have b5 := T.F5.binds (ps := ["self", "most"]) fun _ _ _ _ _ _ us hl => match us, hl with | [_, _], _ => rfl
  have q2 : ∀ (s : Shared) (x y : Value), BindsTo s d2 ⟨[x], [("name", y)]⟩ ((["self", "name"] : List Str).zip [x, y]) := fun s x y => by
    obtain ⟨oc, od, kV, doc, pm, an, cdv, ct, osl, e, _⟩ := T.F2.ex
    subst e
    exact .of_eq rfl
  have q4 : ∀ (s : Shared) (x y : Value), BindsTo s d4 ⟨[x], [("at", y)]⟩ ((["self", "at"] : List Str).zip [x, y]) := fun s x y => by
    obtain ⟨oc, od, kV, doc, pm, an, cdv, ct, osl, e, _⟩ := T.F4.ex
    subst e
    exact .of_eq rfl
  have q5 : ∀ (s : Shared) (x y : Value), BindsTo s d5 ⟨[x], [("most", y)]⟩ ((["self", "most"] : List Str).zip [x, y]) := fun s x y => by
    obtain ⟨oc, od, kV, doc, pm, an, cdv, ct, osl, e, _⟩ := T.F5.ex
    subst e
    exact .of_eq rfl
  have bB := T.FB.binds (ps := ["script"]) fun _ _ _ _ _ _ us hl => match us, hl with | [_], _ => rfl
  have bP := T.FP.binds (ps := ["state", "some"]) fun _ _ _ _ _ _ us hl => match us, hl with | [_, _], _ => rfl
  have bL := T.FL.binds (ps := ["word"]) fun _ _ _ _ _ _ us hl => match us, hl with | [_], _ => rfl
  have bN := T.FN.binds (ps := ["word"]) fun _ _ _ _ _ _ us hl => match us, hl with | [_], _ => rfl
  refine F.ok scLaw (fun vs H Q E h => ?_) (fun cdv A outer s H vs Q E' hr h => ?_)
  · obtain ⟨a, ns, rfl, _⟩ := h
    rfl
  · obtain ⟨a, ns, rfl, hS, hlen, k⟩ := h
    have nd := scLaw.nd
    have hr1 : Room 1 _ := hr.mono (by decide)
    have hr2 : Room 2 _ := hr.mono (by decide)
    refine ⟨_, pss_cons (ps_set (i := 1) nd rfl (Or.inl rfl) (pe_call GB hr1 rfl T.gB T.FB.kp bB .nil pass0 (pa_cons (pv 0) pa_nil)))
      (pss_cons (ps_set (i := 2) nd rfl (Or.inl rfl) (pe_call GP hr rfl T.gP T.FP.kp bP .nil pass0 (pa_cons (pv 1) (pa_cons (pe_lst (pa_cons pe_str (pa_cons pe_str (pa_cons pe_str (pa_cons pe_str pa_nil))))) pa_nil))))
      (pss_cons (ps_for PassesOwn.never rfl (pi_list (pe_call GL hr1 rfl T.gL T.FL.kp bL .nil pass0 (pa_cons (pv 2) pa_nil))) (pg_name (i := 3) nd rfl (Or.inl rfl))
        (pss_one (ps_if (PW.pt (pw_or (pt_not (pt_val (pe_callB (Xr.call_isX T.Z) (by rfl) T.zi (by decide +kernel) (pa_cons (pv 3) (pa_cons (pe_bltn (v := .ty "ValueError") (by rfl) T.zv (by decide +kernel) rfl) pa_nil)))))
            (pw_or (pt_not (pt_val (pe_callB (Xr.call_isX T.Z) (by rfl) T.zi (by decide +kernel) (pa_cons (pv 3) (pa_cons (pe_glob (v := .ref E) (by rfl) T.B.g rfl) pa_nil)))))
            (pw_or1 (pt_val (pe_callB (Xr.call_isX T.Z) (by rfl) T.zi (by decide +kernel) (pa_cons (pv 3) (pa_cons (pe_glob (v := .ref M) (by rfl) T.T5.g rfl) pa_nil))))))))
          (pss_one (ps_ret pe_bl)) pss_nil)))
      (pss_cons (ps_if (pt_cmpR op_in_seq pe_bl (pe_call GN hr rfl T.gN T.FN.kp bN .nil pass0 (pa_cons (pv 2) pa_nil)) (by rfl)) (pss_one (ps_ret pe_bl)) pss_nil)
      (pss_cons (ps_set (i := 4) nd rfl (Or.inl rfl) (pe_call GP hr rfl T.gP T.FP.kp bP .nil pass0 (pa_cons (pv 1) (pa_cons (pe_lst (pa_cons pe_int (pa_cons pe_int (pa_cons pe_int (pa_cons pe_int (pa_cons pe_non pa_nil)))))) pa_nil))))
      (pss_cons (ps_if (PW.pt (pw_or (pt_cmpR op_ne (Xr.pe_xo (Xr.pe_oexV T.T4.o T.T4.iC T.T4.tI G4 hr2 b4 pass0 (by rfl) T.T4.g (pa_cons (pv 4) pa_nil))) (pv 4) (nomark _))
            (pw_or (pt_cmpR op_ne (Xr.pe_xo (Xr.pe_oexK T.T5.o T.T5.iC T.T5.tI G5 hr2 q5 pass0 (by rfl) T.T5.g (pk_cons (pv 4) pk_nil))) (pv 4) (nomark _))
            (pw_or1 (pt_val (pe_callB (Xr.call_isX T.Z) (by rfl) T.zi (by decide +kernel) (pa_cons (Xr.pe_oexV T.T5.o T.T5.iC T.T5.tI G5 hr2 b5 pass0 (by rfl) T.T5.g (pa_cons (pv 4) pa_nil)) (pa_cons (pe_glob (v := .ref a4) (by rfl) T.T4.g rfl) pa_nil))))))))
          (pss_one (ps_ret pe_bl)) pss_nil)
      (pss_cons (ps_for PassesOwn.never rfl (pi_list (pe_lst (pa_cons (Xr.pe_oexV T.T1.o T.T1.iC T.T1.tI G1 hr2 b1 pass0 (by rfl) T.T1.g (pa_cons (pv 2) pa_nil)) (pa_cons (Xr.pe_oexK T.T2.o T.T2.iC T.T2.tI G2 hr2 q2 pass0 (by rfl) T.T2.g (pk_cons (pv 2) pk_nil))
            (pa_cons (Xr.pe_oexV T.T3.o T.T3.iC T.T3.tI G3 hr2 b3 pass0 (by rfl) T.T3.g (pa_cons (pv 2) pa_nil)) pa_nil))))) (pg_name (i := 3) nd rfl (Or.inl rfl))
        (pss_one (ps_if (PW.pt (pw_or (pt_cmpR op_ne (Xr.pe_xo (pv 3)) (pv 2) (nomark _))
            (pw_or (pt_not (pt_val (pe_callB (Xr.call_isX T.Z) (by rfl) T.zi (by decide +kernel) (pa_cons (pv 3) (pa_cons (pe_glob (v := .ref E) (by rfl) T.B.g rfl) pa_nil)))))
            (pw_or1 (pt_val (pe_callB (Xr.call_isX T.Z) (by rfl) T.zi (by decide +kernel) (pa_cons (pv 3) (pa_cons (pe_glob (v := .ref M) (by rfl) T.T5.g rfl) pa_nil))))))))
          (pss_one (ps_ret pe_bl)) pss_nil)))
      (pss_one (ps_ret (pe_and (pe_callB (Xr.call_isX T.Z) (by rfl) T.zi (by decide +kernel) (pa_cons (Xr.pe_oexV T.T5.o T.T5.iC T.T5.tI G5 hr2 b5 pass0 (by rfl) T.T5.g (pa_cons (pv 4) pa_nil)) (pa_cons (pe_glob (v := .ref E) (by rfl) T.B.g rfl) pa_nil)))
        (pe_one (pe_callB (Xr.call_isX T.Z) (by rfl) T.zi (by decide +kernel) (pa_cons (Xr.pe_oexK T.T4.o T.T4.iC T.T4.tI G4 hr2 q4 pass0 (by rfl) T.T4.g (pk_cons (pv 4) pk_nil)) (pa_cons (pe_glob (v := .ref E) (by rfl) T.B.g rfl) pa_nil))))))))))))), ?_⟩
    -- state = _law_begun(script)
    refine ⟨_, rfl, a, ns, rfl, hS, hlen, fun H1 p g c s1 st1 p0 g0 => ?_⟩
    -- word = _law_pick(state, [..])
    refine ⟨_, rfl, by show 4 ≤ sizeLine; decide, fun l hl => ?_⟩
    have st2 := st_same st1 (Pre.same_upd (o := .lst [V.str "no", .str "why", .str "x y", .str ""]) hl)
    have nlg : l ≠ g := by
      obtain ⟨⟨_, _, _, _, _, hg, _⟩, _⟩ := st1
      exact (ne_of_none hg hl).symm
    refine ⟨p, g, c, 0, l, _, rfl, st2, by decide, upd_same, nlg, by show 0 < 4; decide, by show 4 ≤ 1000; decide, fun H2 i y kp2 st3 hi hy => ?_⟩
    have hw := words hy
    -- for error in _law_plain(word)
    refine ⟨_, rfl, y, rfl, fun xs m H3 s3 al ln hm => ?_⟩
    refine ⟨m, rfl, ⟨_, SqL.of hm⟩, for_list (K := K) (a := m) (xs := xs) (fun j σ H' => ∃ e, σ = [some (.ref a), some (.ref p), some y, e, none] ∧ H' = H3) ⟨none, rfl, rfl⟩ (fun j σ H' _ ⟨_, _, e⟩ => by rw [e]; exact SqL.of hm) ?_ ?_⟩
    · rintro j x σ H' hx ⟨e, rfl, rfl⟩
      obtain ⟨b, C, rfl, ex, F⟩ := al x (List.mem_of_getElem? hx)
      refine ⟨_, rfl, b, C, _, _, true, rfl, ex, F.i, .ty _, F.v, _, rfl, ?_⟩
      refine iteF ⟨_, rfl, b, C, _, _, true, rfl, ex, F.i, .own E, F.e, _, rfl, iteF ⟨_, rfl, b, C, _, _, false, rfl, ex, F.i, .own M, F.m, _, rfl, iteF ⟨_, rfl, rfl⟩⟩⟩
    · rintro σ H' ⟨e, rfl, rfl⟩
      -- if True in _law_beneath(word)
      refine ⟨_, rfl, y, rfl, hw, fun l2 H4 s4 h4 => ?_⟩
      refine ⟨l2, _, rfl, .inl (SqL.of h4), rfl, by decide +kernel, _, rfl, iteF' (by decide +kernel) ?_⟩
      -- n = _law_pick(state, [..])
      refine ⟨_, rfl, by show 5 ≤ sizeLine; decide, fun l3 hl3 => ?_⟩
      have st4 := st_same (st_same st3 (s3.trans s4)) (Pre.same_upd (o := .lst [V.int 0, .int 1, .int 7, .int 4000, .non]) hl3)
      have nlg3 : l3 ≠ g := by
        obtain ⟨⟨_, _, _, _, _, hg, _⟩, _⟩ := st_same st3 (s3.trans s4)
        exact (ne_of_none hg hl3).symm
      refine ⟨p, g, c, 1, l3, _, rfl, st4, by decide, upd_same, nlg3, by show 0 < 5; decide, by show 5 ≤ 1000; decide, fun H5 i5' v kp5 st5 hi5 hy5 => ?_⟩
      have hn := nums hy5
      -- if BadText(n).at != n or TooMany(most=n).most != n or isinstance(TooMany(n), BadText)
      refine ⟨_, rfl, (by show 1 ≤ 1000; decide), fun x1 hx1 => ⟨x1, v, rfl, hn, upd_same, fun y1 hy1 ne1 => ⟨rfl, x1, a4, y1, [("at", v)], v, rfl, T.T4.i, T.T4.hd, T.T4.no, upd_same, put_at ne1, rfl, _, rfl, scal_num hn, _, rfl, iteNE ?_⟩⟩⟩
      refine ⟨_, rfl, v, rfl, fun x2 hx2 => ⟨x2, v, rfl, hn, upd_same, fun y2 hy2 ne2 => ⟨rfl, x2, M, y2, [("most", v)], v, rfl, T.T5.i, T.T5.hd, T.T5.no, upd_same, put_at ne2, rfl, _, rfl, scal_num hn, _, rfl, iteNE ?_⟩⟩⟩
      refine ⟨_, rfl, (by show 1 ≤ 1000; decide), fun x3 hx3 => ⟨x3, v, rfl, hn, upd_same, fun y3 hy3 ne3 => ⟨rfl, x3, M, _, _, false, rfl, .own (fs := [("most", v)]) upd_same (put_at ne3), T.T5.i, .own a4, T.v5, _, rfl, iteF ?_⟩⟩⟩
      -- for error in [..]
      refine ⟨_, rfl, (by show 1 ≤ 1000; decide), fun x4 hx4 => ⟨x4, y, rfl, hw, upd_same, fun y4 hy4 ne4 => ⟨rfl, ?_⟩⟩⟩
      refine ⟨_, rfl, y, rfl, fun x5 hx5 => ⟨x5, y, rfl, hw, upd_same, fun y5 hy5 ne5 => ⟨rfl, ?_⟩⟩⟩
      refine ⟨_, rfl, (by show 1 ≤ 1000; decide), fun x6 hx6 => ⟨x6, y, rfl, hw, upd_same, fun y6 hy6 ne6 => ⟨rfl, ?_⟩⟩⟩
      refine ⟨by show 3 ≤ sizeLine; decide, fun l7 hl7 => ?_⟩
      have t5 := ini_same (C := a2) (u := exd y5 [("name", y)]) (v := exo x5 a2 (some y5)) hx5 hy5 ne5
      have t6 := ini_same (C := a3) (u := exd y6 [("name", y)]) (v := exo x6 a3 (some y6)) hx6 hy6 ne6
      have t7 := Pre.same_upd (o := .lst [.ref x4, .ref x5, .ref x6]) hl7
      have r4 := OwnAt.same (OwnAt.same (OwnAt.same (own_made (K := K) (E := E) (M := M) (y := y) T.T1 T.u1 T.v1 ne4) t5) t6) t7
      have r5 := OwnAt.same (OwnAt.same (own_made (K := K) (E := E) (M := M) (y := y) T.T2 T.u2 T.v2 ne5) t6) t7
      have r6 := OwnAt.same (own_made (K := K) (E := E) (M := M) (y := y) T.T3 T.u3 T.v3 ne6) t7
      refine ⟨l7, rfl, ⟨_, SqL.of upd_same⟩, for_list (K := K) (a := l7) (xs := [.ref x4, .ref x5, .ref x6]) (fun j σ H' => ∃ e, σ = [some (.ref a), some (.ref p), some y, e, some v] ∧ H' l7 = some (.lst [.ref x4, .ref x5, .ref x6]) ∧ OwnAt K E M y H' (.ref x4) ∧ OwnAt K E M y H' (.ref x5) ∧ OwnAt K E M y H' (.ref x6))
        ⟨_, rfl, upd_same, r4, r5, r6⟩ (fun j σ H' _ ⟨_, _, e, _⟩ => SqL.of e) ?_ ?_⟩
      · rintro j x σ H' hx ⟨e, rfl, hl, q4, q5, q6⟩
        have hq : OwnAt K E M y H' x := by
          match j, hx with
          | 0, hx => exact (Option.some.inj hx) ▸ q4
          | 1, hx => exact (Option.some.inj hx) ▸ q5
          | 2, hx => exact (Option.some.inj hx) ▸ q6
          | n + 3, hx => cases hx
        obtain ⟨b, C, d, rfl, h1, h2, hi, hd, hno, hE, hM⟩ := hq
        refine ⟨_, rfl, b, C, d, _, y, rfl, hi, hd, hno, h1, h2, rfl, _, rfl, scal_word hw, _, rfl, iteNE ?_⟩
        refine ⟨_, rfl, b, C, _, _, true, rfl, .own h1 h2, hi, .own E, hE, _, rfl, iteF ⟨_, rfl, b, C, _, _, false, rfl, .own h1 h2, hi, .own M, hM, _, rfl, iteF ?_⟩⟩
        exact ⟨_, rfl, hl, q4, q5, q6⟩
      · rintro σ H' ⟨e, rfl, hl, q4, q5, q6⟩
        refine ⟨_, rfl, (by show 1 ≤ 1000; decide), fun x8 hx8 => ⟨x8, v, rfl, hn, upd_same, fun y8 hy8 ne8 => ⟨rfl, x8, M, _, _, true, rfl, .own (fs := [("most", v)]) upd_same (put_at ne8), T.T5.i, .own E, T.u5, true, rfl, ?_⟩⟩⟩
        refine iteT ⟨_, rfl, v, rfl, fun x9 hx9 => ⟨x9, v, rfl, hn, upd_same, fun y9 hy9 ne9 => ⟨rfl, x9, a4, _, _, true, rfl, .own (fs := [("at", v)]) upd_same (put_at ne9), T.T4.i, .own E, T.u4, ?_⟩⟩⟩
        exact k _
end
theorem all_mk {l : PySem.W.OpenLaw} {w : World} {K : PySem.W.Frag} {h : Heap} {mg : Str → Option Value} {fa E M a1 i1 a2 i2 a3 i3 a4 i4 i5 fB fD fP fG fL fN fW c0 c1 c2 c3 c4 c5 c6 c7 c8 c9 c10 c11 c12 c13 c14 c15 c16 c17 c18 c19 c20 c21 c22 c23 c24 c25 c26 c27 c28 c29 c30 c31 c32 c33 c34 c35 : Addr} (X : K.In h) (G : h.Ns mainGlobals mg) (hfa : mg "law" = some (.ref fa))
    {ocB kVB dcB pmB cdB ctB : Value} {odB anB : Option Addr} {slB : Array (Option Value)}
    {ocD kVD dcD pmD cdD ctD : Value} {odD anD : Option Addr} {slD : Array (Option Value)}
    {ocG kVG dcG pmG cdG ctG : Value} {odG anG : Option Addr} {slG : Array (Option Value)}
    {ocP kVP dcP pmP cdP ctP : Value} {odP anP : Option Addr} {slP : Array (Option Value)}
    {ocL kVL dcL pmL cdL ctL : Value} {odL anL : Option Addr} {slL : Array (Option Value)}
    {ocN kVN dcN pmN cdN ctN : Value} {odN anN : Option Addr} {slN : Array (Option Value)}
    {ocW kVW dcW pmW cdW ctW : Value} {odW anW : Option Addr} {slW : Array (Option Value)}
    {oc1 kV1 dc1 pm1 cd1 ct1 : Value} {od1 an1 : Option Addr} {sl1 : Array (Option Value)}
    {oc2 kV2 dc2 pm2 cd2 ct2 : Value} {od2 an2 : Option Addr} {sl2 : Array (Option Value)}
    {oc3 kV3 dc3 pm3 cd3 ct3 : Value} {od3 an3 : Option Addr} {sl3 : Array (Option Value)}
    {oc4 kV4 dc4 pm4 cd4 ct4 : Value} {od4 an4 : Option Addr} {sl4 : Array (Option Value)}
    {oc5 kV5 dc5 pm5 cd5 ct5 : Value} {od5 an5 : Option Addr} {sl5 : Array (Option Value)}
    {nm1 q1 : Str} {N1 : Addr} {bs1 : List Value} {sn1 : List Str} {su1 : List Value} {ab1 : Bool} {co1 : Option Bool} {dd1 : Option Addr} {m01 m11 m21 m31 m51 : Option Value}
    {nm2 q2 : Str} {N2 : Addr} {bs2 : List Value} {sn2 : List Str} {su2 : List Value} {ab2 : Bool} {co2 : Option Bool} {dd2 : Option Addr} {m02 m12 m22 m32 m52 : Option Value}
    {nm3 q3 : Str} {N3 : Addr} {bs3 : List Value} {sn3 : List Str} {su3 : List Value} {ab3 : Bool} {co3 : Option Bool} {dd3 : Option Addr} {m03 m13 m23 m33 m53 : Option Value}
    {nm4 q4 : Str} {N4 : Addr} {bs4 : List Value} {sn4 : List Str} {su4 : List Value} {ab4 : Bool} {co4 : Option Bool} {dd4 : Option Addr} {m04 m14 m24 m34 m54 : Option Value}
    {nm5 q5 : Str} {N5 : Addr} {bs5 : List Value} {sn5 : List Str} {su5 : List Value} {ab5 : Bool} {co5 : Option Bool} {dd5 : Option Addr} {m05 m15 m25 m35 m55 : Option Value}
    (aE : PySem.W.nsIn K mainGlobals "ChanceError" = some (some (.ref E)))
    (aM : PySem.W.nsIn K mainGlobals "TooMany" = some (some (.ref M)))
    (g0_ : PySem.W.nsIn K mainGlobals "BadBook" = some (some (.ref c0)))
    (g1_ : PySem.W.nsIn K mainGlobals "BadBottom" = some (some (.ref c1)))
    (g2_ : PySem.W.nsIn K mainGlobals "BadChances" = some (some (.ref c2)))
    (g3_ : PySem.W.nsIn K mainGlobals "BadCoins" = some (some (.ref c3)))
    (g4_ : PySem.W.nsIn K mainGlobals "BadExpression" = some (some (.ref c4)))
    (g5_ : PySem.W.nsIn K mainGlobals "BadForm" = some (some (.ref c5)))
    (g6_ : PySem.W.nsIn K mainGlobals "BadGrid" = some (some (.ref c6)))
    (g7_ : PySem.W.nsIn K mainGlobals "BadKind" = some (some (.ref c7)))
    (g8_ : PySem.W.nsIn K mainGlobals "BadKinds" = some (some (.ref c8)))
    (g9_ : PySem.W.nsIn K mainGlobals "BadLength" = some (some (.ref c9)))
    (g10_ : PySem.W.nsIn K mainGlobals "BadLine" = some (some (.ref c10)))
    (g11_ : PySem.W.nsIn K mainGlobals "BadManner" = some (some (.ref c11)))
    (g12_ : PySem.W.nsIn K mainGlobals "BadMany" = some (some (.ref c12)))
    (g13_ : PySem.W.nsIn K mainGlobals "BadMost" = some (some (.ref c13)))
    (g14_ : PySem.W.nsIn K mainGlobals "BadName" = some (some (.ref c14)))
    (g15_ : PySem.W.nsIn K mainGlobals "BadNames" = some (some (.ref c15)))
    (g16_ : PySem.W.nsIn K mainGlobals "BadNumber" = some (some (.ref c16)))
    (g17_ : PySem.W.nsIn K mainGlobals "BadNumbers" = some (some (.ref c17)))
    (g18_ : PySem.W.nsIn K mainGlobals "BadPass" = some (some (.ref c18)))
    (g19_ : PySem.W.nsIn K mainGlobals "BadPath" = some (some (.ref c19)))
    (g20_ : PySem.W.nsIn K mainGlobals "BadPaths" = some (some (.ref c20)))
    (g21_ : PySem.W.nsIn K mainGlobals "BadProgram" = some (some (.ref c21)))
    (g22_ : PySem.W.nsIn K mainGlobals "BadSure" = some (some (.ref c22)))
    (g23_ : PySem.W.nsIn K mainGlobals "BadSurrounding" = some (some (.ref c23)))
    (g24_ : PySem.W.nsIn K mainGlobals "BadTable" = some (some (.ref c24)))
    (g25_ : PySem.W.nsIn K mainGlobals "BadTables" = some (some (.ref c25)))
    (g26_ : PySem.W.nsIn K mainGlobals "BadTake" = some (some (.ref c26)))
    (g27_ : PySem.W.nsIn K mainGlobals "BadTalk" = some (some (.ref c27)))
    (g28_ : PySem.W.nsIn K mainGlobals "BadTalks" = some (some (.ref c28)))
    (g29_ : PySem.W.nsIn K mainGlobals "BadTape" = some (some (.ref c29)))
    (g30_ : PySem.W.nsIn K mainGlobals "BadThing" = some (some (.ref c30)))
    (g31_ : PySem.W.nsIn K mainGlobals "BadThings" = some (some (.ref c31)))
    (g32_ : PySem.W.nsIn K mainGlobals "BadWeight" = some (some (.ref c32)))
    (g33_ : PySem.W.nsIn K mainGlobals "BadWeights" = some (some (.ref c33)))
    (g34_ : PySem.W.nsIn K mainGlobals "NoChance" = some (some (.ref c34)))
    (g35_ : PySem.W.nsIn K mainGlobals "NoMaker" = some (some (.ref c35)))
    (aN : PySem.W.nsIn K mainGlobals "NoName" = some (some (.ref a1)))
    (aT : PySem.W.nsIn K mainGlobals "Taken" = some (some (.ref a2)))
    (aU : PySem.W.nsIn K mainGlobals "Used" = some (some (.ref a3)))
    (aX : PySem.W.nsIn K mainGlobals "BadText" = some (some (.ref a4)))
    (nB : PySem.W.nsIn K mainGlobals "_law_begun" = some (some (.ref fB)))
    (nD : PySem.W.nsIn K mainGlobals "_law_blended" = some (some (.ref fD)))
    (nG : PySem.W.nsIn K mainGlobals "_law_draw" = some (some (.ref fG)))
    (nP : PySem.W.nsIn K mainGlobals "_law_pick" = some (some (.ref fP)))
    (nL : PySem.W.nsIn K mainGlobals "_law_plain" = some (some (.ref fL)))
    (nN : PySem.W.nsIn K mainGlobals "_law_beneath" = some (some (.ref fN)))
    (nW : PySem.W.nsIn K mainGlobals "law" = some (some (.ref fW)))
    (it1 : PySem.W.findIn K (.ref a1) "__init__" = some (some (.ref i1)))
    (it2 : PySem.W.findIn K (.ref a2) "__init__" = some (some (.ref i2)))
    (it3 : PySem.W.findIn K (.ref a3) "__init__" = some (some (.ref i3)))
    (it4 : PySem.W.findIn K (.ref a4) "__init__" = some (some (.ref i4)))
    (it5 : PySem.W.findIn K (.ref M) "__init__" = some (some (.ref i5)))
    (lB : K.lookup fB = some ⟨ocB, odB, .func (PySem.W.fnOf "_law_begun" "_law_begun" (defArgs Pre.sBegun) (defBody Pre.sBegun) (defScope Pre.sBegun) .none kVB dcB pmB anB cdB ctB), slB⟩)
    (ccB : PySem.W.codeIn K cdB "_law_begun" = true)
    (kkB : PySem.W.keepIn K (.ref fB) = true)
    (lD : K.lookup fD = some ⟨ocD, odD, .func (PySem.W.fnOf "_law_blended" "_law_blended" (defArgs Pre.sBlended) (defBody Pre.sBlended) (defScope Pre.sBlended) .none kVD dcD pmD anD cdD ctD), slD⟩)
    (ccD : PySem.W.codeIn K cdD "_law_blended" = true)
    (kkD : PySem.W.keepIn K (.ref fD) = true)
    (lG : K.lookup fG = some ⟨ocG, odG, .func (PySem.W.fnOf "_law_draw" "_law_draw" (defArgs Pre.sDraw) (defBody Pre.sDraw) (defScope Pre.sDraw) .none kVG dcG pmG anG cdG ctG), slG⟩)
    (ccG : PySem.W.codeIn K cdG "_law_draw" = true)
    (kkG : PySem.W.keepIn K (.ref fG) = true)
    (lP : K.lookup fP = some ⟨ocP, odP, .func (PySem.W.fnOf "_law_pick" "_law_pick" (defArgs Pre.sPick) (defBody Pre.sPick) (defScope Pre.sPick) .none kVP dcP pmP anP cdP ctP), slP⟩)
    (ccP : PySem.W.codeIn K cdP "_law_pick" = true)
    (kkP : PySem.W.keepIn K (.ref fP) = true)
    (lL : K.lookup fL = some ⟨ocL, odL, .func (PySem.W.fnOf "_law_plain" "_law_plain" (defArgs sPlain) (defBody sPlain) (defScope sPlain) .none kVL dcL pmL anL cdL ctL), slL⟩)
    (ccL : PySem.W.codeIn K cdL "_law_plain" = true)
    (kkL : PySem.W.keepIn K (.ref fL) = true)
    (lN : K.lookup fN = some ⟨ocN, odN, .func (PySem.W.fnOf "_law_beneath" "_law_beneath" (defArgs sBeneath) (defBody sBeneath) (defScope sBeneath) .none kVN dcN pmN anN cdN ctN), slN⟩)
    (ccN : PySem.W.codeIn K cdN "_law_beneath" = true)
    (kkN : PySem.W.keepIn K (.ref fN) = true)
    (lW : K.lookup fW = some ⟨ocW, odW, .func (PySem.W.fnOf "law" "law" (defArgs sLaw) (defBody sLaw) (defScope sLaw) .none kVW dcW pmW anW cdW ctW), slW⟩)
    (ccW : PySem.W.codeIn K cdW "law" = true)
    (kkW : PySem.W.keepIn K (.ref fW) = true)
    (l1 : K.lookup i1 = some ⟨oc1, od1, .func (PySem.W.fnOf "__init__" "NoName.__init__" (defArgs sNoName) (defBody sNoName) (defScope sNoName) .none kV1 dc1 pm1 an1 cd1 ct1), sl1⟩)
    (cc1 : PySem.W.codeIn K cd1 "NoName.__init__" = true)
    (kk1 : PySem.W.keepIn K (.ref i1) = true)
    (l2 : K.lookup i2 = some ⟨oc2, od2, .func (PySem.W.fnOf "__init__" "Taken.__init__" (defArgs sTaken) (defBody sTaken) (defScope sTaken) .none kV2 dc2 pm2 an2 cd2 ct2), sl2⟩)
    (cc2 : PySem.W.codeIn K cd2 "Taken.__init__" = true)
    (kk2 : PySem.W.keepIn K (.ref i2) = true)
    (l3 : K.lookup i3 = some ⟨oc3, od3, .func (PySem.W.fnOf "__init__" "Used.__init__" (defArgs sUsed) (defBody sUsed) (defScope sUsed) .none kV3 dc3 pm3 an3 cd3 ct3), sl3⟩)
    (cc3 : PySem.W.codeIn K cd3 "Used.__init__" = true)
    (kk3 : PySem.W.keepIn K (.ref i3) = true)
    (l4 : K.lookup i4 = some ⟨oc4, od4, .func (PySem.W.fnOf "__init__" "BadText.__init__" (defArgs sText) (defBody sText) (defScope sText) .none kV4 dc4 pm4 an4 cd4 ct4), sl4⟩)
    (cc4 : PySem.W.codeIn K cd4 "BadText.__init__" = true)
    (kk4 : PySem.W.keepIn K (.ref i4) = true)
    (l5 : K.lookup i5 = some ⟨oc5, od5, .func (PySem.W.fnOf "__init__" "TooMany.__init__" (defArgs sMany) (defBody sMany) (defScope sMany) .none kV5 dc5 pm5 an5 cd5 ct5), sl5⟩)
    (cc5 : PySem.W.codeIn K cd5 "TooMany.__init__" = true)
    (kk5 : PySem.W.keepIn K (.ref i5) = true)
    (q0_ : PySem.W.excIn K c0 veT "ValueError.__new__" = true)
    (k0_ : PySem.W.keepIn K (.ref c0) = true)
    (cl0_ : PySem.W.isClsIn K c0 = true)
    (ga0_ : PySem.W.findIn K (.ref c0) "__getattribute__" = some (some (.builtin "BaseException.__getattribute__")))
    (gt0_ : PySem.W.findIn K (.ref c0) "__getattr__" = some none)
    (sb0_ : PySem.W.subIn K (.ref c0) (.type "BaseException") = some true)
    (ca0_ : PySem.W.findIn K (.ref c0) "__class__" = some (some (.builtin "object.__class__")))
    (mo0_ : PySem.W.mroIn K c0 (.type "object") = some true)
    (v0_ : PySem.W.kitOne K (.ref c0) (.type "ValueError") = some true)
    (e0_ : PySem.W.kitOne K (.ref c0) (.ref E) = some true)
    (m0_ : PySem.W.kitOne K (.ref c0) (.ref M) = some false)
    (q1_ : PySem.W.excIn K c1 veT "ValueError.__new__" = true)
    (k1_ : PySem.W.keepIn K (.ref c1) = true)
    (cl1_ : PySem.W.isClsIn K c1 = true)
    (ga1_ : PySem.W.findIn K (.ref c1) "__getattribute__" = some (some (.builtin "BaseException.__getattribute__")))
    (gt1_ : PySem.W.findIn K (.ref c1) "__getattr__" = some none)
    (sb1_ : PySem.W.subIn K (.ref c1) (.type "BaseException") = some true)
    (ca1_ : PySem.W.findIn K (.ref c1) "__class__" = some (some (.builtin "object.__class__")))
    (mo1_ : PySem.W.mroIn K c1 (.type "object") = some true)
    (v1_ : PySem.W.kitOne K (.ref c1) (.type "ValueError") = some true)
    (e1_ : PySem.W.kitOne K (.ref c1) (.ref E) = some true)
    (m1_ : PySem.W.kitOne K (.ref c1) (.ref M) = some false)
    (q2_ : PySem.W.excIn K c2 veT "ValueError.__new__" = true)
    (k2_ : PySem.W.keepIn K (.ref c2) = true)
    (cl2_ : PySem.W.isClsIn K c2 = true)
    (ga2_ : PySem.W.findIn K (.ref c2) "__getattribute__" = some (some (.builtin "BaseException.__getattribute__")))
    (gt2_ : PySem.W.findIn K (.ref c2) "__getattr__" = some none)
    (sb2_ : PySem.W.subIn K (.ref c2) (.type "BaseException") = some true)
    (ca2_ : PySem.W.findIn K (.ref c2) "__class__" = some (some (.builtin "object.__class__")))
    (mo2_ : PySem.W.mroIn K c2 (.type "object") = some true)
    (v2_ : PySem.W.kitOne K (.ref c2) (.type "ValueError") = some true)
    (e2_ : PySem.W.kitOne K (.ref c2) (.ref E) = some true)
    (m2_ : PySem.W.kitOne K (.ref c2) (.ref M) = some false)
    (q3_ : PySem.W.excIn K c3 veT "ValueError.__new__" = true)
    (k3_ : PySem.W.keepIn K (.ref c3) = true)
    (cl3_ : PySem.W.isClsIn K c3 = true)
    (ga3_ : PySem.W.findIn K (.ref c3) "__getattribute__" = some (some (.builtin "BaseException.__getattribute__")))
    (gt3_ : PySem.W.findIn K (.ref c3) "__getattr__" = some none)
    (sb3_ : PySem.W.subIn K (.ref c3) (.type "BaseException") = some true)
    (ca3_ : PySem.W.findIn K (.ref c3) "__class__" = some (some (.builtin "object.__class__")))
    (mo3_ : PySem.W.mroIn K c3 (.type "object") = some true)
    (v3_ : PySem.W.kitOne K (.ref c3) (.type "ValueError") = some true)
    (e3_ : PySem.W.kitOne K (.ref c3) (.ref E) = some true)
    (m3_ : PySem.W.kitOne K (.ref c3) (.ref M) = some false)
    (q4_ : PySem.W.excIn K c4 veT "ValueError.__new__" = true)
    (k4_ : PySem.W.keepIn K (.ref c4) = true)
    (cl4_ : PySem.W.isClsIn K c4 = true)
    (ga4_ : PySem.W.findIn K (.ref c4) "__getattribute__" = some (some (.builtin "BaseException.__getattribute__")))
    (gt4_ : PySem.W.findIn K (.ref c4) "__getattr__" = some none)
    (sb4_ : PySem.W.subIn K (.ref c4) (.type "BaseException") = some true)
    (ca4_ : PySem.W.findIn K (.ref c4) "__class__" = some (some (.builtin "object.__class__")))
    (mo4_ : PySem.W.mroIn K c4 (.type "object") = some true)
    (v4_ : PySem.W.kitOne K (.ref c4) (.type "ValueError") = some true)
    (e4_ : PySem.W.kitOne K (.ref c4) (.ref E) = some true)
    (m4_ : PySem.W.kitOne K (.ref c4) (.ref M) = some false)
    (q5_ : PySem.W.excIn K c5 veT "ValueError.__new__" = true)
    (k5_ : PySem.W.keepIn K (.ref c5) = true)
    (cl5_ : PySem.W.isClsIn K c5 = true)
    (ga5_ : PySem.W.findIn K (.ref c5) "__getattribute__" = some (some (.builtin "BaseException.__getattribute__")))
    (gt5_ : PySem.W.findIn K (.ref c5) "__getattr__" = some none)
    (sb5_ : PySem.W.subIn K (.ref c5) (.type "BaseException") = some true)
    (ca5_ : PySem.W.findIn K (.ref c5) "__class__" = some (some (.builtin "object.__class__")))
    (mo5_ : PySem.W.mroIn K c5 (.type "object") = some true)
    (v5_ : PySem.W.kitOne K (.ref c5) (.type "ValueError") = some true)
    (e5_ : PySem.W.kitOne K (.ref c5) (.ref E) = some true)
    (m5_ : PySem.W.kitOne K (.ref c5) (.ref M) = some false)
    (q6_ : PySem.W.excIn K c6 veT "ValueError.__new__" = true)
    (k6_ : PySem.W.keepIn K (.ref c6) = true)
    (cl6_ : PySem.W.isClsIn K c6 = true)
    (ga6_ : PySem.W.findIn K (.ref c6) "__getattribute__" = some (some (.builtin "BaseException.__getattribute__")))
    (gt6_ : PySem.W.findIn K (.ref c6) "__getattr__" = some none)
    (sb6_ : PySem.W.subIn K (.ref c6) (.type "BaseException") = some true)
    (ca6_ : PySem.W.findIn K (.ref c6) "__class__" = some (some (.builtin "object.__class__")))
    (mo6_ : PySem.W.mroIn K c6 (.type "object") = some true)
    (v6_ : PySem.W.kitOne K (.ref c6) (.type "ValueError") = some true)
    (e6_ : PySem.W.kitOne K (.ref c6) (.ref E) = some true)
    (m6_ : PySem.W.kitOne K (.ref c6) (.ref M) = some false)
    (q7_ : PySem.W.excIn K c7 veT "ValueError.__new__" = true)
    (k7_ : PySem.W.keepIn K (.ref c7) = true)
    (cl7_ : PySem.W.isClsIn K c7 = true)
    (ga7_ : PySem.W.findIn K (.ref c7) "__getattribute__" = some (some (.builtin "BaseException.__getattribute__")))
    (gt7_ : PySem.W.findIn K (.ref c7) "__getattr__" = some none)
    (sb7_ : PySem.W.subIn K (.ref c7) (.type "BaseException") = some true)
    (ca7_ : PySem.W.findIn K (.ref c7) "__class__" = some (some (.builtin "object.__class__")))
    (mo7_ : PySem.W.mroIn K c7 (.type "object") = some true)
    (v7_ : PySem.W.kitOne K (.ref c7) (.type "ValueError") = some true)
    (e7_ : PySem.W.kitOne K (.ref c7) (.ref E) = some true)
    (m7_ : PySem.W.kitOne K (.ref c7) (.ref M) = some false)
    (q8_ : PySem.W.excIn K c8 veT "ValueError.__new__" = true)
    (k8_ : PySem.W.keepIn K (.ref c8) = true)
    (cl8_ : PySem.W.isClsIn K c8 = true)
    (ga8_ : PySem.W.findIn K (.ref c8) "__getattribute__" = some (some (.builtin "BaseException.__getattribute__")))
    (gt8_ : PySem.W.findIn K (.ref c8) "__getattr__" = some none)
    (sb8_ : PySem.W.subIn K (.ref c8) (.type "BaseException") = some true)
    (ca8_ : PySem.W.findIn K (.ref c8) "__class__" = some (some (.builtin "object.__class__")))
    (mo8_ : PySem.W.mroIn K c8 (.type "object") = some true)
    (v8_ : PySem.W.kitOne K (.ref c8) (.type "ValueError") = some true)
    (e8_ : PySem.W.kitOne K (.ref c8) (.ref E) = some true)
    (m8_ : PySem.W.kitOne K (.ref c8) (.ref M) = some false)
    (q9_ : PySem.W.excIn K c9 veT "ValueError.__new__" = true)
    (k9_ : PySem.W.keepIn K (.ref c9) = true)
    (cl9_ : PySem.W.isClsIn K c9 = true)
    (ga9_ : PySem.W.findIn K (.ref c9) "__getattribute__" = some (some (.builtin "BaseException.__getattribute__")))
    (gt9_ : PySem.W.findIn K (.ref c9) "__getattr__" = some none)
    (sb9_ : PySem.W.subIn K (.ref c9) (.type "BaseException") = some true)
    (ca9_ : PySem.W.findIn K (.ref c9) "__class__" = some (some (.builtin "object.__class__")))
    (mo9_ : PySem.W.mroIn K c9 (.type "object") = some true)
    (v9_ : PySem.W.kitOne K (.ref c9) (.type "ValueError") = some true)
    (e9_ : PySem.W.kitOne K (.ref c9) (.ref E) = some true)
    (m9_ : PySem.W.kitOne K (.ref c9) (.ref M) = some false)
    (q10_ : PySem.W.excIn K c10 veT "ValueError.__new__" = true)
    (k10_ : PySem.W.keepIn K (.ref c10) = true)
    (cl10_ : PySem.W.isClsIn K c10 = true)
    (ga10_ : PySem.W.findIn K (.ref c10) "__getattribute__" = some (some (.builtin "BaseException.__getattribute__")))
    (gt10_ : PySem.W.findIn K (.ref c10) "__getattr__" = some none)
    (sb10_ : PySem.W.subIn K (.ref c10) (.type "BaseException") = some true)
    (ca10_ : PySem.W.findIn K (.ref c10) "__class__" = some (some (.builtin "object.__class__")))
    (mo10_ : PySem.W.mroIn K c10 (.type "object") = some true)
    (v10_ : PySem.W.kitOne K (.ref c10) (.type "ValueError") = some true)
    (e10_ : PySem.W.kitOne K (.ref c10) (.ref E) = some true)
    (m10_ : PySem.W.kitOne K (.ref c10) (.ref M) = some false)
    (q11_ : PySem.W.excIn K c11 veT "ValueError.__new__" = true)
    (k11_ : PySem.W.keepIn K (.ref c11) = true)
    (cl11_ : PySem.W.isClsIn K c11 = true)
    (ga11_ : PySem.W.findIn K (.ref c11) "__getattribute__" = some (some (.builtin "BaseException.__getattribute__")))
    (gt11_ : PySem.W.findIn K (.ref c11) "__getattr__" = some none)
    (sb11_ : PySem.W.subIn K (.ref c11) (.type "BaseException") = some true)
    (ca11_ : PySem.W.findIn K (.ref c11) "__class__" = some (some (.builtin "object.__class__")))
    (mo11_ : PySem.W.mroIn K c11 (.type "object") = some true)
    (v11_ : PySem.W.kitOne K (.ref c11) (.type "ValueError") = some true)
    (e11_ : PySem.W.kitOne K (.ref c11) (.ref E) = some true)
    (m11_ : PySem.W.kitOne K (.ref c11) (.ref M) = some false)
    (q12_ : PySem.W.excIn K c12 veT "ValueError.__new__" = true)
    (k12_ : PySem.W.keepIn K (.ref c12) = true)
    (cl12_ : PySem.W.isClsIn K c12 = true)
    (ga12_ : PySem.W.findIn K (.ref c12) "__getattribute__" = some (some (.builtin "BaseException.__getattribute__")))
    (gt12_ : PySem.W.findIn K (.ref c12) "__getattr__" = some none)
    (sb12_ : PySem.W.subIn K (.ref c12) (.type "BaseException") = some true)
    (ca12_ : PySem.W.findIn K (.ref c12) "__class__" = some (some (.builtin "object.__class__")))
    (mo12_ : PySem.W.mroIn K c12 (.type "object") = some true)
    (v12_ : PySem.W.kitOne K (.ref c12) (.type "ValueError") = some true)
    (e12_ : PySem.W.kitOne K (.ref c12) (.ref E) = some true)
    (m12_ : PySem.W.kitOne K (.ref c12) (.ref M) = some false)
    (q13_ : PySem.W.excIn K c13 veT "ValueError.__new__" = true)
    (k13_ : PySem.W.keepIn K (.ref c13) = true)
    (cl13_ : PySem.W.isClsIn K c13 = true)
    (ga13_ : PySem.W.findIn K (.ref c13) "__getattribute__" = some (some (.builtin "BaseException.__getattribute__")))
    (gt13_ : PySem.W.findIn K (.ref c13) "__getattr__" = some none)
    (sb13_ : PySem.W.subIn K (.ref c13) (.type "BaseException") = some true)
    (ca13_ : PySem.W.findIn K (.ref c13) "__class__" = some (some (.builtin "object.__class__")))
    (mo13_ : PySem.W.mroIn K c13 (.type "object") = some true)
    (v13_ : PySem.W.kitOne K (.ref c13) (.type "ValueError") = some true)
    (e13_ : PySem.W.kitOne K (.ref c13) (.ref E) = some true)
    (m13_ : PySem.W.kitOne K (.ref c13) (.ref M) = some false)
    (q14_ : PySem.W.excIn K c14 veT "ValueError.__new__" = true)
    (k14_ : PySem.W.keepIn K (.ref c14) = true)
    (cl14_ : PySem.W.isClsIn K c14 = true)
    (ga14_ : PySem.W.findIn K (.ref c14) "__getattribute__" = some (some (.builtin "BaseException.__getattribute__")))
    (gt14_ : PySem.W.findIn K (.ref c14) "__getattr__" = some none)
    (sb14_ : PySem.W.subIn K (.ref c14) (.type "BaseException") = some true)
    (ca14_ : PySem.W.findIn K (.ref c14) "__class__" = some (some (.builtin "object.__class__")))
    (mo14_ : PySem.W.mroIn K c14 (.type "object") = some true)
    (v14_ : PySem.W.kitOne K (.ref c14) (.type "ValueError") = some true)
    (e14_ : PySem.W.kitOne K (.ref c14) (.ref E) = some true)
    (m14_ : PySem.W.kitOne K (.ref c14) (.ref M) = some false)
    (q15_ : PySem.W.excIn K c15 veT "ValueError.__new__" = true)
    (k15_ : PySem.W.keepIn K (.ref c15) = true)
    (cl15_ : PySem.W.isClsIn K c15 = true)
    (ga15_ : PySem.W.findIn K (.ref c15) "__getattribute__" = some (some (.builtin "BaseException.__getattribute__")))
    (gt15_ : PySem.W.findIn K (.ref c15) "__getattr__" = some none)
    (sb15_ : PySem.W.subIn K (.ref c15) (.type "BaseException") = some true)
    (ca15_ : PySem.W.findIn K (.ref c15) "__class__" = some (some (.builtin "object.__class__")))
    (mo15_ : PySem.W.mroIn K c15 (.type "object") = some true)
    (v15_ : PySem.W.kitOne K (.ref c15) (.type "ValueError") = some true)
    (e15_ : PySem.W.kitOne K (.ref c15) (.ref E) = some true)
    (m15_ : PySem.W.kitOne K (.ref c15) (.ref M) = some false)
    (q16_ : PySem.W.excIn K c16 veT "ValueError.__new__" = true)
    (k16_ : PySem.W.keepIn K (.ref c16) = true)
    (cl16_ : PySem.W.isClsIn K c16 = true)
    (ga16_ : PySem.W.findIn K (.ref c16) "__getattribute__" = some (some (.builtin "BaseException.__getattribute__")))
    (gt16_ : PySem.W.findIn K (.ref c16) "__getattr__" = some none)
    (sb16_ : PySem.W.subIn K (.ref c16) (.type "BaseException") = some true)
    (ca16_ : PySem.W.findIn K (.ref c16) "__class__" = some (some (.builtin "object.__class__")))
    (mo16_ : PySem.W.mroIn K c16 (.type "object") = some true)
    (v16_ : PySem.W.kitOne K (.ref c16) (.type "ValueError") = some true)
    (e16_ : PySem.W.kitOne K (.ref c16) (.ref E) = some true)
    (m16_ : PySem.W.kitOne K (.ref c16) (.ref M) = some false)
    (q17_ : PySem.W.excIn K c17 veT "ValueError.__new__" = true)
    (k17_ : PySem.W.keepIn K (.ref c17) = true)
    (cl17_ : PySem.W.isClsIn K c17 = true)
    (ga17_ : PySem.W.findIn K (.ref c17) "__getattribute__" = some (some (.builtin "BaseException.__getattribute__")))
    (gt17_ : PySem.W.findIn K (.ref c17) "__getattr__" = some none)
    (sb17_ : PySem.W.subIn K (.ref c17) (.type "BaseException") = some true)
    (ca17_ : PySem.W.findIn K (.ref c17) "__class__" = some (some (.builtin "object.__class__")))
    (mo17_ : PySem.W.mroIn K c17 (.type "object") = some true)
    (v17_ : PySem.W.kitOne K (.ref c17) (.type "ValueError") = some true)
    (e17_ : PySem.W.kitOne K (.ref c17) (.ref E) = some true)
    (m17_ : PySem.W.kitOne K (.ref c17) (.ref M) = some false)
    (q18_ : PySem.W.excIn K c18 veT "ValueError.__new__" = true)
    (k18_ : PySem.W.keepIn K (.ref c18) = true)
    (cl18_ : PySem.W.isClsIn K c18 = true)
    (ga18_ : PySem.W.findIn K (.ref c18) "__getattribute__" = some (some (.builtin "BaseException.__getattribute__")))
    (gt18_ : PySem.W.findIn K (.ref c18) "__getattr__" = some none)
    (sb18_ : PySem.W.subIn K (.ref c18) (.type "BaseException") = some true)
    (ca18_ : PySem.W.findIn K (.ref c18) "__class__" = some (some (.builtin "object.__class__")))
    (mo18_ : PySem.W.mroIn K c18 (.type "object") = some true)
    (v18_ : PySem.W.kitOne K (.ref c18) (.type "ValueError") = some true)
    (e18_ : PySem.W.kitOne K (.ref c18) (.ref E) = some true)
    (m18_ : PySem.W.kitOne K (.ref c18) (.ref M) = some false)
    (q19_ : PySem.W.excIn K c19 veT "ValueError.__new__" = true)
    (k19_ : PySem.W.keepIn K (.ref c19) = true)
    (cl19_ : PySem.W.isClsIn K c19 = true)
    (ga19_ : PySem.W.findIn K (.ref c19) "__getattribute__" = some (some (.builtin "BaseException.__getattribute__")))
    (gt19_ : PySem.W.findIn K (.ref c19) "__getattr__" = some none)
    (sb19_ : PySem.W.subIn K (.ref c19) (.type "BaseException") = some true)
    (ca19_ : PySem.W.findIn K (.ref c19) "__class__" = some (some (.builtin "object.__class__")))
    (mo19_ : PySem.W.mroIn K c19 (.type "object") = some true)
    (v19_ : PySem.W.kitOne K (.ref c19) (.type "ValueError") = some true)
    (e19_ : PySem.W.kitOne K (.ref c19) (.ref E) = some true)
    (m19_ : PySem.W.kitOne K (.ref c19) (.ref M) = some false)
    (q20_ : PySem.W.excIn K c20 veT "ValueError.__new__" = true)
    (k20_ : PySem.W.keepIn K (.ref c20) = true)
    (cl20_ : PySem.W.isClsIn K c20 = true)
    (ga20_ : PySem.W.findIn K (.ref c20) "__getattribute__" = some (some (.builtin "BaseException.__getattribute__")))
    (gt20_ : PySem.W.findIn K (.ref c20) "__getattr__" = some none)
    (sb20_ : PySem.W.subIn K (.ref c20) (.type "BaseException") = some true)
    (ca20_ : PySem.W.findIn K (.ref c20) "__class__" = some (some (.builtin "object.__class__")))
    (mo20_ : PySem.W.mroIn K c20 (.type "object") = some true)
    (v20_ : PySem.W.kitOne K (.ref c20) (.type "ValueError") = some true)
    (e20_ : PySem.W.kitOne K (.ref c20) (.ref E) = some true)
    (m20_ : PySem.W.kitOne K (.ref c20) (.ref M) = some false)
    (q21_ : PySem.W.excIn K c21 veT "ValueError.__new__" = true)
    (k21_ : PySem.W.keepIn K (.ref c21) = true)
    (cl21_ : PySem.W.isClsIn K c21 = true)
    (ga21_ : PySem.W.findIn K (.ref c21) "__getattribute__" = some (some (.builtin "BaseException.__getattribute__")))
    (gt21_ : PySem.W.findIn K (.ref c21) "__getattr__" = some none)
    (sb21_ : PySem.W.subIn K (.ref c21) (.type "BaseException") = some true)
    (ca21_ : PySem.W.findIn K (.ref c21) "__class__" = some (some (.builtin "object.__class__")))
    (mo21_ : PySem.W.mroIn K c21 (.type "object") = some true)
    (v21_ : PySem.W.kitOne K (.ref c21) (.type "ValueError") = some true)
    (e21_ : PySem.W.kitOne K (.ref c21) (.ref E) = some true)
    (m21_ : PySem.W.kitOne K (.ref c21) (.ref M) = some false)
    (q22_ : PySem.W.excIn K c22 veT "ValueError.__new__" = true)
    (k22_ : PySem.W.keepIn K (.ref c22) = true)
    (cl22_ : PySem.W.isClsIn K c22 = true)
    (ga22_ : PySem.W.findIn K (.ref c22) "__getattribute__" = some (some (.builtin "BaseException.__getattribute__")))
    (gt22_ : PySem.W.findIn K (.ref c22) "__getattr__" = some none)
    (sb22_ : PySem.W.subIn K (.ref c22) (.type "BaseException") = some true)
    (ca22_ : PySem.W.findIn K (.ref c22) "__class__" = some (some (.builtin "object.__class__")))
    (mo22_ : PySem.W.mroIn K c22 (.type "object") = some true)
    (v22_ : PySem.W.kitOne K (.ref c22) (.type "ValueError") = some true)
    (e22_ : PySem.W.kitOne K (.ref c22) (.ref E) = some true)
    (m22_ : PySem.W.kitOne K (.ref c22) (.ref M) = some false)
    (q23_ : PySem.W.excIn K c23 veT "ValueError.__new__" = true)
    (k23_ : PySem.W.keepIn K (.ref c23) = true)
    (cl23_ : PySem.W.isClsIn K c23 = true)
    (ga23_ : PySem.W.findIn K (.ref c23) "__getattribute__" = some (some (.builtin "BaseException.__getattribute__")))
    (gt23_ : PySem.W.findIn K (.ref c23) "__getattr__" = some none)
    (sb23_ : PySem.W.subIn K (.ref c23) (.type "BaseException") = some true)
    (ca23_ : PySem.W.findIn K (.ref c23) "__class__" = some (some (.builtin "object.__class__")))
    (mo23_ : PySem.W.mroIn K c23 (.type "object") = some true)
    (v23_ : PySem.W.kitOne K (.ref c23) (.type "ValueError") = some true)
    (e23_ : PySem.W.kitOne K (.ref c23) (.ref E) = some true)
    (m23_ : PySem.W.kitOne K (.ref c23) (.ref M) = some false)
    (q24_ : PySem.W.excIn K c24 veT "ValueError.__new__" = true)
    (k24_ : PySem.W.keepIn K (.ref c24) = true)
    (cl24_ : PySem.W.isClsIn K c24 = true)
    (ga24_ : PySem.W.findIn K (.ref c24) "__getattribute__" = some (some (.builtin "BaseException.__getattribute__")))
    (gt24_ : PySem.W.findIn K (.ref c24) "__getattr__" = some none)
    (sb24_ : PySem.W.subIn K (.ref c24) (.type "BaseException") = some true)
    (ca24_ : PySem.W.findIn K (.ref c24) "__class__" = some (some (.builtin "object.__class__")))
    (mo24_ : PySem.W.mroIn K c24 (.type "object") = some true)
    (v24_ : PySem.W.kitOne K (.ref c24) (.type "ValueError") = some true)
    (e24_ : PySem.W.kitOne K (.ref c24) (.ref E) = some true)
    (m24_ : PySem.W.kitOne K (.ref c24) (.ref M) = some false)
    (q25_ : PySem.W.excIn K c25 veT "ValueError.__new__" = true)
    (k25_ : PySem.W.keepIn K (.ref c25) = true)
    (cl25_ : PySem.W.isClsIn K c25 = true)
    (ga25_ : PySem.W.findIn K (.ref c25) "__getattribute__" = some (some (.builtin "BaseException.__getattribute__")))
    (gt25_ : PySem.W.findIn K (.ref c25) "__getattr__" = some none)
    (sb25_ : PySem.W.subIn K (.ref c25) (.type "BaseException") = some true)
    (ca25_ : PySem.W.findIn K (.ref c25) "__class__" = some (some (.builtin "object.__class__")))
    (mo25_ : PySem.W.mroIn K c25 (.type "object") = some true)
    (v25_ : PySem.W.kitOne K (.ref c25) (.type "ValueError") = some true)
    (e25_ : PySem.W.kitOne K (.ref c25) (.ref E) = some true)
    (m25_ : PySem.W.kitOne K (.ref c25) (.ref M) = some false)
    (q26_ : PySem.W.excIn K c26 veT "ValueError.__new__" = true)
    (k26_ : PySem.W.keepIn K (.ref c26) = true)
    (cl26_ : PySem.W.isClsIn K c26 = true)
    (ga26_ : PySem.W.findIn K (.ref c26) "__getattribute__" = some (some (.builtin "BaseException.__getattribute__")))
    (gt26_ : PySem.W.findIn K (.ref c26) "__getattr__" = some none)
    (sb26_ : PySem.W.subIn K (.ref c26) (.type "BaseException") = some true)
    (ca26_ : PySem.W.findIn K (.ref c26) "__class__" = some (some (.builtin "object.__class__")))
    (mo26_ : PySem.W.mroIn K c26 (.type "object") = some true)
    (v26_ : PySem.W.kitOne K (.ref c26) (.type "ValueError") = some true)
    (e26_ : PySem.W.kitOne K (.ref c26) (.ref E) = some true)
    (m26_ : PySem.W.kitOne K (.ref c26) (.ref M) = some false)
    (q27_ : PySem.W.excIn K c27 veT "ValueError.__new__" = true)
    (k27_ : PySem.W.keepIn K (.ref c27) = true)
    (cl27_ : PySem.W.isClsIn K c27 = true)
    (ga27_ : PySem.W.findIn K (.ref c27) "__getattribute__" = some (some (.builtin "BaseException.__getattribute__")))
    (gt27_ : PySem.W.findIn K (.ref c27) "__getattr__" = some none)
    (sb27_ : PySem.W.subIn K (.ref c27) (.type "BaseException") = some true)
    (ca27_ : PySem.W.findIn K (.ref c27) "__class__" = some (some (.builtin "object.__class__")))
    (mo27_ : PySem.W.mroIn K c27 (.type "object") = some true)
    (v27_ : PySem.W.kitOne K (.ref c27) (.type "ValueError") = some true)
    (e27_ : PySem.W.kitOne K (.ref c27) (.ref E) = some true)
    (m27_ : PySem.W.kitOne K (.ref c27) (.ref M) = some false)
    (q28_ : PySem.W.excIn K c28 veT "ValueError.__new__" = true)
    (k28_ : PySem.W.keepIn K (.ref c28) = true)
    (cl28_ : PySem.W.isClsIn K c28 = true)
    (ga28_ : PySem.W.findIn K (.ref c28) "__getattribute__" = some (some (.builtin "BaseException.__getattribute__")))
    (gt28_ : PySem.W.findIn K (.ref c28) "__getattr__" = some none)
    (sb28_ : PySem.W.subIn K (.ref c28) (.type "BaseException") = some true)
    (ca28_ : PySem.W.findIn K (.ref c28) "__class__" = some (some (.builtin "object.__class__")))
    (mo28_ : PySem.W.mroIn K c28 (.type "object") = some true)
    (v28_ : PySem.W.kitOne K (.ref c28) (.type "ValueError") = some true)
    (e28_ : PySem.W.kitOne K (.ref c28) (.ref E) = some true)
    (m28_ : PySem.W.kitOne K (.ref c28) (.ref M) = some false)
    (q29_ : PySem.W.excIn K c29 veT "ValueError.__new__" = true)
    (k29_ : PySem.W.keepIn K (.ref c29) = true)
    (cl29_ : PySem.W.isClsIn K c29 = true)
    (ga29_ : PySem.W.findIn K (.ref c29) "__getattribute__" = some (some (.builtin "BaseException.__getattribute__")))
    (gt29_ : PySem.W.findIn K (.ref c29) "__getattr__" = some none)
    (sb29_ : PySem.W.subIn K (.ref c29) (.type "BaseException") = some true)
    (ca29_ : PySem.W.findIn K (.ref c29) "__class__" = some (some (.builtin "object.__class__")))
    (mo29_ : PySem.W.mroIn K c29 (.type "object") = some true)
    (v29_ : PySem.W.kitOne K (.ref c29) (.type "ValueError") = some true)
    (e29_ : PySem.W.kitOne K (.ref c29) (.ref E) = some true)
    (m29_ : PySem.W.kitOne K (.ref c29) (.ref M) = some false)
    (q30_ : PySem.W.excIn K c30 veT "ValueError.__new__" = true)
    (k30_ : PySem.W.keepIn K (.ref c30) = true)
    (cl30_ : PySem.W.isClsIn K c30 = true)
    (ga30_ : PySem.W.findIn K (.ref c30) "__getattribute__" = some (some (.builtin "BaseException.__getattribute__")))
    (gt30_ : PySem.W.findIn K (.ref c30) "__getattr__" = some none)
    (sb30_ : PySem.W.subIn K (.ref c30) (.type "BaseException") = some true)
    (ca30_ : PySem.W.findIn K (.ref c30) "__class__" = some (some (.builtin "object.__class__")))
    (mo30_ : PySem.W.mroIn K c30 (.type "object") = some true)
    (v30_ : PySem.W.kitOne K (.ref c30) (.type "ValueError") = some true)
    (e30_ : PySem.W.kitOne K (.ref c30) (.ref E) = some true)
    (m30_ : PySem.W.kitOne K (.ref c30) (.ref M) = some false)
    (q31_ : PySem.W.excIn K c31 veT "ValueError.__new__" = true)
    (k31_ : PySem.W.keepIn K (.ref c31) = true)
    (cl31_ : PySem.W.isClsIn K c31 = true)
    (ga31_ : PySem.W.findIn K (.ref c31) "__getattribute__" = some (some (.builtin "BaseException.__getattribute__")))
    (gt31_ : PySem.W.findIn K (.ref c31) "__getattr__" = some none)
    (sb31_ : PySem.W.subIn K (.ref c31) (.type "BaseException") = some true)
    (ca31_ : PySem.W.findIn K (.ref c31) "__class__" = some (some (.builtin "object.__class__")))
    (mo31_ : PySem.W.mroIn K c31 (.type "object") = some true)
    (v31_ : PySem.W.kitOne K (.ref c31) (.type "ValueError") = some true)
    (e31_ : PySem.W.kitOne K (.ref c31) (.ref E) = some true)
    (m31_ : PySem.W.kitOne K (.ref c31) (.ref M) = some false)
    (q32_ : PySem.W.excIn K c32 veT "ValueError.__new__" = true)
    (k32_ : PySem.W.keepIn K (.ref c32) = true)
    (cl32_ : PySem.W.isClsIn K c32 = true)
    (ga32_ : PySem.W.findIn K (.ref c32) "__getattribute__" = some (some (.builtin "BaseException.__getattribute__")))
    (gt32_ : PySem.W.findIn K (.ref c32) "__getattr__" = some none)
    (sb32_ : PySem.W.subIn K (.ref c32) (.type "BaseException") = some true)
    (ca32_ : PySem.W.findIn K (.ref c32) "__class__" = some (some (.builtin "object.__class__")))
    (mo32_ : PySem.W.mroIn K c32 (.type "object") = some true)
    (v32_ : PySem.W.kitOne K (.ref c32) (.type "ValueError") = some true)
    (e32_ : PySem.W.kitOne K (.ref c32) (.ref E) = some true)
    (m32_ : PySem.W.kitOne K (.ref c32) (.ref M) = some false)
    (q33_ : PySem.W.excIn K c33 veT "ValueError.__new__" = true)
    (k33_ : PySem.W.keepIn K (.ref c33) = true)
    (cl33_ : PySem.W.isClsIn K c33 = true)
    (ga33_ : PySem.W.findIn K (.ref c33) "__getattribute__" = some (some (.builtin "BaseException.__getattribute__")))
    (gt33_ : PySem.W.findIn K (.ref c33) "__getattr__" = some none)
    (sb33_ : PySem.W.subIn K (.ref c33) (.type "BaseException") = some true)
    (ca33_ : PySem.W.findIn K (.ref c33) "__class__" = some (some (.builtin "object.__class__")))
    (mo33_ : PySem.W.mroIn K c33 (.type "object") = some true)
    (v33_ : PySem.W.kitOne K (.ref c33) (.type "ValueError") = some true)
    (e33_ : PySem.W.kitOne K (.ref c33) (.ref E) = some true)
    (m33_ : PySem.W.kitOne K (.ref c33) (.ref M) = some false)
    (q34_ : PySem.W.excIn K c34 veT "ValueError.__new__" = true)
    (k34_ : PySem.W.keepIn K (.ref c34) = true)
    (cl34_ : PySem.W.isClsIn K c34 = true)
    (ga34_ : PySem.W.findIn K (.ref c34) "__getattribute__" = some (some (.builtin "BaseException.__getattribute__")))
    (gt34_ : PySem.W.findIn K (.ref c34) "__getattr__" = some none)
    (sb34_ : PySem.W.subIn K (.ref c34) (.type "BaseException") = some true)
    (ca34_ : PySem.W.findIn K (.ref c34) "__class__" = some (some (.builtin "object.__class__")))
    (mo34_ : PySem.W.mroIn K c34 (.type "object") = some true)
    (v34_ : PySem.W.kitOne K (.ref c34) (.type "ValueError") = some true)
    (e34_ : PySem.W.kitOne K (.ref c34) (.ref E) = some true)
    (m34_ : PySem.W.kitOne K (.ref c34) (.ref M) = some false)
    (q35_ : PySem.W.excIn K c35 veT "ValueError.__new__" = true)
    (k35_ : PySem.W.keepIn K (.ref c35) = true)
    (cl35_ : PySem.W.isClsIn K c35 = true)
    (ga35_ : PySem.W.findIn K (.ref c35) "__getattribute__" = some (some (.builtin "BaseException.__getattribute__")))
    (gt35_ : PySem.W.findIn K (.ref c35) "__getattr__" = some none)
    (sb35_ : PySem.W.subIn K (.ref c35) (.type "BaseException") = some true)
    (ca35_ : PySem.W.findIn K (.ref c35) "__class__" = some (some (.builtin "object.__class__")))
    (mo35_ : PySem.W.mroIn K c35 (.type "object") = some true)
    (v35_ : PySem.W.kitOne K (.ref c35) (.type "ValueError") = some true)
    (e35_ : PySem.W.kitOne K (.ref c35) (.ref E) = some true)
    (m35_ : PySem.W.kitOne K (.ref c35) (.ref M) = some false)
    (b0_ : PySem.W.kitOne K (.ref c8) (.ref c7) = some false)
    (b1_ : PySem.W.kitOne K (.ref c7) (.ref c8) = some false)
    (b2_ : PySem.W.kitOne K (.ref c15) (.ref c14) = some false)
    (b3_ : PySem.W.kitOne K (.ref c14) (.ref c15) = some false)
    (b4_ : PySem.W.kitOne K (.ref c17) (.ref c16) = some false)
    (b5_ : PySem.W.kitOne K (.ref c16) (.ref c17) = some false)
    (b6_ : PySem.W.kitOne K (.ref c20) (.ref c19) = some false)
    (b7_ : PySem.W.kitOne K (.ref c19) (.ref c20) = some false)
    (b8_ : PySem.W.kitOne K (.ref c25) (.ref c24) = some false)
    (b9_ : PySem.W.kitOne K (.ref c24) (.ref c25) = some false)
    (b10_ : PySem.W.kitOne K (.ref c28) (.ref c27) = some false)
    (b11_ : PySem.W.kitOne K (.ref c27) (.ref c28) = some false)
    (b12_ : PySem.W.kitOne K (.ref c31) (.ref c30) = some false)
    (b13_ : PySem.W.kitOne K (.ref c30) (.ref c31) = some false)
    (b14_ : PySem.W.kitOne K (.ref c33) (.ref c32) = some false)
    (b15_ : PySem.W.kitOne K (.ref c32) (.ref c33) = some false)
    (b16_ : PySem.W.kitOne K (.ref c21) (.ref c4) = some false)
    (b17_ : PySem.W.kitOne K (.ref c4) (.ref c21) = some false)
    (bs : PySem.W.specialIn K (.ref E) "__getattribute__" = some (some (.builtin "type.__getattribute__")))
    (br : PySem.W.readsIn K E (.type "type") = true)
    (bv : PySem.W.findCls K (.ref E) (.type "type") "__init__" = some (.val (.builtin "ValueError.__init__")))
    (zh : PySem.W.specialIn K (.builtin "object.__class__") "__get__" = some (some (.builtin "getset_descriptor.__get__")))
    (zt : PySem.W.takesIn K (.builtin "object.__class__") = some true)
    (zisinstance : PySem.W.nsIn K mainGlobals "isinstance" = some none)
    (zValueError : PySem.W.nsIn K mainGlobals "ValueError" = some none)
    (zabs : PySem.W.nsIn K mainGlobals "abs" = some none)
    (zint : PySem.W.nsIn K mainGlobals "int" = some none)
    (zlen : PySem.W.nsIn K mainGlobals "len" = some none)
    (x1 : K.lookup a1 = some (excClassObj nm1 q1 a1 N1 bs1 (.ref E :: veT) true sn1 su1 ab1 co1 dd1 m01 m11 m21 m31 m51 "ValueError.__new__"))
    (sa1 : PySem.W.findIn K (.ref a1) "__setattr__" = some (some (.builtin "object.__setattr__")))
    (ty1 : PySem.W.typeIn K (.ref a1) = some (.type "type"))
    (ke1 : PySem.W.keepIn K (.ref a1) = true)
    (ti1 : PySem.W.typeIn K (.ref i1) = some (.type "function"))
    (no1 : PySem.W.findIn K (.ref a1) "name" = some none)
    (hd1 : PySem.W.hasDictIn K a1 = true)
    (clo1 : PySem.W.isClsIn K a1 = true)
    (gao1 : PySem.W.findIn K (.ref a1) "__getattribute__" = some (some (.builtin "BaseException.__getattribute__")))
    (gto1 : PySem.W.findIn K (.ref a1) "__getattr__" = some none)
    (sbo1 : PySem.W.subIn K (.ref a1) (.type "BaseException") = some true)
    (cao1 : PySem.W.findIn K (.ref a1) "__class__" = some (some (.builtin "object.__class__")))
    (moo1 : PySem.W.mroIn K a1 (.type "object") = some true)
    (x2 : K.lookup a2 = some (excClassObj nm2 q2 a2 N2 bs2 (.ref E :: veT) true sn2 su2 ab2 co2 dd2 m02 m12 m22 m32 m52 "ValueError.__new__"))
    (sa2 : PySem.W.findIn K (.ref a2) "__setattr__" = some (some (.builtin "object.__setattr__")))
    (ty2 : PySem.W.typeIn K (.ref a2) = some (.type "type"))
    (ke2 : PySem.W.keepIn K (.ref a2) = true)
    (ti2 : PySem.W.typeIn K (.ref i2) = some (.type "function"))
    (no2 : PySem.W.findIn K (.ref a2) "name" = some none)
    (hd2 : PySem.W.hasDictIn K a2 = true)
    (clo2 : PySem.W.isClsIn K a2 = true)
    (gao2 : PySem.W.findIn K (.ref a2) "__getattribute__" = some (some (.builtin "BaseException.__getattribute__")))
    (gto2 : PySem.W.findIn K (.ref a2) "__getattr__" = some none)
    (sbo2 : PySem.W.subIn K (.ref a2) (.type "BaseException") = some true)
    (cao2 : PySem.W.findIn K (.ref a2) "__class__" = some (some (.builtin "object.__class__")))
    (moo2 : PySem.W.mroIn K a2 (.type "object") = some true)
    (x3 : K.lookup a3 = some (excClassObj nm3 q3 a3 N3 bs3 (.ref E :: veT) true sn3 su3 ab3 co3 dd3 m03 m13 m23 m33 m53 "ValueError.__new__"))
    (sa3 : PySem.W.findIn K (.ref a3) "__setattr__" = some (some (.builtin "object.__setattr__")))
    (ty3 : PySem.W.typeIn K (.ref a3) = some (.type "type"))
    (ke3 : PySem.W.keepIn K (.ref a3) = true)
    (ti3 : PySem.W.typeIn K (.ref i3) = some (.type "function"))
    (no3 : PySem.W.findIn K (.ref a3) "name" = some none)
    (hd3 : PySem.W.hasDictIn K a3 = true)
    (clo3 : PySem.W.isClsIn K a3 = true)
    (gao3 : PySem.W.findIn K (.ref a3) "__getattribute__" = some (some (.builtin "BaseException.__getattribute__")))
    (gto3 : PySem.W.findIn K (.ref a3) "__getattr__" = some none)
    (sbo3 : PySem.W.subIn K (.ref a3) (.type "BaseException") = some true)
    (cao3 : PySem.W.findIn K (.ref a3) "__class__" = some (some (.builtin "object.__class__")))
    (moo3 : PySem.W.mroIn K a3 (.type "object") = some true)
    (x4 : K.lookup a4 = some (excClassObj nm4 q4 a4 N4 bs4 (.ref E :: veT) true sn4 su4 ab4 co4 dd4 m04 m14 m24 m34 m54 "ValueError.__new__"))
    (sa4 : PySem.W.findIn K (.ref a4) "__setattr__" = some (some (.builtin "object.__setattr__")))
    (ty4 : PySem.W.typeIn K (.ref a4) = some (.type "type"))
    (ke4 : PySem.W.keepIn K (.ref a4) = true)
    (ti4 : PySem.W.typeIn K (.ref i4) = some (.type "function"))
    (no4 : PySem.W.findIn K (.ref a4) "at" = some none)
    (hd4 : PySem.W.hasDictIn K a4 = true)
    (clo4 : PySem.W.isClsIn K a4 = true)
    (gao4 : PySem.W.findIn K (.ref a4) "__getattribute__" = some (some (.builtin "BaseException.__getattribute__")))
    (gto4 : PySem.W.findIn K (.ref a4) "__getattr__" = some none)
    (sbo4 : PySem.W.subIn K (.ref a4) (.type "BaseException") = some true)
    (cao4 : PySem.W.findIn K (.ref a4) "__class__" = some (some (.builtin "object.__class__")))
    (moo4 : PySem.W.mroIn K a4 (.type "object") = some true)
    (x5 : K.lookup M = some (excClassObj nm5 q5 M N5 bs5 (.ref E :: veT) true sn5 su5 ab5 co5 dd5 m05 m15 m25 m35 m55 "ValueError.__new__"))
    (sa5 : PySem.W.findIn K (.ref M) "__setattr__" = some (some (.builtin "object.__setattr__")))
    (ty5 : PySem.W.typeIn K (.ref M) = some (.type "type"))
    (ke5 : PySem.W.keepIn K (.ref M) = true)
    (ti5 : PySem.W.typeIn K (.ref i5) = some (.type "function"))
    (no5 : PySem.W.findIn K (.ref M) "most" = some none)
    (hd5 : PySem.W.hasDictIn K M = true)
    (clo5 : PySem.W.isClsIn K M = true)
    (gao5 : PySem.W.findIn K (.ref M) "__getattribute__" = some (some (.builtin "BaseException.__getattribute__")))
    (gto5 : PySem.W.findIn K (.ref M) "__getattr__" = some none)
    (sbo5 : PySem.W.subIn K (.ref M) (.type "BaseException") = some true)
    (cao5 : PySem.W.findIn K (.ref M) "__class__" = some (some (.builtin "object.__class__")))
    (moo5 : PySem.W.mroIn K M (.type "object") = some true)
    (ee1 : PySem.W.kitOne K (.ref a1) (.ref c14) = some false)
    (ee2 : PySem.W.kitOne K (.ref a2) (.ref c14) = some false)
    (ee3 : PySem.W.kitOne K (.ref a3) (.ref a2) = some false)
    (uu1 : PySem.W.kitOne K (.ref a1) (.ref E) = some true)
    (uu2 : PySem.W.kitOne K (.ref a2) (.ref E) = some true)
    (uu3 : PySem.W.kitOne K (.ref a3) (.ref E) = some true)
    (uu4 : PySem.W.kitOne K (.ref a4) (.ref E) = some true)
    (uu5 : PySem.W.kitOne K (.ref M) (.ref E) = some true)
    (vv1 : PySem.W.kitOne K (.ref a1) (.ref M) = some false)
    (vv2 : PySem.W.kitOne K (.ref a2) (.ref M) = some false)
    (vv3 : PySem.W.kitOne K (.ref a3) (.ref M) = some false)
    (vv5 : PySem.W.kitOne K (.ref M) (.ref a4) = some false)
    : ∃ fd : FuncData, (∀ (s : Shared) (v : Value), BindsTo s fd ⟨[v], []⟩ [("script", v)]) ∧ ∀ base : Heap, K.In base → base.Ns mainGlobals mg → FnOk l.prog w K mg base CX0 4 fa fd ["script"] (spLaw K) := by
  have e := hfa.symm.trans (PySem.W.mg_of X G nW)
  cases e
  exact ⟨PySem.W.fnOf "law" "law" (defArgs sLaw) (defBody sLaw) (defScope sLaw) .none kVW dcW pmW anW cdW ctW, fun s v => .of_eq rfl, fun base _ _ =>
    ok_law (fun_mk (st := sLaw) lW ccW kkW) ⟨⟨⟨PySem.W.mg_of X G g0_, q0_, k0_⟩, ⟨PySem.W.mg_of X G g1_, q1_, k1_⟩, ⟨PySem.W.mg_of X G g2_, q2_, k2_⟩, ⟨PySem.W.mg_of X G g3_, q3_, k3_⟩, ⟨PySem.W.mg_of X G g4_, q4_, k4_⟩, ⟨PySem.W.mg_of X G g5_, q5_, k5_⟩, ⟨PySem.W.mg_of X G g6_, q6_, k6_⟩, ⟨PySem.W.mg_of X G g7_, q7_, k7_⟩, ⟨PySem.W.mg_of X G g8_, q8_, k8_⟩, ⟨PySem.W.mg_of X G g9_, q9_, k9_⟩, ⟨PySem.W.mg_of X G g10_, q10_, k10_⟩, ⟨PySem.W.mg_of X G g11_, q11_, k11_⟩, ⟨PySem.W.mg_of X G g12_, q12_, k12_⟩, ⟨PySem.W.mg_of X G g13_, q13_, k13_⟩, ⟨PySem.W.mg_of X G g14_, q14_, k14_⟩, ⟨PySem.W.mg_of X G g15_, q15_, k15_⟩, ⟨PySem.W.mg_of X G g16_, q16_, k16_⟩, ⟨PySem.W.mg_of X G g17_, q17_, k17_⟩, ⟨PySem.W.mg_of X G g18_, q18_, k18_⟩, ⟨PySem.W.mg_of X G g19_, q19_, k19_⟩, ⟨PySem.W.mg_of X G g20_, q20_, k20_⟩, ⟨PySem.W.mg_of X G g21_, q21_, k21_⟩, ⟨PySem.W.mg_of X G g22_, q22_, k22_⟩, ⟨PySem.W.mg_of X G g23_, q23_, k23_⟩, ⟨PySem.W.mg_of X G g24_, q24_, k24_⟩, ⟨PySem.W.mg_of X G g25_, q25_, k25_⟩, ⟨PySem.W.mg_of X G g26_, q26_, k26_⟩, ⟨PySem.W.mg_of X G g27_, q27_, k27_⟩, ⟨PySem.W.mg_of X G g28_, q28_, k28_⟩, ⟨PySem.W.mg_of X G g29_, q29_, k29_⟩, ⟨PySem.W.mg_of X G g30_, q30_, k30_⟩, ⟨PySem.W.mg_of X G g31_, q31_, k31_⟩, ⟨PySem.W.mg_of X G g32_, q32_, k32_⟩, ⟨PySem.W.mg_of X G g33_, q33_, k33_⟩, ⟨PySem.W.mg_of X G g34_, q34_, k34_⟩, ⟨PySem.W.mg_of X G g35_, q35_, k35_⟩, ⟨⟨cl0_, ga0_, gt0_, sb0_, ca0_, mo0_⟩, v0_, e0_, m0_⟩, ⟨⟨cl1_, ga1_, gt1_, sb1_, ca1_, mo1_⟩, v1_, e1_, m1_⟩, ⟨⟨cl2_, ga2_, gt2_, sb2_, ca2_, mo2_⟩, v2_, e2_, m2_⟩, ⟨⟨cl3_, ga3_, gt3_, sb3_, ca3_, mo3_⟩, v3_, e3_, m3_⟩, ⟨⟨cl4_, ga4_, gt4_, sb4_, ca4_, mo4_⟩, v4_, e4_, m4_⟩, ⟨⟨cl5_, ga5_, gt5_, sb5_, ca5_, mo5_⟩, v5_, e5_, m5_⟩, ⟨⟨cl6_, ga6_, gt6_, sb6_, ca6_, mo6_⟩, v6_, e6_, m6_⟩, ⟨⟨cl7_, ga7_, gt7_, sb7_, ca7_, mo7_⟩, v7_, e7_, m7_⟩, ⟨⟨cl8_, ga8_, gt8_, sb8_, ca8_, mo8_⟩, v8_, e8_, m8_⟩, ⟨⟨cl9_, ga9_, gt9_, sb9_, ca9_, mo9_⟩, v9_, e9_, m9_⟩, ⟨⟨cl10_, ga10_, gt10_, sb10_, ca10_, mo10_⟩, v10_, e10_, m10_⟩, ⟨⟨cl11_, ga11_, gt11_, sb11_, ca11_, mo11_⟩, v11_, e11_, m11_⟩, ⟨⟨cl12_, ga12_, gt12_, sb12_, ca12_, mo12_⟩, v12_, e12_, m12_⟩, ⟨⟨cl13_, ga13_, gt13_, sb13_, ca13_, mo13_⟩, v13_, e13_, m13_⟩, ⟨⟨cl14_, ga14_, gt14_, sb14_, ca14_, mo14_⟩, v14_, e14_, m14_⟩, ⟨⟨cl15_, ga15_, gt15_, sb15_, ca15_, mo15_⟩, v15_, e15_, m15_⟩, ⟨⟨cl16_, ga16_, gt16_, sb16_, ca16_, mo16_⟩, v16_, e16_, m16_⟩, ⟨⟨cl17_, ga17_, gt17_, sb17_, ca17_, mo17_⟩, v17_, e17_, m17_⟩, ⟨⟨cl18_, ga18_, gt18_, sb18_, ca18_, mo18_⟩, v18_, e18_, m18_⟩, ⟨⟨cl19_, ga19_, gt19_, sb19_, ca19_, mo19_⟩, v19_, e19_, m19_⟩, ⟨⟨cl20_, ga20_, gt20_, sb20_, ca20_, mo20_⟩, v20_, e20_, m20_⟩, ⟨⟨cl21_, ga21_, gt21_, sb21_, ca21_, mo21_⟩, v21_, e21_, m21_⟩, ⟨⟨cl22_, ga22_, gt22_, sb22_, ca22_, mo22_⟩, v22_, e22_, m22_⟩, ⟨⟨cl23_, ga23_, gt23_, sb23_, ca23_, mo23_⟩, v23_, e23_, m23_⟩, ⟨⟨cl24_, ga24_, gt24_, sb24_, ca24_, mo24_⟩, v24_, e24_, m24_⟩, ⟨⟨cl25_, ga25_, gt25_, sb25_, ca25_, mo25_⟩, v25_, e25_, m25_⟩, ⟨⟨cl26_, ga26_, gt26_, sb26_, ca26_, mo26_⟩, v26_, e26_, m26_⟩, ⟨⟨cl27_, ga27_, gt27_, sb27_, ca27_, mo27_⟩, v27_, e27_, m27_⟩, ⟨⟨cl28_, ga28_, gt28_, sb28_, ca28_, mo28_⟩, v28_, e28_, m28_⟩, ⟨⟨cl29_, ga29_, gt29_, sb29_, ca29_, mo29_⟩, v29_, e29_, m29_⟩, ⟨⟨cl30_, ga30_, gt30_, sb30_, ca30_, mo30_⟩, v30_, e30_, m30_⟩, ⟨⟨cl31_, ga31_, gt31_, sb31_, ca31_, mo31_⟩, v31_, e31_, m31_⟩, ⟨⟨cl32_, ga32_, gt32_, sb32_, ca32_, mo32_⟩, v32_, e32_, m32_⟩, ⟨⟨cl33_, ga33_, gt33_, sb33_, ca33_, mo33_⟩, v33_, e33_, m33_⟩, ⟨⟨cl34_, ga34_, gt34_, sb34_, ca34_, mo34_⟩, v34_, e34_, m34_⟩, ⟨⟨cl35_, ga35_, gt35_, sb35_, ca35_, mo35_⟩, v35_, e35_, m35_⟩, b0_, b1_, b2_, b3_, b4_, b5_, b6_, b7_, b8_, b9_, b10_, b11_, b12_, b13_, b14_, b15_, b16_, b17_⟩, ⟨PySem.W.mg_of X G aE, bs, br, bv⟩, ⟨zh, zt⟩, PySem.W.mg_none_of X G zisinstance, PySem.W.mg_none_of X G zValueError, ⟨PySem.W.mg_none_of X G zabs, PySem.W.mg_none_of X G zint, PySem.W.mg_none_of X G zlen⟩, (fun_mk (st := sNoName) l1 cc1 kk1), ⟨PySem.W.mg_of X G aN, ⟨⟨nm1, q1, N1, bs1, _, sn1, su1, ab1, co1, dd1, m01, m11, m21, m31, m51, x1, (show PySem.HandSPX.refsVE veT = true by decide +kernel)⟩, sa1, sbo1, ty1, ke1⟩, it1, ti1, no1, hd1, ⟨clo1, gao1, gto1, sbo1, cao1, moo1⟩⟩, (fun_mk (st := sTaken) l2 cc2 kk2), ⟨PySem.W.mg_of X G aT, ⟨⟨nm2, q2, N2, bs2, _, sn2, su2, ab2, co2, dd2, m02, m12, m22, m32, m52, x2, (show PySem.HandSPX.refsVE veT = true by decide +kernel)⟩, sa2, sbo2, ty2, ke2⟩, it2, ti2, no2, hd2, ⟨clo2, gao2, gto2, sbo2, cao2, moo2⟩⟩, (fun_mk (st := sUsed) l3 cc3 kk3), ⟨PySem.W.mg_of X G aU, ⟨⟨nm3, q3, N3, bs3, _, sn3, su3, ab3, co3, dd3, m03, m13, m23, m33, m53, x3, (show PySem.HandSPX.refsVE veT = true by decide +kernel)⟩, sa3, sbo3, ty3, ke3⟩, it3, ti3, no3, hd3, ⟨clo3, gao3, gto3, sbo3, cao3, moo3⟩⟩, (fun_mk (st := sText) l4 cc4 kk4), ⟨PySem.W.mg_of X G aX, ⟨⟨nm4, q4, N4, bs4, _, sn4, su4, ab4, co4, dd4, m04, m14, m24, m34, m54, x4, (show PySem.HandSPX.refsVE veT = true by decide +kernel)⟩, sa4, sbo4, ty4, ke4⟩, it4, ti4, no4, hd4, ⟨clo4, gao4, gto4, sbo4, cao4, moo4⟩⟩, (fun_mk (st := sMany) l5 cc5 kk5), ⟨PySem.W.mg_of X G aM, ⟨⟨nm5, q5, N5, bs5, _, sn5, su5, ab5, co5, dd5, m05, m15, m25, m35, m55, x5, (show PySem.HandSPX.refsVE veT = true by decide +kernel)⟩, sa5, sbo5, ty5, ke5⟩, it5, ti5, no5, hd5, ⟨clo5, gao5, gto5, sbo5, cao5, moo5⟩⟩, ee1, ee2, ee3, uu1, uu2, uu3, uu4, uu5, vv1, vv2, vv3, vv5, (fun_mk (st := Pre.sBegun) lB ccB kkB), PySem.W.mg_of X G nB, (fun_mk (st := Pre.sBlended) lD ccD kkD), PySem.W.mg_of X G nD, (fun_mk (st := Pre.sDraw) lG ccG kkG), PySem.W.mg_of X G nG, (fun_mk (st := Pre.sPick) lP ccP kkP), PySem.W.mg_of X G nP, (fun_mk (st := sPlain) lL ccL kkL), PySem.W.mg_of X G nL, (fun_mk (st := sBeneath) lN ccN kkN), PySem.W.mg_of X G nN⟩⟩
theorem walk {l : PySem.W.OpenLaw} {q : Program} {loose : List Str} {XP : (Str → Option Value) → Heap → Prop} {YP : World → Heap → Prop} {d : DefRec} {K : Params → PySem.W.Frag} (hn : l.most = some 63) (hdf : d.params.defaults = [])
    (hY : ∀ (w : World) (h : Heap), YP w h → (K w.params).In h)
    (F : ∀ (w : World) (mg : Str → Option Value) (fa : Addr) (h : Heap), (K w.params).In h → h.Ns mainGlobals mg → mg d.name = some (.ref fa) →
      ∃ fd : FuncData, (∀ (s : Shared) (u : Value), BindsTo s fd ⟨[u], []⟩ [("script", u)]) ∧ ∀ base : Heap, (K w.params).In base → base.Ns mainGlobals mg → FnOk l.prog w (K w.params) mg base CX0 4 fa fd ["script"] (spLaw (K w.params))) :
    PySem.W.WalkO q loose XP YP l.row.toRowW d [] (fun f vs => PySem.call f vs) :=
  L2.walk_of (n := 63) (k := 4) (x := "script") (CX := fun _ => CX0) (sp := fun w => spLaw (K w.params)) hn (by decide) hdf ⟨rfl, by decide, by decide⟩ hY F (fun _ _ a ns hl _ hS => ⟨a, ns, rfl, hS, hl, fun _ => rfl⟩) fun _ _ _ _ _ z => z
end Lw

open PySem PySem.W PyProof.Rows in
set_option maxRecDepth 100000 in
set_option maxHeartbeats 0 in
theorem PySem.Challenge.cw_chancepoints_k78_errors_made_holds : PySem.Challenge.rw_chancepoints_k78_errors_made.Holds := by
  w_on; o_law; k_head; (case hw => w_witness2)
  k_fill
  refine Lw.walk (l := PySem.Challenge.rw_chancepoints_k78_errors_made) rfl rfl (fun w h Y => PySem.W.kIn_of Y) ?F
  case F =>
    intro w mg fa h KX G hmg
    refine' Lw.all_mk KX G hmg ?aE ?aM ?g0_ ?g1_ ?g2_ ?g3_ ?g4_ ?g5_ ?g6_ ?g7_ ?g8_ ?g9_ ?g10_ ?g11_ ?g12_ ?g13_ ?g14_ ?g15_ ?g16_ ?g17_ ?g18_ ?g19_ ?g20_ ?g21_ ?g22_ ?g23_ ?g24_ ?g25_ ?g26_ ?g27_ ?g28_ ?g29_ ?g30_ ?g31_ ?g32_ ?g33_ ?g34_ ?g35_ ?aN ?aT ?aU ?aX ?nB ?nD ?nG ?nP ?nL ?nN ?nW ?it1 ?it2 ?it3 ?it4 ?it5 ?lB ?ccB ?kkB ?lD ?ccD ?kkD ?lG ?ccG ?kkG ?lP ?ccP ?kkP ?lL ?ccL ?kkL ?lN ?ccN ?kkN ?lW ?ccW ?kkW ?l1 ?cc1 ?kk1 ?l2 ?cc2 ?kk2 ?l3 ?cc3 ?kk3 ?l4 ?cc4 ?kk4 ?l5 ?cc5 ?kk5 ?q0_ ?k0_ ?cl0_ ?ga0_ ?gt0_ ?sb0_ ?ca0_ ?mo0_ ?v0_ ?e0_ ?m0_ ?q1_ ?k1_ ?cl1_ ?ga1_ ?gt1_ ?sb1_ ?ca1_ ?mo1_ ?v1_ ?e1_ ?m1_ ?q2_ ?k2_ ?cl2_ ?ga2_ ?gt2_ ?sb2_ ?ca2_ ?mo2_ ?v2_ ?e2_ ?m2_ ?q3_ ?k3_ ?cl3_ ?ga3_ ?gt3_ ?sb3_ ?ca3_ ?mo3_ ?v3_ ?e3_ ?m3_ ?q4_ ?k4_ ?cl4_ ?ga4_ ?gt4_ ?sb4_ ?ca4_ ?mo4_ ?v4_ ?e4_ ?m4_ ?q5_ ?k5_ ?cl5_ ?ga5_ ?gt5_ ?sb5_ ?ca5_ ?mo5_ ?v5_ ?e5_ ?m5_ ?q6_ ?k6_ ?cl6_ ?ga6_ ?gt6_ ?sb6_ ?ca6_ ?mo6_ ?v6_ ?e6_ ?m6_ ?q7_ ?k7_ ?cl7_ ?ga7_ ?gt7_ ?sb7_ ?ca7_ ?mo7_ ?v7_ ?e7_ ?m7_ ?q8_ ?k8_ ?cl8_ ?ga8_ ?gt8_ ?sb8_ ?ca8_ ?mo8_ ?v8_ ?e8_ ?m8_ ?q9_ ?k9_ ?cl9_ ?ga9_ ?gt9_ ?sb9_ ?ca9_ ?mo9_ ?v9_ ?e9_ ?m9_ ?q10_ ?k10_ ?cl10_ ?ga10_ ?gt10_ ?sb10_ ?ca10_ ?mo10_ ?v10_ ?e10_ ?m10_ ?q11_ ?k11_ ?cl11_ ?ga11_ ?gt11_ ?sb11_ ?ca11_ ?mo11_ ?v11_ ?e11_ ?m11_ ?q12_ ?k12_ ?cl12_ ?ga12_ ?gt12_ ?sb12_ ?ca12_ ?mo12_ ?v12_ ?e12_ ?m12_ ?q13_ ?k13_ ?cl13_ ?ga13_ ?gt13_ ?sb13_ ?ca13_ ?mo13_ ?v13_ ?e13_ ?m13_ ?q14_ ?k14_ ?cl14_ ?ga14_ ?gt14_ ?sb14_ ?ca14_ ?mo14_ ?v14_ ?e14_ ?m14_ ?q15_ ?k15_ ?cl15_ ?ga15_ ?gt15_ ?sb15_ ?ca15_ ?mo15_ ?v15_ ?e15_ ?m15_ ?q16_ ?k16_ ?cl16_ ?ga16_ ?gt16_ ?sb16_ ?ca16_ ?mo16_ ?v16_ ?e16_ ?m16_ ?q17_ ?k17_ ?cl17_ ?ga17_ ?gt17_ ?sb17_ ?ca17_ ?mo17_ ?v17_ ?e17_ ?m17_ ?q18_ ?k18_ ?cl18_ ?ga18_ ?gt18_ ?sb18_ ?ca18_ ?mo18_ ?v18_ ?e18_ ?m18_ ?q19_ ?k19_ ?cl19_ ?ga19_ ?gt19_ ?sb19_ ?ca19_ ?mo19_ ?v19_ ?e19_ ?m19_ ?q20_ ?k20_ ?cl20_ ?ga20_ ?gt20_ ?sb20_ ?ca20_ ?mo20_ ?v20_ ?e20_ ?m20_ ?q21_ ?k21_ ?cl21_ ?ga21_ ?gt21_ ?sb21_ ?ca21_ ?mo21_ ?v21_ ?e21_ ?m21_ ?q22_ ?k22_ ?cl22_ ?ga22_ ?gt22_ ?sb22_ ?ca22_ ?mo22_ ?v22_ ?e22_ ?m22_ ?q23_ ?k23_ ?cl23_ ?ga23_ ?gt23_ ?sb23_ ?ca23_ ?mo23_ ?v23_ ?e23_ ?m23_ ?q24_ ?k24_ ?cl24_ ?ga24_ ?gt24_ ?sb24_ ?ca24_ ?mo24_ ?v24_ ?e24_ ?m24_ ?q25_ ?k25_ ?cl25_ ?ga25_ ?gt25_ ?sb25_ ?ca25_ ?mo25_ ?v25_ ?e25_ ?m25_ ?q26_ ?k26_ ?cl26_ ?ga26_ ?gt26_ ?sb26_ ?ca26_ ?mo26_ ?v26_ ?e26_ ?m26_ ?q27_ ?k27_ ?cl27_ ?ga27_ ?gt27_ ?sb27_ ?ca27_ ?mo27_ ?v27_ ?e27_ ?m27_ ?q28_ ?k28_ ?cl28_ ?ga28_ ?gt28_ ?sb28_ ?ca28_ ?mo28_ ?v28_ ?e28_ ?m28_ ?q29_ ?k29_ ?cl29_ ?ga29_ ?gt29_ ?sb29_ ?ca29_ ?mo29_ ?v29_ ?e29_ ?m29_ ?q30_ ?k30_ ?cl30_ ?ga30_ ?gt30_ ?sb30_ ?ca30_ ?mo30_ ?v30_ ?e30_ ?m30_ ?q31_ ?k31_ ?cl31_ ?ga31_ ?gt31_ ?sb31_ ?ca31_ ?mo31_ ?v31_ ?e31_ ?m31_ ?q32_ ?k32_ ?cl32_ ?ga32_ ?gt32_ ?sb32_ ?ca32_ ?mo32_ ?v32_ ?e32_ ?m32_ ?q33_ ?k33_ ?cl33_ ?ga33_ ?gt33_ ?sb33_ ?ca33_ ?mo33_ ?v33_ ?e33_ ?m33_ ?q34_ ?k34_ ?cl34_ ?ga34_ ?gt34_ ?sb34_ ?ca34_ ?mo34_ ?v34_ ?e34_ ?m34_ ?q35_ ?k35_ ?cl35_ ?ga35_ ?gt35_ ?sb35_ ?ca35_ ?mo35_ ?v35_ ?e35_ ?m35_ ?b0_ ?b1_ ?b2_ ?b3_ ?b4_ ?b5_ ?b6_ ?b7_ ?b8_ ?b9_ ?b10_ ?b11_ ?b12_ ?b13_ ?b14_ ?b15_ ?b16_ ?b17_ ?bs ?br ?bv ?zh ?zt ?zisinstance ?zValueError ?zabs ?zint ?zlen ?x1 ?sa1 ?ty1 ?ke1 ?ti1 ?no1 ?hd1 ?clo1 ?gao1 ?gto1 ?sbo1 ?cao1 ?moo1 ?x2 ?sa2 ?ty2 ?ke2 ?ti2 ?no2 ?hd2 ?clo2 ?gao2 ?gto2 ?sbo2 ?cao2 ?moo2 ?x3 ?sa3 ?ty3 ?ke3 ?ti3 ?no3 ?hd3 ?clo3 ?gao3 ?gto3 ?sbo3 ?cao3 ?moo3 ?x4 ?sa4 ?ty4 ?ke4 ?ti4 ?no4 ?hd4 ?clo4 ?gao4 ?gto4 ?sbo4 ?cao4 ?moo4 ?x5 ?sa5 ?ty5 ?ke5 ?ti5 ?no5 ?hd5 ?clo5 ?gao5 ?gto5 ?sbo5 ?cao5 ?moo5 ?ee1 ?ee2 ?ee3 ?uu1 ?uu2 ?uu3 ?uu4 ?uu5 ?vv1 ?vv2 ?vv3 ?vv5
    (case aE => k_is)
    (case aM => k_is)
    (case g0_ => k_is)
    (case g1_ => k_is)
    (case g2_ => k_is)
    (case g3_ => k_is)
    (case g4_ => k_is)
    (case g5_ => k_is)
    (case g6_ => k_is)
    (case g7_ => k_is)
    (case g8_ => k_is)
    (case g9_ => k_is)
    (case g10_ => k_is)
    (case g11_ => k_is)
    (case g12_ => k_is)
    (case g13_ => k_is)
    (case g14_ => k_is)
    (case g15_ => k_is)
    (case g16_ => k_is)
    (case g17_ => k_is)
    (case g18_ => k_is)
    (case g19_ => k_is)
    (case g20_ => k_is)
    (case g21_ => k_is)
    (case g22_ => k_is)
    (case g23_ => k_is)
    (case g24_ => k_is)
    (case g25_ => k_is)
    (case g26_ => k_is)
    (case g27_ => k_is)
    (case g28_ => k_is)
    (case g29_ => k_is)
    (case g30_ => k_is)
    (case g31_ => k_is)
    (case g32_ => k_is)
    (case g33_ => k_is)
    (case g34_ => k_is)
    (case g35_ => k_is)
    (case aN => k_is)
    (case aT => k_is)
    (case aU => k_is)
    (case aX => k_is)
    (case nB => k_is)
    (case nD => k_is)
    (case nG => k_is)
    (case nP => k_is)
    (case nL => k_is)
    (case nN => k_is)
    (case nW => k_is)
    (case it1 => k_is)
    (case it2 => k_is)
    (case it3 => k_is)
    (case it4 => k_is)
    (case it5 => k_is)
    (case lB => k_is)
    (case ccB => k_is)
    (case kkB => k_is)
    (case lD => k_is)
    (case ccD => k_is)
    (case kkD => k_is)
    (case lG => k_is)
    (case ccG => k_is)
    (case kkG => k_is)
    (case lP => k_is)
    (case ccP => k_is)
    (case kkP => k_is)
    (case lL => k_is)
    (case ccL => k_is)
    (case kkL => k_is)
    (case lN => k_is)
    (case ccN => k_is)
    (case kkN => k_is)
    (case lW => k_is)
    (case ccW => k_is)
    (case kkW => k_is)
    (case l1 => k_is)
    (case cc1 => k_is)
    (case kk1 => k_is)
    (case l2 => k_is)
    (case cc2 => k_is)
    (case kk2 => k_is)
    (case l3 => k_is)
    (case cc3 => k_is)
    (case kk3 => k_is)
    (case l4 => k_is)
    (case cc4 => k_is)
    (case kk4 => k_is)
    (case l5 => k_is)
    (case cc5 => k_is)
    (case kk5 => k_is)
    (case q0_ => k_exc)
    (case k0_ => k_is)
    (case cl0_ => k_is)
    (case ga0_ => k_is)
    (case gt0_ => k_is)
    (case sb0_ => k_is)
    (case ca0_ => k_is)
    (case mo0_ => k_is)
    (case v0_ => kit_is)
    (case e0_ => kit_is)
    (case m0_ => kit_is)
    (case q1_ => k_exc)
    (case k1_ => k_is)
    (case cl1_ => k_is)
    (case ga1_ => k_is)
    (case gt1_ => k_is)
    (case sb1_ => k_is)
    (case ca1_ => k_is)
    (case mo1_ => k_is)
    (case v1_ => kit_is)
    (case e1_ => kit_is)
    (case m1_ => kit_is)
    (case q2_ => k_exc)
    (case k2_ => k_is)
    (case cl2_ => k_is)
    (case ga2_ => k_is)
    (case gt2_ => k_is)
    (case sb2_ => k_is)
    (case ca2_ => k_is)
    (case mo2_ => k_is)
    (case v2_ => kit_is)
    (case e2_ => kit_is)
    (case m2_ => kit_is)
    (case q3_ => k_exc)
    (case k3_ => k_is)
    (case cl3_ => k_is)
    (case ga3_ => k_is)
    (case gt3_ => k_is)
    (case sb3_ => k_is)
    (case ca3_ => k_is)
    (case mo3_ => k_is)
    (case v3_ => kit_is)
    (case e3_ => kit_is)
    (case m3_ => kit_is)
    (case q4_ => k_exc)
    (case k4_ => k_is)
    (case cl4_ => k_is)
    (case ga4_ => k_is)
    (case gt4_ => k_is)
    (case sb4_ => k_is)
    (case ca4_ => k_is)
    (case mo4_ => k_is)
    (case v4_ => kit_is)
    (case e4_ => kit_is)
    (case m4_ => kit_is)
    (case q5_ => k_exc)
    (case k5_ => k_is)
    (case cl5_ => k_is)
    (case ga5_ => k_is)
    (case gt5_ => k_is)
    (case sb5_ => k_is)
    (case ca5_ => k_is)
    (case mo5_ => k_is)
    (case v5_ => kit_is)
    (case e5_ => kit_is)
    (case m5_ => kit_is)
    (case q6_ => k_exc)
    (case k6_ => k_is)
    (case cl6_ => k_is)
    (case ga6_ => k_is)
    (case gt6_ => k_is)
    (case sb6_ => k_is)
    (case ca6_ => k_is)
    (case mo6_ => k_is)
    (case v6_ => kit_is)
    (case e6_ => kit_is)
    (case m6_ => kit_is)
    (case q7_ => k_exc)
    (case k7_ => k_is)
    (case cl7_ => k_is)
    (case ga7_ => k_is)
    (case gt7_ => k_is)
    (case sb7_ => k_is)
    (case ca7_ => k_is)
    (case mo7_ => k_is)
    (case v7_ => kit_is)
    (case e7_ => kit_is)
    (case m7_ => kit_is)
    (case q8_ => k_exc)
    (case k8_ => k_is)
    (case cl8_ => k_is)
    (case ga8_ => k_is)
    (case gt8_ => k_is)
    (case sb8_ => k_is)
    (case ca8_ => k_is)
    (case mo8_ => k_is)
    (case v8_ => kit_is)
    (case e8_ => kit_is)
    (case m8_ => kit_is)
    (case q9_ => k_exc)
    (case k9_ => k_is)
    (case cl9_ => k_is)
    (case ga9_ => k_is)
    (case gt9_ => k_is)
    (case sb9_ => k_is)
    (case ca9_ => k_is)
    (case mo9_ => k_is)
    (case v9_ => kit_is)
    (case e9_ => kit_is)
    (case m9_ => kit_is)
    (case q10_ => k_exc)
    (case k10_ => k_is)
    (case cl10_ => k_is)
    (case ga10_ => k_is)
    (case gt10_ => k_is)
    (case sb10_ => k_is)
    (case ca10_ => k_is)
    (case mo10_ => k_is)
    (case v10_ => kit_is)
    (case e10_ => kit_is)
    (case m10_ => kit_is)
    (case q11_ => k_exc)
    (case k11_ => k_is)
    (case cl11_ => k_is)
    (case ga11_ => k_is)
    (case gt11_ => k_is)
    (case sb11_ => k_is)
    (case ca11_ => k_is)
    (case mo11_ => k_is)
    (case v11_ => kit_is)
    (case e11_ => kit_is)
    (case m11_ => kit_is)
    (case q12_ => k_exc)
    (case k12_ => k_is)
    (case cl12_ => k_is)
    (case ga12_ => k_is)
    (case gt12_ => k_is)
    (case sb12_ => k_is)
    (case ca12_ => k_is)
    (case mo12_ => k_is)
    (case v12_ => kit_is)
    (case e12_ => kit_is)
    (case m12_ => kit_is)
    (case q13_ => k_exc)
    (case k13_ => k_is)
    (case cl13_ => k_is)
    (case ga13_ => k_is)
    (case gt13_ => k_is)
    (case sb13_ => k_is)
    (case ca13_ => k_is)
    (case mo13_ => k_is)
    (case v13_ => kit_is)
    (case e13_ => kit_is)
    (case m13_ => kit_is)
    (case q14_ => k_exc)
    (case k14_ => k_is)
    (case cl14_ => k_is)
    (case ga14_ => k_is)
    (case gt14_ => k_is)
    (case sb14_ => k_is)
    (case ca14_ => k_is)
    (case mo14_ => k_is)
    (case v14_ => kit_is)
    (case e14_ => kit_is)
    (case m14_ => kit_is)
    (case q15_ => k_exc)
    (case k15_ => k_is)
    (case cl15_ => k_is)
    (case ga15_ => k_is)
    (case gt15_ => k_is)
    (case sb15_ => k_is)
    (case ca15_ => k_is)
    (case mo15_ => k_is)
    (case v15_ => kit_is)
    (case e15_ => kit_is)
    (case m15_ => kit_is)
    (case q16_ => k_exc)
    (case k16_ => k_is)
    (case cl16_ => k_is)
    (case ga16_ => k_is)
    (case gt16_ => k_is)
    (case sb16_ => k_is)
    (case ca16_ => k_is)
    (case mo16_ => k_is)
    (case v16_ => kit_is)
    (case e16_ => kit_is)
    (case m16_ => kit_is)
    (case q17_ => k_exc)
    (case k17_ => k_is)
    (case cl17_ => k_is)
    (case ga17_ => k_is)
    (case gt17_ => k_is)
    (case sb17_ => k_is)
    (case ca17_ => k_is)
    (case mo17_ => k_is)
    (case v17_ => kit_is)
    (case e17_ => kit_is)
    (case m17_ => kit_is)
    (case q18_ => k_exc)
    (case k18_ => k_is)
    (case cl18_ => k_is)
    (case ga18_ => k_is)
    (case gt18_ => k_is)
    (case sb18_ => k_is)
    (case ca18_ => k_is)
    (case mo18_ => k_is)
    (case v18_ => kit_is)
    (case e18_ => kit_is)
    (case m18_ => kit_is)
    (case q19_ => k_exc)
    (case k19_ => k_is)
    (case cl19_ => k_is)
    (case ga19_ => k_is)
    (case gt19_ => k_is)
    (case sb19_ => k_is)
    (case ca19_ => k_is)
    (case mo19_ => k_is)
    (case v19_ => kit_is)
    (case e19_ => kit_is)
    (case m19_ => kit_is)
    (case q20_ => k_exc)
    (case k20_ => k_is)
    (case cl20_ => k_is)
    (case ga20_ => k_is)
    (case gt20_ => k_is)
    (case sb20_ => k_is)
    (case ca20_ => k_is)
    (case mo20_ => k_is)
    (case v20_ => kit_is)
    (case e20_ => kit_is)
    (case m20_ => kit_is)
    (case q21_ => k_exc)
    (case k21_ => k_is)
    (case cl21_ => k_is)
    (case ga21_ => k_is)
    (case gt21_ => k_is)
    (case sb21_ => k_is)
    (case ca21_ => k_is)
    (case mo21_ => k_is)
    (case v21_ => kit_is)
    (case e21_ => kit_is)
    (case m21_ => kit_is)
    (case q22_ => k_exc)
    (case k22_ => k_is)
    (case cl22_ => k_is)
    (case ga22_ => k_is)
    (case gt22_ => k_is)
    (case sb22_ => k_is)
    (case ca22_ => k_is)
    (case mo22_ => k_is)
    (case v22_ => kit_is)
    (case e22_ => kit_is)
    (case m22_ => kit_is)
    (case q23_ => k_exc)
    (case k23_ => k_is)
    (case cl23_ => k_is)
    (case ga23_ => k_is)
    (case gt23_ => k_is)
    (case sb23_ => k_is)
    (case ca23_ => k_is)
    (case mo23_ => k_is)
    (case v23_ => kit_is)
    (case e23_ => kit_is)
    (case m23_ => kit_is)
    (case q24_ => k_exc)
    (case k24_ => k_is)
    (case cl24_ => k_is)
    (case ga24_ => k_is)
    (case gt24_ => k_is)
    (case sb24_ => k_is)
    (case ca24_ => k_is)
    (case mo24_ => k_is)
    (case v24_ => kit_is)
    (case e24_ => kit_is)
    (case m24_ => kit_is)
    (case q25_ => k_exc)
    (case k25_ => k_is)
    (case cl25_ => k_is)
    (case ga25_ => k_is)
    (case gt25_ => k_is)
    (case sb25_ => k_is)
    (case ca25_ => k_is)
    (case mo25_ => k_is)
    (case v25_ => kit_is)
    (case e25_ => kit_is)
    (case m25_ => kit_is)
    (case q26_ => k_exc)
    (case k26_ => k_is)
    (case cl26_ => k_is)
    (case ga26_ => k_is)
    (case gt26_ => k_is)
    (case sb26_ => k_is)
    (case ca26_ => k_is)
    (case mo26_ => k_is)
    (case v26_ => kit_is)
    (case e26_ => kit_is)
    (case m26_ => kit_is)
    (case q27_ => k_exc)
    (case k27_ => k_is)
    (case cl27_ => k_is)
    (case ga27_ => k_is)
    (case gt27_ => k_is)
    (case sb27_ => k_is)
    (case ca27_ => k_is)
    (case mo27_ => k_is)
    (case v27_ => kit_is)
    (case e27_ => kit_is)
    (case m27_ => kit_is)
    (case q28_ => k_exc)
    (case k28_ => k_is)
    (case cl28_ => k_is)
    (case ga28_ => k_is)
    (case gt28_ => k_is)
    (case sb28_ => k_is)
    (case ca28_ => k_is)
    (case mo28_ => k_is)
    (case v28_ => kit_is)
    (case e28_ => kit_is)
    (case m28_ => kit_is)
    (case q29_ => k_exc)
    (case k29_ => k_is)
    (case cl29_ => k_is)
    (case ga29_ => k_is)
    (case gt29_ => k_is)
    (case sb29_ => k_is)
    (case ca29_ => k_is)
    (case mo29_ => k_is)
    (case v29_ => kit_is)
    (case e29_ => kit_is)
    (case m29_ => kit_is)
    (case q30_ => k_exc)
    (case k30_ => k_is)
    (case cl30_ => k_is)
    (case ga30_ => k_is)
    (case gt30_ => k_is)
    (case sb30_ => k_is)
    (case ca30_ => k_is)
    (case mo30_ => k_is)
    (case v30_ => kit_is)
    (case e30_ => kit_is)
    (case m30_ => kit_is)
    (case q31_ => k_exc)
    (case k31_ => k_is)
    (case cl31_ => k_is)
    (case ga31_ => k_is)
    (case gt31_ => k_is)
    (case sb31_ => k_is)
    (case ca31_ => k_is)
    (case mo31_ => k_is)
    (case v31_ => kit_is)
    (case e31_ => kit_is)
    (case m31_ => kit_is)
    (case q32_ => k_exc)
    (case k32_ => k_is)
    (case cl32_ => k_is)
    (case ga32_ => k_is)
    (case gt32_ => k_is)
    (case sb32_ => k_is)
    (case ca32_ => k_is)
    (case mo32_ => k_is)
    (case v32_ => kit_is)
    (case e32_ => kit_is)
    (case m32_ => kit_is)
    (case q33_ => k_exc)
    (case k33_ => k_is)
    (case cl33_ => k_is)
    (case ga33_ => k_is)
    (case gt33_ => k_is)
    (case sb33_ => k_is)
    (case ca33_ => k_is)
    (case mo33_ => k_is)
    (case v33_ => kit_is)
    (case e33_ => kit_is)
    (case m33_ => kit_is)
    (case q34_ => k_exc)
    (case k34_ => k_is)
    (case cl34_ => k_is)
    (case ga34_ => k_is)
    (case gt34_ => k_is)
    (case sb34_ => k_is)
    (case ca34_ => k_is)
    (case mo34_ => k_is)
    (case v34_ => kit_is)
    (case e34_ => kit_is)
    (case m34_ => kit_is)
    (case q35_ => k_exc)
    (case k35_ => k_is)
    (case cl35_ => k_is)
    (case ga35_ => k_is)
    (case gt35_ => k_is)
    (case sb35_ => k_is)
    (case ca35_ => k_is)
    (case mo35_ => k_is)
    (case v35_ => kit_is)
    (case e35_ => kit_is)
    (case m35_ => kit_is)
    (case b0_ => kit_is)
    (case b1_ => kit_is)
    (case b2_ => kit_is)
    (case b3_ => kit_is)
    (case b4_ => kit_is)
    (case b5_ => kit_is)
    (case b6_ => kit_is)
    (case b7_ => kit_is)
    (case b8_ => kit_is)
    (case b9_ => kit_is)
    (case b10_ => kit_is)
    (case b11_ => kit_is)
    (case b12_ => kit_is)
    (case b13_ => kit_is)
    (case b14_ => kit_is)
    (case b15_ => kit_is)
    (case b16_ => kit_is)
    (case b17_ => kit_is)
    (case bs => k_is)
    (case br => k_is)
    (case bv => k_is)
    (case zh => k_is)
    (case zt => k_is)
    (case zisinstance => k_is)
    (case zValueError => k_is)
    (case zabs => k_is)
    (case zint => k_is)
    (case zlen => k_is)
    (case x1 => k_is)
    (case sa1 => k_is)
    (case ty1 => k_is)
    (case ke1 => k_is)
    (case ti1 => k_is)
    (case no1 => k_is)
    (case hd1 => k_is)
    (case clo1 => k_is)
    (case gao1 => k_is)
    (case gto1 => k_is)
    (case sbo1 => k_is)
    (case cao1 => k_is)
    (case moo1 => k_is)
    (case x2 => k_is)
    (case sa2 => k_is)
    (case ty2 => k_is)
    (case ke2 => k_is)
    (case ti2 => k_is)
    (case no2 => k_is)
    (case hd2 => k_is)
    (case clo2 => k_is)
    (case gao2 => k_is)
    (case gto2 => k_is)
    (case sbo2 => k_is)
    (case cao2 => k_is)
    (case moo2 => k_is)
    (case x3 => k_is)
    (case sa3 => k_is)
    (case ty3 => k_is)
    (case ke3 => k_is)
    (case ti3 => k_is)
    (case no3 => k_is)
    (case hd3 => k_is)
    (case clo3 => k_is)
    (case gao3 => k_is)
    (case gto3 => k_is)
    (case sbo3 => k_is)
    (case cao3 => k_is)
    (case moo3 => k_is)
    (case x4 => k_is)
    (case sa4 => k_is)
    (case ty4 => k_is)
    (case ke4 => k_is)
    (case ti4 => k_is)
    (case no4 => k_is)
    (case hd4 => k_is)
    (case clo4 => k_is)
    (case gao4 => k_is)
    (case gto4 => k_is)
    (case sbo4 => k_is)
    (case cao4 => k_is)
    (case moo4 => k_is)
    (case x5 => k_is)
    (case sa5 => k_is)
    (case ty5 => k_is)
    (case ke5 => k_is)
    (case ti5 => k_is)
    (case no5 => k_is)
    (case hd5 => k_is)
    (case clo5 => k_is)
    (case gao5 => k_is)
    (case gto5 => k_is)
    (case sbo5 => k_is)
    (case cao5 => k_is)
    (case moo5 => k_is)
    (case ee1 => kit_is)
    (case ee2 => kit_is)
    (case ee3 => kit_is)
    (case uu1 => kit_is)
    (case uu2 => kit_is)
    (case uu3 => kit_is)
    (case uu4 => kit_is)
    (case uu5 => kit_is)
    (case vv1 => kit_is)
    (case vv2 => kit_is)
    (case vv3 => kit_is)
    (case vv5 => kit_is)
