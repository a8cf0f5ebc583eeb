import PyProof.Rows.All
import Wide.All
import OpenK.AllK
import Wide.FinOn
import HandS.ForMost
import HandS.Wide
import HandS.Codes
import HandS.ExcValue
import HandS.ExcInit
import HandS.ExcField
import HandS.ExcIs
import HandS.ExcOwn
import HandS.Exc
import HandS.WordsExc
import HandS.WordsList
import HandS.IsInst
import KE.KExcIs
import HandS.FStr
import HandS.Lambda
import HandS.EndTab
import HandS.Gcd
import HandS.Defaults
import HandS.MakeKw
import HandS.Style
import HandS.Zip
import KE.GoesZip
import KE.GoesMore
import PySem.Challenge.RW_chancepoints_k00_weights
set_option Elab.async false
set_option maxRecDepth 100000

namespace Pre
open PySem L2
def top (i : Nat) : Stmt := PySem.Challenge.pw_chancepoints_k00_weights.main.body.getD i (.Pass ⟨0, 0, 0, 0⟩)
abbrev sBegun : Stmt := top 26
abbrev sBlended : Stmt := top 27
abbrev sDraw : Stmt := top 28
abbrev sPick : Stmt := top 29

/-! ## the state of the draws -/
abbrev kG : Key := .inr "great"
abbrev kC : Key := .inr "cells"
abbrev kR : Key := .inr "rest"
abbrev kT : Key := .inr "turn"
def stp (g c : Addr) (r t : Int) : List (Key × V) := [(kG, .ref g), (kC, .ref c), (kR, .int r), (kT, .int t)]
theorem z1 : ¬ ("great" : Str) = "cells" := by decide +kernel
theorem z2 : ¬ ("great" : Str) = "rest" := by decide +kernel
theorem z3 : ¬ ("great" : Str) = "turn" := by decide +kernel
theorem z4 : ¬ ("cells" : Str) = "rest" := by decide +kernel
theorem z5 : ¬ ("cells" : Str) = "turn" := by decide +kernel
theorem z6 : ¬ ("rest" : Str) = "turn" := by decide +kernel
theorem n1 : ¬ kG = kC := by decide +kernel
theorem n2 : ¬ kG = kR := by decide +kernel
theorem n3 : ¬ kG = kT := by decide +kernel
theorem n4 : ¬ kC = kR := by decide +kernel
theorem n5 : ¬ kC = kT := by decide +kernel
theorem n6 : ¬ kR = kT := by decide +kernel
theorem n1' : ¬ kC = kG := fun e => n1 e.symm
theorem n2' : ¬ kR = kG := fun e => n2 e.symm
theorem n3' : ¬ kT = kG := fun e => n3 e.symm
theorem n4' : ¬ kR = kC := fun e => n4 e.symm
theorem n5' : ¬ kT = kC := fun e => n5 e.symm
theorem n6' : ¬ kT = kR := fun e => n6 e.symm
theorem st_g {g c : Addr} {r t : Int} : valV (stp g c r t) kG = some (.ref g) := valV_pos rfl
theorem st_c {g c : Addr} {r t : Int} : valV (stp g c r t) kC = some (.ref c) := by
  unfold stp
  rw [valV_neg n1, valV_pos rfl]
theorem st_r {g c : Addr} {r t : Int} : valV (stp g c r t) kR = some (.int r) := by
  unfold stp
  rw [valV_neg n2, valV_neg n4, valV_pos rfl]
theorem st_t {g c : Addr} {r t : Int} : valV (stp g c r t) kT = some (.int t) := by
  unfold stp
  rw [valV_neg n3, valV_neg n5, valV_neg n6, valV_pos rfl]
theorem put_t {g c : Addr} {r t u : Int} : putK (stp g c r t) kT (.int u) = stp g c r u := by
  unfold putK stp
  have h : ([(kG, V.ref g), (kC, .ref c), (kR, .int r), (kT, .int t)].any fun kv => decide (kv.1 = kT)) = true := by simp
  rw [if_pos h]
  simp only [List.map_cons, List.map_nil, if_neg n3, if_neg n5, if_neg n6, if_pos]
theorem put_r {g c : Addr} {r t u : Int} : putK (stp g c r t) kR (.int u) = stp g c u t := by
  unfold putK stp
  have h : ([(kG, V.ref g), (kC, .ref c), (kR, .int r), (kT, .int t)].any fun kv => decide (kv.1 = kR)) = true := by simp
  rw [if_pos h]
  simp only [List.map_cons, List.map_nil, if_neg n2, if_neg n4, if_neg n6', if_pos]
theorem merge_st {g c : Addr} {r t : Int} : mergeK [] [(kG, V.ref g), (kC, .ref c), (kR, .int r), (kT, .int t)] = stp g c r t := by
  unfold mergeK stp
  simp only [List.foldl_cons, List.foldl_nil]
  have e1 : putK ([] : List (Key × V)) kG (.ref g) = [(kG, .ref g)] := by simp [putK]
  have e2 : putK [(kG, V.ref g)] kC (.ref c) = [(kG, .ref g), (kC, .ref c)] := by simp [putK, z1]
  have e3 : putK [(kG, V.ref g), (kC, .ref c)] kR (.int r) = [(kG, .ref g), (kC, .ref c), (kR, .int r)] := by simp [putK, z2, z4]
  have e4 : putK [(kG, V.ref g), (kC, .ref c), (kR, .int r)] kT (.int t) = [(kG, .ref g), (kC, .ref c), (kR, .int r), (kT, .int t)] := by simp [putK, z3, z5, z6]
  rw [e1, e2, e3, e4]
theorem stp_len {g c : Addr} {r t : Int} : (stp g c r t).length < sizeLine := by show 4 < sizeLine; decide

/-- at p the state of the draws, its two lists at g and c; at most n times were the cells blended -/
structure St (H : Hp) (p g c : Addr) (n : Nat) : Prop where
  ex : ∃ (gs cs : List Int) (r t : Int), H p = some (.dK (stp g c r t)) ∧ H g = some (.lst (gs.map V.int)) ∧ H c = some (.lst (cs.map V.int)) ∧ gs.length ≤ 63 ∧ cs.length ≤ 63 ∧ 0 ≤ t ∧ t ≤ n
  ne : g ≠ c
/-- all that was tracked stands, but for the state and its great ones -/
def Kp (p g : Addr) (H H' : Hp) : Prop := ∀ b o, b ≠ p → b ≠ g → H b = some o → H' b = some o
theorem Kp.refl {p g : Addr} {H : Hp} : Kp p g H H := fun _ _ _ _ e => e
theorem Kp.trans {p g : Addr} {H H1 H2 : Hp} (a : Kp p g H H1) (b : Kp p g H1 H2) : Kp p g H H2 := fun x o h1 h2 e => b x o h1 h2 (a x o h1 h2 e)
theorem Kp.of {p g : Addr} {H H' : Hp} (a : Same H H') : Kp p g H H' := fun x o _ _ e => a x o e
theorem Kp.upd_p {p g : Addr} {H : Hp} {o : HO} : Kp p g H (upd H p o) := fun x u h1 _ e => by rw [upd_ne h1]; exact e
theorem Kp.upd_g {p g : Addr} {H : Hp} {o : HO} : Kp p g H (upd H g o) := fun x u _ h2 e => by rw [upd_ne h2]; exact e
theorem same_upd {H : Hp} {p : Addr} {o : HO} (h : H p = none) : Same H (upd H p o) := fun b u e => by
  rw [upd_ne (ne_of_none e h)]
  exact e
theorem dk_ne_lst {H : Hp} {a b : Addr} {kvs : List (Key × V)} {xs : List V} (h1 : H a = some (.dK kvs)) (h2 : H b = some (.lst xs)) : a ≠ b := ne_of h1 h2 (by intro z; cases z)
theorem ints_at {K : PySem.W.Frag} {xs : List Int} {i : Nat} {y : V} (h : (xs.map V.int)[i]? = some y) : ∃ u, y = V.int u ∧ xs[i]? = some u ∧ i < xs.length := by
  rw [List.getElem?_map] at h
  cases e : xs[i]? with
  | none =>
    rw [e] at h
    cases h
  | some u =>
    rw [e] at h
    exact ⟨u, (Option.some.inj h).symm, rfl, (List.getElem?_eq_some_iff.mp e).1⟩
theorem dpAll_ints {K : PySem.W.Frag} {H : Hp} : ∀ (xs : List Int), DpAll K H (xs.map V.int) (xs.map PyData.int)
  | [] => .nil
  | x :: xs => .cons (.int x) (dpAll_ints xs)
theorem can_ints : ∀ (xs : List Int), PyData.canLayAll0 (xs.map PyData.int) = true
  | [] => rfl
  | x :: xs => by
    show (PyData.canLay0 (.int x) && PyData.canLayAll0 (xs.map PyData.int)) = true
    rw [can_ints xs]
    rfl
theorem depth_ints : ∀ (xs : List Int), PyData.depthAll (xs.map PyData.int) = 0
  | [] => rfl
  | x :: xs => by
    show max (PyData.depth (.int x)) (PyData.depthAll (xs.map PyData.int)) = 0
    rw [depth_ints xs]
    rfl
theorem shaped_ints (xs : List Int) : SeqAt.shaped (.list (xs.map PyData.int)) = true := by
  unfold SeqAt.shaped
  have h1 : PyData.canLay0 (.list (xs.map PyData.int)) = true := can_ints xs
  have h2 : PyData.depth (.list (xs.map PyData.int)) = 1 := by
    show PyData.depthAll (xs.map PyData.int) + 1 = 1
    rw [depth_ints]
  rw [h1, h2]
  rfl

/-! ## what a def of the draws asks of the module -/
structure TxtP (mg : Str → Option Value) : Prop where
  abs : mg "abs" = none
  int : mg "int" = none
  len : mg "len" = none

def spBegun (K : PySem.W.Frag) : Sp := fun vs H Q _ => ∃ (a : Addr) (ns : List Int), vs = [.ref a] ∧ SqL K H a (ns.map V.int) ∧ ns.length ≤ 63 ∧
  ∀ (H' : Hp) (p g c : Addr), Same H H' → St H' p g c 0 → H p = none → H g = none → Q (.ref p) H'
def spBlended : Sp := fun vs H Q _ => ∃ (p g c : Addr) (cs : List Int) (r t : Int), vs = [.ref p] ∧ H p = some (.dK (stp g c r t)) ∧ H c = some (.lst (cs.map V.int)) ∧ 0 ≤ t ∧ t < 2 ^ 40 ∧
  ∀ (H' : Hp) (f : Int), Same (upd H p (.dK (stp g c r (t + 1)))) H' → Q (.int f) H'
def spDraw : Sp := fun vs H Q _ => ∃ (p g c : Addr) (n : Nat) (m : Int), vs = [.ref p, .int m] ∧ St H p g c n ∧ n < 2 ^ 40 ∧ 0 < m ∧ m < 2 ^ 30 ∧
  ∀ (H' : Hp) (f : Int), Kp p g H H' → St H' p g c (n + 1) → 0 ≤ f → f < m → Q (.int f) H'
def spPick (K : PySem.W.Frag) : Sp := fun vs H Q _ => ∃ (p g c : Addr) (n : Nat) (l : Addr) (xs : List V), vs = [.ref p, .ref l] ∧ St H p g c n ∧ n < 2 ^ 40 ∧ H l = some (.lst xs) ∧ l ≠ g ∧ 0 < xs.length ∧ xs.length ≤ 1000 ∧
  ∀ (H' : Hp) (i : Nat) (y : V), Kp p g H H' → St H' p g c (n + 1) → i < xs.length → xs[i]? = some y → Q y H'

section
variable {P : Program} {w : World} {K : PySem.W.Frag} {mg : Str → Option Value} {base : Heap}
abbrev nBegun : List Str := ["script", "great", "cell"]
theorem scBegun : FnScope nBegun ["script"] (defScope sBegun) := ⟨rfl, rfl, rfl, by decide +kernel, rfl, by decide +kernel, by decide +kernel⟩
theorem ok_begun {f : Addr} {fd : FuncData} (F : Fun K "_law_begun" "_law_begun" sBegun f fd) (T : TxtP mg) : FnOk P w K mg base CX0 1 f fd ["script"] (spBegun K) := by
  refine F.ok scBegun (fun vs H Q E h => ?_) (fun cdv A outer s H vs Q E hr h => ?_)
  · obtain ⟨a, ns, rfl, _⟩ := h
    rfl
  · obtain ⟨a, ns, rfl, hS, hlen, k⟩ := h
    have nd := scBegun.nd
    refine ⟨_, pss_cons (ps_setLc (i := 1) (own := [("cell", 2)]) (g := gName 2) rfl nd rfl rfl (sw_true rfl rfl rfl (by decide +kernel)) (pi_list (pv 0)) (blkOk_by (own := [("cell", 2)]) (N := nBegun) (sc := defScope sBegun) (by decide +kernel))
          (fun _ _ _ _ _ => pg_name (i := 2) nd rfl (Or.inl rfl))
          (fun _ _ _ _ _ => pts_one (pt_cmpR op_ge (pe_callB call_abs (by rfl) T.abs (by decide +kernel) (pa_cons (pv 2) pa_nil)) (pe_op op_pow pe_int pe_int) (nomark _)))
          (fun _ _ _ _ _ => pe_op op_sub (pe_callB call_abs (by rfl) T.abs (by decide +kernel) (pa_cons (pv 2) pa_nil)) (pe_op op_pow pe_int pe_int)))
      (pss_one (ps_ret (pe_disp (pps_cons pe_str (pv 1) (pps_cons pe_str
          (pe_lc (own := [("cell", 2)]) (g := gName 2) (tt := tYes) rfl nd (pi_list (pv 0)) (blkOk_by (own := [("cell", 2)]) (N := nBegun) (sc := defScope sBegun) (by decide +kernel))
            (fun _ _ _ _ _ => pg_name (i := 2) nd rfl (Or.inl rfl)) (fun _ _ _ _ _ => pts_nil) (fun _ _ _ _ _ => pe_callB call_abs (by rfl) T.abs (by decide +kernel) (pa_cons (pv 2) pa_nil)))
          (pps_cons pe_str pe_int (pps_cons pe_str pe_int pps_nil)))) (by rfl) (by rfl) (fun z => by cases z) (by decide)))), ?_⟩
    refine ⟨_, rfl, a, rfl, ⟨_, hS⟩, fun D hD => lc_list (K := K) (a := a) (xs := ns.map V.int) (fun i H' => ∃ gs : List Int, Same H H' ∧ H' D = some (.lst (gs.map V.int)) ∧ gs.length ≤ i)
      ⟨[], same_upd hD, upd_same, Nat.le_refl _⟩ (fun i H' _ ⟨_, s1, _⟩ => s1.seq hS) ?_ ?_⟩
    · rintro i y H' hi ⟨gs, s1, hd, hl⟩
      obtain ⟨u, rfl, hu, hlt⟩ := ints_at (K := K) hi
      refine ⟨rfl, _, rfl, _, rfl, _, _, rfl, rfl, ⟨by decide, by decide, by decide⟩, _, _, rfl, rfl, _, rfl, ?_⟩
      refine ite2 (fun _ => ?_) (fun _ => ?_)
      · refine ⟨_, rfl, _, rfl, _, _, rfl, rfl, ⟨by decide, by decide, by decide⟩, _, _, rfl, rfl, _, hd, ?_, ?_⟩
        · rw [List.length_map]
          exact Nat.lt_of_le_of_lt hl (Nat.lt_of_lt_of_le hlt (Nat.le_trans hlen (by decide)))
        · refine ⟨gs ++ [_], fun b o e => ?_, by rw [upd_same, List.map_append]; rfl, by rw [List.length_append]; exact Nat.succ_le_succ hl⟩
          rw [upd_ne (ne_of_none e hD)]
          exact s1 _ _ e
      · exact ⟨gs, s1, hd, Nat.le_succ_of_le hl⟩
    · rintro H1 ⟨gs, s1, hd, hl⟩
      rw [List.length_map] at hl
      refine fun p hp1 => ?_
      have npD : p ≠ D := fun e => by
        rw [e, hd] at hp1
        cases hp1
      have s2 : Same H (upd H1 p (.dK [])) := s1.trans (same_upd hp1)
      have hd2 : (upd H1 p (.dK [])) D = some (.lst (gs.map V.int)) := by rw [upd_ne npD.symm]; exact hd
      have hp2 : (upd H1 p (.dK [])) p = some (.dK []) := upd_same
      generalize hH2 : upd H1 p (.dK []) = H2 at s2 hd2 hp2
      refine ⟨_, rfl, _, rfl, a, rfl, ⟨_, s2.seq hS⟩, fun D2 hD2 => lc_list (K := K) (a := a) (xs := ns.map V.int) (fun i H' => ∃ cs : List Int, Same H2 H' ∧ H' D2 = some (.lst (cs.map V.int)) ∧ cs.length ≤ i)
        ⟨[], same_upd hD2, upd_same, Nat.le_refl _⟩ (fun i H' _ ⟨_, s3, _⟩ => s3.seq (s2.seq hS)) ?_ ?_⟩
      · rintro i y H' hi ⟨cs, s3, hd3, hl3⟩
        obtain ⟨u, rfl, hu, hlt⟩ := ints_at (K := K) hi
        refine ⟨rfl, ?_⟩
        refine ⟨_, rfl, _, rfl, _, hd3, ?_, ?_⟩
        · rw [List.length_map]
          exact Nat.lt_of_le_of_lt hl3 (Nat.lt_of_lt_of_le hlt (Nat.le_trans hlen (by decide)))
        · refine ⟨cs ++ [_], fun b o e => ?_, by rw [upd_same, List.map_append]; rfl, by rw [List.length_append]; exact Nat.succ_le_succ hl3⟩
          rw [upd_ne (ne_of_none e hD2)]
          exact s3 _ _ e
      · rintro H3 ⟨cs, s3, hd3, hl3⟩
        rw [List.length_map] at hl3
        have nD2 : D ≠ D2 := ne_of_none hd2 hD2
        have npD2 : p ≠ D2 := ne_of_none hp2 hD2
        refine ⟨s3 _ _ hp2, [(kG, .ref D), (kC, .ref D2), (kR, .int 0), (kT, .int 0)], rfl, by show 4 ≤ 15; decide, ?_⟩
        rw [merge_st]
        have hp0 : H p = none := s1.free hp1
        refine k _ p D D2 (fun b o e => ?_) ⟨⟨gs, cs, 0, 0, upd_same, ?_, ?_, Nat.le_trans hl hlen, Nat.le_trans hl3 hlen, Int.le_refl _, Int.le_refl _⟩, nD2⟩ hp0 hD
        · rw [upd_ne (ne_of_none e hp0)]
          exact s3 _ _ (s2 _ _ e)
        · rw [upd_ne npD.symm]
          exact s3 _ _ hd2
        · rw [upd_ne npD2.symm]
          exact hd3

abbrev nBlended : List Str := ["state", "turn", "found", "prime", "blend", "cell"]
theorem scBlended : FnScope nBlended ["state"] (defScope sBlended) := ⟨rfl, rfl, rfl, by decide +kernel, rfl, by decide +kernel, by decide +kernel⟩
theorem get_t {H : Hp} {p g c : Addr} {r t : Int} (h : H p = some (.dK (stp g c r t))) : DGet H p (.str "turn") (some (.int t)) := by
  have q := DGet.k (k := kT) h
  rw [st_t] at q
  exact q
theorem get_r {H : Hp} {p g c : Addr} {r t : Int} (h : H p = some (.dK (stp g c r t))) : DGet H p (.str "rest") (some (.int r)) := by
  have q := DGet.k (k := kR) h
  rw [st_r] at q
  exact q
theorem get_c {H : Hp} {p g c : Addr} {r t : Int} (h : H p = some (.dK (stp g c r t))) : DGet H p (.str "cells") (some (.ref c)) := by
  have q := DGet.k (k := kC) h
  rw [st_c] at q
  exact q
theorem get_g {H : Hp} {p g c : Addr} {r t : Int} (h : H p = some (.dK (stp g c r t))) : DGet H p (.str "great") (some (.ref g)) := by
  have q := DGet.k (k := kG) h
  rw [st_g] at q
  exact q
theorem dput_t {H : Hp} {p g c : Addr} {r t u : Int} (h : H p = some (.dK (stp g c r t))) : DPut H p (.str "turn") (.int u) (upd H p (.dK (stp g c r u))) := by
  have q := DPut.k (k := kT) (v := .int u) h stp_len
  rw [put_t] at q
  exact q
theorem dput_r {H : Hp} {p g c : Addr} {r t u : Int} (h : H p = some (.dK (stp g c r t))) : DPut H p (.str "rest") (.int u) (upd H p (.dK (stp g c u t))) := by
  have q := DPut.k (k := kR) (v := .int u) h stp_len
  rw [put_r] at q
  exact q
theorem prime_at {i : Nat} {x : V} (h : ([V.int 2147483579, .int 2147483629, .int 2147483563] : List V)[i]? = some x) : ∃ u : Int, x = .int u ∧ 0 < u ∧ u < 2147483648 := by
  match i, h with
  | 0, h => exact ⟨_, (Option.some.inj h).symm, by decide, by decide⟩
  | 1, h => exact ⟨_, (Option.some.inj h).symm, by decide, by decide⟩
  | 2, h => exact ⟨_, (Option.some.inj h).symm, by decide, by decide⟩
  | n + 3, h => cases h
theorem ok_blended {f : Addr} {fd : FuncData} (F : Fun K "_law_blended" "_law_blended" sBlended f fd) (T : TxtP mg) : FnOk P w K mg base CX0 1 f fd ["state"] spBlended := by
  refine F.ok scBlended (fun vs H Q E h => ?_) (fun cdv A outer s H vs Q E hr h => ?_)
  · obtain ⟨p, g, c, cs, r, t, rfl, _⟩ := h
    rfl
  · obtain ⟨p, g, c, cs, r, t, rfl, hp, hc, t0, t1, k⟩ := h
    have nd := scBlended.nd
    have hu := hu_of hr
    refine ⟨_, pss_cons (ps_par (i := 1) (j := 2) rfl nd rfl rfl (by decide) rfl rfl (pa_cons (pe_op op_add (pe_dget hu (pv 0) pe_str (fun _ _ => rfl)) pe_int) (pa_cons pe_int pa_nil)) (by rfl))
      (pss_cons (ps_dput hu (pv 0) pe_str (pv 1) rfl)
      (pss_cons (ps_for PassesOwn.never rfl (pi_list (pe_lst (pa_cons pe_int (pa_cons pe_int (pa_cons pe_int pa_nil))))) (pg_name (i := 3) nd rfl (Or.inl rfl))
        (pss_cons (ps_set (i := 4) nd rfl (Or.inl rfl) (pe_op op_add (pe_op op_mul pe_int (pv 1)) (pe_op op_fdivW (pv 3) pe_int)))
        (pss_cons (ps_for PassesOwn.never rfl (pi_list (pe_dget hu (pv 0) pe_str (fun _ _ => rfl))) (pg_name (i := 5) nd rfl (Or.inl rfl))
            (pss_one (ps_set (i := 4) nd rfl (Or.inl rfl) (pe_op op_mod (pe_callTy call_int1 (by rfl) T.int (by decide +kernel) (pa_cons (pe_op op_add (pe_op op_add (pe_op op_mul (pv 4) pe_int) (pv 5)) (pv 1)) pa_nil)) (pv 3)))))
        (pss_one (ps_set (i := 2) nd rfl (Or.inl rfl) (pe_op op_add (pe_op op_mul (pv 2) pe_int) (pe_op op_mod (pe_callTy call_int1 (by rfl) T.int (by decide +kernel) (pa_cons (pe_op op_pow (pv 4) pe_int) pa_nil)) (pv 3))))))))
      (pss_one (ps_ret (pv 2))))), ?_⟩
    refine ⟨_, rfl, p, _, rfl, get_t hp, t, 1, rfl, rfl, _, _, rfl, ?_⟩
    refine ⟨_, rfl, _, rfl, p, _, rfl, dput_t hp, ?_⟩
    refine ⟨by show 3 ≤ sizeLine; decide, fun l hl => ?_⟩
    have npl : p ≠ l := fun e => by
      rw [e, upd_same] at hl
      cases hl
    have ncp : c ≠ p := ne_of hc hp (by intro z; cases z)
    have ncl : c ≠ l := fun e => by
      rw [← e, upd_ne ncp, hc] at hl
      cases hl
    have s0 : Same (upd H p (.dK (stp g c r (t + 1)))) (upd (upd H p (.dK (stp g c r (t + 1)))) l (.lst [.int 2147483579, .int 2147483629, .int 2147483563])) := same_upd hl
    generalize hHH : upd (upd H p (.dK (stp g c r (t + 1)))) l (.lst [.int 2147483579, .int 2147483629, .int 2147483563]) = HH at s0
    have hp' : HH p = some (.dK (stp g c r (t + 1))) := s0 _ _ upd_same
    have hc' : HH c = some (.lst (cs.map V.int)) := s0 _ _ (by rw [upd_ne ncp]; exact hc)
    have hl' : HH l = some (.lst [.int 2147483579, .int 2147483629, .int 2147483563]) := by rw [← hHH]; exact upd_same
    refine ⟨l, rfl, ⟨_, SqL.of hl'⟩, for_list (K := K) (a := l) (xs := [.int 2147483579, .int 2147483629, .int 2147483563])
      (fun i σ H' => ∃ (fo : Int) (pr bl ce : Option V), σ = [some (.ref p), some (.int (t + 1)), some (.int fo), pr, bl, ce] ∧ H' = HH) ⟨0, none, none, none, rfl, rfl⟩ (fun i σ H' _ ⟨_, _, _, _, _, e⟩ => by rw [e]; exact SqL.of hl') ?_ ?_⟩
    · rintro i x σ H' hx ⟨fo, pr, bl, ce, rfl, rfl⟩
      obtain ⟨q, rfl, q0, q1⟩ := prime_at hx
      refine ⟨_, rfl, 48271, t + 1, rfl, rfl, .inl ⟨by decide, by decide⟩, _, rfl, q, 53, rfl, rfl, ⟨by decide, by decide +kernel⟩, _, _, rfl, rfl, ?_⟩
      refine ⟨_, rfl, p, _, rfl, get_c hp', c, rfl, ⟨_, SqL.of hc'⟩, for_list (K := K) (a := c) (xs := cs.map V.int)
        (fun j σ H'' => ∃ (b : Int) (ce : Option V), σ = [some (.ref p), some (.int (t + 1)), some (.int fo), some (.int q), some (.int b), ce] ∧ H'' = H' ∧ 0 ≤ b ∧ b < 2 ^ 60) ⟨_, ce, rfl, rfl, ?_, ?_⟩
        (fun i σ H' _ ⟨_, _, _, e, _⟩ => by rw [e]; exact SqL.of hc') ?_ ?_⟩
      · have z : 0 ≤ q / 53 := Int.ediv_nonneg (by omega) (by decide)
        omega
      · have z : q / 53 ≤ q := Int.ediv_le_self _ (by omega)
        omega
      · rintro j y σ H'' hy ⟨b, ce', rfl, rfl, b0, b1⟩
        obtain ⟨u, rfl, _, _⟩ := ints_at (K := K) hy
        refine ⟨_, rfl, b, 69621, rfl, rfl, .inr ⟨by decide, by decide⟩, _, rfl, _, _, rfl, rfl, _, rfl, _, _, rfl, rfl, .inl ⟨_, rfl, _, rfl, _, q, rfl, rfl, q0, ?_⟩⟩
        refine ⟨_, _, rfl, rfl, Int.emod_nonneg _ (by omega), ?_⟩
        have z := Int.emod_lt_of_pos (b * 69621 + u + (t + 1)) q0
        omega
      · rintro σ H'' ⟨b, ce', rfl, rfl, b0, b1⟩
        refine ⟨_, rfl, fo, 2147483647, rfl, rfl, .inr ⟨by decide, by decide⟩, _, rfl, b, 5, rfl, rfl, ⟨by decide, by decide, by omega⟩, .inl ⟨_, rfl, _, rfl, _, q, rfl, rfl, q0, _, _, rfl, rfl, ?_⟩⟩
        exact ⟨_, _, _, _, rfl, rfl⟩
    · rintro σ H' ⟨fo, pr, bl, ce, rfl, rfl⟩
      exact ⟨_, rfl, k _ _ s0⟩

theorem eqv_ints_nil : ∀ gs : List Int, PyData.eqv (.list (gs.map PyData.int)) (.list []) = gs.isEmpty
  | [] => rfl
  | _ :: _ => rfl
theorem dp_ints {H : Hp} {a : Addr} {gs : List Int} (h : H a = some (.lst (gs.map V.int))) : Dp K H (.ref a) (.list (gs.map PyData.int)) := .lst (SqL.of h) (dpAll_ints (K := K) gs)
abbrev nDraw : List Str := ["state", "room", "found"]
theorem scDraw : FnScope nDraw ["state", "room"] (defScope sDraw) := ⟨rfl, rfl, rfl, by decide +kernel, rfl, by decide +kernel, by decide +kernel⟩
theorem ok_draw {f fB : Addr} {fd fdB : FuncData} (F : Fun K "_law_draw" "_law_draw" sDraw f fd) (T : TxtP mg) (FB : Fun K "_law_blended" "_law_blended" sBlended fB fdB) (mgB : mg "_law_blended" = some (.ref fB)) :
    FnOk P w K mg base CX0 2 f fd ["state", "room"] spDraw := by
  have GB : FnOk P w K mg base CX0 1 fB fdB ["state"] spBlended := ok_blended FB T
  have bB : Binds K fdB ["state"] [] := FB.binds (ps := ["state"]) fun _ _ _ _ _ _ us hl => match us, hl with | [_], _ => rfl
  refine F.ok scDraw (fun vs H Q E h => ?_) (fun cdv A outer s H vs Q E hr h => ?_)
  · obtain ⟨p, g, c, n, m, rfl, _⟩ := h
    rfl
  · obtain ⟨p, g, c, n, m, rfl, ⟨⟨gs, cs, r, t, hp, hg, hc, lg, lc, t0, t1⟩, ngc⟩, hn, m0, m1, k⟩ := h
    have nd := scDraw.nd
    have hu := hu_of hr
    have npg : p ≠ g := dk_ne_lst hp hg
    have npc : p ≠ c := dk_ne_lst hp hc
    refine ⟨_, C8.pss_cut (ps_if (pt_cmpR op_eq (pe_dget hu (pv 0) pe_str (fun _ _ => rfl)) pe_int (nomark _))
        (pss_one (ps_dput hu (pv 0) pe_str (pe_ifExp (pt_cmpR (op_neD hr.units) (pe_dget hu (pv 0) pe_str (fun _ _ => rfl)) (pe_lst pa_nil) (nomark _))
          (pe_bm PySem.F.plainAttrs_list PySem.F.slot_list_pop PySem.F.type_list_pop mt_popAt (pe_dget hu (pv 0) pe_str (fun _ _ => rfl)) (pa_cons pe_int pa_nil))
          (pe_call GB hr rfl mgB FB.kp bB .nil pass0 (pa_cons (pv 0) pa_nil))) rfl)) pss_nil)
      (pss_cons (ps_set (i := 2) nd rfl (Or.inl rfl) (pe_op op_mod (pe_callTy call_int1 (by rfl) T.int (by decide +kernel) (pa_cons (pe_dget hu (pv 0) pe_str (fun _ _ => rfl)) pa_nil)) (pv 1)))
      (pss_cons (ps_dput hu (pv 0) pe_str (pe_op op_fdivW (pe_dget hu (pv 0) pe_str (fun _ _ => rfl)) (pv 1)) rfl)
      (pss_one (ps_ret (pv 2))))), ?_⟩
    refine ⟨fun σ H' => σ = [some (.ref p), some (.int m), none] ∧ Kp p g H H' ∧ ∃ (gs' : List Int) (r' t' : Int), H' p = some (.dK (stp g c r' t')) ∧ H' g = some (.lst (gs'.map V.int)) ∧ H' c = some (.lst (cs.map V.int)) ∧ gs'.length ≤ 63 ∧ 0 ≤ t' ∧ t' ≤ n + 1, ?_, ?_⟩
    · refine ⟨_, rfl, p, _, rfl, get_r hp, rfl, _, rfl, ?_⟩
      refine ite2 (fun _ => ?_) (fun _ => ?_)
      · refine ⟨_, rfl, p, _, rfl, get_g hp, by show 0 ≤ sizeLine; decide, fun l hl => ?_⟩
        have s0 : Same H (upd H l (.lst [])) := same_upd hl
        have hp1 := s0 _ _ hp
        have hg1 := s0 _ _ hg
        have hc1 := s0 _ _ hc
        have hl1 : (upd H l (.lst [])) l = some (.lst (([] : List Int).map V.int)) := upd_same
        generalize hH1 : upd H l (.lst []) = H1 at s0 hp1 hg1 hc1 hl1
        refine ⟨_, _, dp_ints hg1, dp_ints hl1, shaped_ints _, shaped_ints _, _, rfl, ?_⟩
        have eq : PyData.eqv (.list (gs.map PyData.int)) (.list (([] : List Int).map PyData.int)) = gs.isEmpty := eqv_ints_nil gs
        rw [eq]
        refine ite2 (fun hne => ?_) (fun _ => ?_)
        · match gs, hne, lg, hg1 with
          | [], hne, _, _ => exact absurd hne (by simp)
          | u :: gs', _, lg, hg1 =>
            refine ⟨_, rfl, p, _, rfl, get_g hp1, .inl ⟨rfl, _, SqL.of hg1⟩, g, _, 0, 0, .int u, rfl, rfl, hg1, by decide, by decide, ?_, rfl, ?_⟩
            · rw [List.length_map, List.length_cons]
              unfold seqIndex?
              simp
            · have hp2 : (upd H1 g (.lst (((u :: gs').map V.int).eraseIdx 0))) p = some (.dK (stp g c r t)) := by rw [upd_ne npg]; exact hp1
              refine ⟨_, rfl, p, _, rfl, dput_r hp2, ?_⟩
              refine ⟨rfl, (Kp.of s0).trans (Kp.upd_g.trans Kp.upd_p), gs', u, t, upd_same, ?_, ?_, ?_, t0, by omega⟩
              · rw [upd_ne npg.symm, upd_same]
                rfl
              · rw [upd_ne npc.symm, upd_ne ngc.symm]
                exact hc1
              · simp only [List.length_cons] at lg
                omega
        · refine ⟨_, rfl, p, g, c, cs, r, t, rfl, hp1, hc1, t0, by omega, fun H2 f0 s2 => ?_⟩
          have hp2 := s2 _ _ upd_same
          refine ⟨_, rfl, p, _, rfl, dput_r hp2, ?_⟩
          refine ⟨rfl, (Kp.of s0).trans (Kp.upd_p.trans ((Kp.of s2).trans Kp.upd_p)), gs, f0, t + 1, upd_same, ?_, ?_, lg, by omega, by omega⟩
          · rw [upd_ne npg.symm]
            exact s2 _ _ (by rw [upd_ne npg.symm]; exact hg1)
          · rw [upd_ne npc.symm]
            exact s2 _ _ (by rw [upd_ne npc.symm]; exact hc1)
      · exact ⟨rfl, Kp.refl, gs, r, t, hp, hg, hc, lg, t0, by omega⟩
    · rintro σ H' ⟨rfl, kp, gs', r', t', hp', hg', hc', lg', t0', t1'⟩
      refine ⟨_, rfl, p, _, rfl, get_r hp', .inl ⟨_, rfl, _, rfl, _, m, rfl, rfl, m0, ?_⟩⟩
      refine ⟨_, rfl, p, _, rfl, get_r hp', _, rfl, _, m, rfl, rfl, wide_div m0 (b := 30) (by omega) (by decide) (by decide), _, rfl, p, _, rfl, dput_r hp', ?_⟩
      refine ⟨_, rfl, k _ _ (kp.trans Kp.upd_p) ⟨⟨gs', cs, r' / m, t', upd_same, ?_, ?_, lg', lc, t0', t1'⟩, ngc⟩ (Int.emod_nonneg _ (by omega)) (Int.emod_lt_of_pos _ m0)⟩
      · rw [upd_ne npg.symm]
        exact hg'
      · rw [upd_ne npc.symm]
        exact hc'
abbrev nPick : List Str := ["state", "some"]
theorem scPick : FnScope nPick ["state", "some"] (defScope sPick) := ⟨rfl, rfl, rfl, by decide +kernel, rfl, by decide +kernel, by decide +kernel⟩
theorem ok_pick {f fD fB : Addr} {fd fdD fdB : FuncData} (F : Fun K "_law_pick" "_law_pick" sPick f fd) (T : TxtP mg) (FD : Fun K "_law_draw" "_law_draw" sDraw fD fdD) (mgD : mg "_law_draw" = some (.ref fD)) (FB : Fun K "_law_blended" "_law_blended" sBlended fB fdB) (mgB : mg "_law_blended" = some (.ref fB)) :
    FnOk P w K mg base CX0 3 f fd ["state", "some"] (spPick K) := by
  have GD : FnOk P w K mg base CX0 2 fD fdD ["state", "room"] spDraw := ok_draw FD T FB mgB
  have bD : Binds K fdD ["state", "room"] [] := FD.binds (ps := ["state", "room"]) fun _ _ _ _ _ _ us hl => match us, hl with | [_, _], _ => rfl
  refine F.ok scPick (fun vs H Q E h => ?_) (fun cdv A outer s H vs Q E hr h => ?_)
  · obtain ⟨p, g, c, n, l, xs, rfl, _⟩ := h
    rfl
  · obtain ⟨p, g, c, n, l, xs, rfl, hs, hn, hl, nlg, x0, x1, k⟩ := h
    have nlp : l ≠ p := by
      obtain ⟨⟨gs, cs, r, t, hp, _⟩, _⟩ := hs
      exact (dk_ne_lst hp hl).symm
    refine ⟨_, pss_one (ps_ret (pe_ix ix_list (pv 1) (pe_call GD hr rfl mgD FD.kp bD .nil pass0 (pa_cons (pv 0) (pa_cons (pe_callB call_len_seq (by rfl) T.len PySem.boot_len (pa_cons (pv 1) pa_nil)) pa_nil))) (fun _ _ => rfl))), ?_⟩
    refine ⟨_, rfl, _, rfl, _, rfl, l, _, rfl, .inl (SqL.of hl), p, g, c, n, (xs.length : Int), rfl, hs, hn, by omega, by omega, fun H' f0 kp s' f1 f2 => ?_⟩
    have hl' := kp l _ nlp nlg hl
    obtain ⟨i, rfl⟩ := Int.eq_ofNat_of_zero_le f1
    have hi : i < xs.length := by omega
    refine ⟨l, _, _, xs[i], rfl, rfl, SqL.of hl', atI_nat (List.getElem?_eq_getElem hi), ?_⟩
    exact k _ i _ kp s' hi (List.getElem?_eq_getElem hi)
end
end Pre

namespace Lm
open PySem PySem.Spec PyProof.Rows L2
open LamX (CodeO TabS Tabs ExtN TabB LamS lamEnv lamCx inv_table among_app codeO_ne lam_start2 run_ofS takes0)

/-! ## lambdas that are kept: in a name, in a list; what a try catches is kept, too -/
/-- at f a lambda of the name q, its code object at c', its cells cl -/
def LamO (f : Addr) (q : Str) (params : Arguments) (body : Expr) (scope : Scope) (cl : List (Str × Addr)) (c' : Addr) : HO := .ext fun h => ∃ pm ctv, h.get? f = some (PySem.W.kla_obj "<lambda>" q params body scope cl pm c' ctv)
theorem lamO_ok {P : Program} {w : World} {H : Hp} {h : Heap} {f c' : Addr} {q : Str} {params : Arguments} {body : Expr} {scope : Scope} {cl : List (Str × Addr)} {pm ctv : Value} (e : h.get? f = some (PySem.W.kla_obj "<lambda>" q params body scope cl pm c' ctv)) :
    ObjOk P w H h f (LamO f q params body scope cl c') := ⟨⟨pm, ctv, e⟩, ⟨_, e⟩, fun _ _ ⟨p, t, y⟩ k => ⟨p, t, k _ y⟩⟩
theorem lamO_ne {f c' : Addr} {q : Str} {params : Arguments} {body : Expr} {scope : Scope} {cl : List (Str × Addr)} (ps : Array Value) : LamO f q params body scope cl c' ≠ .tbl ps := fun y => by
  unfold LamO at y
  cases y
/-- at a an exception of the class cls, its dict d, that was caught -/
def ExT (cls : Value) (d : Option Addr) (a : Addr) : HO := .ext fun h => ∃ (oe : Obj) (fv : Array Value), h.get? a = some oe ∧ Zc cls d oe ∧ oe.data = .fields fv
theorem exT_ok {P : Program} {w : World} {H : Hp} {h : Heap} {a : Addr} {cls : Value} {d : Option Addr} {oe : Obj} {fv : Array Value} (e : h.get? a = some oe) (y : Zc cls d oe) (dt : oe.data = .fields fv) : ObjOk P w H h a (ExT cls d a) :=
  ⟨⟨oe, fv, e, y, dt⟩, ⟨oe, e⟩, fun _ _ ⟨o, v, q, r⟩ k => ⟨o, v, k _ q, r⟩⟩

section
variable {X : Cx} {pins : List (Addr × Obj)} {σ : L2.St} {H : Hp} {s : Shared}
/-- an object that is newer than the def's entry is tracked from now on -/
theorem track {a : Addr} {o : HO} (J : Inv X pins σ H s) (hn : H a = none) (h0 : X.s_0.heap.get? a = none) (nL : X.env.locals ≠ a) (nC : ∀ x c, X.env.cells.lookup x = some c → c ≠ a) (nP : ∀ p ∈ X.pn ++ pins, p.1 ≠ a) (new : ObjOk X.prog X.w (upd H a o) s.heap a o) :
    Inv X pins σ (upd H a o) s := by
  have ne0 : ∀ b u, X.s_0.heap.get? b = some u → b ≠ a := fun b u e y => by
    rw [y, h0] at e
    cases e
  have neT : ∀ b u, H b = some u → b ≠ a := fun b u e => ne_of_none e hn
  refine ⟨J.ok, J.os, J.bare, ⟨J.base.keep, J.base.slot, fun b u e n hx => ?_, J.base.there, fun b xs e => ?_, fun b u v e => ?_, fun b ps e => ?_⟩, J.loc, J.cell, ?_, fun x c e => ?_, fun p hp => ?_, fun b u e => ?_, J.len⟩
  · rw [upd_ne (ne0 b u e)]
    exact J.base.free b u e n hx
  · have y := J.base.tups b xs e
    rw [upd_ne (neT b _ y)]
    exact y
  · have y := J.base.frzs b u v e
    rw [upd_ne (neT b _ y)]
    exact y
  · obtain ⟨m, y⟩ := J.base.tbls b ps e
    exact ⟨m, by rw [upd_ne (neT b _ y)]; exact y⟩
  · rw [upd_ne nL]
    exact J.free
  · rw [upd_ne (nC x c e)]
    exact J.freeC x c e
  · obtain ⟨e, n, r⟩ := J.pin p hp
    exact ⟨e, by rw [upd_ne (nP p hp)]; exact n, r⟩
  · by_cases hb : b = a
    · subst hb
      rw [upd_same] at e
      cases e
      exact new
    · rw [upd_ne hb] at e
      exact (J.hok b u e).stay (fun _ _ _ y => y) (fun c y => by rw [upd_ne (neT c _ y)]; exact y) fun c xs y => by rw [upd_ne (neT c _ y)]; exact y

/-- lambda: body, the new function object tracked -/
theorem lam_new {T : List (Addr × Str)} {c P : Addr} {params : Arguments} {body : Expr} {scope : Scope} {pos : Pos} {E : Value → Shared → Prop} {Q : Value → Shared → Prop} (I : Inv X pins σ H s) (TB : TabB X.base X.mg c P) (hcode : X.env.code = .ref c)
    (hm : (P, X.env.qual ++ "<lambda>") ∈ T) (hu : ∀ p ∈ T, p.1 = P → p.2 = X.env.qual ++ "<lambda>") (hT : Tabs T H) (hdef : defaultsOf params X.env = ([], [])) (hfree : ∀ y ∈ scope.names, y.2 = .free → ∃ c, X.env.cells.lookup y.1 = some c)
    (h : ∀ (f c' : Addr) (H1 : Hp) (s' : Shared), Inv X pins σ (upd H1 f (LamO f (X.env.qual ++ "<lambda>") params body scope (cloFrom X.env.cells scope.names []) c')) s' → ExtN H H1 → Tabs T H1 → H1 f = none → H1 c' = some (CodeO c' (X.env.qual ++ "<lambda>")) → Q (.ref f) s') :
    wpAny (model X.prog X.w) X.A (eval (.Lambda params body scope pos) X.env) Q E s := by
  obtain ⟨ps, hP, ht, ha⟩ := hT _ hm
  refine PySem.W.kla_eval hdef ?_
  have bIn : s.heap.BuiltinsAt X.mg P := TB.bm.keeps I.bk
  have atP : s.heap.get? P = some { cls := .none, data := .fields ps } := I.hok P _ hP
  cases hc : codeAmong pos ps.toList with
  | none =>
    refine PySem.W.kla_makeFunction (mg := X.mg) (c := c) (P := P) (ps := ps) (closure_ok hfree) I.ok.glob (I.mod.glob.keeps I.bk) hcode (TB.code.keeps I.bk) atP ht hc TB.gP bIn fun c' ctv h' tk keepsB hge hlt hrec htb => ?_
    obtain ⟨c2, oc, fv, t, e2, hoc, hd, hv⟩ := hrec
    cases e2
    have nC : H c' = none := I.hok.fresh hge
    have I0 := inv_table (t' := tk) (more := #[rawInt pos.line, rawInt pos.col, .ref c']) (h' := h') I hP keepsB htb hge ⟨oc, fv, t, hoc, hd, hv⟩
    have hE : ExtN H (upd (upd H P (.tbl (ps ++ #[rawInt pos.line, rawInt pos.col, .ref c']))) c' (CodeO c' (X.env.qual ++ "<lambda>"))) := fun b o e n => by
      rw [upd_ne (ne_of_none e nC), upd_ne (fun y => n ps (Option.some.inj (e.symm.trans (by rw [y]; exact hP))))]
      exact e
    have app : (ps ++ #[rawInt pos.line, rawInt pos.col, .ref c']).toList = ps.toList ++ [rawInt pos.line, rawInt pos.col, .ref c'] := by simp
    have I1 := I0.laid (t' := tk) (a := h'.objs.size) (o := LamO h'.objs.size (X.env.qual ++ "<lambda>") params body scope (cloFrom X.env.cells scope.names []) c') (h' := h'.push (PySem.W.kla_obj "<lambda>" (X.env.qual ++ "<lambda>") params body scope (cloFrom X.env.cells scope.names []) ((X.mg "__name__").getD .none) c' ctv))
      (fun _ _ e => Heap.get?_push_of_some _ e) (Nat.le_refl _) (lamO_ok (Heap.get?_push_size _ rfl))
    refine h h'.objs.size c' _ _ I1 hE (fun p hp => ?_) (I0.hok.fresh (Nat.le_refl _)) upd_same
    by_cases hb : p.1 = P
    · rw [hu p hp hb, hb]
      refine ⟨_, by rw [upd_ne (ne_of_none hP nC), upd_same], by rw [app]; exact PySem.TriplesOk_snoc _ _ _ _ ht, fun p' cv hcv => ?_⟩
      rw [app] at hcv
      rcases among_app _ ht hcv with y | y
      · obtain ⟨c0, e1, e2⟩ := ha p' cv y
        exact ⟨c0, e1, hE _ _ e2 codeO_ne⟩
      · exact ⟨c', y, upd_same⟩
    · obtain ⟨ps', a1, a2, a3⟩ := hT p hp
      refine ⟨ps', by rw [upd_ne (ne_of_none a1 nC), upd_ne hb]; exact a1, a2, fun p' cv hcv => ?_⟩
      obtain ⟨c0, e1, e2⟩ := a3 p' cv hcv
      exact ⟨c0, e1, hE _ _ e2 codeO_ne⟩
  | some cv =>
    obtain ⟨c', e, hco⟩ := ha pos cv hc
    subst e
    refine PySem.W.kla_makeFunctionHit (mg := X.mg) (c := c) (P := P) (ps := ps) (closure_ok hfree) I.ok.glob (I.mod.glob.keeps I.bk) hcode (TB.code.keeps I.bk) atP ht hc bIn fun ctv h' tk keepsB _ => ?_
    have I0 : Inv X pins σ H { s with heap := h', toks := tk } := I.kept keepsB
    have I1 := I0.laid (t' := tk) (a := h'.objs.size) (o := LamO h'.objs.size (X.env.qual ++ "<lambda>") params body scope (cloFrom X.env.cells scope.names []) c') (h' := h'.push (PySem.W.kla_obj "<lambda>" (X.env.qual ++ "<lambda>") params body scope (cloFrom X.env.cells scope.names []) ((X.mg "__name__").getD .none) c' ctv))
      (fun _ _ e => Heap.get?_push_of_some _ e) (Nat.le_refl _) (lamO_ok (Heap.get?_push_size _ rfl))
    exact h h'.objs.size c' H _ I1 (ExtN.refl H) hT (I0.hok.fresh (Nat.le_refl _)) hco
end
def tLamb (T : List (Addr × Str)) (q : Str) (params : Arguments) (body : Expr) (scope : Scope) (cl : List (Str × Addr)) : TE := fun _ H Q => Tabs T H ∧ ∀ (f c' : Addr) (H1 : Hp), ExtN H H1 → Tabs T H1 → H1 f = none → H1 c' = some (CodeO c' q) → Q (.ref f) (upd H1 f (LamO f q params body scope cl c'))
theorem pe_lam {X : Cx} {T : List (Addr × Str)} {c P : Addr} {params : Arguments} {body : Expr} {scope : Scope} {pos : Pos} (TB : TabB X.base X.mg c P) (hcode : X.env.code = .ref c) (hm : (P, X.env.qual ++ "<lambda>") ∈ T) (hu : ∀ p ∈ T, p.1 = P → p.2 = X.env.qual ++ "<lambda>")
    (L : LamS X.env.scope scope) (hdef : defaultsOf params X.env = ([], [])) : PE X (.Lambda params body scope pos) (tLamb T (X.env.qual ++ "<lambda>") params body scope (cloFrom X.env.cells scope.names [])) :=
  ⟨fun pins s σ H Q I ⟨hT, k⟩ => lam_new I TB hcode hm hu hT hdef (L.has I.ok) fun f c' H1 s' I1 eN T1 hn hco => ⟨.ref f, _, I1, rfl, k f c' H1 eN T1 hn hco⟩⟩
end Lm

namespace Lm
open PySem PySem.Spec PyProof.Rows L2
open LamX (CodeO TabS Tabs ExtN TabB LamS lamEnv lamCx inv_table among_app codeO_ne lam_start2 run_ofS takes0)
section
variable {X : Cx} {pins : List (Addr × Obj)} {σ : L2.St} {H : Hp} {s : Shared}
/-- a(), in the def that was handed the lambda; σ: the slots of the def that made it -/
theorem act_ok {CXg : CXT} {Eg : XK} {Ng : List Str} {qg : Str} {sg : Scope} {g f c' : Addr} {cdg : Value} {params : Arguments} {body : Expr} {scope : Scope} {k i : Nat} {a : Str} {pn : List (Addr × Obj)} {xe : Value → Shared → Prop} {W : WX} {t : XK → TE} {p1 p2 : Pos}
    (I : Inv X pins σ H s) (L : LamS X.env.scope scope)
    (hbind : ∀ (q : Str) (cl : List (Str × Addr)) (pm cv ctv : Value), bindArgs (PySem.W.kla_fn "<lambda>" q params body scope cl pm cv ctv) ⟨[], []⟩ = pure [])
    (tk : Takes ((cxOf CXg X.prog X.w X.K X.mg X.base Ng qg sg g cdg X.A X.stack s H Eg).tr pn xe) W) (hr : Room (k + 1) (X.A.deeper (envOfC qg sg s.heap.objs.size g cdg)))
    (hbody : ∀ (A : Around) (outer : List Env) (s : Shared) (H : Hp) (E : XK), Room k (A.deeper (lamEnv X scope s.heap.objs.size f c')) → PE (lamCx X A outer s H E scope f c') body (t E))
    (hN : Ng[i]? = some a) (hv : Vis sg a) (hd : (a == ("__debug__" : Str)) = false := by decide) (hcd : (a == ("__classdict__" : Str)) = false := by decide) :
    PE ((cxOf CXg X.prog X.w X.K X.mg X.base Ng qg sg g cdg X.A X.stack s H Eg).tr pn xe) (.Call (.Name a p1) [] [] p2)
      (fun σZ HZ Q => σZ[i]? = some (some (.ref f)) ∧ HZ f = some (LamO f (X.env.qual ++ "<lambda>") params body scope (cloFrom X.env.cells scope.names []) c') ∧ HZ c' = some (CodeO c' (X.env.qual ++ "<lambda>")) ∧ t (WE W σZ) σ HZ Q) := by
  refine ⟨fun pinsZ sZ σZ HZ Q IZ ⟨atI, isL, isC, rd⟩ => ?_⟩
  refine wpAny_Call_Name_kw (thn ((pe_var (pos := p1) (i := i) hN hv hd hcd).run pinsZ sZ σZ HZ (fun v H1 => v = .ref f ∧ H1 = HZ) IZ ⟨.ref f, atI, rfl, rfl⟩) fun u s1 ⟨v, H1, I1, r1, isF, same⟩ => ?_)
  subst isF
  rw [same] at I1
  obtain rfl : u = Value.ref f := r1
  obtain ⟨⟨pm, ctv, fun1⟩, _, _⟩ := (show ObjOk X.prog X.w HZ s1.heap f (LamO f (X.env.qual ++ "<lambda>") params body scope (cloFrom X.env.cells scope.names []) c') from I1.hok f _ isL)
  refine PySem.W.callWith_F0 ⟨_, _, _, _, fun1⟩ ?_
  have un : Un (frs X.stack) [] H HZ s.heap s1.heap := I1.base
  obtain ⟨⟨oc, fv, t, atC, dC, nC⟩, _, _⟩ := I1.hok c' _ isC
  have ran : codeAny (model X.prog X.w) (X.A.deeper (envOfC qg sg s.heap.objs.size g cdg)) (.call (.ref f) ⟨[], []⟩) (CR (L2.CX X.prog X.w) (envOfC qg sg s.heap.objs.size g cdg :: X.stack) X.prog X.w HZ s1 Q (WE W σZ)) s1 := by
    refine PySem.W.kla_callFunE hr.depth fun1 rfl L.co L.gen rfl ⟨c', oc, fv, t, rfl, atC, dC, nC⟩ ?_
    rw [hbind]
    refine wpAny_pure (wpAny_newFunctionEnv (fun y hy => (L.own y hy).2) (fun y hy => absurd hy (by simp)) (fun h₁ hns hsb => ⟨I1.nolimit.fresh _ hsb, ?_⟩) L.kind)
    show codeAny _ _ (.expr body (lamEnv X scope s1.heap.objs.size f c')) _ _
    have kept : ∀ b o, s1.heap.get? b = some o → h₁.get? b = some o := fun b o e => hsb.extBut b o (Nat.ne_of_lt (Heap.lt_size e)) (Heap.get?_push_of_some _ e)
    have J : Inv (lamCx X (X.A.deeper (envOfC qg sg s.heap.objs.size g cdg)) (envOfC qg sg s.heap.objs.size g cdg :: X.stack) s1 HZ (WE W σZ) scope f c') [] σ HZ { s1 with heap := h₁, toks := s1.toks + ([] : List (Str × Value)).length } :=
      lam_start2 I L I1.env0 hr.hd un hns kept
    refine PySem.W.kla_codeExpr (wpAny_mono ((hbody _ _ s1 HZ (WE W σZ) (hr.deeper _)).run [] _ _ HZ Q J rd) (fun v s' out => ?_) fun _ _ y => y)
    obtain ⟨v', H', J', rv, y⟩ := out
    exact ⟨v', H', J'.os, J'.bare, J'.base, J'.hok, rv, y⟩
  refine wpAny_call (codeAny_mono ran fun r s' out => ?_)
  cases r with
  | error e => exact passAt tk σZ pinsZ HZ s1 e s' I1 out
  | ok fl =>
    cases fl with
    | ret u => exact I1.after out
    | next => exact out.elim
    | brk => exact out.elim
    | cont => exact out.elim
end
/-- what «except x as n» wishes of the body's exception, which is tracked behind the clause: slot i is n's -/
def wAsT (K : PySem.W.Frag) (c : Value) (i : Nat) (ts : Addr → Value → Option Addr → TS) (Wout : WX) (D : Ends) : WX := fun cls d σ H =>
  ∃ b, PySem.W.exmOne K cls c = some b ∧ (b = true → ∀ a, H a = none → ts a cls d { nx := fun σ' H' => H' a = none → D.nx (σ'.set i none) (upd H' a (ExT cls d a)), rt := fun _ _ => False, bk := fun _ _ => False, ct := fun _ _ => False } (σ.set i (some (.ref a))) H) ∧
    (b = false → Wout cls d σ H)
section
variable {X : Cx} {x n : Str} {c : Value} {i : Nat} {body suite : List Stmt} {b₀ : Stmt} {np pos pos' : Pos} {tb : WX → TS} {ts : Addr → Value → Option Addr → TS} {Wout : WX}
theorem ps_try_keep (hex : X.ex = []) (hs : X.stack = X.env :: X.outer) (hf : X.env.frame = some X.env.locals) (hN : X.N.Nodup) (hi : X.N[i]? = some n) (hln : X.env.kindOf n = some .local) (hc : Names X x c) (tk : Takes X Wout)
    (hb : ∀ (W : WX) (pn : List (Addr × Obj)) (xe : Value → Shared → Prop), Takes (X.tr pn xe) W → PassesOwn (model X.prog X.w) X.A X.env xe → PSs (X.tr pn xe) body (tb W))
    (hsu : ∀ (a : Addr) (oe : Obj) (cls : Value) (d : Option Addr) (pn : List (Addr × Obj)), Zc cls d oe → (∃ vs, oe.data = .fields vs) → PSs (X.suite a ((a, oe) :: pn)) (b₀ :: suite) (ts a cls d)) :
    PS X (.Try body [.ExceptHandler (some (.Name x np)) (some n) (b₀ :: suite) pos'] [] [] pos) (fun D σ H => tb (wAsT X.K c i ts Wout D) D σ H) := by
  refine ⟨fun pins s σ H D I rd => ?_⟩
  have ok := I.ok
  have frm : X.A.frames = some (X.env :: X.outer) := by rw [ok.frames, hs]
  have isLoc : Loc X.env.scope n := .inl hln
  refine wpAny_Try_except ?_
  refine wpAny_mono ((hb (wAsT X.K c i ts Wout D) (X.pn ++ pins) (fun e s₁ => wpAny (model X.prog X.w) X.A (noteFrame e X.env) (fun _ s₂ => wpAny (model X.prog X.w) X.A (setFlight e none) (fun _ s₃ =>
    wpAny (model X.prog X.w) X.A (handleBy e X.env [.ExceptHandler (some (.Name x np)) (some n) (b₀ :: suite) pos']) (SP X pins D) X.xe s₃) X.xe s₂) X.xe s₁) (fun u s' xx => ?_) PassesOwn.looking).run [] s σ H D (I.toTry _) rd) (fun f s1 hsp => ?_) (fun _ _ y => y)
  · obtain ⟨a, B, sI, pins', σ', H', cls, d, rfl, JT, nb, up, sky, na, sameOs, bare, b, hb1, hyes, hno⟩ := xx
    have J : Inv X pins σ' H' sI := JT.ofTry ok
    have air : Sky B (X.env :: X.outer) a (Zc cls d) X.env.locals s'.heap := by rw [← hs]; exact sky
    show wpAny _ X.A (noteFrame (.ref a) X.env) _ _ _
    refine Sky.land Zc.steady frm hf air fun h3 fl3 up3 => ?_
    have J3 : Inv X pins σ' H' { s' with heap := h3 } := J.landed nb fl3.1 (up.trans up3) sameOs bare
    obtain ⟨oe3, fv3, he3, hz3, hd3⟩ := fl3.there
    have offFr : a ∉ frs (X.env :: X.outer) := fun hm => by
      obtain ⟨_, o', e', hnf⟩ := fl3.2.2.1.mem hm
      rw [he3] at e'
      cases e'
      exact hnf _ hd3
    have nL : a ≠ X.env.locals := fun y => offFr (List.mem_filterMap.mpr ⟨X.env, List.mem_cons_self, by rw [hf, y]⟩)
    have nF : a ∉ X.fs := fun hm => by
      obtain ⟨e, he, q⟩ := List.mem_filterMap.mp hm
      exact offFr (List.mem_filterMap.mpr ⟨e, List.mem_cons_of_mem _ he, q⟩)
    -- a is newer than all that stood at the try, hence than the entry
    have newI : sI.heap.get? a = none := by
      cases y : sI.heap.get? a with
      | none => rfl
      | some o =>
        have q := nb a o y (by rw [hs]; exact offFr)
        rw [fl3.2.1] at q
        cases q
    have new0 : X.s_0.heap.get? a = none := by
      cases y : X.s_0.heap.get? a with
      | none => rfl
      | some o =>
        obtain ⟨o', q⟩ := J.base.there a o y (by rw [hex]; simp)
        rw [newI] at q
        cases q
    have offCell : ∀ y c, X.env.cells.lookup y = some c → c ≠ a := fun y c e q => by
      obtain ⟨_, o, ho, _⟩ := J.cell y c e
      rw [q, newI] at ho
      cases ho
    have offPin : ∀ p ∈ X.pn ++ pins, p.1 ≠ a := fun p hp q => by
      have ho := (J.pin p hp).1
      rw [q, newI] at ho
      cases ho
    have S3 := J3.suite he3 hd3 na nL nF
    refine wpAny_handleBy_cons (codeAny_handlers_test ?_) (by intro q; cases q)
    have LT : PySem.W.Looks (model X.prog X.w) h3 (typeOf (.ref a)) cls := fun A Q E s k q => wpAny_typeOf_ref (k _ _ he3) (by rw [hz3.1]; exact q)
    have LM := PySem.W.exm_one (M := model X.prog X.w) (J3.kIn) LT hb1
    have tested : ∀ {Q : Value → Shared → Prop} {E : Value → Shared → Prop}, Q c { s' with heap := h3 } → wpAny (model X.prog X.w) (X.A.mark (some (.ref a))) (eval (.Name x np) X.env) Q E { s' with heap := h3 } := fun {Q E} q => by
      obtain ⟨gl, nodbg, hm | ⟨hm, hv, hnn⟩⟩ := hc
      · exact ld_glob (X := X.suite a ((a, oe3) :: (X.pn ++ pins))) S3 gl hm q nodbg
      · exact ld_blt (X := X.suite a ((a, oe3) :: (X.pn ++ pins))) S3 gl hm hv q hnn nodbg
    refine tested (LM.here ?_)
    cases b with
    | true =>
      refine codeAny_handlers_suite_as (HandSPX.lands_againZ fl3 fun h4 fl4 up4 => ?_)
      have J4 : Inv X pins σ' H' { s' with heap := h4 } := J.landed nb fl4.1 ((up.trans up3).trans up4) sameOs bare
      obtain ⟨oe4, fv4, he4, hz4, hd4⟩ := fl4.there
      have S4 := J4.suite he4 hd4 na nL nF
      refine store_ok (X := X.suite a ((a, oe4) :: (X.pn ++ pins))) (v := .ref a) S4 hN hi isLoc rfl (fun s5 S5 => ?_) (.inr hln)
      refine wpAny_mono ((hsu a oe4 cls d (X.pn ++ pins) hz4 ⟨_, hd4⟩).run [] s5 _ H' _ S5 (hyes rfl a na)) (fun f s6 out => ?_) (fun _ _ y => False.elim y)
      cases f with
      | next =>
        obtain ⟨σ6, H6, S6, q6⟩ := out
        refine gone_ok (X := X.suite a ((a, oe4) :: (X.pn ++ pins))) S6 hN hi hln fun s7 S7 => ?_
        obtain ⟨e7, n7, _⟩ := S7.pin (a, oe4) (List.mem_append_left _ List.mem_cons_self)
        have J7 : Inv X pins (σ6.set i none) H6 s7 := S7.unsuite ok
        exact ⟨_, _, track J7 n7 new0 nL.symm offCell offPin (exT_ok e7 hz4 hd4), q6 n7⟩
      | brk =>
        obtain ⟨_, _, _, q6⟩ := out
        exact q6.elim
      | cont =>
        obtain ⟨_, _, _, q6⟩ := out
        exact q6.elim
      | ret u =>
        obtain ⟨_, _, _, _, _, q6⟩ := out
        exact q6.elim
    | false =>
      show wpAny _ X.A (handleBy (.ref a) X.env []) _ _ _
      refine wpAny_handleBy_nil ?_
      obtain ⟨k1, k2, k3, oe, fv, T, oT, ts', he, hz, hd, h1, hr⟩ := id fl3
      unfold PySem.passOn
      refine wpAny_bind (wpAny_field he hd h1 ?_)
      rw [if_neg (show ¬ ((Value.ref T == Value.none) = true) from by simp)]
      have onward : wpAny (model X.prog X.w) X.A (setFlight (.ref a) X.env.frame) (fun _ s4 => wpAny (model X.prog X.w) X.A (throw (.ref a) : Sem Flow) (SP X pins D) X.xe s4) X.xe { s' with heap := h3 } := by
        rw [hf]
        refine HandSPX.setFlight_upZ fl3 fun h4 hh4 up4 => wpAny_throw (tk _ _ ?_)
        exact ⟨a, B, sI, pins, σ', H', cls, d, rfl, J, nb, (up.trans up3).trans up4, .inr (.inr (by rw [hs]; exact hh4)), na, sameOs, bare, hno rfl⟩
      first
        | exact wpAny_bind (wpAny_pure (wpAny_bind onward))
        | exact wpAny_bind onward
  · cases f with
    | next =>
      obtain ⟨σ', H', J', y⟩ := hsp
      exact wpAny_execs_nil ⟨σ', H', J'.ofTry ok, y⟩
    | brk =>
      obtain ⟨σ', H', J', y⟩ := hsp
      exact ⟨σ', H', J'.ofTry ok, y⟩
    | cont =>
      obtain ⟨σ', H', J', y⟩ := hsp
      exact ⟨σ', H', J'.ofTry ok, y⟩
    | ret u =>
      obtain ⟨v, σ', H', J', r, y⟩ := hsp
      exact ⟨v, σ', H', J'.ofTry ok, r, y⟩
end
end Lm

namespace Lm
open PySem PySem.Spec PyProof.Rows L2
open LamX (CodeO TabS Tabs ExtN TabB LamS lamEnv lamCx run_ofS takes0)
abbrev sCaught : Stmt := Pre.top 30
abbrev nCaught : List Str := ["action", "found", "error"]
theorem scCaught : FnScope nCaught ["action"] (defScope sCaught) := ⟨rfl, rfl, rfl, by decide +kernel, rfl, by decide +kernel, by decide +kernel⟩
/-- _law_caught(e), e a lambda of this very frame: None if its body comes to a value; else what it raises, tracked -/
def tCaught (X : Cx) (k : Nat) (CS : Addr) (te : TA) : TE := fun σ H Q => te σ H fun vs H1 => ∃ (f c' : Addr) (params : Arguments) (body : Expr) (scope : Scope) (t : XK → TE), vs = [.ref f] ∧
  H1 f = some (LamO f (X.env.qual ++ "<lambda>") params body scope (cloFrom X.env.cells scope.names []) c') ∧ H1 c' = some (CodeO c' (X.env.qual ++ "<lambda>")) ∧ LamS X.env.scope scope ∧
  (∀ (q : Str) (cl : List (Str × Addr)) (pm cv ctv : Value), bindArgs (PySem.W.kla_fn "<lambda>" q params body scope cl pm cv ctv) ⟨[], []⟩ = pure []) ∧
  (∀ (A : Around) (outer : List Env) (s : Shared) (H : Hp) (E : XK), Room k (A.deeper (lamEnv X scope s.heap.objs.size f c')) → PE (lamCx X A outer s H E scope f c') body (t E)) ∧
  ∀ (E : XK) (R : VK), (∀ cls d H', PySem.W.exmOne X.K cls (.ref CS) = some true → (∀ a, H' a = none → Q (.ref a) (upd H' a (ExT cls d a))) → E cls d H') → (∀ v H', Q .non H' → R v H') → t E σ H1 R
theorem pe_caught {X : Cx} {g CS : Addr} {fdg : FuncData} {k : Nat} {e : Expr} {te : TA} {p pos : Pos} (FG : Fun X.K "_law_caught" "_law_caught" sCaught g fdg) (hm : X.mg "_law_caught" = some (.ref g)) (hCS : X.mg "ChanceError" = some (.ref CS)) (hr : Room (k + 2) X.A) (ha : PA X [e] te)
    (hg : Gl X "_law_caught" := by rfl) (he : starEach [e] X.env = (false, eval e X.env) :: starEach [] X.env := by rfl) (hpl : (backTo pos (starEach [] X.env)).any (·.1) = false := by rfl) :
    PE X (.Call (.Name "_law_caught" p) [e] [] pos) (tCaught X k CS te) := by
  have bG : L2.Binds X.K fdg ["action"] [] := FG.binds (ps := ["action"]) fun _ _ _ _ _ _ us hl => match us, hl with | [_], _ => rfl
  obtain ⟨oc, od, kV, doc, pm, an, cdv, ct, osl, rfl, lk, hcd⟩ := FG.ex
  refine ⟨fun pins s σ H Q I h => ?_⟩
  refine wpAny_Call_Name_kw (ld_glob I hg hm ?_)
  refine PySem.W.callWith_K (h₀ := X.base) I.ok.mod.kin FG.kp (thn (ha.run pos pins s σ H _ I h) fun us s1 ⟨vs, H1, I1, r1, f, c', params, body, scope, t, e1, isL, isC, L, hbind, hbody, rd⟩ => ⟨I1.kIn, ?_⟩) he hpl
  subst e1
  cases r1 with
  | @cons _ u0 _ ur ru rn =>
    cases rn
    obtain rfl : u0 = Value.ref f := ru
    show wpAny _ _ (call (.ref g) [.ref f]) _ _ _
    have ran : codeAny (model X.prog X.w) X.A (.call (.ref g) ⟨[.ref f], []⟩) (CR CX0 X.stack X.prog X.w H1 s1 Q E0) s1 := by
      refine run_ofS (N := nCaught) (ps := ["action"]) (us := [.ref f]) (vs := [.ref f]) lk hcd scCaught hr I1.env0 (bG s1 [.ref f] I1.kIn rfl) (.cons rfl .nil) rfl fun hr' => ?_
      have nd := scCaught.nd
      have term : ∀ (Xc : Cx), Xc = (cxOf CX0 X.prog X.w X.K X.mg X.base nCaught "_law_caught" (defScope sCaught) g cdv X.A X.stack s1 H1 E0).nox → ∃ t, PSs Xc (defBody sCaught) t ∧ t { nx := fun _ H' => Q .non H', rt := Q } (L2.start nCaught [.ref f]) H1 := by
        intro Xc eX
        subst eX
        refine ⟨_, pss_cons (ps_set (i := 1) nd rfl (Or.inl rfl) pe_non) (pss_cons (ps_try_keep (i := 2) (c := .ref CS)
            (tb := fun W D σZ HZ => σZ[0]? = some (some (.ref f)) ∧ HZ f = some (LamO f (X.env.qual ++ "<lambda>") params body scope (cloFrom X.env.cells scope.names []) c') ∧ HZ c' = some (CodeO c' (X.env.qual ++ "<lambda>")) ∧ t (WE W σZ) σ HZ (fun _ H' => D.nx σZ H'))
            (ts := fun _ _ _ => tAsg (tVar 2) (gName 1)) (Wout := fun _ _ _ _ => False) rfl rfl rfl nd rfl rfl ⟨rfl, by decide, .inl hCS⟩ LamX.takes0
            (fun W pn xe tk _ => ?_) (fun a oe cls d pn _ _ => pss_one (ps_set (i := 1) nd rfl (Or.inl rfl) (pv 2)))) (pss_one (ps_ret (pv 1)))), ?_⟩
        · refine ⟨fun pinsB s' σ' H' D IB hB => ?_⟩
          exact (pss_one (ps_expr (act_ok (CXg := CX0) (Eg := E0) (i := 0) I1 L hbind tk hr' hbody rfl (Or.inl rfl)))).run pinsB s' σ' H' D IB hB
        · refine ⟨rfl, isL, isC, rd _ _ (fun cls d H' ex q => ?_) fun v H' q => ⟨.non, rfl, q⟩⟩
          exact ⟨true, ex, fun _ a na => ⟨.ref a, rfl, fun hn => ⟨.ref a, rfl, q a hn⟩⟩, fun z => by cases z⟩
      obtain ⟨t', ht', hq'⟩ := term _ rfl
      exact ⟨t', ht'.nox, hq'⟩
    refine wpAny_call (codeAny_mono ran fun r s2 out => ?_)
    cases r with
    | error e => exact (show False from out).elim
    | ok fl =>
      cases fl with
      | ret u => exact I1.after out
      | next => exact out.elim
      | brk => exact out.elim
      | cont => exact out.elim
end Lm

namespace Gd
open PySem PySem.Spec PyProof.Rows L2
/-- what a def keeps where no text of a thing is being made -/
structure FnG (P0 : Program) (w : World) (K : PySem.W.Frag) (mg : Str → Option Value) (base : Heap) (CX : CXT) (k : Nat) (f : Addr) (fd : FuncData) (ps : List Str) (sp : Sp) : Prop where
  many : ∀ xs H Q E, sp xs H Q E → xs.length = ps.length
  goes : ∀ (A : Around) (out : List Env) (s : Shared) (H : Hp) (given : Args) (us : List Value) (xs : List V) (Q : VK) (E : XK), Room k A → A.guards = some [] → Env0 P0 w K mg base A out s H → BindsTo s fd given (ps.zip us) → Vals xs us → sp xs H Q E →
    codeAny (model P0 w) A (.call (.ref f) given) (CR CX out P0 w H s Q E) s
theorem fnG_of {CX : CXT} {P0 : Program} {w : World} {K : PySem.W.Frag} {mg : Str → Option Value} {base : Heap} {k : Nat} {f : Addr} {nm q : Str} {pm0 : Arguments} {bd : List Stmt} {sc : Scope} {v1 v2 v3 v4 cdv v5 oc : Value} {an od : Option Addr}
    {osl : Array (Option Value)} {N ps : List Str} {sp : Sp} (at_ : K.lookup f = some ⟨oc, od, .func (PySem.W.fnOf nm q pm0 bd sc v1 v2 v3 v4 an cdv v5), osl⟩) (code : PySem.W.codeIn K cdv q = true) (S : FnScope N ps sc)
    (many : ∀ xs H Q E, sp xs H Q E → xs.length = ps.length)
    (inside : ∀ (A : Around) (out : List Env) (s : Shared) (H : Hp) (xs : List V) (Q : VK) (E : XK), Room k (A.deeper (envOfC q sc s.heap.objs.size f cdv)) → A.guards = some [] → sp xs H Q E →
      ∃ t, PSs (cxOf CX P0 w K mg base N q sc f cdv A out s H E) bd t ∧ t { nx := fun _ H1 => Q .non H1, rt := Q } (start N xs) H) :
    FnG P0 w K mg base CX (k + 1) f (PySem.W.fnOf nm q pm0 bd sc v1 v2 v3 v4 an cdv v5) ps sp := by
  refine ⟨many, fun A out s H given us xs Q E room hG e0 bound r rd => ?_⟩
  have same := many _ _ _ _ rd
  have inK : K.In s.heap := e0.mod.kin.keeps fun b o e => (e0.bs b o e).1
  have noLim : s.heap.NoLimit := e0.mod.nolimit.keeps fun b o e => (e0.bs b o e).1
  have kinds : ∀ z ∈ ps.zip us, sc.names.lookup z.1 = some .local ∨ (sc.names.lookup z.1 = some .cell ∧ ((cellsFrom (s.heap.objs.size + 1) sc.names []).lookup z.1).isSome = true) := fun ⟨n, v⟩ hz => by
    rcases S.par n (List.of_mem_zip hz).1 with c | c
    · exact .inl c
    · exact .inr ⟨c, PySem.W.cellsFrom_some _ _ _ (.inl c)⟩
  refine codeAny_call_function room.depth (inK _ _ at_) rfl S.co S.gen rfl (PySem.W.codeRec_of inK code) (bound _ _ _ _ ?_)
  refine wpAny_newFunctionEnv_cells S.kind kinds fun en he s1 x => ?_
  subst he
  refine ⟨noLim.keeps x.toInCall.keep, codeAny_func ?_⟩
  obtain ⟨t, ht, rd2⟩ := inside A out s H xs Q E (room.deeper _) hG rd
  have J : Inv (cxOf CX P0 w K mg base N q sc f cdv A out s H E) [] (start N xs) H s1 := inv_start S room.hd e0 same r x
  refine wpAny_mono (ht.run [] s1 (start N xs) H _ J rd2) (fun fl s' out1 => ?_) fun _ _ z => z
  have ends : ∀ {σ1 : L2.St} {H1 : Hp} {v : V} {u : Value}, Inv (cxOf CX P0 w K mg base N q sc f cdv A out s H E) [] σ1 H1 s' → RelV v u → Q v H1 → CE out P0 w H s Q u s' :=
    fun {σ1 H1 v u} J1 rv z => ⟨v, H1, J1.os, J1.bare, J1.base, J1.hok, rv, z⟩
  cases fl with
  | next =>
    obtain ⟨_, _, J1, z⟩ := out1
    exact ends (v := V.non) (u := Value.none) J1 rfl z
  | ret u =>
    obtain ⟨_, _, _, J1, rv, z⟩ := out1
    exact ends J1 rv z
  | brk =>
    obtain ⟨_, _, _, z⟩ := out1
    exact z.elim
  | cont =>
    obtain ⟨_, _, _, z⟩ := out1
    exact z.elim
section
variable {P0 : Program} {w : World} {K : PySem.W.Frag} {mg : Str → Option Value} {base : Heap}
theorem fun_okG {x q : Str} {st : Stmt} {f : Addr} {fd : FuncData} {N ps : List Str} {k : Nat} {sp : Sp} (F : Fun K x q st f fd) (S : FnScope N ps (defScope st)) (many : ∀ xs H Q E, sp xs H Q E → xs.length = ps.length)
    (inside : ∀ (cdv : Value) (A : Around) (out : List Env) (s : Shared) (H : Hp) (xs : List V) (Q : VK) (E : XK), Room k (A.deeper (envOfC q (defScope st) s.heap.objs.size f cdv)) → A.guards = some [] → sp xs H Q E →
      ∃ t, PSs (cxOf CX0 P0 w K mg base N q (defScope st) f cdv A out s H E).nox (defBody st) t ∧ t { nx := fun _ H1 => Q .non H1, rt := Q } (start N xs) H) : FnG P0 w K mg base CX0 (k + 1) f fd ps sp := by
  obtain ⟨_, _, _, _, _, _, cdv, _, _, rfl, lk, code⟩ := F.ex
  refine fnG_of lk code S many fun A out s H xs Q E room hG rd => ?_
  obtain ⟨t, ht, rd2⟩ := inside cdv A out s H xs Q E room hG rd
  exact ⟨t, ht.nox, rd2⟩
end
section
variable {X : Cx} {CX : CXT} {k : Nat} {f : Addr} {fd : FuncData} {ps : List Str} {sp : Sp} {E : XK} {x : Str} {p pos : Pos} {e : Expr} {es : List Expr} {t : TA}
theorem pe_callG (F : FnG X.prog X.w X.K X.mg X.base CX k f fd ps sp) (room : Room k X.A) (hG : X.A.guards = some []) (hg : Gl X x) (hm : X.mg x = some (.ref f)) (hk : PySem.W.keepIn X.K (.ref f) = true) (hb : Binds X.K fd ps []) (hx : Passes CX X E)
    (ha : PA X (e :: es) t) (hdb : (x == ("__debug__" : Str)) = false := by decide) (he : starEach (e :: es) X.env = (false, eval e X.env) :: starEach es X.env := by rfl) (hpl : (backTo pos (starEach es X.env)).any (·.1) = false := by rfl) :
    PE X (.Call (.Name x p) (e :: es) [] pos) (tCall sp [] E t) := by
  refine ⟨fun pins s σ H Q I rd => ?_⟩
  refine wpAny_Call_Name_kw (ld_glob I hg hm ?_ hdb)
  refine PySem.W.callWith_K (h₀ := X.base) I.ok.mod.kin hk (thn (ha.run pos pins s σ H _ I rd) fun us s1 ⟨xs, H1, I1, r, z⟩ => ⟨I1.kIn, ?_⟩) he hpl
  have z' : sp xs H1 Q E := by
    have q : sp (xs ++ []) H1 Q E := z
    rw [List.append_nil] at q
    exact q
  have hl : us.length = ps.length := (r.length).symm.trans (F.many _ _ _ _ z')
  have b := hb s1 us I1.kIn (by rw [List.append_nil]; exact hl)
  rw [List.append_nil] at b
  refine wpAny_call (codeAny_mono (F.goes X.A X.stack s1 H1 ⟨us, []⟩ us xs Q E room hG I1.env0 b r z') fun r s2 out => ?_)
  cases r with
  | error e => exact hx pins σ H1 s1 e s2 I1 out
  | ok fl =>
    cases fl with
    | ret u => exact I1.after out
    | next => exact out.elim
    | brk => exact out.elim
    | cont => exact out.elim
end
theorem sameText {X : Cx} (hG : X.A.guards = some []) (room : X.A.units + 64 < cLine) : CallR X (.builtin "repr") (fun xs H Q => ∃ a d, xs = [.ref a] ∧ Dp X.K H (.ref a) d ∧ d.showable = true ∧ d.hasDict = false ∧ d.depth < 32 ∧ d.shown.length ≤ sizeLine ∧ Q (.str d.shown) H) := by
  intro pins s σ H xs us Q I r h
  obtain ⟨a, d, rfl, hd, h1, h2, h3, h4, q⟩ := h
  obtain ⟨u, rfl, ru⟩ := vals1 r
  obtain ⟨as, rd⟩ := Dp.reads I d _ u hd ru
  obtain rfl : u = Value.ref a := ru
  exact repr_of_reads' rd h1 (PyData.noDict_hsm h2) hG (by omega) (fun _ _ z => z) (fun h' u tk k => ⟨.str d.shown, H, I.kept k, ⟨_, rfl⟩, q⟩) h4
/-- repr of None, of a truth, of a whole number, of a text -/
theorem int_log {i : Int} {n : Nat} (h : i.natAbs < 2 ^ n) (h0 : 0 < n) (h1 : n ≤ 1900) : i.natAbs.log2 < 1920 := Nat.lt_of_lt_of_le (PySem.Flt.log2_lt_of h0 h) (by omega)
theorem digits_len : ∀ (fuel n : Nat) (ds : List Char) (m : Nat), n < 10 ^ m → 0 < m → (Nat.toDigitsCore 10 fuel n ds).length ≤ ds.length + m
  | 0, n, ds, m, _, _ => by
    unfold Nat.toDigitsCore
    omega
  | fuel + 1, n, ds, m, h, h0 => by
    unfold Nat.toDigitsCore
    simp only
    split
    · simp only [List.length_cons]
      omega
    · rename_i hne
      have hn : n / 10 ≠ 0 := hne
      have hm : 1 < m := by
        rcases Nat.lt_or_ge 1 m with z | z
        · exact z
        · have e : m = 1 := by omega
          subst e
          omega
      have h2 : n / 10 < 10 ^ (m - 1) := by
        have e : 10 ^ m = 10 ^ (m - 1) * 10 := by
          rw [← Nat.pow_succ]
          congr 1
          omega
        rw [e] at h
        exact (Nat.div_lt_iff_lt_mul (by decide)).mpr h
      have := digits_len fuel (n / 10) (Nat.digitChar (n % 10) :: ds) (m - 1) h2 (by omega)
      simp only [List.length_cons] at this
      omega
end Gd

namespace Z3
open PySem PySem.Spec PyProof.Rows L2
/-- three lists at a, b and e as they stand at each turn, the items in new tuples -/
def Itz3 (K : PySem.W.Frag) (a b e : Addr) : It :=
  ⟨fun i H => ∃ (xs ys zs : List V) (x y z : V), SqL K H a xs ∧ SqL K H b ys ∧ SqL K H e zs ∧ xs[i]? = some x ∧ ys[i]? = some y ∧ zs[i]? = some z,
    fun i H v H' => ∃ T x y z, v = .ref T ∧ H T = none ∧ H' = upd H T (.tup [x, y, z]) ∧ (∀ xs, SqL K H a xs → xs[i]? = some x) ∧ (∀ ys, SqL K H b ys → ys[i]? = some y) ∧ ∀ zs, SqL K H e zs → zs[i]? = some z,
    fun i H => ∃ xs ys zs : List V, SqL K H a xs ∧ SqL K H b ys ∧ SqL K H e zs ∧ xs.length = i ∧ ys.length = i ∧ zs.length = i⟩
theorem sep3 {n a b e : Nat} (ha : a < n) (hb : b < n) (he : e < n) : ZipSep3 (n + 5) (n + 3) (n + 4) n (n + 1) (n + 2) [n, a] [n + 1, b] [n + 2, e] := by
  have ni : ∀ {x u v : Nat}, x ≠ u → x ≠ v → x ∉ ([u, v] : List Nat) := fun {x u v} h1 h2 h => by
    rcases List.mem_cons.mp h with z | z
    · exact h1 z
    · exact h2 (List.mem_singleton.mp z)
  have mi : ∀ {u v : Nat}, u ∈ ([u, v] : List Nat) := fun {u v} => List.mem_cons_self
  exact ⟨show n + 3 ≠ n + 5 by omega, show n + 4 ≠ n + 5 by omega, show n + 3 ≠ n + 4 by omega, show n + 3 ≠ n by omega, mi, ni (show n + 5 ≠ n by omega) (show n + 5 ≠ a by omega), ni (show n + 4 ≠ n by omega) (show n + 4 ≠ a by omega),
    show n + 3 ≠ n + 1 by omega, mi, ni (show n + 5 ≠ n + 1 by omega) (show n + 5 ≠ b by omega), ni (show n + 4 ≠ n + 1 by omega) (show n + 4 ≠ b by omega),
    show n + 3 ≠ n + 2 by omega, mi, ni (show n + 5 ≠ n + 2 by omega) (show n + 5 ≠ e by omega), ni (show n + 4 ≠ n + 2 by omega) (show n + 4 ≠ e by omega),
    ni (show n ≠ n + 1 by omega) (show n ≠ b by omega), ni (show n ≠ n + 2 by omega) (show n ≠ e by omega), ni (show n + 1 ≠ n by omega) (show n + 1 ≠ a by omega), ni (show n + 1 ≠ n + 2 by omega) (show n + 1 ≠ e by omega),
    ni (show n + 2 ≠ n by omega) (show n + 2 ≠ a by omega), ni (show n + 2 ≠ n + 1 by omega) (show n + 2 ≠ b by omega)⟩
abbrev St3 (n a b e : Nat) (i : Nat) (h : Heap) : Prop := IsZip h (n + 5) (n + 3) (n + 4) .none ∧ IsTupOf3 h (n + 3) (.ref n) (.ref (n + 1)) (.ref (n + 2)) ∧ (∃ u1 u2 u3, IsTupOf3 h (n + 4) u1 u2 u3) ∧ h.IsListIter n a i ∧ h.IsListIter (n + 1) b i ∧ h.IsListIter (n + 2) e i
abbrev own6 (n : Nat) : List Nat := [n + 5, n + 3, n + 4, n, n + 1, n + 2]
theorem own6_or {n c : Nat} (h : c ∈ own6 n) : c = n + 5 ∨ c = n + 3 ∨ c = n + 4 ∨ c = n ∨ c = n + 1 ∨ c = n + 2 := by simpa using h
theorem own6_ge {n c : Nat} (h : c ∈ own6 n) : n ≤ c := by
  rcases own6_or h with z | z | z | z | z | z <;> omega
theorem st3_obj {n a b e c : Nat} {i : Nat} {h : Heap} (st : St3 n a b e i h) (hc : c ∈ own6 n) : ∃ o, h.get? c = some o ∧ ∀ v, o.data ≠ .cell v := by
  obtain ⟨h1, h2, ⟨u1, u2, u3, h3⟩, ⟨o4, e4, _, d4⟩, ⟨o5, e5, _, d5⟩, ⟨o6, e6, _, d6⟩⟩ := st
  rcases own6_or hc with z | z | z | z | z | z
  · rw [z]; exact ⟨_, h1, fun v q => nomatch q⟩
  · rw [z]; exact ⟨_, h2, fun v q => nomatch q⟩
  · rw [z]; exact ⟨_, h3, fun v q => nomatch q⟩
  · rw [z]; exact ⟨o4, e4, fun v q => by rw [d4] at q; cases q⟩
  · rw [z]; exact ⟨o5, e5, fun v q => by rw [d5] at q; cases q⟩
  · rw [z]; exact ⟨o6, e6, fun v q => by rw [d6] at q; cases q⟩
theorem turn_zip3 {P0 : Program} {w : World} {K : PySem.W.Frag} {elts : List Expr} {kk : Nat} {tpos : Pos} {n a b e : Nat} (ha : a < n) (hb : b < n) (he : e < n) :
    Turn P0 w K (.Tuple elts kk tpos) (Itz3 K a b e) (own6 n) (n + 5) (St3 n a b e) where
  mem := by simp
  obj := fun i h st c hc => st3_obj st hc
  keep := fun i h h' st k => by
    obtain ⟨h1, h2, ⟨u1, u2, u3, h3⟩, h4, h5, h6⟩ := st
    exact ⟨k _ (by simp) _ h1, k _ (by simp) _ h2, ⟨u1, u2, u3, k _ (by simp) _ h3⟩, h4.at fun o q => k _ (by simp) o q, h5.at fun o q => k _ (by simp) o q, h6.at fun o q => k _ (by simp) o q⟩
  item := by
    intro X hP hw hK hc i pins s σ H E I hf st hg
    subst hP hw hK
    have there : ∀ c ∈ own6 n, c < s.heap.objs.size := fun c hc => by
      obtain ⟨o, ho, _⟩ := st3_obj st hc
      exact Heap.lt_size ho
    obtain ⟨h1, h2, ⟨u1, u2, u3, h3⟩, h4, h5, h6⟩ := st
    obtain ⟨xs, ys, zs, x, y, z, qx, qy, qz, hx, hy, hz⟩ := hg
    obtain ⟨its1, r1, p1, _⟩ := I.list qx
    obtain ⟨its2, r2, p2, _⟩ := I.list qy
    obtain ⟨its3, r3, p3, _⟩ := I.list qz
    obtain ⟨v1, hv1, rv1⟩ := r1.get hx
    obtain ⟨v2, hv2, rv2⟩ := r2.get hy
    obtain ⟨v3, hv3, rv3⟩ := r3.get hz
    have hh : X.A.in1.handled = none := I.ok.hd hc
    have l1 : i < its1.toArray.size := by
      have := (List.getElem?_eq_some_iff.mp hv1).1
      simpa using this
    have l2 : i < its2.toArray.size := by
      have := (List.getElem?_eq_some_iff.mp hv2).1
      simpa using this
    have l3 : i < its3.toArray.size := by
      have := (List.getElem?_eq_some_iff.mp hv3).1
      simpa using this
    have Dz := sep3 ha hb he
    have big : n + 5 < s.heap.objs.size := there _ (by simp)
    refine wpAny_pyNext_zipD3_item (sep3 ha hb he) (Draws.list hh n a (show a ≠ n by omega) its1.toArray) (Draws.list hh (n + 1) b (show b ≠ n + 1 by omega) its2.toArray) (Draws.list hh (n + 2) e (show e ≠ n + 2 by omega) its3.toArray) h1 h2 h3 ⟨h4, p1.isList⟩ ⟨h5, p2.isList⟩ ⟨h6, p3.isList⟩ l1 l2 l3
      fun w1 w2 w3 h' tk e1 e2 e3 z' TO' st1 st2 st3 hT hsz hk => ?_
    obtain rfl : w1 = v1 := by simpa [hv1] using e1.symm
    obtain rfl : w2 = v2 := by simpa [hv2] using e2.symm
    obtain rfl : w3 = v3 := by simpa [hv3] using e3.symm
    refine ⟨_, rfl, wpAny_letOwnedTupleGo_zip (s := { s with heap := h', toks := tk }) z' fun h'' z'' sb => ?_⟩
    have hT2 : h''.get? s.heap.objs.size = some { cls := .type "tuple", data := .seq #[w1, w2, w3] } := (sb.2 _ (Nat.ne_of_gt big)).trans hT
    have new : ObjOk X.prog X.w (upd H s.heap.objs.size (.tup [x, y, z])) h'' s.heap.objs.size (.tup [x, y, z]) :=
      ⟨by show 3 ≤ sizeLine; decide, [w1, w2, w3], .cons rv1 (.cons rv2 (.cons rv3 .nil)), ⟨_, hT2, rfl, _, rfl⟩⟩
    have J : Inv X pins σ (upd H s.heap.objs.size (.tup [x, y, z])) { s with heap := h'', toks := tk } :=
      I.turnedNew (t' := tk) (ch := own6 n) (fun c o hb q => (sb.2 c (fun q' => hb (by simp [q']))).trans (hk c o (fun q' => hb (by simp [q'])) (fun q' => hb (by simp [q'])) (fun q' => hb (by simp [q'])) (fun q' => hb (by simp [q'])) (fun q' => hb (by simp [q'])) q)) hf (Nat.le_refl _) new
    refine ⟨.ref s.heap.objs.size, _, J, rfl, ⟨_, x, y, z, rfl, I.hok.fresh (Nat.le_refl _), rfl, fun l hl => by rw [I.list_inj hl qx]; exact hx, fun l hl => by rw [I.list_inj hl qy]; exact hy, fun l hl => by rw [I.list_inj hl qz]; exact hz⟩, ⟨z'', ?_, ⟨w1, w2, w3, ?_⟩, ?_, ?_, ?_⟩, fun c hcm => ?_⟩
    · exact (sb.2 _ Dz.TIz).trans (hk _ _ Dz.TIz Dz.TITO Dz.TIi1 Dz.TIi2 Dz.TIi3 h2)
    · exact (sb.2 _ Dz.TOz).trans TO'
    · exact st1.1.at fun o q => (sb.2 _ Dz.zi1.symm).trans q
    · exact st2.1.at fun o q => (sb.2 _ Dz.zi2.symm).trans q
    · exact st3.1.at fun o q => (sb.2 _ Dz.zi3.symm).trans q
    · rw [upd_ne (Nat.ne_of_lt (there c hcm))]
      exact (hf c hcm).1
  done := by
    intro X hP hw hK hc i pins s σ H E I hf st hg
    subst hP hw hK
    obtain ⟨h1, h2, ⟨u1, u2, u3, h3⟩, h4, h5, h6⟩ := st
    obtain ⟨xs, ys, zs, qx, qy, qz, n1, n2, n3⟩ := hg
    obtain ⟨its1, r1, p1, _⟩ := I.list qx
    obtain ⟨its2, r2, p2, _⟩ := I.list qy
    obtain ⟨its3, r3, p3, _⟩ := I.list qz
    have hh : X.A.in1.handled = none := I.ok.hd hc
    have m1 : its1.toArray.size = i := by rw [List.size_toArray, ← r1.length, n1]
    have m2 : its2.toArray.size = i := by rw [List.size_toArray, ← r2.length, n2]
    have m3 : its3.toArray.size = i := by rw [List.size_toArray, ← r3.length, n3]
    exact wpAny_pyNext_zipD3_end (sep3 ha hb he) (Draws.list hh n a (show a ≠ n by omega) its1.toArray) (Draws.list hh (n + 1) b (show b ≠ n + 1 by omega) its2.toArray) (Draws.list hh (n + 2) e (show e ≠ n + 2 by omega) its3.toArray) h1 h2 h3 ⟨h4, p1.isList⟩ ⟨h5, p2.isList⟩ ⟨h6, p3.isList⟩ (by omega) (by omega) (by omega) (.inl m1.symm)
      fun h' tk hk => ⟨rfl, I.turnedL (t' := tk) (ch := own6 n) (fun c o hb q => hk c o (fun q' => hb (by simp [q'])) (fun q' => hb (by simp [q'])) (fun q' => hb (by simp [q'])) (fun q' => hb (by simp [q'])) (fun q' => hb (by simp [q'])) q) hf⟩
  self := fun A i s Q E st h => wpAny_pyIter_zip st.1 h
def iZip3 (K : PySem.W.Frag) (ta : TA) : TI := fun σ H R => ta σ H fun vs H1 => ∃ a b e xs ys zs, vs = [.ref a, .ref b, .ref e] ∧ SqL K H1 a xs ∧ SqL K H1 b ys ∧ SqL K H1 e zs ∧ R (Itz3 K a b e) H1
theorem pi_zip3 {X : Cx} {e1 e2 e3 : Expr} {ta : TA} {p pos tpos : Pos} {elts : List Expr} {kk : Nat} (hg : Gl X "zip") (hm : X.mg "zip" = none) (ha : PA X [e1, e2, e3] ta)
    (hs : starEach [e1, e2, e3] X.env = (false, eval e1 X.env) :: starEach [e2, e3] X.env := by rfl) (hpl : (backTo pos (starEach [e2, e3] X.env)).any (·.1) = false := by rfl) :
    PI X (.Tuple elts kk tpos) (.Call (.Name "zip" p) [e1, e2, e3] [] pos) (iZip3 X.K ta) := by
  refine ⟨fun pins s σ H R I h => ?_⟩
  refine Call_ (ld_blt I hg hm PyProof.Rows.boot_zip (PyProof.Rows.callWith_type1 (thn (ha.run pos pins s σ H _ I h) fun us s1 ⟨vs, H1, I1, r, a, b, e, xs, ys, zs, ex, qx, qy, qz, q⟩ => ?_) hs hpl))
  subst ex
  cases r with
  | cons r1 r => cases r with
    | cons r2 r => cases r with
      | cons r3 r =>
        cases r
        cases r1
        cases r2
        cases r3
        obtain ⟨its1, _, p1, _⟩ := I1.list qx
        obtain ⟨its2, _, p2, _⟩ := I1.list qy
        obtain ⟨its3, _, p3, _⟩ := I1.list qz
        refine zip_begins3 (begins_list a its1.toArray) (begins_list b its2.toArray) (begins_list e its3.toArray) p1.isList p2.isList p3.isList fun h' z1 z2 z3 z4 z5 z6 _ hk => wpAny_pyIter_zip z1 ?_
        have I2 : Inv X pins σ H1 { s1 with heap := h' } := I1.kept (t' := s1.toks) hk
        exact ⟨s1.heap.objs.size + 5, own6 s1.heap.objs.size, St3 s1.heap.objs.size a b e, _, H1, rfl, I2, turn_zip3 p1.lt p2.lt p3.lt, ⟨z1, z2, ⟨_, _, _, z3⟩, ⟨_, z4, rfl, rfl⟩, ⟨_, z5, rfl, rfl⟩, ⟨_, z6, rfl, rfl⟩⟩, fun c hc => I1.fpOk (own6_ge hc) (I1.hok.fresh (own6_ge hc)), q⟩
/-- a loop over three lists of one length -/
theorem for_zip3 {K : PySem.W.Frag} {a b e : Addr} {xs ys zs : List V} {g : TG} {tb : TS} {D : Ends} {σ : L2.St} {H : Hp} (l1 : xs.length = zs.length) (l2 : ys.length = zs.length) (Pv : Nat → L2.St → Hp → Prop) (h0 : Pv 0 σ H) (hq : ∀ i σ H, Pv i σ H → SqL K H a xs ∧ SqL K H b ys ∧ SqL K H e zs)
    (hs : ∀ (i : Nat) (x y z : V) (T : Addr) (σ : L2.St) (H : Hp), xs[i]? = some x → ys[i]? = some y → zs[i]? = some z → Pv i σ H → H T = none → g (.ref T) σ (upd H T (.tup [x, y, z])) fun σ2 H2 => tb { D with nx := Pv (i + 1), ct := Pv (i + 1), bk := D.nx } σ2 H2) (hd : ∀ σ H, Pv zs.length σ H → D.nx σ H) :
    ∃ W : Nat → Nat → L2.St → Hp → Prop, (∃ m, W 0 m σ H) ∧ ∀ i m σ H, W i m σ H →
      ((Itz3 K a b e).stop i H ∧ D.nx σ H) ∨ ((Itz3 K a b e).go i H ∧ ∃ N : L2.St → Hp → Prop, (∀ σ' H', N σ' H' → ∃ m', m' < m ∧ W (i + 1) m' σ' H') ∧ ∀ v H', (Itz3 K a b e).yld i H v H' → g v σ H' fun σ2 H2 => tb { D with nx := N, ct := N, bk := D.nx } σ2 H2) := by
  refine ⟨fun i m σ H => m = zs.length - i ∧ i ≤ zs.length ∧ Pv i σ H, ⟨zs.length, rfl, Nat.zero_le _, h0⟩, ?_⟩
  rintro i m σ H ⟨rfl, hi, p⟩
  obtain ⟨qx, qy, qz⟩ := hq i σ H p
  by_cases hlt : i < zs.length
  · have b1 : i < xs.length := by omega
    have b2 : i < ys.length := by omega
    refine .inr ⟨⟨xs, ys, zs, _, _, _, qx, qy, qz, List.getElem?_eq_getElem b1, List.getElem?_eq_getElem b2, List.getElem?_eq_getElem hlt⟩, Pv (i + 1), fun σ' H' p' => ⟨zs.length - (i + 1), by omega, rfl, hlt, p'⟩, fun v H' out => ?_⟩
    obtain ⟨T, x', y', z', rfl, hT, rfl, f1, f2, f3⟩ := out
    exact hs i x' y' z' T σ H (f1 xs qx) (f2 ys qy) (f3 zs qz) p hT
  · have e0 : i = zs.length := by omega
    subst e0
    exact .inl ⟨⟨xs, ys, zs, qx, qy, qz, l1, l2, rfl⟩, hd σ H p⟩
end Z3

namespace Wt
open PySem PySem.Spec PyProof.Rows L2
abbrev sIsWhole : Stmt := Pre.top 6
abbrev sIsList : Stmt := Pre.top 7
abbrev sIsTup : Stmt := Pre.top 8
abbrev sIsWt : Stmt := Pre.top 11
abbrev sShort : Stmt := Pre.top 12
abbrev sAdded : Stmt := Pre.top 13
abbrev sMul : Stmt := Pre.top 14
abbrev sBelow : Stmt := Pre.top 16
abbrev sTotal : Stmt := Pre.top 17

/-! ## fractions in lowest terms -/
def gI (t b : Int) : Int := (Int.gcd t b : Int)
def low (t b : Int) : Int × Int := if b < 0 then (-(t / gI t b), -(b / gI t b)) else (t / gI t b, b / gI t b)
theorem gI_pos {t b : Int} (h : b ≠ 0) : 0 < gI t b := by
  unfold gI
  have : 0 < Int.gcd t b := Int.gcd_pos_of_ne_zero_right t h
  omega
theorem gI_l (t b : Int) : gI t b ∣ t := Int.gcd_dvd_left ..
theorem gI_r (t b : Int) : gI t b ∣ b := Int.gcd_dvd_right ..
theorem fdiv_neg {g t : Int} (hg : 0 < g) (h : g ∣ t) : t.fdiv (-g) = -(t / g) := by
  obtain ⟨k, rfl⟩ := h
  rw [Int.mul_ediv_cancel_left _ (by omega)]
  have e : g * k = (-g) * (-k) := by rw [Int.neg_mul_neg]
  rw [e, Int.mul_fdiv_cancel_left _ (by omega)]
theorem neg_ediv {g t : Int} (hg : 0 < g) (h : g ∣ t) : (-1 * t) / g = -(t / g) := by
  obtain ⟨k, rfl⟩ := h
  rw [Int.mul_ediv_cancel_left _ (by omega)]
  have e : -1 * (g * k) = g * (-k) := by
    rw [Int.mul_neg, Int.neg_mul, Int.one_mul]
  rw [e, Int.mul_ediv_cancel_left _ (by omega)]
theorem ediv_abs {g t : Int} (hg : 0 < g) (h : g ∣ t) : (t / g).natAbs ≤ t.natAbs := by
  obtain ⟨k, rfl⟩ := h
  rw [Int.mul_ediv_cancel_left _ (by omega), Int.natAbs_mul]
  have : 1 ≤ g.natAbs := by omega
  exact Nat.le_mul_of_pos_left _ this
theorem low_abs1 {t b : Int} (h : b ≠ 0) : (low t b).1.natAbs ≤ t.natAbs := by
  unfold low
  split
  · show (-(t / gI t b)).natAbs ≤ _
    rw [Int.natAbs_neg]
    exact ediv_abs (gI_pos h) (gI_l t b)
  · exact ediv_abs (gI_pos h) (gI_l t b)
theorem low_abs2 {t b : Int} (h : b ≠ 0) : (low t b).2.natAbs ≤ b.natAbs := by
  unfold low
  split
  · show (-(b / gI t b)).natAbs ≤ _
    rw [Int.natAbs_neg]
    exact ediv_abs (gI_pos h) (gI_r t b)
  · exact ediv_abs (gI_pos h) (gI_r t b)
theorem low_pos {t b : Int} (h : b ≠ 0) : 0 < (low t b).2 := by
  have hg := gI_pos (t := t) h
  obtain ⟨k, e⟩ := gI_r t b
  have eb : b / gI t b = k := Int.ediv_eq_of_eq_mul_right (by omega) e
  have kpos : b < 0 → k < 0 := fun hb => by
    rcases Int.lt_or_le k 0 with q | q
    · exact q
    · have := Int.mul_nonneg (Int.le_of_lt hg) q
      omega
  have kpos' : ¬ b < 0 → 0 < k := fun hb => by
    rcases Int.lt_or_le 0 k with q | q
    · exact q
    · have := Int.mul_nonneg (Int.le_of_lt hg) (Int.neg_nonneg_of_nonpos q)
      rw [Int.mul_neg, ← e] at this
      omega
  unfold low
  split
  · rename_i hb
    have := kpos hb
    show 0 < -(b / gI t b)
    rw [eb]
    omega
  · rename_i hb
    show 0 < b / gI t b
    rw [eb]
    exact kpos' hb
/-- at most 2 ^ n in size -/
def sz (n : Nat) (w : Int × Int) : Prop := w.1.natAbs < 2 ^ n ∧ w.2.natAbs < 2 ^ n
def addW (w v : Int × Int) : Int × Int := low (w.1 * v.2 + v.1 * w.2) (w.2 * v.2)
def mulW (w v : Int × Int) : Int × Int := low (w.1 * v.1) (w.2 * v.2)
theorem ne_mul {a b : Int} (ha : a ≠ 0) (hb : b ≠ 0) : a * b ≠ 0 := fun e => by
  rcases Int.mul_eq_zero.mp e with q | q
  · exact ha q
  · exact hb q
theorem abs_mul_lt {a b : Int} {n m : Nat} (ha : a.natAbs < 2 ^ n) (hb : b.natAbs < 2 ^ m) : (a * b).natAbs < 2 ^ (n + m) := wide_lt ha hb
theorem abs_add_lt {a b : Int} {n : Nat} (ha : a.natAbs < 2 ^ n) (hb : b.natAbs < 2 ^ n) : (a + b).natAbs < 2 ^ (n + 1) := by
  have h1 := Int.natAbs_add_le a b
  rw [Nat.pow_succ]
  omega
theorem num_lt {w v : Int × Int} {n m : Nat} (hw : sz n w) (hv : sz m v) : (w.1 * v.2 + v.1 * w.2).natAbs < 2 ^ (n + m + 1) := by
  refine abs_add_lt (abs_mul_lt hw.1 hv.2) ?_
  have h := abs_mul_lt hv.1 hw.2
  rw [Nat.add_comm n m]
  exact h
theorem den_lt {w v : Int × Int} {n m : Nat} (hw : sz n w) (hv : sz m v) : (w.2 * v.2).natAbs < 2 ^ (n + m) := abs_mul_lt hw.2 hv.2
theorem sz_add {w v : Int × Int} {n m : Nat} (hw : sz n w) (hv : sz m v) (h1 : w.2 ≠ 0) (h2 : v.2 ≠ 0) : sz (n + m + 1) (addW w v) := by
  have h := ne_mul h1 h2
  refine ⟨Nat.lt_of_le_of_lt (low_abs1 h) (num_lt hw hv), Nat.lt_of_le_of_lt (low_abs2 h) ?_⟩
  have := den_lt hw hv
  rw [Nat.pow_succ]
  omega
theorem sz_low {t b : Int} {n : Nat} (h1 : t.natAbs < 2 ^ n) (h2 : b.natAbs < 2 ^ n) (h : b ≠ 0) : sz n (low t b) := ⟨Nat.lt_of_le_of_lt (low_abs1 h) h1, Nat.lt_of_le_of_lt (low_abs2 h) h2⟩
theorem sz_mul {w v : Int × Int} {n m : Nat} (hw : sz n w) (hv : sz m v) (h1 : w.2 ≠ 0) (h2 : v.2 ≠ 0) : sz (n + m) (mulW w v) := sz_low (abs_mul_lt hw.1 hv.1) (abs_mul_lt hw.2 hv.2) (ne_mul h1 h2)

/-! ## data by its kinds -/
def isInt : PyData → Bool
  | .int _ => true
  | _ => false
def tyN : PyData → String
  | .none => "NoneType"
  | .bool _ => "bool"
  | .int _ => "int"
  | .str _ => "str"
  | .list _ => "list"
  | .tuple _ => "tuple"
  | .dict _ => "dict"
theorem ty_of {K : PySem.W.Frag} {H : Hp} {x : V} {d : PyData} (h : Dp K H x d) : TyX K H x (.type (tyN d)) := by
  cases h with
  | non => exact .base .non
  | bl b => exact .base (.bl b)
  | int i => exact .base (.int i)
  | str z => exact .base (.str z)
  | lst q _ =>
    rcases q with (q | ⟨o, q⟩) | ⟨o, its, n, hk, hc, _⟩
    · exact .base (.lst q)
    · exact .base (.frz q)
    · exact .kList hk hc
  | tup q _ =>
    rcases q with (q | ⟨o, q⟩) | ⟨o, its, n, hk, hc, _⟩
    · exact .base (.tup q)
    · exact .fTuple q
    · exact .kTuple hk hc
/-- // by any divisor unlike 0 -/
def CDivA (_ j : Int) : Prop := j ≠ 0 ∧ j.natAbs.log2 < 9000
theorem op_fdivA {X : Cx} : OpR X (binaryOp .FloorDiv) (rI CDivA fun i j => .int (i.fdiv j)) := opI fun _ _ _ _ _ _ _ hc q => floordiv_int hc.1 q (.inl (PyProof.noPylong_of_log2 hc.2))
theorem log_lt {j : Int} {n : Nat} (h : j.natAbs < 2 ^ n) (h0 : 0 < n) : j.natAbs.log2 < n := PySem.Flt.log2_lt_of h0 h

structure TxtW (mg : Str → Option Value) : Prop where
  isi : mg "isinstance" = none
  int : mg "int" = none
  bool : mg "bool" = none
  list : mg "list" = none
  tuple : mg "tuple" = none
  len : mg "len" = none
  gcd : mg "gcd" = some (.builtin "math.gcd")
section
variable {P0 : Program} {w : World} {K : PySem.W.Frag} {mg : Str → Option Value} {base : Heap}
def spWhole (K : PySem.W.Frag) : Sp := fun vs H Q _ => ∃ x d, vs = [x] ∧ Dp K H x d ∧ Q (.bl (isInt d)) H
theorem scIsWhole : FnScope ["value"] ["value"] (defScope sIsWhole) := ⟨rfl, rfl, rfl, by decide +kernel, rfl, by decide +kernel, by decide +kernel⟩
theorem ok_whole {f : Addr} {fd : FuncData} (F : Fun K "is_whole" "is_whole" sIsWhole f fd) (T : TxtW mg) : FnOk P0 w K mg base CX0 1 f fd ["value"] (spWhole K) := by
  refine F.ok scIsWhole (fun vs H Q E h => ?_) (fun cdv A outer s H vs Q E hr h => ?_)
  · obtain ⟨x, d, rfl, _⟩ := h
    rfl
  · obtain ⟨x, d, rfl, hd, k⟩ := h
    refine ⟨_, pss_one (ps_ret (pe_and (pe_callB call_isi (by rfl) T.isi (by decide +kernel) (pa_cons (pv 0) (pa_cons (pe_bltn (v := .ty "int") (by rfl) T.int (by decide +kernel) rfl) pa_nil)))
      (pe_one (pe_not (pe_callB call_isi (by rfl) T.isi (by decide +kernel) (pa_cons (pv 0) (pa_cons (pe_bltn (v := .ty "bool") (by rfl) T.bool (by decide +kernel) rfl) pa_nil))))))), ?_⟩
    have ty := ty_of hd
    cases d with
    | int i => exact ⟨_, rfl, x, _, _, _, true, rfl, .ty _, ty, kit_ty (a := "int") (b := "int") (by decide +kernel), true, rfl, iteT ⟨_, rfl, x, _, _, _, false, rfl, .ty _, ty, kit_ty (a := "int") (b := "bool") (by decide +kernel), false, rfl, k⟩⟩
    | bool b => exact ⟨_, rfl, x, _, _, _, true, rfl, .ty _, ty, kit_ty (a := "bool") (b := "int") (by decide +kernel), true, rfl, iteT ⟨_, rfl, x, _, _, _, true, rfl, .ty _, ty, kit_ty (a := "bool") (b := "bool") (by decide +kernel), true, rfl, k⟩⟩
    | none => exact ⟨_, rfl, x, _, _, _, false, rfl, .ty _, ty, kit_ty (a := "NoneType") (b := "int") (by decide +kernel), false, rfl, iteF k⟩
    | str z => exact ⟨_, rfl, x, _, _, _, false, rfl, .ty _, ty, kit_ty (a := "str") (b := "int") (by decide +kernel), false, rfl, iteF k⟩
    | list z => exact ⟨_, rfl, x, _, _, _, false, rfl, .ty _, ty, kit_ty (a := "list") (b := "int") (by decide +kernel), false, rfl, iteF k⟩
    | tuple z => exact ⟨_, rfl, x, _, _, _, false, rfl, .ty _, ty, kit_ty (a := "tuple") (b := "int") (by decide +kernel), false, rfl, iteF k⟩
    | dict z => exact ⟨_, rfl, x, _, _, _, false, rfl, .ty _, ty, kit_ty (a := "dict") (b := "int") (by decide +kernel), false, rfl, iteF k⟩
def isTupN (m : Int) : PyData → Bool
  | .tuple ds => decide ((ds.length : Int) = m)
  | _ => false
def spTup (K : PySem.W.Frag) : Sp := fun vs H Q _ => ∃ x d m, vs = [x, .int m] ∧ Dp K H x d ∧ Q (.bl (isTupN m d)) H
theorem scIsTup : FnScope ["value", "many"] ["value", "many"] (defScope sIsTup) := ⟨rfl, rfl, rfl, by decide +kernel, rfl, by decide +kernel, by decide +kernel⟩
theorem dpAll_len {K : PySem.W.Frag} {H : Hp} : ∀ {xs : List V} {ds : List PyData}, DpAll K H xs ds → xs.length = ds.length
  | _, _, .nil => rfl
  | _, _, .cons _ r => congrArg Nat.succ (dpAll_len r)
theorem ok_tup {f : Addr} {fd : FuncData} (F : Fun K "is_tuple_of" "is_tuple_of" sIsTup f fd) (T : TxtW mg) : FnOk P0 w K mg base CX0 1 f fd ["value", "many"] (spTup K) := by
  refine F.ok scIsTup (fun vs H Q E h => ?_) (fun cdv A outer s H vs Q E hr h => ?_)
  · obtain ⟨x, d, m, rfl, _⟩ := h
    rfl
  · obtain ⟨x, d, m, rfl, hd, k⟩ := h
    refine ⟨_, pss_one (ps_ret (pe_and (pe_callB call_isi (by rfl) T.isi (by decide +kernel) (pa_cons (pv 0) (pa_cons (pe_bltn (v := .ty "tuple") (by rfl) T.tuple (by decide +kernel) rfl) pa_nil)))
      (pe_one (pe_cmpR op_eq (pe_callB call_len_seq (by rfl) T.len PySem.boot_len (pa_cons (pv 0) pa_nil)) (pv 1) (nomark _))))), ?_⟩
    have ty := ty_of hd
    cases hd with
    | @tup a xs ds q r =>
      refine ⟨_, rfl, _, _, _, _, true, rfl, .ty _, ty, kit_ty (a := "tuple") (b := "tuple") (by decide +kernel), true, rfl, iteT ⟨_, rfl, a, xs, rfl, .inr q, _, rfl, rfl, ?_⟩⟩
      rw [dec_int, dpAll_len r]
      exact k
    | non => exact ⟨_, rfl, _, _, _, _, false, rfl, .ty _, ty, kit_ty (a := "NoneType") (b := "tuple") (by decide +kernel), false, rfl, iteF k⟩
    | bl b => exact ⟨_, rfl, _, _, _, _, false, rfl, .ty _, ty, kit_ty (a := "bool") (b := "tuple") (by decide +kernel), false, rfl, iteF k⟩
    | int b => exact ⟨_, rfl, _, _, _, _, false, rfl, .ty _, ty, kit_ty (a := "int") (b := "tuple") (by decide +kernel), false, rfl, iteF k⟩
    | str b => exact ⟨_, rfl, _, _, _, _, false, rfl, .ty _, ty, kit_ty (a := "str") (b := "tuple") (by decide +kernel), false, rfl, iteF k⟩
    | lst q r => exact ⟨_, rfl, _, _, _, _, false, rfl, .ty _, ty, kit_ty (a := "list") (b := "tuple") (by decide +kernel), false, rfl, iteF k⟩
end
end Wt

namespace Wt
open PySem PySem.Spec PyProof.Rows L2
def isWt : PyData → Bool
  | .tuple [.int a, .int b] => decide (1 ≤ b) && (gI a b == 1)
  | _ => false
theorem isWt_tup {d : PyData} (h : isWt d = true) : isTupN 2 d = true := by
  unfold isWt at h
  split at h
  · rfl
  · cases h
theorem tup2 {K : PySem.W.Frag} {H : Hp} {x : V} {d : PyData} (hd : Dp K H x d) (h : isTupN 2 d = true) : ∃ a x1 x2 d1 d2, x = .ref a ∧ d = .tuple [d1, d2] ∧ SqT K H a [x1, x2] ∧ Dp K H x1 d1 ∧ Dp K H x2 d2 := by
  cases hd with
  | @tup a xs ds q r =>
    have hl : (ds.length : Int) = 2 := of_decide_eq_true h
    cases r with
    | nil =>
      simp only [List.length_nil] at hl
      omega
    | cons h1 r =>
      cases r with
      | nil =>
        simp only [List.length_cons, List.length_nil] at hl
        omega
      | cons h2 r =>
        cases r with
        | nil => exact ⟨a, _, _, _, _, rfl, rfl, q, h1, h2⟩
        | cons h3 r =>
          simp only [List.length_cons] at hl
          omega
  | non => cases h
  | bl b => cases h
  | int b => cases h
  | str b => cases h
  | lst q r => cases h
theorem sqT_same {K : PySem.W.Frag} {H H' : Hp} {a : Addr} {xs : List V} (e : Same H H') (h : SqT K H a xs) : SqT K H' a xs := by
  rcases h with (h | ⟨o, h⟩) | h
  · exact .inl (.inl (e _ _ h))
  · exact .inl (.inr ⟨o, e _ _ h⟩)
  · exact .inr h
mutual
theorem dp_same {K : PySem.W.Frag} {H H' : Hp} (e : Same H H') : ∀ {x : V} {d : PyData}, Dp K H x d → Dp K H' x d
  | _, _, .non => .non
  | _, _, .bl b => .bl b
  | _, _, .int i => .int i
  | _, _, .str s => .str s
  | _, _, .lst q r => .lst (e.seq q) (dpAll_same e r)
  | _, _, .tup q r => .tup (sqT_same e q) (dpAll_same e r)
theorem dpAll_same {K : PySem.W.Frag} {H H' : Hp} (e : Same H H') : ∀ {xs : List V} {ds : List PyData}, DpAll K H xs ds → DpAll K H' xs ds
  | _, _, .nil => .nil
  | _, _, .cons h r => .cons (dp_same e h) (dpAll_same e r)
end
/-- at a the pair w -/
abbrev At (K : PySem.W.Frag) (H : Hp) (a : Addr) (w : Int × Int) : Prop := SqT K H a [.int w.1, .int w.2]
theorem at_dp {K : PySem.W.Frag} {H : Hp} {a : Addr} {w : Int × Int} (h : At K H a w) : Dp K H (.ref a) (.tuple [.int w.1, .int w.2]) := .tup h (.cons (.int _) (.cons (.int _) .nil))
section
variable {P0 : Program} {w : World} {K : PySem.W.Frag} {mg : Str → Option Value} {base : Heap}
def spIsWt (K : PySem.W.Frag) : Sp := fun vs H Q _ => ∃ x d, vs = [x] ∧ Dp K H x d ∧ Q (.bl (isWt d)) H
theorem scIsWt : FnScope ["value", "top", "bottom"] ["value"] (defScope sIsWt) := ⟨rfl, rfl, rfl, by decide +kernel, rfl, by decide +kernel, by decide +kernel⟩
theorem ok_iswt {f fT fW : Addr} {fd dT dW : FuncData} (F : Fun K "is_weight" "is_weight" sIsWt f fd) (T : TxtW mg) (FT : Fun K "is_tuple_of" "is_tuple_of" sIsTup fT dT) (mT : mg "is_tuple_of" = some (.ref fT)) (FW : Fun K "is_whole" "is_whole" sIsWhole fW dW) (mW : mg "is_whole" = some (.ref fW)) :
    FnOk P0 w K mg base CX0 2 f fd ["value"] (spIsWt K) := by
  have GT : FnOk P0 w K mg base CX0 1 fT dT ["value", "many"] (spTup K) := ok_tup FT T
  have GW : FnOk P0 w K mg base CX0 1 fW dW ["value"] (spWhole K) := ok_whole FW T
  have bT := FT.binds (ps := ["value", "many"]) fun _ _ _ _ _ _ us hl => match us, hl with | [_, _], _ => rfl
  have bW := FW.binds (ps := ["value"]) fun _ _ _ _ _ _ us hl => match us, hl with | [_], _ => rfl
  refine F.ok scIsWt (fun vs H Q E h => ?_) (fun cdv A outer s H vs Q E hr h => ?_)
  · obtain ⟨x, d, rfl, _⟩ := h
    rfl
  · obtain ⟨x, d, rfl, hd, k⟩ := h
    have nd := scIsWt.nd
    refine ⟨_, pss_cons (ps_if (pt_not (pt_val (pe_call GT hr rfl mT FT.kp bT .nil pass0 (pa_cons (pv 0) (pa_cons pe_int pa_nil))))) (pss_one (ps_ret pe_bl)) pss_nil)
      (pss_cons (ps_asg (pv 0) (pg_tup (by rfl) (pgs_cons (pg_name (i := 1) nd rfl (Or.inl rfl)) (pgs_cons (pg_name (i := 2) nd rfl (Or.inl rfl)) pgs_nil))))
      (pss_one (ps_ret (pe_and (pe_call GW hr rfl mW FW.kp bW .nil pass0 (pa_cons (pv 1) pa_nil)) (pe_and (pe_call GW hr rfl mW FW.kp bW .nil pass0 (pa_cons (pv 2) pa_nil))
        (pe_and (pe_cmpR op_ge (pv 2) pe_int (nomark _)) (pe_one (pe_cmpR op_eq (pe_callBfun cr_gcd (by rfl) T.gcd (pa_cons (pv 1) (pa_cons (pv 2) pa_nil))) pe_int (nomark _))))))))), ?_⟩
    refine ⟨_, rfl, x, d, 2, rfl, hd, _, rfl, ?_⟩
    cases ht : isTupN 2 d with
    | false =>
      refine iteT ?_
      cases hw : isWt d with
      | true =>
        rw [isWt_tup hw] at ht
        cases ht
      | false =>
        rw [hw] at k
        exact k
    | true =>
      refine iteF ?_
      obtain ⟨a, x1, x2, d1, d2, rfl, rfl, q, h1, h2⟩ := tup2 hd ht
      refine ⟨_, rfl, a, _, rfl, q, rfl, _, _, rfl, _, _, rfl, rfl, _, rfl, x1, d1, rfl, h1, _, rfl, ?_⟩
      cases h1 with
      | int i =>
        refine iteT ⟨_, rfl, x2, d2, rfl, h2, _, rfl, ?_⟩
        cases h2 with
        | int j =>
          refine iteT ⟨_, rfl, _, _, rfl, rfl, _, rfl, ?_⟩
          by_cases hj : 1 ≤ j
          · rw [decide_eq_true hj]
            refine iteT ⟨_, rfl, _, rfl, i, j, rfl, rfl, ?_⟩
            rw [dec_int]
            have e : isWt (.tuple [.int i, .int j]) = (gI i j == 1) := by simp [isWt, hj]
            rw [e] at k
            exact k
          · rw [decide_eq_false hj]
            refine iteF ?_
            have e : isWt (.tuple [.int i, .int j]) = false := by simp [isWt, hj]
            rw [e] at k
            exact k
        | non => exact iteF k
        | bl b => exact iteF k
        | str b => exact iteF k
        | lst _ _ => exact iteF k
        | tup _ _ => exact iteF k
      | non => exact iteF k
      | bl b => exact iteF k
      | str b => exact iteF k
      | lst _ _ => exact iteF k
      | tup _ _ => exact iteF k
def spShort : Sp := fun vs H Q _ => ∃ (t b : Int) (n : Nat), vs = [.int t, .int b] ∧ b ≠ 0 ∧ b.natAbs < 2 ^ n ∧ 0 < n ∧ n ≤ 8000 ∧ ∀ (p : Addr) (H' : Hp), Same H H' → H' p = some (.tup [.int (low t b).1, .int (low t b).2]) → Q (.ref p) H'
theorem scShort : FnScope ["top", "bottom", "common"] ["top", "bottom"] (defScope sShort) := ⟨rfl, rfl, rfl, by decide +kernel, rfl, by decide +kernel, by decide +kernel⟩
theorem gI_small {t b : Int} {n : Nat} (hb : b ≠ 0) (h : b.natAbs < 2 ^ n) : (gI t b).natAbs < 2 ^ n := by
  refine Nat.lt_of_le_of_lt ?_ h
  have h1 : (gI t b).natAbs ∣ b.natAbs := Int.natAbs_dvd_natAbs.mpr (gI_r t b)
  exact Nat.le_of_dvd (by omega) h1
theorem ok_short {f : Addr} {fd : FuncData} (F : Fun K "shortened" "shortened" sShort f fd) (T : TxtW mg) : FnOk P0 w K mg base CX0 1 f fd ["top", "bottom"] spShort := by
  refine F.ok scShort (fun vs H Q E h => ?_) (fun cdv A outer s H vs Q E hr h => ?_)
  · obtain ⟨t, b, n, rfl, _⟩ := h
    rfl
  · obtain ⟨t, b, n, rfl, hb, hn, n0, n1, k⟩ := h
    have nd := scShort.nd
    have gp := gI_pos (t := t) hb
    have gs := gI_small (t := t) hb hn
    refine ⟨_, pss_cons (ps_set (i := 2) nd rfl (Or.inl rfl) (pe_callBfun cr_gcd (by rfl) T.gcd (pa_cons (pv 0) (pa_cons (pv 1) pa_nil))))
      (C8.pss_cut (ps_if (pt_cmpR op_lt (pv 1) pe_int (nomark _)) (pss_one (ps_set (i := 2) nd rfl (Or.inl rfl) (pe_un un_neg (pv 2)))) pss_nil)
      (pss_one (ps_ret (pe_tup (pa_cons (pe_op op_fdivA (pv 0) (pv 2)) (pa_cons (pe_op op_fdivA (pv 1) (pv 2)) pa_nil)))))), ?_⟩
    refine ⟨_, rfl, _, rfl, t, b, rfl, fun σ H' => ∃ c : Int, σ = [some (.int t), some (.int b), some (.int c)] ∧ H' = H ∧ c ≠ 0 ∧ c.natAbs < 2 ^ n ∧ t.fdiv c = (low t b).1 ∧ b.fdiv c = (low t b).2, ?_, ?_⟩
    · refine ⟨_, rfl, _, _, rfl, rfl, _, rfl, ite2 (fun c => ?_) (fun c => ?_)⟩
      · have hneg : b < 0 := of_decide_eq_true c
        refine ⟨_, rfl, _, rfl, -(gI t b), rfl, rfl, by omega, by rw [Int.natAbs_neg]; exact gs, ?_, ?_⟩
        · rw [fdiv_neg gp (gI_l t b)]
          simp only [low, if_pos hneg]
        · rw [fdiv_neg gp (gI_r t b)]
          simp only [low, if_pos hneg]
      · have hneg : ¬ b < 0 := fun q => c (decide_eq_true q)
        refine ⟨gI t b, rfl, rfl, by omega, gs, ?_, ?_⟩
        · rw [Int.fdiv_eq_ediv_of_nonneg _ (by omega)]
          simp only [low, if_neg hneg]
        · rw [Int.fdiv_eq_ediv_of_nonneg _ (by omega)]
          simp only [low, if_neg hneg]
    · rintro σ H' ⟨c, rfl, rfl, c0, c1, e1, e2⟩
      have lg : c.natAbs.log2 < 9000 := Nat.lt_of_lt_of_le (log_lt c1 n0) (by omega)
      refine ⟨_, rfl, _, rfl, _, _, rfl, rfl, ⟨c0, lg⟩, _, rfl, _, rfl, _, _, rfl, rfl, ⟨c0, lg⟩, by show 2 ≤ sizeLine; decide, fun p hp => ?_⟩
      refine k p _ (Pre.same_upd hp) ?_
      rw [upd_same]
      show some (HO.tup [V.int (t.fdiv c), V.int (b.fdiv c)]) = _
      rw [e1, e2]
theorem wide {i j : Int} {n m : Nat} (hi : i.natAbs < 2 ^ n) (hj : j.natAbs < 2 ^ m) (h1 : 0 < n) (h2 : 0 < m) (h : n + m ≤ 8000) : CMulW i j := wide_mul hi hj h1 h2 (by omega)
def spAdded (K : PySem.W.Frag) : Sp := fun vs H Q _ => ∃ (a b : Addr) (u v : Int × Int) (n m : Nat), vs = [.ref a, .ref b] ∧ At K H a u ∧ At K H b v ∧ u.2 ≠ 0 ∧ v.2 ≠ 0 ∧ sz n u ∧ sz m v ∧ 0 < n ∧ 0 < m ∧ n + m ≤ 7000 ∧
  ∀ (p : Addr) (H' : Hp), Same H H' → At K H' p (addW u v) → Q (.ref p) H'
theorem scAdded : FnScope ["one", "other"] ["one", "other"] (defScope sAdded) := ⟨rfl, rfl, rfl, by decide +kernel, rfl, by decide +kernel, by decide +kernel⟩
theorem ok_added {f fS : Addr} {fd dS : FuncData} (F : Fun K "added" "added" sAdded f fd) (T : TxtW mg) (FS : Fun K "shortened" "shortened" sShort fS dS) (mS : mg "shortened" = some (.ref fS)) : FnOk P0 w K mg base CX0 2 f fd ["one", "other"] (spAdded K) := by
  have GS : FnOk P0 w K mg base CX0 1 fS dS ["top", "bottom"] spShort := ok_short FS T
  have bS := FS.binds (ps := ["top", "bottom"]) fun _ _ _ _ _ _ us hl => match us, hl with | [_, _], _ => rfl
  refine F.ok scAdded (fun vs H Q E h => ?_) (fun cdv A outer s H vs Q E hr h => ?_)
  · obtain ⟨a, b, u, v, n, m, rfl, _⟩ := h
    rfl
  · obtain ⟨a, b, u, v, n, m, rfl, ha, hb, hu, hv, su, sv, n0, m0, nm, k⟩ := h
    refine ⟨_, pss_one (ps_ret (pe_call GS hr rfl mS FS.kp bS .nil pass0 (pa_cons (pe_op op_add (pe_op op_mulW (pe_ix ix_tup (pv 0) pe_int (fun _ _ => rfl)) (pe_ix ix_tup (pv 1) pe_int (fun _ _ => rfl))) (pe_op op_mulW (pe_ix ix_tup (pv 1) pe_int (fun _ _ => rfl)) (pe_ix ix_tup (pv 0) pe_int (fun _ _ => rfl))))
      (pa_cons (pe_op op_mulW (pe_ix ix_tup (pv 0) pe_int (fun _ _ => rfl)) (pe_ix ix_tup (pv 1) pe_int (fun _ _ => rfl))) pa_nil)))), ?_⟩
    refine ⟨_, rfl, a, _, _, _, rfl, rfl, ha, rfl, _, rfl, b, _, _, _, rfl, rfl, hb, rfl, _, _, rfl, rfl, wide su.1 sv.2 n0 m0 (by omega), ?_⟩
    refine ⟨_, rfl, b, _, _, _, rfl, rfl, hb, rfl, _, rfl, a, _, _, _, rfl, rfl, ha, rfl, _, _, rfl, rfl, wide sv.1 su.2 m0 n0 (by omega), _, _, rfl, rfl, ?_⟩
    refine ⟨_, rfl, a, _, _, _, rfl, rfl, ha, rfl, _, rfl, b, _, _, _, rfl, rfl, hb, rfl, _, _, rfl, rfl, wide su.2 sv.2 n0 m0 (by omega), ?_⟩
    exact ⟨_, _, n + m, rfl, ne_mul hu hv, den_lt su sv, by omega, by omega, fun p H' s1 hp => k p H' s1 (SqT.of hp)⟩
def spMul (K : PySem.W.Frag) : Sp := fun vs H Q _ => ∃ (a b : Addr) (u v : Int × Int) (n m : Nat), vs = [.ref a, .ref b] ∧ At K H a u ∧ At K H b v ∧ u.2 ≠ 0 ∧ v.2 ≠ 0 ∧ sz n u ∧ sz m v ∧ 0 < n ∧ 0 < m ∧ n + m ≤ 7000 ∧
  ∀ (p : Addr) (H' : Hp), Same H H' → At K H' p (mulW u v) → Q (.ref p) H'
theorem scMul : FnScope ["one", "other"] ["one", "other"] (defScope sMul) := ⟨rfl, rfl, rfl, by decide +kernel, rfl, by decide +kernel, by decide +kernel⟩
theorem ok_mul {f fS : Addr} {fd dS : FuncData} (F : Fun K "multiplied" "multiplied" sMul f fd) (T : TxtW mg) (FS : Fun K "shortened" "shortened" sShort fS dS) (mS : mg "shortened" = some (.ref fS)) : FnOk P0 w K mg base CX0 2 f fd ["one", "other"] (spMul K) := by
  have GS : FnOk P0 w K mg base CX0 1 fS dS ["top", "bottom"] spShort := ok_short FS T
  have bS := FS.binds (ps := ["top", "bottom"]) fun _ _ _ _ _ _ us hl => match us, hl with | [_, _], _ => rfl
  refine F.ok scMul (fun vs H Q E h => ?_) (fun cdv A outer s H vs Q E hr h => ?_)
  · obtain ⟨a, b, u, v, n, m, rfl, _⟩ := h
    rfl
  · obtain ⟨a, b, u, v, n, m, rfl, ha, hb, hu, hv, su, sv, n0, m0, nm, k⟩ := h
    refine ⟨_, pss_one (ps_ret (pe_call GS hr rfl mS FS.kp bS .nil pass0 (pa_cons (pe_op op_mulW (pe_ix ix_tup (pv 0) pe_int (fun _ _ => rfl)) (pe_ix ix_tup (pv 1) pe_int (fun _ _ => rfl)))
      (pa_cons (pe_op op_mulW (pe_ix ix_tup (pv 0) pe_int (fun _ _ => rfl)) (pe_ix ix_tup (pv 1) pe_int (fun _ _ => rfl))) pa_nil)))), ?_⟩
    refine ⟨_, rfl, a, _, _, _, rfl, rfl, ha, rfl, _, rfl, b, _, _, _, rfl, rfl, hb, rfl, _, _, rfl, rfl, wide su.1 sv.1 n0 m0 (by omega), ?_⟩
    refine ⟨_, rfl, a, _, _, _, rfl, rfl, ha, rfl, _, rfl, b, _, _, _, rfl, rfl, hb, rfl, _, _, rfl, rfl, wide su.2 sv.2 n0 m0 (by omega), ?_⟩
    exact ⟨_, _, n + m, rfl, ne_mul hu hv, den_lt su sv, by omega, by omega, fun p H' s1 hp => k p H' s1 (SqT.of hp)⟩
def belowW (u v : Int × Int) : Bool := decide (u.1 * v.2 < v.1 * u.2)
def spBelow (K : PySem.W.Frag) : Sp := fun vs H Q _ => ∃ (a b : Addr) (u v : Int × Int) (n m : Nat), vs = [.ref a, .ref b] ∧ At K H a u ∧ At K H b v ∧ sz n u ∧ sz m v ∧ 0 < n ∧ 0 < m ∧ n + m ≤ 7000 ∧ Q (.bl (belowW u v)) H
theorem scBelow : FnScope ["one", "other"] ["one", "other"] (defScope sBelow) := ⟨rfl, rfl, rfl, by decide +kernel, rfl, by decide +kernel, by decide +kernel⟩
theorem ok_below {f : Addr} {fd : FuncData} (F : Fun K "lies_below" "lies_below" sBelow f fd) : FnOk P0 w K mg base CX0 1 f fd ["one", "other"] (spBelow K) := by
  refine F.ok scBelow (fun vs H Q E h => ?_) (fun cdv A outer s H vs Q E hr h => ?_)
  · obtain ⟨a, b, u, v, n, m, rfl, _⟩ := h
    rfl
  · obtain ⟨a, b, u, v, n, m, rfl, ha, hb, su, sv, n0, m0, nm, k⟩ := h
    refine ⟨_, pss_one (ps_ret (pe_cmpR op_lt (pe_op op_mulW (pe_ix ix_tup (pv 0) pe_int (fun _ _ => rfl)) (pe_ix ix_tup (pv 1) pe_int (fun _ _ => rfl))) (pe_op op_mulW (pe_ix ix_tup (pv 1) pe_int (fun _ _ => rfl)) (pe_ix ix_tup (pv 0) pe_int (fun _ _ => rfl))) (nomark _))), ?_⟩
    refine ⟨_, rfl, a, _, _, _, rfl, rfl, ha, rfl, _, rfl, b, _, _, _, rfl, rfl, hb, rfl, _, _, rfl, rfl, wide su.1 sv.2 n0 m0 (by omega), ?_⟩
    exact ⟨_, rfl, b, _, _, _, rfl, rfl, hb, rfl, _, rfl, a, _, _, _, rfl, rfl, ha, rfl, _, _, rfl, rfl, wide sv.1 su.2 m0 n0 (by omega), _, _, rfl, rfl, k⟩
end
end Wt

namespace Wt
open PySem PySem.Spec PyProof.Rows L2
abbrev sCheck : Stmt := Pre.top 19
abbrev sPlus : Stmt := Pre.top 20
abbrev sTimes : Stmt := Pre.top 21
abbrev sLess : Stmt := Pre.top 22
abbrev sIsBelow : Stmt := Pre.top 23
abbrev veT : List Value := [.type "ValueError", .type "Exception", .type "BaseException", .type "object"]
/-- an error of the text -/
structure ErC (K : PySem.W.Frag) (mg : Str → Option Value) (x : Str) (C : Addr) : Prop where
  g : mg x = some (.ref C)
  q : PySem.W.excIn K C veT "ValueError.__new__" = true
  k : PySem.W.keepIn K (.ref C) = true
  b : PySem.W.subIn K (.ref C) (.type "BaseException") = some true
  t : PySem.W.typeIn K (.ref C) = some (.type "type")
/-- u is a weight -/
def isW (u : Int × Int) : Prop := isWt (.tuple [.int u.1, .int u.2]) = true
theorem isW_pos {u : Int × Int} (h : isW u) : 1 ≤ u.2 := by
  unfold isW isWt at h
  rw [Bool.and_eq_true] at h
  exact of_decide_eq_true h.1
structure Er (K : PySem.W.Frag) (mg : Str → Option Value) (CW CN CK : Addr) : Prop where
  w : ErC K mg "BadWeight" CW
  n : ErC K mg "BadNumber" CN
section
variable {P0 : Program} {w : World} {K : PySem.W.Frag} {mg : Str → Option Value} {base : Heap}
def spCheck (K : PySem.W.Frag) (C : Addr) : Sp := fun vs H Q E => ∃ x y d e, vs = [x, y] ∧ Dp K H x d ∧ Dp K H y e ∧ ((isWt d && isWt e) = true → Q .non H) ∧ ((isWt d && isWt e) = false → E (.ref C) none H)
theorem scCheck : FnScope ["one", "other"] ["one", "other"] (defScope sCheck) := ⟨rfl, rfl, rfl, by decide +kernel, rfl, by decide +kernel, by decide +kernel⟩
theorem ok_check {f fI C : Addr} {fd dI : FuncData} (F : Fun K "_check_both" "_check_both" sCheck f fd) (GI : ∀ base, FnOk P0 w K mg base CX0 2 fI dI ["value"] (spIsWt K)) (FI : Fun K "is_weight" "is_weight" sIsWt fI dI) (mI : mg "is_weight" = some (.ref fI)) (e : ErC K mg "BadWeight" C) :
    FnOk P0 w K mg base (L2.CX P0 w) 3 f fd ["one", "other"] (spCheck K C) := by
  have GI := GI base
  have bI := FI.binds (ps := ["value"]) fun _ _ _ _ _ _ us hl => match us, hl with | [_], _ => rfl
  refine F.okX scCheck (fun vs H Q E h => ?_) (fun cdv A outer s H vs Q E hr h => ?_)
  · obtain ⟨x, y, d, e, rfl, _⟩ := h
    rfl
  · obtain ⟨x, y, d, e', rfl, hd, he, k1, k2⟩ := h
    refine ⟨_, pss_cons (ps_if (pt_not (pt_val (pe_call GI hr rfl mI FI.kp bI .nil pass0 (pa_cons (pv 0) pa_nil)))) (pss_one (ps_raise rfl (takes_of rfl rfl rfl rfl) (pmk_own PySem.F.excBase_ValueError e.q e.g e.k (raises_own e.b e.t) rfl))) pss_nil)
      (pss_one (ps_if (pt_not (pt_val (pe_call GI hr rfl mI FI.kp bI .nil pass0 (pa_cons (pv 1) pa_nil)))) (pss_one (ps_raise rfl (takes_of rfl rfl rfl rfl) (pmk_own PySem.F.excBase_ValueError e.q e.g e.k (raises_own e.b e.t) rfl))) pss_nil)), ?_⟩
    refine ⟨_, rfl, x, d, rfl, hd, _, rfl, ?_⟩
    cases h1 : isWt d with
    | false => exact iteT (k2 (by rw [h1]; rfl))
    | true =>
      refine iteF ⟨_, rfl, y, e', rfl, he, _, rfl, ?_⟩
      cases h2 : isWt e' with
      | false => exact iteT (k2 (by rw [h1, h2]; rfl))
      | true => exact iteF (k1 (by rw [h1, h2]; rfl))
end
end Wt

namespace Wt
open PySem PySem.Spec PyProof.Rows L2
abbrev sWeight : Stmt := Pre.top 18
abbrev sTotal' : Stmt := Pre.top 17
abbrev sSummed : Stmt := Pre.top 24
theorem sz_mono {n m : Nat} {u : Int × Int} (h : sz n u) (l : n ≤ m) : sz m u := by
  have e : 2 ^ n ≤ 2 ^ m := Nat.pow_le_pow_right (by decide) l
  exact ⟨Nat.lt_of_lt_of_le h.1 e, Nat.lt_of_lt_of_le h.2 e⟩
structure Two (K : PySem.W.Frag) (H : Hp) (a b : Addr) (u v : Int × Int) : Prop where
  a : At K H a u
  b : At K H b v
  wu : isW u
  wv : isW v
  su : sz 3000 u
  sv : sz 3000 v
theorem Two.d {K : PySem.W.Frag} {H : Hp} {a b : Addr} {u v : Int × Int} (t : Two K H a b u v) : (isWt (.tuple [.int u.1, .int u.2]) && isWt (.tuple [.int v.1, .int v.2])) = true := by
  have h1 : isWt (.tuple [.int u.1, .int u.2]) = true := t.wu
  have h2 : isWt (.tuple [.int v.1, .int v.2]) = true := t.wv
  rw [h1, h2]
  rfl
def lessW (u v : Int × Int) : Int × Int := addW u (-v.1, v.2)
def spBin (K : PySem.W.Frag) (C : Addr) (op : Int × Int → Int × Int → Int × Int) : Sp := fun vs H Q E =>
  (∃ x y d e, vs = [x, y] ∧ Dp K H x d ∧ Dp K H y e ∧ (isWt d && isWt e) = false ∧ E (.ref C) none H) ∨ (∃ a b u v, vs = [.ref a, .ref b] ∧ Two K H a b u v ∧ ∀ (p : Addr) (H' : Hp), Same H H' → At K H' p (op u v) → Q (.ref p) H')
def spBelowX (K : PySem.W.Frag) (C : Addr) : Sp := fun vs H Q E =>
  (∃ x y d e, vs = [x, y] ∧ Dp K H x d ∧ Dp K H y e ∧ (isWt d && isWt e) = false ∧ E (.ref C) none H) ∨ (∃ a b u v, vs = [.ref a, .ref b] ∧ Two K H a b u v ∧ Q (.bl (belowW u v)) H)
section
variable {P0 : Program} {w : World} {K : PySem.W.Frag} {mg : Str → Option Value} {base : Heap}
theorem scPlus : FnScope ["one", "other"] ["one", "other"] (defScope sPlus) := ⟨rfl, rfl, rfl, by decide +kernel, rfl, by decide +kernel, by decide +kernel⟩
theorem scTimes : FnScope ["one", "other"] ["one", "other"] (defScope sTimes) := ⟨rfl, rfl, rfl, by decide +kernel, rfl, by decide +kernel, by decide +kernel⟩
theorem scLess : FnScope ["one", "other"] ["one", "other"] (defScope sLess) := ⟨rfl, rfl, rfl, by decide +kernel, rfl, by decide +kernel, by decide +kernel⟩
theorem scIsBelow : FnScope ["one", "other"] ["one", "other"] (defScope sIsBelow) := ⟨rfl, rfl, rfl, by decide +kernel, rfl, by decide +kernel, by decide +kernel⟩
theorem ok_plus {f fC fA C : Addr} {fd dC dA : FuncData} (F : Fun K "plus" "plus" sPlus f fd) (GC : ∀ base, FnOk P0 w K mg base (L2.CX P0 w) 3 fC dC ["one", "other"] (spCheck K C)) (FC : Fun K "_check_both" "_check_both" sCheck fC dC) (mC : mg "_check_both" = some (.ref fC))
    (GA : ∀ base, FnOk P0 w K mg base CX0 2 fA dA ["one", "other"] (spAdded K)) (FA : Fun K "added" "added" sAdded fA dA) (mA : mg "added" = some (.ref fA)) : FnOk P0 w K mg base (L2.CX P0 w) 4 f fd ["one", "other"] (spBin K C addW) := by
  have GC := GC base
  have GA := GA base
  have bC := FC.binds (ps := ["one", "other"]) fun _ _ _ _ _ _ us hl => match us, hl with | [_, _], _ => rfl
  have bA := FA.binds (ps := ["one", "other"]) fun _ _ _ _ _ _ us hl => match us, hl with | [_, _], _ => rfl
  refine F.okX scPlus (fun vs H Q E h => ?_) (fun cdv A outer s H vs Q E hr h => ?_)
  · rcases h with ⟨x, y, d, e, rfl, _⟩ | ⟨a, b, u, v, rfl, _⟩ <;> rfl
  · have hr2 : Room 2 _ := hr.mono (by decide)
    refine ⟨_, pss_cons (ps_expr (pe_callS GC hr rfl mC FC.kp bC (fun σ => passAt (takes_of rfl rfl rfl rfl) σ) (pa_cons (pv 0) (pa_cons (pv 1) pa_nil))))
      (pss_one (ps_ret (pe_call GA hr2 rfl mA FA.kp bA .nil pass0 (pa_cons (pv 0) (pa_cons (pv 1) pa_nil))))), ?_⟩
    rcases h with ⟨x, y, d, e, rfl, hd, he, hn, k⟩ | ⟨a, b, u, v, rfl, t, k⟩
    · refine ⟨_, rfl, _, rfl, x, y, d, e, rfl, hd, he, fun z => ?_, fun _ => k⟩
      rw [hn] at z
      cases z
    · refine ⟨_, rfl, _, rfl, _, _, _, _, rfl, at_dp t.a, at_dp t.b, fun _ => ?_, fun z => ?_⟩
      · have p1 := isW_pos t.wu
        have p2 := isW_pos t.wv
        exact ⟨_, rfl, _, rfl, a, b, u, v, 3000, 3000, rfl, t.a, t.b, by omega, by omega, t.su, t.sv, by decide, by decide, by decide, k⟩
      · rw [t.d] at z
        cases z
theorem ok_times {f fC fA C : Addr} {fd dC dA : FuncData} (F : Fun K "times" "times" sTimes f fd) (GC : ∀ base, FnOk P0 w K mg base (L2.CX P0 w) 3 fC dC ["one", "other"] (spCheck K C)) (FC : Fun K "_check_both" "_check_both" sCheck fC dC) (mC : mg "_check_both" = some (.ref fC))
    (GA : ∀ base, FnOk P0 w K mg base CX0 2 fA dA ["one", "other"] (spMul K)) (FA : Fun K "multiplied" "multiplied" sMul fA dA) (mA : mg "multiplied" = some (.ref fA)) : FnOk P0 w K mg base (L2.CX P0 w) 4 f fd ["one", "other"] (spBin K C mulW) := by
  have GC := GC base
  have GA := GA base
  have bC := FC.binds (ps := ["one", "other"]) fun _ _ _ _ _ _ us hl => match us, hl with | [_, _], _ => rfl
  have bA := FA.binds (ps := ["one", "other"]) fun _ _ _ _ _ _ us hl => match us, hl with | [_, _], _ => rfl
  refine F.okX scTimes (fun vs H Q E h => ?_) (fun cdv A outer s H vs Q E hr h => ?_)
  · rcases h with ⟨x, y, d, e, rfl, _⟩ | ⟨a, b, u, v, rfl, _⟩ <;> rfl
  · have hr2 : Room 2 _ := hr.mono (by decide)
    refine ⟨_, pss_cons (ps_expr (pe_callS GC hr rfl mC FC.kp bC (fun σ => passAt (takes_of rfl rfl rfl rfl) σ) (pa_cons (pv 0) (pa_cons (pv 1) pa_nil))))
      (pss_one (ps_ret (pe_call GA hr2 rfl mA FA.kp bA .nil pass0 (pa_cons (pv 0) (pa_cons (pv 1) pa_nil))))), ?_⟩
    rcases h with ⟨x, y, d, e, rfl, hd, he, hn, k⟩ | ⟨a, b, u, v, rfl, t, k⟩
    · refine ⟨_, rfl, _, rfl, x, y, d, e, rfl, hd, he, fun z => ?_, fun _ => k⟩
      rw [hn] at z
      cases z
    · refine ⟨_, rfl, _, rfl, _, _, _, _, rfl, at_dp t.a, at_dp t.b, fun _ => ?_, fun z => ?_⟩
      · have p1 := isW_pos t.wu
        have p2 := isW_pos t.wv
        exact ⟨_, rfl, _, rfl, a, b, u, v, 3000, 3000, rfl, t.a, t.b, by omega, by omega, t.su, t.sv, by decide, by decide, by decide, k⟩
      · rw [t.d] at z
        cases z
abbrev sSubt : Stmt := Pre.top 15
theorem scSubt : FnScope ["one", "other"] ["one", "other"] (defScope sSubt) := ⟨rfl, rfl, rfl, by decide +kernel, rfl, by decide +kernel, by decide +kernel⟩
def spSubt (K : PySem.W.Frag) : Sp := fun vs H Q _ => ∃ (a b : Addr) (u v : Int × Int) (n m : Nat), vs = [.ref a, .ref b] ∧ At K H a u ∧ At K H b v ∧ u.2 ≠ 0 ∧ v.2 ≠ 0 ∧ sz n u ∧ sz m v ∧ 0 < n ∧ 0 < m ∧ n + m ≤ 7000 ∧
  ∀ (p : Addr) (H' : Hp), Same H H' → At K H' p (lessW u v) → Q (.ref p) H'
theorem ok_subt {f fA : Addr} {fd dA : FuncData} (F : Fun K "subtracted" "subtracted" sSubt f fd)
    (GA : ∀ base, FnOk P0 w K mg base CX0 2 fA dA ["one", "other"] (spAdded K)) (FA : Fun K "added" "added" sAdded fA dA) (mA : mg "added" = some (.ref fA)) : FnOk P0 w K mg base CX0 3 f fd ["one", "other"] (spSubt K) := by
  have GA := GA base
  have bA := FA.binds (ps := ["one", "other"]) fun _ _ _ _ _ _ us hl => match us, hl with | [_, _], _ => rfl
  refine F.ok scSubt (fun vs H Q E h => ?_) (fun cdv A outer s H vs Q E hr h => ?_)
  · obtain ⟨a, b, u, v, n, m, rfl, _⟩ := h
    rfl
  · obtain ⟨a, b, u, v, n, m, rfl, ha, hb, u2, v2, su, sv, n0, m0, nm, k⟩ := h
    refine ⟨_, pss_one (ps_ret (pe_call GA hr rfl mA FA.kp bA .nil pass0 (pa_cons (pv 0) (pa_cons (pe_tup (pa_cons (pe_un un_neg (pe_ix ix_tup (pv 1) pe_int (fun _ _ => rfl))) (pa_cons (pe_ix ix_tup (pv 1) pe_int (fun _ _ => rfl)) pa_nil))) pa_nil)))), ?_⟩
    refine ⟨_, rfl, _, rfl, b, _, _, _, rfl, rfl, hb, rfl, _, rfl, _, rfl, b, _, _, _, rfl, rfl, hb, rfl, by show 2 ≤ sizeLine; decide, fun q hq => ?_⟩
    exact ⟨a, q, u, (-v.1, v.2), n, m, rfl, sqT_same (Pre.same_upd hq) ha, SqT.of upd_same, u2, v2, su, ⟨by show (-v.1).natAbs < _; rw [Int.natAbs_neg]; exact sv.1, sv.2⟩, n0, m0, nm, fun p H' s1 hp => k p H' ((Pre.same_upd hq).trans s1) hp⟩
theorem ok_less {f fC fA C : Addr} {fd dC dA : FuncData} (F : Fun K "less" "less" sLess f fd) (GC : ∀ base, FnOk P0 w K mg base (L2.CX P0 w) 3 fC dC ["one", "other"] (spCheck K C)) (FC : Fun K "_check_both" "_check_both" sCheck fC dC) (mC : mg "_check_both" = some (.ref fC))
    (GA : ∀ base, FnOk P0 w K mg base CX0 3 fA dA ["one", "other"] (spSubt K)) (FA : Fun K "subtracted" "subtracted" sSubt fA dA) (mA : mg "subtracted" = some (.ref fA)) : FnOk P0 w K mg base (L2.CX P0 w) 4 f fd ["one", "other"] (spBin K C lessW) := by
  have GC := GC base
  have GA := GA base
  have bC := FC.binds (ps := ["one", "other"]) fun _ _ _ _ _ _ us hl => match us, hl with | [_, _], _ => rfl
  have bA := FA.binds (ps := ["one", "other"]) fun _ _ _ _ _ _ us hl => match us, hl with | [_, _], _ => rfl
  refine F.okX scLess (fun vs H Q E h => ?_) (fun cdv A outer s H vs Q E hr h => ?_)
  · rcases h with ⟨x, y, d, e, rfl, _⟩ | ⟨a, b, u, v, rfl, _⟩ <;> rfl
  · refine ⟨_, pss_cons (ps_expr (pe_callS GC hr rfl mC FC.kp bC (fun σ => passAt (takes_of rfl rfl rfl rfl) σ) (pa_cons (pv 0) (pa_cons (pv 1) pa_nil))))
      (pss_one (ps_ret (pe_call GA hr rfl mA FA.kp bA .nil pass0 (pa_cons (pv 0) (pa_cons (pv 1) pa_nil))))), ?_⟩
    rcases h with ⟨x, y, d, e, rfl, hd, he, hn, k⟩ | ⟨a, b, u, v, rfl, t, k⟩
    · refine ⟨_, rfl, _, rfl, x, y, d, e, rfl, hd, he, fun z => ?_, fun _ => k⟩
      rw [hn] at z
      cases z
    · refine ⟨_, rfl, _, rfl, _, _, _, _, rfl, at_dp t.a, at_dp t.b, fun _ => ?_, fun z => ?_⟩
      · have p1 := isW_pos t.wu
        have p2 := isW_pos t.wv
        exact ⟨_, rfl, _, rfl, a, b, u, v, 3000, 3000, rfl, t.a, t.b, by omega, by omega, t.su, t.sv, by decide, by decide, by decide, k⟩
      · rw [t.d] at z
        cases z
theorem ok_isbelow {f fC fA C : Addr} {fd dC dA : FuncData} (F : Fun K "is_below" "is_below" sIsBelow f fd) (GC : ∀ base, FnOk P0 w K mg base (L2.CX P0 w) 3 fC dC ["one", "other"] (spCheck K C)) (FC : Fun K "_check_both" "_check_both" sCheck fC dC) (mC : mg "_check_both" = some (.ref fC))
    (GA : ∀ base, FnOk P0 w K mg base CX0 1 fA dA ["one", "other"] (spBelow K)) (FA : Fun K "lies_below" "lies_below" sBelow fA dA) (mA : mg "lies_below" = some (.ref fA)) : FnOk P0 w K mg base (L2.CX P0 w) 4 f fd ["one", "other"] (spBelowX K C) := by
  have GC := GC base
  have GA := GA base
  have bC := FC.binds (ps := ["one", "other"]) fun _ _ _ _ _ _ us hl => match us, hl with | [_, _], _ => rfl
  have bA := FA.binds (ps := ["one", "other"]) fun _ _ _ _ _ _ us hl => match us, hl with | [_, _], _ => rfl
  refine F.okX scIsBelow (fun vs H Q E h => ?_) (fun cdv A outer s H vs Q E hr h => ?_)
  · rcases h with ⟨x, y, d, e, rfl, _⟩ | ⟨a, b, u, v, rfl, _⟩ <;> rfl
  · have hr2 : Room 1 _ := hr.mono (by decide)
    refine ⟨_, pss_cons (ps_expr (pe_callS GC hr rfl mC FC.kp bC (fun σ => passAt (takes_of rfl rfl rfl rfl) σ) (pa_cons (pv 0) (pa_cons (pv 1) pa_nil))))
      (pss_one (ps_ret (pe_call GA hr2 rfl mA FA.kp bA .nil pass0 (pa_cons (pv 0) (pa_cons (pv 1) pa_nil))))), ?_⟩
    rcases h with ⟨x, y, d, e, rfl, hd, he, hn, k⟩ | ⟨a, b, u, v, rfl, t, k⟩
    · refine ⟨_, rfl, _, rfl, x, y, d, e, rfl, hd, he, fun z => ?_, fun _ => k⟩
      rw [hn] at z
      cases z
    · refine ⟨_, rfl, _, rfl, _, _, _, _, rfl, at_dp t.a, at_dp t.b, fun _ => ?_, fun z => ?_⟩
      · exact ⟨_, rfl, _, rfl, a, b, u, v, 3000, 3000, rfl, t.a, t.b, t.su, t.sv, by decide, by decide, by decide, k⟩
      · rw [t.d] at z
        cases z
/-- e may be a bottom -/
def okB : PyData → Bool
  | .int b => !(b == 0)
  | _ => false
def spWeight (K : PySem.W.Frag) (C : Addr) : Sp := fun vs H Q E =>
  (∃ x y d e, vs = [x, y] ∧ Dp K H x d ∧ Dp K H y e ∧ (isInt d && okB e) = false ∧ E (.ref C) none H) ∨ (∃ t b, vs = [.int t, .int b] ∧ b ≠ 0 ∧ b.natAbs < 2 ^ 3000 ∧ ∀ (p : Addr) (H' : Hp), Same H H' → At K H' p (low t b) → Q (.ref p) H')
theorem scWeight : FnScope ["top", "bottom"] ["top", "bottom"] (defScope sWeight) := ⟨rfl, rfl, rfl, by decide +kernel, rfl, by decide +kernel, by decide +kernel⟩
theorem ok_weight {f fW fS C : Addr} {fd dW dS : FuncData} (F : FunD K "weight" "weight" (defArgs sWeight) (defBody sWeight) (defScope sWeight) [.int 1] [] f fd) (T : TxtW mg) (FW : Fun K "is_whole" "is_whole" sIsWhole fW dW) (mW : mg "is_whole" = some (.ref fW)) (FS : Fun K "shortened" "shortened" sShort fS dS) (mS : mg "shortened" = some (.ref fS))
    (e : ErC K mg "BadNumber" C) : FnOk P0 w K mg base (L2.CX P0 w) 2 f fd ["top", "bottom"] (spWeight K C) := by
  have GW : FnOk P0 w K mg base CX0 1 fW dW ["value"] (spWhole K) := ok_whole FW T
  have GS : FnOk P0 w K mg base CX0 1 fS dS ["top", "bottom"] spShort := ok_short FS T
  have bW := FW.binds (ps := ["value"]) fun _ _ _ _ _ _ us hl => match us, hl with | [_], _ => rfl
  have bS := FS.binds (ps := ["top", "bottom"]) fun _ _ _ _ _ _ us hl => match us, hl with | [_, _], _ => rfl
  refine F.ok scWeight (fun vs H Q E h => ?_) (fun cdv A outer s H vs Q E hr h => ?_)
  · rcases h with ⟨x, y, d, e, rfl, _⟩ | ⟨t, b, rfl, _⟩ <;> rfl
  · refine ⟨_, pss_cons (ps_if (pt_not (pt_val (pe_call GW hr rfl mW FW.kp bW .nil pass0 (pa_cons (pv 0) pa_nil)))) (pss_one (ps_raise rfl (takes_of rfl rfl rfl rfl) (pmk_own PySem.F.excBase_ValueError e.q e.g e.k (raises_own e.b e.t) rfl))) pss_nil)
      (pss_cons (ps_if (PW.pt (pw_or (pt_not (pt_val (pe_call GW hr rfl mW FW.kp bW .nil pass0 (pa_cons (pv 1) pa_nil)))) (pw_or1 (pt_cmpR op_eq (pv 1) pe_int (nomark _))))) (pss_one (ps_raise rfl (takes_of rfl rfl rfl rfl) (pmk_own PySem.F.excBase_ValueError e.q e.g e.k (raises_own e.b e.t) rfl))) pss_nil)
      (pss_one (ps_ret (pe_call GS hr rfl mS FS.kp bS .nil pass0 (pa_cons (pv 0) (pa_cons (pv 1) pa_nil)))))), ?_⟩
    rcases h with ⟨x, y, d, e', rfl, hd, he, hn, k⟩ | ⟨t, b, rfl, hb, hs, k⟩
    · refine ⟨_, rfl, x, d, rfl, hd, _, rfl, ?_⟩
      cases h1 : isInt d with
      | false => exact iteT k
      | true =>
        refine iteF ⟨_, rfl, y, e', rfl, he, _, rfl, ?_⟩
        rw [h1, Bool.true_and] at hn
        cases he with
        | int j =>
          have hj : j = 0 := by simpa [okB] using hn
          subst hj
          exact iteF ⟨_, rfl, rfl, _, rfl, iteT k⟩
        | non => exact iteT (iteT k)
        | bl b => exact iteT (iteT k)
        | str b => exact iteT (iteT k)
        | lst _ _ => exact iteT (iteT k)
        | tup _ _ => exact iteT (iteT k)
    · refine ⟨_, rfl, _, _, rfl, .int t, _, rfl, iteF ⟨_, rfl, _, _, rfl, .int b, _, rfl, iteF ⟨_, rfl, rfl, _, rfl, ?_⟩⟩⟩
      have e0 : decide (V.int b = V.int 0) = false := decide_eq_false fun z => by
        cases z
        exact hb rfl
      rw [e0]
      exact iteF ⟨_, rfl, _, rfl, t, b, 3000, rfl, hb, hs, by decide, by decide, fun p H' s1 hp => k p H' s1 (SqT.of hp)⟩
end
end Wt

namespace Wt
open PySem PySem.Spec PyProof.Rows L2
/-- x's class is called t, whatever is made besides -/
def Lk (K : PySem.W.Frag) (H : Hp) (x : V) (t : String) : Prop := (∃ d, Dp K H x d ∧ t = tyN d) ∨ ∃ a kvs, x = .ref a ∧ H a = some (.dK kvs) ∧ t = "dict"
theorem lk_same {K : PySem.W.Frag} {H H' : Hp} {x : V} {t : String} (e : Same H H') (h : Lk K H x t) : Lk K H' x t := by
  rcases h with ⟨d, h, rfl⟩ | ⟨a, kvs, rfl, h, rfl⟩
  · exact .inl ⟨d, dp_same e h, rfl⟩
  · exact .inr ⟨a, kvs, rfl, e _ _ h, rfl⟩
theorem lk_ty {K : PySem.W.Frag} {H : Hp} {x : V} {t : String} (h : Lk K H x t) : TyX K H x (.type t) := by
  rcases h with ⟨d, h, rfl⟩ | ⟨a, kvs, rfl, h, rfl⟩
  · exact ty_of h
  · exact .base (.dK h)
/-- the weights ws stand in the list's items xs -/
def Ws (K : PySem.W.Frag) (H : Hp) (xs : List V) (ws : List (Int × Int)) : Prop := xs.length = ws.length ∧ ∀ (i : Nat) u, ws[i]? = some u → ∃ b, xs[i]? = some (.ref b) ∧ At K H b u
theorem ws_same {K : PySem.W.Frag} {H H' : Hp} {xs : List V} {ws : List (Int × Int)} (e : Same H H') (h : Ws K H xs ws) : Ws K H' xs ws := ⟨h.1, fun i u hu => by
  obtain ⟨b, h1, h2⟩ := h.2 i u hu
  exact ⟨b, h1, sqT_same e h2⟩⟩
def tot (ws : List (Int × Int)) : Int × Int := ws.foldl addW (0, 1)
theorem tot_more {ws : List (Int × Int)} {i : Nat} {u : Int × Int} (h : ws[i]? = some u) : tot (ws.take (i + 1)) = addW (tot (ws.take i)) u := by
  unfold tot
  rw [List.take_succ, h]
  simp [List.foldl_append]
theorem add_pos {u v : Int × Int} (h1 : u.2 ≠ 0) (h2 : v.2 ≠ 0) : 0 < (addW u v).2 := low_pos (ne_mul h1 h2)
section
variable {P0 : Program} {w : World} {K : PySem.W.Frag} {mg : Str → Option Value} {base : Heap}
def spIsList (K : PySem.W.Frag) : Sp := fun vs H Q _ => ∃ x t b, vs = [x] ∧ Lk K H x t ∧ (kitB t "list" = some b ∨ (kitB t "list" = some false ∧ kitB t "tuple" = some b)) ∧ ∀ H', Same H H' → Q (.bl b) H'
theorem scIsList : FnScope ["value"] ["value"] (defScope sIsList) := ⟨rfl, rfl, rfl, by decide +kernel, rfl, by decide +kernel, by decide +kernel⟩
theorem kit_two {K : PySem.W.Frag} {t : String} {b : Bool} (h : kitB t "list" = some true ∧ b = true ∨ (kitB t "list" = some false ∧ kitB t "tuple" = some b)) : PySem.W.kitAny K (.type t) [.type "list", .type "tuple"] = some b := by
  rcases h with ⟨h, rfl⟩ | ⟨h1, h2⟩
  · exact kitAny_cons (kit_ty h) (fun z => by cases z) fun _ => rfl
  · refine kitAny_cons (kit_ty h1) (fun _ => kitAny_cons (kit_ty h2) (fun z => by rw [z]; exact kitAny_nil) fun z => z) fun z => by cases z
theorem ok_islist {f : Addr} {fd : FuncData} (F : Fun K "is_list" "is_list" sIsList f fd) (T : TxtW mg) : FnOk P0 w K mg base CX0 1 f fd ["value"]
    (fun vs H Q _ => ∃ x t b, vs = [x] ∧ Lk K H x t ∧ (kitB t "list" = some true ∧ b = true ∨ (kitB t "list" = some false ∧ kitB t "tuple" = some b)) ∧ ∀ H', Same H H' → Q (.bl b) H') := by
  refine F.ok scIsList (fun vs H Q E h => ?_) (fun cdv A outer s H vs Q E hr h => ?_)
  · obtain ⟨x, t, b, rfl, _⟩ := h
    rfl
  · obtain ⟨x, t, b, rfl, hl, hb, k⟩ := h
    refine ⟨_, pss_one (ps_ret (pe_callB call_isiT (by rfl) T.isi (by decide +kernel) (pa_cons (pv 0) (pa_cons (pe_tup (pa_cons (pe_bltn (v := .ty "list") (by rfl) T.list (by decide +kernel) rfl) (pa_cons (pe_bltn (v := .ty "tuple") (by rfl) T.tuple (by decide +kernel) rfl) pa_nil))) pa_nil)))), ?_⟩
    refine ⟨_, rfl, by show 2 ≤ sizeLine; decide, fun p hp => ?_⟩
    exact ⟨x, p, _, _, _, b, rfl, upd_same, .cons (.ty _) (.cons (.ty _) .nil), lk_ty (lk_same (Pre.same_upd hp) hl), kit_two hb, k _ (Pre.same_upd hp)⟩
def spTotal (K : PySem.W.Frag) (S : PySem.W.Frag → Hp → Addr → List V → Prop) : Sp := fun vs H Q _ => ∃ (a : Addr) (xs : List V) (ws : List (Int × Int)), vs = [.ref a] ∧ S K H a xs ∧ Ws K H xs ws ∧ ws.length ≤ 12 ∧ (∀ u ∈ ws, sz 300 u ∧ 1 ≤ u.2) ∧ ∀ (p : Addr) (H' : Hp), Same H H' → At K H' p (tot ws) → Q (.ref p) H'
theorem scTotal : FnScope ["weights", "whole", "part"] ["weights"] (defScope sTotal) := ⟨rfl, rfl, rfl, by decide +kernel, rfl, by decide +kernel, by decide +kernel⟩
theorem tot_inv {ws : List (Int × Int)} (hs : ∀ u ∈ ws, sz 300 u ∧ 1 ≤ u.2) : ∀ i, i ≤ ws.length → sz (1 + 301 * i) (tot (ws.take i)) ∧ 0 < (tot (ws.take i)).2
  | 0, _ => by
    rw [List.take_zero]
    exact ⟨⟨by decide, by decide⟩, by decide⟩
  | i + 1, hi => by
    obtain ⟨h1, h2⟩ := tot_inv hs i (by omega)
    have hlt : i < ws.length := by omega
    have e : ws[i]? = some ws[i] := List.getElem?_eq_getElem hlt
    obtain ⟨s1, s2⟩ := hs ws[i] (List.getElem_mem hlt)
    rw [tot_more e]
    refine ⟨sz_mono (sz_add h1 s1 (by omega) (by omega)) (by omega), add_pos (by omega) (by omega)⟩
theorem ok_totalL {f fA z : Addr} {fd dA : FuncData} (F : Fun K "total" "total" sTotal f fd) (GA : ∀ base, FnOk P0 w K mg base CX0 2 fA dA ["one", "other"] (spAdded K)) (FA : Fun K "added" "added" sAdded fA dA) (mA : mg "added" = some (.ref fA)) (mZ : mg "NOTHING" = some (.ref z)) (hZ : ∀ H, At K H z (0, 1)) :
    FnOk P0 w K mg base CX0 3 f fd ["weights"] (spTotal K SqL) := by
  have GA := GA base
  have bA := FA.binds (ps := ["one", "other"]) fun _ _ _ _ _ _ us hl => match us, hl with | [_, _], _ => rfl
  refine F.ok scTotal (fun vs H Q E h => ?_) (fun cdv A outer s H vs Q E hr h => ?_)
  · obtain ⟨a, xs, ws, rfl, _⟩ := h
    rfl
  · obtain ⟨a, xs, ws, rfl, hS, hW, hl, hs, k⟩ := h
    have nd := scTotal.nd
    refine ⟨_, pss_cons (ps_set (i := 1) nd rfl (Or.inl rfl) (pe_glob (v := .ref z) (by rfl) mZ rfl)) (pss_cons (ps_for PassesOwn.never rfl (pi_list (pv 0)) (pg_name (i := 2) nd rfl (Or.inl rfl))
      (pss_one (ps_set (i := 1) nd rfl (Or.inl rfl) (pe_call GA hr rfl mA FA.kp bA .nil pass0 (pa_cons (pv 1) (pa_cons (pv 2) pa_nil)))))) (pss_one (ps_ret (pv 1)))), ?_⟩
    refine ⟨_, rfl, a, rfl, ⟨_, hS⟩, for_list (K := K) (a := a) (xs := xs) (fun i σ H' => ∃ q pt, σ = [some (.ref a), some (.ref q), pt] ∧ Same H H' ∧ At K H' q (tot (ws.take i))) ⟨z, none, rfl, Same.refl H, hZ H⟩ (fun i σ H' _ ⟨_, _, _, s1, _⟩ => s1.seq hS) ?_ ?_⟩
    · rintro i x σ H' hx ⟨q, pt, rfl, s1, hq⟩
      have hi : i < ws.length := by
        rw [← hW.1]
        exact (List.getElem?_eq_some_iff.mp hx).1
      have e : ws[i]? = some ws[i] := List.getElem?_eq_getElem hi
      obtain ⟨b, hb1, hb2⟩ := hW.2 i _ e
      rw [hx] at hb1
      cases hb1
      obtain ⟨t1, t2⟩ := tot_inv hs i (by omega)
      obtain ⟨u1, u2⟩ := hs ws[i] (List.getElem_mem hi)
      refine ⟨_, rfl, _, rfl, q, b, _, ws[i], 1 + 301 * i, 300, rfl, hq, sqT_same s1 hb2, by omega, by omega, t1, u1, by omega, by decide, by omega, fun p H2 s2 hp => ?_⟩
      exact ⟨p, _, rfl, s1.trans s2, by rw [tot_more e]; exact hp⟩
    · rintro σ H' ⟨q, pt, rfl, s1, hq⟩
      rw [hW.1, List.take_length] at hq
      exact ⟨_, rfl, k q H' s1 hq⟩
theorem ok_totalT {f fA z : Addr} {fd dA : FuncData} (F : Fun K "total" "total" sTotal f fd) (GA : ∀ base, FnOk P0 w K mg base CX0 2 fA dA ["one", "other"] (spAdded K)) (FA : Fun K "added" "added" sAdded fA dA) (mA : mg "added" = some (.ref fA)) (mZ : mg "NOTHING" = some (.ref z)) (hZ : ∀ H, At K H z (0, 1)) :
    FnOk P0 w K mg base CX0 3 f fd ["weights"] (spTotal K SqT) := by
  have GA := GA base
  have bA := FA.binds (ps := ["one", "other"]) fun _ _ _ _ _ _ us hl => match us, hl with | [_, _], _ => rfl
  refine F.ok scTotal (fun vs H Q E h => ?_) (fun cdv A outer s H vs Q E hr h => ?_)
  · obtain ⟨a, xs, ws, rfl, _⟩ := h
    rfl
  · obtain ⟨a, xs, ws, rfl, hS, hW, hl, hs, k⟩ := h
    have nd := scTotal.nd
    refine ⟨_, pss_cons (ps_set (i := 1) nd rfl (Or.inl rfl) (pe_glob (v := .ref z) (by rfl) mZ rfl)) (pss_cons (ps_for PassesOwn.never rfl (pi_tup (pv 0)) (pg_name (i := 2) nd rfl (Or.inl rfl))
      (pss_one (ps_set (i := 1) nd rfl (Or.inl rfl) (pe_call GA hr rfl mA FA.kp bA .nil pass0 (pa_cons (pv 1) (pa_cons (pv 2) pa_nil)))))) (pss_one (ps_ret (pv 1)))), ?_⟩
    refine ⟨_, rfl, a, rfl, ⟨_, hS⟩, for_tup (K := K) (a := a) (xs := xs) (fun i σ H' => ∃ q pt, σ = [some (.ref a), some (.ref q), pt] ∧ Same H H' ∧ At K H' q (tot (ws.take i))) ⟨z, none, rfl, Same.refl H, hZ H⟩ (fun i σ H' _ ⟨_, _, _, s1, _⟩ => sqT_same s1 hS) ?_ ?_⟩
    · rintro i x σ H' hx ⟨q, pt, rfl, s1, hq⟩
      have hi : i < ws.length := by
        rw [← hW.1]
        exact (List.getElem?_eq_some_iff.mp hx).1
      have e : ws[i]? = some ws[i] := List.getElem?_eq_getElem hi
      obtain ⟨b, hb1, hb2⟩ := hW.2 i _ e
      rw [hx] at hb1
      cases hb1
      obtain ⟨t1, t2⟩ := tot_inv hs i (by omega)
      obtain ⟨u1, u2⟩ := hs ws[i] (List.getElem_mem hi)
      refine ⟨_, rfl, _, rfl, q, b, _, ws[i], 1 + 301 * i, 300, rfl, hq, sqT_same s1 hb2, by omega, by omega, t1, u1, by omega, by decide, by omega, fun p H2 s2 hp => ?_⟩
      exact ⟨p, _, rfl, s1.trans s2, by rw [tot_more e]; exact hp⟩
    · rintro σ H' ⟨q, pt, rfl, s1, hq⟩
      rw [hW.1, List.take_length] at hq
      exact ⟨_, rfl, k q H' s1 hq⟩
end
end Wt

namespace Wt
open PySem PySem.Spec PyProof.Rows L2
abbrev nSummed : List Str := ["weights", "part"]
theorem scSummed : FnScope nSummed ["weights"] (defScope sSummed) := ⟨rfl, rfl, rfl, by decide +kernel, rfl, by decide +kernel, by decide +kernel⟩
theorem dpAll_at {K : PySem.W.Frag} {H : Hp} : ∀ {xs : List V} {ds : List PyData} {i : Nat} {x : V}, DpAll K H xs ds → xs[i]? = some x → ∃ d, ds[i]? = some d ∧ Dp K H x d
  | _, _, 0, _, .cons h _, e => ⟨_, rfl, by cases e; exact h⟩
  | _, _, i + 1, _, .cons _ r, e => dpAll_at (i := i) r e
  | _, _, _, _, .nil, e => by cases e
def spSum (K : PySem.W.Frag) (S : PySem.W.Frag → Hp → Addr → List V → Prop) (C : Addr) : Sp := fun vs H Q E => ∃ (a : Addr) (xs : List V) (ds : List PyData), vs = [.ref a] ∧ S K H a xs ∧ DpAll K H xs ds ∧ xs.length ≤ 12 ∧ (ds.all isWt = false → ∀ H', Same H H' → E (.ref C) none H') ∧
  (ds.all isWt = true → ∃ ws, Ws K H xs ws ∧ ws.length ≤ 12 ∧ (∀ u ∈ ws, sz 300 u ∧ 1 ≤ u.2) ∧ ∀ (p : Addr) (H' : Hp), Same H H' → At K H' p (tot ws) → Q (.ref p) H')
def spSumN (K : PySem.W.Frag) (C : Addr) : Sp := fun vs H _ E => ∃ x t, vs = [x] ∧ Lk K H x t ∧ kitB t "list" = some false ∧ kitB t "tuple" = some false ∧ ∀ H', Same H H' → E (.ref C) none H'
section
variable {P0 : Program} {w : World} {K : PySem.W.Frag} {mg : Str → Option Value} {base : Heap}
theorem ok_sumL {f fL fI fT C : Addr} {fd dL dI dT : FuncData} (F : Fun K "summed" "summed" sSummed f fd) (T : TxtW mg) (za : mg "all" = none) (FL : Fun K "is_list" "is_list" sIsList fL dL) (mL : mg "is_list" = some (.ref fL))
    (GI : ∀ base, FnOk P0 w K mg base CX0 2 fI dI ["value"] (spIsWt K)) (FI : Fun K "is_weight" "is_weight" sIsWt fI dI) (mI : mg "is_weight" = some (.ref fI)) (GT : ∀ base, FnOk P0 w K mg base CX0 3 fT dT ["weights"] (spTotal K SqL)) (FT : Fun K "total" "total" sTotal fT dT) (mT : mg "total" = some (.ref fT))
    (e : ErC K mg "BadWeight" C) : FnOk P0 w K mg base (L2.CX P0 w) 4 f fd ["weights"] (spSum K SqL C) := by
  have GI := GI base
  have GT := GT base
  have GL : FnOk P0 w K mg base CX0 1 fL dL ["value"] _ := ok_islist FL T
  have bL := FL.binds (ps := ["value"]) fun _ _ _ _ _ _ us hl => match us, hl with | [_], _ => rfl
  have bI := FI.binds (ps := ["value"]) fun _ _ _ _ _ _ us hl => match us, hl with | [_], _ => rfl
  have bT := FT.binds (ps := ["weights"]) fun _ _ _ _ _ _ us hl => match us, hl with | [_], _ => rfl
  refine F.okX scSummed (fun vs H Q E h => ?_) (fun cdv A outer s H vs Q E hr h => ?_)
  · obtain ⟨a, xs, ds, rfl, _⟩ := h
    rfl
  · obtain ⟨a, xs, ds, rfl, hS, hD, hl, k1, k2⟩ := h
    have nd := scSummed.nd
    have hr1 : Room 1 _ := hr.mono (by decide)
    have hr2 : Room 2 _ := hr.mono (by decide)
    refine ⟨_, pss_cons (ps_if (PW.pt (pw_or (pt_not (pt_val (pe_call GL hr1 rfl mL FL.kp bL .nil pass0 (pa_cons (pv 0) pa_nil)))) (pw_or1 (pt_not (pt_val (pe_callB (cr_all rfl) (by rfl) za (by decide +kernel) (pa_cons
        (pe_lc (own := [("part", 1)]) (g := gName 1) (tt := tYes) rfl nd (pi_list (pv 0)) (blkOk_by (own := [("part", 1)]) (N := nSummed) (sc := defScope sSummed) (by decide +kernel)) (fun _ _ _ _ _ => pg_name (i := 1) nd rfl (Or.inl rfl)) (fun _ _ _ _ _ => pts_nil)
          (fun _ _ _ _ _ => pe_call GI hr2 rfl mI FI.kp bI .nil pass0 (pa_cons (pv 1) pa_nil))) pa_nil)))))))
        (pss_one (ps_raise rfl (takes_of rfl rfl rfl rfl) (pmk_own PySem.F.excBase_ValueError e.q e.g e.k (raises_own e.b e.t) rfl))) pss_nil)
      (pss_one (ps_ret (pe_call GT hr rfl mT FT.kp bT .nil pass0 (pa_cons (pv 0) pa_nil)))), ?_⟩
    refine ⟨_, rfl, .ref a, "list", true, rfl, .inl ⟨_, .lst hS hD, rfl⟩, .inl ⟨by decide +kernel, rfl⟩, fun H1 s1 => ⟨_, rfl, iteF ?_⟩⟩
    refine ⟨_, rfl, a, rfl, ⟨_, s1.seq hS⟩, fun D hDn => lc_list (K := K) (a := a) (xs := xs) (fun i H' => Same H1 H' ∧ H' D = some (.lst (((ds.take i).map isWt).map V.bl))) ⟨Pre.same_upd hDn, by rw [upd_same]; rfl⟩ (fun i H' _ ⟨s3, _⟩ => s3.seq (s1.seq hS)) ?_ ?_⟩
    · rintro i x H' hx ⟨s3, hd⟩
      obtain ⟨d, hdi, hdx⟩ := dpAll_at hD hx
      have hlt : i < ds.length := (List.getElem?_eq_some_iff.mp hdi).1
      refine ⟨rfl, _, rfl, x, d, rfl, dp_same (s1.trans s3) hdx, _, hd, ?_, fun b o e => ?_, ?_⟩
      · rw [List.length_map, List.length_map, List.length_take]
        exact Nat.lt_of_le_of_lt (Nat.min_le_left _ _) (Nat.lt_of_lt_of_le hlt (by rw [← dpAll_len hD]; exact Nat.le_trans hl (by decide)))
      · rw [upd_ne (ne_of_none e hDn)]
        exact s3 _ _ e
      · rw [upd_same, List.take_succ, hdi]
        simp
    · rintro H2 ⟨s3, hd⟩
      refine ⟨D, (ds.take xs.length).map isWt, rfl, SqL.of hd, _, rfl, ?_⟩
      have e1 : ds.take xs.length = ds := by
        rw [dpAll_len hD, List.take_length]
      have e2 : ((ds.take xs.length).map isWt).all id = ds.all isWt := by
        rw [e1, List.all_map]
        rfl
      rw [e2]
      cases hw : ds.all isWt with
      | false => exact iteT (k1 hw H2 (s1.trans s3))
      | true =>
        obtain ⟨ws, h1, h2, h3, k⟩ := k2 hw
        refine iteF ⟨_, rfl, a, xs, ws, rfl, (s1.trans s3).seq hS, ws_same (s1.trans s3) h1, h2, h3, fun p H' s4 hp => k p H' ((s1.trans s3).trans s4) hp⟩
theorem ok_sumT {f fL fI fT C : Addr} {fd dL dI dT : FuncData} (F : Fun K "summed" "summed" sSummed f fd) (T : TxtW mg) (za : mg "all" = none) (FL : Fun K "is_list" "is_list" sIsList fL dL) (mL : mg "is_list" = some (.ref fL))
    (GI : ∀ base, FnOk P0 w K mg base CX0 2 fI dI ["value"] (spIsWt K)) (FI : Fun K "is_weight" "is_weight" sIsWt fI dI) (mI : mg "is_weight" = some (.ref fI)) (GT : ∀ base, FnOk P0 w K mg base CX0 3 fT dT ["weights"] (spTotal K SqT)) (FT : Fun K "total" "total" sTotal fT dT) (mT : mg "total" = some (.ref fT))
    (e : ErC K mg "BadWeight" C) : FnOk P0 w K mg base (L2.CX P0 w) 4 f fd ["weights"] (spSum K SqT C) := by
  have GI := GI base
  have GT := GT base
  have GL : FnOk P0 w K mg base CX0 1 fL dL ["value"] _ := ok_islist FL T
  have bL := FL.binds (ps := ["value"]) fun _ _ _ _ _ _ us hl => match us, hl with | [_], _ => rfl
  have bI := FI.binds (ps := ["value"]) fun _ _ _ _ _ _ us hl => match us, hl with | [_], _ => rfl
  have bT := FT.binds (ps := ["weights"]) fun _ _ _ _ _ _ us hl => match us, hl with | [_], _ => rfl
  refine F.okX scSummed (fun vs H Q E h => ?_) (fun cdv A outer s H vs Q E hr h => ?_)
  · obtain ⟨a, xs, ds, rfl, _⟩ := h
    rfl
  · obtain ⟨a, xs, ds, rfl, hS, hD, hl, k1, k2⟩ := h
    have nd := scSummed.nd
    have hr1 : Room 1 _ := hr.mono (by decide)
    have hr2 : Room 2 _ := hr.mono (by decide)
    refine ⟨_, pss_cons (ps_if (PW.pt (pw_or (pt_not (pt_val (pe_call GL hr1 rfl mL FL.kp bL .nil pass0 (pa_cons (pv 0) pa_nil)))) (pw_or1 (pt_not (pt_val (pe_callB (cr_all rfl) (by rfl) za (by decide +kernel) (pa_cons
        (pe_lc (own := [("part", 1)]) (g := gName 1) (tt := tYes) rfl nd (pi_tup (pv 0)) (blkOk_by (own := [("part", 1)]) (N := nSummed) (sc := defScope sSummed) (by decide +kernel)) (fun _ _ _ _ _ => pg_name (i := 1) nd rfl (Or.inl rfl)) (fun _ _ _ _ _ => pts_nil)
          (fun _ _ _ _ _ => pe_call GI hr2 rfl mI FI.kp bI .nil pass0 (pa_cons (pv 1) pa_nil))) pa_nil)))))))
        (pss_one (ps_raise rfl (takes_of rfl rfl rfl rfl) (pmk_own PySem.F.excBase_ValueError e.q e.g e.k (raises_own e.b e.t) rfl))) pss_nil)
      (pss_one (ps_ret (pe_call GT hr rfl mT FT.kp bT .nil pass0 (pa_cons (pv 0) pa_nil)))), ?_⟩
    refine ⟨_, rfl, .ref a, "tuple", true, rfl, .inl ⟨_, .tup hS hD, rfl⟩, .inr ⟨by decide +kernel, by decide +kernel⟩, fun H1 s1 => ⟨_, rfl, iteF ?_⟩⟩
    refine ⟨_, rfl, a, rfl, ⟨_, sqT_same s1 hS⟩, fun D hDn => lc_tup (K := K) (a := a) (xs := xs) (fun i H' => Same H1 H' ∧ H' D = some (.lst (((ds.take i).map isWt).map V.bl))) ⟨Pre.same_upd hDn, by rw [upd_same]; rfl⟩ (fun i H' _ ⟨s3, _⟩ => sqT_same s3 (sqT_same s1 hS)) ?_ ?_⟩
    · rintro i x H' hx ⟨s3, hd⟩
      obtain ⟨d, hdi, hdx⟩ := dpAll_at hD hx
      have hlt : i < ds.length := (List.getElem?_eq_some_iff.mp hdi).1
      refine ⟨rfl, _, rfl, x, d, rfl, dp_same (s1.trans s3) hdx, _, hd, ?_, fun b o e => ?_, ?_⟩
      · rw [List.length_map, List.length_map, List.length_take]
        exact Nat.lt_of_le_of_lt (Nat.min_le_left _ _) (Nat.lt_of_lt_of_le hlt (by rw [← dpAll_len hD]; exact Nat.le_trans hl (by decide)))
      · rw [upd_ne (ne_of_none e hDn)]
        exact s3 _ _ e
      · rw [upd_same, List.take_succ, hdi]
        simp
    · rintro H2 ⟨s3, hd⟩
      refine ⟨D, (ds.take xs.length).map isWt, rfl, SqL.of hd, _, rfl, ?_⟩
      have e1 : ds.take xs.length = ds := by
        rw [dpAll_len hD, List.take_length]
      have e2 : ((ds.take xs.length).map isWt).all id = ds.all isWt := by
        rw [e1, List.all_map]
        rfl
      rw [e2]
      cases hw : ds.all isWt with
      | false => exact iteT (k1 hw H2 (s1.trans s3))
      | true =>
        obtain ⟨ws, h1, h2, h3, k⟩ := k2 hw
        refine iteF ⟨_, rfl, a, xs, ws, rfl, sqT_same (s1.trans s3) hS, ws_same (s1.trans s3) h1, h2, h3, fun p H' s4 hp => k p H' ((s1.trans s3).trans s4) hp⟩
theorem ok_sumN {f fL fI fT C : Addr} {fd dL dI dT : FuncData} (F : Fun K "summed" "summed" sSummed f fd) (T : TxtW mg) (za : mg "all" = none) (FL : Fun K "is_list" "is_list" sIsList fL dL) (mL : mg "is_list" = some (.ref fL))
    (GI : ∀ base, FnOk P0 w K mg base CX0 2 fI dI ["value"] (spIsWt K)) (FI : Fun K "is_weight" "is_weight" sIsWt fI dI) (mI : mg "is_weight" = some (.ref fI)) (GT : ∀ base, FnOk P0 w K mg base CX0 3 fT dT ["weights"] (spTotal K SqL)) (FT : Fun K "total" "total" sTotal fT dT) (mT : mg "total" = some (.ref fT))
    (e : ErC K mg "BadWeight" C) : FnOk P0 w K mg base (L2.CX P0 w) 4 f fd ["weights"] (spSumN K C) := by
  have GI := GI base
  have GT := GT base
  have GL : FnOk P0 w K mg base CX0 1 fL dL ["value"] _ := ok_islist FL T
  have bL := FL.binds (ps := ["value"]) fun _ _ _ _ _ _ us hl => match us, hl with | [_], _ => rfl
  have bI := FI.binds (ps := ["value"]) fun _ _ _ _ _ _ us hl => match us, hl with | [_], _ => rfl
  have bT := FT.binds (ps := ["weights"]) fun _ _ _ _ _ _ us hl => match us, hl with | [_], _ => rfl
  refine F.okX scSummed (fun vs H Q E h => ?_) (fun cdv A outer s H vs Q E hr h => ?_)
  · obtain ⟨x, t, rfl, _⟩ := h
    rfl
  · obtain ⟨x, t, rfl, hx, h1, h2, k⟩ := h
    have nd := scSummed.nd
    have hr1 : Room 1 _ := hr.mono (by decide)
    have hr2 : Room 2 _ := hr.mono (by decide)
    refine ⟨_, pss_cons (ps_if (PW.pt (pw_or (pt_not (pt_val (pe_call GL hr1 rfl mL FL.kp bL .nil pass0 (pa_cons (pv 0) pa_nil)))) (pw_or1 (pt_not (pt_val (pe_callB (cr_all rfl) (by rfl) za (by decide +kernel) (pa_cons
        (pe_lc (own := [("part", 1)]) (g := gName 1) (tt := tYes) rfl nd (pi_list (pv 0)) (blkOk_by (own := [("part", 1)]) (N := nSummed) (sc := defScope sSummed) (by decide +kernel)) (fun _ _ _ _ _ => pg_name (i := 1) nd rfl (Or.inl rfl)) (fun _ _ _ _ _ => pts_nil)
          (fun _ _ _ _ _ => pe_call GI hr2 rfl mI FI.kp bI .nil pass0 (pa_cons (pv 1) pa_nil))) pa_nil)))))))
        (pss_one (ps_raise rfl (takes_of rfl rfl rfl rfl) (pmk_own PySem.F.excBase_ValueError e.q e.g e.k (raises_own e.b e.t) rfl))) pss_nil)
      (pss_one (ps_ret (pe_call GT hr rfl mT FT.kp bT .nil pass0 (pa_cons (pv 0) pa_nil)))), ?_⟩
    exact ⟨_, rfl, x, t, false, rfl, hx, .inr ⟨h1, h2⟩, fun H1 s1 => ⟨_, rfl, iteT (iteT (k H1 s1))⟩⟩
end
end Wt

namespace Dc
open PySem PySem.Spec PyProof.Rows L2
/-- what was tracked newly since H -/
def Nw (H H1 : Hp) : Hp := fun b => match H b with
  | none => H1 b
  | some _ => none
theorem nw_at {H H1 : Hp} {b : Addr} {o : HO} (h : H b = none) (e : H1 b = some o) : Nw H H1 b = some o := by
  unfold Nw
  rw [h]
  exact e
theorem nw_inv {H H1 : Hp} {b : Addr} {o : HO} (e : Nw H H1 b = some o) : H b = none ∧ H1 b = some o := by
  unfold Nw at e
  cases h : H b with
  | none =>
    rw [h] at e
    exact ⟨rfl, e⟩
  | some _ =>
    rw [h] at e
    cases e
theorem nw_sub {H H1 : Hp} : Same (Nw H H1) H1 := fun _ _ e => (nw_inv e).2
theorem nw_mono {H H1 H2 : Hp} (s : Same H1 H2) : Same (Nw H H1) (Nw H H2) := fun _ _ e => nw_at (nw_inv e).1 (s _ _ (nw_inv e).2)
theorem nw_low {H H1 H2 : Hp} (s : Same H H1) : Same (Nw H1 H2) (Nw H H2) := fun _ _ e => nw_at (s.free (nw_inv e).1) (nw_inv e).2
/-- all but the state and its great ones -/
def wo (p g : Addr) (H : Hp) : Hp := fun b => if b = p then none else if b = g then none else H b
theorem wo_at {p g : Addr} {H : Hp} {b : Addr} {o : HO} (h1 : b ≠ p) (h2 : b ≠ g) (e : H b = some o) : wo p g H b = some o := by
  unfold wo
  rw [if_neg h1, if_neg h2]
  exact e
theorem wo_inv {p g : Addr} {H : Hp} {b : Addr} {o : HO} (e : wo p g H b = some o) : b ≠ p ∧ b ≠ g ∧ H b = some o := by
  unfold wo at e
  by_cases h1 : b = p
  · rw [if_pos h1] at e
    cases e
  · rw [if_neg h1] at e
    by_cases h2 : b = g
    · rw [if_pos h2] at e
      cases e
    · rw [if_neg h2] at e
      exact ⟨h1, h2, e⟩
theorem wo_sub {p g : Addr} {H : Hp} : Same (wo p g H) H := fun _ _ e => (wo_inv e).2.2
theorem wo_kp {p g : Addr} {H H1 : Hp} (k : Pre.Kp p g H H1) : Same (wo p g H) (wo p g H1) := fun b o e => by
  obtain ⟨h1, h2, h3⟩ := wo_inv e
  exact wo_at h1 h2 (k b o h1 h2 h3)
theorem wo_mono {p g : Addr} {H H1 : Hp} (k : Same H H1) : Same (wo p g H) (wo p g H1) := wo_kp (Pre.Kp.of k)
theorem nw_wo {p g : Addr} {H H1 : Hp} {u v : HO} (hp : H p = some u) (hg : H g = some v) : Same (Nw H H1) (wo p g H1) := fun b o e => by
  obtain ⟨h1, h2⟩ := nw_inv e
  refine wo_at (fun z => ?_) (fun z => ?_) h2
  · rw [z, hp] at h1
    cases h1
  · rw [z, hg] at h1
    cases h1
/-- e is written data: it comes to d, all that it needs newly made -/
abbrev ED (X : Cx) (e : Expr) (d : PyData) : Prop := PE X e (fun _ H Q => ∀ v H1, Same H H1 → Dp X.K (Nw H H1) v d → Q v H1)
abbrev AD (X : Cx) (es : List Expr) (ds : List PyData) : Prop := PA X es (fun _ H Q => ∀ vs H1, Same H H1 → DpAll X.K (Nw H H1) vs ds → Q vs H1)
section
variable {X : Cx} {e : Expr} {es : List Expr} {d : PyData} {ds : List PyData} {pos : Pos}
theorem pe_imp {t t' : TE} (h : PE X e t) (k : ∀ σ H Q, t' σ H Q → t σ H Q) : PE X e t' := ⟨fun pins s σ H Q I rd => h.run pins s σ H Q I (k σ H Q rd)⟩
theorem pa_imp {t t' : TA} (h : PA X es t) (k : ∀ σ H Q, t' σ H Q → t σ H Q) : PA X es t' := ⟨fun p pins s σ H Q I rd => h.run p pins s σ H Q I (k σ H Q rd)⟩
theorem ed_int {i j} : ED X (.Constant (.int i) j pos) (.int i) := pe_imp pe_int fun _ H _ k => k _ H (Same.refl _) (.int _)
theorem ed_bl {b j} : ED X (.Constant (.bool b) j pos) (.bool b) := pe_imp pe_bl fun _ H _ k => k _ H (Same.refl _) (.bl _)
theorem ed_non {j} : ED X (.Constant .none j pos) .none := pe_imp pe_non fun _ H _ k => k _ H (Same.refl _) .non
theorem ed_str {x j} : ED X (.Constant (.str x) j pos) (.str x) := pe_imp pe_str fun _ H _ k => k _ H (Same.refl _) (.str _)
theorem ed_neg {i j p2} : ED X (.UnaryOp .USub (.Constant (.int i) j p2) pos) (.int (-i)) := pe_imp (pe_un un_neg pe_int) fun _ H _ k => ⟨_, rfl, k _ H (Same.refl _) (.int _)⟩
theorem ad_nil : AD X [] [] := pa_imp pa_nil fun _ H _ k => k _ H (Same.refl _) .nil
theorem ad_cons (h : ED X e d) (r : AD X es ds) (hs : starEach (e :: es) X.env = (false, eval e X.env) :: starEach es X.env := by rfl) : AD X (e :: es) (d :: ds) :=
  pa_imp (pa_cons h r hs) fun _ H _ k v H1 s1 d1 vs H2 s2 d2 => k _ H2 (s1.trans s2) (.cons (Wt.dp_same (nw_mono s2) d1) (Wt.dpAll_same (nw_low s1) d2))
theorem new_one {H H1 : Hp} {p : Addr} {o : HO} (s1 : Same H H1) (hp : H1 p = none) : Nw H (upd H1 p o) p = some o := nw_at (s1.free hp) upd_same
theorem ed_tup {kk} (r : AD X es ds) (hl : ds.length ≤ 1000) : ED X (.Tuple es kk pos) (.tuple ds) :=
  pe_imp (pe_tup r) fun _ H _ k vs H1 s1 d1 => ⟨by rw [Wt.dpAll_len d1]; exact Nat.le_trans hl (by decide), fun p hp => k _ _ (s1.trans (Pre.same_upd hp)) (.tup (SqT.of (new_one s1 hp)) (Wt.dpAll_same (nw_mono (Pre.same_upd hp)) d1))⟩
theorem ed_lst (r : AD X es ds) (hl : ds.length ≤ 1000) : ED X (.List es pos) (.list ds) :=
  pe_imp (pe_lst r) fun _ H _ k vs H1 s1 d1 => ⟨by rw [Wt.dpAll_len d1]; exact Nat.le_trans hl (by decide), fun p hp => k _ _ (s1.trans (Pre.same_upd hp)) (.lst (SqL.of (new_one s1 hp)) (Wt.dpAll_same (nw_mono (Pre.same_upd hp)) d1))⟩
/-- a new list of written data -/
theorem pe_lstD (r : AD X es ds) (hl : ds.length ≤ 1000) : PE X (.List es pos) (fun _ H Q => ∀ l vs H1, Same H H1 → H l = none → H1 l = some (.lst vs) → DpAll X.K (Nw H H1) vs ds → Q (.ref l) H1) :=
  pe_imp (pe_lst r) fun _ H _ k vs H1 s1 d1 => ⟨by rw [Wt.dpAll_len d1]; exact Nat.le_trans hl (by decide), fun p hp => k p vs _ (s1.trans (Pre.same_upd hp)) (s1.free hp) upd_same (Wt.dpAll_same (nw_mono (Pre.same_upd hp)) d1)⟩
end
end Dc
namespace Wt
open PySem PySem.Spec PyProof.Rows L2
abbrev sTruth : Stmt := Pre.top 31
abbrev sSame : Stmt := Pre.top 32
abbrev sLowest : Stmt := Pre.top 33
abbrev sCpPlus : Stmt := Pre.top 34
abbrev sCpTimes : Stmt := Pre.top 35
abbrev sCpWhole : Stmt := Pre.top 36
abbrev sCpIsW : Stmt := Pre.top 37
section
variable {P0 : Program} {w : World} {K : PySem.W.Frag} {mg : Str → Option Value} {base : Heap}
def spTruth : Sp := fun vs H Q _ => ∃ a b : Bool, vs = [.bl a, .bl b] ∧ Q (.bl (decide (a = b))) H
theorem scTruth : FnScope ["found", "due"] ["found", "due"] (defScope sTruth) := ⟨rfl, rfl, rfl, by decide +kernel, rfl, by decide +kernel, by decide +kernel⟩
theorem ok_truth {f : Addr} {fd : FuncData} (F : Fun K "_law_is_truth" "_law_is_truth" sTruth f fd) : FnOk P0 w K mg base CX0 1 f fd ["found", "due"] spTruth := by
  refine F.ok scTruth (fun vs H Q E h => ?_) (fun cdv A outer s H vs Q E hr h => ?_)
  · obtain ⟨a, b, rfl, _⟩ := h
    rfl
  · obtain ⟨a, b, rfl, k⟩ := h
    refine ⟨_, pss_one (ps_ret (pe_ifExp (pt_val (pv 1)) (pe_cmpR op_isBl (pv 0) pe_bl (nomark _)) (pe_cmpR op_isBl (pv 0) pe_bl (nomark _)))), ?_⟩
    refine ⟨_, rfl, b, rfl, ?_⟩
    cases b with
    | true => exact ⟨_, rfl, a, true, rfl, rfl, k⟩
    | false => exact ⟨_, rfl, a, false, rfl, rfl, k⟩
/-- both stand for the same data: their texts are equal -/
def spSame (K : PySem.W.Frag) : Sp := fun vs H Q _ => ∃ (a b : Addr) (d : PyData), vs = [.ref a, .ref b] ∧ Dp K H (.ref a) d ∧ Dp K H (.ref b) d ∧ d.showable = true ∧ d.hasDict = false ∧ d.depth < 32 ∧ d.shown.length ≤ sizeLine ∧ Q (.bl true) H
theorem scSame : FnScope ["found", "due"] ["found", "due"] (defScope sSame) := ⟨rfl, rfl, rfl, by decide +kernel, rfl, by decide +kernel, by decide +kernel⟩
theorem ok_same {f : Addr} {fd : FuncData} (F : Fun K "_law_cp_same" "_law_cp_same" sSame f fd) (zr : mg "repr" = none) : Gd.FnG P0 w K mg base CX0 1 f fd ["found", "due"] (spSame K) := by
  refine Gd.fun_okG F scSame (fun vs H Q E h => ?_) (fun cdv A outer s H vs Q E hr hG h => ?_)
  · obtain ⟨a, b, d, rfl, _⟩ := h
    rfl
  · obtain ⟨a, b, d, rfl, h1, h2, c1, c2, c3, c4, k⟩ := h
    refine ⟨_, pss_one (ps_ret (pe_cmpR op_eq (pe_callB (Gd.sameText hG hr.units) (by rfl) zr (by decide +kernel) (pa_cons (pv 0) pa_nil)) (pe_callB (Gd.sameText hG hr.units) (by rfl) zr (by decide +kernel) (pa_cons (pv 1) pa_nil)) (nomark _))), ?_⟩
    refine ⟨_, rfl, a, d, rfl, h1, c1, c2, c3, c4, _, rfl, b, d, rfl, h2, c1, c2, c3, c4, rfl, ?_⟩
    rw [decide_eq_true rfl]
    exact k
def spLowest : Sp := fun vs H Q _ => ∃ (t b : Int) (n : Nat), vs = [.int t, .int b] ∧ b ≠ 0 ∧ t.natAbs < 2 ^ n ∧ b.natAbs < 2 ^ n ∧ 0 < n ∧ n ≤ 7000 ∧ ∀ (p : Addr) (H' : Hp), Same H H' → H' p = some (.tup [.int (low t b).1, .int (low t b).2]) → Q (.ref p) H'
theorem scLowest : FnScope ["top", "bottom", "one", "other", "sign"] ["top", "bottom"] (defScope sLowest) := ⟨rfl, rfl, rfl, by decide +kernel, rfl, by decide +kernel, by decide +kernel⟩
theorem abs_if (i : Int) : (if i < 0 then -i else i) = (i.natAbs : Int) := by
  split <;> omega
theorem ok_lowest {f : Addr} {fd : FuncData} (F : Fun K "_law_cp_lowest" "_law_cp_lowest" sLowest f fd) (T : Pre.TxtP mg) : FnOk P0 w K mg base CX0 1 f fd ["top", "bottom"] spLowest := by
  refine F.ok scLowest (fun vs H Q E h => ?_) (fun cdv A outer s H vs Q E hr h => ?_)
  · obtain ⟨t, b, n, rfl, _⟩ := h
    rfl
  · obtain ⟨t, b, n, rfl, hb, ht, hbn, n0, n1, k⟩ := h
    have nd := scLowest.nd
    have gp := gI_pos (t := t) hb
    have gs := gI_small (t := t) hb hbn
    refine ⟨_, pss_cons (ps_par (i := 2) (j := 3) rfl nd rfl rfl (by decide) rfl rfl (pa_cons (pe_callB call_abs (by rfl) T.abs (by decide +kernel) (pa_cons (pv 0) pa_nil)) (pa_cons (pe_callB call_abs (by rfl) T.abs (by decide +kernel) (pa_cons (pv 1) pa_nil)) pa_nil)) (by rfl))
      (pss_cons (ps_while PassesOwn.never (pt_cmpR op_ne (pv 3) pe_int (nomark _)) (pss_one (ps_par (i := 2) (j := 3) rfl nd rfl rfl (by decide) rfl rfl (pa_cons (pv 3) (pa_cons (pe_op op_mod (pe_callTy call_int1 (by rfl) T.int (by decide +kernel) (pa_cons (pv 2) pa_nil)) (pv 3)) pa_nil)) (by rfl))))
      (pss_cons (ps_set (i := 4) nd rfl (Or.inl rfl) (pe_ifExp (pt_cmpR op_gt (pv 1) pe_int (nomark _)) pe_int (pe_un un_neg pe_int)))
      (pss_one (ps_ret (pe_tup (pa_cons (pe_op op_fdivA (pe_op op_mulW (pv 4) (pv 0)) (pv 2)) (pa_cons (pe_op op_fdivA (pe_op op_mulW (pv 4) (pv 1)) (pv 2)) pa_nil))))))), ?_⟩
    refine ⟨_, rfl, t, rfl, _, rfl, b, rfl, _, _, rfl, ?_⟩
    refine while_by (fun σ H' => ∃ a c : Nat, σ = [some (.int t), some (.int b), some (.int a), some (.int c), none] ∧ H' = H ∧ Nat.gcd a c = Nat.gcd t.natAbs b.natAbs) (fun σ H' => match σ with
      | [_, _, _, some (.int c), _] => c.toNat
      | _ => 0) ⟨t.natAbs, b.natAbs, ?_, rfl, rfl⟩ ?_ ?_
    · rw [abs_if, abs_if]
      rfl
    · rintro σ H' ⟨a, c, rfl, rfl, hg⟩
      refine ⟨_, rfl, rfl, _, rfl, ?_⟩
      refine ite2 (fun hc => ?_) (fun hc => ?_)
      · have c0 : c ≠ 0 := fun z => by
          subst z
          simp at hc
        refine ⟨_, rfl, _, rfl, .inl ⟨_, rfl, _, rfl, (a : Int), (c : Int), rfl, rfl, by omega, _, _, rfl, ?_⟩⟩
        refine ⟨⟨c, a % c, ?_, rfl, ?_⟩, ?_⟩
        · rw [show ((a % c : Nat) : Int) = (a : Int) % (c : Int) from Int.natCast_emod a c]
          rfl
        · rw [← hg, Nat.gcd_comm a c, Nat.gcd_rec c a, Nat.gcd_comm]
        · show ((a : Int) % (c : Int)).toNat < (c : Int).toNat
          rw [← Int.natCast_emod, Int.toNat_natCast, Int.toNat_natCast]
          exact Nat.mod_lt _ (by omega)
      · have c0 : c = 0 := by
          rcases Nat.eq_zero_or_pos c with z | z
          · exact z
          · exact absurd (by simp; omega) hc
        subst c0
        rw [Nat.gcd_zero_right] at hg
        have ha : (a : Int) = gI t b := by
          unfold gI Int.gcd
          rw [hg]
        rw [ha]
        have lg : (gI t b).natAbs.log2 < 9000 := Nat.lt_of_lt_of_le (log_lt gs n0) (by omega)
        have small : ∀ u v : Int, u.natAbs < 2 ^ n → v.natAbs < 2 → CMulW v u := fun u v h1 h2 => wide (n := 1) (m := n) h2 h1 (by decide) n0 (by omega)
        refine ⟨_, rfl, _, _, rfl, rfl, _, rfl, ite2 (fun hp => ?_) (fun hp => ?_)⟩
        · have hpos : 0 < b := of_decide_eq_true hp
          refine ⟨_, rfl, _, rfl, _, _, rfl, rfl, small t 1 ht (by decide), _, rfl, _, _, rfl, rfl, ⟨by omega, lg⟩, _, rfl, _, rfl, _, _, rfl, rfl, small b 1 hbn (by decide), _, rfl, _, _, rfl, rfl, ⟨by omega, lg⟩, by show 2 ≤ sizeLine; decide, fun p hp => ?_⟩
          refine k p _ (Pre.same_upd hp) ?_
          rw [upd_same]
          have e1 : (1 * t).fdiv (gI t b) = (low t b).1 := by
            rw [Int.one_mul, Int.fdiv_eq_ediv_of_nonneg _ (by omega)]
            simp only [low, if_neg (show ¬ b < 0 by omega)]
          have e2 : (1 * b).fdiv (gI t b) = (low t b).2 := by
            rw [Int.one_mul, Int.fdiv_eq_ediv_of_nonneg _ (by omega)]
            simp only [low, if_neg (show ¬ b < 0 by omega)]
          show some (HO.tup [V.int ((1 * t).fdiv (gI t b)), V.int ((1 * b).fdiv (gI t b))]) = _
          rw [e1, e2]
        · have hneg : b < 0 := by
            have z : ¬ 0 < b := fun z => hp (decide_eq_true z)
            omega
          refine ⟨_, rfl, _, rfl, _, rfl, _, _, rfl, rfl, small t (-1) ht (by decide), _, rfl, _, _, rfl, rfl, ⟨by omega, lg⟩, _, rfl, _, rfl, _, _, rfl, rfl, small b (-1) hbn (by decide), _, rfl, _, _, rfl, rfl, ⟨by omega, lg⟩, by show 2 ≤ sizeLine; decide, fun p hp => ?_⟩
          refine k p _ (Pre.same_upd hp) ?_
          rw [upd_same]
          have e1 : (-1 * t).fdiv (gI t b) = (low t b).1 := by
            rw [Int.fdiv_eq_ediv_of_nonneg _ (by omega), neg_ediv gp (gI_l t b)]
            simp only [low, if_pos hneg]
          have e2 : (-1 * b).fdiv (gI t b) = (low t b).2 := by
            rw [Int.fdiv_eq_ediv_of_nonneg _ (by omega), neg_ediv gp (gI_r t b)]
            simp only [low, if_pos hneg]
          show some (HO.tup [V.int ((-1 * t).fdiv (gI t b)), V.int ((-1 * b).fdiv (gI t b))]) = _
          rw [e1, e2]
    · rintro σ H' Q1 Q2 hq ⟨x, hx, e, y, e2, q⟩
      exact ⟨x, hx, e, y, e2, hq _ _ q⟩
def spCpBin (K : PySem.W.Frag) (op : Int × Int → Int × Int → Int × Int) : Sp := fun vs H Q _ => ∃ (a b : Addr) (u v : Int × Int) (n m : Nat), vs = [.ref a, .ref b] ∧ At K H a u ∧ At K H b v ∧ u.2 ≠ 0 ∧ v.2 ≠ 0 ∧ sz n u ∧ sz m v ∧ 0 < n ∧ 0 < m ∧ n + m ≤ 6000 ∧
  ∀ (p : Addr) (H' : Hp), Same H H' → At K H' p (op u v) → Q (.ref p) H'
theorem scCpPlus : FnScope ["one", "other"] ["one", "other"] (defScope sCpPlus) := ⟨rfl, rfl, rfl, by decide +kernel, rfl, by decide +kernel, by decide +kernel⟩
theorem scCpTimes : FnScope ["one", "other"] ["one", "other"] (defScope sCpTimes) := ⟨rfl, rfl, rfl, by decide +kernel, rfl, by decide +kernel, by decide +kernel⟩
theorem ok_cpplus {f fS : Addr} {fd dS : FuncData} (F : Fun K "_law_cp_plus" "_law_cp_plus" sCpPlus f fd) (T : Pre.TxtP mg) (FS : Fun K "_law_cp_lowest" "_law_cp_lowest" sLowest fS dS) (mS : mg "_law_cp_lowest" = some (.ref fS)) : FnOk P0 w K mg base CX0 2 f fd ["one", "other"] (spCpBin K addW) := by
  have GS : FnOk P0 w K mg base CX0 1 fS dS ["top", "bottom"] spLowest := ok_lowest FS T
  have bS := FS.binds (ps := ["top", "bottom"]) fun _ _ _ _ _ _ us hl => match us, hl with | [_, _], _ => rfl
  refine F.ok scCpPlus (fun vs H Q E h => ?_) (fun cdv A outer s H vs Q E hr h => ?_)
  · obtain ⟨a, b, u, v, n, m, rfl, _⟩ := h
    rfl
  · obtain ⟨a, b, u, v, n, m, rfl, ha, hb, hu, hv, su, sv, n0, m0, nm, k⟩ := h
    refine ⟨_, pss_one (ps_ret (pe_call GS hr rfl mS FS.kp bS .nil pass0 (pa_cons (pe_op op_add (pe_op op_mulW (pe_ix ix_tup (pv 0) pe_int (fun _ _ => rfl)) (pe_ix ix_tup (pv 1) pe_int (fun _ _ => rfl))) (pe_op op_mulW (pe_ix ix_tup (pv 1) pe_int (fun _ _ => rfl)) (pe_ix ix_tup (pv 0) pe_int (fun _ _ => rfl))))
      (pa_cons (pe_op op_mulW (pe_ix ix_tup (pv 0) pe_int (fun _ _ => rfl)) (pe_ix ix_tup (pv 1) pe_int (fun _ _ => rfl))) pa_nil)))), ?_⟩
    refine ⟨_, rfl, a, _, _, _, rfl, rfl, ha, rfl, _, rfl, b, _, _, _, rfl, rfl, hb, rfl, _, _, rfl, rfl, wide su.1 sv.2 n0 m0 (by omega), ?_⟩
    refine ⟨_, rfl, b, _, _, _, rfl, rfl, hb, rfl, _, rfl, a, _, _, _, rfl, rfl, ha, rfl, _, _, rfl, rfl, wide sv.1 su.2 m0 n0 (by omega), _, _, rfl, rfl, ?_⟩
    refine ⟨_, rfl, a, _, _, _, rfl, rfl, ha, rfl, _, rfl, b, _, _, _, rfl, rfl, hb, rfl, _, _, rfl, rfl, wide su.2 sv.2 n0 m0 (by omega), ?_⟩
    exact ⟨_, _, n + m + 1, rfl, ne_mul hu hv, num_lt su sv, Nat.lt_of_lt_of_le (den_lt su sv) (Nat.pow_le_pow_right (by decide) (by omega)), by omega, by omega, fun p H' s1 hp => k p H' s1 (SqT.of hp)⟩
theorem ok_cptimes {f fS : Addr} {fd dS : FuncData} (F : Fun K "_law_cp_times" "_law_cp_times" sCpTimes f fd) (T : Pre.TxtP mg) (FS : Fun K "_law_cp_lowest" "_law_cp_lowest" sLowest fS dS) (mS : mg "_law_cp_lowest" = some (.ref fS)) : FnOk P0 w K mg base CX0 2 f fd ["one", "other"] (spCpBin K mulW) := by
  have GS : FnOk P0 w K mg base CX0 1 fS dS ["top", "bottom"] spLowest := ok_lowest FS T
  have bS := FS.binds (ps := ["top", "bottom"]) fun _ _ _ _ _ _ us hl => match us, hl with | [_, _], _ => rfl
  refine F.ok scCpTimes (fun vs H Q E h => ?_) (fun cdv A outer s H vs Q E hr h => ?_)
  · obtain ⟨a, b, u, v, n, m, rfl, _⟩ := h
    rfl
  · obtain ⟨a, b, u, v, n, m, rfl, ha, hb, hu, hv, su, sv, n0, m0, nm, k⟩ := h
    refine ⟨_, pss_one (ps_ret (pe_call GS hr rfl mS FS.kp bS .nil pass0 (pa_cons (pe_op op_mulW (pe_ix ix_tup (pv 0) pe_int (fun _ _ => rfl)) (pe_ix ix_tup (pv 1) pe_int (fun _ _ => rfl)))
      (pa_cons (pe_op op_mulW (pe_ix ix_tup (pv 0) pe_int (fun _ _ => rfl)) (pe_ix ix_tup (pv 1) pe_int (fun _ _ => rfl))) pa_nil)))), ?_⟩
    refine ⟨_, rfl, a, _, _, _, rfl, rfl, ha, rfl, _, rfl, b, _, _, _, rfl, rfl, hb, rfl, _, _, rfl, rfl, wide su.1 sv.1 n0 m0 (by omega), ?_⟩
    refine ⟨_, rfl, a, _, _, _, rfl, rfl, ha, rfl, _, rfl, b, _, _, _, rfl, rfl, hb, rfl, _, _, rfl, rfl, wide su.2 sv.2 n0 m0 (by omega), ?_⟩
    exact ⟨_, _, n + m, rfl, ne_mul hu hv, abs_mul_lt su.1 sv.1, den_lt su sv, by omega, by omega, fun p H' s1 hp => k p H' s1 (SqT.of hp)⟩
theorem scCpWhole : FnScope ["thing"] ["thing"] (defScope sCpWhole) := ⟨rfl, rfl, rfl, by decide +kernel, rfl, by decide +kernel, by decide +kernel⟩
theorem ok_cpwhole {f : Addr} {fd : FuncData} (F : Fun K "_law_cp_whole" "_law_cp_whole" sCpWhole f fd) (T : TxtW mg) : FnOk P0 w K mg base CX0 1 f fd ["thing"] (spWhole K) := by
  refine F.ok scCpWhole (fun vs H Q E h => ?_) (fun cdv A outer s H vs Q E hr h => ?_)
  · obtain ⟨x, d, rfl, _⟩ := h
    rfl
  · obtain ⟨x, d, rfl, hd, k⟩ := h
    refine ⟨_, pss_one (ps_ret (pe_and (pe_callB call_isi (by rfl) T.isi (by decide +kernel) (pa_cons (pv 0) (pa_cons (pe_bltn (v := .ty "int") (by rfl) T.int (by decide +kernel) rfl) pa_nil)))
      (pe_one (pe_not (pe_callB call_isi (by rfl) T.isi (by decide +kernel) (pa_cons (pv 0) (pa_cons (pe_bltn (v := .ty "bool") (by rfl) T.bool (by decide +kernel) rfl) pa_nil))))))), ?_⟩
    have ty := ty_of hd
    cases d with
    | int i => exact ⟨_, rfl, x, _, _, _, true, rfl, .ty _, ty, kit_ty (a := "int") (b := "int") (by decide +kernel), true, rfl, iteT ⟨_, rfl, x, _, _, _, false, rfl, .ty _, ty, kit_ty (a := "int") (b := "bool") (by decide +kernel), false, rfl, k⟩⟩
    | bool b => exact ⟨_, rfl, x, _, _, _, true, rfl, .ty _, ty, kit_ty (a := "bool") (b := "int") (by decide +kernel), true, rfl, iteT ⟨_, rfl, x, _, _, _, true, rfl, .ty _, ty, kit_ty (a := "bool") (b := "bool") (by decide +kernel), true, rfl, k⟩⟩
    | none => exact ⟨_, rfl, x, _, _, _, false, rfl, .ty _, ty, kit_ty (a := "NoneType") (b := "int") (by decide +kernel), false, rfl, iteF k⟩
    | str z => exact ⟨_, rfl, x, _, _, _, false, rfl, .ty _, ty, kit_ty (a := "str") (b := "int") (by decide +kernel), false, rfl, iteF k⟩
    | list z => exact ⟨_, rfl, x, _, _, _, false, rfl, .ty _, ty, kit_ty (a := "list") (b := "int") (by decide +kernel), false, rfl, iteF k⟩
    | tuple z => exact ⟨_, rfl, x, _, _, _, false, rfl, .ty _, ty, kit_ty (a := "tuple") (b := "int") (by decide +kernel), false, rfl, iteF k⟩
    | dict z => exact ⟨_, rfl, x, _, _, _, false, rfl, .ty _, ty, kit_ty (a := "dict") (b := "int") (by decide +kernel), false, rfl, iteF k⟩
/-- the pair's numbers, if d is one, are not great -/
def smallP (d : PyData) : Prop := ∀ a b, d = .tuple [.int a, .int b] → a.natAbs < 2 ^ 300 ∧ b.natAbs < 2 ^ 300
def spCpIsW (K : PySem.W.Frag) : Sp := fun vs H Q _ => ∃ x d, vs = [x] ∧ Dp K H x d ∧ smallP d ∧ ∀ H', Same H H' → Q (.bl (isWt d)) H'
theorem scCpIsW : FnScope ["thing"] ["thing"] (defScope sCpIsW) := ⟨rfl, rfl, rfl, by decide +kernel, rfl, by decide +kernel, by decide +kernel⟩
theorem low_self {a b : Int} (hb : 0 < b) : ((low a b).1 == a && ((low a b).2 == b && true)) = (gI a b == 1) := by
  have hg := gI_pos (t := a) (b := b) (by omega)
  have e : low a b = (a / gI a b, b / gI a b) := by simp only [low, if_neg (show ¬ b < 0 by omega)]
  rw [e]
  by_cases h : gI a b = 1
  · rw [h]
    simp
  · have hne : b / gI a b ≠ b := fun z => by
      obtain ⟨q, hq⟩ := gI_r a b
      have hq' : b / gI a b = q := Int.ediv_eq_of_eq_mul_right (by omega) hq
      rw [hq'] at z
      subst z
      have : gI a q * q = 1 * q := by rw [Int.one_mul]; exact hq.symm
      exact h (Int.eq_of_mul_eq_mul_right (by omega) this)
    have h1 : (b / gI a b == b) = false := beq_eq_false_iff_ne.mpr hne
    have h2 : (gI a b == 1) = false := beq_eq_false_iff_ne.mpr h
    show (a / gI a b == a && (b / gI a b == b && true)) = (gI a b == 1)
    rw [h1, h2]
    simp
theorem ok_cpisw {f fS fW : Addr} {fd dS dW : FuncData} (F : Fun K "_law_cp_is_weight" "_law_cp_is_weight" sCpIsW f fd) (T : TxtW mg) (T2 : Pre.TxtP mg) (FS : Fun K "_law_cp_lowest" "_law_cp_lowest" sLowest fS dS) (mS : mg "_law_cp_lowest" = some (.ref fS)) (FW : Fun K "_law_cp_whole" "_law_cp_whole" sCpWhole fW dW) (mW : mg "_law_cp_whole" = some (.ref fW)) :
    FnOk P0 w K mg base CX0 2 f fd ["thing"] (spCpIsW K) := by
  have GS : FnOk P0 w K mg base CX0 1 fS dS ["top", "bottom"] spLowest := ok_lowest FS T2
  have GW : FnOk P0 w K mg base CX0 1 fW dW ["thing"] (spWhole K) := ok_cpwhole FW T
  have bS := FS.binds (ps := ["top", "bottom"]) fun _ _ _ _ _ _ us hl => match us, hl with | [_, _], _ => rfl
  have bW := FW.binds (ps := ["thing"]) fun _ _ _ _ _ _ us hl => match us, hl with | [_], _ => rfl
  refine F.ok scCpIsW (fun vs H Q E h => ?_) (fun cdv A outer s H vs Q E hr h => ?_)
  · obtain ⟨x, d, rfl, _⟩ := h
    rfl
  · obtain ⟨x, d, rfl, hd, sm, k⟩ := h
    refine ⟨_, pss_cons (ps_if (PW.pt (pw_or (pt_not (pt_val (pe_callB call_isi (by rfl) T.isi (by decide +kernel) (pa_cons (pv 0) (pa_cons (pe_bltn (v := .ty "tuple") (by rfl) T.tuple (by decide +kernel) rfl) pa_nil)))))
          (pw_or (pt_cmpR op_ne (pe_callB call_len_seq (by rfl) T.len PySem.boot_len (pa_cons (pv 0) pa_nil)) pe_int (nomark _))
          (pw_or (pt_not (pt_val (pe_call GW hr rfl mW FW.kp bW .nil pass0 (pa_cons (pe_ix ix_tup (pv 0) pe_int (fun _ _ => rfl)) pa_nil))))
          (pw_or1 (pt_not (pt_val (pe_call GW hr rfl mW FW.kp bW .nil pass0 (pa_cons (pe_ix ix_tup (pv 0) pe_int (fun _ _ => rfl)) pa_nil)))))))))
        (pss_one (ps_ret pe_bl)) pss_nil)
      (pss_one (ps_ret (pe_and (pe_cmpR op_gt (pe_ix ix_tup (pv 0) pe_int (fun _ _ => rfl)) pe_int (nomark _))
        (pe_one (pe_cmpR (op_eqD hr.units) (pe_call GS hr rfl mS FS.kp bS .nil pass0 (pa_cons (pe_ix ix_tup (pv 0) pe_int (fun _ _ => rfl)) (pa_cons (pe_ix ix_tup (pv 0) pe_int (fun _ _ => rfl)) pa_nil))) (pv 0) (nomark _)))))), ?_⟩
    have ty := ty_of hd
    cases hd with
    | @tup a xs ds q r =>
      refine ⟨_, rfl, _, _, _, _, true, rfl, .ty _, ty, kit_ty (a := "tuple") (b := "tuple") (by decide +kernel), true, rfl, iteF ⟨_, rfl, a, xs, rfl, .inr q, rfl, _, rfl, ?_⟩⟩
      by_cases hl : xs.length = 2
      · have hl' : isTupN 2 (.tuple ds) = true := decide_eq_true (by rw [← dpAll_len r, hl]; rfl)
        obtain ⟨a', x1, x2, d1, d2, ea, ed, q', h1, h2⟩ := tup2 (.tup q r) hl'
        cases ea
        cases ed
        have e0 : decide (V.int (xs.length : Int) = V.int 2) = true := decide_eq_true (by rw [hl]; rfl)
        rw [e0]
        refine iteF ⟨_, rfl, a, _, _, _, rfl, rfl, q', rfl, x1, d1, rfl, h1, _, rfl, ?_⟩
        cases h1 with
        | int i =>
          refine iteF ⟨_, rfl, a, _, _, _, rfl, rfl, q', rfl, x2, d2, rfl, h2, _, rfl, ?_⟩
          cases h2 with
          | int j =>
            refine iteF ⟨_, rfl, a, _, _, _, rfl, rfl, q', rfl, _, _, rfl, rfl, _, rfl, ?_⟩
            by_cases hj : 0 < j
            · rw [decide_eq_true hj]
              obtain ⟨b1, b2⟩ := sm i j rfl
              refine iteT ⟨_, rfl, a, _, _, _, rfl, rfl, q', rfl, _, rfl, a, _, _, _, rfl, rfl, q', rfl, i, j, 300, rfl, by omega, b1, b2, by decide, by decide, fun p H' s1 hp => ?_⟩
              refine ⟨_, rfl, .tuple [.int (low i j).1, .int (low i j).2], .tuple [.int i, .int j], .tup (SqT.of hp) (.cons (.int _) (.cons (.int _) .nil)), .tup (sqT_same s1 q') (.cons (.int _) (.cons (.int _) .nil)), rfl, rfl, ?_⟩
              have e : PyData.eqv (.tuple [.int (low i j).1, .int (low i j).2]) (.tuple [.int i, .int j]) = isWt (.tuple [.int i, .int j]) := by
                have z1 : PyData.eqv (.tuple [.int (low i j).1, .int (low i j).2]) (.tuple [.int i, .int j]) = ((low i j).1 == i && ((low i j).2 == j && true)) := rfl
                rw [z1, low_self hj]
                simp [isWt, show 1 ≤ j by omega]
              rw [e]
              exact k H' s1
            · rw [decide_eq_false hj]
              have e : isWt (.tuple [.int i, .int j]) = false := by simp [isWt, show ¬ 1 ≤ j by omega]
              have k' := k H (Same.refl _)
              rw [e] at k'
              exact iteF k'
          | non => exact iteT (k H (Same.refl _))
          | bl b => exact iteT (k H (Same.refl _))
          | str b => exact iteT (k H (Same.refl _))
          | lst _ _ => exact iteT (k H (Same.refl _))
          | tup _ _ => exact iteT (k H (Same.refl _))
        | non => exact iteT (k H (Same.refl _))
        | bl b => exact iteT (k H (Same.refl _))
        | str b => exact iteT (k H (Same.refl _))
        | lst _ _ => exact iteT (k H (Same.refl _))
        | tup _ _ => exact iteT (k H (Same.refl _))
      · have e0 : decide (V.int (xs.length : Int) = V.int 2) = false := decide_eq_false fun z => by
          have z' : (xs.length : Int) = 2 := by
            injection z
          omega
        rw [e0]
        refine iteT ?_
        cases hw : isWt (.tuple ds) with
        | true =>
          have z := of_decide_eq_true (show decide ((ds.length : Int) = 2) = true from isWt_tup hw)
          rw [← dpAll_len r] at z
          omega
        | false =>
          have k' := k H (Same.refl _)
          rw [hw] at k'
          exact k'
    | non => exact ⟨_, rfl, _, _, _, _, false, rfl, .ty _, ty, kit_ty (a := "NoneType") (b := "tuple") (by decide +kernel), false, rfl, iteT (k H (Same.refl _))⟩
    | bl b => exact ⟨_, rfl, _, _, _, _, false, rfl, .ty _, ty, kit_ty (a := "bool") (b := "tuple") (by decide +kernel), false, rfl, iteT (k H (Same.refl _))⟩
    | int b => exact ⟨_, rfl, _, _, _, _, false, rfl, .ty _, ty, kit_ty (a := "int") (b := "tuple") (by decide +kernel), false, rfl, iteT (k H (Same.refl _))⟩
    | str b => exact ⟨_, rfl, _, _, _, _, false, rfl, .ty _, ty, kit_ty (a := "str") (b := "tuple") (by decide +kernel), false, rfl, iteT (k H (Same.refl _))⟩
    | lst q r => exact ⟨_, rfl, _, _, _, _, false, rfl, .ty _, ty, kit_ty (a := "list") (b := "tuple") (by decide +kernel), false, rfl, iteT (k H (Same.refl _))⟩
end
end Wt

namespace Wt
open PySem PySem.Spec PyProof.Rows L2
open Dc
abbrev sNumber : Stmt := Pre.top 38
abbrev sBad : Stmt := Pre.top 39
theorem st_same {H H' : Hp} {p g c : Addr} {n : Nat} (h : Pre.St H p g c n) (s : Same H H') : Pre.St H' p g c n := by
  obtain ⟨⟨gs, cs, r, t, h1, h2, h3, h4⟩, h5⟩ := h
  exact ⟨⟨gs, cs, r, t, s _ _ h1, s _ _ h2, s _ _ h3, h4⟩, h5⟩
theorem st_more {H : Hp} {p g c : Addr} {n m : Nat} (h : Pre.St H p g c n) (l : n ≤ m) : Pre.St H p g c m := by
  obtain ⟨⟨gs, cs, r, t, h1, h2, h3, h4, h5, h6, h7⟩, h8⟩ := h
  exact ⟨⟨gs, cs, r, t, h1, h2, h3, h4, h5, h6, by omega⟩, h8⟩
theorem st_p {H : Hp} {p g c : Addr} {n : Nat} (h : Pre.St H p g c n) : ∃ u, H p = some u := by
  obtain ⟨⟨gs, cs, r, t, h1, _⟩, _⟩ := h
  exact ⟨_, h1⟩
theorem st_g {H : Hp} {p g c : Addr} {n : Nat} (h : Pre.St H p g c n) : ∃ u, H g = some u := by
  obtain ⟨⟨gs, cs, r, t, _, h1, _⟩, _⟩ := h
  exact ⟨_, h1⟩
theorem st_new {H : Hp} {p g c : Addr} {n : Nat} {l : Addr} (h : Pre.St H p g c n) (hl : H l = none) : l ≠ p ∧ l ≠ g := by
  obtain ⟨u, hu⟩ := st_p h
  obtain ⟨v, hv⟩ := st_g h
  exact ⟨(ne_of_none hu hl).symm, (ne_of_none hv hl).symm⟩
section
variable {P0 : Program} {w : World} {K : PySem.W.Frag} {mg : Str → Option Value} {base : Heap}
/-- the law's draws -/
structure Drw (K : PySem.W.Frag) (mg : Str → Option Value) (fD fP fB : Addr) (dD dP dB : FuncData) : Prop where
  T : Pre.TxtP mg
  zg : mg "range" = none
  FD : Fun K "_law_draw" "_law_draw" Pre.sDraw fD dD
  mD : mg "_law_draw" = some (.ref fD)
  FP : Fun K "_law_pick" "_law_pick" Pre.sPick fP dP
  mP : mg "_law_pick" = some (.ref fP)
  FB : Fun K "_law_blended" "_law_blended" Pre.sBlended fB dB
  mB : mg "_law_blended" = some (.ref fB)
theorem digit_at {i : Nat} {x : V} (h : ([V.int 1, .int 1, .int 1, .int 2, .int 5, .int 20] : List V)[i]? = some x) : ∃ u : Nat, x = .int (u : Int) ∧ u ≤ 20 := by
  match i, h with
  | 0, h => exact ⟨1, (Option.some.inj h).symm, by decide⟩
  | 1, h => exact ⟨1, (Option.some.inj h).symm, by decide⟩
  | 2, h => exact ⟨1, (Option.some.inj h).symm, by decide⟩
  | 3, h => exact ⟨2, (Option.some.inj h).symm, by decide⟩
  | 4, h => exact ⟨5, (Option.some.inj h).symm, by decide⟩
  | 5, h => exact ⟨20, (Option.some.inj h).symm, by decide⟩
  | n + 6, h => cases h
theorem sign_at {i : Nat} {x : V} {z : Int} (h : ([V.int z, .int z, .int (0 - z)] : List V)[i]? = some x) : ∃ u : Int, x = .int u ∧ u.natAbs = z.natAbs := by
  match i, h with
  | 0, h => exact ⟨z, (Option.some.inj h).symm, rfl⟩
  | 1, h => exact ⟨z, (Option.some.inj h).symm, rfl⟩
  | 2, h => exact ⟨0 - z, (Option.some.inj h).symm, by omega⟩
  | n + 3, h => cases h
def spNumber : Sp := fun vs H Q _ => ∃ (p g c : Addr) (n : Nat), vs = [.ref p] ∧ Pre.St H p g c n ∧ n < 2 ^ 39 ∧ ∀ (H' : Hp) (z : Int), Pre.Kp p g H H' → Pre.St H' p g c (n + 22) → z.natAbs < 2 ^ 67 → Q (.int z) H'
theorem scNumber : FnScope ["state", "digits", "found", "lap"] ["state"] (defScope sNumber) := ⟨rfl, rfl, rfl, by decide +kernel, rfl, by decide +kernel, by decide +kernel⟩
theorem ten_more {a f : Int} {i : Nat} (h0 : 0 ≤ a) (h1 : a < 10 ^ i) (f0 : 0 ≤ f) (f1 : f < 10) : a * 10 + f < 10 ^ (i + 1) := by
  have e : (10 : Int) ^ (i + 1) = 10 ^ i * 10 := Int.pow_succ ..
  rw [e]
  omega
theorem ten_lt {a : Int} {i : Nat} (h0 : 0 ≤ a) (h1 : a < 10 ^ i) (hi : i ≤ 20) : a.natAbs < 2 ^ 67 := by
  have e : (10 : Int) ^ i ≤ 10 ^ 20 := by
    have := Nat.pow_le_pow_right (n := 10) (by decide) hi
    exact_mod_cast this
  have e2 : (10 : Int) ^ 20 < 2 ^ 67 := by decide +kernel
  have h : a < 2 ^ 67 := by omega
  omega
theorem ok_number {f fD fP fB : Addr} {fd dD dP dB : FuncData} (F : Fun K "_law_number" "_law_number" sNumber f fd) (D : Drw K mg fD fP fB dD dP dB) : FnOk P0 w K mg base CX0 4 f fd ["state"] spNumber := by
  have GD : FnOk P0 w K mg base CX0 2 fD dD ["state", "room"] Pre.spDraw := Pre.ok_draw D.FD D.T D.FB D.mB
  have GP : FnOk P0 w K mg base CX0 3 fP dP ["state", "some"] (Pre.spPick K) := Pre.ok_pick D.FP D.T D.FD D.mD D.FB D.mB
  have bD := D.FD.binds (ps := ["state", "room"]) fun _ _ _ _ _ _ us hl => match us, hl with | [_, _], _ => rfl
  have bP := D.FP.binds (ps := ["state", "some"]) fun _ _ _ _ _ _ us hl => match us, hl with | [_, _], _ => rfl
  refine F.ok scNumber (fun vs H Q E h => ?_) (fun cdv A outer s H vs Q E hr h => ?_)
  · obtain ⟨p, g, c, n, rfl, _⟩ := h
    rfl
  · obtain ⟨p, g, c, n, rfl, hs, hn, k⟩ := h
    have nd := scNumber.nd
    have hr2 : Room 2 _ := hr.mono (by decide)
    refine ⟨_, pss_cons (ps_set (i := 1) nd rfl (Or.inl rfl) (pe_call GP hr rfl D.mP D.FP.kp bP .nil pass0 (pa_cons (pv 0) (pa_cons (pe_lst (pa_cons pe_int (pa_cons pe_int (pa_cons pe_int (pa_cons pe_int (pa_cons pe_int (pa_cons pe_int pa_nil))))))) pa_nil))))
      (pss_cons (ps_set (i := 2) nd rfl (Or.inl rfl) pe_int)
      (pss_cons (ps_for PassesOwn.never rfl (pi_range1 (by rfl) D.zg (pa_cons (pv 1) pa_nil)) (pg_name (i := 3) nd rfl (Or.inl rfl))
        (pss_one (ps_set (i := 2) nd rfl (Or.inl rfl) (pe_op op_add (pe_op op_mulW (pv 2) pe_int) (pe_call GD hr2 rfl D.mD D.FD.kp bD .nil pass0 (pa_cons (pv 0) (pa_cons pe_int pa_nil)))))))
      (pss_one (ps_ret (pe_call GP hr rfl D.mP D.FP.kp bP .nil pass0 (pa_cons (pv 0) (pa_cons (pe_lst (pa_cons (pv 2) (pa_cons (pv 2) (pa_cons (pe_op op_sub pe_int (pv 2)) pa_nil)))) pa_nil))))))), ?_⟩
    refine ⟨_, rfl, by show 6 ≤ sizeLine; decide, fun l hl => ?_⟩
    have nl := st_new hs hl
    refine ⟨p, g, c, n, l, _, rfl, st_same hs (Pre.same_upd hl), by omega, upd_same, nl.2, by show 0 < 6; decide, by show 6 ≤ 1000; decide, fun H1 i y kp1 s1 hi hy => ?_⟩
    obtain ⟨u, rfl, hu⟩ := digit_at hy
    have kp0 : Pre.Kp p g H H1 := (Pre.Kp.of (Pre.same_upd hl)).trans kp1
    refine ⟨_, rfl, (u : Int), rfl, by omega, by omega, for_range (n := (u : Int).toNat) (fun i σ H' => ∃ (a : Int) (lp : Option V), σ = [some (.ref p), some (.int (u : Int)), some (.int a), lp] ∧ Pre.Kp p g H H' ∧ Pre.St H' p g c (n + 1 + i) ∧ 0 ≤ a ∧ a < 10 ^ i)
      ⟨0, none, rfl, kp0, s1, by decide, by decide⟩ ?_ ?_⟩
    · rintro i σ H2 hi2 ⟨a, lp, rfl, kp2, s2, a0, a1⟩
      rw [Int.toNat_natCast] at hi2
      refine ⟨_, rfl, a, 10, rfl, rfl, wide (n := 67) (m := 4) (ten_lt a0 a1 (by omega)) (by decide) (by decide) (by decide) (by decide), _, rfl, p, g, c, n + 1 + i, 10, rfl, s2, by omega, by decide, by decide, fun H3 f0 kp3 s3 f1 f2 => ?_⟩
      exact ⟨_, _, rfl, rfl, a * 10 + f0, _, rfl, kp2.trans kp3, s3, by omega, ten_more a0 a1 f1 f2⟩
    · rintro σ H2 ⟨a, lp, rfl, kp2, s2, a0, a1⟩
      rw [Int.toNat_natCast] at a1 s2
      refine ⟨_, rfl, _, rfl, _, rfl, _, rfl, 0, a, rfl, rfl, by show 3 ≤ sizeLine; decide, fun l2 hl2 => ?_⟩
      have nl2 := st_new s2 hl2
      refine ⟨p, g, c, n + 1 + u, l2, _, rfl, st_same s2 (Pre.same_upd hl2), by omega, upd_same, nl2.2, by show 0 < 3; decide, by show 3 ≤ 1000; decide, fun H3 i3 y3 kp3 s3 hi3 hy3 => ?_⟩
      obtain ⟨z, rfl, hz⟩ := sign_at hy3
      exact k H3 z (kp2.trans ((Pre.Kp.of (Pre.same_upd hl2)).trans kp3)) (st_more s3 (by omega)) (by rw [hz]; exact ten_lt a0 a1 hu)
def bads : List PyData := [.none, .int 1, .tuple [.int 1], .tuple [.int 1, .int 0], .tuple [.int 2, .int 4], .tuple [.int 0, .int 2], .tuple [.int 1, .int (-2)], .list [.int 1, .int 2], .tuple [.bool true, .int 2], .tuple [.int 1, .bool true], .tuple [.str "1", .int 2], .tuple [.int 1, .int 2, .int 3], .tuple [.int 0, .int 0]]
theorem bads_not : ∀ d ∈ bads, isWt d = false := by decide +kernel
def spBad (K : PySem.W.Frag) : Sp := fun vs H Q _ => ∃ (p g c : Addr) (n : Nat), vs = [.ref p] ∧ Pre.St H p g c n ∧ n < 2 ^ 39 ∧ ∀ (H' : Hp) (y : V) (d : PyData), Pre.Kp p g H H' → Pre.St H' p g c (n + 1) → Dp K (wo p g H') y d → d ∈ bads → Q y H'
theorem scBad : FnScope ["state", "some"] ["state"] (defScope sBad) := ⟨rfl, rfl, rfl, by decide +kernel, rfl, by decide +kernel, by decide +kernel⟩
theorem ok_bad {f fD fP fB : Addr} {fd dD dP dB : FuncData} (F : Fun K "_law_bad" "_law_bad" sBad f fd) (D : Drw K mg fD fP fB dD dP dB) : FnOk P0 w K mg base CX0 4 f fd ["state"] (spBad K) := by
  have GP : FnOk P0 w K mg base CX0 3 fP dP ["state", "some"] (Pre.spPick K) := Pre.ok_pick D.FP D.T D.FD D.mD D.FB D.mB
  have bP := D.FP.binds (ps := ["state", "some"]) fun _ _ _ _ _ _ us hl => match us, hl with | [_, _], _ => rfl
  refine F.ok scBad (fun vs H Q E h => ?_) (fun cdv A outer s H vs Q E hr h => ?_)
  · obtain ⟨p, g, c, n, rfl, _⟩ := h
    rfl
  · obtain ⟨p, g, c, n, rfl, hs, hn, k⟩ := h
    have nd := scBad.nd
    refine ⟨_, pss_cons (ps_set (i := 1) nd rfl (Or.inl rfl) (pe_lstD (ds := bads) (ad_cons ed_non (ad_cons ed_int (ad_cons (ed_tup (ad_cons ed_int ad_nil) (by decide)) (ad_cons (ed_tup (ad_cons ed_int (ad_cons ed_int ad_nil)) (by decide)) (ad_cons (ed_tup (ad_cons ed_int (ad_cons ed_int ad_nil)) (by decide))
        (ad_cons (ed_tup (ad_cons ed_int (ad_cons ed_int ad_nil)) (by decide)) (ad_cons (ed_tup (ad_cons ed_int (ad_cons ed_neg ad_nil)) (by decide)) (ad_cons (ed_lst (ad_cons ed_int (ad_cons ed_int ad_nil)) (by decide)) (ad_cons (ed_tup (ad_cons ed_bl (ad_cons ed_int ad_nil)) (by decide))
        (ad_cons (ed_tup (ad_cons ed_int (ad_cons ed_bl ad_nil)) (by decide)) (ad_cons (ed_tup (ad_cons ed_str (ad_cons ed_int ad_nil)) (by decide)) (ad_cons (ed_tup (ad_cons ed_int (ad_cons ed_int (ad_cons ed_int ad_nil))) (by decide)) (ad_cons (ed_tup (ad_cons ed_int (ad_cons ed_int ad_nil)) (by decide)) ad_nil))))))))))))) (by decide)))
      (pss_one (ps_ret (pe_call GP hr rfl D.mP D.FP.kp bP .nil pass0 (pa_cons (pv 0) (pa_cons (pv 1) pa_nil))))), ?_⟩
    intro l vs H1 s1 hl hl1 hd
    have nl := st_new hs hl
    obtain ⟨u, hu⟩ := st_p hs
    obtain ⟨v, hv⟩ := st_g hs
    have hlen : vs.length = 13 := dpAll_len hd
    refine ⟨_, rfl, _, rfl, p, g, c, n, l, vs, rfl, st_same hs s1, by omega, hl1, nl.2, by omega, by omega, fun H2 i y kp2 s2 hi hy => ?_⟩
    obtain ⟨d, hdi, hdy⟩ := dpAll_at hd hy
    exact k H2 y d ((Pre.Kp.of s1).trans kp2) s2 (dp_same ((nw_wo hu hv).trans (wo_kp kp2)) hdy) (List.mem_of_getElem? hdi)
end
end Wt

namespace Xt
open PySem PySem.Spec PyProof.Rows L2
open Lm (ExT)
/-- what isinstance asks of an own exception's class at C -/
structure IsE (K : PySem.W.Frag) (C : Addr) : Prop where
  clsd : (PySem.W.clsIn K C).isSome = true
  getA : PySem.W.findIn K (.ref C) "__getattribute__" = some (some (.builtin "BaseException.__getattribute__"))
  getB : PySem.W.findIn K (.ref C) "__getattr__" = some none
  under : PySem.W.subIn K (.ref C) (.type "BaseException") = some true
  clsA : PySem.W.findIn K (.ref C) "__class__" = some (some (.builtin "object.__class__"))
  orig : PySem.W.mroIn K C (.type "object") = some true
structure IsG (K : PySem.W.Frag) : Prop where
  get : PySem.W.specialIn K (.builtin "object.__class__") "__get__" = some (some (.builtin "getset_descriptor.__get__"))
  takes : PySem.W.takesIn K (.builtin "object.__class__") = some true
/-- isinstance(e, c), e caught -/
def rIsE (K : PySem.W.Frag) : List V → Hp → VK → Prop := fun xs H Q => ∃ (a C : Addr) (c : V) (cv : Value) (b : Bool), xs = [.ref a, c] ∧ H a = some (ExT (.ref C) none a) ∧ IsE K C ∧ ClsV c cv ∧ PySem.W.kitOne K (.ref C) cv = some b ∧ Q (.bl b) H
theorem call_isE {X : Cx} (Z : IsG X.K) : CallR X (.builtin "isinstance") (rIsE X.K) := by
  intro ps0 s σ H xs args Q I r h
  obtain ⟨a, C, c, cv, b, rfl, x, T, k, e, q⟩ := h
  obtain ⟨u1, u2, rfl, r1, r2⟩ := vals2 r
  cases (show u1 = Value.ref a from r1)
  have e2 := k.eq r2
  subst e2
  obtain ⟨⟨oe, fv, ho, hz, hd⟩, _, _⟩ := (show ObjOk X.prog X.w H s.heap a (ExT (.ref C) none a) from I.hok a _ x)
  have J : PySem.W.InstAt s.heap a oe C none := ⟨ho, hz.1, by unfold PySem.W.notCls; rw [hd] <;> rfl, by rw [hz.2]; trivial⟩
  exact PySem.W.kia_one (PySem.W.kitx_exc (od := none) T.clsd T.getA T.getB T.under T.clsA Z.get Z.takes T.orig) I.kIn J e (by intro fin; cases fin) fun tks => ⟨.bl b, H, I.tok tks, rfl, q⟩
end Xt
namespace Us
open PySem PySem.Spec PyProof.Rows L2
/-- a def of the module that keeps sp -/
structure Use (P0 : Program) (w : World) (K : PySem.W.Frag) (mg : Str → Option Value) (CX : CXT) (k : Nat) (x : Str) (ps : List Str) (sp : Sp) (f : Addr) (fd : FuncData) : Prop where
  ok : ∀ base, FnOk P0 w K mg base CX k f fd ps sp
  at_ : mg x = some (.ref f)
  kp : PySem.W.keepIn K (.ref f) = true
theorem Use.imp {P0 : Program} {w : World} {K : PySem.W.Frag} {mg : Str → Option Value} {CX : CXT} {k : Nat} {x : Str} {ps : List Str} {sp sp' : Sp} {f : Addr} {fd : FuncData} (U : Use P0 w K mg CX k x ps sp f fd) (h : ∀ vs H Q E, sp' vs H Q E → sp vs H Q E) : Use P0 w K mg CX k x ps sp' f fd := ⟨fun base => (U.ok base).imp h, U.at_, U.kp⟩
theorem Use.or {P0 : Program} {w : World} {K : PySem.W.Frag} {mg : Str → Option Value} {CX : CXT} {k : Nat} {x : Str} {ps : List Str} {sp sp' : Sp} {f : Addr} {fd : FuncData} (U : Use P0 w K mg CX k x ps sp f fd) (U' : Use P0 w K mg CX k x ps sp' f fd) : Use P0 w K mg CX k x ps (fun vs H Q E => sp vs H Q E ∨ sp' vs H Q E) f fd :=
  ⟨fun base => ⟨fun vs H Q E h => h.elim ((U.ok base).len vs H Q E) ((U'.ok base).len vs H Q E), fun A outer s H args us vs Q E hr e0 hb r h => h.elim ((U.ok base).run A outer s H args us vs Q E hr e0 hb r) ((U'.ok base).run A outer s H args us vs Q E hr e0 hb r)⟩, U.at_, U.kp⟩
section
variable {X : Cx} {CX : CXT} {k : Nat} {f : Addr} {fd : FuncData} {ps : List Str} {sp : Sp} {E : XK} {x : Str} {p pos : Pos} {e : Expr} {es : List Expr} {t : TA}
theorem pe_use0 (U : Use X.prog X.w X.K X.mg CX0 k x ps sp f fd) (hr : Room k X.A) (hb : Binds X.K fd ps []) (ha : PA X (e :: es) t) (hg : Gl X x := by rfl) (hdb : (x == ("__debug__" : Str)) = false := by decide)
    (he : starEach (e :: es) X.env = (false, eval e X.env) :: starEach es X.env := by rfl) (hpl : (backTo pos (starEach es X.env)).any (·.1) = false := by rfl) : PE X (.Call (.Name x p) (e :: es) [] pos) (tCall sp [] E0 t) :=
  pe_call (U.ok X.base) hr hg U.at_ U.kp hb .nil pass0 ha hdb he hpl
theorem none_out : Passes (L2.CX X.prog X.w) X E0 := fun pins σ H s e s' I c => passAt LamX.takes0 σ pins H s e s' I c
/-- a call that lets nothing out -/
theorem pe_useN {ds : List Value} {dvs : List V} (U : Use X.prog X.w X.K X.mg (L2.CX X.prog X.w) k x ps sp f fd) (hr : Room k X.A) (hb : Binds X.K fd ps ds) (hd : Vals dvs ds) (ha : PA X (e :: es) t) (hg : Gl X x := by rfl) (hdb : (x == ("__debug__" : Str)) = false := by decide)
    (he : starEach (e :: es) X.env = (false, eval e X.env) :: starEach es X.env := by rfl) (hpl : (backTo pos (starEach es X.env)).any (·.1) = false := by rfl) : PE X (.Call (.Name x p) (e :: es) [] pos) (tCall sp dvs E0 t) :=
  pe_call (U.ok X.base) hr hg U.at_ U.kp hb hd none_out ha hdb he hpl
/-- f(k = e) and f(k = e, l = e'): keywords alone -/
def tKw (sp : Sp) (ord : List V → List V) (t : TA) : TE := fun σ H Q => t σ H fun zs H1 => sp (ord zs) H1 Q E0
theorem pe_kw {kws : List Keyword} {ks : List Str} {ord : List V → List V} {ordW : List Value → List Value} (U : Use X.prog X.w X.K X.mg CX k x ps sp f fd) (hr : Room k X.A) (hx : Passes CX X E0) (hb : ∀ (s : Shared) (ws : List Value), X.K.In s.heap → ws.length = ks.length → BindsTo s fd ⟨[], ks.zip ws⟩ (ps.zip (ordW ws))) (hv : ∀ zs ws, Vals zs ws → ws.length = ks.length → Vals (ord zs) (ordW ws)) (hkw : PK X kws t)
    (hl : ∀ zs ws, Vals zs ws → sp (ord zs) = sp (ord zs) → (ord zs).length = ps.length → ws.length = ks.length) (hg : Gl X x := by rfl)
    (hall : (backToKw pos (keywordEach kws X.env)).all (·.1.isSome) = true := by rfl) (hks : (backToKw pos (keywordEach kws X.env)).filterMap (·.1) = ks := by rfl) (hdb : (x == ("__debug__" : Str)) = false := by decide)
    (hpl : ((backTo pos (starEach [] X.env)).any (·.1) || (backToKw pos (keywordEach kws X.env)).any (·.1.isNone)) = false := by rfl) : PE X (.Call (.Name x p) [] kws pos) (tKw sp ord t) := by
  refine ⟨fun pins s σ H Q I h => ?_⟩
  refine wpAny_Call_Name_kw (ld_glob I hg U.at_ ?_ hdb)
  refine PySem.W.callWith_KW0 (h₀ := X.base) I.ok.mod.kin U.kp hall (thn (hkw.run pos pins s σ H _ I h) fun ws s1 ⟨zs, H1, I1, r, q⟩ => ⟨I1.kIn, ?_⟩) hpl
  rw [hks]
  have n1 := hl zs ws r rfl ((U.ok X.base).len _ _ _ _ q)
  show wpAny _ _ (call (.ref f) [] (ks.zip ws)) _ _ _
  refine wpAny_call (codeAny_mono ((U.ok X.base).run X.A X.stack s1 H1 ⟨[], ks.zip ws⟩ (ordW ws) (ord zs) Q E0 hr I1.env0 (hb s1 ws I1.kIn n1) (hv zs ws r n1) q) fun r s2 out => ?_)
  cases r with
  | error e => exact hx pins σ H1 s1 e s2 I1 out
  | ok fl =>
    cases fl with
    | ret u => exact I1.after out
    | next => exact out.elim
    | brk => exact out.elim
    | cont => exact out.elim
/-- one keyword -/
theorem pe_kw1 {a : Str} {e1 : Expr} {t1 : TE} {kp0 : Pos} (U : Use X.prog X.w X.K X.mg CX k x [a] sp f fd) (hr : Room k X.A) (hx : Passes CX X E0) (hb : ∀ (s : Shared) (u : Value), X.K.In s.heap → BindsTo s fd ⟨[], [(a, u)]⟩ [(a, u)]) (h1 : PE X e1 t1) (hg : Gl X x := by rfl)
    (hall : (backToKw pos (keywordEach [⟨some a, e1, kp0⟩] X.env)).all (·.1.isSome) = true := by rfl) (hks : (backToKw pos (keywordEach [⟨some a, e1, kp0⟩] X.env)).filterMap (·.1) = [a] := by rfl) (hdb : (x == ("__debug__" : Str)) = false := by decide)
    (hpl : ((backTo pos (starEach [] X.env)).any (·.1) || (backToKw pos (keywordEach [⟨some a, e1, kp0⟩] X.env)).any (·.1.isNone)) = false := by rfl) : PE X (.Call (.Name x p) [] [⟨some a, e1, kp0⟩] pos) (tKw sp (fun zs => zs) (tCons t1 tNil)) :=
  pe_kw (ks := [a]) (ord := fun zs => zs) (ordW := fun ws => ws) U hr hx (fun s ws kin h => match ws, h with | [u], _ => hb s u kin) (fun _ _ r _ => r) (pk_cons h1 pk_nil) (fun zs ws r _ h => by rw [← r.length]; exact h) hg hall hks hdb hpl
def swapL {α : Type} : List α → List α
  | [a, b] => [b, a]
  | zs => zs
theorem swapL_len {α : Type} : ∀ zs : List α, (swapL zs).length = zs.length
  | [] => rfl
  | [_] => rfl
  | [_, _] => rfl
  | _ :: _ :: _ :: _ => rfl
theorem swapL_vals : ∀ {zs : List V} {ws : List Value}, Vals zs ws → Vals (swapL zs) (swapL ws)
  | _, _, .nil => .nil
  | _, _, .cons h .nil => .cons h .nil
  | _, _, .cons h (.cons h2 .nil) => .cons h2 (.cons h .nil)
  | _, _, .cons h (.cons h2 (.cons h3 r)) => .cons h (.cons h2 (.cons h3 r))
/-- two keywords in the parameters' order -/
theorem pe_kw2 {a b : Str} {e1 e2 : Expr} {t1 t2 : TE} {kp1 kp2 : Pos} (U : Use X.prog X.w X.K X.mg CX k x [a, b] sp f fd) (hr : Room k X.A) (hx : Passes CX X E0) (hb : ∀ (s : Shared) (u v : Value), X.K.In s.heap → BindsTo s fd ⟨[], [(a, u), (b, v)]⟩ [(a, u), (b, v)]) (h1 : PE X e1 t1) (h2 : PE X e2 t2) (hg : Gl X x := by rfl)
    (hall : (backToKw pos (keywordEach [⟨some a, e1, kp1⟩, ⟨some b, e2, kp2⟩] X.env)).all (·.1.isSome) = true := by rfl) (hks : (backToKw pos (keywordEach [⟨some a, e1, kp1⟩, ⟨some b, e2, kp2⟩] X.env)).filterMap (·.1) = [a, b] := by rfl) (hdb : (x == ("__debug__" : Str)) = false := by decide)
    (hpl : ((backTo pos (starEach [] X.env)).any (·.1) || (backToKw pos (keywordEach [⟨some a, e1, kp1⟩, ⟨some b, e2, kp2⟩] X.env)).any (·.1.isNone)) = false := by rfl) : PE X (.Call (.Name x p) [] [⟨some a, e1, kp1⟩, ⟨some b, e2, kp2⟩] pos) (tKw sp (fun zs => zs) (tCons t1 (tCons t2 tNil))) :=
  pe_kw (ks := [a, b]) (ord := fun zs => zs) (ordW := fun ws => ws) U hr hx (fun s ws kin h => match ws, h with | [u, v], _ => hb s u v kin) (fun _ _ r _ => r) (pk_cons h1 (pk_cons h2 pk_nil)) (fun zs ws r _ h => by rw [← r.length]; exact h) hg hall hks hdb hpl
/-- two keywords the other way round -/
theorem pe_kw2s {a b : Str} {e1 e2 : Expr} {t1 t2 : TE} {kp1 kp2 : Pos} (U : Use X.prog X.w X.K X.mg CX k x [a, b] sp f fd) (hr : Room k X.A) (hx : Passes CX X E0) (hb : ∀ (s : Shared) (u v : Value), X.K.In s.heap → BindsTo s fd ⟨[], [(b, v), (a, u)]⟩ [(a, u), (b, v)]) (h1 : PE X e1 t1) (h2 : PE X e2 t2) (hg : Gl X x := by rfl)
    (hall : (backToKw pos (keywordEach [⟨some b, e1, kp1⟩, ⟨some a, e2, kp2⟩] X.env)).all (·.1.isSome) = true := by rfl) (hks : (backToKw pos (keywordEach [⟨some b, e1, kp1⟩, ⟨some a, e2, kp2⟩] X.env)).filterMap (·.1) = [b, a] := by rfl) (hdb : (x == ("__debug__" : Str)) = false := by decide)
    (hpl : ((backTo pos (starEach [] X.env)).any (·.1) || (backToKw pos (keywordEach [⟨some b, e1, kp1⟩, ⟨some a, e2, kp2⟩] X.env)).any (·.1.isNone)) = false := by rfl) : PE X (.Call (.Name x p) [] [⟨some b, e1, kp1⟩, ⟨some a, e2, kp2⟩] pos) (tKw sp swapL (tCons t1 (tCons t2 tNil))) :=
  pe_kw (ks := [b, a]) (ord := swapL) (ordW := swapL) U hr hx (fun s ws kin h => match ws, h with | [v, u], _ => hb s u v kin) (fun _ _ r _ => swapL_vals r) (pk_cons h1 (pk_cons h2 pk_nil)) (fun zs ws r _ h => by rw [← r.length]; rw [swapL_len] at h; exact h) hg hall hks hdb hpl
end
end Us

namespace Wt
open PySem PySem.Spec PyProof.Rows L2
open Dc Us Xt
open Lm (LamO ExT tLamb pe_lam tCaught pe_caught sCaught)
open LamX (CodeO TabS Tabs ExtN TabB LamS lamEnv lamCx lamS_by)
/-- how the lambdas of the def x are called -/
abbrev lamQ (x : Str) (sc : Scope) : Str := (envOfC x sc 0 0 .none).qual ++ "<lambda>"
abbrev sRefused : Stmt := Pre.top 40
/-- all but the state, its great ones and tables stays -/
def Kx (p g : Addr) (H H' : Hp) : Prop := ∀ b o, b ≠ p → b ≠ g → (∀ ps, o ≠ .tbl ps) → H b = some o → H' b = some o
theorem Kx.trans {p g : Addr} {H H1 H2 : Hp} (a : Kx p g H H1) (b : Kx p g H1 H2) : Kx p g H H2 := fun x o h1 h2 h3 e => b x o h1 h2 h3 (a x o h1 h2 h3 e)
theorem Kx.kp {p g : Addr} {H H1 : Hp} (a : Pre.Kp p g H H1) : Kx p g H H1 := fun x o h1 h2 _ e => a x o h1 h2 e
theorem Kx.ext {p g : Addr} {H H1 : Hp} (a : ExtN H H1) : Kx p g H H1 := fun x o _ _ h e => a x o e h
theorem Kx.of {p g : Addr} {H H1 : Hp} (a : Same H H1) : Kx p g H H1 := fun x o _ _ _ e => a x o e
theorem ext_of {H H1 : Hp} (a : Same H H1) : ExtN H H1 := fun x o e _ => a x o e
/-- tables apart -/
def nt (H : Hp) : Hp := fun b => match H b with
  | some (.tbl _) => none
  | x => x
theorem nt_at {H : Hp} {b : Addr} {o : HO} (e : H b = some o) (h : ∀ ps, o ≠ .tbl ps) : nt H b = some o := by
  unfold nt
  rw [e]
  cases o <;> first | rfl | exact absurd rfl (h _)
theorem nt_inv {H : Hp} {b : Addr} {o : HO} (e : nt H b = some o) : H b = some o ∧ ∀ ps, o ≠ .tbl ps := by
  unfold nt at e
  split at e
  · cases e
  · rename_i h
    exact ⟨e, fun ps z => h ps (by rw [e, z])⟩
theorem nt_sub {H : Hp} : Same (nt H) H := fun _ _ e => (nt_inv e).1
def wx (p g : Addr) (H : Hp) : Hp := nt (wo p g H)
theorem wx_sub {p g : Addr} {H : Hp} : Same (wx p g H) H := nt_sub.trans wo_sub
theorem wx_kx {p g : Addr} {H H1 : Hp} (k : Kx p g H H1) : Same (wx p g H) (wx p g H1) := fun b o e => by
  obtain ⟨h1, h2⟩ := nt_inv e
  obtain ⟨h3, h4, h5⟩ := wo_inv h1
  exact nt_at (wo_at h3 h4 (k b o h3 h4 h2 h5)) h2
theorem sqT_nt {K : PySem.W.Frag} {H : Hp} {a : Addr} {xs : List V} (h : SqT K H a xs) : SqT K (nt H) a xs := by
  rcases h with (h | ⟨o, h⟩) | h
  · exact .inl (.inl (nt_at h (fun _ z => by cases z)))
  · exact .inl (.inr ⟨o, nt_at h (fun _ z => by cases z)⟩)
  · exact .inr h
theorem sqL_nt {K : PySem.W.Frag} {H : Hp} {a : Addr} {xs : List V} (h : SqL K H a xs) : SqL K (nt H) a xs := by
  rcases h with (h | ⟨o, h⟩) | h
  · exact .inl (.inl (nt_at h (fun _ z => by cases z)))
  · exact .inl (.inr ⟨o, nt_at h (fun _ z => by cases z)⟩)
  · exact .inr h
mutual
theorem dp_nt {K : PySem.W.Frag} {H : Hp} : ∀ {x : V} {d : PyData}, Dp K H x d → Dp K (nt H) x d
  | _, _, .non => .non
  | _, _, .bl b => .bl b
  | _, _, .int i => .int i
  | _, _, .str s => .str s
  | _, _, .lst q r => .lst (sqL_nt q) (dpAll_nt r)
  | _, _, .tup q r => .tup (sqT_nt q) (dpAll_nt r)
theorem dpAll_nt {K : PySem.W.Frag} {H : Hp} : ∀ {xs : List V} {ds : List PyData}, DpAll K H xs ds → DpAll K (nt H) xs ds
  | _, _, .nil => .nil
  | _, _, .cons h r => .cons (dp_nt h) (dpAll_nt r)
end
theorem st_ext {H H' : Hp} {p g c : Addr} {n : Nat} (h : Pre.St H p g c n) (s : ExtN H H') : Pre.St H' p g c n := by
  obtain ⟨⟨gs, cs, r, t, h1, h2, h3, h4⟩, h5⟩ := h
  exact ⟨⟨gs, cs, r, t, s _ _ h1 (fun _ z => by cases z), s _ _ h2 (fun _ z => by cases z), s _ _ h3 (fun _ z => by cases z), h4⟩, h5⟩
theorem at_wx {K : PySem.W.Frag} {H : Hp} {p g c a : Addr} {n : Nat} {xs : List V} (h : SqT K H a xs) (hs : Pre.St H p g c n) : SqT K (wx p g H) a xs := by
  obtain ⟨⟨gs, cs, r, t, hp, hg, _⟩, _⟩ := hs
  refine sqT_nt ?_
  have off : ∀ o, H a = some o → (∀ kvs, o ≠ .dK kvs) → (∀ ys, o ≠ .lst ys) → wo p g H a = some o := fun o e n1 n2 => wo_at (fun y => by
    rw [y, hp] at e
    cases e
    exact n1 _ rfl) (fun y => by
    rw [y, hg] at e
    cases e
    exact n2 _ rfl) e
  rcases h with (h | ⟨o, h⟩) | h
  · exact .inl (.inl (off _ h (fun _ z => by cases z) (fun _ z => by cases z)))
  · exact .inl (.inr ⟨o, off _ h (fun _ z => by cases z) (fun _ z => by cases z)⟩)
  · exact .inr h
theorem at_kx {K : PySem.W.Frag} {H H' : Hp} {p g c a : Addr} {n : Nat} {xs : List V} (h : SqT K H a xs) (hs : Pre.St H p g c n) (k : Kx p g H H') : SqT K H' a xs := sqT_same wx_sub (sqT_same (wx_kx k) (at_wx h hs))
section
variable {P0 : Program} {w : World} {K : PySem.W.Frag} {mg : Str → Option Value} {base : Heap}
/-- what the law asks of the module's defs -/
structure Wk (P0 : Program) (w : World) (K : PySem.W.Frag) (mg : Str → Option Value) (CS CW CN f1 f2 f3 f4 f5 f6 : Addr) (d1 d2 d3 d4 d5 d6 : FuncData) : Prop where
  plus : Use P0 w K mg (L2.CX P0 w) 4 "plus" ["one", "other"] (spBin K CW addW) f1 d1
  bplus : Binds K d1 ["one", "other"] []
  times : Use P0 w K mg (L2.CX P0 w) 4 "times" ["one", "other"] (spBin K CW mulW) f2 d2
  btimes : Binds K d2 ["one", "other"] []
  less : Use P0 w K mg (L2.CX P0 w) 4 "less" ["one", "other"] (spBin K CW lessW) f3 d3
  bless : Binds K d3 ["one", "other"] []
  below : Use P0 w K mg (L2.CX P0 w) 4 "is_below" ["one", "other"] (spBelowX K CW) f4 d4
  bbelow : Binds K d4 ["one", "other"] []
  summed : Use P0 w K mg (L2.CX P0 w) 4 "summed" ["weights"] (fun vs H Q E => (spSum K SqL CW vs H Q E ∨ spSum K SqT CW vs H Q E) ∨ spSumN K CW vs H Q E) f5 d5
  bsummed : Binds K d5 ["weights"] []
  weight : Use P0 w K mg (L2.CX P0 w) 2 "weight" ["top", "bottom"] (spWeight K CN) f6 d6
  bweight : Binds K d6 ["top", "bottom"] []
  eS : mg "ChanceError" = some (.ref CS)
  eW : mg "BadWeight" = some (.ref CW)
  eN : mg "BadNumber" = some (.ref CN)
  xW : PySem.W.exmOne K (.ref CW) (.ref CS) = some true
  xN : PySem.W.exmOne K (.ref CN) (.ref CS) = some true
  iW : IsE K CW
  iN : IsE K CN
  kW : PySem.W.kitOne K (.ref CW) (.ref CW) = some true
  kN : PySem.W.kitOne K (.ref CN) (.ref CN) = some true
  Z : IsG K
  zi : mg "isinstance" = none
def spRefused (K : PySem.W.Frag) (PR : Addr) (q : Str) : Sp := fun vs H Q _ => ∃ (p g c a : Addr) (u : Int × Int) (n : Nat), vs = [.ref p, .ref a] ∧ Pre.St H p g c n ∧ n < 2 ^ 38 ∧ At K H a u ∧ isW u ∧ sz 300 u ∧ Tabs [(PR, q)] H ∧
  ∀ H', Kx p g H H' → Pre.St H' p g c (n + 3) → Tabs [(PR, q)] H' → Q (.bl true) H'
theorem scRefused : FnScope ["state", "one", "bad", "odd", "task", "some", "top", "bottom"] ["state", "one"] (defScope sRefused) := ⟨rfl, rfl, rfl, by decide +kernel, rfl, by decide +kernel, by decide +kernel⟩
abbrev qL : Str := lamQ "_law_refused" (defScope sRefused)
theorem one_l {a : Addr} {q : Str} : ∀ z ∈ [(a, q)], z.1 = a → z.2 = q := fun z hz _ => by
  rw [List.mem_singleton.mp hz]
def pairs : List PyData := [.tuple [.none, .int 1], .tuple [.int 1, .int 0], .tuple [.bool true, .int 2], .tuple [.int 1, .str "2"], .tuple [.int 1, .none], .tuple [.tuple [.int 1, .int 2], .int 1]]
def noPair : PyData → Bool
  | .tuple [d, e] => !(isInt d && okB e)
  | _ => false
theorem pairs_no : ∀ d ∈ pairs, noPair d = true := by decide +kernel
theorem pairs_not (d : PyData) (h : d ∈ pairs) : isTupN 2 d = true ∧ ∀ {d1 d2 : PyData}, d = .tuple [d1, d2] → (isInt d1 && okB d2) = false := by
  have q := pairs_no d h
  unfold noPair at q
  split at q
  · rename_i x y
    exact ⟨rfl, fun {d1 d2} e => by
      cases e
      exact (Bool.not_eq_true' _).mp q⟩
  · cases q
theorem tabs_kp {PR : Addr} {q : Str} {H H' : Hp} {p g c : Addr} {n : Nat} (t : Tabs [(PR, q)] H) (hs : Pre.St H p g c n) (k : Pre.Kp p g H H') : Tabs [(PR, q)] H' := fun z hz => by
  obtain ⟨ps, h1, h2, h3⟩ := t z hz
  obtain ⟨⟨gs, cs, r, t, hp, hg, _⟩, _⟩ := hs
  have off : ∀ b o, H b = some o → (∀ kvs, o ≠ .dK kvs) → (∀ xs, o ≠ .lst xs) → H' b = some o := fun b o e n1 n2 => k b o (fun y => by
    rw [y, hp] at e
    cases e
    exact n1 _ rfl) (fun y => by
    rw [y, hg] at e
    cases e
    exact n2 _ rfl) e
  refine ⟨ps, off _ _ h1 (fun _ y => by cases y) (fun _ y => by cases y), h2, fun pos cv hc => ?_⟩
  obtain ⟨c0, e1, e2⟩ := h3 pos cv hc
  exact ⟨c0, e1, off _ _ e2 (fun _ y => by unfold CodeO at y; cases y) (fun _ y => by unfold CodeO at y; cases y)⟩
theorem ok_refused {f cR PR : Addr} {oc kV doc pm ct : Value} {od an : Option Addr} {osl : Array (Option Value)} {fX fD fP fB fC CS CW CN f1 f2 f3 f4 f5 f6 : Addr} {dX dD dP dB dC d1 d2 d3 d4 d5 d6 : FuncData}
    (at_ : K.lookup f = some ⟨oc, od, .func (PySem.W.fnOf "_law_refused" "_law_refused" (defArgs sRefused) (defBody sRefused) (defScope sRefused) .none kV doc pm an (.ref cR) ct), osl⟩) (code : PySem.W.codeIn K (.ref cR) "_law_refused" = true)
    (TB : TabB base mg cR PR) (D : Drw K mg fD fP fB dD dP dB) (FX : Fun K "_law_bad" "_law_bad" sBad fX dX) (mX : mg "_law_bad" = some (.ref fX)) (FC : Fun K "_law_caught" "_law_caught" sCaught fC dC) (mC : mg "_law_caught" = some (.ref fC)) (W : Wk P0 w K mg CS CW CN f1 f2 f3 f4 f5 f6 d1 d2 d3 d4 d5 d6) :
    FnOk P0 w K mg base CX0 7 f (PySem.W.fnOf "_law_refused" "_law_refused" (defArgs sRefused) (defBody sRefused) (defScope sRefused) .none kV doc pm an (.ref cR) ct) ["state", "one"] (spRefused K PR qL) := by
  have GX : FnOk P0 w K mg base CX0 4 fX dX ["state"] (spBad K) := ok_bad FX D
  have GP : FnOk P0 w K mg base CX0 3 fP dP ["state", "some"] (Pre.spPick K) := Pre.ok_pick D.FP D.T D.FD D.mD D.FB D.mB
  have bX := FX.binds (ps := ["state"]) fun _ _ _ _ _ _ us hl => match us, hl with | [_], _ => rfl
  have bP := D.FP.binds (ps := ["state", "some"]) fun _ _ _ _ _ _ us hl => match us, hl with | [_, _], _ => rfl
  refine fn_of at_ code scRefused (fun vs H Q E h => ?_) (fun A outer s H vs Q E hr h => ?_)
  · obtain ⟨p, g, c, a, u, n, rfl, _⟩ := h
    rfl
  · obtain ⟨p, g, c, a, u, n, rfl, hs, hn, ha, hw, su, ht, k⟩ := h
    have nd := scRefused.nd
    have hr4 : Room 4 _ := hr.mono (by decide)
    have hr3 : Room 3 _ := hr.mono (by decide)
    refine (fun (z : ∃ t, PSs (cxOf CX0 P0 w K mg base ["state", "one", "bad", "odd", "task", "some", "top", "bottom"] "_law_refused" (defScope sRefused) f (.ref cR) A outer s H E).nox (defBody sRefused) t ∧ t { nx := fun _ H' => Q .non H', rt := Q } (L2.start ["state", "one", "bad", "odd", "task", "some", "top", "bottom"] [.ref p, .ref a]) H) => let ⟨t, h1, h2⟩ := z; ⟨t, h1.nox, h2⟩) ?_
    refine ⟨_, pss_cons (ps_asg (pe_tup (pa_cons (pe_call GX hr4 rfl mX FX.kp bX .nil pass0 (pa_cons (pv 0) pa_nil)) (pa_cons (pe_call GX hr4 rfl mX FX.kp bX .nil pass0 (pa_cons (pv 0) pa_nil)) pa_nil))) (pg_tup (by rfl) (pgs_cons (pg_name (i := 2) nd rfl (Or.inr rfl)) (pgs_cons (pg_name (i := 3) nd rfl (Or.inr rfl)) pgs_nil))))
      (pss_cons (ps_for PassesOwn.never rfl (pi_list (pe_lst (pa_cons (pe_lam (T := [(PR, qL)]) TB rfl (List.mem_singleton.mpr rfl) one_l (lamS_by (by rfl)) (by rfl)) (pa_cons (pe_lam (T := [(PR, qL)]) TB rfl (List.mem_singleton.mpr rfl) one_l (lamS_by (by rfl)) (by rfl)) (pa_cons (pe_lam (T := [(PR, qL)]) TB rfl (List.mem_singleton.mpr rfl) one_l (lamS_by (by rfl)) (by rfl)) (pa_cons (pe_lam (T := [(PR, qL)]) TB rfl (List.mem_singleton.mpr rfl) one_l (lamS_by (by rfl)) (by rfl)) pa_nil)))))) (pg_name (i := 4) nd rfl (Or.inl rfl))
        (pss_one (ps_if (pt_not (pt_val (pe_callB (call_isE W.Z) (by rfl) W.zi (by decide +kernel) (pa_cons (pe_caught (k := 4) (CS := CS) FC mC W.eS hr (pa_cons (pv 4) pa_nil)) (pa_cons (pe_glob (v := .ref CW) (by rfl) W.eW rfl) pa_nil))))) (pss_one (ps_ret pe_bl)) pss_nil)))
      (pss_cons (ps_for PassesOwn.never rfl (pi_list (pe_lst (pa_cons pe_non (pa_cons pe_int (pa_cons (pe_lst (pa_cons (pv 1) (pa_cons (pv 2) pa_nil))) (pa_cons (pe_tup (pa_cons (pv 2) pa_nil)) (pa_cons pe_str (pa_cons pe_dnewK pa_nil)))))))) (pg_name (i := 5) nd rfl (Or.inr rfl))
        (pss_one (ps_if (pt_not (pt_val (pe_callB (call_isE W.Z) (by rfl) W.zi (by decide +kernel) (pa_cons (pe_caught (k := 4) (CS := CS) FC mC W.eS hr (pa_cons (pe_lam (T := [(PR, qL)]) TB rfl (List.mem_singleton.mpr rfl) one_l (lamS_by (by rfl)) (by rfl)) pa_nil)) (pa_cons (pe_glob (v := .ref CW) (by rfl) W.eW rfl) pa_nil))))) (pss_one (ps_ret pe_bl)) pss_nil)))
      (pss_cons (ps_asg (pe_call GP hr3 rfl D.mP D.FP.kp bP .nil pass0 (pa_cons (pv 0) (pa_cons (pe_lstD (ds := pairs) (ad_cons (ed_tup (ad_cons ed_non (ad_cons ed_int ad_nil)) (by decide)) (ad_cons (ed_tup (ad_cons ed_int (ad_cons ed_int ad_nil)) (by decide)) (ad_cons (ed_tup (ad_cons ed_bl (ad_cons ed_int ad_nil)) (by decide)) (ad_cons (ed_tup (ad_cons ed_int (ad_cons ed_str ad_nil)) (by decide))
          (ad_cons (ed_tup (ad_cons ed_int (ad_cons ed_non ad_nil)) (by decide)) (ad_cons (ed_tup (ad_cons (ed_tup (ad_cons ed_int (ad_cons ed_int ad_nil)) (by decide)) (ad_cons ed_int ad_nil)) (by decide)) ad_nil)))))) (by decide)) pa_nil)))
          (pg_tup (by rfl) (pgs_cons (pg_name (i := 6) nd rfl (Or.inr rfl)) (pgs_cons (pg_name (i := 7) nd rfl (Or.inr rfl)) pgs_nil))))
      (pss_one (ps_ret (pe_callB (call_isE W.Z) (by rfl) W.zi (by decide +kernel) (pa_cons (pe_caught (k := 4) (CS := CS) FC mC W.eS hr (pa_cons (pe_lam (T := [(PR, qL)]) TB rfl (List.mem_singleton.mpr rfl) one_l (lamS_by (by rfl)) (by rfl)) pa_nil)) (pa_cons (pe_glob (v := .ref CN) (by rfl) W.eN rfl) pa_nil)))))))), ?_⟩
    refine ⟨_, rfl, p, g, c, n, rfl, hs, by omega, fun H1 y1 d1 kp1 s1 hd1 m1 => ?_⟩
    refine ⟨_, rfl, p, g, c, n + 1, rfl, s1, by omega, fun H2 y2 d2 kp2 s2 hd2 m2 => ?_⟩
    refine ⟨by show 2 ≤ sizeLine; decide, fun pt hpt => ?_⟩
    refine ⟨pt, _, rfl, SqT.of upd_same, rfl, _, _, rfl, _, _, rfl, rfl, ?_⟩
    have t2 : Tabs [(PR, qL)] H2 := tabs_kp (tabs_kp ht hs kp1) s1 kp2
    have e2 : Same H2 (upd H2 pt (.tup [y1, y2])) := Pre.same_upd hpt
    have kx2 : Kx p g H H2 := (Kx.kp kp1).trans (Kx.kp kp2)
    have b1 : Dp K (wx p g H2) y1 d1 := dp_nt (dp_same (wo_kp kp2) hd1)
    have b2 : Dp K (wx p g H2) y2 d2 := dp_nt hd2
    have kx3 : Kx p g H (upd H2 pt (.tup [y1, y2])) := kx2.trans (Kx.of e2)
    have s3 : Pre.St (upd H2 pt (.tup [y1, y2])) p g c (n + 2) := st_same s2 e2
    have t3 : Tabs [(PR, qL)] (upd H2 pt (.tup [y1, y2])) := t2.ext e2
    have c1 : Dp K (wx p g (upd H2 pt (.tup [y1, y2]))) y1 d1 := dp_same (wx_kx (Kx.of e2)) b1
    have c2 : Dp K (wx p g (upd H2 pt (.tup [y1, y2]))) y2 d2 := dp_same (wx_kx (Kx.of e2)) b2
    generalize upd H2 pt (.tup [y1, y2]) = H3 at kx3 s3 t3 c1 c2
    refine ⟨t3, fun g1 q1 H4 x4 t4 n4 w4 => ⟨t4.ext (Pre.same_upd n4), fun g2 q2 H5 x5 t5 n5 w5 => ⟨t5.ext (Pre.same_upd n5), fun g3 q3 H6 x6 t6 n6 w6 => ⟨t6.ext (Pre.same_upd n6), fun g4 q4 H7 x7 t7 n7 w7 => ?_⟩⟩⟩⟩
    refine ⟨by show 4 ≤ sizeLine; decide, fun l hl => ?_⟩
    have E4 := ext_of (Pre.same_upd (o := .lst [.ref g1, .ref g2, .ref g3, .ref g4]) hl)
    have E3 := x7.trans ((ext_of (Pre.same_upd n7)).trans E4)
    have E2 := x6.trans ((ext_of (Pre.same_upd n6)).trans E3)
    have E1 := x5.trans ((ext_of (Pre.same_upd n5)).trans E2)
    have E0' := x4.trans ((ext_of (Pre.same_upd n4)).trans E1)
    have hL1 := E1 _ _ upd_same Lm.lamO_ne
    have hL2 := E2 _ _ upd_same Lm.lamO_ne
    have hL3 := E3 _ _ upd_same Lm.lamO_ne
    have hL4 := E4 _ _ upd_same Lm.lamO_ne
    have hC1 := E1 _ _ ((upd_ne (ne_of_none w4 n4)).trans w4) LamX.codeO_ne
    have hC2 := E2 _ _ ((upd_ne (ne_of_none w5 n5)).trans w5) LamX.codeO_ne
    have hC3 := E3 _ _ ((upd_ne (ne_of_none w6 n6)).trans w6) LamX.codeO_ne
    have hC4 := E4 _ _ ((upd_ne (ne_of_none w7 n7)).trans w7) LamX.codeO_ne
    have t8 := (t7.ext (Pre.same_upd n7)).ext (Pre.same_upd (o := .lst [.ref g1, .ref g2, .ref g3, .ref g4]) hl)
    have s8 := st_ext s3 E0'
    have kx8 := kx3.trans (Kx.ext E0')
    have a8 := at_kx ha hs kx8
    have p1 := dp_same (wx_kx (Kx.ext E0')) c1
    have p2 := dp_same (wx_kx (Kx.ext E0')) c2
    have nb1 : isWt d1 = false := bads_not d1 m1
    have wa : isWt (.tuple [.int u.1, .int u.2]) = true := hw
    have notW1 : ∀ e, (isWt d1 && isWt e) = false := fun e => by rw [nb1]; rfl
    have notW2 : ∀ e, (isWt e && isWt d1) = false := fun e => by rw [nb1]; exact Bool.and_false _
    refine ⟨l, rfl, ⟨_, SqL.of upd_same⟩, for_list (K := K) (a := l) (xs := [.ref g1, .ref g2, .ref g3, .ref g4])
      (fun i σ H' => ∃ tk : Option V, σ = [some (.ref p), some (.ref a), some y1, some y2, tk, none, none, none] ∧ Same _ H') ⟨none, rfl, Same.refl _⟩ (fun i σ H' _ ⟨_, _, e1⟩ => SqL.of (e1 _ _ upd_same)) ?_ ?_⟩
    · rintro i x σ H' hx ⟨tk, rfl, e1⟩
      have b1 := dp_same e1 (dp_same wx_sub p1)
      have b2 := dp_same e1 (dp_same wx_sub p2)
      have ba : At K H' a u := sqT_same e1 a8
      match i, hx with
      | 0, hx =>
        cases hx
        refine ⟨_, rfl, g1, q1, _, _, _, fun E => tCallS (spBin K CW addW) (fun _ => E) (tCons (tVar 2) (tCons (tVar 3) tNil)), rfl, e1 _ _ hL1, e1 _ _ hC1, lamS_by (by rfl), fun _ _ _ _ _ => rfl, fun A outer s H E hr => pe_callS (W.plus.ok _) hr rfl W.plus.at_ W.plus.kp W.bplus (fun σ => passAt (takes_of rfl rfl rfl rfl) σ) (pa_cons (pv 2) (pa_cons (pv 3) pa_nil)), fun E R hE _ => ?_⟩
        refine ⟨_, rfl, _, rfl, .inl ⟨y1, y2, d1, d2, rfl, b1 , b2, notW1 _, hE (.ref CW) none H' W.xW (fun ea hea => ?_)⟩⟩
        refine ⟨ea, CW, .ref CW, .ref CW, true, rfl, upd_same, W.iW, .own CW, W.kW, true, rfl, iteF ?_⟩
        exact ⟨_, rfl, e1.trans (Pre.same_upd hea)⟩
      | 1, hx =>
        cases hx
        refine ⟨_, rfl, g2, q2, _, _, _, fun E => tCallS (spBin K CW mulW) (fun _ => E) (tCons (tVar 1) (tCons (tVar 2) tNil)), rfl, e1 _ _ hL2, e1 _ _ hC2, lamS_by (by rfl), fun _ _ _ _ _ => rfl, fun A outer s H E hr => pe_callS (W.times.ok _) hr rfl W.times.at_ W.times.kp W.btimes (fun σ => passAt (takes_of rfl rfl rfl rfl) σ) (pa_cons (pv 1) (pa_cons (pv 2) pa_nil)), fun E R hE _ => ?_⟩
        refine ⟨_, rfl, _, rfl, .inl ⟨.ref a, y1, _, d1, rfl, at_dp ba, b1, notW2 _, hE (.ref CW) none H' W.xW (fun ea hea => ?_)⟩⟩
        refine ⟨ea, CW, .ref CW, .ref CW, true, rfl, upd_same, W.iW, .own CW, W.kW, true, rfl, iteF ?_⟩
        exact ⟨_, rfl, e1.trans (Pre.same_upd hea)⟩
      | 2, hx =>
        cases hx
        refine ⟨_, rfl, g3, q3, _, _, _, fun E => tCallS (spBin K CW lessW) (fun _ => E) (tCons (tVar 2) (tCons (tVar 1) tNil)), rfl, e1 _ _ hL3, e1 _ _ hC3, lamS_by (by rfl), fun _ _ _ _ _ => rfl, fun A outer s H E hr => pe_callS (W.less.ok _) hr rfl W.less.at_ W.less.kp W.bless (fun σ => passAt (takes_of rfl rfl rfl rfl) σ) (pa_cons (pv 2) (pa_cons (pv 1) pa_nil)), fun E R hE _ => ?_⟩
        refine ⟨_, rfl, _, rfl, .inl ⟨y1, .ref a, d1, _, rfl, b1, at_dp ba, notW1 _, hE (.ref CW) none H' W.xW (fun ea hea => ?_)⟩⟩
        refine ⟨ea, CW, .ref CW, .ref CW, true, rfl, upd_same, W.iW, .own CW, W.kW, true, rfl, iteF ?_⟩
        exact ⟨_, rfl, e1.trans (Pre.same_upd hea)⟩
      | 3, hx =>
        cases hx
        refine ⟨_, rfl, g4, q4, _, _, _, fun E => tCallS (spBelowX K CW) (fun _ => E) (tCons (tVar 1) (tCons (tVar 2) tNil)), rfl, e1 _ _ hL4, e1 _ _ hC4, lamS_by (by rfl), fun _ _ _ _ _ => rfl, fun A outer s H E hr => pe_callS (W.below.ok _) hr rfl W.below.at_ W.below.kp W.bbelow (fun σ => passAt (takes_of rfl rfl rfl rfl) σ) (pa_cons (pv 1) (pa_cons (pv 2) pa_nil)), fun E R hE _ => ?_⟩
        refine ⟨_, rfl, _, rfl, .inl ⟨.ref a, y1, _, d1, rfl, at_dp ba, b1, notW2 _, hE (.ref CW) none H' W.xW (fun ea hea => ?_)⟩⟩
        refine ⟨ea, CW, .ref CW, .ref CW, true, rfl, upd_same, W.iW, .own CW, W.kW, true, rfl, iteF ?_⟩
        exact ⟨_, rfl, e1.trans (Pre.same_upd hea)⟩
      | n + 4, hx => cases hx
    · rintro σ H9 ⟨tk, rfl, e9⟩
      have s9 := st_same s8 e9
      have kx9 := kx8.trans (Kx.of e9)
      have t9 := t8.ext e9
      have r1 := dp_same (wx_kx (Kx.of e9)) p1
      have r2 := dp_same (wx_kx (Kx.of e9)) p2
      clear e9 p1 p2 a8 s8 kx8 t8
      refine ⟨_, rfl, _, rfl, by show 2 ≤ sizeLine; decide, fun l1 hl1 => ?_⟩
      refine ⟨_, rfl, by show 1 ≤ sizeLine; decide, fun u1 hu1 => ?_⟩
      refine fun dd hdd => ?_
      refine ⟨by show 6 ≤ sizeLine; decide, fun l2 hl2 => ?_⟩
      have z1 := Pre.same_upd (o := HO.lst [.ref a, y1]) hl1
      have z2 := Pre.same_upd (o := HO.tup [y1]) hu1
      have z3 := Pre.same_upd (o := HO.dK []) hdd
      have z4 := Pre.same_upd (o := HO.lst [.non, .int 5, .ref l1, .ref u1, .str "ab", .ref dd]) hl2
      have hl1' := z4 _ _ (z3 _ _ (z2 _ _ upd_same))
      have hu1' := z4 _ _ (z3 _ _ upd_same)
      have hdd' := z4 _ _ upd_same
      have sA := st_same s9 (((z1.trans z2).trans z3).trans z4)
      have kxA := kx9.trans (Kx.of (((z1.trans z2).trans z3).trans z4))
      have tA := t9.ext (((z1.trans z2).trans z3).trans z4)
      have w1 := dp_same (wx_kx (Kx.of (((z1.trans z2).trans z3).trans z4))) r1
      have hl2' := upd_same (H := upd (upd (upd H9 l1 (HO.lst [.ref a, y1])) u1 (HO.tup [y1])) dd (HO.dK [])) (a := l2) (o := HO.lst [.non, .int 5, .ref l1, .ref u1, .str "ab", .ref dd])
      generalize upd (upd (upd (upd H9 l1 (HO.lst [.ref a, y1])) u1 (HO.tup [y1])) dd (HO.dK [])) l2 (HO.lst [.non, .int 5, .ref l1, .ref u1, .str "ab", .ref dd]) = HA at hl1' hu1' hdd' hl2' sA kxA tA w1
      have aA := at_kx ha hs kxA
      refine ⟨l2, rfl, ⟨_, SqL.of hl2'⟩, for_list (K := K) (a := l2) (xs := [.non, .int 5, .ref l1, .ref u1, .str "ab", .ref dd])
        (fun i σ H' => ∃ so : Option V, σ = [some (.ref p), some (.ref a), some y1, some y2, tk, so, none, none] ∧ ExtN HA H' ∧ Tabs [(PR, qL)] H') ⟨none, rfl, ExtN.refl _, tA⟩ (fun i σ H' _ ⟨_, _, e1, _⟩ => SqL.of (e1 _ _ hl2' (fun _ z => by cases z))) ?_ ?_⟩
      · rintro i x σ H' hx ⟨so, rfl, e1, t1⟩
        refine ⟨t1, fun f0 q0 H0 eN tN n0 h0 => ?_⟩
        have eB : ∀ o, ExtN HA (upd H0 f0 o) := fun o => e1.trans (eN.trans (ext_of (Pre.same_upd n0)))
        have tB : ∀ o, Tabs [(PR, qL)] (upd H0 f0 o) := fun o => tN.ext (Pre.same_upd n0)
        have b1 : ∀ o, Dp K (upd H0 f0 o) y1 d1 := fun o => dp_same wx_sub (dp_same (wx_kx (Kx.ext (eB o))) w1)
        have ba : ∀ o, At K (upd H0 f0 o) a u := fun o => at_kx aA sA (Kx.ext (eB o))
        match i, hx with
        | 0, hx =>
          cases hx
          refine ⟨f0, q0, _, _, _, fun E => tCallS (fun vs H Q E => (spSum K SqL CW vs H Q E ∨ spSum K SqT CW vs H Q E) ∨ spSumN K CW vs H Q E) (fun _ => E) (tCons (tVar 5) tNil), rfl, upd_same, (upd_ne (ne_of_none h0 n0)).trans h0, lamS_by (by rfl), fun _ _ _ _ _ => rfl, fun A outer s H E hr => pe_callS (W.summed.ok _) hr rfl W.summed.at_ W.summed.kp W.bsummed (fun σ => passAt (takes_of rfl rfl rfl rfl) σ) (pa_cons (pv 5) pa_nil), fun E R hE _ => ?_⟩
          refine ⟨_, rfl, .inr ⟨.non, "NoneType", rfl, .inl ⟨.none, .non, rfl⟩, by decide +kernel, by decide +kernel, fun HC sC => hE (.ref CW) none HC W.xW (fun ea hea => ?_)⟩⟩
          refine ⟨ea, CW, .ref CW, .ref CW, true, rfl, upd_same, W.iW, .own CW, W.kW, true, rfl, iteF ?_⟩
          exact ⟨_, rfl, ((eB _).trans (ext_of sC)).trans (ext_of (Pre.same_upd hea)), ((tB _).ext sC).ext (Pre.same_upd hea)⟩
        | 1, hx =>
          cases hx
          refine ⟨f0, q0, _, _, _, fun E => tCallS (fun vs H Q E => (spSum K SqL CW vs H Q E ∨ spSum K SqT CW vs H Q E) ∨ spSumN K CW vs H Q E) (fun _ => E) (tCons (tVar 5) tNil), rfl, upd_same, (upd_ne (ne_of_none h0 n0)).trans h0, lamS_by (by rfl), fun _ _ _ _ _ => rfl, fun A outer s H E hr => pe_callS (W.summed.ok _) hr rfl W.summed.at_ W.summed.kp W.bsummed (fun σ => passAt (takes_of rfl rfl rfl rfl) σ) (pa_cons (pv 5) pa_nil), fun E R hE _ => ?_⟩
          refine ⟨_, rfl, .inr ⟨.int 5, "int", rfl, .inl ⟨.int 5, .int 5, rfl⟩, by decide +kernel, by decide +kernel, fun HC sC => hE (.ref CW) none HC W.xW (fun ea hea => ?_)⟩⟩
          refine ⟨ea, CW, .ref CW, .ref CW, true, rfl, upd_same, W.iW, .own CW, W.kW, true, rfl, iteF ?_⟩
          exact ⟨_, rfl, ((eB _).trans (ext_of sC)).trans (ext_of (Pre.same_upd hea)), ((tB _).ext sC).ext (Pre.same_upd hea)⟩
        | 2, hx =>
          cases hx
          refine ⟨f0, q0, _, _, _, fun E => tCallS (fun vs H Q E => (spSum K SqL CW vs H Q E ∨ spSum K SqT CW vs H Q E) ∨ spSumN K CW vs H Q E) (fun _ => E) (tCons (tVar 5) tNil), rfl, upd_same, (upd_ne (ne_of_none h0 n0)).trans h0, lamS_by (by rfl), fun _ _ _ _ _ => rfl, fun A outer s H E hr => pe_callS (W.summed.ok _) hr rfl W.summed.at_ W.summed.kp W.bsummed (fun σ => passAt (takes_of rfl rfl rfl rfl) σ) (pa_cons (pv 5) pa_nil), fun E R hE _ => ?_⟩
          refine ⟨_, rfl, .inl (.inl ⟨l1, [.ref a, y1], [.tuple [.int u.1, .int u.2], d1], rfl, SqL.of (eB _ _ _ hl1' (fun _ z => by cases z)), .cons (at_dp (ba _)) (.cons (b1 _) .nil), by show 2 ≤ 12; decide, fun _ HC sC => hE (.ref CW) none HC W.xW (fun ea hea => ?_), fun z => absurd z (by simp [nb1])⟩)⟩
          refine ⟨ea, CW, .ref CW, .ref CW, true, rfl, upd_same, W.iW, .own CW, W.kW, true, rfl, iteF ?_⟩
          exact ⟨_, rfl, ((eB _).trans (ext_of sC)).trans (ext_of (Pre.same_upd hea)), ((tB _).ext sC).ext (Pre.same_upd hea)⟩
        | 3, hx =>
          cases hx
          refine ⟨f0, q0, _, _, _, fun E => tCallS (fun vs H Q E => (spSum K SqL CW vs H Q E ∨ spSum K SqT CW vs H Q E) ∨ spSumN K CW vs H Q E) (fun _ => E) (tCons (tVar 5) tNil), rfl, upd_same, (upd_ne (ne_of_none h0 n0)).trans h0, lamS_by (by rfl), fun _ _ _ _ _ => rfl, fun A outer s H E hr => pe_callS (W.summed.ok _) hr rfl W.summed.at_ W.summed.kp W.bsummed (fun σ => passAt (takes_of rfl rfl rfl rfl) σ) (pa_cons (pv 5) pa_nil), fun E R hE _ => ?_⟩
          refine ⟨_, rfl, .inl (.inr ⟨u1, [y1], [d1], rfl, SqT.of (eB _ _ _ hu1' (fun _ z => by cases z)), .cons (b1 _) .nil, by show 1 ≤ 12; decide, fun _ HC sC => hE (.ref CW) none HC W.xW (fun ea hea => ?_), fun z => absurd z (by simp [nb1])⟩)⟩
          refine ⟨ea, CW, .ref CW, .ref CW, true, rfl, upd_same, W.iW, .own CW, W.kW, true, rfl, iteF ?_⟩
          exact ⟨_, rfl, ((eB _).trans (ext_of sC)).trans (ext_of (Pre.same_upd hea)), ((tB _).ext sC).ext (Pre.same_upd hea)⟩
        | 4, hx =>
          cases hx
          refine ⟨f0, q0, _, _, _, fun E => tCallS (fun vs H Q E => (spSum K SqL CW vs H Q E ∨ spSum K SqT CW vs H Q E) ∨ spSumN K CW vs H Q E) (fun _ => E) (tCons (tVar 5) tNil), rfl, upd_same, (upd_ne (ne_of_none h0 n0)).trans h0, lamS_by (by rfl), fun _ _ _ _ _ => rfl, fun A outer s H E hr => pe_callS (W.summed.ok _) hr rfl W.summed.at_ W.summed.kp W.bsummed (fun σ => passAt (takes_of rfl rfl rfl rfl) σ) (pa_cons (pv 5) pa_nil), fun E R hE _ => ?_⟩
          refine ⟨_, rfl, .inr ⟨.str "ab", "str", rfl, .inl ⟨.str "ab", .str _, rfl⟩, by decide +kernel, by decide +kernel, fun HC sC => hE (.ref CW) none HC W.xW (fun ea hea => ?_)⟩⟩
          refine ⟨ea, CW, .ref CW, .ref CW, true, rfl, upd_same, W.iW, .own CW, W.kW, true, rfl, iteF ?_⟩
          exact ⟨_, rfl, ((eB _).trans (ext_of sC)).trans (ext_of (Pre.same_upd hea)), ((tB _).ext sC).ext (Pre.same_upd hea)⟩
        | 5, hx =>
          cases hx
          refine ⟨f0, q0, _, _, _, fun E => tCallS (fun vs H Q E => (spSum K SqL CW vs H Q E ∨ spSum K SqT CW vs H Q E) ∨ spSumN K CW vs H Q E) (fun _ => E) (tCons (tVar 5) tNil), rfl, upd_same, (upd_ne (ne_of_none h0 n0)).trans h0, lamS_by (by rfl), fun _ _ _ _ _ => rfl, fun A outer s H E hr => pe_callS (W.summed.ok _) hr rfl W.summed.at_ W.summed.kp W.bsummed (fun σ => passAt (takes_of rfl rfl rfl rfl) σ) (pa_cons (pv 5) pa_nil), fun E R hE _ => ?_⟩
          refine ⟨_, rfl, .inr ⟨.ref dd, "dict", rfl, .inr ⟨dd, [], rfl, eB _ _ _ hdd' (fun _ z => by cases z), rfl⟩, by decide +kernel, by decide +kernel, fun HC sC => hE (.ref CW) none HC W.xW (fun ea hea => ?_)⟩⟩
          refine ⟨ea, CW, .ref CW, .ref CW, true, rfl, upd_same, W.iW, .own CW, W.kW, true, rfl, iteF ?_⟩
          exact ⟨_, rfl, ((eB _).trans (ext_of sC)).trans (ext_of (Pre.same_upd hea)), ((tB _).ext sC).ext (Pre.same_upd hea)⟩
        | n + 6, hx => cases hx
      · rintro σ H10 ⟨so, rfl, e1, t1⟩
        have s10 := st_ext sA e1
        have kx10 := kxA.trans (Kx.ext e1)
        refine ⟨_, rfl, fun lp vs H11 s11 hlp hlp1 hd => ?_⟩
        obtain ⟨o1, ho1⟩ := st_p s10
        obtain ⟨o2, ho2⟩ := st_g s10
        have hlen : vs.length = 6 := dpAll_len hd
        refine ⟨p, g, c, n + 2, lp, vs, rfl, st_same s10 s11, by omega, hlp1, (st_new s10 hlp).2, by omega, by omega, fun H12 i y kp12 s12 hi hy => ?_⟩
        obtain ⟨d, hdi, hdy⟩ := dpAll_at hd hy
        have hdw := dp_same ((nw_wo ho1 ho2).trans (wo_kp kp12)) hdy
        obtain ⟨h2, h3⟩ := pairs_not d (List.mem_of_getElem? hdi)
        obtain ⟨ap, x1, x2, u1, u2, rfl, rfl, hq, hx1, hx2⟩ := tup2 hdw h2
        have t12 := tabs_kp (t1.ext s11) (st_same s10 s11) kp12
        have kx12 := (kx10.trans (Kx.of s11)).trans (Kx.kp kp12)
        refine ⟨ap, _, rfl, sqT_same wo_sub hq, rfl, _, _, rfl, _, _, rfl, rfl, ?_⟩
        refine ⟨t12, fun f0 q0 H0 eN tN n0 h0 => ?_⟩
        have eB : ∀ o, ExtN H12 (upd H0 f0 o) := fun o => eN.trans (ext_of (Pre.same_upd n0))
        refine ⟨f0, q0, _, _, _, fun E => tCallS (spWeight K CN) (fun _ => E) (tCons (tVar 6) (tCons (tVar 7) tNil)), rfl, upd_same, (upd_ne (ne_of_none h0 n0)).trans h0, lamS_by (by rfl), fun _ _ _ _ _ => rfl,
          fun A outer s H E hr => pe_callS (W.weight.ok _) (hr.mono (by decide)) rfl W.weight.at_ W.weight.kp W.bweight (fun σ => passAt (takes_of rfl rfl rfl rfl) σ) (pa_cons (pv 6) (pa_cons (pv 7) pa_nil)), fun E R hE _ => ?_⟩
        have y1' : ∀ o, Dp K (upd H0 f0 o) x1 u1 := fun o => dp_same wx_sub (dp_same (wx_kx (Kx.ext (eB o))) (dp_nt hx1))
        have y2' : ∀ o, Dp K (upd H0 f0 o) x2 u2 := fun o => dp_same wx_sub (dp_same (wx_kx (Kx.ext (eB o))) (dp_nt hx2))
        refine ⟨_, rfl, _, rfl, .inl ⟨x1, x2, u1, u2, rfl, y1' _, y2' _, h3 rfl, hE (.ref CN) none _ W.xN (fun ea hea => ?_)⟩⟩
        refine ⟨ea, CN, .ref CN, .ref CN, true, rfl, upd_same, W.iN, .own CN, W.kN, ?_⟩
        exact k _ (kx12.trans (Kx.ext ((eB _).trans (ext_of (Pre.same_upd hea))))) (st_ext s12 ((eB _).trans (ext_of (Pre.same_upd hea)))) ((tN.ext (Pre.same_upd n0)).ext (Pre.same_upd hea))
end
end Wt

namespace Wt
open PySem PySem.Spec PyProof.Rows L2
open Dc Us Xt
open LamX (CodeO TabS Tabs ExtN TabB)
abbrev sLaw : Stmt := Pre.top 41
/-! ## more on fractions -/
theorem gI_parts {t b : Int} (h : b ≠ 0) : gI (t / gI t b) (b / gI t b) = 1 := by
  have hg := gI_pos (t := t) h
  obtain ⟨t', ht⟩ := gI_l t b
  obtain ⟨b', hb⟩ := gI_r t b
  have e1 : t / gI t b = t' := Int.ediv_eq_of_eq_mul_right (by omega) ht
  have e2 : b / gI t b = b' := Int.ediv_eq_of_eq_mul_right (by omega) hb
  rw [e1, e2]
  have b0 : b' ≠ 0 := fun z => by
    rw [z, Int.mul_zero] at hb
    exact h hb
  have hd := gI_pos (t := t') b0
  have d1 : gI t b * gI t' b' ∣ t := by
    obtain ⟨x, hx⟩ := gI_l t' b'
    exact ⟨x, by rw [Int.mul_assoc, ← hx, ← ht]⟩
  have d2 : gI t b * gI t' b' ∣ b := by
    obtain ⟨x, hx⟩ := gI_r t' b'
    exact ⟨x, by rw [Int.mul_assoc, ← hx, ← hb]⟩
  have d3 : gI t b * gI t' b' ∣ gI t b := Int.dvd_coe_gcd d1 d2
  have d4 : gI t b * gI t' b' ≤ gI t b := Int.le_of_dvd hg d3
  have d5 : gI t' b' ≤ 1 := by
    rcases Int.lt_or_le 1 (gI t' b') with q | q
    · have := Int.mul_lt_mul_of_pos_left q hg
      rw [Int.mul_one] at this
      omega
    · exact q
  omega
theorem low_isW {t b : Int} (h : b ≠ 0) : isW (low t b) := by
  have hp := low_pos (t := t) h
  have e1 := gI_parts (t := t) h
  have e : gI (low t b).1 (low t b).2 = 1 := by
    unfold low
    split
    · show gI (-(t / gI t b)) (-(b / gI t b)) = 1
      unfold gI at e1 ⊢
      rw [Int.neg_gcd, Int.gcd_neg]
      exact e1
    · exact e1
  show (decide (1 ≤ (low t b).2) && (gI (low t b).1 (low t b).2 == 1)) = true
  rw [e, decide_eq_true (show 1 ≤ (low t b).2 by omega)]
  rfl
theorem low_one (t : Int) : low t 1 = (t, 1) := by
  have e : gI t 1 = 1 := by
    unfold gI
    rw [Int.gcd_one_right]
    rfl
  unfold low
  rw [if_neg (by decide), e, Int.ediv_one]
  rfl
theorem low_neg {t b : Int} (h : 0 < b) : decide ((low t b).1 < 0) = decide (t < 0) := by
  have hg := gI_pos (t := t) (b := b) (by omega)
  obtain ⟨k, hk⟩ := gI_l t b
  have e : (low t b).1 = k := by
    simp only [low, if_neg (show ¬ b < 0 by omega)]
    exact Int.ediv_eq_of_eq_mul_right (by omega) hk
  rw [e]
  have h1 : t < 0 ↔ k < 0 := by
    constructor
    · intro z
      rcases Int.lt_or_le k 0 with q | q
      · exact q
      · have := Int.mul_nonneg (Int.le_of_lt hg) q
        omega
    · intro z
      have := Int.mul_pos hg (show 0 < -k by omega)
      rw [Int.mul_neg, ← hk] at this
      omega
  by_cases z : t < 0
  · rw [decide_eq_true z, decide_eq_true (h1.mp z)]
  · rw [decide_eq_false z, decide_eq_false (fun q => z (h1.mpr q))]
theorem below_less {u v : Int × Int} (hu : 1 ≤ u.2) (hv : 1 ≤ v.2) : belowW u v = decide ((lessW u v).1 < 0) := by
  have hb : 0 < u.2 * v.2 := Int.mul_pos (by omega) (by omega)
  have e : decide ((lessW u v).1 < 0) = decide (u.1 * v.2 + -v.1 * u.2 < 0) := low_neg hb
  rw [e]
  unfold belowW
  have e2 : -v.1 * u.2 = -(v.1 * u.2) := Int.neg_mul ..
  rw [e2]
  by_cases z : u.1 * v.2 < v.1 * u.2
  · rw [decide_eq_true z, decide_eq_true (by omega)]
  · rw [decide_eq_false z, decide_eq_false (by omega)]
theorem below_self (u : Int × Int) : belowW u u = false := by
  unfold belowW
  exact decide_eq_false (Int.lt_irrefl _)
theorem int_short {i : Int} (h : i.natAbs < 2 ^ 300) : (PyData.shown (.int i)).length ≤ 301 := by
  have e : (toString i).length ≤ 300 + 1 := PySem.int_text_length_le (by decide) (Nat.lt_of_le_of_lt (Nat.le_refl _) (PySem.Flt.log2_lt_of (by decide) h))
  show (Str.ofString (toString i)).length ≤ 301
  rw [PySem.ofString_length]
  exact e
abbrev wD (u : Int × Int) : PyData := .tuple [.int u.1, .int u.2]
theorem txt_ok {u : Int × Int} (h : sz 300 u) : (wD u).showable = true ∧ (wD u).hasDict = false ∧ (wD u).depth < 32 ∧ (wD u).shown.length ≤ sizeLine := by
  refine ⟨?_, rfl, by show max (PyData.depth (.int u.1)) (max (PyData.depth (.int u.2)) 0) + 1 < 32; show 0 + 1 < 32; decide, ?_⟩
  · show (decide (u.1.natAbs.log2 < 1920) && (decide (u.2.natAbs.log2 < 1920) && true)) = true
    rw [decide_eq_true (Gd.int_log h.1 (by decide) (by decide)), decide_eq_true (Gd.int_log h.2 (by decide) (by decide))]
    rfl
  · have z := PySem.tupleText_len_le [PyData.shown (.int u.1), PyData.shown (.int u.2)]
    have z1 := int_short h.1
    have z2 := int_short h.2
    refine Nat.le_trans z ?_
    simp only [List.map_cons, List.map_nil, List.sum_cons, List.sum_nil, List.length_cons, List.length_nil]
    rw [sizeLine_eq]
    omega
def nz (z : Int) : Int := if z = 0 then 1 else z
theorem nz_ne (z : Int) : nz z ≠ 0 := by
  unfold nz
  split <;> omega
theorem nz_lt {z : Int} (h : z.natAbs < 2 ^ 67) : (nz z).natAbs < 2 ^ 67 := by
  unfold nz
  split
  · decide
  · exact h

/-! ## the law's lists -/
theorem lc_zip2 {K : PySem.W.Frag} {a b : Addr} {xs ys : List V} {g : TG} {tt : TT} {te : TE} {vs : List Nat} {σ : L2.St} {H1 : Hp} {D : Addr} {Qd : Hp → Prop} (hl : xs.length = ys.length) (Pv : Nat → Hp → Prop) (h0 : Pv 0 (upd H1 D (.lst []))) (hq : ∀ i H, Pv i H → SqL K H a xs ∧ SqL K H b ys)
    (hs : ∀ i x y T H, xs[i]? = some x → ys[i]? = some y → Pv i H → H T = none → g (.ref T) (wipe σ vs) (upd H T (.tup [x, y])) fun σ2 H2 => wipe σ2 vs = wipe σ vs ∧ tt σ2 H2 fun b H3 =>
      if b = true then te σ2 H3 fun y H4 => ∃ acc, H4 D = some (.lst acc) ∧ acc.length < sizeLine ∧ Pv (i + 1) (upd H4 D (.lst (acc ++ [y]))) else Pv (i + 1) H3) (hd : ∀ H, Pv xs.length H → Qd H) :
    ∃ W : Nat → Nat → Hp → Prop, (∃ m, W 0 m (upd H1 D (.lst []))) ∧ ∀ i m H, W i m H →
      ((Itz K a b).stop i H ∧ Qd H) ∨ ((Itz K a b).go i H ∧ ∃ Nx : Hp → Prop, (∀ H', Nx H' → ∃ m', m' < m ∧ W (i + 1) m' H') ∧ ∀ x H', (Itz K a b).yld i H x H' → g x (wipe σ vs) H' fun σ2 H2 => wipe σ2 vs = wipe σ vs ∧ tt σ2 H2 fun b H3 =>
        if b = true then te σ2 H3 fun y H4 => ∃ acc, H4 D = some (.lst acc) ∧ acc.length < sizeLine ∧ Nx (upd H4 D (.lst (acc ++ [y]))) else Nx H3) := by
  refine ⟨fun i m H => m = xs.length - i ∧ i ≤ xs.length ∧ Pv i H, ⟨xs.length, rfl, Nat.zero_le _, h0⟩, ?_⟩
  rintro i m H ⟨rfl, hi, p⟩
  obtain ⟨qx, qy⟩ := hq i H p
  by_cases hlt : i < xs.length
  · have hlt2 : i < ys.length := by omega
    refine .inr ⟨⟨xs, ys, _, _, qx, qy, List.getElem?_eq_getElem hlt, List.getElem?_eq_getElem hlt2⟩, Pv (i + 1), fun H' p' => ⟨xs.length - (i + 1), by omega, rfl, hlt, p'⟩, fun x H' out => ?_⟩
    obtain ⟨T, x', y', rfl, hT, rfl, f1, f2⟩ := out
    exact hs i x' y' T H (f1 xs qx) (f2 ys qy) p hT
  · have e : i = xs.length := by omega
    subst e
    exact .inl ⟨⟨xs, ys, qx, qy, Or.inl (Nat.le_refl _)⟩, hd H p⟩
section
variable {K : PySem.W.Frag} {σ : L2.St} {H : Hp} {Q : VK}
theorem rd_nums {v : Nat} {p g c : Addr} {n : Nat} (h1 : ∀ x, ((wipe σ [v]).set v (some x))[1]? = some (some (.ref p))) (h2 : ∀ x, wipe ((wipe σ [v]).set v (some x)) [v] = wipe σ [v]) (hs : Pre.St H p g c n) (hn : n < 2 ^ 38)
    (k : ∀ (D : Addr) (zs : List Int) (H' : Hp), Pre.Kp p g H H' → Pre.St H' p g c (n + 88) → H D = none → H' D = some (.lst (zs.map V.int)) → zs.length = 4 → (∀ z ∈ zs, z.natAbs < 2 ^ 67) → Q (.ref D) H') :
    tLc (iRng1 (tCons (tC (.int 4)) tNil)) (gName v) tYes (tCall spNumber [] E0 (tCons (tVar 1) tNil)) [v] σ H Q := by
  refine ⟨4, rfl, by decide, by decide, fun D hD => lc_range (n := 4) (fun i H' => ∃ zs : List Int, Pre.Kp p g H H' ∧ Pre.St H' p g c (n + 22 * i) ∧ H' D = some (.lst (zs.map V.int)) ∧ zs.length = i ∧ ∀ z ∈ zs, z.natAbs < 2 ^ 67) ?_ ?_ ?_⟩
  · exact ⟨[], Pre.Kp.of (Pre.same_upd hD), st_same hs (Pre.same_upd hD), upd_same, rfl, fun z hz => by cases hz⟩
  · rintro i H' hi ⟨zs, kp, s1, hd, hl, hb⟩
    refine ⟨h2 _, .ref p, h1 _, p, g, c, n + 22 * i, rfl, s1, by omega, fun H2 z kp2 s2 hz => ?_⟩
    have nD := st_new hs hD
    have hd2 : H2 D = some (.lst (zs.map V.int)) := kp2 _ _ nD.1 nD.2 hd
    refine ⟨zs.map V.int, hd2, by rw [List.length_map, hl]; exact Nat.lt_of_lt_of_le hi (by decide), zs ++ [z], fun b o x1 x2 e => ?_, ?_, by rw [upd_same, List.map_append]; rfl, by rw [List.length_append, hl]; rfl, fun w hw => ?_⟩
    · rw [upd_ne (ne_of_none e hD)]
      exact kp2 _ _ x1 x2 (kp _ _ x1 x2 e)
    · obtain ⟨⟨gs, cs, r, t, e1, e2, e3, e4⟩, e5⟩ := s2
      obtain ⟨⟨_, _, _, _, _, _, q3, _⟩, _⟩ := hs
      refine ⟨⟨gs, cs, r, t, by rw [upd_ne nD.1.symm]; exact e1, by rw [upd_ne nD.2.symm]; exact e2, by rw [upd_ne (ne_of_none q3 hD)]; exact e3, ?_⟩, e5⟩
      have : n + 22 * i + 22 = n + 22 * (i + 1) := by omega
      rw [← this]
      exact e4
    · rcases List.mem_append.mp hw with q | q
      · exact hb w q
      · rw [List.mem_singleton.mp q]
        exact hz
  · rintro H' ⟨zs, kp, s1, hd, hl, hb⟩
    exact k D zs H' kp s1 hD hd hl hb
theorem rd_nz {v j : Nat} {l : Addr} {zs : List Int} (h0 : σ[j]? = some (some (.ref l))) (h1 : ∀ x, ((wipe σ [v]).set v (some x))[v]? = some (some x)) (h2 : ∀ x, wipe ((wipe σ [v]).set v (some x)) [v] = wipe σ [v]) (hl : H l = some (.lst (zs.map V.int))) (hz : zs.length ≤ 100)
    (k : ∀ (D : Addr) (H' : Hp), Same H H' → H D = none → H' D = some (.lst ((zs.map nz).map V.int)) → Q (.ref D) H') :
    tLc (iList K (tVar j)) (gName v) tYes (tIf (tTest (tOp rNe (tVar v) (tC (.int 0)))) (tVar v) (tC (.int 1))) [v] σ H Q := by
  refine ⟨_, h0, l, rfl, ⟨_, SqL.of hl⟩, fun D hD => lc_list (K := K) (a := l) (xs := zs.map V.int) (fun i H' => Same H H' ∧ H' D = some (.lst (((zs.take i).map nz).map V.int))) ?_ (fun i H' _ ⟨s1, _⟩ => s1.seq (SqL.of hl)) ?_ ?_⟩
  · exact ⟨Pre.same_upd hD, by rw [upd_same]; rfl⟩
  · rintro i x H' hx ⟨s1, hd⟩
    obtain ⟨z, rfl, hzi, hlt⟩ := Pre.ints_at (K := K) hx
    have fin : ∃ acc, H' D = some (HO.lst acc) ∧ acc.length < sizeLine ∧ (Same H (upd H' D (.lst (acc ++ [V.int (nz z)]))) ∧ (upd H' D (.lst (acc ++ [V.int (nz z)]))) D = some (.lst (((zs.take (i + 1)).map nz).map V.int))) := by
      refine ⟨_, hd, ?_, fun b o e => ?_, ?_⟩
      · rw [List.length_map, List.length_map, List.length_take]
        exact Nat.lt_of_le_of_lt (Nat.min_le_right _ _) (Nat.lt_of_le_of_lt hz (by decide))
      · rw [upd_ne (ne_of_none e hD)]
        exact s1 _ _ e
      · rw [upd_same, List.take_add_one, hzi]
        simp
    refine ⟨h2 _, .int z, h1 _, rfl, _, rfl, ite2 (fun c => ?_) (fun c => ?_)⟩
    · have e : nz z = z := by
        have z0 : z ≠ 0 := fun q => by
          subst q
          simp at c
        unfold nz
        rw [if_neg z0]
      rw [e] at fin
      exact ⟨.int z, h1 _, fin⟩
    · have e : nz z = 1 := by
        have z0 : z = 0 := by
          rcases Int.decEq z 0 with q | q
          · exact absurd (by simp [q]) c
          · exact q
        unfold nz
        rw [if_pos z0]
      rw [e] at fin
      exact fin
  · rintro H' ⟨s1, hd⟩
    rw [List.length_map, List.take_length] at hd
    exact k D H' s1 hD hd
theorem rd_lows {v v2 j j2 : Nat} {l l2 : Addr} {zs bs : List Int} (h0 : σ[j]? = some (some (.ref l))) (h0' : σ[j2]? = some (some (.ref l2))) (h1 : ∀ x y, (((wipe σ [v, v2]).set v (some x)).set v2 (some y))[v]? = some (some x)) (h1' : ∀ x y, (((wipe σ [v, v2]).set v (some x)).set v2 (some y))[v2]? = some (some y))
    (h2 : ∀ x y, wipe (((wipe σ [v, v2]).set v (some x)).set v2 (some y)) [v, v2] = wipe σ [v, v2]) (hl : H l = some (.lst (zs.map V.int))) (hl2 : H l2 = some (.lst (bs.map V.int))) (hz : zs.length ≤ 100) (hlen : zs.length = bs.length) (hb : ∀ b ∈ bs, b ≠ 0 ∧ b.natAbs < 2 ^ 67) (ha : ∀ z ∈ zs, z.natAbs < 2 ^ 67)
    (k : ∀ (D : Addr) (as : List Addr) (H' : Hp), Same H H' → H D = none → H' D = some (.lst (as.map V.ref)) → as.length = zs.length → (∀ (i : Nat) (a : Addr), as[i]? = some a → ∃ t b, zs[i]? = some t ∧ bs[i]? = some b ∧ At K H' a (low t b)) → Q (.ref D) H') :
    tLc (iZip K (tCons (tVar j) (tCons (tVar j2) tNil))) (gTup K 2 (gCons (gName v) (gCons (gName v2) gNil))) tYes (tCall spLowest [] E0 (tCons (tVar v) (tCons (tVar v2) tNil))) [v, v2] σ H Q := by
  refine ⟨_, h0, _, h0', l, l2, _, _, rfl, SqL.of hl, SqL.of hl2, fun D hD => lc_zip2 (K := K) (a := l) (b := l2) (xs := zs.map V.int) (ys := bs.map V.int) (by rw [List.length_map, List.length_map, hlen])
    (fun i H' => ∃ as : List Addr, Same H H' ∧ H' D = some (.lst (as.map V.ref)) ∧ as.length = i ∧ ∀ (m : Nat) (a : Addr), as[m]? = some a → ∃ t b, zs[m]? = some t ∧ bs[m]? = some b ∧ At K H' a (low t b)) ?_ (fun i H' ⟨_, s1, _⟩ => ⟨s1.seq (SqL.of hl), s1.seq (SqL.of hl2)⟩) ?_ ?_⟩
  · exact ⟨[], Pre.same_upd hD, upd_same, rfl, fun m a e => by cases e⟩
  · rintro i x y T H' hx hy ⟨as, s1, hd, hla, hw⟩ hT
    obtain ⟨z, rfl, hzi, hlt⟩ := Pre.ints_at (K := K) hx
    obtain ⟨b, rfl, hbi, _⟩ := Pre.ints_at (K := K) hy
    obtain ⟨b0, b1⟩ := hb b (List.mem_of_getElem? hbi)
    have z1 := ha z (List.mem_of_getElem? hzi)
    refine ⟨T, _, rfl, SqT.of upd_same, rfl, _, _, rfl, _, _, rfl, rfl, h2 _ _, .int z, h1 _ _, .int b, h1' _ _, z, b, 67, rfl, b0, z1, b1, by decide, by decide, fun q H2 s2 hq => ?_⟩
    have sT : Same H' H2 := (Pre.same_upd hT).trans s2
    have hd2 := sT _ _ hd
    refine ⟨_, hd2, ?_, as ++ [q], fun b' o e => ?_, by rw [upd_same, List.map_append]; rfl, by rw [List.length_append, hla]; rfl, fun m a' e => ?_⟩
    · rw [List.length_map, hla]
      exact Nat.lt_of_lt_of_le hlt (Nat.le_trans hz (by decide))
    · rw [upd_ne (ne_of_none e hD)]
      exact sT _ _ (s1 _ _ e)
    · have offD : ∀ {a : Addr} {u : Int × Int}, At K H2 a u → At K (upd H2 D (.lst (as.map V.ref ++ [V.ref q]))) a u := fun {a u} h => by
        have ne : ∀ o, H2 a = some o → (∀ xs, o ≠ .lst xs) → (upd H2 D (.lst (as.map V.ref ++ [V.ref q]))) a = some o := fun o e n => by
          rw [upd_ne (fun y => by rw [y, hd2] at e; cases e; exact n _ rfl)]
          exact e
        rcases h with (h | ⟨o, h⟩) | h
        · exact .inl (.inl (ne _ h (fun _ z => by cases z)))
        · exact .inl (.inr ⟨o, ne _ h (fun _ z => by cases z)⟩)
        · exact .inr h
      rcases Nat.lt_or_ge m as.length with hm | hm
      · rw [List.getElem?_append_left hm] at e
        obtain ⟨t', b', e1, e2, e3⟩ := hw m a' e
        exact ⟨t', b', e1, e2, offD (sqT_same sT e3)⟩
      · rw [List.getElem?_append_right hm] at e
        have em : m = as.length := by
          rcases Nat.eq_or_lt_of_le hm with w | w
          · exact w.symm
          · have : 0 < m - as.length := by omega
            match hk : m - as.length, this with
            | k + 1, _ =>
              rw [hk] at e
              cases e
        subst em
        rw [Nat.sub_self] at e
        cases e
        exact ⟨z, b, by rw [hla]; exact hzi, by rw [hla]; exact hbi, offD (SqT.of hq)⟩
  · rintro H' ⟨as, s1, hd, hla, hw⟩
    rw [List.length_map] at hla
    exact k D as H' s1 hD hd hla hw
end
end Wt

namespace Wt
open PySem PySem.Spec PyProof.Rows L2
open Dc Us Xt
open LamX (CodeO TabS Tabs ExtN TabB)
section
variable {P0 : Program} {w : World} {K : PySem.W.Frag} {mg : Str → Option Value} {base : Heap}
/-- a def of the law itself -/
structure Own (K : PySem.W.Frag) (mg : Str → Option Value) (x : Str) (st : Stmt) (f : Addr) (fd : FuncData) : Prop where
  F : Fun K x x st f fd
  m : mg x = some (.ref f)
structure LwK (P0 : Program) (w : World) (K : PySem.W.Frag) (mg : Str → Option Value) (fD fP fB fA fN fX fS fL f1 f2 f3 f4 f5 fR : Addr) (dD dP dB dA dN dX dS dL d1 d2 d3 d4 d5 dR : FuncData) (CS CW CN g1 g2 g3 g4 g5 g6 g7 PR : Addr) (e1 e2 e3 e4 e5 e6 e7 : FuncData) : Prop where
  D : Drw K mg fD fP fB dD dP dB
  T : TxtW mg
  A : Own K mg "_law_begun" Pre.sBegun fA dA
  N : Own K mg "_law_number" sNumber fN dN
  X : Own K mg "_law_bad" sBad fX dX
  S : Own K mg "_law_cp_same" sSame fS dS
  L : Own K mg "_law_cp_lowest" sLowest fL dL
  Pl : Own K mg "_law_cp_plus" sCpPlus f1 d1
  Ti : Own K mg "_law_cp_times" sCpTimes f2 d2
  Wh : Own K mg "_law_cp_whole" sCpWhole f3 d3
  Iw : Own K mg "_law_cp_is_weight" sCpIsW f4 d4
  Tr : Own K mg "_law_is_truth" sTruth f5 d5
  W : Wk P0 w K mg CS CW CN g1 g2 g3 g4 g5 g6 e1 e2 e3 e4 e5 e6
  isw : Use P0 w K mg CX0 2 "is_weight" ["value"] (spIsWt K) g7 e7
  kw1 : ∀ (s : Shared) (u : Value), K.In s.heap → BindsTo s e7 ⟨[], [("value", u)]⟩ [("value", u)]
  kw2 : ∀ (s : Shared) (u v : Value), K.In s.heap → BindsTo s e2 ⟨[], [("one", u), ("other", v)]⟩ [("one", u), ("other", v)]
  kw5 : ∀ (s : Shared) (u : Value), K.In s.heap → BindsTo s e5 ⟨[], [("weights", u)]⟩ [("weights", u)]
  kw6 : ∀ (s : Shared) (u v : Value), K.In s.heap → BindsTo s e6 ⟨[], [("bottom", v), ("top", u)]⟩ [("top", u), ("bottom", v)]
  b6 : ∃ ds, Vals [V.int 1] ds ∧ Binds K e6 ["top", "bottom"] ds
  mR : mg "_law_refused" = some (.ref fR)
  kR : PySem.W.keepIn K (.ref fR) = true
  bR : Binds K dR ["state", "one"] []
  zr : mg "repr" = none
  zm : mg "min" = none
  zz : mg "zip" = none
abbrev nLaw : List Str := ["script", "state", "turn", "tops", "bottoms", "some", "top", "bottom", "due", "one", "other", "minus", "total_v", "single", "thing", "lap", "number"]
theorem scLaw : FnScope nLaw ["script"] (defScope sLaw) := ⟨rfl, rfl, rfl, by decide +kernel, rfl, by decide +kernel, by decide +kernel⟩
def spLaw (K : PySem.W.Frag) (PR : Addr) : Sp := fun vs H Q _ => ∃ (a : Addr) (ns : List Int), vs = [.ref a] ∧ SqL K H a (ns.map V.int) ∧ ns.length ≤ 63 ∧ Tabs [(PR, qL)] H ∧ ∀ H', Q (.bl true) H'
theorem tabs_same {PR : Addr} {q : Str} {H H' : Hp} (t : Tabs [(PR, q)] H) (s : Same H H') : Tabs [(PR, q)] H' := t.ext s
variable {fD fP fB fA fN fX fS fL f1 f2 f3 f4 f5 fR : Addr} {dD dP dB dA dN dX dS dL d1 d2 d3 d4 d5 dR : FuncData} {CS CW CN g1 g2 g3 g4 g5 g6 g7 PR : Addr} {e1 e2 e3 e4 e5 e6 e7 : FuncData}
theorem go_name {i : Nat} {v : V} {σ : L2.St} {H : Hp} {Q : L2.St → Hp → Prop} (h : Q (σ.set i (some v)) H) : gName i v σ H Q := h
theorem go_seq {t u : TS} {D : Ends} {σ : L2.St} {H : Hp} (h : t { D with nx := u D } σ H) : tSeq t u D σ H := h
theorem go_nx {f b c : L2.St → Hp → Prop} {r : V → Hp → Prop} {σ : L2.St} {H : Hp} (h : f σ H) : (Ends.mk f r b c).nx σ H := h
theorem go_asg {te : TE} {g : TG} {D : Ends} {σ : L2.St} {H : Hp} (h : te σ H fun x H1 => g x σ H1 D.nx) : tAsg te g D σ H := h
theorem go_par {i j : Nat} {ta tb : TE} {D : Ends} {σ : L2.St} {H : Hp} (h : ta σ H fun x H1 => tb σ H1 fun y H2 => D.nx ((σ.set i (some x)).set j (some y)) H2) : tPar i j (tCons ta (tCons tb tNil)) D σ H := by
  show ta σ H fun x H1 => tb σ H1 fun y H2 => ∃ v w, [x, y] = [v, w] ∧ D.nx ((σ.set i (some v)).set j (some w)) H2
  have e : (fun x H1 => tb σ H1 fun y H2 => ∃ v w, [x, y] = [v, w] ∧ D.nx ((σ.set i (some v)).set j (some w)) H2) = (fun x H1 => tb σ H1 fun y H2 => D.nx ((σ.set i (some x)).set j (some y)) H2) := by
    funext x H1
    congr 1
    funext y H2
    apply propext
    constructor
    · rintro ⟨v, w, e, h⟩
      cases e
      exact h
    · intro h
      exact ⟨x, y, rfl, h⟩
  rw [e]
  exact h
/-- the lists of one turn -/
structure Fx (K : PySem.W.Frag) (PR p g c : Addr) (n : Nat) (tD bD sD : Addr) (t0 t1 t2 t3 b0 b1 b2 b3 : Int) (a0 a1 a2 a3 : Addr) (H : Hp) : Prop where
  st : Pre.St H p g c n
  tb : Tabs [(PR, qL)] H
  t : H tD = some (.lst [.int t0, .int t1, .int t2, .int t3])
  b : H bD = some (.lst [.int b0, .int b1, .int b2, .int b3])
  s : H sD = some (.lst [.ref a0, .ref a1, .ref a2, .ref a3])
  w0 : At K H a0 (low t0 b0)
  w1 : At K H a1 (low t1 b1)
  w2 : At K H a2 (low t2 b2)
  w3 : At K H a3 (low t3 b3)
theorem Fx.same {K : PySem.W.Frag} {PR p g c : Addr} {n : Nat} {tD bD sD : Addr} {t0 t1 t2 t3 b0 b1 b2 b3 : Int} {a0 a1 a2 a3 : Addr} {H H' : Hp} (f : Fx K PR p g c n tD bD sD t0 t1 t2 t3 b0 b1 b2 b3 a0 a1 a2 a3 H) (s : Same H H') : Fx K PR p g c n tD bD sD t0 t1 t2 t3 b0 b1 b2 b3 a0 a1 a2 a3 H' :=
  ⟨st_same f.st s, tabs_same f.tb s, s _ _ f.t, s _ _ f.b, s _ _ f.s, sqT_same s f.w0, sqT_same s f.w1, sqT_same s f.w2, sqT_same s f.w3⟩
/-- the numbers of one turn -/
structure Nx (t0 t1 t2 t3 b0 b1 b2 b3 : Int) : Prop where
  z0 : t0.natAbs < 2 ^ 67
  z1 : t1.natAbs < 2 ^ 67
  z2 : t2.natAbs < 2 ^ 67
  z3 : t3.natAbs < 2 ^ 67
  y0 : b0.natAbs < 2 ^ 67
  y1 : b1.natAbs < 2 ^ 67
  y2 : b2.natAbs < 2 ^ 67
  y3 : b3.natAbs < 2 ^ 67
  n0 : b0 ≠ 0
  n1 : b1 ≠ 0
  n2 : b2 ≠ 0
  n3 : b3 ≠ 0
theorem Fx.at {K : PySem.W.Frag} {PR p g c : Addr} {n : Nat} {tD bD sD : Addr} {t0 t1 t2 t3 b0 b1 b2 b3 : Int} {a0 a1 a2 a3 : Addr} {H : Hp} (f : Fx K PR p g c n tD bD sD t0 t1 t2 t3 b0 b1 b2 b3 a0 a1 a2 a3 H) (m : Nx t0 t1 t2 t3 b0 b1 b2 b3) {i : Nat} {x y z : V}
    (hx : ([V.int t0, .int t1, .int t2, .int t3] : List V)[i]? = some x) (hy : ([V.int b0, .int b1, .int b2, .int b3] : List V)[i]? = some y) (hz : ([V.ref a0, .ref a1, .ref a2, .ref a3] : List V)[i]? = some z) : ∃ t b a, x = .int t ∧ y = .int b ∧ z = .ref a ∧ b ≠ 0 ∧ t.natAbs < 2 ^ 67 ∧ b.natAbs < 2 ^ 67 ∧ At K H a (low t b) := by
  match i, hx, hy, hz with
  | 0, hx, hy, hz => exact ⟨t0, b0, a0, (Option.some.inj hx).symm, (Option.some.inj hy).symm, (Option.some.inj hz).symm, m.n0, m.z0, m.y0, f.w0⟩
  | 1, hx, hy, hz => exact ⟨t1, b1, a1, (Option.some.inj hx).symm, (Option.some.inj hy).symm, (Option.some.inj hz).symm, m.n1, m.z1, m.y1, f.w1⟩
  | 2, hx, hy, hz => exact ⟨t2, b2, a2, (Option.some.inj hx).symm, (Option.some.inj hy).symm, (Option.some.inj hz).symm, m.n2, m.z2, m.y2, f.w2⟩
  | 3, hx, hy, hz => exact ⟨t3, b3, a3, (Option.some.inj hx).symm, (Option.some.inj hy).symm, (Option.some.inj hz).symm, m.n3, m.z3, m.y3, f.w3⟩
  | n + 4, hx, _, _ => cases hx
theorem Fx.kp {K : PySem.W.Frag} {PR p g c : Addr} {n n' : Nat} {tD bD sD : Addr} {t0 t1 t2 t3 b0 b1 b2 b3 : Int} {a0 a1 a2 a3 : Addr} {H H' : Hp} (f : Fx K PR p g c n tD bD sD t0 t1 t2 t3 b0 b1 b2 b3 a0 a1 a2 a3 H) (s : Pre.Kp p g H H') (st' : Pre.St H' p g c n') (h1 : tD ≠ p ∧ tD ≠ g) (h2 : bD ≠ p ∧ bD ≠ g) (h3 : sD ≠ p ∧ sD ≠ g) :
    Fx K PR p g c n' tD bD sD t0 t1 t2 t3 b0 b1 b2 b3 a0 a1 a2 a3 H' :=
  ⟨st', tabs_kp f.tb f.st s, s _ _ h1.1 h1.2 f.t, s _ _ h2.1 h2.2 f.b, s _ _ h3.1 h3.2 f.s, at_kx f.w0 f.st (Kx.kp s), at_kx f.w1 f.st (Kx.kp s), at_kx f.w2 f.st (Kx.kp s), at_kx f.w3 f.st (Kx.kp s)⟩
theorem tot_sz {ws : List (Int × Int)} (h : ∀ u ∈ ws, sz 67 u ∧ 1 ≤ u.2) : ∀ i : Nat, i ≤ ws.length → sz (1 + 68 * i) (tot (ws.take i)) ∧ 0 < (tot (ws.take i)).2
  | 0, _ => by
    show sz 1 (0, 1) ∧ (0 : Int) < 1
    exact ⟨⟨by decide, by decide⟩, by decide⟩
  | i + 1, hi => by
    obtain ⟨h1, h2⟩ := tot_sz h i (by omega)
    have hu : ws[i]? = some ws[i] := List.getElem?_eq_getElem (by omega)
    obtain ⟨u1, u2⟩ := h _ (List.mem_of_getElem? hu)
    rw [tot_more hu]
    have z := sz_add h1 u1 (by omega) (by omega)
    exact ⟨sz_mono z (by omega), add_pos (by omega) (by omega)⟩
theorem go_on {f b c : L2.St → Hp → Prop} {r : V → Hp → Prop} {σ : L2.St} {H : Hp} (h : f σ H) : tNext (Ends.mk f r b c) σ H := h
def smallB : PyData → Bool
  | .tuple [.int a, .int b] => decide (a.natAbs < 1000) && decide (b.natAbs < 1000)
  | _ => true
theorem bads_sm : ∀ d ∈ bads, smallB d = true := by decide +kernel
theorem bads_small (d : PyData) (h : d ∈ bads) : smallP d := fun a b e => by
  subst e
  have q := bads_sm _ h
  have q' : (decide (a.natAbs < 1000) && decide (b.natAbs < 1000)) = true := q
  rw [Bool.and_eq_true] at q'
  have h1 := of_decide_eq_true q'.1
  have h2 := of_decide_eq_true q'.2
  have e : (1000 : Nat) ≤ 2 ^ 300 := Nat.le_trans (by decide : 1000 ≤ 2 ^ 10) (Nat.pow_le_pow_right (by decide) (by decide))
  exact ⟨by omega, by omega⟩
theorem wd_small {u : Int × Int} (h : sz 300 u) : smallP (wD u) := fun a b e => by
  cases e
  exact h
theorem big {n m : Nat} {z : Int} (h : z.natAbs < 2 ^ n) (l : n ≤ m) : z.natAbs < 2 ^ m := Nat.lt_of_lt_of_le h (Nat.pow_le_pow_right (by decide) l)
theorem ok_law {f : Addr} {fd : FuncData} (F : Fun K "law" "law" sLaw f fd) (T : LwK P0 w K mg fD fP fB fA fN fX fS fL f1 f2 f3 f4 f5 fR dD dP dB dA dN dX dS dL d1 d2 d3 d4 d5 dR CS CW CN g1 g2 g3 g4 g5 g6 g7 PR e1 e2 e3 e4 e5 e6 e7)
    (GR : FnOk P0 w K mg base CX0 7 fR dR ["state", "one"] (spRefused K PR qL)) : Gd.FnG P0 w K mg base CX0 8 f fd ["script"] (spLaw K PR) := by
  have GA : FnOk P0 w K mg base CX0 1 fA dA ["script"] (Pre.spBegun K) := Pre.ok_begun T.A.F T.D.T
  have GN : FnOk P0 w K mg base CX0 4 fN dN ["state"] spNumber := ok_number T.N.F T.D
  have GX : FnOk P0 w K mg base CX0 4 fX dX ["state"] (spBad K) := ok_bad T.X.F T.D
  have GS : Gd.FnG P0 w K mg base CX0 1 fS dS ["found", "due"] (spSame K) := ok_same T.S.F T.zr
  have GL : FnOk P0 w K mg base CX0 1 fL dL ["top", "bottom"] spLowest := ok_lowest T.L.F T.D.T
  have G1 : FnOk P0 w K mg base CX0 2 f1 d1 ["one", "other"] (spCpBin K addW) := ok_cpplus T.Pl.F T.D.T T.L.F T.L.m
  have G2 : FnOk P0 w K mg base CX0 2 f2 d2 ["one", "other"] (spCpBin K mulW) := ok_cptimes T.Ti.F T.D.T T.L.F T.L.m
  have G4 : FnOk P0 w K mg base CX0 2 f4 d4 ["thing"] (spCpIsW K) := ok_cpisw T.Iw.F T.T T.D.T T.L.F T.L.m T.Wh.F T.Wh.m
  have G5 : FnOk P0 w K mg base CX0 1 f5 d5 ["found", "due"] spTruth := ok_truth T.Tr.F
  have bA := T.A.F.binds (ps := ["script"]) fun _ _ _ _ _ _ us hl => match us, hl with | [_], _ => rfl
  have bN := T.N.F.binds (ps := ["state"]) fun _ _ _ _ _ _ us hl => match us, hl with | [_], _ => rfl
  have bX := T.X.F.binds (ps := ["state"]) fun _ _ _ _ _ _ us hl => match us, hl with | [_], _ => rfl
  have bS := T.S.F.binds (ps := ["found", "due"]) fun _ _ _ _ _ _ us hl => match us, hl with | [_, _], _ => rfl
  have bL := T.L.F.binds (ps := ["top", "bottom"]) fun _ _ _ _ _ _ us hl => match us, hl with | [_, _], _ => rfl
  have b1 := T.Pl.F.binds (ps := ["one", "other"]) fun _ _ _ _ _ _ us hl => match us, hl with | [_, _], _ => rfl
  have b2 := T.Ti.F.binds (ps := ["one", "other"]) fun _ _ _ _ _ _ us hl => match us, hl with | [_, _], _ => rfl
  have b4 := T.Iw.F.binds (ps := ["thing"]) fun _ _ _ _ _ _ us hl => match us, hl with | [_], _ => rfl
  have b5 := T.Tr.F.binds (ps := ["found", "due"]) fun _ _ _ _ _ _ us hl => match us, hl with | [_, _], _ => rfl
  obtain ⟨ds6, v6, bb6⟩ := T.b6
  refine Gd.fun_okG F scLaw (fun vs H Q E h => ?_) (fun cdv A outer s H vs Q E hr hG h => ?_)
  · obtain ⟨a, ns, rfl, _⟩ := h
    rfl
  · obtain ⟨a, ns, rfl, hS, hlen, ht, k⟩ := h
    have nd := scLaw.nd
    have hr1 : Room 1 _ := hr.mono (by decide)
    have hr2 : Room 2 _ := hr.mono (by decide)
    have hr4 : Room 4 _ := hr.mono (by decide)
    have hGd : (A.deeper (envOfC "law" (defScope sLaw) s.heap.objs.size f cdv)).guards = some [] := hG
    refine ⟨_, pss_cons (ps_set (i := 1) nd rfl (by first | exact Or.inl rfl | exact Or.inr rfl) (pe_call GA hr1 rfl T.A.m T.A.F.kp bA .nil pass0 (pa_cons (pv 0) pa_nil)))
      (pss_cons (ps_for PassesOwn.never rfl (pi_range1 (by rfl) T.D.zg (pa_cons (pe_op op_add pe_int (pe_callB (call_min2 (by rfl)) (by rfl) T.zm (by decide +kernel) (pa_cons (pe_callB call_len_seq (by rfl) T.T.len PySem.boot_len (pa_cons (pv 0) pa_nil)) (pa_cons pe_int pa_nil)))) pa_nil)) (pg_name (i := 2) nd rfl (Or.inl rfl))
        (pss_cons (ps_par (i := 3) (j := 4) rfl nd rfl rfl (by decide) rfl rfl (pa_cons
            (pe_lc (own := [("lap", 15)]) (g := gName 15) (tt := tYes) rfl nd (pi_range1 (by rfl) T.D.zg (pa_cons pe_int pa_nil)) (blkOk_by (own := [("lap", 15)]) (N := nLaw) (sc := defScope sLaw) (by decide +kernel)) (fun _ _ _ _ _ => pg_name (i := 15) nd rfl (Or.inl rfl)) (fun _ _ _ _ _ => pts_nil)
              (fun _ _ _ _ _ => pe_call GN hr4 rfl T.N.m T.N.F.kp bN .nil pass0 (pa_cons (pv 1) pa_nil)))
            (pa_cons (pe_lc (own := [("lap", 15)]) (g := gName 15) (tt := tYes) rfl nd (pi_range1 (by rfl) T.D.zg (pa_cons pe_int pa_nil)) (blkOk_by (own := [("lap", 15)]) (N := nLaw) (sc := defScope sLaw) (by decide +kernel)) (fun _ _ _ _ _ => pg_name (i := 15) nd rfl (Or.inl rfl)) (fun _ _ _ _ _ => pts_nil)
              (fun _ _ _ _ _ => pe_call GN hr4 rfl T.N.m T.N.F.kp bN .nil pass0 (pa_cons (pv 1) pa_nil))) pa_nil)) (by rfl))
        (pss_cons (ps_setLc (i := 4) (own := [("number", 16)]) (g := gName 16) (tt := tYes) rfl nd rfl rfl (sw_true rfl rfl rfl (by decide +kernel)) (pi_list (pv 4)) (blkOk_by (own := [("number", 16)]) (N := nLaw) (sc := defScope sLaw) (by decide +kernel)) (fun _ _ _ _ _ => pg_name (i := 16) nd rfl (Or.inl rfl)) (fun _ _ _ _ _ => pts_nil)
              (fun _ _ _ _ _ => pe_ifExp (pt_cmpR op_ne (pv 16) pe_int (nomark _)) (pv 16) pe_int))
        (pss_cons (ps_setLc (i := 5) (own := [("top", 6), ("bottom", 7)]) (g := gTup K 2 (gCons (gName 6) (gCons (gName 7) gNil))) (tt := tYes) rfl nd rfl rfl (sw_true rfl rfl rfl (by decide +kernel)) (pi_zip (by rfl) T.zz (pa_cons (pv 3) (pa_cons (pv 4) pa_nil))) (blkOk_by (own := [("top", 6), ("bottom", 7)]) (N := nLaw) (sc := defScope sLaw) (by decide +kernel))
              (fun _ _ _ _ _ => pg_tup (by rfl) (pgs_cons (pg_name (i := 6) nd rfl (Or.inl rfl)) (pgs_cons (pg_name (i := 7) nd rfl (Or.inl rfl)) pgs_nil))) (fun _ _ _ _ _ => pts_nil)
              (fun _ _ _ _ _ => pe_call GL hr1 rfl T.L.m T.L.F.kp bL .nil pass0 (pa_cons (pv 6) (pa_cons (pv 7) pa_nil))))
        (pss_cons (ps_for PassesOwn.never rfl (Z3.pi_zip3 (by rfl) T.zz (pa_cons (pv 3) (pa_cons (pv 4) (pa_cons (pv 5) pa_nil)))) (pg_tup (by rfl) (pgs_cons (pg_name (i := 6) nd rfl (Or.inl rfl)) (pgs_cons (pg_name (i := 7) nd rfl (Or.inl rfl)) (pgs_cons (pg_name (i := 8) nd rfl (Or.inl rfl)) pgs_nil))))
          (pss_one (ps_if (PW.pt (pw_or (pt_not (pt_val (Gd.pe_callG GS hr1 hGd rfl T.S.m T.S.F.kp bS pass0 (pa_cons (pe_useN T.W.weight hr2 T.W.bweight .nil (pa_cons (pv 6) (pa_cons (pv 7) pa_nil))) (pa_cons (pv 8) pa_nil)))))
              (pw_or1 (pt_not (pt_val (Gd.pe_callG GS hr1 hGd rfl T.S.m T.S.F.kp bS pass0 (pa_cons (pe_kw2s T.W.weight hr2 none_out T.kw6 (pv 7) (pv 6)) (pa_cons (pv 8) pa_nil)))))))) (pss_one (ps_ret pe_bl)) pss_nil)))
        (pss_cons (ps_if (pt_not (pt_val (Gd.pe_callG GS hr1 hGd rfl T.S.m T.S.F.kp bS pass0 (pa_cons (pe_useN T.W.weight hr2 bb6 v6 (pa_cons (pe_ix ix_list (pv 3) pe_int (fun _ _ => rfl)) pa_nil)) (pa_cons (pe_tup (pa_cons (pe_ix ix_list (pv 3) pe_int (fun _ _ => rfl)) (pa_cons pe_int pa_nil))) pa_nil))))) (pss_one (ps_ret pe_bl)) pss_nil)
        (pss_cons (ps_par (i := 9) (j := 10) rfl nd rfl rfl (by decide) rfl rfl (pa_cons (pe_ix ix_list (pv 5) pe_int (fun _ _ => rfl)) (pa_cons (pe_ix ix_list (pv 5) pe_int (fun _ _ => rfl)) pa_nil)) (by rfl))
        (pss_cons (ps_if (pt_not (pt_val (Gd.pe_callG GS hr1 hGd rfl T.S.m T.S.F.kp bS pass0 (pa_cons (pe_useN T.W.plus hr4 T.W.bplus .nil (pa_cons (pv 9) (pa_cons (pv 10) pa_nil))) (pa_cons (pe_call G1 hr2 rfl T.Pl.m T.Pl.F.kp b1 .nil pass0 (pa_cons (pv 9) (pa_cons (pv 10) pa_nil))) pa_nil))))) (pss_one (ps_ret pe_bl)) pss_nil)
        (pss_cons (ps_if (pt_not (pt_val (Gd.pe_callG GS hr1 hGd rfl T.S.m T.S.F.kp bS pass0 (pa_cons (pe_kw2 T.W.times hr4 none_out T.kw2 (pv 9) (pv 10)) (pa_cons (pe_call G2 hr2 rfl T.Ti.m T.Ti.F.kp b2 .nil pass0 (pa_cons (pv 9) (pa_cons (pv 10) pa_nil))) pa_nil))))) (pss_one (ps_ret pe_bl)) pss_nil)
        (pss_cons (ps_set (i := 11) nd rfl (Or.inl rfl) (pe_call G1 hr2 rfl T.Pl.m T.Pl.F.kp b1 .nil pass0 (pa_cons (pv 9) (pa_cons (pe_tup (pa_cons (pe_op op_sub pe_int (pe_ix ix_tup (pv 10) pe_int (fun _ _ => rfl))) (pa_cons (pe_ix ix_tup (pv 10) pe_int (fun _ _ => rfl)) pa_nil))) pa_nil))))
        (pss_cons (ps_if (PW.pt (pw_or (pt_not (pt_val (Gd.pe_callG GS hr1 hGd rfl T.S.m T.S.F.kp bS pass0 (pa_cons (pe_useN T.W.less hr4 T.W.bless .nil (pa_cons (pv 9) (pa_cons (pv 10) pa_nil))) (pa_cons (pv 11) pa_nil))))) (pw_or1 (pt_not (pt_val (pe_call G5 hr1 rfl T.Tr.m T.Tr.F.kp b5 .nil pass0 (pa_cons (pe_useN T.W.below hr4 T.W.bbelow .nil (pa_cons (pv 9) (pa_cons (pv 10) pa_nil))) (pa_cons (pe_cmpR op_lt (pe_ix ix_tup (pv 11) pe_int (fun _ _ => rfl)) pe_int (nomark _)) pa_nil)))))))) (pss_one (ps_ret pe_bl)) pss_nil)
        (pss_cons (ps_set (i := 12) nd rfl (Or.inl rfl) (pe_tup (pa_cons pe_int (pa_cons pe_int pa_nil))))
        (pss_cons (ps_for PassesOwn.never rfl (pi_list (pv 5)) (pg_name (i := 13) nd rfl (Or.inl rfl)) (pss_one (ps_set (i := 12) nd rfl (Or.inl rfl) (pe_call G1 hr2 rfl T.Pl.m T.Pl.F.kp b1 .nil pass0 (pa_cons (pv 12) (pa_cons (pv 13) pa_nil))))))
        (pss_cons (ps_if (PW.pt (pw_or (pt_not (pt_val (Gd.pe_callG GS hr1 hGd rfl T.S.m T.S.F.kp bS pass0 (pa_cons (pe_useN T.W.summed hr4 T.W.bsummed .nil (pa_cons (pv 5) pa_nil)) (pa_cons (pv 12) pa_nil))))) (pw_or1 (pt_not (pt_val (Gd.pe_callG GS hr1 hGd rfl T.S.m T.S.F.kp bS pass0 (pa_cons (pe_kw1 T.W.summed hr4 none_out T.kw5 (pe_callTy call_tuple_of (by rfl) T.T.tuple (by decide +kernel) (pa_cons (pv 5) pa_nil))) (pa_cons (pv 12) pa_nil)))))))) (pss_one (ps_ret pe_bl)) pss_nil)
        (pss_cons (ps_if (PW.pt (pw_or (pt_cmpR (op_neD hr.units) (pe_useN T.W.summed hr4 T.W.bsummed .nil (pa_cons (pe_lst pa_nil) pa_nil)) (pe_tup (pa_cons pe_int (pa_cons pe_int pa_nil))) (nomark _)) (pw_or1 (pt_cmpR op_notBl (pe_useN T.W.below hr4 T.W.bbelow .nil (pa_cons (pv 9) (pa_cons (pv 9) pa_nil))) pe_bl (nomark _))))) (pss_one (ps_ret pe_bl)) pss_nil)
        (pss_cons (ps_for PassesOwn.never rfl (pi_list (pe_op op_cat (pv 5) (pe_lst (pa_cons (pe_tup (pa_cons (pe_ix ix_list (pv 3) pe_int (fun _ _ => rfl)) (pa_cons (pe_ix ix_list (pv 4) pe_int (fun _ _ => rfl)) pa_nil))) (pa_cons (pe_call GX hr4 rfl T.X.m T.X.F.kp bX .nil pass0 (pa_cons (pv 1) pa_nil)) (pa_cons (pe_tup (pa_cons (pe_ix ix_list (pv 3) pe_int (fun _ _ => rfl)) (pa_cons pe_int pa_nil))) (pa_cons (pe_tup (pa_cons pe_int (pa_cons pe_int pa_nil))) (pa_cons (pe_tup (pa_cons pe_int (pa_cons (pe_ix ix_list (pv 4) pe_int (fun _ _ => rfl)) pa_nil))) pa_nil)))))))) (pg_name (i := 14) nd rfl (Or.inl rfl))
          (pss_one (ps_if (pt_not (pt_val (pe_call G5 hr1 rfl T.Tr.m T.Tr.F.kp b5 .nil pass0 (pa_cons (pe_kw1 T.isw hr2 pass0 T.kw1 (pv 14)) (pa_cons (pe_call G4 hr2 rfl T.Iw.m T.Iw.F.kp b4 .nil pass0 (pa_cons (pv 14) pa_nil)) pa_nil))))) (pss_one (ps_ret pe_bl)) pss_nil)))
        (pss_one (ps_if (pt_not (pt_val (pe_call GR hr rfl T.mR T.kR T.bR .nil pass0 (pa_cons (pv 1) (pa_cons (pv 9) pa_nil))))) (pss_one (ps_ret pe_bl)) pss_nil))))))))))))))))))
      (pss_one (ps_ret pe_bl))), ?_⟩
    refine ⟨_, rfl, a, ns, rfl, hS, hlen, fun H1 p g c s1 st1 p0 g0 => ?_⟩
    refine ⟨_, rfl, a, _, rfl, .inl (s1.seq hS), _, _, rfl, _, _, rfl, rfl, _, rfl, ?_, ?_, for_range (fun i σ H' => ∃ o2 o3 o4 o5 o6 o7 o8 o9 o10 o11 o12 o13 o14 o15 o16, σ = [some (.ref a), some (.ref p), o2, o3, o4, o5, o6, o7, o8, o9, o10, o11, o12, o13, o14, o15, o16] ∧ Pre.St H' p g c (200 * i) ∧ Tabs [(PR, qL)] H')
      ⟨_, _, _, _, _, _, _, _, _, _, _, _, _, _, _, rfl, st1, tabs_same ht s1⟩ ?_ ?_⟩
    · split <;> omega
    · split <;> omega
    · rintro i σ H2 hi ⟨o2, o3, o4, o5, o6, o7, o8, o9, o10, o11, o12, o13, o14, o15, o16, rfl, hs, htb⟩
      have hi2 : i < 12 := by
        revert hi
        split <;> omega
      clear hi s1 st1 p0 g0 H1 ht hS
      refine go_name (go_seq (go_par ?_))
      refine rd_nums (σ := [some (.ref a), some (.ref p), some (.int (0 + (i : Int))), o3, o4, o5, o6, o7, o8, o9, o10, o11, o12, o13, o14, o15, o16]) (v := 15) (p := p) (g := g) (c := c) (n := 200 * i) (by intro _; rfl) (by intro _; rfl) hs (by omega) fun tD zs H3 kp3 s3 n3 h3 l3 m3 => ?_
      refine rd_nums (σ := [some (.ref a), some (.ref p), some (.int (0 + (i : Int))), o3, o4, o5, o6, o7, o8, o9, o10, o11, o12, o13, o14, o15, o16]) (v := 15) (p := p) (g := g) (c := c) (n := 200 * i + 88) (by intro _; rfl) (by intro _; rfl) s3 (by omega) fun cD cs H4 kp4 s4 n4 h4 l4 m4 => ?_
      have nt := st_new hs n3
      have h3' := kp4 _ _ nt.1 nt.2 h3
      have tb4 := tabs_kp (tabs_kp htb hs kp3) s3 kp4
      refine go_nx (go_seq (go_asg ?_))
      refine rd_nz (σ := [some (.ref a), some (.ref p), some (.int (0 + (i : Int))), some (.ref tD), some (.ref cD), o5, o6, o7, o8, o9, o10, o11, o12, o13, o14, o15, o16]) (j := 4) (v := 16) (l := cD) (zs := cs) (by rfl) (by intro _; rfl) (by intro _; rfl) h4 (by omega) fun bD H5 s5 n5 h5 => ?_
      refine go_name (go_nx (go_seq (go_asg ?_)))
      refine rd_lows (σ := [some (.ref a), some (.ref p), some (.int (0 + (i : Int))), some (.ref tD), some (.ref bD), o5, o6, o7, o8, o9, o10, o11, o12, o13, o14, o15, o16]) (j := 3) (j2 := 4) (v := 6) (v2 := 7) (l := tD) (l2 := bD) (zs := zs) (bs := cs.map nz) (by rfl) (by rfl) (by intro _ _; rfl) (by intro _ _; rfl) (by intro _ _; rfl) (s5 _ _ h3') h5 (by omega) (by rw [List.length_map]; omega) (fun b hb => ?_) m3 fun sD as H6 s6 n6 h6 l6 hw => ?_
      · obtain ⟨z, hz, rfl⟩ := List.mem_map.mp hb
        exact ⟨nz_ne z, nz_lt (m4 z hz)⟩
      have ntb : bD ≠ p ∧ bD ≠ g := st_new s4 n5
      have nts : sD ≠ p ∧ sD ≠ g := st_new (st_same s4 s5) n6
      have fx : ∃ t0 t1 t2 t3 b0 b1 b2 b3 a0 a1 a2 a3, Nx t0 t1 t2 t3 b0 b1 b2 b3 ∧ Fx K PR p g c (200 * i + 176) tD bD sD t0 t1 t2 t3 b0 b1 b2 b3 a0 a1 a2 a3 H6 := by
        match zs, l3, cs, l4, as, l6.trans l3 with
        | [t0, t1, t2, t3], _, [c0, c1, c2, c3], _, [a0, a1, a2, a3], _ =>
          refine ⟨t0, t1, t2, t3, nz c0, nz c1, nz c2, nz c3, a0, a1, a2, a3, ⟨m3 _ (by simp), m3 _ (by simp), m3 _ (by simp), m3 _ (by simp), nz_lt (m4 _ (by simp)), nz_lt (m4 _ (by simp)), nz_lt (m4 _ (by simp)), nz_lt (m4 _ (by simp)), nz_ne _, nz_ne _, nz_ne _, nz_ne _⟩,
            ⟨st_same s4 (s5.trans s6), tabs_same tb4 (s5.trans s6), s6 _ _ (s5 _ _ h3'), s6 _ _ h5, h6, ?_, ?_, ?_, ?_⟩⟩
          · obtain ⟨t, b, e1, e2, h⟩ := hw 0 a0 rfl
            cases e1
            cases e2
            exact h
          · obtain ⟨t, b, e1, e2, h⟩ := hw 1 a1 rfl
            cases e1
            cases e2
            exact h
          · obtain ⟨t, b, e1, e2, h⟩ := hw 2 a2 rfl
            cases e1
            cases e2
            exact h
          · obtain ⟨t, b, e1, e2, h⟩ := hw 3 a3 rfl
            cases e1
            cases e2
            exact h
      obtain ⟨t0, t1, t2, t3, b0, b1, b2, b3, a0, a1, a2, a3, m, fx⟩ := fx
      clear hw h6 h5 h4 h3 h3' s6 s5 s4 s3 m3 m4 n3 n4 n5 n6 kp3 kp4 hs htb l3 l4 l6 tb4
      refine go_name (go_nx (go_seq ?_))
      refine ⟨_, rfl, _, rfl, _, rfl, tD, bD, sD, _, _, _, rfl, SqL.of fx.t, SqL.of fx.b, SqL.of fx.s, Z3.for_zip3 (K := K) (a := tD) (b := bD) (e := sD) (xs := [.int t0, .int t1, .int t2, .int t3]) (ys := [.int b0, .int b1, .int b2, .int b3]) (zs := [.ref a0, .ref a1, .ref a2, .ref a3]) rfl rfl
        (fun _ σ H' => ∃ q6 q7 q8, σ = [some (.ref a), some (.ref p), some (.int (0 + (i : Int))), some (.ref tD), some (.ref bD), some (.ref sD), q6, q7, q8, o9, o10, o11, o12, o13, o14, o15, o16] ∧ Same H6 H') ⟨_, _, _, rfl, Same.refl _⟩ (fun _ σ H' ⟨_, _, _, _, s⟩ => ⟨SqL.of (s _ _ fx.t), SqL.of (s _ _ fx.b), SqL.of (s _ _ fx.s)⟩) ?_ ?_⟩
      · rintro j x y z TT σ H' hx hy hz ⟨q6, q7, q8, rfl, s7⟩ hT
        obtain ⟨t, b, az, rfl, rfl, rfl, bn, tl, bl, hat⟩ := (fx.same s7).at m hx hy hz
        have sT := Pre.same_upd (o := .tup [.int t, .int b, .ref az]) hT
        obtain ⟨x1, x2, x3, x4⟩ := txt_ok (u := low t b) (sz_mono (sz_low tl bl bn) (by decide : 67 ≤ 300))
        have hat' := sqT_same sT hat
        refine ⟨TT, _, rfl, SqT.of upd_same, rfl, _, _, rfl, _, _, rfl, _, _, rfl, rfl, ?_⟩
        refine ⟨_, rfl, _, rfl, .inr ⟨t, b, rfl, bn, big bl (by decide), fun q H8 s8 hq => ?_⟩⟩
        refine ⟨_, rfl, q, az, wD (low t b), rfl, at_dp hq, at_dp (sqT_same s8 hat'), x1, x2, x3, x4, true, rfl, iteF ?_⟩
        refine ⟨_, rfl, _, rfl, .inr ⟨t, b, rfl, bn, big bl (by decide), fun q2 H9 s9 hq2 => ?_⟩⟩
        refine ⟨_, rfl, q2, az, wD (low t b), rfl, at_dp hq2, at_dp (sqT_same s9 (sqT_same s8 hat')), x1, x2, x3, x4, true, rfl, iteF ?_⟩
        exact ⟨_, _, _, rfl, s7.trans (sT.trans (s8.trans s9))⟩
      · rintro σ H7 ⟨q6, q7, q8, rfl, s7⟩
        have f7 := fx.same s7
        clear fx s7
        refine go_nx (go_seq ?_)
        have su : sz 67 (low t0 b0) := sz_low m.z0 m.y0 m.n0
        have sv : sz 67 (low t1 b1) := sz_low m.z1 m.y1 m.n1
        have wu := low_isW (t := t0) m.n0
        have wv := low_isW (t := t1) m.n1
        have pu := isW_pos wu
        have pv' := isW_pos wv
        refine ⟨_, rfl, tD, _, _, _, rfl, rfl, SqL.of f7.t, rfl, .inr ⟨t0, 1, rfl, by decide, by decide, fun q H8 s8 hq => ?_⟩⟩
        have f8 := f7.same s8
        clear f7
        refine ⟨_, rfl, tD, _, _, _, rfl, rfl, SqL.of f8.t, rfl, by show 2 ≤ sizeLine; decide, fun q2 hq2 => ?_⟩
        have s9 := Pre.same_upd (o := .tup [.int t0, .int 1]) hq2
        obtain ⟨x1, x2, x3, x4⟩ := txt_ok (u := (t0, 1)) ⟨big m.z0 (by decide), by show (1 : Int).natAbs < 2 ^ 300; decide⟩
        refine ⟨q, q2, wD (t0, 1), rfl, at_dp (w := (t0, 1)) (sqT_same s9 (by rw [low_one] at hq; exact hq)), at_dp (w := (t0, 1)) (SqT.of upd_same), x1, x2, x3, x4, true, rfl, iteF (go_on (go_seq (go_par ?_)))⟩
        have f9 := f8.same s9
        clear f8 s8 s9 x1 x2 x3 x4
        generalize upd H8 q2 (.tup [.int t0, .int 1]) = H9 at f9
        refine ⟨_, rfl, sD, _, _, _, rfl, rfl, SqL.of f9.s, rfl, _, rfl, sD, _, _, _, rfl, rfl, SqL.of f9.s, rfl, ?_⟩
        have two : ∀ {H'}, Same H9 H' → Two K H' a0 a1 (low t0 b0) (low t1 b1) := fun {H'} s => ⟨sqT_same s f9.w0, sqT_same s f9.w1, wu, wv, sz_mono su (by decide), sz_mono sv (by decide)⟩
        -- plus
        refine go_nx (go_seq ?_)
        refine ⟨_, rfl, _, rfl, .inr ⟨a0, a1, _, _, rfl, two (Same.refl _), fun q H10 s10 hq => ?_⟩⟩
        refine ⟨_, rfl, _, rfl, a0, a1, low t0 b0, low t1 b1, 67, 67, rfl, sqT_same s10 f9.w0, sqT_same s10 f9.w1, by omega, by omega, su, sv, by decide, by decide, by decide, fun q2 H11 s11 hq2 => ?_⟩
        obtain ⟨x1, x2, x3, x4⟩ := txt_ok (sz_mono (sz_add su sv (by omega) (by omega)) (by decide : 67 + 67 + 1 ≤ 300))
        refine ⟨q, q2, wD (addW (low t0 b0) (low t1 b1)), rfl, at_dp (sqT_same s11 hq), at_dp hq2, x1, x2, x3, x4, true, rfl, iteF (go_on (go_seq ?_))⟩
        have e11 := s10.trans s11
        clear s10 s11 x1 x2 x3 x4 hq hq2
        -- times
        refine ⟨_, rfl, _, rfl, .inr ⟨a0, a1, _, _, rfl, two e11, fun q H12 s12 hq => ?_⟩⟩
        refine ⟨_, rfl, _, rfl, a0, a1, low t0 b0, low t1 b1, 67, 67, rfl, sqT_same (e11.trans s12) f9.w0, sqT_same (e11.trans s12) f9.w1, by omega, by omega, su, sv, by decide, by decide, by decide, fun q2 H13 s13 hq2 => ?_⟩
        obtain ⟨x1, x2, x3, x4⟩ := txt_ok (sz_mono (sz_mul su sv (by omega) (by omega)) (by decide : 67 + 67 ≤ 300))
        refine ⟨q, q2, wD (mulW (low t0 b0) (low t1 b1)), rfl, at_dp (sqT_same s13 hq), at_dp hq2, x1, x2, x3, x4, true, rfl, iteF (go_on (go_seq (go_asg ?_)))⟩
        have e13 := e11.trans (s12.trans s13)
        clear s12 s13 x1 x2 x3 x4 hq hq2 e11
        -- minus
        have at1 := sqT_same e13 f9.w1
        refine ⟨_, rfl, _, rfl, a1, _, _, _, rfl, rfl, at1, rfl, _, _, rfl, rfl, _, rfl, a1, _, _, _, rfl, rfl, at1, rfl, by show 2 ≤ sizeLine; decide, fun q hq => ?_⟩
        have s14 := Pre.same_upd (o := .tup [.int (0 - (low t1 b1).1), .int (low t1 b1).2]) hq
        refine ⟨a0, q, low t0 b0, (0 - (low t1 b1).1, (low t1 b1).2), 67, 67, rfl, sqT_same (e13.trans s14) f9.w0, SqT.of upd_same, by omega, (by show (low t1 b1).2 ≠ 0; omega), su, ⟨(by show (0 - (low t1 b1).1).natAbs < 2 ^ 67; have := sv.1; omega), sv.2⟩, by decide, by decide, by decide, fun mA H15 s15 hm => ?_⟩
        have hmA : At K H15 mA (lessW (low t0 b0) (low t1 b1)) := by
          have z : addW (low t0 b0) (0 - (low t1 b1).1, (low t1 b1).2) = lessW (low t0 b0) (low t1 b1) := by
            rw [Int.zero_sub]
            rfl
          rw [← z]
          exact hm
        have e15 := e13.trans (s14.trans s15)
        clear s14 s15 hm hq at1 e13
        have sl : sz 300 (lessW (low t0 b0) (low t1 b1)) := sz_mono (sz_add (v := (-(low t1 b1).1, (low t1 b1).2)) su ⟨(by show (-(low t1 b1).1).natAbs < 2 ^ 67; have := sv.1; omega), sv.2⟩ (by omega) (by show (low t1 b1).2 ≠ 0; omega)) (by decide : 67 + 67 + 1 ≤ 300)
        refine go_name (go_nx (go_seq ?_))
        -- less, is_below
        refine ⟨_, rfl, _, rfl, .inr ⟨a0, a1, _, _, rfl, two e15, fun q H16 s16 hq => ?_⟩⟩
        obtain ⟨x1, x2, x3, x4⟩ := txt_ok sl
        have hmB := sqT_same s16 hmA
        refine ⟨_, rfl, q, mA, wD (lessW (low t0 b0) (low t1 b1)), rfl, at_dp hq, at_dp hmB, x1, x2, x3, x4, true, rfl, iteF ?_⟩
        have e16 := e15.trans s16
        clear e15 s16 hq x1 x2 x3 x4
        have hbel : decide (belowW (low t0 b0) (low t1 b1) = decide ((lessW (low t0 b0) (low t1 b1)).1 < 0)) = true := decide_eq_true (below_less pu pv')
        refine ⟨_, rfl, _, rfl, .inr ⟨a0, a1, _, _, rfl, two e16, _, rfl, mA, _, _, _, rfl, rfl, hmB, rfl, _, _, rfl, rfl, ?_⟩⟩
        refine ⟨_, _, rfl, _, rfl, ?_⟩
        rw [hbel]
        refine iteF (go_on (go_seq (go_asg ?_)))
        -- total
        refine ⟨by show 2 ≤ sizeLine; decide, fun q hq => ?_⟩
        have f17 := f9.same (e16.trans (Pre.same_upd (o := .tup [.int 0, .int 1]) hq))
        have two' : ∀ {H'}, Same (upd H16 q (.tup [.int 0, .int 1])) H' → Two K H' a0 a0 (low t0 b0) (low t0 b0) := fun {H'} s => ⟨sqT_same s f17.w0, sqT_same s f17.w0, wu, wu, sz_mono su (by decide), sz_mono su (by decide)⟩
        have hq0 : At K (upd H16 q (.tup [.int 0, .int 1])) q (0, 1) := SqT.of upd_same
        clear f9 two e16 hmA hmB hbel hq
        generalize upd H16 q (.tup [.int 0, .int 1]) = H17 at f17 two' hq0
        have s2 : sz 67 (low t2 b2) := sz_low m.z2 m.y2 m.n2
        have s3 : sz 67 (low t3 b3) := sz_low m.z3 m.y3 m.n3
        have w2 := low_isW (t := t2) m.n2
        have w3 := low_isW (t := t3) m.n3
        have p2 := isW_pos w2
        have p3 := isW_pos w3
        have hws : ∀ u ∈ [low t0 b0, low t1 b1, low t2 b2, low t3 b3], sz 67 u ∧ 1 ≤ u.2 := fun u hu => by
          simp only [List.mem_cons, List.not_mem_nil, or_false] at hu
          rcases hu with rfl | rfl | rfl | rfl
          · exact ⟨su, pu⟩
          · exact ⟨sv, pv'⟩
          · exact ⟨s2, p2⟩
          · exact ⟨s3, p3⟩
        have hws' : ∀ u ∈ [low t0 b0, low t1 b1, low t2 b2, low t3 b3], sz 300 u ∧ 1 ≤ u.2 := fun u hu => ⟨sz_mono (hws u hu).1 (by decide), (hws u hu).2⟩
        have hall : ([wD (low t0 b0), wD (low t1 b1), wD (low t2 b2), wD (low t3 b3)]).all isWt = true := by
          have r0 : isWt (wD (low t0 b0)) = true := wu
          have r1 : isWt (wD (low t1 b1)) = true := wv
          have r2 : isWt (wD (low t2 b2)) = true := w2
          have r3 : isWt (wD (low t3 b3)) = true := w3
          simp only [List.all_cons, List.all_nil, r0, r1, r2, r3, Bool.and_self]
        have pick : ∀ {j : Nat} {x : V}, ([V.ref a0, .ref a1, .ref a2, .ref a3] : List V)[j]? = some x → ∃ az u, x = .ref az ∧ [low t0 b0, low t1 b1, low t2 b2, low t3 b3][j]? = some u ∧ At K H17 az u := fun {j x} hx => by
          match j, hx with
          | 0, hx => exact ⟨a0, _, (Option.some.inj hx).symm, rfl, f17.w0⟩
          | 1, hx => exact ⟨a1, _, (Option.some.inj hx).symm, rfl, f17.w1⟩
          | 2, hx => exact ⟨a2, _, (Option.some.inj hx).symm, rfl, f17.w2⟩
          | 3, hx => exact ⟨a3, _, (Option.some.inj hx).symm, rfl, f17.w3⟩
          | n + 4, hx => cases hx
        refine go_name (go_nx (go_seq ?_))
        refine ⟨_, rfl, sD, rfl, ⟨_, SqL.of f17.s⟩, for_list (K := K) (a := sD) (xs := [.ref a0, .ref a1, .ref a2, .ref a3])
          (fun j σ H' => ∃ tv o13, σ = [some (.ref a), some (.ref p), some (.int (0 + (i : Int))), some (.ref tD), some (.ref bD), some (.ref sD), q6, q7, q8, some (.ref a0), some (.ref a1), some (.ref mA), some (.ref tv), o13, o14, o15, o16] ∧ Same H17 H' ∧ At K H' tv (tot ([low t0 b0, low t1 b1, low t2 b2, low t3 b3].take j)))
          ⟨q, _, rfl, Same.refl _, hq0⟩ (fun _ σ H' _ ⟨_, _, _, s, _⟩ => SqL.of (s _ _ f17.s)) ?_ ?_⟩
        · rintro j x σ H' hx ⟨tv, o13', rfl, s18, htv⟩
          obtain ⟨az, u, rfl, hu, haz⟩ := pick hx
          have hj : j ≤ 4 := by
            have := (List.getElem?_eq_some_iff.mp hu).1
            simp only [List.length_cons, List.length_nil] at this
            omega
          obtain ⟨z1, z2⟩ := tot_sz hws j hj
          obtain ⟨y1, y2⟩ := hws u (List.mem_of_getElem? hu)
          refine ⟨_, rfl, _, rfl, tv, az, _, u, 1 + 68 * j, 67, rfl, htv, sqT_same s18 haz, by omega, by omega, z1, y1, by omega, by decide, by omega, fun r H'' s19 hr => ?_⟩
          refine ⟨r, _, rfl, s18.trans s19, ?_⟩
          rw [tot_more hu]
          exact hr
        · rintro σ H18 ⟨tv, o13', rfl, s18, htv⟩
          have f18 := f17.same s18
          have htot : At K H18 tv (tot [low t0 b0, low t1 b1, low t2 b2, low t3 b3]) := htv
          have stot : sz 300 (tot [low t0 b0, low t1 b1, low t2 b2, low t3 b3]) := sz_mono (tot_sz hws 4 (Nat.le_refl _)).1 (by decide)
          have two'' : ∀ {H'}, Same H18 H' → Two K H' a0 a0 (low t0 b0) (low t0 b0) := fun {H'} s => two' (s18.trans s)
          have wsAt : ∀ {H'}, Same H18 H' → Ws K H' [.ref a0, .ref a1, .ref a2, .ref a3] [low t0 b0, low t1 b1, low t2 b2, low t3 b3] := fun {H'} s => ⟨rfl, fun j u hu => by
            match j, hu with
            | 0, hu => exact ⟨a0, rfl, by cases hu; exact sqT_same s f18.w0⟩
            | 1, hu => exact ⟨a1, rfl, by cases hu; exact sqT_same s f18.w1⟩
            | 2, hu => exact ⟨a2, rfl, by cases hu; exact sqT_same s f18.w2⟩
            | 3, hu => exact ⟨a3, rfl, by cases hu; exact sqT_same s f18.w3⟩
            | n + 4, hu => cases hu⟩
          have dAt : ∀ {H'}, Same H18 H' → DpAll K H' [.ref a0, .ref a1, .ref a2, .ref a3] [wD (low t0 b0), wD (low t1 b1), wD (low t2 b2), wD (low t3 b3)] := fun {H'} s => .cons (at_dp (sqT_same s f18.w0)) (.cons (at_dp (sqT_same s f18.w1)) (.cons (at_dp (sqT_same s f18.w2)) (.cons (at_dp (sqT_same s f18.w3)) .nil)))
          clear f17 two' s18 htv pick hq0
          refine go_nx (go_seq ?_)
          -- summed
          obtain ⟨x1, x2, x3, x4⟩ := txt_ok stot
          refine ⟨_, rfl, .inl (.inl ⟨sD, _, _, rfl, SqL.of f18.s, dAt (Same.refl _), by show 4 ≤ 12; decide, fun z => absurd z (by rw [hall]; simp), fun _ => ⟨_, wsAt (Same.refl _), by show 4 ≤ 12; decide, hws', fun q1 H19 s19 h19 => ?_⟩⟩)⟩
          have htot19 := sqT_same s19 htot
          refine ⟨_, rfl, q1, tv, wD (tot [low t0 b0, low t1 b1, low t2 b2, low t3 b3]), rfl, at_dp h19, at_dp htot19, x1, x2, x3, x4, true, rfl, iteF ?_⟩
          refine ⟨_, rfl, sD, _, rfl, .inl ⟨SqL.of (s19 _ _ f18.s), fun tl htl => ?_⟩⟩
          have s20 := s19.trans (Pre.same_upd (o := .tup [.ref a0, .ref a1, .ref a2, .ref a3]) htl)
          refine .inl (.inr ⟨tl, _, _, rfl, SqT.of upd_same, dAt s20, by show 4 ≤ 12; decide, fun z => absurd z (by rw [hall]; simp), fun _ => ⟨_, wsAt s20, by show 4 ≤ 12; decide, hws', fun q3 H21 s21 h21 => ?_⟩⟩)
          have e21 := s20.trans s21
          refine ⟨_, rfl, q3, tv, wD (tot [low t0 b0, low t1 b1, low t2 b2, low t3 b3]), rfl, at_dp h21, at_dp (sqT_same e21 htot), x1, x2, x3, x4, true, rfl, iteF (go_on (go_seq ?_))⟩
          clear s19 s20 s21 h19 h21 htot19 x1 x2 x3 x4 htl
          -- summed([]), is_below(one, one)
          refine ⟨by show 0 ≤ sizeLine; decide, fun l0 hl0 => ?_⟩
          have s22 := Pre.same_upd (o := .lst []) hl0
          refine .inl (.inl ⟨l0, [], [], rfl, SqL.of upd_same, .nil, by decide, fun z => (by cases z), fun _ => ⟨[], ⟨rfl, fun j u hu => (by cases hu)⟩, by decide, fun u hu => (by cases hu), fun q4 H23 s23 h23 => ?_⟩⟩)
          refine ⟨by show 2 ≤ sizeLine; decide, fun q5 hq5 => ?_⟩
          have s24 := Pre.same_upd (o := .tup [.int 0, .int 1]) hq5
          refine ⟨wD (0, 1), wD (0, 1), at_dp (w := (0, 1)) (sqT_same s24 h23), at_dp (w := (0, 1)) (SqT.of upd_same), rfl, rfl, _, rfl, ?_⟩
          have e24 := e21.trans (s22.trans (s23.trans s24))
          clear e21 s22 s23 s24 h23 hl0
          refine iteF ?_
          refine ⟨_, rfl, _, rfl, .inr ⟨a0, a0, _, _, rfl, two'' e24, belowW (low t0 b0) (low t0 b0), false, rfl, rfl, _, rfl, ?_⟩⟩
          rw [below_self]
          refine iteF (go_on (go_seq ?_))
          have f25 := f18.same e24
          clear f18 e24 two'' wsAt dAt htot
          -- the things
          refine ⟨_, rfl, _, rfl, tD, _, _, _, rfl, rfl, SqL.of f25.t, rfl, _, rfl, bD, _, _, _, rfl, rfl, SqL.of f25.b, rfl, by show 2 ≤ sizeLine; decide, fun r1 hr1 => ?_⟩
          have f26 := f25.same (Pre.same_upd (o := .tup [.int t0, .int b0]) hr1)
          have d1 : SqT K (upd (upd H23 q5 (.tup [.int 0, .int 1])) r1 (.tup [.int t0, .int b0])) r1 [.int t0, .int b0] := SqT.of upd_same
          clear f25
          refine ⟨_, rfl, p, g, c, 200 * i + 176, rfl, f26.st, by omega, fun H27 y d kp27 st27 hd27 hm27 => ?_⟩
          have f27 := f26.kp kp27 st27 nt ntb nts
          have d1' := at_kx d1 f26.st (Kx.kp kp27)
          clear f26 d1 kp27 st27
          have dy : Dp K H27 y d := dp_same wo_sub hd27
          clear hd27
          refine ⟨_, rfl, tD, _, _, _, rfl, rfl, SqL.of f27.t, rfl, by show 2 ≤ sizeLine; decide, fun r3 hr3 => ?_⟩
          have z1 := Pre.same_upd (o := .tup [.int t1, .int 1]) hr3
          refine ⟨by show 2 ≤ sizeLine; decide, fun r4 hr4' => ?_⟩
          have z2 := Pre.same_upd (o := .tup [.int 0, .int 1]) hr4'
          refine ⟨_, rfl, bD, _, _, _, rfl, rfl, SqL.of ((f27.same (z1.trans z2)).b), rfl, by show 2 ≤ sizeLine; decide, fun r5 hr5 => ?_⟩
          have z3 := Pre.same_upd (o := .tup [.int 0, .int b1]) hr5
          refine ⟨by show 5 ≤ sizeLine; decide, fun l6 hl6 => ?_⟩
          have z4 := Pre.same_upd (o := .lst [.ref r1, y, .ref r3, .ref r4, .ref r5]) hl6
          have zz := z1.trans (z2.trans (z3.trans z4))
          have a3' := z4 _ _ (z3 _ _ (z2 _ _ upd_same))
          have a4' := z4 _ _ (z3 _ _ upd_same)
          have a5' := z4 _ _ upd_same
          refine ⟨sD, l6, _, _, rfl, rfl, (f27.same zz).s, upd_same, by show 9 ≤ sizeLine; decide, fun rr hrr => ?_⟩
          have z5 := Pre.same_upd (o := .lst [.ref a0, .ref a1, .ref a2, .ref a3, .ref r1, y, .ref r3, .ref r4, .ref r5]) hrr
          have f28 := f27.same (zz.trans z5)
          have hD : DpAll K (upd (upd (upd (upd (upd H27 r3 (.tup [.int t1, .int 1])) r4 (.tup [.int 0, .int 1])) r5 (.tup [.int 0, .int b1])) l6 (.lst [.ref r1, y, .ref r3, .ref r4, .ref r5])) rr (.lst [.ref a0, .ref a1, .ref a2, .ref a3, .ref r1, y, .ref r3, .ref r4, .ref r5])) [.ref a0, .ref a1, .ref a2, .ref a3, .ref r1, y, .ref r3, .ref r4, .ref r5] [wD (low t0 b0), wD (low t1 b1), wD (low t2 b2), wD (low t3 b3), wD (t0, b0), d, wD (t1, 1), wD (0, 1), wD (0, b1)] :=
            .cons (at_dp f28.w0) (.cons (at_dp f28.w1) (.cons (at_dp f28.w2) (.cons (at_dp f28.w3) (.cons (at_dp (w := (t0, b0)) (sqT_same (zz.trans z5) d1')) (.cons (dp_same (zz.trans z5) dy) (.cons (at_dp (w := (t1, 1)) (SqT.of (z5 _ _ a3'))) (.cons (at_dp (w := (0, 1)) (SqT.of (z5 _ _ a4'))) (.cons (at_dp (w := (0, b1)) (SqT.of (z5 _ _ a5'))) .nil))))))))
          have hsm : ∀ e ∈ [wD (low t0 b0), wD (low t1 b1), wD (low t2 b2), wD (low t3 b3), wD (t0, b0), d, wD (t1, 1), wD (0, 1), wD (0, b1)], smallP e := fun e he => by
            have one : (1 : Int).natAbs < 2 ^ 300 := by decide
            have zero : (0 : Int).natAbs < 2 ^ 300 := by decide
            simp only [List.mem_cons, List.not_mem_nil, or_false] at he
            rcases he with rfl | rfl | rfl | rfl | rfl | rfl | rfl | rfl | rfl
            · exact wd_small (sz_mono su (by decide))
            · exact wd_small (sz_mono sv (by decide))
            · exact wd_small (sz_mono s2 (by decide))
            · exact wd_small (sz_mono s3 (by decide))
            · exact wd_small ⟨big m.z0 (by decide), big m.y0 (by decide)⟩
            · exact bads_small _ hm27
            · exact wd_small ⟨big m.z1 (by decide), one⟩
            · exact wd_small ⟨zero, one⟩
            · exact wd_small ⟨zero, big m.y1 (by decide)⟩
          have hrr' := upd_same (H := upd (upd (upd (upd H27 r3 (.tup [.int t1, .int 1])) r4 (.tup [.int 0, .int 1])) r5 (.tup [.int 0, .int b1])) l6 (.lst [.ref r1, y, .ref r3, .ref r4, .ref r5])) (a := rr) (o := HO.lst [.ref a0, .ref a1, .ref a2, .ref a3, .ref r1, y, .ref r3, .ref r4, .ref r5])
          clear zz z1 z2 z3 z4 z5 a3' a4' a5' d1' dy f27 hrr hl6 hr5 hr4' hr3 hr1
          refine ⟨rr, rfl, ⟨_, SqL.of hrr'⟩, for_list (K := K) (a := rr) (xs := [.ref a0, .ref a1, .ref a2, .ref a3, .ref r1, y, .ref r3, .ref r4, .ref r5])
            (fun j σ H' => ∃ o14, σ = [some (.ref a), some (.ref p), some (.int (0 + (i : Int))), some (.ref tD), some (.ref bD), some (.ref sD), q6, q7, q8, some (.ref a0), some (.ref a1), some (.ref mA), some (.ref tv), o13', o14, o15, o16] ∧ Same _ H')
            ⟨_, rfl, Same.refl _⟩ (fun _ σ H' _ ⟨_, _, s⟩ => SqL.of (s _ _ hrr')) ?_ ?_⟩
          · rintro j x σ H' hx ⟨o14', rfl, s29⟩
            obtain ⟨e, hei, hex⟩ := dpAll_at hD hx
            have hse := hsm e (List.mem_of_getElem? hei)
            have hex' := dp_same s29 hex
            refine ⟨_, rfl, x, e, rfl, hex', _, rfl, x, e, rfl, hex', hse, fun H30 s30 => ?_⟩
            refine ⟨_, _, rfl, _, rfl, ?_⟩
            rw [decide_eq_true rfl]
            exact iteF ⟨_, rfl, s29.trans s30⟩
          · rintro σ H31 ⟨o14', rfl, s31⟩
            have f31 := f28.same s31
            refine go_nx ?_
            refine ⟨_, rfl, _, rfl, p, g, c, a0, low t0 b0, 200 * i + 176 + 1, rfl, f31.st, by omega, f31.w0, wu, sz_mono su (by decide), f31.tb, fun H32 _ s32 t32 => ?_⟩
            refine ⟨_, rfl, iteF ?_⟩
            exact ⟨_, _, _, _, _, _, _, _, _, _, _, _, _, _, _, rfl, st_more s32 (by omega), t32⟩
    · rintro σ H' ⟨o2, o3, o4, o5, o6, o7, o8, o9, o10, o11, o12, o13, o14, o15, o16, rfl, hs, htb⟩
      exact k H'
end
end Wt

namespace Gd
open PySem PySem.Spec PyProof.Rows L2
open LamX (TabB)
/-- the law's call, where it makes texts of things and where one def of it makes lambdas: c that def's code, P the table of it -/
theorem call_G {P0 : Program} {w : World} {K : PySem.W.Frag} {mg mb : Str → Option Value} {CX : CXT} {k : Nat} {fa a c P : Addr} {fd : FuncData} {x : Str} {sp : Sp} {sA : Shared} {us : List Value} {zs : List Int}
    (inK : K.In sA.heap) (nsG : sA.heap.Ns mainGlobals mg) (nsB : sA.heap.Ns builtinsNs mb) (bts : ∀ y : Str, y ≠ "__name__" → mb y = bootBuiltins y) (lim : sA.heap.NoLimit) (gen0 : sA.gens = #[])
    (tab0 : sA.heap.get? P = some { cls := .none, data := .fields #[] }) (offK : K.lookup P = none) (cd : PySem.W.CodeHd sA.heap c P)
    (bmod : ∃ (m : Addr) (om : Obj), mg "__builtins__" = some (.ref m) ∧ m ≠ builtinsNs ∧ sA.heap.get? m = some om ∧ om.cls = .type "module" ∧ om.dict = some builtinsNs ∧ om.data = .plain)
    (scr : sA.heap.get? a = some { cls := .type "list", data := .seq us.toArray }) (nums : IntsAre us zs) (few : zs.length ≤ sizeLine) (room : Room k callerA)
    (prom : ∀ base : Heap, K.In base → base.Ns mainGlobals mg → TabB base mg c P → FnG P0 w K mg base CX k fa fd [x] sp) (bnd : ∀ (s : Shared) (u : Value), BindsTo s fd ⟨[u], []⟩ [(x, u)])
    (wish : ∀ H : Hp, H P = some (.tbl #[]) → SqL K H a (zs.map V.int) → sp [.ref a] H (fun v _ => v = .bl true) fun _ _ _ => False)
    (noX : ∀ H e s', CX [] H sA (fun _ _ _ => False) e s' → False) :
    codeAny (model P0 w) callerA (.call (.ref fa) ⟨[.ref a], []⟩) (fun r s' => r = .ok (.ret (.bool true)) ∧ OldK sA.heap s'.heap ∧ s'.os = sA.os ∧ AllBare s'.gens) sA := by
  have rel := vals_ints nums
  have same := nums.length
  have aP : a ≠ P := fun z => by
    rw [← z, scr] at tab0
    have y : Data.seq us.toArray _ = Data.fields #[] := congrArg Obj.data (Option.some.inj tab0)
    cases y
  -- H tracks the table, and the script if it is none of the module's own things
  have go : ∀ H : Hp, H P = some (.tbl #[]) → (∀ b, b ≠ P → b ≠ a → H b = none) → (H a = none ∨ ∃ o ys, H a = some (.frz o (.lst ys))) → (H a ≠ none → K.lookup a = none) → SqL K H a (zs.map V.int) → HOk P0 w H sA.heap →
      codeAny (model P0 w) callerA (.call (.ref fa) ⟨[.ref a], []⟩) (fun r s' => r = .ok (.ret (.bool true)) ∧ OldK sA.heap s'.heap ∧ s'.os = sA.os ∧ AllBare s'.gens) sA := by
    intro H tP rest atA atK sq ok
    have keep : ∀ {b : Addr} {o : Obj}, sA.heap.get? b = some o → H b = none → (hidT sA.heap H).get? b = some o := fun e n => hidT_get e n
    -- what is no list and no empty table is not tracked
    have off : ∀ {b : Addr} {o : Obj}, sA.heap.get? b = some o → (∀ ys n, o.data ≠ .seq ys n) → o.data ≠ .fields #[] → H b = none := fun {b o} e h1 h2 => by
      by_cases h3 : b = P
      · rw [h3, tab0] at e
        cases e
        exact absurd rfl h2
      · by_cases h4 : b = a
        · rw [h4, scr] at e
          cases e
          exact absurd rfl (h1 _ _)
        · exact rest b h3 h4
    have offD : ∀ {b : Addr} {o : Obj} {es : Array DictEntry} {ep : Nat}, sA.heap.get? b = some o → o.data = .dict es ep → H b = none := fun {b o es ep} e d => off e (fun ys n z => by
      rw [d] at z
      cases z) (fun z => by
      rw [d] at z
      cases z)
    have nsOf : ∀ {b : Addr} {m : Str → Option Value}, sA.heap.Ns b m → (hidT sA.heap H).Ns b m := fun {b m} ⟨o, es, ep, e, d, r⟩ => ⟨o, es, ep, keep e (offD e d), d, r⟩
    have inB : K.In (hidT sA.heap H) := fun b o e => keep (inK b o e) (by
      by_cases h3 : b = P
      · rw [h3, offK] at e
        cases e
      · by_cases h4 : b = a
        · cases q : H a with
          | none => rw [h4, q]
          | some u =>
            rw [h4, atK (by rw [q]; simp)] at e
            cases e
        · exact rest b h3 h4)
    have modB : L2.Mod K mg (hidT sA.heap H) := ⟨inB, nsOf nsG, ⟨mb, nsOf nsB, bts⟩, let ⟨mc, h1, h2⟩ := lim; ⟨mc, nsOf h1, h2⟩⟩
    have TB : TabB (hidT sA.heap H) mg c P := by
      refine ⟨?_, ?_, fun z => ?_⟩
      · obtain ⟨o, fv, file, tf, flags, tg, inF, text, tt, k1, k2, k3, k4, k5, k6, k7, k8, k9, k10⟩ := cd
        refine ⟨o, fv, file, tf, flags, tg, inF, text, tt, keep k1 (off k1 (fun ys n z => ?_) fun z => ?_), k2, k3, k4, k5, k6, k7, k8, k9, k10⟩
        · rw [k3] at z
          cases z
        · rw [k3] at z
          cases z
          simp at k4
      · obtain ⟨m, om, k1, k2, k3, k4, k5, k6⟩ := bmod
        have n1 : m ≠ mainGlobals := fun z => by
          obtain ⟨o, es, ep, e, d, _⟩ := nsG
          rw [z, e] at k3
          cases k3
          rw [d] at k6
          cases k6
        have n2 : m ≠ P := fun z => by
          rw [z, tab0] at k3
          cases k3
          cases k6
        exact ⟨m, om, k1, k2, n1, n2, keep k3 (off k3 (fun ys n z => by rw [k6] at z; cases z) fun z => by rw [k6] at z; cases z), k4, k5, k6⟩
      · obtain ⟨o, es, ep, e, d, _⟩ := nsG
        rw [z, tab0] at e
        cases e
        cases d
    have e0 : Env0 P0 w K mg (hidT sA.heap H) callerA [] sA H := ⟨rfl, modB, fun b o e => of_hidT e, Nat.le_of_eq (hidT_size _ _), trivial, fun b hb => (by cases hb), ok, .of_eq gen0⟩
    refine codeAny_mono ((prom _ inB (nsOf nsG) TB).goes callerA [] sA H ⟨[.ref a], []⟩ [.ref a] [.ref a] _ _ room rfl e0 (bnd sA (.ref a)) (.cons rfl .nil) (wish H tP sq)) fun r s' out => ?_
    cases r with
    | error e => exact (noX H e s' out).elim
    | ok fl =>
      cases fl with
      | next => exact out.elim
      | brk => exact out.elim
      | cont => exact out.elim
      | ret u =>
        obtain ⟨v, H', os, bare, un, ok', rv, told⟩ := out
        obtain rfl : v = .bl true := told
        obtain rfl : u = Value.bool true := rv
        have stays : ∀ b o, b ≠ P → sA.heap.get? b = some o → s'.heap.get? b = some o := fun b o nb e => by
          cases q : H b with
          | none => exact un.keep b o e q (fun z => by cases z) (by simp)
          | some u =>
            by_cases h4 : b = a
            · rcases atA with z | ⟨o', ys, z⟩
              · rw [← h4, q] at z
                cases z
              · rw [← h4] at z
                obtain ⟨k1, _⟩ := ok b _ z
                obtain ⟨k2, _⟩ := ok' b _ (un.frzs b o' _ z)
                rw [e] at k1
                cases k1
                exact k2
            · rw [rest b nb h4] at q
              cases q
        have grown : ∃ more : Array Value, s'.heap.get? P = some { cls := .none, data := .fields more } := by
          obtain ⟨more, z⟩ := un.tbls P #[] tP
          exact ⟨_, ok' P _ z⟩
        refine ⟨rfl, ⟨fun b o e => ?_, fun b o e => ?_⟩, os, bare⟩
        · by_cases nb : b = P
          · obtain ⟨more, hm⟩ := grown
            subst nb
            rw [tab0] at e
            cases e
            exact .inr (.inl ⟨(cd.tab tab0).isCodeTable, rfl, #[], more, rfl, by rw [Array.empty_append]; exact hm⟩)
          · exact .inl (stays b o nb e)
        · by_cases nb : b = P
          · obtain ⟨more, hm⟩ := grown
            subst nb
            exact ⟨_, hm⟩
          · exact ⟨o, stays b o nb e⟩
  cases hk : K.lookup a with
  | some o =>
    have e := inK a o hk
    rw [scr] at e
    cases e
    refine go (fun b => if b = P then some (.tbl #[]) else none) (if_pos rfl) (fun b h1 _ => if_neg h1) (.inl (if_neg aP)) (fun z => absurd (if_neg aP) z) (.inr ⟨_, us.toArray, _, hk, rfl, rfl, rfl, by rw [List.size_toArray, same]; exact few, by simpa using rel⟩) fun b u z => ?_
    by_cases nb : b = P
    · have y := (if_pos nb).symm.trans z
      cases y
      subst nb
      exact tab0
    · have y := (if_neg nb).symm.trans z
      cases y
  | none =>
    refine go (fun b => if b = P then some (.tbl #[]) else if b = a then some (.frz { cls := .type "list", data := .seq us.toArray } (.lst (zs.map V.int))) else none) (if_pos rfl) (fun b h1 h2 => (if_neg h1).trans (if_neg h2)) (.inr ⟨_, _, (if_neg aP).trans (if_pos rfl)⟩) (fun _ => hk)
      (.inl (.inr ⟨{ cls := .type "list", data := .seq us.toArray }, (if_neg aP).trans (if_pos rfl)⟩)) fun b u z => ?_
    by_cases nb : b = P
    · have y := (if_pos nb).symm.trans z
      cases y
      subst nb
      exact tab0
    · have z1 := (if_neg nb).symm.trans z
      by_cases hb : b = a
      · have y := (if_pos hb).symm.trans z1
        cases y
        subst hb
        exact ⟨scr, by rw [List.length_map]; exact few, us, _, rel, scr⟩
      · have y := (if_neg hb).symm.trans z1
        cases y
/-- the end of such a row: xl the def with the lambdas -/
theorem walk_G {l : PySem.W.OpenLaw} {k : Nat} {q : Program} {loose : List Str} {XP : (Str → Option Value) → Heap → Prop} {YP : World → Heap → Prop} {d dl : DefRec} {K : Params → PySem.W.Frag} {x xl : Str} {sp : PySem.W.Frag → Addr → Sp}
    (hn : l.most = some 63) (hdf : d.params.defaults = []) (room : Room k callerA) (inY : ∀ (w : World) (h : Heap), YP w h → (K w.params).In h) (hrec : (recsOf q).find? (fun e => e.name == xl) = some dl)
    (wish : ∀ (K : PySem.W.Frag) (P : Addr) (H : Hp) (a : Addr) (zs : List Int), zs.length ≤ 63 → H P = some (.tbl #[]) → SqL K H a (zs.map V.int) → sp K P [.ref a] H (fun v _ => v = .bl true) fun _ _ _ => False)
    (F : ∀ (w : World) (mg : Str → Option Value) (fa : Addr) (h : Heap), (K w.params).In h → h.Ns mainGlobals mg → mg d.name = some (.ref fa) →
      ∃ (fd : FuncData) (c P : Addr), PySem.W.tabIn (K w.params) xl = some (c, P) ∧ PySem.W.noTabs (K w.params) = true ∧ (∀ (s : Shared) (u : Value), BindsTo s fd ⟨[u], []⟩ [(x, u)]) ∧
        ∀ base : Heap, (K w.params).In base → base.Ns mainGlobals mg → TabB base mg c P → FnG l.prog w (K w.params) mg base CX0 k fa fd [x] (sp (K w.params) P)) :
    PySem.W.WalkO q loose XP YP l.row.toRowW d [] (fun f vs => PySem.call f vs) := by
  refine Att.attach_callB hn hdf fun w s₀ sA mg mb fa o pm cd doc a us zs G Y ho hd hcd hmg scr nums few bits gen0 => ?_
  have inK := inY w _ Y
  obtain ⟨fd, c, P, tI, noT, bnd, prom⟩ := F w mg fa _ inK G.T.g hmg
  obtain ⟨hcode, tab0⟩ := PySem.W.tab_of G.T inK hrec tI
  have offK : (K w.params).lookup P = none := by
    cases hk : (K w.params).lookup P with
    | none => rfl
    | some ob =>
      have y := List.all_eq_true.mp noT (P, ob) (PySem.W.mem_of_lookupK hk)
      have z := (inK P ob hk).symm.trans tab0
      cases z
      exact absurd (show false = true from y) Bool.false_ne_true
  exact call_G inK G.T.g G.T.b G.T.builtins G.T.nolimit gen0 tab0 offK hcode G.T.bmain scr nums (Nat.le_trans few (by decide)) room prom bnd (fun H hH hS => wish _ P H a zs few hH hS) fun _ _ _ z => z
end Gd

namespace Wt
open PySem PySem.Spec PyProof.Rows L2
open Dc Us Xt
open LamX (TabB)
theorem tab_in {K : PySem.W.Frag} {x q : Str} {f c P : Addr} {oc kV dc pm ct ec : Value} {od an ed : Option Addr} {sl esl : Array (Option Value)} {ps : Arguments} {bd : List Stmt} {sc : Scope} {ev : Array Value} (h1 : PySem.W.nsIn K mainGlobals x = some (some (.ref f)))
    (h2 : K.lookup f = some ⟨oc, od, .func (PySem.W.fnOf x q ps bd sc .none kV dc pm an (.ref c) ct), sl⟩) (h3 : K.lookup c = some ⟨ec, ed, .fields ev, esl⟩) (h4 : ev[11]? = some (.ref P)) : PySem.W.tabIn K x = some (c, P) := by
  unfold PySem.W.tabIn
  rw [h1]
  show (match K.lookup f with
    | some ⟨_, _, .func fd, _⟩ => (match fd.code with
      | .ref c => (match K.lookup c with
        | some ⟨_, _, .fields vs, _⟩ => (match (vs[11]? : Option Value) with
          | some (.ref P) => some (c, P)
          | _ => none)
        | _ => none)
      | _ => none)
    | _ => none) = some (c, P)
  rw [h2]
  show (match K.lookup c with
        | some ⟨_, _, .fields vs, _⟩ => (match (vs[11]? : Option Value) with
          | some (.ref P) => some (c, P)
          | _ => none)
        | _ => none) = some (c, P)
  rw [h3]
  show (match (ev[11]? : Option Value) with
          | some (.ref P) => some (c, P)
          | _ => none) = some (c, P)
  rw [h4]
theorem all_mk {l : PySem.W.OpenLaw} {w : World} {K : PySem.W.Frag} {h : Heap} {mg : Str → Option Value} {fa fa1 fa2 fa3 fa4 fa5 fa0 fa6 fa7 fa8 fa9 fb1 fb2 fb3 fb4 fb5 fb6 fb7 fA fB fD fP fC fT fS fL fPl fTi fWh fIw fN fX fR fW : Addr} (X : K.In h) (G : h.Ns mainGlobals mg) (hfa : mg "law" = some (.ref fa))
    {oca kVa dca pma cda cta : Value} {oda ana : Option Addr} {sla : Array (Option Value)}
    {ocb kVb dcb pmb cdb ctb : Value} {odb anb : Option Addr} {slb : Array (Option Value)}
    {occ kVc dcc pmc cdc ctc : Value} {odc anc : Option Addr} {slc : Array (Option Value)}
    {ocd kVd dcd pmd cdd ctd : Value} {odd and : Option Addr} {sld : Array (Option Value)}
    {oce kVe dce pme cde cte : Value} {ode ane : Option Addr} {sle : Array (Option Value)}
    {ocSb kVSb dcSb pmSb cdSb ctSb : Value} {odSb anSb : Option Addr} {slSb : Array (Option Value)}
    {ocf kVf dcf pmf cdf ctf : Value} {odf anf : Option Addr} {slf : Array (Option Value)}
    {ocg kVg dcg pmg cdg ctg : Value} {odg ang : Option Addr} {slg : Array (Option Value)}
    {och kVh dch pmh cdh cth : Value} {odh anh : Option Addr} {slh : Array (Option Value)}
    {oci kVi dci pmi cdi cti : Value} {odi ani : Option Addr} {sli : Array (Option Value)}
    {ocj kVj dcj pmj cdj ctj : Value} {odj anj : Option Addr} {slj : Array (Option Value)}
    {ock kVk dck pmk cdk ctk : Value} {odk ank : Option Addr} {slk : Array (Option Value)}
    {ocl kVl dcl pml cdl ctl : Value} {odl anl : Option Addr} {sll : Array (Option Value)}
    {ocm kVm dcm pmm cdm ctm : Value} {odm anm : Option Addr} {slm : Array (Option Value)}
    {ocn kVn dcn pmn cdn ctn : Value} {odn ann : Option Addr} {sln : Array (Option Value)}
    {oco kVo dco pmo cdo cto : Value} {odo ano : Option Addr} {slo : Array (Option Value)}
    {ocp kVp dcp pmp cdp ctp : Value} {odp anp : Option Addr} {slp : Array (Option Value)}
    {ocA kVA dcA pmA cdA ctA : Value} {odA anA : Option Addr} {slA : Array (Option Value)}
    {ocB kVB dcB pmB cdB ctB : Value} {odB anB : Option Addr} {slB : Array (Option Value)}
    {ocD kVD dcD pmD cdD ctD : Value} {odD anD : Option Addr} {slD : Array (Option Value)}
    {ocP kVP dcP pmP cdP ctP : Value} {odP anP : Option Addr} {slP : Array (Option Value)}
    {ocC kVC dcC pmC cdC ctC : Value} {odC anC : Option Addr} {slC : Array (Option Value)}
    {ocTr kVTr dcTr pmTr cdTr ctTr : Value} {odTr anTr : Option Addr} {slTr : Array (Option Value)}
    {ocS kVS dcS pmS cdS ctS : Value} {odS anS : Option Addr} {slS : Array (Option Value)}
    {ocL kVL dcL pmL cdL ctL : Value} {odL anL : Option Addr} {slL : Array (Option Value)}
    {ocPl kVPl dcPl pmPl cdPl ctPl : Value} {odPl anPl : Option Addr} {slPl : Array (Option Value)}
    {ocTi kVTi dcTi pmTi cdTi ctTi : Value} {odTi anTi : Option Addr} {slTi : Array (Option Value)}
    {ocWh kVWh dcWh pmWh cdWh ctWh : Value} {odWh anWh : Option Addr} {slWh : Array (Option Value)}
    {ocIw kVIw dcIw pmIw cdIw ctIw : Value} {odIw anIw : Option Addr} {slIw : Array (Option Value)}
    {ocN kVN dcN pmN cdN ctN : Value} {odN anN : Option Addr} {slN : Array (Option Value)}
    {ocX kVX dcX pmX cdX ctX : Value} {odX anX : Option Addr} {slX : Array (Option Value)}
    {ocR kVR dcR pmR ctR : Value} {odR anR : Option Addr} {slR : Array (Option Value)}
    {ocW kVW dcW pmW cdW ctW : Value} {odW anW : Option Addr} {slW : Array (Option Value)}
    {oYY ec : Value} {dD2 dz ed : Option Addr} {mYY mz : Nat} {slYY slz esl : Array (Option Value)} {tD2 tz1 tz2 : Tok} {aD az cR PR CS CW CN : Addr} {ev : Array Value}
    (na : PySem.W.nsIn K mainGlobals "is_whole" = some (some (.ref fa1)))
    (nb : PySem.W.nsIn K mainGlobals "is_list" = some (some (.ref fa2)))
    (nc : PySem.W.nsIn K mainGlobals "is_tuple_of" = some (some (.ref fa3)))
    (nd : PySem.W.nsIn K mainGlobals "is_weight" = some (some (.ref fa4)))
    (ne : PySem.W.nsIn K mainGlobals "shortened" = some (some (.ref fa5)))
    (nSb : PySem.W.nsIn K mainGlobals "subtracted" = some (some (.ref fa0)))
    (nf : PySem.W.nsIn K mainGlobals "added" = some (some (.ref fa6)))
    (ng : PySem.W.nsIn K mainGlobals "multiplied" = some (some (.ref fa7)))
    (nh : PySem.W.nsIn K mainGlobals "lies_below" = some (some (.ref fa8)))
    (ni : PySem.W.nsIn K mainGlobals "total" = some (some (.ref fa9)))
    (nj : PySem.W.nsIn K mainGlobals "weight" = some (some (.ref fb1)))
    (nk : PySem.W.nsIn K mainGlobals "_check_both" = some (some (.ref fb2)))
    (nl : PySem.W.nsIn K mainGlobals "plus" = some (some (.ref fb3)))
    (nm : PySem.W.nsIn K mainGlobals "times" = some (some (.ref fb4)))
    (nn : PySem.W.nsIn K mainGlobals "less" = some (some (.ref fb5)))
    (no : PySem.W.nsIn K mainGlobals "is_below" = some (some (.ref fb6)))
    (np : PySem.W.nsIn K mainGlobals "summed" = some (some (.ref fb7)))
    (nA : PySem.W.nsIn K mainGlobals "_law_begun" = some (some (.ref fA)))
    (nB : PySem.W.nsIn K mainGlobals "_law_blended" = some (some (.ref fB)))
    (nD : PySem.W.nsIn K mainGlobals "_law_draw" = some (some (.ref fD)))
    (nP : PySem.W.nsIn K mainGlobals "_law_pick" = some (some (.ref fP)))
    (nC : PySem.W.nsIn K mainGlobals "_law_caught" = some (some (.ref fC)))
    (nTr : PySem.W.nsIn K mainGlobals "_law_is_truth" = some (some (.ref fT)))
    (nS : PySem.W.nsIn K mainGlobals "_law_cp_same" = some (some (.ref fS)))
    (nL : PySem.W.nsIn K mainGlobals "_law_cp_lowest" = some (some (.ref fL)))
    (nPl : PySem.W.nsIn K mainGlobals "_law_cp_plus" = some (some (.ref fPl)))
    (nTi : PySem.W.nsIn K mainGlobals "_law_cp_times" = some (some (.ref fTi)))
    (nWh : PySem.W.nsIn K mainGlobals "_law_cp_whole" = some (some (.ref fWh)))
    (nIw : PySem.W.nsIn K mainGlobals "_law_cp_is_weight" = some (some (.ref fIw)))
    (nN : PySem.W.nsIn K mainGlobals "_law_number" = some (some (.ref fN)))
    (nX : PySem.W.nsIn K mainGlobals "_law_bad" = some (some (.ref fX)))
    (nR : PySem.W.nsIn K mainGlobals "_law_refused" = some (some (.ref fR)))
    (nW : PySem.W.nsIn K mainGlobals "law" = some (some (.ref fW)))
    (la : K.lookup fa1 = some ⟨oca, oda, .func (PySem.W.fnOf "is_whole" "is_whole" (defArgs sIsWhole) (defBody sIsWhole) (defScope sIsWhole) .none kVa dca pma ana cda cta), sla⟩)
    (cca : PySem.W.codeIn K cda "is_whole" = true)
    (kka : PySem.W.keepIn K (.ref fa1) = true)
    (lb : K.lookup fa2 = some ⟨ocb, odb, .func (PySem.W.fnOf "is_list" "is_list" (defArgs sIsList) (defBody sIsList) (defScope sIsList) .none kVb dcb pmb anb cdb ctb), slb⟩)
    (ccb : PySem.W.codeIn K cdb "is_list" = true)
    (kkb : PySem.W.keepIn K (.ref fa2) = true)
    (lc : K.lookup fa3 = some ⟨occ, odc, .func (PySem.W.fnOf "is_tuple_of" "is_tuple_of" (defArgs sIsTup) (defBody sIsTup) (defScope sIsTup) .none kVc dcc pmc anc cdc ctc), slc⟩)
    (ccc : PySem.W.codeIn K cdc "is_tuple_of" = true)
    (kkc : PySem.W.keepIn K (.ref fa3) = true)
    (ld : K.lookup fa4 = some ⟨ocd, odd, .func (PySem.W.fnOf "is_weight" "is_weight" (defArgs sIsWt) (defBody sIsWt) (defScope sIsWt) .none kVd dcd pmd and cdd ctd), sld⟩)
    (ccd : PySem.W.codeIn K cdd "is_weight" = true)
    (kkd : PySem.W.keepIn K (.ref fa4) = true)
    (le : K.lookup fa5 = some ⟨oce, ode, .func (PySem.W.fnOf "shortened" "shortened" (defArgs sShort) (defBody sShort) (defScope sShort) .none kVe dce pme ane cde cte), sle⟩)
    (cce : PySem.W.codeIn K cde "shortened" = true)
    (kke : PySem.W.keepIn K (.ref fa5) = true)
    (lSb : K.lookup fa0 = some ⟨ocSb, odSb, .func (PySem.W.fnOf "subtracted" "subtracted" (defArgs sSubt) (defBody sSubt) (defScope sSubt) .none kVSb dcSb pmSb anSb cdSb ctSb), slSb⟩)
    (ccSb : PySem.W.codeIn K cdSb "subtracted" = true)
    (kkSb : PySem.W.keepIn K (.ref fa0) = true)
    (lf : K.lookup fa6 = some ⟨ocf, odf, .func (PySem.W.fnOf "added" "added" (defArgs sAdded) (defBody sAdded) (defScope sAdded) .none kVf dcf pmf anf cdf ctf), slf⟩)
    (ccf : PySem.W.codeIn K cdf "added" = true)
    (kkf : PySem.W.keepIn K (.ref fa6) = true)
    (lg : K.lookup fa7 = some ⟨ocg, odg, .func (PySem.W.fnOf "multiplied" "multiplied" (defArgs sMul) (defBody sMul) (defScope sMul) .none kVg dcg pmg ang cdg ctg), slg⟩)
    (ccg : PySem.W.codeIn K cdg "multiplied" = true)
    (kkg : PySem.W.keepIn K (.ref fa7) = true)
    (lh : K.lookup fa8 = some ⟨och, odh, .func (PySem.W.fnOf "lies_below" "lies_below" (defArgs sBelow) (defBody sBelow) (defScope sBelow) .none kVh dch pmh anh cdh cth), slh⟩)
    (cch : PySem.W.codeIn K cdh "lies_below" = true)
    (kkh : PySem.W.keepIn K (.ref fa8) = true)
    (li : K.lookup fa9 = some ⟨oci, odi, .func (PySem.W.fnOf "total" "total" (defArgs sTotal) (defBody sTotal) (defScope sTotal) .none kVi dci pmi ani cdi cti), sli⟩)
    (cci : PySem.W.codeIn K cdi "total" = true)
    (kki : PySem.W.keepIn K (.ref fa9) = true)
    (lj : K.lookup fb1 = some ⟨ocj, odj, .func (PySem.W.fnOf "weight" "weight" (defArgs sWeight) (defBody sWeight) (defScope sWeight) (.ref aD) kVj dcj pmj anj cdj ctj), slj⟩)
    (ccj : PySem.W.codeIn K cdj "weight" = true)
    (kkj : PySem.W.keepIn K (.ref fb1) = true)
    (lk : K.lookup fb2 = some ⟨ock, odk, .func (PySem.W.fnOf "_check_both" "_check_both" (defArgs sCheck) (defBody sCheck) (defScope sCheck) .none kVk dck pmk ank cdk ctk), slk⟩)
    (cck : PySem.W.codeIn K cdk "_check_both" = true)
    (kkk : PySem.W.keepIn K (.ref fb2) = true)
    (ll : K.lookup fb3 = some ⟨ocl, odl, .func (PySem.W.fnOf "plus" "plus" (defArgs sPlus) (defBody sPlus) (defScope sPlus) .none kVl dcl pml anl cdl ctl), sll⟩)
    (ccl : PySem.W.codeIn K cdl "plus" = true)
    (kkl : PySem.W.keepIn K (.ref fb3) = true)
    (lm : K.lookup fb4 = some ⟨ocm, odm, .func (PySem.W.fnOf "times" "times" (defArgs sTimes) (defBody sTimes) (defScope sTimes) .none kVm dcm pmm anm cdm ctm), slm⟩)
    (ccm : PySem.W.codeIn K cdm "times" = true)
    (kkm : PySem.W.keepIn K (.ref fb4) = true)
    (ln : K.lookup fb5 = some ⟨ocn, odn, .func (PySem.W.fnOf "less" "less" (defArgs sLess) (defBody sLess) (defScope sLess) .none kVn dcn pmn ann cdn ctn), sln⟩)
    (ccn : PySem.W.codeIn K cdn "less" = true)
    (kkn : PySem.W.keepIn K (.ref fb5) = true)
    (lo : K.lookup fb6 = some ⟨oco, odo, .func (PySem.W.fnOf "is_below" "is_below" (defArgs sIsBelow) (defBody sIsBelow) (defScope sIsBelow) .none kVo dco pmo ano cdo cto), slo⟩)
    (cco : PySem.W.codeIn K cdo "is_below" = true)
    (kko : PySem.W.keepIn K (.ref fb6) = true)
    (lp : K.lookup fb7 = some ⟨ocp, odp, .func (PySem.W.fnOf "summed" "summed" (defArgs sSummed) (defBody sSummed) (defScope sSummed) .none kVp dcp pmp anp cdp ctp), slp⟩)
    (ccp : PySem.W.codeIn K cdp "summed" = true)
    (kkp : PySem.W.keepIn K (.ref fb7) = true)
    (lA : K.lookup fA = some ⟨ocA, odA, .func (PySem.W.fnOf "_law_begun" "_law_begun" (defArgs Pre.sBegun) (defBody Pre.sBegun) (defScope Pre.sBegun) .none kVA dcA pmA anA cdA ctA), slA⟩)
    (ccA : PySem.W.codeIn K cdA "_law_begun" = true)
    (kkA : PySem.W.keepIn K (.ref fA) = true)
    (lB : K.lookup fB = some ⟨ocB, odB, .func (PySem.W.fnOf "_law_blended" "_law_blended" (defArgs Pre.sBlended) (defBody Pre.sBlended) (defScope Pre.sBlended) .none kVB dcB pmB anB cdB ctB), slB⟩)
    (ccB : PySem.W.codeIn K cdB "_law_blended" = true)
    (kkB : PySem.W.keepIn K (.ref fB) = true)
    (lD : K.lookup fD = some ⟨ocD, odD, .func (PySem.W.fnOf "_law_draw" "_law_draw" (defArgs Pre.sDraw) (defBody Pre.sDraw) (defScope Pre.sDraw) .none kVD dcD pmD anD cdD ctD), slD⟩)
    (ccD : PySem.W.codeIn K cdD "_law_draw" = true)
    (kkD : PySem.W.keepIn K (.ref fD) = true)
    (lP : K.lookup fP = some ⟨ocP, odP, .func (PySem.W.fnOf "_law_pick" "_law_pick" (defArgs Pre.sPick) (defBody Pre.sPick) (defScope Pre.sPick) .none kVP dcP pmP anP cdP ctP), slP⟩)
    (ccP : PySem.W.codeIn K cdP "_law_pick" = true)
    (kkP : PySem.W.keepIn K (.ref fP) = true)
    (lC : K.lookup fC = some ⟨ocC, odC, .func (PySem.W.fnOf "_law_caught" "_law_caught" (defArgs Lm.sCaught) (defBody Lm.sCaught) (defScope Lm.sCaught) .none kVC dcC pmC anC cdC ctC), slC⟩)
    (ccC : PySem.W.codeIn K cdC "_law_caught" = true)
    (kkC : PySem.W.keepIn K (.ref fC) = true)
    (lTr : K.lookup fT = some ⟨ocTr, odTr, .func (PySem.W.fnOf "_law_is_truth" "_law_is_truth" (defArgs sTruth) (defBody sTruth) (defScope sTruth) .none kVTr dcTr pmTr anTr cdTr ctTr), slTr⟩)
    (ccTr : PySem.W.codeIn K cdTr "_law_is_truth" = true)
    (kkTr : PySem.W.keepIn K (.ref fT) = true)
    (lS : K.lookup fS = some ⟨ocS, odS, .func (PySem.W.fnOf "_law_cp_same" "_law_cp_same" (defArgs sSame) (defBody sSame) (defScope sSame) .none kVS dcS pmS anS cdS ctS), slS⟩)
    (ccS : PySem.W.codeIn K cdS "_law_cp_same" = true)
    (kkS : PySem.W.keepIn K (.ref fS) = true)
    (lL : K.lookup fL = some ⟨ocL, odL, .func (PySem.W.fnOf "_law_cp_lowest" "_law_cp_lowest" (defArgs sLowest) (defBody sLowest) (defScope sLowest) .none kVL dcL pmL anL cdL ctL), slL⟩)
    (ccL : PySem.W.codeIn K cdL "_law_cp_lowest" = true)
    (kkL : PySem.W.keepIn K (.ref fL) = true)
    (lPl : K.lookup fPl = some ⟨ocPl, odPl, .func (PySem.W.fnOf "_law_cp_plus" "_law_cp_plus" (defArgs sCpPlus) (defBody sCpPlus) (defScope sCpPlus) .none kVPl dcPl pmPl anPl cdPl ctPl), slPl⟩)
    (ccPl : PySem.W.codeIn K cdPl "_law_cp_plus" = true)
    (kkPl : PySem.W.keepIn K (.ref fPl) = true)
    (lTi : K.lookup fTi = some ⟨ocTi, odTi, .func (PySem.W.fnOf "_law_cp_times" "_law_cp_times" (defArgs sCpTimes) (defBody sCpTimes) (defScope sCpTimes) .none kVTi dcTi pmTi anTi cdTi ctTi), slTi⟩)
    (ccTi : PySem.W.codeIn K cdTi "_law_cp_times" = true)
    (kkTi : PySem.W.keepIn K (.ref fTi) = true)
    (lWh : K.lookup fWh = some ⟨ocWh, odWh, .func (PySem.W.fnOf "_law_cp_whole" "_law_cp_whole" (defArgs sCpWhole) (defBody sCpWhole) (defScope sCpWhole) .none kVWh dcWh pmWh anWh cdWh ctWh), slWh⟩)
    (ccWh : PySem.W.codeIn K cdWh "_law_cp_whole" = true)
    (kkWh : PySem.W.keepIn K (.ref fWh) = true)
    (lIw : K.lookup fIw = some ⟨ocIw, odIw, .func (PySem.W.fnOf "_law_cp_is_weight" "_law_cp_is_weight" (defArgs sCpIsW) (defBody sCpIsW) (defScope sCpIsW) .none kVIw dcIw pmIw anIw cdIw ctIw), slIw⟩)
    (ccIw : PySem.W.codeIn K cdIw "_law_cp_is_weight" = true)
    (kkIw : PySem.W.keepIn K (.ref fIw) = true)
    (lN : K.lookup fN = some ⟨ocN, odN, .func (PySem.W.fnOf "_law_number" "_law_number" (defArgs sNumber) (defBody sNumber) (defScope sNumber) .none kVN dcN pmN anN cdN ctN), slN⟩)
    (ccN : PySem.W.codeIn K cdN "_law_number" = true)
    (kkN : PySem.W.keepIn K (.ref fN) = true)
    (lX : K.lookup fX = some ⟨ocX, odX, .func (PySem.W.fnOf "_law_bad" "_law_bad" (defArgs sBad) (defBody sBad) (defScope sBad) .none kVX dcX pmX anX cdX ctX), slX⟩)
    (ccX : PySem.W.codeIn K cdX "_law_bad" = true)
    (kkX : PySem.W.keepIn K (.ref fX) = true)
    (lR : K.lookup fR = some ⟨ocR, odR, .func (PySem.W.fnOf "_law_refused" "_law_refused" (defArgs sRefused) (defBody sRefused) (defScope sRefused) .none kVR dcR pmR anR (.ref cR) ctR), slR⟩)
    (ccR : PySem.W.codeIn K (.ref cR) "_law_refused" = true)
    (kkR : PySem.W.keepIn K (.ref fR) = true)
    (lW : K.lookup fW = some ⟨ocW, odW, .func (PySem.W.fnOf "law" "law" (defArgs sLaw) (defBody sLaw) (defScope sLaw) .none kVW dcW pmW anW cdW ctW), slW⟩)
    (ccW : PySem.W.codeIn K cdW "law" = true)
    (kkW : PySem.W.keepIn K (.ref fW) = true)
    (ldf : K.lookup aD = some ⟨oYY, dD2, .seq #[.int 1 tD2] mYY, slYY⟩)
    (nz : PySem.W.nsIn K mainGlobals "NOTHING" = some (some (.ref az)))
    (lz : K.lookup az = some ⟨.type "tuple", dz, .seq #[.int 0 tz1, .int 1 tz2] mz, slz⟩)
    (ngcd : PySem.W.nsIn K mainGlobals "gcd" = some (some (.builtin "math.gcd")))
    (nCS : PySem.W.nsIn K mainGlobals "ChanceError" = some (some (.ref CS)))
    (nCW : PySem.W.nsIn K mainGlobals "BadWeight" = some (some (.ref CW)))
    (nCN : PySem.W.nsIn K mainGlobals "BadNumber" = some (some (.ref CN)))
    (qCW : PySem.W.excIn K CW veT "ValueError.__new__" = true)
    (kpCW : PySem.W.keepIn K (.ref CW) = true)
    (sbCW : PySem.W.subIn K (.ref CW) (.type "BaseException") = some true)
    (tyCW : PySem.W.typeIn K (.ref CW) = some (.type "type"))
    (clCW : PySem.W.isClsIn K CW = true)
    (gaCW : PySem.W.findIn K (.ref CW) "__getattribute__" = some (some (.builtin "BaseException.__getattribute__")))
    (gtCW : PySem.W.findIn K (.ref CW) "__getattr__" = some none)
    (caCW : PySem.W.findIn K (.ref CW) "__class__" = some (some (.builtin "object.__class__")))
    (moCW : PySem.W.mroIn K CW (.type "object") = some true)
    (kiCW : PySem.W.kitOne K (.ref CW) (.ref CW) = some true)
    (suCW : PySem.W.subIn K (.ref CW) (.ref CS) = some true)
    (qCN : PySem.W.excIn K CN veT "ValueError.__new__" = true)
    (kpCN : PySem.W.keepIn K (.ref CN) = true)
    (sbCN : PySem.W.subIn K (.ref CN) (.type "BaseException") = some true)
    (tyCN : PySem.W.typeIn K (.ref CN) = some (.type "type"))
    (clCN : PySem.W.isClsIn K CN = true)
    (gaCN : PySem.W.findIn K (.ref CN) "__getattribute__" = some (some (.builtin "BaseException.__getattribute__")))
    (gtCN : PySem.W.findIn K (.ref CN) "__getattr__" = some none)
    (caCN : PySem.W.findIn K (.ref CN) "__class__" = some (some (.builtin "object.__class__")))
    (moCN : PySem.W.mroIn K CN (.type "object") = some true)
    (kiCN : PySem.W.kitOne K (.ref CN) (.ref CN) = some true)
    (suCN : PySem.W.subIn K (.ref CN) (.ref CS) = some true)
    (sbS : PySem.W.subIn K (.ref CS) (.type "BaseException") = some true)
    (hdS : PySem.W.hasDictIn K CS = true)
    (tyS : PySem.W.typeIn K (.ref CS) = some (.type "type"))
    (zh : PySem.W.specialIn K (.builtin "object.__class__") "__get__" = some (some (.builtin "getset_descriptor.__get__")))
    (zt : PySem.W.takesIn K (.builtin "object.__class__") = some true)
    (lco : K.lookup cR = some ⟨ec, ed, .fields ev, esl⟩)
    (lev : ev[11]? = some (.ref PR))
    (zisinstance : PySem.W.nsIn K mainGlobals "isinstance" = some none)
    (zint : PySem.W.nsIn K mainGlobals "int" = some none)
    (zbool : PySem.W.nsIn K mainGlobals "bool" = some none)
    (zlist : PySem.W.nsIn K mainGlobals "list" = some none)
    (ztuple : PySem.W.nsIn K mainGlobals "tuple" = some none)
    (zlen : PySem.W.nsIn K mainGlobals "len" = some none)
    (zabs : PySem.W.nsIn K mainGlobals "abs" = some none)
    (zrange : PySem.W.nsIn K mainGlobals "range" = some none)
    (zall : PySem.W.nsIn K mainGlobals "all" = some none)
    (zrepr : PySem.W.nsIn K mainGlobals "repr" = some none)
    (zmin : PySem.W.nsIn K mainGlobals "min" = some none)
    (zzip : PySem.W.nsIn K mainGlobals "zip" = some none)
    (nt : PySem.W.noTabs K = true)
    : ∃ (fd : FuncData) (c P : Addr), PySem.W.tabIn K "_law_refused" = some (c, P) ∧ PySem.W.noTabs K = true ∧ (∀ (s : Shared) (v : Value), BindsTo s fd ⟨[v], []⟩ [("script", v)]) ∧
      ∀ base : Heap, K.In base → base.Ns mainGlobals mg → TabB base mg c P → Gd.FnG l.prog w K mg base CX0 8 fa fd ["script"] (spLaw K P) := by
  have e := hfa.symm.trans (PySem.W.mg_of X G nW)
  cases e
  have TW : TxtW mg := ⟨(PySem.W.mg_none_of X G zisinstance), (PySem.W.mg_none_of X G zint), (PySem.W.mg_none_of X G zbool), (PySem.W.mg_none_of X G zlist), (PySem.W.mg_none_of X G ztuple), (PySem.W.mg_none_of X G zlen), PySem.W.mg_of X G ngcd⟩
  have TP : Pre.TxtP mg := ⟨(PySem.W.mg_none_of X G zabs), (PySem.W.mg_none_of X G zint), (PySem.W.mg_none_of X G zlen)⟩
  have EW : ErC K mg "BadWeight" CW := ⟨PySem.W.mg_of X G nCW, qCW, kpCW, sbCW, tyCW⟩
  have EN : ErC K mg "BadNumber" CN := ⟨PySem.W.mg_of X G nCN, qCN, kpCN, sbCN, tyCN⟩
  have Gd : ∀ base, FnOk l.prog w K mg base CX0 2 fa4 _ ["value"] (spIsWt K) := fun base => ok_iswt (fun_mk (st := sIsWt) ld ccd kkd) TW (fun_mk (st := sIsTup) lc ccc kkc) (PySem.W.mg_of X G nc) (fun_mk (st := sIsWhole) la cca kka) (PySem.W.mg_of X G na)
  have Gf : ∀ base, FnOk l.prog w K mg base CX0 2 fa6 _ ["one", "other"] (spAdded K) := fun base => ok_added (fun_mk (st := sAdded) lf ccf kkf) TW (fun_mk (st := sShort) le cce kke) (PySem.W.mg_of X G ne)
  have Gg : ∀ base, FnOk l.prog w K mg base CX0 2 fa7 _ ["one", "other"] (spMul K) := fun base => ok_mul (fun_mk (st := sMul) lg ccg kkg) TW (fun_mk (st := sShort) le cce kke) (PySem.W.mg_of X G ne)
  have Gh : ∀ base, FnOk l.prog w K mg base CX0 1 fa8 _ ["one", "other"] (spBelow K) := fun base => ok_below (fun_mk (st := sBelow) lh cch kkh)
  have hZ : ∀ H, At K H az (0, 1) := fun H => .inr ⟨_, #[.int 0 tz1, .int 1 tz2], mz, lz, rfl, rfl, by show 2 ≤ sizeLine; decide, .cons ⟨_, rfl⟩ (.cons ⟨_, rfl⟩ .nil)⟩
  have Gt1 : ∀ base, FnOk l.prog w K mg base CX0 3 fa9 _ ["weights"] (spTotal K SqL) := fun base => ok_totalL (fun_mk (st := sTotal) li cci kki) Gf (fun_mk (st := sAdded) lf ccf kkf) (PySem.W.mg_of X G nf) (PySem.W.mg_of X G nz) hZ
  have Gt2 : ∀ base, FnOk l.prog w K mg base CX0 3 fa9 _ ["weights"] (spTotal K SqT) := fun base => ok_totalT (fun_mk (st := sTotal) li cci kki) Gf (fun_mk (st := sAdded) lf ccf kkf) (PySem.W.mg_of X G nf) (PySem.W.mg_of X G nz) hZ
  have Gk : ∀ base, FnOk l.prog w K mg base (L2.CX l.prog w) 3 fb2 _ ["one", "other"] (spCheck K CW) := fun base => ok_check (fun_mk (st := sCheck) lk cck kkk) Gd (fun_mk (st := sIsWt) ld ccd kkd) (PySem.W.mg_of X G nd) EW
  have Gl : ∀ base, FnOk l.prog w K mg base (L2.CX l.prog w) 4 fb3 _ ["one", "other"] (spBin K CW addW) := fun base => ok_plus (fun_mk (st := sPlus) ll ccl kkl) Gk (fun_mk (st := sCheck) lk cck kkk) (PySem.W.mg_of X G nk) Gf (fun_mk (st := sAdded) lf ccf kkf) (PySem.W.mg_of X G nf)
  have Gm : ∀ base, FnOk l.prog w K mg base (L2.CX l.prog w) 4 fb4 _ ["one", "other"] (spBin K CW mulW) := fun base => ok_times (fun_mk (st := sTimes) lm ccm kkm) Gk (fun_mk (st := sCheck) lk cck kkk) (PySem.W.mg_of X G nk) Gg (fun_mk (st := sMul) lg ccg kkg) (PySem.W.mg_of X G ng)
  have GSb : ∀ base, FnOk l.prog w K mg base CX0 3 fa0 _ ["one", "other"] (spSubt K) := fun base => ok_subt (fun_mk (st := sSubt) lSb ccSb kkSb) Gf (fun_mk (st := sAdded) lf ccf kkf) (PySem.W.mg_of X G nf)
  have Gn : ∀ base, FnOk l.prog w K mg base (L2.CX l.prog w) 4 fb5 _ ["one", "other"] (spBin K CW lessW) := fun base => ok_less (fun_mk (st := sLess) ln ccn kkn) Gk (fun_mk (st := sCheck) lk cck kkk) (PySem.W.mg_of X G nk) GSb (fun_mk (st := sSubt) lSb ccSb kkSb) (PySem.W.mg_of X G nSb)
  have Go : ∀ base, FnOk l.prog w K mg base (L2.CX l.prog w) 4 fb6 _ ["one", "other"] (spBelowX K CW) := fun base => ok_isbelow (fun_mk (st := sIsBelow) lo cco kko) Gk (fun_mk (st := sCheck) lk cck kkk) (PySem.W.mg_of X G nk) Gh (fun_mk (st := sBelow) lh cch kkh) (PySem.W.mg_of X G nh)
  have FD : FunD K "weight" "weight" (defArgs sWeight) (defBody sWeight) (defScope sWeight) [.int 1] [] fb1 _ := ⟨⟨_, _, _, _, _, _, _, _, _, _, rfl, lj, ccj, .inr ⟨by simp, aD, _, [.int 1 tD2], mYY, rfl, ldf, rfl, .cons ⟨_, rfl⟩ .nil⟩, .inl rfl⟩, kkj⟩
  have Gj : ∀ base, FnOk l.prog w K mg base (L2.CX l.prog w) 2 fb1 _ ["top", "bottom"] (spWeight K CN) := fun base => ok_weight FD TW (fun_mk (st := sIsWhole) la cca kka) (PySem.W.mg_of X G na) (fun_mk (st := sShort) le cce kke) (PySem.W.mg_of X G ne) EN
  have Gp1 : Use l.prog w K mg (L2.CX l.prog w) 4 "summed" ["weights"] (spSum K SqL CW) fb7 _ := ⟨fun base => ok_sumL (fun_mk (st := sSummed) lp ccp kkp) TW (PySem.W.mg_none_of X G zall) (fun_mk (st := sIsList) lb ccb kkb) (PySem.W.mg_of X G nb) Gd (fun_mk (st := sIsWt) ld ccd kkd) (PySem.W.mg_of X G nd) Gt1 (fun_mk (st := sTotal) li cci kki) (PySem.W.mg_of X G ni) EW, (PySem.W.mg_of X G np), kkp⟩
  have Gp2 : Use l.prog w K mg (L2.CX l.prog w) 4 "summed" ["weights"] (spSum K SqT CW) fb7 _ := ⟨fun base => ok_sumT (fun_mk (st := sSummed) lp ccp kkp) TW (PySem.W.mg_none_of X G zall) (fun_mk (st := sIsList) lb ccb kkb) (PySem.W.mg_of X G nb) Gd (fun_mk (st := sIsWt) ld ccd kkd) (PySem.W.mg_of X G nd) Gt2 (fun_mk (st := sTotal) li cci kki) (PySem.W.mg_of X G ni) EW, (PySem.W.mg_of X G np), kkp⟩
  have Gp3 : Use l.prog w K mg (L2.CX l.prog w) 4 "summed" ["weights"] (spSumN K CW) fb7 _ := ⟨fun base => ok_sumN (fun_mk (st := sSummed) lp ccp kkp) TW (PySem.W.mg_none_of X G zall) (fun_mk (st := sIsList) lb ccb kkb) (PySem.W.mg_of X G nb) Gd (fun_mk (st := sIsWt) ld ccd kkd) (PySem.W.mg_of X G nd) Gt1 (fun_mk (st := sTotal) li cci kki) (PySem.W.mg_of X G ni) EW, (PySem.W.mg_of X G np), kkp⟩
  obtain ⟨dw1, vw1, bw1⟩ := FD.binds1 (ps := ["top", "bottom"]) 2 1 (by simp) rfl fun _ _ _ _ _ _ _ us its hl hi => match us, hl, its, hi with | [_, _], _, [_], _ => ⟨_, rfl, rfl⟩
  cases vw1
  have bw2 := FD.binds1 (ps := ["top", "bottom"]) 1 0 (by simp) rfl fun _ _ _ _ _ _ _ us its hl hi => match us, hl, its, hi with | [_], _, [_], _ => ⟨_, rfl, rfl⟩
  have WK : Wk l.prog w K mg CS CW CN fb3 fb4 fb5 fb6 fb7 fb1 _ _ _ _ _ _ := ⟨⟨Gl, (PySem.W.mg_of X G nl), kkl⟩, (fun_mk (st := sPlus) ll ccl kkl).binds (ps := ["one", "other"]) fun _ _ _ _ _ _ us hl => match us, hl with | [_, _], _ => rfl, ⟨Gm, (PySem.W.mg_of X G nm), kkm⟩, (fun_mk (st := sTimes) lm ccm kkm).binds (ps := ["one", "other"]) fun _ _ _ _ _ _ us hl => match us, hl with | [_, _], _ => rfl, ⟨Gn, (PySem.W.mg_of X G nn), kkn⟩, (fun_mk (st := sLess) ln ccn kkn).binds (ps := ["one", "other"]) fun _ _ _ _ _ _ us hl => match us, hl with | [_, _], _ => rfl, ⟨Go, (PySem.W.mg_of X G no), kko⟩, (fun_mk (st := sIsBelow) lo cco kko).binds (ps := ["one", "other"]) fun _ _ _ _ _ _ us hl => match us, hl with | [_, _], _ => rfl, (Gp1.or Gp2).or Gp3, (fun_mk (st := sSummed) lp ccp kkp).binds (ps := ["weights"]) fun _ _ _ _ _ _ us hl => match us, hl with | [_], _ => rfl, ⟨Gj, (PySem.W.mg_of X G nj), kkj⟩, bw1, PySem.W.mg_of X G nCS, EW.g, EN.g, PySem.W.exm_ref sbS hdS tyS suCW, PySem.W.exm_ref sbS hdS tyS suCN, ⟨clCW, gaCW, gtCW, sbCW, caCW, moCW⟩, ⟨clCN, gaCN, gtCN, sbCN, caCN, moCN⟩, kiCW, kiCN, ⟨zh, zt⟩, (PySem.W.mg_none_of X G zisinstance)⟩
  have DR : Drw K mg fD fP fB _ _ _ := ⟨TP, (PySem.W.mg_none_of X G zrange), (fun_mk (st := Pre.sDraw) lD ccD kkD), (PySem.W.mg_of X G nD), (fun_mk (st := Pre.sPick) lP ccP kkP), (PySem.W.mg_of X G nP), (fun_mk (st := Pre.sBlended) lB ccB kkB), (PySem.W.mg_of X G nB)⟩
  refine ⟨PySem.W.fnOf "law" "law" (defArgs sLaw) (defBody sLaw) (defScope sLaw) .none kVW dcW pmW anW cdW ctW, cR, PR, tab_in nR lR lco lev, nt, fun s v => .of_eq rfl, fun base _ _ TB => ?_⟩
  refine ok_law (fun_mk (st := sLaw) lW ccW kkW) (dR := PySem.W.fnOf "_law_refused" "_law_refused" (defArgs sRefused) (defBody sRefused) (defScope sRefused) .none kVR dcR pmR anR (.ref cR) ctR)
    (⟨DR, TW, ⟨(fun_mk (st := Pre.sBegun) lA ccA kkA), (PySem.W.mg_of X G nA)⟩, ⟨(fun_mk (st := sNumber) lN ccN kkN), (PySem.W.mg_of X G nN)⟩, ⟨(fun_mk (st := sBad) lX ccX kkX), (PySem.W.mg_of X G nX)⟩, ⟨(fun_mk (st := sSame) lS ccS kkS), (PySem.W.mg_of X G nS)⟩, ⟨(fun_mk (st := sLowest) lL ccL kkL), (PySem.W.mg_of X G nL)⟩, ⟨(fun_mk (st := sCpPlus) lPl ccPl kkPl), (PySem.W.mg_of X G nPl)⟩, ⟨(fun_mk (st := sCpTimes) lTi ccTi kkTi), (PySem.W.mg_of X G nTi)⟩, ⟨(fun_mk (st := sCpWhole) lWh ccWh kkWh), (PySem.W.mg_of X G nWh)⟩, ⟨(fun_mk (st := sCpIsW) lIw ccIw kkIw), (PySem.W.mg_of X G nIw)⟩, ⟨(fun_mk (st := sTruth) lTr ccTr kkTr), (PySem.W.mg_of X G nTr)⟩, WK, ⟨Gd, (PySem.W.mg_of X G nd), kkd⟩, fun s u _ => .of_eq rfl, fun s u v _ => .of_eq rfl, fun s u _ => .of_eq rfl, fun s u v kin => BindsTo.of_looks fun M => ?_, bw2, (PySem.W.mg_of X G nR), kkR, .all fun us hl => match us, hl with | [_, _], _ => rfl, (PySem.W.mg_none_of X G zrepr), (PySem.W.mg_none_of X G zmin), (PySem.W.mg_none_of X G zzip)⟩) ?_
  · exact looks_items kin ldf rfl (.of_pure rfl)
  · exact ok_refused lR ccR TB DR (fun_mk (st := sBad) lX ccX kkX) (PySem.W.mg_of X G nX) (fun_mk (st := Lm.sCaught) lC ccC kkC) (PySem.W.mg_of X G nC) WK
end Wt


open PySem PySem.W PyProof.Rows in
set_option maxRecDepth 100000 in
set_option maxHeartbeats 0 in
theorem PySem.Challenge.cw_chancepoints_k00_weights_holds : PySem.Challenge.rw_chancepoints_k00_weights.Holds := by
  w_on; o_law; k_head; (case hw => w_witness2)
  k_fill
  refine Gd.walk_G (l := PySem.Challenge.rw_chancepoints_k00_weights) (xl := "_law_refused") (k := 8) (x := "script") (sp := Wt.spLaw) rfl rfl ⟨rfl, by decide, by decide⟩ (fun w h Y => PySem.W.km_in_of Y) (by rfl) (fun K P H a zs hl hP hS => ⟨a, zs, rfl, hS, hl, fun z hz => by rw [List.mem_singleton.mp hz]; exact LamX.TabS.nil hP, fun _ => rfl⟩) ?F
  case F =>
    intro w mg fa h KX G hmg
    refine' Wt.all_mk KX G hmg ?q0_na ?q0_nb ?q0_nc ?q0_nd ?q0_ne ?q0_nSb ?q0_nf ?q0_ng ?q0_nh ?q0_ni ?q0_nj ?q0_nk ?q0_nl ?q0_nm ?q0_nn ?q0_no ?q0_np ?q0_nA ?q0_nB ?q0_nD ?q0_nP ?q0_nC ?q0_nTr ?q0_nS ?q0_nL ?q0_nPl ?q0_nTi ?q0_nWh ?q0_nIw ?q0_nN ?q0_nX ?q0_nR ?q0_nW ?q0_la ?q0_cca ?q0_kka ?q0_lb ?q0_ccb ?q0_kkb ?q0_lc ?q0_ccc ?q0_kkc ?q0_ld ?q0_ccd ?q0_kkd ?q0_le ?q0_cce ?q0_kke ?q0_lSb ?q0_ccSb ?q0_kkSb ?q0_lf ?q0_ccf ?q0_kkf ?q0_lg ?q0_ccg ?q0_kkg ?q0_lh ?q0_cch ?q0_kkh ?q0_li ?q0_cci ?q0_kki ?q0_lj ?q0_ccj ?q0_kkj ?q0_lk ?q0_cck ?q0_kkk ?q0_ll ?q0_ccl ?q0_kkl ?q0_lm ?q0_ccm ?q0_kkm ?q0_ln ?q0_ccn ?q0_kkn ?q0_lo ?q0_cco ?q0_kko ?q0_lp ?q0_ccp ?q0_kkp ?q0_lA ?q0_ccA ?q0_kkA ?q0_lB ?q0_ccB ?q0_kkB ?q0_lD ?q0_ccD ?q0_kkD ?q0_lP ?q0_ccP ?q0_kkP ?q0_lC ?q0_ccC ?q0_kkC ?q0_lTr ?q0_ccTr ?q0_kkTr ?q0_lS ?q0_ccS ?q0_kkS ?q0_lL ?q0_ccL ?q0_kkL ?q0_lPl ?q0_ccPl ?q0_kkPl ?q0_lTi ?q0_ccTi ?q0_kkTi ?q0_lWh ?q0_ccWh ?q0_kkWh ?q0_lIw ?q0_ccIw ?q0_kkIw ?q0_lN ?q0_ccN ?q0_kkN ?q0_lX ?q0_ccX ?q0_kkX ?q0_lR ?q0_ccR ?q0_kkR ?q0_lW ?q0_ccW ?q0_kkW ?q0_ldf ?q0_nz ?q0_lz ?q0_ngcd ?q0_nCS ?q0_nCW ?q0_nCN ?q0_qCW ?q0_kpCW ?q0_sbCW ?q0_tyCW ?q0_clCW ?q0_gaCW ?q0_gtCW ?q0_caCW ?q0_moCW ?q0_kiCW ?q0_suCW ?q0_qCN ?q0_kpCN ?q0_sbCN ?q0_tyCN ?q0_clCN ?q0_gaCN ?q0_gtCN ?q0_caCN ?q0_moCN ?q0_kiCN ?q0_suCN ?q0_sbS ?q0_hdS ?q0_tyS ?q0_zh ?q0_zt ?q0_lco ?q0_lev ?q0_zisinstance ?q0_zint ?q0_zbool ?q0_zlist ?q0_ztuple ?q0_zlen ?q0_zabs ?q0_zrange ?q0_zall ?q0_zrepr ?q0_zmin ?q0_zzip ?q0_nt
    (case q0_na => k_is)
    (case q0_nb => k_is)
    (case q0_nc => k_is)
    (case q0_nd => k_is)
    (case q0_ne => k_is)
    (case q0_nSb => k_is)
    (case q0_nf => k_is)
    (case q0_ng => k_is)
    (case q0_nh => k_is)
    (case q0_ni => k_is)
    (case q0_nj => k_is)
    (case q0_nk => k_is)
    (case q0_nl => k_is)
    (case q0_nm => k_is)
    (case q0_nn => k_is)
    (case q0_no => k_is)
    (case q0_np => k_is)
    (case q0_nA => k_is)
    (case q0_nB => k_is)
    (case q0_nD => k_is)
    (case q0_nP => k_is)
    (case q0_nC => k_is)
    (case q0_nTr => k_is)
    (case q0_nS => k_is)
    (case q0_nL => k_is)
    (case q0_nPl => k_is)
    (case q0_nTi => k_is)
    (case q0_nWh => k_is)
    (case q0_nIw => k_is)
    (case q0_nN => k_is)
    (case q0_nX => k_is)
    (case q0_nR => k_is)
    (case q0_nW => k_is)
    (case q0_la => k_is)
    (case q0_cca => k_is)
    (case q0_kka => k_is)
    (case q0_lb => k_is)
    (case q0_ccb => k_is)
    (case q0_kkb => k_is)
    (case q0_lc => k_is)
    (case q0_ccc => k_is)
    (case q0_kkc => k_is)
    (case q0_ld => k_is)
    (case q0_ccd => k_is)
    (case q0_kkd => k_is)
    (case q0_le => k_is)
    (case q0_cce => k_is)
    (case q0_kke => k_is)
    (case q0_lSb => k_is)
    (case q0_ccSb => k_is)
    (case q0_kkSb => k_is)
    (case q0_lf => k_is)
    (case q0_ccf => k_is)
    (case q0_kkf => k_is)
    (case q0_lg => k_is)
    (case q0_ccg => k_is)
    (case q0_kkg => k_is)
    (case q0_lh => k_is)
    (case q0_cch => k_is)
    (case q0_kkh => k_is)
    (case q0_li => k_is)
    (case q0_cci => k_is)
    (case q0_kki => k_is)
    (case q0_lj => k_is)
    (case q0_ccj => k_is)
    (case q0_kkj => k_is)
    (case q0_lk => k_is)
    (case q0_cck => k_is)
    (case q0_kkk => k_is)
    (case q0_ll => k_is)
    (case q0_ccl => k_is)
    (case q0_kkl => k_is)
    (case q0_lm => k_is)
    (case q0_ccm => k_is)
    (case q0_kkm => k_is)
    (case q0_ln => k_is)
    (case q0_ccn => k_is)
    (case q0_kkn => k_is)
    (case q0_lo => k_is)
    (case q0_cco => k_is)
    (case q0_kko => k_is)
    (case q0_lp => k_is)
    (case q0_ccp => k_is)
    (case q0_kkp => k_is)
    (case q0_lA => k_is)
    (case q0_ccA => k_is)
    (case q0_kkA => k_is)
    (case q0_lB => k_is)
    (case q0_ccB => k_is)
    (case q0_kkB => k_is)
    (case q0_lD => k_is)
    (case q0_ccD => k_is)
    (case q0_kkD => k_is)
    (case q0_lP => k_is)
    (case q0_ccP => k_is)
    (case q0_kkP => k_is)
    (case q0_lC => k_is)
    (case q0_ccC => k_is)
    (case q0_kkC => k_is)
    (case q0_lTr => k_is)
    (case q0_ccTr => k_is)
    (case q0_kkTr => k_is)
    (case q0_lS => k_is)
    (case q0_ccS => k_is)
    (case q0_kkS => k_is)
    (case q0_lL => k_is)
    (case q0_ccL => k_is)
    (case q0_kkL => k_is)
    (case q0_lPl => k_is)
    (case q0_ccPl => k_is)
    (case q0_kkPl => k_is)
    (case q0_lTi => k_is)
    (case q0_ccTi => k_is)
    (case q0_kkTi => k_is)
    (case q0_lWh => k_is)
    (case q0_ccWh => k_is)
    (case q0_kkWh => k_is)
    (case q0_lIw => k_is)
    (case q0_ccIw => k_is)
    (case q0_kkIw => k_is)
    (case q0_lN => k_is)
    (case q0_ccN => k_is)
    (case q0_kkN => k_is)
    (case q0_lX => k_is)
    (case q0_ccX => k_is)
    (case q0_kkX => k_is)
    (case q0_lR => k_is)
    (case q0_ccR => k_is)
    (case q0_kkR => k_is)
    (case q0_lW => k_is)
    (case q0_ccW => k_is)
    (case q0_kkW => k_is)
    (case q0_ldf => k_is)
    (case q0_nz => k_is)
    (case q0_lz => k_is)
    (case q0_ngcd => k_is)
    (case q0_nCS => k_is)
    (case q0_nCW => k_is)
    (case q0_nCN => k_is)
    (case q0_qCW => k_exc)
    (case q0_kpCW => k_is)
    (case q0_sbCW => k_is)
    (case q0_tyCW => k_is)
    (case q0_clCW => k_is)
    (case q0_gaCW => k_is)
    (case q0_gtCW => k_is)
    (case q0_caCW => k_is)
    (case q0_moCW => k_is)
    (case q0_kiCW => kit_is)
    (case q0_suCW => k_is)
    (case q0_qCN => k_exc)
    (case q0_kpCN => k_is)
    (case q0_sbCN => k_is)
    (case q0_tyCN => k_is)
    (case q0_clCN => k_is)
    (case q0_gaCN => k_is)
    (case q0_gtCN => k_is)
    (case q0_caCN => k_is)
    (case q0_moCN => k_is)
    (case q0_kiCN => kit_is)
    (case q0_suCN => k_is)
    (case q0_sbS => k_is)
    (case q0_hdS => k_is)
    (case q0_tyS => k_is)
    (case q0_zh => k_is)
    (case q0_zt => k_is)
    (case q0_lco => k_is)
    (case q0_lev => exact rfl)
    (case q0_zisinstance => k_is)
    (case q0_zint => k_is)
    (case q0_zbool => k_is)
    (case q0_zlist => k_is)
    (case q0_ztuple => k_is)
    (case q0_zlen => k_is)
    (case q0_zabs => k_is)
    (case q0_zrange => k_is)
    (case q0_zall => k_is)
    (case q0_zrepr => k_is)
    (case q0_zmin => k_is)
    (case q0_zzip => k_is)
    (case q0_nt => kernel_rfl)

