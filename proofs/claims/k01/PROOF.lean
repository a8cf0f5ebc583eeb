import PyProof.Rows.All
import Wide.All
import OpenK.AllK
import Wide.FinOn
import HandS.ForMost
import HandS.Wide
import HandS.Codes
import HandS.ExcValue
import HandS.ExcInit
import HandS.ExcField
import HandS.ExcIs
import HandS.ExcOwn
import HandS.Exc
import HandS.WordsExc
import HandS.WordsList
import HandS.IsInst
import KE.KExcIs
import HandS.FStr
import HandS.Lambda
import HandS.EndTab
import HandS.Gcd
import HandS.Defaults
import HandS.MakeKw
import HandS.Style
import HandS.Zip
import KE.GoesZip
import HandS.RaiseMore
import HandS.TupAny
import HandS.Rev
import PySem.Challenge.RW_chancepoints_k01_kinds
set_option Elab.async false
set_option maxRecDepth 100000
namespace Pre
open PySem L2
def top (i : Nat) : Stmt := PySem.Challenge.pw_chancepoints_k01_kinds.main.body.getD i (.Pass ⟨0, 0, 0, 0⟩)
abbrev sBegun : Stmt := top 24
abbrev sBlended : Stmt := top 25
abbrev sDraw : Stmt := top 26
abbrev sPick : Stmt := top 27

/-! ## the state of the draws -/
abbrev kG : Key := .inr "great"
abbrev kC : Key := .inr "cells"
abbrev kR : Key := .inr "rest"
abbrev kT : Key := .inr "turn"
def stp (g c : Addr) (r t : Int) : List (Key × V) := [(kG, .ref g), (kC, .ref c), (kR, .int r), (kT, .int t)]
theorem z1 : ¬ ("great" : Str) = "cells" := by decide +kernel
theorem z2 : ¬ ("great" : Str) = "rest" := by decide +kernel
theorem z3 : ¬ ("great" : Str) = "turn" := by decide +kernel
theorem z4 : ¬ ("cells" : Str) = "rest" := by decide +kernel
theorem z5 : ¬ ("cells" : Str) = "turn" := by decide +kernel
theorem z6 : ¬ ("rest" : Str) = "turn" := by decide +kernel
theorem n1 : ¬ kG = kC := by decide +kernel
theorem n2 : ¬ kG = kR := by decide +kernel
theorem n3 : ¬ kG = kT := by decide +kernel
theorem n4 : ¬ kC = kR := by decide +kernel
theorem n5 : ¬ kC = kT := by decide +kernel
theorem n6 : ¬ kR = kT := by decide +kernel
theorem n1' : ¬ kC = kG := fun e => n1 e.symm
theorem n2' : ¬ kR = kG := fun e => n2 e.symm
theorem n3' : ¬ kT = kG := fun e => n3 e.symm
theorem n4' : ¬ kR = kC := fun e => n4 e.symm
theorem n5' : ¬ kT = kC := fun e => n5 e.symm
theorem n6' : ¬ kT = kR := fun e => n6 e.symm
theorem st_g {g c : Addr} {r t : Int} : valV (stp g c r t) kG = some (.ref g) := valV_pos rfl
theorem st_c {g c : Addr} {r t : Int} : valV (stp g c r t) kC = some (.ref c) := by
  unfold stp
  rw [valV_neg n1, valV_pos rfl]
theorem st_r {g c : Addr} {r t : Int} : valV (stp g c r t) kR = some (.int r) := by
  unfold stp
  rw [valV_neg n2, valV_neg n4, valV_pos rfl]
theorem st_t {g c : Addr} {r t : Int} : valV (stp g c r t) kT = some (.int t) := by
  unfold stp
  rw [valV_neg n3, valV_neg n5, valV_neg n6, valV_pos rfl]
theorem put_t {g c : Addr} {r t u : Int} : putK (stp g c r t) kT (.int u) = stp g c r u := by
  unfold putK stp
  have h : ([(kG, V.ref g), (kC, .ref c), (kR, .int r), (kT, .int t)].any fun kv => decide (kv.1 = kT)) = true := by simp
  rw [if_pos h]
  simp only [List.map_cons, List.map_nil, if_neg n3, if_neg n5, if_neg n6, if_pos]
theorem put_r {g c : Addr} {r t u : Int} : putK (stp g c r t) kR (.int u) = stp g c u t := by
  unfold putK stp
  have h : ([(kG, V.ref g), (kC, .ref c), (kR, .int r), (kT, .int t)].any fun kv => decide (kv.1 = kR)) = true := by simp
  rw [if_pos h]
  simp only [List.map_cons, List.map_nil, if_neg n2, if_neg n4, if_neg n6', if_pos]
theorem merge_st {g c : Addr} {r t : Int} : mergeK [] [(kG, V.ref g), (kC, .ref c), (kR, .int r), (kT, .int t)] = stp g c r t := by
  unfold mergeK stp
  simp only [List.foldl_cons, List.foldl_nil]
  have e1 : putK ([] : List (Key × V)) kG (.ref g) = [(kG, .ref g)] := by simp [putK]
  have e2 : putK [(kG, V.ref g)] kC (.ref c) = [(kG, .ref g), (kC, .ref c)] := by simp [putK, z1]
  have e3 : putK [(kG, V.ref g), (kC, .ref c)] kR (.int r) = [(kG, .ref g), (kC, .ref c), (kR, .int r)] := by simp [putK, z2, z4]
  have e4 : putK [(kG, V.ref g), (kC, .ref c), (kR, .int r)] kT (.int t) = [(kG, .ref g), (kC, .ref c), (kR, .int r), (kT, .int t)] := by simp [putK, z3, z5, z6]
  rw [e1, e2, e3, e4]
theorem stp_len {g c : Addr} {r t : Int} : (stp g c r t).length < sizeLine := by show 4 < sizeLine; decide

/-- at p the state of the draws, its two lists at g and c; at most n times were the cells blended -/
structure St (H : Hp) (p g c : Addr) (n : Nat) : Prop where
  ex : ∃ (gs cs : List Int) (r t : Int), H p = some (.dK (stp g c r t)) ∧ H g = some (.lst (gs.map V.int)) ∧ H c = some (.lst (cs.map V.int)) ∧ gs.length ≤ 63 ∧ cs.length ≤ 63 ∧ 0 ≤ t ∧ t ≤ n
  ne : g ≠ c
/-- all that was tracked stands, but for the state and its great ones -/
def Kp (p g : Addr) (H H' : Hp) : Prop := ∀ b o, b ≠ p → b ≠ g → H b = some o → H' b = some o
theorem Kp.refl {p g : Addr} {H : Hp} : Kp p g H H := fun _ _ _ _ e => e
theorem Kp.trans {p g : Addr} {H H1 H2 : Hp} (a : Kp p g H H1) (b : Kp p g H1 H2) : Kp p g H H2 := fun x o h1 h2 e => b x o h1 h2 (a x o h1 h2 e)
theorem Kp.of {p g : Addr} {H H' : Hp} (a : Same H H') : Kp p g H H' := fun x o _ _ e => a x o e
theorem Kp.upd_p {p g : Addr} {H : Hp} {o : HO} : Kp p g H (upd H p o) := fun x u h1 _ e => by rw [upd_ne h1]; exact e
theorem Kp.upd_g {p g : Addr} {H : Hp} {o : HO} : Kp p g H (upd H g o) := fun x u _ h2 e => by rw [upd_ne h2]; exact e
theorem same_upd {H : Hp} {p : Addr} {o : HO} (h : H p = none) : Same H (upd H p o) := fun b u e => by
  rw [upd_ne (ne_of_none e h)]
  exact e
theorem dk_ne_lst {H : Hp} {a b : Addr} {kvs : List (Key × V)} {xs : List V} (h1 : H a = some (.dK kvs)) (h2 : H b = some (.lst xs)) : a ≠ b := ne_of h1 h2 (by intro z; cases z)
theorem ints_at {K : PySem.W.Frag} {xs : List Int} {i : Nat} {y : V} (h : (xs.map V.int)[i]? = some y) : ∃ u, y = V.int u ∧ xs[i]? = some u ∧ i < xs.length := by
  rw [List.getElem?_map] at h
  cases e : xs[i]? with
  | none =>
    rw [e] at h
    cases h
  | some u =>
    rw [e] at h
    exact ⟨u, (Option.some.inj h).symm, rfl, (List.getElem?_eq_some_iff.mp e).1⟩
theorem dpAll_ints {K : PySem.W.Frag} {H : Hp} : ∀ (xs : List Int), DpAll K H (xs.map V.int) (xs.map PyData.int)
  | [] => .nil
  | x :: xs => .cons (.int x) (dpAll_ints xs)
theorem can_ints : ∀ (xs : List Int), PyData.canLayAll0 (xs.map PyData.int) = true
  | [] => rfl
  | x :: xs => by
    show (PyData.canLay0 (.int x) && PyData.canLayAll0 (xs.map PyData.int)) = true
    rw [can_ints xs]
    rfl
theorem depth_ints : ∀ (xs : List Int), PyData.depthAll (xs.map PyData.int) = 0
  | [] => rfl
  | x :: xs => by
    show max (PyData.depth (.int x)) (PyData.depthAll (xs.map PyData.int)) = 0
    rw [depth_ints xs]
    rfl
theorem shaped_ints (xs : List Int) : SeqAt.shaped (.list (xs.map PyData.int)) = true := by
  unfold SeqAt.shaped
  have h1 : PyData.canLay0 (.list (xs.map PyData.int)) = true := can_ints xs
  have h2 : PyData.depth (.list (xs.map PyData.int)) = 1 := by
    show PyData.depthAll (xs.map PyData.int) + 1 = 1
    rw [depth_ints]
  rw [h1, h2]
  rfl

/-! ## what a def of the draws asks of the module -/
structure TxtP (mg : Str → Option Value) : Prop where
  abs : mg "abs" = none
  int : mg "int" = none
  len : mg "len" = none

def spBegun (K : PySem.W.Frag) : Sp := fun vs H Q _ => ∃ (a : Addr) (ns : List Int), vs = [.ref a] ∧ SqL K H a (ns.map V.int) ∧ ns.length ≤ 63 ∧
  ∀ (H' : Hp) (p g c : Addr), Same H H' → St H' p g c 0 → H p = none → H g = none → Q (.ref p) H'
def spBlended : Sp := fun vs H Q _ => ∃ (p g c : Addr) (cs : List Int) (r t : Int), vs = [.ref p] ∧ H p = some (.dK (stp g c r t)) ∧ H c = some (.lst (cs.map V.int)) ∧ 0 ≤ t ∧ t < 2 ^ 40 ∧
  ∀ (H' : Hp) (f : Int), Same (upd H p (.dK (stp g c r (t + 1)))) H' → Q (.int f) H'
def spDraw : Sp := fun vs H Q _ => ∃ (p g c : Addr) (n : Nat) (m : Int), vs = [.ref p, .int m] ∧ St H p g c n ∧ n < 2 ^ 40 ∧ 0 < m ∧ m < 2 ^ 30 ∧
  ∀ (H' : Hp) (f : Int), Kp p g H H' → St H' p g c (n + 1) → 0 ≤ f → f < m → Q (.int f) H'
def spPick (K : PySem.W.Frag) : Sp := fun vs H Q _ => ∃ (p g c : Addr) (n : Nat) (l : Addr) (xs : List V), vs = [.ref p, .ref l] ∧ St H p g c n ∧ n < 2 ^ 40 ∧ H l = some (.lst xs) ∧ l ≠ g ∧ 0 < xs.length ∧ xs.length ≤ 1000 ∧
  ∀ (H' : Hp) (i : Nat) (y : V), Kp p g H H' → St H' p g c (n + 1) → i < xs.length → xs[i]? = some y → Q y H'

section
variable {P : Program} {w : World} {K : PySem.W.Frag} {mg : Str → Option Value} {base : Heap}
abbrev nBegun : List Str := ["script", "great", "cell"]
theorem scBegun : FnScope nBegun ["script"] (defScope sBegun) := ⟨rfl, rfl, rfl, by decide +kernel, rfl, by decide +kernel, by decide +kernel⟩
theorem ok_begun {f : Addr} {fd : FuncData} (F : Fun K "_law_begun" "_law_begun" sBegun f fd) (T : TxtP mg) : FnOk P w K mg base CX0 1 f fd ["script"] (spBegun K) := by
  refine F.ok scBegun (fun vs H Q E h => ?_) (fun cdv A outer s H vs Q E hr h => ?_)
  · obtain ⟨a, ns, rfl, _⟩ := h
    rfl
  · obtain ⟨a, ns, rfl, hS, hlen, k⟩ := h
    have nd := scBegun.nd
    refine ⟨_, pss_cons (ps_setLc (i := 1) (own := [("cell", 2)]) (g := gName 2) rfl nd rfl rfl (sw_true rfl rfl rfl (by decide +kernel)) (pi_list (pv 0)) (blkOk_by (own := [("cell", 2)]) (N := nBegun) (sc := defScope sBegun) (by decide +kernel))
          (fun _ _ _ _ _ => pg_name (i := 2) nd rfl (Or.inl rfl))
          (fun _ _ _ _ _ => pts_one (pt_cmpR op_ge (pe_callB call_abs (by rfl) T.abs (by decide +kernel) (pa_cons (pv 2) pa_nil)) (pe_op op_pow pe_int pe_int) (nomark _)))
          (fun _ _ _ _ _ => pe_op op_sub (pe_callB call_abs (by rfl) T.abs (by decide +kernel) (pa_cons (pv 2) pa_nil)) (pe_op op_pow pe_int pe_int)))
      (pss_one (ps_ret (pe_disp (pps_cons pe_str (pv 1) (pps_cons pe_str
          (pe_lc (own := [("cell", 2)]) (g := gName 2) (tt := tYes) rfl nd (pi_list (pv 0)) (blkOk_by (own := [("cell", 2)]) (N := nBegun) (sc := defScope sBegun) (by decide +kernel))
            (fun _ _ _ _ _ => pg_name (i := 2) nd rfl (Or.inl rfl)) (fun _ _ _ _ _ => pts_nil) (fun _ _ _ _ _ => pe_callB call_abs (by rfl) T.abs (by decide +kernel) (pa_cons (pv 2) pa_nil)))
          (pps_cons pe_str pe_int (pps_cons pe_str pe_int pps_nil)))) (by rfl) (by rfl) (fun z => by cases z) (by decide)))), ?_⟩
    refine ⟨_, rfl, a, rfl, ⟨_, hS⟩, fun D hD => lc_list (K := K) (a := a) (xs := ns.map V.int) (fun i H' => ∃ gs : List Int, Same H H' ∧ H' D = some (.lst (gs.map V.int)) ∧ gs.length ≤ i)
      ⟨[], same_upd hD, upd_same, Nat.le_refl _⟩ (fun i H' _ ⟨_, s1, _⟩ => s1.seq hS) ?_ ?_⟩
    · rintro i y H' hi ⟨gs, s1, hd, hl⟩
      obtain ⟨u, rfl, hu, hlt⟩ := ints_at (K := K) hi
      refine ⟨rfl, _, rfl, _, rfl, _, _, rfl, rfl, ⟨by decide, by decide, by decide⟩, _, _, rfl, rfl, _, rfl, ?_⟩
      refine ite2 (fun _ => ?_) (fun _ => ?_)
      · refine ⟨_, rfl, _, rfl, _, _, rfl, rfl, ⟨by decide, by decide, by decide⟩, _, _, rfl, rfl, _, hd, ?_, ?_⟩
        · rw [List.length_map]
          exact Nat.lt_of_le_of_lt hl (Nat.lt_of_lt_of_le hlt (Nat.le_trans hlen (by decide)))
        · refine ⟨gs ++ [_], fun b o e => ?_, by rw [upd_same, List.map_append]; rfl, by rw [List.length_append]; exact Nat.succ_le_succ hl⟩
          rw [upd_ne (ne_of_none e hD)]
          exact s1 _ _ e
      · exact ⟨gs, s1, hd, Nat.le_succ_of_le hl⟩
    · rintro H1 ⟨gs, s1, hd, hl⟩
      rw [List.length_map] at hl
      refine fun p hp1 => ?_
      have npD : p ≠ D := fun e => by
        rw [e, hd] at hp1
        cases hp1
      have s2 : Same H (upd H1 p (.dK [])) := s1.trans (same_upd hp1)
      have hd2 : (upd H1 p (.dK [])) D = some (.lst (gs.map V.int)) := by rw [upd_ne npD.symm]; exact hd
      have hp2 : (upd H1 p (.dK [])) p = some (.dK []) := upd_same
      generalize hH2 : upd H1 p (.dK []) = H2 at s2 hd2 hp2
      refine ⟨_, rfl, _, rfl, a, rfl, ⟨_, s2.seq hS⟩, fun D2 hD2 => lc_list (K := K) (a := a) (xs := ns.map V.int) (fun i H' => ∃ cs : List Int, Same H2 H' ∧ H' D2 = some (.lst (cs.map V.int)) ∧ cs.length ≤ i)
        ⟨[], same_upd hD2, upd_same, Nat.le_refl _⟩ (fun i H' _ ⟨_, s3, _⟩ => s3.seq (s2.seq hS)) ?_ ?_⟩
      · rintro i y H' hi ⟨cs, s3, hd3, hl3⟩
        obtain ⟨u, rfl, hu, hlt⟩ := ints_at (K := K) hi
        refine ⟨rfl, ?_⟩
        refine ⟨_, rfl, _, rfl, _, hd3, ?_, ?_⟩
        · rw [List.length_map]
          exact Nat.lt_of_le_of_lt hl3 (Nat.lt_of_lt_of_le hlt (Nat.le_trans hlen (by decide)))
        · refine ⟨cs ++ [_], fun b o e => ?_, by rw [upd_same, List.map_append]; rfl, by rw [List.length_append]; exact Nat.succ_le_succ hl3⟩
          rw [upd_ne (ne_of_none e hD2)]
          exact s3 _ _ e
      · rintro H3 ⟨cs, s3, hd3, hl3⟩
        rw [List.length_map] at hl3
        have nD2 : D ≠ D2 := ne_of_none hd2 hD2
        have npD2 : p ≠ D2 := ne_of_none hp2 hD2
        refine ⟨s3 _ _ hp2, [(kG, .ref D), (kC, .ref D2), (kR, .int 0), (kT, .int 0)], rfl, by show 4 ≤ 15; decide, ?_⟩
        rw [merge_st]
        have hp0 : H p = none := s1.free hp1
        refine k _ p D D2 (fun b o e => ?_) ⟨⟨gs, cs, 0, 0, upd_same, ?_, ?_, Nat.le_trans hl hlen, Nat.le_trans hl3 hlen, Int.le_refl _, Int.le_refl _⟩, nD2⟩ hp0 hD
        · rw [upd_ne (ne_of_none e hp0)]
          exact s3 _ _ (s2 _ _ e)
        · rw [upd_ne npD.symm]
          exact s3 _ _ hd2
        · rw [upd_ne npD2.symm]
          exact hd3

abbrev nBlended : List Str := ["state", "turn", "found", "prime", "blend", "cell"]
theorem scBlended : FnScope nBlended ["state"] (defScope sBlended) := ⟨rfl, rfl, rfl, by decide +kernel, rfl, by decide +kernel, by decide +kernel⟩
theorem get_t {H : Hp} {p g c : Addr} {r t : Int} (h : H p = some (.dK (stp g c r t))) : DGet H p (.str "turn") (some (.int t)) := by
  have q := DGet.k (k := kT) h
  rw [st_t] at q
  exact q
theorem get_r {H : Hp} {p g c : Addr} {r t : Int} (h : H p = some (.dK (stp g c r t))) : DGet H p (.str "rest") (some (.int r)) := by
  have q := DGet.k (k := kR) h
  rw [st_r] at q
  exact q
theorem get_c {H : Hp} {p g c : Addr} {r t : Int} (h : H p = some (.dK (stp g c r t))) : DGet H p (.str "cells") (some (.ref c)) := by
  have q := DGet.k (k := kC) h
  rw [st_c] at q
  exact q
theorem get_g {H : Hp} {p g c : Addr} {r t : Int} (h : H p = some (.dK (stp g c r t))) : DGet H p (.str "great") (some (.ref g)) := by
  have q := DGet.k (k := kG) h
  rw [st_g] at q
  exact q
theorem dput_t {H : Hp} {p g c : Addr} {r t u : Int} (h : H p = some (.dK (stp g c r t))) : DPut H p (.str "turn") (.int u) (upd H p (.dK (stp g c r u))) := by
  have q := DPut.k (k := kT) (v := .int u) h stp_len
  rw [put_t] at q
  exact q
theorem dput_r {H : Hp} {p g c : Addr} {r t u : Int} (h : H p = some (.dK (stp g c r t))) : DPut H p (.str "rest") (.int u) (upd H p (.dK (stp g c u t))) := by
  have q := DPut.k (k := kR) (v := .int u) h stp_len
  rw [put_r] at q
  exact q
theorem prime_at {i : Nat} {x : V} (h : ([V.int 2147483579, .int 2147483629, .int 2147483563] : List V)[i]? = some x) : ∃ u : Int, x = .int u ∧ 0 < u ∧ u < 2147483648 := by
  match i, h with
  | 0, h => exact ⟨_, (Option.some.inj h).symm, by decide, by decide⟩
  | 1, h => exact ⟨_, (Option.some.inj h).symm, by decide, by decide⟩
  | 2, h => exact ⟨_, (Option.some.inj h).symm, by decide, by decide⟩
  | n + 3, h => cases h
theorem ok_blended {f : Addr} {fd : FuncData} (F : Fun K "_law_blended" "_law_blended" sBlended f fd) (T : TxtP mg) : FnOk P w K mg base CX0 1 f fd ["state"] spBlended := by
  refine F.ok scBlended (fun vs H Q E h => ?_) (fun cdv A outer s H vs Q E hr h => ?_)
  · obtain ⟨p, g, c, cs, r, t, rfl, _⟩ := h
    rfl
  · obtain ⟨p, g, c, cs, r, t, rfl, hp, hc, t0, t1, k⟩ := h
    have nd := scBlended.nd
    have hu := hu_of hr
    refine ⟨_, pss_cons (ps_par (i := 1) (j := 2) rfl nd rfl rfl (by decide) rfl rfl (pa_cons (pe_op op_add (pe_dget hu (pv 0) pe_str (fun _ _ => rfl)) pe_int) (pa_cons pe_int pa_nil)) (by rfl))
      (pss_cons (ps_dput hu (pv 0) pe_str (pv 1) rfl)
      (pss_cons (ps_for PassesOwn.never rfl (pi_list (pe_lst (pa_cons pe_int (pa_cons pe_int (pa_cons pe_int pa_nil))))) (pg_name (i := 3) nd rfl (Or.inl rfl))
        (pss_cons (ps_set (i := 4) nd rfl (Or.inl rfl) (pe_op op_add (pe_op op_mul pe_int (pv 1)) (pe_op op_fdivW (pv 3) pe_int)))
        (pss_cons (ps_for PassesOwn.never rfl (pi_list (pe_dget hu (pv 0) pe_str (fun _ _ => rfl))) (pg_name (i := 5) nd rfl (Or.inl rfl))
            (pss_one (ps_set (i := 4) nd rfl (Or.inl rfl) (pe_op op_mod (pe_callTy call_int1 (by rfl) T.int (by decide +kernel) (pa_cons (pe_op op_add (pe_op op_add (pe_op op_mul (pv 4) pe_int) (pv 5)) (pv 1)) pa_nil)) (pv 3)))))
        (pss_one (ps_set (i := 2) nd rfl (Or.inl rfl) (pe_op op_add (pe_op op_mul (pv 2) pe_int) (pe_op op_mod (pe_callTy call_int1 (by rfl) T.int (by decide +kernel) (pa_cons (pe_op op_pow (pv 4) pe_int) pa_nil)) (pv 3))))))))
      (pss_one (ps_ret (pv 2))))), ?_⟩
    refine ⟨_, rfl, p, _, rfl, get_t hp, t, 1, rfl, rfl, _, _, rfl, ?_⟩
    refine ⟨_, rfl, _, rfl, p, _, rfl, dput_t hp, ?_⟩
    refine ⟨by show 3 ≤ sizeLine; decide, fun l hl => ?_⟩
    have npl : p ≠ l := fun e => by
      rw [e, upd_same] at hl
      cases hl
    have ncp : c ≠ p := ne_of hc hp (by intro z; cases z)
    have ncl : c ≠ l := fun e => by
      rw [← e, upd_ne ncp, hc] at hl
      cases hl
    have s0 : Same (upd H p (.dK (stp g c r (t + 1)))) (upd (upd H p (.dK (stp g c r (t + 1)))) l (.lst [.int 2147483579, .int 2147483629, .int 2147483563])) := same_upd hl
    generalize hHH : upd (upd H p (.dK (stp g c r (t + 1)))) l (.lst [.int 2147483579, .int 2147483629, .int 2147483563]) = HH at s0
    have hp' : HH p = some (.dK (stp g c r (t + 1))) := s0 _ _ upd_same
    have hc' : HH c = some (.lst (cs.map V.int)) := s0 _ _ (by rw [upd_ne ncp]; exact hc)
    have hl' : HH l = some (.lst [.int 2147483579, .int 2147483629, .int 2147483563]) := by rw [← hHH]; exact upd_same
    refine ⟨l, rfl, ⟨_, SqL.of hl'⟩, for_list (K := K) (a := l) (xs := [.int 2147483579, .int 2147483629, .int 2147483563])
      (fun i σ H' => ∃ (fo : Int) (pr bl ce : Option V), σ = [some (.ref p), some (.int (t + 1)), some (.int fo), pr, bl, ce] ∧ H' = HH) ⟨0, none, none, none, rfl, rfl⟩ (fun i σ H' _ ⟨_, _, _, _, _, e⟩ => by rw [e]; exact SqL.of hl') ?_ ?_⟩
    · rintro i x σ H' hx ⟨fo, pr, bl, ce, rfl, rfl⟩
      obtain ⟨q, rfl, q0, q1⟩ := prime_at hx
      refine ⟨_, rfl, 48271, t + 1, rfl, rfl, .inl ⟨by decide, by decide⟩, _, rfl, q, 53, rfl, rfl, ⟨by decide, by decide +kernel⟩, _, _, rfl, rfl, ?_⟩
      refine ⟨_, rfl, p, _, rfl, get_c hp', c, rfl, ⟨_, SqL.of hc'⟩, for_list (K := K) (a := c) (xs := cs.map V.int)
        (fun j σ H'' => ∃ (b : Int) (ce : Option V), σ = [some (.ref p), some (.int (t + 1)), some (.int fo), some (.int q), some (.int b), ce] ∧ H'' = H' ∧ 0 ≤ b ∧ b < 2 ^ 60) ⟨_, ce, rfl, rfl, ?_, ?_⟩
        (fun i σ H' _ ⟨_, _, _, e, _⟩ => by rw [e]; exact SqL.of hc') ?_ ?_⟩
      · have z : 0 ≤ q / 53 := Int.ediv_nonneg (by omega) (by decide)
        omega
      · have z : q / 53 ≤ q := Int.ediv_le_self _ (by omega)
        omega
      · rintro j y σ H'' hy ⟨b, ce', rfl, rfl, b0, b1⟩
        obtain ⟨u, rfl, _, _⟩ := ints_at (K := K) hy
        refine ⟨_, rfl, b, 69621, rfl, rfl, .inr ⟨by decide, by decide⟩, _, rfl, _, _, rfl, rfl, _, rfl, _, _, rfl, rfl, .inl ⟨_, rfl, _, rfl, _, q, rfl, rfl, q0, ?_⟩⟩
        refine ⟨_, _, rfl, rfl, Int.emod_nonneg _ (by omega), ?_⟩
        have z := Int.emod_lt_of_pos (b * 69621 + u + (t + 1)) q0
        omega
      · rintro σ H'' ⟨b, ce', rfl, rfl, b0, b1⟩
        refine ⟨_, rfl, fo, 2147483647, rfl, rfl, .inr ⟨by decide, by decide⟩, _, rfl, b, 5, rfl, rfl, ⟨by decide, by decide, by omega⟩, .inl ⟨_, rfl, _, rfl, _, q, rfl, rfl, q0, _, _, rfl, rfl, ?_⟩⟩
        exact ⟨_, _, _, _, rfl, rfl⟩
    · rintro σ H' ⟨fo, pr, bl, ce, rfl, rfl⟩
      exact ⟨_, rfl, k _ _ s0⟩

theorem eqv_ints_nil : ∀ gs : List Int, PyData.eqv (.list (gs.map PyData.int)) (.list []) = gs.isEmpty
  | [] => rfl
  | _ :: _ => rfl
theorem dp_ints {H : Hp} {a : Addr} {gs : List Int} (h : H a = some (.lst (gs.map V.int))) : Dp K H (.ref a) (.list (gs.map PyData.int)) := .lst (SqL.of h) (dpAll_ints (K := K) gs)
abbrev nDraw : List Str := ["state", "room", "found"]
theorem scDraw : FnScope nDraw ["state", "room"] (defScope sDraw) := ⟨rfl, rfl, rfl, by decide +kernel, rfl, by decide +kernel, by decide +kernel⟩
theorem ok_draw {f fB : Addr} {fd fdB : FuncData} (F : Fun K "_law_draw" "_law_draw" sDraw f fd) (T : TxtP mg) (FB : Fun K "_law_blended" "_law_blended" sBlended fB fdB) (mgB : mg "_law_blended" = some (.ref fB)) :
    FnOk P w K mg base CX0 2 f fd ["state", "room"] spDraw := by
  have GB : FnOk P w K mg base CX0 1 fB fdB ["state"] spBlended := ok_blended FB T
  have bB : Binds K fdB ["state"] [] := FB.binds (ps := ["state"]) fun _ _ _ _ _ _ us hl => match us, hl with | [_], _ => rfl
  refine F.ok scDraw (fun vs H Q E h => ?_) (fun cdv A outer s H vs Q E hr h => ?_)
  · obtain ⟨p, g, c, n, m, rfl, _⟩ := h
    rfl
  · obtain ⟨p, g, c, n, m, rfl, ⟨⟨gs, cs, r, t, hp, hg, hc, lg, lc, t0, t1⟩, ngc⟩, hn, m0, m1, k⟩ := h
    have nd := scDraw.nd
    have hu := hu_of hr
    have npg : p ≠ g := dk_ne_lst hp hg
    have npc : p ≠ c := dk_ne_lst hp hc
    refine ⟨_, C8.pss_cut (ps_if (pt_cmpR op_eq (pe_dget hu (pv 0) pe_str (fun _ _ => rfl)) pe_int (nomark _))
        (pss_one (ps_dput hu (pv 0) pe_str (pe_ifExp (pt_cmpR (op_neD hr.units) (pe_dget hu (pv 0) pe_str (fun _ _ => rfl)) (pe_lst pa_nil) (nomark _))
          (pe_bm PySem.F.plainAttrs_list PySem.F.slot_list_pop PySem.F.type_list_pop mt_popAt (pe_dget hu (pv 0) pe_str (fun _ _ => rfl)) (pa_cons pe_int pa_nil))
          (pe_call GB hr rfl mgB FB.kp bB .nil pass0 (pa_cons (pv 0) pa_nil))) rfl)) pss_nil)
      (pss_cons (ps_set (i := 2) nd rfl (Or.inl rfl) (pe_op op_mod (pe_callTy call_int1 (by rfl) T.int (by decide +kernel) (pa_cons (pe_dget hu (pv 0) pe_str (fun _ _ => rfl)) pa_nil)) (pv 1)))
      (pss_cons (ps_dput hu (pv 0) pe_str (pe_op op_fdivW (pe_dget hu (pv 0) pe_str (fun _ _ => rfl)) (pv 1)) rfl)
      (pss_one (ps_ret (pv 2))))), ?_⟩
    refine ⟨fun σ H' => σ = [some (.ref p), some (.int m), none] ∧ Kp p g H H' ∧ ∃ (gs' : List Int) (r' t' : Int), H' p = some (.dK (stp g c r' t')) ∧ H' g = some (.lst (gs'.map V.int)) ∧ H' c = some (.lst (cs.map V.int)) ∧ gs'.length ≤ 63 ∧ 0 ≤ t' ∧ t' ≤ n + 1, ?_, ?_⟩
    · refine ⟨_, rfl, p, _, rfl, get_r hp, rfl, _, rfl, ?_⟩
      refine ite2 (fun _ => ?_) (fun _ => ?_)
      · refine ⟨_, rfl, p, _, rfl, get_g hp, by show 0 ≤ sizeLine; decide, fun l hl => ?_⟩
        have s0 : Same H (upd H l (.lst [])) := same_upd hl
        have hp1 := s0 _ _ hp
        have hg1 := s0 _ _ hg
        have hc1 := s0 _ _ hc
        have hl1 : (upd H l (.lst [])) l = some (.lst (([] : List Int).map V.int)) := upd_same
        generalize hH1 : upd H l (.lst []) = H1 at s0 hp1 hg1 hc1 hl1
        refine ⟨_, _, dp_ints hg1, dp_ints hl1, shaped_ints _, shaped_ints _, _, rfl, ?_⟩
        have eq : PyData.eqv (.list (gs.map PyData.int)) (.list (([] : List Int).map PyData.int)) = gs.isEmpty := eqv_ints_nil gs
        rw [eq]
        refine ite2 (fun hne => ?_) (fun _ => ?_)
        · match gs, hne, lg, hg1 with
          | [], hne, _, _ => exact absurd hne (by simp)
          | u :: gs', _, lg, hg1 =>
            refine ⟨_, rfl, p, _, rfl, get_g hp1, .inl ⟨rfl, _, SqL.of hg1⟩, g, _, 0, 0, .int u, rfl, rfl, hg1, by decide, by decide, ?_, rfl, ?_⟩
            · rw [List.length_map, List.length_cons]
              unfold seqIndex?
              simp
            · have hp2 : (upd H1 g (.lst (((u :: gs').map V.int).eraseIdx 0))) p = some (.dK (stp g c r t)) := by rw [upd_ne npg]; exact hp1
              refine ⟨_, rfl, p, _, rfl, dput_r hp2, ?_⟩
              refine ⟨rfl, (Kp.of s0).trans (Kp.upd_g.trans Kp.upd_p), gs', u, t, upd_same, ?_, ?_, ?_, t0, by omega⟩
              · rw [upd_ne npg.symm, upd_same]
                rfl
              · rw [upd_ne npc.symm, upd_ne ngc.symm]
                exact hc1
              · simp only [List.length_cons] at lg
                omega
        · refine ⟨_, rfl, p, g, c, cs, r, t, rfl, hp1, hc1, t0, by omega, fun H2 f0 s2 => ?_⟩
          have hp2 := s2 _ _ upd_same
          refine ⟨_, rfl, p, _, rfl, dput_r hp2, ?_⟩
          refine ⟨rfl, (Kp.of s0).trans (Kp.upd_p.trans ((Kp.of s2).trans Kp.upd_p)), gs, f0, t + 1, upd_same, ?_, ?_, lg, by omega, by omega⟩
          · rw [upd_ne npg.symm]
            exact s2 _ _ (by rw [upd_ne npg.symm]; exact hg1)
          · rw [upd_ne npc.symm]
            exact s2 _ _ (by rw [upd_ne npc.symm]; exact hc1)
      · exact ⟨rfl, Kp.refl, gs, r, t, hp, hg, hc, lg, t0, by omega⟩
    · rintro σ H' ⟨rfl, kp, gs', r', t', hp', hg', hc', lg', t0', t1'⟩
      refine ⟨_, rfl, p, _, rfl, get_r hp', .inl ⟨_, rfl, _, rfl, _, m, rfl, rfl, m0, ?_⟩⟩
      refine ⟨_, rfl, p, _, rfl, get_r hp', _, rfl, _, m, rfl, rfl, wide_div m0 (b := 30) (by omega) (by decide) (by decide), _, rfl, p, _, rfl, dput_r hp', ?_⟩
      refine ⟨_, rfl, k _ _ (kp.trans Kp.upd_p) ⟨⟨gs', cs, r' / m, t', upd_same, ?_, ?_, lg', lc, t0', t1'⟩, ngc⟩ (Int.emod_nonneg _ (by omega)) (Int.emod_lt_of_pos _ m0)⟩
      · rw [upd_ne npg.symm]
        exact hg'
      · rw [upd_ne npc.symm]
        exact hc'
abbrev nPick : List Str := ["state", "some"]
theorem scPick : FnScope nPick ["state", "some"] (defScope sPick) := ⟨rfl, rfl, rfl, by decide +kernel, rfl, by decide +kernel, by decide +kernel⟩
theorem ok_pick {f fD fB : Addr} {fd fdD fdB : FuncData} (F : Fun K "_law_pick" "_law_pick" sPick f fd) (T : TxtP mg) (FD : Fun K "_law_draw" "_law_draw" sDraw fD fdD) (mgD : mg "_law_draw" = some (.ref fD)) (FB : Fun K "_law_blended" "_law_blended" sBlended fB fdB) (mgB : mg "_law_blended" = some (.ref fB)) :
    FnOk P w K mg base CX0 3 f fd ["state", "some"] (spPick K) := by
  have GD : FnOk P w K mg base CX0 2 fD fdD ["state", "room"] spDraw := ok_draw FD T FB mgB
  have bD : Binds K fdD ["state", "room"] [] := FD.binds (ps := ["state", "room"]) fun _ _ _ _ _ _ us hl => match us, hl with | [_, _], _ => rfl
  refine F.ok scPick (fun vs H Q E h => ?_) (fun cdv A outer s H vs Q E hr h => ?_)
  · obtain ⟨p, g, c, n, l, xs, rfl, _⟩ := h
    rfl
  · obtain ⟨p, g, c, n, l, xs, rfl, hs, hn, hl, nlg, x0, x1, k⟩ := h
    have nlp : l ≠ p := by
      obtain ⟨⟨gs, cs, r, t, hp, _⟩, _⟩ := hs
      exact (dk_ne_lst hp hl).symm
    refine ⟨_, pss_one (ps_ret (pe_ix ix_list (pv 1) (pe_call GD hr rfl mgD FD.kp bD .nil pass0 (pa_cons (pv 0) (pa_cons (pe_callB call_len_seq (by rfl) T.len PySem.boot_len (pa_cons (pv 1) pa_nil)) pa_nil))) (fun _ _ => rfl))), ?_⟩
    refine ⟨_, rfl, _, rfl, _, rfl, l, _, rfl, .inl (SqL.of hl), p, g, c, n, (xs.length : Int), rfl, hs, hn, by omega, by omega, fun H' f0 kp s' f1 f2 => ?_⟩
    have hl' := kp l _ nlp nlg hl
    obtain ⟨i, rfl⟩ := Int.eq_ofNat_of_zero_le f1
    have hi : i < xs.length := by omega
    refine ⟨l, _, _, xs[i], rfl, rfl, SqL.of hl', atI_nat (List.getElem?_eq_getElem hi), ?_⟩
    exact k _ i _ kp s' hi (List.getElem?_eq_getElem hi)
end
end Pre

namespace Lm
open PySem PySem.Spec PyProof.Rows L2
open LamX (CodeO TabS Tabs ExtN TabB LamS lamEnv lamCx inv_table among_app codeO_ne lam_start2 run_ofS takes0)

/-! ## lambdas that are kept: in a name, in a list; what a try catches is kept, too -/
/-- at f a lambda of the name q, its code object at c', its cells cl -/
def LamO (f : Addr) (q : Str) (params : Arguments) (body : Expr) (scope : Scope) (cl : List (Str × Addr)) (c' : Addr) : HO := .ext fun h => ∃ pm ctv, h.get? f = some (PySem.W.kla_obj "<lambda>" q params body scope cl pm c' ctv)
theorem lamO_ok {P : Program} {w : World} {H : Hp} {h : Heap} {f c' : Addr} {q : Str} {params : Arguments} {body : Expr} {scope : Scope} {cl : List (Str × Addr)} {pm ctv : Value} (e : h.get? f = some (PySem.W.kla_obj "<lambda>" q params body scope cl pm c' ctv)) :
    ObjOk P w H h f (LamO f q params body scope cl c') := ⟨⟨pm, ctv, e⟩, ⟨_, e⟩, fun _ _ ⟨p, t, y⟩ k => ⟨p, t, k _ y⟩⟩
theorem lamO_ne {f c' : Addr} {q : Str} {params : Arguments} {body : Expr} {scope : Scope} {cl : List (Str × Addr)} (ps : Array Value) : LamO f q params body scope cl c' ≠ .tbl ps := fun y => by
  unfold LamO at y
  cases y
/-- at a an exception of the class cls, its dict d, that was caught -/
def ExT (cls : Value) (d : Option Addr) (a : Addr) : HO := .ext fun h => ∃ (oe : Obj) (fv : Array Value), h.get? a = some oe ∧ Zc cls d oe ∧ oe.data = .fields fv
theorem exT_ok {P : Program} {w : World} {H : Hp} {h : Heap} {a : Addr} {cls : Value} {d : Option Addr} {oe : Obj} {fv : Array Value} (e : h.get? a = some oe) (y : Zc cls d oe) (dt : oe.data = .fields fv) : ObjOk P w H h a (ExT cls d a) :=
  ⟨⟨oe, fv, e, y, dt⟩, ⟨oe, e⟩, fun _ _ ⟨o, v, q, r⟩ k => ⟨o, v, k _ q, r⟩⟩

section
variable {X : Cx} {pins : List (Addr × Obj)} {σ : L2.St} {H : Hp} {s : Shared}
/-- an object that is newer than the def's entry is tracked from now on -/
theorem track {a : Addr} {o : HO} (J : Inv X pins σ H s) (hn : H a = none) (h0 : X.s_0.heap.get? a = none) (nL : X.env.locals ≠ a) (nC : ∀ x c, X.env.cells.lookup x = some c → c ≠ a) (nP : ∀ p ∈ X.pn ++ pins, p.1 ≠ a) (new : ObjOk X.prog X.w (upd H a o) s.heap a o) :
    Inv X pins σ (upd H a o) s := by
  have ne0 : ∀ b u, X.s_0.heap.get? b = some u → b ≠ a := fun b u e y => by
    rw [y, h0] at e
    cases e
  have neT : ∀ b u, H b = some u → b ≠ a := fun b u e => ne_of_none e hn
  refine ⟨J.ok, J.os, J.bare, ⟨J.base.keep, J.base.slot, fun b u e n hx => ?_, J.base.there, fun b xs e => ?_, fun b u v e => ?_, fun b ps e => ?_⟩, J.loc, J.cell, ?_, fun x c e => ?_, fun p hp => ?_, fun b u e => ?_, J.len⟩
  · rw [upd_ne (ne0 b u e)]
    exact J.base.free b u e n hx
  · have y := J.base.tups b xs e
    rw [upd_ne (neT b _ y)]
    exact y
  · have y := J.base.frzs b u v e
    rw [upd_ne (neT b _ y)]
    exact y
  · obtain ⟨m, y⟩ := J.base.tbls b ps e
    exact ⟨m, by rw [upd_ne (neT b _ y)]; exact y⟩
  · rw [upd_ne nL]
    exact J.free
  · rw [upd_ne (nC x c e)]
    exact J.freeC x c e
  · obtain ⟨e, n, r⟩ := J.pin p hp
    exact ⟨e, by rw [upd_ne (nP p hp)]; exact n, r⟩
  · by_cases hb : b = a
    · subst hb
      rw [upd_same] at e
      cases e
      exact new
    · rw [upd_ne hb] at e
      exact (J.hok b u e).stay (fun _ _ _ y => y) (fun c y => by rw [upd_ne (neT c _ y)]; exact y) fun c xs y => by rw [upd_ne (neT c _ y)]; exact y

/-- lambda: body, the new function object tracked -/
theorem lam_new {T : List (Addr × Str)} {c P : Addr} {params : Arguments} {body : Expr} {scope : Scope} {pos : Pos} {E : Value → Shared → Prop} {Q : Value → Shared → Prop} (I : Inv X pins σ H s) (TB : TabB X.base X.mg c P) (hcode : X.env.code = .ref c)
    (hm : (P, X.env.qual ++ "<lambda>") ∈ T) (hu : ∀ p ∈ T, p.1 = P → p.2 = X.env.qual ++ "<lambda>") (hT : Tabs T H) (hdef : defaultsOf params X.env = ([], [])) (hfree : ∀ y ∈ scope.names, y.2 = .free → ∃ c, X.env.cells.lookup y.1 = some c)
    (h : ∀ (f c' : Addr) (H1 : Hp) (s' : Shared), Inv X pins σ (upd H1 f (LamO f (X.env.qual ++ "<lambda>") params body scope (cloFrom X.env.cells scope.names []) c')) s' → ExtN H H1 → Tabs T H1 → H1 f = none → H1 c' = some (CodeO c' (X.env.qual ++ "<lambda>")) → Q (.ref f) s') :
    wpAny (model X.prog X.w) X.A (eval (.Lambda params body scope pos) X.env) Q E s := by
  obtain ⟨ps, hP, ht, ha⟩ := hT _ hm
  refine PySem.W.kla_eval hdef ?_
  have bIn : s.heap.BuiltinsAt X.mg P := TB.bm.keeps I.bk
  have atP : s.heap.get? P = some { cls := .none, data := .fields ps } := I.hok P _ hP
  cases hc : codeAmong pos ps.toList with
  | none =>
    refine PySem.W.kla_makeFunction (mg := X.mg) (c := c) (P := P) (ps := ps) (closure_ok hfree) I.ok.glob (I.mod.glob.keeps I.bk) hcode (TB.code.keeps I.bk) atP ht hc TB.gP bIn fun c' ctv h' tk keepsB hge hlt hrec htb => ?_
    obtain ⟨c2, oc, fv, t, e2, hoc, hd, hv⟩ := hrec
    cases e2
    have nC : H c' = none := I.hok.fresh hge
    have I0 := inv_table (t' := tk) (more := #[rawInt pos.line, rawInt pos.col, .ref c']) (h' := h') I hP keepsB htb hge ⟨oc, fv, t, hoc, hd, hv⟩
    have hE : ExtN H (upd (upd H P (.tbl (ps ++ #[rawInt pos.line, rawInt pos.col, .ref c']))) c' (CodeO c' (X.env.qual ++ "<lambda>"))) := fun b o e n => by
      rw [upd_ne (ne_of_none e nC), upd_ne (fun y => n ps (Option.some.inj (e.symm.trans (by rw [y]; exact hP))))]
      exact e
    have app : (ps ++ #[rawInt pos.line, rawInt pos.col, .ref c']).toList = ps.toList ++ [rawInt pos.line, rawInt pos.col, .ref c'] := by simp
    have I1 := I0.laid (t' := tk) (a := h'.objs.size) (o := LamO h'.objs.size (X.env.qual ++ "<lambda>") params body scope (cloFrom X.env.cells scope.names []) c') (h' := h'.push (PySem.W.kla_obj "<lambda>" (X.env.qual ++ "<lambda>") params body scope (cloFrom X.env.cells scope.names []) ((X.mg "__name__").getD .none) c' ctv))
      (fun _ _ e => Heap.get?_push_of_some _ e) (Nat.le_refl _) (lamO_ok (Heap.get?_push_size _ rfl))
    refine h h'.objs.size c' _ _ I1 hE (fun p hp => ?_) (I0.hok.fresh (Nat.le_refl _)) upd_same
    by_cases hb : p.1 = P
    · rw [hu p hp hb, hb]
      refine ⟨_, by rw [upd_ne (ne_of_none hP nC), upd_same], by rw [app]; exact PySem.TriplesOk_snoc _ _ _ _ ht, fun p' cv hcv => ?_⟩
      rw [app] at hcv
      rcases among_app _ ht hcv with y | y
      · obtain ⟨c0, e1, e2⟩ := ha p' cv y
        exact ⟨c0, e1, hE _ _ e2 codeO_ne⟩
      · exact ⟨c', y, upd_same⟩
    · obtain ⟨ps', a1, a2, a3⟩ := hT p hp
      refine ⟨ps', by rw [upd_ne (ne_of_none a1 nC), upd_ne hb]; exact a1, a2, fun p' cv hcv => ?_⟩
      obtain ⟨c0, e1, e2⟩ := a3 p' cv hcv
      exact ⟨c0, e1, hE _ _ e2 codeO_ne⟩
  | some cv =>
    obtain ⟨c', e, hco⟩ := ha pos cv hc
    subst e
    refine PySem.W.kla_makeFunctionHit (mg := X.mg) (c := c) (P := P) (ps := ps) (closure_ok hfree) I.ok.glob (I.mod.glob.keeps I.bk) hcode (TB.code.keeps I.bk) atP ht hc bIn fun ctv h' tk keepsB _ => ?_
    have I0 : Inv X pins σ H { s with heap := h', toks := tk } := I.kept keepsB
    have I1 := I0.laid (t' := tk) (a := h'.objs.size) (o := LamO h'.objs.size (X.env.qual ++ "<lambda>") params body scope (cloFrom X.env.cells scope.names []) c') (h' := h'.push (PySem.W.kla_obj "<lambda>" (X.env.qual ++ "<lambda>") params body scope (cloFrom X.env.cells scope.names []) ((X.mg "__name__").getD .none) c' ctv))
      (fun _ _ e => Heap.get?_push_of_some _ e) (Nat.le_refl _) (lamO_ok (Heap.get?_push_size _ rfl))
    exact h h'.objs.size c' H _ I1 (ExtN.refl H) hT (I0.hok.fresh (Nat.le_refl _)) hco
end
def tLamb (T : List (Addr × Str)) (q : Str) (params : Arguments) (body : Expr) (scope : Scope) (cl : List (Str × Addr)) : TE := fun _ H Q => Tabs T H ∧ ∀ (f c' : Addr) (H1 : Hp), ExtN H H1 → Tabs T H1 → H1 f = none → H1 c' = some (CodeO c' q) → Q (.ref f) (upd H1 f (LamO f q params body scope cl c'))
theorem pe_lam {X : Cx} {T : List (Addr × Str)} {c P : Addr} {params : Arguments} {body : Expr} {scope : Scope} {pos : Pos} (TB : TabB X.base X.mg c P) (hcode : X.env.code = .ref c) (hm : (P, X.env.qual ++ "<lambda>") ∈ T) (hu : ∀ p ∈ T, p.1 = P → p.2 = X.env.qual ++ "<lambda>")
    (L : LamS X.env.scope scope) (hdef : defaultsOf params X.env = ([], [])) : PE X (.Lambda params body scope pos) (tLamb T (X.env.qual ++ "<lambda>") params body scope (cloFrom X.env.cells scope.names [])) :=
  ⟨fun pins s σ H Q I ⟨hT, k⟩ => lam_new I TB hcode hm hu hT hdef (L.has I.ok) fun f c' H1 s' I1 eN T1 hn hco => ⟨.ref f, _, I1, rfl, k f c' H1 eN T1 hn hco⟩⟩
end Lm

namespace Lm
open PySem PySem.Spec PyProof.Rows L2
open LamX (CodeO TabS Tabs ExtN TabB LamS lamEnv lamCx inv_table among_app codeO_ne lam_start2 run_ofS takes0)
section
variable {X : Cx} {pins : List (Addr × Obj)} {σ : L2.St} {H : Hp} {s : Shared}
/-- a(), in the def that was handed the lambda; σ: the slots of the def that made it -/
theorem act_ok {CXg : CXT} {Eg : XK} {Ng : List Str} {qg : Str} {sg : Scope} {g f c' : Addr} {cdg : Value} {params : Arguments} {body : Expr} {scope : Scope} {k i : Nat} {a : Str} {pn : List (Addr × Obj)} {xe : Value → Shared → Prop} {W : WX} {t : XK → TE} {p1 p2 : Pos}
    (I : Inv X pins σ H s) (L : LamS X.env.scope scope)
    (hbind : ∀ (q : Str) (cl : List (Str × Addr)) (pm cv ctv : Value), bindArgs (PySem.W.kla_fn "<lambda>" q params body scope cl pm cv ctv) ⟨[], []⟩ = pure [])
    (tk : Takes ((cxOf CXg X.prog X.w X.K X.mg X.base Ng qg sg g cdg X.A X.stack s H Eg).tr pn xe) W) (hr : Room (k + 1) (X.A.deeper (envOfC qg sg s.heap.objs.size g cdg)))
    (hbody : ∀ (A : Around) (outer : List Env) (s : Shared) (H : Hp) (E : XK), Room k (A.deeper (lamEnv X scope s.heap.objs.size f c')) → PE (lamCx X A outer s H E scope f c') body (t E))
    (hN : Ng[i]? = some a) (hv : Vis sg a) (hd : (a == ("__debug__" : Str)) = false := by decide) (hcd : (a == ("__classdict__" : Str)) = false := by decide) :
    PE ((cxOf CXg X.prog X.w X.K X.mg X.base Ng qg sg g cdg X.A X.stack s H Eg).tr pn xe) (.Call (.Name a p1) [] [] p2)
      (fun σZ HZ Q => σZ[i]? = some (some (.ref f)) ∧ HZ f = some (LamO f (X.env.qual ++ "<lambda>") params body scope (cloFrom X.env.cells scope.names []) c') ∧ HZ c' = some (CodeO c' (X.env.qual ++ "<lambda>")) ∧ t (WE W σZ) σ HZ Q) := by
  refine ⟨fun pinsZ sZ σZ HZ Q IZ ⟨atI, isL, isC, rd⟩ => ?_⟩
  refine wpAny_Call_Name_kw (thn ((pe_var (pos := p1) (i := i) hN hv hd hcd).run pinsZ sZ σZ HZ (fun v H1 => v = .ref f ∧ H1 = HZ) IZ ⟨.ref f, atI, rfl, rfl⟩) fun u s1 ⟨v, H1, I1, r1, isF, same⟩ => ?_)
  subst isF
  rw [same] at I1
  obtain rfl : u = Value.ref f := r1
  obtain ⟨⟨pm, ctv, fun1⟩, _, _⟩ := (show ObjOk X.prog X.w HZ s1.heap f (LamO f (X.env.qual ++ "<lambda>") params body scope (cloFrom X.env.cells scope.names []) c') from I1.hok f _ isL)
  refine PySem.W.callWith_F0 ⟨_, _, _, _, fun1⟩ ?_
  have un : Un (frs X.stack) [] H HZ s.heap s1.heap := I1.base
  obtain ⟨⟨oc, fv, t, atC, dC, nC⟩, _, _⟩ := I1.hok c' _ isC
  have ran : codeAny (model X.prog X.w) (X.A.deeper (envOfC qg sg s.heap.objs.size g cdg)) (.call (.ref f) ⟨[], []⟩) (CR (L2.CX X.prog X.w) (envOfC qg sg s.heap.objs.size g cdg :: X.stack) X.prog X.w HZ s1 Q (WE W σZ)) s1 := by
    refine PySem.W.kla_callFunE hr.depth fun1 rfl L.co L.gen rfl ⟨c', oc, fv, t, rfl, atC, dC, nC⟩ ?_
    rw [hbind]
    refine wpAny_pure (wpAny_newFunctionEnv (fun y hy => (L.own y hy).2) (fun y hy => absurd hy (by simp)) (fun h₁ hns hsb => ⟨I1.nolimit.fresh _ hsb, ?_⟩) L.kind)
    show codeAny _ _ (.expr body (lamEnv X scope s1.heap.objs.size f c')) _ _
    have kept : ∀ b o, s1.heap.get? b = some o → h₁.get? b = some o := fun b o e => hsb.extBut b o (Nat.ne_of_lt (Heap.lt_size e)) (Heap.get?_push_of_some _ e)
    have J : Inv (lamCx X (X.A.deeper (envOfC qg sg s.heap.objs.size g cdg)) (envOfC qg sg s.heap.objs.size g cdg :: X.stack) s1 HZ (WE W σZ) scope f c') [] σ HZ { s1 with heap := h₁, toks := s1.toks + ([] : List (Str × Value)).length } :=
      lam_start2 I L I1.env0 hr.hd un hns kept
    refine PySem.W.kla_codeExpr (wpAny_mono ((hbody _ _ s1 HZ (WE W σZ) (hr.deeper _)).run [] _ _ HZ Q J rd) (fun v s' out => ?_) fun _ _ y => y)
    obtain ⟨v', H', J', rv, y⟩ := out
    exact ⟨v', H', J'.os, J'.bare, J'.base, J'.hok, rv, y⟩
  refine wpAny_call (codeAny_mono ran fun r s' out => ?_)
  cases r with
  | error e => exact passAt tk σZ pinsZ HZ s1 e s' I1 out
  | ok fl =>
    cases fl with
    | ret u => exact I1.after out
    | next => exact out.elim
    | brk => exact out.elim
    | cont => exact out.elim
end
/-- what «except x as n» wishes of the body's exception, which is tracked behind the clause: slot i is n's -/
def wAsT (K : PySem.W.Frag) (c : Value) (i : Nat) (ts : Addr → Value → Option Addr → TS) (Wout : WX) (D : Ends) : WX := fun cls d σ H =>
  ∃ b, PySem.W.exmOne K cls c = some b ∧ (b = true → ∀ a, H a = none → ts a cls d { nx := fun σ' H' => H' a = none → D.nx (σ'.set i none) (upd H' a (ExT cls d a)), rt := fun _ _ => False, bk := fun _ _ => False, ct := fun _ _ => False } (σ.set i (some (.ref a))) H) ∧
    (b = false → Wout cls d σ H)
section
variable {X : Cx} {x n : Str} {c : Value} {i : Nat} {body suite : List Stmt} {b₀ : Stmt} {np pos pos' : Pos} {tb : WX → TS} {ts : Addr → Value → Option Addr → TS} {Wout : WX}
theorem ps_try_keep (hex : X.ex = []) (hs : X.stack = X.env :: X.outer) (hf : X.env.frame = some X.env.locals) (hN : X.N.Nodup) (hi : X.N[i]? = some n) (hln : X.env.kindOf n = some .local) (hc : Names X x c) (tk : Takes X Wout)
    (hb : ∀ (W : WX) (pn : List (Addr × Obj)) (xe : Value → Shared → Prop), Takes (X.tr pn xe) W → PassesOwn (model X.prog X.w) X.A X.env xe → PSs (X.tr pn xe) body (tb W))
    (hsu : ∀ (a : Addr) (oe : Obj) (cls : Value) (d : Option Addr) (pn : List (Addr × Obj)), Zc cls d oe → (∃ vs, oe.data = .fields vs) → PSs (X.suite a ((a, oe) :: pn)) (b₀ :: suite) (ts a cls d)) :
    PS X (.Try body [.ExceptHandler (some (.Name x np)) (some n) (b₀ :: suite) pos'] [] [] pos) (fun D σ H => tb (wAsT X.K c i ts Wout D) D σ H) := by
  refine ⟨fun pins s σ H D I rd => ?_⟩
  have ok := I.ok
  have frm : X.A.frames = some (X.env :: X.outer) := by rw [ok.frames, hs]
  have isLoc : Loc X.env.scope n := .inl hln
  refine wpAny_Try_except ?_
  refine wpAny_mono ((hb (wAsT X.K c i ts Wout D) (X.pn ++ pins) (fun e s₁ => wpAny (model X.prog X.w) X.A (noteFrame e X.env) (fun _ s₂ => wpAny (model X.prog X.w) X.A (setFlight e none) (fun _ s₃ =>
    wpAny (model X.prog X.w) X.A (handleBy e X.env [.ExceptHandler (some (.Name x np)) (some n) (b₀ :: suite) pos']) (SP X pins D) X.xe s₃) X.xe s₂) X.xe s₁) (fun u s' xx => ?_) PassesOwn.looking).run [] s σ H D (I.toTry _) rd) (fun f s1 hsp => ?_) (fun _ _ y => y)
  · obtain ⟨a, B, sI, pins', σ', H', cls, d, rfl, JT, nb, up, sky, na, sameOs, bare, b, hb1, hyes, hno⟩ := xx
    have J : Inv X pins σ' H' sI := JT.ofTry ok
    have air : Sky B (X.env :: X.outer) a (Zc cls d) X.env.locals s'.heap := by rw [← hs]; exact sky
    show wpAny _ X.A (noteFrame (.ref a) X.env) _ _ _
    refine Sky.land Zc.steady frm hf air fun h3 fl3 up3 => ?_
    have J3 : Inv X pins σ' H' { s' with heap := h3 } := J.landed nb fl3.1 (up.trans up3) sameOs bare
    obtain ⟨oe3, fv3, he3, hz3, hd3⟩ := fl3.there
    have offFr : a ∉ frs (X.env :: X.outer) := fun hm => by
      obtain ⟨_, o', e', hnf⟩ := fl3.2.2.1.mem hm
      rw [he3] at e'
      cases e'
      exact hnf _ hd3
    have nL : a ≠ X.env.locals := fun y => offFr (List.mem_filterMap.mpr ⟨X.env, List.mem_cons_self, by rw [hf, y]⟩)
    have nF : a ∉ X.fs := fun hm => by
      obtain ⟨e, he, q⟩ := List.mem_filterMap.mp hm
      exact offFr (List.mem_filterMap.mpr ⟨e, List.mem_cons_of_mem _ he, q⟩)
    -- a is newer than all that stood at the try, hence than the entry
    have newI : sI.heap.get? a = none := by
      cases y : sI.heap.get? a with
      | none => rfl
      | some o =>
        have q := nb a o y (by rw [hs]; exact offFr)
        rw [fl3.2.1] at q
        cases q
    have new0 : X.s_0.heap.get? a = none := by
      cases y : X.s_0.heap.get? a with
      | none => rfl
      | some o =>
        obtain ⟨o', q⟩ := J.base.there a o y (by rw [hex]; simp)
        rw [newI] at q
        cases q
    have offCell : ∀ y c, X.env.cells.lookup y = some c → c ≠ a := fun y c e q => by
      obtain ⟨_, o, ho, _⟩ := J.cell y c e
      rw [q, newI] at ho
      cases ho
    have offPin : ∀ p ∈ X.pn ++ pins, p.1 ≠ a := fun p hp q => by
      have ho := (J.pin p hp).1
      rw [q, newI] at ho
      cases ho
    have S3 := J3.suite he3 hd3 na nL nF
    refine wpAny_handleBy_cons (codeAny_handlers_test ?_) (by intro q; cases q)
    have LT : PySem.W.Looks (model X.prog X.w) h3 (typeOf (.ref a)) cls := fun A Q E s k q => wpAny_typeOf_ref (k _ _ he3) (by rw [hz3.1]; exact q)
    have LM := PySem.W.exm_one (M := model X.prog X.w) (J3.kIn) LT hb1
    have tested : ∀ {Q : Value → Shared → Prop} {E : Value → Shared → Prop}, Q c { s' with heap := h3 } → wpAny (model X.prog X.w) (X.A.mark (some (.ref a))) (eval (.Name x np) X.env) Q E { s' with heap := h3 } := fun {Q E} q => by
      obtain ⟨gl, nodbg, hm | ⟨hm, hv, hnn⟩⟩ := hc
      · exact ld_glob (X := X.suite a ((a, oe3) :: (X.pn ++ pins))) S3 gl hm q nodbg
      · exact ld_blt (X := X.suite a ((a, oe3) :: (X.pn ++ pins))) S3 gl hm hv q hnn nodbg
    refine tested (LM.here ?_)
    cases b with
    | true =>
      refine codeAny_handlers_suite_as (HandSPX.lands_againZ fl3 fun h4 fl4 up4 => ?_)
      have J4 : Inv X pins σ' H' { s' with heap := h4 } := J.landed nb fl4.1 ((up.trans up3).trans up4) sameOs bare
      obtain ⟨oe4, fv4, he4, hz4, hd4⟩ := fl4.there
      have S4 := J4.suite he4 hd4 na nL nF
      refine store_ok (X := X.suite a ((a, oe4) :: (X.pn ++ pins))) (v := .ref a) S4 hN hi isLoc rfl (fun s5 S5 => ?_) (.inr hln)
      refine wpAny_mono ((hsu a oe4 cls d (X.pn ++ pins) hz4 ⟨_, hd4⟩).run [] s5 _ H' _ S5 (hyes rfl a na)) (fun f s6 out => ?_) (fun _ _ y => False.elim y)
      cases f with
      | next =>
        obtain ⟨σ6, H6, S6, q6⟩ := out
        refine gone_ok (X := X.suite a ((a, oe4) :: (X.pn ++ pins))) S6 hN hi hln fun s7 S7 => ?_
        obtain ⟨e7, n7, _⟩ := S7.pin (a, oe4) (List.mem_append_left _ List.mem_cons_self)
        have J7 : Inv X pins (σ6.set i none) H6 s7 := S7.unsuite ok
        exact ⟨_, _, track J7 n7 new0 nL.symm offCell offPin (exT_ok e7 hz4 hd4), q6 n7⟩
      | brk =>
        obtain ⟨_, _, _, q6⟩ := out
        exact q6.elim
      | cont =>
        obtain ⟨_, _, _, q6⟩ := out
        exact q6.elim
      | ret u =>
        obtain ⟨_, _, _, _, _, q6⟩ := out
        exact q6.elim
    | false =>
      show wpAny _ X.A (handleBy (.ref a) X.env []) _ _ _
      refine wpAny_handleBy_nil ?_
      obtain ⟨k1, k2, k3, oe, fv, T, oT, ts', he, hz, hd, h1, hr⟩ := id fl3
      unfold PySem.passOn
      refine wpAny_bind (wpAny_field he hd h1 ?_)
      rw [if_neg (show ¬ ((Value.ref T == Value.none) = true) from by simp)]
      have onward : wpAny (model X.prog X.w) X.A (setFlight (.ref a) X.env.frame) (fun _ s4 => wpAny (model X.prog X.w) X.A (throw (.ref a) : Sem Flow) (SP X pins D) X.xe s4) X.xe { s' with heap := h3 } := by
        rw [hf]
        refine HandSPX.setFlight_upZ fl3 fun h4 hh4 up4 => wpAny_throw (tk _ _ ?_)
        exact ⟨a, B, sI, pins, σ', H', cls, d, rfl, J, nb, (up.trans up3).trans up4, .inr (.inr (by rw [hs]; exact hh4)), na, sameOs, bare, hno rfl⟩
      first
        | exact wpAny_bind (wpAny_pure (wpAny_bind onward))
        | exact wpAny_bind onward
  · cases f with
    | next =>
      obtain ⟨σ', H', J', y⟩ := hsp
      exact wpAny_execs_nil ⟨σ', H', J'.ofTry ok, y⟩
    | brk =>
      obtain ⟨σ', H', J', y⟩ := hsp
      exact ⟨σ', H', J'.ofTry ok, y⟩
    | cont =>
      obtain ⟨σ', H', J', y⟩ := hsp
      exact ⟨σ', H', J'.ofTry ok, y⟩
    | ret u =>
      obtain ⟨v, σ', H', J', r, y⟩ := hsp
      exact ⟨v, σ', H', J'.ofTry ok, r, y⟩
end
end Lm

namespace Lm
open PySem PySem.Spec PyProof.Rows L2
open LamX (CodeO TabS Tabs ExtN TabB LamS lamEnv lamCx run_ofS takes0)
abbrev sCaught : Stmt := Pre.top 28
abbrev nCaught : List Str := ["action", "found", "error"]
theorem scCaught : FnScope nCaught ["action"] (defScope sCaught) := ⟨rfl, rfl, rfl, by decide +kernel, rfl, by decide +kernel, by decide +kernel⟩
/-- _law_caught(e), e a lambda of this very frame: None if its body comes to a value; else what it raises, tracked -/
def tCaught (X : Cx) (k : Nat) (CS : Addr) (te : TA) : TE := fun σ H Q => te σ H fun vs H1 => ∃ (f c' : Addr) (params : Arguments) (body : Expr) (scope : Scope) (t : XK → TE), vs = [.ref f] ∧
  H1 f = some (LamO f (X.env.qual ++ "<lambda>") params body scope (cloFrom X.env.cells scope.names []) c') ∧ H1 c' = some (CodeO c' (X.env.qual ++ "<lambda>")) ∧ LamS X.env.scope scope ∧
  (∀ (q : Str) (cl : List (Str × Addr)) (pm cv ctv : Value), bindArgs (PySem.W.kla_fn "<lambda>" q params body scope cl pm cv ctv) ⟨[], []⟩ = pure []) ∧
  (∀ (A : Around) (outer : List Env) (s : Shared) (H : Hp) (E : XK), Room k (A.deeper (lamEnv X scope s.heap.objs.size f c')) → PE (lamCx X A outer s H E scope f c') body (t E)) ∧
  ∀ (E : XK) (R : VK), (∀ cls d H', PySem.W.exmOne X.K cls (.ref CS) = some true → (∀ a, H' a = none → Q (.ref a) (upd H' a (ExT cls d a))) → E cls d H') → (∀ v H', Q .non H' → R v H') → t E σ H1 R
theorem pe_caught {X : Cx} {g CS : Addr} {fdg : FuncData} {k : Nat} {e : Expr} {te : TA} {p pos : Pos} (FG : Fun X.K "_law_caught" "_law_caught" sCaught g fdg) (hm : X.mg "_law_caught" = some (.ref g)) (hCS : X.mg "ChanceError" = some (.ref CS)) (hr : Room (k + 2) X.A) (ha : PA X [e] te)
    (hg : Gl X "_law_caught" := by rfl) (he : starEach [e] X.env = (false, eval e X.env) :: starEach [] X.env := by rfl) (hpl : (backTo pos (starEach [] X.env)).any (·.1) = false := by rfl) :
    PE X (.Call (.Name "_law_caught" p) [e] [] pos) (tCaught X k CS te) := by
  have bG : L2.Binds X.K fdg ["action"] [] := FG.binds (ps := ["action"]) fun _ _ _ _ _ _ us hl => match us, hl with | [_], _ => rfl
  obtain ⟨oc, od, kV, doc, pm, an, cdv, ct, osl, rfl, lk, hcd⟩ := FG.ex
  refine ⟨fun pins s σ H Q I h => ?_⟩
  refine wpAny_Call_Name_kw (ld_glob I hg hm ?_)
  refine PySem.W.callWith_K (h₀ := X.base) I.ok.mod.kin FG.kp (thn (ha.run pos pins s σ H _ I h) fun us s1 ⟨vs, H1, I1, r1, f, c', params, body, scope, t, e1, isL, isC, L, hbind, hbody, rd⟩ => ⟨I1.kIn, ?_⟩) he hpl
  subst e1
  cases r1 with
  | @cons _ u0 _ ur ru rn =>
    cases rn
    obtain rfl : u0 = Value.ref f := ru
    show wpAny _ _ (call (.ref g) [.ref f]) _ _ _
    have ran : codeAny (model X.prog X.w) X.A (.call (.ref g) ⟨[.ref f], []⟩) (CR CX0 X.stack X.prog X.w H1 s1 Q E0) s1 := by
      refine run_ofS (N := nCaught) (ps := ["action"]) (us := [.ref f]) (vs := [.ref f]) lk hcd scCaught hr I1.env0 (bG s1 [.ref f] I1.kIn rfl) (.cons rfl .nil) rfl fun hr' => ?_
      have nd := scCaught.nd
      have term : ∀ (Xc : Cx), Xc = (cxOf CX0 X.prog X.w X.K X.mg X.base nCaught "_law_caught" (defScope sCaught) g cdv X.A X.stack s1 H1 E0).nox → ∃ t, PSs Xc (defBody sCaught) t ∧ t { nx := fun _ H' => Q .non H', rt := Q } (L2.start nCaught [.ref f]) H1 := by
        intro Xc eX
        subst eX
        refine ⟨_, pss_cons (ps_set (i := 1) nd rfl (Or.inl rfl) pe_non) (pss_cons (ps_try_keep (i := 2) (c := .ref CS)
            (tb := fun W D σZ HZ => σZ[0]? = some (some (.ref f)) ∧ HZ f = some (LamO f (X.env.qual ++ "<lambda>") params body scope (cloFrom X.env.cells scope.names []) c') ∧ HZ c' = some (CodeO c' (X.env.qual ++ "<lambda>")) ∧ t (WE W σZ) σ HZ (fun _ H' => D.nx σZ H'))
            (ts := fun _ _ _ => tAsg (tVar 2) (gName 1)) (Wout := fun _ _ _ _ => False) rfl rfl rfl nd rfl rfl ⟨rfl, by decide, .inl hCS⟩ LamX.takes0
            (fun W pn xe tk _ => ?_) (fun a oe cls d pn _ _ => pss_one (ps_set (i := 1) nd rfl (Or.inl rfl) (pv 2)))) (pss_one (ps_ret (pv 1)))), ?_⟩
        · refine ⟨fun pinsB s' σ' H' D IB hB => ?_⟩
          exact (pss_one (ps_expr (act_ok (CXg := CX0) (Eg := E0) (i := 0) I1 L hbind tk hr' hbody rfl (Or.inl rfl)))).run pinsB s' σ' H' D IB hB
        · refine ⟨rfl, isL, isC, rd _ _ (fun cls d H' ex q => ?_) fun v H' q => ⟨.non, rfl, q⟩⟩
          exact ⟨true, ex, fun _ a na => ⟨.ref a, rfl, fun hn => ⟨.ref a, rfl, q a hn⟩⟩, fun z => by cases z⟩
      obtain ⟨t', ht', hq'⟩ := term _ rfl
      exact ⟨t', ht'.nox, hq'⟩
    refine wpAny_call (codeAny_mono ran fun r s2 out => ?_)
    cases r with
    | error e => exact (show False from out).elim
    | ok fl =>
      cases fl with
      | ret u => exact I1.after out
      | next => exact out.elim
      | brk => exact out.elim
      | cont => exact out.elim
end Lm

namespace Gd
open PySem PySem.Spec PyProof.Rows L2
/-- what a def keeps where no text of a thing is being made -/
structure FnG (P0 : Program) (w : World) (K : PySem.W.Frag) (mg : Str → Option Value) (base : Heap) (CX : CXT) (k : Nat) (f : Addr) (fd : FuncData) (ps : List Str) (sp : Sp) : Prop where
  many : ∀ xs H Q E, sp xs H Q E → xs.length = ps.length
  goes : ∀ (A : Around) (out : List Env) (s : Shared) (H : Hp) (given : Args) (us : List Value) (xs : List V) (Q : VK) (E : XK), Room k A → A.guards = some [] → Env0 P0 w K mg base A out s H → BindsTo s fd given (ps.zip us) → Vals xs us → sp xs H Q E →
    codeAny (model P0 w) A (.call (.ref f) given) (CR CX out P0 w H s Q E) s
theorem fnG_of {CX : CXT} {P0 : Program} {w : World} {K : PySem.W.Frag} {mg : Str → Option Value} {base : Heap} {k : Nat} {f : Addr} {nm q : Str} {pm0 : Arguments} {bd : List Stmt} {sc : Scope} {v1 v2 v3 v4 cdv v5 oc : Value} {an od : Option Addr}
    {osl : Array (Option Value)} {N ps : List Str} {sp : Sp} (at_ : K.lookup f = some ⟨oc, od, .func (PySem.W.fnOf nm q pm0 bd sc v1 v2 v3 v4 an cdv v5), osl⟩) (code : PySem.W.codeIn K cdv q = true) (S : FnScope N ps sc)
    (many : ∀ xs H Q E, sp xs H Q E → xs.length = ps.length)
    (inside : ∀ (A : Around) (out : List Env) (s : Shared) (H : Hp) (xs : List V) (Q : VK) (E : XK), Room k (A.deeper (envOfC q sc s.heap.objs.size f cdv)) → A.guards = some [] → sp xs H Q E →
      ∃ t, PSs (cxOf CX P0 w K mg base N q sc f cdv A out s H E) bd t ∧ t { nx := fun _ H1 => Q .non H1, rt := Q } (start N xs) H) :
    FnG P0 w K mg base CX (k + 1) f (PySem.W.fnOf nm q pm0 bd sc v1 v2 v3 v4 an cdv v5) ps sp := by
  refine ⟨many, fun A out s H given us xs Q E room hG e0 bound r rd => ?_⟩
  have same := many _ _ _ _ rd
  have inK : K.In s.heap := e0.mod.kin.keeps fun b o e => (e0.bs b o e).1
  have noLim : s.heap.NoLimit := e0.mod.nolimit.keeps fun b o e => (e0.bs b o e).1
  have kinds : ∀ z ∈ ps.zip us, sc.names.lookup z.1 = some .local ∨ (sc.names.lookup z.1 = some .cell ∧ ((cellsFrom (s.heap.objs.size + 1) sc.names []).lookup z.1).isSome = true) := fun ⟨n, v⟩ hz => by
    rcases S.par n (List.of_mem_zip hz).1 with c | c
    · exact .inl c
    · exact .inr ⟨c, PySem.W.cellsFrom_some _ _ _ (.inl c)⟩
  refine codeAny_call_function room.depth (inK _ _ at_) rfl S.co S.gen rfl (PySem.W.codeRec_of inK code) (bound _ _ _ _ ?_)
  refine wpAny_newFunctionEnv_cells S.kind kinds fun en he s1 x => ?_
  subst he
  refine ⟨noLim.keeps x.toInCall.keep, codeAny_func ?_⟩
  obtain ⟨t, ht, rd2⟩ := inside A out s H xs Q E (room.deeper _) hG rd
  have J : Inv (cxOf CX P0 w K mg base N q sc f cdv A out s H E) [] (start N xs) H s1 := inv_start S room.hd e0 same r x
  refine wpAny_mono (ht.run [] s1 (start N xs) H _ J rd2) (fun fl s' out1 => ?_) fun _ _ z => z
  have ends : ∀ {σ1 : L2.St} {H1 : Hp} {v : V} {u : Value}, Inv (cxOf CX P0 w K mg base N q sc f cdv A out s H E) [] σ1 H1 s' → RelV v u → Q v H1 → CE out P0 w H s Q u s' :=
    fun {σ1 H1 v u} J1 rv z => ⟨v, H1, J1.os, J1.bare, J1.base, J1.hok, rv, z⟩
  cases fl with
  | next =>
    obtain ⟨_, _, J1, z⟩ := out1
    exact ends (v := V.non) (u := Value.none) J1 rfl z
  | ret u =>
    obtain ⟨_, _, _, J1, rv, z⟩ := out1
    exact ends J1 rv z
  | brk =>
    obtain ⟨_, _, _, z⟩ := out1
    exact z.elim
  | cont =>
    obtain ⟨_, _, _, z⟩ := out1
    exact z.elim
section
variable {P0 : Program} {w : World} {K : PySem.W.Frag} {mg : Str → Option Value} {base : Heap}
theorem fun_okG {x q : Str} {st : Stmt} {f : Addr} {fd : FuncData} {N ps : List Str} {k : Nat} {sp : Sp} (F : Fun K x q st f fd) (S : FnScope N ps (defScope st)) (many : ∀ xs H Q E, sp xs H Q E → xs.length = ps.length)
    (inside : ∀ (cdv : Value) (A : Around) (out : List Env) (s : Shared) (H : Hp) (xs : List V) (Q : VK) (E : XK), Room k (A.deeper (envOfC q (defScope st) s.heap.objs.size f cdv)) → A.guards = some [] → sp xs H Q E →
      ∃ t, PSs (cxOf CX0 P0 w K mg base N q (defScope st) f cdv A out s H E).nox (defBody st) t ∧ t { nx := fun _ H1 => Q .non H1, rt := Q } (start N xs) H) : FnG P0 w K mg base CX0 (k + 1) f fd ps sp := by
  obtain ⟨_, _, _, _, _, _, cdv, _, _, rfl, lk, code⟩ := F.ex
  refine fnG_of lk code S many fun A out s H xs Q E room hG rd => ?_
  obtain ⟨t, ht, rd2⟩ := inside cdv A out s H xs Q E room hG rd
  exact ⟨t, ht.nox, rd2⟩
end
section
variable {X : Cx} {CX : CXT} {k : Nat} {f : Addr} {fd : FuncData} {ps : List Str} {sp : Sp} {E : XK} {x : Str} {p pos : Pos} {e : Expr} {es : List Expr} {t : TA}
theorem pe_callG (F : FnG X.prog X.w X.K X.mg X.base CX k f fd ps sp) (room : Room k X.A) (hG : X.A.guards = some []) (hg : Gl X x) (hm : X.mg x = some (.ref f)) (hk : PySem.W.keepIn X.K (.ref f) = true) (hb : Binds X.K fd ps []) (hx : Passes CX X E)
    (ha : PA X (e :: es) t) (hdb : (x == ("__debug__" : Str)) = false := by decide) (he : starEach (e :: es) X.env = (false, eval e X.env) :: starEach es X.env := by rfl) (hpl : (backTo pos (starEach es X.env)).any (·.1) = false := by rfl) :
    PE X (.Call (.Name x p) (e :: es) [] pos) (tCall sp [] E t) := by
  refine ⟨fun pins s σ H Q I rd => ?_⟩
  refine wpAny_Call_Name_kw (ld_glob I hg hm ?_ hdb)
  refine PySem.W.callWith_K (h₀ := X.base) I.ok.mod.kin hk (thn (ha.run pos pins s σ H _ I rd) fun us s1 ⟨xs, H1, I1, r, z⟩ => ⟨I1.kIn, ?_⟩) he hpl
  have z' : sp xs H1 Q E := by
    have q : sp (xs ++ []) H1 Q E := z
    rw [List.append_nil] at q
    exact q
  have hl : us.length = ps.length := (r.length).symm.trans (F.many _ _ _ _ z')
  have b := hb s1 us I1.kIn (by rw [List.append_nil]; exact hl)
  rw [List.append_nil] at b
  refine wpAny_call (codeAny_mono (F.goes X.A X.stack s1 H1 ⟨us, []⟩ us xs Q E room hG I1.env0 b r z') fun r s2 out => ?_)
  cases r with
  | error e => exact hx pins σ H1 s1 e s2 I1 out
  | ok fl =>
    cases fl with
    | ret u => exact I1.after out
    | next => exact out.elim
    | brk => exact out.elim
    | cont => exact out.elim
end
theorem sameText {X : Cx} (hG : X.A.guards = some []) (room : X.A.units + 64 < cLine) : CallR X (.builtin "repr") (fun xs H Q => ∃ a d, xs = [.ref a] ∧ Dp X.K H (.ref a) d ∧ d.showable = true ∧ d.hasDict = false ∧ d.depth < 32 ∧ d.shown.length ≤ sizeLine ∧ Q (.str d.shown) H) := by
  intro pins s σ H xs us Q I r h
  obtain ⟨a, d, rfl, hd, h1, h2, h3, h4, q⟩ := h
  obtain ⟨u, rfl, ru⟩ := vals1 r
  obtain ⟨as, rd⟩ := Dp.reads I d _ u hd ru
  obtain rfl : u = Value.ref a := ru
  exact repr_of_reads' rd h1 (PyData.noDict_hsm h2) hG (by omega) (fun _ _ z => z) (fun h' u tk k => ⟨.str d.shown, H, I.kept k, ⟨_, rfl⟩, q⟩) h4
/-- repr of None, of a truth, of a whole number, of a text -/
theorem int_log {i : Int} {n : Nat} (h : i.natAbs < 2 ^ n) (h0 : 0 < n) (h1 : n ≤ 1900) : i.natAbs.log2 < 1920 := Nat.lt_of_lt_of_le (PySem.Flt.log2_lt_of h0 h) (by omega)
theorem digits_len : ∀ (fuel n : Nat) (ds : List Char) (m : Nat), n < 10 ^ m → 0 < m → (Nat.toDigitsCore 10 fuel n ds).length ≤ ds.length + m
  | 0, n, ds, m, _, _ => by
    unfold Nat.toDigitsCore
    omega
  | fuel + 1, n, ds, m, h, h0 => by
    unfold Nat.toDigitsCore
    simp only
    split
    · simp only [List.length_cons]
      omega
    · rename_i hne
      have hn : n / 10 ≠ 0 := hne
      have hm : 1 < m := by
        rcases Nat.lt_or_ge 1 m with z | z
        · exact z
        · have e : m = 1 := by omega
          subst e
          omega
      have h2 : n / 10 < 10 ^ (m - 1) := by
        have e : 10 ^ m = 10 ^ (m - 1) * 10 := by
          rw [← Nat.pow_succ]
          congr 1
          omega
        rw [e] at h
        exact (Nat.div_lt_iff_lt_mul (by decide)).mpr h
      have := digits_len fuel (n / 10) (Nat.digitChar (n % 10) :: ds) (m - 1) h2 (by omega)
      simp only [List.length_cons] at this
      omega
end Gd

namespace Xt
open PySem PySem.Spec PyProof.Rows L2
open Lm (ExT)
/-- what isinstance asks of an own exception's class at C -/
structure IsE (K : PySem.W.Frag) (C : Addr) : Prop where
  clsd : (PySem.W.clsIn K C).isSome = true
  getA : PySem.W.findIn K (.ref C) "__getattribute__" = some (some (.builtin "BaseException.__getattribute__"))
  getB : PySem.W.findIn K (.ref C) "__getattr__" = some none
  under : PySem.W.subIn K (.ref C) (.type "BaseException") = some true
  clsA : PySem.W.findIn K (.ref C) "__class__" = some (some (.builtin "object.__class__"))
  orig : PySem.W.mroIn K C (.type "object") = some true
structure IsG (K : PySem.W.Frag) : Prop where
  get : PySem.W.specialIn K (.builtin "object.__class__") "__get__" = some (some (.builtin "getset_descriptor.__get__"))
  takes : PySem.W.takesIn K (.builtin "object.__class__") = some true
/-- isinstance(e, c), e caught -/
def rIsE (K : PySem.W.Frag) : List V → Hp → VK → Prop := fun xs H Q => ∃ (a C : Addr) (c : V) (cv : Value) (b : Bool), xs = [.ref a, c] ∧ H a = some (ExT (.ref C) none a) ∧ IsE K C ∧ ClsV c cv ∧ PySem.W.kitOne K (.ref C) cv = some b ∧ Q (.bl b) H
theorem call_isE {X : Cx} (Z : IsG X.K) : CallR X (.builtin "isinstance") (rIsE X.K) := by
  intro ps0 s σ H xs args Q I r h
  obtain ⟨a, C, c, cv, b, rfl, x, T, k, e, q⟩ := h
  obtain ⟨u1, u2, rfl, r1, r2⟩ := vals2 r
  cases (show u1 = Value.ref a from r1)
  have e2 := k.eq r2
  subst e2
  obtain ⟨⟨oe, fv, ho, hz, hd⟩, _, _⟩ := (show ObjOk X.prog X.w H s.heap a (ExT (.ref C) none a) from I.hok a _ x)
  have J : PySem.W.InstAt s.heap a oe C none := ⟨ho, hz.1, by unfold PySem.W.notCls; rw [hd] <;> rfl, by rw [hz.2]; trivial⟩
  exact PySem.W.kia_one (PySem.W.kitx_exc (od := none) T.clsd T.getA T.getB T.under T.clsA Z.get Z.takes T.orig) I.kIn J e (by intro fin; cases fin) fun tks => ⟨.bl b, H, I.tok tks, rfl, q⟩
end Xt
namespace Us
open PySem PySem.Spec PyProof.Rows L2
/-- a def of the module that keeps sp -/
structure Use (P0 : Program) (w : World) (K : PySem.W.Frag) (mg : Str → Option Value) (CX : CXT) (k : Nat) (x : Str) (ps : List Str) (sp : Sp) (f : Addr) (fd : FuncData) : Prop where
  ok : ∀ base, FnOk P0 w K mg base CX k f fd ps sp
  at_ : mg x = some (.ref f)
  kp : PySem.W.keepIn K (.ref f) = true
theorem Use.imp {P0 : Program} {w : World} {K : PySem.W.Frag} {mg : Str → Option Value} {CX : CXT} {k : Nat} {x : Str} {ps : List Str} {sp sp' : Sp} {f : Addr} {fd : FuncData} (U : Use P0 w K mg CX k x ps sp f fd) (h : ∀ vs H Q E, sp' vs H Q E → sp vs H Q E) : Use P0 w K mg CX k x ps sp' f fd := ⟨fun base => (U.ok base).imp h, U.at_, U.kp⟩
theorem Use.or {P0 : Program} {w : World} {K : PySem.W.Frag} {mg : Str → Option Value} {CX : CXT} {k : Nat} {x : Str} {ps : List Str} {sp sp' : Sp} {f : Addr} {fd : FuncData} (U : Use P0 w K mg CX k x ps sp f fd) (U' : Use P0 w K mg CX k x ps sp' f fd) : Use P0 w K mg CX k x ps (fun vs H Q E => sp vs H Q E ∨ sp' vs H Q E) f fd :=
  ⟨fun base => ⟨fun vs H Q E h => h.elim ((U.ok base).len vs H Q E) ((U'.ok base).len vs H Q E), fun A outer s H args us vs Q E hr e0 hb r h => h.elim ((U.ok base).run A outer s H args us vs Q E hr e0 hb r) ((U'.ok base).run A outer s H args us vs Q E hr e0 hb r)⟩, U.at_, U.kp⟩
section
variable {X : Cx} {CX : CXT} {k : Nat} {f : Addr} {fd : FuncData} {ps : List Str} {sp : Sp} {E : XK} {x : Str} {p pos : Pos} {e : Expr} {es : List Expr} {t : TA}
theorem pe_use0 (U : Use X.prog X.w X.K X.mg CX0 k x ps sp f fd) (hr : Room k X.A) (hb : Binds X.K fd ps []) (ha : PA X (e :: es) t) (hg : Gl X x := by rfl) (hdb : (x == ("__debug__" : Str)) = false := by decide)
    (he : starEach (e :: es) X.env = (false, eval e X.env) :: starEach es X.env := by rfl) (hpl : (backTo pos (starEach es X.env)).any (·.1) = false := by rfl) : PE X (.Call (.Name x p) (e :: es) [] pos) (tCall sp [] E0 t) :=
  pe_call (U.ok X.base) hr hg U.at_ U.kp hb .nil pass0 ha hdb he hpl
theorem none_out : Passes (L2.CX X.prog X.w) X E0 := fun pins σ H s e s' I c => passAt LamX.takes0 σ pins H s e s' I c
/-- a call that lets nothing out -/
theorem pe_useN {ds : List Value} {dvs : List V} (U : Use X.prog X.w X.K X.mg (L2.CX X.prog X.w) k x ps sp f fd) (hr : Room k X.A) (hb : Binds X.K fd ps ds) (hd : Vals dvs ds) (ha : PA X (e :: es) t) (hg : Gl X x := by rfl) (hdb : (x == ("__debug__" : Str)) = false := by decide)
    (he : starEach (e :: es) X.env = (false, eval e X.env) :: starEach es X.env := by rfl) (hpl : (backTo pos (starEach es X.env)).any (·.1) = false := by rfl) : PE X (.Call (.Name x p) (e :: es) [] pos) (tCall sp dvs E0 t) :=
  pe_call (U.ok X.base) hr hg U.at_ U.kp hb hd none_out ha hdb he hpl
/-- f(k = e) and f(k = e, l = e'): keywords alone -/
def tKw (sp : Sp) (ord : List V → List V) (t : TA) : TE := fun σ H Q => t σ H fun zs H1 => sp (ord zs) H1 Q E0
theorem pe_kw {kws : List Keyword} {ks : List Str} {ord : List V → List V} {ordW : List Value → List Value} (U : Use X.prog X.w X.K X.mg CX k x ps sp f fd) (hr : Room k X.A) (hx : Passes CX X E0) (hb : ∀ (s : Shared) (ws : List Value), X.K.In s.heap → ws.length = ks.length → BindsTo s fd ⟨[], ks.zip ws⟩ (ps.zip (ordW ws))) (hv : ∀ zs ws, Vals zs ws → ws.length = ks.length → Vals (ord zs) (ordW ws)) (hkw : PK X kws t)
    (hl : ∀ zs ws, Vals zs ws → sp (ord zs) = sp (ord zs) → (ord zs).length = ps.length → ws.length = ks.length) (hg : Gl X x := by rfl)
    (hall : (backToKw pos (keywordEach kws X.env)).all (·.1.isSome) = true := by rfl) (hks : (backToKw pos (keywordEach kws X.env)).filterMap (·.1) = ks := by rfl) (hdb : (x == ("__debug__" : Str)) = false := by decide)
    (hpl : ((backTo pos (starEach [] X.env)).any (·.1) || (backToKw pos (keywordEach kws X.env)).any (·.1.isNone)) = false := by rfl) : PE X (.Call (.Name x p) [] kws pos) (tKw sp ord t) := by
  refine ⟨fun pins s σ H Q I h => ?_⟩
  refine wpAny_Call_Name_kw (ld_glob I hg U.at_ ?_ hdb)
  refine PySem.W.callWith_KW0 (h₀ := X.base) I.ok.mod.kin U.kp hall (thn (hkw.run pos pins s σ H _ I h) fun ws s1 ⟨zs, H1, I1, r, q⟩ => ⟨I1.kIn, ?_⟩) hpl
  rw [hks]
  have n1 := hl zs ws r rfl ((U.ok X.base).len _ _ _ _ q)
  show wpAny _ _ (call (.ref f) [] (ks.zip ws)) _ _ _
  refine wpAny_call (codeAny_mono ((U.ok X.base).run X.A X.stack s1 H1 ⟨[], ks.zip ws⟩ (ordW ws) (ord zs) Q E0 hr I1.env0 (hb s1 ws I1.kIn n1) (hv zs ws r n1) q) fun r s2 out => ?_)
  cases r with
  | error e => exact hx pins σ H1 s1 e s2 I1 out
  | ok fl =>
    cases fl with
    | ret u => exact I1.after out
    | next => exact out.elim
    | brk => exact out.elim
    | cont => exact out.elim
/-- one keyword -/
theorem pe_kw1 {a : Str} {e1 : Expr} {t1 : TE} {kp0 : Pos} (U : Use X.prog X.w X.K X.mg CX k x [a] sp f fd) (hr : Room k X.A) (hx : Passes CX X E0) (hb : ∀ (s : Shared) (u : Value), X.K.In s.heap → BindsTo s fd ⟨[], [(a, u)]⟩ [(a, u)]) (h1 : PE X e1 t1) (hg : Gl X x := by rfl)
    (hall : (backToKw pos (keywordEach [⟨some a, e1, kp0⟩] X.env)).all (·.1.isSome) = true := by rfl) (hks : (backToKw pos (keywordEach [⟨some a, e1, kp0⟩] X.env)).filterMap (·.1) = [a] := by rfl) (hdb : (x == ("__debug__" : Str)) = false := by decide)
    (hpl : ((backTo pos (starEach [] X.env)).any (·.1) || (backToKw pos (keywordEach [⟨some a, e1, kp0⟩] X.env)).any (·.1.isNone)) = false := by rfl) : PE X (.Call (.Name x p) [] [⟨some a, e1, kp0⟩] pos) (tKw sp (fun zs => zs) (tCons t1 tNil)) :=
  pe_kw (ks := [a]) (ord := fun zs => zs) (ordW := fun ws => ws) U hr hx (fun s ws kin h => match ws, h with | [u], _ => hb s u kin) (fun _ _ r _ => r) (pk_cons h1 pk_nil) (fun zs ws r _ h => by rw [← r.length]; exact h) hg hall hks hdb hpl
def swapL {α : Type} : List α → List α
  | [a, b] => [b, a]
  | zs => zs
theorem swapL_len {α : Type} : ∀ zs : List α, (swapL zs).length = zs.length
  | [] => rfl
  | [_] => rfl
  | [_, _] => rfl
  | _ :: _ :: _ :: _ => rfl
theorem swapL_vals : ∀ {zs : List V} {ws : List Value}, Vals zs ws → Vals (swapL zs) (swapL ws)
  | _, _, .nil => .nil
  | _, _, .cons h .nil => .cons h .nil
  | _, _, .cons h (.cons h2 .nil) => .cons h2 (.cons h .nil)
  | _, _, .cons h (.cons h2 (.cons h3 r)) => .cons h (.cons h2 (.cons h3 r))
/-- two keywords in the parameters' order -/
theorem pe_kw2 {a b : Str} {e1 e2 : Expr} {t1 t2 : TE} {kp1 kp2 : Pos} (U : Use X.prog X.w X.K X.mg CX k x [a, b] sp f fd) (hr : Room k X.A) (hx : Passes CX X E0) (hb : ∀ (s : Shared) (u v : Value), X.K.In s.heap → BindsTo s fd ⟨[], [(a, u), (b, v)]⟩ [(a, u), (b, v)]) (h1 : PE X e1 t1) (h2 : PE X e2 t2) (hg : Gl X x := by rfl)
    (hall : (backToKw pos (keywordEach [⟨some a, e1, kp1⟩, ⟨some b, e2, kp2⟩] X.env)).all (·.1.isSome) = true := by rfl) (hks : (backToKw pos (keywordEach [⟨some a, e1, kp1⟩, ⟨some b, e2, kp2⟩] X.env)).filterMap (·.1) = [a, b] := by rfl) (hdb : (x == ("__debug__" : Str)) = false := by decide)
    (hpl : ((backTo pos (starEach [] X.env)).any (·.1) || (backToKw pos (keywordEach [⟨some a, e1, kp1⟩, ⟨some b, e2, kp2⟩] X.env)).any (·.1.isNone)) = false := by rfl) : PE X (.Call (.Name x p) [] [⟨some a, e1, kp1⟩, ⟨some b, e2, kp2⟩] pos) (tKw sp (fun zs => zs) (tCons t1 (tCons t2 tNil))) :=
  pe_kw (ks := [a, b]) (ord := fun zs => zs) (ordW := fun ws => ws) U hr hx (fun s ws kin h => match ws, h with | [u, v], _ => hb s u v kin) (fun _ _ r _ => r) (pk_cons h1 (pk_cons h2 pk_nil)) (fun zs ws r _ h => by rw [← r.length]; exact h) hg hall hks hdb hpl
/-- two keywords the other way round -/
theorem pe_kw2s {a b : Str} {e1 e2 : Expr} {t1 t2 : TE} {kp1 kp2 : Pos} (U : Use X.prog X.w X.K X.mg CX k x [a, b] sp f fd) (hr : Room k X.A) (hx : Passes CX X E0) (hb : ∀ (s : Shared) (u v : Value), X.K.In s.heap → BindsTo s fd ⟨[], [(b, v), (a, u)]⟩ [(a, u), (b, v)]) (h1 : PE X e1 t1) (h2 : PE X e2 t2) (hg : Gl X x := by rfl)
    (hall : (backToKw pos (keywordEach [⟨some b, e1, kp1⟩, ⟨some a, e2, kp2⟩] X.env)).all (·.1.isSome) = true := by rfl) (hks : (backToKw pos (keywordEach [⟨some b, e1, kp1⟩, ⟨some a, e2, kp2⟩] X.env)).filterMap (·.1) = [b, a] := by rfl) (hdb : (x == ("__debug__" : Str)) = false := by decide)
    (hpl : ((backTo pos (starEach [] X.env)).any (·.1) || (backToKw pos (keywordEach [⟨some b, e1, kp1⟩, ⟨some a, e2, kp2⟩] X.env)).any (·.1.isNone)) = false := by rfl) : PE X (.Call (.Name x p) [] [⟨some b, e1, kp1⟩, ⟨some a, e2, kp2⟩] pos) (tKw sp swapL (tCons t1 (tCons t2 tNil))) :=
  pe_kw (ks := [b, a]) (ord := swapL) (ordW := swapL) U hr hx (fun s ws kin h => match ws, h with | [v, u], _ => hb s u v kin) (fun _ _ r _ => swapL_vals r) (pk_cons h1 (pk_cons h2 pk_nil)) (fun zs ws r _ h => by rw [← r.length]; rw [swapL_len] at h; exact h) hg hall hks hdb hpl
end
end Us

namespace Wt
open PySem PySem.Spec PyProof.Rows L2
abbrev sIsWhole : Stmt := Pre.top 6
abbrev sIsList : Stmt := Pre.top 8
abbrev sIsTup : Stmt := Pre.top 9
def isInt : PyData → Bool
  | .int _ => true
  | _ => false
def tyN : PyData → String
  | .none => "NoneType"
  | .bool _ => "bool"
  | .int _ => "int"
  | .str _ => "str"
  | .list _ => "list"
  | .tuple _ => "tuple"
  | .dict _ => "dict"
theorem ty_of {K : PySem.W.Frag} {H : Hp} {x : V} {d : PyData} (h : Dp K H x d) : TyX K H x (.type (tyN d)) := by
  cases h with
  | non => exact .base .non
  | bl b => exact .base (.bl b)
  | int i => exact .base (.int i)
  | str z => exact .base (.str z)
  | lst q _ =>
    rcases q with (q | ⟨o, q⟩) | ⟨o, its, n, hk, hc, _⟩
    · exact .base (.lst q)
    · exact .base (.frz q)
    · exact .kList hk hc
  | tup q _ =>
    rcases q with (q | ⟨o, q⟩) | ⟨o, its, n, hk, hc, _⟩
    · exact .base (.tup q)
    · exact .fTuple q
    · exact .kTuple hk hc
structure TxtW (mg : Str → Option Value) : Prop where
  isi : mg "isinstance" = none
  int : mg "int" = none
  bool : mg "bool" = none
  list : mg "list" = none
  tuple : mg "tuple" = none
  len : mg "len" = none
section
variable {P0 : Program} {w : World} {K : PySem.W.Frag} {mg : Str → Option Value} {base : Heap}
def spWhole (K : PySem.W.Frag) : Sp := fun vs H Q _ => ∃ x d, vs = [x] ∧ Dp K H x d ∧ Q (.bl (isInt d)) H
theorem scIsWhole : FnScope ["value"] ["value"] (defScope sIsWhole) := ⟨rfl, rfl, rfl, by decide +kernel, rfl, by decide +kernel, by decide +kernel⟩
theorem ok_whole {f : Addr} {fd : FuncData} (F : Fun K "is_whole" "is_whole" sIsWhole f fd) (T : TxtW mg) : FnOk P0 w K mg base CX0 1 f fd ["value"] (spWhole K) := by
  refine F.ok scIsWhole (fun vs H Q E h => ?_) (fun cdv A outer s H vs Q E hr h => ?_)
  · obtain ⟨x, d, rfl, _⟩ := h
    rfl
  · obtain ⟨x, d, rfl, hd, k⟩ := h
    refine ⟨_, pss_one (ps_ret (pe_and (pe_callB call_isi (by rfl) T.isi (by decide +kernel) (pa_cons (pv 0) (pa_cons (pe_bltn (v := .ty "int") (by rfl) T.int (by decide +kernel) rfl) pa_nil)))
      (pe_one (pe_not (pe_callB call_isi (by rfl) T.isi (by decide +kernel) (pa_cons (pv 0) (pa_cons (pe_bltn (v := .ty "bool") (by rfl) T.bool (by decide +kernel) rfl) pa_nil))))))), ?_⟩
    have ty := ty_of hd
    cases d with
    | int i => exact ⟨_, rfl, x, _, _, _, true, rfl, .ty _, ty, kit_ty (a := "int") (b := "int") (by decide +kernel), true, rfl, iteT ⟨_, rfl, x, _, _, _, false, rfl, .ty _, ty, kit_ty (a := "int") (b := "bool") (by decide +kernel), false, rfl, k⟩⟩
    | bool b => exact ⟨_, rfl, x, _, _, _, true, rfl, .ty _, ty, kit_ty (a := "bool") (b := "int") (by decide +kernel), true, rfl, iteT ⟨_, rfl, x, _, _, _, true, rfl, .ty _, ty, kit_ty (a := "bool") (b := "bool") (by decide +kernel), true, rfl, k⟩⟩
    | none => exact ⟨_, rfl, x, _, _, _, false, rfl, .ty _, ty, kit_ty (a := "NoneType") (b := "int") (by decide +kernel), false, rfl, iteF k⟩
    | str z => exact ⟨_, rfl, x, _, _, _, false, rfl, .ty _, ty, kit_ty (a := "str") (b := "int") (by decide +kernel), false, rfl, iteF k⟩
    | list z => exact ⟨_, rfl, x, _, _, _, false, rfl, .ty _, ty, kit_ty (a := "list") (b := "int") (by decide +kernel), false, rfl, iteF k⟩
    | tuple z => exact ⟨_, rfl, x, _, _, _, false, rfl, .ty _, ty, kit_ty (a := "tuple") (b := "int") (by decide +kernel), false, rfl, iteF k⟩
    | dict z => exact ⟨_, rfl, x, _, _, _, false, rfl, .ty _, ty, kit_ty (a := "dict") (b := "int") (by decide +kernel), false, rfl, iteF k⟩
def isTupN (m : Int) : PyData → Bool
  | .tuple ds => decide ((ds.length : Int) = m)
  | _ => false
def spTup (K : PySem.W.Frag) : Sp := fun vs H Q _ => ∃ x d m, vs = [x, .int m] ∧ Dp K H x d ∧ Q (.bl (isTupN m d)) H
theorem scIsTup : FnScope ["value", "many"] ["value", "many"] (defScope sIsTup) := ⟨rfl, rfl, rfl, by decide +kernel, rfl, by decide +kernel, by decide +kernel⟩
theorem dpAll_len {K : PySem.W.Frag} {H : Hp} : ∀ {xs : List V} {ds : List PyData}, DpAll K H xs ds → xs.length = ds.length
  | _, _, .nil => rfl
  | _, _, .cons _ r => congrArg Nat.succ (dpAll_len r)
theorem ok_tup {f : Addr} {fd : FuncData} (F : Fun K "is_tuple_of" "is_tuple_of" sIsTup f fd) (T : TxtW mg) : FnOk P0 w K mg base CX0 1 f fd ["value", "many"] (spTup K) := by
  refine F.ok scIsTup (fun vs H Q E h => ?_) (fun cdv A outer s H vs Q E hr h => ?_)
  · obtain ⟨x, d, m, rfl, _⟩ := h
    rfl
  · obtain ⟨x, d, m, rfl, hd, k⟩ := h
    refine ⟨_, pss_one (ps_ret (pe_and (pe_callB call_isi (by rfl) T.isi (by decide +kernel) (pa_cons (pv 0) (pa_cons (pe_bltn (v := .ty "tuple") (by rfl) T.tuple (by decide +kernel) rfl) pa_nil)))
      (pe_one (pe_cmpR op_eq (pe_callB call_len_seq (by rfl) T.len PySem.boot_len (pa_cons (pv 0) pa_nil)) (pv 1) (nomark _))))), ?_⟩
    have ty := ty_of hd
    cases hd with
    | @tup a xs ds q r =>
      refine ⟨_, rfl, _, _, _, _, true, rfl, .ty _, ty, kit_ty (a := "tuple") (b := "tuple") (by decide +kernel), true, rfl, iteT ⟨_, rfl, a, xs, rfl, .inr q, _, rfl, rfl, ?_⟩⟩
      rw [dec_int, dpAll_len r]
      exact k
    | non => exact ⟨_, rfl, _, _, _, _, false, rfl, .ty _, ty, kit_ty (a := "NoneType") (b := "tuple") (by decide +kernel), false, rfl, iteF k⟩
    | bl b => exact ⟨_, rfl, _, _, _, _, false, rfl, .ty _, ty, kit_ty (a := "bool") (b := "tuple") (by decide +kernel), false, rfl, iteF k⟩
    | int b => exact ⟨_, rfl, _, _, _, _, false, rfl, .ty _, ty, kit_ty (a := "int") (b := "tuple") (by decide +kernel), false, rfl, iteF k⟩
    | str b => exact ⟨_, rfl, _, _, _, _, false, rfl, .ty _, ty, kit_ty (a := "str") (b := "tuple") (by decide +kernel), false, rfl, iteF k⟩
    | lst q r => exact ⟨_, rfl, _, _, _, _, false, rfl, .ty _, ty, kit_ty (a := "list") (b := "tuple") (by decide +kernel), false, rfl, iteF k⟩
end
theorem tup2 {K : PySem.W.Frag} {H : Hp} {x : V} {d : PyData} (hd : Dp K H x d) (h : isTupN 2 d = true) : ∃ a x1 x2 d1 d2, x = .ref a ∧ d = .tuple [d1, d2] ∧ SqT K H a [x1, x2] ∧ Dp K H x1 d1 ∧ Dp K H x2 d2 := by
  cases hd with
  | @tup a xs ds q r =>
    have hl : (ds.length : Int) = 2 := of_decide_eq_true h
    cases r with
    | nil =>
      simp only [List.length_nil] at hl
      omega
    | cons h1 r =>
      cases r with
      | nil =>
        simp only [List.length_cons, List.length_nil] at hl
        omega
      | cons h2 r =>
        cases r with
        | nil => exact ⟨a, _, _, _, _, rfl, rfl, q, h1, h2⟩
        | cons h3 r =>
          simp only [List.length_cons] at hl
          omega
  | non => cases h
  | bl b => cases h
  | int b => cases h
  | str b => cases h
  | lst q r => cases h
theorem sqT_same {K : PySem.W.Frag} {H H' : Hp} {a : Addr} {xs : List V} (e : Same H H') (h : SqT K H a xs) : SqT K H' a xs := by
  rcases h with (h | ⟨o, h⟩) | h
  · exact .inl (.inl (e _ _ h))
  · exact .inl (.inr ⟨o, e _ _ h⟩)
  · exact .inr h
mutual
theorem dp_same {K : PySem.W.Frag} {H H' : Hp} (e : Same H H') : ∀ {x : V} {d : PyData}, Dp K H x d → Dp K H' x d
  | _, _, .non => .non
  | _, _, .bl b => .bl b
  | _, _, .int i => .int i
  | _, _, .str s => .str s
  | _, _, .lst q r => .lst (e.seq q) (dpAll_same e r)
  | _, _, .tup q r => .tup (sqT_same e q) (dpAll_same e r)
theorem dpAll_same {K : PySem.W.Frag} {H H' : Hp} (e : Same H H') : ∀ {xs : List V} {ds : List PyData}, DpAll K H xs ds → DpAll K H' xs ds
  | _, _, .nil => .nil
  | _, _, .cons h r => .cons (dp_same e h) (dpAll_same e r)
end
/-- x's class is called t, whatever is made besides -/
def Lk (K : PySem.W.Frag) (H : Hp) (x : V) (t : String) : Prop := (∃ d, Dp K H x d ∧ t = tyN d) ∨ ∃ a kvs, x = .ref a ∧ H a = some (.dK kvs) ∧ t = "dict"
theorem lk_same {K : PySem.W.Frag} {H H' : Hp} {x : V} {t : String} (e : Same H H') (h : Lk K H x t) : Lk K H' x t := by
  rcases h with ⟨d, h, rfl⟩ | ⟨a, kvs, rfl, h, rfl⟩
  · exact .inl ⟨d, dp_same e h, rfl⟩
  · exact .inr ⟨a, kvs, rfl, e _ _ h, rfl⟩
theorem lk_ty {K : PySem.W.Frag} {H : Hp} {x : V} {t : String} (h : Lk K H x t) : TyX K H x (.type t) := by
  rcases h with ⟨d, h, rfl⟩ | ⟨a, kvs, rfl, h, rfl⟩
  · exact ty_of h
  · exact .base (.dK h)
section
variable {P0 : Program} {w : World} {K : PySem.W.Frag} {mg : Str → Option Value} {base : Heap}
def spIsList (K : PySem.W.Frag) : Sp := fun vs H Q _ => ∃ x t b, vs = [x] ∧ Lk K H x t ∧ (kitB t "list" = some b ∨ (kitB t "list" = some false ∧ kitB t "tuple" = some b)) ∧ ∀ H', Same H H' → Q (.bl b) H'
theorem scIsList : FnScope ["value"] ["value"] (defScope sIsList) := ⟨rfl, rfl, rfl, by decide +kernel, rfl, by decide +kernel, by decide +kernel⟩
theorem kit_two {K : PySem.W.Frag} {t : String} {b : Bool} (h : kitB t "list" = some true ∧ b = true ∨ (kitB t "list" = some false ∧ kitB t "tuple" = some b)) : PySem.W.kitAny K (.type t) [.type "list", .type "tuple"] = some b := by
  rcases h with ⟨h, rfl⟩ | ⟨h1, h2⟩
  · exact kitAny_cons (kit_ty h) (fun z => by cases z) fun _ => rfl
  · refine kitAny_cons (kit_ty h1) (fun _ => kitAny_cons (kit_ty h2) (fun z => by rw [z]; exact kitAny_nil) fun z => z) fun z => by cases z
theorem ok_islist {f : Addr} {fd : FuncData} (F : Fun K "is_list" "is_list" sIsList f fd) (T : TxtW mg) : FnOk P0 w K mg base CX0 1 f fd ["value"]
    (fun vs H Q _ => ∃ x t b, vs = [x] ∧ Lk K H x t ∧ (kitB t "list" = some true ∧ b = true ∨ (kitB t "list" = some false ∧ kitB t "tuple" = some b)) ∧ ∀ H', Same H H' → Q (.bl b) H') := by
  refine F.ok scIsList (fun vs H Q E h => ?_) (fun cdv A outer s H vs Q E hr h => ?_)
  · obtain ⟨x, t, b, rfl, _⟩ := h
    rfl
  · obtain ⟨x, t, b, rfl, hl, hb, k⟩ := h
    refine ⟨_, pss_one (ps_ret (pe_callB call_isiT (by rfl) T.isi (by decide +kernel) (pa_cons (pv 0) (pa_cons (pe_tup (pa_cons (pe_bltn (v := .ty "list") (by rfl) T.list (by decide +kernel) rfl) (pa_cons (pe_bltn (v := .ty "tuple") (by rfl) T.tuple (by decide +kernel) rfl) pa_nil))) pa_nil)))), ?_⟩
    refine ⟨_, rfl, by show 2 ≤ sizeLine; decide, fun p hp => ?_⟩
    exact ⟨x, p, _, _, _, b, rfl, upd_same, .cons (.ty _) (.cons (.ty _) .nil), lk_ty (lk_same (Pre.same_upd hp) hl), kit_two hb, k _ (Pre.same_upd hp)⟩
end
theorem dpAll_at {K : PySem.W.Frag} {H : Hp} : ∀ {xs : List V} {ds : List PyData} {i : Nat} {x : V}, DpAll K H xs ds → xs[i]? = some x → ∃ d, ds[i]? = some d ∧ Dp K H x d
  | _, _, 0, _, .cons h _, e => ⟨_, rfl, by cases e; exact h⟩
  | _, _, i + 1, _, .cons _ r, e => dpAll_at (i := i) r e
  | _, _, _, _, .nil, e => by cases e
end Wt
namespace Dc
open PySem PySem.Spec PyProof.Rows L2
/-- what was tracked newly since H -/
def Nw (H H1 : Hp) : Hp := fun b => match H b with
  | none => H1 b
  | some _ => none
theorem nw_at {H H1 : Hp} {b : Addr} {o : HO} (h : H b = none) (e : H1 b = some o) : Nw H H1 b = some o := by
  unfold Nw
  rw [h]
  exact e
theorem nw_inv {H H1 : Hp} {b : Addr} {o : HO} (e : Nw H H1 b = some o) : H b = none ∧ H1 b = some o := by
  unfold Nw at e
  cases h : H b with
  | none =>
    rw [h] at e
    exact ⟨rfl, e⟩
  | some _ =>
    rw [h] at e
    cases e
theorem nw_sub {H H1 : Hp} : Same (Nw H H1) H1 := fun _ _ e => (nw_inv e).2
theorem nw_mono {H H1 H2 : Hp} (s : Same H1 H2) : Same (Nw H H1) (Nw H H2) := fun _ _ e => nw_at (nw_inv e).1 (s _ _ (nw_inv e).2)
theorem nw_low {H H1 H2 : Hp} (s : Same H H1) : Same (Nw H1 H2) (Nw H H2) := fun _ _ e => nw_at (s.free (nw_inv e).1) (nw_inv e).2
/-- all but the state and its great ones -/
def wo (p g : Addr) (H : Hp) : Hp := fun b => if b = p then none else if b = g then none else H b
theorem wo_at {p g : Addr} {H : Hp} {b : Addr} {o : HO} (h1 : b ≠ p) (h2 : b ≠ g) (e : H b = some o) : wo p g H b = some o := by
  unfold wo
  rw [if_neg h1, if_neg h2]
  exact e
theorem wo_inv {p g : Addr} {H : Hp} {b : Addr} {o : HO} (e : wo p g H b = some o) : b ≠ p ∧ b ≠ g ∧ H b = some o := by
  unfold wo at e
  by_cases h1 : b = p
  · rw [if_pos h1] at e
    cases e
  · rw [if_neg h1] at e
    by_cases h2 : b = g
    · rw [if_pos h2] at e
      cases e
    · rw [if_neg h2] at e
      exact ⟨h1, h2, e⟩
theorem wo_sub {p g : Addr} {H : Hp} : Same (wo p g H) H := fun _ _ e => (wo_inv e).2.2
theorem wo_kp {p g : Addr} {H H1 : Hp} (k : Pre.Kp p g H H1) : Same (wo p g H) (wo p g H1) := fun b o e => by
  obtain ⟨h1, h2, h3⟩ := wo_inv e
  exact wo_at h1 h2 (k b o h1 h2 h3)
theorem wo_mono {p g : Addr} {H H1 : Hp} (k : Same H H1) : Same (wo p g H) (wo p g H1) := wo_kp (Pre.Kp.of k)
theorem nw_wo {p g : Addr} {H H1 : Hp} {u v : HO} (hp : H p = some u) (hg : H g = some v) : Same (Nw H H1) (wo p g H1) := fun b o e => by
  obtain ⟨h1, h2⟩ := nw_inv e
  refine wo_at (fun z => ?_) (fun z => ?_) h2
  · rw [z, hp] at h1
    cases h1
  · rw [z, hg] at h1
    cases h1
/-- e is written data: it comes to d, all that it needs newly made -/
abbrev ED (X : Cx) (e : Expr) (d : PyData) : Prop := PE X e (fun _ H Q => ∀ v H1, Same H H1 → Dp X.K (Nw H H1) v d → Q v H1)
abbrev AD (X : Cx) (es : List Expr) (ds : List PyData) : Prop := PA X es (fun _ H Q => ∀ vs H1, Same H H1 → DpAll X.K (Nw H H1) vs ds → Q vs H1)
section
variable {X : Cx} {e : Expr} {es : List Expr} {d : PyData} {ds : List PyData} {pos : Pos}
theorem pe_imp {t t' : TE} (h : PE X e t) (k : ∀ σ H Q, t' σ H Q → t σ H Q) : PE X e t' := ⟨fun pins s σ H Q I rd => h.run pins s σ H Q I (k σ H Q rd)⟩
theorem pa_imp {t t' : TA} (h : PA X es t) (k : ∀ σ H Q, t' σ H Q → t σ H Q) : PA X es t' := ⟨fun p pins s σ H Q I rd => h.run p pins s σ H Q I (k σ H Q rd)⟩
theorem ed_int {i j} : ED X (.Constant (.int i) j pos) (.int i) := pe_imp pe_int fun _ H _ k => k _ H (Same.refl _) (.int _)
theorem ed_bl {b j} : ED X (.Constant (.bool b) j pos) (.bool b) := pe_imp pe_bl fun _ H _ k => k _ H (Same.refl _) (.bl _)
theorem ed_non {j} : ED X (.Constant .none j pos) .none := pe_imp pe_non fun _ H _ k => k _ H (Same.refl _) .non
theorem ed_str {x j} : ED X (.Constant (.str x) j pos) (.str x) := pe_imp pe_str fun _ H _ k => k _ H (Same.refl _) (.str _)
theorem ed_neg {i j p2} : ED X (.UnaryOp .USub (.Constant (.int i) j p2) pos) (.int (-i)) := pe_imp (pe_un un_neg pe_int) fun _ H _ k => ⟨_, rfl, k _ H (Same.refl _) (.int _)⟩
theorem ad_nil : AD X [] [] := pa_imp pa_nil fun _ H _ k => k _ H (Same.refl _) .nil
theorem ad_cons (h : ED X e d) (r : AD X es ds) (hs : starEach (e :: es) X.env = (false, eval e X.env) :: starEach es X.env := by rfl) : AD X (e :: es) (d :: ds) :=
  pa_imp (pa_cons h r hs) fun _ H _ k v H1 s1 d1 vs H2 s2 d2 => k _ H2 (s1.trans s2) (.cons (Wt.dp_same (nw_mono s2) d1) (Wt.dpAll_same (nw_low s1) d2))
theorem new_one {H H1 : Hp} {p : Addr} {o : HO} (s1 : Same H H1) (hp : H1 p = none) : Nw H (upd H1 p o) p = some o := nw_at (s1.free hp) upd_same
theorem ed_tup {kk} (r : AD X es ds) (hl : ds.length ≤ 1000) : ED X (.Tuple es kk pos) (.tuple ds) :=
  pe_imp (pe_tup r) fun _ H _ k vs H1 s1 d1 => ⟨by rw [Wt.dpAll_len d1]; exact Nat.le_trans hl (by decide), fun p hp => k _ _ (s1.trans (Pre.same_upd hp)) (.tup (SqT.of (new_one s1 hp)) (Wt.dpAll_same (nw_mono (Pre.same_upd hp)) d1))⟩
theorem ed_lst (r : AD X es ds) (hl : ds.length ≤ 1000) : ED X (.List es pos) (.list ds) :=
  pe_imp (pe_lst r) fun _ H _ k vs H1 s1 d1 => ⟨by rw [Wt.dpAll_len d1]; exact Nat.le_trans hl (by decide), fun p hp => k _ _ (s1.trans (Pre.same_upd hp)) (.lst (SqL.of (new_one s1 hp)) (Wt.dpAll_same (nw_mono (Pre.same_upd hp)) d1))⟩
/-- a new list of written data -/
theorem pe_lstD (r : AD X es ds) (hl : ds.length ≤ 1000) : PE X (.List es pos) (fun _ H Q => ∀ l vs H1, Same H H1 → H l = none → H1 l = some (.lst vs) → DpAll X.K (Nw H H1) vs ds → Q (.ref l) H1) :=
  pe_imp (pe_lst r) fun _ H _ k vs H1 s1 d1 => ⟨by rw [Wt.dpAll_len d1]; exact Nat.le_trans hl (by decide), fun p hp => k p vs _ (s1.trans (Pre.same_upd hp)) (s1.free hp) upd_same (Wt.dpAll_same (nw_mono (Pre.same_upd hp)) d1)⟩
end
end Dc
namespace Wt
open PySem PySem.Spec PyProof.Rows L2
open Dc
open LamX (CodeO TabS Tabs ExtN TabB lamEnv lamCx)
theorem st_same {H H' : Hp} {p g c : Addr} {n : Nat} (h : Pre.St H p g c n) (s : Same H H') : Pre.St H' p g c n := by
  obtain ⟨⟨gs, cs, r, t, h1, h2, h3, h4⟩, h5⟩ := h
  exact ⟨⟨gs, cs, r, t, s _ _ h1, s _ _ h2, s _ _ h3, h4⟩, h5⟩
theorem st_more {H : Hp} {p g c : Addr} {n m : Nat} (h : Pre.St H p g c n) (l : n ≤ m) : Pre.St H p g c m := by
  obtain ⟨⟨gs, cs, r, t, h1, h2, h3, h4, h5, h6, h7⟩, h8⟩ := h
  exact ⟨⟨gs, cs, r, t, h1, h2, h3, h4, h5, h6, by omega⟩, h8⟩
theorem st_p {H : Hp} {p g c : Addr} {n : Nat} (h : Pre.St H p g c n) : ∃ u, H p = some u := by
  obtain ⟨⟨gs, cs, r, t, h1, _⟩, _⟩ := h
  exact ⟨_, h1⟩
theorem st_g {H : Hp} {p g c : Addr} {n : Nat} (h : Pre.St H p g c n) : ∃ u, H g = some u := by
  obtain ⟨⟨gs, cs, r, t, _, h1, _⟩, _⟩ := h
  exact ⟨_, h1⟩
theorem st_new {H : Hp} {p g c : Addr} {n : Nat} {l : Addr} (h : Pre.St H p g c n) (hl : H l = none) : l ≠ p ∧ l ≠ g := by
  obtain ⟨u, hu⟩ := st_p h
  obtain ⟨v, hv⟩ := st_g h
  exact ⟨(ne_of_none hu hl).symm, (ne_of_none hv hl).symm⟩
section
variable {P0 : Program} {w : World} {K : PySem.W.Frag} {mg : Str → Option Value} {base : Heap}
/-- the law's draws -/
structure Drw (K : PySem.W.Frag) (mg : Str → Option Value) (fD fP fB : Addr) (dD dP dB : FuncData) : Prop where
  T : Pre.TxtP mg
  zg : mg "range" = none
  FD : Fun K "_law_draw" "_law_draw" Pre.sDraw fD dD
  mD : mg "_law_draw" = some (.ref fD)
  FP : Fun K "_law_pick" "_law_pick" Pre.sPick fP dP
  mP : mg "_law_pick" = some (.ref fP)
  FB : Fun K "_law_blended" "_law_blended" Pre.sBlended fB dB
  mB : mg "_law_blended" = some (.ref fB)
end
/-- how the lambdas of the def x are called -/
abbrev lamQ (x : Str) (sc : Scope) : Str := (envOfC x sc 0 0 .none).qual ++ "<lambda>"
/-- all but the state, its great ones and tables stays -/
def Kx (p g : Addr) (H H' : Hp) : Prop := ∀ b o, b ≠ p → b ≠ g → (∀ ps, o ≠ .tbl ps) → H b = some o → H' b = some o
theorem Kx.trans {p g : Addr} {H H1 H2 : Hp} (a : Kx p g H H1) (b : Kx p g H1 H2) : Kx p g H H2 := fun x o h1 h2 h3 e => b x o h1 h2 h3 (a x o h1 h2 h3 e)
theorem Kx.kp {p g : Addr} {H H1 : Hp} (a : Pre.Kp p g H H1) : Kx p g H H1 := fun x o h1 h2 _ e => a x o h1 h2 e
theorem Kx.ext {p g : Addr} {H H1 : Hp} (a : ExtN H H1) : Kx p g H H1 := fun x o _ _ h e => a x o e h
theorem Kx.of {p g : Addr} {H H1 : Hp} (a : Same H H1) : Kx p g H H1 := fun x o _ _ _ e => a x o e
theorem ext_of {H H1 : Hp} (a : Same H H1) : ExtN H H1 := fun x o e _ => a x o e
/-- tables apart -/
def nt (H : Hp) : Hp := fun b => match H b with
  | some (.tbl _) => none
  | x => x
theorem nt_at {H : Hp} {b : Addr} {o : HO} (e : H b = some o) (h : ∀ ps, o ≠ .tbl ps) : nt H b = some o := by
  unfold nt
  rw [e]
  cases o <;> first | rfl | exact absurd rfl (h _)
theorem nt_inv {H : Hp} {b : Addr} {o : HO} (e : nt H b = some o) : H b = some o ∧ ∀ ps, o ≠ .tbl ps := by
  unfold nt at e
  split at e
  · cases e
  · rename_i h
    exact ⟨e, fun ps z => h ps (by rw [e, z])⟩
theorem nt_sub {H : Hp} : Same (nt H) H := fun _ _ e => (nt_inv e).1
def wx (p g : Addr) (H : Hp) : Hp := nt (wo p g H)
theorem wx_sub {p g : Addr} {H : Hp} : Same (wx p g H) H := nt_sub.trans wo_sub
theorem wx_kx {p g : Addr} {H H1 : Hp} (k : Kx p g H H1) : Same (wx p g H) (wx p g H1) := fun b o e => by
  obtain ⟨h1, h2⟩ := nt_inv e
  obtain ⟨h3, h4, h5⟩ := wo_inv h1
  exact nt_at (wo_at h3 h4 (k b o h3 h4 h2 h5)) h2
theorem sqT_nt {K : PySem.W.Frag} {H : Hp} {a : Addr} {xs : List V} (h : SqT K H a xs) : SqT K (nt H) a xs := by
  rcases h with (h | ⟨o, h⟩) | h
  · exact .inl (.inl (nt_at h (fun _ z => by cases z)))
  · exact .inl (.inr ⟨o, nt_at h (fun _ z => by cases z)⟩)
  · exact .inr h
theorem sqL_nt {K : PySem.W.Frag} {H : Hp} {a : Addr} {xs : List V} (h : SqL K H a xs) : SqL K (nt H) a xs := by
  rcases h with (h | ⟨o, h⟩) | h
  · exact .inl (.inl (nt_at h (fun _ z => by cases z)))
  · exact .inl (.inr ⟨o, nt_at h (fun _ z => by cases z)⟩)
  · exact .inr h
mutual
theorem dp_nt {K : PySem.W.Frag} {H : Hp} : ∀ {x : V} {d : PyData}, Dp K H x d → Dp K (nt H) x d
  | _, _, .non => .non
  | _, _, .bl b => .bl b
  | _, _, .int i => .int i
  | _, _, .str s => .str s
  | _, _, .lst q r => .lst (sqL_nt q) (dpAll_nt r)
  | _, _, .tup q r => .tup (sqT_nt q) (dpAll_nt r)
theorem dpAll_nt {K : PySem.W.Frag} {H : Hp} : ∀ {xs : List V} {ds : List PyData}, DpAll K H xs ds → DpAll K (nt H) xs ds
  | _, _, .nil => .nil
  | _, _, .cons h r => .cons (dp_nt h) (dpAll_nt r)
end
theorem st_ext {H H' : Hp} {p g c : Addr} {n : Nat} (h : Pre.St H p g c n) (s : ExtN H H') : Pre.St H' p g c n := by
  obtain ⟨⟨gs, cs, r, t, h1, h2, h3, h4⟩, h5⟩ := h
  exact ⟨⟨gs, cs, r, t, s _ _ h1 (fun _ z => by cases z), s _ _ h2 (fun _ z => by cases z), s _ _ h3 (fun _ z => by cases z), h4⟩, h5⟩
theorem at_wx {K : PySem.W.Frag} {H : Hp} {p g c a : Addr} {n : Nat} {xs : List V} (h : SqT K H a xs) (hs : Pre.St H p g c n) : SqT K (wx p g H) a xs := by
  obtain ⟨⟨gs, cs, r, t, hp, hg, _⟩, _⟩ := hs
  refine sqT_nt ?_
  have off : ∀ o, H a = some o → (∀ kvs, o ≠ .dK kvs) → (∀ ys, o ≠ .lst ys) → wo p g H a = some o := fun o e n1 n2 => wo_at (fun y => by
    rw [y, hp] at e
    cases e
    exact n1 _ rfl) (fun y => by
    rw [y, hg] at e
    cases e
    exact n2 _ rfl) e
  rcases h with (h | ⟨o, h⟩) | h
  · exact .inl (.inl (off _ h (fun _ z => by cases z) (fun _ z => by cases z)))
  · exact .inl (.inr ⟨o, off _ h (fun _ z => by cases z) (fun _ z => by cases z)⟩)
  · exact .inr h
theorem at_kx {K : PySem.W.Frag} {H H' : Hp} {p g c a : Addr} {n : Nat} {xs : List V} (h : SqT K H a xs) (hs : Pre.St H p g c n) (k : Kx p g H H') : SqT K H' a xs := sqT_same wx_sub (sqT_same (wx_kx k) (at_wx h hs))
theorem one_l {a : Addr} {q : Str} : ∀ z ∈ [(a, q)], z.1 = a → z.2 = q := fun z hz _ => by
  rw [List.mem_singleton.mp hz]
theorem tabs_kp {PR : Addr} {q : Str} {H H' : Hp} {p g c : Addr} {n : Nat} (t : Tabs [(PR, q)] H) (hs : Pre.St H p g c n) (k : Pre.Kp p g H H') : Tabs [(PR, q)] H' := fun z hz => by
  obtain ⟨ps, h1, h2, h3⟩ := t z hz
  obtain ⟨⟨gs, cs, r, t, hp, hg, _⟩, _⟩ := hs
  have off : ∀ b o, H b = some o → (∀ kvs, o ≠ .dK kvs) → (∀ xs, o ≠ .lst xs) → H' b = some o := fun b o e n1 n2 => k b o (fun y => by
    rw [y, hp] at e
    cases e
    exact n1 _ rfl) (fun y => by
    rw [y, hg] at e
    cases e
    exact n2 _ rfl) e
  refine ⟨ps, off _ _ h1 (fun _ y => by cases y) (fun _ y => by cases y), h2, fun pos cv hc => ?_⟩
  obtain ⟨c0, e1, e2⟩ := h3 pos cv hc
  exact ⟨c0, e1, off _ _ e2 (fun _ y => by unfold CodeO at y; cases y) (fun _ y => by unfold CodeO at y; cases y)⟩
theorem tabs_same {PR : Addr} {q : Str} {H H' : Hp} (t : Tabs [(PR, q)] H) (s : Same H H') : Tabs [(PR, q)] H' := t.ext s
theorem go_name {i : Nat} {v : V} {σ : L2.St} {H : Hp} {Q : L2.St → Hp → Prop} (h : Q (σ.set i (some v)) H) : gName i v σ H Q := h
theorem go_seq {t u : TS} {D : Ends} {σ : L2.St} {H : Hp} (h : t { D with nx := u D } σ H) : tSeq t u D σ H := h
theorem go_nx {f b c : L2.St → Hp → Prop} {r : V → Hp → Prop} {σ : L2.St} {H : Hp} (h : f σ H) : (Ends.mk f r b c).nx σ H := h
theorem go_asg {te : TE} {g : TG} {D : Ends} {σ : L2.St} {H : Hp} (h : te σ H fun x H1 => g x σ H1 D.nx) : tAsg te g D σ H := h
theorem go_par {i j : Nat} {ta tb : TE} {D : Ends} {σ : L2.St} {H : Hp} (h : ta σ H fun x H1 => tb σ H1 fun y H2 => D.nx ((σ.set i (some x)).set j (some y)) H2) : tPar i j (tCons ta (tCons tb tNil)) D σ H := by
  show ta σ H fun x H1 => tb σ H1 fun y H2 => ∃ v w, [x, y] = [v, w] ∧ D.nx ((σ.set i (some v)).set j (some w)) H2
  have e : (fun x H1 => tb σ H1 fun y H2 => ∃ v w, [x, y] = [v, w] ∧ D.nx ((σ.set i (some v)).set j (some w)) H2) = (fun x H1 => tb σ H1 fun y H2 => D.nx ((σ.set i (some x)).set j (some y)) H2) := by
    funext x H1
    congr 1
    funext y H2
    apply propext
    constructor
    · rintro ⟨v, w, e, h⟩
      cases e
      exact h
    · intro h
      exact ⟨x, y, rfl, h⟩
  rw [e]
  exact h
theorem go_on {f b c : L2.St → Hp → Prop} {r : V → Hp → Prop} {σ : L2.St} {H : Hp} (h : f σ H) : tNext (Ends.mk f r b c) σ H := h
end Wt

namespace Kn
open PySem PySem.Spec PyProof.Rows L2
open Wt Dc
abbrev sWithin : Stmt := Pre.top 7
abbrev sIsNum : Stmt := Pre.top 13
abbrev sIsTo : Stmt := Pre.top 14
abbrev sIsKind : Stmt := Pre.top 15
/-! ## data that may be compared -/
abbrev Sh (d : PyData) : Prop := SeqAt.shaped d = true
theorem sh_of {d : PyData} (h1 : d.canLay0 = true) (h2 : d.depth ≤ 64) : Sh d := by
  show (d.canLay0 && decide (d.depth ≤ 64)) = true
  rw [h1, decide_eq_true h2]
  rfl
theorem sh_can {d : PyData} (h : Sh d) : d.canLay0 = true := SeqAt.canLay_of_shaped h
theorem sh_dep {d : PyData} (h : Sh d) : d.depth ≤ 64 := SeqAt.depth_of_shaped h
theorem can_mem : ∀ {ds : List PyData} {d : PyData}, PyData.canLayAll0 ds = true → d ∈ ds → d.canLay0 = true
  | x :: xs, d, h, hm => by
    have h' : (x.canLay0 && PyData.canLayAll0 xs) = true := h
    rw [Bool.and_eq_true] at h'
    rcases List.mem_cons.mp hm with e | e
    · rw [e]
      exact h'.1
    · exact can_mem h'.2 e
theorem dep_mem : ∀ {ds : List PyData} {d : PyData}, d ∈ ds → d.depth ≤ PyData.depthAll ds
  | x :: xs, d, hm => by
    show d.depth ≤ max x.depth (PyData.depthAll xs)
    rcases List.mem_cons.mp hm with e | e
    · rw [e]
      exact Nat.le_max_left _ _
    · exact Nat.le_trans (dep_mem e) (Nat.le_max_right _ _)
theorem sh_tup {ds : List PyData} (h : Sh (.tuple ds)) {d : PyData} (hm : d ∈ ds) : Sh d := by
  have h1 : PyData.canLayAll0 ds = true := sh_can h
  have h2 : PyData.depthAll ds + 1 ≤ 64 := sh_dep h
  exact sh_of (can_mem h1 hm) (Nat.le_trans (dep_mem hm) (by omega))
theorem eqv_str {d : PyData} {t : Str} (h : PyData.eqv d (.str t) = true) : d = .str t := by
  cases d with
  | str s =>
    have h' : (s == t) = true := h
    rw [eq_of_beq h']
  | none => cases h
  | bool _ => cases h
  | int _ => cases h
  | list _ => cases h
  | tuple _ => cases h
  | dict _ => cases h
theorem eqv_self (t : Str) : PyData.eqv (.str t) (.str t) = true := by
  show (t == t) = true
  exact beq_self_eq_true t
/-! ## kinds -/
def within (lo hi : Int) : PyData → Bool
  | .int i => decide (lo ≤ i) && decide (i ≤ hi)
  | _ => false
def isNumD : PyData → Bool
  | .tuple [d, e] => PyData.eqv d (.str "num") && within 1 6 e
  | _ => false
def isToD : PyData → Bool
  | .tuple [d, _, _] => PyData.eqv d (.str "to")
  | _ => false
def addO : Option Nat → Option Nat → Option Nat
  | some m, some n => some (m + n)
  | _, _ => none
/-- how many nums, if d is put together as a kind is -/
def cnt : PyData → Option Nat
  | .tuple [.str s, .int k] => if s = "num" ∧ 1 ≤ k ∧ k ≤ 6 then some 1 else none
  | .tuple [.str s, a, b] => if s = "to" then addO (cnt a) (cnt b) else none
  | _ => none
theorem addO_some {x y : Option Nat} {n : Nat} (h : addO x y = some n) : ∃ m k, x = some m ∧ y = some k ∧ n = m + k := by
  cases x with
  | none => cases h
  | some m =>
    cases y with
    | none => cases h
    | some k =>
      cases h
      exact ⟨m, k, rfl, rfl, rfl⟩
theorem cnt_num {s : Str} {k : Int} : cnt (.tuple [.str s, .int k]) = if s = "num" ∧ 1 ≤ k ∧ k ≤ 6 then some 1 else none := by
  rw [cnt]
theorem cnt_to {s : Str} {a b : PyData} : cnt (.tuple [.str s, a, b]) = if s = "to" then addO (cnt a) (cnt b) else none := by
  rw [cnt]
theorem cnt_pos : ∀ {d : PyData} {n : Nat}, cnt d = some n → 1 ≤ n := fun {d} => by
  fun_induction cnt d with
  | case1 s k hs =>
    intro n h
    cases h
    exact Nat.le_refl _
  | case2 s k hs =>
    intro n h
    cases h
  | case3 a b ih1 ih2 =>
    intro n h
    obtain ⟨m, k, h1, h2, rfl⟩ := addO_some h
    have := ih1 h1
    omega
  | case4 s a b hs =>
    intro n h
    cases h
  | case5 d h1 h2 =>
    intro n h
    cases h
theorem isNum_cnt {d : PyData} (h : isNumD d = true) : cnt d = some 1 := by
  unfold isNumD at h
  split at h
  · rename_i a b
    rw [Bool.and_eq_true] at h
    have e := eqv_str h.1
    subst e
    cases b with
    | int k =>
      have h2 : (decide (1 ≤ k) && decide (k ≤ 6)) = true := h.2
      rw [Bool.and_eq_true] at h2
      rw [cnt_num, if_pos ⟨rfl, of_decide_eq_true h2.1, of_decide_eq_true h2.2⟩]
    | _ => cases h.2
  · cases h
theorem isTo_cnt {d : PyData} (h : isToD d = true) : ∃ a b : PyData, d = .tuple [.str "to", a, b] ∧ cnt d = addO (cnt a) (cnt b) := by
  unfold isToD at h
  split at h
  · rename_i x y z
    have e' := eqv_str h
    rw [e']
    exact ⟨_, _, rfl, by rw [cnt_to, if_pos rfl]⟩
  · cases h
theorem other_cnt {d : PyData} (h1 : isNumD d = false) (h2 : isToD d = false) : cnt d = none := by
  cases h : cnt d with
  | none => rfl
  | some n =>
    unfold cnt at h
    split at h
    · rename_i s k
      split at h
      · rename_i hs
        obtain ⟨rfl, k1, k2⟩ := hs
        have z : isNumD (.tuple [.str "num", .int k]) = true := by
          show (PyData.eqv (.str "num") (.str "num") && (decide (1 ≤ k) && decide (k ≤ 6))) = true
          rw [eqv_self, decide_eq_true k1, decide_eq_true k2]
          rfl
        rw [z] at h1
        cases h1
      · cases h
    · split at h
      · rename_i hs
        rw [hs] at h2
        have z := h2.symm.trans (eqv_self "to")
        cases z
      · cases h
    · cases h
def isK (d : PyData) : Bool := match cnt d with
  | some n => decide (n ≤ 12)
  | none => false
def tots : List PyData → Option Nat
  | [] => some 0
  | d :: ds => addO (cnt d) (tots ds)
theorem addO_assoc (x y z : Option Nat) : addO (addO x y) z = addO x (addO y z) := by
  cases x <;> cases y <;> cases z <;> simp [addO, Nat.add_assoc]
theorem addO_comm (x y : Option Nat) : addO x y = addO y x := by
  cases x <;> cases y <;> simp [addO, Nat.add_comm]
theorem addO_zero (x : Option Nat) : addO x (some 0) = x := by
  cases x <;> simp [addO]
theorem tots_snoc (ds : List PyData) (d : PyData) : tots (ds ++ [d]) = addO (tots ds) (cnt d) := by
  induction ds with
  | nil =>
    show addO (cnt d) (some 0) = addO (some 0) (cnt d)
    rw [addO_comm]
  | cons x xs ih =>
    show addO (cnt x) (tots (xs ++ [d])) = addO (addO (cnt x) (tots xs)) (cnt d)
    rw [ih, addO_assoc]
theorem tots_len : ∀ {ds : List PyData} {m : Nat}, tots ds = some m → ds.length ≤ m
  | [], _, _ => Nat.zero_le _
  | d :: ds, m, h => by
    obtain ⟨a, b, h1, h2, rfl⟩ := addO_some h
    have := cnt_pos h1
    have := tots_len h2
    simp only [List.length_cons]
    omega
def fin (n : Nat) (ds : List PyData) : Bool := match tots ds with
  | some m => decide (n + m ≤ 12)
  | none => false
theorem fin_one (d : PyData) : fin 0 [d] = isK d := by
  show (match addO (cnt d) (some 0) with
    | some m => decide (0 + m ≤ 12)
    | none => false) = isK d
  rw [addO_zero]
  unfold isK
  cases cnt d with
  | none => rfl
  | some n => simp
theorem fin_num {n : Nat} {ds : List PyData} {d : PyData} (h : isNumD d = true) : fin n (ds ++ [d]) = fin (n + 1) ds := by
  unfold fin
  rw [tots_snoc, isNum_cnt h]
  cases tots ds with
  | none => rfl
  | some m =>
    show decide (n + (m + 1) ≤ 12) = decide (n + 1 + m ≤ 12)
    have e : n + (m + 1) = n + 1 + m := by omega
    rw [e]
theorem fin_to {n : Nat} {ds : List PyData} {a b : PyData} : fin n (ds ++ [.tuple [.str "to", a, b]]) = fin n (ds ++ [a] ++ [b]) := by
  unfold fin
  rw [tots_snoc, tots_snoc, tots_snoc, cnt_to, if_pos rfl, addO_assoc]
theorem fin_none {n : Nat} {ds : List PyData} {d : PyData} (h : cnt d = none) : fin n (ds ++ [d]) = false := by
  unfold fin
  rw [tots_snoc, h]
  cases tots ds <;> rfl
theorem fin_long {n : Nat} {ds : List PyData} (h : 12 < n + ds.length) : fin n ds = false := by
  unfold fin
  cases e : tots ds with
  | none => rfl
  | some m =>
    have := tots_len e
    exact decide_eq_false (by omega)
theorem fin_nil {n : Nat} (h : n ≤ 12) : fin n [] = true := decide_eq_true (by omega)
noncomputable def wt : List PyData → Nat
  | [] => 0
  | d :: ds => sizeOf d + wt ds
theorem wt_snoc (ds : List PyData) (d : PyData) : wt (ds ++ [d]) = wt ds + sizeOf d := by
  induction ds with
  | nil =>
    show sizeOf d + 0 = 0 + sizeOf d
    omega
  | cons x xs ih =>
    show sizeOf x + wt (xs ++ [d]) = sizeOf x + wt xs + sizeOf d
    rw [ih]
    omega
theorem to_size (a b : PyData) (s : Str) : sizeOf a + sizeOf b < sizeOf (PyData.tuple [.str s, a, b]) := by
  simp only [PyData.tuple.sizeOf_spec, List.cons.sizeOf_spec, List.nil.sizeOf_spec]
  omega
theorem size_pos (d : PyData) : 0 < sizeOf d := by
  cases d <;> simp <;> omega
theorem dpAll_snoc {K : PySem.W.Frag} {H : Hp} : ∀ {vs : List V} {ds : List PyData} {v : V} {d : PyData}, DpAll K H vs ds → Dp K H v d → DpAll K H (vs ++ [v]) (ds ++ [d])
  | _, _, _, _, .nil, h => .cons h .nil
  | _, _, _, _, .cons h1 r, h => .cons h1 (dpAll_snoc r h)
theorem dpAll_last {K : PySem.W.Frag} {H : Hp} : ∀ {vs : List V} {ds : List PyData}, DpAll K H vs ds → vs ≠ [] → ∃ vs' v ds' d, vs = vs' ++ [v] ∧ ds = ds' ++ [d] ∧ DpAll K H vs' ds' ∧ Dp K H v d
  | _, _, .nil, h => absurd rfl h
  | _, _, .cons (v := v) (d := d) h1 .nil, _ => ⟨[], v, [], d, rfl, rfl, .nil, h1⟩
  | _, _, .cons (v := v) (d := d) h1 (.cons h2 r), _ => by
    obtain ⟨vs', v', ds', d', e1, e2, e3, e4⟩ := dpAll_last (.cons h2 r) (by simp)
    exact ⟨v :: vs', v', d :: ds', d', by rw [e1]; rfl, by rw [e2]; rfl, .cons h1 e3, e4⟩
end Kn

namespace Kn
open PySem PySem.Spec PyProof.Rows L2
open Wt Dc
theorem isNum_tup {d : PyData} (h : isTupN 2 d = false) : isNumD d = false := by
  cases e : isNumD d with
  | false => rfl
  | true =>
    unfold isNumD at e
    split at e
    · cases h
    · cases e
theorem isTo_tup {d : PyData} (h : isTupN 3 d = false) : isToD d = false := by
  cases e : isToD d with
  | false => rfl
  | true =>
    unfold isToD at e
    split at e
    · cases h
    · cases e
theorem tup3 {K : PySem.W.Frag} {H : Hp} {x : V} {d : PyData} (hd : Dp K H x d) (h : isTupN 3 d = true) : ∃ a x1 x2 x3 d1 d2 d3, x = .ref a ∧ d = .tuple [d1, d2, d3] ∧ SqT K H a [x1, x2, x3] ∧ Dp K H x1 d1 ∧ Dp K H x2 d2 ∧ Dp K H x3 d3 := by
  cases hd with
  | @tup a xs ds q r =>
    have hl : (ds.length : Int) = 3 := of_decide_eq_true h
    match ds, hl, xs, q, r with
    | [d1, d2, d3], _, _, q, .cons h1 (.cons h2 (.cons h3 .nil)) => exact ⟨a, _, _, _, _, _, _, rfl, rfl, q, h1, h2, h3⟩
    | [], hl, _, _, _ => simp at hl
    | [_], hl, _, _, _ => simp at hl
    | [_, _], hl, _, _, _ => simp at hl
    | _ :: _ :: _ :: _ :: _, hl, _, _, _ =>
      simp only [List.length_cons] at hl
      omega
  | non => cases h
  | bl b => cases h
  | int b => cases h
  | str b => cases h
  | lst q r => cases h
theorem upd_upd {H : Hp} {a : Addr} {o u : HO} : upd (upd H a o) a u = upd H a u := by
  funext b
  by_cases h : b = a
  · rw [h, upd_same, upd_same]
  · rw [upd_ne h, upd_ne h, upd_ne h]
section
variable {P0 : Program} {w : World} {K : PySem.W.Frag} {mg : Str → Option Value} {base : Heap}
def spWithin (K : PySem.W.Frag) : Sp := fun vs H Q _ => ∃ x d lo hi, vs = [x, .int lo, .int hi] ∧ Dp K H x d ∧ Q (.bl (within lo hi d)) H
theorem scWithin : FnScope ["value", "low", "high"] ["value", "low", "high"] (defScope sWithin) := ⟨rfl, rfl, rfl, by decide +kernel, rfl, by decide +kernel, by decide +kernel⟩
theorem ok_within {f fW : Addr} {fd dW : FuncData} (F : Fun K "is_within" "is_within" sWithin f fd) (T : TxtW mg) (FW : Fun K "is_whole" "is_whole" sIsWhole fW dW) (mW : mg "is_whole" = some (.ref fW)) : FnOk P0 w K mg base CX0 2 f fd ["value", "low", "high"] (spWithin K) := by
  have GW : FnOk P0 w K mg base CX0 1 fW dW ["value"] (spWhole K) := ok_whole FW T
  have bW := FW.binds (ps := ["value"]) fun _ _ _ _ _ _ us hl => match us, hl with | [_], _ => rfl
  refine F.ok scWithin (fun vs H Q E h => ?_) (fun cdv A outer s H vs Q E hr h => ?_)
  · obtain ⟨x, d, lo, hi, rfl, _⟩ := h
    rfl
  · obtain ⟨x, d, lo, hi, rfl, hd, k⟩ := h
    refine ⟨_, pss_one (ps_ret (pe_and (pe_call GW hr rfl mW FW.kp bW .nil pass0 (pa_cons (pv 0) pa_nil)) (pe_one (pe_chain op_le op_le (pv 1) (pv 0) (pv 2))))), ?_⟩
    refine ⟨_, rfl, x, d, rfl, hd, _, rfl, ?_⟩
    cases hd with
    | int i =>
      refine iteT ⟨_, rfl, _, rfl, _, _, rfl, rfl, _, rfl, ?_⟩
      by_cases h1 : lo ≤ i
      · have e : within lo hi (.int i) = decide (i ≤ hi) := by
          show (decide (lo ≤ i) && decide (i ≤ hi)) = decide (i ≤ hi)
          rw [decide_eq_true h1, Bool.true_and]
        rw [e] at k
        rw [decide_eq_true h1]
        exact iteT ⟨_, rfl, _, _, rfl, rfl, k⟩
      · have e : within lo hi (.int i) = false := by
          show (decide (lo ≤ i) && decide (i ≤ hi)) = false
          rw [decide_eq_false h1, Bool.false_and]
        rw [e] at k
        rw [decide_eq_false h1]
        exact iteF k
    | non => exact iteF k
    | bl b => exact iteF k
    | str b => exact iteF k
    | lst _ _ => exact iteF k
    | tup _ _ => exact iteF k
/-- the two numbers of the package -/
structure Nms (mg : Str → Option Value) (t1 t2 : Tok) : Prop where
  six : mg "MOST_NUMBERS" = some (.int 6 t1)
  twelve : mg "MOST_NUMS" = some (.int 12 t2)
def spData (K : PySem.W.Frag) (g : PyData → Bool) : Sp := fun vs H Q _ => ∃ x d, vs = [x] ∧ Dp K H x d ∧ Sh d ∧ Q (.bl (g d)) H
theorem scIsNum : FnScope ["value"] ["value"] (defScope sIsNum) := ⟨rfl, rfl, rfl, by decide +kernel, rfl, by decide +kernel, by decide +kernel⟩
theorem scIsTo : FnScope ["value"] ["value"] (defScope sIsTo) := ⟨rfl, rfl, rfl, by decide +kernel, rfl, by decide +kernel, by decide +kernel⟩
theorem sh_num : Sh (.str "num") := by decide +kernel
theorem sh_to : Sh (.str "to") := by decide +kernel
theorem ok_isnum {f fT fN fW : Addr} {fd dT dN dW : FuncData} {t1 t2 : Tok} (F : Fun K "is_num" "is_num" sIsNum f fd) (T : TxtW mg) (M : Nms mg t1 t2) (FT : Fun K "is_tuple_of" "is_tuple_of" sIsTup fT dT) (mT : mg "is_tuple_of" = some (.ref fT)) (FN : Fun K "is_within" "is_within" sWithin fN dN) (mN : mg "is_within" = some (.ref fN)) (FW : Fun K "is_whole" "is_whole" sIsWhole fW dW) (mW : mg "is_whole" = some (.ref fW)) :
    FnOk P0 w K mg base CX0 3 f fd ["value"] (spData K isNumD) := by
  have GT : FnOk P0 w K mg base CX0 1 fT dT ["value", "many"] (spTup K) := ok_tup FT T
  have GN : FnOk P0 w K mg base CX0 2 fN dN ["value", "low", "high"] (spWithin K) := ok_within FN T FW mW
  have bT := FT.binds (ps := ["value", "many"]) fun _ _ _ _ _ _ us hl => match us, hl with | [_, _], _ => rfl
  have bN := FN.binds (ps := ["value", "low", "high"]) fun _ _ _ _ _ _ us hl => match us, hl with | [_, _, _], _ => rfl
  refine F.ok scIsNum (fun vs H Q E h => ?_) (fun cdv A outer s H vs Q E hr h => ?_)
  · obtain ⟨x, d, rfl, _⟩ := h
    rfl
  · obtain ⟨x, d, rfl, hd, hsh, k⟩ := h
    have hr1 : Room 1 _ := hr.mono (by decide)
    refine ⟨_, pss_one (ps_ret (pe_and (pe_call GT hr1 rfl mT FT.kp bT .nil pass0 (pa_cons (pv 0) (pa_cons pe_int pa_nil))) (pe_and (pe_cmpR (op_eqD hr.units) (pe_ix ix_tup (pv 0) pe_int (fun _ _ => rfl)) pe_str (nomark _))
      (pe_one (pe_call GN hr rfl mN FN.kp bN .nil pass0 (pa_cons (pe_ix ix_tup (pv 0) pe_int (fun _ _ => rfl)) (pa_cons pe_int (pa_cons (pe_glob (v := .int 6) (by rfl) M.six ⟨_, rfl⟩) pa_nil)))))))), ?_⟩
    refine ⟨_, rfl, x, d, 2, rfl, hd, _, rfl, ?_⟩
    cases ht : isTupN 2 d with
    | false =>
      refine iteF ?_
      rw [isNum_tup ht] at k
      exact k
    | true =>
      obtain ⟨a, x1, x2, d1, d2, rfl, rfl, q, h1, h2⟩ := tup2 hd ht
      have s1 : Sh d1 := sh_tup hsh (by simp)
      refine iteT ⟨_, rfl, a, _, _, _, rfl, rfl, q, rfl, d1, .str "num", h1, .str _, s1, sh_num, _, rfl, ?_⟩
      cases e : PyData.eqv d1 (.str "num") with
      | false =>
        have e2 : isNumD (.tuple [d1, d2]) = false := by
          show (PyData.eqv d1 (.str "num") && within 1 6 d2) = false
          rw [e]
          rfl
        rw [e2] at k
        exact iteF k
      | true =>
        have e2 : isNumD (.tuple [d1, d2]) = within 1 6 d2 := by
          show (PyData.eqv d1 (.str "num") && within 1 6 d2) = within 1 6 d2
          rw [e]
          rfl
        rw [e2] at k
        exact iteT ⟨_, rfl, a, _, _, _, rfl, rfl, q, rfl, x2, d2, 1, 6, rfl, h2, k⟩
theorem ok_isto {f fT : Addr} {fd dT : FuncData} (F : Fun K "_is_to" "_is_to" sIsTo f fd) (T : TxtW mg) (FT : Fun K "is_tuple_of" "is_tuple_of" sIsTup fT dT) (mT : mg "is_tuple_of" = some (.ref fT)) :
    FnOk P0 w K mg base CX0 2 f fd ["value"] (spData K isToD) := by
  have GT : FnOk P0 w K mg base CX0 1 fT dT ["value", "many"] (spTup K) := ok_tup FT T
  have bT := FT.binds (ps := ["value", "many"]) fun _ _ _ _ _ _ us hl => match us, hl with | [_, _], _ => rfl
  refine F.ok scIsTo (fun vs H Q E h => ?_) (fun cdv A outer s H vs Q E hr h => ?_)
  · obtain ⟨x, d, rfl, _⟩ := h
    rfl
  · obtain ⟨x, d, rfl, hd, hsh, k⟩ := h
    refine ⟨_, pss_one (ps_ret (pe_and (pe_call GT hr rfl mT FT.kp bT .nil pass0 (pa_cons (pv 0) (pa_cons pe_int pa_nil))) (pe_one (pe_cmpR (op_eqD hr.units) (pe_ix ix_tup (pv 0) pe_int (fun _ _ => rfl)) pe_str (nomark _))))), ?_⟩
    refine ⟨_, rfl, x, d, 3, rfl, hd, _, rfl, ?_⟩
    cases ht : isTupN 3 d with
    | false =>
      refine iteF ?_
      rw [isTo_tup ht] at k
      exact k
    | true =>
      obtain ⟨a, x1, x2, x3, d1, d2, d3, rfl, rfl, q, h1, h2, h3⟩ := tup3 hd ht
      have s1 : Sh d1 := sh_tup hsh (by simp)
      exact iteT ⟨_, rfl, a, _, _, _, rfl, rfl, q, rfl, d1, .str "to", h1, .str _, s1, sh_to, k⟩
def spIsK (K : PySem.W.Frag) : Sp := fun vs H Q _ => ∃ x d, vs = [x] ∧ Dp K H x d ∧ Sh d ∧ ∀ H', Same H H' → Q (.bl (isK d)) H'
theorem scIsKind : FnScope ["value", "waiting", "nums", "part"] ["value"] (defScope sIsKind) := ⟨rfl, rfl, rfl, by decide +kernel, rfl, by decide +kernel, by decide +kernel⟩
/-- is_kind's own defs -/
structure KdK (K : PySem.W.Frag) (mg : Str → Option Value) (fT fN fW f1 f2 : Addr) (dT dN dW d1 d2 : FuncData) (t1 t2 : Tok) : Prop where
  T : TxtW mg
  M : Nms mg t1 t2
  FT : Fun K "is_tuple_of" "is_tuple_of" sIsTup fT dT
  mT : mg "is_tuple_of" = some (.ref fT)
  FN : Fun K "is_within" "is_within" sWithin fN dN
  mN : mg "is_within" = some (.ref fN)
  FW : Fun K "is_whole" "is_whole" sIsWhole fW dW
  mW : mg "is_whole" = some (.ref fW)
  F1 : Fun K "is_num" "is_num" sIsNum f1 d1
  m1 : mg "is_num" = some (.ref f1)
  F2 : Fun K "_is_to" "_is_to" sIsTo f2 d2
  m2 : mg "_is_to" = some (.ref f2)
theorem ok_iskind {f fT fN fW f1 f2 : Addr} {fd dT dN dW d1 d2 : FuncData} {t1 t2 : Tok} (F : Fun K "is_kind" "is_kind" sIsKind f fd) (D : KdK K mg fT fN fW f1 f2 dT dN dW d1 d2 t1 t2) : FnOk P0 w K mg base CX0 4 f fd ["value"] (spIsK K) := by
  have G1 : FnOk P0 w K mg base CX0 3 f1 d1 ["value"] (spData K isNumD) := ok_isnum D.F1 D.T D.M D.FT D.mT D.FN D.mN D.FW D.mW
  have G2 : FnOk P0 w K mg base CX0 2 f2 d2 ["value"] (spData K isToD) := ok_isto D.F2 D.T D.FT D.mT
  have b1 := D.F1.binds (ps := ["value"]) fun _ _ _ _ _ _ us hl => match us, hl with | [_], _ => rfl
  have b2 := D.F2.binds (ps := ["value"]) fun _ _ _ _ _ _ us hl => match us, hl with | [_], _ => rfl
  refine F.ok scIsKind (fun vs H Q E h => ?_) (fun cdv A outer s H vs Q E hr h => ?_)
  · obtain ⟨x, d, rfl, _⟩ := h
    rfl
  · obtain ⟨x, d, rfl, hd, hsh, k⟩ := h
    have nd := scIsKind.nd
    have hr2 : Room 2 _ := hr.mono (by decide)
    refine ⟨_, pss_cons (ps_set (i := 1) nd rfl (Or.inl rfl) (pe_lst (pa_cons (pv 0) pa_nil)))
      (pss_cons (ps_set (i := 2) nd rfl (Or.inl rfl) pe_int)
      (pss_cons (ps_while PassesOwn.never (pt_truth (pv 1) (fun _ => rfl))
        (pss_cons (ps_set (i := 3) nd rfl (Or.inl rfl) (pe_bm0 PySem.F.plainAttrs_list PySem.F.slot_list_pop PySem.F.type_list_pop mt_pop (pv 1)))
        (pss_cons (ps_if (pt_val (pe_call G1 hr rfl D.m1 D.F1.kp b1 .nil pass0 (pa_cons (pv 3) pa_nil)))
            (pss_one (ps_aug (i := 2) nd rfl (Or.inl rfl) pe_int ip_add))
            (pss_one (ps_if (pt_val (pe_call G2 hr2 rfl D.m2 D.F2.kp b2 .nil pass0 (pa_cons (pv 3) pa_nil)))
              (pss_cons (ps_expr (pe_bm PySem.F.plainAttrs_list PySem.F.slot_list_append PySem.F.type_list_append mt_append (pv 1) (pa_cons (pe_ix ix_tup (pv 3) pe_int (fun _ _ => rfl)) pa_nil)))
              (pss_one (ps_expr (pe_bm PySem.F.plainAttrs_list PySem.F.slot_list_append PySem.F.type_list_append mt_append (pv 1) (pa_cons (pe_ix ix_tup (pv 3) pe_int (fun _ _ => rfl)) pa_nil)))))
              (pss_one (ps_ret pe_bl)))))
        (pss_one (ps_if (pt_cmpR op_gt (pe_op op_add (pv 2) (pe_callB call_len_seq (by rfl) D.T.len PySem.boot_len (pa_cons (pv 1) pa_nil))) (pe_glob (v := .int 12) (by rfl) D.M.twelve ⟨_, rfl⟩) (nomark _)) (pss_one (ps_ret pe_bl)) pss_nil)))))
      (pss_one (ps_ret pe_bl)))), ?_⟩
    refine ⟨_, rfl, by show 1 ≤ sizeLine; decide, fun L hL => ?_⟩
    have sL := Pre.same_upd (o := .lst [x]) hL
    refine ⟨fun m σ H' => ∃ (n : Nat) (vs : List V) (ds : List PyData) (pt : Option V), m = wt ds ∧ σ = [some x, some (.ref L), some (.int (n : Int)), pt] ∧ Same H H' ∧ H' L = some (.lst vs) ∧ DpAll K H vs ds ∧ (∀ e ∈ ds, Sh e) ∧ fin n ds = isK d ∧ n + ds.length ≤ 12,
      ⟨_, 0, [x], [d], none, rfl, rfl, sL, upd_same, .cons hd .nil, fun e he => by rw [List.mem_singleton.mp he]; exact hsh, fin_one d, by show 0 + 1 ≤ 12; decide⟩, ?_⟩
    rintro m σ H1 ⟨n, vs, ds, pt, rfl, rfl, s1, hv, hD, hS, hf, hlen⟩
    refine ⟨_, rfl, _, .inl ⟨vs, SqL.of hv, rfl⟩, ?_⟩
    cases vs with
    | nil =>
      cases hD
      have e : isK d = true := by
        rw [← hf]
        exact fin_nil (by simpa using hlen)
      rw [e] at k
      exact iteF (k H1 s1)
    | cons v0 vs0 =>
      obtain ⟨vs', v, ds', e, ev, ed, hD', he⟩ := dpAll_last hD (by simp)
      refine iteT ⟨fun σ' H' => ∃ m', m' < wt ds ∧ ∃ (n : Nat) (vs : List V) (ds : List PyData) (pt : Option V), m' = wt ds ∧ σ' = [some x, some (.ref L), some (.int (n : Int)), pt] ∧ Same H H' ∧ H' L = some (.lst vs) ∧ DpAll K H vs ds ∧ (∀ e ∈ ds, Sh e) ∧ fin n ds = isK d ∧ n + ds.length ≤ 12,
        fun σ' H' h => h, ?_⟩
      rw [ev] at hv
      rw [ed] at hf hlen hS
      rw [ed, wt_snoc]
      have hse : Sh e := hS e (by simp)
      have hS' : ∀ u ∈ ds', Sh u := fun u hu => hS u (by simp [hu])
      have dropE : (vs' ++ [v]).dropLast = vs' := by simp
      have lastE : (vs' ++ [v])[(vs' ++ [v]).length - 1]? = some v := by simp
      have sw : ∀ {ys : List V}, Same H (upd H1 L (.lst ys)) := fun {ys} b o eb => by
        rw [upd_ne (ne_of_none eb hL)]
        exact s1 _ _ eb
      refine ⟨_, rfl, .inl ⟨rfl, _, SqL.of hv⟩, L, _, v, rfl, rfl, hv, lastE, ?_⟩
      rw [dropE]
      have hsz := size_pos e
      have lD : vs'.length = ds'.length := dpAll_len hD'
      rw [List.length_append, List.length_singleton] at hlen
      refine ⟨_, rfl, v, e, rfl, dp_same sw he, hse, _, rfl, ?_⟩
      cases h1 : isNumD e with
      | true =>
        have hf' : fin (n + 1) ds' = isK d := by
          rw [← hf]
          exact (fin_num h1).symm
        have nn : V.int ((n : Int) + 1) = V.int ((n + 1 : Nat) : Int) := by
          congr 1
        refine iteT ⟨_, rfl, _, _, rfl, rfl, ?_⟩
        refine ⟨_, rfl, _, rfl, L, vs', rfl, .inl (SqL.of upd_same), _, _, rfl, rfl, _, _, rfl, rfl, _, rfl, ite2 (fun c => ?_) (fun c => ?_)⟩
        · have c' : (12 : Int) < (n : Int) + 1 + (vs'.length : Int) := of_decide_eq_true c
          have z : isK d = false := by
            rw [← hf']
            exact fin_long (by omega)
          rw [z] at k
          exact k _ sw
        · have c' : ¬ (12 : Int) < (n : Int) + 1 + (vs'.length : Int) := fun q => c (decide_eq_true q)
          exact ⟨_, by omega, n + 1, vs', ds', _, rfl, rfl, sw, upd_same, hD', hS', hf', by omega⟩
      | false =>
        refine iteF ⟨_, rfl, v, e, rfl, dp_same sw he, hse, _, rfl, ?_⟩
        cases h2 : isToD e with
        | false =>
          refine iteF ?_
          have z : isK d = false := by
            rw [← hf]
            exact fin_none (other_cnt h1 h2)
          rw [z] at k
          exact k _ sw
        | true =>
          have line : 100 < sizeLine := by decide
          obtain ⟨ea, eb, rfl, ec⟩ := isTo_cnt h2
          obtain ⟨a, x1, x2, x3, g1, g2, g3, rfl, eqd, q, q1, q2, q3⟩ := tup3 he rfl
          cases eqd
          refine iteT ⟨_, rfl, .inl ⟨rfl, _, SqL.of upd_same⟩, _, rfl, a, _, _, _, rfl, rfl, sqT_same sw q, rfl, L, vs', x2, rfl, rfl, upd_same, by omega, ?_⟩
          rw [upd_upd]
          refine ⟨_, rfl, .inl ⟨rfl, _, SqL.of upd_same⟩, _, rfl, a, _, _, _, rfl, rfl, sqT_same sw q, rfl, L, vs' ++ [x2], x3, rfl, rfl, upd_same, by rw [List.length_append, List.length_singleton]; omega, ?_⟩
          rw [upd_upd]
          have hf' : fin n (ds' ++ [ea] ++ [eb]) = isK d := by
            rw [← hf]
            exact fin_to.symm
          refine ⟨_, rfl, _, rfl, L, vs' ++ [x2] ++ [x3], rfl, .inl (SqL.of upd_same), _, _, rfl, rfl, _, _, rfl, rfl, _, rfl, ite2 (fun c => ?_) (fun c => ?_)⟩
          · have c' : (12 : Int) < (n : Int) + ((vs' ++ [x2] ++ [x3]).length : Int) := of_decide_eq_true c
            simp only [List.length_append, List.length_singleton] at c'
            have z : isK d = false := by
              rw [← hf']
              refine fin_long ?_
              simp only [List.length_append, List.length_singleton]
              omega
            rw [z] at k
            exact k _ sw
          · have c' : ¬ (12 : Int) < (n : Int) + ((vs' ++ [x2] ++ [x3]).length : Int) := fun q => c (decide_eq_true q)
            simp only [List.length_append, List.length_singleton] at c'
            have sz := to_size ea eb "to"
            refine ⟨_, ?_, n, vs' ++ [x2] ++ [x3], ds' ++ [ea] ++ [eb], _, rfl, rfl, sw, upd_same, dpAll_snoc (dpAll_snoc hD' q2) q3, fun u hu => ?_, hf', ?_⟩
            · rw [wt_snoc, wt_snoc]
              omega
            · simp only [List.mem_append, List.mem_singleton] at hu
              rcases hu with (hu | rfl) | rfl
              · exact hS' u hu
              · exact sh_tup hse (by simp)
              · exact sh_tup hse (by simp)
            · simp only [List.length_append, List.length_singleton]
              omega
end
end Kn

namespace Kn
open PySem PySem.Spec PyProof.Rows L2
open Wt Dc
abbrev sArgAns : Stmt := Pre.top 16
abbrev sCheckKind : Stmt := Pre.top 17
abbrev sArguments : Stmt := Pre.top 18
abbrev sAnswer : Stmt := Pre.top 19
abbrev sKindFrom : Stmt := Pre.top 20
abbrev sOrderOf : Stmt := Pre.top 21
abbrev sOrder : Stmt := Pre.top 22
inductive Kd where
  | num (k : Int)
  | to (a b : Kd)
def Kd.dat : Kd → PyData
  | .num k => .tuple [.str "num", .int k]
  | .to a b => .tuple [.str "to", a.dat, b.dat]
def Kd.nums : Kd → Nat
  | .num _ => 1
  | .to a b => a.nums + b.nums
def Kd.good : Kd → Prop
  | .num k => 1 ≤ k ∧ k ≤ 6
  | .to a b => a.good ∧ b.good
def Kd.args : Kd → List Kd
  | .num _ => []
  | .to a b => a :: b.args
def Kd.ans : Kd → Int
  | .num k => k
  | .to _ b => b.ans
def Kd.ord : Kd → Nat
  | .num _ => 0
  | .to a b => max (a.ord + 1) b.ord
theorem nums_pos : ∀ t : Kd, 1 ≤ t.nums
  | .num _ => Nat.le_refl _
  | .to a b => by
    have := nums_pos a
    show 1 ≤ a.nums + b.nums
    omega
theorem cnt_dat : ∀ {t : Kd}, t.good → cnt t.dat = some t.nums
  | .num k, h => by
    show cnt (.tuple [.str "num", .int k]) = some 1
    rw [cnt_num, if_pos ⟨rfl, h.1, h.2⟩]
  | .to a b, h => by
    show cnt (.tuple [.str "to", a.dat, b.dat]) = some (a.nums + b.nums)
    rw [cnt_to, if_pos rfl, cnt_dat h.1, cnt_dat h.2]
    rfl
theorem cnt_kd : ∀ {d : PyData} {n : Nat}, cnt d = some n → ∃ t : Kd, d = t.dat ∧ t.good ∧ t.nums = n := fun {d} => by
  fun_induction cnt d with
  | case1 s k hs =>
    intro n h
    cases h
    obtain ⟨rfl, h1, h2⟩ := hs
    exact ⟨.num k, rfl, ⟨h1, h2⟩, rfl⟩
  | case2 s k hs =>
    intro n h
    cases h
  | case3 a b ih1 ih2 =>
    intro n h
    obtain ⟨m, k, h1, h2, rfl⟩ := addO_some h
    obtain ⟨t1, rfl, g1, rfl⟩ := ih1 h1
    obtain ⟨t2, rfl, g2, rfl⟩ := ih2 h2
    exact ⟨.to t1 t2, rfl, ⟨g1, g2⟩, rfl⟩
  | case4 s a b hs =>
    intro n h
    cases h
  | case5 d h1 h2 =>
    intro n h
    cases h
theorem isK_kd {d : PyData} (h : isK d = true) : ∃ t : Kd, d = t.dat ∧ t.good ∧ t.nums ≤ 12 := by
  unfold isK at h
  cases e : cnt d with
  | none =>
    rw [e] at h
    cases h
  | some n =>
    rw [e] at h
    obtain ⟨t, rfl, g, rfl⟩ := cnt_kd e
    exact ⟨t, rfl, g, of_decide_eq_true h⟩
theorem isK_dat {t : Kd} (g : t.good) : isK t.dat = decide (t.nums ≤ 12) := by
  unfold isK
  rw [cnt_dat g]
theorem can_dat : ∀ t : Kd, t.dat.canLay0 = true
  | .num k => by
    show (PyData.canLay0 (.str "num") && (true && true)) = true
    decide +kernel
  | .to a b => by
    show (PyData.canLay0 (.str "to") && (a.dat.canLay0 && (b.dat.canLay0 && true))) = true
    rw [can_dat a, can_dat b]
    decide +kernel
theorem dep_dat : ∀ t : Kd, t.dat.depth ≤ t.nums
  | .num k => by
    show max 0 (max 0 0) + 1 ≤ 1
    decide
  | .to a b => by
    have h1 := dep_dat a
    have h2 := dep_dat b
    have p1 := nums_pos a
    have p2 := nums_pos b
    show max 0 (max a.dat.depth (max b.dat.depth 0)) + 1 ≤ a.nums + b.nums
    omega
theorem sh_dat {t : Kd} (h : t.nums ≤ 64) : Sh t.dat := sh_of (can_dat t) (Nat.le_trans (dep_dat t) h)
theorem arg_nums : ∀ {t u : Kd}, u ∈ t.args → u.nums < t.nums
  | .to a b, u, h => by
    have p1 := nums_pos a
    have p2 := nums_pos b
    show u.nums < a.nums + b.nums
    rcases List.mem_cons.mp (show u ∈ a :: b.args from h) with e | e
    · rw [e]
      omega
    · have := arg_nums e
      omega
theorem arg_good : ∀ {t u : Kd}, t.good → u ∈ t.args → u.good
  | .to a b, u, g, h => by
    rcases List.mem_cons.mp (show u ∈ a :: b.args from h) with e | e
    · rw [e]
      exact g.1
    · exact arg_good g.2 e
theorem ans_good : ∀ {t : Kd}, t.good → 1 ≤ t.ans ∧ t.ans ≤ 6
  | .num _, g => g
  | .to _ b, g => (ans_good (t := b) g.2 : 1 ≤ b.ans ∧ b.ans ≤ 6)
theorem args_len : ∀ t : Kd, t.args.length + 1 ≤ t.nums
  | .num _ => Nat.le_refl _
  | .to a b => by
    have := args_len b
    have := nums_pos a
    show (a :: b.args).length + 1 ≤ a.nums + b.nums
    simp only [List.length_cons]
    omega
/-- what is known of a kind's parts in a heap -/
theorem dat_dp {K : PySem.W.Frag} {H : Hp} {x : V} {t : Kd} (h : Dp K H x t.dat) : (∃ p k, t = .num k ∧ x = .ref p ∧ SqT K H p [.str "num", .int k]) ∨ (∃ p y z a b, t = .to a b ∧ x = .ref p ∧ SqT K H p [.str "to", y, z] ∧ Dp K H y a.dat ∧ Dp K H z b.dat) := by
  cases t with
  | num k =>
    obtain ⟨p, x1, x2, d1, d2, rfl, e, q, h1, h2⟩ := tup2 (show Dp K H x (.tuple [.str "num", .int k]) from h) rfl
    cases e
    cases h1
    cases h2
    exact .inl ⟨p, k, rfl, rfl, q⟩
  | to a b =>
    obtain ⟨p, x1, x2, x3, d1, d2, d3, rfl, e, q, h1, h2, h3⟩ := tup3 (show Dp K H x (.tuple [.str "to", a.dat, b.dat]) from h) rfl
    cases e
    cases h1
    exact .inr ⟨p, x2, x3, a, b, rfl, rfl, q, h2, h3⟩
section
variable {P0 : Program} {w : World} {K : PySem.W.Frag} {mg : Str → Option Value} {base : Heap}
def spArgAns (K : PySem.W.Frag) : Sp := fun vs H Q _ => ∃ (x : V) (t : Kd), vs = [x] ∧ Dp K H x t.dat ∧ t.nums ≤ 40 ∧ ∀ (p q : Addr) (H' : Hp), Same H H' → SqT K H' p [.ref q, .int t.ans] → Dp K H' (.ref q) (.tuple (t.args.map Kd.dat)) → Q (.ref p) H'
theorem scArgAns : FnScope ["kind", "found"] ["kind"] (defScope sArgAns) := ⟨rfl, rfl, rfl, by decide +kernel, rfl, by decide +kernel, by decide +kernel⟩
theorem ok_argans {f : Addr} {fd : FuncData} (F : Fun K "arguments_and_answer" "arguments_and_answer" sArgAns f fd) (T : TxtW mg) : FnOk P0 w K mg base CX0 1 f fd ["kind"] (spArgAns K) := by
  refine F.ok scArgAns (fun vs H Q E h => ?_) (fun cdv A outer s H vs Q E hr h => ?_)
  · obtain ⟨x, t, rfl, _⟩ := h
    rfl
  · obtain ⟨x, t, rfl, hd, hn, k⟩ := h
    have nd := scArgAns.nd
    refine ⟨_, pss_cons (ps_set (i := 1) nd rfl (Or.inl rfl) (pe_lst pa_nil))
      (pss_cons (ps_while PassesOwn.never (pt_cmpR op_eq (pe_ix ix_tup (pv 0) pe_int (fun _ _ => rfl)) pe_str (nomark _))
        (pss_cons (ps_expr (pe_bm PySem.F.plainAttrs_list PySem.F.slot_list_append PySem.F.type_list_append mt_append (pv 1) (pa_cons (pe_ix ix_tup (pv 0) pe_int (fun _ _ => rfl)) pa_nil)))
        (pss_one (ps_set (i := 0) nd rfl (Or.inl rfl) (pe_ix ix_tup (pv 0) pe_int (fun _ _ => rfl))))))
      (pss_one (ps_ret (pe_tup (pa_cons (pe_callTy call_tuple_of (by rfl) T.tuple (by decide +kernel) (pa_cons (pv 1) pa_nil)) (pa_cons (pe_ix ix_tup (pv 0) pe_int (fun _ _ => rfl)) pa_nil)))))), ?_⟩
    refine ⟨by show 0 ≤ sizeLine; decide, fun L hL => ?_⟩
    have sL := Pre.same_upd (o := .lst []) hL
    refine ⟨fun m σ H' => ∃ (y : V) (u : Kd) (vs : List V) (ds : List PyData), m = u.nums ∧ σ = [some y, some (.ref L)] ∧ Same H H' ∧ H' L = some (.lst vs) ∧ DpAll K H vs ds ∧ Dp K H y u.dat ∧ ds ++ u.args.map Kd.dat = t.args.map Kd.dat ∧ u.ans = t.ans ∧ ds.length + u.nums ≤ 40,
      ⟨_, x, t, [], [], rfl, rfl, sL, upd_same, .nil, hd, rfl, rfl, by show 0 + t.nums ≤ 40; omega⟩, ?_⟩
    rintro m σ H1 ⟨y, u, vs, ds, rfl, rfl, s1, hv, hD, hy, hargs, hans, hlen⟩
    have lD : vs.length = ds.length := dpAll_len hD
    have line : 100 < sizeLine := by decide
    rcases dat_dp hy with ⟨p, k', rfl, rfl, q⟩ | ⟨p, y1, z1, a, b, rfl, rfl, q, q1, q2⟩
    · refine ⟨_, rfl, p, _, _, _, rfl, rfl, sqT_same s1 q, rfl, rfl, _, rfl, iteF ?_⟩
      refine ⟨_, rfl, L, vs, rfl, .inl ⟨SqL.of hv, fun r hr => ?_⟩⟩
      have s2 := s1.trans (Pre.same_upd (o := .tup vs) hr)
      refine ⟨_, rfl, p, _, _, _, rfl, rfl, sqT_same s2 q, rfl, by show 2 ≤ sizeLine; decide, fun r2 hr2 => ?_⟩
      have e : ds = t.args.map Kd.dat := by
        rw [← hargs]
        show ds = ds ++ []
        rw [List.append_nil]
      have e2 : k' = t.ans := hans
      rw [e] at hD
      rw [e2]
      have s3 := Pre.same_upd (o := .tup [.ref r, .int t.ans]) hr2
      exact k r2 r _ (s2.trans s3) (SqT.of upd_same) (.tup (SqT.of (s3 _ _ upd_same)) (dpAll_same (s2.trans s3) hD))
    · refine ⟨_, rfl, p, _, _, _, rfl, rfl, sqT_same s1 q, rfl, rfl, _, rfl, iteT ?_⟩
      have pa := nums_pos a
      have pb := nums_pos b
      have hlen' : ds.length + (a.nums + b.nums) ≤ 40 := hlen
      refine ⟨fun σ' H' => ∃ m', m' < a.nums + b.nums ∧ ∃ (y : V) (u : Kd) (vs : List V) (ds : List PyData), m' = u.nums ∧ σ' = [some y, some (.ref L)] ∧ Same H H' ∧ H' L = some (.lst vs) ∧ DpAll K H vs ds ∧ Dp K H y u.dat ∧ ds ++ u.args.map Kd.dat = t.args.map Kd.dat ∧ u.ans = t.ans ∧ ds.length + u.nums ≤ 40,
        fun σ' H' h => h, ?_⟩
      refine ⟨_, rfl, .inl ⟨rfl, _, SqL.of hv⟩, _, rfl, p, _, _, _, rfl, rfl, sqT_same s1 q, rfl, L, vs, y1, rfl, rfl, hv, by omega, ?_⟩
      have sw : Same H (upd H1 L (.lst (vs ++ [y1]))) := fun b' o eb => by
        rw [upd_ne (ne_of_none eb hL)]
        exact s1 _ _ eb
      refine ⟨_, rfl, p, _, _, _, rfl, rfl, sqT_same sw q, rfl, ?_⟩
      refine ⟨_, by omega, z1, b, vs ++ [y1], ds ++ [a.dat], rfl, rfl, sw, upd_same, dpAll_snoc hD q1, q2, ?_, hans, ?_⟩
      · rw [← hargs]
        show ds ++ [a.dat] ++ b.args.map Kd.dat = ds ++ (a.dat :: b.args.map Kd.dat)
        simp
      · simp only [List.length_append, List.length_singleton]
        omega
end
end Kn

namespace Kn
open PySem PySem.Spec PyProof.Rows L2
open Wt Dc
abbrev veT : List Value := [.type "ValueError", .type "Exception", .type "BaseException", .type "object"]
/-- an error of the text -/
structure ErC (K : PySem.W.Frag) (mg : Str → Option Value) (x : Str) (C : Addr) : Prop where
  g : mg x = some (.ref C)
  q : PySem.W.excIn K C veT "ValueError.__new__" = true
  k : PySem.W.keepIn K (.ref C) = true
  b : PySem.W.subIn K (.ref C) (.type "BaseException") = some true
  t : PySem.W.typeIn K (.ref C) = some (.type "type")
def ordF (m : Nat) (ts : List Kd) : Nat := ts.foldl (fun m a => max m (a.ord + 1)) m
theorem ordF_args : ∀ (t : Kd) (m : Nat), ordF m t.args = max m t.ord
  | .num _, m => (Nat.max_zero m).symm
  | .to a b, m => by
    show ordF (max m (a.ord + 1)) b.args = max m (max (a.ord + 1) b.ord)
    rw [ordF_args b, Nat.max_assoc]
theorem ordF_more {m : Nat} {ts : List Kd} {i : Nat} {u : Kd} (h : ts[i]? = some u) : ordF m (ts.take (i + 1)) = max (ordF m (ts.take i)) (u.ord + 1) := by
  unfold ordF
  rw [List.take_add_one, h]
  simp [List.foldl_append]
def mk (ts : List Kd) (k : Int) : Kd := ts.foldr Kd.to (.num k)
theorem mk_args : ∀ t : Kd, mk t.args t.ans = t
  | .num _ => rfl
  | .to a b => by
    show Kd.to a (mk b.args b.ans) = .to a b
    rw [mk_args b]
theorem mk_good : ∀ {ts : List Kd} {k : Int}, (∀ t ∈ ts, t.good) → 1 ≤ k → k ≤ 6 → (mk ts k).good
  | [], k, _, h1, h2 => ⟨h1, h2⟩
  | t :: ts, k, h, h1, h2 => ⟨h t (List.mem_cons_self ..), mk_good (fun u hu => h u (List.mem_cons_of_mem _ hu)) h1 h2⟩
theorem mk_len : ∀ (ts : List Kd) (k : Int), ts.length + 1 ≤ (mk ts k).nums
  | [], _ => Nat.le_refl _
  | t :: ts, k => by
    have := mk_len ts k
    have := nums_pos t
    show (t :: ts).length + 1 ≤ t.nums + (mk ts k).nums
    simp only [List.length_cons]
    omega
theorem all_kd : ∀ {ds : List PyData}, ds.all isK = true → ∃ ts : List Kd, ds = ts.map Kd.dat ∧ (∀ t ∈ ts, t.good ∧ t.nums ≤ 12)
  | [], _ => ⟨[], rfl, fun t h => by cases h⟩
  | d :: ds, h => by
    have h' : (isK d && ds.all isK) = true := h
    rw [Bool.and_eq_true] at h'
    obtain ⟨t, rfl, g, n⟩ := isK_kd h'.1
    obtain ⟨ts, rfl, hs⟩ := all_kd h'.2
    exact ⟨t :: ts, rfl, fun u hu => by
      rcases List.mem_cons.mp hu with e | e
      · rw [e]
        exact ⟨g, n⟩
      · exact hs u e⟩
theorem dpAll_map {K : PySem.W.Frag} {H : Hp} {xs : List V} {ts : List Kd} {i : Nat} {x : V} (h : DpAll K H xs (ts.map Kd.dat)) (e : xs[i]? = some x) : ∃ t, ts[i]? = some t ∧ Dp K H x t.dat := by
  obtain ⟨d, h1, h2⟩ := dpAll_at h e
  rw [List.getElem?_map] at h1
  cases ht : ts[i]? with
  | none =>
    rw [ht] at h1
    cases h1
  | some t =>
    rw [ht] at h1
    cases h1
    exact ⟨t, rfl, h2⟩
section
variable {P0 : Program} {w : World} {K : PySem.W.Frag} {mg : Str → Option Value} {base : Heap}
def spChk (K : PySem.W.Frag) (C : Addr) : Sp := fun vs H Q E => ∃ x d, vs = [x] ∧ Dp K H x d ∧ Sh d ∧ (isK d = true → ∀ H', Same H H' → Q .non H') ∧ (isK d = false → ∀ H', Same H H' → E (.ref C) none H')
theorem scCheckKind : FnScope ["value"] ["value"] (defScope sCheckKind) := ⟨rfl, rfl, rfl, by decide +kernel, rfl, by decide +kernel, by decide +kernel⟩
theorem ok_chk {f fI C : Addr} {fd dI : FuncData} (F : Fun K "check_kind" "check_kind" sCheckKind f fd) (GI : ∀ base, FnOk P0 w K mg base CX0 4 fI dI ["value"] (spIsK K)) (FI : Fun K "is_kind" "is_kind" sIsKind fI dI) (mI : mg "is_kind" = some (.ref fI)) (e : ErC K mg "BadKind" C) :
    FnOk P0 w K mg base (L2.CX P0 w) 5 f fd ["value"] (spChk K C) := by
  have GI := GI base
  have bI := FI.binds (ps := ["value"]) fun _ _ _ _ _ _ us hl => match us, hl with | [_], _ => rfl
  refine F.okX scCheckKind (fun vs H Q E h => ?_) (fun cdv A outer s H vs Q E hr h => ?_)
  · obtain ⟨x, d, rfl, _⟩ := h
    rfl
  · obtain ⟨x, d, rfl, hd, hs, k1, k2⟩ := h
    refine ⟨_, pss_one (ps_if (pt_not (pt_val (pe_call GI hr rfl mI FI.kp bI .nil pass0 (pa_cons (pv 0) pa_nil)))) (pss_one (ps_raise rfl (takes_of rfl rfl rfl rfl) (pmk_own PySem.F.excBase_ValueError e.q e.g e.k (raises_own e.b e.t) rfl))) pss_nil), ?_⟩
    refine ⟨_, rfl, x, d, rfl, hd, hs, fun H1 s1 => ⟨_, rfl, ?_⟩⟩
    cases h1 : isK d with
    | false => exact iteT (k2 h1 H1 s1)
    | true => exact iteF (k1 h1 H1 s1)
/-- what the three defs that take a kind keep: BadKind, or the thing that is told of it -/
def spK3 (K : PySem.W.Frag) (C : Addr) (res : Kd → V → Hp → Prop) : Sp := fun vs H Q E => (∃ x d, vs = [x] ∧ Dp K H x d ∧ Sh d ∧ isK d = false ∧ ∀ H', Same H H' → E (.ref C) none H') ∨
  (∃ x t, vs = [x] ∧ Dp K H x t.dat ∧ t.good ∧ t.nums ≤ 12 ∧ ∀ v H', Same H H' → res t v H' → Q v H')
def resArgs (K : PySem.W.Frag) : Kd → V → Hp → Prop := fun t v H => ∃ q, v = .ref q ∧ Dp K H (.ref q) (.tuple (t.args.map Kd.dat))
def resAns : Kd → V → Hp → Prop := fun t v _ => v = .int t.ans
def resOrd : Kd → V → Hp → Prop := fun t v _ => v = .int (t.ord : Int)
theorem scArguments : FnScope ["kind"] ["kind"] (defScope sArguments) := ⟨rfl, rfl, rfl, by decide +kernel, rfl, by decide +kernel, by decide +kernel⟩
theorem scAnswer : FnScope ["kind"] ["kind"] (defScope sAnswer) := ⟨rfl, rfl, rfl, by decide +kernel, rfl, by decide +kernel, by decide +kernel⟩
theorem scOrder : FnScope ["kind"] ["kind"] (defScope sOrder) := ⟨rfl, rfl, rfl, by decide +kernel, rfl, by decide +kernel, by decide +kernel⟩
theorem ok_arguments {f fC fA C : Addr} {fd dC dA : FuncData} (F : Fun K "arguments" "arguments" sArguments f fd) (GC : ∀ base, FnOk P0 w K mg base (L2.CX P0 w) 5 fC dC ["value"] (spChk K C)) (FC : Fun K "check_kind" "check_kind" sCheckKind fC dC) (mC : mg "check_kind" = some (.ref fC))
    (GA : ∀ base, FnOk P0 w K mg base CX0 1 fA dA ["kind"] (spArgAns K)) (FA : Fun K "arguments_and_answer" "arguments_and_answer" sArgAns fA dA) (mA : mg "arguments_and_answer" = some (.ref fA)) : FnOk P0 w K mg base (L2.CX P0 w) 6 f fd ["kind"] (spK3 K C (resArgs K)) := by
  have GC := GC base
  have GA := GA base
  have bC := FC.binds (ps := ["value"]) fun _ _ _ _ _ _ us hl => match us, hl with | [_], _ => rfl
  have bA := FA.binds (ps := ["kind"]) fun _ _ _ _ _ _ us hl => match us, hl with | [_], _ => rfl
  refine F.okX scArguments (fun vs H Q E h => ?_) (fun cdv A outer s H vs Q E hr h => ?_)
  · rcases h with ⟨x, d, rfl, _⟩ | ⟨x, t, rfl, _⟩ <;> rfl
  · have hr1 : Room 1 _ := hr.mono (by decide)
    refine ⟨_, pss_cons (ps_expr (pe_callS GC hr rfl mC FC.kp bC (fun σ => passAt (takes_of rfl rfl rfl rfl) σ) (pa_cons (pv 0) pa_nil)))
      (pss_one (ps_ret (pe_ix ix_tup (pe_call GA hr1 rfl mA FA.kp bA .nil pass0 (pa_cons (pv 0) pa_nil)) pe_int (fun _ _ => rfl)))), ?_⟩
    rcases h with ⟨x, d, rfl, hd, hs, hk, k⟩ | ⟨x, t, rfl, hd, hg, hn, k⟩
    · refine ⟨_, rfl, x, d, rfl, hd, hs, fun z => ?_, fun _ => k⟩
      rw [hk] at z
      cases z
    · have hk : isK t.dat = true := by
        rw [isK_dat hg]
        exact decide_eq_true hn
      refine ⟨_, rfl, x, t.dat, rfl, hd, sh_dat (by omega), fun _ H1 s1 => ?_, fun z => ?_⟩
      · refine ⟨_, rfl, x, t, rfl, dp_same s1 hd, by omega, fun p q H2 s2 hp hq => ?_⟩
        refine ⟨p, _, _, _, rfl, rfl, hp, rfl, ?_⟩
        exact k _ H2 (s1.trans s2) ⟨q, rfl, hq⟩
      · rw [hk] at z
        cases z
theorem ok_answer {f fC fA C : Addr} {fd dC dA : FuncData} (F : Fun K "answer" "answer" sAnswer f fd) (GC : ∀ base, FnOk P0 w K mg base (L2.CX P0 w) 5 fC dC ["value"] (spChk K C)) (FC : Fun K "check_kind" "check_kind" sCheckKind fC dC) (mC : mg "check_kind" = some (.ref fC))
    (GA : ∀ base, FnOk P0 w K mg base CX0 1 fA dA ["kind"] (spArgAns K)) (FA : Fun K "arguments_and_answer" "arguments_and_answer" sArgAns fA dA) (mA : mg "arguments_and_answer" = some (.ref fA)) : FnOk P0 w K mg base (L2.CX P0 w) 6 f fd ["kind"] (spK3 K C resAns) := by
  have GC := GC base
  have GA := GA base
  have bC := FC.binds (ps := ["value"]) fun _ _ _ _ _ _ us hl => match us, hl with | [_], _ => rfl
  have bA := FA.binds (ps := ["kind"]) fun _ _ _ _ _ _ us hl => match us, hl with | [_], _ => rfl
  refine F.okX scAnswer (fun vs H Q E h => ?_) (fun cdv A outer s H vs Q E hr h => ?_)
  · rcases h with ⟨x, d, rfl, _⟩ | ⟨x, t, rfl, _⟩ <;> rfl
  · have hr1 : Room 1 _ := hr.mono (by decide)
    refine ⟨_, pss_cons (ps_expr (pe_callS GC hr rfl mC FC.kp bC (fun σ => passAt (takes_of rfl rfl rfl rfl) σ) (pa_cons (pv 0) pa_nil)))
      (pss_one (ps_ret (pe_ix ix_tup (pe_call GA hr1 rfl mA FA.kp bA .nil pass0 (pa_cons (pv 0) pa_nil)) pe_int (fun _ _ => rfl)))), ?_⟩
    rcases h with ⟨x, d, rfl, hd, hs, hk, k⟩ | ⟨x, t, rfl, hd, hg, hn, k⟩
    · refine ⟨_, rfl, x, d, rfl, hd, hs, fun z => ?_, fun _ => k⟩
      rw [hk] at z
      cases z
    · have hk : isK t.dat = true := by
        rw [isK_dat hg]
        exact decide_eq_true hn
      refine ⟨_, rfl, x, t.dat, rfl, hd, sh_dat (by omega), fun _ H1 s1 => ?_, fun z => ?_⟩
      · refine ⟨_, rfl, x, t, rfl, dp_same s1 hd, by omega, fun p q H2 s2 hp hq => ?_⟩
        refine ⟨p, _, _, _, rfl, rfl, hp, rfl, ?_⟩
        exact k _ H2 (s1.trans s2) rfl
      · rw [hk] at z
        cases z
theorem scOrderOf : FnScope ["kind", "found", "part"] ["kind"] (defScope sOrderOf) := ⟨rfl, rfl, rfl, by decide +kernel, rfl, by decide +kernel, by decide +kernel⟩
def spOrd (K : PySem.W.Frag) (N : Nat) : Sp := fun vs H Q _ => ∃ (x : V) (t : Kd), vs = [x] ∧ Dp K H x t.dat ∧ t.nums ≤ N ∧ N ≤ 40 ∧ ∀ H', Same H H' → Q (.int (t.ord : Int)) H'
theorem ok_orderof {f fA : Addr} {fd dA : FuncData} (F : Fun K "order_of" "order_of" sOrderOf f fd) (mF : mg "order_of" = some (.ref f)) (zm : mg "max" = none) (GA : ∀ base, FnOk P0 w K mg base CX0 1 fA dA ["kind"] (spArgAns K)) (FA : Fun K "arguments_and_answer" "arguments_and_answer" sArgAns fA dA) (mA : mg "arguments_and_answer" = some (.ref fA)) :
    ∀ N : Nat, FnOk P0 w K mg base CX0 (N + 2) f fd ["kind"] (spOrd K N)
  | 0 => by
    refine F.ok (k := 1) scOrderOf (fun vs H Q E h => ?_) (fun cdv A outer s H vs Q E hr h => ?_)
    · obtain ⟨x, t, rfl, _⟩ := h
      rfl
    · obtain ⟨x, t, rfl, hd, hn, _⟩ := h
      have := nums_pos t
      omega
  | N + 1 => by
    have IH := ok_orderof F mF zm GA FA mA N
    have GA := GA base
    have bA := FA.binds (ps := ["kind"]) fun _ _ _ _ _ _ us hl => match us, hl with | [_], _ => rfl
    have bF := F.binds (ps := ["kind"]) fun _ _ _ _ _ _ us hl => match us, hl with | [_], _ => rfl
    refine F.ok (k := N + 2) scOrderOf (fun vs H Q E h => ?_) (fun cdv A outer s H vs Q E hr h => ?_)
    · obtain ⟨x, t, rfl, _⟩ := h
      rfl
    · obtain ⟨x, t, rfl, hd, hn, hN, k⟩ := h
      have nd := scOrderOf.nd
      have hr1 : Room 1 _ := hr.mono (by omega)
      refine ⟨_, pss_cons (ps_set (i := 1) nd rfl (Or.inl rfl) pe_int)
        (pss_cons (ps_for PassesOwn.never rfl (pi_tup (pe_ix ix_tup (pe_call GA hr1 rfl mA FA.kp bA .nil pass0 (pa_cons (pv 0) pa_nil)) pe_int (fun _ _ => rfl))) (pg_name (i := 2) nd rfl (Or.inl rfl))
          (pss_one (ps_set (i := 1) nd rfl (Or.inl rfl) (pe_callB (call_max2 (by rfl)) (by rfl) zm (by decide +kernel) (pa_cons (pv 1) (pa_cons (pe_op op_add (pe_call IH hr rfl mF F.kp bF .nil pass0 (pa_cons (pv 2) pa_nil)) pe_int) pa_nil))))))
        (pss_one (ps_ret (pv 1)))), ?_⟩
      refine ⟨_, rfl, x, t, rfl, hd, by omega, fun p q H1 s1 hp hq => ?_⟩
      refine ⟨p, _, _, _, rfl, rfl, hp, rfl, ?_⟩
      obtain ⟨a, xs, hxs, hDx⟩ : ∃ a xs, V.ref q = .ref a ∧ SqT K H1 a xs ∧ DpAll K H1 xs (t.args.map Kd.dat) := by
        cases hq with
        | tup q1 q2 => exact ⟨_, _, rfl, q1, q2⟩
      cases hxs
      refine ⟨q, rfl, ⟨_, hDx.1⟩, for_tup (K := K) (a := q) (xs := xs) (fun i σ H' => ∃ pt, σ = [some x, some (.int (ordF 0 (t.args.take i) : Int)), pt] ∧ Same H1 H') ⟨none, rfl, Same.refl _⟩ (fun _ σ H' _ ⟨_, _, s⟩ => sqT_same s hDx.1) ?_ ?_⟩
      · rintro i y σ H2 hy ⟨pt, rfl, s2⟩
        obtain ⟨u, hu, hdu⟩ := dpAll_map hDx.2 hy
        have := arg_nums (List.mem_of_getElem? hu)
        refine ⟨_, rfl, _, rfl, y, u, rfl, dp_same s2 hdu, by omega, by omega, fun H3 s3 => ?_⟩
        refine ⟨_, _, rfl, rfl, _, _, rfl, ?_⟩
        refine ⟨some y, ?_, s2.trans s3⟩
        rw [ordF_more hu]
        have e : (if ((u.ord : Int) + 1) > (ordF 0 (t.args.take i) : Int) then ((u.ord : Int) + 1) else (ordF 0 (t.args.take i) : Int)) = ((max (ordF 0 (t.args.take i)) (u.ord + 1) : Nat) : Int) := by
          split <;> omega
        show [some x, some (V.int (if ((u.ord : Int) + 1) > (ordF 0 (t.args.take i) : Int) then ((u.ord : Int) + 1) else (ordF 0 (t.args.take i) : Int))), some y] = _
        rw [e]
      · rintro σ H2 ⟨pt, rfl, s2⟩
        have e : ordF 0 (t.args.take xs.length) = t.ord := by
          rw [dpAll_len hDx.2, List.length_map, List.take_length, ordF_args, Nat.zero_max]
        rw [e]
        exact ⟨_, rfl, k H2 (s1.trans s2)⟩
theorem ok_order {f fC fA C : Addr} {fd dC dA : FuncData} (F : Fun K "order" "order" sOrder f fd) (GC : ∀ base, FnOk P0 w K mg base (L2.CX P0 w) 5 fC dC ["value"] (spChk K C)) (FC : Fun K "check_kind" "check_kind" sCheckKind fC dC) (mC : mg "check_kind" = some (.ref fC))
    (GA : ∀ base, FnOk P0 w K mg base CX0 14 fA dA ["kind"] (spOrd K 12)) (FA : Fun K "order_of" "order_of" sOrderOf fA dA) (mA : mg "order_of" = some (.ref fA)) : FnOk P0 w K mg base (L2.CX P0 w) 15 f fd ["kind"] (spK3 K C resOrd) := by
  have GC := GC base
  have GA := GA base
  have bC := FC.binds (ps := ["value"]) fun _ _ _ _ _ _ us hl => match us, hl with | [_], _ => rfl
  have bA := FA.binds (ps := ["kind"]) fun _ _ _ _ _ _ us hl => match us, hl with | [_], _ => rfl
  refine F.okX scOrder (fun vs H Q E h => ?_) (fun cdv A outer s H vs Q E hr h => ?_)
  · rcases h with ⟨x, d, rfl, _⟩ | ⟨x, t, rfl, _⟩ <;> rfl
  · have hr5 : Room 5 _ := hr.mono (by decide)
    refine ⟨_, pss_cons (ps_expr (pe_callS GC hr5 rfl mC FC.kp bC (fun σ => passAt (takes_of rfl rfl rfl rfl) σ) (pa_cons (pv 0) pa_nil)))
      (pss_one (ps_ret (pe_call GA hr rfl mA FA.kp bA .nil pass0 (pa_cons (pv 0) pa_nil)))), ?_⟩
    rcases h with ⟨x, d, rfl, hd, hs, hk, k⟩ | ⟨x, t, rfl, hd, hg, hn, k⟩
    · refine ⟨_, rfl, x, d, rfl, hd, hs, fun z => ?_, fun _ => k⟩
      rw [hk] at z
      cases z
    · have hk : isK t.dat = true := by
        rw [isK_dat hg]
        exact decide_eq_true hn
      refine ⟨_, rfl, x, t.dat, rfl, hd, sh_dat (by omega), fun _ H1 s1 => ?_, fun z => ?_⟩
      · exact ⟨_, rfl, x, t, rfl, dp_same s1 hd, hn, by decide, fun H2 s2 => k _ H2 (s1.trans s2) rfl⟩
      · rw [hk] at z
        cases z
theorem scKindFrom : FnScope ["arguments", "answer", "made", "part"] ["arguments", "answer"] (defScope sKindFrom) := ⟨rfl, rfl, rfl, by decide +kernel, rfl, by decide +kernel, by decide +kernel⟩
/-- the errors of kind_from -/
structure Er3 (K : PySem.W.Frag) (mg : Str → Option Value) (CK CS CN : Addr) : Prop where
  k : ErC K mg "BadKind" CK
  s : ErC K mg "BadKinds" CS
  n : ErC K mg "BadNumber" CN
structure KfK (P0 : Program) (w : World) (K : PySem.W.Frag) (mg : Str → Option Value) (CK CS CN fL fI fN fW fC : Addr) (dL dI dN dW dC : FuncData) (t1 t2 : Tok) : Prop where
  T : TxtW mg
  M : Nms mg t1 t2
  za : mg "all" = none
  zr : mg "reversed" = none
  E : Er3 K mg CK CS CN
  FL : Fun K "is_list" "is_list" sIsList fL dL
  mL : mg "is_list" = some (.ref fL)
  GI : ∀ base, FnOk P0 w K mg base CX0 4 fI dI ["value"] (spIsK K)
  FI : Fun K "is_kind" "is_kind" sIsKind fI dI
  mI : mg "is_kind" = some (.ref fI)
  FN : Fun K "is_within" "is_within" sWithin fN dN
  mN : mg "is_within" = some (.ref fN)
  FW : Fun K "is_whole" "is_whole" sIsWhole fW dW
  mW : mg "is_whole" = some (.ref fW)
  GC : ∀ base, FnOk P0 w K mg base (L2.CX P0 w) 5 fC dC ["value"] (spChk K CK)
  FC : Fun K "check_kind" "check_kind" sCheckKind fC dC
  mC : mg "check_kind" = some (.ref fC)
def spKF (K : PySem.W.Frag) (S : PySem.W.Frag → Hp → Addr → List V → Prop) (CK CS CN : Addr) : Sp := fun vs H Q E => ∃ (a : Addr) (xs : List V) (ds : List PyData) (y : V) (e : PyData), vs = [.ref a, y] ∧ S K H a xs ∧ DpAll K H xs ds ∧ xs.length ≤ 40 ∧ (∀ d ∈ ds, Sh d) ∧ Dp K H y e ∧
  (ds.all isK = false → ∀ H', Same H H' → E (.ref CS) none H') ∧ (ds.all isK = true → within 1 6 e = false → ∀ H', Same H H' → E (.ref CN) none H') ∧
  (ds.all isK = true → within 1 6 e = true → ∀ ts k, ds = ts.map Kd.dat → e = .int k → 12 < (mk ts k).nums → ∀ H', Same H H' → E (.ref CK) none H') ∧
  (ds.all isK = true → within 1 6 e = true → ∀ ts k, ds = ts.map Kd.dat → e = .int k → (mk ts k).good → (mk ts k).nums ≤ 12 → ∀ p H', Same H H' → Dp K H' (.ref p) (mk ts k).dat → Q (.ref p) H')
def spKFN (K : PySem.W.Frag) (CS : Addr) : Sp := fun vs H _ E => ∃ x t y, vs = [x, y] ∧ Lk K H x t ∧ kitB t "list" = some false ∧ kitB t "tuple" = some false ∧ ∀ H', Same H H' → E (.ref CS) none H'
theorem mk_drop {ts : List Kd} {k : Int} {i : Nat} {u : Kd} (h : ts[i]? = some u) : mk (ts.drop i) k = .to u (mk (ts.drop (i + 1)) k) := by
  have hi : i < ts.length := (List.getElem?_eq_some_iff.mp h).1
  have e : ts.drop i = u :: ts.drop (i + 1) := by
    rw [List.drop_eq_getElem_cons hi]
    congr 1
    exact (List.getElem?_eq_some_iff.mp h).2
  rw [e]
  rfl
theorem mk_dep : ∀ {ts : List Kd} {k : Int}, (∀ t ∈ ts, t.nums ≤ 12) → ts.length ≤ 12 → (mk ts k).dat.depth ≤ 30 := fun {ts k} h hl => by
  have z : ∀ us : List Kd, (∀ t ∈ us, t.nums ≤ 12) → (mk us k).dat.depth ≤ 13 + us.length := fun us => by
    induction us with
    | nil =>
      intro _
      show max 0 (max 0 0) + 1 ≤ 13 + 0
      decide
    | cons u us ih =>
      intro hu
      have h1 := ih fun t ht => hu t (List.mem_cons_of_mem _ ht)
      have h2 := Nat.le_trans (dep_dat u) (hu u (List.mem_cons_self ..))
      show max 0 (max u.dat.depth (max (mk us k).dat.depth 0)) + 1 ≤ 13 + (u :: us).length
      simp only [List.length_cons]
      omega
  have := z ts h
  omega
theorem ok_kfL {f CK CS CN fL fI fN fW fC : Addr} {fd dL dI dN dW dC : FuncData} {t1 t2 : Tok} (F : Fun K "kind_from" "kind_from" sKindFrom f fd) (D : KfK P0 w K mg CK CS CN fL fI fN fW fC dL dI dN dW dC t1 t2) : FnOk P0 w K mg base (L2.CX P0 w) 6 f fd ["arguments", "answer"] (spKF K SqL CK CS CN) := by
  have GI := D.GI base
  have GC := D.GC base
  have GL : FnOk P0 w K mg base CX0 1 fL dL ["value"] _ := ok_islist D.FL D.T
  have GN : FnOk P0 w K mg base CX0 2 fN dN ["value", "low", "high"] (spWithin K) := ok_within D.FN D.T D.FW D.mW
  have bI := D.FI.binds (ps := ["value"]) fun _ _ _ _ _ _ us hl => match us, hl with | [_], _ => rfl
  have bC := D.FC.binds (ps := ["value"]) fun _ _ _ _ _ _ us hl => match us, hl with | [_], _ => rfl
  have bL := D.FL.binds (ps := ["value"]) fun _ _ _ _ _ _ us hl => match us, hl with | [_], _ => rfl
  have bN := D.FN.binds (ps := ["value", "low", "high"]) fun _ _ _ _ _ _ us hl => match us, hl with | [_, _, _], _ => rfl
  refine F.okX scKindFrom (fun vs H Q E h => ?_) (fun cdv A outer s H vs Q E hr h => ?_)
  · obtain ⟨a, xs, ds, y, e, rfl, _⟩ := h
    rfl
  · have nd := scKindFrom.nd
    have hr1 : Room 1 _ := hr.mono (by decide)
    have hr2 : Room 2 _ := hr.mono (by decide)
    have hr4 : Room 4 _ := hr.mono (by decide)
    refine ⟨_, pss_cons (ps_if (PW.pt (pw_or (pt_not (pt_val (pe_call GL hr1 rfl D.mL D.FL.kp bL .nil pass0 (pa_cons (pv 0) pa_nil)))) (pw_or1 (pt_not (pt_val (pe_callB (cr_all rfl) (by rfl) D.za (by decide +kernel) (pa_cons
        (pe_lc (own := [("part", 3)]) (g := gName 3) (tt := tYes) rfl nd (pi_list (pv 0)) (blkOk_by (own := [("part", 3)]) (N := ["arguments", "answer", "made", "part"]) (sc := defScope sKindFrom) (by decide +kernel)) (fun _ _ _ _ _ => pg_name (i := 3) nd rfl (Or.inl rfl)) (fun _ _ _ _ _ => pts_nil)
          (fun _ _ _ _ _ => pe_call GI hr4 rfl D.mI D.FI.kp bI .nil pass0 (pa_cons (pv 3) pa_nil))) pa_nil)))))))
        (pss_one (ps_raise rfl (takes_of rfl rfl rfl rfl) (pmk_own PySem.F.excBase_ValueError D.E.s.q D.E.s.g D.E.s.k (raises_own D.E.s.b D.E.s.t) rfl))) pss_nil)
      (pss_cons (ps_if (pt_not (pt_val (pe_call GN hr2 rfl D.mN D.FN.kp bN .nil pass0 (pa_cons (pv 1) (pa_cons pe_int (pa_cons (pe_glob (v := .int 6) (by rfl) D.M.six ⟨_, rfl⟩) pa_nil)))))) (pss_one (ps_raise rfl (takes_of rfl rfl rfl rfl) (pmk_own PySem.F.excBase_ValueError D.E.n.q D.E.n.g D.E.n.k (raises_own D.E.n.b D.E.n.t) rfl))) pss_nil)
      (pss_cons (ps_if (pt_cmpR op_ge (pe_callB call_len_seq (by rfl) D.T.len PySem.boot_len (pa_cons (pv 0) pa_nil)) (pe_glob (v := .int 12) (by rfl) D.M.twelve ⟨_, rfl⟩) (nomark _)) (pss_one (ps_raise rfl (takes_of rfl rfl rfl rfl) (pmk_own PySem.F.excBase_ValueError D.E.k.q D.E.k.g D.E.k.k (raises_own D.E.k.b D.E.k.t) rfl))) pss_nil)
      (pss_cons (ps_set (i := 2) nd rfl (Or.inl rfl) (pe_tup (pa_cons pe_str (pa_cons (pv 1) pa_nil))))
      (pss_cons (ps_for (passes_of rfl) rfl (RT.pi_revA (by rfl) D.zr (pv 0)) (pg_name (i := 3) nd rfl (Or.inl rfl)) (pss_one (ps_set (i := 2) nd rfl (Or.inl rfl) (pe_tup (pa_cons pe_str (pa_cons (pv 3) (pa_cons (pv 2) pa_nil)))))))
      (pss_cons (ps_expr (pe_callS GC hr rfl D.mC D.FC.kp bC (fun σ => passAt (takes_of rfl rfl rfl rfl) σ) (pa_cons (pv 2) pa_nil)))
      (pss_one (ps_ret (pv 2)))))))), ?_⟩
    obtain ⟨a, xs, ds, y, e, rfl, hS, hD, hl, hsh, hy, k1, k2, k3, k4⟩ := h
    have line : 100 < sizeLine := by decide
    refine ⟨_, rfl, .ref a, "list", true, rfl, .inl ⟨_, .lst hS hD, rfl⟩, .inl ⟨by decide +kernel, rfl⟩, fun H1 s1 => ⟨_, rfl, iteF ?_⟩⟩
    refine ⟨_, rfl, a, rfl, ⟨_, Same.seq s1 hS⟩, fun D hDn => lc_list (K := K) (a := a) (xs := xs) (fun i H' => Same H1 H' ∧ H' D = some (.lst (((ds.take i).map isK).map V.bl))) ⟨Pre.same_upd hDn, by rw [upd_same]; rfl⟩ (fun i H' _ ⟨s3, _⟩ => Same.seq s3 (Same.seq s1 hS)) ?_ ?_⟩
    · rintro i x H' hx ⟨s3, hd⟩
      obtain ⟨d, hdi, hdx⟩ := dpAll_at hD hx
      have hlt : i < ds.length := (List.getElem?_eq_some_iff.mp hdi).1
      refine ⟨rfl, _, rfl, x, d, rfl, dp_same (s1.trans s3) hdx, hsh d (List.mem_of_getElem? hdi), fun H3 s4 => ⟨_, s4 _ _ hd, ?_, fun b o e => ?_, ?_⟩⟩
      · rw [List.length_map, List.length_map, List.length_take]
        exact Nat.lt_of_le_of_lt (Nat.min_le_left _ _) (Nat.lt_of_lt_of_le hlt (by rw [← dpAll_len hD]; omega))
      · rw [upd_ne (ne_of_none e hDn)]
        exact s4 _ _ (s3 _ _ e)
      · rw [upd_same, List.take_add_one, hdi]
        simp
    · rintro H2 ⟨s3, hd⟩
      refine ⟨D, (ds.take xs.length).map isK, rfl, SqL.of hd, _, rfl, ?_⟩
      have e1 : ((ds.take xs.length).map isK).all id = ds.all isK := by
        rw [dpAll_len hD, List.take_length, List.all_map]
        rfl
      rw [e1]
      have s2 := s1.trans s3
      cases hw : ds.all isK with
      | false => exact iteT (k1 hw H2 s2)
      | true =>
        refine iteF ⟨_, rfl, y, e, 1, 6, rfl, dp_same s2 hy, _, rfl, ?_⟩
        cases hwi : within 1 6 e with
        | false => exact iteT (k2 hw hwi H2 s2)
        | true =>
          obtain ⟨ts, rfl, hts⟩ := all_kd hw
          obtain ⟨kk, rfl, rfl, hk1, hk2⟩ : ∃ kk, e = .int kk ∧ y = .int kk ∧ 1 ≤ kk ∧ kk ≤ 6 := by
            cases hy with
            | int i =>
              have z : (decide (1 ≤ i) && decide (i ≤ 6)) = true := hwi
              rw [Bool.and_eq_true] at z
              exact ⟨i, rfl, rfl, of_decide_eq_true z.1, of_decide_eq_true z.2⟩
            | _ => cases hwi
          have lx : xs.length = ts.length := by rw [dpAll_len hD, List.length_map]
          have ml := mk_len ts kk
          refine iteF ⟨_, rfl, a, xs, rfl, .inl (Same.seq s2 hS), _, _, rfl, rfl, _, rfl, ite2 (fun c => ?_) (fun c => ?_)⟩
          · have c' : (12 : Int) ≤ (xs.length : Int) := of_decide_eq_true c
            exact k3 hw hwi ts kk rfl rfl (by omega) H2 s2
          · have c' : ¬ (12 : Int) ≤ (xs.length : Int) := fun q => c (decide_eq_true q)
            refine ⟨_, rfl, by show 2 ≤ sizeLine; decide, fun r hr0 => ?_⟩
            have s4 := s2.trans (Pre.same_upd (o := .tup [.str "num", .int kk]) hr0)
            have hr' : SqT K (upd H2 r (.tup [.str "num", .int kk])) r [.str "num", .int kk] := SqT.of upd_same
            have dr : Dp K (upd H2 r (.tup [.str "num", .int kk])) (.ref r) (Kd.num kk).dat := .tup hr' (.cons (.str _) (.cons (.int _) .nil))
            refine ⟨_, rfl, a, xs, rfl, .inl ⟨Same.seq s4 hS, RT.for_Itv (K := K) (a := a) (xs := xs) (fun i σ H' => ∃ m pt, σ = [some (.ref a), some (.int kk), some (.ref m), pt] ∧ Same H H' ∧ Dp K H' (.ref m) (mk (ts.drop (ts.length - i)) kk).dat) ⟨r, none, rfl, s4, ?_⟩ (fun _ σ H' ⟨_, _, _, s, _⟩ => Same.seq s hS) ?_ ?_⟩⟩
            · rw [Nat.sub_zero, List.drop_length]
              exact dr
            · rintro i x σ H5 hi hx ⟨m, pt, rfl, s5, hm⟩
              obtain ⟨u, hu, hdu⟩ := dpAll_map hD hx
              rw [lx] at hu hi
              refine ⟨_, rfl, _, rfl, by show 3 ≤ sizeLine; decide, fun r2 hr2 => ?_⟩
              have s6 := Pre.same_upd (o := .tup [.str "to", x, .ref m]) hr2
              refine ⟨r2, _, rfl, s5.trans s6, ?_⟩
              have e3 : ts.length - (i + 1) = ts.length - 1 - i := by omega
              have e4 : ts.length - 1 - i + 1 = ts.length - i := by omega
              rw [e3, mk_drop hu, e4]
              exact .tup (SqT.of upd_same) (.cons (.str _) (.cons (dp_same (s5.trans s6) hdu) (.cons (dp_same s6 hm) .nil)))
            · rintro σ H5 ⟨m, pt, rfl, s5, hm⟩
              rw [lx, Nat.sub_self, List.drop_zero] at hm
              have hg : (mk ts kk).good := mk_good (fun u hu => (hts u hu).1) hk1 hk2
              have hcan := can_dat (mk ts kk)
              have hdep : (mk ts kk).dat.depth ≤ 30 := mk_dep (fun u hu => (hts u hu).2) (by omega)
              refine ⟨_, rfl, .ref m, _, rfl, hm, sh_of hcan (by omega), fun hK H6 s6 => ?_, fun hK H6 s6 => ?_⟩
              · rw [isK_dat hg] at hK
                exact ⟨_, rfl, k4 hw hwi ts kk rfl rfl hg (of_decide_eq_true hK) m H6 (s5.trans s6) (dp_same s6 hm)⟩
              · rw [isK_dat hg] at hK
                have := of_decide_eq_false hK
                exact k3 hw hwi ts kk rfl rfl (by omega) H6 (s5.trans s6)
theorem ok_kfT {f CK CS CN fL fI fN fW fC : Addr} {fd dL dI dN dW dC : FuncData} {t1 t2 : Tok} (F : Fun K "kind_from" "kind_from" sKindFrom f fd) (D : KfK P0 w K mg CK CS CN fL fI fN fW fC dL dI dN dW dC t1 t2) : FnOk P0 w K mg base (L2.CX P0 w) 6 f fd ["arguments", "answer"] (spKF K SqT CK CS CN) := by
  have GI := D.GI base
  have GC := D.GC base
  have GL : FnOk P0 w K mg base CX0 1 fL dL ["value"] _ := ok_islist D.FL D.T
  have GN : FnOk P0 w K mg base CX0 2 fN dN ["value", "low", "high"] (spWithin K) := ok_within D.FN D.T D.FW D.mW
  have bI := D.FI.binds (ps := ["value"]) fun _ _ _ _ _ _ us hl => match us, hl with | [_], _ => rfl
  have bC := D.FC.binds (ps := ["value"]) fun _ _ _ _ _ _ us hl => match us, hl with | [_], _ => rfl
  have bL := D.FL.binds (ps := ["value"]) fun _ _ _ _ _ _ us hl => match us, hl with | [_], _ => rfl
  have bN := D.FN.binds (ps := ["value", "low", "high"]) fun _ _ _ _ _ _ us hl => match us, hl with | [_, _, _], _ => rfl
  refine F.okX scKindFrom (fun vs H Q E h => ?_) (fun cdv A outer s H vs Q E hr h => ?_)
  · obtain ⟨a, xs, ds, y, e, rfl, _⟩ := h
    rfl
  · have nd := scKindFrom.nd
    have hr1 : Room 1 _ := hr.mono (by decide)
    have hr2 : Room 2 _ := hr.mono (by decide)
    have hr4 : Room 4 _ := hr.mono (by decide)
    refine ⟨_, pss_cons (ps_if (PW.pt (pw_or (pt_not (pt_val (pe_call GL hr1 rfl D.mL D.FL.kp bL .nil pass0 (pa_cons (pv 0) pa_nil)))) (pw_or1 (pt_not (pt_val (pe_callB (cr_all rfl) (by rfl) D.za (by decide +kernel) (pa_cons
        (pe_lc (own := [("part", 3)]) (g := gName 3) (tt := tYes) rfl nd (pi_tup (pv 0)) (blkOk_by (own := [("part", 3)]) (N := ["arguments", "answer", "made", "part"]) (sc := defScope sKindFrom) (by decide +kernel)) (fun _ _ _ _ _ => pg_name (i := 3) nd rfl (Or.inl rfl)) (fun _ _ _ _ _ => pts_nil)
          (fun _ _ _ _ _ => pe_call GI hr4 rfl D.mI D.FI.kp bI .nil pass0 (pa_cons (pv 3) pa_nil))) pa_nil)))))))
        (pss_one (ps_raise rfl (takes_of rfl rfl rfl rfl) (pmk_own PySem.F.excBase_ValueError D.E.s.q D.E.s.g D.E.s.k (raises_own D.E.s.b D.E.s.t) rfl))) pss_nil)
      (pss_cons (ps_if (pt_not (pt_val (pe_call GN hr2 rfl D.mN D.FN.kp bN .nil pass0 (pa_cons (pv 1) (pa_cons pe_int (pa_cons (pe_glob (v := .int 6) (by rfl) D.M.six ⟨_, rfl⟩) pa_nil)))))) (pss_one (ps_raise rfl (takes_of rfl rfl rfl rfl) (pmk_own PySem.F.excBase_ValueError D.E.n.q D.E.n.g D.E.n.k (raises_own D.E.n.b D.E.n.t) rfl))) pss_nil)
      (pss_cons (ps_if (pt_cmpR op_ge (pe_callB call_len_seq (by rfl) D.T.len PySem.boot_len (pa_cons (pv 0) pa_nil)) (pe_glob (v := .int 12) (by rfl) D.M.twelve ⟨_, rfl⟩) (nomark _)) (pss_one (ps_raise rfl (takes_of rfl rfl rfl rfl) (pmk_own PySem.F.excBase_ValueError D.E.k.q D.E.k.g D.E.k.k (raises_own D.E.k.b D.E.k.t) rfl))) pss_nil)
      (pss_cons (ps_set (i := 2) nd rfl (Or.inl rfl) (pe_tup (pa_cons pe_str (pa_cons (pv 1) pa_nil))))
      (pss_cons (ps_for (passes_of rfl) rfl (RT.pi_revA (by rfl) D.zr (pv 0)) (pg_name (i := 3) nd rfl (Or.inl rfl)) (pss_one (ps_set (i := 2) nd rfl (Or.inl rfl) (pe_tup (pa_cons pe_str (pa_cons (pv 3) (pa_cons (pv 2) pa_nil)))))))
      (pss_cons (ps_expr (pe_callS GC hr rfl D.mC D.FC.kp bC (fun σ => passAt (takes_of rfl rfl rfl rfl) σ) (pa_cons (pv 2) pa_nil)))
      (pss_one (ps_ret (pv 2)))))))), ?_⟩
    obtain ⟨a, xs, ds, y, e, rfl, hS, hD, hl, hsh, hy, k1, k2, k3, k4⟩ := h
    have line : 100 < sizeLine := by decide
    refine ⟨_, rfl, .ref a, "tuple", true, rfl, .inl ⟨_, .tup hS hD, rfl⟩, .inr ⟨by decide +kernel, by decide +kernel⟩, fun H1 s1 => ⟨_, rfl, iteF ?_⟩⟩
    refine ⟨_, rfl, a, rfl, ⟨_, sqT_same s1 hS⟩, fun D hDn => lc_tup (K := K) (a := a) (xs := xs) (fun i H' => Same H1 H' ∧ H' D = some (.lst (((ds.take i).map isK).map V.bl))) ⟨Pre.same_upd hDn, by rw [upd_same]; rfl⟩ (fun i H' _ ⟨s3, _⟩ => sqT_same s3 (sqT_same s1 hS)) ?_ ?_⟩
    · rintro i x H' hx ⟨s3, hd⟩
      obtain ⟨d, hdi, hdx⟩ := dpAll_at hD hx
      have hlt : i < ds.length := (List.getElem?_eq_some_iff.mp hdi).1
      refine ⟨rfl, _, rfl, x, d, rfl, dp_same (s1.trans s3) hdx, hsh d (List.mem_of_getElem? hdi), fun H3 s4 => ⟨_, s4 _ _ hd, ?_, fun b o e => ?_, ?_⟩⟩
      · rw [List.length_map, List.length_map, List.length_take]
        exact Nat.lt_of_le_of_lt (Nat.min_le_left _ _) (Nat.lt_of_lt_of_le hlt (by rw [← dpAll_len hD]; omega))
      · rw [upd_ne (ne_of_none e hDn)]
        exact s4 _ _ (s3 _ _ e)
      · rw [upd_same, List.take_add_one, hdi]
        simp
    · rintro H2 ⟨s3, hd⟩
      refine ⟨D, (ds.take xs.length).map isK, rfl, SqL.of hd, _, rfl, ?_⟩
      have e1 : ((ds.take xs.length).map isK).all id = ds.all isK := by
        rw [dpAll_len hD, List.take_length, List.all_map]
        rfl
      rw [e1]
      have s2 := s1.trans s3
      cases hw : ds.all isK with
      | false => exact iteT (k1 hw H2 s2)
      | true =>
        refine iteF ⟨_, rfl, y, e, 1, 6, rfl, dp_same s2 hy, _, rfl, ?_⟩
        cases hwi : within 1 6 e with
        | false => exact iteT (k2 hw hwi H2 s2)
        | true =>
          obtain ⟨ts, rfl, hts⟩ := all_kd hw
          obtain ⟨kk, rfl, rfl, hk1, hk2⟩ : ∃ kk, e = .int kk ∧ y = .int kk ∧ 1 ≤ kk ∧ kk ≤ 6 := by
            cases hy with
            | int i =>
              have z : (decide (1 ≤ i) && decide (i ≤ 6)) = true := hwi
              rw [Bool.and_eq_true] at z
              exact ⟨i, rfl, rfl, of_decide_eq_true z.1, of_decide_eq_true z.2⟩
            | _ => cases hwi
          have lx : xs.length = ts.length := by rw [dpAll_len hD, List.length_map]
          have ml := mk_len ts kk
          refine iteF ⟨_, rfl, a, xs, rfl, .inr (sqT_same s2 hS), _, _, rfl, rfl, _, rfl, ite2 (fun c => ?_) (fun c => ?_)⟩
          · have c' : (12 : Int) ≤ (xs.length : Int) := of_decide_eq_true c
            exact k3 hw hwi ts kk rfl rfl (by omega) H2 s2
          · have c' : ¬ (12 : Int) ≤ (xs.length : Int) := fun q => c (decide_eq_true q)
            refine ⟨_, rfl, by show 2 ≤ sizeLine; decide, fun r hr0 => ?_⟩
            have s4 := s2.trans (Pre.same_upd (o := .tup [.str "num", .int kk]) hr0)
            have hr' : SqT K (upd H2 r (.tup [.str "num", .int kk])) r [.str "num", .int kk] := SqT.of upd_same
            have dr : Dp K (upd H2 r (.tup [.str "num", .int kk])) (.ref r) (Kd.num kk).dat := .tup hr' (.cons (.str _) (.cons (.int _) .nil))
            refine ⟨_, rfl, a, xs, rfl, .inr ⟨sqT_same s4 hS, RT.for_ItvT (K := K) (a := a) (xs := xs) (fun i σ H' => ∃ m pt, σ = [some (.ref a), some (.int kk), some (.ref m), pt] ∧ Same H H' ∧ Dp K H' (.ref m) (mk (ts.drop (ts.length - i)) kk).dat) ⟨r, none, rfl, s4, ?_⟩ (fun _ σ H' ⟨_, _, _, s, _⟩ => sqT_same s hS) ?_ ?_⟩⟩
            · rw [Nat.sub_zero, List.drop_length]
              exact dr
            · rintro i x σ H5 hi hx ⟨m, pt, rfl, s5, hm⟩
              obtain ⟨u, hu, hdu⟩ := dpAll_map hD hx
              rw [lx] at hu hi
              refine ⟨_, rfl, _, rfl, by show 3 ≤ sizeLine; decide, fun r2 hr2 => ?_⟩
              have s6 := Pre.same_upd (o := .tup [.str "to", x, .ref m]) hr2
              refine ⟨r2, _, rfl, s5.trans s6, ?_⟩
              have e3 : ts.length - (i + 1) = ts.length - 1 - i := by omega
              have e4 : ts.length - 1 - i + 1 = ts.length - i := by omega
              rw [e3, mk_drop hu, e4]
              exact .tup (SqT.of upd_same) (.cons (.str _) (.cons (dp_same (s5.trans s6) hdu) (.cons (dp_same s6 hm) .nil)))
            · rintro σ H5 ⟨m, pt, rfl, s5, hm⟩
              rw [lx, Nat.sub_self, List.drop_zero] at hm
              have hg : (mk ts kk).good := mk_good (fun u hu => (hts u hu).1) hk1 hk2
              have hcan := can_dat (mk ts kk)
              have hdep : (mk ts kk).dat.depth ≤ 30 := mk_dep (fun u hu => (hts u hu).2) (by omega)
              refine ⟨_, rfl, .ref m, _, rfl, hm, sh_of hcan (by omega), fun hK H6 s6 => ?_, fun hK H6 s6 => ?_⟩
              · rw [isK_dat hg] at hK
                exact ⟨_, rfl, k4 hw hwi ts kk rfl rfl hg (of_decide_eq_true hK) m H6 (s5.trans s6) (dp_same s6 hm)⟩
              · rw [isK_dat hg] at hK
                have := of_decide_eq_false hK
                exact k3 hw hwi ts kk rfl rfl (by omega) H6 (s5.trans s6)
theorem ok_kfN {f CK CS CN fL fI fN fW fC : Addr} {fd dL dI dN dW dC : FuncData} {t1 t2 : Tok} (F : Fun K "kind_from" "kind_from" sKindFrom f fd) (D : KfK P0 w K mg CK CS CN fL fI fN fW fC dL dI dN dW dC t1 t2) : FnOk P0 w K mg base (L2.CX P0 w) 6 f fd ["arguments", "answer"] (spKFN K CS) := by
  have GI := D.GI base
  have GC := D.GC base
  have GL : FnOk P0 w K mg base CX0 1 fL dL ["value"] _ := ok_islist D.FL D.T
  have GN : FnOk P0 w K mg base CX0 2 fN dN ["value", "low", "high"] (spWithin K) := ok_within D.FN D.T D.FW D.mW
  have bI := D.FI.binds (ps := ["value"]) fun _ _ _ _ _ _ us hl => match us, hl with | [_], _ => rfl
  have bC := D.FC.binds (ps := ["value"]) fun _ _ _ _ _ _ us hl => match us, hl with | [_], _ => rfl
  have bL := D.FL.binds (ps := ["value"]) fun _ _ _ _ _ _ us hl => match us, hl with | [_], _ => rfl
  have bN := D.FN.binds (ps := ["value", "low", "high"]) fun _ _ _ _ _ _ us hl => match us, hl with | [_, _, _], _ => rfl
  refine F.okX scKindFrom (fun vs H Q E h => ?_) (fun cdv A outer s H vs Q E hr h => ?_)
  · obtain ⟨x, t, y, rfl, _⟩ := h
    rfl
  · have nd := scKindFrom.nd
    have hr1 : Room 1 _ := hr.mono (by decide)
    have hr2 : Room 2 _ := hr.mono (by decide)
    have hr4 : Room 4 _ := hr.mono (by decide)
    refine ⟨_, pss_cons (ps_if (PW.pt (pw_or (pt_not (pt_val (pe_call GL hr1 rfl D.mL D.FL.kp bL .nil pass0 (pa_cons (pv 0) pa_nil)))) (pw_or1 (pt_not (pt_val (pe_callB (cr_all rfl) (by rfl) D.za (by decide +kernel) (pa_cons
        (pe_lc (own := [("part", 3)]) (g := gName 3) (tt := tYes) rfl nd (pi_list (pv 0)) (blkOk_by (own := [("part", 3)]) (N := ["arguments", "answer", "made", "part"]) (sc := defScope sKindFrom) (by decide +kernel)) (fun _ _ _ _ _ => pg_name (i := 3) nd rfl (Or.inl rfl)) (fun _ _ _ _ _ => pts_nil)
          (fun _ _ _ _ _ => pe_call GI hr4 rfl D.mI D.FI.kp bI .nil pass0 (pa_cons (pv 3) pa_nil))) pa_nil)))))))
        (pss_one (ps_raise rfl (takes_of rfl rfl rfl rfl) (pmk_own PySem.F.excBase_ValueError D.E.s.q D.E.s.g D.E.s.k (raises_own D.E.s.b D.E.s.t) rfl))) pss_nil)
      (pss_cons (ps_if (pt_not (pt_val (pe_call GN hr2 rfl D.mN D.FN.kp bN .nil pass0 (pa_cons (pv 1) (pa_cons pe_int (pa_cons (pe_glob (v := .int 6) (by rfl) D.M.six ⟨_, rfl⟩) pa_nil)))))) (pss_one (ps_raise rfl (takes_of rfl rfl rfl rfl) (pmk_own PySem.F.excBase_ValueError D.E.n.q D.E.n.g D.E.n.k (raises_own D.E.n.b D.E.n.t) rfl))) pss_nil)
      (pss_cons (ps_if (pt_cmpR op_ge (pe_callB call_len_seq (by rfl) D.T.len PySem.boot_len (pa_cons (pv 0) pa_nil)) (pe_glob (v := .int 12) (by rfl) D.M.twelve ⟨_, rfl⟩) (nomark _)) (pss_one (ps_raise rfl (takes_of rfl rfl rfl rfl) (pmk_own PySem.F.excBase_ValueError D.E.k.q D.E.k.g D.E.k.k (raises_own D.E.k.b D.E.k.t) rfl))) pss_nil)
      (pss_cons (ps_set (i := 2) nd rfl (Or.inl rfl) (pe_tup (pa_cons pe_str (pa_cons (pv 1) pa_nil))))
      (pss_cons (ps_for (passes_of rfl) rfl (RT.pi_revA (by rfl) D.zr (pv 0)) (pg_name (i := 3) nd rfl (Or.inl rfl)) (pss_one (ps_set (i := 2) nd rfl (Or.inl rfl) (pe_tup (pa_cons pe_str (pa_cons (pv 3) (pa_cons (pv 2) pa_nil)))))))
      (pss_cons (ps_expr (pe_callS GC hr rfl D.mC D.FC.kp bC (fun σ => passAt (takes_of rfl rfl rfl rfl) σ) (pa_cons (pv 2) pa_nil)))
      (pss_one (ps_ret (pv 2)))))))), ?_⟩
    obtain ⟨x, t, y, rfl, hx, h1, h2, k⟩ := h
    exact ⟨_, rfl, x, t, false, rfl, hx, .inr ⟨h1, h2⟩, fun H1 s1 => ⟨_, rfl, iteT (iteT (k H1 s1))⟩⟩
end
end Kn

namespace Kn
open PySem PySem.Spec PyProof.Rows L2
open Wt Dc
abbrev sWanted : Stmt := Pre.top 31
abbrev sNumsL : Stmt := Pre.top 34
abbrev sAnyKind : Stmt := Pre.top 41
abbrev sWholeL : Stmt := Pre.top 38
abbrev sCounted : Stmt := Pre.top 40
abbrev sIsKindL : Stmt := Pre.top 39
abbrev sOrderL : Stmt := Pre.top 42
def cntR : Nat → PyData → Option Nat
  | r + 1, .tuple (.str s :: rest) => if s = "num" then (match rest with
      | [e] => if within 1 6 e = true then some 1 else none
      | _ => none) else if s = "to" then (match rest with
      | [a, b] => addO (cntR r a) (cntR r b)
      | _ => none) else none
  | _, _ => none
theorem cntR_cnt : ∀ {r : Nat} {d : PyData} {n : Nat}, cntR r d = some n → cnt d = some n
  | 0, d, n, h => by
    unfold cntR at h
    cases h
  | r + 1, d, n, h => by
    unfold cntR at h
    split at h
    · rename_i s rest
      split at h
      · rename_i hs
        subst hs
        split at h
        · rename_i e
          split at h
          · rename_i hw
            cases h
            cases e with
            | int k =>
              have z : (decide (1 ≤ k) && decide (k ≤ 6)) = true := hw
              rw [Bool.and_eq_true] at z
              rw [cnt_num, if_pos ⟨rfl, of_decide_eq_true z.1, of_decide_eq_true z.2⟩]
            | _ => cases hw
          · cases h
        · cases h
      · split at h
        · rename_i hs
          subst hs
          split at h
          · obtain ⟨m, k, h1, h2, rfl⟩ := addO_some h
            rw [cnt_to, if_pos rfl, cntR_cnt h1, cntR_cnt h2]
            rfl
          · cases h
        · cases h
    · cases h
theorem cntR_dat : ∀ {r : Nat} {t : Kd}, t.good → t.nums ≤ r → cntR r t.dat = some t.nums
  | 0, t, _, h => by
    have := nums_pos t
    omega
  | r + 1, .num k, g, h => by
    show (if ("num" : Str) = "num" then (if within 1 6 (.int k) = true then some 1 else none) else _) = some 1
    have z : within 1 6 (.int k) = true := by
      show (decide (1 ≤ k) && decide (k ≤ 6)) = true
      rw [decide_eq_true g.1, decide_eq_true g.2]
      rfl
    rw [if_pos rfl, if_pos z]
  | r + 1, .to a b, g, h => by
    have pa := nums_pos a
    have pb := nums_pos b
    have h' : a.nums + b.nums ≤ r + 1 := h
    have ne : ¬ ("to" : Str) = "num" := by decide +kernel
    show (if ("to" : Str) = "num" then _ else if ("to" : Str) = "to" then addO (cntR r a.dat) (cntR r b.dat) else none) = some (a.nums + b.nums)
    rw [if_neg ne, if_pos rfl, cntR_dat g.1 (by omega), cntR_dat g.2 (by omega)]
    rfl
theorem isK_R (d : PyData) : isK d = (match cntR 14 d with
    | some n => decide (n ≤ 12)
    | none => false) := by
  cases h : cntR 14 d with
  | some n =>
    unfold isK
    rw [cntR_cnt h]
  | none =>
    cases e : isK d with
    | false => rfl
    | true =>
      obtain ⟨t, rfl, g, n⟩ := isK_kd e
      rw [cntR_dat g (by omega)] at h
      cases h
def optV : Option Nat → V
  | none => .non
  | some n => .int (n : Int)
section
variable {P0 : Program} {w : World} {K : PySem.W.Frag} {mg : Str → Option Value} {base : Heap}
def spWanted (K : PySem.W.Frag) : Sp := fun vs H Q _ => ∃ (x : V) (t : Kd), vs = [x] ∧ Dp K H x t.dat ∧ t.nums ≤ 40 ∧ ∀ (p l : Addr) (ys : List V) (H' : Hp), Same H H' → SqT K H' p [.ref l, .int t.ans] → H l = none → H' l = some (.lst ys) → DpAll K H ys (t.args.map Kd.dat) → Q (.ref p) H'
theorem scWanted : FnScope ["kind", "found"] ["kind"] (defScope sWanted) := ⟨rfl, rfl, rfl, by decide +kernel, rfl, by decide +kernel, by decide +kernel⟩
theorem ok_wanted {f : Addr} {fd : FuncData} (F : Fun K "_law_cp_wanted" "_law_cp_wanted" sWanted f fd) : FnOk P0 w K mg base CX0 1 f fd ["kind"] (spWanted K) := by
  refine F.ok scWanted (fun vs H Q E h => ?_) (fun cdv A outer s H vs Q E hr h => ?_)
  · obtain ⟨x, t, rfl, _⟩ := h
    rfl
  · obtain ⟨x, t, rfl, hd, hn, k⟩ := h
    have nd := scWanted.nd
    refine ⟨_, pss_cons (ps_set (i := 1) nd rfl (Or.inl rfl) (pe_lst pa_nil))
      (pss_cons (ps_while PassesOwn.never (pt_cmpR op_eq (pe_ix ix_tup (pv 0) pe_int (fun _ _ => rfl)) pe_str (nomark _))
        (pss_cons (ps_expr (pe_bm PySem.F.plainAttrs_list PySem.F.slot_list_append PySem.F.type_list_append mt_append (pv 1) (pa_cons (pe_ix ix_tup (pv 0) pe_int (fun _ _ => rfl)) pa_nil)))
        (pss_one (ps_set (i := 0) nd rfl (Or.inl rfl) (pe_ix ix_tup (pv 0) pe_int (fun _ _ => rfl))))))
      (pss_one (ps_ret (pe_tup (pa_cons (pv 1) (pa_cons (pe_ix ix_tup (pv 0) pe_int (fun _ _ => rfl)) pa_nil)))))), ?_⟩
    refine ⟨by show 0 ≤ sizeLine; decide, fun L hL => ?_⟩
    have sL := Pre.same_upd (o := .lst []) hL
    refine ⟨fun m σ H' => ∃ (y : V) (u : Kd) (vs : List V) (ds : List PyData), m = u.nums ∧ σ = [some y, some (.ref L)] ∧ Same H H' ∧ H' L = some (.lst vs) ∧ DpAll K H vs ds ∧ Dp K H y u.dat ∧ ds ++ u.args.map Kd.dat = t.args.map Kd.dat ∧ u.ans = t.ans ∧ ds.length + u.nums ≤ 40,
      ⟨_, x, t, [], [], rfl, rfl, sL, upd_same, .nil, hd, rfl, rfl, by show 0 + t.nums ≤ 40; omega⟩, ?_⟩
    rintro m σ H1 ⟨y, u, vs, ds, rfl, rfl, s1, hv, hD, hy, hargs, hans, hlen⟩
    have lD : vs.length = ds.length := dpAll_len hD
    have line : 100 < sizeLine := by decide
    rcases dat_dp hy with ⟨p, k', rfl, rfl, q⟩ | ⟨p, y1, z1, a, b, rfl, rfl, q, q1, q2⟩
    · refine ⟨_, rfl, p, _, _, _, rfl, rfl, sqT_same s1 q, rfl, rfl, _, rfl, iteF ?_⟩
      refine ⟨_, rfl, _, rfl, p, _, _, _, rfl, rfl, sqT_same s1 q, rfl, by show 2 ≤ sizeLine; decide, fun r2 hr2 => ?_⟩
      have e : ds = t.args.map Kd.dat := by
        rw [← hargs]
        show ds = ds ++ []
        rw [List.append_nil]
      have e2 : k' = t.ans := hans
      rw [e] at hD
      rw [e2]
      have s3 := Pre.same_upd (o := .tup [.ref L, .int t.ans]) hr2
      exact k r2 L vs _ (s1.trans s3) (SqT.of upd_same) hL (s3 _ _ hv) hD
    · refine ⟨_, rfl, p, _, _, _, rfl, rfl, sqT_same s1 q, rfl, rfl, _, rfl, iteT ?_⟩
      have pa := nums_pos a
      have pb := nums_pos b
      have hlen' : ds.length + (a.nums + b.nums) ≤ 40 := hlen
      refine ⟨fun σ' H' => ∃ m', m' < a.nums + b.nums ∧ ∃ (y : V) (u : Kd) (vs : List V) (ds : List PyData), m' = u.nums ∧ σ' = [some y, some (.ref L)] ∧ Same H H' ∧ H' L = some (.lst vs) ∧ DpAll K H vs ds ∧ Dp K H y u.dat ∧ ds ++ u.args.map Kd.dat = t.args.map Kd.dat ∧ u.ans = t.ans ∧ ds.length + u.nums ≤ 40,
        fun σ' H' h => h, ?_⟩
      refine ⟨_, rfl, .inl ⟨rfl, _, SqL.of hv⟩, _, rfl, p, _, _, _, rfl, rfl, sqT_same s1 q, rfl, L, vs, y1, rfl, rfl, hv, by omega, ?_⟩
      have sw : Same H (upd H1 L (.lst (vs ++ [y1]))) := fun b' o eb => by
        rw [upd_ne (ne_of_none eb hL)]
        exact s1 _ _ eb
      refine ⟨_, rfl, p, _, _, _, rfl, rfl, sqT_same sw q, rfl, ?_⟩
      refine ⟨_, by omega, z1, b, vs ++ [y1], ds ++ [a.dat], rfl, rfl, sw, upd_same, dpAll_snoc hD q1, q2, ?_, hans, ?_⟩
      · rw [← hargs]
        show ds ++ [a.dat] ++ b.args.map Kd.dat = ds ++ (a.dat :: b.args.map Kd.dat)
        simp
      · simp only [List.length_append, List.length_singleton]
        omega
def spNumsL (K : PySem.W.Frag) (N : Nat) : Sp := fun vs H Q _ => ∃ (x : V) (t : Kd), vs = [x] ∧ Dp K H x t.dat ∧ t.nums ≤ N ∧ Q (.int (t.nums : Int)) H
theorem scNumsL : FnScope ["kind"] ["kind"] (defScope sNumsL) := ⟨rfl, rfl, rfl, by decide +kernel, rfl, by decide +kernel, by decide +kernel⟩
theorem ok_numsL {f : Addr} {fd : FuncData} (F : Fun K "_law_cp_nums" "_law_cp_nums" sNumsL f fd) (mF : mg "_law_cp_nums" = some (.ref f)) : ∀ N : Nat, FnOk P0 w K mg base CX0 (N + 1) f fd ["kind"] (spNumsL K N)
  | 0 => by
    refine F.ok (k := 0) scNumsL (fun vs H Q E h => ?_) (fun cdv A outer s H vs Q E hr h => ?_)
    · obtain ⟨x, t, rfl, _⟩ := h
      rfl
    · obtain ⟨x, t, rfl, hd, hn, _⟩ := h
      have := nums_pos t
      omega
  | N + 1 => by
    have IH := ok_numsL F mF N
    have bF := F.binds (ps := ["kind"]) fun _ _ _ _ _ _ us hl => match us, hl with | [_], _ => rfl
    refine F.ok (k := N + 1) scNumsL (fun vs H Q E h => ?_) (fun cdv A outer s H vs Q E hr h => ?_)
    · obtain ⟨x, t, rfl, _⟩ := h
      rfl
    · obtain ⟨x, t, rfl, hd, hn, k⟩ := h
      refine ⟨_, pss_one (ps_ret (pe_ifExp (pt_cmpR op_eq (pe_ix ix_tup (pv 0) pe_int (fun _ _ => rfl)) pe_str (nomark _)) pe_int
        (pe_op op_add (pe_call IH hr rfl mF F.kp bF .nil pass0 (pa_cons (pe_ix ix_tup (pv 0) pe_int (fun _ _ => rfl)) pa_nil)) (pe_call IH hr rfl mF F.kp bF .nil pass0 (pa_cons (pe_ix ix_tup (pv 0) pe_int (fun _ _ => rfl)) pa_nil))))), ?_⟩
      rcases dat_dp hd with ⟨p, k', rfl, rfl, q⟩ | ⟨p, y1, z1, a, b, rfl, rfl, q, q1, q2⟩
      · exact ⟨_, rfl, p, _, _, _, rfl, rfl, q, rfl, rfl, _, rfl, iteT k⟩
      · have pa := nums_pos a
        have pb := nums_pos b
        have hn' : a.nums + b.nums ≤ N + 1 := hn
        refine ⟨_, rfl, p, _, _, _, rfl, rfl, q, rfl, rfl, _, rfl, iteF ?_⟩
        refine ⟨_, rfl, p, _, _, _, rfl, rfl, q, rfl, y1, a, rfl, q1, by omega, _, rfl, p, _, _, _, rfl, rfl, q, rfl, z1, b, rfl, q2, by omega, _, _, rfl, rfl, ?_⟩
        have e : V.int ((Kd.to a b).nums : Int) = V.int ((a.nums : Int) + (b.nums : Int)) := by
          congr 1
        rw [e] at k
        exact k
def spAny (K : PySem.W.Frag) (N : Nat) : Sp := fun vs H Q _ => ∃ (p g c : Addr) (n m : Nat), vs = [.ref p, .int (m : Int)] ∧ Pre.St H p g c n ∧ n + 2 * m < 2 ^ 38 ∧ 1 ≤ m ∧ m ≤ N ∧ N ≤ 20 ∧
  ∀ (H' : Hp) (y : V) (t : Kd), Pre.Kp p g H H' → Pre.St H' p g c (n + (2 * m - 1)) → Dp K (wo p g H') y t.dat → t.good → t.nums = m → Q y H'
theorem scAnyKind : FnScope ["state", "nums", "first"] ["state", "nums"] (defScope sAnyKind) := ⟨rfl, rfl, rfl, by decide +kernel, rfl, by decide +kernel, by decide +kernel⟩
theorem wo_new {p g c : Addr} {n : Nat} {H : Hp} {a : Addr} {o : HO} (hs : Pre.St H p g c n) (ha : H a = none) : wo p g (upd H a o) a = some o := by
  have z := st_new hs ha
  exact wo_at z.1 z.2 upd_same
theorem ok_anykind {f fD fP fB : Addr} {fd dD dP dB : FuncData} (F : Fun K "_law_any_kind" "_law_any_kind" sAnyKind f fd) (mF : mg "_law_any_kind" = some (.ref f)) (D : Drw K mg fD fP fB dD dP dB) : ∀ N : Nat, FnOk P0 w K mg base CX0 (N + 3) f fd ["state", "nums"] (spAny K N)
  | 0 => by
    refine F.ok (k := 2) scAnyKind (fun vs H Q E h => ?_) (fun cdv A outer s H vs Q E hr h => ?_)
    · obtain ⟨p, g, c, n, m, rfl, _⟩ := h
      rfl
    · obtain ⟨p, g, c, n, m, rfl, _, _, h1, h2, _⟩ := h
      omega
  | N + 1 => by
    have IH := ok_anykind F mF D N
    have GD : FnOk P0 w K mg base CX0 2 fD dD ["state", "room"] Pre.spDraw := Pre.ok_draw D.FD D.T D.FB D.mB
    have bF := F.binds (ps := ["state", "nums"]) fun _ _ _ _ _ _ us hl => match us, hl with | [_, _], _ => rfl
    have bD := D.FD.binds (ps := ["state", "room"]) fun _ _ _ _ _ _ us hl => match us, hl with | [_, _], _ => rfl
    refine F.ok (k := N + 3) scAnyKind (fun vs H Q E h => ?_) (fun cdv A outer s H vs Q E hr h => ?_)
    · obtain ⟨p, g, c, n, m, rfl, _⟩ := h
      rfl
    · obtain ⟨p, g, c, n, m, rfl, hs, hn, h1, h2, h3, k⟩ := h
      have nd := scAnyKind.nd
      have hr2 : Room 2 _ := hr.mono (by omega)
      refine ⟨_, pss_cons (ps_if (pt_cmpR op_eq (pv 1) pe_int (nomark _)) (pss_one (ps_ret (pe_tup (pa_cons pe_str (pa_cons (pe_op op_add pe_int (pe_call GD hr2 rfl D.mD D.FD.kp bD .nil pass0 (pa_cons (pv 0) (pa_cons pe_int pa_nil)))) pa_nil))))) pss_nil)
        (pss_cons (ps_set (i := 2) nd rfl (Or.inl rfl) (pe_op op_add pe_int (pe_call GD hr2 rfl D.mD D.FD.kp bD .nil pass0 (pa_cons (pv 0) (pa_cons (pe_op op_sub (pv 1) pe_int) pa_nil)))))
        (pss_one (ps_ret (pe_tup (pa_cons pe_str (pa_cons (pe_call IH hr rfl mF F.kp bF .nil pass0 (pa_cons (pv 0) (pa_cons (pv 2) pa_nil))) (pa_cons (pe_call IH hr rfl mF F.kp bF .nil pass0 (pa_cons (pv 0) (pa_cons (pe_op op_sub (pv 1) (pv 2)) pa_nil))) pa_nil))))))), ?_⟩
      refine ⟨_, rfl, rfl, _, rfl, ite2 (fun hm' => ?_) (fun hm' => ?_)⟩
      · have hm0 : V.int (m : Int) = V.int 1 := of_decide_eq_true hm'
        have hm1 : (m : Int) = 1 := by injection hm0
        have hm : m = 1 := by omega
        subst hm
        refine ⟨_, rfl, p, g, c, n, 6, rfl, hs, by omega, by decide, by decide, fun H1 f0 kp1 s1 f1 f2 => ?_⟩
        refine ⟨_, _, rfl, rfl, by show 2 ≤ sizeLine; decide, fun r hr0 => ?_⟩
        have z := Pre.same_upd (o := .tup [.str "num", .int (1 + f0)]) hr0
        exact k _ (.ref r) (.num (1 + f0)) (kp1.trans (Pre.Kp.of z)) (st_more (st_same s1 z) (by omega)) (.tup (SqT.of (wo_new s1 hr0)) (.cons (.str _) (.cons (.int _) .nil))) ⟨by omega, by omega⟩ rfl
      · have hm : m ≠ 1 := fun z => hm' (by
          subst z
          exact decide_eq_true rfl)
        refine ⟨_, rfl, _, rfl, _, _, rfl, rfl, p, g, c, n, (m : Int) - 1, rfl, hs, by omega, by omega, by omega, fun H1 f0 kp1 s1 f1 f2 => ?_⟩
        obtain ⟨f0', rfl⟩ := Int.eq_ofNat_of_zero_le f1
        have e1 : (1 : Int) + (f0' : Int) = ((1 + f0' : Nat) : Int) := by omega
        have e2 : (m : Int) - ((1 + f0' : Nat) : Int) = ((m - (1 + f0') : Nat) : Int) := by omega
        refine ⟨_, _, rfl, rfl, ?_⟩
        refine ⟨_, rfl, _, rfl, p, g, c, n + 1, 1 + f0', (by show [V.ref p, V.int (1 + (f0' : Int))] = _; rw [e1]), s1, by omega, by omega, by omega, by omega, fun H2 y1 u1 kp2 s2 d2 g2 m2 => ?_⟩
        refine ⟨_, rfl, _, rfl, _, rfl, _, _, rfl, rfl, ?_⟩
        refine ⟨p, g, c, n + 1 + (2 * (1 + f0') - 1), m - (1 + f0'), (by show [V.ref p, V.int ((m : Int) - (1 + (f0' : Int)))] = _; rw [e1, e2]), s2, by omega, by omega, by omega, by omega, fun H3 y2 u2 kp3 s3 d3 g3 m3 => ?_⟩
        refine ⟨by show 3 ≤ sizeLine; decide, fun r hr0 => ?_⟩
        have z := Pre.same_upd (o := .tup [.str "to", y1, y2]) hr0
        refine k _ (.ref r) (.to u1 u2) (kp1.trans (kp2.trans (kp3.trans (Pre.Kp.of z)))) (st_more (st_same s3 z) (by omega)) (.tup (SqT.of (wo_new s3 hr0)) (.cons (.str _) (.cons (dp_same ((wo_kp kp3).trans (wo_mono z)) d2) (.cons (dp_same (wo_mono z) d3) .nil)))) ⟨g2, g3⟩ ?_
        show u1.nums + u2.nums = m
        omega
end
end Kn

namespace Kn
open PySem PySem.Spec PyProof.Rows L2
open Wt Dc
theorem cntR_nt {r : Nat} {d : PyData} (h : ∀ s rest, d ≠ .tuple (.str s :: rest)) : cntR r d = none := by
  cases r with
  | zero => rfl
  | succ r =>
    unfold cntR
    split
    · rename_i r' s rest _
      exact absurd rfl (h _ _)
    · rfl
section
variable {P0 : Program} {w : World} {K : PySem.W.Frag} {mg : Str → Option Value} {base : Heap}
theorem scWholeL : FnScope ["thing"] ["thing"] (defScope sWholeL) := ⟨rfl, rfl, rfl, by decide +kernel, rfl, by decide +kernel, by decide +kernel⟩
theorem ok_wholeL {f : Addr} {fd : FuncData} (F : Fun K "_law_cp_whole" "_law_cp_whole" sWholeL f fd) (T : TxtW mg) : FnOk P0 w K mg base CX0 1 f fd ["thing"] (spWhole K) := by
  refine F.ok scWholeL (fun vs H Q E h => ?_) (fun cdv A outer s H vs Q E hr h => ?_)
  · obtain ⟨x, d, rfl, _⟩ := h
    rfl
  · obtain ⟨x, d, rfl, hd, k⟩ := h
    refine ⟨_, pss_one (ps_ret (pe_and (pe_callB call_isi (by rfl) T.isi (by decide +kernel) (pa_cons (pv 0) (pa_cons (pe_bltn (v := .ty "int") (by rfl) T.int (by decide +kernel) rfl) pa_nil)))
      (pe_one (pe_not (pe_callB call_isi (by rfl) T.isi (by decide +kernel) (pa_cons (pv 0) (pa_cons (pe_bltn (v := .ty "bool") (by rfl) T.bool (by decide +kernel) rfl) pa_nil))))))), ?_⟩
    have ty := ty_of hd
    cases d with
    | int i => exact ⟨_, rfl, x, _, _, _, true, rfl, .ty _, ty, kit_ty (a := "int") (b := "int") (by decide +kernel), true, rfl, iteT ⟨_, rfl, x, _, _, _, false, rfl, .ty _, ty, kit_ty (a := "int") (b := "bool") (by decide +kernel), false, rfl, k⟩⟩
    | bool b => exact ⟨_, rfl, x, _, _, _, true, rfl, .ty _, ty, kit_ty (a := "bool") (b := "int") (by decide +kernel), true, rfl, iteT ⟨_, rfl, x, _, _, _, true, rfl, .ty _, ty, kit_ty (a := "bool") (b := "bool") (by decide +kernel), true, rfl, k⟩⟩
    | none => exact ⟨_, rfl, x, _, _, _, false, rfl, .ty _, ty, kit_ty (a := "NoneType") (b := "int") (by decide +kernel), false, rfl, iteF k⟩
    | str z => exact ⟨_, rfl, x, _, _, _, false, rfl, .ty _, ty, kit_ty (a := "str") (b := "int") (by decide +kernel), false, rfl, iteF k⟩
    | list z => exact ⟨_, rfl, x, _, _, _, false, rfl, .ty _, ty, kit_ty (a := "list") (b := "int") (by decide +kernel), false, rfl, iteF k⟩
    | tuple z => exact ⟨_, rfl, x, _, _, _, false, rfl, .ty _, ty, kit_ty (a := "tuple") (b := "int") (by decide +kernel), false, rfl, iteF k⟩
    | dict z => exact ⟨_, rfl, x, _, _, _, false, rfl, .ty _, ty, kit_ty (a := "dict") (b := "int") (by decide +kernel), false, rfl, iteF k⟩
def spCounted (K : PySem.W.Frag) (r : Nat) : Sp := fun vs H Q _ => ∃ x d, vs = [x, .int (r : Int)] ∧ Dp K H x d ∧ Sh d ∧ ∀ H', Same H H' → Q (optV (cntR r d)) H'
theorem scCounted : FnScope ["thing", "room", "one", "other"] ["thing", "room"] (defScope sCounted) := ⟨rfl, rfl, rfl, by decide +kernel, rfl, by decide +kernel, by decide +kernel⟩
theorem ok_counted {f fW : Addr} {fd dW : FuncData} (F : Fun K "_law_cp_counted" "_law_cp_counted" sCounted f fd) (mF : mg "_law_cp_counted" = some (.ref f)) (T : TxtW mg) (zs : mg "str" = none) (FW : Fun K "_law_cp_whole" "_law_cp_whole" sWholeL fW dW) (mW : mg "_law_cp_whole" = some (.ref fW)) :
    ∀ r : Nat, FnOk P0 w K mg base CX0 (r + 2) f fd ["thing", "room"] (spCounted K r)
  | 0 => by
    have IH : FnOk P0 w K mg base CX0 0 f fd ["thing", "room"] (fun _ _ _ _ => False) := ⟨fun _ _ _ _ h => h.elim, fun _ _ _ _ _ _ _ _ _ _ _ _ _ h => h.elim⟩
    have GW : FnOk P0 w K mg base CX0 1 fW dW ["thing"] (spWhole K) := ok_wholeL FW T
    have bW := FW.binds (ps := ["thing"]) fun _ _ _ _ _ _ us hl => match us, hl with | [_], _ => rfl
    have bF := F.binds (ps := ["thing", "room"]) fun _ _ _ _ _ _ us hl => match us, hl with | [_, _], _ => rfl
    refine F.ok (k := 1) scCounted (fun vs H Q E h => ?_) (fun cdv A outer s H vs Q E hr h => ?_)
    · obtain ⟨x, d, rfl, _⟩ := h
      rfl
    · obtain ⟨x, d, rfl, hd, hs, k⟩ := h
      have nd := scCounted.nd
      have hr1 : Room 1 _ := hr.mono (by omega)
      refine ⟨_, pss_cons (ps_if (PW.pt (pw_or (pt_not (pt_val (pe_callB call_isi (by rfl) T.isi (by decide +kernel) (pa_cons (pv 0) (pa_cons (pe_bltn (v := .ty "tuple") (by rfl) T.tuple (by decide +kernel) rfl) pa_nil))))) (pw_or (pt_cmpR (op_eqD hr.units) (pv 0) (pe_tup pa_nil) (nomark _)) (pw_or1 (pt_cmpR op_eq (pv 1) pe_int (nomark _)))))) (pss_one (ps_ret pe_non)) pss_nil)
        (pss_cons (ps_if (PW.pt (pw_and (pt_val (pe_callB call_isi (by rfl) T.isi (by decide +kernel) (pa_cons (pe_ix ix_tup (pv 0) pe_int (fun _ _ => rfl)) (pa_cons (pe_bltn (v := .ty "str") (by rfl) zs (by decide +kernel) rfl) pa_nil)))) (pw_and (pt_cmpR (op_eqD hr.units) (pe_ix ix_tup (pv 0) pe_int (fun _ _ => rfl)) pe_str (nomark _)) (pw_and1 (pt_cmpR op_eq (pe_callB call_len_seq (by rfl) T.len PySem.boot_len (pa_cons (pv 0) pa_nil)) pe_int (nomark _))))))
            (pss_one (ps_ret (pe_ifExp (PW.pt (pw_and (pt_val (pe_call GW hr1 rfl mW FW.kp bW .nil pass0 (pa_cons (pe_ix ix_tup (pv 0) pe_int (fun _ _ => rfl)) pa_nil))) (pw_and1 (pt_chain op_le op_le pe_int (pe_ix ix_tup (pv 0) pe_int (fun _ _ => rfl)) pe_int)))) pe_int pe_non))) pss_nil)
        (pss_cons (ps_if (PW.pt (pw_or (pt_not (pt_val (pe_callB call_isi (by rfl) T.isi (by decide +kernel) (pa_cons (pe_ix ix_tup (pv 0) pe_int (fun _ _ => rfl)) (pa_cons (pe_bltn (v := .ty "str") (by rfl) zs (by decide +kernel) rfl) pa_nil))))) (pw_or (pt_cmpR (op_neD hr.units) (pe_ix ix_tup (pv 0) pe_int (fun _ _ => rfl)) pe_str (nomark _)) (pw_or1 (pt_cmpR op_ne (pe_callB call_len_seq (by rfl) T.len PySem.boot_len (pa_cons (pv 0) pa_nil)) pe_int (nomark _)))))) (pss_one (ps_ret pe_non)) pss_nil)
        (pss_cons (ps_set (i := 2) nd rfl (Or.inl rfl) (pe_call IH (hr.mono (by omega)) rfl mF F.kp bF .nil pass0 (pa_cons (pe_ix ix_tup (pv 0) pe_int (fun _ _ => rfl)) (pa_cons (pe_op op_sub (pv 1) pe_int) pa_nil))))
        (pss_cons (ps_set (i := 3) nd rfl (Or.inl rfl) (pe_call IH (hr.mono (by omega)) rfl mF F.kp bF .nil pass0 (pa_cons (pe_ix ix_tup (pv 0) pe_int (fun _ _ => rfl)) (pa_cons (pe_op op_sub (pv 1) pe_int) pa_nil))))
        (pss_one (ps_ret (pe_ifExp (PW.pt (pw_or (pt_cmpR op_isN (pv 2) pe_non (nomark _)) (pw_or1 (pt_cmpR op_isN (pv 3) pe_non (nomark _))))) pe_non (pe_op op_add (pv 2) (pv 3))))))))), ?_⟩
      have ty := ty_of hd
      cases hd with
      | non => exact ⟨_, rfl, _, _, _, _, false, rfl, .ty _, ty, kit_ty (a := "NoneType") (b := "tuple") (by decide +kernel), false, rfl, iteT (by have k0 := k H (Same.refl _); rw [cntR_nt (fun _ _ z => by cases z)] at k0; exact k0)⟩
      | bl b => exact ⟨_, rfl, _, _, _, _, false, rfl, .ty _, ty, kit_ty (a := "bool") (b := "tuple") (by decide +kernel), false, rfl, iteT (by have k0 := k H (Same.refl _); rw [cntR_nt (fun _ _ z => by cases z)] at k0; exact k0)⟩
      | int b => exact ⟨_, rfl, _, _, _, _, false, rfl, .ty _, ty, kit_ty (a := "int") (b := "tuple") (by decide +kernel), false, rfl, iteT (by have k0 := k H (Same.refl _); rw [cntR_nt (fun _ _ z => by cases z)] at k0; exact k0)⟩
      | str b => exact ⟨_, rfl, _, _, _, _, false, rfl, .ty _, ty, kit_ty (a := "str") (b := "tuple") (by decide +kernel), false, rfl, iteT (by have k0 := k H (Same.refl _); rw [cntR_nt (fun _ _ z => by cases z)] at k0; exact k0)⟩
      | lst _ _ => exact ⟨_, rfl, _, _, _, _, false, rfl, .ty _, ty, kit_ty (a := "list") (b := "tuple") (by decide +kernel), false, rfl, iteT (by have k0 := k H (Same.refl _); rw [cntR_nt (fun _ _ z => by cases z)] at k0; exact k0)⟩
      | @tup a xs ds q r =>
        refine ⟨_, rfl, _, _, _, _, true, rfl, .ty _, ty, kit_ty (a := "tuple") (b := "tuple") (by decide +kernel), true, rfl, iteF ?_⟩
        refine ⟨_, rfl, by show 0 ≤ sizeLine; decide, fun t0 ht0 => ?_⟩
        have s1 := Pre.same_upd (o := .tup []) ht0
        refine ⟨.tuple ds, .tuple [], .tup (sqT_same s1 q) (dpAll_same s1 r), .tup (SqT.of upd_same) .nil, hs, by decide +kernel, _, rfl, ?_⟩
        generalize upd H t0 (.tup []) = H1 at s1
        have k0 := k H1 s1
        have e0 : cntR 0 (.tuple ds) = none := rfl
        rw [e0] at k0
        exact ite2 (fun _ => k0) (fun _ => ⟨_, rfl, rfl, _, rfl, iteT k0⟩)
  | r' + 1 => by
    have IH := ok_counted F mF T zs FW mW r'
    have GW : FnOk P0 w K mg base CX0 1 fW dW ["thing"] (spWhole K) := ok_wholeL FW T
    have bW := FW.binds (ps := ["thing"]) fun _ _ _ _ _ _ us hl => match us, hl with | [_], _ => rfl
    have bF := F.binds (ps := ["thing", "room"]) fun _ _ _ _ _ _ us hl => match us, hl with | [_, _], _ => rfl
    refine F.ok (k := r' + 2) scCounted (fun vs H Q E h => ?_) (fun cdv A outer s H vs Q E hr h => ?_)
    · obtain ⟨x, d, rfl, _⟩ := h
      rfl
    · obtain ⟨x, d, rfl, hd, hs, k⟩ := h
      have nd := scCounted.nd
      have hr1 : Room 1 _ := hr.mono (by omega)
      refine ⟨_, pss_cons (ps_if (PW.pt (pw_or (pt_not (pt_val (pe_callB call_isi (by rfl) T.isi (by decide +kernel) (pa_cons (pv 0) (pa_cons (pe_bltn (v := .ty "tuple") (by rfl) T.tuple (by decide +kernel) rfl) pa_nil))))) (pw_or (pt_cmpR (op_eqD hr.units) (pv 0) (pe_tup pa_nil) (nomark _)) (pw_or1 (pt_cmpR op_eq (pv 1) pe_int (nomark _)))))) (pss_one (ps_ret pe_non)) pss_nil)
        (pss_cons (ps_if (PW.pt (pw_and (pt_val (pe_callB call_isi (by rfl) T.isi (by decide +kernel) (pa_cons (pe_ix ix_tup (pv 0) pe_int (fun _ _ => rfl)) (pa_cons (pe_bltn (v := .ty "str") (by rfl) zs (by decide +kernel) rfl) pa_nil)))) (pw_and (pt_cmpR (op_eqD hr.units) (pe_ix ix_tup (pv 0) pe_int (fun _ _ => rfl)) pe_str (nomark _)) (pw_and1 (pt_cmpR op_eq (pe_callB call_len_seq (by rfl) T.len PySem.boot_len (pa_cons (pv 0) pa_nil)) pe_int (nomark _))))))
            (pss_one (ps_ret (pe_ifExp (PW.pt (pw_and (pt_val (pe_call GW hr1 rfl mW FW.kp bW .nil pass0 (pa_cons (pe_ix ix_tup (pv 0) pe_int (fun _ _ => rfl)) pa_nil))) (pw_and1 (pt_chain op_le op_le pe_int (pe_ix ix_tup (pv 0) pe_int (fun _ _ => rfl)) pe_int)))) pe_int pe_non))) pss_nil)
        (pss_cons (ps_if (PW.pt (pw_or (pt_not (pt_val (pe_callB call_isi (by rfl) T.isi (by decide +kernel) (pa_cons (pe_ix ix_tup (pv 0) pe_int (fun _ _ => rfl)) (pa_cons (pe_bltn (v := .ty "str") (by rfl) zs (by decide +kernel) rfl) pa_nil))))) (pw_or (pt_cmpR (op_neD hr.units) (pe_ix ix_tup (pv 0) pe_int (fun _ _ => rfl)) pe_str (nomark _)) (pw_or1 (pt_cmpR op_ne (pe_callB call_len_seq (by rfl) T.len PySem.boot_len (pa_cons (pv 0) pa_nil)) pe_int (nomark _)))))) (pss_one (ps_ret pe_non)) pss_nil)
        (pss_cons (ps_set (i := 2) nd rfl (Or.inl rfl) (pe_call IH (hr.mono (by omega)) rfl mF F.kp bF .nil pass0 (pa_cons (pe_ix ix_tup (pv 0) pe_int (fun _ _ => rfl)) (pa_cons (pe_op op_sub (pv 1) pe_int) pa_nil))))
        (pss_cons (ps_set (i := 3) nd rfl (Or.inl rfl) (pe_call IH (hr.mono (by omega)) rfl mF F.kp bF .nil pass0 (pa_cons (pe_ix ix_tup (pv 0) pe_int (fun _ _ => rfl)) (pa_cons (pe_op op_sub (pv 1) pe_int) pa_nil))))
        (pss_one (ps_ret (pe_ifExp (PW.pt (pw_or (pt_cmpR op_isN (pv 2) pe_non (nomark _)) (pw_or1 (pt_cmpR op_isN (pv 3) pe_non (nomark _))))) pe_non (pe_op op_add (pv 2) (pv 3))))))))), ?_⟩
      have ty := ty_of hd
      cases hd with
      | non => exact ⟨_, rfl, _, _, _, _, false, rfl, .ty _, ty, kit_ty (a := "NoneType") (b := "tuple") (by decide +kernel), false, rfl, iteT (by have k0 := k H (Same.refl _); rw [cntR_nt (fun _ _ z => by cases z)] at k0; exact k0)⟩
      | bl b => exact ⟨_, rfl, _, _, _, _, false, rfl, .ty _, ty, kit_ty (a := "bool") (b := "tuple") (by decide +kernel), false, rfl, iteT (by have k0 := k H (Same.refl _); rw [cntR_nt (fun _ _ z => by cases z)] at k0; exact k0)⟩
      | int b => exact ⟨_, rfl, _, _, _, _, false, rfl, .ty _, ty, kit_ty (a := "int") (b := "tuple") (by decide +kernel), false, rfl, iteT (by have k0 := k H (Same.refl _); rw [cntR_nt (fun _ _ z => by cases z)] at k0; exact k0)⟩
      | str b => exact ⟨_, rfl, _, _, _, _, false, rfl, .ty _, ty, kit_ty (a := "str") (b := "tuple") (by decide +kernel), false, rfl, iteT (by have k0 := k H (Same.refl _); rw [cntR_nt (fun _ _ z => by cases z)] at k0; exact k0)⟩
      | lst _ _ => exact ⟨_, rfl, _, _, _, _, false, rfl, .ty _, ty, kit_ty (a := "list") (b := "tuple") (by decide +kernel), false, rfl, iteT (by have k0 := k H (Same.refl _); rw [cntR_nt (fun _ _ z => by cases z)] at k0; exact k0)⟩
      | @tup a xs ds q r =>
        refine ⟨_, rfl, _, _, _, _, true, rfl, .ty _, ty, kit_ty (a := "tuple") (b := "tuple") (by decide +kernel), true, rfl, iteF ?_⟩
        refine ⟨_, rfl, by show 0 ≤ sizeLine; decide, fun t0 ht0 => ?_⟩
        have s1 := Pre.same_upd (o := .tup []) ht0
        refine ⟨.tuple ds, .tuple [], .tup (sqT_same s1 q) (dpAll_same s1 r), .tup (SqT.of upd_same) .nil, hs, by decide +kernel, _, rfl, ?_⟩
        generalize upd H t0 (.tup []) = H1 at s1
        cases r with
        | nil =>
          have k0 := k H1 s1
          rw [cntR_nt (fun _ _ z => by cases z)] at k0
          exact iteT k0
        | @cons x0 xr d0 dr h0 hr0 =>
          have e0 : decide (V.int ((r' + 1 : Nat) : Int) = V.int 0) = false := decide_eq_false fun z => by
            have z' : ((r' + 1 : Nat) : Int) = 0 := by injection z
            omega
          refine iteF ⟨_, rfl, rfl, _, rfl, ?_⟩
          rw [e0]
          refine iteF ?_
          have q1 := sqT_same s1 q
          have s0 : Sh d0 := sh_tup hs (by simp)
          have h0' := dp_same s1 h0
          have ty0 := ty_of h0'
          cases h0 with
          | non =>
            have k0 := k H1 s1
            rw [cntR_nt (fun _ _ z => by cases z)] at k0
            exact ⟨_, rfl, a, _, _, _, rfl, rfl, q1, atI_nat (j := 0) rfl, _, _, _, _, false, rfl, .ty _, ty0, kit_ty (a := "NoneType") (b := "str") (by decide +kernel), false, rfl, iteF (iteF ⟨_, rfl, a, _, _, _, rfl, rfl, q1, atI_nat (j := 0) rfl, _, _, _, _, false, rfl, .ty _, ty0, kit_ty (a := "NoneType") (b := "str") (by decide +kernel), false, rfl, iteT (iteT k0)⟩)⟩
          | bl b =>
            have k0 := k H1 s1
            rw [cntR_nt (fun _ _ z => by cases z)] at k0
            exact ⟨_, rfl, a, _, _, _, rfl, rfl, q1, atI_nat (j := 0) rfl, _, _, _, _, false, rfl, .ty _, ty0, kit_ty (a := "bool") (b := "str") (by decide +kernel), false, rfl, iteF (iteF ⟨_, rfl, a, _, _, _, rfl, rfl, q1, atI_nat (j := 0) rfl, _, _, _, _, false, rfl, .ty _, ty0, kit_ty (a := "bool") (b := "str") (by decide +kernel), false, rfl, iteT (iteT k0)⟩)⟩
          | int b =>
            have k0 := k H1 s1
            rw [cntR_nt (fun _ _ z => by cases z)] at k0
            exact ⟨_, rfl, a, _, _, _, rfl, rfl, q1, atI_nat (j := 0) rfl, _, _, _, _, false, rfl, .ty _, ty0, kit_ty (a := "int") (b := "str") (by decide +kernel), false, rfl, iteF (iteF ⟨_, rfl, a, _, _, _, rfl, rfl, q1, atI_nat (j := 0) rfl, _, _, _, _, false, rfl, .ty _, ty0, kit_ty (a := "int") (b := "str") (by decide +kernel), false, rfl, iteT (iteT k0)⟩)⟩
          | lst _ _ =>
            have k0 := k H1 s1
            rw [cntR_nt (fun _ _ z => by cases z)] at k0
            exact ⟨_, rfl, a, _, _, _, rfl, rfl, q1, atI_nat (j := 0) rfl, _, _, _, _, false, rfl, .ty _, ty0, kit_ty (a := "list") (b := "str") (by decide +kernel), false, rfl, iteF (iteF ⟨_, rfl, a, _, _, _, rfl, rfl, q1, atI_nat (j := 0) rfl, _, _, _, _, false, rfl, .ty _, ty0, kit_ty (a := "list") (b := "str") (by decide +kernel), false, rfl, iteT (iteT k0)⟩)⟩
          | tup _ _ =>
            have k0 := k H1 s1
            rw [cntR_nt (fun _ _ z => by cases z)] at k0
            exact ⟨_, rfl, a, _, _, _, rfl, rfl, q1, atI_nat (j := 0) rfl, _, _, _, _, false, rfl, .ty _, ty0, kit_ty (a := "tuple") (b := "str") (by decide +kernel), false, rfl, iteF (iteF ⟨_, rfl, a, _, _, _, rfl, rfl, q1, atI_nat (j := 0) rfl, _, _, _, _, false, rfl, .ty _, ty0, kit_ty (a := "tuple") (b := "str") (by decide +kernel), false, rfl, iteT (iteT k0)⟩)⟩
          | str z =>
            refine ⟨_, rfl, a, _, _, _, rfl, rfl, q1, atI_nat (j := 0) rfl, _, _, _, _, true, rfl, .ty _, ty0, kit_ty (a := "str") (b := "str") (by decide +kernel), true, rfl, iteT ?_⟩
            refine ⟨_, rfl, a, _, _, _, rfl, rfl, q1, atI_nat (j := 0) rfl, .str z, .str "num", .str _, .str _, s0, sh_num, _, rfl, ?_⟩
            -- the second test, where the first does not hold
            have k0 := k H1 s1
            by_cases hz : z = "num"
            · subst hz
              rw [eqv_self]
              refine iteT ⟨_, rfl, a, _, rfl, .inr q1, rfl, _, rfl, ?_⟩
              have notto : PyData.eqv (.str "num") (.str "to") = false := by decide +kernel
              cases hr0 with
              | nil =>
                have e2 : cntR (r' + 1) (.tuple [.str "num"]) = none := rfl
                rw [e2] at k0
                refine ite2 (fun c => absurd c (by decide +kernel)) (fun _ => ?_)
                refine ⟨_, rfl, a, _, _, _, rfl, rfl, q1, atI_nat (j := 0) rfl, _, _, _, _, true, rfl, .ty _, ty0, kit_ty (a := "str") (b := "str") (by decide +kernel), true, rfl, iteF ?_⟩
                refine ⟨_, rfl, a, _, _, _, rfl, rfl, q1, atI_nat (j := 0) rfl, .str "num", .str "to", .str _, .str _, s0, sh_to, _, rfl, ?_⟩
                rw [notto]
                exact iteT k0
              | @cons x1 xr1 g1 dr1 hg1 hr1' =>
                cases hr1' with
                | nil =>
                  refine ite2 (fun _ => ?_) (fun c => absurd (show decide (V.int 2 = V.int 2) = true from decide_eq_true rfl) c)
                  have e2 : cntR (r' + 1) (.tuple [.str "num", g1]) = if within 1 6 g1 = true then some 1 else none := rfl
                  rw [e2] at k0
                  refine ⟨_, rfl, a, _, _, _, rfl, rfl, q1, rfl, x1, g1, rfl, dp_same s1 hg1, _, rfl, ?_⟩
                  cases hg1 with
                  | int i =>
                    have w0 : within 1 6 (.int i) = (decide (1 ≤ i) && decide (i ≤ 6)) := rfl
                    rw [w0] at k0
                    refine iteT ⟨_, rfl, a, _, _, _, rfl, rfl, q1, rfl, _, _, rfl, rfl, _, rfl, ?_⟩
                    by_cases i1 : 1 ≤ i
                    · rw [decide_eq_true i1] at k0 ⊢
                      refine iteT ⟨_, _, rfl, rfl, _, rfl, ?_⟩
                      by_cases i2 : i ≤ 6
                      · rw [decide_eq_true i2] at k0 ⊢
                        exact iteT k0
                      · rw [decide_eq_false i2] at k0 ⊢
                        exact iteF k0
                    · rw [decide_eq_false i1] at k0 ⊢
                      exact iteF ⟨_, rfl, iteF k0⟩
                  | non => exact iteF (iteF k0)
                  | bl _ => exact iteF (iteF k0)
                  | str _ => exact iteF (iteF k0)
                  | lst _ _ => exact iteF (iteF k0)
                  | tup _ _ => exact iteF (iteF k0)
                | @cons x2 xr2 g2 dr2 hg2 hr2' =>
                  have e2 : cntR (r' + 1) (.tuple (.str "num" :: g1 :: g2 :: dr2)) = none := rfl
                  rw [e2] at k0
                  refine ite2 (fun c => ?_) (fun _ => ?_)
                  · have c' : V.int (((V.str "num" :: x1 :: x2 :: xr2).length : Nat) : Int) = V.int 2 := of_decide_eq_true c
                    have c2 : (((V.str "num" :: x1 :: x2 :: xr2).length : Nat) : Int) = 2 := by injection c'
                    simp only [List.length_cons] at c2
                    omega
                  · refine ⟨_, rfl, a, _, _, _, rfl, rfl, q1, atI_nat (j := 0) rfl, _, _, _, _, true, rfl, .ty _, ty0, kit_ty (a := "str") (b := "str") (by decide +kernel), true, rfl, iteF ?_⟩
                    refine ⟨_, rfl, a, _, _, _, rfl, rfl, q1, atI_nat (j := 0) rfl, .str "num", .str "to", .str _, .str _, s0, sh_to, _, rfl, ?_⟩
                    rw [notto]
                    exact iteT k0
            · have en : PyData.eqv (.str z) (.str "num") = false := by
                cases e : PyData.eqv (.str z) (.str "num") with
                | false => rfl
                | true =>
                  have w1 := eqv_str e
                  injection w1 with w2
                  exact absurd w2 hz
              rw [en]
              refine iteF (iteF ?_)
              refine ⟨_, rfl, a, _, _, _, rfl, rfl, q1, atI_nat (j := 0) rfl, _, _, _, _, true, rfl, .ty _, ty0, kit_ty (a := "str") (b := "str") (by decide +kernel), true, rfl, iteF ?_⟩
              refine ⟨_, rfl, a, _, _, _, rfl, rfl, q1, atI_nat (j := 0) rfl, .str z, .str "to", .str _, .str _, s0, sh_to, _, rfl, ?_⟩
              by_cases hto : z = "to"
              · subst hto
                rw [eqv_self]
                refine iteF ⟨_, rfl, a, _, rfl, .inr q1, rfl, _, rfl, ?_⟩
                cases hr0 with
                | nil =>
                  have e2 : cntR (r' + 1) (.tuple [.str "to"]) = none := rfl
                  rw [e2] at k0
                  exact ite2 (fun _ => k0) (fun c => absurd (show (!decide (V.int 1 = V.int 3)) = true by decide +kernel) c)
                | @cons x1 xr1 g1 dr1 hg1 hr1' =>
                  cases hr1' with
                  | nil =>
                    have e2 : cntR (r' + 1) (.tuple [.str "to", g1]) = none := rfl
                    rw [e2] at k0
                    exact ite2 (fun _ => k0) (fun c => absurd (show (!decide (V.int 2 = V.int 3)) = true by decide +kernel) c)
                  | @cons x2 xr2 g2 dr2 hg2 hr2' =>
                    cases hr2' with
                    | nil =>
                      refine ite2 (fun c => absurd c (show ¬ (!decide (V.int 3 = V.int 3)) = true by decide +kernel)) (fun _ => ?_)
                      have e2 : cntR (r' + 1) (.tuple [.str "to", g1, g2]) = addO (cntR r' g1) (cntR r' g2) := rfl
                      rw [e2] at k
                      have er : (((r' + 1 : Nat) : Int) - 1) = (r' : Int) := by omega
                      refine ⟨_, rfl, a, _, _, _, rfl, rfl, q1, rfl, _, rfl, _, _, rfl, rfl, x1, g1, (by show [x1, V.int (((r' + 1 : Nat) : Int) - 1)] = _; rw [er]), dp_same s1 hg1, sh_tup hs (by simp), fun H2 s2 => ?_⟩
                      refine ⟨_, rfl, a, _, _, _, rfl, rfl, sqT_same s2 q1, rfl, _, rfl, _, _, rfl, rfl, x2, g2, (by show [x2, V.int (((r' + 1 : Nat) : Int) - 1)] = _; rw [er]), dp_same (s1.trans s2) hg2, sh_tup hs (by simp), fun H3 s3 => ?_⟩
                      have k3 := k H3 (s1.trans (s2.trans s3))
                      cases u1 : cntR r' g1 with
                      | none =>
                        rw [u1] at k3
                        exact ⟨_, rfl, rfl, _, rfl, iteT k3⟩
                      | some n1 =>
                        refine ⟨_, rfl, rfl, _, rfl, iteF ?_⟩
                        cases u2 : cntR r' g2 with
                        | none =>
                          rw [u1, u2] at k3
                          exact ⟨_, rfl, rfl, _, rfl, iteT k3⟩
                        | some n2 =>
                          rw [u1, u2] at k3
                          refine ⟨_, rfl, rfl, _, rfl, iteF ⟨_, rfl, _, rfl, _, _, rfl, rfl, ?_⟩⟩
                          have e4 : V.int ((n1 : Int) + (n2 : Int)) = optV (addO (some n1) (some n2)) := by
                            show V.int ((n1 : Int) + (n2 : Int)) = V.int ((n1 + n2 : Nat) : Int)
                            congr 1
                          show Q (V.int ((n1 : Int) + (n2 : Int))) H3
                          rw [e4]
                          exact k3
                    | @cons x3 xr3 g3 dr3 hg3 hr3' =>
                      have e2 : cntR (r' + 1) (.tuple (.str "to" :: g1 :: g2 :: g3 :: dr3)) = none := rfl
                      rw [e2] at k0
                      refine ite2 (fun _ => k0) (fun c => ?_)
                      exfalso
                      apply c
                      have c2 : ¬ V.int (((V.str "to" :: x1 :: x2 :: x3 :: xr3).length : Nat) : Int) = V.int 3 := fun z => by
                        have z' : (((V.str "to" :: x1 :: x2 :: x3 :: xr3).length : Nat) : Int) = 3 := by injection z
                        simp only [List.length_cons] at z'
                        omega
                      rw [decide_eq_false c2]
                      rfl
              · have et : PyData.eqv (.str z) (.str "to") = false := by
                  cases e : PyData.eqv (.str z) (.str "to") with
                  | false => rfl
                  | true =>
                    have w1 := eqv_str e
                    injection w1 with w2
                    exact absurd w2 hto
                rw [et]
                have e2 : cntR (r' + 1) (.tuple (.str z :: dr)) = none := by
                  unfold cntR
                  rw [if_neg hz, if_neg hto]
                rw [e2] at k0
                exact iteT k0
def spIsKL (K : PySem.W.Frag) : Sp := fun vs H Q _ => ∃ x d, vs = [x] ∧ Dp K H x d ∧ Sh d ∧ ∀ H', Same H H' → Q (.bl (isK d)) H'
theorem scIsKindL : FnScope ["thing", "many"] ["thing"] (defScope sIsKindL) := ⟨rfl, rfl, rfl, by decide +kernel, rfl, by decide +kernel, by decide +kernel⟩
theorem ok_iskindL {f fC : Addr} {fd dC : FuncData} (F : Fun K "_law_cp_is_kind" "_law_cp_is_kind" sIsKindL f fd) (GC : ∀ base, FnOk P0 w K mg base CX0 16 fC dC ["thing", "room"] (spCounted K 14)) (FC : Fun K "_law_cp_counted" "_law_cp_counted" sCounted fC dC) (mC : mg "_law_cp_counted" = some (.ref fC)) : FnOk P0 w K mg base CX0 17 f fd ["thing"] (spIsKL K) := by
  have GC := GC base
  have bC := FC.binds (ps := ["thing", "room"]) fun _ _ _ _ _ _ us hl => match us, hl with | [_, _], _ => rfl
  refine F.ok scIsKindL (fun vs H Q E h => ?_) (fun cdv A outer s H vs Q E hr h => ?_)
  · obtain ⟨x, d, rfl, _⟩ := h
    rfl
  · obtain ⟨x, d, rfl, hd, hs, k⟩ := h
    have nd := scIsKindL.nd
    refine ⟨_, pss_cons (ps_set (i := 1) nd rfl (Or.inl rfl) (pe_call GC hr rfl mC FC.kp bC .nil pass0 (pa_cons (pv 0) (pa_cons pe_int pa_nil))))
      (pss_one (ps_ret (pe_and (pe_cmpR op_notN (pv 1) pe_non (nomark _)) (pe_one (pe_cmpR op_le (pv 1) pe_int (nomark _)))))), ?_⟩
    refine ⟨_, rfl, x, d, rfl, hd, hs, fun H1 s1 => ?_⟩
    have e := isK_R d
    cases hc : cntR 14 d with
    | none =>
      rw [hc] at e
      have k' := k H1 s1
      rw [e] at k'
      exact ⟨_, rfl, rfl, _, rfl, iteF k'⟩
    | some n =>
      rw [hc] at e
      have k' := k H1 s1
      rw [e] at k'
      refine ⟨_, rfl, rfl, _, rfl, iteT ⟨_, rfl, _, _, rfl, rfl, ?_⟩⟩
      have z : decide ((n : Int) ≤ 12) = decide (n ≤ 12) := by
        by_cases q : n ≤ 12
        · rw [decide_eq_true q, decide_eq_true (by omega)]
        · rw [decide_eq_false q, decide_eq_false (by omega)]
      show Q (V.bl (decide ((n : Int) ≤ 12))) H1
      rw [z]
      exact k'
theorem scOrderL : FnScope ["kind", "wanted", "last", "one"] ["kind"] (defScope sOrderL) := ⟨rfl, rfl, rfl, by decide +kernel, rfl, by decide +kernel, by decide +kernel⟩
theorem ord_max {t : Kd} {m : Int} (h1 : m ∈ (0 : Int) :: t.args.map fun u => 1 + (u.ord : Int)) (h2 : ∀ y ∈ (0 : Int) :: t.args.map fun u => 1 + (u.ord : Int), y ≤ m) : m = (t.ord : Int) := by
  have z : ∀ (ts : List Kd) (a : Nat), (∀ u ∈ ts, u.ord + 1 ≤ ordF a ts) ∧ a ≤ ordF a ts ∧ (ordF a ts = a ∨ ∃ u ∈ ts, ordF a ts = u.ord + 1) := fun ts => by
    induction ts with
    | nil =>
      intro a
      exact ⟨fun u hu => (by cases hu), Nat.le_refl _, .inl rfl⟩
    | cons u us ih =>
      intro a
      obtain ⟨i1, i2, i3⟩ := ih (max a (u.ord + 1))
      have e : ordF a (u :: us) = ordF (max a (u.ord + 1)) us := rfl
      rw [e]
      refine ⟨fun v hv => ?_, by omega, ?_⟩
      · rcases List.mem_cons.mp hv with q | q
        · rw [q]
          omega
        · exact i1 v q
      · rcases i3 with q | ⟨v, hv, q⟩
        · rcases Nat.le_total a (u.ord + 1) with l | l
          · exact .inr ⟨u, List.mem_cons_self .., by omega⟩
          · exact .inl (by omega)
        · exact .inr ⟨v, List.mem_cons_of_mem _ hv, q⟩
  obtain ⟨i1, i2, i3⟩ := z t.args 0
  rw [ordF_args, Nat.zero_max] at i1 i2 i3
  have up : m ≤ (t.ord : Int) := by
    rcases List.mem_cons.mp h1 with q | q
    · omega
    · obtain ⟨u, hu, e⟩ := List.mem_map.mp q
      have := i1 u hu
      omega
  have down : (t.ord : Int) ≤ m := by
    rcases i3 with q | ⟨u, hu, q⟩
    · have := h2 0 (List.mem_cons_self ..)
      omega
    · have := h2 (1 + (u.ord : Int)) (List.mem_cons_of_mem _ (List.mem_map.mpr ⟨u, hu, rfl⟩))
      omega
  omega
theorem ok_orderL {f fA : Addr} {fd dA : FuncData} (F : Fun K "_law_order" "_law_order" sOrderL f fd) (mF : mg "_law_order" = some (.ref f)) (zm : mg "max" = none) (FA : Fun K "_law_cp_wanted" "_law_cp_wanted" sWanted fA dA) (mA : mg "_law_cp_wanted" = some (.ref fA)) :
    ∀ N : Nat, FnOk P0 w K mg base CX0 (N + 2) f fd ["kind"] (spOrd K N)
  | 0 => by
    refine F.ok (k := 1) scOrderL (fun vs H Q E h => ?_) (fun cdv A outer s H vs Q E hr h => ?_)
    · obtain ⟨x, t, rfl, _⟩ := h
      rfl
    · obtain ⟨x, t, rfl, hd, hn, _⟩ := h
      have := nums_pos t
      omega
  | N + 1 => by
    have IH := ok_orderL F mF zm FA mA N
    have GA : FnOk P0 w K mg base CX0 1 fA dA ["kind"] (spWanted K) := ok_wanted FA
    have bA := FA.binds (ps := ["kind"]) fun _ _ _ _ _ _ us hl => match us, hl with | [_], _ => rfl
    have bF := F.binds (ps := ["kind"]) fun _ _ _ _ _ _ us hl => match us, hl with | [_], _ => rfl
    refine F.ok (k := N + 2) scOrderL (fun vs H Q E h => ?_) (fun cdv A outer s H vs Q E hr h => ?_)
    · obtain ⟨x, t, rfl, _⟩ := h
      rfl
    · obtain ⟨x, t, rfl, hd, hn, hN, k⟩ := h
      have nd := scOrderL.nd
      have hr1 : Room 1 _ := hr.mono (by omega)
      refine ⟨_, pss_cons (ps_asg (pe_call GA hr1 rfl mA FA.kp bA .nil pass0 (pa_cons (pv 0) pa_nil)) (pg_tup (by rfl) (pgs_cons (pg_name (i := 1) nd rfl (Or.inl rfl)) (pgs_cons (pg_name (i := 2) nd rfl (Or.inl rfl)) pgs_nil))))
        (pss_one (ps_ret (pe_callB (cr_max rfl) (by rfl) zm (by decide +kernel) (pa_cons (pe_op op_cat (pe_lst (pa_cons pe_int pa_nil))
          (pe_lc (own := [("one", 3)]) (g := gName 3) (tt := tYes) rfl nd (pi_list (pv 1)) (blkOk_by (own := [("one", 3)]) (N := ["kind", "wanted", "last", "one"]) (sc := defScope sOrderL) (by decide +kernel)) (fun _ _ _ _ _ => pg_name (i := 3) nd rfl (Or.inl rfl)) (fun _ _ _ _ _ => pts_nil)
            (fun _ _ _ _ _ => pe_op op_add pe_int (pe_call IH (hr.mono (by omega)) rfl mF F.kp bF .nil pass0 (pa_cons (pv 3) pa_nil))))) pa_nil)))), ?_⟩
      refine ⟨_, rfl, x, t, rfl, hd, by omega, fun p l ys H1 s1 hp hl0 hl hD => ?_⟩
      refine ⟨p, _, rfl, hp, rfl, _, _, rfl, _, _, rfl, rfl, ?_⟩
      refine ⟨by show 1 ≤ sizeLine; decide, fun l0 hl0' => ?_⟩
      have s2 := Pre.same_upd (o := .lst [.int 0]) hl0'
      have h0 : (upd H1 l0 (.lst [.int 0])) l0 = some (.lst [.int 0]) := upd_same
      generalize upd H1 l0 (.lst [.int 0]) = H2 at s2 h0
      have hl2 := s2 _ _ hl
      refine ⟨_, rfl, l, rfl, ⟨_, SqL.of hl2⟩, fun D hDn => lc_list (K := K) (a := l) (xs := ys) (fun i H' => Same H2 H' ∧ H' D = some (.lst (((t.args.take i).map fun u => 1 + (u.ord : Int)).map V.int))) ⟨Pre.same_upd hDn, by rw [upd_same]; rfl⟩ (fun _ H' _ ⟨s3, _⟩ => SqL.of (s3 _ _ hl2)) ?_ ?_⟩
      · rintro i y H3 hy ⟨s3, hd3⟩
        obtain ⟨u, hu, hdu⟩ := dpAll_map hD hy
        have ul := arg_nums (List.mem_of_getElem? hu)
        have hi := (List.getElem?_eq_some_iff.mp hu).1
        have al := args_len t
        refine ⟨rfl, _, rfl, y, u, rfl, dp_same (s1.trans (s2.trans s3)) hdu, by omega, by omega, fun H4 s4 => ?_⟩
        refine ⟨_, _, rfl, rfl, _, s4 _ _ hd3, ?_, fun b o e => ?_, ?_⟩
        · rw [List.length_map, List.length_map, List.length_take]
          have line : 100 < sizeLine := by decide
          omega
        · rw [upd_ne (ne_of_none e hDn)]
          exact s4 _ _ (s3 _ _ e)
        · rw [upd_same, List.take_add_one, hu]
          simp
      · rintro H3 ⟨s3, hd3⟩
        have el : ys.length = t.args.length := by rw [dpAll_len hD, List.length_map]
        rw [el, List.take_length] at hd3
        have al := args_len t
        have line : 100 < sizeLine := by decide
        refine ⟨l0, D, _, _, rfl, rfl, s3 _ _ h0, hd3, by simp only [List.length_map, List.length_cons, List.length_nil]; omega, fun r hr0 => ?_⟩
        have e5 : [V.int 0] ++ ((t.args.map fun u => 1 + (u.ord : Int)).map V.int) = ((0 : Int) :: t.args.map fun u => 1 + (u.ord : Int)).map V.int := rfl
        rw [e5]
        refine ⟨r, _, rfl, SqL.of upd_same, by simp, fun m hm1 hm2 => ?_⟩
        rw [ord_max hm1 hm2]
        exact k _ (s1.trans (s2.trans (s3.trans (Pre.same_upd hr0))))
end
end Kn

namespace Tr
open PySem PySem.Spec PyProof.Rows HT
section
variable {prog : Program} {w : World} {A : Around} {E : Value → Shared → Prop} {s : Shared}
/-- a slice of all, from behind -/
theorem applied_back {sl : Addr} {vl vu vs : Value} {n : Nat} {Q : Int × Int × Nat → Shared → Prop} (hs : s.heap.IsSliceOf sl vl vu vs) (pl : IsPart vl none) (pu : IsPart vu none) (ps : IsPart vs (some (-1)))
    (h : Q ((n : Int) - 1, -1, n) s) : wpAny (model prog w) A (Builtin.Slice.sliceApplied (.ref sl) (pure (n : Int))) Q E s := by
  obtain ⟨os, hos, hcs, hds⟩ := id hs
  unfold Builtin.Slice.sliceApplied Builtin.Slice.sliceFields
  refine wpAny_bind (wpAny_bind (wpAny_field hos hds (x := vl) rfl (wpAny_bind (wpAny_field hos hds (x := vu) rfl (wpAny_bind (wpAny_field hos hds (x := vs) rfl (wpAny_pure ?_)))))))
  refine wpAny_bind (slicePart_ ps ?_)
  show wpAny _ _ (if ((-1 : Int) == 0) = true then _ else _) _ _ s
  rw [if_neg (by decide)]
  refine wpAny_bind (slicePart_ pl (wpAny_bind (slicePart_ pu (wpAny_bind (wpAny_pure ?_)))))
  show wpAny _ _ (match Builtin.Slice.sliceAdjust none none (-1) (n : Int) with | (lo, hi) => pure (lo, (-1 : Int), Builtin.Slice.slicePlaces lo hi (-1))) _ _ s
  have e1 : Builtin.Slice.sliceAdjust none none (-1) (n : Int) = ((n : Int) - 1, -1) := by
    unfold Builtin.Slice.sliceAdjust
    simp
  rw [e1]
  have e2 : Builtin.Slice.slicePlaces ((n : Int) - 1) (-1) (-1) = n := by
    unfold Builtin.Slice.slicePlaces
    simp
    try omega
  show wpAny _ _ (pure ((n : Int) - 1, (-1 : Int), Builtin.Slice.slicePlaces ((n : Int) - 1) (-1) (-1))) _ _ s
  rw [e2]
  exact wpAny_pure h
theorem fm_congr {A0 B0 : Type} {f g : A0 → Option B0} : ∀ {l : List A0}, (∀ m ∈ l, f m = g m) → l.filterMap f = l.filterMap g
  | [], _ => rfl
  | x :: l, h => by
    rw [List.filterMap_cons, List.filterMap_cons, h x (List.mem_cons_self ..), fm_congr fun m hm => h m (List.mem_cons_of_mem _ hm)]
theorem pick_back (xs : Array Value) : ((List.range xs.size).filterMap fun (m : Nat) => xs[(((xs.size : Nat) : Int) - 1 + (m : Int) * (-1)).toNat]?).toArray = xs.toList.reverse.toArray := by
  have e : (List.range xs.size).filterMap (fun (m : Nat) => xs[(((xs.size : Nat) : Int) - 1 + (m : Int) * (-1)).toNat]?) = xs.toList.reverse := by
    have e1 : ∀ m ∈ List.range xs.size, xs[(((xs.size : Nat) : Int) - 1 + (m : Int) * (-1)).toNat]? = xs[xs.size - 1 - m]? := fun m hm => by
      have := List.mem_range.mp hm
      congr 1
      omega
    rw [fm_congr e1]
    have e2 : (fun m => xs[xs.size - 1 - m]?) = (fun k => xs[k]?) ∘ fun m => xs.size - 1 - m := rfl
    rw [e2, ← List.filterMap_map, PySem.W.krv_range, List.filterMap_reverse, PySem.W.krv_all]
  rw [e]
theorem getItem_back {t sl : Addr} {items : Array Value} {vl vu vs : Value} {Q : Value → Shared → Prop} (ht : IsTup s.heap t items) (hs : s.heap.IsSliceOf sl vl vu vs) (pl : IsPart vl none) (pu : IsPart vu none) (ps : IsPart vs (some (-1)))
    (h : Q (.ref s.heap.objs.size) { s with heap := s.heap.push { cls := .type "tuple", data := .seq items.toList.reverse.toArray } }) (hsz : items.size ≤ sizeLine) : wpAny (model prog w) A (getItem (.ref t) (.ref sl)) Q E s := by
  have fits : sizeOk (.seq items.toList.reverse.toArray) := by
    show items.toList.reverse.toArray.size ≤ sizeLine
    rw [List.size_toArray, List.length_reverse, Array.length_toList]
    exact hsz
  obtain ⟨os, hos, hcs, hds⟩ := id hs
  have hTs : s.TypeIs (.ref sl) "slice" := ⟨os, hos, hcs⟩
  unfold getItem
  try with_reducible refine wpAny_holding ?_
  first | refine wpAny_bind (wpAny_pure ?_) | skip
  refine wpAny_bind (wpAny_sequenceKey ht.typeIs (by decide) ?_)
  refine wpAny_bind (wpAny_callSpecial?_slot (name := Str.ofString "__getitem__") ht.typeIs PyProof.Rows.slot_tuple_getitem
    (wpAny_call_entry PyProof.Rows.slot_tuple_getitem ht.typeIs entry_tuple_getitem ?_ (args_tuple_getitem _ _)))
  show wpAny _ _ (Builtin.Tuple.tupleItemsOf (.ref t) >>= _) _ _ s
  refine wpAny_bind (tupleItemsOf_ ht ?_)
  refine wpAny_bind (wpAny_typeOf hTs ?_)
  rw [if_pos (by decide)]
  refine wpAny_bind (applied_back hs pl pu ps ?_)
  show wpAny _ _ (if (((items.size : Nat) : Int) - 1 == 0 && (-1 : Int) == 1 && items.size == items.size) = true then _ else _) _ _ s
  rw [if_neg (by simp), pick_back]
  first
    | exact wpAny_bind (m := Builtin.Tuple.tupleExact _) (wpAny_newObj_type (wpAny_pure ⟨_, rfl, wpAny_pure h⟩) fits)
    | exact wpAny_bind (m := Builtin.Tuple.tupleExact _) (wpAny_newObj_type (wpAny_bind (wpAny_pure (wpAny_pure ⟨_, rfl, wpAny_pure h⟩))) fits)
    | exact wpAny_bind (wpAny_bind (m := Builtin.Tuple.tupleExact _) (wpAny_newObj_type (wpAny_pure (wpAny_pure ⟨_, rfl, wpAny_pure h⟩)) fits))
    | exact wpAny_bind (wpAny_bind (m := Builtin.Tuple.tupleExact _) (wpAny_newObj_type (wpAny_pure ⟨_, rfl, wpAny_pure h⟩) fits))
end
end Tr
namespace Tr
open PySem PySem.Spec PyProof.Rows L2
/-- t[::-1], t a tuple -/
def tBack (K : PySem.W.Frag) (te : TE) : TE := fun σ H Q => te σ H fun x H1 => ∃ a xs, x = .ref a ∧ SqT K H1 a xs ∧ ∀ p, H1 p = none → Q (.ref p) (upd H1 p (.tup xs.reverse))
theorem pe_back {X : Cx} {e : Expr} {te : TE} {k : Nat} {p1 p2 p3 pos : Pos} (he : PE X e te) : PE X (.Subscript e (.Slice none none (some (.UnaryOp .USub (.Constant (.int 1) k p1) p2)) p3) pos) (tBack X.K te) := by
  refine ⟨fun pins s σ H Q I rd => ?_⟩
  refine Subscript_ (thn (he.run pins s σ H _ I rd) fun v s1 ⟨x, H1, I1, r1, a, xs, ex, hx, q⟩ => ?_)
  subst ex
  cases r1
  have step : PO X (some (.UnaryOp .USub (.Constant (.int 1) k p1) p2)) (tPart (tUn (rU fun i => .int (-i)) (tC (.int 1)))) := po_some (pe_un un_neg pe_int)
  refine wpAny_Slice (thn (po_none.run pins s1 σ H1 (fun o H2 => o = none ∧ H2 = H1) I1 ⟨rfl, rfl⟩) fun vl s2 ⟨l, H2, I2, pl, el, e2⟩ => ?_)
  subst el e2
  refine thn (po_none.run pins s2 σ H2 (fun o H3 => o = none ∧ H3 = H2) I2 ⟨rfl, rfl⟩) fun vu s3 ⟨u, H3, I3, pu, eu, e3⟩ => ?_
  subst eu e3
  refine thn (step.run pins s3 σ H3 (fun o H4 => o = some (-1) ∧ H4 = H3) I3 ⟨1, rfl, -1, rfl, rfl, rfl⟩) fun vs s4 ⟨o, H4, I4, ps, eo, e4⟩ => ?_
  subst eo e4
  have I5 : Inv X pins σ H4 { s4 with heap := s4.heap.push { cls := .type "slice", data := .fields #[vl, vu, vs] } } := I4.kept (t' := s4.toks) fun b ob q => Heap.get?_push_of_some _ q
  obtain ⟨its, r, ht, hz⟩ := I5.tuple hx
  have hlen := r.length
  show wpAny (model X.prog X.w) X.A (subscriptTail e (.Slice none none (some (.UnaryOp .USub (.Constant (.int 1) k p1) p2)) p3) (.ref a) (.ref s4.heap.objs.size)) (EP X pins σ Q) X.xe { s4 with heap := s4.heap.push { cls := .type "slice", data := .fields #[vl, vu, vs] } }
  refine tail_any (ops := [.ref a, .ref s4.heap.objs.size]) ht.typeIs (PyProof.Rows.slot_tuple_getitem.lookup) ?_ (by with_unfolding_all rfl)
  refine getItem_back ht (Heap.IsSliceOf.new _ vl vu vs) pl pu ps ?_ (by rw [List.size_toArray]; omega)
  refine ⟨.ref _, _, I5.laid (t' := s4.toks) (o := .tup xs.reverse) (fun b ob q => Heap.get?_push_of_some _ q) (Nat.le_refl _) ?_, rfl, q _ (I5.hok.fresh (Nat.le_refl _))⟩
  exact ⟨by rw [List.length_reverse]; exact hz, _, r.reverse, IsTup.new _ _⟩
end Tr

namespace Kn
open PySem PySem.Spec PyProof.Rows L2
open Wt Dc
abbrev sSpots : Stmt := Pre.top 35
abbrev sAtL : Stmt := Pre.top 32
abbrev sPut : Stmt := Pre.top 33
def atP : List Nat → PyData → Option PyData
  | [], d => some d
  | k :: ks, .tuple ds => (ds[k]?).bind fun d => atP ks d
  | _ :: _, _ => none
theorem atP_cons {k : Nat} {ks : List Nat} {ds : List PyData} : atP (k :: ks) (.tuple ds) = (ds[k]?).bind fun d => atP ks d := by
  rw [atP]
theorem atP_inv {k : Nat} {ks : List Nat} {d e : PyData} (h : atP (k :: ks) d = some e) : ∃ ds d1, d = .tuple ds ∧ ds[k]? = some d1 ∧ atP ks d1 = some e := by
  cases d with
  | tuple ds =>
    rw [atP_cons] at h
    cases hd : ds[k]? with
    | none =>
      rw [hd] at h
      cases h
    | some d1 =>
      rw [hd] at h
      exact ⟨ds, d1, rfl, hd, h⟩
  | _ => cases h
theorem atP_snoc : ∀ {ks : List Nat} {d : PyData} {ds : List PyData} {k : Nat} {e : PyData}, atP ks d = some (.tuple ds) → ds[k]? = some e → atP (ks ++ [k]) d = some e
  | [], d, ds, k, e, h, hk => by
    cases h
    show atP [k] (.tuple ds) = some e
    rw [atP_cons, hk]
    rfl
  | j :: ks, d, ds, k, e, h, hk => by
    obtain ⟨es, d1, rfl, h1, h2⟩ := atP_inv h
    show atP (j :: (ks ++ [k])) (.tuple es) = some e
    rw [atP_cons, h1]
    exact atP_snoc h2 hk
theorem atP_more {ks : List Nat} {k : Nat} {d e : PyData} (h : atP (ks ++ [k]) d = some e) : ∃ ds, atP ks d = some (.tuple ds) ∧ ds[k]? = some e := by
  induction ks generalizing d with
  | nil =>
    obtain ⟨ds, d1, rfl, h1, h2⟩ := atP_inv (ks := []) h
    cases h2
    exact ⟨ds, rfl, h1⟩
  | cons j ks ih =>
    obtain ⟨ds, d1, rfl, h1, h2⟩ := atP_inv (show atP (j :: (ks ++ [k])) d = some e from h)
    obtain ⟨es, h3, h4⟩ := ih h2
    exact ⟨es, by rw [atP_cons, h1]; exact h3, h4⟩
theorem atP_take {ks : List Nat} {d e : PyData} {i : Nat} (h : atP ks d = some e) : ∃ e1, atP (ks.take i) d = some e1 ∧ ∀ k, ks[i]? = some k → ∃ ds e2, e1 = .tuple ds ∧ ds[k]? = some e2 ∧ atP (ks.take (i + 1)) d = some e2 := by
  induction ks generalizing d i with
  | nil =>
    cases h
    refine ⟨e, by rw [List.take_nil]; rfl, fun k hk => ?_⟩
    cases hk
  | cons j ks ih =>
    obtain ⟨ds, d1, rfl, h1, h2⟩ := atP_inv h
    cases i with
    | zero =>
      refine ⟨.tuple ds, rfl, fun k hk => ?_⟩
      cases hk
      refine ⟨ds, d1, rfl, h1, ?_⟩
      show atP [j] (.tuple ds) = some d1
      rw [atP_cons, h1]
      rfl
    | succ i =>
      obtain ⟨e1, h3, h4⟩ := ih (i := i) h2
      refine ⟨e1, ?_, fun k hk => ?_⟩
      · show atP (j :: ks.take i) (.tuple ds) = some e1
        rw [atP_cons, h1]
        exact h3
      · obtain ⟨es, e2, q1, q2, q3⟩ := h4 k hk
        refine ⟨es, e2, q1, q2, ?_⟩
        show atP (j :: ks.take (i + 1)) (.tuple ds) = some e2
        rw [atP_cons, h1]
        exact q3
theorem atP_dep : ∀ {ks : List Nat} {d e : PyData}, atP ks d = some e → ks.length + e.depth ≤ d.depth
  | [], d, e, h => by
    cases h
    show 0 + d.depth ≤ d.depth
    omega
  | k :: ks, d, e, h => by
    obtain ⟨ds, d1, rfl, h1, h2⟩ := atP_inv h
    have h3 := atP_dep h2
    have h4 := dep_mem (List.mem_of_getElem? h1)
    show (k :: ks).length + e.depth ≤ PyData.depthAll ds + 1
    simp only [List.length_cons]
    omega
mutual
def sz : PyData → Nat
  | .tuple ds => 1 + szAll ds
  | .none => 1
  | .bool _ => 1
  | .int _ => 1
  | .str _ => 1
  | .list _ => 1
  | .dict _ => 1
def szAll : List PyData → Nat
  | [] => 0
  | d :: ds => sz d + szAll ds
end
theorem sz_pos (d : PyData) : 1 ≤ sz d := by
  cases d with
  | tuple ds =>
    show 1 ≤ 1 + szAll ds
    omega
  | _ => exact Nat.le_refl _
theorem szAll_len : ∀ ds : List PyData, ds.length ≤ szAll ds
  | [] => Nat.le_refl _
  | d :: ds => by
    have := sz_pos d
    have := szAll_len ds
    show (d :: ds).length ≤ sz d + szAll ds
    simp only [List.length_cons]
    omega
theorem szAll_take : ∀ {ds : List PyData} {i : Nat} {d : PyData}, ds[i]? = some d → szAll (ds.take (i + 1)) = szAll (ds.take i) + sz d ∧ szAll (ds.take i) + sz d ≤ szAll ds
  | x :: ds, 0, d, h => by
    cases h
    show (sz x + 0 = 0 + sz x) ∧ 0 + sz x ≤ sz x + szAll ds
    exact ⟨by omega, by omega⟩
  | x :: ds, i + 1, d, h => by
    obtain ⟨h1, h2⟩ := szAll_take (ds := ds) (i := i) h
    show (sz x + szAll (ds.take (i + 1)) = sz x + szAll (ds.take i) + sz d) ∧ sz x + szAll (ds.take i) + sz d ≤ sz x + szAll ds
    exact ⟨by omega, by omega⟩
theorem sz_mem {ds : List PyData} {i : Nat} {d : PyData} (h : ds[i]? = some d) : sz d < sz (.tuple ds) := by
  have := (szAll_take h).2
  show sz d < 1 + szAll ds
  omega
theorem sz_dat : ∀ t : Kd, sz t.dat + 2 = 5 * t.nums
  | .num k => rfl
  | .to a b => by
    have h1 := sz_dat a
    have h2 := sz_dat b
    show 1 + (1 + (sz a.dat + (sz b.dat + 0))) + 2 = 5 * (a.nums + b.nums)
    omega
abbrev kV (ks : List Nat) : List V := ks.map fun (k : Nat) => V.int (k : Int)
/-- a path that is one of d -/
def Pth (K : PySem.W.Frag) (H : Hp) (D : PyData) (v : V) : Prop := ∃ q ks e, v = .ref q ∧ SqT K H q (kV ks) ∧ atP ks D = some e
theorem pth_same {K : PySem.W.Frag} {H H' : Hp} {D : PyData} {v : V} (s : Same H H') (h : Pth K H D v) : Pth K H' D v := by
  obtain ⟨q, ks, e, h1, h2, h3⟩ := h
  exact ⟨q, ks, e, h1, sqT_same s h2, h3⟩
theorem tup_or {K : PySem.W.Frag} {H : Hp} {x : V} {d : PyData} (h : Dp K H x d) : (∃ a xs ds, x = .ref a ∧ d = .tuple ds ∧ SqT K H a xs ∧ DpAll K H xs ds) ∨ (kitB (tyN d) "tuple" = some false ∧ sz d = 1) := by
  cases h with
  | tup q r => exact .inl ⟨_, _, _, rfl, rfl, q, r⟩
  | non => exact .inr ⟨by decide +kernel, rfl⟩
  | bl b => exact .inr ⟨by show kitB "bool" "tuple" = some false; decide +kernel, rfl⟩
  | int b => exact .inr ⟨by show kitB "int" "tuple" = some false; decide +kernel, rfl⟩
  | str b => exact .inr ⟨by show kitB "str" "tuple" = some false; decide +kernel, rfl⟩
  | lst q r => exact .inr ⟨by show kitB "list" "tuple" = some false; decide +kernel, rfl⟩
theorem catA_any {K : PySem.W.Frag} {H : Hp} {a b : Addr} {xs ys : List V} {Q : V → Hp → Prop} (ha : SqT K H a xs) (hb : SqT K H b ys) (hz : xs.length + ys.length ≤ 1000) (k : ∀ r H', Same H H' → SqT K H' r (xs ++ ys) → Q (.ref r) H') : rCatA K (.ref a) (.ref b) H Q := by
  refine ⟨a, b, xs, ys, rfl, rfl, ha, hb, Nat.le_trans hz (by decide), fun e => ?_, fun _ e => ?_, fun _ _ p hp => k p _ (Pre.same_upd hp) (SqT.of upd_same)⟩
  · subst e
    exact k b H (Same.refl _) hb
  · subst e
    exact k a H (Same.refl _) (by rw [List.append_nil]; exact ha)
theorem slA_any {K : PySem.W.Frag} {H : Hp} {a : Addr} {xs : List V} {lo hi : Option Int} {Q : V → Hp → Prop} (ha : SqT K H a xs) (k : ∀ r H', Same H H' → SqT K H' r (cutV xs lo hi) → Q (.ref r) H') : rSlA K (.ref a) lo hi H Q := by
  refine ⟨a, xs, rfl, ha, fun e => ?_, fun _ p hp => k p _ (Pre.same_upd hp) (SqT.of upd_same)⟩
  refine k a H (Same.refl _) ?_
  unfold cutV
  rw [e.1, e.2, List.drop_zero, Nat.sub_zero, List.take_length]
  exact ha
section
variable {P0 : Program} {w : World} {K : PySem.W.Frag} {mg : Str → Option Value} {base : Heap}
def spSpots (K : PySem.W.Frag) (N : Nat) : Sp := fun vs H Q _ => ∃ (x : V) (q : Addr) (d D : PyData) (ks : List Nat), vs = [x, .ref q] ∧ Dp K H x d ∧ SqT K H q (kV ks) ∧ ks.length ≤ 100 ∧ atP ks D = some d ∧ D.depth ≤ 100 ∧ d.depth < N ∧ sz d ≤ 200 ∧
  ∀ (l : Addr) (vs : List V) (H' : Hp), Same H H' → H l = none → H' l = some (.lst vs) → vs.length = sz d → (∀ v ∈ vs, Pth K H' D v) → Q (.ref l) H'
theorem scSpots : FnScope ["thing", "path", "found", "k"] ["thing", "path"] (defScope sSpots) := ⟨rfl, rfl, rfl, by decide +kernel, rfl, by decide +kernel, by decide +kernel⟩
theorem ok_spots {f : Addr} {fd : FuncData} (F : Fun K "_law_cp_spots" "_law_cp_spots" sSpots f fd) (mF : mg "_law_cp_spots" = some (.ref f)) (T : TxtW mg) (zr : mg "range" = none) : ∀ N : Nat, FnOk P0 w K mg base CX0 (N + 1) f fd ["thing", "path"] (spSpots K N)
  | 0 => by
    refine F.ok (k := 0) scSpots (fun vs H Q E h => ?_) (fun cdv A outer s H vs Q E hr h => ?_)
    · obtain ⟨x, q, d, D, ks, rfl, _⟩ := h
      rfl
    · obtain ⟨x, q, d, D, ks, rfl, _, _, _, _, _, h0, _⟩ := h
      omega
  | N + 1 => by
    have IH := ok_spots F mF T zr N
    have bF := F.binds (ps := ["thing", "path"]) fun _ _ _ _ _ _ us hl => match us, hl with | [_, _], _ => rfl
    refine F.ok (k := N + 1) scSpots (fun vs H Q E h => ?_) (fun cdv A outer s H vs Q E hr h => ?_)
    · obtain ⟨x, q, d, D, ks, rfl, _⟩ := h
      rfl
    · obtain ⟨x, q, d, D, ks, rfl, hd, hq, hkl, hat, hDd, hN, hsz, k⟩ := h
      have nd := scSpots.nd
      refine ⟨_, pss_cons (ps_set (i := 2) nd rfl (Or.inl rfl) (pe_lst (pa_cons (pv 1) pa_nil)))
        (pss_cons (ps_for PassesOwn.never rfl (pi_range1 (by rfl) zr (pa_cons (pe_ifExp (pt_val (pe_callB call_isi (by rfl) T.isi (by decide +kernel) (pa_cons (pv 0) (pa_cons (pe_bltn (v := .ty "tuple") (by rfl) T.tuple (by decide +kernel) rfl) pa_nil)))) (pe_callB call_len_seq (by rfl) T.len PySem.boot_len (pa_cons (pv 0) pa_nil)) pe_int) pa_nil)) (pg_name (i := 3) nd rfl (Or.inl rfl))
          (pss_one (ps_set (i := 2) nd rfl (Or.inl rfl) (pe_op op_cat (pv 2) (pe_call IH hr rfl mF F.kp bF .nil pass0 (pa_cons (pe_ix ix_tup (pv 0) (pv 3) (fun _ _ => rfl)) (pa_cons (pe_op op_catA (pv 1) (pe_tup (pa_cons (pv 3) pa_nil))) pa_nil)))))))
        (pss_one (ps_ret (pv 2)))), ?_⟩
      refine ⟨_, rfl, by show 1 ≤ sizeLine; decide, fun L hL => ?_⟩
      have sL := Pre.same_upd (o := .lst [.ref q]) hL
      have hq1 : Pth K (upd H L (.lst [.ref q])) D (.ref q) := ⟨q, ks, d, rfl, sqT_same sL hq, hat⟩
      have hL1 : (upd H L (.lst [.ref q])) L = some (.lst [.ref q]) := upd_same
      generalize upd H L (.lst [.ref q]) = H1 at sL hq1 hL1
      have ty := ty_of (dp_same sL hd)
      rcases tup_or hd with ⟨a, xs, ds, rfl, rfl, hx, hD⟩ | ⟨ht, hone⟩
      · have hlen := dpAll_len hD
        have hll := szAll_len ds
        have hsz' : 1 + szAll ds ≤ 200 := hsz
        refine ⟨_, rfl, _, _, _, _, true, rfl, .ty _, ty, kit_ty (a := "tuple") (b := "tuple") (by decide +kernel), _, rfl, iteT ⟨_, rfl, a, xs, rfl, .inr (sqT_same sL hx), (xs.length : Int), rfl, by omega, by omega, ?_⟩⟩
        refine for_range (n := (xs.length : Int).toNat) (fun i σ H' => ∃ (l : Addr) (vs : List V) (lp : Option V), σ = [some (.ref a), some (.ref q), some (.ref l), lp] ∧ Same H1 H' ∧ H l = none ∧ H' l = some (.lst vs) ∧ vs.length = 1 + szAll (ds.take i) ∧ ∀ v ∈ vs, Pth K H' D v)
          ⟨L, [.ref q], none, rfl, Same.refl _, hL, hL1, rfl, fun v hv => by rw [List.mem_singleton.mp hv]; exact hq1⟩ ?_ ?_
        · rintro i σ H2 hi ⟨l, vs, lp, rfl, s2, hl0, hl, hvl, hP⟩
          rw [Int.toNat_natCast] at hi
          have e0 : (0 : Int) + (i : Int) = (i : Int) := by omega
          rw [e0]
          obtain ⟨x1, hx1⟩ : ∃ x1, xs[i]? = some x1 := ⟨xs[i], List.getElem?_eq_getElem hi⟩
          obtain ⟨d1, hd1, hdp⟩ := dpAll_at hD hx1
          have hs12 := sL.trans s2
          have hdep : d1.depth < N := by
            have z1 := dep_mem (List.mem_of_getElem? hd1)
            have z2 : PyData.depthAll ds + 1 < N + 1 := hN
            omega
          obtain ⟨zt, zu⟩ := szAll_take hd1
          refine ⟨_, rfl, _, rfl, _, rfl, a, xs, _, x1, rfl, rfl, sqT_same hs12 hx, atI_nat hx1, _, rfl, _, rfl, ?_⟩
          refine ⟨by show 1 ≤ sizeLine; decide, fun r hr0 => ?_⟩
          have s3 := Pre.same_upd (o := .tup [.int (i : Int)]) hr0
          refine catA_any (xs := kV ks) (ys := [.int (i : Int)]) (sqT_same (hs12.trans s3) hq) (SqT.of upd_same) (by simp only [kV, List.length_map, List.length_singleton]; omega) fun r2 H4 s4 hr2 => ?_
          have hs14 := hs12.trans (s3.trans s4)
          have hat2 := atP_snoc hat hd1
          have e1 : kV ks ++ [V.int (i : Int)] = kV (ks ++ [i]) := by
            simp [kV]
          rw [e1] at hr2
          have hdl := atP_dep hat2
          refine ⟨x1, r2, d1, D, ks ++ [i], rfl, dp_same hs14 hdp, hr2, by omega, hat2, hDd, hdep, by omega, fun l2 vs2 H5 s5 hl2n hl2 hvl2 hP2 => ?_⟩
          have sa := s3.trans (s4.trans s5)
          refine ⟨l, l2, vs, vs2, rfl, rfl, sa _ _ hl, hl2, Nat.le_trans (show vs.length + vs2.length ≤ 1000 by omega) (by decide), fun l3 hl3 => ?_⟩
          have s6 := Pre.same_upd (o := .lst (vs ++ vs2)) hl3
          refine ⟨l3, vs ++ vs2, _, rfl, s2.trans (sa.trans s6), (hs12.trans sa).free hl3, upd_same, ?_, fun v hv => ?_⟩
          · rw [List.length_append, hvl, hvl2, zt]
            omega
          · rcases List.mem_append.mp hv with z | z
            · exact pth_same (sa.trans s6) (hP v z)
            · exact pth_same s6 (hP2 v z)
        · rintro σ H2 ⟨l, vs, lp, rfl, s2, hl0, hl, hvl, hP⟩
          rw [Int.toNat_natCast, hlen, List.take_length] at hvl
          exact ⟨_, rfl, k l vs H2 (sL.trans s2) hl0 hl hvl hP⟩
      · refine ⟨_, rfl, _, _, _, _, false, rfl, .ty _, ty, kit_ty (b := "tuple") ht, _, rfl, iteF ⟨(0 : Int), rfl, by omega, by omega, ?_⟩⟩
        refine for_range (n := (0 : Int).toNat) (fun i σ H' => ∃ (lp : Option V), σ = [some x, some (.ref q), some (.ref L), lp] ∧ H' = H1)
          ⟨none, rfl, rfl⟩ (fun i σ H2 hi _ => absurd hi (Nat.not_lt_zero _)) ?_
        rintro σ H2 ⟨lp, rfl, rfl⟩
        exact ⟨_, rfl, k L _ H2 sL hL hL1 hone.symm fun v hv => by rw [List.mem_singleton.mp hv]; exact hq1⟩
def spAtL (K : PySem.W.Frag) : Sp := fun vs H Q _ => ∃ (x : V) (q : Addr) (D e : PyData) (ks : List Nat), vs = [x, .ref q] ∧ Dp K H x D ∧ SqT K H q (kV ks) ∧ atP ks D = some e ∧ ∀ y, Dp K H y e → Q y H
theorem scAtL : FnScope ["thing", "path", "k"] ["thing", "path"] (defScope sAtL) := ⟨rfl, rfl, rfl, by decide +kernel, rfl, by decide +kernel, by decide +kernel⟩
theorem ok_atL {f : Addr} {fd : FuncData} (F : Fun K "_law_cp_at" "_law_cp_at" sAtL f fd) : FnOk P0 w K mg base CX0 1 f fd ["thing", "path"] (spAtL K) := by
  refine F.ok scAtL (fun vs H Q E h => ?_) (fun cdv A outer s H vs Q E hr h => ?_)
  · obtain ⟨x, q, D, e, ks, rfl, _⟩ := h
    rfl
  · obtain ⟨x, q, D, e, ks, rfl, hd, hq, hat, k⟩ := h
    have nd := scAtL.nd
    refine ⟨_, pss_cons (ps_for PassesOwn.never rfl (pi_tup (pv 1)) (pg_name (i := 2) nd rfl (Or.inl rfl)) (pss_one (ps_set (i := 0) nd rfl (Or.inl rfl) (pe_ix ix_tup (pv 0) (pv 2) (fun _ _ => rfl)))))
      (pss_one (ps_ret (pv 0))), ?_⟩
    refine ⟨_, rfl, q, rfl, ⟨_, hq⟩, for_tup (K := K) (a := q) (xs := kV ks) (fun i σ H' => ∃ (y : V) (e1 : PyData) (lp : Option V), σ = [some y, some (.ref q), lp] ∧ H' = H ∧ atP (ks.take i) D = some e1 ∧ Dp K H y e1) ⟨x, D, none, rfl, rfl, by rw [List.take_zero]; rfl, hd⟩ (fun _ σ H' _ ⟨_, _, _, _, e, _⟩ => by rw [e]; exact hq) ?_ ?_⟩
    · rintro i v σ H2 hv ⟨y, e1, lp, rfl, rfl, h1, h2⟩
      obtain ⟨j, hj, rfl⟩ : ∃ j, ks[i]? = some j ∧ V.int (j : Int) = v := by
        rw [List.getElem?_map] at hv
        cases hj : ks[i]? with
        | none =>
          rw [hj] at hv
          cases hv
        | some j =>
          rw [hj] at hv
          cases hv
          exact ⟨j, rfl, rfl⟩
      obtain ⟨e1', h3, h4⟩ := atP_take (i := i) hat
      rw [h1] at h3
      cases h3
      obtain ⟨ds, e2, rfl, h5, h6⟩ := h4 j hj
      cases h2 with
      | @tup a xs ds q2 r2 =>
        have hlen := dpAll_len r2
        have hjl := (List.getElem?_eq_some_iff.mp h5).1
        obtain ⟨x1, hx1⟩ : ∃ x1, xs[j]? = some x1 := ⟨xs[j]'(by omega), List.getElem?_eq_getElem _⟩
        obtain ⟨d1, hd1, hdp⟩ := dpAll_at r2 hx1
        rw [h5] at hd1
        cases hd1
        exact ⟨_, rfl, _, rfl, a, xs, _, x1, rfl, rfl, q2, atI_nat hx1, x1, e2, _, rfl, rfl, h6, hdp⟩
    · rintro σ H2 ⟨y, e1, lp, rfl, rfl, h1, h2⟩
      have e0 : (kV ks).length = ks.length := by simp [kV]
      rw [e0, List.take_length, hat] at h1
      cases h1
      exact ⟨_, rfl, k y h2⟩
end
end Kn

namespace Kn
open PySem PySem.Spec PyProof.Rows L2
open Wt Dc
theorem can_all : ∀ {ds : List PyData}, (∀ d ∈ ds, d.canLay0 = true) → PyData.canLayAll0 ds = true
  | [], _ => rfl
  | d :: ds, h => by
    show (d.canLay0 && PyData.canLayAll0 ds) = true
    rw [h d (List.mem_cons_self ..), can_all fun x hx => h x (List.mem_cons_of_mem _ hx)]
    rfl
theorem dep_all : ∀ {ds : List PyData} {n : Nat}, (∀ d ∈ ds, d.depth ≤ n) → PyData.depthAll ds ≤ n
  | [], _, _ => Nat.zero_le _
  | d :: ds, n, h => by
    show max d.depth (PyData.depthAll ds) ≤ n
    exact Nat.max_le.mpr ⟨h d (List.mem_cons_self ..), dep_all fun x hx => h x (List.mem_cons_of_mem _ hx)⟩
/-- data of at most m levels -/
def Ok (m : Nat) (d : PyData) : Prop := d.canLay0 = true ∧ d.depth ≤ m
theorem ok_sh {m : Nat} {d : PyData} (h : Ok m d) (hm : m ≤ 64) : Sh d := sh_of h.1 (Nat.le_trans h.2 hm)
theorem ok_mono {m j : Nat} {d : PyData} (h : Ok m d) (l : m ≤ j) : Ok j d := ⟨h.1, Nat.le_trans h.2 l⟩
theorem ok_tupD {m : Nat} {ds : List PyData} (h : ∀ d ∈ ds, Ok m d) : Ok (m + 1) (.tuple ds) :=
  ⟨can_all fun d hd => (h d hd).1, Nat.succ_le_succ (dep_all fun d hd => (h d hd).2)⟩
theorem ok_lstD {m : Nat} {ds : List PyData} (h : ∀ d ∈ ds, Ok m d) : Ok (m + 1) (.list ds) :=
  ⟨can_all fun d hd => (h d hd).1, Nat.succ_le_succ (dep_all fun d hd => (h d hd).2)⟩
theorem ok_memT {m : Nat} {ds : List PyData} (h : Ok m (.tuple ds)) {d : PyData} (hd : d ∈ ds) : Ok (m - 1) d := by
  obtain ⟨h1, h2⟩ := h
  have z : PyData.depthAll ds + 1 ≤ m := h2
  have := dep_mem hd
  exact ⟨can_mem h1 hd, by omega⟩
/-- a value that is some data of at most m levels -/
def OkV (K : PySem.W.Frag) (H : Hp) (m : Nat) (v : V) : Prop := ∃ d, Dp K H v d ∧ Ok m d
theorem okv_same {K : PySem.W.Frag} {H H' : Hp} {m : Nat} {v : V} (s : Same H H') (h : OkV K H m v) : OkV K H' m v := by
  obtain ⟨d, h1, h2⟩ := h
  exact ⟨d, dp_same s h1, h2⟩
theorem okv_mono {K : PySem.W.Frag} {H : Hp} {m j : Nat} {v : V} (h : OkV K H m v) (l : m ≤ j) : OkV K H j v := by
  obtain ⟨d, h1, h2⟩ := h
  exact ⟨d, h1, ok_mono h2 l⟩
theorem okv_all {K : PySem.W.Frag} {H : Hp} {m : Nat} : ∀ {xs : List V}, (∀ x ∈ xs, OkV K H m x) → ∃ ds, DpAll K H xs ds ∧ ∀ d ∈ ds, Ok m d
  | [], _ => ⟨[], .nil, fun d h => by cases h⟩
  | x :: xs, h => by
    obtain ⟨d, h1, h2⟩ := h x (List.mem_cons_self ..)
    obtain ⟨ds, h3, h4⟩ := okv_all fun y hy => h y (List.mem_cons_of_mem _ hy)
    exact ⟨d :: ds, .cons h1 h3, fun e he => by
      rcases List.mem_cons.mp he with z | z
      · rw [z]
        exact h2
      · exact h4 e z⟩
theorem okv_tup {K : PySem.W.Frag} {H : Hp} {m : Nat} {r : Addr} {xs : List V} (hr : SqT K H r xs) (h : ∀ x ∈ xs, OkV K H m x) : OkV K H (m + 1) (.ref r) := by
  obtain ⟨ds, h1, h2⟩ := okv_all h
  exact ⟨.tuple ds, .tup hr h1, ok_tupD h2⟩
theorem okv_lst {K : PySem.W.Frag} {H : Hp} {m : Nat} {r : Addr} {xs : List V} (hr : SqL K H r xs) (h : ∀ x ∈ xs, OkV K H m x) : OkV K H (m + 1) (.ref r) := by
  obtain ⟨ds, h1, h2⟩ := okv_all h
  exact ⟨.list ds, .lst hr h1, ok_lstD h2⟩
theorem dp_okv {K : PySem.W.Frag} {H : Hp} {m : Nat} : ∀ {xs : List V} {ds : List PyData}, DpAll K H xs ds → (∀ d ∈ ds, Ok m d) → ∀ x ∈ xs, OkV K H m x
  | _, _, .nil, _, x, hx => by cases hx
  | _, _, .cons (d := d) h r, k, x, hx => by
    rcases List.mem_cons.mp hx with z | z
    · rw [z]
      exact ⟨d, h, k d (List.mem_cons_self ..)⟩
    · exact dp_okv r (fun e he => k e (List.mem_cons_of_mem _ he)) x z
theorem sqT_wo {K : PySem.W.Frag} {H : Hp} {p g c a : Addr} {n : Nat} {xs : List V} (h : SqT K H a xs) (hs : Pre.St H p g c n) : SqT K (wo p g H) a xs := sqT_same nt_sub (at_wx h hs)
theorem kV_ok {K : PySem.W.Frag} {H : Hp} (ks : List Nat) : DpAll K H (kV ks) (ks.map fun (k : Nat) => PyData.int (k : Int)) := by
  induction ks with
  | nil => exact .nil
  | cons k ks ih => exact .cons (.int _) ih
theorem kV_sh (ks : List Nat) : Sh (.tuple (ks.map fun (k : Nat) => PyData.int (k : Int))) := by
  refine ok_sh (m := 1) (ok_tupD (m := 0) fun d hd => ?_) (by decide)
  obtain ⟨k, _, rfl⟩ := List.mem_map.mp hd
  exact ⟨rfl, Nat.le_refl _⟩
theorem cut_one (x : V) (xs : List V) : cutV (x :: xs) (some 1) none = xs := by
  unfold cutV
  have e : HT.sIx (x :: xs).length 0 (some 1) = 1 := by
    have := HT.sIx_nat (x :: xs).length 0 1
    simp only [List.length_cons] at this ⊢
    exact this.trans (by omega)
  rw [e, HT.sIx_none]
  simp only [List.drop_succ_cons, List.drop_zero, List.length_cons, Nat.add_sub_cancel, List.take_length]
theorem go_noP {σ : L2.St} {H : Hp} {Q : Option Int → Hp → Prop} (h : Q none H) : tNoPart σ H Q := h
theorem cut_mem {xs : List V} {lo hi : Option Int} {x : V} (h : x ∈ cutV xs lo hi) : x ∈ xs := List.mem_of_mem_drop (List.mem_of_mem_take h)
section
variable {P0 : Program} {w : World} {K : PySem.W.Frag} {mg : Str → Option Value} {base : Heap}
def spPut (K : PySem.W.Frag) (N : Nat) : Sp := fun vs H Q _ => ∃ (x : V) (q : Addr) (y : V) (p g c : Addr) (n : Nat) (D e : PyData) (ks : List Nat) (m : Nat), vs = [x, .ref q, y] ∧ Pre.St H p g c n ∧ Dp K (wo p g H) x D ∧ Ok m D ∧ sz D ≤ 200 ∧ SqT K H q (kV ks) ∧ atP ks D = some e ∧ ks.length < N ∧ OkV K (wo p g H) m y ∧
  ∀ v H', Same H H' → OkV K (wo p g H') (m + ks.length) v → Q v H'
theorem scPut : FnScope ["thing", "path", "part"] ["thing", "path", "part"] (defScope sPut) := ⟨rfl, rfl, rfl, by decide +kernel, rfl, by decide +kernel, by decide +kernel⟩
theorem ok_put {f : Addr} {fd : FuncData} (F : Fun K "_law_cp_put" "_law_cp_put" sPut f fd) (mF : mg "_law_cp_put" = some (.ref f)) : ∀ N : Nat, FnOk P0 w K mg base CX0 (N + 1) f fd ["thing", "path", "part"] (spPut K N)
  | 0 => by
    refine F.ok (k := 0) scPut (fun vs H Q E h => ?_) (fun cdv A outer s H vs Q E hr h => ?_)
    · obtain ⟨x, q, y, p, g, c, n, D, e, ks, m, rfl, _⟩ := h
      rfl
    · obtain ⟨x, q, y, p, g, c, n, D, e, ks, m, rfl, _, _, _, _, _, _, h0, _⟩ := h
      omega
  | N + 1 => by
    have IH := ok_put F mF N
    have bF := F.binds (ps := ["thing", "path", "part"]) fun _ _ _ _ _ _ us hl => match us, hl with | [_, _, _], _ => rfl
    refine F.ok (k := N + 1) scPut (fun vs H Q E h => ?_) (fun cdv A outer s H vs Q E hr h => ?_)
    · obtain ⟨x, q, y, p, g, c, n, D, e, ks, m, rfl, _⟩ := h
      rfl
    · obtain ⟨x, q, y, p, g, c, n, D, e, ks, m, rfl, hs, hd, hok, hsz, hq, hat, hN, hy, k⟩ := h
      have nd := scPut.nd
      refine ⟨_, pss_cons (ps_if (pt_cmpR (op_eqD hr.units) (pv 1) (pe_tup pa_nil) (nomark _)) (pss_one (ps_ret (pv 2))) pss_nil)
        (pss_one (ps_ret (pe_op op_catA (pe_op op_catA (pe_slice sl_tupA (pv 0) po_none (po_some (pe_ix ix_tup (pv 1) pe_int (fun _ _ => rfl))))
            (pe_tup (pa_cons (pe_call IH hr rfl mF F.kp bF .nil pass0 (pa_cons (pe_ix ix_tup (pv 0) (pe_ix ix_tup (pv 1) pe_int (fun _ _ => rfl)) (fun _ _ => rfl)) (pa_cons (pe_slice sl_tupA (pv 1) (po_some pe_int) po_none) (pa_cons (pv 2) pa_nil)))) pa_nil)))
          (pe_slice sl_tupA (pv 0) (po_some (pe_op op_add (pe_ix ix_tup (pv 1) pe_int (fun _ _ => rfl)) pe_int)) po_none)))), ?_⟩
      refine ⟨_, rfl, by show 0 ≤ sizeLine; decide, fun t0 ht0 => ?_⟩
      have s1 := Pre.same_upd (o := .tup []) ht0
      refine ⟨.tuple _, .tuple [], .tup (sqT_same s1 hq) (kV_ok ks), .tup (SqT.of upd_same) .nil, kV_sh ks, by decide +kernel, _, rfl, ?_⟩
      generalize upd H t0 (.tup []) = H1 at s1
      cases ks with
      | nil =>
        exact iteT ⟨_, rfl, k y H1 s1 (okv_mono (okv_same (wo_mono s1) hy) (Nat.le_add_right _ _))⟩
      | cons k0 ks =>
        refine iteF ?_
        obtain ⟨ds, d1, rfl, hd1, hat1⟩ := atP_inv hat
        have hd' := hd
        obtain ⟨a, xs, rfl, hx, hD⟩ : ∃ a xs, x = .ref a ∧ SqT K (wo p g H) a xs ∧ DpAll K (wo p g H) xs ds := by
          cases hd' with
          | tup q1 q2 => exact ⟨_, _, rfl, q1, q2⟩
        have hxl := dpAll_len hD
        have hk0 : k0 < ds.length := (List.getElem?_eq_some_iff.mp hd1).1
        obtain ⟨x1, hx1⟩ : ∃ x1, xs[k0]? = some x1 := ⟨xs[k0], List.getElem?_eq_getElem (by omega)⟩
        obtain ⟨d1', hd1', hdp⟩ := dpAll_at hD hx1
        rw [hd1] at hd1'
        cases hd1'
        have okall := dp_okv hD fun d hd => ok_memT hok hd
        have hsz' : 1 + szAll ds ≤ 200 := hsz
        have hll := szAll_len ds
        have hm1 : 1 ≤ m := Nat.le_trans (Nat.succ_le_succ (Nat.zero_le _)) hok.2
        have hszd := sz_mem hd1
        have hs1 := st_same hs s1
        have hxG := sqT_same wo_sub hx
        have hq1 := sqT_same s1 hq
        refine ⟨_, rfl, _, rfl, q, _, _, _, rfl, rfl, hq1, atI_nat (j := 0) rfl, _, rfl, slA_any (sqT_same s1 hxG) fun r1 H2 s2 hr1 => ?_⟩
        have s12 := s1.trans s2
        refine ⟨_, rfl, _, rfl, q, _, _, _, rfl, rfl, sqT_same s12 hq, atI_nat (j := 0) rfl, a, xs, _, x1, rfl, rfl, sqT_same s12 hxG, atI_nat hx1, ?_⟩
        refine ⟨_, rfl, _, rfl, go_noP (slA_any (sqT_same s12 hq) fun q2 H3 s3 hq2 => ?_)⟩
        have s13 := s12.trans s3
        rw [show kV (k0 :: ks) = V.int (k0 : Int) :: kV ks from rfl, cut_one] at hq2
        refine ⟨_, rfl, x1, q2, y, p, g, c, n, d1, e, ks, m, rfl, st_same hs s13, dp_same (wo_mono s13) hdp, ok_mono (ok_memT hok (List.mem_of_getElem? hd1)) (Nat.sub_le _ _), by omega, hq2, hat1, Nat.lt_of_succ_lt_succ hN, okv_same (wo_mono s13) hy, fun v H4 s4 hv => ?_⟩
        have s14 := s13.trans s4
        refine ⟨by show 1 ≤ sizeLine; decide, fun r hr0 => ?_⟩
        have s5 := Pre.same_upd (o := .tup [v]) hr0
        have hc1 : (cutV xs none (some (k0 : Int))).length ≤ xs.length := cutV_length ..
        refine catA_any (ys := [v]) (sqT_same (s3.trans (s4.trans s5)) hr1) (SqT.of upd_same) (by simp only [List.length_singleton]; omega) fun r2 H6 s6 hr2 => ?_
        have s16 := s14.trans (s5.trans s6)
        refine ⟨_, rfl, _, rfl, q, _, _, _, rfl, rfl, sqT_same s16 hq, atI_nat (j := 0) rfl, _, _, rfl, rfl, _, rfl, go_noP (slA_any (sqT_same s16 hxG) fun r3 H7 s7 hr3 => ?_)⟩
        have hc2 := cutV_length xs (some ((k0 : Int) + 1)) none
        refine catA_any (sqT_same s7 hr2) hr3 (by simp only [List.length_append, List.length_singleton]; omega) fun r4 H8 s8 hr4 => ?_
        have s18 := s16.trans (s7.trans s8)
        have hv8 := okv_same (wo_mono ((s5.trans s6).trans (s7.trans s8))) hv
        refine k (.ref r4) H8 s18 ?_
        have e1 : m + (k0 :: ks).length = m + ks.length + 1 := by
          simp only [List.length_cons]
          omega
        rw [e1]
        refine okv_tup (sqT_wo hr4 (st_same hs s18)) fun z hz => ?_
        have old : ∀ z ∈ xs, OkV K (wo p g H8) (m + ks.length) z := fun z hz => okv_mono (okv_same (wo_mono s18) (okall z hz)) (by omega)
        rcases List.mem_append.mp hz with hz | hz
        · rcases List.mem_append.mp hz with hz | hz
          · exact old z (cut_mem hz)
          · rw [List.mem_singleton.mp hz]
            exact hv8
        · exact old z (cut_mem hz)
end
end Kn

namespace Dc
open PySem PySem.Spec PyProof.Rows L2
open Wt
/-- some written items, then others -/
def tPre (K : PySem.W.Frag) (ds : List PyData) (t : TA) : TA := fun σ H Q => ∀ vs H1, Same H H1 → DpAll K (Nw H H1) vs ds → t σ H1 fun xs H2 => Q (vs ++ xs) H2
theorem pre_nil {X : Cx} {es : List Expr} {t : TA} (h : PA X es t) : PA X es (tPre X.K [] t) := pa_imp h fun σ H Q k => by
  have z := k [] H (Same.refl _) .nil
  exact z
theorem pre_cons {X : Cx} {e : Expr} {es : List Expr} {d : PyData} {ds : List PyData} {t : TA} (h : ED X e d) (r : PA X es (tPre X.K ds t)) (hs : starEach (e :: es) X.env = (false, eval e X.env) :: starEach es X.env := by rfl) : PA X (e :: es) (tPre X.K (d :: ds) t) :=
  pa_imp (pa_cons h r hs) fun _ _ _ k _ _ s1 d1 _ _ s2 d2 => k _ _ (s1.trans s2) (.cons (dp_same (nw_mono s2) d1) (dpAll_same (nw_low s1) d2))
end Dc
namespace Kn
open PySem PySem.Spec PyProof.Rows L2
open Wt Dc
abbrev sBent : Stmt := Pre.top 36
abbrev sBadK : Stmt := Pre.top 37
/-- between two statements: what the first leaves, and what the rest makes of it -/
theorem go_cut {t u : TS} {D : Ends} {σ : L2.St} {H : Hp} (Post : L2.St → Hp → Prop) (h1 : ∀ σ' H', Post σ' H' → u D σ' H') (h2 : ∀ nx' : L2.St → Hp → Prop, (∀ σ' H', Post σ' H' → nx' σ' H') → t { D with nx := nx' } σ H) : tSeq t u D σ H := h2 (u D) h1
theorem kd_at : ∀ {ks : List Nat} {t : Kd} {e : PyData}, t.good → atP ks t.dat = some e → (∃ i, e = .int i ∧ 1 ≤ i ∧ i ≤ 6) ∨ (∃ s : Str, e = .str s ∧ (s = "num" ∨ s = "to")) ∨ ∃ u : Kd, e = u.dat ∧ u.good ∧ u.nums ≤ t.nums
  | [], t, e, g, h => by
    have z : some t.dat = some e := h
    cases z
    exact .inr (.inr ⟨t, rfl, g, Nat.le_refl _⟩)
  | k :: ks, .num i, e, g, h => by
    obtain ⟨ds, d1, e1, h1, h2⟩ := atP_inv h
    have e2 : ds = [.str "num", .int i] := by
      have z : PyData.tuple [.str "num", .int i] = .tuple ds := e1
      injection z with z
      exact z.symm
    subst e2
    match k, h1 with
    | 0, h1 =>
      cases h1
      cases ks with
      | nil =>
        have z : some (PyData.str "num") = some e := h2
        cases z
        exact .inr (.inl ⟨_, rfl, .inl rfl⟩)
      | cons j js =>
        obtain ⟨_, _, e3, _⟩ := atP_inv h2
        cases e3
    | 1, h1 =>
      cases h1
      cases ks with
      | nil =>
        have z : some (PyData.int i) = some e := h2
        cases z
        exact .inl ⟨_, rfl, g.1, g.2⟩
      | cons j js =>
        obtain ⟨_, _, e3, _⟩ := atP_inv h2
        cases e3
    | n + 2, h1 => cases h1
  | k :: ks, .to a b, e, g, h => by
    obtain ⟨ds, d1, e1, h1, h2⟩ := atP_inv h
    have e2 : ds = [.str "to", a.dat, b.dat] := by
      have z : PyData.tuple [.str "to", a.dat, b.dat] = .tuple ds := e1
      injection z with z
      exact z.symm
    subst e2
    have up : ∀ u : Kd, u.nums ≤ (Kd.to a b).nums → ((∃ i, e = .int i ∧ 1 ≤ i ∧ i ≤ 6) ∨ (∃ s : Str, e = .str s ∧ (s = "num" ∨ s = "to")) ∨ ∃ v : Kd, e = v.dat ∧ v.good ∧ v.nums ≤ u.nums) → ((∃ i, e = .int i ∧ 1 ≤ i ∧ i ≤ 6) ∨ (∃ s : Str, e = .str s ∧ (s = "num" ∨ s = "to")) ∨ ∃ v : Kd, e = v.dat ∧ v.good ∧ v.nums ≤ (Kd.to a b).nums) := by
      rintro u hu (z | z | ⟨v, z1, z2, z3⟩)
      · exact .inl z
      · exact .inr (.inl z)
      · exact .inr (.inr ⟨v, z1, z2, Nat.le_trans z3 hu⟩)
    match k, h1 with
    | 0, h1 =>
      cases h1
      cases ks with
      | nil =>
        have z : some (PyData.str "to") = some e := h2
        cases z
        exact .inr (.inl ⟨_, rfl, .inr rfl⟩)
      | cons j js =>
        obtain ⟨_, _, e3, _⟩ := atP_inv h2
        cases e3
    | 1, h1 =>
      cases h1
      exact up a (Nat.le_add_right ..) (kd_at g.1 h2)
    | 2, h1 =>
      cases h1
      exact up b (Nat.le_add_left ..) (kd_at g.2 h2)
    | n + 3, h1 => cases h1
theorem dp_kd {K : PySem.W.Frag} {H : Hp} {p g c : Addr} {n : Nat} (hs : Pre.St H p g c n) : ∀ {t : Kd} {x : V}, Dp K H x t.dat → Dp K (wo p g H) x t.dat
  | .num i, x, h => by
    cases h with
    | tup q r =>
      cases r with
      | cons h1 r =>
        cases r with
        | cons h2 r =>
          cases r
          cases h1
          cases h2
          exact .tup (sqT_wo q hs) (.cons (.str _) (.cons (.int _) .nil))
  | .to a b, x, h => by
    cases h with
    | tup q r =>
      cases r with
      | cons h1 r =>
        cases r with
        | cons h2 r =>
          cases r with
          | cons h3 r =>
            cases r
            cases h1
            exact .tup (sqT_wo q hs) (.cons (.str _) (.cons (dp_kd hs h2) (.cons (dp_kd hs h3) .nil)))
theorem ok_dat {t : Kd} {m : Nat} (h : t.nums ≤ m) : Ok m t.dat := ⟨can_dat t, Nat.le_trans (dep_dat t) h⟩
theorem str_ok {i : Int} (h1 : 1 ≤ i) (h2 : i ≤ 6) : Ok 0 (.str (toString i)) := by
  refine ⟨?_, Nat.le_refl _⟩
  have z : i = 1 ∨ i = 2 ∨ i = 3 ∨ i = 4 ∨ i = 5 ∨ i = 6 := by omega
  rcases z with rfl | rfl | rfl | rfl | rfl | rfl <;> decide +kernel
theorem log_ok {i : Int} (h1 : 1 ≤ i) (h2 : i ≤ 6) : i.natAbs.log2 < 1920 := by
  have z : i = 1 ∨ i = 2 ∨ i = 3 ∨ i = 4 ∨ i = 5 ∨ i = 6 := by omega
  rcases z with rfl | rfl | rfl | rfl | rfl | rfl <;> decide +kernel
section
variable {P0 : Program} {w : World} {K : PySem.W.Frag} {mg : Str → Option Value} {base : Heap}
def spBent (K : PySem.W.Frag) : Sp := fun vs H Q _ => ∃ (x : V) (p g c : Addr) (n : Nat) (t : Kd), vs = [.ref p, x] ∧ Pre.St H p g c n ∧ n < 2 ^ 38 ∧ Dp K (wo p g H) x t.dat ∧ t.good ∧ t.nums ≤ 14 ∧
  ∀ y H', Pre.Kp p g H H' → Pre.St H' p g c (n + 3) → OkV K (wo p g H') 40 y → Q y H'
theorem scBent : FnScope ["state", "thing", "spots", "path", "part", "some"] ["state", "thing"] (defScope sBent) := ⟨rfl, rfl, rfl, by decide +kernel, rfl, by decide +kernel, by decide +kernel⟩
def bent0 : List PyData := [.none, .tuple [], .int 0, .int 1, .bool true, .str "name", .tuple [.str "num", .int 2], .tuple [.int 1, .int 1], .tuple [.int 0, .int 1], .list []]
theorem bent0_ok : ∀ d ∈ bent0, Ok 1 d := by
  have z : ∀ d ∈ bent0, (d.canLay0 && decide (d.depth ≤ 1)) = true := by decide +kernel
  intro d hd
  have := z d hd
  rw [Bool.and_eq_true] at this
  exact ⟨this.1, of_decide_eq_true this.2⟩
/-- the defs of the law that take things apart -/
structure Bnt (P0 : Program) (w : World) (K : PySem.W.Frag) (mg : Str → Option Value) (fS fA fU : Addr) (dS dA dU : FuncData) : Prop where
  T : TxtW mg
  zs : mg "str" = none
  zr : mg "range" = none
  FS : Fun K "_law_cp_spots" "_law_cp_spots" sSpots fS dS
  mS : mg "_law_cp_spots" = some (.ref fS)
  FA : Fun K "_law_cp_at" "_law_cp_at" sAtL fA dA
  mA : mg "_law_cp_at" = some (.ref fA)
  FU : Fun K "_law_cp_put" "_law_cp_put" sPut fU dU
  mU : mg "_law_cp_put" = some (.ref fU)
theorem ok_bent {f fD fP fB fS fA fU : Addr} {fd dD dP dB dS dA dU : FuncData} (F : Fun K "_law_cp_bent" "_law_cp_bent" sBent f fd) (D : Drw K mg fD fP fB dD dP dB) (W : Bnt P0 w K mg fS fA fU dS dA dU) : FnOk P0 w K mg base CX0 17 f fd ["state", "thing"] (spBent K) := by
  have GP : FnOk P0 w K mg base CX0 3 fP dP ["state", "some"] (Pre.spPick K) := Pre.ok_pick D.FP D.T D.FD D.mD D.FB D.mB
  have bP := D.FP.binds (ps := ["state", "some"]) fun _ _ _ _ _ _ us hl => match us, hl with | [_, _], _ => rfl
  have GS : FnOk P0 w K mg base CX0 16 fS dS ["thing", "path"] (spSpots K 15) := ok_spots W.FS W.mS W.T W.zr 15
  have bS := W.FS.binds (ps := ["thing", "path"]) fun _ _ _ _ _ _ us hl => match us, hl with | [_, _], _ => rfl
  have GA : FnOk P0 w K mg base CX0 1 fA dA ["thing", "path"] (spAtL K) := ok_atL W.FA
  have bA := W.FA.binds (ps := ["thing", "path"]) fun _ _ _ _ _ _ us hl => match us, hl with | [_, _], _ => rfl
  have GU : FnOk P0 w K mg base CX0 16 fU dU ["thing", "path", "part"] (spPut K 15) := ok_put W.FU W.mU 15
  have bU := W.FU.binds (ps := ["thing", "path", "part"]) fun _ _ _ _ _ _ us hl => match us, hl with | [_, _, _], _ => rfl
  refine F.ok scBent (fun vs H Q E h => ?_) (fun cdv A outer s H vs Q E hr h => ?_)
  · obtain ⟨x, p, g, c, n, t, rfl, _⟩ := h
    rfl
  · obtain ⟨x, p, g, c, n, t, rfl, hs, hn, hd, hg, ht, k⟩ := h
    have nd := scBent.nd
    have hr1 : Room 1 _ := hr.mono (by decide)
    have hr3 : Room 3 _ := hr.mono (by decide)
    have T := W.T
    refine ⟨_, pss_cons (ps_set (i := 2) nd rfl (Or.inl rfl) (pe_call GS hr (by rfl) W.mS W.FS.kp bS .nil pass0 (pa_cons (pv 1) (pa_cons (pe_tup pa_nil) pa_nil))))
      (pss_cons (ps_set (i := 3) nd rfl (Or.inl rfl) (pe_call GP hr3 (by rfl) D.mP D.FP.kp bP .nil pass0 (pa_cons (pv 0) (pa_cons (pe_slice sl_list (pv 2) (po_some pe_int) po_none) pa_nil))))
      (pss_cons (ps_set (i := 4) nd rfl (Or.inl rfl) (pe_call GA hr1 (by rfl) W.mA W.FA.kp bA .nil pass0 (pa_cons (pv 1) (pa_cons (pv 3) pa_nil))))
      (pss_cons (ps_set (i := 5) nd rfl (Or.inl rfl) (pe_lst (pre_cons (d := .none) ed_non (pre_cons (d := .tuple []) (ed_tup ad_nil (by decide)) (pre_cons (d := .int 0) ed_int (pre_cons (d := .int 1) ed_int (pre_cons (d := .bool true) ed_bl (pre_cons (d := .str "name") ed_str
          (pre_cons (d := .tuple [.str "num", .int 2]) (ed_tup (ad_cons ed_str (ad_cons ed_int ad_nil)) (by decide)) (pre_cons (d := .tuple [.int 1, .int 1]) (ed_tup (ad_cons ed_int (ad_cons ed_int ad_nil)) (by decide)) (pre_cons (d := .tuple [.int 0, .int 1]) (ed_tup (ad_cons ed_int (ad_cons ed_int ad_nil)) (by decide))
          (pre_cons (d := .list []) (ed_lst ad_nil (by decide)) (pre_nil (pa_cons (pe_call GA hr1 (by rfl) W.mA W.FA.kp bA .nil pass0 (pa_cons (pv 1) (pa_cons (pe_call GP hr3 (by rfl) D.mP D.FP.kp bP .nil pass0 (pa_cons (pv 0) (pa_cons (pv 2) pa_nil))) pa_nil))) pa_nil))))))))))))))
      (pss_cons (ps_if (pt_val (pe_callB call_isi (by rfl) T.isi (by decide +kernel) (pa_cons (pv 4) (pa_cons (pe_bltn (v := .ty "int") (by rfl) T.int (by decide +kernel) rfl) pa_nil))))
          (pss_one (ps_set (i := 5) nd rfl (Or.inl rfl) (pe_lst (pa_cons (pe_op op_add (pv 4) pe_int) (pa_cons (pe_op op_sub (pv 4) pe_int) (pa_cons (pe_callTy call_str_int (by rfl) W.zs (by decide +kernel) (pa_cons (pv 4) pa_nil)) (pa_cons pe_non (pa_cons (pe_op op_sub pe_int (pv 4)) (pa_cons pe_bl pa_nil)))))))))
          (pss_one (ps_if (PW.pt (pw_and (pt_val (pe_callB call_isi (by rfl) T.isi (by decide +kernel) (pa_cons (pv 4) (pa_cons (pe_bltn (v := .ty "tuple") (by rfl) T.tuple (by decide +kernel) rfl) pa_nil)))) (pw_and1 (pt_cmpR (op_neD hr.units) (pv 4) (pe_tup pa_nil) (nomark _)))))
            (pss_one (ps_set (i := 5) nd rfl (Or.inl rfl) (pe_op op_cat (pv 5) (pe_op op_rep (pe_lst (pa_cons (pe_slice sl_tupA (pv 4) (po_some pe_int) po_none) (pa_cons (pe_slice sl_tupA (pv 4) po_none (po_some (pe_un un_neg pe_int))) (pa_cons (Tr.pe_back (pv 4))
              (pa_cons (pe_op op_catA (pv 4) (pe_slice sl_tupA (pv 4) (po_some (pe_un un_neg pe_int)) po_none)) (pa_cons (pe_callTy call_list_of (by rfl) T.list (by decide +kernel) (pa_cons (pv 4) pa_nil)) (pa_cons (pe_op op_catA (pv 4) (pe_tup (pa_cons pe_non pa_nil))) pa_nil))))))) pe_int)))) pss_nil)))
      (pss_one (ps_ret (pe_call GU hr (by rfl) W.mU W.FU.kp bU .nil pass0 (pa_cons (pv 1) (pa_cons (pv 3) (pa_cons (pe_call GP hr3 (by rfl) D.mP D.FP.kp bP .nil pass0 (pa_cons (pv 0) (pa_cons (pv 5) pa_nil))) pa_nil)))))))))), ?_⟩
    have hdepth := dep_dat t
    have hsz := sz_dat t
    obtain ⟨up_, hp_⟩ := st_p hs
    obtain ⟨ug_, hg_⟩ := st_g hs
    refine ⟨_, rfl, by show 0 ≤ sizeLine; decide, fun t0 ht0 => ?_⟩
    have s1 := Pre.same_upd (o := .tup []) ht0
    refine ⟨x, t0, t.dat, t.dat, [], rfl, dp_same (wo_sub.trans s1) hd, SqT.of upd_same, by decide, rfl, by omega, by omega, by omega, fun ls sv H1 s2 hls0 hls hsl hsP => ?_⟩
    have s12 := s1.trans s2
    have nls := st_new (st_same hs s1) hls0
    -- the path
    refine ⟨_, rfl, _, rfl, 1, rfl, ls, sv, rfl, SqL.of hls, fun l2 hl2 => ?_⟩
    have s3 := Pre.same_upd (o := .lst (cutV sv (some 1) none)) hl2
    have st2 := st_same hs (s12.trans s3)
    have nl2 := st_new (st_same hs s12) hl2
    have hcut : (cutV sv (some 1) none).length + 1 = sv.length := by
      cases sv with
      | nil =>
        have : (0 : Nat) = sz t.dat := hsl
        have := sz_pos t.dat
        omega
      | cons y ys => rw [cut_one]; rfl
    have hn1 := nums_pos t
    refine ⟨p, g, c, n, l2, _, rfl, st2, by omega, upd_same, nl2.2, by omega, by omega, fun H3 i y kp3 st3 hi hy => ?_⟩
    obtain ⟨q, ks, e, rfl, hq0, hat⟩ := hsP y (cut_mem (List.mem_of_getElem? hy))
    have hqG := sqT_same (wo_kp kp3) (sqT_wo (sqT_same s3 hq0) st2)
    have kpa : Pre.Kp p g H H3 := (Pre.Kp.of (s12.trans s3)).trans kp3
    have hdG := dp_same (wo_kp kpa) hd
    have hls3 := kp3 ls _ nls.1 nls.2 (s3 _ _ hls)
    have hsP3 : ∀ v ∈ sv, Pth K (wo p g H3) t.dat v := fun v hv => by
      obtain ⟨q', ks', e', h1, h2, h3⟩ := hsP v hv
      exact ⟨q', ks', e', h1, sqT_same (wo_kp kp3) (sqT_wo (sqT_same s3 h2) st2), h3⟩
    have hdl := atP_dep hat
    -- the part
    refine ⟨_, rfl, _, rfl, x, q, t.dat, e, ks, rfl, dp_same wo_sub hdG, sqT_same wo_sub hqG, hat, fun y hye => ?_⟩
    -- the ones that may stand there
    obtain ⟨up3, hp3⟩ := st_p st3
    obtain ⟨ug3, hg3⟩ := st_g st3
    intro vs0 Ha sa da
    have sta := st_same st3 sa
    refine ⟨_, rfl, _, rfl, _, rfl, p, g, c, n + 1, ls, sv, rfl, sta, by omega, sa _ _ hls3, nls.2, by omega, by omega, fun Hb ib yb kpb stb hib hyb => ?_⟩
    obtain ⟨q', ks', e', rfl, hq', hat'⟩ := hsP3 yb (List.mem_of_getElem? hyb)
    have kab : Pre.Kp p g H3 Hb := (Pre.Kp.of sa).trans kpb
    have hdb := dp_same (wo_kp kab) hdG
    refine ⟨x, q', t.dat, e', ks', rfl, dp_same wo_sub hdb, sqT_same (wo_sub) (sqT_same (wo_kp kab) hq'), hat', fun z hz => ?_⟩
    have okp : ∀ {v : V} {u : PyData} {H0 : Hp} {m0 : Nat} {us : List Nat}, Pre.St H0 p g c m0 → Dp K H0 v u → atP us t.dat = some u → OkV K (wo p g H0) 14 v := by
      intro v u H0 m0 us hs0 hv hu
      rcases kd_at hg hu with ⟨j, rfl, _, _⟩ | ⟨s0, rfl, hs0'⟩ | ⟨u', rfl, g', n'⟩
      · cases hv
        exact ⟨_, .int _, rfl, Nat.zero_le _⟩
      · cases hv
        refine ⟨_, .str _, ?_, Nat.zero_le _⟩
        rcases hs0' with rfl | rfl <;> decide +kernel
      · exact ⟨_, dp_kd hs0 hv, ok_dat (by omega)⟩
    have okz := okp stb hz hat'
    have lv0 := dpAll_len da
    have lv0' : vs0.length = 10 := lv0
    refine ⟨by rw [List.length_append, lv0']; show 10 + 1 ≤ sizeLine; decide, fun l hl => ?_⟩
    have sl := Pre.same_upd (o := .lst (vs0 ++ [z])) hl
    have nl := st_new stb hl
    have kpl : Pre.Kp p g H3 (upd Hb l (.lst (vs0 ++ [z]))) := kab.trans (Pre.Kp.of sl)
    refine go_name (go_nx (go_cut (fun σ' H' => ∃ (l : Addr) (vs : List V), σ' = [some (.ref p), some x, some (.ref ls), some (.ref q), some y, some (.ref l)] ∧ Pre.Kp p g H3 H' ∧ Pre.St H' p g c (n + 2) ∧ H' l = some (.lst vs) ∧ l ≠ g ∧ 0 < vs.length ∧ vs.length ≤ 1000 ∧ ∀ v ∈ vs, OkV K (wo p g H') 20 v) ?_ (fun nx' hn' => ?_)))
    · rintro σ' H' ⟨l, vs, rfl, kp4, st4, hl4, hlg, hv0, hv1, hvk⟩
      refine ⟨_, rfl, _, rfl, _, rfl, _, rfl, p, g, c, n + 2, l, vs, rfl, st4, by omega, hl4, hlg, hv0, hv1, fun H5 i5 y5 kp5 st5 hi5 hy5 => ?_⟩
      have ok5 := okv_same (wo_kp kp5) (hvk y5 (List.mem_of_getElem? hy5))
      have k35 := kp4.trans kp5
      refine ⟨x, q, y5, p, g, c, n + 3, t.dat, e, ks, 20, rfl, st5, dp_same (wo_kp k35) hdG, ok_dat (by omega), by omega, sqT_same wo_sub (sqT_same (wo_kp k35) hqG), hat, by omega, ok5, fun v H6 s6 hv6 => ?_⟩
      exact k v H6 (kpa.trans (k35.trans (Pre.Kp.of s6))) (st_same st5 s6) (okv_mono hv6 (by omega))
    · have stl := st_same stb sl
      have all0 : ∀ v ∈ vs0 ++ [z], OkV K (wo p g (upd Hb l (.lst (vs0 ++ [z])))) 20 v := fun v hv => by
        rcases List.mem_append.mp hv with hv | hv
        · have o := dp_okv da bent0_ok v hv
          exact okv_mono (okv_same ((nw_wo hp3 hg3).trans (wo_kp (kpb.trans (Pre.Kp.of sl)))) o) (by decide)
        · rw [List.mem_singleton.mp hv]
          exact okv_mono (okv_same (wo_mono sl) okz) (by decide)
      have hll : (upd Hb l (.lst (vs0 ++ [z]))) l = some (.lst (vs0 ++ [z])) := upd_same
      have hyl : Dp K (upd Hb l (.lst (vs0 ++ [z]))) y e := by
        rcases kd_at hg hat with ⟨j, rfl, _, _⟩ | ⟨s0, rfl, _⟩ | ⟨u', rfl, _, _⟩
        · cases hye
          exact .int _
        · cases hye
          exact .str _
        · exact dp_same (wo_sub.trans sl) (dp_same (wo_kp kab) (dp_kd st3 hye))
      have lenz : (vs0 ++ [z]).length = 11 := by rw [List.length_append, lv0']; rfl
      generalize upd Hb l (.lst (vs0 ++ [z])) = H4 at sl kpl stl all0 hll hyl
      have leave : nx' [some (.ref p), some x, some (.ref ls), some (.ref q), some y, some (.ref l)] H4 := hn' _ _ ⟨l, _, rfl, kpl, stl, hll, nl.2, by omega, by omega, all0⟩
      have ty := ty_of hyl
      rcases kd_at hg hat with ⟨j, rfl, j1, j2⟩ | ⟨s0, rfl, _⟩ | ⟨u, rfl, gu, nu⟩
      · cases hyl
        refine ⟨_, rfl, _, _, _, _, true, rfl, .ty _, ty, kit_ty (a := "int") (b := "int") (by decide +kernel), _, rfl, iteT ?_⟩
        refine ⟨_, rfl, _, _, rfl, rfl, _, rfl, _, _, rfl, rfl, _, rfl, j, rfl, log_ok j1 j2, _, rfl, _, _, rfl, rfl, by show 6 ≤ sizeLine; decide, fun l5 hl5 => ?_⟩
        have s5 := Pre.same_upd (o := .lst [.int (j + 1), .int (j - 1), .str (toString j), .non, .int (0 - j), .bl true]) hl5
        have nl5 := st_new stl hl5
        refine hn' _ _ ⟨l5, _, rfl, kpl.trans (Pre.Kp.of s5), st_same stl s5, upd_same, nl5.2, by show 0 < 6; decide, by show 6 ≤ 1000; decide, ?_⟩
        intro v hv
        have z0 : ∀ i : Int, Ok 20 (.int i) := fun i => ⟨rfl, Nat.zero_le _⟩
        simp only [List.mem_cons, List.not_mem_nil, or_false] at hv
        rcases hv with rfl | rfl | rfl | rfl | rfl | rfl
        · exact ⟨_, .int _, z0 _⟩
        · exact ⟨_, .int _, z0 _⟩
        · exact ⟨_, .str _, ok_mono (str_ok j1 j2) (by decide)⟩
        · exact ⟨_, .non, rfl, Nat.zero_le _⟩
        · exact ⟨_, .int _, z0 _⟩
        · exact ⟨_, .bl _, rfl, Nat.zero_le _⟩
      · cases hyl
        refine ⟨_, rfl, _, _, _, _, false, rfl, .ty _, ty, kit_ty (a := "str") (b := "int") (by decide +kernel), _, rfl, iteF ?_⟩
        exact ⟨_, rfl, _, _, _, _, false, rfl, .ty _, ty, kit_ty (a := "str") (b := "tuple") (by decide +kernel), _, rfl, iteF (iteF leave)⟩
      · obtain ⟨a, xs, x0, x1, xr, d0, d1, dr, rfl, hds, hxG, hDG, exs⟩ : ∃ (a : Addr) (xs : List V) (x0 x1 : V) (xr : List V) (d0 d1 : PyData) (dr : List PyData), y = .ref a ∧ u.dat = .tuple (d0 :: d1 :: dr) ∧ SqT K (wo p g H4) a xs ∧ DpAll K (wo p g H4) xs (d0 :: d1 :: dr) ∧ xs = x0 :: x1 :: xr := by
          have h0 := dp_kd stl hyl
          cases u with
          | num i =>
            cases h0 with
            | tup q1 r1 =>
              cases r1 with
              | cons w1 r1 => cases r1 with
                | cons w2 r1 => exact ⟨_, _, _, _, _, _, _, _, rfl, rfl, q1, .cons w1 (.cons w2 r1), rfl⟩
          | to b1 b2 =>
            cases h0 with
            | tup q1 r1 =>
              cases r1 with
              | cons w1 r1 => cases r1 with
                | cons w2 r1 => exact ⟨_, _, _, _, _, _, _, _, rfl, rfl, q1, .cons w1 (.cons w2 r1), rfl⟩
        have oku : Ok 14 u.dat := ok_dat (by omega)
        have hlen := dpAll_len hDG
        have hszu := sz_dat u
        rw [hds] at ty oku hszu
        have hszs : 1 + szAll (d0 :: d1 :: dr) + 2 = 5 * u.nums := hszu
        have hll2 := szAll_len (d0 :: d1 :: dr)
        have okall := dp_okv hDG fun d hd => ok_memT oku hd
        refine ⟨_, rfl, _, _, _, _, false, rfl, .ty _, ty, kit_ty (a := "tuple") (b := "int") (by decide +kernel), _, rfl, iteF ?_⟩
        refine ⟨_, rfl, _, _, _, _, true, rfl, .ty _, ty, kit_ty (a := "tuple") (b := "tuple") (by decide +kernel), _, rfl, iteT ?_⟩
        refine ⟨_, rfl, by show 0 ≤ sizeLine; decide, fun te hte => ?_⟩
        have se := Pre.same_upd (o := .tup []) hte
        refine ⟨.tuple (d0 :: d1 :: dr), .tuple [], .tup (sqT_same (wo_sub.trans se) hxG) (dpAll_same (wo_sub.trans se) hDG), .tup (SqT.of upd_same) .nil, ok_sh oku (by decide), by decide +kernel, _, rfl, iteT ?_⟩
        generalize upd H4 te (.tup []) = H5 at se
        have ste := st_same stl se
        have hx5 := sqT_same (wo_sub.trans se) hxG
        have hxl : xs.length ≤ 70 := by omega
        have hx2 : 2 ≤ xs.length := by rw [exs]; simp only [List.length_cons]; omega
        refine ⟨_, rfl, _, rfl, _, rfl, go_noP (slA_any hx5 fun r1 Hc sc1 hr1 => ?_)⟩
        refine ⟨_, rfl, _, rfl, _, rfl, slA_any (sqT_same sc1 hx5) fun r2 Hd sc2 hr2 => ?_⟩
        have sd := sc1.trans sc2
        refine ⟨_, rfl, a, xs, rfl, sqT_same sd hx5, fun r3 hr3n => ?_⟩
        have sc3 := Pre.same_upd (o := .tup xs.reverse) hr3n
        have hr3 : SqT K (upd Hd r3 (.tup xs.reverse)) r3 xs.reverse := SqT.of upd_same
        generalize upd Hd r3 (.tup xs.reverse) = He at sc3 hr3
        have se2 := sd.trans sc3
        refine ⟨_, rfl, _, rfl, _, rfl, _, rfl, go_noP (slA_any (sqT_same se2 hx5) fun r4 Hf sc4 hr4 => ?_)⟩
        have hc4 := cutV_length xs (some (-1)) none
        refine catA_any (sqT_same (se2.trans sc4) hx5) hr4 (by omega) fun r5 Hg sc5 hr5 => ?_
        have sg := se2.trans (sc4.trans sc5)
        refine ⟨_, rfl, a, xs, rfl, .inr (sqT_same sg hx5), fun r6 hr6n => ?_⟩
        have sc6 := Pre.same_upd (o := .lst xs) hr6n
        have st6 := st_same ste (sg.trans sc6)
        have hr6 : (wo p g (upd Hg r6 (.lst xs))) r6 = some (.lst xs) := wo_new (st_same ste sg) hr6n
        generalize upd Hg r6 (.lst xs) = Hh at sc6 st6 hr6
        have sh6 := sg.trans sc6
        refine ⟨_, rfl, by show 1 ≤ sizeLine; decide, fun r7 hr7n => ?_⟩
        have sc7 := Pre.same_upd (o := .tup [.non]) hr7n
        have hr7 : SqT K (upd Hh r7 (.tup [.non])) r7 [.non] := SqT.of upd_same
        generalize upd Hh r7 (.tup [.non]) = Hi at sc7 hr7
        have si := sh6.trans sc7
        refine catA_any (sqT_same si hx5) hr7 (by simp only [List.length_singleton]; omega) fun r8 Hj sc8 hr8 => ?_
        have sj := si.trans sc8
        refine ⟨by show 6 ≤ sizeLine; decide, fun r9 hr9n => ?_⟩
        have sc9 := Pre.same_upd (o := .lst [.ref r1, .ref r2, .ref r3, .ref r5, .ref r6, .ref r8]) hr9n
        have hr9 : upd Hj r9 (.lst [.ref r1, .ref r2, .ref r3, .ref r5, .ref r6, .ref r8]) r9 = some (.lst [.ref r1, .ref r2, .ref r3, .ref r5, .ref r6, .ref r8]) := upd_same
        generalize upd Hj r9 (.lst [.ref r1, .ref r2, .ref r3, .ref r5, .ref r6, .ref r8]) = Hk at sc9 hr9
        have sk := sj.trans sc9
        refine ⟨r9, 2, _, rfl, rfl, hr9, by decide, by decide, by show 6 * 2 ≤ sizeLine; decide, fun r10 hr10n => ?_⟩
        have sc10 := Pre.same_upd (o := .lst (List.replicate (2 : Int).toNat [V.ref r1, .ref r2, .ref r3, .ref r5, .ref r6, .ref r8]).flatten) hr10n
        have hr10 : upd Hk r10 (.lst (List.replicate (2 : Int).toNat [V.ref r1, .ref r2, .ref r3, .ref r5, .ref r6, .ref r8]).flatten) r10 = some (.lst (List.replicate (2 : Int).toNat [V.ref r1, .ref r2, .ref r3, .ref r5, .ref r6, .ref r8]).flatten) := upd_same
        generalize upd Hk r10 (.lst (List.replicate (2 : Int).toNat [V.ref r1, .ref r2, .ref r3, .ref r5, .ref r6, .ref r8]).flatten) = Hl at sc10 hr10
        have slast := sk.trans sc10
        refine ⟨l, r10, _, _, rfl, rfl, (se.trans slast) _ _ hll, hr10, by rw [lenz]; show 11 + 12 ≤ sizeLine; decide, fun r11 hr11n => ?_⟩
        have sc11 := Pre.same_upd (o := .lst (vs0 ++ [z] ++ (List.replicate (2 : Int).toNat [V.ref r1, .ref r2, .ref r3, .ref r5, .ref r6, .ref r8]).flatten)) hr11n
        have nl11 := st_new (st_same ste slast) hr11n
        have sall := se.trans (slast.trans sc11)
        have stall := st_same stl sall
        have okx : ∀ v ∈ xs, OkV K (wo p g (upd Hl r11 (.lst (vs0 ++ [z] ++ (List.replicate (2 : Int).toNat [V.ref r1, .ref r2, .ref r3, .ref r5, .ref r6, .ref r8]).flatten)))) 13 v := fun v hv => okv_same (wo_mono sall) (okall v hv)
        refine hn' _ _ ⟨r11, _, rfl, kpl.trans (Pre.Kp.of sall), stall, upd_same, nl11.2, by rw [List.length_append, lenz]; omega, by rw [List.length_append, lenz]; show 11 + 12 ≤ 1000; decide, ?_⟩
        have sL11 := sc11
        generalize upd Hl r11 (.lst (vs0 ++ [z] ++ (List.replicate (2 : Int).toNat [V.ref r1, .ref r2, .ref r3, .ref r5, .ref r6, .ref r8]).flatten)) = Hm at sL11 sall stall okx
        have s6m := sc7.trans (sc8.trans (sc9.trans (sc10.trans sL11)))
        have tupk : ∀ {r : Addr} {ys : List V} {H0 : Hp}, Same H0 Hm → SqT K H0 r ys → (∀ v ∈ ys, OkV K (wo p g Hm) 13 v) → OkV K (wo p g Hm) 20 (.ref r) := fun s0 h0 h1 => okv_mono (okv_tup (sqT_wo (sqT_same s0 h0) stall) h1) (by decide)
        intro v hv
        rcases List.mem_append.mp hv with hv | hv
        · exact okv_same (wo_mono sall) (all0 v hv)
        · have hv' : v ∈ [V.ref r1, .ref r2, .ref r3, .ref r5, .ref r6, .ref r8] ++ ([V.ref r1, .ref r2, .ref r3, .ref r5, .ref r6, .ref r8] ++ []) := hv
          rw [List.append_nil] at hv'
          have hv2 : v ∈ [V.ref r1, .ref r2, .ref r3, .ref r5, .ref r6, .ref r8] := by
            rcases List.mem_append.mp hv' with q1 | q1 <;> exact q1
          simp only [List.mem_cons, List.not_mem_nil, or_false] at hv2
          rcases hv2 with rfl | rfl | rfl | rfl | rfl | rfl
          · exact tupk (sc2.trans (sc3.trans (sc4.trans (sc5.trans (sc6.trans s6m))))) hr1 fun v hv => okx v (cut_mem hv)
          · exact tupk (sc3.trans (sc4.trans (sc5.trans (sc6.trans s6m)))) hr2 fun v hv => okx v (cut_mem hv)
          · exact tupk (sc4.trans (sc5.trans (sc6.trans s6m))) hr3 fun v hv => okx v (List.mem_reverse.mp hv)
          · refine tupk (sc6.trans s6m) hr5 fun v hv => ?_
            rcases List.mem_append.mp hv with q1 | q1
            · exact okx v q1
            · exact okx v (cut_mem q1)
          · exact okv_mono (okv_lst (SqL.of (wo_mono s6m _ _ hr6)) okx) (by decide)
          · refine tupk (sc9.trans (sc10.trans sL11)) hr8 fun v hv => ?_
            rcases List.mem_append.mp hv with q1 | q1
            · exact okx v q1
            · rw [List.mem_singleton.mp q1]
              exact ⟨.none, .non, rfl, Nat.zero_le _⟩
end
end Kn

namespace Kn
open PySem PySem.Spec PyProof.Rows L2
open Wt Dc
def gr : Nat → Kd
  | 0 => .num 1
  | i + 1 => .to (.num 1) (gr i)
theorem gr_good : ∀ i, (gr i).good
  | 0 => ⟨by decide, by decide⟩
  | i + 1 => ⟨⟨by decide, by decide⟩, gr_good i⟩
theorem gr_nums : ∀ i, (gr i).nums = i + 1
  | 0 => rfl
  | i + 1 => by
    show 1 + (gr i).nums = i + 1 + 1
    rw [gr_nums i]
    omega
def badk0 : List PyData := [.none, .int 5, .str "num", .tuple [], .tuple [.str "num"], .tuple [.str "num", .int 0], .tuple [.str "num", .int 7], .tuple [.str "num", .bool true], .list [.str "num", .int 2], .tuple [.str "to", .tuple [.str "num", .int 2]]]
def badk1 : List PyData := [.tuple [.str "to", .tuple [.str "num", .int 2], .none], .tuple [.str "from", .tuple [.str "num", .int 2], .tuple [.str "num", .int 2]], .tuple [.str "num", .int 2, .int 2]]
def noK (d : PyData) : Prop := isK d = false ∧ Ok 30 d
theorem noK_by {ds : List PyData} (z : ∀ d ∈ ds, (!isK d && (d.canLay0 && decide (d.depth ≤ 30))) = true) : ∀ d ∈ ds, noK d := fun d hd => by
  have h := z d hd
  rw [Bool.and_eq_true, Bool.and_eq_true] at h
  exact ⟨(Bool.not_eq_true' _).mp h.1, h.2.1, of_decide_eq_true h.2.2⟩
theorem badk0_no : ∀ d ∈ badk0, noK d := noK_by (by decide +kernel)
theorem badk1_no : ∀ d ∈ badk1, noK d := noK_by (by decide +kernel)
theorem great_no : noK (gr 12).dat := by
  refine ⟨?_, ok_dat (by rw [gr_nums]; decide)⟩
  rw [isK_dat (gr_good 12), gr_nums]
  rfl
def NoV (K : PySem.W.Frag) (H : Hp) (v : V) : Prop := ∃ d, Dp K H v d ∧ noK d
theorem nov_same {K : PySem.W.Frag} {H H' : Hp} {v : V} (s : Same H H') (h : NoV K H v) : NoV K H' v := by
  obtain ⟨d, h1, h2⟩ := h
  exact ⟨d, dp_same s h1, h2⟩
theorem nov_all {K : PySem.W.Frag} {H : Hp} : ∀ {xs : List V} {ds : List PyData}, DpAll K H xs ds → (∀ d ∈ ds, noK d) → ∀ x ∈ xs, NoV K H x
  | _, _, .nil, _, x, hx => by cases hx
  | _, _, .cons (d := d) h r, k, x, hx => by
    rcases List.mem_cons.mp hx with z | z
    · rw [z]
      exact ⟨d, h, k d (List.mem_cons_self ..)⟩
    · exact nov_all r (fun e he => k e (List.mem_cons_of_mem _ he)) x z
section
variable {P0 : Program} {w : World} {K : PySem.W.Frag} {mg : Str → Option Value} {base : Heap}
def spBadK (K : PySem.W.Frag) : Sp := fun vs H Q _ => ∃ (p g c : Addr) (n : Nat), vs = [.ref p] ∧ Pre.St H p g c n ∧ n < 2 ^ 39 ∧ ∀ (H' : Hp) (y : V), Pre.Kp p g H H' → Pre.St H' p g c (n + 1) → NoV K (wo p g H') y → Q y H'
theorem scBadK : FnScope ["state", "some", "great", "lap"] ["state"] (defScope sBadK) := ⟨rfl, rfl, rfl, by decide +kernel, rfl, by decide +kernel, by decide +kernel⟩
theorem ok_badK {f fD fP fB : Addr} {fd dD dP dB : FuncData} (F : Fun K "_law_cp_bad_kind" "_law_cp_bad_kind" sBadK f fd) (D : Drw K mg fD fP fB dD dP dB) : FnOk P0 w K mg base CX0 4 f fd ["state"] (spBadK K) := by
  have GP : FnOk P0 w K mg base CX0 3 fP dP ["state", "some"] (Pre.spPick K) := Pre.ok_pick D.FP D.T D.FD D.mD D.FB D.mB
  have bP := D.FP.binds (ps := ["state", "some"]) fun _ _ _ _ _ _ us hl => match us, hl with | [_, _], _ => rfl
  refine F.ok scBadK (fun vs H Q E h => ?_) (fun cdv A outer s H vs Q E hr h => ?_)
  · obtain ⟨p, g, c, n, rfl, _⟩ := h
    rfl
  · obtain ⟨p, g, c, n, rfl, hs, hn, k⟩ := h
    have nd := scBadK.nd
    refine ⟨_, pss_cons (ps_set (i := 1) nd rfl (Or.inl rfl) (pe_lstD (ds := badk0) (ad_cons ed_non (ad_cons ed_int (ad_cons ed_str (ad_cons (ed_tup ad_nil (by decide)) (ad_cons (ed_tup (ad_cons ed_str ad_nil) (by decide)) (ad_cons (ed_tup (ad_cons ed_str (ad_cons ed_int ad_nil)) (by decide))
        (ad_cons (ed_tup (ad_cons ed_str (ad_cons ed_int ad_nil)) (by decide)) (ad_cons (ed_tup (ad_cons ed_str (ad_cons ed_bl ad_nil)) (by decide)) (ad_cons (ed_lst (ad_cons ed_str (ad_cons ed_int ad_nil)) (by decide)) (ad_cons (ed_tup (ad_cons ed_str (ad_cons (ed_tup (ad_cons ed_str (ad_cons ed_int ad_nil)) (by decide)) ad_nil)) (by decide)) ad_nil)))))))))) (by decide)))
      (pss_cons (ps_set (i := 2) nd rfl (Or.inl rfl) (pe_tup (pa_cons pe_str (pa_cons pe_int pa_nil))))
      (pss_cons (ps_for PassesOwn.never rfl (pi_range1 (by rfl) D.zg (pa_cons pe_int pa_nil)) (pg_name (i := 3) nd rfl (Or.inl rfl)) (pss_one (ps_set (i := 2) nd rfl (Or.inl rfl) (pe_tup (pa_cons pe_str (pa_cons (pe_tup (pa_cons pe_str (pa_cons pe_int pa_nil))) (pa_cons (pv 2) pa_nil)))))))
      (pss_one (ps_ret (pe_call GP hr (by rfl) D.mP D.FP.kp bP .nil pass0 (pa_cons (pv 0) (pa_cons (pe_op op_cat (pv 1) (pe_lst (pa_cons (pv 2) (show AD _ _ badk1 from
        ad_cons (ed_tup (ad_cons ed_str (ad_cons (ed_tup (ad_cons ed_str (ad_cons ed_int ad_nil)) (by decide)) (ad_cons ed_non ad_nil))) (by decide)) (ad_cons (ed_tup (ad_cons ed_str (ad_cons (ed_tup (ad_cons ed_str (ad_cons ed_int ad_nil)) (by decide)) (ad_cons (ed_tup (ad_cons ed_str (ad_cons ed_int ad_nil)) (by decide)) ad_nil))) (by decide))
          (ad_cons (ed_tup (ad_cons ed_str (ad_cons ed_int (ad_cons ed_int ad_nil))) (by decide)) ad_nil)))))) pa_nil))))))), ?_⟩
    obtain ⟨up0, hp0⟩ := st_p hs
    obtain ⟨ug0, hg0⟩ := st_g hs
    intro l vs0 H1 s1 hl hl1 hd0
    have st1 := st_same hs s1
    have hv0 : vs0.length = 10 := dpAll_len hd0
    refine ⟨by show 2 ≤ sizeLine; decide, fun r hr0 => ?_⟩
    have s2 := Pre.same_upd (o := .tup [.str "num", .int 1]) hr0
    refine ⟨12, rfl, by decide, by decide, for_range (n := 12) (fun i σ H' => ∃ (r : Addr) (lp : Option V), σ = [some (.ref p), some (.ref l), some (.ref r), lp] ∧ Same H1 H' ∧ Dp K H' (.ref r) (gr i).dat)
      ⟨r, none, rfl, s2, .tup (SqT.of upd_same) (.cons (.str _) (.cons (.int _) .nil))⟩ ?_ ?_⟩
    · rintro i σ H2 hi ⟨r2, lp, rfl, s3, hd3⟩
      refine ⟨by show 2 ≤ sizeLine; decide, fun r3 hr3 => ?_⟩
      have s4 := Pre.same_upd (o := .tup [.str "num", .int 1]) hr3
      refine ⟨_, rfl, by show 3 ≤ sizeLine; decide, fun r4 hr4 => ?_⟩
      have s5 := Pre.same_upd (o := .tup [.str "to", .ref r3, .ref r2]) hr4
      exact ⟨r4, _, rfl, s3.trans (s4.trans s5), .tup (SqT.of upd_same) (.cons (.str _) (.cons (dp_same s5 (.tup (SqT.of upd_same) (.cons (.str _) (.cons (.int _) .nil)))) (.cons (dp_same (s4.trans s5) hd3) .nil)))⟩
    · rintro σ H2 ⟨r2, lp, rfl, s3, hd3⟩
      have st2 := st_same st1 s3
      obtain ⟨up2, hp2⟩ := st_p st2
      obtain ⟨ug2, hg2⟩ := st_g st2
      refine ⟨_, rfl, _, rfl, _, rfl, ?_⟩
      intro vs1 H3 s4 hd4
      have hv1 : vs1.length = 3 := dpAll_len hd4
      refine ⟨by show (V.ref r2 :: vs1).length ≤ sizeLine; rw [List.length_cons, hv1]; decide, fun l2 hl2 => ?_⟩
      have s5 := Pre.same_upd (o := .lst (V.ref r2 :: vs1)) hl2
      have hl1' := (s3.trans (s4.trans s5)) _ _ hl1
      refine ⟨l, l2, vs0, V.ref r2 :: vs1, rfl, rfl, hl1', upd_same, by rw [List.length_cons, hv0, hv1]; decide, fun l3 hl3 => ?_⟩
      have s6 := Pre.same_upd (o := .lst (vs0 ++ V.ref r2 :: vs1)) hl3
      have s26 := s4.trans (s5.trans s6)
      have s16 := s3.trans s26
      have st3 := st_same st1 s16
      have nl3 := st_new (st_same st1 (s3.trans (s4.trans s5))) hl3
      have all : ∀ v ∈ vs0 ++ V.ref r2 :: vs1, NoV K (wo p g (upd (upd H3 l2 (.lst (V.ref r2 :: vs1))) l3 (.lst (vs0 ++ V.ref r2 :: vs1)))) v := fun v hv => by
        rcases List.mem_append.mp hv with hv | hv
        · exact nov_same ((nw_wo hp0 hg0).trans (wo_mono s16)) (nov_all hd0 badk0_no v hv)
        · rcases List.mem_cons.mp hv with hv | hv
          · rw [hv]
            exact nov_same (wo_mono s26) ⟨_, dp_kd st2 hd3, great_no⟩
          · exact nov_same ((nw_wo hp2 hg2).trans (wo_mono (s5.trans s6))) (nov_all hd4 badk1_no v hv)
      have lz : (vs0 ++ V.ref r2 :: vs1).length = 14 := by rw [List.length_append, List.length_cons, hv0, hv1]
      refine ⟨p, g, c, n, l3, _, rfl, st3, by omega, upd_same, nl3.2, by omega, by omega, fun H5 i y kp st5 hi hy => ?_⟩
      exact k H5 y ((Pre.Kp.of (s1.trans s16)).trans kp) st5 (nov_same (wo_kp kp) (all y (List.mem_of_getElem? hy)))
end
end Kn

namespace Wt
open PySem PySem.Spec PyProof.Rows L2
open Dc
abbrev sTruth : Stmt := Pre.top 29
abbrev sSame : Stmt := Pre.top 30
section
variable {P0 : Program} {w : World} {K : PySem.W.Frag} {mg : Str → Option Value} {base : Heap}
def spTruth : Sp := fun vs H Q _ => ∃ a b : Bool, vs = [.bl a, .bl b] ∧ Q (.bl (decide (a = b))) H
theorem scTruth : FnScope ["found", "due"] ["found", "due"] (defScope sTruth) := ⟨rfl, rfl, rfl, by decide +kernel, rfl, by decide +kernel, by decide +kernel⟩
theorem ok_truth {f : Addr} {fd : FuncData} (F : Fun K "_law_is_truth" "_law_is_truth" sTruth f fd) : FnOk P0 w K mg base CX0 1 f fd ["found", "due"] spTruth := by
  refine F.ok scTruth (fun vs H Q E h => ?_) (fun cdv A outer s H vs Q E hr h => ?_)
  · obtain ⟨a, b, rfl, _⟩ := h
    rfl
  · obtain ⟨a, b, rfl, k⟩ := h
    refine ⟨_, pss_one (ps_ret (pe_ifExp (pt_val (pv 1)) (pe_cmpR op_isBl (pv 0) pe_bl (nomark _)) (pe_cmpR op_isBl (pv 0) pe_bl (nomark _)))), ?_⟩
    refine ⟨_, rfl, b, rfl, ?_⟩
    cases b with
    | true => exact ⟨_, rfl, a, true, rfl, rfl, k⟩
    | false => exact ⟨_, rfl, a, false, rfl, rfl, k⟩
/-- both stand for the same data: their texts are equal -/
def spSame (K : PySem.W.Frag) : Sp := fun vs H Q _ => ∃ (a b : Addr) (d : PyData), vs = [.ref a, .ref b] ∧ Dp K H (.ref a) d ∧ Dp K H (.ref b) d ∧ d.showable = true ∧ d.hasDict = false ∧ d.depth < 32 ∧ d.shown.length ≤ sizeLine ∧ Q (.bl true) H
theorem scSame : FnScope ["found", "due"] ["found", "due"] (defScope sSame) := ⟨rfl, rfl, rfl, by decide +kernel, rfl, by decide +kernel, by decide +kernel⟩
theorem ok_same {f : Addr} {fd : FuncData} (F : Fun K "_law_cp_same" "_law_cp_same" sSame f fd) (zr : mg "repr" = none) : Gd.FnG P0 w K mg base CX0 1 f fd ["found", "due"] (spSame K) := by
  refine Gd.fun_okG F scSame (fun vs H Q E h => ?_) (fun cdv A outer s H vs Q E hr hG h => ?_)
  · obtain ⟨a, b, d, rfl, _⟩ := h
    rfl
  · obtain ⟨a, b, d, rfl, h1, h2, c1, c2, c3, c4, k⟩ := h
    refine ⟨_, pss_one (ps_ret (pe_cmpR op_eq (pe_callB (Gd.sameText hG hr.units) (by rfl) zr (by decide +kernel) (pa_cons (pv 0) pa_nil)) (pe_callB (Gd.sameText hG hr.units) (by rfl) zr (by decide +kernel) (pa_cons (pv 1) pa_nil)) (nomark _))), ?_⟩
    refine ⟨_, rfl, a, d, rfl, h1, c1, c2, c3, c4, _, rfl, b, d, rfl, h2, c1, c2, c3, c4, rfl, ?_⟩
    rw [decide_eq_true rfl]
    exact k
def spSameI : Sp := fun vs H Q _ => ∃ i : Int, vs = [.int i, .int i] ∧ i.natAbs.log2 < 1920 ∧ Q (.bl true) H
theorem ok_sameI {f : Addr} {fd : FuncData} (F : Fun K "_law_cp_same" "_law_cp_same" sSame f fd) (zr : mg "repr" = none) : Gd.FnG P0 w K mg base CX0 1 f fd ["found", "due"] spSameI := by
  refine Gd.fun_okG F scSame (fun vs H Q E h => ?_) (fun cdv A outer s H vs Q E hr hG h => ?_)
  · obtain ⟨i, rfl, _⟩ := h
    rfl
  · obtain ⟨i, rfl, hi, k⟩ := h
    refine ⟨_, pss_one (ps_ret (pe_cmpR op_eq (pe_callB SkE.call_repr_int (by rfl) zr (by decide +kernel) (pa_cons (pv 0) pa_nil)) (pe_callB SkE.call_repr_int (by rfl) zr (by decide +kernel) (pa_cons (pv 1) pa_nil)) (nomark _))), ?_⟩
    refine ⟨_, rfl, i, rfl, hi, _, rfl, i, rfl, hi, rfl, ?_⟩
    rw [decide_eq_true rfl]
    exact k
theorem fnG_or {CX : CXT} {k : Nat} {f : Addr} {fd : FuncData} {ps : List Str} {sp sp' : Sp} (U : Gd.FnG P0 w K mg base CX k f fd ps sp) (U' : Gd.FnG P0 w K mg base CX k f fd ps sp') : Gd.FnG P0 w K mg base CX k f fd ps (fun vs H Q E => sp vs H Q E ∨ sp' vs H Q E) :=
  ⟨fun vs H Q E h => h.elim (U.many vs H Q E) (U'.many vs H Q E), fun A out s H given us xs Q E room hG e0 b r h => h.elim (U.goes A out s H given us xs Q E room hG e0 b r) (U'.goes A out s H given us xs Q E room hG e0 b r)⟩
end
end Wt
namespace Cv
open PySem PySem.Spec PyProof.Rows L2
/-- one of the defs that a variable may hold, with what it keeps -/
def Hl (P0 : Program) (w : World) (K : PySem.W.Frag) (mg : Str → Option Value) (base : Heap) (k : Nat) (sp : Sp) (f : Addr) : Prop :=
  ∃ (fd : FuncData) (ps : List Str) (j : Nat), j ≤ k ∧ FnOk P0 w K mg base (L2.CX P0 w) j f fd ps sp ∧ PySem.W.keepIn K (.ref f) = true ∧ Binds K fd ps []
def tCallV (i : Nat) (S : Addr → Prop) (sp : Sp) (E : L2.St → XK) (t : TA) : TE := fun σ H Q => ∃ f, σ[i]? = some (some (.ref f)) ∧ S f ∧ t σ H fun vs H1 => sp vs H1 Q (E σ)
theorem pe_callV {X : Cx} {S : Addr → Prop} {sp : Sp} {k i : Nat} {x : Str} {p pos : Pos} {e : Expr} {es : List Expr} {t : TA} {E : L2.St → XK} (A : ∀ f, S f → Hl X.prog X.w X.K X.mg X.base k sp f) (hr : Room k X.A) (hN : X.N[i]? = some x) (hv : Vis X.env.scope x) (hx : ∀ σ, PassesAt (L2.CX X.prog X.w) X σ (E σ)) (ha : PA X (e :: es) t)
    (hdb : (x == ("__debug__" : Str)) = false := by decide) (hcd : (x == ("__classdict__" : Str)) = false := by decide)
    (he : starEach (e :: es) X.env = (false, eval e X.env) :: starEach es X.env := by rfl) (hpl : (backTo pos (starEach es X.env)).any (·.1) = false := by rfl) : PE X (.Call (.Name x p) (e :: es) [] pos) (tCallV i S sp E t) := by
  refine ⟨fun pins s σ H Q I h => ?_⟩
  obtain ⟨f, hs, hS, ht⟩ := h
  obtain ⟨fd, ps, j, hj, F, hk, hb⟩ := A f hS
  refine wpAny_Call_Name_kw (thn ((pe_var (pos := p) hN hv hdb hcd).run pins s σ H (fun v H1 => v = .ref f ∧ H1 = H) I ⟨.ref f, hs, rfl, rfl⟩) fun u s1 ⟨v, H1, I1, r1, q1⟩ => ?_)
  obtain ⟨rfl, rfl⟩ := q1
  cases r1
  refine PySem.W.callWith_K (h₀ := X.base) I.ok.mod.kin hk (thn (ha.run pos pins s1 σ _ _ I1 ht) fun us s2 ⟨vs, H2, I2, r, q⟩ => ⟨I2.kIn, ?_⟩) he hpl
  exact run_fnS F (hr.mono hj) hb (hx σ) I2 r q
end Cv

namespace Kn
open PySem PySem.Spec PyProof.Rows L2
open Wt Dc Us Xt
open Lm (LamO ExT tLamb pe_lam tCaught pe_caught sCaught)
open LamX (CodeO TabS Tabs ExtN TabB LamS lamEnv lamCx lamS_by)
abbrev sLawK : Stmt := Pre.top 43
abbrev nLawK : List Str := ["script", "state", "turn", "kind", "due", "thing", "work", "wanted", "last", "bad", "odd", "some", "one"]
theorem scLawK : FnScope nLawK ["script"] (defScope sLawK) := ⟨rfl, rfl, rfl, by decide +kernel, rfl, by decide +kernel, by decide +kernel⟩
abbrev qK : Str := lamQ "law" (defScope sLawK)
section
variable {P0 : Program} {w : World} {K : PySem.W.Frag} {mg : Str → Option Value} {base : Heap}
/-- a def of the law -/
structure Own (K : PySem.W.Frag) (mg : Str → Option Value) (x : Str) (st : Stmt) (f : Addr) (fd : FuncData) : Prop where
  F : Fun K x x st f fd
  m : mg x = some (.ref f)
/-- an error that the law catches -/
structure ErX (K : PySem.W.Frag) (mg : Str → Option Value) (x : Str) (CS C : Addr) : Prop where
  g : mg x = some (.ref C)
  x : PySem.W.exmOne K (.ref C) (.ref CS) = some true
  i : IsE K C
  k : PySem.W.kitOne K (.ref C) (.ref C) = some true
def spKFall (K : PySem.W.Frag) (CK CS CN : Addr) : Sp := fun vs H Q E => (spKF K SqL CK CS CN vs H Q E ∨ spKF K SqT CK CS CN vs H Q E) ∨ spKFN K CS vs H Q E
def spBK (K : PySem.W.Frag) (C : Addr) : Sp := fun vs H _ E => ∃ x d, vs = [x] ∧ Dp K H x d ∧ Sh d ∧ isK d = false ∧ ∀ H', Same H H' → E (.ref C) none H'
structure LkK (P0 : Program) (w : World) (K : PySem.W.Frag) (mg : Str → Option Value) (CB CK CS CN : Addr) (fD fP fB fA fK fNu fBe fBk fTr fIk fW fS fO fC fis far fan for_ fkf : Addr) (dD dP dB dA dK dNu dBe dBk dTr dIk dW dS dO dC dis dar dan dor dkf : FuncData) : Prop where
  D : Drw K mg fD fP fB dD dP dB
  T : TxtW mg
  zm : mg "min" = none
  zr : mg "repr" = none
  A : Own K mg "_law_begun" Pre.sBegun fA dA
  Ky : Own K mg "_law_any_kind" sAnyKind fK dK
  Nu : Own K mg "_law_cp_nums" sNumsL fNu dNu
  Be : Own K mg "_law_cp_bent" sBent fBe dBe
  gBe : ∀ base, FnOk P0 w K mg base CX0 17 fBe dBe ["state", "thing"] (spBent K)
  Bk : Own K mg "_law_cp_bad_kind" sBadK fBk dBk
  Tr : Own K mg "_law_is_truth" sTruth fTr dTr
  Ik : Own K mg "_law_cp_is_kind" sIsKindL fIk dIk
  gIk : ∀ base, FnOk P0 w K mg base CX0 17 fIk dIk ["thing"] (spIsKL K)
  Wa : Own K mg "_law_cp_wanted" sWanted fW dW
  S : Own K mg "_law_cp_same" sSame fS dS
  O : Own K mg "_law_order" sOrderL fO dO
  gO : ∀ base, FnOk P0 w K mg base CX0 14 fO dO ["kind"] (spOrd K 12)
  C : Own K mg "_law_caught" sCaught fC dC
  isk : Use P0 w K mg CX0 4 "is_kind" ["value"] (spIsK K) fis dis
  kis : ∀ (s : Shared) (u : Value), K.In s.heap → BindsTo s dis ⟨[], [("value", u)]⟩ [("value", u)]
  ar : Use P0 w K mg (L2.CX P0 w) 6 "arguments" ["kind"] (spK3 K CK (resArgs K)) far dar
  kar : ∀ (s : Shared) (u : Value), K.In s.heap → BindsTo s dar ⟨[], [("kind", u)]⟩ [("kind", u)]
  bar : Binds K dar ["kind"] []
  an : Use P0 w K mg (L2.CX P0 w) 6 "answer" ["kind"] (spK3 K CK resAns) fan dan
  kan : ∀ (s : Shared) (u : Value), K.In s.heap → BindsTo s dan ⟨[], [("kind", u)]⟩ [("kind", u)]
  ban : Binds K dan ["kind"] []
  od : Use P0 w K mg (L2.CX P0 w) 15 "order" ["kind"] (spK3 K CK resOrd) for_ dor
  kor : ∀ (s : Shared) (u : Value), K.In s.heap → BindsTo s dor ⟨[], [("kind", u)]⟩ [("kind", u)]
  bor : Binds K dor ["kind"] []
  kf : Use P0 w K mg (L2.CX P0 w) 6 "kind_from" ["arguments", "answer"] (spKFall K CK CS CN) fkf dkf
  bkf : Binds K dkf ["arguments", "answer"] []
  kkf : ∀ (s : Shared) (u v : Value), K.In s.heap → BindsTo s dkf ⟨[], [("answer", v), ("arguments", u)]⟩ [("arguments", u), ("answer", v)]
  eB : mg "ChanceError" = some (.ref CB)
  eK : ErX K mg "BadKind" CB CK
  eS : ErX K mg "BadKinds" CB CS
  eN : ErX K mg "BadNumber" CB CN
  Z : IsG K
/-- what stands between two statements: the state, the table of the law's lambdas -/
structure Am (K : PySem.W.Frag) (PR p g c : Addr) (n : Nat) (H : Hp) : Prop where
  st : Pre.St H p g c n
  tb : Tabs [(PR, qK)] H
theorem Am.same {PR p g c : Addr} {n : Nat} {H H' : Hp} (a : Am K PR p g c n H) (s : Same H H') : Am K PR p g c n H' := ⟨st_same a.st s, tabs_same a.tb s⟩
theorem Am.kp {PR p g c : Addr} {n m : Nat} {H H' : Hp} (a : Am K PR p g c n H) (s : Pre.Kp p g H H') (st : Pre.St H' p g c m) : Am K PR p g c m H' := ⟨st, tabs_kp a.tb a.st s⟩
theorem Am.ext {PR p g c : Addr} {n : Nat} {H H' : Hp} (a : Am K PR p g c n H) (s : ExtN H H') (t : Tabs [(PR, qK)] H') : Am K PR p g c n H' := ⟨st_ext a.st s, t⟩
/-- data that stays -/
theorem dp_kx {H H' : Hp} {p g : Addr} {x : V} {d : PyData} (k : Kx p g H H') (h : Dp K (wx p g H) x d) : Dp K (wx p g H') x d := dp_same (wx_kx k) h
theorem dp_in {H : Hp} {p g : Addr} {x : V} {d : PyData} (h : Dp K (wo p g H) x d) : Dp K (wx p g H) x d := dp_nt h
theorem dp_out {H : Hp} {p g : Addr} {x : V} {d : PyData} (h : Dp K (wx p g H) x d) : Dp K H x d := dp_same wx_sub h
def spLawK (K : PySem.W.Frag) (PR : Addr) : Sp := fun vs H Q _ => ∃ (a : Addr) (ns : List Int), vs = [.ref a] ∧ SqL K H a (ns.map V.int) ∧ ns.length ≤ 63 ∧ Tabs [(PR, qK)] H ∧ ∀ H', Q (.bl true) H'
end
end Kn

namespace Kn
open PySem PySem.Spec PyProof.Rows L2
open Wt Dc Us Xt
open Lm (LamO ExT tLamb pe_lam tCaught pe_caught sCaught)
open LamX (CodeO TabS Tabs ExtN TabB LamS lamEnv lamCx lamS_by)
theorem num_short : (PyData.shown (.str "num")).length ≤ 10 := by decide +kernel
theorem to_short : (PyData.shown (.str "to")).length ≤ 10 := by decide +kernel
theorem dig_short {i : Int} (h1 : 1 ≤ i) (h2 : i ≤ 6) : (PyData.shown (.int i)).length ≤ 1 := by
  have z : i = 1 ∨ i = 2 ∨ i = 3 ∨ i = 4 ∨ i = 5 ∨ i = 6 := by omega
  rcases z with rfl | rfl | rfl | rfl | rfl | rfl <;> decide +kernel
theorem shown_kd : ∀ t : Kd, t.good → t.dat.showable = true ∧ t.dat.shown.length + 20 ≤ 40 * t.nums
  | .num i, g => by
    refine ⟨?_, ?_⟩
    · show (true && (decide (i.natAbs.log2 < 1920) && true)) = true
      rw [decide_eq_true (log_ok g.1 g.2)]
      rfl
    · have z := PySem.tupleText_len_le [PyData.shown (.str "num"), PyData.shown (.int i)]
      have z1 := num_short
      have z2 := dig_short g.1 g.2
      have z3 : (Kd.num i).dat.shown.length ≤ _ := z
      simp only [List.map_cons, List.map_nil, List.sum_cons, List.sum_nil, List.length_cons, List.length_nil] at z3
      show _ ≤ 40 * 1
      omega
  | .to a b, g => by
    obtain ⟨a1, a2⟩ := shown_kd a g.1
    obtain ⟨b1, b2⟩ := shown_kd b g.2
    refine ⟨?_, ?_⟩
    · show (true && (a.dat.showable && (b.dat.showable && true))) = true
      rw [a1, b1]
      rfl
    · have z := PySem.tupleText_len_le [PyData.shown (.str "to"), a.dat.shown, b.dat.shown]
      have z1 := to_short
      have z3 : (Kd.to a b).dat.shown.length ≤ _ := z
      simp only [List.map_cons, List.map_nil, List.sum_cons, List.sum_nil, List.length_cons, List.length_nil] at z3
      show _ ≤ 40 * (a.nums + b.nums)
      omega
theorem shown_args : ∀ t : Kd, t.good → PyData.showableAll (t.args.map Kd.dat) = true ∧ ((PyData.shownAll (t.args.map Kd.dat)).map (·.length)).sum + 2 * (PyData.shownAll (t.args.map Kd.dat)).length ≤ 40 * t.nums
  | .num i, g => ⟨rfl, Nat.zero_le _⟩
  | .to a b, g => by
    obtain ⟨a1, a2⟩ := shown_kd a g.1
    obtain ⟨b1, b2⟩ := shown_args b g.2
    refine ⟨?_, ?_⟩
    · show (a.dat.showable && PyData.showableAll (b.args.map Kd.dat)) = true
      rw [a1, b1]
      rfl
    · show ((a.dat.shown :: PyData.shownAll (b.args.map Kd.dat)).map (·.length)).sum + 2 * (a.dat.shown :: PyData.shownAll (b.args.map Kd.dat)).length ≤ 40 * (a.nums + b.nums)
      simp only [List.map_cons, List.sum_cons, List.length_cons]
      omega
theorem txK {t : Kd} (g : t.good) (h : t.nums ≤ 14) : t.dat.showable = true ∧ t.dat.hasDict = false ∧ t.dat.depth < 32 ∧ t.dat.shown.length ≤ sizeLine := by
  have z := shown_kd t g
  refine ⟨z.1, PyData.hasDict_of_canLay _ (can_dat t), Nat.lt_of_le_of_lt (dep_dat t) (by omega), ?_⟩
  have := z.2
  rw [sizeLine_eq]
  omega
theorem txA {t : Kd} (g : t.good) (h : t.nums ≤ 14) : (PyData.tuple (t.args.map Kd.dat)).showable = true ∧ (PyData.tuple (t.args.map Kd.dat)).hasDict = false ∧ (PyData.tuple (t.args.map Kd.dat)).depth < 32 ∧ (PyData.tuple (t.args.map Kd.dat)).shown.length ≤ sizeLine := by
  have z := shown_args t g
  have ok : Ok 15 (.tuple (t.args.map Kd.dat)) := ok_tupD fun d hd => by
    obtain ⟨u, hu, rfl⟩ := List.mem_map.mp hd
    exact ok_dat (Nat.le_of_lt (Nat.lt_of_lt_of_le (arg_nums hu) h))
  refine ⟨z.1, PyData.hasDict_of_canLay _ ok.1, Nat.lt_of_le_of_lt ok.2 (by decide), ?_⟩
  have z1 := PySem.tupleText_len_le (PyData.shownAll (t.args.map Kd.dat))
  have z3 : (PyData.tuple (t.args.map Kd.dat)).shown.length ≤ _ := z1
  have := z.2
  rw [sizeLine_eq]
  omega
theorem ord_le : ∀ t : Kd, t.ord ≤ t.nums
  | .num _ => Nat.zero_le _
  | .to a b => by
    have h1 := ord_le a
    have h2 := ord_le b
    have h3 := nums_pos a
    have h4 := nums_pos b
    show max (a.ord + 1) b.ord ≤ a.nums + b.nums
    omega
theorem small_log {n : Nat} (h : n ≤ 14) : ((n : Int)).natAbs.log2 < 1920 := by
  rw [Int.natAbs_natCast]
  exact Nat.lt_of_le_of_lt (Nat.log2_le_self n) (by omega)
/-- the data of a kind by that of its arguments -/
def mkD (ds : List PyData) (e : PyData) : PyData := ds.foldr (fun d r => .tuple [.str "to", d, r]) (.tuple [.str "num", e])
theorem mkD_mk : ∀ (ts : List Kd) (k : Int), (mk ts k).dat = mkD (ts.map Kd.dat) (.int k)
  | [], _ => rfl
  | t :: ts, k => by
    show PyData.tuple [.str "to", t.dat, (mk ts k).dat] = .tuple [.str "to", t.dat, mkD (ts.map Kd.dat) (.int k)]
    rw [mkD_mk ts k]
theorem mk_same {ts : List Kd} {t : Kd} {k : Int} (h : t.args.map Kd.dat = ts.map Kd.dat) (e : PyData.int t.ans = .int k) : (mk ts k).dat = t.dat := by
  have z := mk_args t
  cases e
  rw [mkD_mk, ← h, ← mkD_mk, z]
theorem mk_nums {ts : List Kd} {t : Kd} {k : Int} (h : t.args.map Kd.dat = ts.map Kd.dat) (e : PyData.int t.ans = .int k) : (mk ts k).nums = t.nums := by
  have z1 := sz_dat (mk ts k)
  have z2 := sz_dat t
  rw [mk_same h e] at z1
  omega
theorem good_args : ∀ {t u : Kd}, t.good → u ∈ t.args → u.good
  | .num _, u, _, h => by cases h
  | .to a b, u, g, h => by
    rcases List.mem_cons.mp h with z | z
    · rw [z]
      exact g.1
    · exact good_args g.2 z
theorem args_isK {t : Kd} (g : t.good) (h : t.nums ≤ 12) : (t.args.map Kd.dat).all isK = true := by
  rw [List.all_eq_true]
  intro d hd
  obtain ⟨u, hu, rfl⟩ := List.mem_map.mp hd
  have := arg_nums hu
  rw [isK_dat (good_args g hu)]
  exact decide_eq_true (by omega)
theorem ans_ok : ∀ {t : Kd}, t.good → 1 ≤ t.ans ∧ t.ans ≤ 6
  | .num _, g => g
  | .to _ b, g => ans_ok (t := b) g.2
theorem dpAll_kd {K : PySem.W.Frag} {H : Hp} {p g c : Addr} {n : Nat} (hs : Pre.St H p g c n) : ∀ {ts : List Kd} {xs : List V}, DpAll K H xs (ts.map Kd.dat) → DpAll K (wo p g H) xs (ts.map Kd.dat)
  | [], _, h => by
    cases h
    exact .nil
  | t :: ts, _, h => by
    cases h with
    | cons h1 r => exact .cons (dp_kd hs h1) (dpAll_kd hs r)
def odds : List PyData := [.none, .int 0, .int 7, .bool true, .str "2", .tuple [.int 2]]
theorem odds_no : ∀ d ∈ odds, within 1 6 d = false ∧ Sh d := by decide +kernel
def noKs (ds : List PyData) : Nat := (ds.filter fun d => !isK d).length
theorem noKs_take {ds : List PyData} {i : Nat} {d : PyData} (h : ds[i]? = some d) : noKs (ds.take (i + 1)) = noKs (ds.take i) + (if isK d = true then 0 else 1) := by
  unfold noKs
  rw [List.take_add_one, h]
  cases e : isK d <;> simp [List.filter_append, e]
theorem noKs_zero {ds : List PyData} (h : noKs ds = 0) : ds.all isK = true := by
  unfold noKs at h
  rw [List.all_eq_true]
  intro d hd
  cases e : isK d with
  | true => rfl
  | false =>
    have : d ∈ ds.filter fun d => !isK d := List.mem_filter.mpr ⟨hd, by rw [e]; rfl⟩
    rw [List.length_eq_zero_iff.mp h] at this
    cases this
theorem rep_dp {K : PySem.W.Frag} {H : Hp} : ∀ m : Nat, DpAll K H (List.replicate m (V.int 1)) (List.replicate m (PyData.int 1))
  | 0 => .nil
  | m + 1 => .cons (.int _) (rep_dp m)
theorem rep_sh (m : Nat) : Sh (.list (List.replicate m (PyData.int 1))) := by
  refine ok_sh (m := 1) (ok_lstD (m := 0) fun d hd => ?_) (by decide)
  rw [List.eq_of_mem_replicate hd]
  exact ⟨rfl, Nat.le_refl _⟩
theorem noKs_le (ds : List PyData) : noKs ds ≤ ds.length := List.length_filter_le ..
end Kn

namespace Kn
open PySem PySem.Spec PyProof.Rows L2
open Wt Dc Us Xt
open Lm (LamO ExT tLamb pe_lam tCaught pe_caught sCaught)
open LamX (CodeO TabS Tabs ExtN TabB LamS lamEnv lamCx lamS_by)
section
variable {P0 : Program} {w : World} {K : PySem.W.Frag} {mg : Str → Option Value} {base : Heap}
set_option maxHeartbeats 4000000 in
theorem ok_lawK {f cR PR : Addr} {oc kV doc pm ct : Value} {od an : Option Addr} {osl : Array (Option Value)} {CB CK CS CN fD fP fB fA fK fNu fBe fBk fTr fIk fW fS fO fC fis far fan for_ fkf : Addr} {dD dP dB dA dK dNu dBe dBk dTr dIk dW dS dO dC dis dar dan dor dkf : FuncData}
    (at_ : K.lookup f = some ⟨oc, od, .func (PySem.W.fnOf "law" "law" (defArgs sLawK) (defBody sLawK) (defScope sLawK) .none kV doc pm an (.ref cR) ct), osl⟩) (code : PySem.W.codeIn K (.ref cR) "law" = true)
    (TB : TabB base mg cR PR) (T : LkK P0 w K mg CB CK CS CN fD fP fB fA fK fNu fBe fBk fTr fIk fW fS fO fC fis far fan for_ fkf dD dP dB dA dK dNu dBe dBk dTr dIk dW dS dO dC dis dar dan dor dkf) :
    Gd.FnG P0 w K mg base CX0 18 f (PySem.W.fnOf "law" "law" (defArgs sLawK) (defBody sLawK) (defScope sLawK) .none kV doc pm an (.ref cR) ct) ["script"] (spLawK K PR) := by
  have GA : FnOk P0 w K mg base CX0 1 fA dA ["script"] (Pre.spBegun K) := Pre.ok_begun T.A.F T.D.T
  have GD : FnOk P0 w K mg base CX0 2 fD dD ["state", "room"] Pre.spDraw := Pre.ok_draw T.D.FD T.D.T T.D.FB T.D.mB
  have GP : FnOk P0 w K mg base CX0 3 fP dP ["state", "some"] (Pre.spPick K) := Pre.ok_pick T.D.FP T.D.T T.D.FD T.D.mD T.D.FB T.D.mB
  have GK : FnOk P0 w K mg base CX0 17 fK dK ["state", "nums"] (spAny K 14) := ok_anykind T.Ky.F T.Ky.m T.D 14
  have GNu : FnOk P0 w K mg base CX0 15 fNu dNu ["kind"] (spNumsL K 14) := ok_numsL T.Nu.F T.Nu.m 14
  have GBe := T.gBe base
  have GBk : FnOk P0 w K mg base CX0 4 fBk dBk ["state"] (spBadK K) := ok_badK T.Bk.F T.D
  have GT : FnOk P0 w K mg base CX0 1 fTr dTr ["found", "due"] spTruth := ok_truth T.Tr.F
  have GIk := T.gIk base
  have GW : FnOk P0 w K mg base CX0 1 fW dW ["kind"] (spWanted K) := ok_wanted T.Wa.F
  have GS : Gd.FnG P0 w K mg base CX0 1 fS dS ["found", "due"] (fun vs H Q E => spSame K vs H Q E ∨ spSameI vs H Q E) := fnG_or (ok_same T.S.F T.zr) (ok_sameI T.S.F T.zr)
  have bA := T.A.F.binds (ps := ["script"]) fun _ _ _ _ _ _ us hl => match us, hl with | [_], _ => rfl
  have bD := T.D.FD.binds (ps := ["state", "room"]) fun _ _ _ _ _ _ us hl => match us, hl with | [_, _], _ => rfl
  have bP := T.D.FP.binds (ps := ["state", "some"]) fun _ _ _ _ _ _ us hl => match us, hl with | [_, _], _ => rfl
  have bK := T.Ky.F.binds (ps := ["state", "nums"]) fun _ _ _ _ _ _ us hl => match us, hl with | [_, _], _ => rfl
  have bNu := T.Nu.F.binds (ps := ["kind"]) fun _ _ _ _ _ _ us hl => match us, hl with | [_], _ => rfl
  have bBe := T.Be.F.binds (ps := ["state", "thing"]) fun _ _ _ _ _ _ us hl => match us, hl with | [_, _], _ => rfl
  have bBk := T.Bk.F.binds (ps := ["state"]) fun _ _ _ _ _ _ us hl => match us, hl with | [_], _ => rfl
  have bT := T.Tr.F.binds (ps := ["found", "due"]) fun _ _ _ _ _ _ us hl => match us, hl with | [_, _], _ => rfl
  have bIk := T.Ik.F.binds (ps := ["thing"]) fun _ _ _ _ _ _ us hl => match us, hl with | [_], _ => rfl
  have bW := T.Wa.F.binds (ps := ["kind"]) fun _ _ _ _ _ _ us hl => match us, hl with | [_], _ => rfl
  have bS := T.S.F.binds (ps := ["found", "due"]) fun _ _ _ _ _ _ us hl => match us, hl with | [_, _], _ => rfl
  have bO := T.O.F.binds (ps := ["kind"]) fun _ _ _ _ _ _ us hl => match us, hl with | [_], _ => rfl
  have hold : ∀ base', ∀ f', (f' = far ∨ f' = fan ∨ f' = for_) → Cv.Hl P0 w K mg base' 15 (spBK K CK) f' := fun base' f' hf => by
    rcases hf with rfl | rfl | rfl
    · exact ⟨dar, _, 6, by decide, (T.ar.ok base').imp fun vs H Q E ⟨x, d, h1, h2, h3, h4, h5⟩ => .inl ⟨x, d, h1, h2, h3, h4, h5⟩, T.ar.kp, T.bar⟩
    · exact ⟨dan, _, 6, by decide, (T.an.ok base').imp fun vs H Q E ⟨x, d, h1, h2, h3, h4, h5⟩ => .inl ⟨x, d, h1, h2, h3, h4, h5⟩, T.an.kp, T.ban⟩
    · exact ⟨dor, _, 15, by decide, (T.od.ok base').imp fun vs H Q E ⟨x, d, h1, h2, h3, h4, h5⟩ => .inl ⟨x, d, h1, h2, h3, h4, h5⟩, T.od.kp, T.bor⟩
  refine Gd.fnG_of at_ code scLawK (fun vs H Q E h => ?_) (fun A outer s H vs Q E hr hG h => ?_)
  · obtain ⟨a, ns, rfl, _⟩ := h
    rfl
  · obtain ⟨a, ns, rfl, hS, hlen, ht, k⟩ := h
    have nd := scLawK.nd
    have hr1 : Room 1 _ := hr.mono (by decide)
    have hr2 : Room 2 _ := hr.mono (by decide)
    have hr3 : Room 3 _ := hr.mono (by decide)
    have hr4 : Room 4 _ := hr.mono (by decide)
    have hr6 : Room 6 _ := hr.mono (by decide)
    have hr14 : Room 14 _ := hr.mono (by decide)
    have hr15 : Room 15 _ := hr.mono (by decide)
    have hGd : (A.deeper (envOfC "law" (defScope sLawK) s.heap.objs.size f (.ref cR))).guards = some [] := hG
    refine (fun (z : ∃ t, PSs (cxOf CX0 P0 w K mg base nLawK "law" (defScope sLawK) f (.ref cR) A outer s H E).nox (defBody sLawK) t ∧ t { nx := fun _ H' => Q .non H', rt := Q } (L2.start nLawK [.ref a]) H) => let ⟨t, h1, h2⟩ := z; ⟨t, h1.nox, h2⟩) ?_
    refine ⟨_, pss_cons (ps_set (i := 1) nd rfl (Or.inl rfl) (pe_call GA hr1 (by rfl) T.A.m T.A.F.kp bA .nil pass0 (pa_cons (pv 0) pa_nil)))
      (pss_cons (ps_for PassesOwn.never rfl (pi_range1 (by rfl) T.D.zg (pa_cons (pe_op op_add pe_int (pe_callB (call_min2 (by rfl)) (by rfl) T.zm (by decide +kernel) (pa_cons (pe_callB call_len_seq (by rfl) T.T.len PySem.boot_len (pa_cons (pv 0) pa_nil)) (pa_cons pe_int pa_nil)))) pa_nil)) (pg_name (i := 2) nd rfl (Or.inl rfl))
        (pss_cons (ps_set (i := 3) nd rfl (Or.inr rfl) (pe_call GK hr (by rfl) T.Ky.m T.Ky.F.kp bK .nil pass0 (pa_cons (pv 1) (pa_cons (pe_op op_add pe_int (pe_call GD hr2 (by rfl) T.D.mD T.D.FD.kp bD .nil pass0 (pa_cons (pv 1) (pa_cons pe_int pa_nil)))) pa_nil))))
        (pss_cons (ps_set (i := 4) nd rfl (Or.inl rfl) (pe_cmpR op_le (pe_call GNu hr15 (by rfl) T.Nu.m T.Nu.F.kp bNu .nil pass0 (pa_cons (pv 3) pa_nil)) pe_int (nomark _)))
        (pss_cons (ps_for PassesOwn.never rfl (pi_list (pe_lst (pa_cons (pv 3) (pa_cons (pe_call GBe hr (by rfl) T.Be.m T.Be.F.kp bBe .nil pass0 (pa_cons (pv 1) (pa_cons (pv 3) pa_nil))) (pa_cons (pe_call GBk hr4 (by rfl) T.Bk.m T.Bk.F.kp bBk .nil pass0 (pa_cons (pv 1) pa_nil)) pa_nil))))) (pg_name (i := 5) nd rfl (Or.inl rfl))
 (pss_one (ps_if (pt_not (pt_val (pe_call GT hr1 (by rfl) T.Tr.m T.Tr.F.kp bT .nil pass0 (pa_cons (pe_kw1 T.isk hr4 pass0 T.kis (pv 5)) (pa_cons (pe_call GIk hr (by rfl) T.Ik.m T.Ik.F.kp bIk .nil pass0 (pa_cons (pv 5) pa_nil)) pa_nil))))) (pss_one (ps_ret pe_bl)) pss_nil)))
        (pss_cons (ps_if (pt_not (pt_val (pv 4)))
 (pss_cons (ps_for PassesOwn.never rfl (pi_list (pe_lst (pa_cons (pe_glob (v := .ref far) (by rfl) T.ar.at_ rfl) (pa_cons (pe_glob (v := .ref fan) (by rfl) T.an.at_ rfl) (pa_cons (pe_glob (v := .ref for_) (by rfl) T.od.at_ rfl) pa_nil))))) (pg_name (i := 6) nd rfl (Or.inr rfl)) (pss_one (ps_if (pt_not (pt_val (pe_callB (call_isE T.Z) (by rfl) T.T.isi (by decide +kernel) (pa_cons (pe_caught (k := 15) (CS := CB) T.C.F T.C.m T.eB hr (pa_cons (pe_lam (T := [(PR, qK)]) TB rfl (List.mem_singleton.mpr rfl) one_l (lamS_by (by rfl)) (by rfl)) pa_nil)) (pa_cons (pe_glob (v := .ref CK) (by rfl) T.eK.g rfl) pa_nil))))) (pss_one (ps_ret pe_bl)) pss_nil))) (pss_cons (ps_asg (pe_call GW hr1 (by rfl) T.Wa.m T.Wa.F.kp bW .nil pass0 (pa_cons (pv 3) pa_nil)) (pg_tup (by rfl) (pgs_cons (pg_name (i := 7) nd rfl (Or.inr rfl)) (pgs_cons (pg_name (i := 8) nd rfl (Or.inr rfl)) pgs_nil)))) (pss_cons (ps_if (pt_cmpR (op_eqD hr.units) (pe_lc (own := [("one", 12)]) (g := gName 12) rfl nd (pi_list (pv 7)) (blkOk_by (own := [("one", 12)]) (N := nLawK) (sc := defScope sLawK) (by decide +kernel)) (fun _ _ _ _ _ => pg_name (i := 12) nd rfl (Or.inl rfl)) (fun _ _ _ _ _ => pts_one (pt_not (pt_val (pe_call GIk hr (by rfl) T.Ik.m T.Ik.F.kp bIk .nil pass0 (pa_cons (pv 12) pa_nil))))) (fun _ _ _ _ _ => pe_int)) (pe_lst pa_nil) (nomark _)) (pss_one (ps_if (pt_not (pt_val (pe_callB (call_isE T.Z) (by rfl) T.T.isi (by decide +kernel) (pa_cons (pe_caught (k := 15) (CS := CB) T.C.F T.C.m T.eB hr (pa_cons (pe_lam (T := [(PR, qK)]) TB rfl (List.mem_singleton.mpr rfl) one_l (lamS_by (by rfl)) (by rfl)) pa_nil)) (pa_cons (pe_glob (v := .ref CK) (by rfl) T.eK.g rfl) pa_nil))))) (pss_one (ps_ret pe_bl)) pss_nil)) pss_nil) (pss_one ps_continue)))) pss_nil)
        (pss_cons (ps_asg (pe_call GW hr1 (by rfl) T.Wa.m T.Wa.F.kp bW .nil pass0 (pa_cons (pv 3) pa_nil)) (pg_tup (by rfl) (pgs_cons (pg_name (i := 7) nd rfl (Or.inr rfl)) (pgs_cons (pg_name (i := 8) nd rfl (Or.inr rfl)) pgs_nil))))
        (pss_cons (ps_if (PW.pt (pw_or (pt_not (pt_val (Gd.pe_callG GS hr1 hGd (by rfl) T.S.m T.S.F.kp bS pass0 (pa_cons (pe_kw1 T.ar hr6 none_out T.kar (pv 3)) (pa_cons (pe_callTy call_tuple_of (by rfl) T.T.tuple (by decide +kernel) (pa_cons (pv 7) pa_nil)) pa_nil))))) (pw_or1 (pt_not (pt_val (Gd.pe_callG GS hr1 hGd (by rfl) T.S.m T.S.F.kp bS pass0 (pa_cons (pe_kw1 T.an hr6 none_out T.kan (pv 3)) (pa_cons (pv 8) pa_nil)))))))) (pss_one (ps_ret pe_bl)) pss_nil)
        (pss_cons (ps_if (pt_not (pt_val (Gd.pe_callG GS hr1 hGd (by rfl) T.S.m T.S.F.kp bS pass0 (pa_cons (pe_kw1 T.od hr15 none_out T.kor (pv 3)) (pa_cons (pe_call (T.gO _) hr14 (by rfl) T.O.m T.O.F.kp bO .nil pass0 (pa_cons (pv 3) pa_nil)) pa_nil))))) (pss_one (ps_ret pe_bl)) pss_nil)
        (pss_cons (ps_if (PW.pt (pw_or (pt_not (pt_val (Gd.pe_callG GS hr1 hGd (by rfl) T.S.m T.S.F.kp bS pass0 (pa_cons (pe_useN T.kf hr6 T.bkf .nil (pa_cons (pv 7) (pa_cons (pv 8) pa_nil))) (pa_cons (pv 3) pa_nil))))) (pw_or1 (pt_cmpR (op_neD hr.units) (pe_kw2s T.kf hr6 none_out T.kkf (pv 8) (pe_callTy call_tuple_of (by rfl) T.T.tuple (by decide +kernel) (pa_cons (pv 7) pa_nil))) (pv 3) (nomark _))))) (pss_one (ps_ret pe_bl)) pss_nil)
        (pss_cons (ps_asg (pe_tup (pa_cons (pe_call GBk hr4 (by rfl) T.Bk.m T.Bk.F.kp bBk .nil pass0 (pa_cons (pv 1) pa_nil)) (pa_cons (pe_call GP hr3 (by rfl) T.D.mP T.D.FP.kp bP .nil pass0 (pa_cons (pv 1) (pa_cons (pe_lstD (ds := odds) (ad_cons ed_non (ad_cons ed_int (ad_cons ed_int (ad_cons ed_bl (ad_cons ed_str (ad_cons (ed_tup (ad_cons ed_int ad_nil) (by decide)) ad_nil)))))) (by decide)) pa_nil))) pa_nil))) (pg_tup (by rfl) (pgs_cons (pg_name (i := 9) nd rfl (Or.inr rfl)) (pgs_cons (pg_name (i := 10) nd rfl (Or.inr rfl)) pgs_nil))))
        (pss_cons (ps_for PassesOwn.never rfl (pi_list (pe_lst (pa_cons (pe_glob (v := .ref far) (by rfl) T.ar.at_ rfl) (pa_cons (pe_glob (v := .ref fan) (by rfl) T.an.at_ rfl) (pa_cons (pe_glob (v := .ref for_) (by rfl) T.od.at_ rfl) pa_nil))))) (pg_name (i := 6) nd rfl (Or.inr rfl)) (pss_one (ps_if (pt_not (pt_val (pe_callB (call_isE T.Z) (by rfl) T.T.isi (by decide +kernel) (pa_cons (pe_caught (k := 15) (CS := CB) T.C.F T.C.m T.eB hr (pa_cons (pe_lam (T := [(PR, qK)]) TB rfl (List.mem_singleton.mpr rfl) one_l (lamS_by (by rfl)) (by rfl)) pa_nil)) (pa_cons (pe_glob (v := .ref CK) (by rfl) T.eK.g rfl) pa_nil))))) (pss_one (ps_ret pe_bl)) pss_nil)))
        (pss_cons (ps_for PassesOwn.never rfl (pi_list (pe_lst (pa_cons pe_non (pa_cons (pe_lst (pa_cons (pv 9) pa_nil)) (pa_cons (pe_tup (pa_cons pe_str (pa_cons pe_int pa_nil))) (pa_cons pe_int pa_nil)))))) (pg_name (i := 11) nd rfl (Or.inr rfl)) (pss_one (ps_if (pt_not (pt_val (pe_callB (call_isE T.Z) (by rfl) T.T.isi (by decide +kernel) (pa_cons (pe_caught (k := 15) (CS := CB) T.C.F T.C.m T.eB hr (pa_cons (pe_lam (T := [(PR, qK)]) TB rfl (List.mem_singleton.mpr rfl) one_l (lamS_by (by rfl)) (by rfl)) pa_nil)) (pa_cons (pe_glob (v := .ref CS) (by rfl) T.eS.g rfl) pa_nil))))) (pss_one (ps_ret pe_bl)) pss_nil)))
        (pss_one (ps_if (pt_not (pt_val (pe_callB (call_isE T.Z) (by rfl) T.T.isi (by decide +kernel) (pa_cons (pe_caught (k := 15) (CS := CB) T.C.F T.C.m T.eB hr (pa_cons (pe_lam (T := [(PR, qK)]) TB rfl (List.mem_singleton.mpr rfl) one_l (lamS_by (by rfl)) (by rfl)) pa_nil)) (pa_cons (pe_glob (v := .ref CN) (by rfl) T.eN.g rfl) pa_nil))))) (pss_one (ps_ret pe_bl)) pss_nil))))))))))))))
      (pss_one (ps_ret pe_bl))), ?_⟩
    refine ⟨_, rfl, a, ns, rfl, hS, hlen, fun H1 p g c s1 st1 p0 g0 => ?_⟩
    refine ⟨_, rfl, a, _, rfl, .inl (s1.seq hS), _, _, rfl, _, _, rfl, rfl, _, rfl, ?_, ?_, for_range (fun i σ H' => ∃ o2 o3 o4 o5 o6 o7 o8 o9 o10 o11 o12, σ = [some (.ref a), some (.ref p), o2, o3, o4, o5, o6, o7, o8, o9, o10, o11, o12] ∧ Am K PR p g c (60 * i) H')
      ⟨_, _, _, _, _, _, _, _, _, _, _, rfl, ⟨st1, tabs_same ht s1⟩⟩ ?_ ?_⟩
    · split <;> omega
    · split <;> omega
    · rintro i σ H2 hi ⟨o2, o3, o4, o5, o6, o7, o8, o9, o10, o11, o12, rfl, am⟩
      have hi2 : i < 10 := by
        revert hi
        split <;> omega
      clear hi s1 st1 p0 g0 H1 ht hS
      -- the kind
      refine ⟨_, rfl, _, rfl, p, g, c, 60 * i, 14, rfl, am.st, by omega, by decide, by decide, fun H3 z kp3 st3 z0 z1 => ?_⟩
      obtain ⟨z', rfl⟩ := Int.eq_ofNat_of_zero_le z0
      have ez : (1 : Int) + (z' : Int) = ((1 + z' : Nat) : Int) := by omega
      refine ⟨_, _, rfl, rfl, p, g, c, 60 * i + 1, 1 + z', (by show [V.ref p, V.int (1 + (z' : Int))] = _; rw [ez]), st3, by omega, by omega, by omega, by decide, fun H4 y t kp4 st4 dt gt mt => ?_⟩
      have am4 := (am.kp kp3 st3).kp kp4 st4
      have hn14 : t.nums ≤ 14 := by omega
      have dx := dp_in dt
      obtain ⟨ya, rfl⟩ : ∃ ya, y = .ref ya := by
        cases t with
        | num _ => cases dt with | tup _ _ => exact ⟨_, rfl⟩
        | to _ _ => cases dt with | tup _ _ => exact ⟨_, rfl⟩
      have hm : 60 * i + 1 + (2 * (1 + z') - 1) ≤ 60 * i + 28 := by omega
      have am5 : Am K PR p g c (60 * i + 28) H4 := ⟨st_more am4.st hm, am4.tb⟩
      clear am am4 kp3 kp4 st3 st4 z1 z0 ez hm mt
      -- due
      refine ⟨_, rfl, .ref ya, t, rfl, dp_same wo_sub dt, hn14, _, _, rfl, rfl, ?_⟩
      -- the things
      refine ⟨_, rfl, _, rfl, _, rfl, .ref ya, p, g, c, 60 * i + 28, t, rfl, am5.st, by omega, dt, gt, hn14, fun y2 H5 kp5 st5 ok5 => ?_⟩
      refine ⟨_, rfl, p, g, c, 60 * i + 31, rfl, st5, by omega, fun H6 y3 kp6 st6 no6 => ?_⟩
      refine ⟨by show 3 ≤ sizeLine; decide, fun l6 hl6 => ?_⟩
      have s7 := Pre.same_upd (o := .lst [.ref ya, y2, y3]) hl6
      have h7 : upd H6 l6 (.lst [.ref ya, y2, y3]) l6 = some (.lst [.ref ya, y2, y3]) := upd_same
      have am7 : Am K PR p g c (60 * i + 32) (upd H6 l6 (.lst [.ref ya, y2, y3])) := ((am5.kp kp5 st5).kp kp6 st6).same s7
      have kp47 : Pre.Kp p g H4 (upd H6 l6 (.lst [.ref ya, y2, y3])) := kp5.trans (kp6.trans (Pre.Kp.of s7))
      have kx47 : Kx p g H4 (upd H6 l6 (.lst [.ref ya, y2, y3])) := Kx.kp kp47
      have all7 : ∀ v ∈ [V.ref ya, y2, y3], ∃ d, Dp K (upd H6 l6 (.lst [.ref ya, y2, y3])) v d ∧ Sh d := fun v hv => by
        simp only [List.mem_cons, List.not_mem_nil, or_false] at hv
        rcases hv with rfl | rfl | rfl
        · exact ⟨_, dp_same wo_sub (dp_same (wo_kp kp47) dt), ok_sh (ok_dat hn14) (by decide)⟩
        · obtain ⟨d, h1, h2⟩ := ok5
          exact ⟨d, dp_same wo_sub (dp_same (wo_kp (kp6.trans (Pre.Kp.of s7))) h1), ok_sh h2 (by decide)⟩
        · obtain ⟨d, h1, h2⟩ := no6
          exact ⟨d, dp_same (wo_sub.trans s7) h1, ok_sh h2.2 (by decide)⟩
      clear am5 kp5 st5 ok5 kp6 st6 no6 s7 kp47 hl6
      generalize upd H6 l6 (.lst [.ref ya, y2, y3]) = H7 at h7 am7 kx47 all7
      have dx7 := dp_kx kx47 dx
      refine ⟨l6, rfl, ⟨_, SqL.of h7⟩, for_list (K := K) (a := l6) (xs := [.ref ya, y2, y3]) (fun j σ H' => ∃ q5 due, σ = [some (.ref a), some (.ref p), some (.int (0 + (i : Int))), some (.ref ya), some (.bl due), q5, o6, o7, o8, o9, o10, o11, o12] ∧ decide ((t.nums : Int) ≤ 12) = due ∧ Same H7 H')
        ⟨o5, _, rfl, rfl, Same.refl _⟩ (fun _ _ H' _ ⟨_, _, _, _, s⟩ => SqL.of (s _ _ h7)) ?_ ?_⟩
      · rintro j v σ H8 hv ⟨q5, due, rfl, hdue, s8⟩
        obtain ⟨d, dv, sv⟩ := all7 v (List.mem_of_getElem? hv)
        refine ⟨_, rfl, v, d, rfl, dp_same s8 dv, sv, fun H9 s9 => ⟨_, rfl, v, d, rfl, dp_same (s8.trans s9) dv, sv, fun H10 s10 => ⟨isK d, isK d, rfl, _, rfl, ?_⟩⟩⟩
        rw [decide_eq_true rfl]
        exact iteF ⟨_, due, rfl, hdue, s8.trans (s9.trans s10)⟩
      · rintro σ H8 ⟨q5, due, rfl, hdue, s8⟩
        have am8 := am7.same s8
        have dx8 := dp_kx (Kx.of s8) dx7
        clear am7 all7 dx7 h7 kx47 s8 dx dt
        cases due with
        | false =>
          have hbig : 12 < t.nums := by
            have := of_decide_eq_false hdue
            omega
          have noK : isK t.dat = false := by
            rw [isK_dat gt]
            exact decide_eq_false (by omega)
          have shK : Sh t.dat := ok_sh (ok_dat hn14) (by decide)
          refine ⟨_, rfl, false, rfl, iteT ?_⟩
          -- arguments, answer, order of it
          refine ⟨by show 3 ≤ sizeLine; decide, fun l9 hl9 => ?_⟩
          have s9 := Pre.same_upd (o := .lst [.ref far, .ref fan, .ref for_]) hl9
          have h9 : upd H8 l9 (.lst [.ref far, .ref fan, .ref for_]) l9 = some (.lst [.ref far, .ref fan, .ref for_]) := upd_same
          have am9 := am8.same s9
          have dx9 := dp_kx (Kx.of s9) dx8
          generalize upd H8 l9 (.lst [.ref far, .ref fan, .ref for_]) = H9 at h9 am9 dx9
          clear am8 dx8 s9 hl9
          refine ⟨l9, rfl, ⟨_, SqL.of h9⟩, for_list (K := K) (a := l9) (xs := [.ref far, .ref fan, .ref for_]) (fun j σ H' => ∃ q6, σ = [some (.ref a), some (.ref p), some (.int (0 + (i : Int))), some (.ref ya), some (.bl false), q5, q6, o7, o8, o9, o10, o11, o12] ∧ ExtN H9 H' ∧ Tabs [(PR, qK)] H')
            ⟨o6, rfl, ExtN.refl _, am9.tb⟩ (fun _ _ H' _ ⟨_, _, e, _⟩ => SqL.of (e _ _ h9 (fun _ z => by cases z))) ?_ ?_⟩
          · rintro j v σ H10 hv ⟨q6, rfl, e10, t10⟩
            obtain ⟨fw, rfl, hfw⟩ : ∃ fw, v = .ref fw ∧ (fw = far ∨ fw = fan ∨ fw = for_) := by
              have := List.mem_of_getElem? hv
              simp only [List.mem_cons, List.not_mem_nil, or_false] at this
              rcases this with rfl | rfl | rfl
              · exact ⟨_, rfl, .inl rfl⟩
              · exact ⟨_, rfl, .inr (.inl rfl)⟩
              · exact ⟨_, rfl, .inr (.inr rfl)⟩
            refine ⟨t10, fun f0 q0 H0 eN tN n0 h0 => ?_⟩
            refine ⟨f0, q0, _, _, _, fun E => Cv.tCallV 6 (fun z => z = far ∨ z = fan ∨ z = for_) (spBK K CK) (fun _ => E) (tCons (tVar 3) tNil), rfl, upd_same, (upd_ne (ne_of_none h0 n0)).trans h0, lamS_by (by rfl), fun _ _ _ _ _ => rfl, fun A outer s H E hr => Cv.pe_callV (i := 6) (S := fun z => z = far ∨ z = fan ∨ z = for_) (hold _) hr rfl (Or.inr (Or.inr rfl)) (fun σ => passAt (takes_of rfl rfl rfl rfl) σ) (pa_cons (pv 3) pa_nil), fun E R hE _ => ?_⟩
            have eB : ∀ o, ExtN H9 (upd H0 f0 o) := fun o => e10.trans (eN.trans (ext_of (Pre.same_upd n0)))
            have tB : ∀ o, Tabs [(PR, qK)] (upd H0 f0 o) := fun o => tN.ext (Pre.same_upd n0)
            refine ⟨fw, rfl, hfw, _, rfl, .ref ya, t.dat, rfl, dp_out (dp_kx (Kx.ext (eB _)) dx9), shK, noK, fun HC sC => hE (.ref CK) none HC T.eK.x (fun ea hea => ?_)⟩
            refine ⟨ea, CK, .ref CK, .ref CK, true, rfl, upd_same, T.eK.i, .own CK, T.eK.k, true, rfl, iteF ?_⟩
            exact ⟨_, rfl, ((eB _).trans (ext_of sC)).trans (ext_of (Pre.same_upd hea)), ((tB _).ext sC).ext (Pre.same_upd hea)⟩
          · rintro σ H10 ⟨q6, rfl, e10, t10⟩
            have am10 := am9.ext e10 t10
            have dx10 := dp_kx (Kx.ext e10) dx9
            clear am9 dx9 e10 t10 h9
            -- wanted, last
            refine ⟨_, rfl, .ref ya, t, rfl, dp_out dx10, by omega, fun p1 l ys H11 s11 hp1 hl0 hl hD => ?_⟩
            refine ⟨p1, _, rfl, hp1, rfl, _, _, rfl, _, _, rfl, rfl, ?_⟩
            have nl := st_new am10.st hl0
            have am11 := am10.same s11
            have dx11 := dp_kx (Kx.of s11) dx10
            have hDx : DpAll K (wx p g H11) ys (t.args.map Kd.dat) := dpAll_same (wx_kx (Kx.of s11)) (dpAll_nt (dpAll_kd am10.st hD))
            have lys : ys.length = t.args.length := by rw [dpAll_len hD, List.length_map]
            have lar := args_len t
            clear am10 dx10 hp1 hl0 s11 hD
            -- those that are none
            refine ⟨_, rfl, l, rfl, ⟨_, SqL.of hl⟩, fun D hDn => lc_list (K := K) (a := l) (xs := ys) (fun j H' => Same H11 H' ∧ H' D = some (.lst (List.replicate (noKs ((t.args.map Kd.dat).take j)) (.int 1)))) ⟨Pre.same_upd hDn, by rw [upd_same]; rfl⟩ (fun _ H' _ ⟨s, _⟩ => SqL.of (s _ _ hl)) ?_ ?_⟩
            · rintro j v H12 hv ⟨s12, hd12⟩
              obtain ⟨dj, hdj, hdv⟩ := dpAll_at hDx hv
              obtain ⟨u, hu, rfl⟩ : ∃ u, t.args[j]? = some u ∧ u.dat = dj := by
                rw [List.getElem?_map] at hdj
                cases hu : t.args[j]? with
                | none => rw [hu] at hdj; cases hdj
                | some u => rw [hu] at hdj; cases hdj; exact ⟨u, rfl, rfl⟩
              have hul := arg_nums (List.mem_of_getElem? hu)
              have hjl : j < t.args.length := (List.getElem?_eq_some_iff.mp hu).1
              refine ⟨rfl, _, rfl, v, u.dat, rfl, dp_same (wx_sub.trans s12) hdv, ok_sh (ok_dat (m := 14) (by omega)) (by decide), fun H13 s13 => ⟨_, rfl, ?_⟩⟩
              have htk := noKs_take hdj
              have hnl := noKs_le ((t.args.map Kd.dat).take j)
              have hnl2 : ((t.args.map Kd.dat).take j).length ≤ 14 := by rw [List.length_take]; omega
              cases e : isK u.dat with
              | true =>
                rw [e] at htk
                refine iteF ⟨s12.trans s13, ?_⟩
                rw [htk]
                exact s13 _ _ hd12
              | false =>
                rw [e] at htk
                refine iteT ⟨_, s13 _ _ hd12, ?_, fun b o eb => ?_, ?_⟩
                · rw [List.length_replicate]
                  exact Nat.lt_of_le_of_lt (Nat.le_trans hnl hnl2) (by decide)
                · rw [upd_ne (ne_of_none eb hDn)]
                  exact s13 _ _ (s12 _ _ eb)
                · rw [upd_same, htk]
                  show some (HO.lst (List.replicate _ (V.int 1) ++ [V.int 1])) = some (HO.lst (List.replicate (_ + 1) (V.int 1)))
                  rw [List.replicate_succ']
            · rintro H12 ⟨s12, hd12⟩
              have am12 := am11.same s12
              have dx12 := dp_kx (Kx.of s12) dx11
              have hDx12 := dpAll_same (wx_kx (p := p) (g := g) (Kx.of s12)) hDx
              have hl12 := s12 _ _ hl
              have etake : (t.args.map Kd.dat).take ys.length = t.args.map Kd.dat := by
                rw [lys, ← List.length_map (f := Kd.dat), List.take_length]
              rw [etake] at hd12
              clear am11 dx11 hDx s12 hl
              refine ⟨by show 0 ≤ sizeLine; decide, fun l13 hl13 => ?_⟩
              have s13 := Pre.same_upd (o := .lst []) hl13
              refine ⟨.list (List.replicate (noKs (t.args.map Kd.dat)) (.int 1)), .list [], .lst (SqL.of (s13 _ _ hd12)) (rep_dp _), .lst (SqL.of upd_same) .nil, rep_sh _, by decide +kernel, _, rfl, ?_⟩
              have am13 := am12.same s13
              have dx13 := dp_kx (Kx.of s13) dx12
              have hDx13 := dpAll_same (wx_kx (p := p) (g := g) (Kx.of s13)) hDx12
              have hl13' := s13 _ _ hl12
              generalize upd H12 l13 (.lst []) = H13 at am13 dx13 hDx13 hl13'
              clear am12 dx12 hDx12 s13 hl12 hd12 hl13
              cases em : noKs (t.args.map Kd.dat) with
              | succ m =>
                exact iteF ⟨_, _, _, _, _, _, _, _, _, _, _, rfl, ⟨st_more am13.st (by omega), am13.tb⟩⟩
              | zero =>
                refine iteT ?_
                have allK := noKs_zero em
                refine ⟨am13.tb, fun f0 q0 H0 eN tN n0 h0 => ?_⟩
                refine ⟨f0, q0, _, _, _, fun E => tCallS (spKFall K CK CS CN) (fun _ => E) (tCons (tVar 7) (tCons (tVar 8) tNil)), rfl, upd_same, (upd_ne (ne_of_none h0 n0)).trans h0, lamS_by (by rfl), fun _ _ _ _ _ => rfl, fun A outer s H E hr => pe_callS (T.kf.ok _) (hr.mono (by decide)) rfl T.kf.at_ T.kf.kp T.bkf (fun σ => passAt (takes_of rfl rfl rfl rfl) σ) (pa_cons (pv 7) (pa_cons (pv 8) pa_nil)), fun E R hE _ => ?_⟩
                have eB : ∀ o, ExtN H13 (upd H0 f0 o) := fun o => eN.trans (ext_of (Pre.same_upd n0))
                have tB : ∀ o, Tabs [(PR, qK)] (upd H0 f0 o) := fun o => tN.ext (Pre.same_upd n0)
                have hans := ans_ok gt
                refine ⟨_, rfl, _, rfl, .inl (.inl ⟨l, ys, t.args.map Kd.dat, .int t.ans, .int t.ans, rfl, SqL.of (eB _ _ _ hl13' (fun _ z => by cases z)), dpAll_same (wx_sub (p := p) (g := g)) (dpAll_same (wx_kx (Kx.ext (eB _))) hDx13), by omega, fun d hd => ?_, .int _, fun q => ?_, fun _ q => ?_, fun _ _ ts kk _ _ _ HC sC => hE (.ref CK) none HC T.eK.x (fun ea hea => ?_), fun _ _ ts kk e1 e2 gk nk => ?_⟩)⟩
                · obtain ⟨u, hu, rfl⟩ := List.mem_map.mp hd
                  have := arg_nums hu
                  exact ok_sh (ok_dat (m := 14) (by omega)) (by decide)
                · rw [allK] at q
                  cases q
                · have z : (decide (1 ≤ t.ans) && decide (t.ans ≤ 6)) = false := q
                  rw [decide_eq_true hans.1, decide_eq_true hans.2] at z
                  cases z
                · refine ⟨ea, CK, .ref CK, .ref CK, true, rfl, upd_same, T.eK.i, .own CK, T.eK.k, true, rfl, iteF ?_⟩
                  exact ⟨_, _, _, _, _, _, _, _, _, _, _, rfl, ⟨st_more (st_ext (st_same (st_ext am13.st (eB _)) sC) (ext_of (Pre.same_upd hea))) (by omega), ((tB _).ext sC).ext (Pre.same_upd hea)⟩⟩
                · have := mk_nums e1 e2
                  omega
        | true =>
          have hsm : t.nums ≤ 12 := by
            have := of_decide_eq_true hdue
            omega
          refine ⟨_, rfl, true, rfl, iteF ?_⟩
          have shK : Sh t.dat := ok_sh (ok_dat hn14) (by decide)
          have allK := args_isK gt hsm
          have hans := ans_ok gt
          have within_ans : within 1 6 (.int t.ans) = true := by
            show (decide (1 ≤ t.ans) && decide (t.ans ≤ 6)) = true
            rw [decide_eq_true hans.1, decide_eq_true hans.2]
            rfl
          have shA : ∀ d ∈ t.args.map Kd.dat, Sh d := fun d hd => by
            obtain ⟨u, hu, rfl⟩ := List.mem_map.mp hd
            have := arg_nums hu
            exact ok_sh (ok_dat (m := 14) (by omega)) (by decide)
          have lar := args_len t
          obtain ⟨k1, k2, k3, k4⟩ := txK gt hn14
          obtain ⟨a1, a2, a3, a4⟩ := txA gt hn14
          -- wanted, last
          refine ⟨_, rfl, .ref ya, t, rfl, dp_out dx8, by omega, fun p1 l ys H11 s11 hp1 hl0 hl hD => ?_⟩
          refine ⟨p1, _, rfl, hp1, rfl, _, _, rfl, _, _, rfl, rfl, ?_⟩
          have am11 := am8.same s11
          have dx11 := dp_kx (Kx.of s11) dx8
          have hDx := dpAll_same (wx_kx (p := p) (g := g) (Kx.of s11)) (dpAll_nt (dpAll_kd am8.st hD))
          have nl := st_new am8.st hl0
          have lys : ys.length = t.args.length := by rw [dpAll_len hD, List.length_map]
          clear am8 dx8 hp1 hl0 s11 hD
          -- arguments, answer
          refine ⟨_, rfl, .inr ⟨.ref ya, t, rfl, dp_out dx11, gt, hsm, fun v H12 s12 hv => ?_⟩⟩
          obtain ⟨qa, rfl, hqa⟩ := hv
          refine ⟨_, rfl, l, ys, rfl, .inl ⟨SqL.of (s12 _ _ hl), fun tl htl => ?_⟩⟩
          have s13 := Pre.same_upd (o := .tup ys) htl
          refine .inl ⟨qa, tl, .tuple (t.args.map Kd.dat), rfl, dp_same s13 hqa, .tup (SqT.of upd_same) (dpAll_same (wx_sub (p := p) (g := g)) (dpAll_same (wx_kx (Kx.of (s12.trans s13))) hDx)), a1, a2, a3, a4, true, rfl, iteF ?_⟩
          have am13 := am11.same (s12.trans s13)
          have dx13 := dp_kx (Kx.of (s12.trans s13)) dx11
          have hDx13 := dpAll_same (wx_kx (p := p) (g := g) (Kx.of (s12.trans s13))) hDx
          have hl13 := (s12.trans s13) _ _ hl
          generalize upd H12 tl (.tup ys) = H13 at am13 dx13 hDx13 hl13
          clear am11 dx11 hDx hl s12 s13 hqa htl
          refine ⟨_, rfl, .inr ⟨.ref ya, t, rfl, dp_out dx13, gt, hsm, fun v H14 s14 hv => ?_⟩⟩
          obtain rfl : v = .int t.ans := hv
          have lan : t.ans.natAbs.log2 < 1920 := log_ok hans.1 hans.2
          refine ⟨_, rfl, .inr ⟨t.ans, rfl, lan, true, rfl, iteF ?_⟩⟩
          have am14 := am13.same s14
          have dx14 := dp_kx (Kx.of s14) dx13
          have hDx14 := dpAll_same (wx_kx (p := p) (g := g) (Kx.of s14)) hDx13
          have hl14 := s14 _ _ hl13
          clear am13 dx13 hDx13 hl13 s14
          -- order
          refine ⟨_, rfl, .inr ⟨.ref ya, t, rfl, dp_out dx14, gt, hsm, fun v H15 s15 hv => ?_⟩⟩
          obtain rfl : v = .int (t.ord : Int) := hv
          refine ⟨_, rfl, .ref ya, t, rfl, dp_out (dp_kx (Kx.of s15) dx14), hsm, by decide, fun H16 s16 => ?_⟩
          refine .inr ⟨(t.ord : Int), rfl, small_log (Nat.le_trans (ord_le t) hn14), true, rfl, iteF ?_⟩
          have e16 := s15.trans s16
          have am16 := am14.same e16
          have dx16 := dp_kx (Kx.of e16) dx14
          have hDx16 := dpAll_same (wx_kx (p := p) (g := g) (Kx.of e16)) hDx14
          have hl16 := e16 _ _ hl14
          clear am14 dx14 hDx14 hl14 s15 s16 e16
          -- kind_from
          refine ⟨_, rfl, _, rfl, .inl (.inl ⟨l, ys, t.args.map Kd.dat, .int t.ans, .int t.ans, rfl, SqL.of hl16, dpAll_same (wx_sub (p := p) (g := g)) hDx16, by omega, shA, .int _, fun q => ?_, fun _ q => ?_, fun _ _ ts kk e1 e2 nk => ?_, fun _ _ ts kk e1 e2 _ _ r H17 s17 hr17 => ?_⟩)⟩
          · rw [allK] at q
            cases q
          · rw [within_ans] at q
            cases q
          · have := mk_nums e1 e2
            omega
          rw [mk_same e1 e2] at hr17
          refine ⟨_, rfl, .inl ⟨r, ya, t.dat, rfl, hr17, dp_out (dp_kx (Kx.of s17) dx16), k1, k2, k3, k4, true, rfl, iteF ?_⟩⟩
          have am17 := am16.same s17
          have dx17 := dp_kx (Kx.of s17) dx16
          have hDx17 := dpAll_same (wx_kx (p := p) (g := g) (Kx.of s17)) hDx16
          have hl17 := s17 _ _ hl16
          clear am16 dx16 hDx16 hl16 s17 hr17 e1 e2
          refine ⟨_, rfl, _, rfl, l, ys, rfl, .inl ⟨SqL.of hl17, fun tl htl => ?_⟩⟩
          have s18 := Pre.same_upd (o := .tup ys) htl
          refine .inl (.inr ⟨tl, ys, t.args.map Kd.dat, .int t.ans, .int t.ans, rfl, SqT.of upd_same, dpAll_same (wx_sub (p := p) (g := g)) (dpAll_same (wx_kx (Kx.of s18)) hDx17), by omega, shA, .int _, fun q => ?_, fun _ q => ?_, fun _ _ ts kk e1 e2 nk => ?_, fun _ _ ts kk e1 e2 _ _ r H19 s19 hr19 => ?_⟩)
          · rw [allK] at q
            cases q
          · rw [within_ans] at q
            cases q
          · have := mk_nums e1 e2
            omega
          rw [mk_same e1 e2] at hr19
          refine ⟨_, rfl, t.dat, t.dat, hr19, dp_out (dp_kx (Kx.of (s18.trans s19)) dx17), shK, shK, _, rfl, ?_⟩
          rw [SeqAt.eqv_refl t.dat (can_dat t)]
          refine iteF ?_
          have am19 := am17.same (s18.trans s19)
          have dx19 := dp_kx (Kx.of (s18.trans s19)) dx17
          have hDx19 := dpAll_same (wx_kx (p := p) (g := g) (Kx.of (s18.trans s19))) hDx17
          have hl19 := (s18.trans s19) _ _ hl17
          clear am17 dx17 hDx17 hl17 s18 s19 hr19 e1 e2 htl
          -- bad, odd
          refine ⟨_, rfl, p, g, c, 60 * i + 32, rfl, am19.st, by omega, fun H20 yb kp20 st20 nb20 => ?_⟩
          have am20 := am19.kp kp20 st20
          have hDx20 := dpAll_same (wx_kx (p := p) (g := g) (Kx.kp kp20)) hDx19
          have hl20 := kp20 _ _ nl.1 nl.2 hl19
          obtain ⟨db, hb20, nb1, ob1⟩ := nb20
          have bx20 := dp_in hb20
          clear am19 dx19 hDx19 hl19 hb20
          obtain ⟨up20, hp20⟩ := st_p am20.st
          obtain ⟨ug20, hg20⟩ := st_g am20.st
          refine ⟨_, rfl, ?_⟩
          intro lo vso H21 s21 hlo hlo1 hdo
          have nlo := st_new am20.st hlo
          have lvo : vso.length = 6 := dpAll_len hdo
          refine ⟨p, g, c, 60 * i + 32 + 1, lo, vso, rfl, st_same am20.st s21, by omega, hlo1, nlo.2, by omega, by omega, fun H22 jo yo kp22 st22 hjo hyo => ?_⟩
          obtain ⟨d_o, hdo1, hdo2⟩ := dpAll_at hdo hyo
          obtain ⟨odd1, odd2⟩ := odds_no d_o (List.mem_of_getElem? hdo1)
          have ox22 : Dp K (wx p g H22) yo d_o := dp_nt (dp_same ((nw_wo hp20 hg20).trans (wo_kp kp22)) hdo2)
          have k22 : Kx p g H20 H22 := (Kx.of s21).trans (Kx.kp kp22)
          have am22 := (am20.same s21).kp kp22 st22
          have bx22 := dp_kx k22 bx20
          have hDx22 := dpAll_same (wx_kx k22) hDx20
          have hl22 := k22 _ _ nl.1 nl.2 (fun _ z => by cases z) hl20
          clear am20 bx20 hDx20 hl20 k22 s21 hdo hlo hlo1 hdo2 kp22 st22 kp20 st20 hp20 hg20
          refine ⟨by show 2 ≤ sizeLine; decide, fun pt hpt => ?_⟩
          have s23 := Pre.same_upd (o := .tup [yb, yo]) hpt
          refine ⟨pt, _, rfl, SqT.of upd_same, rfl, _, _, rfl, _, _, rfl, rfl, ?_⟩
          have am23 := am22.same s23
          have bx23 := dp_kx (Kx.of s23) bx22
          have ox23 := dp_kx (Kx.of s23) ox22
          have hDx23 := dpAll_same (wx_kx (p := p) (g := g) (Kx.of s23)) hDx22
          have hl23 := s23 _ _ hl22
          generalize upd H22 pt (.tup [yb, yo]) = H23 at am23 bx23 ox23 hDx23 hl23
          clear am22 bx22 ox22 hDx22 hl22 s23 hpt
          have shB : Sh db := ok_sh ob1 (by decide)
          -- arguments, answer, order of what is none
          refine ⟨by show 3 ≤ sizeLine; decide, fun l9 hl9 => ?_⟩
          have s24 := Pre.same_upd (o := .lst [.ref far, .ref fan, .ref for_]) hl9
          have h24 : upd H23 l9 (.lst [.ref far, .ref fan, .ref for_]) l9 = some (.lst [.ref far, .ref fan, .ref for_]) := upd_same
          have am24 := am23.same s24
          have bx24 := dp_kx (Kx.of s24) bx23
          have ox24 := dp_kx (Kx.of s24) ox23
          have hDx24 := dpAll_same (wx_kx (p := p) (g := g) (Kx.of s24)) hDx23
          have hl24 := s24 _ _ hl23
          generalize upd H23 l9 (.lst [.ref far, .ref fan, .ref for_]) = H24 at h24 am24 bx24 ox24 hDx24 hl24
          clear am23 bx23 ox23 hDx23 hl23 s24 hl9
          refine ⟨l9, rfl, ⟨_, SqL.of h24⟩, for_list (K := K) (a := l9) (xs := [.ref far, .ref fan, .ref for_]) (fun j σ H' => ∃ q6, σ = [some (.ref a), some (.ref p), some (.int (0 + (i : Int))), some (.ref ya), some (.bl true), q5, q6, some (.ref l), some (.int t.ans), some yb, some yo, o11, o12] ∧ ExtN H24 H' ∧ Tabs [(PR, qK)] H')
            ⟨o6, rfl, ExtN.refl _, am24.tb⟩ (fun _ _ H' _ ⟨_, _, e, _⟩ => SqL.of (e _ _ h24 (fun _ z => by cases z))) ?_ ?_⟩
          · rintro j v σ H10 hv ⟨q6, rfl, e10, t10⟩
            obtain ⟨fw, rfl, hfw⟩ : ∃ fw, v = .ref fw ∧ (fw = far ∨ fw = fan ∨ fw = for_) := by
              have := List.mem_of_getElem? hv
              simp only [List.mem_cons, List.not_mem_nil, or_false] at this
              rcases this with rfl | rfl | rfl
              · exact ⟨_, rfl, .inl rfl⟩
              · exact ⟨_, rfl, .inr (.inl rfl)⟩
              · exact ⟨_, rfl, .inr (.inr rfl)⟩
            refine ⟨t10, fun f0 q0 H0 eN tN n0 h0 => ?_⟩
            refine ⟨f0, q0, _, _, _, fun E => Cv.tCallV 6 (fun z => z = far ∨ z = fan ∨ z = for_) (spBK K CK) (fun _ => E) (tCons (tVar 9) tNil), rfl, upd_same, (upd_ne (ne_of_none h0 n0)).trans h0, lamS_by (by rfl), fun _ _ _ _ _ => rfl, fun A outer s H E hr => Cv.pe_callV (i := 6) (S := fun z => z = far ∨ z = fan ∨ z = for_) (hold _) hr rfl (Or.inr (Or.inr rfl)) (fun σ => passAt (takes_of rfl rfl rfl rfl) σ) (pa_cons (pv 9) pa_nil), fun E R hE _ => ?_⟩
            have eB : ∀ o, ExtN H24 (upd H0 f0 o) := fun o => e10.trans (eN.trans (ext_of (Pre.same_upd n0)))
            have tB : ∀ o, Tabs [(PR, qK)] (upd H0 f0 o) := fun o => tN.ext (Pre.same_upd n0)
            refine ⟨fw, rfl, hfw, _, rfl, yb, db, rfl, dp_out (dp_kx (Kx.ext (eB _)) bx24), shB, nb1, fun HC sC => hE (.ref CK) none HC T.eK.x (fun ea hea => ?_)⟩
            refine ⟨ea, CK, .ref CK, .ref CK, true, rfl, upd_same, T.eK.i, .own CK, T.eK.k, true, rfl, iteF ?_⟩
            exact ⟨_, rfl, ((eB _).trans (ext_of sC)).trans (ext_of (Pre.same_upd hea)), ((tB _).ext sC).ext (Pre.same_upd hea)⟩
          · rintro σ H25 ⟨q6, rfl, e25, t25⟩
            have am25 := am24.ext e25 t25
            have bx25 := dp_kx (Kx.ext e25) bx24
            have ox25 := dp_kx (Kx.ext e25) ox24
            have hDx25 := dpAll_same (wx_kx (p := p) (g := g) (Kx.ext e25)) hDx24
            have hl25 := e25 _ _ hl24 (fun _ z => by cases z)
            clear am24 bx24 ox24 hDx24 hl24 e25 t25 h24
            -- what is no list of kinds
            refine ⟨_, rfl, by show 1 ≤ sizeLine; decide, fun l1 hl1 => ?_⟩
            have z1 := Pre.same_upd (o := HO.lst [yb]) hl1
            refine ⟨by show 2 ≤ sizeLine; decide, fun u1 hu1 => ?_⟩
            have z2 := Pre.same_upd (o := HO.tup [.str "num", .int 2]) hu1
            refine ⟨by show 4 ≤ sizeLine; decide, fun l2 hl2 => ?_⟩
            have z3 := Pre.same_upd (o := HO.lst [.non, .ref l1, .ref u1, .int 5]) hl2
            have z13 := z1.trans (z2.trans z3)
            have hl1' := z3 _ _ (z2 _ _ upd_same)
            have hu1' := z3 _ _ upd_same
            have hl2' : upd (upd (upd H25 l1 (HO.lst [yb])) u1 (HO.tup [.str "num", .int 2])) l2 (HO.lst [.non, .ref l1, .ref u1, .int 5]) l2 = some (HO.lst [.non, .ref l1, .ref u1, .int 5]) := upd_same
            have am26 := am25.same z13
            have bx26 := dp_kx (Kx.of z13) bx25
            have ox26 := dp_kx (Kx.of z13) ox25
            have hDx26 := dpAll_same (wx_kx (p := p) (g := g) (Kx.of z13)) hDx25
            have hl26 := z13 _ _ hl25
            generalize upd (upd (upd H25 l1 (HO.lst [yb])) u1 (HO.tup [.str "num", .int 2])) l2 (HO.lst [.non, .ref l1, .ref u1, .int 5]) = H26 at hl1' hu1' hl2' am26 bx26 ox26 hDx26 hl26
            clear am25 bx25 ox25 hDx25 hl25 z1 z2 z3 z13
            refine ⟨l2, rfl, ⟨_, SqL.of hl2'⟩, for_list (K := K) (a := l2) (xs := [.non, .ref l1, .ref u1, .int 5]) (fun j σ H' => ∃ q11, σ = [some (.ref a), some (.ref p), some (.int (0 + (i : Int))), some (.ref ya), some (.bl true), q5, q6, some (.ref l), some (.int t.ans), some yb, some yo, q11, o12] ∧ ExtN H26 H' ∧ Tabs [(PR, qK)] H')
              ⟨o11, rfl, ExtN.refl _, am26.tb⟩ (fun _ _ H' _ ⟨_, _, e, _⟩ => SqL.of (e _ _ hl2' (fun _ z => by cases z))) ?_ ?_⟩
            · rintro j v σ H10 hv ⟨q11, rfl, e10, t10⟩
              refine ⟨t10, fun f0 q0 H0 eN tN n0 h0 => ?_⟩
              have eB : ∀ o, ExtN H26 (upd H0 f0 o) := fun o => e10.trans (eN.trans (ext_of (Pre.same_upd n0)))
              have tB : ∀ o, Tabs [(PR, qK)] (upd H0 f0 o) := fun o => tN.ext (Pre.same_upd n0)
              have out : ∀ o, Dp K (upd H0 f0 o) yo d_o := fun o => dp_out (dp_kx (Kx.ext (eB o)) ox26)
              match j, hv with
              | 0, hv =>
                cases hv
                refine ⟨f0, q0, _, _, _, fun E => tCallS (spKFall K CK CS CN) (fun _ => E) (tCons (tVar 11) (tCons (tVar 10) tNil)), rfl, upd_same, (upd_ne (ne_of_none h0 n0)).trans h0, lamS_by (by rfl), fun _ _ _ _ _ => rfl, fun A outer s H E hr => pe_callS (T.kf.ok _) (hr.mono (by decide)) rfl T.kf.at_ T.kf.kp T.bkf (fun σ => passAt (takes_of rfl rfl rfl rfl) σ) (pa_cons (pv 11) (pa_cons (pv 10) pa_nil)), fun E R hE _ => ?_⟩
                refine ⟨_, rfl, _, rfl, .inr ⟨.non, "NoneType", yo, rfl, .inl ⟨.none, .non, rfl⟩, by decide +kernel, by decide +kernel, fun HC sC => hE (.ref CS) none HC T.eS.x (fun ea hea => ?_)⟩⟩
                refine ⟨ea, CS, .ref CS, .ref CS, true, rfl, upd_same, T.eS.i, .own CS, T.eS.k, true, rfl, iteF ?_⟩
                exact ⟨_, rfl, ((eB _).trans (ext_of sC)).trans (ext_of (Pre.same_upd hea)), ((tB _).ext sC).ext (Pre.same_upd hea)⟩
              | 1, hv =>
                cases hv
                refine ⟨f0, q0, _, _, _, fun E => tCallS (spKFall K CK CS CN) (fun _ => E) (tCons (tVar 11) (tCons (tVar 10) tNil)), rfl, upd_same, (upd_ne (ne_of_none h0 n0)).trans h0, lamS_by (by rfl), fun _ _ _ _ _ => rfl, fun A outer s H E hr => pe_callS (T.kf.ok _) (hr.mono (by decide)) rfl T.kf.at_ T.kf.kp T.bkf (fun σ => passAt (takes_of rfl rfl rfl rfl) σ) (pa_cons (pv 11) (pa_cons (pv 10) pa_nil)), fun E R hE _ => ?_⟩
                refine ⟨_, rfl, _, rfl, .inl (.inl ⟨l1, [yb], [db], yo, d_o, rfl, SqL.of (eB _ _ _ hl1' (fun _ z => by cases z)), .cons (dp_out (dp_kx (Kx.ext (eB _)) bx26)) .nil, by show 1 ≤ 40; decide, fun d hd => by rw [List.mem_singleton.mp hd]; exact shB, out _, fun _ HC sC => hE (.ref CS) none HC T.eS.x (fun ea hea => ?_), fun q => ?_, fun q => ?_, fun q => ?_⟩)⟩
                · refine ⟨ea, CS, .ref CS, .ref CS, true, rfl, upd_same, T.eS.i, .own CS, T.eS.k, true, rfl, iteF ?_⟩
                  exact ⟨_, rfl, ((eB _).trans (ext_of sC)).trans (ext_of (Pre.same_upd hea)), ((tB _).ext sC).ext (Pre.same_upd hea)⟩
                all_goals
                  exfalso
                  simp only [List.all_cons, List.all_nil, nb1, Bool.false_and] at q
                  exact absurd q (by decide)
              | 2, hv =>
                cases hv
                refine ⟨f0, q0, _, _, _, fun E => tCallS (spKFall K CK CS CN) (fun _ => E) (tCons (tVar 11) (tCons (tVar 10) tNil)), rfl, upd_same, (upd_ne (ne_of_none h0 n0)).trans h0, lamS_by (by rfl), fun _ _ _ _ _ => rfl, fun A outer s H E hr => pe_callS (T.kf.ok _) (hr.mono (by decide)) rfl T.kf.at_ T.kf.kp T.bkf (fun σ => passAt (takes_of rfl rfl rfl rfl) σ) (pa_cons (pv 11) (pa_cons (pv 10) pa_nil)), fun E R hE _ => ?_⟩
                refine ⟨_, rfl, _, rfl, .inl (.inr ⟨u1, [.str "num", .int 2], [.str "num", .int 2], yo, d_o, rfl, SqT.of (eB _ _ _ hu1' (fun _ z => by cases z)), .cons (.str _) (.cons (.int _) .nil), by decide, by decide +kernel, out _, fun _ HC sC => hE (.ref CS) none HC T.eS.x (fun ea hea => ?_), fun q => ?_, fun q => ?_, fun q => ?_⟩)⟩
                · refine ⟨ea, CS, .ref CS, .ref CS, true, rfl, upd_same, T.eS.i, .own CS, T.eS.k, true, rfl, iteF ?_⟩
                  exact ⟨_, rfl, ((eB _).trans (ext_of sC)).trans (ext_of (Pre.same_upd hea)), ((tB _).ext sC).ext (Pre.same_upd hea)⟩
                all_goals
                  exfalso
                  exact absurd q (by decide +kernel)
              | 3, hv =>
                cases hv
                refine ⟨f0, q0, _, _, _, fun E => tCallS (spKFall K CK CS CN) (fun _ => E) (tCons (tVar 11) (tCons (tVar 10) tNil)), rfl, upd_same, (upd_ne (ne_of_none h0 n0)).trans h0, lamS_by (by rfl), fun _ _ _ _ _ => rfl, fun A outer s H E hr => pe_callS (T.kf.ok _) (hr.mono (by decide)) rfl T.kf.at_ T.kf.kp T.bkf (fun σ => passAt (takes_of rfl rfl rfl rfl) σ) (pa_cons (pv 11) (pa_cons (pv 10) pa_nil)), fun E R hE _ => ?_⟩
                refine ⟨_, rfl, _, rfl, .inr ⟨.int 5, "int", yo, rfl, .inl ⟨.int 5, .int 5, rfl⟩, by decide +kernel, by decide +kernel, fun HC sC => hE (.ref CS) none HC T.eS.x (fun ea hea => ?_)⟩⟩
                refine ⟨ea, CS, .ref CS, .ref CS, true, rfl, upd_same, T.eS.i, .own CS, T.eS.k, true, rfl, iteF ?_⟩
                exact ⟨_, rfl, ((eB _).trans (ext_of sC)).trans (ext_of (Pre.same_upd hea)), ((tB _).ext sC).ext (Pre.same_upd hea)⟩
              | m + 4, hv => cases hv
            · rintro σ H27 ⟨q11, rfl, e27, t27⟩
              have am27 := am26.ext e27 t27
              have ox27 := dp_kx (Kx.ext e27) ox26
              have hDx27 := dpAll_same (wx_kx (p := p) (g := g) (Kx.ext e27)) hDx26
              have hl27 := e27 _ _ hl26 (fun _ z => by cases z)
              clear am26 bx26 ox26 hDx26 hl26 e27 t27 hl2'
              refine ⟨am27.tb, fun f0 q0 H0 eN tN n0 h0 => ?_⟩
              have eB : ∀ o, ExtN H27 (upd H0 f0 o) := fun o => eN.trans (ext_of (Pre.same_upd n0))
              have tB : ∀ o, Tabs [(PR, qK)] (upd H0 f0 o) := fun o => tN.ext (Pre.same_upd n0)
              refine ⟨f0, q0, _, _, _, fun E => tCallS (spKFall K CK CS CN) (fun _ => E) (tCons (tVar 7) (tCons (tVar 10) tNil)), rfl, upd_same, (upd_ne (ne_of_none h0 n0)).trans h0, lamS_by (by rfl), fun _ _ _ _ _ => rfl, fun A outer s H E hr => pe_callS (T.kf.ok _) (hr.mono (by decide)) rfl T.kf.at_ T.kf.kp T.bkf (fun σ => passAt (takes_of rfl rfl rfl rfl) σ) (pa_cons (pv 7) (pa_cons (pv 10) pa_nil)), fun E R hE _ => ?_⟩
              refine ⟨_, rfl, _, rfl, .inl (.inl ⟨l, ys, t.args.map Kd.dat, yo, d_o, rfl, SqL.of (eB _ _ _ hl27 (fun _ z => by cases z)), dpAll_same (wx_sub (p := p) (g := g)) (dpAll_same (wx_kx (Kx.ext (eB _))) hDx27), by omega, shA, dp_out (dp_kx (Kx.ext (eB _)) ox27), fun q => ?_, fun _ _ HC sC => hE (.ref CN) none HC T.eN.x (fun ea hea => ?_), fun _ q => ?_, fun _ q => ?_⟩)⟩
              · rw [allK] at q
                cases q
              · refine ⟨ea, CN, .ref CN, .ref CN, true, rfl, upd_same, T.eN.i, .own CN, T.eN.k, true, rfl, iteF ?_⟩
                exact ⟨_, _, _, _, _, _, _, _, _, _, _, rfl, ⟨st_more (st_ext (st_same (st_ext am27.st (eB _)) sC) (ext_of (Pre.same_upd hea))) (by omega), ((tB _).ext sC).ext (Pre.same_upd hea)⟩⟩
              · rw [odd1] at q
                cases q
              · rw [odd1] at q
                cases q
    · rintro σ H' ⟨o2, o3, o4, o5, o6, o7, o8, o9, o10, o11, o12, rfl, am⟩
      exact k H'
end
end Kn

namespace Gd
open PySem PySem.Spec PyProof.Rows L2
open LamX (TabB)
/-- the law's call, where it makes texts of things and where one def of it makes lambdas: c that def's code, P the table of it -/
theorem call_G {P0 : Program} {w : World} {K : PySem.W.Frag} {mg mb : Str → Option Value} {CX : CXT} {k : Nat} {fa a c P : Addr} {fd : FuncData} {x : Str} {sp : Sp} {sA : Shared} {us : List Value} {zs : List Int}
    (inK : K.In sA.heap) (nsG : sA.heap.Ns mainGlobals mg) (nsB : sA.heap.Ns builtinsNs mb) (bts : ∀ y : Str, y ≠ "__name__" → mb y = bootBuiltins y) (lim : sA.heap.NoLimit) (gen0 : sA.gens = #[])
    (tab0 : sA.heap.get? P = some { cls := .none, data := .fields #[] }) (offK : K.lookup P = none) (cd : PySem.W.CodeHd sA.heap c P)
    (bmod : ∃ (m : Addr) (om : Obj), mg "__builtins__" = some (.ref m) ∧ m ≠ builtinsNs ∧ sA.heap.get? m = some om ∧ om.cls = .type "module" ∧ om.dict = some builtinsNs ∧ om.data = .plain)
    (scr : sA.heap.get? a = some { cls := .type "list", data := .seq us.toArray }) (nums : IntsAre us zs) (few : zs.length ≤ sizeLine) (room : Room k callerA)
    (prom : ∀ base : Heap, K.In base → base.Ns mainGlobals mg → TabB base mg c P → FnG P0 w K mg base CX k fa fd [x] sp) (bnd : ∀ (s : Shared) (u : Value), BindsTo s fd ⟨[u], []⟩ [(x, u)])
    (wish : ∀ H : Hp, H P = some (.tbl #[]) → SqL K H a (zs.map V.int) → sp [.ref a] H (fun v _ => v = .bl true) fun _ _ _ => False)
    (noX : ∀ H e s', CX [] H sA (fun _ _ _ => False) e s' → False) :
    codeAny (model P0 w) callerA (.call (.ref fa) ⟨[.ref a], []⟩) (fun r s' => r = .ok (.ret (.bool true)) ∧ OldK sA.heap s'.heap ∧ s'.os = sA.os ∧ AllBare s'.gens) sA := by
  have rel := vals_ints nums
  have same := nums.length
  have aP : a ≠ P := fun z => by
    rw [← z, scr] at tab0
    have y : Data.seq us.toArray _ = Data.fields #[] := congrArg Obj.data (Option.some.inj tab0)
    cases y
  -- H tracks the table, and the script if it is none of the module's own things
  have go : ∀ H : Hp, H P = some (.tbl #[]) → (∀ b, b ≠ P → b ≠ a → H b = none) → (H a = none ∨ ∃ o ys, H a = some (.frz o (.lst ys))) → (H a ≠ none → K.lookup a = none) → SqL K H a (zs.map V.int) → HOk P0 w H sA.heap →
      codeAny (model P0 w) callerA (.call (.ref fa) ⟨[.ref a], []⟩) (fun r s' => r = .ok (.ret (.bool true)) ∧ OldK sA.heap s'.heap ∧ s'.os = sA.os ∧ AllBare s'.gens) sA := by
    intro H tP rest atA atK sq ok
    have keep : ∀ {b : Addr} {o : Obj}, sA.heap.get? b = some o → H b = none → (hidT sA.heap H).get? b = some o := fun e n => hidT_get e n
    -- what is no list and no empty table is not tracked
    have off : ∀ {b : Addr} {o : Obj}, sA.heap.get? b = some o → (∀ ys n, o.data ≠ .seq ys n) → o.data ≠ .fields #[] → H b = none := fun {b o} e h1 h2 => by
      by_cases h3 : b = P
      · rw [h3, tab0] at e
        cases e
        exact absurd rfl h2
      · by_cases h4 : b = a
        · rw [h4, scr] at e
          cases e
          exact absurd rfl (h1 _ _)
        · exact rest b h3 h4
    have offD : ∀ {b : Addr} {o : Obj} {es : Array DictEntry} {ep : Nat}, sA.heap.get? b = some o → o.data = .dict es ep → H b = none := fun {b o es ep} e d => off e (fun ys n z => by
      rw [d] at z
      cases z) (fun z => by
      rw [d] at z
      cases z)
    have nsOf : ∀ {b : Addr} {m : Str → Option Value}, sA.heap.Ns b m → (hidT sA.heap H).Ns b m := fun {b m} ⟨o, es, ep, e, d, r⟩ => ⟨o, es, ep, keep e (offD e d), d, r⟩
    have inB : K.In (hidT sA.heap H) := fun b o e => keep (inK b o e) (by
      by_cases h3 : b = P
      · rw [h3, offK] at e
        cases e
      · by_cases h4 : b = a
        · cases q : H a with
          | none => rw [h4, q]
          | some u =>
            rw [h4, atK (by rw [q]; simp)] at e
            cases e
        · exact rest b h3 h4)
    have modB : L2.Mod K mg (hidT sA.heap H) := ⟨inB, nsOf nsG, ⟨mb, nsOf nsB, bts⟩, let ⟨mc, h1, h2⟩ := lim; ⟨mc, nsOf h1, h2⟩⟩
    have TB : TabB (hidT sA.heap H) mg c P := by
      refine ⟨?_, ?_, fun z => ?_⟩
      · obtain ⟨o, fv, file, tf, flags, tg, inF, text, tt, k1, k2, k3, k4, k5, k6, k7, k8, k9, k10⟩ := cd
        refine ⟨o, fv, file, tf, flags, tg, inF, text, tt, keep k1 (off k1 (fun ys n z => ?_) fun z => ?_), k2, k3, k4, k5, k6, k7, k8, k9, k10⟩
        · rw [k3] at z
          cases z
        · rw [k3] at z
          cases z
          simp at k4
      · obtain ⟨m, om, k1, k2, k3, k4, k5, k6⟩ := bmod
        have n1 : m ≠ mainGlobals := fun z => by
          obtain ⟨o, es, ep, e, d, _⟩ := nsG
          rw [z, e] at k3
          cases k3
          rw [d] at k6
          cases k6
        have n2 : m ≠ P := fun z => by
          rw [z, tab0] at k3
          cases k3
          cases k6
        exact ⟨m, om, k1, k2, n1, n2, keep k3 (off k3 (fun ys n z => by rw [k6] at z; cases z) fun z => by rw [k6] at z; cases z), k4, k5, k6⟩
      · obtain ⟨o, es, ep, e, d, _⟩ := nsG
        rw [z, tab0] at e
        cases e
        cases d
    have e0 : Env0 P0 w K mg (hidT sA.heap H) callerA [] sA H := ⟨rfl, modB, fun b o e => of_hidT e, Nat.le_of_eq (hidT_size _ _), trivial, fun b hb => (by cases hb), ok, .of_eq gen0⟩
    refine codeAny_mono ((prom _ inB (nsOf nsG) TB).goes callerA [] sA H ⟨[.ref a], []⟩ [.ref a] [.ref a] _ _ room rfl e0 (bnd sA (.ref a)) (.cons rfl .nil) (wish H tP sq)) fun r s' out => ?_
    cases r with
    | error e => exact (noX H e s' out).elim
    | ok fl =>
      cases fl with
      | next => exact out.elim
      | brk => exact out.elim
      | cont => exact out.elim
      | ret u =>
        obtain ⟨v, H', os, bare, un, ok', rv, told⟩ := out
        obtain rfl : v = .bl true := told
        obtain rfl : u = Value.bool true := rv
        have stays : ∀ b o, b ≠ P → sA.heap.get? b = some o → s'.heap.get? b = some o := fun b o nb e => by
          cases q : H b with
          | none => exact un.keep b o e q (fun z => by cases z) (by simp)
          | some u =>
            by_cases h4 : b = a
            · rcases atA with z | ⟨o', ys, z⟩
              · rw [← h4, q] at z
                cases z
              · rw [← h4] at z
                obtain ⟨k1, _⟩ := ok b _ z
                obtain ⟨k2, _⟩ := ok' b _ (un.frzs b o' _ z)
                rw [e] at k1
                cases k1
                exact k2
            · rw [rest b nb h4] at q
              cases q
        have grown : ∃ more : Array Value, s'.heap.get? P = some { cls := .none, data := .fields more } := by
          obtain ⟨more, z⟩ := un.tbls P #[] tP
          exact ⟨_, ok' P _ z⟩
        refine ⟨rfl, ⟨fun b o e => ?_, fun b o e => ?_⟩, os, bare⟩
        · by_cases nb : b = P
          · obtain ⟨more, hm⟩ := grown
            subst nb
            rw [tab0] at e
            cases e
            exact .inr (.inl ⟨(cd.tab tab0).isCodeTable, rfl, #[], more, rfl, by rw [Array.empty_append]; exact hm⟩)
          · exact .inl (stays b o nb e)
        · by_cases nb : b = P
          · obtain ⟨more, hm⟩ := grown
            subst nb
            exact ⟨_, hm⟩
          · exact ⟨o, stays b o nb e⟩
  cases hk : K.lookup a with
  | some o =>
    have e := inK a o hk
    rw [scr] at e
    cases e
    refine go (fun b => if b = P then some (.tbl #[]) else none) (if_pos rfl) (fun b h1 _ => if_neg h1) (.inl (if_neg aP)) (fun z => absurd (if_neg aP) z) (.inr ⟨_, us.toArray, _, hk, rfl, rfl, rfl, by rw [List.size_toArray, same]; exact few, by simpa using rel⟩) fun b u z => ?_
    by_cases nb : b = P
    · have y := (if_pos nb).symm.trans z
      cases y
      subst nb
      exact tab0
    · have y := (if_neg nb).symm.trans z
      cases y
  | none =>
    refine go (fun b => if b = P then some (.tbl #[]) else if b = a then some (.frz { cls := .type "list", data := .seq us.toArray } (.lst (zs.map V.int))) else none) (if_pos rfl) (fun b h1 h2 => (if_neg h1).trans (if_neg h2)) (.inr ⟨_, _, (if_neg aP).trans (if_pos rfl)⟩) (fun _ => hk)
      (.inl (.inr ⟨{ cls := .type "list", data := .seq us.toArray }, (if_neg aP).trans (if_pos rfl)⟩)) fun b u z => ?_
    by_cases nb : b = P
    · have y := (if_pos nb).symm.trans z
      cases y
      subst nb
      exact tab0
    · have z1 := (if_neg nb).symm.trans z
      by_cases hb : b = a
      · have y := (if_pos hb).symm.trans z1
        cases y
        subst hb
        exact ⟨scr, by rw [List.length_map]; exact few, us, _, rel, scr⟩
      · have y := (if_neg hb).symm.trans z1
        cases y
/-- the end of such a row: xl the def with the lambdas -/
theorem walk_G {l : PySem.W.OpenLaw} {k : Nat} {q : Program} {loose : List Str} {XP : (Str → Option Value) → Heap → Prop} {YP : World → Heap → Prop} {d dl : DefRec} {K : Params → PySem.W.Frag} {x xl : Str} {sp : PySem.W.Frag → Addr → Sp}
    (hn : l.most = some 63) (hdf : d.params.defaults = []) (room : Room k callerA) (inY : ∀ (w : World) (h : Heap), YP w h → (K w.params).In h) (hrec : (recsOf q).find? (fun e => e.name == xl) = some dl)
    (wish : ∀ (K : PySem.W.Frag) (P : Addr) (H : Hp) (a : Addr) (zs : List Int), zs.length ≤ 63 → H P = some (.tbl #[]) → SqL K H a (zs.map V.int) → sp K P [.ref a] H (fun v _ => v = .bl true) fun _ _ _ => False)
    (F : ∀ (w : World) (mg : Str → Option Value) (fa : Addr) (h : Heap), (K w.params).In h → h.Ns mainGlobals mg → mg d.name = some (.ref fa) →
      ∃ (fd : FuncData) (c P : Addr), PySem.W.tabIn (K w.params) xl = some (c, P) ∧ PySem.W.noTabs (K w.params) = true ∧ (∀ (s : Shared) (u : Value), BindsTo s fd ⟨[u], []⟩ [(x, u)]) ∧
        ∀ base : Heap, (K w.params).In base → base.Ns mainGlobals mg → TabB base mg c P → FnG l.prog w (K w.params) mg base CX0 k fa fd [x] (sp (K w.params) P)) :
    PySem.W.WalkO q loose XP YP l.row.toRowW d [] (fun f vs => PySem.call f vs) := by
  refine Att.attach_callB hn hdf fun w s₀ sA mg mb fa o pm cd doc a us zs G Y ho hd hcd hmg scr nums few bits gen0 => ?_
  have inK := inY w _ Y
  obtain ⟨fd, c, P, tI, noT, bnd, prom⟩ := F w mg fa _ inK G.T.g hmg
  obtain ⟨hcode, tab0⟩ := PySem.W.tab_of G.T inK hrec tI
  have offK : (K w.params).lookup P = none := by
    cases hk : (K w.params).lookup P with
    | none => rfl
    | some ob =>
      have y := List.all_eq_true.mp noT (P, ob) (PySem.W.mem_of_lookupK hk)
      have z := (inK P ob hk).symm.trans tab0
      cases z
      exact absurd (show false = true from y) Bool.false_ne_true
  exact call_G inK G.T.g G.T.b G.T.builtins G.T.nolimit gen0 tab0 offK hcode G.T.bmain scr nums (Nat.le_trans few (by decide)) room prom bnd (fun H hH hS => wish _ P H a zs few hH hS) fun _ _ _ z => z
end Gd

namespace Kn
open PySem PySem.Spec PyProof.Rows L2
open Wt Dc Us Xt
open LamX (TabB)
theorem tab_in {K : PySem.W.Frag} {x q : Str} {f c P : Addr} {oc kV dc pm ct ec : Value} {od an ed : Option Addr} {sl esl : Array (Option Value)} {ps : Arguments} {bd : List Stmt} {sc : Scope} {ev : Array Value} (h1 : PySem.W.nsIn K mainGlobals x = some (some (.ref f)))
    (h2 : K.lookup f = some ⟨oc, od, .func (PySem.W.fnOf x q ps bd sc .none kV dc pm an (.ref c) ct), sl⟩) (h3 : K.lookup c = some ⟨ec, ed, .fields ev, esl⟩) (h4 : ev[11]? = some (.ref P)) : PySem.W.tabIn K x = some (c, P) := by
  unfold PySem.W.tabIn
  rw [h1]
  show (match K.lookup f with
    | some ⟨_, _, .func fd, _⟩ => (match fd.code with
      | .ref c => (match K.lookup c with
        | some ⟨_, _, .fields vs, _⟩ => (match (vs[11]? : Option Value) with
          | some (.ref P) => some (c, P)
          | _ => none)
        | _ => none)
      | _ => none)
    | _ => none) = some (c, P)
  rw [h2]
  show (match K.lookup c with
        | some ⟨_, _, .fields vs, _⟩ => (match (vs[11]? : Option Value) with
          | some (.ref P) => some (c, P)
          | _ => none)
        | _ => none) = some (c, P)
  rw [h3]
  show (match (ev[11]? : Option Value) with
          | some (.ref P) => some (c, P)
          | _ => none) = some (c, P)
  rw [h4]
theorem all_mk {l : PySem.W.OpenLaw} {w : World} {K : PySem.W.Frag} {h : Heap} {mg : Str → Option Value} {fa fa1 fa2 fa3 fa4 fa5 fa6 fa7 fa8 fa9 fb1 fb2 fb3 fb4 fb5 fA fB fD fP fC fT fS fWa fAt fPu fNu fSp fBe fBk fWh fIk fCo fKy fO fW : Addr} (X : K.In h) (G : h.Ns mainGlobals mg) (hfa : mg "law" = some (.ref fa))
    {oca kVa dca pma cda cta : Value} {oda ana : Option Addr} {sla : Array (Option Value)}
    {ocb kVb dcb pmb cdb ctb : Value} {odb anb : Option Addr} {slb : Array (Option Value)}
    {occ kVc dcc pmc cdc ctc : Value} {odc anc : Option Addr} {slc : Array (Option Value)}
    {ocd kVd dcd pmd cdd ctd : Value} {odd and : Option Addr} {sld : Array (Option Value)}
    {oce kVe dce pme cde cte : Value} {ode ane : Option Addr} {sle : Array (Option Value)}
    {ocf kVf dcf pmf cdf ctf : Value} {odf anf : Option Addr} {slf : Array (Option Value)}
    {ocg kVg dcg pmg cdg ctg : Value} {odg ang : Option Addr} {slg : Array (Option Value)}
    {och kVh dch pmh cdh cth : Value} {odh anh : Option Addr} {slh : Array (Option Value)}
    {oci kVi dci pmi cdi cti : Value} {odi ani : Option Addr} {sli : Array (Option Value)}
    {ocj kVj dcj pmj cdj ctj : Value} {odj anj : Option Addr} {slj : Array (Option Value)}
    {ock kVk dck pmk cdk ctk : Value} {odk ank : Option Addr} {slk : Array (Option Value)}
    {ocl kVl dcl pml cdl ctl : Value} {odl anl : Option Addr} {sll : Array (Option Value)}
    {ocm kVm dcm pmm cdm ctm : Value} {odm anm : Option Addr} {slm : Array (Option Value)}
    {ocn kVn dcn pmn cdn ctn : Value} {odn ann : Option Addr} {sln : Array (Option Value)}
    {ocA kVA dcA pmA cdA ctA : Value} {odA anA : Option Addr} {slA : Array (Option Value)}
    {ocB kVB dcB pmB cdB ctB : Value} {odB anB : Option Addr} {slB : Array (Option Value)}
    {ocD kVD dcD pmD cdD ctD : Value} {odD anD : Option Addr} {slD : Array (Option Value)}
    {ocP kVP dcP pmP cdP ctP : Value} {odP anP : Option Addr} {slP : Array (Option Value)}
    {ocC kVC dcC pmC cdC ctC : Value} {odC anC : Option Addr} {slC : Array (Option Value)}
    {ocTr kVTr dcTr pmTr cdTr ctTr : Value} {odTr anTr : Option Addr} {slTr : Array (Option Value)}
    {ocS kVS dcS pmS cdS ctS : Value} {odS anS : Option Addr} {slS : Array (Option Value)}
    {ocWa kVWa dcWa pmWa cdWa ctWa : Value} {odWa anWa : Option Addr} {slWa : Array (Option Value)}
    {ocAt kVAt dcAt pmAt cdAt ctAt : Value} {odAt anAt : Option Addr} {slAt : Array (Option Value)}
    {ocPu kVPu dcPu pmPu cdPu ctPu : Value} {odPu anPu : Option Addr} {slPu : Array (Option Value)}
    {ocNu kVNu dcNu pmNu cdNu ctNu : Value} {odNu anNu : Option Addr} {slNu : Array (Option Value)}
    {ocSp kVSp dcSp pmSp cdSp ctSp : Value} {odSp anSp : Option Addr} {slSp : Array (Option Value)}
    {ocBe kVBe dcBe pmBe cdBe ctBe : Value} {odBe anBe : Option Addr} {slBe : Array (Option Value)}
    {ocBk kVBk dcBk pmBk cdBk ctBk : Value} {odBk anBk : Option Addr} {slBk : Array (Option Value)}
    {ocWh kVWh dcWh pmWh cdWh ctWh : Value} {odWh anWh : Option Addr} {slWh : Array (Option Value)}
    {ocIk kVIk dcIk pmIk cdIk ctIk : Value} {odIk anIk : Option Addr} {slIk : Array (Option Value)}
    {ocCo kVCo dcCo pmCo cdCo ctCo : Value} {odCo anCo : Option Addr} {slCo : Array (Option Value)}
    {ocKy kVKy dcKy pmKy cdKy ctKy : Value} {odKy anKy : Option Addr} {slKy : Array (Option Value)}
    {ocO kVO dcO pmO cdO ctO : Value} {odO anO : Option Addr} {slO : Array (Option Value)}
    {ocW kVW dcW pmW ctW : Value} {odW anW : Option Addr} {slW : Array (Option Value)}
    {ec : Value} {ed : Option Addr} {esl : Array (Option Value)} {t6 t12 : Tok} {cR PR CB CK CS CN : Addr} {ev : Array Value}
    (na : PySem.W.nsIn K mainGlobals "is_whole" = some (some (.ref fa1)))
    (nb : PySem.W.nsIn K mainGlobals "is_within" = some (some (.ref fa2)))
    (nc : PySem.W.nsIn K mainGlobals "is_list" = some (some (.ref fa3)))
    (nd : PySem.W.nsIn K mainGlobals "is_tuple_of" = some (some (.ref fa4)))
    (ne : PySem.W.nsIn K mainGlobals "is_num" = some (some (.ref fa5)))
    (nf : PySem.W.nsIn K mainGlobals "_is_to" = some (some (.ref fa6)))
    (ng : PySem.W.nsIn K mainGlobals "is_kind" = some (some (.ref fa7)))
    (nh : PySem.W.nsIn K mainGlobals "arguments_and_answer" = some (some (.ref fa8)))
    (ni : PySem.W.nsIn K mainGlobals "check_kind" = some (some (.ref fa9)))
    (nj : PySem.W.nsIn K mainGlobals "arguments" = some (some (.ref fb1)))
    (nk : PySem.W.nsIn K mainGlobals "answer" = some (some (.ref fb2)))
    (nl : PySem.W.nsIn K mainGlobals "kind_from" = some (some (.ref fb3)))
    (nm : PySem.W.nsIn K mainGlobals "order_of" = some (some (.ref fb4)))
    (nn : PySem.W.nsIn K mainGlobals "order" = some (some (.ref fb5)))
    (nA : PySem.W.nsIn K mainGlobals "_law_begun" = some (some (.ref fA)))
    (nB : PySem.W.nsIn K mainGlobals "_law_blended" = some (some (.ref fB)))
    (nD : PySem.W.nsIn K mainGlobals "_law_draw" = some (some (.ref fD)))
    (nP : PySem.W.nsIn K mainGlobals "_law_pick" = some (some (.ref fP)))
    (nC : PySem.W.nsIn K mainGlobals "_law_caught" = some (some (.ref fC)))
    (nTr : PySem.W.nsIn K mainGlobals "_law_is_truth" = some (some (.ref fT)))
    (nS : PySem.W.nsIn K mainGlobals "_law_cp_same" = some (some (.ref fS)))
    (nWa : PySem.W.nsIn K mainGlobals "_law_cp_wanted" = some (some (.ref fWa)))
    (nAt : PySem.W.nsIn K mainGlobals "_law_cp_at" = some (some (.ref fAt)))
    (nPu : PySem.W.nsIn K mainGlobals "_law_cp_put" = some (some (.ref fPu)))
    (nNu : PySem.W.nsIn K mainGlobals "_law_cp_nums" = some (some (.ref fNu)))
    (nSp : PySem.W.nsIn K mainGlobals "_law_cp_spots" = some (some (.ref fSp)))
    (nBe : PySem.W.nsIn K mainGlobals "_law_cp_bent" = some (some (.ref fBe)))
    (nBk : PySem.W.nsIn K mainGlobals "_law_cp_bad_kind" = some (some (.ref fBk)))
    (nWh : PySem.W.nsIn K mainGlobals "_law_cp_whole" = some (some (.ref fWh)))
    (nIk : PySem.W.nsIn K mainGlobals "_law_cp_is_kind" = some (some (.ref fIk)))
    (nCo : PySem.W.nsIn K mainGlobals "_law_cp_counted" = some (some (.ref fCo)))
    (nKy : PySem.W.nsIn K mainGlobals "_law_any_kind" = some (some (.ref fKy)))
    (nO : PySem.W.nsIn K mainGlobals "_law_order" = some (some (.ref fO)))
    (nW : PySem.W.nsIn K mainGlobals "law" = some (some (.ref fW)))
    (la : K.lookup fa1 = some ⟨oca, oda, .func (PySem.W.fnOf "is_whole" "is_whole" (defArgs sIsWhole) (defBody sIsWhole) (defScope sIsWhole) .none kVa dca pma ana cda cta), sla⟩)
    (cca : PySem.W.codeIn K cda "is_whole" = true)
    (kka : PySem.W.keepIn K (.ref fa1) = true)
    (lb : K.lookup fa2 = some ⟨ocb, odb, .func (PySem.W.fnOf "is_within" "is_within" (defArgs sWithin) (defBody sWithin) (defScope sWithin) .none kVb dcb pmb anb cdb ctb), slb⟩)
    (ccb : PySem.W.codeIn K cdb "is_within" = true)
    (kkb : PySem.W.keepIn K (.ref fa2) = true)
    (lc : K.lookup fa3 = some ⟨occ, odc, .func (PySem.W.fnOf "is_list" "is_list" (defArgs sIsList) (defBody sIsList) (defScope sIsList) .none kVc dcc pmc anc cdc ctc), slc⟩)
    (ccc : PySem.W.codeIn K cdc "is_list" = true)
    (kkc : PySem.W.keepIn K (.ref fa3) = true)
    (ld : K.lookup fa4 = some ⟨ocd, odd, .func (PySem.W.fnOf "is_tuple_of" "is_tuple_of" (defArgs sIsTup) (defBody sIsTup) (defScope sIsTup) .none kVd dcd pmd and cdd ctd), sld⟩)
    (ccd : PySem.W.codeIn K cdd "is_tuple_of" = true)
    (kkd : PySem.W.keepIn K (.ref fa4) = true)
    (le : K.lookup fa5 = some ⟨oce, ode, .func (PySem.W.fnOf "is_num" "is_num" (defArgs sIsNum) (defBody sIsNum) (defScope sIsNum) .none kVe dce pme ane cde cte), sle⟩)
    (cce : PySem.W.codeIn K cde "is_num" = true)
    (kke : PySem.W.keepIn K (.ref fa5) = true)
    (lf : K.lookup fa6 = some ⟨ocf, odf, .func (PySem.W.fnOf "_is_to" "_is_to" (defArgs sIsTo) (defBody sIsTo) (defScope sIsTo) .none kVf dcf pmf anf cdf ctf), slf⟩)
    (ccf : PySem.W.codeIn K cdf "_is_to" = true)
    (kkf : PySem.W.keepIn K (.ref fa6) = true)
    (lg : K.lookup fa7 = some ⟨ocg, odg, .func (PySem.W.fnOf "is_kind" "is_kind" (defArgs sIsKind) (defBody sIsKind) (defScope sIsKind) .none kVg dcg pmg ang cdg ctg), slg⟩)
    (ccg : PySem.W.codeIn K cdg "is_kind" = true)
    (kkg : PySem.W.keepIn K (.ref fa7) = true)
    (lh : K.lookup fa8 = some ⟨och, odh, .func (PySem.W.fnOf "arguments_and_answer" "arguments_and_answer" (defArgs sArgAns) (defBody sArgAns) (defScope sArgAns) .none kVh dch pmh anh cdh cth), slh⟩)
    (cch : PySem.W.codeIn K cdh "arguments_and_answer" = true)
    (kkh : PySem.W.keepIn K (.ref fa8) = true)
    (li : K.lookup fa9 = some ⟨oci, odi, .func (PySem.W.fnOf "check_kind" "check_kind" (defArgs sCheckKind) (defBody sCheckKind) (defScope sCheckKind) .none kVi dci pmi ani cdi cti), sli⟩)
    (cci : PySem.W.codeIn K cdi "check_kind" = true)
    (kki : PySem.W.keepIn K (.ref fa9) = true)
    (lj : K.lookup fb1 = some ⟨ocj, odj, .func (PySem.W.fnOf "arguments" "arguments" (defArgs sArguments) (defBody sArguments) (defScope sArguments) .none kVj dcj pmj anj cdj ctj), slj⟩)
    (ccj : PySem.W.codeIn K cdj "arguments" = true)
    (kkj : PySem.W.keepIn K (.ref fb1) = true)
    (lk : K.lookup fb2 = some ⟨ock, odk, .func (PySem.W.fnOf "answer" "answer" (defArgs sAnswer) (defBody sAnswer) (defScope sAnswer) .none kVk dck pmk ank cdk ctk), slk⟩)
    (cck : PySem.W.codeIn K cdk "answer" = true)
    (kkk : PySem.W.keepIn K (.ref fb2) = true)
    (ll : K.lookup fb3 = some ⟨ocl, odl, .func (PySem.W.fnOf "kind_from" "kind_from" (defArgs sKindFrom) (defBody sKindFrom) (defScope sKindFrom) .none kVl dcl pml anl cdl ctl), sll⟩)
    (ccl : PySem.W.codeIn K cdl "kind_from" = true)
    (kkl : PySem.W.keepIn K (.ref fb3) = true)
    (lm : K.lookup fb4 = some ⟨ocm, odm, .func (PySem.W.fnOf "order_of" "order_of" (defArgs sOrderOf) (defBody sOrderOf) (defScope sOrderOf) .none kVm dcm pmm anm cdm ctm), slm⟩)
    (ccm : PySem.W.codeIn K cdm "order_of" = true)
    (kkm : PySem.W.keepIn K (.ref fb4) = true)
    (ln : K.lookup fb5 = some ⟨ocn, odn, .func (PySem.W.fnOf "order" "order" (defArgs sOrder) (defBody sOrder) (defScope sOrder) .none kVn dcn pmn ann cdn ctn), sln⟩)
    (ccn : PySem.W.codeIn K cdn "order" = true)
    (kkn : PySem.W.keepIn K (.ref fb5) = true)
    (lA : K.lookup fA = some ⟨ocA, odA, .func (PySem.W.fnOf "_law_begun" "_law_begun" (defArgs Pre.sBegun) (defBody Pre.sBegun) (defScope Pre.sBegun) .none kVA dcA pmA anA cdA ctA), slA⟩)
    (ccA : PySem.W.codeIn K cdA "_law_begun" = true)
    (kkA : PySem.W.keepIn K (.ref fA) = true)
    (lB : K.lookup fB = some ⟨ocB, odB, .func (PySem.W.fnOf "_law_blended" "_law_blended" (defArgs Pre.sBlended) (defBody Pre.sBlended) (defScope Pre.sBlended) .none kVB dcB pmB anB cdB ctB), slB⟩)
    (ccB : PySem.W.codeIn K cdB "_law_blended" = true)
    (kkB : PySem.W.keepIn K (.ref fB) = true)
    (lD : K.lookup fD = some ⟨ocD, odD, .func (PySem.W.fnOf "_law_draw" "_law_draw" (defArgs Pre.sDraw) (defBody Pre.sDraw) (defScope Pre.sDraw) .none kVD dcD pmD anD cdD ctD), slD⟩)
    (ccD : PySem.W.codeIn K cdD "_law_draw" = true)
    (kkD : PySem.W.keepIn K (.ref fD) = true)
    (lP : K.lookup fP = some ⟨ocP, odP, .func (PySem.W.fnOf "_law_pick" "_law_pick" (defArgs Pre.sPick) (defBody Pre.sPick) (defScope Pre.sPick) .none kVP dcP pmP anP cdP ctP), slP⟩)
    (ccP : PySem.W.codeIn K cdP "_law_pick" = true)
    (kkP : PySem.W.keepIn K (.ref fP) = true)
    (lC : K.lookup fC = some ⟨ocC, odC, .func (PySem.W.fnOf "_law_caught" "_law_caught" (defArgs Lm.sCaught) (defBody Lm.sCaught) (defScope Lm.sCaught) .none kVC dcC pmC anC cdC ctC), slC⟩)
    (ccC : PySem.W.codeIn K cdC "_law_caught" = true)
    (kkC : PySem.W.keepIn K (.ref fC) = true)
    (lTr : K.lookup fT = some ⟨ocTr, odTr, .func (PySem.W.fnOf "_law_is_truth" "_law_is_truth" (defArgs sTruth) (defBody sTruth) (defScope sTruth) .none kVTr dcTr pmTr anTr cdTr ctTr), slTr⟩)
    (ccTr : PySem.W.codeIn K cdTr "_law_is_truth" = true)
    (kkTr : PySem.W.keepIn K (.ref fT) = true)
    (lS : K.lookup fS = some ⟨ocS, odS, .func (PySem.W.fnOf "_law_cp_same" "_law_cp_same" (defArgs sSame) (defBody sSame) (defScope sSame) .none kVS dcS pmS anS cdS ctS), slS⟩)
    (ccS : PySem.W.codeIn K cdS "_law_cp_same" = true)
    (kkS : PySem.W.keepIn K (.ref fS) = true)
    (lWa : K.lookup fWa = some ⟨ocWa, odWa, .func (PySem.W.fnOf "_law_cp_wanted" "_law_cp_wanted" (defArgs sWanted) (defBody sWanted) (defScope sWanted) .none kVWa dcWa pmWa anWa cdWa ctWa), slWa⟩)
    (ccWa : PySem.W.codeIn K cdWa "_law_cp_wanted" = true)
    (kkWa : PySem.W.keepIn K (.ref fWa) = true)
    (lAt : K.lookup fAt = some ⟨ocAt, odAt, .func (PySem.W.fnOf "_law_cp_at" "_law_cp_at" (defArgs sAtL) (defBody sAtL) (defScope sAtL) .none kVAt dcAt pmAt anAt cdAt ctAt), slAt⟩)
    (ccAt : PySem.W.codeIn K cdAt "_law_cp_at" = true)
    (kkAt : PySem.W.keepIn K (.ref fAt) = true)
    (lPu : K.lookup fPu = some ⟨ocPu, odPu, .func (PySem.W.fnOf "_law_cp_put" "_law_cp_put" (defArgs sPut) (defBody sPut) (defScope sPut) .none kVPu dcPu pmPu anPu cdPu ctPu), slPu⟩)
    (ccPu : PySem.W.codeIn K cdPu "_law_cp_put" = true)
    (kkPu : PySem.W.keepIn K (.ref fPu) = true)
    (lNu : K.lookup fNu = some ⟨ocNu, odNu, .func (PySem.W.fnOf "_law_cp_nums" "_law_cp_nums" (defArgs sNumsL) (defBody sNumsL) (defScope sNumsL) .none kVNu dcNu pmNu anNu cdNu ctNu), slNu⟩)
    (ccNu : PySem.W.codeIn K cdNu "_law_cp_nums" = true)
    (kkNu : PySem.W.keepIn K (.ref fNu) = true)
    (lSp : K.lookup fSp = some ⟨ocSp, odSp, .func (PySem.W.fnOf "_law_cp_spots" "_law_cp_spots" (defArgs sSpots) (defBody sSpots) (defScope sSpots) .none kVSp dcSp pmSp anSp cdSp ctSp), slSp⟩)
    (ccSp : PySem.W.codeIn K cdSp "_law_cp_spots" = true)
    (kkSp : PySem.W.keepIn K (.ref fSp) = true)
    (lBe : K.lookup fBe = some ⟨ocBe, odBe, .func (PySem.W.fnOf "_law_cp_bent" "_law_cp_bent" (defArgs sBent) (defBody sBent) (defScope sBent) .none kVBe dcBe pmBe anBe cdBe ctBe), slBe⟩)
    (ccBe : PySem.W.codeIn K cdBe "_law_cp_bent" = true)
    (kkBe : PySem.W.keepIn K (.ref fBe) = true)
    (lBk : K.lookup fBk = some ⟨ocBk, odBk, .func (PySem.W.fnOf "_law_cp_bad_kind" "_law_cp_bad_kind" (defArgs sBadK) (defBody sBadK) (defScope sBadK) .none kVBk dcBk pmBk anBk cdBk ctBk), slBk⟩)
    (ccBk : PySem.W.codeIn K cdBk "_law_cp_bad_kind" = true)
    (kkBk : PySem.W.keepIn K (.ref fBk) = true)
    (lWh : K.lookup fWh = some ⟨ocWh, odWh, .func (PySem.W.fnOf "_law_cp_whole" "_law_cp_whole" (defArgs sWholeL) (defBody sWholeL) (defScope sWholeL) .none kVWh dcWh pmWh anWh cdWh ctWh), slWh⟩)
    (ccWh : PySem.W.codeIn K cdWh "_law_cp_whole" = true)
    (kkWh : PySem.W.keepIn K (.ref fWh) = true)
    (lIk : K.lookup fIk = some ⟨ocIk, odIk, .func (PySem.W.fnOf "_law_cp_is_kind" "_law_cp_is_kind" (defArgs sIsKindL) (defBody sIsKindL) (defScope sIsKindL) .none kVIk dcIk pmIk anIk cdIk ctIk), slIk⟩)
    (ccIk : PySem.W.codeIn K cdIk "_law_cp_is_kind" = true)
    (kkIk : PySem.W.keepIn K (.ref fIk) = true)
    (lCo : K.lookup fCo = some ⟨ocCo, odCo, .func (PySem.W.fnOf "_law_cp_counted" "_law_cp_counted" (defArgs sCounted) (defBody sCounted) (defScope sCounted) .none kVCo dcCo pmCo anCo cdCo ctCo), slCo⟩)
    (ccCo : PySem.W.codeIn K cdCo "_law_cp_counted" = true)
    (kkCo : PySem.W.keepIn K (.ref fCo) = true)
    (lKy : K.lookup fKy = some ⟨ocKy, odKy, .func (PySem.W.fnOf "_law_any_kind" "_law_any_kind" (defArgs sAnyKind) (defBody sAnyKind) (defScope sAnyKind) .none kVKy dcKy pmKy anKy cdKy ctKy), slKy⟩)
    (ccKy : PySem.W.codeIn K cdKy "_law_any_kind" = true)
    (kkKy : PySem.W.keepIn K (.ref fKy) = true)
    (lO : K.lookup fO = some ⟨ocO, odO, .func (PySem.W.fnOf "_law_order" "_law_order" (defArgs sOrderL) (defBody sOrderL) (defScope sOrderL) .none kVO dcO pmO anO cdO ctO), slO⟩)
    (ccO : PySem.W.codeIn K cdO "_law_order" = true)
    (kkO : PySem.W.keepIn K (.ref fO) = true)
    (lW : K.lookup fW = some ⟨ocW, odW, .func (PySem.W.fnOf "law" "law" (defArgs sLawK) (defBody sLawK) (defScope sLawK) .none kVW dcW pmW anW (.ref cR) ctW), slW⟩)
    (ccW : PySem.W.codeIn K (.ref cR) "law" = true)
    (kkW : PySem.W.keepIn K (.ref fW) = true)
    (n6 : PySem.W.nsIn K mainGlobals "MOST_NUMBERS" = some (some (.int 6 t6)))
    (n12 : PySem.W.nsIn K mainGlobals "MOST_NUMS" = some (some (.int 12 t12)))
    (nCB : PySem.W.nsIn K mainGlobals "ChanceError" = some (some (.ref CB)))
    (nCK : PySem.W.nsIn K mainGlobals "BadKind" = some (some (.ref CK)))
    (nCS : PySem.W.nsIn K mainGlobals "BadKinds" = some (some (.ref CS)))
    (nCN : PySem.W.nsIn K mainGlobals "BadNumber" = some (some (.ref CN)))
    (qCK : PySem.W.excIn K CK veT "ValueError.__new__" = true)
    (kpCK : PySem.W.keepIn K (.ref CK) = true)
    (sbCK : PySem.W.subIn K (.ref CK) (.type "BaseException") = some true)
    (tyCK : PySem.W.typeIn K (.ref CK) = some (.type "type"))
    (clCK : PySem.W.isClsIn K CK = true)
    (gaCK : PySem.W.findIn K (.ref CK) "__getattribute__" = some (some (.builtin "BaseException.__getattribute__")))
    (gtCK : PySem.W.findIn K (.ref CK) "__getattr__" = some none)
    (caCK : PySem.W.findIn K (.ref CK) "__class__" = some (some (.builtin "object.__class__")))
    (moCK : PySem.W.mroIn K CK (.type "object") = some true)
    (kiCK : PySem.W.kitOne K (.ref CK) (.ref CK) = some true)
    (suCK : PySem.W.subIn K (.ref CK) (.ref CB) = some true)
    (qCS : PySem.W.excIn K CS veT "ValueError.__new__" = true)
    (kpCS : PySem.W.keepIn K (.ref CS) = true)
    (sbCS : PySem.W.subIn K (.ref CS) (.type "BaseException") = some true)
    (tyCS : PySem.W.typeIn K (.ref CS) = some (.type "type"))
    (clCS : PySem.W.isClsIn K CS = true)
    (gaCS : PySem.W.findIn K (.ref CS) "__getattribute__" = some (some (.builtin "BaseException.__getattribute__")))
    (gtCS : PySem.W.findIn K (.ref CS) "__getattr__" = some none)
    (caCS : PySem.W.findIn K (.ref CS) "__class__" = some (some (.builtin "object.__class__")))
    (moCS : PySem.W.mroIn K CS (.type "object") = some true)
    (kiCS : PySem.W.kitOne K (.ref CS) (.ref CS) = some true)
    (suCS : PySem.W.subIn K (.ref CS) (.ref CB) = some true)
    (qCN : PySem.W.excIn K CN veT "ValueError.__new__" = true)
    (kpCN : PySem.W.keepIn K (.ref CN) = true)
    (sbCN : PySem.W.subIn K (.ref CN) (.type "BaseException") = some true)
    (tyCN : PySem.W.typeIn K (.ref CN) = some (.type "type"))
    (clCN : PySem.W.isClsIn K CN = true)
    (gaCN : PySem.W.findIn K (.ref CN) "__getattribute__" = some (some (.builtin "BaseException.__getattribute__")))
    (gtCN : PySem.W.findIn K (.ref CN) "__getattr__" = some none)
    (caCN : PySem.W.findIn K (.ref CN) "__class__" = some (some (.builtin "object.__class__")))
    (moCN : PySem.W.mroIn K CN (.type "object") = some true)
    (kiCN : PySem.W.kitOne K (.ref CN) (.ref CN) = some true)
    (suCN : PySem.W.subIn K (.ref CN) (.ref CB) = some true)
    (sbS : PySem.W.subIn K (.ref CB) (.type "BaseException") = some true)
    (hdS : PySem.W.hasDictIn K CB = true)
    (tyS : PySem.W.typeIn K (.ref CB) = some (.type "type"))
    (zh : PySem.W.specialIn K (.builtin "object.__class__") "__get__" = some (some (.builtin "getset_descriptor.__get__")))
    (zt : PySem.W.takesIn K (.builtin "object.__class__") = some true)
    (lco : K.lookup cR = some ⟨ec, ed, .fields ev, esl⟩)
    (lev : ev[11]? = some (.ref PR))
    (zisinstance : PySem.W.nsIn K mainGlobals "isinstance" = some none)
    (zint : PySem.W.nsIn K mainGlobals "int" = some none)
    (zbool : PySem.W.nsIn K mainGlobals "bool" = some none)
    (zlist : PySem.W.nsIn K mainGlobals "list" = some none)
    (ztuple : PySem.W.nsIn K mainGlobals "tuple" = some none)
    (zlen : PySem.W.nsIn K mainGlobals "len" = some none)
    (zabs : PySem.W.nsIn K mainGlobals "abs" = some none)
    (zrange : PySem.W.nsIn K mainGlobals "range" = some none)
    (zall : PySem.W.nsIn K mainGlobals "all" = some none)
    (zrepr : PySem.W.nsIn K mainGlobals "repr" = some none)
    (zmin : PySem.W.nsIn K mainGlobals "min" = some none)
    (zmax : PySem.W.nsIn K mainGlobals "max" = some none)
    (zreversed : PySem.W.nsIn K mainGlobals "reversed" = some none)
    (zstr : PySem.W.nsIn K mainGlobals "str" = some none)
    (nt : PySem.W.noTabs K = true)
    : ∃ (fd : FuncData) (c P : Addr), PySem.W.tabIn K "law" = some (c, P) ∧ PySem.W.noTabs K = true ∧ (∀ (s : Shared) (v : Value), BindsTo s fd ⟨[v], []⟩ [("script", v)]) ∧
      ∀ base : Heap, K.In base → base.Ns mainGlobals mg → TabB base mg c P → Gd.FnG l.prog w K mg base CX0 18 fa fd ["script"] (spLawK K P) := by
  have e := hfa.symm.trans (PySem.W.mg_of X G nW)
  cases e
  have TW : TxtW mg := ⟨(PySem.W.mg_none_of X G zisinstance), (PySem.W.mg_none_of X G zint), (PySem.W.mg_none_of X G zbool), (PySem.W.mg_none_of X G zlist), (PySem.W.mg_none_of X G ztuple), (PySem.W.mg_none_of X G zlen)⟩
  have TP : Pre.TxtP mg := ⟨(PySem.W.mg_none_of X G zabs), (PySem.W.mg_none_of X G zint), (PySem.W.mg_none_of X G zlen)⟩
  have MM : Nms mg t6 t12 := ⟨PySem.W.mg_of X G n6, PySem.W.mg_of X G n12⟩
  have EK : ErC K mg "BadKind" CK := ⟨PySem.W.mg_of X G nCK, qCK, kpCK, sbCK, tyCK⟩
  have ES : ErC K mg "BadKinds" CS := ⟨PySem.W.mg_of X G nCS, qCS, kpCS, sbCS, tyCS⟩
  have EN : ErC K mg "BadNumber" CN := ⟨PySem.W.mg_of X G nCN, qCN, kpCN, sbCN, tyCN⟩
  have KD : KdK K mg fa4 fa2 fa1 fa5 fa6 _ _ _ _ _ t6 t12 := ⟨TW, MM, (fun_mk (st := sIsTup) ld ccd kkd), (PySem.W.mg_of X G nd), (fun_mk (st := sWithin) lb ccb kkb), (PySem.W.mg_of X G nb), (fun_mk (st := sIsWhole) la cca kka), (PySem.W.mg_of X G na), (fun_mk (st := sIsNum) le cce kke), (PySem.W.mg_of X G ne), (fun_mk (st := sIsTo) lf ccf kkf), (PySem.W.mg_of X G nf)⟩
  have Gg : ∀ base, FnOk l.prog w K mg base CX0 4 fa7 _ ["value"] (spIsK K) := fun base => ok_iskind (fun_mk (st := sIsKind) lg ccg kkg) KD
  have Gh : ∀ base, FnOk l.prog w K mg base CX0 1 fa8 _ ["kind"] (spArgAns K) := fun base => ok_argans (fun_mk (st := sArgAns) lh cch kkh) TW
  have Gi : ∀ base, FnOk l.prog w K mg base (L2.CX l.prog w) 5 fa9 _ ["value"] (spChk K CK) := fun base => ok_chk (fun_mk (st := sCheckKind) li cci kki) Gg (fun_mk (st := sIsKind) lg ccg kkg) (PySem.W.mg_of X G ng) EK
  have Gm : ∀ base, FnOk l.prog w K mg base CX0 14 fb4 _ ["kind"] (spOrd K 12) := fun base => ok_orderof (fun_mk (st := sOrderOf) lm ccm kkm) (PySem.W.mg_of X G nm) (PySem.W.mg_none_of X G zmax) Gh (fun_mk (st := sArgAns) lh cch kkh) (PySem.W.mg_of X G nh) 12
  have Gj : ∀ base, FnOk l.prog w K mg base (L2.CX l.prog w) 6 fb1 _ ["kind"] (spK3 K CK (resArgs K)) := fun base => ok_arguments (fun_mk (st := sArguments) lj ccj kkj) Gi (fun_mk (st := sCheckKind) li cci kki) (PySem.W.mg_of X G ni) Gh (fun_mk (st := sArgAns) lh cch kkh) (PySem.W.mg_of X G nh)
  have Gk : ∀ base, FnOk l.prog w K mg base (L2.CX l.prog w) 6 fb2 _ ["kind"] (spK3 K CK resAns) := fun base => ok_answer (fun_mk (st := sAnswer) lk cck kkk) Gi (fun_mk (st := sCheckKind) li cci kki) (PySem.W.mg_of X G ni) Gh (fun_mk (st := sArgAns) lh cch kkh) (PySem.W.mg_of X G nh)
  have Gn : ∀ base, FnOk l.prog w K mg base (L2.CX l.prog w) 15 fb5 _ ["kind"] (spK3 K CK resOrd) := fun base => ok_order (fun_mk (st := sOrder) ln ccn kkn) Gi (fun_mk (st := sCheckKind) li cci kki) (PySem.W.mg_of X G ni) Gm (fun_mk (st := sOrderOf) lm ccm kkm) (PySem.W.mg_of X G nm)
  have KF : KfK l.prog w K mg CK CS CN fa3 fa7 fa2 fa1 fa9 _ _ _ _ _ t6 t12 := ⟨TW, MM, (PySem.W.mg_none_of X G zall), (PySem.W.mg_none_of X G zreversed), ⟨EK, ES, EN⟩, (fun_mk (st := sIsList) lc ccc kkc), (PySem.W.mg_of X G nc), Gg, (fun_mk (st := sIsKind) lg ccg kkg), (PySem.W.mg_of X G ng), (fun_mk (st := sWithin) lb ccb kkb), (PySem.W.mg_of X G nb), (fun_mk (st := sIsWhole) la cca kka), (PySem.W.mg_of X G na), Gi, (fun_mk (st := sCheckKind) li cci kki), (PySem.W.mg_of X G ni)⟩
  have Gp1 : Use l.prog w K mg (L2.CX l.prog w) 6 "kind_from" ["arguments", "answer"] (spKF K SqL CK CS CN) fb3 _ := ⟨fun base => ok_kfL (fun_mk (st := sKindFrom) ll ccl kkl) KF, (PySem.W.mg_of X G nl), kkl⟩
  have Gp2 : Use l.prog w K mg (L2.CX l.prog w) 6 "kind_from" ["arguments", "answer"] (spKF K SqT CK CS CN) fb3 _ := ⟨fun base => ok_kfT (fun_mk (st := sKindFrom) ll ccl kkl) KF, (PySem.W.mg_of X G nl), kkl⟩
  have Gp3 : Use l.prog w K mg (L2.CX l.prog w) 6 "kind_from" ["arguments", "answer"] (spKFN K CS) fb3 _ := ⟨fun base => ok_kfN (fun_mk (st := sKindFrom) ll ccl kkl) KF, (PySem.W.mg_of X G nl), kkl⟩
  have DR : Drw K mg fD fP fB _ _ _ := ⟨TP, (PySem.W.mg_none_of X G zrange), (fun_mk (st := Pre.sDraw) lD ccD kkD), (PySem.W.mg_of X G nD), (fun_mk (st := Pre.sPick) lP ccP kkP), (PySem.W.mg_of X G nP), (fun_mk (st := Pre.sBlended) lB ccB kkB), (PySem.W.mg_of X G nB)⟩
  have BN : Bnt l.prog w K mg fSp fAt fPu _ _ _ := ⟨TW, (PySem.W.mg_none_of X G zstr), (PySem.W.mg_none_of X G zrange), (fun_mk (st := sSpots) lSp ccSp kkSp), (PySem.W.mg_of X G nSp), (fun_mk (st := sAtL) lAt ccAt kkAt), (PySem.W.mg_of X G nAt), (fun_mk (st := sPut) lPu ccPu kkPu), (PySem.W.mg_of X G nPu)⟩
  have GBe : ∀ base, FnOk l.prog w K mg base CX0 17 fBe _ ["state", "thing"] (spBent K) := fun base => ok_bent (fun_mk (st := sBent) lBe ccBe kkBe) DR BN
  have GCo : ∀ base, FnOk l.prog w K mg base CX0 16 fCo _ ["thing", "room"] (spCounted K 14) := fun base => ok_counted (fun_mk (st := sCounted) lCo ccCo kkCo) (PySem.W.mg_of X G nCo) TW (PySem.W.mg_none_of X G zstr) (fun_mk (st := sWholeL) lWh ccWh kkWh) (PySem.W.mg_of X G nWh) 14
  have GIk : ∀ base, FnOk l.prog w K mg base CX0 17 fIk _ ["thing"] (spIsKL K) := fun base => ok_iskindL (fun_mk (st := sIsKindL) lIk ccIk kkIk) GCo (fun_mk (st := sCounted) lCo ccCo kkCo) (PySem.W.mg_of X G nCo)
  have GO : ∀ base, FnOk l.prog w K mg base CX0 14 fO _ ["kind"] (spOrd K 12) := fun base => ok_orderL (fun_mk (st := sOrderL) lO ccO kkO) (PySem.W.mg_of X G nO) (PySem.W.mg_none_of X G zmax) (fun_mk (st := sWanted) lWa ccWa kkWa) (PySem.W.mg_of X G nWa) 12
  refine ⟨PySem.W.fnOf "law" "law" (defArgs sLawK) (defBody sLawK) (defScope sLawK) .none kVW dcW pmW anW (.ref cR) ctW, cR, PR, tab_in nW lW lco lev, nt, fun s v => .of_eq rfl, fun base _ _ TB => ?_⟩
  exact ok_lawK lW ccW TB ⟨DR, TW, (PySem.W.mg_none_of X G zmin), (PySem.W.mg_none_of X G zrepr), ⟨(fun_mk (st := Pre.sBegun) lA ccA kkA), (PySem.W.mg_of X G nA)⟩, ⟨(fun_mk (st := sAnyKind) lKy ccKy kkKy), (PySem.W.mg_of X G nKy)⟩, ⟨(fun_mk (st := sNumsL) lNu ccNu kkNu), (PySem.W.mg_of X G nNu)⟩, ⟨(fun_mk (st := sBent) lBe ccBe kkBe), (PySem.W.mg_of X G nBe)⟩, GBe, ⟨(fun_mk (st := sBadK) lBk ccBk kkBk), (PySem.W.mg_of X G nBk)⟩, ⟨(fun_mk (st := sTruth) lTr ccTr kkTr), (PySem.W.mg_of X G nTr)⟩, ⟨(fun_mk (st := sIsKindL) lIk ccIk kkIk), (PySem.W.mg_of X G nIk)⟩, GIk, ⟨(fun_mk (st := sWanted) lWa ccWa kkWa), (PySem.W.mg_of X G nWa)⟩, ⟨(fun_mk (st := sSame) lS ccS kkS), (PySem.W.mg_of X G nS)⟩, ⟨(fun_mk (st := sOrderL) lO ccO kkO), (PySem.W.mg_of X G nO)⟩, GO, ⟨(fun_mk (st := Lm.sCaught) lC ccC kkC), (PySem.W.mg_of X G nC)⟩, ⟨Gg, (PySem.W.mg_of X G ng), kkg⟩, fun s u _ => .of_eq rfl, ⟨Gj, (PySem.W.mg_of X G nj), kkj⟩, fun s u _ => .of_eq rfl, (fun_mk (st := sArguments) lj ccj kkj).binds (ps := ["kind"]) fun _ _ _ _ _ _ us hl => match us, hl with | [_], _ => rfl, ⟨Gk, (PySem.W.mg_of X G nk), kkk⟩, fun s u _ => .of_eq rfl, (fun_mk (st := sAnswer) lk cck kkk).binds (ps := ["kind"]) fun _ _ _ _ _ _ us hl => match us, hl with | [_], _ => rfl, ⟨Gn, (PySem.W.mg_of X G nn), kkn⟩, fun s u _ => .of_eq rfl, (fun_mk (st := sOrder) ln ccn kkn).binds (ps := ["kind"]) fun _ _ _ _ _ _ us hl => match us, hl with | [_], _ => rfl, (Gp1.or Gp2).or Gp3, (fun_mk (st := sKindFrom) ll ccl kkl).binds (ps := ["arguments", "answer"]) fun _ _ _ _ _ _ us hl => match us, hl with | [_, _], _ => rfl, fun s u v _ => .of_eq rfl, PySem.W.mg_of X G nCB, ⟨PySem.W.mg_of X G nCK, PySem.W.exm_ref sbS hdS tyS suCK, ⟨clCK, gaCK, gtCK, sbCK, caCK, moCK⟩, kiCK⟩, ⟨PySem.W.mg_of X G nCS, PySem.W.exm_ref sbS hdS tyS suCS, ⟨clCS, gaCS, gtCS, sbCS, caCS, moCS⟩, kiCS⟩, ⟨PySem.W.mg_of X G nCN, PySem.W.exm_ref sbS hdS tyS suCN, ⟨clCN, gaCN, gtCN, sbCN, caCN, moCN⟩, kiCN⟩, ⟨zh, zt⟩⟩
end Kn


open PySem PySem.W PyProof.Rows in
set_option maxRecDepth 100000 in
set_option maxHeartbeats 0 in
theorem PySem.Challenge.cw_chancepoints_k01_kinds_holds : PySem.Challenge.rw_chancepoints_k01_kinds.Holds := by
  w_on; o_law; k_head; (case hw => w_witness2)
  k_fill
  refine Gd.walk_G (l := PySem.Challenge.rw_chancepoints_k01_kinds) (xl := "law") (k := 18) (x := "script") (sp := Kn.spLawK) rfl rfl ⟨rfl, by decide, by decide⟩ (fun w h Y => PySem.W.km_in_of Y) (by rfl) (fun K P H a zs hl hP hS => ⟨a, zs, rfl, hS, hl, fun z hz => by rw [List.mem_singleton.mp hz]; exact LamX.TabS.nil hP, fun _ => rfl⟩) ?F
  case F =>
    intro w mg fa h KX G hmg
    refine' Kn.all_mk KX G hmg ?q0_na ?q0_nb ?q0_nc ?q0_nd ?q0_ne ?q0_nf ?q0_ng ?q0_nh ?q0_ni ?q0_nj ?q0_nk ?q0_nl ?q0_nm ?q0_nn ?q0_nA ?q0_nB ?q0_nD ?q0_nP ?q0_nC ?q0_nTr ?q0_nS ?q0_nWa ?q0_nAt ?q0_nPu ?q0_nNu ?q0_nSp ?q0_nBe ?q0_nBk ?q0_nWh ?q0_nIk ?q0_nCo ?q0_nKy ?q0_nO ?q0_nW ?q0_la ?q0_cca ?q0_kka ?q0_lb ?q0_ccb ?q0_kkb ?q0_lc ?q0_ccc ?q0_kkc ?q0_ld ?q0_ccd ?q0_kkd ?q0_le ?q0_cce ?q0_kke ?q0_lf ?q0_ccf ?q0_kkf ?q0_lg ?q0_ccg ?q0_kkg ?q0_lh ?q0_cch ?q0_kkh ?q0_li ?q0_cci ?q0_kki ?q0_lj ?q0_ccj ?q0_kkj ?q0_lk ?q0_cck ?q0_kkk ?q0_ll ?q0_ccl ?q0_kkl ?q0_lm ?q0_ccm ?q0_kkm ?q0_ln ?q0_ccn ?q0_kkn ?q0_lA ?q0_ccA ?q0_kkA ?q0_lB ?q0_ccB ?q0_kkB ?q0_lD ?q0_ccD ?q0_kkD ?q0_lP ?q0_ccP ?q0_kkP ?q0_lC ?q0_ccC ?q0_kkC ?q0_lTr ?q0_ccTr ?q0_kkTr ?q0_lS ?q0_ccS ?q0_kkS ?q0_lWa ?q0_ccWa ?q0_kkWa ?q0_lAt ?q0_ccAt ?q0_kkAt ?q0_lPu ?q0_ccPu ?q0_kkPu ?q0_lNu ?q0_ccNu ?q0_kkNu ?q0_lSp ?q0_ccSp ?q0_kkSp ?q0_lBe ?q0_ccBe ?q0_kkBe ?q0_lBk ?q0_ccBk ?q0_kkBk ?q0_lWh ?q0_ccWh ?q0_kkWh ?q0_lIk ?q0_ccIk ?q0_kkIk ?q0_lCo ?q0_ccCo ?q0_kkCo ?q0_lKy ?q0_ccKy ?q0_kkKy ?q0_lO ?q0_ccO ?q0_kkO ?q0_lW ?q0_ccW ?q0_kkW ?q0_n6 ?q0_n12 ?q0_nCB ?q0_nCK ?q0_nCS ?q0_nCN ?q0_qCK ?q0_kpCK ?q0_sbCK ?q0_tyCK ?q0_clCK ?q0_gaCK ?q0_gtCK ?q0_caCK ?q0_moCK ?q0_kiCK ?q0_suCK ?q0_qCS ?q0_kpCS ?q0_sbCS ?q0_tyCS ?q0_clCS ?q0_gaCS ?q0_gtCS ?q0_caCS ?q0_moCS ?q0_kiCS ?q0_suCS ?q0_qCN ?q0_kpCN ?q0_sbCN ?q0_tyCN ?q0_clCN ?q0_gaCN ?q0_gtCN ?q0_caCN ?q0_moCN ?q0_kiCN ?q0_suCN ?q0_sbS ?q0_hdS ?q0_tyS ?q0_zh ?q0_zt ?q0_lco ?q0_lev ?q0_zisinstance ?q0_zint ?q0_zbool ?q0_zlist ?q0_ztuple ?q0_zlen ?q0_zabs ?q0_zrange ?q0_zall ?q0_zrepr ?q0_zmin ?q0_zmax ?q0_zreversed ?q0_zstr ?q0_nt
    (case q0_na => k_is)
    (case q0_nb => k_is)
    (case q0_nc => k_is)
    (case q0_nd => k_is)
    (case q0_ne => k_is)
    (case q0_nf => k_is)
    (case q0_ng => k_is)
    (case q0_nh => k_is)
    (case q0_ni => k_is)
    (case q0_nj => k_is)
    (case q0_nk => k_is)
    (case q0_nl => k_is)
    (case q0_nm => k_is)
    (case q0_nn => k_is)
    (case q0_nA => k_is)
    (case q0_nB => k_is)
    (case q0_nD => k_is)
    (case q0_nP => k_is)
    (case q0_nC => k_is)
    (case q0_nTr => k_is)
    (case q0_nS => k_is)
    (case q0_nWa => k_is)
    (case q0_nAt => k_is)
    (case q0_nPu => k_is)
    (case q0_nNu => k_is)
    (case q0_nSp => k_is)
    (case q0_nBe => k_is)
    (case q0_nBk => k_is)
    (case q0_nWh => k_is)
    (case q0_nIk => k_is)
    (case q0_nCo => k_is)
    (case q0_nKy => k_is)
    (case q0_nO => k_is)
    (case q0_nW => k_is)
    (case q0_la => k_is)
    (case q0_cca => k_is)
    (case q0_kka => k_is)
    (case q0_lb => k_is)
    (case q0_ccb => k_is)
    (case q0_kkb => k_is)
    (case q0_lc => k_is)
    (case q0_ccc => k_is)
    (case q0_kkc => k_is)
    (case q0_ld => k_is)
    (case q0_ccd => k_is)
    (case q0_kkd => k_is)
    (case q0_le => k_is)
    (case q0_cce => k_is)
    (case q0_kke => k_is)
    (case q0_lf => k_is)
    (case q0_ccf => k_is)
    (case q0_kkf => k_is)
    (case q0_lg => k_is)
    (case q0_ccg => k_is)
    (case q0_kkg => k_is)
    (case q0_lh => k_is)
    (case q0_cch => k_is)
    (case q0_kkh => k_is)
    (case q0_li => k_is)
    (case q0_cci => k_is)
    (case q0_kki => k_is)
    (case q0_lj => k_is)
    (case q0_ccj => k_is)
    (case q0_kkj => k_is)
    (case q0_lk => k_is)
    (case q0_cck => k_is)
    (case q0_kkk => k_is)
    (case q0_ll => k_is)
    (case q0_ccl => k_is)
    (case q0_kkl => k_is)
    (case q0_lm => k_is)
    (case q0_ccm => k_is)
    (case q0_kkm => k_is)
    (case q0_ln => k_is)
    (case q0_ccn => k_is)
    (case q0_kkn => k_is)
    (case q0_lA => k_is)
    (case q0_ccA => k_is)
    (case q0_kkA => k_is)
    (case q0_lB => k_is)
    (case q0_ccB => k_is)
    (case q0_kkB => k_is)
    (case q0_lD => k_is)
    (case q0_ccD => k_is)
    (case q0_kkD => k_is)
    (case q0_lP => k_is)
    (case q0_ccP => k_is)
    (case q0_kkP => k_is)
    (case q0_lC => k_is)
    (case q0_ccC => k_is)
    (case q0_kkC => k_is)
    (case q0_lTr => k_is)
    (case q0_ccTr => k_is)
    (case q0_kkTr => k_is)
    (case q0_lS => k_is)
    (case q0_ccS => k_is)
    (case q0_kkS => k_is)
    (case q0_lWa => k_is)
    (case q0_ccWa => k_is)
    (case q0_kkWa => k_is)
    (case q0_lAt => k_is)
    (case q0_ccAt => k_is)
    (case q0_kkAt => k_is)
    (case q0_lPu => k_is)
    (case q0_ccPu => k_is)
    (case q0_kkPu => k_is)
    (case q0_lNu => k_is)
    (case q0_ccNu => k_is)
    (case q0_kkNu => k_is)
    (case q0_lSp => k_is)
    (case q0_ccSp => k_is)
    (case q0_kkSp => k_is)
    (case q0_lBe => k_is)
    (case q0_ccBe => k_is)
    (case q0_kkBe => k_is)
    (case q0_lBk => k_is)
    (case q0_ccBk => k_is)
    (case q0_kkBk => k_is)
    (case q0_lWh => k_is)
    (case q0_ccWh => k_is)
    (case q0_kkWh => k_is)
    (case q0_lIk => k_is)
    (case q0_ccIk => k_is)
    (case q0_kkIk => k_is)
    (case q0_lCo => k_is)
    (case q0_ccCo => k_is)
    (case q0_kkCo => k_is)
    (case q0_lKy => k_is)
    (case q0_ccKy => k_is)
    (case q0_kkKy => k_is)
    (case q0_lO => k_is)
    (case q0_ccO => k_is)
    (case q0_kkO => k_is)
    (case q0_lW => k_is)
    (case q0_ccW => k_is)
    (case q0_kkW => k_is)
    (case q0_n6 => k_is)
    (case q0_n12 => k_is)
    (case q0_nCB => k_is)
    (case q0_nCK => k_is)
    (case q0_nCS => k_is)
    (case q0_nCN => k_is)
    (case q0_qCK => k_exc)
    (case q0_kpCK => k_is)
    (case q0_sbCK => k_is)
    (case q0_tyCK => k_is)
    (case q0_clCK => k_is)
    (case q0_gaCK => k_is)
    (case q0_gtCK => k_is)
    (case q0_caCK => k_is)
    (case q0_moCK => k_is)
    (case q0_kiCK => kit_is)
    (case q0_suCK => k_is)
    (case q0_qCS => k_exc)
    (case q0_kpCS => k_is)
    (case q0_sbCS => k_is)
    (case q0_tyCS => k_is)
    (case q0_clCS => k_is)
    (case q0_gaCS => k_is)
    (case q0_gtCS => k_is)
    (case q0_caCS => k_is)
    (case q0_moCS => k_is)
    (case q0_kiCS => kit_is)
    (case q0_suCS => k_is)
    (case q0_qCN => k_exc)
    (case q0_kpCN => k_is)
    (case q0_sbCN => k_is)
    (case q0_tyCN => k_is)
    (case q0_clCN => k_is)
    (case q0_gaCN => k_is)
    (case q0_gtCN => k_is)
    (case q0_caCN => k_is)
    (case q0_moCN => k_is)
    (case q0_kiCN => kit_is)
    (case q0_suCN => k_is)
    (case q0_sbS => k_is)
    (case q0_hdS => k_is)
    (case q0_tyS => k_is)
    (case q0_zh => k_is)
    (case q0_zt => k_is)
    (case q0_lco => k_is)
    (case q0_lev => exact rfl)
    (case q0_zisinstance => k_is)
    (case q0_zint => k_is)
    (case q0_zbool => k_is)
    (case q0_zlist => k_is)
    (case q0_ztuple => k_is)
    (case q0_zlen => k_is)
    (case q0_zabs => k_is)
    (case q0_zrange => k_is)
    (case q0_zall => k_is)
    (case q0_zrepr => k_is)
    (case q0_zmin => k_is)
    (case q0_zmax => k_is)
    (case q0_zreversed => k_is)
    (case q0_zstr => k_is)
    (case q0_nt => kernel_rfl)

