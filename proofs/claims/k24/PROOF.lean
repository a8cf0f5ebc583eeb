import PyProof.Rows.All
import Wide.All
import OpenK.AllK
import Wide.FinOn
import HandS.ForMost
import HandS.Wide
import HandS.Codes
import HandS.ExcValue
import HandS.ExcInit
import HandS.ExcField
import HandS.ExcIs
import HandS.ExcOwn
import HandS.Exc
import HandS.WordsExc
import HandS.WordsList
import HandS.IsInst
import KE.KExcIs
import HandS.FStr
import HandS.Lambda
import HandS.EndTab
import HandS.Gcd
import HandS.Defaults
import HandS.MakeKw
import HandS.Style
import HandS.Zip
import KE.GoesZip
import HandS.EndTab
import KE.GoesMore
import HandS.TupMul
import HandS.TupAny
import HandS.Rev
import PySem.Challenge.RW_chancepoints_k24_talks_judged
set_option Elab.async false
set_option maxRecDepth 100000
namespace Pre
open PySem L2
def top (i : Nat) : Stmt := PySem.Challenge.pw_chancepoints_k24_talks_judged.main.body.getD i (.Pass ⟨0, 0, 0, 0⟩)
abbrev sBegun : Stmt := top 34
abbrev sBlended : Stmt := top 35
abbrev sDraw : Stmt := top 36
abbrev sPick : Stmt := top 37

/-! ## the state of the draws -/
abbrev kG : Key := .inr "great"
abbrev kC : Key := .inr "cells"
abbrev kR : Key := .inr "rest"
abbrev kT : Key := .inr "turn"
def stp (g c : Addr) (r t : Int) : List (Key × V) := [(kG, .ref g), (kC, .ref c), (kR, .int r), (kT, .int t)]
theorem z1 : ¬ ("great" : Str) = "cells" := by decide +kernel
theorem z2 : ¬ ("great" : Str) = "rest" := by decide +kernel
theorem z3 : ¬ ("great" : Str) = "turn" := by decide +kernel
theorem z4 : ¬ ("cells" : Str) = "rest" := by decide +kernel
theorem z5 : ¬ ("cells" : Str) = "turn" := by decide +kernel
theorem z6 : ¬ ("rest" : Str) = "turn" := by decide +kernel
theorem n1 : ¬ kG = kC := by decide +kernel
theorem n2 : ¬ kG = kR := by decide +kernel
theorem n3 : ¬ kG = kT := by decide +kernel
theorem n4 : ¬ kC = kR := by decide +kernel
theorem n5 : ¬ kC = kT := by decide +kernel
theorem n6 : ¬ kR = kT := by decide +kernel
theorem n1' : ¬ kC = kG := fun e => n1 e.symm
theorem n2' : ¬ kR = kG := fun e => n2 e.symm
theorem n3' : ¬ kT = kG := fun e => n3 e.symm
theorem n4' : ¬ kR = kC := fun e => n4 e.symm
theorem n5' : ¬ kT = kC := fun e => n5 e.symm
theorem n6' : ¬ kT = kR := fun e => n6 e.symm
theorem st_g {g c : Addr} {r t : Int} : valV (stp g c r t) kG = some (.ref g) := valV_pos rfl
theorem st_c {g c : Addr} {r t : Int} : valV (stp g c r t) kC = some (.ref c) := by
  unfold stp
  rw [valV_neg n1, valV_pos rfl]
theorem st_r {g c : Addr} {r t : Int} : valV (stp g c r t) kR = some (.int r) := by
  unfold stp
  rw [valV_neg n2, valV_neg n4, valV_pos rfl]
theorem st_t {g c : Addr} {r t : Int} : valV (stp g c r t) kT = some (.int t) := by
  unfold stp
  rw [valV_neg n3, valV_neg n5, valV_neg n6, valV_pos rfl]
theorem put_t {g c : Addr} {r t u : Int} : putK (stp g c r t) kT (.int u) = stp g c r u := by
  unfold putK stp
  have h : ([(kG, V.ref g), (kC, .ref c), (kR, .int r), (kT, .int t)].any fun kv => decide (kv.1 = kT)) = true := by simp
  rw [if_pos h]
  simp only [List.map_cons, List.map_nil, if_neg n3, if_neg n5, if_neg n6, if_pos]
theorem put_r {g c : Addr} {r t u : Int} : putK (stp g c r t) kR (.int u) = stp g c u t := by
  unfold putK stp
  have h : ([(kG, V.ref g), (kC, .ref c), (kR, .int r), (kT, .int t)].any fun kv => decide (kv.1 = kR)) = true := by simp
  rw [if_pos h]
  simp only [List.map_cons, List.map_nil, if_neg n2, if_neg n4, if_neg n6', if_pos]
theorem merge_st {g c : Addr} {r t : Int} : mergeK [] [(kG, V.ref g), (kC, .ref c), (kR, .int r), (kT, .int t)] = stp g c r t := by
  unfold mergeK stp
  simp only [List.foldl_cons, List.foldl_nil]
  have e1 : putK ([] : List (Key × V)) kG (.ref g) = [(kG, .ref g)] := by simp [putK]
  have e2 : putK [(kG, V.ref g)] kC (.ref c) = [(kG, .ref g), (kC, .ref c)] := by simp [putK, z1]
  have e3 : putK [(kG, V.ref g), (kC, .ref c)] kR (.int r) = [(kG, .ref g), (kC, .ref c), (kR, .int r)] := by simp [putK, z2, z4]
  have e4 : putK [(kG, V.ref g), (kC, .ref c), (kR, .int r)] kT (.int t) = [(kG, .ref g), (kC, .ref c), (kR, .int r), (kT, .int t)] := by simp [putK, z3, z5, z6]
  rw [e1, e2, e3, e4]
theorem stp_len {g c : Addr} {r t : Int} : (stp g c r t).length < sizeLine := by show 4 < sizeLine; decide

/-- at p the state of the draws, its two lists at g and c; at most n times were the cells blended -/
structure St (H : Hp) (p g c : Addr) (n : Nat) : Prop where
  ex : ∃ (gs cs : List Int) (r t : Int), H p = some (.dK (stp g c r t)) ∧ H g = some (.lst (gs.map V.int)) ∧ H c = some (.lst (cs.map V.int)) ∧ gs.length ≤ 63 ∧ cs.length ≤ 63 ∧ 0 ≤ t ∧ t ≤ n
  ne : g ≠ c
/-- all that was tracked stands, but for the state and its great ones -/
def Kp (p g : Addr) (H H' : Hp) : Prop := ∀ b o, b ≠ p → b ≠ g → H b = some o → H' b = some o
theorem Kp.refl {p g : Addr} {H : Hp} : Kp p g H H := fun _ _ _ _ e => e
theorem Kp.trans {p g : Addr} {H H1 H2 : Hp} (a : Kp p g H H1) (b : Kp p g H1 H2) : Kp p g H H2 := fun x o h1 h2 e => b x o h1 h2 (a x o h1 h2 e)
theorem Kp.of {p g : Addr} {H H' : Hp} (a : Same H H') : Kp p g H H' := fun x o _ _ e => a x o e
theorem Kp.upd_p {p g : Addr} {H : Hp} {o : HO} : Kp p g H (upd H p o) := fun x u h1 _ e => by rw [upd_ne h1]; exact e
theorem Kp.upd_g {p g : Addr} {H : Hp} {o : HO} : Kp p g H (upd H g o) := fun x u _ h2 e => by rw [upd_ne h2]; exact e
theorem same_upd {H : Hp} {p : Addr} {o : HO} (h : H p = none) : Same H (upd H p o) := fun b u e => by
  rw [upd_ne (ne_of_none e h)]
  exact e
theorem dk_ne_lst {H : Hp} {a b : Addr} {kvs : List (Key × V)} {xs : List V} (h1 : H a = some (.dK kvs)) (h2 : H b = some (.lst xs)) : a ≠ b := ne_of h1 h2 (by intro z; cases z)
theorem ints_at {K : PySem.W.Frag} {xs : List Int} {i : Nat} {y : V} (h : (xs.map V.int)[i]? = some y) : ∃ u, y = V.int u ∧ xs[i]? = some u ∧ i < xs.length := by
  rw [List.getElem?_map] at h
  cases e : xs[i]? with
  | none =>
    rw [e] at h
    cases h
  | some u =>
    rw [e] at h
    exact ⟨u, (Option.some.inj h).symm, rfl, (List.getElem?_eq_some_iff.mp e).1⟩
theorem dpAll_ints {K : PySem.W.Frag} {H : Hp} : ∀ (xs : List Int), DpAll K H (xs.map V.int) (xs.map PyData.int)
  | [] => .nil
  | x :: xs => .cons (.int x) (dpAll_ints xs)
theorem can_ints : ∀ (xs : List Int), PyData.canLayAll0 (xs.map PyData.int) = true
  | [] => rfl
  | x :: xs => by
    show (PyData.canLay0 (.int x) && PyData.canLayAll0 (xs.map PyData.int)) = true
    rw [can_ints xs]
    rfl
theorem depth_ints : ∀ (xs : List Int), PyData.depthAll (xs.map PyData.int) = 0
  | [] => rfl
  | x :: xs => by
    show max (PyData.depth (.int x)) (PyData.depthAll (xs.map PyData.int)) = 0
    rw [depth_ints xs]
    rfl
theorem shaped_ints (xs : List Int) : SeqAt.shaped (.list (xs.map PyData.int)) = true := by
  unfold SeqAt.shaped
  have h1 : PyData.canLay0 (.list (xs.map PyData.int)) = true := can_ints xs
  have h2 : PyData.depth (.list (xs.map PyData.int)) = 1 := by
    show PyData.depthAll (xs.map PyData.int) + 1 = 1
    rw [depth_ints]
  rw [h1, h2]
  rfl

/-! ## what a def of the draws asks of the module -/
structure TxtP (mg : Str → Option Value) : Prop where
  abs : mg "abs" = none
  int : mg "int" = none
  len : mg "len" = none

def spBegun (K : PySem.W.Frag) : Sp := fun vs H Q _ => ∃ (a : Addr) (ns : List Int), vs = [.ref a] ∧ SqL K H a (ns.map V.int) ∧ ns.length ≤ 63 ∧
  ∀ (H' : Hp) (p g c : Addr), Same H H' → St H' p g c 0 → H p = none → H g = none → Q (.ref p) H'
def spBlended : Sp := fun vs H Q _ => ∃ (p g c : Addr) (cs : List Int) (r t : Int), vs = [.ref p] ∧ H p = some (.dK (stp g c r t)) ∧ H c = some (.lst (cs.map V.int)) ∧ 0 ≤ t ∧ t < 2 ^ 40 ∧
  ∀ (H' : Hp) (f : Int), Same (upd H p (.dK (stp g c r (t + 1)))) H' → Q (.int f) H'
def spDraw : Sp := fun vs H Q _ => ∃ (p g c : Addr) (n : Nat) (m : Int), vs = [.ref p, .int m] ∧ St H p g c n ∧ n < 2 ^ 40 ∧ 0 < m ∧ m < 2 ^ 30 ∧
  ∀ (H' : Hp) (f : Int), Kp p g H H' → St H' p g c (n + 1) → 0 ≤ f → f < m → Q (.int f) H'
def spPick (K : PySem.W.Frag) : Sp := fun vs H Q _ => ∃ (p g c : Addr) (n : Nat) (l : Addr) (xs : List V), vs = [.ref p, .ref l] ∧ St H p g c n ∧ n < 2 ^ 40 ∧ H l = some (.lst xs) ∧ l ≠ g ∧ 0 < xs.length ∧ xs.length ≤ 1000 ∧
  ∀ (H' : Hp) (i : Nat) (y : V), Kp p g H H' → St H' p g c (n + 1) → i < xs.length → xs[i]? = some y → Q y H'

section
variable {P : Program} {w : World} {K : PySem.W.Frag} {mg : Str → Option Value} {base : Heap}
abbrev nBegun : List Str := ["script", "great", "cell"]
theorem scBegun : FnScope nBegun ["script"] (defScope sBegun) := ⟨rfl, rfl, rfl, by decide +kernel, rfl, by decide +kernel, by decide +kernel⟩
theorem ok_begun {f : Addr} {fd : FuncData} (F : Fun K "_law_begun" "_law_begun" sBegun f fd) (T : TxtP mg) : FnOk P w K mg base CX0 1 f fd ["script"] (spBegun K) := by
  refine F.ok scBegun (fun vs H Q E h => ?_) (fun cdv A outer s H vs Q E hr h => ?_)
  · obtain ⟨a, ns, rfl, _⟩ := h
    rfl
  · obtain ⟨a, ns, rfl, hS, hlen, k⟩ := h
    have nd := scBegun.nd
    refine ⟨_, pss_cons (ps_setLc (i := 1) (own := [("cell", 2)]) (g := gName 2) rfl nd rfl rfl (sw_true rfl rfl rfl (by decide +kernel)) (pi_list (pv 0)) (blkOk_by (own := [("cell", 2)]) (N := nBegun) (sc := defScope sBegun) (by decide +kernel))
          (fun _ _ _ _ _ => pg_name (i := 2) nd rfl (Or.inl rfl))
          (fun _ _ _ _ _ => pts_one (pt_cmpR op_ge (pe_callB call_abs (by rfl) T.abs (by decide +kernel) (pa_cons (pv 2) pa_nil)) (pe_op op_pow pe_int pe_int) (nomark _)))
          (fun _ _ _ _ _ => pe_op op_sub (pe_callB call_abs (by rfl) T.abs (by decide +kernel) (pa_cons (pv 2) pa_nil)) (pe_op op_pow pe_int pe_int)))
      (pss_one (ps_ret (pe_disp (pps_cons pe_str (pv 1) (pps_cons pe_str
          (pe_lc (own := [("cell", 2)]) (g := gName 2) (tt := tYes) rfl nd (pi_list (pv 0)) (blkOk_by (own := [("cell", 2)]) (N := nBegun) (sc := defScope sBegun) (by decide +kernel))
            (fun _ _ _ _ _ => pg_name (i := 2) nd rfl (Or.inl rfl)) (fun _ _ _ _ _ => pts_nil) (fun _ _ _ _ _ => pe_callB call_abs (by rfl) T.abs (by decide +kernel) (pa_cons (pv 2) pa_nil)))
          (pps_cons pe_str pe_int (pps_cons pe_str pe_int pps_nil)))) (by rfl) (by rfl) (fun z => by cases z) (by decide)))), ?_⟩
    refine ⟨_, rfl, a, rfl, ⟨_, hS⟩, fun D hD => lc_list (K := K) (a := a) (xs := ns.map V.int) (fun i H' => ∃ gs : List Int, Same H H' ∧ H' D = some (.lst (gs.map V.int)) ∧ gs.length ≤ i)
      ⟨[], same_upd hD, upd_same, Nat.le_refl _⟩ (fun i H' _ ⟨_, s1, _⟩ => s1.seq hS) ?_ ?_⟩
    · rintro i y H' hi ⟨gs, s1, hd, hl⟩
      obtain ⟨u, rfl, hu, hlt⟩ := ints_at (K := K) hi
      refine ⟨rfl, _, rfl, _, rfl, _, _, rfl, rfl, ⟨by decide, by decide, by decide⟩, _, _, rfl, rfl, _, rfl, ?_⟩
      refine ite2 (fun _ => ?_) (fun _ => ?_)
      · refine ⟨_, rfl, _, rfl, _, _, rfl, rfl, ⟨by decide, by decide, by decide⟩, _, _, rfl, rfl, _, hd, ?_, ?_⟩
        · rw [List.length_map]
          exact Nat.lt_of_le_of_lt hl (Nat.lt_of_lt_of_le hlt (Nat.le_trans hlen (by decide)))
        · refine ⟨gs ++ [_], fun b o e => ?_, by rw [upd_same, List.map_append]; rfl, by rw [List.length_append]; exact Nat.succ_le_succ hl⟩
          rw [upd_ne (ne_of_none e hD)]
          exact s1 _ _ e
      · exact ⟨gs, s1, hd, Nat.le_succ_of_le hl⟩
    · rintro H1 ⟨gs, s1, hd, hl⟩
      rw [List.length_map] at hl
      refine fun p hp1 => ?_
      have npD : p ≠ D := fun e => by
        rw [e, hd] at hp1
        cases hp1
      have s2 : Same H (upd H1 p (.dK [])) := s1.trans (same_upd hp1)
      have hd2 : (upd H1 p (.dK [])) D = some (.lst (gs.map V.int)) := by rw [upd_ne npD.symm]; exact hd
      have hp2 : (upd H1 p (.dK [])) p = some (.dK []) := upd_same
      generalize hH2 : upd H1 p (.dK []) = H2 at s2 hd2 hp2
      refine ⟨_, rfl, _, rfl, a, rfl, ⟨_, s2.seq hS⟩, fun D2 hD2 => lc_list (K := K) (a := a) (xs := ns.map V.int) (fun i H' => ∃ cs : List Int, Same H2 H' ∧ H' D2 = some (.lst (cs.map V.int)) ∧ cs.length ≤ i)
        ⟨[], same_upd hD2, upd_same, Nat.le_refl _⟩ (fun i H' _ ⟨_, s3, _⟩ => s3.seq (s2.seq hS)) ?_ ?_⟩
      · rintro i y H' hi ⟨cs, s3, hd3, hl3⟩
        obtain ⟨u, rfl, hu, hlt⟩ := ints_at (K := K) hi
        refine ⟨rfl, ?_⟩
        refine ⟨_, rfl, _, rfl, _, hd3, ?_, ?_⟩
        · rw [List.length_map]
          exact Nat.lt_of_le_of_lt hl3 (Nat.lt_of_lt_of_le hlt (Nat.le_trans hlen (by decide)))
        · refine ⟨cs ++ [_], fun b o e => ?_, by rw [upd_same, List.map_append]; rfl, by rw [List.length_append]; exact Nat.succ_le_succ hl3⟩
          rw [upd_ne (ne_of_none e hD2)]
          exact s3 _ _ e
      · rintro H3 ⟨cs, s3, hd3, hl3⟩
        rw [List.length_map] at hl3
        have nD2 : D ≠ D2 := ne_of_none hd2 hD2
        have npD2 : p ≠ D2 := ne_of_none hp2 hD2
        refine ⟨s3 _ _ hp2, [(kG, .ref D), (kC, .ref D2), (kR, .int 0), (kT, .int 0)], rfl, by show 4 ≤ 15; decide, ?_⟩
        rw [merge_st]
        have hp0 : H p = none := s1.free hp1
        refine k _ p D D2 (fun b o e => ?_) ⟨⟨gs, cs, 0, 0, upd_same, ?_, ?_, Nat.le_trans hl hlen, Nat.le_trans hl3 hlen, Int.le_refl _, Int.le_refl _⟩, nD2⟩ hp0 hD
        · rw [upd_ne (ne_of_none e hp0)]
          exact s3 _ _ (s2 _ _ e)
        · rw [upd_ne npD.symm]
          exact s3 _ _ hd2
        · rw [upd_ne npD2.symm]
          exact hd3

abbrev nBlended : List Str := ["state", "turn", "found", "prime", "blend", "cell"]
theorem scBlended : FnScope nBlended ["state"] (defScope sBlended) := ⟨rfl, rfl, rfl, by decide +kernel, rfl, by decide +kernel, by decide +kernel⟩
theorem get_t {H : Hp} {p g c : Addr} {r t : Int} (h : H p = some (.dK (stp g c r t))) : DGet H p (.str "turn") (some (.int t)) := by
  have q := DGet.k (k := kT) h
  rw [st_t] at q
  exact q
theorem get_r {H : Hp} {p g c : Addr} {r t : Int} (h : H p = some (.dK (stp g c r t))) : DGet H p (.str "rest") (some (.int r)) := by
  have q := DGet.k (k := kR) h
  rw [st_r] at q
  exact q
theorem get_c {H : Hp} {p g c : Addr} {r t : Int} (h : H p = some (.dK (stp g c r t))) : DGet H p (.str "cells") (some (.ref c)) := by
  have q := DGet.k (k := kC) h
  rw [st_c] at q
  exact q
theorem get_g {H : Hp} {p g c : Addr} {r t : Int} (h : H p = some (.dK (stp g c r t))) : DGet H p (.str "great") (some (.ref g)) := by
  have q := DGet.k (k := kG) h
  rw [st_g] at q
  exact q
theorem dput_t {H : Hp} {p g c : Addr} {r t u : Int} (h : H p = some (.dK (stp g c r t))) : DPut H p (.str "turn") (.int u) (upd H p (.dK (stp g c r u))) := by
  have q := DPut.k (k := kT) (v := .int u) h stp_len
  rw [put_t] at q
  exact q
theorem dput_r {H : Hp} {p g c : Addr} {r t u : Int} (h : H p = some (.dK (stp g c r t))) : DPut H p (.str "rest") (.int u) (upd H p (.dK (stp g c u t))) := by
  have q := DPut.k (k := kR) (v := .int u) h stp_len
  rw [put_r] at q
  exact q
theorem prime_at {i : Nat} {x : V} (h : ([V.int 2147483579, .int 2147483629, .int 2147483563] : List V)[i]? = some x) : ∃ u : Int, x = .int u ∧ 0 < u ∧ u < 2147483648 := by
  match i, h with
  | 0, h => exact ⟨_, (Option.some.inj h).symm, by decide, by decide⟩
  | 1, h => exact ⟨_, (Option.some.inj h).symm, by decide, by decide⟩
  | 2, h => exact ⟨_, (Option.some.inj h).symm, by decide, by decide⟩
  | n + 3, h => cases h
theorem ok_blended {f : Addr} {fd : FuncData} (F : Fun K "_law_blended" "_law_blended" sBlended f fd) (T : TxtP mg) : FnOk P w K mg base CX0 1 f fd ["state"] spBlended := by
  refine F.ok scBlended (fun vs H Q E h => ?_) (fun cdv A outer s H vs Q E hr h => ?_)
  · obtain ⟨p, g, c, cs, r, t, rfl, _⟩ := h
    rfl
  · obtain ⟨p, g, c, cs, r, t, rfl, hp, hc, t0, t1, k⟩ := h
    have nd := scBlended.nd
    have hu := hu_of hr
    refine ⟨_, pss_cons (ps_par (i := 1) (j := 2) rfl nd rfl rfl (by decide) rfl rfl (pa_cons (pe_op op_add (pe_dget hu (pv 0) pe_str (fun _ _ => rfl)) pe_int) (pa_cons pe_int pa_nil)) (by rfl))
      (pss_cons (ps_dput hu (pv 0) pe_str (pv 1) rfl)
      (pss_cons (ps_for PassesOwn.never rfl (pi_list (pe_lst (pa_cons pe_int (pa_cons pe_int (pa_cons pe_int pa_nil))))) (pg_name (i := 3) nd rfl (Or.inl rfl))
        (pss_cons (ps_set (i := 4) nd rfl (Or.inl rfl) (pe_op op_add (pe_op op_mul pe_int (pv 1)) (pe_op op_fdivW (pv 3) pe_int)))
        (pss_cons (ps_for PassesOwn.never rfl (pi_list (pe_dget hu (pv 0) pe_str (fun _ _ => rfl))) (pg_name (i := 5) nd rfl (Or.inl rfl))
            (pss_one (ps_set (i := 4) nd rfl (Or.inl rfl) (pe_op op_mod (pe_callTy call_int1 (by rfl) T.int (by decide +kernel) (pa_cons (pe_op op_add (pe_op op_add (pe_op op_mul (pv 4) pe_int) (pv 5)) (pv 1)) pa_nil)) (pv 3)))))
        (pss_one (ps_set (i := 2) nd rfl (Or.inl rfl) (pe_op op_add (pe_op op_mul (pv 2) pe_int) (pe_op op_mod (pe_callTy call_int1 (by rfl) T.int (by decide +kernel) (pa_cons (pe_op op_pow (pv 4) pe_int) pa_nil)) (pv 3))))))))
      (pss_one (ps_ret (pv 2))))), ?_⟩
    refine ⟨_, rfl, p, _, rfl, get_t hp, t, 1, rfl, rfl, _, _, rfl, ?_⟩
    refine ⟨_, rfl, _, rfl, p, _, rfl, dput_t hp, ?_⟩
    refine ⟨by show 3 ≤ sizeLine; decide, fun l hl => ?_⟩
    have npl : p ≠ l := fun e => by
      rw [e, upd_same] at hl
      cases hl
    have ncp : c ≠ p := ne_of hc hp (by intro z; cases z)
    have ncl : c ≠ l := fun e => by
      rw [← e, upd_ne ncp, hc] at hl
      cases hl
    have s0 : Same (upd H p (.dK (stp g c r (t + 1)))) (upd (upd H p (.dK (stp g c r (t + 1)))) l (.lst [.int 2147483579, .int 2147483629, .int 2147483563])) := same_upd hl
    generalize hHH : upd (upd H p (.dK (stp g c r (t + 1)))) l (.lst [.int 2147483579, .int 2147483629, .int 2147483563]) = HH at s0
    have hp' : HH p = some (.dK (stp g c r (t + 1))) := s0 _ _ upd_same
    have hc' : HH c = some (.lst (cs.map V.int)) := s0 _ _ (by rw [upd_ne ncp]; exact hc)
    have hl' : HH l = some (.lst [.int 2147483579, .int 2147483629, .int 2147483563]) := by rw [← hHH]; exact upd_same
    refine ⟨l, rfl, ⟨_, SqL.of hl'⟩, for_list (K := K) (a := l) (xs := [.int 2147483579, .int 2147483629, .int 2147483563])
      (fun i σ H' => ∃ (fo : Int) (pr bl ce : Option V), σ = [some (.ref p), some (.int (t + 1)), some (.int fo), pr, bl, ce] ∧ H' = HH) ⟨0, none, none, none, rfl, rfl⟩ (fun i σ H' _ ⟨_, _, _, _, _, e⟩ => by rw [e]; exact SqL.of hl') ?_ ?_⟩
    · rintro i x σ H' hx ⟨fo, pr, bl, ce, rfl, rfl⟩
      obtain ⟨q, rfl, q0, q1⟩ := prime_at hx
      refine ⟨_, rfl, 48271, t + 1, rfl, rfl, .inl ⟨by decide, by decide⟩, _, rfl, q, 53, rfl, rfl, ⟨by decide, by decide +kernel⟩, _, _, rfl, rfl, ?_⟩
      refine ⟨_, rfl, p, _, rfl, get_c hp', c, rfl, ⟨_, SqL.of hc'⟩, for_list (K := K) (a := c) (xs := cs.map V.int)
        (fun j σ H'' => ∃ (b : Int) (ce : Option V), σ = [some (.ref p), some (.int (t + 1)), some (.int fo), some (.int q), some (.int b), ce] ∧ H'' = H' ∧ 0 ≤ b ∧ b < 2 ^ 60) ⟨_, ce, rfl, rfl, ?_, ?_⟩
        (fun i σ H' _ ⟨_, _, _, e, _⟩ => by rw [e]; exact SqL.of hc') ?_ ?_⟩
      · have z : 0 ≤ q / 53 := Int.ediv_nonneg (by omega) (by decide)
        omega
      · have z : q / 53 ≤ q := Int.ediv_le_self _ (by omega)
        omega
      · rintro j y σ H'' hy ⟨b, ce', rfl, rfl, b0, b1⟩
        obtain ⟨u, rfl, _, _⟩ := ints_at (K := K) hy
        refine ⟨_, rfl, b, 69621, rfl, rfl, .inr ⟨by decide, by decide⟩, _, rfl, _, _, rfl, rfl, _, rfl, _, _, rfl, rfl, .inl ⟨_, rfl, _, rfl, _, q, rfl, rfl, q0, ?_⟩⟩
        refine ⟨_, _, rfl, rfl, Int.emod_nonneg _ (by omega), ?_⟩
        have z := Int.emod_lt_of_pos (b * 69621 + u + (t + 1)) q0
        omega
      · rintro σ H'' ⟨b, ce', rfl, rfl, b0, b1⟩
        refine ⟨_, rfl, fo, 2147483647, rfl, rfl, .inr ⟨by decide, by decide⟩, _, rfl, b, 5, rfl, rfl, ⟨by decide, by decide, by omega⟩, .inl ⟨_, rfl, _, rfl, _, q, rfl, rfl, q0, _, _, rfl, rfl, ?_⟩⟩
        exact ⟨_, _, _, _, rfl, rfl⟩
    · rintro σ H' ⟨fo, pr, bl, ce, rfl, rfl⟩
      exact ⟨_, rfl, k _ _ s0⟩

theorem eqv_ints_nil : ∀ gs : List Int, PyData.eqv (.list (gs.map PyData.int)) (.list []) = gs.isEmpty
  | [] => rfl
  | _ :: _ => rfl
theorem dp_ints {H : Hp} {a : Addr} {gs : List Int} (h : H a = some (.lst (gs.map V.int))) : Dp K H (.ref a) (.list (gs.map PyData.int)) := .lst (SqL.of h) (dpAll_ints (K := K) gs)
abbrev nDraw : List Str := ["state", "room", "found"]
theorem scDraw : FnScope nDraw ["state", "room"] (defScope sDraw) := ⟨rfl, rfl, rfl, by decide +kernel, rfl, by decide +kernel, by decide +kernel⟩
theorem ok_draw {f fB : Addr} {fd fdB : FuncData} (F : Fun K "_law_draw" "_law_draw" sDraw f fd) (T : TxtP mg) (FB : Fun K "_law_blended" "_law_blended" sBlended fB fdB) (mgB : mg "_law_blended" = some (.ref fB)) :
    FnOk P w K mg base CX0 2 f fd ["state", "room"] spDraw := by
  have GB : FnOk P w K mg base CX0 1 fB fdB ["state"] spBlended := ok_blended FB T
  have bB : Binds K fdB ["state"] [] := FB.binds (ps := ["state"]) fun _ _ _ _ _ _ us hl => match us, hl with | [_], _ => rfl
  refine F.ok scDraw (fun vs H Q E h => ?_) (fun cdv A outer s H vs Q E hr h => ?_)
  · obtain ⟨p, g, c, n, m, rfl, _⟩ := h
    rfl
  · obtain ⟨p, g, c, n, m, rfl, ⟨⟨gs, cs, r, t, hp, hg, hc, lg, lc, t0, t1⟩, ngc⟩, hn, m0, m1, k⟩ := h
    have nd := scDraw.nd
    have hu := hu_of hr
    have npg : p ≠ g := dk_ne_lst hp hg
    have npc : p ≠ c := dk_ne_lst hp hc
    refine ⟨_, C8.pss_cut (ps_if (pt_cmpR op_eq (pe_dget hu (pv 0) pe_str (fun _ _ => rfl)) pe_int (nomark _))
        (pss_one (ps_dput hu (pv 0) pe_str (pe_ifExp (pt_cmpR (op_neD hr.units) (pe_dget hu (pv 0) pe_str (fun _ _ => rfl)) (pe_lst pa_nil) (nomark _))
          (pe_bm PySem.F.plainAttrs_list PySem.F.slot_list_pop PySem.F.type_list_pop mt_popAt (pe_dget hu (pv 0) pe_str (fun _ _ => rfl)) (pa_cons pe_int pa_nil))
          (pe_call GB hr rfl mgB FB.kp bB .nil pass0 (pa_cons (pv 0) pa_nil))) rfl)) pss_nil)
      (pss_cons (ps_set (i := 2) nd rfl (Or.inl rfl) (pe_op op_mod (pe_callTy call_int1 (by rfl) T.int (by decide +kernel) (pa_cons (pe_dget hu (pv 0) pe_str (fun _ _ => rfl)) pa_nil)) (pv 1)))
      (pss_cons (ps_dput hu (pv 0) pe_str (pe_op op_fdivW (pe_dget hu (pv 0) pe_str (fun _ _ => rfl)) (pv 1)) rfl)
      (pss_one (ps_ret (pv 2))))), ?_⟩
    refine ⟨fun σ H' => σ = [some (.ref p), some (.int m), none] ∧ Kp p g H H' ∧ ∃ (gs' : List Int) (r' t' : Int), H' p = some (.dK (stp g c r' t')) ∧ H' g = some (.lst (gs'.map V.int)) ∧ H' c = some (.lst (cs.map V.int)) ∧ gs'.length ≤ 63 ∧ 0 ≤ t' ∧ t' ≤ n + 1, ?_, ?_⟩
    · refine ⟨_, rfl, p, _, rfl, get_r hp, rfl, _, rfl, ?_⟩
      refine ite2 (fun _ => ?_) (fun _ => ?_)
      · refine ⟨_, rfl, p, _, rfl, get_g hp, by show 0 ≤ sizeLine; decide, fun l hl => ?_⟩
        have s0 : Same H (upd H l (.lst [])) := same_upd hl
        have hp1 := s0 _ _ hp
        have hg1 := s0 _ _ hg
        have hc1 := s0 _ _ hc
        have hl1 : (upd H l (.lst [])) l = some (.lst (([] : List Int).map V.int)) := upd_same
        generalize hH1 : upd H l (.lst []) = H1 at s0 hp1 hg1 hc1 hl1
        refine ⟨_, _, dp_ints hg1, dp_ints hl1, shaped_ints _, shaped_ints _, _, rfl, ?_⟩
        have eq : PyData.eqv (.list (gs.map PyData.int)) (.list (([] : List Int).map PyData.int)) = gs.isEmpty := eqv_ints_nil gs
        rw [eq]
        refine ite2 (fun hne => ?_) (fun _ => ?_)
        · match gs, hne, lg, hg1 with
          | [], hne, _, _ => exact absurd hne (by simp)
          | u :: gs', _, lg, hg1 =>
            refine ⟨_, rfl, p, _, rfl, get_g hp1, .inl ⟨rfl, _, SqL.of hg1⟩, g, _, 0, 0, .int u, rfl, rfl, hg1, by decide, by decide, ?_, rfl, ?_⟩
            · rw [List.length_map, List.length_cons]
              unfold seqIndex?
              simp
            · have hp2 : (upd H1 g (.lst (((u :: gs').map V.int).eraseIdx 0))) p = some (.dK (stp g c r t)) := by rw [upd_ne npg]; exact hp1
              refine ⟨_, rfl, p, _, rfl, dput_r hp2, ?_⟩
              refine ⟨rfl, (Kp.of s0).trans (Kp.upd_g.trans Kp.upd_p), gs', u, t, upd_same, ?_, ?_, ?_, t0, by omega⟩
              · rw [upd_ne npg.symm, upd_same]
                rfl
              · rw [upd_ne npc.symm, upd_ne ngc.symm]
                exact hc1
              · simp only [List.length_cons] at lg
                omega
        · refine ⟨_, rfl, p, g, c, cs, r, t, rfl, hp1, hc1, t0, by omega, fun H2 f0 s2 => ?_⟩
          have hp2 := s2 _ _ upd_same
          refine ⟨_, rfl, p, _, rfl, dput_r hp2, ?_⟩
          refine ⟨rfl, (Kp.of s0).trans (Kp.upd_p.trans ((Kp.of s2).trans Kp.upd_p)), gs, f0, t + 1, upd_same, ?_, ?_, lg, by omega, by omega⟩
          · rw [upd_ne npg.symm]
            exact s2 _ _ (by rw [upd_ne npg.symm]; exact hg1)
          · rw [upd_ne npc.symm]
            exact s2 _ _ (by rw [upd_ne npc.symm]; exact hc1)
      · exact ⟨rfl, Kp.refl, gs, r, t, hp, hg, hc, lg, t0, by omega⟩
    · rintro σ H' ⟨rfl, kp, gs', r', t', hp', hg', hc', lg', t0', t1'⟩
      refine ⟨_, rfl, p, _, rfl, get_r hp', .inl ⟨_, rfl, _, rfl, _, m, rfl, rfl, m0, ?_⟩⟩
      refine ⟨_, rfl, p, _, rfl, get_r hp', _, rfl, _, m, rfl, rfl, wide_div m0 (b := 30) (by omega) (by decide) (by decide), _, rfl, p, _, rfl, dput_r hp', ?_⟩
      refine ⟨_, rfl, k _ _ (kp.trans Kp.upd_p) ⟨⟨gs', cs, r' / m, t', upd_same, ?_, ?_, lg', lc, t0', t1'⟩, ngc⟩ (Int.emod_nonneg _ (by omega)) (Int.emod_lt_of_pos _ m0)⟩
      · rw [upd_ne npg.symm]
        exact hg'
      · rw [upd_ne npc.symm]
        exact hc'
abbrev nPick : List Str := ["state", "some"]
theorem scPick : FnScope nPick ["state", "some"] (defScope sPick) := ⟨rfl, rfl, rfl, by decide +kernel, rfl, by decide +kernel, by decide +kernel⟩
theorem ok_pick {f fD fB : Addr} {fd fdD fdB : FuncData} (F : Fun K "_law_pick" "_law_pick" sPick f fd) (T : TxtP mg) (FD : Fun K "_law_draw" "_law_draw" sDraw fD fdD) (mgD : mg "_law_draw" = some (.ref fD)) (FB : Fun K "_law_blended" "_law_blended" sBlended fB fdB) (mgB : mg "_law_blended" = some (.ref fB)) :
    FnOk P w K mg base CX0 3 f fd ["state", "some"] (spPick K) := by
  have GD : FnOk P w K mg base CX0 2 fD fdD ["state", "room"] spDraw := ok_draw FD T FB mgB
  have bD : Binds K fdD ["state", "room"] [] := FD.binds (ps := ["state", "room"]) fun _ _ _ _ _ _ us hl => match us, hl with | [_, _], _ => rfl
  refine F.ok scPick (fun vs H Q E h => ?_) (fun cdv A outer s H vs Q E hr h => ?_)
  · obtain ⟨p, g, c, n, l, xs, rfl, _⟩ := h
    rfl
  · obtain ⟨p, g, c, n, l, xs, rfl, hs, hn, hl, nlg, x0, x1, k⟩ := h
    have nlp : l ≠ p := by
      obtain ⟨⟨gs, cs, r, t, hp, _⟩, _⟩ := hs
      exact (dk_ne_lst hp hl).symm
    refine ⟨_, pss_one (ps_ret (pe_ix ix_list (pv 1) (pe_call GD hr rfl mgD FD.kp bD .nil pass0 (pa_cons (pv 0) (pa_cons (pe_callB call_len_seq (by rfl) T.len PySem.boot_len (pa_cons (pv 1) pa_nil)) pa_nil))) (fun _ _ => rfl))), ?_⟩
    refine ⟨_, rfl, _, rfl, _, rfl, l, _, rfl, .inl (SqL.of hl), p, g, c, n, (xs.length : Int), rfl, hs, hn, by omega, by omega, fun H' f0 kp s' f1 f2 => ?_⟩
    have hl' := kp l _ nlp nlg hl
    obtain ⟨i, rfl⟩ := Int.eq_ofNat_of_zero_le f1
    have hi : i < xs.length := by omega
    refine ⟨l, _, _, xs[i], rfl, rfl, SqL.of hl', atI_nat (List.getElem?_eq_getElem hi), ?_⟩
    exact k _ i _ kp s' hi (List.getElem?_eq_getElem hi)
end
end Pre

namespace Lm
open PySem PySem.Spec PyProof.Rows L2
open LamX (CodeO TabS Tabs ExtN TabB LamS lamEnv lamCx inv_table among_app codeO_ne lam_start2 run_ofS takes0)

/-! ## lambdas that are kept: in a name, in a list; what a try catches is kept, too -/
/-- at f a lambda of the name q, its code object at c', its cells cl -/
def LamO (f : Addr) (q : Str) (params : Arguments) (body : Expr) (scope : Scope) (cl : List (Str × Addr)) (c' : Addr) : HO := .ext fun h => ∃ pm ctv, h.get? f = some (PySem.W.kla_obj "<lambda>" q params body scope cl pm c' ctv)
theorem lamO_ok {P : Program} {w : World} {H : Hp} {h : Heap} {f c' : Addr} {q : Str} {params : Arguments} {body : Expr} {scope : Scope} {cl : List (Str × Addr)} {pm ctv : Value} (e : h.get? f = some (PySem.W.kla_obj "<lambda>" q params body scope cl pm c' ctv)) :
    ObjOk P w H h f (LamO f q params body scope cl c') := ⟨⟨pm, ctv, e⟩, ⟨_, e⟩, fun _ _ ⟨p, t, y⟩ k => ⟨p, t, k _ y⟩⟩
theorem lamO_ne {f c' : Addr} {q : Str} {params : Arguments} {body : Expr} {scope : Scope} {cl : List (Str × Addr)} (ps : Array Value) : LamO f q params body scope cl c' ≠ .tbl ps := fun y => by
  unfold LamO at y
  cases y
/-- at a an exception of the class cls, its dict d, that was caught -/
def ExT (cls : Value) (d : Option Addr) (a : Addr) : HO := .ext fun h => ∃ (oe : Obj) (fv : Array Value), h.get? a = some oe ∧ Zc cls d oe ∧ oe.data = .fields fv
theorem exT_ok {P : Program} {w : World} {H : Hp} {h : Heap} {a : Addr} {cls : Value} {d : Option Addr} {oe : Obj} {fv : Array Value} (e : h.get? a = some oe) (y : Zc cls d oe) (dt : oe.data = .fields fv) : ObjOk P w H h a (ExT cls d a) :=
  ⟨⟨oe, fv, e, y, dt⟩, ⟨oe, e⟩, fun _ _ ⟨o, v, q, r⟩ k => ⟨o, v, k _ q, r⟩⟩

section
variable {X : Cx} {pins : List (Addr × Obj)} {σ : L2.St} {H : Hp} {s : Shared}
/-- an object that is newer than the def's entry is tracked from now on -/
theorem track {a : Addr} {o : HO} (J : Inv X pins σ H s) (hn : H a = none) (h0 : X.s_0.heap.get? a = none) (nL : X.env.locals ≠ a) (nC : ∀ x c, X.env.cells.lookup x = some c → c ≠ a) (nP : ∀ p ∈ X.pn ++ pins, p.1 ≠ a) (new : ObjOk X.prog X.w (upd H a o) s.heap a o) :
    Inv X pins σ (upd H a o) s := by
  have ne0 : ∀ b u, X.s_0.heap.get? b = some u → b ≠ a := fun b u e y => by
    rw [y, h0] at e
    cases e
  have neT : ∀ b u, H b = some u → b ≠ a := fun b u e => ne_of_none e hn
  refine ⟨J.ok, J.os, J.bare, ⟨J.base.keep, J.base.slot, fun b u e n hx => ?_, J.base.there, fun b xs e => ?_, fun b u v e => ?_, fun b ps e => ?_⟩, J.loc, J.cell, ?_, fun x c e => ?_, fun p hp => ?_, fun b u e => ?_, J.len⟩
  · rw [upd_ne (ne0 b u e)]
    exact J.base.free b u e n hx
  · have y := J.base.tups b xs e
    rw [upd_ne (neT b _ y)]
    exact y
  · have y := J.base.frzs b u v e
    rw [upd_ne (neT b _ y)]
    exact y
  · obtain ⟨m, y⟩ := J.base.tbls b ps e
    exact ⟨m, by rw [upd_ne (neT b _ y)]; exact y⟩
  · rw [upd_ne nL]
    exact J.free
  · rw [upd_ne (nC x c e)]
    exact J.freeC x c e
  · obtain ⟨e, n, r⟩ := J.pin p hp
    exact ⟨e, by rw [upd_ne (nP p hp)]; exact n, r⟩
  · by_cases hb : b = a
    · subst hb
      rw [upd_same] at e
      cases e
      exact new
    · rw [upd_ne hb] at e
      exact (J.hok b u e).stay (fun _ _ _ y => y) (fun c y => by rw [upd_ne (neT c _ y)]; exact y) fun c xs y => by rw [upd_ne (neT c _ y)]; exact y

/-- lambda: body, the new function object tracked -/
theorem lam_new {T : List (Addr × Str)} {c P : Addr} {params : Arguments} {body : Expr} {scope : Scope} {pos : Pos} {E : Value → Shared → Prop} {Q : Value → Shared → Prop} (I : Inv X pins σ H s) (TB : TabB X.base X.mg c P) (hcode : X.env.code = .ref c)
    (hm : (P, X.env.qual ++ "<lambda>") ∈ T) (hu : ∀ p ∈ T, p.1 = P → p.2 = X.env.qual ++ "<lambda>") (hT : Tabs T H) (hdef : defaultsOf params X.env = ([], [])) (hfree : ∀ y ∈ scope.names, y.2 = .free → ∃ c, X.env.cells.lookup y.1 = some c)
    (h : ∀ (f c' : Addr) (H1 : Hp) (s' : Shared), Inv X pins σ (upd H1 f (LamO f (X.env.qual ++ "<lambda>") params body scope (cloFrom X.env.cells scope.names []) c')) s' → ExtN H H1 → Tabs T H1 → H1 f = none → H1 c' = some (CodeO c' (X.env.qual ++ "<lambda>")) → Q (.ref f) s') :
    wpAny (model X.prog X.w) X.A (eval (.Lambda params body scope pos) X.env) Q E s := by
  obtain ⟨ps, hP, ht, ha⟩ := hT _ hm
  refine PySem.W.kla_eval hdef ?_
  have bIn : s.heap.BuiltinsAt X.mg P := TB.bm.keeps I.bk
  have atP : s.heap.get? P = some { cls := .none, data := .fields ps } := I.hok P _ hP
  cases hc : codeAmong pos ps.toList with
  | none =>
    refine PySem.W.kla_makeFunction (mg := X.mg) (c := c) (P := P) (ps := ps) (closure_ok hfree) I.ok.glob (I.mod.glob.keeps I.bk) hcode (TB.code.keeps I.bk) atP ht hc TB.gP bIn fun c' ctv h' tk keepsB hge hlt hrec htb => ?_
    obtain ⟨c2, oc, fv, t, e2, hoc, hd, hv⟩ := hrec
    cases e2
    have nC : H c' = none := I.hok.fresh hge
    have I0 := inv_table (t' := tk) (more := #[rawInt pos.line, rawInt pos.col, .ref c']) (h' := h') I hP keepsB htb hge ⟨oc, fv, t, hoc, hd, hv⟩
    have hE : ExtN H (upd (upd H P (.tbl (ps ++ #[rawInt pos.line, rawInt pos.col, .ref c']))) c' (CodeO c' (X.env.qual ++ "<lambda>"))) := fun b o e n => by
      rw [upd_ne (ne_of_none e nC), upd_ne (fun y => n ps (Option.some.inj (e.symm.trans (by rw [y]; exact hP))))]
      exact e
    have app : (ps ++ #[rawInt pos.line, rawInt pos.col, .ref c']).toList = ps.toList ++ [rawInt pos.line, rawInt pos.col, .ref c'] := by simp
    have I1 := I0.laid (t' := tk) (a := h'.objs.size) (o := LamO h'.objs.size (X.env.qual ++ "<lambda>") params body scope (cloFrom X.env.cells scope.names []) c') (h' := h'.push (PySem.W.kla_obj "<lambda>" (X.env.qual ++ "<lambda>") params body scope (cloFrom X.env.cells scope.names []) ((X.mg "__name__").getD .none) c' ctv))
      (fun _ _ e => Heap.get?_push_of_some _ e) (Nat.le_refl _) (lamO_ok (Heap.get?_push_size _ rfl))
    refine h h'.objs.size c' _ _ I1 hE (fun p hp => ?_) (I0.hok.fresh (Nat.le_refl _)) upd_same
    by_cases hb : p.1 = P
    · rw [hu p hp hb, hb]
      refine ⟨_, by rw [upd_ne (ne_of_none hP nC), upd_same], by rw [app]; exact PySem.TriplesOk_snoc _ _ _ _ ht, fun p' cv hcv => ?_⟩
      rw [app] at hcv
      rcases among_app _ ht hcv with y | y
      · obtain ⟨c0, e1, e2⟩ := ha p' cv y
        exact ⟨c0, e1, hE _ _ e2 codeO_ne⟩
      · exact ⟨c', y, upd_same⟩
    · obtain ⟨ps', a1, a2, a3⟩ := hT p hp
      refine ⟨ps', by rw [upd_ne (ne_of_none a1 nC), upd_ne hb]; exact a1, a2, fun p' cv hcv => ?_⟩
      obtain ⟨c0, e1, e2⟩ := a3 p' cv hcv
      exact ⟨c0, e1, hE _ _ e2 codeO_ne⟩
  | some cv =>
    obtain ⟨c', e, hco⟩ := ha pos cv hc
    subst e
    refine PySem.W.kla_makeFunctionHit (mg := X.mg) (c := c) (P := P) (ps := ps) (closure_ok hfree) I.ok.glob (I.mod.glob.keeps I.bk) hcode (TB.code.keeps I.bk) atP ht hc bIn fun ctv h' tk keepsB _ => ?_
    have I0 : Inv X pins σ H { s with heap := h', toks := tk } := I.kept keepsB
    have I1 := I0.laid (t' := tk) (a := h'.objs.size) (o := LamO h'.objs.size (X.env.qual ++ "<lambda>") params body scope (cloFrom X.env.cells scope.names []) c') (h' := h'.push (PySem.W.kla_obj "<lambda>" (X.env.qual ++ "<lambda>") params body scope (cloFrom X.env.cells scope.names []) ((X.mg "__name__").getD .none) c' ctv))
      (fun _ _ e => Heap.get?_push_of_some _ e) (Nat.le_refl _) (lamO_ok (Heap.get?_push_size _ rfl))
    exact h h'.objs.size c' H _ I1 (ExtN.refl H) hT (I0.hok.fresh (Nat.le_refl _)) hco
end
def tLamb (T : List (Addr × Str)) (q : Str) (params : Arguments) (body : Expr) (scope : Scope) (cl : List (Str × Addr)) : TE := fun _ H Q => Tabs T H ∧ ∀ (f c' : Addr) (H1 : Hp), ExtN H H1 → Tabs T H1 → H1 f = none → H1 c' = some (CodeO c' q) → Q (.ref f) (upd H1 f (LamO f q params body scope cl c'))
theorem pe_lam {X : Cx} {T : List (Addr × Str)} {c P : Addr} {params : Arguments} {body : Expr} {scope : Scope} {pos : Pos} (TB : TabB X.base X.mg c P) (hcode : X.env.code = .ref c) (hm : (P, X.env.qual ++ "<lambda>") ∈ T) (hu : ∀ p ∈ T, p.1 = P → p.2 = X.env.qual ++ "<lambda>")
    (L : LamS X.env.scope scope) (hdef : defaultsOf params X.env = ([], [])) : PE X (.Lambda params body scope pos) (tLamb T (X.env.qual ++ "<lambda>") params body scope (cloFrom X.env.cells scope.names [])) :=
  ⟨fun pins s σ H Q I ⟨hT, k⟩ => lam_new I TB hcode hm hu hT hdef (L.has I.ok) fun f c' H1 s' I1 eN T1 hn hco => ⟨.ref f, _, I1, rfl, k f c' H1 eN T1 hn hco⟩⟩
end Lm

namespace Lm
open PySem PySem.Spec PyProof.Rows L2
open LamX (CodeO TabS Tabs ExtN TabB LamS lamEnv lamCx inv_table among_app codeO_ne lam_start2 run_ofS takes0)
section
variable {X : Cx} {pins : List (Addr × Obj)} {σ : L2.St} {H : Hp} {s : Shared}
/-- a(), in the def that was handed the lambda; σ: the slots of the def that made it -/
theorem act_ok {CXg : CXT} {Eg : XK} {Ng : List Str} {qg : Str} {sg : Scope} {g f c' : Addr} {cdg : Value} {params : Arguments} {body : Expr} {scope : Scope} {k i : Nat} {a : Str} {pn : List (Addr × Obj)} {xe : Value → Shared → Prop} {W : WX} {t : XK → TE} {p1 p2 : Pos}
    (I : Inv X pins σ H s) (L : LamS X.env.scope scope)
    (hbind : ∀ (q : Str) (cl : List (Str × Addr)) (pm cv ctv : Value), bindArgs (PySem.W.kla_fn "<lambda>" q params body scope cl pm cv ctv) ⟨[], []⟩ = pure [])
    (tk : Takes ((cxOf CXg X.prog X.w X.K X.mg X.base Ng qg sg g cdg X.A X.stack s H Eg).tr pn xe) W) (hr : Room (k + 1) (X.A.deeper (envOfC qg sg s.heap.objs.size g cdg)))
    (hbody : ∀ (A : Around) (outer : List Env) (s : Shared) (H : Hp) (E : XK), Room k (A.deeper (lamEnv X scope s.heap.objs.size f c')) → PE (lamCx X A outer s H E scope f c') body (t E))
    (hN : Ng[i]? = some a) (hv : Vis sg a) (hd : (a == ("__debug__" : Str)) = false := by decide) (hcd : (a == ("__classdict__" : Str)) = false := by decide) :
    PE ((cxOf CXg X.prog X.w X.K X.mg X.base Ng qg sg g cdg X.A X.stack s H Eg).tr pn xe) (.Call (.Name a p1) [] [] p2)
      (fun σZ HZ Q => σZ[i]? = some (some (.ref f)) ∧ HZ f = some (LamO f (X.env.qual ++ "<lambda>") params body scope (cloFrom X.env.cells scope.names []) c') ∧ HZ c' = some (CodeO c' (X.env.qual ++ "<lambda>")) ∧ t (WE W σZ) σ HZ Q) := by
  refine ⟨fun pinsZ sZ σZ HZ Q IZ ⟨atI, isL, isC, rd⟩ => ?_⟩
  refine wpAny_Call_Name_kw (thn ((pe_var (pos := p1) (i := i) hN hv hd hcd).run pinsZ sZ σZ HZ (fun v H1 => v = .ref f ∧ H1 = HZ) IZ ⟨.ref f, atI, rfl, rfl⟩) fun u s1 ⟨v, H1, I1, r1, isF, same⟩ => ?_)
  subst isF
  rw [same] at I1
  obtain rfl : u = Value.ref f := r1
  obtain ⟨⟨pm, ctv, fun1⟩, _, _⟩ := (show ObjOk X.prog X.w HZ s1.heap f (LamO f (X.env.qual ++ "<lambda>") params body scope (cloFrom X.env.cells scope.names []) c') from I1.hok f _ isL)
  refine PySem.W.callWith_F0 ⟨_, _, _, _, fun1⟩ ?_
  have un : Un (frs X.stack) [] H HZ s.heap s1.heap := I1.base
  obtain ⟨⟨oc, fv, t, atC, dC, nC⟩, _, _⟩ := I1.hok c' _ isC
  have ran : codeAny (model X.prog X.w) (X.A.deeper (envOfC qg sg s.heap.objs.size g cdg)) (.call (.ref f) ⟨[], []⟩) (CR (L2.CX X.prog X.w) (envOfC qg sg s.heap.objs.size g cdg :: X.stack) X.prog X.w HZ s1 Q (WE W σZ)) s1 := by
    refine PySem.W.kla_callFunE hr.depth fun1 rfl L.co L.gen rfl ⟨c', oc, fv, t, rfl, atC, dC, nC⟩ ?_
    rw [hbind]
    refine wpAny_pure (wpAny_newFunctionEnv (fun y hy => (L.own y hy).2) (fun y hy => absurd hy (by simp)) (fun h₁ hns hsb => ⟨I1.nolimit.fresh _ hsb, ?_⟩) L.kind)
    show codeAny _ _ (.expr body (lamEnv X scope s1.heap.objs.size f c')) _ _
    have kept : ∀ b o, s1.heap.get? b = some o → h₁.get? b = some o := fun b o e => hsb.extBut b o (Nat.ne_of_lt (Heap.lt_size e)) (Heap.get?_push_of_some _ e)
    have J : Inv (lamCx X (X.A.deeper (envOfC qg sg s.heap.objs.size g cdg)) (envOfC qg sg s.heap.objs.size g cdg :: X.stack) s1 HZ (WE W σZ) scope f c') [] σ HZ { s1 with heap := h₁, toks := s1.toks + ([] : List (Str × Value)).length } :=
      lam_start2 I L I1.env0 hr.hd un hns kept
    refine PySem.W.kla_codeExpr (wpAny_mono ((hbody _ _ s1 HZ (WE W σZ) (hr.deeper _)).run [] _ _ HZ Q J rd) (fun v s' out => ?_) fun _ _ y => y)
    obtain ⟨v', H', J', rv, y⟩ := out
    exact ⟨v', H', J'.os, J'.bare, J'.base, J'.hok, rv, y⟩
  refine wpAny_call (codeAny_mono ran fun r s' out => ?_)
  cases r with
  | error e => exact passAt tk σZ pinsZ HZ s1 e s' I1 out
  | ok fl =>
    cases fl with
    | ret u => exact I1.after out
    | next => exact out.elim
    | brk => exact out.elim
    | cont => exact out.elim
end
/-- what «except x as n» wishes of the body's exception, which is tracked behind the clause: slot i is n's -/
def wAsT (K : PySem.W.Frag) (c : Value) (i : Nat) (ts : Addr → Value → Option Addr → TS) (Wout : WX) (D : Ends) : WX := fun cls d σ H =>
  ∃ b, PySem.W.exmOne K cls c = some b ∧ (b = true → ∀ a, H a = none → ts a cls d { nx := fun σ' H' => H' a = none → D.nx (σ'.set i none) (upd H' a (ExT cls d a)), rt := fun _ _ => False, bk := fun _ _ => False, ct := fun _ _ => False } (σ.set i (some (.ref a))) H) ∧
    (b = false → Wout cls d σ H)
section
variable {X : Cx} {x n : Str} {c : Value} {i : Nat} {body suite : List Stmt} {b₀ : Stmt} {np pos pos' : Pos} {tb : WX → TS} {ts : Addr → Value → Option Addr → TS} {Wout : WX}
theorem ps_try_keep (hex : X.ex = []) (hs : X.stack = X.env :: X.outer) (hf : X.env.frame = some X.env.locals) (hN : X.N.Nodup) (hi : X.N[i]? = some n) (hln : X.env.kindOf n = some .local) (hc : Names X x c) (tk : Takes X Wout)
    (hb : ∀ (W : WX) (pn : List (Addr × Obj)) (xe : Value → Shared → Prop), Takes (X.tr pn xe) W → PassesOwn (model X.prog X.w) X.A X.env xe → PSs (X.tr pn xe) body (tb W))
    (hsu : ∀ (a : Addr) (oe : Obj) (cls : Value) (d : Option Addr) (pn : List (Addr × Obj)), Zc cls d oe → (∃ vs, oe.data = .fields vs) → PSs (X.suite a ((a, oe) :: pn)) (b₀ :: suite) (ts a cls d)) :
    PS X (.Try body [.ExceptHandler (some (.Name x np)) (some n) (b₀ :: suite) pos'] [] [] pos) (fun D σ H => tb (wAsT X.K c i ts Wout D) D σ H) := by
  refine ⟨fun pins s σ H D I rd => ?_⟩
  have ok := I.ok
  have frm : X.A.frames = some (X.env :: X.outer) := by rw [ok.frames, hs]
  have isLoc : Loc X.env.scope n := .inl hln
  refine wpAny_Try_except ?_
  refine wpAny_mono ((hb (wAsT X.K c i ts Wout D) (X.pn ++ pins) (fun e s₁ => wpAny (model X.prog X.w) X.A (noteFrame e X.env) (fun _ s₂ => wpAny (model X.prog X.w) X.A (setFlight e none) (fun _ s₃ =>
    wpAny (model X.prog X.w) X.A (handleBy e X.env [.ExceptHandler (some (.Name x np)) (some n) (b₀ :: suite) pos']) (SP X pins D) X.xe s₃) X.xe s₂) X.xe s₁) (fun u s' xx => ?_) PassesOwn.looking).run [] s σ H D (I.toTry _) rd) (fun f s1 hsp => ?_) (fun _ _ y => y)
  · obtain ⟨a, B, sI, pins', σ', H', cls, d, rfl, JT, nb, up, sky, na, sameOs, bare, b, hb1, hyes, hno⟩ := xx
    have J : Inv X pins σ' H' sI := JT.ofTry ok
    have air : Sky B (X.env :: X.outer) a (Zc cls d) X.env.locals s'.heap := by rw [← hs]; exact sky
    show wpAny _ X.A (noteFrame (.ref a) X.env) _ _ _
    refine Sky.land Zc.steady frm hf air fun h3 fl3 up3 => ?_
    have J3 : Inv X pins σ' H' { s' with heap := h3 } := J.landed nb fl3.1 (up.trans up3) sameOs bare
    obtain ⟨oe3, fv3, he3, hz3, hd3⟩ := fl3.there
    have offFr : a ∉ frs (X.env :: X.outer) := fun hm => by
      obtain ⟨_, o', e', hnf⟩ := fl3.2.2.1.mem hm
      rw [he3] at e'
      cases e'
      exact hnf _ hd3
    have nL : a ≠ X.env.locals := fun y => offFr (List.mem_filterMap.mpr ⟨X.env, List.mem_cons_self, by rw [hf, y]⟩)
    have nF : a ∉ X.fs := fun hm => by
      obtain ⟨e, he, q⟩ := List.mem_filterMap.mp hm
      exact offFr (List.mem_filterMap.mpr ⟨e, List.mem_cons_of_mem _ he, q⟩)
    -- a is newer than all that stood at the try, hence than the entry
    have newI : sI.heap.get? a = none := by
      cases y : sI.heap.get? a with
      | none => rfl
      | some o =>
        have q := nb a o y (by rw [hs]; exact offFr)
        rw [fl3.2.1] at q
        cases q
    have new0 : X.s_0.heap.get? a = none := by
      cases y : X.s_0.heap.get? a with
      | none => rfl
      | some o =>
        obtain ⟨o', q⟩ := J.base.there a o y (by rw [hex]; simp)
        rw [newI] at q
        cases q
    have offCell : ∀ y c, X.env.cells.lookup y = some c → c ≠ a := fun y c e q => by
      obtain ⟨_, o, ho, _⟩ := J.cell y c e
      rw [q, newI] at ho
      cases ho
    have offPin : ∀ p ∈ X.pn ++ pins, p.1 ≠ a := fun p hp q => by
      have ho := (J.pin p hp).1
      rw [q, newI] at ho
      cases ho
    have S3 := J3.suite he3 hd3 na nL nF
    refine wpAny_handleBy_cons (codeAny_handlers_test ?_) (by intro q; cases q)
    have LT : PySem.W.Looks (model X.prog X.w) h3 (typeOf (.ref a)) cls := fun A Q E s k q => wpAny_typeOf_ref (k _ _ he3) (by rw [hz3.1]; exact q)
    have LM := PySem.W.exm_one (M := model X.prog X.w) (J3.kIn) LT hb1
    have tested : ∀ {Q : Value → Shared → Prop} {E : Value → Shared → Prop}, Q c { s' with heap := h3 } → wpAny (model X.prog X.w) (X.A.mark (some (.ref a))) (eval (.Name x np) X.env) Q E { s' with heap := h3 } := fun {Q E} q => by
      obtain ⟨gl, nodbg, hm | ⟨hm, hv, hnn⟩⟩ := hc
      · exact ld_glob (X := X.suite a ((a, oe3) :: (X.pn ++ pins))) S3 gl hm q nodbg
      · exact ld_blt (X := X.suite a ((a, oe3) :: (X.pn ++ pins))) S3 gl hm hv q hnn nodbg
    refine tested (LM.here ?_)
    cases b with
    | true =>
      refine codeAny_handlers_suite_as (HandSPX.lands_againZ fl3 fun h4 fl4 up4 => ?_)
      have J4 : Inv X pins σ' H' { s' with heap := h4 } := J.landed nb fl4.1 ((up.trans up3).trans up4) sameOs bare
      obtain ⟨oe4, fv4, he4, hz4, hd4⟩ := fl4.there
      have S4 := J4.suite he4 hd4 na nL nF
      refine store_ok (X := X.suite a ((a, oe4) :: (X.pn ++ pins))) (v := .ref a) S4 hN hi isLoc rfl (fun s5 S5 => ?_) (.inr hln)
      refine wpAny_mono ((hsu a oe4 cls d (X.pn ++ pins) hz4 ⟨_, hd4⟩).run [] s5 _ H' _ S5 (hyes rfl a na)) (fun f s6 out => ?_) (fun _ _ y => False.elim y)
      cases f with
      | next =>
        obtain ⟨σ6, H6, S6, q6⟩ := out
        refine gone_ok (X := X.suite a ((a, oe4) :: (X.pn ++ pins))) S6 hN hi hln fun s7 S7 => ?_
        obtain ⟨e7, n7, _⟩ := S7.pin (a, oe4) (List.mem_append_left _ List.mem_cons_self)
        have J7 : Inv X pins (σ6.set i none) H6 s7 := S7.unsuite ok
        exact ⟨_, _, track J7 n7 new0 nL.symm offCell offPin (exT_ok e7 hz4 hd4), q6 n7⟩
      | brk =>
        obtain ⟨_, _, _, q6⟩ := out
        exact q6.elim
      | cont =>
        obtain ⟨_, _, _, q6⟩ := out
        exact q6.elim
      | ret u =>
        obtain ⟨_, _, _, _, _, q6⟩ := out
        exact q6.elim
    | false =>
      show wpAny _ X.A (handleBy (.ref a) X.env []) _ _ _
      refine wpAny_handleBy_nil ?_
      obtain ⟨k1, k2, k3, oe, fv, T, oT, ts', he, hz, hd, h1, hr⟩ := id fl3
      unfold PySem.passOn
      refine wpAny_bind (wpAny_field he hd h1 ?_)
      rw [if_neg (show ¬ ((Value.ref T == Value.none) = true) from by simp)]
      have onward : wpAny (model X.prog X.w) X.A (setFlight (.ref a) X.env.frame) (fun _ s4 => wpAny (model X.prog X.w) X.A (throw (.ref a) : Sem Flow) (SP X pins D) X.xe s4) X.xe { s' with heap := h3 } := by
        rw [hf]
        refine HandSPX.setFlight_upZ fl3 fun h4 hh4 up4 => wpAny_throw (tk _ _ ?_)
        exact ⟨a, B, sI, pins, σ', H', cls, d, rfl, J, nb, (up.trans up3).trans up4, .inr (.inr (by rw [hs]; exact hh4)), na, sameOs, bare, hno rfl⟩
      first
        | exact wpAny_bind (wpAny_pure (wpAny_bind onward))
        | exact wpAny_bind onward
  · cases f with
    | next =>
      obtain ⟨σ', H', J', y⟩ := hsp
      exact wpAny_execs_nil ⟨σ', H', J'.ofTry ok, y⟩
    | brk =>
      obtain ⟨σ', H', J', y⟩ := hsp
      exact ⟨σ', H', J'.ofTry ok, y⟩
    | cont =>
      obtain ⟨σ', H', J', y⟩ := hsp
      exact ⟨σ', H', J'.ofTry ok, y⟩
    | ret u =>
      obtain ⟨v, σ', H', J', r, y⟩ := hsp
      exact ⟨v, σ', H', J'.ofTry ok, r, y⟩
end
end Lm

namespace Lm
open PySem PySem.Spec PyProof.Rows L2
open LamX (CodeO TabS Tabs ExtN TabB LamS lamEnv lamCx run_ofS takes0)
abbrev sCaught : Stmt := Pre.top 38
abbrev nCaught : List Str := ["action", "found", "error"]
theorem scCaught : FnScope nCaught ["action"] (defScope sCaught) := ⟨rfl, rfl, rfl, by decide +kernel, rfl, by decide +kernel, by decide +kernel⟩
/-- _law_caught(e), e a lambda of this very frame: None if its body comes to a value; else what it raises, tracked -/
def tCaught (X : Cx) (k : Nat) (CS : Addr) (te : TA) : TE := fun σ H Q => te σ H fun vs H1 => ∃ (f c' : Addr) (params : Arguments) (body : Expr) (scope : Scope) (t : XK → TE), vs = [.ref f] ∧
  H1 f = some (LamO f (X.env.qual ++ "<lambda>") params body scope (cloFrom X.env.cells scope.names []) c') ∧ H1 c' = some (CodeO c' (X.env.qual ++ "<lambda>")) ∧ LamS X.env.scope scope ∧
  (∀ (q : Str) (cl : List (Str × Addr)) (pm cv ctv : Value), bindArgs (PySem.W.kla_fn "<lambda>" q params body scope cl pm cv ctv) ⟨[], []⟩ = pure []) ∧
  (∀ (A : Around) (outer : List Env) (s : Shared) (H : Hp) (E : XK), Room k (A.deeper (lamEnv X scope s.heap.objs.size f c')) → PE (lamCx X A outer s H E scope f c') body (t E)) ∧
  ∀ (E : XK) (R : VK), (∀ cls d H', PySem.W.exmOne X.K cls (.ref CS) = some true → (∀ a, H' a = none → Q (.ref a) (upd H' a (ExT cls d a))) → E cls d H') → (∀ v H', Q .non H' → R v H') → t E σ H1 R
theorem pe_caught {X : Cx} {g CS : Addr} {fdg : FuncData} {k : Nat} {e : Expr} {te : TA} {p pos : Pos} (FG : Fun X.K "_law_caught" "_law_caught" sCaught g fdg) (hm : X.mg "_law_caught" = some (.ref g)) (hCS : X.mg "ChanceError" = some (.ref CS)) (hr : Room (k + 2) X.A) (ha : PA X [e] te)
    (hg : Gl X "_law_caught" := by rfl) (he : starEach [e] X.env = (false, eval e X.env) :: starEach [] X.env := by rfl) (hpl : (backTo pos (starEach [] X.env)).any (·.1) = false := by rfl) :
    PE X (.Call (.Name "_law_caught" p) [e] [] pos) (tCaught X k CS te) := by
  have bG : L2.Binds X.K fdg ["action"] [] := FG.binds (ps := ["action"]) fun _ _ _ _ _ _ us hl => match us, hl with | [_], _ => rfl
  obtain ⟨oc, od, kV, doc, pm, an, cdv, ct, osl, rfl, lk, hcd⟩ := FG.ex
  refine ⟨fun pins s σ H Q I h => ?_⟩
  refine wpAny_Call_Name_kw (ld_glob I hg hm ?_)
  refine PySem.W.callWith_K (h₀ := X.base) I.ok.mod.kin FG.kp (thn (ha.run pos pins s σ H _ I h) fun us s1 ⟨vs, H1, I1, r1, f, c', params, body, scope, t, e1, isL, isC, L, hbind, hbody, rd⟩ => ⟨I1.kIn, ?_⟩) he hpl
  subst e1
  cases r1 with
  | @cons _ u0 _ ur ru rn =>
    cases rn
    obtain rfl : u0 = Value.ref f := ru
    show wpAny _ _ (call (.ref g) [.ref f]) _ _ _
    have ran : codeAny (model X.prog X.w) X.A (.call (.ref g) ⟨[.ref f], []⟩) (CR CX0 X.stack X.prog X.w H1 s1 Q E0) s1 := by
      refine run_ofS (N := nCaught) (ps := ["action"]) (us := [.ref f]) (vs := [.ref f]) lk hcd scCaught hr I1.env0 (bG s1 [.ref f] I1.kIn rfl) (.cons rfl .nil) rfl fun hr' => ?_
      have nd := scCaught.nd
      have term : ∀ (Xc : Cx), Xc = (cxOf CX0 X.prog X.w X.K X.mg X.base nCaught "_law_caught" (defScope sCaught) g cdv X.A X.stack s1 H1 E0).nox → ∃ t, PSs Xc (defBody sCaught) t ∧ t { nx := fun _ H' => Q .non H', rt := Q } (L2.start nCaught [.ref f]) H1 := by
        intro Xc eX
        subst eX
        refine ⟨_, pss_cons (ps_set (i := 1) nd rfl (Or.inl rfl) pe_non) (pss_cons (ps_try_keep (i := 2) (c := .ref CS)
            (tb := fun W D σZ HZ => σZ[0]? = some (some (.ref f)) ∧ HZ f = some (LamO f (X.env.qual ++ "<lambda>") params body scope (cloFrom X.env.cells scope.names []) c') ∧ HZ c' = some (CodeO c' (X.env.qual ++ "<lambda>")) ∧ t (WE W σZ) σ HZ (fun _ H' => D.nx σZ H'))
            (ts := fun _ _ _ => tAsg (tVar 2) (gName 1)) (Wout := fun _ _ _ _ => False) rfl rfl rfl nd rfl rfl ⟨rfl, by decide, .inl hCS⟩ LamX.takes0
            (fun W pn xe tk _ => ?_) (fun a oe cls d pn _ _ => pss_one (ps_set (i := 1) nd rfl (Or.inl rfl) (pv 2)))) (pss_one (ps_ret (pv 1)))), ?_⟩
        · refine ⟨fun pinsB s' σ' H' D IB hB => ?_⟩
          exact (pss_one (ps_expr (act_ok (CXg := CX0) (Eg := E0) (i := 0) I1 L hbind tk hr' hbody rfl (Or.inl rfl)))).run pinsB s' σ' H' D IB hB
        · refine ⟨rfl, isL, isC, rd _ _ (fun cls d H' ex q => ?_) fun v H' q => ⟨.non, rfl, q⟩⟩
          exact ⟨true, ex, fun _ a na => ⟨.ref a, rfl, fun hn => ⟨.ref a, rfl, q a hn⟩⟩, fun z => by cases z⟩
      obtain ⟨t', ht', hq'⟩ := term _ rfl
      exact ⟨t', ht'.nox, hq'⟩
    refine wpAny_call (codeAny_mono ran fun r s2 out => ?_)
    cases r with
    | error e => exact (show False from out).elim
    | ok fl =>
      cases fl with
      | ret u => exact I1.after out
      | next => exact out.elim
      | brk => exact out.elim
      | cont => exact out.elim
end Lm

namespace Gd
open PySem PySem.Spec PyProof.Rows L2
/-- what a def keeps where no text of a thing is being made -/
structure FnG (P0 : Program) (w : World) (K : PySem.W.Frag) (mg : Str → Option Value) (base : Heap) (CX : CXT) (k : Nat) (f : Addr) (fd : FuncData) (ps : List Str) (sp : Sp) : Prop where
  many : ∀ xs H Q E, sp xs H Q E → xs.length = ps.length
  goes : ∀ (A : Around) (out : List Env) (s : Shared) (H : Hp) (given : Args) (us : List Value) (xs : List V) (Q : VK) (E : XK), Room k A → A.guards = some [] → Env0 P0 w K mg base A out s H → BindsTo s fd given (ps.zip us) → Vals xs us → sp xs H Q E →
    codeAny (model P0 w) A (.call (.ref f) given) (CR CX out P0 w H s Q E) s
theorem fnG_of {CX : CXT} {P0 : Program} {w : World} {K : PySem.W.Frag} {mg : Str → Option Value} {base : Heap} {k : Nat} {f : Addr} {nm q : Str} {pm0 : Arguments} {bd : List Stmt} {sc : Scope} {v1 v2 v3 v4 cdv v5 oc : Value} {an od : Option Addr}
    {osl : Array (Option Value)} {N ps : List Str} {sp : Sp} (at_ : K.lookup f = some ⟨oc, od, .func (PySem.W.fnOf nm q pm0 bd sc v1 v2 v3 v4 an cdv v5), osl⟩) (code : PySem.W.codeIn K cdv q = true) (S : FnScope N ps sc)
    (many : ∀ xs H Q E, sp xs H Q E → xs.length = ps.length)
    (inside : ∀ (A : Around) (out : List Env) (s : Shared) (H : Hp) (xs : List V) (Q : VK) (E : XK), Room k (A.deeper (envOfC q sc s.heap.objs.size f cdv)) → A.guards = some [] → sp xs H Q E →
      ∃ t, PSs (cxOf CX P0 w K mg base N q sc f cdv A out s H E) bd t ∧ t { nx := fun _ H1 => Q .non H1, rt := Q } (start N xs) H) :
    FnG P0 w K mg base CX (k + 1) f (PySem.W.fnOf nm q pm0 bd sc v1 v2 v3 v4 an cdv v5) ps sp := by
  refine ⟨many, fun A out s H given us xs Q E room hG e0 bound r rd => ?_⟩
  have same := many _ _ _ _ rd
  have inK : K.In s.heap := e0.mod.kin.keeps fun b o e => (e0.bs b o e).1
  have noLim : s.heap.NoLimit := e0.mod.nolimit.keeps fun b o e => (e0.bs b o e).1
  have kinds : ∀ z ∈ ps.zip us, sc.names.lookup z.1 = some .local ∨ (sc.names.lookup z.1 = some .cell ∧ ((cellsFrom (s.heap.objs.size + 1) sc.names []).lookup z.1).isSome = true) := fun ⟨n, v⟩ hz => by
    rcases S.par n (List.of_mem_zip hz).1 with c | c
    · exact .inl c
    · exact .inr ⟨c, PySem.W.cellsFrom_some _ _ _ (.inl c)⟩
  refine codeAny_call_function room.depth (inK _ _ at_) rfl S.co S.gen rfl (PySem.W.codeRec_of inK code) (bound _ _ _ _ ?_)
  refine wpAny_newFunctionEnv_cells S.kind kinds fun en he s1 x => ?_
  subst he
  refine ⟨noLim.keeps x.toInCall.keep, codeAny_func ?_⟩
  obtain ⟨t, ht, rd2⟩ := inside A out s H xs Q E (room.deeper _) hG rd
  have J : Inv (cxOf CX P0 w K mg base N q sc f cdv A out s H E) [] (start N xs) H s1 := inv_start S room.hd e0 same r x
  refine wpAny_mono (ht.run [] s1 (start N xs) H _ J rd2) (fun fl s' out1 => ?_) fun _ _ z => z
  have ends : ∀ {σ1 : L2.St} {H1 : Hp} {v : V} {u : Value}, Inv (cxOf CX P0 w K mg base N q sc f cdv A out s H E) [] σ1 H1 s' → RelV v u → Q v H1 → CE out P0 w H s Q u s' :=
    fun {σ1 H1 v u} J1 rv z => ⟨v, H1, J1.os, J1.bare, J1.base, J1.hok, rv, z⟩
  cases fl with
  | next =>
    obtain ⟨_, _, J1, z⟩ := out1
    exact ends (v := V.non) (u := Value.none) J1 rfl z
  | ret u =>
    obtain ⟨_, _, _, J1, rv, z⟩ := out1
    exact ends J1 rv z
  | brk =>
    obtain ⟨_, _, _, z⟩ := out1
    exact z.elim
  | cont =>
    obtain ⟨_, _, _, z⟩ := out1
    exact z.elim
section
variable {P0 : Program} {w : World} {K : PySem.W.Frag} {mg : Str → Option Value} {base : Heap}
theorem fun_okG {x q : Str} {st : Stmt} {f : Addr} {fd : FuncData} {N ps : List Str} {k : Nat} {sp : Sp} (F : Fun K x q st f fd) (S : FnScope N ps (defScope st)) (many : ∀ xs H Q E, sp xs H Q E → xs.length = ps.length)
    (inside : ∀ (cdv : Value) (A : Around) (out : List Env) (s : Shared) (H : Hp) (xs : List V) (Q : VK) (E : XK), Room k (A.deeper (envOfC q (defScope st) s.heap.objs.size f cdv)) → A.guards = some [] → sp xs H Q E →
      ∃ t, PSs (cxOf CX0 P0 w K mg base N q (defScope st) f cdv A out s H E).nox (defBody st) t ∧ t { nx := fun _ H1 => Q .non H1, rt := Q } (start N xs) H) : FnG P0 w K mg base CX0 (k + 1) f fd ps sp := by
  obtain ⟨_, _, _, _, _, _, cdv, _, _, rfl, lk, code⟩ := F.ex
  refine fnG_of lk code S many fun A out s H xs Q E room hG rd => ?_
  obtain ⟨t, ht, rd2⟩ := inside cdv A out s H xs Q E room hG rd
  exact ⟨t, ht.nox, rd2⟩
end
section
variable {X : Cx} {CX : CXT} {k : Nat} {f : Addr} {fd : FuncData} {ps : List Str} {sp : Sp} {E : XK} {x : Str} {p pos : Pos} {e : Expr} {es : List Expr} {t : TA}
theorem pe_callG (F : FnG X.prog X.w X.K X.mg X.base CX k f fd ps sp) (room : Room k X.A) (hG : X.A.guards = some []) (hg : Gl X x) (hm : X.mg x = some (.ref f)) (hk : PySem.W.keepIn X.K (.ref f) = true) (hb : Binds X.K fd ps []) (hx : Passes CX X E)
    (ha : PA X (e :: es) t) (hdb : (x == ("__debug__" : Str)) = false := by decide) (he : starEach (e :: es) X.env = (false, eval e X.env) :: starEach es X.env := by rfl) (hpl : (backTo pos (starEach es X.env)).any (·.1) = false := by rfl) :
    PE X (.Call (.Name x p) (e :: es) [] pos) (tCall sp [] E t) := by
  refine ⟨fun pins s σ H Q I rd => ?_⟩
  refine wpAny_Call_Name_kw (ld_glob I hg hm ?_ hdb)
  refine PySem.W.callWith_K (h₀ := X.base) I.ok.mod.kin hk (thn (ha.run pos pins s σ H _ I rd) fun us s1 ⟨xs, H1, I1, r, z⟩ => ⟨I1.kIn, ?_⟩) he hpl
  have z' : sp xs H1 Q E := by
    have q : sp (xs ++ []) H1 Q E := z
    rw [List.append_nil] at q
    exact q
  have hl : us.length = ps.length := (r.length).symm.trans (F.many _ _ _ _ z')
  have b := hb s1 us I1.kIn (by rw [List.append_nil]; exact hl)
  rw [List.append_nil] at b
  refine wpAny_call (codeAny_mono (F.goes X.A X.stack s1 H1 ⟨us, []⟩ us xs Q E room hG I1.env0 b r z') fun r s2 out => ?_)
  cases r with
  | error e => exact hx pins σ H1 s1 e s2 I1 out
  | ok fl =>
    cases fl with
    | ret u => exact I1.after out
    | next => exact out.elim
    | brk => exact out.elim
    | cont => exact out.elim
end
theorem sameText {X : Cx} (hG : X.A.guards = some []) (room : X.A.units + 64 < cLine) : CallR X (.builtin "repr") (fun xs H Q => ∃ a d, xs = [.ref a] ∧ Dp X.K H (.ref a) d ∧ d.showable = true ∧ d.hasDict = false ∧ d.depth < 32 ∧ d.shown.length ≤ sizeLine ∧ Q (.str d.shown) H) := by
  intro pins s σ H xs us Q I r h
  obtain ⟨a, d, rfl, hd, h1, h2, h3, h4, q⟩ := h
  obtain ⟨u, rfl, ru⟩ := vals1 r
  obtain ⟨as, rd⟩ := Dp.reads I d _ u hd ru
  obtain rfl : u = Value.ref a := ru
  exact repr_of_reads' rd h1 (PyData.noDict_hsm h2) hG (by omega) (fun _ _ z => z) (fun h' u tk k => ⟨.str d.shown, H, I.kept k, ⟨_, rfl⟩, q⟩) h4
/-- repr of None, of a truth, of a whole number, of a text -/
theorem int_log {i : Int} {n : Nat} (h : i.natAbs < 2 ^ n) (h0 : 0 < n) (h1 : n ≤ 1900) : i.natAbs.log2 < 1920 := Nat.lt_of_lt_of_le (PySem.Flt.log2_lt_of h0 h) (by omega)
theorem digits_len : ∀ (fuel n : Nat) (ds : List Char) (m : Nat), n < 10 ^ m → 0 < m → (Nat.toDigitsCore 10 fuel n ds).length ≤ ds.length + m
  | 0, n, ds, m, _, _ => by
    unfold Nat.toDigitsCore
    omega
  | fuel + 1, n, ds, m, h, h0 => by
    unfold Nat.toDigitsCore
    simp only
    split
    · simp only [List.length_cons]
      omega
    · rename_i hne
      have hn : n / 10 ≠ 0 := hne
      have hm : 1 < m := by
        rcases Nat.lt_or_ge 1 m with z | z
        · exact z
        · have e : m = 1 := by omega
          subst e
          omega
      have h2 : n / 10 < 10 ^ (m - 1) := by
        have e : 10 ^ m = 10 ^ (m - 1) * 10 := by
          rw [← Nat.pow_succ]
          congr 1
          omega
        rw [e] at h
        exact (Nat.div_lt_iff_lt_mul (by decide)).mpr h
      have := digits_len fuel (n / 10) (Nat.digitChar (n % 10) :: ds) (m - 1) h2 (by omega)
      simp only [List.length_cons] at this
      omega
end Gd

namespace Xt
open PySem PySem.Spec PyProof.Rows L2
open Lm (ExT)
/-- what isinstance asks of an own exception's class at C -/
structure IsE (K : PySem.W.Frag) (C : Addr) : Prop where
  clsd : (PySem.W.clsIn K C).isSome = true
  getA : PySem.W.findIn K (.ref C) "__getattribute__" = some (some (.builtin "BaseException.__getattribute__"))
  getB : PySem.W.findIn K (.ref C) "__getattr__" = some none
  under : PySem.W.subIn K (.ref C) (.type "BaseException") = some true
  clsA : PySem.W.findIn K (.ref C) "__class__" = some (some (.builtin "object.__class__"))
  orig : PySem.W.mroIn K C (.type "object") = some true
structure IsG (K : PySem.W.Frag) : Prop where
  get : PySem.W.specialIn K (.builtin "object.__class__") "__get__" = some (some (.builtin "getset_descriptor.__get__"))
  takes : PySem.W.takesIn K (.builtin "object.__class__") = some true
/-- isinstance(e, c), e caught -/
def rIsE (K : PySem.W.Frag) : List V → Hp → VK → Prop := fun xs H Q => ∃ (a C : Addr) (c : V) (cv : Value) (b : Bool), xs = [.ref a, c] ∧ H a = some (ExT (.ref C) none a) ∧ IsE K C ∧ ClsV c cv ∧ PySem.W.kitOne K (.ref C) cv = some b ∧ Q (.bl b) H
theorem call_isE {X : Cx} (Z : IsG X.K) : CallR X (.builtin "isinstance") (rIsE X.K) := by
  intro ps0 s σ H xs args Q I r h
  obtain ⟨a, C, c, cv, b, rfl, x, T, k, e, q⟩ := h
  obtain ⟨u1, u2, rfl, r1, r2⟩ := vals2 r
  cases (show u1 = Value.ref a from r1)
  have e2 := k.eq r2
  subst e2
  obtain ⟨⟨oe, fv, ho, hz, hd⟩, _, _⟩ := (show ObjOk X.prog X.w H s.heap a (ExT (.ref C) none a) from I.hok a _ x)
  have J : PySem.W.InstAt s.heap a oe C none := ⟨ho, hz.1, by unfold PySem.W.notCls; rw [hd] <;> rfl, by rw [hz.2]; trivial⟩
  exact PySem.W.kia_one (PySem.W.kitx_exc (od := none) T.clsd T.getA T.getB T.under T.clsA Z.get Z.takes T.orig) I.kIn J e (by intro fin; cases fin) fun tks => ⟨.bl b, H, I.tok tks, rfl, q⟩
end Xt
namespace Us
open PySem PySem.Spec PyProof.Rows L2
/-- a def of the module that keeps sp -/
structure Use (P0 : Program) (w : World) (K : PySem.W.Frag) (mg : Str → Option Value) (CX : CXT) (k : Nat) (x : Str) (ps : List Str) (sp : Sp) (f : Addr) (fd : FuncData) : Prop where
  ok : ∀ base, FnOk P0 w K mg base CX k f fd ps sp
  at_ : mg x = some (.ref f)
  kp : PySem.W.keepIn K (.ref f) = true
theorem Use.imp {P0 : Program} {w : World} {K : PySem.W.Frag} {mg : Str → Option Value} {CX : CXT} {k : Nat} {x : Str} {ps : List Str} {sp sp' : Sp} {f : Addr} {fd : FuncData} (U : Use P0 w K mg CX k x ps sp f fd) (h : ∀ vs H Q E, sp' vs H Q E → sp vs H Q E) : Use P0 w K mg CX k x ps sp' f fd := ⟨fun base => (U.ok base).imp h, U.at_, U.kp⟩
theorem Use.or {P0 : Program} {w : World} {K : PySem.W.Frag} {mg : Str → Option Value} {CX : CXT} {k : Nat} {x : Str} {ps : List Str} {sp sp' : Sp} {f : Addr} {fd : FuncData} (U : Use P0 w K mg CX k x ps sp f fd) (U' : Use P0 w K mg CX k x ps sp' f fd) : Use P0 w K mg CX k x ps (fun vs H Q E => sp vs H Q E ∨ sp' vs H Q E) f fd :=
  ⟨fun base => ⟨fun vs H Q E h => h.elim ((U.ok base).len vs H Q E) ((U'.ok base).len vs H Q E), fun A outer s H args us vs Q E hr e0 hb r h => h.elim ((U.ok base).run A outer s H args us vs Q E hr e0 hb r) ((U'.ok base).run A outer s H args us vs Q E hr e0 hb r)⟩, U.at_, U.kp⟩
section
variable {X : Cx} {CX : CXT} {k : Nat} {f : Addr} {fd : FuncData} {ps : List Str} {sp : Sp} {E : XK} {x : Str} {p pos : Pos} {e : Expr} {es : List Expr} {t : TA}
theorem pe_use0 (U : Use X.prog X.w X.K X.mg CX0 k x ps sp f fd) (hr : Room k X.A) (hb : Binds X.K fd ps []) (ha : PA X (e :: es) t) (hg : Gl X x := by rfl) (hdb : (x == ("__debug__" : Str)) = false := by decide)
    (he : starEach (e :: es) X.env = (false, eval e X.env) :: starEach es X.env := by rfl) (hpl : (backTo pos (starEach es X.env)).any (·.1) = false := by rfl) : PE X (.Call (.Name x p) (e :: es) [] pos) (tCall sp [] E0 t) :=
  pe_call (U.ok X.base) hr hg U.at_ U.kp hb .nil pass0 ha hdb he hpl
theorem none_out : Passes (L2.CX X.prog X.w) X E0 := fun pins σ H s e s' I c => passAt LamX.takes0 σ pins H s e s' I c
/-- a call that lets nothing out -/
theorem pe_useN {ds : List Value} {dvs : List V} (U : Use X.prog X.w X.K X.mg (L2.CX X.prog X.w) k x ps sp f fd) (hr : Room k X.A) (hb : Binds X.K fd ps ds) (hd : Vals dvs ds) (ha : PA X (e :: es) t) (hg : Gl X x := by rfl) (hdb : (x == ("__debug__" : Str)) = false := by decide)
    (he : starEach (e :: es) X.env = (false, eval e X.env) :: starEach es X.env := by rfl) (hpl : (backTo pos (starEach es X.env)).any (·.1) = false := by rfl) : PE X (.Call (.Name x p) (e :: es) [] pos) (tCall sp dvs E0 t) :=
  pe_call (U.ok X.base) hr hg U.at_ U.kp hb hd none_out ha hdb he hpl
/-- f(k = e) and f(k = e, l = e'): keywords alone -/
def tKw (sp : Sp) (ord : List V → List V) (t : TA) : TE := fun σ H Q => t σ H fun zs H1 => sp (ord zs) H1 Q E0
theorem pe_kw {kws : List Keyword} {ks : List Str} {ord : List V → List V} {ordW : List Value → List Value} (U : Use X.prog X.w X.K X.mg CX k x ps sp f fd) (hr : Room k X.A) (hx : Passes CX X E0) (hb : ∀ (s : Shared) (ws : List Value), X.K.In s.heap → ws.length = ks.length → BindsTo s fd ⟨[], ks.zip ws⟩ (ps.zip (ordW ws))) (hv : ∀ zs ws, Vals zs ws → ws.length = ks.length → Vals (ord zs) (ordW ws)) (hkw : PK X kws t)
    (hl : ∀ zs ws, Vals zs ws → sp (ord zs) = sp (ord zs) → (ord zs).length = ps.length → ws.length = ks.length) (hg : Gl X x := by rfl)
    (hall : (backToKw pos (keywordEach kws X.env)).all (·.1.isSome) = true := by rfl) (hks : (backToKw pos (keywordEach kws X.env)).filterMap (·.1) = ks := by rfl) (hdb : (x == ("__debug__" : Str)) = false := by decide)
    (hpl : ((backTo pos (starEach [] X.env)).any (·.1) || (backToKw pos (keywordEach kws X.env)).any (·.1.isNone)) = false := by rfl) : PE X (.Call (.Name x p) [] kws pos) (tKw sp ord t) := by
  refine ⟨fun pins s σ H Q I h => ?_⟩
  refine wpAny_Call_Name_kw (ld_glob I hg U.at_ ?_ hdb)
  refine PySem.W.callWith_KW0 (h₀ := X.base) I.ok.mod.kin U.kp hall (thn (hkw.run pos pins s σ H _ I h) fun ws s1 ⟨zs, H1, I1, r, q⟩ => ⟨I1.kIn, ?_⟩) hpl
  rw [hks]
  have n1 := hl zs ws r rfl ((U.ok X.base).len _ _ _ _ q)
  show wpAny _ _ (call (.ref f) [] (ks.zip ws)) _ _ _
  refine wpAny_call (codeAny_mono ((U.ok X.base).run X.A X.stack s1 H1 ⟨[], ks.zip ws⟩ (ordW ws) (ord zs) Q E0 hr I1.env0 (hb s1 ws I1.kIn n1) (hv zs ws r n1) q) fun r s2 out => ?_)
  cases r with
  | error e => exact hx pins σ H1 s1 e s2 I1 out
  | ok fl =>
    cases fl with
    | ret u => exact I1.after out
    | next => exact out.elim
    | brk => exact out.elim
    | cont => exact out.elim
/-- one keyword -/
theorem pe_kw1 {a : Str} {e1 : Expr} {t1 : TE} {kp0 : Pos} (U : Use X.prog X.w X.K X.mg CX k x [a] sp f fd) (hr : Room k X.A) (hx : Passes CX X E0) (hb : ∀ (s : Shared) (u : Value), X.K.In s.heap → BindsTo s fd ⟨[], [(a, u)]⟩ [(a, u)]) (h1 : PE X e1 t1) (hg : Gl X x := by rfl)
    (hall : (backToKw pos (keywordEach [⟨some a, e1, kp0⟩] X.env)).all (·.1.isSome) = true := by rfl) (hks : (backToKw pos (keywordEach [⟨some a, e1, kp0⟩] X.env)).filterMap (·.1) = [a] := by rfl) (hdb : (x == ("__debug__" : Str)) = false := by decide)
    (hpl : ((backTo pos (starEach [] X.env)).any (·.1) || (backToKw pos (keywordEach [⟨some a, e1, kp0⟩] X.env)).any (·.1.isNone)) = false := by rfl) : PE X (.Call (.Name x p) [] [⟨some a, e1, kp0⟩] pos) (tKw sp (fun zs => zs) (tCons t1 tNil)) :=
  pe_kw (ks := [a]) (ord := fun zs => zs) (ordW := fun ws => ws) U hr hx (fun s ws kin h => match ws, h with | [u], _ => hb s u kin) (fun _ _ r _ => r) (pk_cons h1 pk_nil) (fun zs ws r _ h => by rw [← r.length]; exact h) hg hall hks hdb hpl
def swapL {α : Type} : List α → List α
  | [a, b] => [b, a]
  | zs => zs
theorem swapL_len {α : Type} : ∀ zs : List α, (swapL zs).length = zs.length
  | [] => rfl
  | [_] => rfl
  | [_, _] => rfl
  | _ :: _ :: _ :: _ => rfl
theorem swapL_vals : ∀ {zs : List V} {ws : List Value}, Vals zs ws → Vals (swapL zs) (swapL ws)
  | _, _, .nil => .nil
  | _, _, .cons h .nil => .cons h .nil
  | _, _, .cons h (.cons h2 .nil) => .cons h2 (.cons h .nil)
  | _, _, .cons h (.cons h2 (.cons h3 r)) => .cons h (.cons h2 (.cons h3 r))
/-- two keywords in the parameters' order -/
theorem pe_kw2 {a b : Str} {e1 e2 : Expr} {t1 t2 : TE} {kp1 kp2 : Pos} (U : Use X.prog X.w X.K X.mg CX k x [a, b] sp f fd) (hr : Room k X.A) (hx : Passes CX X E0) (hb : ∀ (s : Shared) (u v : Value), X.K.In s.heap → BindsTo s fd ⟨[], [(a, u), (b, v)]⟩ [(a, u), (b, v)]) (h1 : PE X e1 t1) (h2 : PE X e2 t2) (hg : Gl X x := by rfl)
    (hall : (backToKw pos (keywordEach [⟨some a, e1, kp1⟩, ⟨some b, e2, kp2⟩] X.env)).all (·.1.isSome) = true := by rfl) (hks : (backToKw pos (keywordEach [⟨some a, e1, kp1⟩, ⟨some b, e2, kp2⟩] X.env)).filterMap (·.1) = [a, b] := by rfl) (hdb : (x == ("__debug__" : Str)) = false := by decide)
    (hpl : ((backTo pos (starEach [] X.env)).any (·.1) || (backToKw pos (keywordEach [⟨some a, e1, kp1⟩, ⟨some b, e2, kp2⟩] X.env)).any (·.1.isNone)) = false := by rfl) : PE X (.Call (.Name x p) [] [⟨some a, e1, kp1⟩, ⟨some b, e2, kp2⟩] pos) (tKw sp (fun zs => zs) (tCons t1 (tCons t2 tNil))) :=
  pe_kw (ks := [a, b]) (ord := fun zs => zs) (ordW := fun ws => ws) U hr hx (fun s ws kin h => match ws, h with | [u, v], _ => hb s u v kin) (fun _ _ r _ => r) (pk_cons h1 (pk_cons h2 pk_nil)) (fun zs ws r _ h => by rw [← r.length]; exact h) hg hall hks hdb hpl
/-- two keywords the other way round -/
theorem pe_kw2s {a b : Str} {e1 e2 : Expr} {t1 t2 : TE} {kp1 kp2 : Pos} (U : Use X.prog X.w X.K X.mg CX k x [a, b] sp f fd) (hr : Room k X.A) (hx : Passes CX X E0) (hb : ∀ (s : Shared) (u v : Value), X.K.In s.heap → BindsTo s fd ⟨[], [(b, v), (a, u)]⟩ [(a, u), (b, v)]) (h1 : PE X e1 t1) (h2 : PE X e2 t2) (hg : Gl X x := by rfl)
    (hall : (backToKw pos (keywordEach [⟨some b, e1, kp1⟩, ⟨some a, e2, kp2⟩] X.env)).all (·.1.isSome) = true := by rfl) (hks : (backToKw pos (keywordEach [⟨some b, e1, kp1⟩, ⟨some a, e2, kp2⟩] X.env)).filterMap (·.1) = [b, a] := by rfl) (hdb : (x == ("__debug__" : Str)) = false := by decide)
    (hpl : ((backTo pos (starEach [] X.env)).any (·.1) || (backToKw pos (keywordEach [⟨some b, e1, kp1⟩, ⟨some a, e2, kp2⟩] X.env)).any (·.1.isNone)) = false := by rfl) : PE X (.Call (.Name x p) [] [⟨some b, e1, kp1⟩, ⟨some a, e2, kp2⟩] pos) (tKw sp swapL (tCons t1 (tCons t2 tNil))) :=
  pe_kw (ks := [b, a]) (ord := swapL) (ordW := swapL) U hr hx (fun s ws kin h => match ws, h with | [v, u], _ => hb s u v kin) (fun _ _ r _ => swapL_vals r) (pk_cons h1 (pk_cons h2 pk_nil)) (fun zs ws r _ h => by rw [← r.length]; rw [swapL_len] at h; exact h) hg hall hks hdb hpl
end
end Us

namespace Wt
open PySem PySem.Spec PyProof.Rows L2
abbrev sIsWhole : Stmt := Pre.top 5
abbrev sIsTup : Stmt := Pre.top 7
abbrev sIsWt : Stmt := Pre.top 19
abbrev sShort : Stmt := Pre.top 21
abbrev sBelow : Stmt := Pre.top 23
def gI (t b : Int) : Int := (Int.gcd t b : Int)
def low (t b : Int) : Int × Int := if b < 0 then (-(t / gI t b), -(b / gI t b)) else (t / gI t b, b / gI t b)
theorem gI_pos {t b : Int} (h : b ≠ 0) : 0 < gI t b := by
  unfold gI
  have : 0 < Int.gcd t b := Int.gcd_pos_of_ne_zero_right t h
  omega
theorem gI_l (t b : Int) : gI t b ∣ t := Int.gcd_dvd_left ..
theorem gI_r (t b : Int) : gI t b ∣ b := Int.gcd_dvd_right ..
theorem fdiv_neg {g t : Int} (hg : 0 < g) (h : g ∣ t) : t.fdiv (-g) = -(t / g) := by
  obtain ⟨k, rfl⟩ := h
  rw [Int.mul_ediv_cancel_left _ (by omega)]
  have e : g * k = (-g) * (-k) := by rw [Int.neg_mul_neg]
  rw [e, Int.mul_fdiv_cancel_left _ (by omega)]
theorem neg_ediv {g t : Int} (hg : 0 < g) (h : g ∣ t) : (-1 * t) / g = -(t / g) := by
  obtain ⟨k, rfl⟩ := h
  rw [Int.mul_ediv_cancel_left _ (by omega)]
  have e : -1 * (g * k) = g * (-k) := by
    rw [Int.mul_neg, Int.neg_mul, Int.one_mul]
  rw [e, Int.mul_ediv_cancel_left _ (by omega)]
theorem ediv_abs {g t : Int} (hg : 0 < g) (h : g ∣ t) : (t / g).natAbs ≤ t.natAbs := by
  obtain ⟨k, rfl⟩ := h
  rw [Int.mul_ediv_cancel_left _ (by omega), Int.natAbs_mul]
  have : 1 ≤ g.natAbs := by omega
  exact Nat.le_mul_of_pos_left _ this
theorem low_abs1 {t b : Int} (h : b ≠ 0) : (low t b).1.natAbs ≤ t.natAbs := by
  unfold low
  split
  · show (-(t / gI t b)).natAbs ≤ _
    rw [Int.natAbs_neg]
    exact ediv_abs (gI_pos h) (gI_l t b)
  · exact ediv_abs (gI_pos h) (gI_l t b)
theorem low_abs2 {t b : Int} (h : b ≠ 0) : (low t b).2.natAbs ≤ b.natAbs := by
  unfold low
  split
  · show (-(b / gI t b)).natAbs ≤ _
    rw [Int.natAbs_neg]
    exact ediv_abs (gI_pos h) (gI_r t b)
  · exact ediv_abs (gI_pos h) (gI_r t b)
theorem low_pos {t b : Int} (h : b ≠ 0) : 0 < (low t b).2 := by
  have hg := gI_pos (t := t) h
  obtain ⟨k, e⟩ := gI_r t b
  have eb : b / gI t b = k := Int.ediv_eq_of_eq_mul_right (by omega) e
  have kpos : b < 0 → k < 0 := fun hb => by
    rcases Int.lt_or_le k 0 with q | q
    · exact q
    · have := Int.mul_nonneg (Int.le_of_lt hg) q
      omega
  have kpos' : ¬ b < 0 → 0 < k := fun hb => by
    rcases Int.lt_or_le 0 k with q | q
    · exact q
    · have := Int.mul_nonneg (Int.le_of_lt hg) (Int.neg_nonneg_of_nonpos q)
      rw [Int.mul_neg, ← e] at this
      omega
  unfold low
  split
  · rename_i hb
    have := kpos hb
    show 0 < -(b / gI t b)
    rw [eb]
    omega
  · rename_i hb
    show 0 < b / gI t b
    rw [eb]
    exact kpos' hb
/-- at most 2 ^ n in size -/
def sz (n : Nat) (w : Int × Int) : Prop := w.1.natAbs < 2 ^ n ∧ w.2.natAbs < 2 ^ n
theorem ne_mul {a b : Int} (ha : a ≠ 0) (hb : b ≠ 0) : a * b ≠ 0 := fun e => by
  rcases Int.mul_eq_zero.mp e with q | q
  · exact ha q
  · exact hb q
theorem abs_mul_lt {a b : Int} {n m : Nat} (ha : a.natAbs < 2 ^ n) (hb : b.natAbs < 2 ^ m) : (a * b).natAbs < 2 ^ (n + m) := wide_lt ha hb
theorem abs_add_lt {a b : Int} {n : Nat} (ha : a.natAbs < 2 ^ n) (hb : b.natAbs < 2 ^ n) : (a + b).natAbs < 2 ^ (n + 1) := by
  have h1 := Int.natAbs_add_le a b
  rw [Nat.pow_succ]
  omega
theorem num_lt {w v : Int × Int} {n m : Nat} (hw : sz n w) (hv : sz m v) : (w.1 * v.2 + v.1 * w.2).natAbs < 2 ^ (n + m + 1) := by
  refine abs_add_lt (abs_mul_lt hw.1 hv.2) ?_
  have h := abs_mul_lt hv.1 hw.2
  rw [Nat.add_comm n m]
  exact h
theorem den_lt {w v : Int × Int} {n m : Nat} (hw : sz n w) (hv : sz m v) : (w.2 * v.2).natAbs < 2 ^ (n + m) := abs_mul_lt hw.2 hv.2
theorem sz_low {t b : Int} {n : Nat} (h1 : t.natAbs < 2 ^ n) (h2 : b.natAbs < 2 ^ n) (h : b ≠ 0) : sz n (low t b) := ⟨Nat.lt_of_le_of_lt (low_abs1 h) h1, Nat.lt_of_le_of_lt (low_abs2 h) h2⟩
def isInt : PyData → Bool
  | .int _ => true
  | _ => false
def tyN : PyData → String
  | .none => "NoneType"
  | .bool _ => "bool"
  | .int _ => "int"
  | .str _ => "str"
  | .list _ => "list"
  | .tuple _ => "tuple"
  | .dict _ => "dict"
theorem ty_of {K : PySem.W.Frag} {H : Hp} {x : V} {d : PyData} (h : Dp K H x d) : TyX K H x (.type (tyN d)) := by
  cases h with
  | non => exact .base .non
  | bl b => exact .base (.bl b)
  | int i => exact .base (.int i)
  | str z => exact .base (.str z)
  | lst q _ =>
    rcases q with (q | ⟨o, q⟩) | ⟨o, its, n, hk, hc, _⟩
    · exact .base (.lst q)
    · exact .base (.frz q)
    · exact .kList hk hc
  | tup q _ =>
    rcases q with (q | ⟨o, q⟩) | ⟨o, its, n, hk, hc, _⟩
    · exact .base (.tup q)
    · exact .fTuple q
    · exact .kTuple hk hc
/-- // by any divisor unlike 0 -/
def CDivA (_ j : Int) : Prop := j ≠ 0 ∧ j.natAbs.log2 < 9000
theorem op_fdivA {X : Cx} : OpR X (binaryOp .FloorDiv) (rI CDivA fun i j => .int (i.fdiv j)) := opI fun _ _ _ _ _ _ _ hc q => floordiv_int hc.1 q (.inl (PyProof.noPylong_of_log2 hc.2))
theorem log_lt {j : Int} {n : Nat} (h : j.natAbs < 2 ^ n) (h0 : 0 < n) : j.natAbs.log2 < n := PySem.Flt.log2_lt_of h0 h
structure TxtW (mg : Str → Option Value) : Prop where
  isi : mg "isinstance" = none
  int : mg "int" = none
  bool : mg "bool" = none
  list : mg "list" = none
  tuple : mg "tuple" = none
  len : mg "len" = none
  gcd : mg "gcd" = some (.builtin "math.gcd")
section
variable {P0 : Program} {w : World} {K : PySem.W.Frag} {mg : Str → Option Value} {base : Heap}
def spWhole (K : PySem.W.Frag) : Sp := fun vs H Q _ => ∃ x d, vs = [x] ∧ Dp K H x d ∧ Q (.bl (isInt d)) H
theorem scIsWhole : FnScope ["value"] ["value"] (defScope sIsWhole) := ⟨rfl, rfl, rfl, by decide +kernel, rfl, by decide +kernel, by decide +kernel⟩
theorem ok_whole {f : Addr} {fd : FuncData} (F : Fun K "is_whole" "is_whole" sIsWhole f fd) (T : TxtW mg) : FnOk P0 w K mg base CX0 1 f fd ["value"] (spWhole K) := by
  refine F.ok scIsWhole (fun vs H Q E h => ?_) (fun cdv A outer s H vs Q E hr h => ?_)
  · obtain ⟨x, d, rfl, _⟩ := h
    rfl
  · obtain ⟨x, d, rfl, hd, k⟩ := h
    refine ⟨_, pss_one (ps_ret (pe_and (pe_callB call_isi (by rfl) T.isi (by decide +kernel) (pa_cons (pv 0) (pa_cons (pe_bltn (v := .ty "int") (by rfl) T.int (by decide +kernel) rfl) pa_nil)))
      (pe_one (pe_not (pe_callB call_isi (by rfl) T.isi (by decide +kernel) (pa_cons (pv 0) (pa_cons (pe_bltn (v := .ty "bool") (by rfl) T.bool (by decide +kernel) rfl) pa_nil))))))), ?_⟩
    have ty := ty_of hd
    cases d with
    | int i => exact ⟨_, rfl, x, _, _, _, true, rfl, .ty _, ty, kit_ty (a := "int") (b := "int") (by decide +kernel), true, rfl, iteT ⟨_, rfl, x, _, _, _, false, rfl, .ty _, ty, kit_ty (a := "int") (b := "bool") (by decide +kernel), false, rfl, k⟩⟩
    | bool b => exact ⟨_, rfl, x, _, _, _, true, rfl, .ty _, ty, kit_ty (a := "bool") (b := "int") (by decide +kernel), true, rfl, iteT ⟨_, rfl, x, _, _, _, true, rfl, .ty _, ty, kit_ty (a := "bool") (b := "bool") (by decide +kernel), true, rfl, k⟩⟩
    | none => exact ⟨_, rfl, x, _, _, _, false, rfl, .ty _, ty, kit_ty (a := "NoneType") (b := "int") (by decide +kernel), false, rfl, iteF k⟩
    | str z => exact ⟨_, rfl, x, _, _, _, false, rfl, .ty _, ty, kit_ty (a := "str") (b := "int") (by decide +kernel), false, rfl, iteF k⟩
    | list z => exact ⟨_, rfl, x, _, _, _, false, rfl, .ty _, ty, kit_ty (a := "list") (b := "int") (by decide +kernel), false, rfl, iteF k⟩
    | tuple z => exact ⟨_, rfl, x, _, _, _, false, rfl, .ty _, ty, kit_ty (a := "tuple") (b := "int") (by decide +kernel), false, rfl, iteF k⟩
    | dict z => exact ⟨_, rfl, x, _, _, _, false, rfl, .ty _, ty, kit_ty (a := "dict") (b := "int") (by decide +kernel), false, rfl, iteF k⟩
def isTupN (m : Int) : PyData → Bool
  | .tuple ds => decide ((ds.length : Int) = m)
  | _ => false
def spTup (K : PySem.W.Frag) : Sp := fun vs H Q _ => ∃ x d m, vs = [x, .int m] ∧ Dp K H x d ∧ Q (.bl (isTupN m d)) H
theorem scIsTup : FnScope ["value", "many"] ["value", "many"] (defScope sIsTup) := ⟨rfl, rfl, rfl, by decide +kernel, rfl, by decide +kernel, by decide +kernel⟩
theorem dpAll_len {K : PySem.W.Frag} {H : Hp} : ∀ {xs : List V} {ds : List PyData}, DpAll K H xs ds → xs.length = ds.length
  | _, _, .nil => rfl
  | _, _, .cons _ r => congrArg Nat.succ (dpAll_len r)
theorem ok_tup {f : Addr} {fd : FuncData} (F : Fun K "is_tuple_of" "is_tuple_of" sIsTup f fd) (T : TxtW mg) : FnOk P0 w K mg base CX0 1 f fd ["value", "many"] (spTup K) := by
  refine F.ok scIsTup (fun vs H Q E h => ?_) (fun cdv A outer s H vs Q E hr h => ?_)
  · obtain ⟨x, d, m, rfl, _⟩ := h
    rfl
  · obtain ⟨x, d, m, rfl, hd, k⟩ := h
    refine ⟨_, pss_one (ps_ret (pe_and (pe_callB call_isi (by rfl) T.isi (by decide +kernel) (pa_cons (pv 0) (pa_cons (pe_bltn (v := .ty "tuple") (by rfl) T.tuple (by decide +kernel) rfl) pa_nil)))
      (pe_one (pe_cmpR op_eq (pe_callB call_len_seq (by rfl) T.len PySem.boot_len (pa_cons (pv 0) pa_nil)) (pv 1) (nomark _))))), ?_⟩
    have ty := ty_of hd
    cases hd with
    | @tup a xs ds q r =>
      refine ⟨_, rfl, _, _, _, _, true, rfl, .ty _, ty, kit_ty (a := "tuple") (b := "tuple") (by decide +kernel), true, rfl, iteT ⟨_, rfl, a, xs, rfl, .inr q, _, rfl, rfl, ?_⟩⟩
      rw [dec_int, dpAll_len r]
      exact k
    | non => exact ⟨_, rfl, _, _, _, _, false, rfl, .ty _, ty, kit_ty (a := "NoneType") (b := "tuple") (by decide +kernel), false, rfl, iteF k⟩
    | bl b => exact ⟨_, rfl, _, _, _, _, false, rfl, .ty _, ty, kit_ty (a := "bool") (b := "tuple") (by decide +kernel), false, rfl, iteF k⟩
    | int b => exact ⟨_, rfl, _, _, _, _, false, rfl, .ty _, ty, kit_ty (a := "int") (b := "tuple") (by decide +kernel), false, rfl, iteF k⟩
    | str b => exact ⟨_, rfl, _, _, _, _, false, rfl, .ty _, ty, kit_ty (a := "str") (b := "tuple") (by decide +kernel), false, rfl, iteF k⟩
    | lst q r => exact ⟨_, rfl, _, _, _, _, false, rfl, .ty _, ty, kit_ty (a := "list") (b := "tuple") (by decide +kernel), false, rfl, iteF k⟩
end
def isWt : PyData → Bool
  | .tuple [.int a, .int b] => decide (1 ≤ b) && (gI a b == 1)
  | _ => false
theorem isWt_tup {d : PyData} (h : isWt d = true) : isTupN 2 d = true := by
  unfold isWt at h
  split at h
  · rfl
  · cases h
theorem tup2 {K : PySem.W.Frag} {H : Hp} {x : V} {d : PyData} (hd : Dp K H x d) (h : isTupN 2 d = true) : ∃ a x1 x2 d1 d2, x = .ref a ∧ d = .tuple [d1, d2] ∧ SqT K H a [x1, x2] ∧ Dp K H x1 d1 ∧ Dp K H x2 d2 := by
  cases hd with
  | @tup a xs ds q r =>
    have hl : (ds.length : Int) = 2 := of_decide_eq_true h
    cases r with
    | nil =>
      simp only [List.length_nil] at hl
      omega
    | cons h1 r =>
      cases r with
      | nil =>
        simp only [List.length_cons, List.length_nil] at hl
        omega
      | cons h2 r =>
        cases r with
        | nil => exact ⟨a, _, _, _, _, rfl, rfl, q, h1, h2⟩
        | cons h3 r =>
          simp only [List.length_cons] at hl
          omega
  | non => cases h
  | bl b => cases h
  | int b => cases h
  | str b => cases h
  | lst q r => cases h
theorem sqT_same {K : PySem.W.Frag} {H H' : Hp} {a : Addr} {xs : List V} (e : Same H H') (h : SqT K H a xs) : SqT K H' a xs := by
  rcases h with (h | ⟨o, h⟩) | h
  · exact .inl (.inl (e _ _ h))
  · exact .inl (.inr ⟨o, e _ _ h⟩)
  · exact .inr h
mutual
theorem dp_same {K : PySem.W.Frag} {H H' : Hp} (e : Same H H') : ∀ {x : V} {d : PyData}, Dp K H x d → Dp K H' x d
  | _, _, .non => .non
  | _, _, .bl b => .bl b
  | _, _, .int i => .int i
  | _, _, .str s => .str s
  | _, _, .lst q r => .lst (e.seq q) (dpAll_same e r)
  | _, _, .tup q r => .tup (sqT_same e q) (dpAll_same e r)
theorem dpAll_same {K : PySem.W.Frag} {H H' : Hp} (e : Same H H') : ∀ {xs : List V} {ds : List PyData}, DpAll K H xs ds → DpAll K H' xs ds
  | _, _, .nil => .nil
  | _, _, .cons h r => .cons (dp_same e h) (dpAll_same e r)
end
/-- at a the pair w -/
abbrev At (K : PySem.W.Frag) (H : Hp) (a : Addr) (w : Int × Int) : Prop := SqT K H a [.int w.1, .int w.2]
theorem at_dp {K : PySem.W.Frag} {H : Hp} {a : Addr} {w : Int × Int} (h : At K H a w) : Dp K H (.ref a) (.tuple [.int w.1, .int w.2]) := .tup h (.cons (.int _) (.cons (.int _) .nil))
section
variable {P0 : Program} {w : World} {K : PySem.W.Frag} {mg : Str → Option Value} {base : Heap}
def spIsWt (K : PySem.W.Frag) : Sp := fun vs H Q _ => ∃ x d, vs = [x] ∧ Dp K H x d ∧ Q (.bl (isWt d)) H
theorem scIsWt : FnScope ["value", "top", "bottom"] ["value"] (defScope sIsWt) := ⟨rfl, rfl, rfl, by decide +kernel, rfl, by decide +kernel, by decide +kernel⟩
theorem ok_iswt {f fT fW : Addr} {fd dT dW : FuncData} (F : Fun K "is_weight" "is_weight" sIsWt f fd) (T : TxtW mg) (FT : Fun K "is_tuple_of" "is_tuple_of" sIsTup fT dT) (mT : mg "is_tuple_of" = some (.ref fT)) (FW : Fun K "is_whole" "is_whole" sIsWhole fW dW) (mW : mg "is_whole" = some (.ref fW)) :
    FnOk P0 w K mg base CX0 2 f fd ["value"] (spIsWt K) := by
  have GT : FnOk P0 w K mg base CX0 1 fT dT ["value", "many"] (spTup K) := ok_tup FT T
  have GW : FnOk P0 w K mg base CX0 1 fW dW ["value"] (spWhole K) := ok_whole FW T
  have bT := FT.binds (ps := ["value", "many"]) fun _ _ _ _ _ _ us hl => match us, hl with | [_, _], _ => rfl
  have bW := FW.binds (ps := ["value"]) fun _ _ _ _ _ _ us hl => match us, hl with | [_], _ => rfl
  refine F.ok scIsWt (fun vs H Q E h => ?_) (fun cdv A outer s H vs Q E hr h => ?_)
  · obtain ⟨x, d, rfl, _⟩ := h
    rfl
  · obtain ⟨x, d, rfl, hd, k⟩ := h
    have nd := scIsWt.nd
    refine ⟨_, pss_cons (ps_if (pt_not (pt_val (pe_call GT hr rfl mT FT.kp bT .nil pass0 (pa_cons (pv 0) (pa_cons pe_int pa_nil))))) (pss_one (ps_ret pe_bl)) pss_nil)
      (pss_cons (ps_asg (pv 0) (pg_tup (by rfl) (pgs_cons (pg_name (i := 1) nd rfl (Or.inl rfl)) (pgs_cons (pg_name (i := 2) nd rfl (Or.inl rfl)) pgs_nil))))
      (pss_one (ps_ret (pe_and (pe_call GW hr rfl mW FW.kp bW .nil pass0 (pa_cons (pv 1) pa_nil)) (pe_and (pe_call GW hr rfl mW FW.kp bW .nil pass0 (pa_cons (pv 2) pa_nil))
        (pe_and (pe_cmpR op_ge (pv 2) pe_int (nomark _)) (pe_one (pe_cmpR op_eq (pe_callBfun cr_gcd (by rfl) T.gcd (pa_cons (pv 1) (pa_cons (pv 2) pa_nil))) pe_int (nomark _))))))))), ?_⟩
    refine ⟨_, rfl, x, d, 2, rfl, hd, _, rfl, ?_⟩
    cases ht : isTupN 2 d with
    | false =>
      refine iteT ?_
      cases hw : isWt d with
      | true =>
        rw [isWt_tup hw] at ht
        cases ht
      | false =>
        rw [hw] at k
        exact k
    | true =>
      refine iteF ?_
      obtain ⟨a, x1, x2, d1, d2, rfl, rfl, q, h1, h2⟩ := tup2 hd ht
      refine ⟨_, rfl, a, _, rfl, q, rfl, _, _, rfl, _, _, rfl, rfl, _, rfl, x1, d1, rfl, h1, _, rfl, ?_⟩
      cases h1 with
      | int i =>
        refine iteT ⟨_, rfl, x2, d2, rfl, h2, _, rfl, ?_⟩
        cases h2 with
        | int j =>
          refine iteT ⟨_, rfl, _, _, rfl, rfl, _, rfl, ?_⟩
          by_cases hj : 1 ≤ j
          · rw [decide_eq_true hj]
            refine iteT ⟨_, rfl, _, rfl, i, j, rfl, rfl, ?_⟩
            rw [dec_int]
            have e : isWt (.tuple [.int i, .int j]) = (gI i j == 1) := by simp [isWt, hj]
            rw [e] at k
            exact k
          · rw [decide_eq_false hj]
            refine iteF ?_
            have e : isWt (.tuple [.int i, .int j]) = false := by simp [isWt, hj]
            rw [e] at k
            exact k
        | non => exact iteF k
        | bl b => exact iteF k
        | str b => exact iteF k
        | lst _ _ => exact iteF k
        | tup _ _ => exact iteF k
      | non => exact iteF k
      | bl b => exact iteF k
      | str b => exact iteF k
      | lst _ _ => exact iteF k
      | tup _ _ => exact iteF k
def spShort : Sp := fun vs H Q _ => ∃ (t b : Int) (n : Nat), vs = [.int t, .int b] ∧ b ≠ 0 ∧ b.natAbs < 2 ^ n ∧ 0 < n ∧ n ≤ 8000 ∧ ∀ (p : Addr) (H' : Hp), Same H H' → H' p = some (.tup [.int (low t b).1, .int (low t b).2]) → Q (.ref p) H'
theorem scShort : FnScope ["top", "bottom", "common"] ["top", "bottom"] (defScope sShort) := ⟨rfl, rfl, rfl, by decide +kernel, rfl, by decide +kernel, by decide +kernel⟩
theorem gI_small {t b : Int} {n : Nat} (hb : b ≠ 0) (h : b.natAbs < 2 ^ n) : (gI t b).natAbs < 2 ^ n := by
  refine Nat.lt_of_le_of_lt ?_ h
  have h1 : (gI t b).natAbs ∣ b.natAbs := Int.natAbs_dvd_natAbs.mpr (gI_r t b)
  exact Nat.le_of_dvd (by omega) h1
theorem ok_short {f : Addr} {fd : FuncData} (F : Fun K "shortened" "shortened" sShort f fd) (T : TxtW mg) : FnOk P0 w K mg base CX0 1 f fd ["top", "bottom"] spShort := by
  refine F.ok scShort (fun vs H Q E h => ?_) (fun cdv A outer s H vs Q E hr h => ?_)
  · obtain ⟨t, b, n, rfl, _⟩ := h
    rfl
  · obtain ⟨t, b, n, rfl, hb, hn, n0, n1, k⟩ := h
    have nd := scShort.nd
    have gp := gI_pos (t := t) hb
    have gs := gI_small (t := t) hb hn
    refine ⟨_, pss_cons (ps_set (i := 2) nd rfl (Or.inl rfl) (pe_callBfun cr_gcd (by rfl) T.gcd (pa_cons (pv 0) (pa_cons (pv 1) pa_nil))))
      (C8.pss_cut (ps_if (pt_cmpR op_lt (pv 1) pe_int (nomark _)) (pss_one (ps_set (i := 2) nd rfl (Or.inl rfl) (pe_un un_neg (pv 2)))) pss_nil)
      (pss_one (ps_ret (pe_tup (pa_cons (pe_op op_fdivA (pv 0) (pv 2)) (pa_cons (pe_op op_fdivA (pv 1) (pv 2)) pa_nil)))))), ?_⟩
    refine ⟨_, rfl, _, rfl, t, b, rfl, fun σ H' => ∃ c : Int, σ = [some (.int t), some (.int b), some (.int c)] ∧ H' = H ∧ c ≠ 0 ∧ c.natAbs < 2 ^ n ∧ t.fdiv c = (low t b).1 ∧ b.fdiv c = (low t b).2, ?_, ?_⟩
    · refine ⟨_, rfl, _, _, rfl, rfl, _, rfl, ite2 (fun c => ?_) (fun c => ?_)⟩
      · have hneg : b < 0 := of_decide_eq_true c
        refine ⟨_, rfl, _, rfl, -(gI t b), rfl, rfl, by omega, by rw [Int.natAbs_neg]; exact gs, ?_, ?_⟩
        · rw [fdiv_neg gp (gI_l t b)]
          simp only [low, if_pos hneg]
        · rw [fdiv_neg gp (gI_r t b)]
          simp only [low, if_pos hneg]
      · have hneg : ¬ b < 0 := fun q => c (decide_eq_true q)
        refine ⟨gI t b, rfl, rfl, by omega, gs, ?_, ?_⟩
        · rw [Int.fdiv_eq_ediv_of_nonneg _ (by omega)]
          simp only [low, if_neg hneg]
        · rw [Int.fdiv_eq_ediv_of_nonneg _ (by omega)]
          simp only [low, if_neg hneg]
    · rintro σ H' ⟨c, rfl, rfl, c0, c1, e1, e2⟩
      have lg : c.natAbs.log2 < 9000 := Nat.lt_of_lt_of_le (log_lt c1 n0) (by omega)
      refine ⟨_, rfl, _, rfl, _, _, rfl, rfl, ⟨c0, lg⟩, _, rfl, _, rfl, _, _, rfl, rfl, ⟨c0, lg⟩, by show 2 ≤ sizeLine; decide, fun p hp => ?_⟩
      refine k p _ (Pre.same_upd hp) ?_
      rw [upd_same]
      show some (HO.tup [V.int (t.fdiv c), V.int (b.fdiv c)]) = _
      rw [e1, e2]
theorem wide {i j : Int} {n m : Nat} (hi : i.natAbs < 2 ^ n) (hj : j.natAbs < 2 ^ m) (h1 : 0 < n) (h2 : 0 < m) (h : n + m ≤ 8000) : CMulW i j := wide_mul hi hj h1 h2 (by omega)
def belowW (u v : Int × Int) : Bool := decide (u.1 * v.2 < v.1 * u.2)
def spBelow (K : PySem.W.Frag) : Sp := fun vs H Q _ => ∃ (a b : Addr) (u v : Int × Int) (n m : Nat), vs = [.ref a, .ref b] ∧ At K H a u ∧ At K H b v ∧ sz n u ∧ sz m v ∧ 0 < n ∧ 0 < m ∧ n + m ≤ 7000 ∧ Q (.bl (belowW u v)) H
theorem scBelow : FnScope ["one", "other"] ["one", "other"] (defScope sBelow) := ⟨rfl, rfl, rfl, by decide +kernel, rfl, by decide +kernel, by decide +kernel⟩
theorem ok_below {f : Addr} {fd : FuncData} (F : Fun K "lies_below" "lies_below" sBelow f fd) : FnOk P0 w K mg base CX0 1 f fd ["one", "other"] (spBelow K) := by
  refine F.ok scBelow (fun vs H Q E h => ?_) (fun cdv A outer s H vs Q E hr h => ?_)
  · obtain ⟨a, b, u, v, n, m, rfl, _⟩ := h
    rfl
  · obtain ⟨a, b, u, v, n, m, rfl, ha, hb, su, sv, n0, m0, nm, k⟩ := h
    refine ⟨_, pss_one (ps_ret (pe_cmpR op_lt (pe_op op_mulW (pe_ix ix_tup (pv 0) pe_int (fun _ _ => rfl)) (pe_ix ix_tup (pv 1) pe_int (fun _ _ => rfl))) (pe_op op_mulW (pe_ix ix_tup (pv 1) pe_int (fun _ _ => rfl)) (pe_ix ix_tup (pv 0) pe_int (fun _ _ => rfl))) (nomark _))), ?_⟩
    refine ⟨_, rfl, a, _, _, _, rfl, rfl, ha, rfl, _, rfl, b, _, _, _, rfl, rfl, hb, rfl, _, _, rfl, rfl, wide su.1 sv.2 n0 m0 (by omega), ?_⟩
    exact ⟨_, rfl, b, _, _, _, rfl, rfl, hb, rfl, _, rfl, a, _, _, _, rfl, rfl, ha, rfl, _, _, rfl, rfl, wide sv.1 su.2 m0 n0 (by omega), _, _, rfl, rfl, k⟩
end
/-- x's class is called t, whatever is made besides -/
def Lk (K : PySem.W.Frag) (H : Hp) (x : V) (t : String) : Prop := (∃ d, Dp K H x d ∧ t = tyN d) ∨ ∃ a kvs, x = .ref a ∧ H a = some (.dK kvs) ∧ t = "dict"
theorem lk_same {K : PySem.W.Frag} {H H' : Hp} {x : V} {t : String} (e : Same H H') (h : Lk K H x t) : Lk K H' x t := by
  rcases h with ⟨d, h, rfl⟩ | ⟨a, kvs, rfl, h, rfl⟩
  · exact .inl ⟨d, dp_same e h, rfl⟩
  · exact .inr ⟨a, kvs, rfl, e _ _ h, rfl⟩
theorem lk_ty {K : PySem.W.Frag} {H : Hp} {x : V} {t : String} (h : Lk K H x t) : TyX K H x (.type t) := by
  rcases h with ⟨d, h, rfl⟩ | ⟨a, kvs, rfl, h, rfl⟩
  · exact ty_of h
  · exact .base (.dK h)
theorem dpAll_at {K : PySem.W.Frag} {H : Hp} : ∀ {xs : List V} {ds : List PyData} {i : Nat} {x : V}, DpAll K H xs ds → xs[i]? = some x → ∃ d, ds[i]? = some d ∧ Dp K H x d
  | _, _, 0, _, .cons h _, e => ⟨_, rfl, by cases e; exact h⟩
  | _, _, i + 1, _, .cons _ r, e => dpAll_at (i := i) r e
  | _, _, _, _, .nil, e => by cases e
end Wt
namespace Dc
open PySem PySem.Spec PyProof.Rows L2
/-- what was tracked newly since H -/
def Nw (H H1 : Hp) : Hp := fun b => match H b with
  | none => H1 b
  | some _ => none
theorem nw_at {H H1 : Hp} {b : Addr} {o : HO} (h : H b = none) (e : H1 b = some o) : Nw H H1 b = some o := by
  unfold Nw
  rw [h]
  exact e
theorem nw_inv {H H1 : Hp} {b : Addr} {o : HO} (e : Nw H H1 b = some o) : H b = none ∧ H1 b = some o := by
  unfold Nw at e
  cases h : H b with
  | none =>
    rw [h] at e
    exact ⟨rfl, e⟩
  | some _ =>
    rw [h] at e
    cases e
theorem nw_sub {H H1 : Hp} : Same (Nw H H1) H1 := fun _ _ e => (nw_inv e).2
theorem nw_mono {H H1 H2 : Hp} (s : Same H1 H2) : Same (Nw H H1) (Nw H H2) := fun _ _ e => nw_at (nw_inv e).1 (s _ _ (nw_inv e).2)
theorem nw_low {H H1 H2 : Hp} (s : Same H H1) : Same (Nw H1 H2) (Nw H H2) := fun _ _ e => nw_at (s.free (nw_inv e).1) (nw_inv e).2
/-- all but the state and its great ones -/
def wo (p g : Addr) (H : Hp) : Hp := fun b => if b = p then none else if b = g then none else H b
theorem wo_at {p g : Addr} {H : Hp} {b : Addr} {o : HO} (h1 : b ≠ p) (h2 : b ≠ g) (e : H b = some o) : wo p g H b = some o := by
  unfold wo
  rw [if_neg h1, if_neg h2]
  exact e
theorem wo_inv {p g : Addr} {H : Hp} {b : Addr} {o : HO} (e : wo p g H b = some o) : b ≠ p ∧ b ≠ g ∧ H b = some o := by
  unfold wo at e
  by_cases h1 : b = p
  · rw [if_pos h1] at e
    cases e
  · rw [if_neg h1] at e
    by_cases h2 : b = g
    · rw [if_pos h2] at e
      cases e
    · rw [if_neg h2] at e
      exact ⟨h1, h2, e⟩
theorem wo_sub {p g : Addr} {H : Hp} : Same (wo p g H) H := fun _ _ e => (wo_inv e).2.2
theorem wo_kp {p g : Addr} {H H1 : Hp} (k : Pre.Kp p g H H1) : Same (wo p g H) (wo p g H1) := fun b o e => by
  obtain ⟨h1, h2, h3⟩ := wo_inv e
  exact wo_at h1 h2 (k b o h1 h2 h3)
theorem wo_mono {p g : Addr} {H H1 : Hp} (k : Same H H1) : Same (wo p g H) (wo p g H1) := wo_kp (Pre.Kp.of k)
theorem nw_wo {p g : Addr} {H H1 : Hp} {u v : HO} (hp : H p = some u) (hg : H g = some v) : Same (Nw H H1) (wo p g H1) := fun b o e => by
  obtain ⟨h1, h2⟩ := nw_inv e
  refine wo_at (fun z => ?_) (fun z => ?_) h2
  · rw [z, hp] at h1
    cases h1
  · rw [z, hg] at h1
    cases h1
/-- e is written data: it comes to d, all that it needs newly made -/
abbrev ED (X : Cx) (e : Expr) (d : PyData) : Prop := PE X e (fun _ H Q => ∀ v H1, Same H H1 → Dp X.K (Nw H H1) v d → Q v H1)
abbrev AD (X : Cx) (es : List Expr) (ds : List PyData) : Prop := PA X es (fun _ H Q => ∀ vs H1, Same H H1 → DpAll X.K (Nw H H1) vs ds → Q vs H1)
section
variable {X : Cx} {e : Expr} {es : List Expr} {d : PyData} {ds : List PyData} {pos : Pos}
theorem pe_imp {t t' : TE} (h : PE X e t) (k : ∀ σ H Q, t' σ H Q → t σ H Q) : PE X e t' := ⟨fun pins s σ H Q I rd => h.run pins s σ H Q I (k σ H Q rd)⟩
theorem pa_imp {t t' : TA} (h : PA X es t) (k : ∀ σ H Q, t' σ H Q → t σ H Q) : PA X es t' := ⟨fun p pins s σ H Q I rd => h.run p pins s σ H Q I (k σ H Q rd)⟩
theorem ed_int {i j} : ED X (.Constant (.int i) j pos) (.int i) := pe_imp pe_int fun _ H _ k => k _ H (Same.refl _) (.int _)
theorem ed_bl {b j} : ED X (.Constant (.bool b) j pos) (.bool b) := pe_imp pe_bl fun _ H _ k => k _ H (Same.refl _) (.bl _)
theorem ed_non {j} : ED X (.Constant .none j pos) .none := pe_imp pe_non fun _ H _ k => k _ H (Same.refl _) .non
theorem ed_str {x j} : ED X (.Constant (.str x) j pos) (.str x) := pe_imp pe_str fun _ H _ k => k _ H (Same.refl _) (.str _)
theorem ed_neg {i j p2} : ED X (.UnaryOp .USub (.Constant (.int i) j p2) pos) (.int (-i)) := pe_imp (pe_un un_neg pe_int) fun _ H _ k => ⟨_, rfl, k _ H (Same.refl _) (.int _)⟩
theorem ad_nil : AD X [] [] := pa_imp pa_nil fun _ H _ k => k _ H (Same.refl _) .nil
theorem ad_cons (h : ED X e d) (r : AD X es ds) (hs : starEach (e :: es) X.env = (false, eval e X.env) :: starEach es X.env := by rfl) : AD X (e :: es) (d :: ds) :=
  pa_imp (pa_cons h r hs) fun _ H _ k v H1 s1 d1 vs H2 s2 d2 => k _ H2 (s1.trans s2) (.cons (Wt.dp_same (nw_mono s2) d1) (Wt.dpAll_same (nw_low s1) d2))
theorem new_one {H H1 : Hp} {p : Addr} {o : HO} (s1 : Same H H1) (hp : H1 p = none) : Nw H (upd H1 p o) p = some o := nw_at (s1.free hp) upd_same
theorem ed_tup {kk} (r : AD X es ds) (hl : ds.length ≤ 1000) : ED X (.Tuple es kk pos) (.tuple ds) :=
  pe_imp (pe_tup r) fun _ H _ k vs H1 s1 d1 => ⟨by rw [Wt.dpAll_len d1]; exact Nat.le_trans hl (by decide), fun p hp => k _ _ (s1.trans (Pre.same_upd hp)) (.tup (SqT.of (new_one s1 hp)) (Wt.dpAll_same (nw_mono (Pre.same_upd hp)) d1))⟩
theorem ed_lst (r : AD X es ds) (hl : ds.length ≤ 1000) : ED X (.List es pos) (.list ds) :=
  pe_imp (pe_lst r) fun _ H _ k vs H1 s1 d1 => ⟨by rw [Wt.dpAll_len d1]; exact Nat.le_trans hl (by decide), fun p hp => k _ _ (s1.trans (Pre.same_upd hp)) (.lst (SqL.of (new_one s1 hp)) (Wt.dpAll_same (nw_mono (Pre.same_upd hp)) d1))⟩
/-- a new list of written data -/
theorem pe_lstD (r : AD X es ds) (hl : ds.length ≤ 1000) : PE X (.List es pos) (fun _ H Q => ∀ l vs H1, Same H H1 → H l = none → H1 l = some (.lst vs) → DpAll X.K (Nw H H1) vs ds → Q (.ref l) H1) :=
  pe_imp (pe_lst r) fun _ H _ k vs H1 s1 d1 => ⟨by rw [Wt.dpAll_len d1]; exact Nat.le_trans hl (by decide), fun p hp => k p vs _ (s1.trans (Pre.same_upd hp)) (s1.free hp) upd_same (Wt.dpAll_same (nw_mono (Pre.same_upd hp)) d1)⟩
end
end Dc
namespace Wt
open PySem PySem.Spec PyProof.Rows L2
open Dc
open LamX (CodeO TabS Tabs ExtN TabB lamEnv lamCx)
theorem st_same {H H' : Hp} {p g c : Addr} {n : Nat} (h : Pre.St H p g c n) (s : Same H H') : Pre.St H' p g c n := by
  obtain ⟨⟨gs, cs, r, t, h1, h2, h3, h4⟩, h5⟩ := h
  exact ⟨⟨gs, cs, r, t, s _ _ h1, s _ _ h2, s _ _ h3, h4⟩, h5⟩
theorem st_more {H : Hp} {p g c : Addr} {n m : Nat} (h : Pre.St H p g c n) (l : n ≤ m) : Pre.St H p g c m := by
  obtain ⟨⟨gs, cs, r, t, h1, h2, h3, h4, h5, h6, h7⟩, h8⟩ := h
  exact ⟨⟨gs, cs, r, t, h1, h2, h3, h4, h5, h6, by omega⟩, h8⟩
theorem st_p {H : Hp} {p g c : Addr} {n : Nat} (h : Pre.St H p g c n) : ∃ u, H p = some u := by
  obtain ⟨⟨gs, cs, r, t, h1, _⟩, _⟩ := h
  exact ⟨_, h1⟩
theorem st_g {H : Hp} {p g c : Addr} {n : Nat} (h : Pre.St H p g c n) : ∃ u, H g = some u := by
  obtain ⟨⟨gs, cs, r, t, _, h1, _⟩, _⟩ := h
  exact ⟨_, h1⟩
theorem st_new {H : Hp} {p g c : Addr} {n : Nat} {l : Addr} (h : Pre.St H p g c n) (hl : H l = none) : l ≠ p ∧ l ≠ g := by
  obtain ⟨u, hu⟩ := st_p h
  obtain ⟨v, hv⟩ := st_g h
  exact ⟨(ne_of_none hu hl).symm, (ne_of_none hv hl).symm⟩
section
variable {P0 : Program} {w : World} {K : PySem.W.Frag} {mg : Str → Option Value} {base : Heap}
/-- the law's draws -/
structure Drw (K : PySem.W.Frag) (mg : Str → Option Value) (fD fP fB : Addr) (dD dP dB : FuncData) : Prop where
  T : Pre.TxtP mg
  zg : mg "range" = none
  FD : Fun K "_law_draw" "_law_draw" Pre.sDraw fD dD
  mD : mg "_law_draw" = some (.ref fD)
  FP : Fun K "_law_pick" "_law_pick" Pre.sPick fP dP
  mP : mg "_law_pick" = some (.ref fP)
  FB : Fun K "_law_blended" "_law_blended" Pre.sBlended fB dB
  mB : mg "_law_blended" = some (.ref fB)
end
/-- how the lambdas of the def x are called -/
abbrev lamQ (x : Str) (sc : Scope) : Str := (envOfC x sc 0 0 .none).qual ++ "<lambda>"
/-- all but the state, its great ones and tables stays -/
def Kx (p g : Addr) (H H' : Hp) : Prop := ∀ b o, b ≠ p → b ≠ g → (∀ ps, o ≠ .tbl ps) → H b = some o → H' b = some o
theorem Kx.trans {p g : Addr} {H H1 H2 : Hp} (a : Kx p g H H1) (b : Kx p g H1 H2) : Kx p g H H2 := fun x o h1 h2 h3 e => b x o h1 h2 h3 (a x o h1 h2 h3 e)
theorem Kx.kp {p g : Addr} {H H1 : Hp} (a : Pre.Kp p g H H1) : Kx p g H H1 := fun x o h1 h2 _ e => a x o h1 h2 e
theorem Kx.ext {p g : Addr} {H H1 : Hp} (a : ExtN H H1) : Kx p g H H1 := fun x o _ _ h e => a x o e h
theorem Kx.of {p g : Addr} {H H1 : Hp} (a : Same H H1) : Kx p g H H1 := fun x o _ _ _ e => a x o e
theorem ext_of {H H1 : Hp} (a : Same H H1) : ExtN H H1 := fun x o e _ => a x o e
/-- tables apart -/
def nt (H : Hp) : Hp := fun b => match H b with
  | some (.tbl _) => none
  | x => x
theorem nt_at {H : Hp} {b : Addr} {o : HO} (e : H b = some o) (h : ∀ ps, o ≠ .tbl ps) : nt H b = some o := by
  unfold nt
  rw [e]
  cases o <;> first | rfl | exact absurd rfl (h _)
theorem nt_inv {H : Hp} {b : Addr} {o : HO} (e : nt H b = some o) : H b = some o ∧ ∀ ps, o ≠ .tbl ps := by
  unfold nt at e
  split at e
  · cases e
  · rename_i h
    exact ⟨e, fun ps z => h ps (by rw [e, z])⟩
theorem nt_sub {H : Hp} : Same (nt H) H := fun _ _ e => (nt_inv e).1
def wx (p g : Addr) (H : Hp) : Hp := nt (wo p g H)
theorem wx_sub {p g : Addr} {H : Hp} : Same (wx p g H) H := nt_sub.trans wo_sub
theorem wx_kx {p g : Addr} {H H1 : Hp} (k : Kx p g H H1) : Same (wx p g H) (wx p g H1) := fun b o e => by
  obtain ⟨h1, h2⟩ := nt_inv e
  obtain ⟨h3, h4, h5⟩ := wo_inv h1
  exact nt_at (wo_at h3 h4 (k b o h3 h4 h2 h5)) h2
theorem sqT_nt {K : PySem.W.Frag} {H : Hp} {a : Addr} {xs : List V} (h : SqT K H a xs) : SqT K (nt H) a xs := by
  rcases h with (h | ⟨o, h⟩) | h
  · exact .inl (.inl (nt_at h (fun _ z => by cases z)))
  · exact .inl (.inr ⟨o, nt_at h (fun _ z => by cases z)⟩)
  · exact .inr h
theorem sqL_nt {K : PySem.W.Frag} {H : Hp} {a : Addr} {xs : List V} (h : SqL K H a xs) : SqL K (nt H) a xs := by
  rcases h with (h | ⟨o, h⟩) | h
  · exact .inl (.inl (nt_at h (fun _ z => by cases z)))
  · exact .inl (.inr ⟨o, nt_at h (fun _ z => by cases z)⟩)
  · exact .inr h
mutual
theorem dp_nt {K : PySem.W.Frag} {H : Hp} : ∀ {x : V} {d : PyData}, Dp K H x d → Dp K (nt H) x d
  | _, _, .non => .non
  | _, _, .bl b => .bl b
  | _, _, .int i => .int i
  | _, _, .str s => .str s
  | _, _, .lst q r => .lst (sqL_nt q) (dpAll_nt r)
  | _, _, .tup q r => .tup (sqT_nt q) (dpAll_nt r)
theorem dpAll_nt {K : PySem.W.Frag} {H : Hp} : ∀ {xs : List V} {ds : List PyData}, DpAll K H xs ds → DpAll K (nt H) xs ds
  | _, _, .nil => .nil
  | _, _, .cons h r => .cons (dp_nt h) (dpAll_nt r)
end
theorem st_ext {H H' : Hp} {p g c : Addr} {n : Nat} (h : Pre.St H p g c n) (s : ExtN H H') : Pre.St H' p g c n := by
  obtain ⟨⟨gs, cs, r, t, h1, h2, h3, h4⟩, h5⟩ := h
  exact ⟨⟨gs, cs, r, t, s _ _ h1 (fun _ z => by cases z), s _ _ h2 (fun _ z => by cases z), s _ _ h3 (fun _ z => by cases z), h4⟩, h5⟩
theorem at_wx {K : PySem.W.Frag} {H : Hp} {p g c a : Addr} {n : Nat} {xs : List V} (h : SqT K H a xs) (hs : Pre.St H p g c n) : SqT K (wx p g H) a xs := by
  obtain ⟨⟨gs, cs, r, t, hp, hg, _⟩, _⟩ := hs
  refine sqT_nt ?_
  have off : ∀ o, H a = some o → (∀ kvs, o ≠ .dK kvs) → (∀ ys, o ≠ .lst ys) → wo p g H a = some o := fun o e n1 n2 => wo_at (fun y => by
    rw [y, hp] at e
    cases e
    exact n1 _ rfl) (fun y => by
    rw [y, hg] at e
    cases e
    exact n2 _ rfl) e
  rcases h with (h | ⟨o, h⟩) | h
  · exact .inl (.inl (off _ h (fun _ z => by cases z) (fun _ z => by cases z)))
  · exact .inl (.inr ⟨o, off _ h (fun _ z => by cases z) (fun _ z => by cases z)⟩)
  · exact .inr h
theorem at_kx {K : PySem.W.Frag} {H H' : Hp} {p g c a : Addr} {n : Nat} {xs : List V} (h : SqT K H a xs) (hs : Pre.St H p g c n) (k : Kx p g H H') : SqT K H' a xs := sqT_same wx_sub (sqT_same (wx_kx k) (at_wx h hs))
theorem one_l {a : Addr} {q : Str} : ∀ z ∈ [(a, q)], z.1 = a → z.2 = q := fun z hz _ => by
  rw [List.mem_singleton.mp hz]
theorem tabs_kp {PR : Addr} {q : Str} {H H' : Hp} {p g c : Addr} {n : Nat} (t : Tabs [(PR, q)] H) (hs : Pre.St H p g c n) (k : Pre.Kp p g H H') : Tabs [(PR, q)] H' := fun z hz => by
  obtain ⟨ps, h1, h2, h3⟩ := t z hz
  obtain ⟨⟨gs, cs, r, t, hp, hg, _⟩, _⟩ := hs
  have off : ∀ b o, H b = some o → (∀ kvs, o ≠ .dK kvs) → (∀ xs, o ≠ .lst xs) → H' b = some o := fun b o e n1 n2 => k b o (fun y => by
    rw [y, hp] at e
    cases e
    exact n1 _ rfl) (fun y => by
    rw [y, hg] at e
    cases e
    exact n2 _ rfl) e
  refine ⟨ps, off _ _ h1 (fun _ y => by cases y) (fun _ y => by cases y), h2, fun pos cv hc => ?_⟩
  obtain ⟨c0, e1, e2⟩ := h3 pos cv hc
  exact ⟨c0, e1, off _ _ e2 (fun _ y => by unfold CodeO at y; cases y) (fun _ y => by unfold CodeO at y; cases y)⟩
theorem tabs_same {PR : Addr} {q : Str} {H H' : Hp} (t : Tabs [(PR, q)] H) (s : Same H H') : Tabs [(PR, q)] H' := t.ext s
theorem go_name {i : Nat} {v : V} {σ : L2.St} {H : Hp} {Q : L2.St → Hp → Prop} (h : Q (σ.set i (some v)) H) : gName i v σ H Q := h
theorem go_seq {t u : TS} {D : Ends} {σ : L2.St} {H : Hp} (h : t { D with nx := u D } σ H) : tSeq t u D σ H := h
theorem go_nx {f b c : L2.St → Hp → Prop} {r : V → Hp → Prop} {σ : L2.St} {H : Hp} (h : f σ H) : (Ends.mk f r b c).nx σ H := h
theorem go_asg {te : TE} {g : TG} {D : Ends} {σ : L2.St} {H : Hp} (h : te σ H fun x H1 => g x σ H1 D.nx) : tAsg te g D σ H := h
theorem go_par {i j : Nat} {ta tb : TE} {D : Ends} {σ : L2.St} {H : Hp} (h : ta σ H fun x H1 => tb σ H1 fun y H2 => D.nx ((σ.set i (some x)).set j (some y)) H2) : tPar i j (tCons ta (tCons tb tNil)) D σ H := by
  show ta σ H fun x H1 => tb σ H1 fun y H2 => ∃ v w, [x, y] = [v, w] ∧ D.nx ((σ.set i (some v)).set j (some w)) H2
  have e : (fun x H1 => tb σ H1 fun y H2 => ∃ v w, [x, y] = [v, w] ∧ D.nx ((σ.set i (some v)).set j (some w)) H2) = (fun x H1 => tb σ H1 fun y H2 => D.nx ((σ.set i (some x)).set j (some y)) H2) := by
    funext x H1
    congr 1
    funext y H2
    apply propext
    constructor
    · rintro ⟨v, w, e, h⟩
      cases e
      exact h
    · intro h
      exact ⟨x, y, rfl, h⟩
  rw [e]
  exact h
theorem go_on {f b c : L2.St → Hp → Prop} {r : V → Hp → Prop} {σ : L2.St} {H : Hp} (h : f σ H) : tNext (Ends.mk f r b c) σ H := h
abbrev sLowest : Stmt := Pre.top 40
section
variable {P0 : Program} {w : World} {K : PySem.W.Frag} {mg : Str → Option Value} {base : Heap}
def spLowest : Sp := fun vs H Q _ => ∃ (t b : Int) (n : Nat), vs = [.int t, .int b] ∧ b ≠ 0 ∧ t.natAbs < 2 ^ n ∧ b.natAbs < 2 ^ n ∧ 0 < n ∧ n ≤ 7000 ∧ ∀ (p : Addr) (H' : Hp), Same H H' → H' p = some (.tup [.int (low t b).1, .int (low t b).2]) → Q (.ref p) H'
theorem scLowest : FnScope ["top", "bottom", "one", "other", "sign"] ["top", "bottom"] (defScope sLowest) := ⟨rfl, rfl, rfl, by decide +kernel, rfl, by decide +kernel, by decide +kernel⟩
theorem abs_if (i : Int) : (if i < 0 then -i else i) = (i.natAbs : Int) := by
  split <;> omega
theorem ok_lowest {f : Addr} {fd : FuncData} (F : Fun K "_law_cp_lowest" "_law_cp_lowest" sLowest f fd) (T : Pre.TxtP mg) : FnOk P0 w K mg base CX0 1 f fd ["top", "bottom"] spLowest := by
  refine F.ok scLowest (fun vs H Q E h => ?_) (fun cdv A outer s H vs Q E hr h => ?_)
  · obtain ⟨t, b, n, rfl, _⟩ := h
    rfl
  · obtain ⟨t, b, n, rfl, hb, ht, hbn, n0, n1, k⟩ := h
    have nd := scLowest.nd
    have gp := gI_pos (t := t) hb
    have gs := gI_small (t := t) hb hbn
    refine ⟨_, pss_cons (ps_par (i := 2) (j := 3) rfl nd rfl rfl (by decide) rfl rfl (pa_cons (pe_callB call_abs (by rfl) T.abs (by decide +kernel) (pa_cons (pv 0) pa_nil)) (pa_cons (pe_callB call_abs (by rfl) T.abs (by decide +kernel) (pa_cons (pv 1) pa_nil)) pa_nil)) (by rfl))
      (pss_cons (ps_while PassesOwn.never (pt_cmpR op_ne (pv 3) pe_int (nomark _)) (pss_one (ps_par (i := 2) (j := 3) rfl nd rfl rfl (by decide) rfl rfl (pa_cons (pv 3) (pa_cons (pe_op op_mod (pe_callTy call_int1 (by rfl) T.int (by decide +kernel) (pa_cons (pv 2) pa_nil)) (pv 3)) pa_nil)) (by rfl))))
      (pss_cons (ps_set (i := 4) nd rfl (Or.inl rfl) (pe_ifExp (pt_cmpR op_gt (pv 1) pe_int (nomark _)) pe_int (pe_un un_neg pe_int)))
      (pss_one (ps_ret (pe_tup (pa_cons (pe_op op_fdivA (pe_op op_mulW (pv 4) (pv 0)) (pv 2)) (pa_cons (pe_op op_fdivA (pe_op op_mulW (pv 4) (pv 1)) (pv 2)) pa_nil))))))), ?_⟩
    refine ⟨_, rfl, t, rfl, _, rfl, b, rfl, _, _, rfl, ?_⟩
    refine while_by (fun σ H' => ∃ a c : Nat, σ = [some (.int t), some (.int b), some (.int a), some (.int c), none] ∧ H' = H ∧ Nat.gcd a c = Nat.gcd t.natAbs b.natAbs) (fun σ H' => match σ with
      | [_, _, _, some (.int c), _] => c.toNat
      | _ => 0) ⟨t.natAbs, b.natAbs, ?_, rfl, rfl⟩ ?_ ?_
    · rw [abs_if, abs_if]
      rfl
    · rintro σ H' ⟨a, c, rfl, rfl, hg⟩
      refine ⟨_, rfl, rfl, _, rfl, ?_⟩
      refine ite2 (fun hc => ?_) (fun hc => ?_)
      · have c0 : c ≠ 0 := fun z => by
          subst z
          simp at hc
        refine ⟨_, rfl, _, rfl, .inl ⟨_, rfl, _, rfl, (a : Int), (c : Int), rfl, rfl, by omega, _, _, rfl, ?_⟩⟩
        refine ⟨⟨c, a % c, ?_, rfl, ?_⟩, ?_⟩
        · rw [show ((a % c : Nat) : Int) = (a : Int) % (c : Int) from Int.natCast_emod a c]
          rfl
        · rw [← hg, Nat.gcd_comm a c, Nat.gcd_rec c a, Nat.gcd_comm]
        · show ((a : Int) % (c : Int)).toNat < (c : Int).toNat
          rw [← Int.natCast_emod, Int.toNat_natCast, Int.toNat_natCast]
          exact Nat.mod_lt _ (by omega)
      · have c0 : c = 0 := by
          rcases Nat.eq_zero_or_pos c with z | z
          · exact z
          · exact absurd (by simp; omega) hc
        subst c0
        rw [Nat.gcd_zero_right] at hg
        have ha : (a : Int) = gI t b := by
          unfold gI Int.gcd
          rw [hg]
        rw [ha]
        have lg : (gI t b).natAbs.log2 < 9000 := Nat.lt_of_lt_of_le (log_lt gs n0) (by omega)
        have small : ∀ u v : Int, u.natAbs < 2 ^ n → v.natAbs < 2 → CMulW v u := fun u v h1 h2 => wide (n := 1) (m := n) h2 h1 (by decide) n0 (by omega)
        refine ⟨_, rfl, _, _, rfl, rfl, _, rfl, ite2 (fun hp => ?_) (fun hp => ?_)⟩
        · have hpos : 0 < b := of_decide_eq_true hp
          refine ⟨_, rfl, _, rfl, _, _, rfl, rfl, small t 1 ht (by decide), _, rfl, _, _, rfl, rfl, ⟨by omega, lg⟩, _, rfl, _, rfl, _, _, rfl, rfl, small b 1 hbn (by decide), _, rfl, _, _, rfl, rfl, ⟨by omega, lg⟩, by show 2 ≤ sizeLine; decide, fun p hp => ?_⟩
          refine k p _ (Pre.same_upd hp) ?_
          rw [upd_same]
          have e1 : (1 * t).fdiv (gI t b) = (low t b).1 := by
            rw [Int.one_mul, Int.fdiv_eq_ediv_of_nonneg _ (by omega)]
            simp only [low, if_neg (show ¬ b < 0 by omega)]
          have e2 : (1 * b).fdiv (gI t b) = (low t b).2 := by
            rw [Int.one_mul, Int.fdiv_eq_ediv_of_nonneg _ (by omega)]
            simp only [low, if_neg (show ¬ b < 0 by omega)]
          show some (HO.tup [V.int ((1 * t).fdiv (gI t b)), V.int ((1 * b).fdiv (gI t b))]) = _
          rw [e1, e2]
        · have hneg : b < 0 := by
            have z : ¬ 0 < b := fun z => hp (decide_eq_true z)
            omega
          refine ⟨_, rfl, _, rfl, _, rfl, _, _, rfl, rfl, small t (-1) ht (by decide), _, rfl, _, _, rfl, rfl, ⟨by omega, lg⟩, _, rfl, _, rfl, _, _, rfl, rfl, small b (-1) hbn (by decide), _, rfl, _, _, rfl, rfl, ⟨by omega, lg⟩, by show 2 ≤ sizeLine; decide, fun p hp => ?_⟩
          refine k p _ (Pre.same_upd hp) ?_
          rw [upd_same]
          have e1 : (-1 * t).fdiv (gI t b) = (low t b).1 := by
            rw [Int.fdiv_eq_ediv_of_nonneg _ (by omega), neg_ediv gp (gI_l t b)]
            simp only [low, if_pos hneg]
          have e2 : (-1 * b).fdiv (gI t b) = (low t b).2 := by
            rw [Int.fdiv_eq_ediv_of_nonneg _ (by omega), neg_ediv gp (gI_r t b)]
            simp only [low, if_pos hneg]
          show some (HO.tup [V.int ((-1 * t).fdiv (gI t b)), V.int ((-1 * b).fdiv (gI t b))]) = _
          rw [e1, e2]
    · rintro σ H' Q1 Q2 hq ⟨x, hx, e, y, e2, q⟩
      exact ⟨x, hx, e, y, e2, hq _ _ q⟩
end
abbrev sCpPlus : Stmt := Pre.top 41
abbrev sAdded : Stmt := Pre.top 22
abbrev sTotal : Stmt := Pre.top 24
def addW (w v : Int × Int) : Int × Int := low (w.1 * v.2 + v.1 * w.2) (w.2 * v.2)
theorem sz_add {w v : Int × Int} {n m : Nat} (hw : sz n w) (hv : sz m v) (h1 : w.2 ≠ 0) (h2 : v.2 ≠ 0) : sz (n + m + 1) (addW w v) := by
  have h := ne_mul h1 h2
  refine ⟨Nat.lt_of_le_of_lt (low_abs1 h) (num_lt hw hv), Nat.lt_of_le_of_lt (low_abs2 h) ?_⟩
  have := den_lt hw hv
  rw [Nat.pow_succ]
  omega
section
variable {P0 : Program} {w : World} {K : PySem.W.Frag} {mg : Str → Option Value} {base : Heap}
def spCpBin (K : PySem.W.Frag) (op : Int × Int → Int × Int → Int × Int) : Sp := fun vs H Q _ => ∃ (a b : Addr) (u v : Int × Int) (n m : Nat), vs = [.ref a, .ref b] ∧ At K H a u ∧ At K H b v ∧ u.2 ≠ 0 ∧ v.2 ≠ 0 ∧ sz n u ∧ sz m v ∧ 0 < n ∧ 0 < m ∧ n + m ≤ 6000 ∧
  ∀ (p : Addr) (H' : Hp), Same H H' → At K H' p (op u v) → Q (.ref p) H'
theorem scCpPlus : FnScope ["one", "other"] ["one", "other"] (defScope sCpPlus) := ⟨rfl, rfl, rfl, by decide +kernel, rfl, by decide +kernel, by decide +kernel⟩
theorem ok_cpplus {f fS : Addr} {fd dS : FuncData} (F : Fun K "_law_cp_plus" "_law_cp_plus" sCpPlus f fd) (T : Pre.TxtP mg) (FS : Fun K "_law_cp_lowest" "_law_cp_lowest" sLowest fS dS) (mS : mg "_law_cp_lowest" = some (.ref fS)) : FnOk P0 w K mg base CX0 2 f fd ["one", "other"] (spCpBin K addW) := by
  have GS : FnOk P0 w K mg base CX0 1 fS dS ["top", "bottom"] spLowest := ok_lowest FS T
  have bS := FS.binds (ps := ["top", "bottom"]) fun _ _ _ _ _ _ us hl => match us, hl with | [_, _], _ => rfl
  refine F.ok scCpPlus (fun vs H Q E h => ?_) (fun cdv A outer s H vs Q E hr h => ?_)
  · obtain ⟨a, b, u, v, n, m, rfl, _⟩ := h
    rfl
  · obtain ⟨a, b, u, v, n, m, rfl, ha, hb, hu, hv, su, sv, n0, m0, nm, k⟩ := h
    refine ⟨_, pss_one (ps_ret (pe_call GS hr rfl mS FS.kp bS .nil pass0 (pa_cons (pe_op op_add (pe_op op_mulW (pe_ix ix_tup (pv 0) pe_int (fun _ _ => rfl)) (pe_ix ix_tup (pv 1) pe_int (fun _ _ => rfl))) (pe_op op_mulW (pe_ix ix_tup (pv 1) pe_int (fun _ _ => rfl)) (pe_ix ix_tup (pv 0) pe_int (fun _ _ => rfl))))
      (pa_cons (pe_op op_mulW (pe_ix ix_tup (pv 0) pe_int (fun _ _ => rfl)) (pe_ix ix_tup (pv 1) pe_int (fun _ _ => rfl))) pa_nil)))), ?_⟩
    refine ⟨_, rfl, a, _, _, _, rfl, rfl, ha, rfl, _, rfl, b, _, _, _, rfl, rfl, hb, rfl, _, _, rfl, rfl, wide su.1 sv.2 n0 m0 (by omega), ?_⟩
    refine ⟨_, rfl, b, _, _, _, rfl, rfl, hb, rfl, _, rfl, a, _, _, _, rfl, rfl, ha, rfl, _, _, rfl, rfl, wide sv.1 su.2 m0 n0 (by omega), _, _, rfl, rfl, ?_⟩
    refine ⟨_, rfl, a, _, _, _, rfl, rfl, ha, rfl, _, rfl, b, _, _, _, rfl, rfl, hb, rfl, _, _, rfl, rfl, wide su.2 sv.2 n0 m0 (by omega), ?_⟩
    exact ⟨_, _, n + m + 1, rfl, ne_mul hu hv, num_lt su sv, Nat.lt_of_lt_of_le (den_lt su sv) (Nat.pow_le_pow_right (by decide) (by omega)), by omega, by omega, fun p H' s1 hp => k p H' s1 (SqT.of hp)⟩
def spAdded (K : PySem.W.Frag) : Sp := fun vs H Q _ => ∃ (a b : Addr) (u v : Int × Int) (n m : Nat), vs = [.ref a, .ref b] ∧ At K H a u ∧ At K H b v ∧ u.2 ≠ 0 ∧ v.2 ≠ 0 ∧ sz n u ∧ sz m v ∧ 0 < n ∧ 0 < m ∧ n + m ≤ 7000 ∧
  ∀ (p : Addr) (H' : Hp), Same H H' → At K H' p (addW u v) → Q (.ref p) H'
theorem scAdded : FnScope ["one", "other"] ["one", "other"] (defScope sAdded) := ⟨rfl, rfl, rfl, by decide +kernel, rfl, by decide +kernel, by decide +kernel⟩
theorem ok_added {f fS : Addr} {fd dS : FuncData} (F : Fun K "added" "added" sAdded f fd) (T : TxtW mg) (FS : Fun K "shortened" "shortened" sShort fS dS) (mS : mg "shortened" = some (.ref fS)) : FnOk P0 w K mg base CX0 2 f fd ["one", "other"] (spAdded K) := by
  have GS : FnOk P0 w K mg base CX0 1 fS dS ["top", "bottom"] spShort := ok_short FS T
  have bS := FS.binds (ps := ["top", "bottom"]) fun _ _ _ _ _ _ us hl => match us, hl with | [_, _], _ => rfl
  refine F.ok scAdded (fun vs H Q E h => ?_) (fun cdv A outer s H vs Q E hr h => ?_)
  · obtain ⟨a, b, u, v, n, m, rfl, _⟩ := h
    rfl
  · obtain ⟨a, b, u, v, n, m, rfl, ha, hb, hu, hv, su, sv, n0, m0, nm, k⟩ := h
    refine ⟨_, pss_one (ps_ret (pe_call GS hr rfl mS FS.kp bS .nil pass0 (pa_cons (pe_op op_add (pe_op op_mulW (pe_ix ix_tup (pv 0) pe_int (fun _ _ => rfl)) (pe_ix ix_tup (pv 1) pe_int (fun _ _ => rfl))) (pe_op op_mulW (pe_ix ix_tup (pv 1) pe_int (fun _ _ => rfl)) (pe_ix ix_tup (pv 0) pe_int (fun _ _ => rfl))))
      (pa_cons (pe_op op_mulW (pe_ix ix_tup (pv 0) pe_int (fun _ _ => rfl)) (pe_ix ix_tup (pv 1) pe_int (fun _ _ => rfl))) pa_nil)))), ?_⟩
    refine ⟨_, rfl, a, _, _, _, rfl, rfl, ha, rfl, _, rfl, b, _, _, _, rfl, rfl, hb, rfl, _, _, rfl, rfl, wide su.1 sv.2 n0 m0 (by omega), ?_⟩
    refine ⟨_, rfl, b, _, _, _, rfl, rfl, hb, rfl, _, rfl, a, _, _, _, rfl, rfl, ha, rfl, _, _, rfl, rfl, wide sv.1 su.2 m0 n0 (by omega), _, _, rfl, rfl, ?_⟩
    refine ⟨_, rfl, a, _, _, _, rfl, rfl, ha, rfl, _, rfl, b, _, _, _, rfl, rfl, hb, rfl, _, _, rfl, rfl, wide su.2 sv.2 n0 m0 (by omega), ?_⟩
    exact ⟨_, _, n + m, rfl, ne_mul hu hv, den_lt su sv, by omega, by omega, fun p H' s1 hp => k p H' s1 (SqT.of hp)⟩
end
end Wt

namespace Kn
open PySem PySem.Spec PyProof.Rows L2
open Wt Dc
abbrev sWithin : Stmt := Pre.top 6
abbrev sIsNum : Stmt := Pre.top 11
abbrev sIsTo : Stmt := Pre.top 12
abbrev sIsKind : Stmt := Pre.top 13
/-! ## data that may be compared -/
abbrev Sh (d : PyData) : Prop := SeqAt.shaped d = true
theorem sh_of {d : PyData} (h1 : d.canLay0 = true) (h2 : d.depth ≤ 64) : Sh d := by
  show (d.canLay0 && decide (d.depth ≤ 64)) = true
  rw [h1, decide_eq_true h2]
  rfl
theorem sh_can {d : PyData} (h : Sh d) : d.canLay0 = true := SeqAt.canLay_of_shaped h
theorem sh_dep {d : PyData} (h : Sh d) : d.depth ≤ 64 := SeqAt.depth_of_shaped h
theorem can_mem : ∀ {ds : List PyData} {d : PyData}, PyData.canLayAll0 ds = true → d ∈ ds → d.canLay0 = true
  | x :: xs, d, h, hm => by
    have h' : (x.canLay0 && PyData.canLayAll0 xs) = true := h
    rw [Bool.and_eq_true] at h'
    rcases List.mem_cons.mp hm with e | e
    · rw [e]
      exact h'.1
    · exact can_mem h'.2 e
theorem dep_mem : ∀ {ds : List PyData} {d : PyData}, d ∈ ds → d.depth ≤ PyData.depthAll ds
  | x :: xs, d, hm => by
    show d.depth ≤ max x.depth (PyData.depthAll xs)
    rcases List.mem_cons.mp hm with e | e
    · rw [e]
      exact Nat.le_max_left _ _
    · exact Nat.le_trans (dep_mem e) (Nat.le_max_right _ _)
theorem sh_tup {ds : List PyData} (h : Sh (.tuple ds)) {d : PyData} (hm : d ∈ ds) : Sh d := by
  have h1 : PyData.canLayAll0 ds = true := sh_can h
  have h2 : PyData.depthAll ds + 1 ≤ 64 := sh_dep h
  exact sh_of (can_mem h1 hm) (Nat.le_trans (dep_mem hm) (by omega))
theorem eqv_str {d : PyData} {t : Str} (h : PyData.eqv d (.str t) = true) : d = .str t := by
  cases d with
  | str s =>
    have h' : (s == t) = true := h
    rw [eq_of_beq h']
  | none => cases h
  | bool _ => cases h
  | int _ => cases h
  | list _ => cases h
  | tuple _ => cases h
  | dict _ => cases h
theorem eqv_self (t : Str) : PyData.eqv (.str t) (.str t) = true := by
  show (t == t) = true
  exact beq_self_eq_true t
/-! ## kinds -/
def within (lo hi : Int) : PyData → Bool
  | .int i => decide (lo ≤ i) && decide (i ≤ hi)
  | _ => false
def isNumD : PyData → Bool
  | .tuple [d, e] => PyData.eqv d (.str "num") && within 1 6 e
  | _ => false
def isToD : PyData → Bool
  | .tuple [d, _, _] => PyData.eqv d (.str "to")
  | _ => false
def addO : Option Nat → Option Nat → Option Nat
  | some m, some n => some (m + n)
  | _, _ => none
/-- how many nums, if d is put together as a kind is -/
def cnt : PyData → Option Nat
  | .tuple [.str s, .int k] => if s = "num" ∧ 1 ≤ k ∧ k ≤ 6 then some 1 else none
  | .tuple [.str s, a, b] => if s = "to" then addO (cnt a) (cnt b) else none
  | _ => none
theorem addO_some {x y : Option Nat} {n : Nat} (h : addO x y = some n) : ∃ m k, x = some m ∧ y = some k ∧ n = m + k := by
  cases x with
  | none => cases h
  | some m =>
    cases y with
    | none => cases h
    | some k =>
      cases h
      exact ⟨m, k, rfl, rfl, rfl⟩
theorem cnt_num {s : Str} {k : Int} : cnt (.tuple [.str s, .int k]) = if s = "num" ∧ 1 ≤ k ∧ k ≤ 6 then some 1 else none := by
  rw [cnt]
theorem cnt_to {s : Str} {a b : PyData} : cnt (.tuple [.str s, a, b]) = if s = "to" then addO (cnt a) (cnt b) else none := by
  rw [cnt]
theorem cnt_pos : ∀ {d : PyData} {n : Nat}, cnt d = some n → 1 ≤ n := fun {d} => by
  fun_induction cnt d with
  | case1 s k hs =>
    intro n h
    cases h
    exact Nat.le_refl _
  | case2 s k hs =>
    intro n h
    cases h
  | case3 a b ih1 ih2 =>
    intro n h
    obtain ⟨m, k, h1, h2, rfl⟩ := addO_some h
    have := ih1 h1
    omega
  | case4 s a b hs =>
    intro n h
    cases h
  | case5 d h1 h2 =>
    intro n h
    cases h
theorem isNum_cnt {d : PyData} (h : isNumD d = true) : cnt d = some 1 := by
  unfold isNumD at h
  split at h
  · rename_i a b
    rw [Bool.and_eq_true] at h
    have e := eqv_str h.1
    subst e
    cases b with
    | int k =>
      have h2 : (decide (1 ≤ k) && decide (k ≤ 6)) = true := h.2
      rw [Bool.and_eq_true] at h2
      rw [cnt_num, if_pos ⟨rfl, of_decide_eq_true h2.1, of_decide_eq_true h2.2⟩]
    | _ => cases h.2
  · cases h
theorem isTo_cnt {d : PyData} (h : isToD d = true) : ∃ a b : PyData, d = .tuple [.str "to", a, b] ∧ cnt d = addO (cnt a) (cnt b) := by
  unfold isToD at h
  split at h
  · rename_i x y z
    have e' := eqv_str h
    rw [e']
    exact ⟨_, _, rfl, by rw [cnt_to, if_pos rfl]⟩
  · cases h
theorem other_cnt {d : PyData} (h1 : isNumD d = false) (h2 : isToD d = false) : cnt d = none := by
  cases h : cnt d with
  | none => rfl
  | some n =>
    unfold cnt at h
    split at h
    · rename_i s k
      split at h
      · rename_i hs
        obtain ⟨rfl, k1, k2⟩ := hs
        have z : isNumD (.tuple [.str "num", .int k]) = true := by
          show (PyData.eqv (.str "num") (.str "num") && (decide (1 ≤ k) && decide (k ≤ 6))) = true
          rw [eqv_self, decide_eq_true k1, decide_eq_true k2]
          rfl
        rw [z] at h1
        cases h1
      · cases h
    · split at h
      · rename_i hs
        rw [hs] at h2
        have z := h2.symm.trans (eqv_self "to")
        cases z
      · cases h
    · cases h
def isK (d : PyData) : Bool := match cnt d with
  | some n => decide (n ≤ 12)
  | none => false
def tots : List PyData → Option Nat
  | [] => some 0
  | d :: ds => addO (cnt d) (tots ds)
theorem addO_assoc (x y z : Option Nat) : addO (addO x y) z = addO x (addO y z) := by
  cases x <;> cases y <;> cases z <;> simp [addO, Nat.add_assoc]
theorem addO_comm (x y : Option Nat) : addO x y = addO y x := by
  cases x <;> cases y <;> simp [addO, Nat.add_comm]
theorem addO_zero (x : Option Nat) : addO x (some 0) = x := by
  cases x <;> simp [addO]
theorem tots_snoc (ds : List PyData) (d : PyData) : tots (ds ++ [d]) = addO (tots ds) (cnt d) := by
  induction ds with
  | nil =>
    show addO (cnt d) (some 0) = addO (some 0) (cnt d)
    rw [addO_comm]
  | cons x xs ih =>
    show addO (cnt x) (tots (xs ++ [d])) = addO (addO (cnt x) (tots xs)) (cnt d)
    rw [ih, addO_assoc]
theorem tots_len : ∀ {ds : List PyData} {m : Nat}, tots ds = some m → ds.length ≤ m
  | [], _, _ => Nat.zero_le _
  | d :: ds, m, h => by
    obtain ⟨a, b, h1, h2, rfl⟩ := addO_some h
    have := cnt_pos h1
    have := tots_len h2
    simp only [List.length_cons]
    omega
def fin (n : Nat) (ds : List PyData) : Bool := match tots ds with
  | some m => decide (n + m ≤ 12)
  | none => false
theorem fin_one (d : PyData) : fin 0 [d] = isK d := by
  show (match addO (cnt d) (some 0) with
    | some m => decide (0 + m ≤ 12)
    | none => false) = isK d
  rw [addO_zero]
  unfold isK
  cases cnt d with
  | none => rfl
  | some n => simp
theorem fin_num {n : Nat} {ds : List PyData} {d : PyData} (h : isNumD d = true) : fin n (ds ++ [d]) = fin (n + 1) ds := by
  unfold fin
  rw [tots_snoc, isNum_cnt h]
  cases tots ds with
  | none => rfl
  | some m =>
    show decide (n + (m + 1) ≤ 12) = decide (n + 1 + m ≤ 12)
    have e : n + (m + 1) = n + 1 + m := by omega
    rw [e]
theorem fin_to {n : Nat} {ds : List PyData} {a b : PyData} : fin n (ds ++ [.tuple [.str "to", a, b]]) = fin n (ds ++ [a] ++ [b]) := by
  unfold fin
  rw [tots_snoc, tots_snoc, tots_snoc, cnt_to, if_pos rfl, addO_assoc]
theorem fin_none {n : Nat} {ds : List PyData} {d : PyData} (h : cnt d = none) : fin n (ds ++ [d]) = false := by
  unfold fin
  rw [tots_snoc, h]
  cases tots ds <;> rfl
theorem fin_long {n : Nat} {ds : List PyData} (h : 12 < n + ds.length) : fin n ds = false := by
  unfold fin
  cases e : tots ds with
  | none => rfl
  | some m =>
    have := tots_len e
    exact decide_eq_false (by omega)
theorem fin_nil {n : Nat} (h : n ≤ 12) : fin n [] = true := decide_eq_true (by omega)
noncomputable def wt : List PyData → Nat
  | [] => 0
  | d :: ds => sizeOf d + wt ds
theorem wt_snoc (ds : List PyData) (d : PyData) : wt (ds ++ [d]) = wt ds + sizeOf d := by
  induction ds with
  | nil =>
    show sizeOf d + 0 = 0 + sizeOf d
    omega
  | cons x xs ih =>
    show sizeOf x + wt (xs ++ [d]) = sizeOf x + wt xs + sizeOf d
    rw [ih]
    omega
theorem to_size (a b : PyData) (s : Str) : sizeOf a + sizeOf b < sizeOf (PyData.tuple [.str s, a, b]) := by
  simp only [PyData.tuple.sizeOf_spec, List.cons.sizeOf_spec, List.nil.sizeOf_spec]
  omega
theorem size_pos (d : PyData) : 0 < sizeOf d := by
  cases d <;> simp <;> omega
theorem dpAll_snoc {K : PySem.W.Frag} {H : Hp} : ∀ {vs : List V} {ds : List PyData} {v : V} {d : PyData}, DpAll K H vs ds → Dp K H v d → DpAll K H (vs ++ [v]) (ds ++ [d])
  | _, _, _, _, .nil, h => .cons h .nil
  | _, _, _, _, .cons h1 r, h => .cons h1 (dpAll_snoc r h)
theorem dpAll_last {K : PySem.W.Frag} {H : Hp} : ∀ {vs : List V} {ds : List PyData}, DpAll K H vs ds → vs ≠ [] → ∃ vs' v ds' d, vs = vs' ++ [v] ∧ ds = ds' ++ [d] ∧ DpAll K H vs' ds' ∧ Dp K H v d
  | _, _, .nil, h => absurd rfl h
  | _, _, .cons (v := v) (d := d) h1 .nil, _ => ⟨[], v, [], d, rfl, rfl, .nil, h1⟩
  | _, _, .cons (v := v) (d := d) h1 (.cons h2 r), _ => by
    obtain ⟨vs', v', ds', d', e1, e2, e3, e4⟩ := dpAll_last (.cons h2 r) (by simp)
    exact ⟨v :: vs', v', d :: ds', d', by rw [e1]; rfl, by rw [e2]; rfl, .cons h1 e3, e4⟩
end Kn

namespace Kn
open PySem PySem.Spec PyProof.Rows L2
open Wt Dc
theorem isNum_tup {d : PyData} (h : isTupN 2 d = false) : isNumD d = false := by
  cases e : isNumD d with
  | false => rfl
  | true =>
    unfold isNumD at e
    split at e
    · cases h
    · cases e
theorem isTo_tup {d : PyData} (h : isTupN 3 d = false) : isToD d = false := by
  cases e : isToD d with
  | false => rfl
  | true =>
    unfold isToD at e
    split at e
    · cases h
    · cases e
theorem tup3 {K : PySem.W.Frag} {H : Hp} {x : V} {d : PyData} (hd : Dp K H x d) (h : isTupN 3 d = true) : ∃ a x1 x2 x3 d1 d2 d3, x = .ref a ∧ d = .tuple [d1, d2, d3] ∧ SqT K H a [x1, x2, x3] ∧ Dp K H x1 d1 ∧ Dp K H x2 d2 ∧ Dp K H x3 d3 := by
  cases hd with
  | @tup a xs ds q r =>
    have hl : (ds.length : Int) = 3 := of_decide_eq_true h
    match ds, hl, xs, q, r with
    | [d1, d2, d3], _, _, q, .cons h1 (.cons h2 (.cons h3 .nil)) => exact ⟨a, _, _, _, _, _, _, rfl, rfl, q, h1, h2, h3⟩
    | [], hl, _, _, _ => simp at hl
    | [_], hl, _, _, _ => simp at hl
    | [_, _], hl, _, _, _ => simp at hl
    | _ :: _ :: _ :: _ :: _, hl, _, _, _ =>
      simp only [List.length_cons] at hl
      omega
  | non => cases h
  | bl b => cases h
  | int b => cases h
  | str b => cases h
  | lst q r => cases h
theorem upd_upd {H : Hp} {a : Addr} {o u : HO} : upd (upd H a o) a u = upd H a u := by
  funext b
  by_cases h : b = a
  · rw [h, upd_same, upd_same]
  · rw [upd_ne h, upd_ne h, upd_ne h]
section
variable {P0 : Program} {w : World} {K : PySem.W.Frag} {mg : Str → Option Value} {base : Heap}
def spWithin (K : PySem.W.Frag) : Sp := fun vs H Q _ => ∃ x d lo hi, vs = [x, .int lo, .int hi] ∧ Dp K H x d ∧ Q (.bl (within lo hi d)) H
theorem scWithin : FnScope ["value", "low", "high"] ["value", "low", "high"] (defScope sWithin) := ⟨rfl, rfl, rfl, by decide +kernel, rfl, by decide +kernel, by decide +kernel⟩
theorem ok_within {f fW : Addr} {fd dW : FuncData} (F : Fun K "is_within" "is_within" sWithin f fd) (T : TxtW mg) (FW : Fun K "is_whole" "is_whole" sIsWhole fW dW) (mW : mg "is_whole" = some (.ref fW)) : FnOk P0 w K mg base CX0 2 f fd ["value", "low", "high"] (spWithin K) := by
  have GW : FnOk P0 w K mg base CX0 1 fW dW ["value"] (spWhole K) := ok_whole FW T
  have bW := FW.binds (ps := ["value"]) fun _ _ _ _ _ _ us hl => match us, hl with | [_], _ => rfl
  refine F.ok scWithin (fun vs H Q E h => ?_) (fun cdv A outer s H vs Q E hr h => ?_)
  · obtain ⟨x, d, lo, hi, rfl, _⟩ := h
    rfl
  · obtain ⟨x, d, lo, hi, rfl, hd, k⟩ := h
    refine ⟨_, pss_one (ps_ret (pe_and (pe_call GW hr rfl mW FW.kp bW .nil pass0 (pa_cons (pv 0) pa_nil)) (pe_one (pe_chain op_le op_le (pv 1) (pv 0) (pv 2))))), ?_⟩
    refine ⟨_, rfl, x, d, rfl, hd, _, rfl, ?_⟩
    cases hd with
    | int i =>
      refine iteT ⟨_, rfl, _, rfl, _, _, rfl, rfl, _, rfl, ?_⟩
      by_cases h1 : lo ≤ i
      · have e : within lo hi (.int i) = decide (i ≤ hi) := by
          show (decide (lo ≤ i) && decide (i ≤ hi)) = decide (i ≤ hi)
          rw [decide_eq_true h1, Bool.true_and]
        rw [e] at k
        rw [decide_eq_true h1]
        exact iteT ⟨_, rfl, _, _, rfl, rfl, k⟩
      · have e : within lo hi (.int i) = false := by
          show (decide (lo ≤ i) && decide (i ≤ hi)) = false
          rw [decide_eq_false h1, Bool.false_and]
        rw [e] at k
        rw [decide_eq_false h1]
        exact iteF k
    | non => exact iteF k
    | bl b => exact iteF k
    | str b => exact iteF k
    | lst _ _ => exact iteF k
    | tup _ _ => exact iteF k
/-- the two numbers of the package -/
structure Nms (mg : Str → Option Value) (t1 t2 : Tok) : Prop where
  six : mg "MOST_NUMBERS" = some (.int 6 t1)
  twelve : mg "MOST_NUMS" = some (.int 12 t2)
def spData (K : PySem.W.Frag) (g : PyData → Bool) : Sp := fun vs H Q _ => ∃ x d, vs = [x] ∧ Dp K H x d ∧ Sh d ∧ Q (.bl (g d)) H
theorem scIsNum : FnScope ["value"] ["value"] (defScope sIsNum) := ⟨rfl, rfl, rfl, by decide +kernel, rfl, by decide +kernel, by decide +kernel⟩
theorem scIsTo : FnScope ["value"] ["value"] (defScope sIsTo) := ⟨rfl, rfl, rfl, by decide +kernel, rfl, by decide +kernel, by decide +kernel⟩
theorem sh_num : Sh (.str "num") := by decide +kernel
theorem sh_to : Sh (.str "to") := by decide +kernel
theorem ok_isnum {f fT fN fW : Addr} {fd dT dN dW : FuncData} {t1 t2 : Tok} (F : Fun K "is_num" "is_num" sIsNum f fd) (T : TxtW mg) (M : Nms mg t1 t2) (FT : Fun K "is_tuple_of" "is_tuple_of" sIsTup fT dT) (mT : mg "is_tuple_of" = some (.ref fT)) (FN : Fun K "is_within" "is_within" sWithin fN dN) (mN : mg "is_within" = some (.ref fN)) (FW : Fun K "is_whole" "is_whole" sIsWhole fW dW) (mW : mg "is_whole" = some (.ref fW)) :
    FnOk P0 w K mg base CX0 3 f fd ["value"] (spData K isNumD) := by
  have GT : FnOk P0 w K mg base CX0 1 fT dT ["value", "many"] (spTup K) := ok_tup FT T
  have GN : FnOk P0 w K mg base CX0 2 fN dN ["value", "low", "high"] (spWithin K) := ok_within FN T FW mW
  have bT := FT.binds (ps := ["value", "many"]) fun _ _ _ _ _ _ us hl => match us, hl with | [_, _], _ => rfl
  have bN := FN.binds (ps := ["value", "low", "high"]) fun _ _ _ _ _ _ us hl => match us, hl with | [_, _, _], _ => rfl
  refine F.ok scIsNum (fun vs H Q E h => ?_) (fun cdv A outer s H vs Q E hr h => ?_)
  · obtain ⟨x, d, rfl, _⟩ := h
    rfl
  · obtain ⟨x, d, rfl, hd, hsh, k⟩ := h
    have hr1 : Room 1 _ := hr.mono (by decide)
    refine ⟨_, pss_one (ps_ret (pe_and (pe_call GT hr1 rfl mT FT.kp bT .nil pass0 (pa_cons (pv 0) (pa_cons pe_int pa_nil))) (pe_and (pe_cmpR (op_eqD hr.units) (pe_ix ix_tup (pv 0) pe_int (fun _ _ => rfl)) pe_str (nomark _))
      (pe_one (pe_call GN hr rfl mN FN.kp bN .nil pass0 (pa_cons (pe_ix ix_tup (pv 0) pe_int (fun _ _ => rfl)) (pa_cons pe_int (pa_cons (pe_glob (v := .int 6) (by rfl) M.six ⟨_, rfl⟩) pa_nil)))))))), ?_⟩
    refine ⟨_, rfl, x, d, 2, rfl, hd, _, rfl, ?_⟩
    cases ht : isTupN 2 d with
    | false =>
      refine iteF ?_
      rw [isNum_tup ht] at k
      exact k
    | true =>
      obtain ⟨a, x1, x2, d1, d2, rfl, rfl, q, h1, h2⟩ := tup2 hd ht
      have s1 : Sh d1 := sh_tup hsh (by simp)
      refine iteT ⟨_, rfl, a, _, _, _, rfl, rfl, q, rfl, d1, .str "num", h1, .str _, s1, sh_num, _, rfl, ?_⟩
      cases e : PyData.eqv d1 (.str "num") with
      | false =>
        have e2 : isNumD (.tuple [d1, d2]) = false := by
          show (PyData.eqv d1 (.str "num") && within 1 6 d2) = false
          rw [e]
          rfl
        rw [e2] at k
        exact iteF k
      | true =>
        have e2 : isNumD (.tuple [d1, d2]) = within 1 6 d2 := by
          show (PyData.eqv d1 (.str "num") && within 1 6 d2) = within 1 6 d2
          rw [e]
          rfl
        rw [e2] at k
        exact iteT ⟨_, rfl, a, _, _, _, rfl, rfl, q, rfl, x2, d2, 1, 6, rfl, h2, k⟩
theorem ok_isto {f fT : Addr} {fd dT : FuncData} (F : Fun K "_is_to" "_is_to" sIsTo f fd) (T : TxtW mg) (FT : Fun K "is_tuple_of" "is_tuple_of" sIsTup fT dT) (mT : mg "is_tuple_of" = some (.ref fT)) :
    FnOk P0 w K mg base CX0 2 f fd ["value"] (spData K isToD) := by
  have GT : FnOk P0 w K mg base CX0 1 fT dT ["value", "many"] (spTup K) := ok_tup FT T
  have bT := FT.binds (ps := ["value", "many"]) fun _ _ _ _ _ _ us hl => match us, hl with | [_, _], _ => rfl
  refine F.ok scIsTo (fun vs H Q E h => ?_) (fun cdv A outer s H vs Q E hr h => ?_)
  · obtain ⟨x, d, rfl, _⟩ := h
    rfl
  · obtain ⟨x, d, rfl, hd, hsh, k⟩ := h
    refine ⟨_, pss_one (ps_ret (pe_and (pe_call GT hr rfl mT FT.kp bT .nil pass0 (pa_cons (pv 0) (pa_cons pe_int pa_nil))) (pe_one (pe_cmpR (op_eqD hr.units) (pe_ix ix_tup (pv 0) pe_int (fun _ _ => rfl)) pe_str (nomark _))))), ?_⟩
    refine ⟨_, rfl, x, d, 3, rfl, hd, _, rfl, ?_⟩
    cases ht : isTupN 3 d with
    | false =>
      refine iteF ?_
      rw [isTo_tup ht] at k
      exact k
    | true =>
      obtain ⟨a, x1, x2, x3, d1, d2, d3, rfl, rfl, q, h1, h2, h3⟩ := tup3 hd ht
      have s1 : Sh d1 := sh_tup hsh (by simp)
      exact iteT ⟨_, rfl, a, _, _, _, rfl, rfl, q, rfl, d1, .str "to", h1, .str _, s1, sh_to, k⟩
def spIsK (K : PySem.W.Frag) : Sp := fun vs H Q _ => ∃ x d, vs = [x] ∧ Dp K H x d ∧ Sh d ∧ ∀ H', Same H H' → Q (.bl (isK d)) H'
theorem scIsKind : FnScope ["value", "waiting", "nums", "part"] ["value"] (defScope sIsKind) := ⟨rfl, rfl, rfl, by decide +kernel, rfl, by decide +kernel, by decide +kernel⟩
/-- is_kind's own defs -/
structure KdK (K : PySem.W.Frag) (mg : Str → Option Value) (fT fN fW f1 f2 : Addr) (dT dN dW d1 d2 : FuncData) (t1 t2 : Tok) : Prop where
  T : TxtW mg
  M : Nms mg t1 t2
  FT : Fun K "is_tuple_of" "is_tuple_of" sIsTup fT dT
  mT : mg "is_tuple_of" = some (.ref fT)
  FN : Fun K "is_within" "is_within" sWithin fN dN
  mN : mg "is_within" = some (.ref fN)
  FW : Fun K "is_whole" "is_whole" sIsWhole fW dW
  mW : mg "is_whole" = some (.ref fW)
  F1 : Fun K "is_num" "is_num" sIsNum f1 d1
  m1 : mg "is_num" = some (.ref f1)
  F2 : Fun K "_is_to" "_is_to" sIsTo f2 d2
  m2 : mg "_is_to" = some (.ref f2)
theorem ok_iskind {f fT fN fW f1 f2 : Addr} {fd dT dN dW d1 d2 : FuncData} {t1 t2 : Tok} (F : Fun K "is_kind" "is_kind" sIsKind f fd) (D : KdK K mg fT fN fW f1 f2 dT dN dW d1 d2 t1 t2) : FnOk P0 w K mg base CX0 4 f fd ["value"] (spIsK K) := by
  have G1 : FnOk P0 w K mg base CX0 3 f1 d1 ["value"] (spData K isNumD) := ok_isnum D.F1 D.T D.M D.FT D.mT D.FN D.mN D.FW D.mW
  have G2 : FnOk P0 w K mg base CX0 2 f2 d2 ["value"] (spData K isToD) := ok_isto D.F2 D.T D.FT D.mT
  have b1 := D.F1.binds (ps := ["value"]) fun _ _ _ _ _ _ us hl => match us, hl with | [_], _ => rfl
  have b2 := D.F2.binds (ps := ["value"]) fun _ _ _ _ _ _ us hl => match us, hl with | [_], _ => rfl
  refine F.ok scIsKind (fun vs H Q E h => ?_) (fun cdv A outer s H vs Q E hr h => ?_)
  · obtain ⟨x, d, rfl, _⟩ := h
    rfl
  · obtain ⟨x, d, rfl, hd, hsh, k⟩ := h
    have nd := scIsKind.nd
    have hr2 : Room 2 _ := hr.mono (by decide)
    refine ⟨_, pss_cons (ps_set (i := 1) nd rfl (Or.inl rfl) (pe_lst (pa_cons (pv 0) pa_nil)))
      (pss_cons (ps_set (i := 2) nd rfl (Or.inl rfl) pe_int)
      (pss_cons (ps_while PassesOwn.never (pt_truth (pv 1) (fun _ => rfl))
        (pss_cons (ps_set (i := 3) nd rfl (Or.inl rfl) (pe_bm0 PySem.F.plainAttrs_list PySem.F.slot_list_pop PySem.F.type_list_pop mt_pop (pv 1)))
        (pss_cons (ps_if (pt_val (pe_call G1 hr rfl D.m1 D.F1.kp b1 .nil pass0 (pa_cons (pv 3) pa_nil)))
            (pss_one (ps_aug (i := 2) nd rfl (Or.inl rfl) pe_int ip_add))
            (pss_one (ps_if (pt_val (pe_call G2 hr2 rfl D.m2 D.F2.kp b2 .nil pass0 (pa_cons (pv 3) pa_nil)))
              (pss_cons (ps_expr (pe_bm PySem.F.plainAttrs_list PySem.F.slot_list_append PySem.F.type_list_append mt_append (pv 1) (pa_cons (pe_ix ix_tup (pv 3) pe_int (fun _ _ => rfl)) pa_nil)))
              (pss_one (ps_expr (pe_bm PySem.F.plainAttrs_list PySem.F.slot_list_append PySem.F.type_list_append mt_append (pv 1) (pa_cons (pe_ix ix_tup (pv 3) pe_int (fun _ _ => rfl)) pa_nil)))))
              (pss_one (ps_ret pe_bl)))))
        (pss_one (ps_if (pt_cmpR op_gt (pe_op op_add (pv 2) (pe_callB call_len_seq (by rfl) D.T.len PySem.boot_len (pa_cons (pv 1) pa_nil))) (pe_glob (v := .int 12) (by rfl) D.M.twelve ⟨_, rfl⟩) (nomark _)) (pss_one (ps_ret pe_bl)) pss_nil)))))
      (pss_one (ps_ret pe_bl)))), ?_⟩
    refine ⟨_, rfl, by show 1 ≤ sizeLine; decide, fun L hL => ?_⟩
    have sL := Pre.same_upd (o := .lst [x]) hL
    refine ⟨fun m σ H' => ∃ (n : Nat) (vs : List V) (ds : List PyData) (pt : Option V), m = wt ds ∧ σ = [some x, some (.ref L), some (.int (n : Int)), pt] ∧ Same H H' ∧ H' L = some (.lst vs) ∧ DpAll K H vs ds ∧ (∀ e ∈ ds, Sh e) ∧ fin n ds = isK d ∧ n + ds.length ≤ 12,
      ⟨_, 0, [x], [d], none, rfl, rfl, sL, upd_same, .cons hd .nil, fun e he => by rw [List.mem_singleton.mp he]; exact hsh, fin_one d, by show 0 + 1 ≤ 12; decide⟩, ?_⟩
    rintro m σ H1 ⟨n, vs, ds, pt, rfl, rfl, s1, hv, hD, hS, hf, hlen⟩
    refine ⟨_, rfl, _, .inl ⟨vs, SqL.of hv, rfl⟩, ?_⟩
    cases vs with
    | nil =>
      cases hD
      have e : isK d = true := by
        rw [← hf]
        exact fin_nil (by simpa using hlen)
      rw [e] at k
      exact iteF (k H1 s1)
    | cons v0 vs0 =>
      obtain ⟨vs', v, ds', e, ev, ed, hD', he⟩ := dpAll_last hD (by simp)
      refine iteT ⟨fun σ' H' => ∃ m', m' < wt ds ∧ ∃ (n : Nat) (vs : List V) (ds : List PyData) (pt : Option V), m' = wt ds ∧ σ' = [some x, some (.ref L), some (.int (n : Int)), pt] ∧ Same H H' ∧ H' L = some (.lst vs) ∧ DpAll K H vs ds ∧ (∀ e ∈ ds, Sh e) ∧ fin n ds = isK d ∧ n + ds.length ≤ 12,
        fun σ' H' h => h, ?_⟩
      rw [ev] at hv
      rw [ed] at hf hlen hS
      rw [ed, wt_snoc]
      have hse : Sh e := hS e (by simp)
      have hS' : ∀ u ∈ ds', Sh u := fun u hu => hS u (by simp [hu])
      have dropE : (vs' ++ [v]).dropLast = vs' := by simp
      have lastE : (vs' ++ [v])[(vs' ++ [v]).length - 1]? = some v := by simp
      have sw : ∀ {ys : List V}, Same H (upd H1 L (.lst ys)) := fun {ys} b o eb => by
        rw [upd_ne (ne_of_none eb hL)]
        exact s1 _ _ eb
      refine ⟨_, rfl, .inl ⟨rfl, _, SqL.of hv⟩, L, _, v, rfl, rfl, hv, lastE, ?_⟩
      rw [dropE]
      have hsz := size_pos e
      have lD : vs'.length = ds'.length := dpAll_len hD'
      rw [List.length_append, List.length_singleton] at hlen
      refine ⟨_, rfl, v, e, rfl, dp_same sw he, hse, _, rfl, ?_⟩
      cases h1 : isNumD e with
      | true =>
        have hf' : fin (n + 1) ds' = isK d := by
          rw [← hf]
          exact (fin_num h1).symm
        have nn : V.int ((n : Int) + 1) = V.int ((n + 1 : Nat) : Int) := by
          congr 1
        refine iteT ⟨_, rfl, _, _, rfl, rfl, ?_⟩
        refine ⟨_, rfl, _, rfl, L, vs', rfl, .inl (SqL.of upd_same), _, _, rfl, rfl, _, _, rfl, rfl, _, rfl, ite2 (fun c => ?_) (fun c => ?_)⟩
        · have c' : (12 : Int) < (n : Int) + 1 + (vs'.length : Int) := of_decide_eq_true c
          have z : isK d = false := by
            rw [← hf']
            exact fin_long (by omega)
          rw [z] at k
          exact k _ sw
        · have c' : ¬ (12 : Int) < (n : Int) + 1 + (vs'.length : Int) := fun q => c (decide_eq_true q)
          exact ⟨_, by omega, n + 1, vs', ds', _, rfl, rfl, sw, upd_same, hD', hS', hf', by omega⟩
      | false =>
        refine iteF ⟨_, rfl, v, e, rfl, dp_same sw he, hse, _, rfl, ?_⟩
        cases h2 : isToD e with
        | false =>
          refine iteF ?_
          have z : isK d = false := by
            rw [← hf]
            exact fin_none (other_cnt h1 h2)
          rw [z] at k
          exact k _ sw
        | true =>
          have line : 100 < sizeLine := by decide
          obtain ⟨ea, eb, rfl, ec⟩ := isTo_cnt h2
          obtain ⟨a, x1, x2, x3, g1, g2, g3, rfl, eqd, q, q1, q2, q3⟩ := tup3 he rfl
          cases eqd
          refine iteT ⟨_, rfl, .inl ⟨rfl, _, SqL.of upd_same⟩, _, rfl, a, _, _, _, rfl, rfl, sqT_same sw q, rfl, L, vs', x2, rfl, rfl, upd_same, by omega, ?_⟩
          rw [upd_upd]
          refine ⟨_, rfl, .inl ⟨rfl, _, SqL.of upd_same⟩, _, rfl, a, _, _, _, rfl, rfl, sqT_same sw q, rfl, L, vs' ++ [x2], x3, rfl, rfl, upd_same, by rw [List.length_append, List.length_singleton]; omega, ?_⟩
          rw [upd_upd]
          have hf' : fin n (ds' ++ [ea] ++ [eb]) = isK d := by
            rw [← hf]
            exact fin_to.symm
          refine ⟨_, rfl, _, rfl, L, vs' ++ [x2] ++ [x3], rfl, .inl (SqL.of upd_same), _, _, rfl, rfl, _, _, rfl, rfl, _, rfl, ite2 (fun c => ?_) (fun c => ?_)⟩
          · have c' : (12 : Int) < (n : Int) + ((vs' ++ [x2] ++ [x3]).length : Int) := of_decide_eq_true c
            simp only [List.length_append, List.length_singleton] at c'
            have z : isK d = false := by
              rw [← hf']
              refine fin_long ?_
              simp only [List.length_append, List.length_singleton]
              omega
            rw [z] at k
            exact k _ sw
          · have c' : ¬ (12 : Int) < (n : Int) + ((vs' ++ [x2] ++ [x3]).length : Int) := fun q => c (decide_eq_true q)
            simp only [List.length_append, List.length_singleton] at c'
            have sz := to_size ea eb "to"
            refine ⟨_, ?_, n, vs' ++ [x2] ++ [x3], ds' ++ [ea] ++ [eb], _, rfl, rfl, sw, upd_same, dpAll_snoc (dpAll_snoc hD' q2) q3, fun u hu => ?_, hf', ?_⟩
            · rw [wt_snoc, wt_snoc]
              omega
            · simp only [List.mem_append, List.mem_singleton] at hu
              rcases hu with (hu | rfl) | rfl
              · exact hS' u hu
              · exact sh_tup hse (by simp)
              · exact sh_tup hse (by simp)
            · simp only [List.length_append, List.length_singleton]
              omega
end
end Kn

namespace Kn
open PySem PySem.Spec PyProof.Rows L2
open Wt Dc
abbrev sArgAns : Stmt := Pre.top 14
abbrev sCheckKind : Stmt := Pre.top 15
inductive Kd where
  | num (k : Int)
  | to (a b : Kd)
def Kd.dat : Kd → PyData
  | .num k => .tuple [.str "num", .int k]
  | .to a b => .tuple [.str "to", a.dat, b.dat]
def Kd.nums : Kd → Nat
  | .num _ => 1
  | .to a b => a.nums + b.nums
def Kd.good : Kd → Prop
  | .num k => 1 ≤ k ∧ k ≤ 6
  | .to a b => a.good ∧ b.good
def Kd.args : Kd → List Kd
  | .num _ => []
  | .to a b => a :: b.args
def Kd.ans : Kd → Int
  | .num k => k
  | .to _ b => b.ans
def Kd.ord : Kd → Nat
  | .num _ => 0
  | .to a b => max (a.ord + 1) b.ord
theorem nums_pos : ∀ t : Kd, 1 ≤ t.nums
  | .num _ => Nat.le_refl _
  | .to a b => by
    have := nums_pos a
    show 1 ≤ a.nums + b.nums
    omega
theorem cnt_dat : ∀ {t : Kd}, t.good → cnt t.dat = some t.nums
  | .num k, h => by
    show cnt (.tuple [.str "num", .int k]) = some 1
    rw [cnt_num, if_pos ⟨rfl, h.1, h.2⟩]
  | .to a b, h => by
    show cnt (.tuple [.str "to", a.dat, b.dat]) = some (a.nums + b.nums)
    rw [cnt_to, if_pos rfl, cnt_dat h.1, cnt_dat h.2]
    rfl
theorem cnt_kd : ∀ {d : PyData} {n : Nat}, cnt d = some n → ∃ t : Kd, d = t.dat ∧ t.good ∧ t.nums = n := fun {d} => by
  fun_induction cnt d with
  | case1 s k hs =>
    intro n h
    cases h
    obtain ⟨rfl, h1, h2⟩ := hs
    exact ⟨.num k, rfl, ⟨h1, h2⟩, rfl⟩
  | case2 s k hs =>
    intro n h
    cases h
  | case3 a b ih1 ih2 =>
    intro n h
    obtain ⟨m, k, h1, h2, rfl⟩ := addO_some h
    obtain ⟨t1, rfl, g1, rfl⟩ := ih1 h1
    obtain ⟨t2, rfl, g2, rfl⟩ := ih2 h2
    exact ⟨.to t1 t2, rfl, ⟨g1, g2⟩, rfl⟩
  | case4 s a b hs =>
    intro n h
    cases h
  | case5 d h1 h2 =>
    intro n h
    cases h
theorem isK_kd {d : PyData} (h : isK d = true) : ∃ t : Kd, d = t.dat ∧ t.good ∧ t.nums ≤ 12 := by
  unfold isK at h
  cases e : cnt d with
  | none =>
    rw [e] at h
    cases h
  | some n =>
    rw [e] at h
    obtain ⟨t, rfl, g, rfl⟩ := cnt_kd e
    exact ⟨t, rfl, g, of_decide_eq_true h⟩
theorem isK_dat {t : Kd} (g : t.good) : isK t.dat = decide (t.nums ≤ 12) := by
  unfold isK
  rw [cnt_dat g]
theorem can_dat : ∀ t : Kd, t.dat.canLay0 = true
  | .num k => by
    show (PyData.canLay0 (.str "num") && (true && true)) = true
    decide +kernel
  | .to a b => by
    show (PyData.canLay0 (.str "to") && (a.dat.canLay0 && (b.dat.canLay0 && true))) = true
    rw [can_dat a, can_dat b]
    decide +kernel
theorem dep_dat : ∀ t : Kd, t.dat.depth ≤ t.nums
  | .num k => by
    show max 0 (max 0 0) + 1 ≤ 1
    decide
  | .to a b => by
    have h1 := dep_dat a
    have h2 := dep_dat b
    have p1 := nums_pos a
    have p2 := nums_pos b
    show max 0 (max a.dat.depth (max b.dat.depth 0)) + 1 ≤ a.nums + b.nums
    omega
theorem sh_dat {t : Kd} (h : t.nums ≤ 64) : Sh t.dat := sh_of (can_dat t) (Nat.le_trans (dep_dat t) h)
theorem arg_nums : ∀ {t u : Kd}, u ∈ t.args → u.nums < t.nums
  | .to a b, u, h => by
    have p1 := nums_pos a
    have p2 := nums_pos b
    show u.nums < a.nums + b.nums
    rcases List.mem_cons.mp (show u ∈ a :: b.args from h) with e | e
    · rw [e]
      omega
    · have := arg_nums e
      omega
theorem arg_good : ∀ {t u : Kd}, t.good → u ∈ t.args → u.good
  | .to a b, u, g, h => by
    rcases List.mem_cons.mp (show u ∈ a :: b.args from h) with e | e
    · rw [e]
      exact g.1
    · exact arg_good g.2 e
theorem ans_good : ∀ {t : Kd}, t.good → 1 ≤ t.ans ∧ t.ans ≤ 6
  | .num _, g => g
  | .to _ b, g => (ans_good (t := b) g.2 : 1 ≤ b.ans ∧ b.ans ≤ 6)
theorem args_len : ∀ t : Kd, t.args.length + 1 ≤ t.nums
  | .num _ => Nat.le_refl _
  | .to a b => by
    have := args_len b
    have := nums_pos a
    show (a :: b.args).length + 1 ≤ a.nums + b.nums
    simp only [List.length_cons]
    omega
/-- what is known of a kind's parts in a heap -/
theorem dat_dp {K : PySem.W.Frag} {H : Hp} {x : V} {t : Kd} (h : Dp K H x t.dat) : (∃ p k, t = .num k ∧ x = .ref p ∧ SqT K H p [.str "num", .int k]) ∨ (∃ p y z a b, t = .to a b ∧ x = .ref p ∧ SqT K H p [.str "to", y, z] ∧ Dp K H y a.dat ∧ Dp K H z b.dat) := by
  cases t with
  | num k =>
    obtain ⟨p, x1, x2, d1, d2, rfl, e, q, h1, h2⟩ := tup2 (show Dp K H x (.tuple [.str "num", .int k]) from h) rfl
    cases e
    cases h1
    cases h2
    exact .inl ⟨p, k, rfl, rfl, q⟩
  | to a b =>
    obtain ⟨p, x1, x2, x3, d1, d2, d3, rfl, e, q, h1, h2, h3⟩ := tup3 (show Dp K H x (.tuple [.str "to", a.dat, b.dat]) from h) rfl
    cases e
    cases h1
    exact .inr ⟨p, x2, x3, a, b, rfl, rfl, q, h2, h3⟩
section
variable {P0 : Program} {w : World} {K : PySem.W.Frag} {mg : Str → Option Value} {base : Heap}
def spArgAns (K : PySem.W.Frag) : Sp := fun vs H Q _ => ∃ (x : V) (t : Kd), vs = [x] ∧ Dp K H x t.dat ∧ t.nums ≤ 40 ∧ ∀ (p q : Addr) (H' : Hp), Same H H' → SqT K H' p [.ref q, .int t.ans] → Dp K H' (.ref q) (.tuple (t.args.map Kd.dat)) → Q (.ref p) H'
theorem scArgAns : FnScope ["kind", "found"] ["kind"] (defScope sArgAns) := ⟨rfl, rfl, rfl, by decide +kernel, rfl, by decide +kernel, by decide +kernel⟩
theorem ok_argans {f : Addr} {fd : FuncData} (F : Fun K "arguments_and_answer" "arguments_and_answer" sArgAns f fd) (T : TxtW mg) : FnOk P0 w K mg base CX0 1 f fd ["kind"] (spArgAns K) := by
  refine F.ok scArgAns (fun vs H Q E h => ?_) (fun cdv A outer s H vs Q E hr h => ?_)
  · obtain ⟨x, t, rfl, _⟩ := h
    rfl
  · obtain ⟨x, t, rfl, hd, hn, k⟩ := h
    have nd := scArgAns.nd
    refine ⟨_, pss_cons (ps_set (i := 1) nd rfl (Or.inl rfl) (pe_lst pa_nil))
      (pss_cons (ps_while PassesOwn.never (pt_cmpR op_eq (pe_ix ix_tup (pv 0) pe_int (fun _ _ => rfl)) pe_str (nomark _))
        (pss_cons (ps_expr (pe_bm PySem.F.plainAttrs_list PySem.F.slot_list_append PySem.F.type_list_append mt_append (pv 1) (pa_cons (pe_ix ix_tup (pv 0) pe_int (fun _ _ => rfl)) pa_nil)))
        (pss_one (ps_set (i := 0) nd rfl (Or.inl rfl) (pe_ix ix_tup (pv 0) pe_int (fun _ _ => rfl))))))
      (pss_one (ps_ret (pe_tup (pa_cons (pe_callTy call_tuple_of (by rfl) T.tuple (by decide +kernel) (pa_cons (pv 1) pa_nil)) (pa_cons (pe_ix ix_tup (pv 0) pe_int (fun _ _ => rfl)) pa_nil)))))), ?_⟩
    refine ⟨by show 0 ≤ sizeLine; decide, fun L hL => ?_⟩
    have sL := Pre.same_upd (o := .lst []) hL
    refine ⟨fun m σ H' => ∃ (y : V) (u : Kd) (vs : List V) (ds : List PyData), m = u.nums ∧ σ = [some y, some (.ref L)] ∧ Same H H' ∧ H' L = some (.lst vs) ∧ DpAll K H vs ds ∧ Dp K H y u.dat ∧ ds ++ u.args.map Kd.dat = t.args.map Kd.dat ∧ u.ans = t.ans ∧ ds.length + u.nums ≤ 40,
      ⟨_, x, t, [], [], rfl, rfl, sL, upd_same, .nil, hd, rfl, rfl, by show 0 + t.nums ≤ 40; omega⟩, ?_⟩
    rintro m σ H1 ⟨y, u, vs, ds, rfl, rfl, s1, hv, hD, hy, hargs, hans, hlen⟩
    have lD : vs.length = ds.length := dpAll_len hD
    have line : 100 < sizeLine := by decide
    rcases dat_dp hy with ⟨p, k', rfl, rfl, q⟩ | ⟨p, y1, z1, a, b, rfl, rfl, q, q1, q2⟩
    · refine ⟨_, rfl, p, _, _, _, rfl, rfl, sqT_same s1 q, rfl, rfl, _, rfl, iteF ?_⟩
      refine ⟨_, rfl, L, vs, rfl, .inl ⟨SqL.of hv, fun r hr => ?_⟩⟩
      have s2 := s1.trans (Pre.same_upd (o := .tup vs) hr)
      refine ⟨_, rfl, p, _, _, _, rfl, rfl, sqT_same s2 q, rfl, by show 2 ≤ sizeLine; decide, fun r2 hr2 => ?_⟩
      have e : ds = t.args.map Kd.dat := by
        rw [← hargs]
        show ds = ds ++ []
        rw [List.append_nil]
      have e2 : k' = t.ans := hans
      rw [e] at hD
      rw [e2]
      have s3 := Pre.same_upd (o := .tup [.ref r, .int t.ans]) hr2
      exact k r2 r _ (s2.trans s3) (SqT.of upd_same) (.tup (SqT.of (s3 _ _ upd_same)) (dpAll_same (s2.trans s3) hD))
    · refine ⟨_, rfl, p, _, _, _, rfl, rfl, sqT_same s1 q, rfl, rfl, _, rfl, iteT ?_⟩
      have pa := nums_pos a
      have pb := nums_pos b
      have hlen' : ds.length + (a.nums + b.nums) ≤ 40 := hlen
      refine ⟨fun σ' H' => ∃ m', m' < a.nums + b.nums ∧ ∃ (y : V) (u : Kd) (vs : List V) (ds : List PyData), m' = u.nums ∧ σ' = [some y, some (.ref L)] ∧ Same H H' ∧ H' L = some (.lst vs) ∧ DpAll K H vs ds ∧ Dp K H y u.dat ∧ ds ++ u.args.map Kd.dat = t.args.map Kd.dat ∧ u.ans = t.ans ∧ ds.length + u.nums ≤ 40,
        fun σ' H' h => h, ?_⟩
      refine ⟨_, rfl, .inl ⟨rfl, _, SqL.of hv⟩, _, rfl, p, _, _, _, rfl, rfl, sqT_same s1 q, rfl, L, vs, y1, rfl, rfl, hv, by omega, ?_⟩
      have sw : Same H (upd H1 L (.lst (vs ++ [y1]))) := fun b' o eb => by
        rw [upd_ne (ne_of_none eb hL)]
        exact s1 _ _ eb
      refine ⟨_, rfl, p, _, _, _, rfl, rfl, sqT_same sw q, rfl, ?_⟩
      refine ⟨_, by omega, z1, b, vs ++ [y1], ds ++ [a.dat], rfl, rfl, sw, upd_same, dpAll_snoc hD q1, q2, ?_, hans, ?_⟩
      · rw [← hargs]
        show ds ++ [a.dat] ++ b.args.map Kd.dat = ds ++ (a.dat :: b.args.map Kd.dat)
        simp
      · simp only [List.length_append, List.length_singleton]
        omega
end
end Kn

namespace Kn
open PySem PySem.Spec PyProof.Rows L2
open Wt Dc
abbrev veT : List Value := [.type "ValueError", .type "Exception", .type "BaseException", .type "object"]
/-- an error of the text -/
structure ErC (K : PySem.W.Frag) (mg : Str → Option Value) (x : Str) (C : Addr) : Prop where
  g : mg x = some (.ref C)
  q : PySem.W.excIn K C veT "ValueError.__new__" = true
  k : PySem.W.keepIn K (.ref C) = true
  b : PySem.W.subIn K (.ref C) (.type "BaseException") = some true
  t : PySem.W.typeIn K (.ref C) = some (.type "type")
section
variable {P0 : Program} {w : World} {K : PySem.W.Frag} {mg : Str → Option Value} {base : Heap}
def spChk (K : PySem.W.Frag) (C : Addr) : Sp := fun vs H Q E => ∃ x d, vs = [x] ∧ Dp K H x d ∧ Sh d ∧ (isK d = true → ∀ H', Same H H' → Q .non H') ∧ (isK d = false → ∀ H', Same H H' → E (.ref C) none H')
theorem scCheckKind : FnScope ["value"] ["value"] (defScope sCheckKind) := ⟨rfl, rfl, rfl, by decide +kernel, rfl, by decide +kernel, by decide +kernel⟩
theorem ok_chk {f fI C : Addr} {fd dI : FuncData} (F : Fun K "check_kind" "check_kind" sCheckKind f fd) (GI : ∀ base, FnOk P0 w K mg base CX0 4 fI dI ["value"] (spIsK K)) (FI : Fun K "is_kind" "is_kind" sIsKind fI dI) (mI : mg "is_kind" = some (.ref fI)) (e : ErC K mg "BadKind" C) :
    FnOk P0 w K mg base (L2.CX P0 w) 5 f fd ["value"] (spChk K C) := by
  have GI := GI base
  have bI := FI.binds (ps := ["value"]) fun _ _ _ _ _ _ us hl => match us, hl with | [_], _ => rfl
  refine F.okX scCheckKind (fun vs H Q E h => ?_) (fun cdv A outer s H vs Q E hr h => ?_)
  · obtain ⟨x, d, rfl, _⟩ := h
    rfl
  · obtain ⟨x, d, rfl, hd, hs, k1, k2⟩ := h
    refine ⟨_, pss_one (ps_if (pt_not (pt_val (pe_call GI hr rfl mI FI.kp bI .nil pass0 (pa_cons (pv 0) pa_nil)))) (pss_one (ps_raise rfl (takes_of rfl rfl rfl rfl) (pmk_own PySem.F.excBase_ValueError e.q e.g e.k (raises_own e.b e.t) rfl))) pss_nil), ?_⟩
    refine ⟨_, rfl, x, d, rfl, hd, hs, fun H1 s1 => ⟨_, rfl, ?_⟩⟩
    cases h1 : isK d with
    | false => exact iteT (k2 h1 H1 s1)
    | true => exact iteF (k1 h1 H1 s1)
end
end Kn

namespace Kn
open PySem PySem.Spec PyProof.Rows L2
open Wt Dc
abbrev sWanted : Stmt := Pre.top 42
abbrev sNumsL : Stmt := Pre.top 47
section
variable {P0 : Program} {w : World} {K : PySem.W.Frag} {mg : Str → Option Value} {base : Heap}
def spWanted (K : PySem.W.Frag) : Sp := fun vs H Q _ => ∃ (x : V) (t : Kd), vs = [x] ∧ Dp K H x t.dat ∧ t.nums ≤ 40 ∧ ∀ (p l : Addr) (ys : List V) (H' : Hp), Same H H' → SqT K H' p [.ref l, .int t.ans] → H l = none → H' l = some (.lst ys) → DpAll K H ys (t.args.map Kd.dat) → Q (.ref p) H'
theorem scWanted : FnScope ["kind", "found"] ["kind"] (defScope sWanted) := ⟨rfl, rfl, rfl, by decide +kernel, rfl, by decide +kernel, by decide +kernel⟩
theorem ok_wanted {f : Addr} {fd : FuncData} (F : Fun K "_law_cp_wanted" "_law_cp_wanted" sWanted f fd) : FnOk P0 w K mg base CX0 1 f fd ["kind"] (spWanted K) := by
  refine F.ok scWanted (fun vs H Q E h => ?_) (fun cdv A outer s H vs Q E hr h => ?_)
  · obtain ⟨x, t, rfl, _⟩ := h
    rfl
  · obtain ⟨x, t, rfl, hd, hn, k⟩ := h
    have nd := scWanted.nd
    refine ⟨_, pss_cons (ps_set (i := 1) nd rfl (Or.inl rfl) (pe_lst pa_nil))
      (pss_cons (ps_while PassesOwn.never (pt_cmpR op_eq (pe_ix ix_tup (pv 0) pe_int (fun _ _ => rfl)) pe_str (nomark _))
        (pss_cons (ps_expr (pe_bm PySem.F.plainAttrs_list PySem.F.slot_list_append PySem.F.type_list_append mt_append (pv 1) (pa_cons (pe_ix ix_tup (pv 0) pe_int (fun _ _ => rfl)) pa_nil)))
        (pss_one (ps_set (i := 0) nd rfl (Or.inl rfl) (pe_ix ix_tup (pv 0) pe_int (fun _ _ => rfl))))))
      (pss_one (ps_ret (pe_tup (pa_cons (pv 1) (pa_cons (pe_ix ix_tup (pv 0) pe_int (fun _ _ => rfl)) pa_nil)))))), ?_⟩
    refine ⟨by show 0 ≤ sizeLine; decide, fun L hL => ?_⟩
    have sL := Pre.same_upd (o := .lst []) hL
    refine ⟨fun m σ H' => ∃ (y : V) (u : Kd) (vs : List V) (ds : List PyData), m = u.nums ∧ σ = [some y, some (.ref L)] ∧ Same H H' ∧ H' L = some (.lst vs) ∧ DpAll K H vs ds ∧ Dp K H y u.dat ∧ ds ++ u.args.map Kd.dat = t.args.map Kd.dat ∧ u.ans = t.ans ∧ ds.length + u.nums ≤ 40,
      ⟨_, x, t, [], [], rfl, rfl, sL, upd_same, .nil, hd, rfl, rfl, by show 0 + t.nums ≤ 40; omega⟩, ?_⟩
    rintro m σ H1 ⟨y, u, vs, ds, rfl, rfl, s1, hv, hD, hy, hargs, hans, hlen⟩
    have lD : vs.length = ds.length := dpAll_len hD
    have line : 100 < sizeLine := by decide
    rcases dat_dp hy with ⟨p, k', rfl, rfl, q⟩ | ⟨p, y1, z1, a, b, rfl, rfl, q, q1, q2⟩
    · refine ⟨_, rfl, p, _, _, _, rfl, rfl, sqT_same s1 q, rfl, rfl, _, rfl, iteF ?_⟩
      refine ⟨_, rfl, _, rfl, p, _, _, _, rfl, rfl, sqT_same s1 q, rfl, by show 2 ≤ sizeLine; decide, fun r2 hr2 => ?_⟩
      have e : ds = t.args.map Kd.dat := by
        rw [← hargs]
        show ds = ds ++ []
        rw [List.append_nil]
      have e2 : k' = t.ans := hans
      rw [e] at hD
      rw [e2]
      have s3 := Pre.same_upd (o := .tup [.ref L, .int t.ans]) hr2
      exact k r2 L vs _ (s1.trans s3) (SqT.of upd_same) hL (s3 _ _ hv) hD
    · refine ⟨_, rfl, p, _, _, _, rfl, rfl, sqT_same s1 q, rfl, rfl, _, rfl, iteT ?_⟩
      have pa := nums_pos a
      have pb := nums_pos b
      have hlen' : ds.length + (a.nums + b.nums) ≤ 40 := hlen
      refine ⟨fun σ' H' => ∃ m', m' < a.nums + b.nums ∧ ∃ (y : V) (u : Kd) (vs : List V) (ds : List PyData), m' = u.nums ∧ σ' = [some y, some (.ref L)] ∧ Same H H' ∧ H' L = some (.lst vs) ∧ DpAll K H vs ds ∧ Dp K H y u.dat ∧ ds ++ u.args.map Kd.dat = t.args.map Kd.dat ∧ u.ans = t.ans ∧ ds.length + u.nums ≤ 40,
        fun σ' H' h => h, ?_⟩
      refine ⟨_, rfl, .inl ⟨rfl, _, SqL.of hv⟩, _, rfl, p, _, _, _, rfl, rfl, sqT_same s1 q, rfl, L, vs, y1, rfl, rfl, hv, by omega, ?_⟩
      have sw : Same H (upd H1 L (.lst (vs ++ [y1]))) := fun b' o eb => by
        rw [upd_ne (ne_of_none eb hL)]
        exact s1 _ _ eb
      refine ⟨_, rfl, p, _, _, _, rfl, rfl, sqT_same sw q, rfl, ?_⟩
      refine ⟨_, by omega, z1, b, vs ++ [y1], ds ++ [a.dat], rfl, rfl, sw, upd_same, dpAll_snoc hD q1, q2, ?_, hans, ?_⟩
      · rw [← hargs]
        show ds ++ [a.dat] ++ b.args.map Kd.dat = ds ++ (a.dat :: b.args.map Kd.dat)
        simp
      · simp only [List.length_append, List.length_singleton]
        omega
def spNumsL (K : PySem.W.Frag) (N : Nat) : Sp := fun vs H Q _ => ∃ (x : V) (t : Kd), vs = [x] ∧ Dp K H x t.dat ∧ t.nums ≤ N ∧ Q (.int (t.nums : Int)) H
theorem scNumsL : FnScope ["kind"] ["kind"] (defScope sNumsL) := ⟨rfl, rfl, rfl, by decide +kernel, rfl, by decide +kernel, by decide +kernel⟩
theorem ok_numsL {f : Addr} {fd : FuncData} (F : Fun K "_law_cp_nums" "_law_cp_nums" sNumsL f fd) (mF : mg "_law_cp_nums" = some (.ref f)) : ∀ N : Nat, FnOk P0 w K mg base CX0 (N + 1) f fd ["kind"] (spNumsL K N)
  | 0 => by
    refine F.ok (k := 0) scNumsL (fun vs H Q E h => ?_) (fun cdv A outer s H vs Q E hr h => ?_)
    · obtain ⟨x, t, rfl, _⟩ := h
      rfl
    · obtain ⟨x, t, rfl, hd, hn, _⟩ := h
      have := nums_pos t
      omega
  | N + 1 => by
    have IH := ok_numsL F mF N
    have bF := F.binds (ps := ["kind"]) fun _ _ _ _ _ _ us hl => match us, hl with | [_], _ => rfl
    refine F.ok (k := N + 1) scNumsL (fun vs H Q E h => ?_) (fun cdv A outer s H vs Q E hr h => ?_)
    · obtain ⟨x, t, rfl, _⟩ := h
      rfl
    · obtain ⟨x, t, rfl, hd, hn, k⟩ := h
      refine ⟨_, pss_one (ps_ret (pe_ifExp (pt_cmpR op_eq (pe_ix ix_tup (pv 0) pe_int (fun _ _ => rfl)) pe_str (nomark _)) pe_int
        (pe_op op_add (pe_call IH hr rfl mF F.kp bF .nil pass0 (pa_cons (pe_ix ix_tup (pv 0) pe_int (fun _ _ => rfl)) pa_nil)) (pe_call IH hr rfl mF F.kp bF .nil pass0 (pa_cons (pe_ix ix_tup (pv 0) pe_int (fun _ _ => rfl)) pa_nil))))), ?_⟩
      rcases dat_dp hd with ⟨p, k', rfl, rfl, q⟩ | ⟨p, y1, z1, a, b, rfl, rfl, q, q1, q2⟩
      · exact ⟨_, rfl, p, _, _, _, rfl, rfl, q, rfl, rfl, _, rfl, iteT k⟩
      · have pa := nums_pos a
        have pb := nums_pos b
        have hn' : a.nums + b.nums ≤ N + 1 := hn
        refine ⟨_, rfl, p, _, _, _, rfl, rfl, q, rfl, rfl, _, rfl, iteF ?_⟩
        refine ⟨_, rfl, p, _, _, _, rfl, rfl, q, rfl, y1, a, rfl, q1, by omega, _, rfl, p, _, _, _, rfl, rfl, q, rfl, z1, b, rfl, q2, by omega, _, _, rfl, rfl, ?_⟩
        have e : V.int ((Kd.to a b).nums : Int) = V.int ((a.nums : Int) + (b.nums : Int)) := by
          congr 1
        rw [e] at k
        exact k
theorem wo_new {p g c : Addr} {n : Nat} {H : Hp} {a : Addr} {o : HO} (hs : Pre.St H p g c n) (ha : H a = none) : wo p g (upd H a o) a = some o := by
  have z := st_new hs ha
  exact wo_at z.1 z.2 upd_same
end
end Kn

namespace Tr
open PySem PySem.Spec PyProof.Rows HT
section
variable {prog : Program} {w : World} {A : Around} {E : Value → Shared → Prop} {s : Shared}
/-- a slice of all, from behind -/
theorem applied_back {sl : Addr} {vl vu vs : Value} {n : Nat} {Q : Int × Int × Nat → Shared → Prop} (hs : s.heap.IsSliceOf sl vl vu vs) (pl : IsPart vl none) (pu : IsPart vu none) (ps : IsPart vs (some (-1)))
    (h : Q ((n : Int) - 1, -1, n) s) : wpAny (model prog w) A (Builtin.Slice.sliceApplied (.ref sl) (pure (n : Int))) Q E s := by
  obtain ⟨os, hos, hcs, hds⟩ := id hs
  unfold Builtin.Slice.sliceApplied Builtin.Slice.sliceFields
  refine wpAny_bind (wpAny_bind (wpAny_field hos hds (x := vl) rfl (wpAny_bind (wpAny_field hos hds (x := vu) rfl (wpAny_bind (wpAny_field hos hds (x := vs) rfl (wpAny_pure ?_)))))))
  refine wpAny_bind (slicePart_ ps ?_)
  show wpAny _ _ (if ((-1 : Int) == 0) = true then _ else _) _ _ s
  rw [if_neg (by decide)]
  refine wpAny_bind (slicePart_ pl (wpAny_bind (slicePart_ pu (wpAny_bind (wpAny_pure ?_)))))
  show wpAny _ _ (match Builtin.Slice.sliceAdjust none none (-1) (n : Int) with | (lo, hi) => pure (lo, (-1 : Int), Builtin.Slice.slicePlaces lo hi (-1))) _ _ s
  have e1 : Builtin.Slice.sliceAdjust none none (-1) (n : Int) = ((n : Int) - 1, -1) := by
    unfold Builtin.Slice.sliceAdjust
    simp
  rw [e1]
  have e2 : Builtin.Slice.slicePlaces ((n : Int) - 1) (-1) (-1) = n := by
    unfold Builtin.Slice.slicePlaces
    simp
    try omega
  show wpAny _ _ (pure ((n : Int) - 1, (-1 : Int), Builtin.Slice.slicePlaces ((n : Int) - 1) (-1) (-1))) _ _ s
  rw [e2]
  exact wpAny_pure h
theorem fm_congr {A0 B0 : Type} {f g : A0 → Option B0} : ∀ {l : List A0}, (∀ m ∈ l, f m = g m) → l.filterMap f = l.filterMap g
  | [], _ => rfl
  | x :: l, h => by
    rw [List.filterMap_cons, List.filterMap_cons, h x (List.mem_cons_self ..), fm_congr fun m hm => h m (List.mem_cons_of_mem _ hm)]
theorem pick_back (xs : Array Value) : ((List.range xs.size).filterMap fun (m : Nat) => xs[(((xs.size : Nat) : Int) - 1 + (m : Int) * (-1)).toNat]?).toArray = xs.toList.reverse.toArray := by
  have e : (List.range xs.size).filterMap (fun (m : Nat) => xs[(((xs.size : Nat) : Int) - 1 + (m : Int) * (-1)).toNat]?) = xs.toList.reverse := by
    have e1 : ∀ m ∈ List.range xs.size, xs[(((xs.size : Nat) : Int) - 1 + (m : Int) * (-1)).toNat]? = xs[xs.size - 1 - m]? := fun m hm => by
      have := List.mem_range.mp hm
      congr 1
      omega
    rw [fm_congr e1]
    have e2 : (fun m => xs[xs.size - 1 - m]?) = (fun k => xs[k]?) ∘ fun m => xs.size - 1 - m := rfl
    rw [e2, ← List.filterMap_map, PySem.W.krv_range, List.filterMap_reverse, PySem.W.krv_all]
  rw [e]
theorem getItem_back {t sl : Addr} {items : Array Value} {vl vu vs : Value} {Q : Value → Shared → Prop} (ht : IsTup s.heap t items) (hs : s.heap.IsSliceOf sl vl vu vs) (pl : IsPart vl none) (pu : IsPart vu none) (ps : IsPart vs (some (-1)))
    (h : Q (.ref s.heap.objs.size) { s with heap := s.heap.push { cls := .type "tuple", data := .seq items.toList.reverse.toArray } }) (hsz : items.size ≤ sizeLine) : wpAny (model prog w) A (getItem (.ref t) (.ref sl)) Q E s := by
  have fits : sizeOk (.seq items.toList.reverse.toArray) := by
    show items.toList.reverse.toArray.size ≤ sizeLine
    rw [List.size_toArray, List.length_reverse, Array.length_toList]
    exact hsz
  obtain ⟨os, hos, hcs, hds⟩ := id hs
  have hTs : s.TypeIs (.ref sl) "slice" := ⟨os, hos, hcs⟩
  unfold getItem
  try with_reducible refine wpAny_holding ?_
  first | refine wpAny_bind (wpAny_pure ?_) | skip
  refine wpAny_bind (wpAny_sequenceKey ht.typeIs (by decide) ?_)
  refine wpAny_bind (wpAny_callSpecial?_slot (name := Str.ofString "__getitem__") ht.typeIs PyProof.Rows.slot_tuple_getitem
    (wpAny_call_entry PyProof.Rows.slot_tuple_getitem ht.typeIs entry_tuple_getitem ?_ (args_tuple_getitem _ _)))
  show wpAny _ _ (Builtin.Tuple.tupleItemsOf (.ref t) >>= _) _ _ s
  refine wpAny_bind (tupleItemsOf_ ht ?_)
  refine wpAny_bind (wpAny_typeOf hTs ?_)
  rw [if_pos (by decide)]
  refine wpAny_bind (applied_back hs pl pu ps ?_)
  show wpAny _ _ (if (((items.size : Nat) : Int) - 1 == 0 && (-1 : Int) == 1 && items.size == items.size) = true then _ else _) _ _ s
  rw [if_neg (by simp), pick_back]
  first
    | exact wpAny_bind (m := Builtin.Tuple.tupleExact _) (wpAny_newObj_type (wpAny_pure ⟨_, rfl, wpAny_pure h⟩) fits)
    | exact wpAny_bind (m := Builtin.Tuple.tupleExact _) (wpAny_newObj_type (wpAny_bind (wpAny_pure (wpAny_pure ⟨_, rfl, wpAny_pure h⟩))) fits)
    | exact wpAny_bind (wpAny_bind (m := Builtin.Tuple.tupleExact _) (wpAny_newObj_type (wpAny_pure (wpAny_pure ⟨_, rfl, wpAny_pure h⟩)) fits))
    | exact wpAny_bind (wpAny_bind (m := Builtin.Tuple.tupleExact _) (wpAny_newObj_type (wpAny_pure ⟨_, rfl, wpAny_pure h⟩) fits))
end
end Tr
namespace Tr
open PySem PySem.Spec PyProof.Rows L2
/-- t[::-1], t a tuple -/
def tBack (K : PySem.W.Frag) (te : TE) : TE := fun σ H Q => te σ H fun x H1 => ∃ a xs, x = .ref a ∧ SqT K H1 a xs ∧ ∀ p, H1 p = none → Q (.ref p) (upd H1 p (.tup xs.reverse))
theorem pe_back {X : Cx} {e : Expr} {te : TE} {k : Nat} {p1 p2 p3 pos : Pos} (he : PE X e te) : PE X (.Subscript e (.Slice none none (some (.UnaryOp .USub (.Constant (.int 1) k p1) p2)) p3) pos) (tBack X.K te) := by
  refine ⟨fun pins s σ H Q I rd => ?_⟩
  refine Subscript_ (thn (he.run pins s σ H _ I rd) fun v s1 ⟨x, H1, I1, r1, a, xs, ex, hx, q⟩ => ?_)
  subst ex
  cases r1
  have step : PO X (some (.UnaryOp .USub (.Constant (.int 1) k p1) p2)) (tPart (tUn (rU fun i => .int (-i)) (tC (.int 1)))) := po_some (pe_un un_neg pe_int)
  refine wpAny_Slice (thn (po_none.run pins s1 σ H1 (fun o H2 => o = none ∧ H2 = H1) I1 ⟨rfl, rfl⟩) fun vl s2 ⟨l, H2, I2, pl, el, e2⟩ => ?_)
  subst el e2
  refine thn (po_none.run pins s2 σ H2 (fun o H3 => o = none ∧ H3 = H2) I2 ⟨rfl, rfl⟩) fun vu s3 ⟨u, H3, I3, pu, eu, e3⟩ => ?_
  subst eu e3
  refine thn (step.run pins s3 σ H3 (fun o H4 => o = some (-1) ∧ H4 = H3) I3 ⟨1, rfl, -1, rfl, rfl, rfl⟩) fun vs s4 ⟨o, H4, I4, ps, eo, e4⟩ => ?_
  subst eo e4
  have I5 : Inv X pins σ H4 { s4 with heap := s4.heap.push { cls := .type "slice", data := .fields #[vl, vu, vs] } } := I4.kept (t' := s4.toks) fun b ob q => Heap.get?_push_of_some _ q
  obtain ⟨its, r, ht, hz⟩ := I5.tuple hx
  have hlen := r.length
  show wpAny (model X.prog X.w) X.A (subscriptTail e (.Slice none none (some (.UnaryOp .USub (.Constant (.int 1) k p1) p2)) p3) (.ref a) (.ref s4.heap.objs.size)) (EP X pins σ Q) X.xe { s4 with heap := s4.heap.push { cls := .type "slice", data := .fields #[vl, vu, vs] } }
  refine tail_any (ops := [.ref a, .ref s4.heap.objs.size]) ht.typeIs (PyProof.Rows.slot_tuple_getitem.lookup) ?_ (by with_unfolding_all rfl)
  refine getItem_back ht (Heap.IsSliceOf.new _ vl vu vs) pl pu ps ?_ (by rw [List.size_toArray]; omega)
  refine ⟨.ref _, _, I5.laid (t' := s4.toks) (o := .tup xs.reverse) (fun b ob q => Heap.get?_push_of_some _ q) (Nat.le_refl _) ?_, rfl, q _ (I5.hok.fresh (Nat.le_refl _))⟩
  exact ⟨by rw [List.length_reverse]; exact hz, _, r.reverse, IsTup.new _ _⟩
end Tr

namespace Kn
open PySem PySem.Spec PyProof.Rows L2
open Wt Dc
abbrev sSpots : Stmt := Pre.top 48
abbrev sAtL : Stmt := Pre.top 43
abbrev sPut : Stmt := Pre.top 44
def atP : List Nat → PyData → Option PyData
  | [], d => some d
  | k :: ks, .tuple ds => (ds[k]?).bind fun d => atP ks d
  | _ :: _, _ => none
theorem atP_cons {k : Nat} {ks : List Nat} {ds : List PyData} : atP (k :: ks) (.tuple ds) = (ds[k]?).bind fun d => atP ks d := by
  rw [atP]
theorem atP_inv {k : Nat} {ks : List Nat} {d e : PyData} (h : atP (k :: ks) d = some e) : ∃ ds d1, d = .tuple ds ∧ ds[k]? = some d1 ∧ atP ks d1 = some e := by
  cases d with
  | tuple ds =>
    rw [atP_cons] at h
    cases hd : ds[k]? with
    | none =>
      rw [hd] at h
      cases h
    | some d1 =>
      rw [hd] at h
      exact ⟨ds, d1, rfl, hd, h⟩
  | _ => cases h
theorem atP_snoc : ∀ {ks : List Nat} {d : PyData} {ds : List PyData} {k : Nat} {e : PyData}, atP ks d = some (.tuple ds) → ds[k]? = some e → atP (ks ++ [k]) d = some e
  | [], d, ds, k, e, h, hk => by
    cases h
    show atP [k] (.tuple ds) = some e
    rw [atP_cons, hk]
    rfl
  | j :: ks, d, ds, k, e, h, hk => by
    obtain ⟨es, d1, rfl, h1, h2⟩ := atP_inv h
    show atP (j :: (ks ++ [k])) (.tuple es) = some e
    rw [atP_cons, h1]
    exact atP_snoc h2 hk
theorem atP_more {ks : List Nat} {k : Nat} {d e : PyData} (h : atP (ks ++ [k]) d = some e) : ∃ ds, atP ks d = some (.tuple ds) ∧ ds[k]? = some e := by
  induction ks generalizing d with
  | nil =>
    obtain ⟨ds, d1, rfl, h1, h2⟩ := atP_inv (ks := []) h
    cases h2
    exact ⟨ds, rfl, h1⟩
  | cons j ks ih =>
    obtain ⟨ds, d1, rfl, h1, h2⟩ := atP_inv (show atP (j :: (ks ++ [k])) d = some e from h)
    obtain ⟨es, h3, h4⟩ := ih h2
    exact ⟨es, by rw [atP_cons, h1]; exact h3, h4⟩
theorem atP_take {ks : List Nat} {d e : PyData} {i : Nat} (h : atP ks d = some e) : ∃ e1, atP (ks.take i) d = some e1 ∧ ∀ k, ks[i]? = some k → ∃ ds e2, e1 = .tuple ds ∧ ds[k]? = some e2 ∧ atP (ks.take (i + 1)) d = some e2 := by
  induction ks generalizing d i with
  | nil =>
    cases h
    refine ⟨e, by rw [List.take_nil]; rfl, fun k hk => ?_⟩
    cases hk
  | cons j ks ih =>
    obtain ⟨ds, d1, rfl, h1, h2⟩ := atP_inv h
    cases i with
    | zero =>
      refine ⟨.tuple ds, rfl, fun k hk => ?_⟩
      cases hk
      refine ⟨ds, d1, rfl, h1, ?_⟩
      show atP [j] (.tuple ds) = some d1
      rw [atP_cons, h1]
      rfl
    | succ i =>
      obtain ⟨e1, h3, h4⟩ := ih (i := i) h2
      refine ⟨e1, ?_, fun k hk => ?_⟩
      · show atP (j :: ks.take i) (.tuple ds) = some e1
        rw [atP_cons, h1]
        exact h3
      · obtain ⟨es, e2, q1, q2, q3⟩ := h4 k hk
        refine ⟨es, e2, q1, q2, ?_⟩
        show atP (j :: ks.take (i + 1)) (.tuple ds) = some e2
        rw [atP_cons, h1]
        exact q3
theorem atP_dep : ∀ {ks : List Nat} {d e : PyData}, atP ks d = some e → ks.length + e.depth ≤ d.depth
  | [], d, e, h => by
    cases h
    show 0 + d.depth ≤ d.depth
    omega
  | k :: ks, d, e, h => by
    obtain ⟨ds, d1, rfl, h1, h2⟩ := atP_inv h
    have h3 := atP_dep h2
    have h4 := dep_mem (List.mem_of_getElem? h1)
    show (k :: ks).length + e.depth ≤ PyData.depthAll ds + 1
    simp only [List.length_cons]
    omega
mutual
def sz : PyData → Nat
  | .tuple ds => 1 + szAll ds
  | .none => 1
  | .bool _ => 1
  | .int _ => 1
  | .str _ => 1
  | .list _ => 1
  | .dict _ => 1
def szAll : List PyData → Nat
  | [] => 0
  | d :: ds => sz d + szAll ds
end
theorem sz_pos (d : PyData) : 1 ≤ sz d := by
  cases d with
  | tuple ds =>
    show 1 ≤ 1 + szAll ds
    omega
  | _ => exact Nat.le_refl _
theorem szAll_len : ∀ ds : List PyData, ds.length ≤ szAll ds
  | [] => Nat.le_refl _
  | d :: ds => by
    have := sz_pos d
    have := szAll_len ds
    show (d :: ds).length ≤ sz d + szAll ds
    simp only [List.length_cons]
    omega
theorem szAll_take : ∀ {ds : List PyData} {i : Nat} {d : PyData}, ds[i]? = some d → szAll (ds.take (i + 1)) = szAll (ds.take i) + sz d ∧ szAll (ds.take i) + sz d ≤ szAll ds
  | x :: ds, 0, d, h => by
    cases h
    show (sz x + 0 = 0 + sz x) ∧ 0 + sz x ≤ sz x + szAll ds
    exact ⟨by omega, by omega⟩
  | x :: ds, i + 1, d, h => by
    obtain ⟨h1, h2⟩ := szAll_take (ds := ds) (i := i) h
    show (sz x + szAll (ds.take (i + 1)) = sz x + szAll (ds.take i) + sz d) ∧ sz x + szAll (ds.take i) + sz d ≤ sz x + szAll ds
    exact ⟨by omega, by omega⟩
theorem sz_mem {ds : List PyData} {i : Nat} {d : PyData} (h : ds[i]? = some d) : sz d < sz (.tuple ds) := by
  have := (szAll_take h).2
  show sz d < 1 + szAll ds
  omega
theorem sz_dat : ∀ t : Kd, sz t.dat + 2 = 5 * t.nums
  | .num k => rfl
  | .to a b => by
    have h1 := sz_dat a
    have h2 := sz_dat b
    show 1 + (1 + (sz a.dat + (sz b.dat + 0))) + 2 = 5 * (a.nums + b.nums)
    omega
abbrev kV (ks : List Nat) : List V := ks.map fun (k : Nat) => V.int (k : Int)
/-- a path that is one of d -/
def Pth (K : PySem.W.Frag) (H : Hp) (D : PyData) (v : V) : Prop := ∃ q ks e, v = .ref q ∧ SqT K H q (kV ks) ∧ atP ks D = some e
theorem pth_same {K : PySem.W.Frag} {H H' : Hp} {D : PyData} {v : V} (s : Same H H') (h : Pth K H D v) : Pth K H' D v := by
  obtain ⟨q, ks, e, h1, h2, h3⟩ := h
  exact ⟨q, ks, e, h1, sqT_same s h2, h3⟩
theorem tup_or {K : PySem.W.Frag} {H : Hp} {x : V} {d : PyData} (h : Dp K H x d) : (∃ a xs ds, x = .ref a ∧ d = .tuple ds ∧ SqT K H a xs ∧ DpAll K H xs ds) ∨ (kitB (tyN d) "tuple" = some false ∧ sz d = 1) := by
  cases h with
  | tup q r => exact .inl ⟨_, _, _, rfl, rfl, q, r⟩
  | non => exact .inr ⟨by decide +kernel, rfl⟩
  | bl b => exact .inr ⟨by show kitB "bool" "tuple" = some false; decide +kernel, rfl⟩
  | int b => exact .inr ⟨by show kitB "int" "tuple" = some false; decide +kernel, rfl⟩
  | str b => exact .inr ⟨by show kitB "str" "tuple" = some false; decide +kernel, rfl⟩
  | lst q r => exact .inr ⟨by show kitB "list" "tuple" = some false; decide +kernel, rfl⟩
theorem catA_any {K : PySem.W.Frag} {H : Hp} {a b : Addr} {xs ys : List V} {Q : V → Hp → Prop} (ha : SqT K H a xs) (hb : SqT K H b ys) (hz : xs.length + ys.length ≤ 100000) (k : ∀ r H', Same H H' → SqT K H' r (xs ++ ys) → Q (.ref r) H') : rCatA K (.ref a) (.ref b) H Q := by
  refine ⟨a, b, xs, ys, rfl, rfl, ha, hb, Nat.le_trans hz (by decide), fun e => ?_, fun _ e => ?_, fun _ _ p hp => k p _ (Pre.same_upd hp) (SqT.of upd_same)⟩
  · subst e
    exact k b H (Same.refl _) hb
  · subst e
    exact k a H (Same.refl _) (by rw [List.append_nil]; exact ha)
theorem slA_any {K : PySem.W.Frag} {H : Hp} {a : Addr} {xs : List V} {lo hi : Option Int} {Q : V → Hp → Prop} (ha : SqT K H a xs) (k : ∀ r H', Same H H' → SqT K H' r (cutV xs lo hi) → Q (.ref r) H') : rSlA K (.ref a) lo hi H Q := by
  refine ⟨a, xs, rfl, ha, fun e => ?_, fun _ p hp => k p _ (Pre.same_upd hp) (SqT.of upd_same)⟩
  refine k a H (Same.refl _) ?_
  unfold cutV
  rw [e.1, e.2, List.drop_zero, Nat.sub_zero, List.take_length]
  exact ha
section
variable {P0 : Program} {w : World} {K : PySem.W.Frag} {mg : Str → Option Value} {base : Heap}
def spSpots (K : PySem.W.Frag) (N : Nat) : Sp := fun vs H Q _ => ∃ (x : V) (q : Addr) (d D : PyData) (ks : List Nat), vs = [x, .ref q] ∧ Dp K H x d ∧ SqT K H q (kV ks) ∧ ks.length ≤ 100 ∧ atP ks D = some d ∧ D.depth ≤ 100 ∧ d.depth < N ∧ sz d ≤ 4000 ∧
  ∀ (l : Addr) (vs : List V) (H' : Hp), Same H H' → H l = none → H' l = some (.lst vs) → vs.length = sz d → (∀ v ∈ vs, Pth K H' D v) → Q (.ref l) H'
theorem scSpots : FnScope ["thing", "path", "found", "k"] ["thing", "path"] (defScope sSpots) := ⟨rfl, rfl, rfl, by decide +kernel, rfl, by decide +kernel, by decide +kernel⟩
theorem ok_spots {f : Addr} {fd : FuncData} (F : Fun K "_law_cp_spots" "_law_cp_spots" sSpots f fd) (mF : mg "_law_cp_spots" = some (.ref f)) (T : TxtW mg) (zr : mg "range" = none) : ∀ N : Nat, FnOk P0 w K mg base CX0 (N + 1) f fd ["thing", "path"] (spSpots K N)
  | 0 => by
    refine F.ok (k := 0) scSpots (fun vs H Q E h => ?_) (fun cdv A outer s H vs Q E hr h => ?_)
    · obtain ⟨x, q, d, D, ks, rfl, _⟩ := h
      rfl
    · obtain ⟨x, q, d, D, ks, rfl, _, _, _, _, _, h0, _⟩ := h
      omega
  | N + 1 => by
    have IH := ok_spots F mF T zr N
    have bF := F.binds (ps := ["thing", "path"]) fun _ _ _ _ _ _ us hl => match us, hl with | [_, _], _ => rfl
    refine F.ok (k := N + 1) scSpots (fun vs H Q E h => ?_) (fun cdv A outer s H vs Q E hr h => ?_)
    · obtain ⟨x, q, d, D, ks, rfl, _⟩ := h
      rfl
    · obtain ⟨x, q, d, D, ks, rfl, hd, hq, hkl, hat, hDd, hN, hsz, k⟩ := h
      have nd := scSpots.nd
      refine ⟨_, pss_cons (ps_set (i := 2) nd rfl (Or.inl rfl) (pe_lst (pa_cons (pv 1) pa_nil)))
        (pss_cons (ps_for PassesOwn.never rfl (pi_range1 (by rfl) zr (pa_cons (pe_ifExp (pt_val (pe_callB call_isi (by rfl) T.isi (by decide +kernel) (pa_cons (pv 0) (pa_cons (pe_bltn (v := .ty "tuple") (by rfl) T.tuple (by decide +kernel) rfl) pa_nil)))) (pe_callB call_len_seq (by rfl) T.len PySem.boot_len (pa_cons (pv 0) pa_nil)) pe_int) pa_nil)) (pg_name (i := 3) nd rfl (Or.inl rfl))
          (pss_one (ps_set (i := 2) nd rfl (Or.inl rfl) (pe_op op_cat (pv 2) (pe_call IH hr rfl mF F.kp bF .nil pass0 (pa_cons (pe_ix ix_tup (pv 0) (pv 3) (fun _ _ => rfl)) (pa_cons (pe_op op_catA (pv 1) (pe_tup (pa_cons (pv 3) pa_nil))) pa_nil)))))))
        (pss_one (ps_ret (pv 2)))), ?_⟩
      refine ⟨_, rfl, by show 1 ≤ sizeLine; decide, fun L hL => ?_⟩
      have sL := Pre.same_upd (o := .lst [.ref q]) hL
      have hq1 : Pth K (upd H L (.lst [.ref q])) D (.ref q) := ⟨q, ks, d, rfl, sqT_same sL hq, hat⟩
      have hL1 : (upd H L (.lst [.ref q])) L = some (.lst [.ref q]) := upd_same
      generalize upd H L (.lst [.ref q]) = H1 at sL hq1 hL1
      have ty := ty_of (dp_same sL hd)
      rcases tup_or hd with ⟨a, xs, ds, rfl, rfl, hx, hD⟩ | ⟨ht, hone⟩
      · have hlen := dpAll_len hD
        have hll := szAll_len ds
        have hsz' : 1 + szAll ds ≤ 4000 := hsz
        refine ⟨_, rfl, _, _, _, _, true, rfl, .ty _, ty, kit_ty (a := "tuple") (b := "tuple") (by decide +kernel), _, rfl, iteT ⟨_, rfl, a, xs, rfl, .inr (sqT_same sL hx), (xs.length : Int), rfl, by omega, by omega, ?_⟩⟩
        refine for_range (n := (xs.length : Int).toNat) (fun i σ H' => ∃ (l : Addr) (vs : List V) (lp : Option V), σ = [some (.ref a), some (.ref q), some (.ref l), lp] ∧ Same H1 H' ∧ H l = none ∧ H' l = some (.lst vs) ∧ vs.length = 1 + szAll (ds.take i) ∧ ∀ v ∈ vs, Pth K H' D v)
          ⟨L, [.ref q], none, rfl, Same.refl _, hL, hL1, rfl, fun v hv => by rw [List.mem_singleton.mp hv]; exact hq1⟩ ?_ ?_
        · rintro i σ H2 hi ⟨l, vs, lp, rfl, s2, hl0, hl, hvl, hP⟩
          rw [Int.toNat_natCast] at hi
          have e0 : (0 : Int) + (i : Int) = (i : Int) := by omega
          rw [e0]
          obtain ⟨x1, hx1⟩ : ∃ x1, xs[i]? = some x1 := ⟨xs[i], List.getElem?_eq_getElem hi⟩
          obtain ⟨d1, hd1, hdp⟩ := dpAll_at hD hx1
          have hs12 := sL.trans s2
          have hdep : d1.depth < N := by
            have z1 := dep_mem (List.mem_of_getElem? hd1)
            have z2 : PyData.depthAll ds + 1 < N + 1 := hN
            omega
          obtain ⟨zt, zu⟩ := szAll_take hd1
          refine ⟨_, rfl, _, rfl, _, rfl, a, xs, _, x1, rfl, rfl, sqT_same hs12 hx, atI_nat hx1, _, rfl, _, rfl, ?_⟩
          refine ⟨by show 1 ≤ sizeLine; decide, fun r hr0 => ?_⟩
          have s3 := Pre.same_upd (o := .tup [.int (i : Int)]) hr0
          refine catA_any (xs := kV ks) (ys := [.int (i : Int)]) (sqT_same (hs12.trans s3) hq) (SqT.of upd_same) (by simp only [kV, List.length_map, List.length_singleton]; omega) fun r2 H4 s4 hr2 => ?_
          have hs14 := hs12.trans (s3.trans s4)
          have hat2 := atP_snoc hat hd1
          have e1 : kV ks ++ [V.int (i : Int)] = kV (ks ++ [i]) := by
            simp [kV]
          rw [e1] at hr2
          have hdl := atP_dep hat2
          refine ⟨x1, r2, d1, D, ks ++ [i], rfl, dp_same hs14 hdp, hr2, by omega, hat2, hDd, hdep, by omega, fun l2 vs2 H5 s5 hl2n hl2 hvl2 hP2 => ?_⟩
          have sa := s3.trans (s4.trans s5)
          refine ⟨l, l2, vs, vs2, rfl, rfl, sa _ _ hl, hl2, Nat.le_trans (show vs.length + vs2.length ≤ 100000 by omega) (by decide), fun l3 hl3 => ?_⟩
          have s6 := Pre.same_upd (o := .lst (vs ++ vs2)) hl3
          refine ⟨l3, vs ++ vs2, _, rfl, s2.trans (sa.trans s6), (hs12.trans sa).free hl3, upd_same, ?_, fun v hv => ?_⟩
          · rw [List.length_append, hvl, hvl2, zt]
            omega
          · rcases List.mem_append.mp hv with z | z
            · exact pth_same (sa.trans s6) (hP v z)
            · exact pth_same s6 (hP2 v z)
        · rintro σ H2 ⟨l, vs, lp, rfl, s2, hl0, hl, hvl, hP⟩
          rw [Int.toNat_natCast, hlen, List.take_length] at hvl
          exact ⟨_, rfl, k l vs H2 (sL.trans s2) hl0 hl hvl hP⟩
      · refine ⟨_, rfl, _, _, _, _, false, rfl, .ty _, ty, kit_ty (b := "tuple") ht, _, rfl, iteF ⟨(0 : Int), rfl, by omega, by omega, ?_⟩⟩
        refine for_range (n := (0 : Int).toNat) (fun i σ H' => ∃ (lp : Option V), σ = [some x, some (.ref q), some (.ref L), lp] ∧ H' = H1)
          ⟨none, rfl, rfl⟩ (fun i σ H2 hi _ => absurd hi (Nat.not_lt_zero _)) ?_
        rintro σ H2 ⟨lp, rfl, rfl⟩
        exact ⟨_, rfl, k L _ H2 sL hL hL1 hone.symm fun v hv => by rw [List.mem_singleton.mp hv]; exact hq1⟩
def spAtL (K : PySem.W.Frag) : Sp := fun vs H Q _ => ∃ (x : V) (q : Addr) (D e : PyData) (ks : List Nat), vs = [x, .ref q] ∧ Dp K H x D ∧ SqT K H q (kV ks) ∧ atP ks D = some e ∧ ∀ y, Dp K H y e → Q y H
theorem scAtL : FnScope ["thing", "path", "k"] ["thing", "path"] (defScope sAtL) := ⟨rfl, rfl, rfl, by decide +kernel, rfl, by decide +kernel, by decide +kernel⟩
theorem ok_atL {f : Addr} {fd : FuncData} (F : Fun K "_law_cp_at" "_law_cp_at" sAtL f fd) : FnOk P0 w K mg base CX0 1 f fd ["thing", "path"] (spAtL K) := by
  refine F.ok scAtL (fun vs H Q E h => ?_) (fun cdv A outer s H vs Q E hr h => ?_)
  · obtain ⟨x, q, D, e, ks, rfl, _⟩ := h
    rfl
  · obtain ⟨x, q, D, e, ks, rfl, hd, hq, hat, k⟩ := h
    have nd := scAtL.nd
    refine ⟨_, pss_cons (ps_for PassesOwn.never rfl (pi_tup (pv 1)) (pg_name (i := 2) nd rfl (Or.inl rfl)) (pss_one (ps_set (i := 0) nd rfl (Or.inl rfl) (pe_ix ix_tup (pv 0) (pv 2) (fun _ _ => rfl)))))
      (pss_one (ps_ret (pv 0))), ?_⟩
    refine ⟨_, rfl, q, rfl, ⟨_, hq⟩, for_tup (K := K) (a := q) (xs := kV ks) (fun i σ H' => ∃ (y : V) (e1 : PyData) (lp : Option V), σ = [some y, some (.ref q), lp] ∧ H' = H ∧ atP (ks.take i) D = some e1 ∧ Dp K H y e1) ⟨x, D, none, rfl, rfl, by rw [List.take_zero]; rfl, hd⟩ (fun _ σ H' _ ⟨_, _, _, _, e, _⟩ => by rw [e]; exact hq) ?_ ?_⟩
    · rintro i v σ H2 hv ⟨y, e1, lp, rfl, rfl, h1, h2⟩
      obtain ⟨j, hj, rfl⟩ : ∃ j, ks[i]? = some j ∧ V.int (j : Int) = v := by
        rw [List.getElem?_map] at hv
        cases hj : ks[i]? with
        | none =>
          rw [hj] at hv
          cases hv
        | some j =>
          rw [hj] at hv
          cases hv
          exact ⟨j, rfl, rfl⟩
      obtain ⟨e1', h3, h4⟩ := atP_take (i := i) hat
      rw [h1] at h3
      cases h3
      obtain ⟨ds, e2, rfl, h5, h6⟩ := h4 j hj
      cases h2 with
      | @tup a xs ds q2 r2 =>
        have hlen := dpAll_len r2
        have hjl := (List.getElem?_eq_some_iff.mp h5).1
        obtain ⟨x1, hx1⟩ : ∃ x1, xs[j]? = some x1 := ⟨xs[j]'(by omega), List.getElem?_eq_getElem _⟩
        obtain ⟨d1, hd1, hdp⟩ := dpAll_at r2 hx1
        rw [h5] at hd1
        cases hd1
        exact ⟨_, rfl, _, rfl, a, xs, _, x1, rfl, rfl, q2, atI_nat hx1, x1, e2, _, rfl, rfl, h6, hdp⟩
    · rintro σ H2 ⟨y, e1, lp, rfl, rfl, h1, h2⟩
      have e0 : (kV ks).length = ks.length := by simp [kV]
      rw [e0, List.take_length, hat] at h1
      cases h1
      exact ⟨_, rfl, k y h2⟩
end
end Kn

namespace Kn
open PySem PySem.Spec PyProof.Rows L2
open Wt Dc
theorem can_all : ∀ {ds : List PyData}, (∀ d ∈ ds, d.canLay0 = true) → PyData.canLayAll0 ds = true
  | [], _ => rfl
  | d :: ds, h => by
    show (d.canLay0 && PyData.canLayAll0 ds) = true
    rw [h d (List.mem_cons_self ..), can_all fun x hx => h x (List.mem_cons_of_mem _ hx)]
    rfl
theorem dep_all : ∀ {ds : List PyData} {n : Nat}, (∀ d ∈ ds, d.depth ≤ n) → PyData.depthAll ds ≤ n
  | [], _, _ => Nat.zero_le _
  | d :: ds, n, h => by
    show max d.depth (PyData.depthAll ds) ≤ n
    exact Nat.max_le.mpr ⟨h d (List.mem_cons_self ..), dep_all fun x hx => h x (List.mem_cons_of_mem _ hx)⟩
/-- data of at most m levels -/
def Ok (m : Nat) (d : PyData) : Prop := d.canLay0 = true ∧ d.depth ≤ m
theorem ok_sh {m : Nat} {d : PyData} (h : Ok m d) (hm : m ≤ 64) : Sh d := sh_of h.1 (Nat.le_trans h.2 hm)
theorem ok_mono {m j : Nat} {d : PyData} (h : Ok m d) (l : m ≤ j) : Ok j d := ⟨h.1, Nat.le_trans h.2 l⟩
theorem ok_tupD {m : Nat} {ds : List PyData} (h : ∀ d ∈ ds, Ok m d) : Ok (m + 1) (.tuple ds) :=
  ⟨can_all fun d hd => (h d hd).1, Nat.succ_le_succ (dep_all fun d hd => (h d hd).2)⟩
theorem ok_lstD {m : Nat} {ds : List PyData} (h : ∀ d ∈ ds, Ok m d) : Ok (m + 1) (.list ds) :=
  ⟨can_all fun d hd => (h d hd).1, Nat.succ_le_succ (dep_all fun d hd => (h d hd).2)⟩
theorem ok_memT {m : Nat} {ds : List PyData} (h : Ok m (.tuple ds)) {d : PyData} (hd : d ∈ ds) : Ok (m - 1) d := by
  obtain ⟨h1, h2⟩ := h
  have z : PyData.depthAll ds + 1 ≤ m := h2
  have := dep_mem hd
  exact ⟨can_mem h1 hd, by omega⟩
/-- a value that is some data of at most m levels -/
def OkV (K : PySem.W.Frag) (H : Hp) (m : Nat) (v : V) : Prop := ∃ d, Dp K H v d ∧ Ok m d
theorem okv_same {K : PySem.W.Frag} {H H' : Hp} {m : Nat} {v : V} (s : Same H H') (h : OkV K H m v) : OkV K H' m v := by
  obtain ⟨d, h1, h2⟩ := h
  exact ⟨d, dp_same s h1, h2⟩
theorem okv_mono {K : PySem.W.Frag} {H : Hp} {m j : Nat} {v : V} (h : OkV K H m v) (l : m ≤ j) : OkV K H j v := by
  obtain ⟨d, h1, h2⟩ := h
  exact ⟨d, h1, ok_mono h2 l⟩
theorem okv_all {K : PySem.W.Frag} {H : Hp} {m : Nat} : ∀ {xs : List V}, (∀ x ∈ xs, OkV K H m x) → ∃ ds, DpAll K H xs ds ∧ ∀ d ∈ ds, Ok m d
  | [], _ => ⟨[], .nil, fun d h => by cases h⟩
  | x :: xs, h => by
    obtain ⟨d, h1, h2⟩ := h x (List.mem_cons_self ..)
    obtain ⟨ds, h3, h4⟩ := okv_all fun y hy => h y (List.mem_cons_of_mem _ hy)
    exact ⟨d :: ds, .cons h1 h3, fun e he => by
      rcases List.mem_cons.mp he with z | z
      · rw [z]
        exact h2
      · exact h4 e z⟩
theorem okv_tup {K : PySem.W.Frag} {H : Hp} {m : Nat} {r : Addr} {xs : List V} (hr : SqT K H r xs) (h : ∀ x ∈ xs, OkV K H m x) : OkV K H (m + 1) (.ref r) := by
  obtain ⟨ds, h1, h2⟩ := okv_all h
  exact ⟨.tuple ds, .tup hr h1, ok_tupD h2⟩
theorem okv_lst {K : PySem.W.Frag} {H : Hp} {m : Nat} {r : Addr} {xs : List V} (hr : SqL K H r xs) (h : ∀ x ∈ xs, OkV K H m x) : OkV K H (m + 1) (.ref r) := by
  obtain ⟨ds, h1, h2⟩ := okv_all h
  exact ⟨.list ds, .lst hr h1, ok_lstD h2⟩
theorem dp_okv {K : PySem.W.Frag} {H : Hp} {m : Nat} : ∀ {xs : List V} {ds : List PyData}, DpAll K H xs ds → (∀ d ∈ ds, Ok m d) → ∀ x ∈ xs, OkV K H m x
  | _, _, .nil, _, x, hx => by cases hx
  | _, _, .cons (d := d) h r, k, x, hx => by
    rcases List.mem_cons.mp hx with z | z
    · rw [z]
      exact ⟨d, h, k d (List.mem_cons_self ..)⟩
    · exact dp_okv r (fun e he => k e (List.mem_cons_of_mem _ he)) x z
theorem sqT_wo {K : PySem.W.Frag} {H : Hp} {p g c a : Addr} {n : Nat} {xs : List V} (h : SqT K H a xs) (hs : Pre.St H p g c n) : SqT K (wo p g H) a xs := sqT_same nt_sub (at_wx h hs)
theorem kV_ok {K : PySem.W.Frag} {H : Hp} (ks : List Nat) : DpAll K H (kV ks) (ks.map fun (k : Nat) => PyData.int (k : Int)) := by
  induction ks with
  | nil => exact .nil
  | cons k ks ih => exact .cons (.int _) ih
theorem kV_sh (ks : List Nat) : Sh (.tuple (ks.map fun (k : Nat) => PyData.int (k : Int))) := by
  refine ok_sh (m := 1) (ok_tupD (m := 0) fun d hd => ?_) (by decide)
  obtain ⟨k, _, rfl⟩ := List.mem_map.mp hd
  exact ⟨rfl, Nat.le_refl _⟩
theorem cut_one (x : V) (xs : List V) : cutV (x :: xs) (some 1) none = xs := by
  unfold cutV
  have e : HT.sIx (x :: xs).length 0 (some 1) = 1 := by
    have := HT.sIx_nat (x :: xs).length 0 1
    simp only [List.length_cons] at this ⊢
    exact this.trans (by omega)
  rw [e, HT.sIx_none]
  simp only [List.drop_succ_cons, List.drop_zero, List.length_cons, Nat.add_sub_cancel, List.take_length]
theorem go_noP {σ : L2.St} {H : Hp} {Q : Option Int → Hp → Prop} (h : Q none H) : tNoPart σ H Q := h
theorem cut_mem {xs : List V} {lo hi : Option Int} {x : V} (h : x ∈ cutV xs lo hi) : x ∈ xs := List.mem_of_mem_drop (List.mem_of_mem_take h)
section
variable {P0 : Program} {w : World} {K : PySem.W.Frag} {mg : Str → Option Value} {base : Heap}
def spPut (K : PySem.W.Frag) (N : Nat) : Sp := fun vs H Q _ => ∃ (x : V) (q : Addr) (y : V) (p g c : Addr) (n : Nat) (D e : PyData) (ks : List Nat) (m : Nat), vs = [x, .ref q, y] ∧ Pre.St H p g c n ∧ Dp K (wo p g H) x D ∧ Ok m D ∧ sz D ≤ 4000 ∧ SqT K H q (kV ks) ∧ atP ks D = some e ∧ ks.length < N ∧ OkV K (wo p g H) m y ∧
  ∀ v H', Same H H' → OkV K (wo p g H') (m + ks.length) v → Q v H'
theorem scPut : FnScope ["thing", "path", "part"] ["thing", "path", "part"] (defScope sPut) := ⟨rfl, rfl, rfl, by decide +kernel, rfl, by decide +kernel, by decide +kernel⟩
theorem ok_put {f : Addr} {fd : FuncData} (F : Fun K "_law_cp_put" "_law_cp_put" sPut f fd) (mF : mg "_law_cp_put" = some (.ref f)) : ∀ N : Nat, FnOk P0 w K mg base CX0 (N + 1) f fd ["thing", "path", "part"] (spPut K N)
  | 0 => by
    refine F.ok (k := 0) scPut (fun vs H Q E h => ?_) (fun cdv A outer s H vs Q E hr h => ?_)
    · obtain ⟨x, q, y, p, g, c, n, D, e, ks, m, rfl, _⟩ := h
      rfl
    · obtain ⟨x, q, y, p, g, c, n, D, e, ks, m, rfl, _, _, _, _, _, _, h0, _⟩ := h
      omega
  | N + 1 => by
    have IH := ok_put F mF N
    have bF := F.binds (ps := ["thing", "path", "part"]) fun _ _ _ _ _ _ us hl => match us, hl with | [_, _, _], _ => rfl
    refine F.ok (k := N + 1) scPut (fun vs H Q E h => ?_) (fun cdv A outer s H vs Q E hr h => ?_)
    · obtain ⟨x, q, y, p, g, c, n, D, e, ks, m, rfl, _⟩ := h
      rfl
    · obtain ⟨x, q, y, p, g, c, n, D, e, ks, m, rfl, hs, hd, hok, hsz, hq, hat, hN, hy, k⟩ := h
      have nd := scPut.nd
      refine ⟨_, pss_cons (ps_if (pt_cmpR (op_eqD hr.units) (pv 1) (pe_tup pa_nil) (nomark _)) (pss_one (ps_ret (pv 2))) pss_nil)
        (pss_one (ps_ret (pe_op op_catA (pe_op op_catA (pe_slice sl_tupA (pv 0) po_none (po_some (pe_ix ix_tup (pv 1) pe_int (fun _ _ => rfl))))
            (pe_tup (pa_cons (pe_call IH hr rfl mF F.kp bF .nil pass0 (pa_cons (pe_ix ix_tup (pv 0) (pe_ix ix_tup (pv 1) pe_int (fun _ _ => rfl)) (fun _ _ => rfl)) (pa_cons (pe_slice sl_tupA (pv 1) (po_some pe_int) po_none) (pa_cons (pv 2) pa_nil)))) pa_nil)))
          (pe_slice sl_tupA (pv 0) (po_some (pe_op op_add (pe_ix ix_tup (pv 1) pe_int (fun _ _ => rfl)) pe_int)) po_none)))), ?_⟩
      refine ⟨_, rfl, by show 0 ≤ sizeLine; decide, fun t0 ht0 => ?_⟩
      have s1 := Pre.same_upd (o := .tup []) ht0
      refine ⟨.tuple _, .tuple [], .tup (sqT_same s1 hq) (kV_ok ks), .tup (SqT.of upd_same) .nil, kV_sh ks, by decide +kernel, _, rfl, ?_⟩
      generalize upd H t0 (.tup []) = H1 at s1
      cases ks with
      | nil =>
        exact iteT ⟨_, rfl, k y H1 s1 (okv_mono (okv_same (wo_mono s1) hy) (Nat.le_add_right _ _))⟩
      | cons k0 ks =>
        refine iteF ?_
        obtain ⟨ds, d1, rfl, hd1, hat1⟩ := atP_inv hat
        have hd' := hd
        obtain ⟨a, xs, rfl, hx, hD⟩ : ∃ a xs, x = .ref a ∧ SqT K (wo p g H) a xs ∧ DpAll K (wo p g H) xs ds := by
          cases hd' with
          | tup q1 q2 => exact ⟨_, _, rfl, q1, q2⟩
        have hxl := dpAll_len hD
        have hk0 : k0 < ds.length := (List.getElem?_eq_some_iff.mp hd1).1
        obtain ⟨x1, hx1⟩ : ∃ x1, xs[k0]? = some x1 := ⟨xs[k0], List.getElem?_eq_getElem (by omega)⟩
        obtain ⟨d1', hd1', hdp⟩ := dpAll_at hD hx1
        rw [hd1] at hd1'
        cases hd1'
        have okall := dp_okv hD fun d hd => ok_memT hok hd
        have hsz' : 1 + szAll ds ≤ 4000 := hsz
        have hll := szAll_len ds
        have hm1 : 1 ≤ m := Nat.le_trans (Nat.succ_le_succ (Nat.zero_le _)) hok.2
        have hszd := sz_mem hd1
        have hs1 := st_same hs s1
        have hxG := sqT_same wo_sub hx
        have hq1 := sqT_same s1 hq
        refine ⟨_, rfl, _, rfl, q, _, _, _, rfl, rfl, hq1, atI_nat (j := 0) rfl, _, rfl, slA_any (sqT_same s1 hxG) fun r1 H2 s2 hr1 => ?_⟩
        have s12 := s1.trans s2
        refine ⟨_, rfl, _, rfl, q, _, _, _, rfl, rfl, sqT_same s12 hq, atI_nat (j := 0) rfl, a, xs, _, x1, rfl, rfl, sqT_same s12 hxG, atI_nat hx1, ?_⟩
        refine ⟨_, rfl, _, rfl, go_noP (slA_any (sqT_same s12 hq) fun q2 H3 s3 hq2 => ?_)⟩
        have s13 := s12.trans s3
        rw [show kV (k0 :: ks) = V.int (k0 : Int) :: kV ks from rfl, cut_one] at hq2
        refine ⟨_, rfl, x1, q2, y, p, g, c, n, d1, e, ks, m, rfl, st_same hs s13, dp_same (wo_mono s13) hdp, ok_mono (ok_memT hok (List.mem_of_getElem? hd1)) (Nat.sub_le _ _), by omega, hq2, hat1, Nat.lt_of_succ_lt_succ hN, okv_same (wo_mono s13) hy, fun v H4 s4 hv => ?_⟩
        have s14 := s13.trans s4
        refine ⟨by show 1 ≤ sizeLine; decide, fun r hr0 => ?_⟩
        have s5 := Pre.same_upd (o := .tup [v]) hr0
        have hc1 : (cutV xs none (some (k0 : Int))).length ≤ xs.length := cutV_length ..
        refine catA_any (ys := [v]) (sqT_same (s3.trans (s4.trans s5)) hr1) (SqT.of upd_same) (by simp only [List.length_singleton]; omega) fun r2 H6 s6 hr2 => ?_
        have s16 := s14.trans (s5.trans s6)
        refine ⟨_, rfl, _, rfl, q, _, _, _, rfl, rfl, sqT_same s16 hq, atI_nat (j := 0) rfl, _, _, rfl, rfl, _, rfl, go_noP (slA_any (sqT_same s16 hxG) fun r3 H7 s7 hr3 => ?_)⟩
        have hc2 := cutV_length xs (some ((k0 : Int) + 1)) none
        refine catA_any (sqT_same s7 hr2) hr3 (by simp only [List.length_append, List.length_singleton]; omega) fun r4 H8 s8 hr4 => ?_
        have s18 := s16.trans (s7.trans s8)
        have hv8 := okv_same (wo_mono ((s5.trans s6).trans (s7.trans s8))) hv
        refine k (.ref r4) H8 s18 ?_
        have e1 : m + (k0 :: ks).length = m + ks.length + 1 := by
          simp only [List.length_cons]
          omega
        rw [e1]
        refine okv_tup (sqT_wo hr4 (st_same hs s18)) fun z hz => ?_
        have old : ∀ z ∈ xs, OkV K (wo p g H8) (m + ks.length) z := fun z hz => okv_mono (okv_same (wo_mono s18) (okall z hz)) (by omega)
        rcases List.mem_append.mp hz with hz | hz
        · rcases List.mem_append.mp hz with hz | hz
          · exact old z (cut_mem hz)
          · rw [List.mem_singleton.mp hz]
            exact hv8
        · exact old z (cut_mem hz)
end
end Kn

namespace Wt
open PySem PySem.Spec PyProof.Rows L2
/-- u is a weight -/
def isW (u : Int × Int) : Prop := isWt (.tuple [.int u.1, .int u.2]) = true
theorem isW_pos {u : Int × Int} (h : isW u) : 1 ≤ u.2 := by
  unfold isW isWt at h
  rw [Bool.and_eq_true] at h
  exact of_decide_eq_true h.1
theorem gI_parts {t b : Int} (h : b ≠ 0) : gI (t / gI t b) (b / gI t b) = 1 := by
  have hg := gI_pos (t := t) h
  obtain ⟨t', ht⟩ := gI_l t b
  obtain ⟨b', hb⟩ := gI_r t b
  have e1 : t / gI t b = t' := Int.ediv_eq_of_eq_mul_right (by omega) ht
  have e2 : b / gI t b = b' := Int.ediv_eq_of_eq_mul_right (by omega) hb
  rw [e1, e2]
  have b0 : b' ≠ 0 := fun z => by
    rw [z, Int.mul_zero] at hb
    exact h hb
  have hd := gI_pos (t := t') b0
  have d1 : gI t b * gI t' b' ∣ t := by
    obtain ⟨x, hx⟩ := gI_l t' b'
    exact ⟨x, by rw [Int.mul_assoc, ← hx, ← ht]⟩
  have d2 : gI t b * gI t' b' ∣ b := by
    obtain ⟨x, hx⟩ := gI_r t' b'
    exact ⟨x, by rw [Int.mul_assoc, ← hx, ← hb]⟩
  have d3 : gI t b * gI t' b' ∣ gI t b := Int.dvd_coe_gcd d1 d2
  have d4 : gI t b * gI t' b' ≤ gI t b := Int.le_of_dvd hg d3
  have d5 : gI t' b' ≤ 1 := by
    rcases Int.lt_or_le 1 (gI t' b') with q | q
    · have := Int.mul_lt_mul_of_pos_left q hg
      rw [Int.mul_one] at this
      omega
    · exact q
  omega
theorem low_isW {t b : Int} (h : b ≠ 0) : isW (low t b) := by
  have hp := low_pos (t := t) h
  have e1 := gI_parts (t := t) h
  have e : gI (low t b).1 (low t b).2 = 1 := by
    unfold low
    split
    · show gI (-(t / gI t b)) (-(b / gI t b)) = 1
      unfold gI at e1 ⊢
      rw [Int.neg_gcd, Int.gcd_neg]
      exact e1
    · exact e1
  show (decide (1 ≤ (low t b).2) && (gI (low t b).1 (low t b).2 == 1)) = true
  rw [e, decide_eq_true (show 1 ≤ (low t b).2 by omega)]
  rfl
theorem low_one (t : Int) : low t 1 = (t, 1) := by
  have e : gI t 1 = 1 := by
    unfold gI
    rw [Int.gcd_one_right]
    rfl
  unfold low
  rw [if_neg (by decide), e, Int.ediv_one]
  rfl
theorem sz_mono {n m : Nat} {u : Int × Int} (h : sz n u) (l : n ≤ m) : sz m u := by
  have e : 2 ^ n ≤ 2 ^ m := Nat.pow_le_pow_right (by decide) l
  exact ⟨Nat.lt_of_lt_of_le h.1 e, Nat.lt_of_lt_of_le h.2 e⟩
/-- the weights ws stand in the list's items xs -/
def Ws (K : PySem.W.Frag) (H : Hp) (xs : List V) (ws : List (Int × Int)) : Prop := xs.length = ws.length ∧ ∀ (i : Nat) u, ws[i]? = some u → ∃ b, xs[i]? = some (.ref b) ∧ At K H b u
theorem ws_same {K : PySem.W.Frag} {H H' : Hp} {xs : List V} {ws : List (Int × Int)} (e : Same H H') (h : Ws K H xs ws) : Ws K H' xs ws := ⟨h.1, fun i u hu => by
  obtain ⟨b, h1, h2⟩ := h.2 i u hu
  exact ⟨b, h1, sqT_same e h2⟩⟩
def tot (ws : List (Int × Int)) : Int × Int := ws.foldl addW (0, 1)
theorem tot_more {ws : List (Int × Int)} {i : Nat} {u : Int × Int} (h : ws[i]? = some u) : tot (ws.take (i + 1)) = addW (tot (ws.take i)) u := by
  unfold tot
  rw [List.take_succ, h]
  simp [List.foldl_append]
theorem add_pos {u v : Int × Int} (h1 : u.2 ≠ 0) (h2 : v.2 ≠ 0) : 0 < (addW u v).2 := low_pos (ne_mul h1 h2)

section
variable {P0 : Program} {w : World} {K : PySem.W.Frag} {mg : Str → Option Value} {base : Heap}
def spTotal (K : PySem.W.Frag) (S : PySem.W.Frag → Hp → Addr → List V → Prop) : Sp := fun vs H Q _ => ∃ (a : Addr) (xs : List V) (ws : List (Int × Int)), vs = [.ref a] ∧ S K H a xs ∧ Ws K H xs ws ∧ ws.length ≤ 12 ∧ (∀ u ∈ ws, sz 300 u ∧ 1 ≤ u.2) ∧ ∀ (p : Addr) (H' : Hp), Same H H' → At K H' p (tot ws) → Q (.ref p) H'
theorem scTotal : FnScope ["weights", "whole", "part"] ["weights"] (defScope sTotal) := ⟨rfl, rfl, rfl, by decide +kernel, rfl, by decide +kernel, by decide +kernel⟩
theorem tot_inv {ws : List (Int × Int)} (hs : ∀ u ∈ ws, sz 300 u ∧ 1 ≤ u.2) : ∀ i, i ≤ ws.length → sz (1 + 301 * i) (tot (ws.take i)) ∧ 0 < (tot (ws.take i)).2
  | 0, _ => by
    rw [List.take_zero]
    exact ⟨⟨by decide, by decide⟩, by decide⟩
  | i + 1, hi => by
    obtain ⟨h1, h2⟩ := tot_inv hs i (by omega)
    have hlt : i < ws.length := by omega
    have e : ws[i]? = some ws[i] := List.getElem?_eq_getElem hlt
    obtain ⟨s1, s2⟩ := hs ws[i] (List.getElem_mem hlt)
    rw [tot_more e]
    refine ⟨sz_mono (sz_add h1 s1 (by omega) (by omega)) (by omega), add_pos (by omega) (by omega)⟩
theorem ok_totalL {f fA z : Addr} {fd dA : FuncData} (F : Fun K "total" "total" sTotal f fd) (GA : ∀ base, FnOk P0 w K mg base CX0 2 fA dA ["one", "other"] (spAdded K)) (FA : Fun K "added" "added" sAdded fA dA) (mA : mg "added" = some (.ref fA)) (mZ : mg "NOTHING" = some (.ref z)) (hZ : ∀ H, At K H z (0, 1)) :
    FnOk P0 w K mg base CX0 3 f fd ["weights"] (spTotal K SqL) := by
  have GA := GA base
  have bA := FA.binds (ps := ["one", "other"]) fun _ _ _ _ _ _ us hl => match us, hl with | [_, _], _ => rfl
  refine F.ok scTotal (fun vs H Q E h => ?_) (fun cdv A outer s H vs Q E hr h => ?_)
  · obtain ⟨a, xs, ws, rfl, _⟩ := h
    rfl
  · obtain ⟨a, xs, ws, rfl, hS, hW, hl, hs, k⟩ := h
    have nd := scTotal.nd
    refine ⟨_, pss_cons (ps_set (i := 1) nd rfl (Or.inl rfl) (pe_glob (v := .ref z) (by rfl) mZ rfl)) (pss_cons (ps_for PassesOwn.never rfl (pi_list (pv 0)) (pg_name (i := 2) nd rfl (Or.inl rfl))
      (pss_one (ps_set (i := 1) nd rfl (Or.inl rfl) (pe_call GA hr rfl mA FA.kp bA .nil pass0 (pa_cons (pv 1) (pa_cons (pv 2) pa_nil)))))) (pss_one (ps_ret (pv 1)))), ?_⟩
    refine ⟨_, rfl, a, rfl, ⟨_, hS⟩, for_list (K := K) (a := a) (xs := xs) (fun i σ H' => ∃ q pt, σ = [some (.ref a), some (.ref q), pt] ∧ Same H H' ∧ At K H' q (tot (ws.take i))) ⟨z, none, rfl, Same.refl H, hZ H⟩ (fun i σ H' _ ⟨_, _, _, s1, _⟩ => s1.seq hS) ?_ ?_⟩
    · rintro i x σ H' hx ⟨q, pt, rfl, s1, hq⟩
      have hi : i < ws.length := by
        rw [← hW.1]
        exact (List.getElem?_eq_some_iff.mp hx).1
      have e : ws[i]? = some ws[i] := List.getElem?_eq_getElem hi
      obtain ⟨b, hb1, hb2⟩ := hW.2 i _ e
      rw [hx] at hb1
      cases hb1
      obtain ⟨t1, t2⟩ := tot_inv hs i (by omega)
      obtain ⟨u1, u2⟩ := hs ws[i] (List.getElem_mem hi)
      refine ⟨_, rfl, _, rfl, q, b, _, ws[i], 1 + 301 * i, 300, rfl, hq, sqT_same s1 hb2, by omega, by omega, t1, u1, by omega, by decide, by omega, fun p H2 s2 hp => ?_⟩
      exact ⟨p, _, rfl, s1.trans s2, by rw [tot_more e]; exact hp⟩
    · rintro σ H' ⟨q, pt, rfl, s1, hq⟩
      rw [hW.1, List.take_length] at hq
      exact ⟨_, rfl, k q H' s1 hq⟩
theorem ok_totalT {f fA z : Addr} {fd dA : FuncData} (F : Fun K "total" "total" sTotal f fd) (GA : ∀ base, FnOk P0 w K mg base CX0 2 fA dA ["one", "other"] (spAdded K)) (FA : Fun K "added" "added" sAdded fA dA) (mA : mg "added" = some (.ref fA)) (mZ : mg "NOTHING" = some (.ref z)) (hZ : ∀ H, At K H z (0, 1)) :
    FnOk P0 w K mg base CX0 3 f fd ["weights"] (spTotal K SqT) := by
  have GA := GA base
  have bA := FA.binds (ps := ["one", "other"]) fun _ _ _ _ _ _ us hl => match us, hl with | [_, _], _ => rfl
  refine F.ok scTotal (fun vs H Q E h => ?_) (fun cdv A outer s H vs Q E hr h => ?_)
  · obtain ⟨a, xs, ws, rfl, _⟩ := h
    rfl
  · obtain ⟨a, xs, ws, rfl, hS, hW, hl, hs, k⟩ := h
    have nd := scTotal.nd
    refine ⟨_, pss_cons (ps_set (i := 1) nd rfl (Or.inl rfl) (pe_glob (v := .ref z) (by rfl) mZ rfl)) (pss_cons (ps_for PassesOwn.never rfl (pi_tup (pv 0)) (pg_name (i := 2) nd rfl (Or.inl rfl))
      (pss_one (ps_set (i := 1) nd rfl (Or.inl rfl) (pe_call GA hr rfl mA FA.kp bA .nil pass0 (pa_cons (pv 1) (pa_cons (pv 2) pa_nil)))))) (pss_one (ps_ret (pv 1)))), ?_⟩
    refine ⟨_, rfl, a, rfl, ⟨_, hS⟩, for_tup (K := K) (a := a) (xs := xs) (fun i σ H' => ∃ q pt, σ = [some (.ref a), some (.ref q), pt] ∧ Same H H' ∧ At K H' q (tot (ws.take i))) ⟨z, none, rfl, Same.refl H, hZ H⟩ (fun i σ H' _ ⟨_, _, _, s1, _⟩ => sqT_same s1 hS) ?_ ?_⟩
    · rintro i x σ H' hx ⟨q, pt, rfl, s1, hq⟩
      have hi : i < ws.length := by
        rw [← hW.1]
        exact (List.getElem?_eq_some_iff.mp hx).1
      have e : ws[i]? = some ws[i] := List.getElem?_eq_getElem hi
      obtain ⟨b, hb1, hb2⟩ := hW.2 i _ e
      rw [hx] at hb1
      cases hb1
      obtain ⟨t1, t2⟩ := tot_inv hs i (by omega)
      obtain ⟨u1, u2⟩ := hs ws[i] (List.getElem_mem hi)
      refine ⟨_, rfl, _, rfl, q, b, _, ws[i], 1 + 301 * i, 300, rfl, hq, sqT_same s1 hb2, by omega, by omega, t1, u1, by omega, by decide, by omega, fun p H2 s2 hp => ?_⟩
      exact ⟨p, _, rfl, s1.trans s2, by rw [tot_more e]; exact hp⟩
    · rintro σ H' ⟨q, pt, rfl, s1, hq⟩
      rw [hW.1, List.take_length] at hq
      exact ⟨_, rfl, k q H' s1 hq⟩
end
end Wt

namespace Tw
open PySem PySem.Spec PyProof.Rows L2
open Wt Dc
abbrev sCPart : Stmt := Pre.top 20
/-- whether data is a weight from nothing on -/
def isCP : PyData → Bool
  | .tuple [.int c, .int e] => isWt (.tuple [.int c, .int e]) && decide (0 ≤ c)
  | _ => false
section
variable {P0 : Program} {w : World} {K : PySem.W.Frag} {mg : Str → Option Value} {base : Heap}
def spCPart (K : PySem.W.Frag) : Sp := fun vs H Q _ => ∃ x d, vs = [x] ∧ Dp K H x d ∧ Q (.bl (isCP d)) H
theorem scCPart : FnScope ["value"] ["value"] (defScope sCPart) := ⟨rfl, rfl, rfl, by decide +kernel, rfl, by decide +kernel, by decide +kernel⟩
theorem ok_cpart {f fI : Addr} {fd dI : FuncData} (F : Fun K "is_chance_part" "is_chance_part" sCPart f fd) (GI : ∀ base, FnOk P0 w K mg base CX0 2 fI dI ["value"] (spIsWt K)) (FI : Fun K "is_weight" "is_weight" sIsWt fI dI) (mI : mg "is_weight" = some (.ref fI)) : FnOk P0 w K mg base CX0 3 f fd ["value"] (spCPart K) := by
  have GI := GI base
  have bI := FI.binds (ps := ["value"]) fun _ _ _ _ _ _ us hl => match us, hl with | [_], _ => rfl
  refine F.ok scCPart (fun vs H Q E h => ?_) (fun cdv A outer s H vs Q E hr h => ?_)
  · obtain ⟨x, d, rfl, _⟩ := h
    rfl
  · obtain ⟨x, d, rfl, hd, k⟩ := h
    refine ⟨_, pss_one (ps_ret (pe_and (pe_call GI hr (by rfl) mI FI.kp bI .nil pass0 (pa_cons (pv 0) pa_nil)) (pe_one (pe_cmpR op_ge (pe_ix ix_tup (pv 0) pe_int (fun _ _ => rfl)) pe_int (nomark _))))), ?_⟩
    refine ⟨_, rfl, x, d, rfl, hd, _, rfl, ?_⟩
    cases hw : isWt d with
    | false =>
      refine iteF ?_
      have e : isCP d = false := by
        unfold isCP
        split
        · rw [hw]
          rfl
        · rfl
      rw [e] at k
      exact k
    | true =>
      refine iteT ?_
      obtain ⟨a, x1, x2, d1, d2, rfl, rfl, q, h1, h2⟩ := tup2 hd (isWt_tup hw)
      cases h1 with
      | int i =>
        cases h2 with
        | int j =>
          refine ⟨_, rfl, a, _, _, _, rfl, rfl, q, rfl, _, _, rfl, rfl, ?_⟩
          have e : isCP (.tuple [.int i, .int j]) = decide (0 ≤ i) := by
            show (isWt (.tuple [.int i, .int j]) && decide (0 ≤ i)) = _
            rw [hw]
            rfl
          rw [e] at k
          exact k
        | non => simp [isWt] at hw
        | bl b => simp [isWt] at hw
        | str b => simp [isWt] at hw
        | lst _ _ => simp [isWt] at hw
        | tup _ _ => simp [isWt] at hw
      | non => simp [isWt] at hw
      | bl b => simp [isWt] at hw
      | str b => simp [isWt] at hw
      | lst _ _ => simp [isWt] at hw
      | tup _ _ => simp [isWt] at hw
end
end Tw

namespace Tk
open PySem PySem.Spec PyProof.Rows L2
open Wt Kn Dc
/-- a part, the kinds of the things around it, and its k -/
structure Cn where
  t : PyData
  ts : List Kd
  k : Int
def isPosW : PyData → Bool
  | .tuple [.int c, .int e] => isWt (.tuple [.int c, .int e]) && decide (0 < c)
  | _ => false
def isRow : PyData → Bool
  | .tuple [w, _] => isPosW w
  | _ => false
def rowW : PyData → Int × Int
  | .tuple [.tuple [.int c, .int e], _] => (c, e)
  | _ => (0, 1)
def rowT : PyData → PyData
  | .tuple [_, t] => t
  | _ => .none
def leOne (rows : List PyData) : Bool := decide ((tot (rows.map rowW)).1 ≤ (tot (rows.map rowW)).2)
def rowsOk (rows : List PyData) : Bool := (decide (1 ≤ rows.length) && decide (rows.length ≤ 6)) && (rows.all isRow && leOne rows)
def drawK (ts : List Kd) (k : Int) : PyData → Option (List Cn × List Cn)
  | .tuple rows => if rowsOk rows = true then some ([], rows.map fun r => ⟨rowT r, ts, k⟩) else none
  | _ => none
def askH (ts : List Kd) (a : Kd) (hs : List PyData) : List Cn := List.zipWith (fun h kd => ⟨h, ts ++ kd.args, kd.ans⟩) hs a.args
def askA (ts : List Kd) (k : Int) (a : Kd) (hs rs : List PyData) : Option (List Cn × List Cn) :=
  if hs.length = a.args.length ∧ (rs.length : Int) = a.ans then some (askH ts a hs, rs.map fun r => ⟨r, ts, k⟩) else none
def askK (ts : List Kd) (k : Int) : PyData → PyData → PyData → Option (List Cn × List Cn)
  | .int v, .tuple hs, .tuple rs => if 0 ≤ v then (match ts[v.toNat]? with
    | some a => askA ts k a hs rs
    | none => none) else none
  | _, _, _ => none
def ansK (k : Int) : PyData → Option (List Cn × List Cn)
  | .int b => if 0 ≤ b ∧ b < k then some ([], []) else none
  | _ => none
/-- the parts directly in a talk: those that are handed, and the rows; none if it is no talk -/
def kids2 (c : Cn) : Option (List Cn × List Cn) := match c.t with
  | .tuple [.str s] => if s = "none" then some ([], []) else none
  | .tuple [.str s, x] => if s = "answer" then ansK c.k x else if s = "draw" then drawK c.ts c.k x else none
  | .tuple [.str s, x, y, z] => if s = "ask" then askK c.ts c.k x y z else none
  | _ => none
def mx (l : List Nat) : Nat := l.foldr max 0
def good : Nat → Cn → Bool
  | 0, _ => false
  | n + 1, c => match kids2 c with
    | none => false
    | some p => p.1.all (good n) && p.2.all (good n)
def nod : Nat → Cn → Nat
  | 0, _ => 1
  | n + 1, c => match kids2 c with
    | none => 1
    | some p => 1 + ((p.1 ++ p.2).map (nod n)).sum
def hgt : Nat → Cn → Nat
  | 0, _ => 1
  | n + 1, c => match kids2 c with
    | none => 1
    | some p => 1 + mx ((p.1 ++ p.2).map (hgt n))
/-- what kids are -/
inductive Kid (c : Cn) (p : List Cn × List Cn) : Prop where
  | non (h : c.t = .tuple [.str "none"]) (e : p = ([], []))
  | ans (b : Int) (h : c.t = .tuple [.str "answer", .int b]) (h0 : 0 ≤ b) (h1 : b < c.k) (e : p = ([], []))
  | draw (rows : List PyData) (h : c.t = .tuple [.str "draw", .tuple rows]) (ok : rowsOk rows = true) (e : p = ([], rows.map fun r => ⟨rowT r, c.ts, c.k⟩))
  | ask (v : Int) (a : Kd) (hs rs : List PyData) (h : c.t = .tuple [.str "ask", .int v, .tuple hs, .tuple rs]) (h0 : 0 ≤ v) (ha : c.ts[v.toNat]? = some a) (l1 : hs.length = a.args.length) (l2 : (rs.length : Int) = a.ans) (e : p = (askH c.ts a hs, rs.map fun r => ⟨r, c.ts, c.k⟩))
theorem kid_of {c : Cn} {p : List Cn × List Cn} (h : kids2 c = some p) : Kid c p := by
  unfold kids2 at h
  split at h
  · rename_i s ht
    split at h
    · rename_i hs
      cases h
      exact .non (by rw [ht, hs]) rfl
    · cases h
  · rename_i s x ht
    split at h
    · rename_i hs
      unfold ansK at h
      split at h
      · rename_i b
        split at h
        · rename_i hb
          cases h
          exact .ans b (by rw [ht, hs]) hb.1 hb.2 rfl
        · cases h
      · cases h
    · split at h
      · rename_i hs
        unfold drawK at h
        split at h
        · rename_i rows
          split at h
          · rename_i ok
            cases h
            exact .draw rows (by rw [ht, hs]) ok rfl
          · cases h
        · cases h
      · cases h
  · rename_i s x y z ht
    split at h
    · rename_i hs
      unfold askK at h
      split at h
      · rename_i v hs' rs'
        split at h
        · rename_i h0
          split at h
          · rename_i a ha
            unfold askA at h
            split at h
            · rename_i hl
              cases h
              exact .ask v a hs' rs' (by rw [ht, hs]) h0 ha hl.1 hl.2 rfl
            · cases h
          · cases h
        · cases h
      · cases h
    · cases h
  · cases h
theorem row_of {r : PyData} (h : isRow r = true) : ∃ c e t, r = .tuple [.tuple [.int c, .int e], t] ∧ isW (c, e) ∧ 0 < c := by
  unfold isRow at h
  split at h
  · unfold isPosW at h
    split at h
    · rw [Bool.and_eq_true] at h
      exact ⟨_, _, _, rfl, h.1, of_decide_eq_true h.2⟩
    · cases h
  · cases h
theorem dep_two {w t : PyData} : t.depth < (PyData.tuple [w, t]).depth := by
  have := dep_mem (ds := [w, t]) (d := t) (by simp)
  show t.depth < PyData.depthAll [w, t] + 1
  omega
theorem askH_mem {ts : List Kd} {a : Kd} {hs : List PyData} {q : Cn} (h : q ∈ askH ts a hs) : q.t ∈ hs ∧ ∃ kd ∈ a.args, q.ts = ts ++ kd.args ∧ q.k = kd.ans := by
  unfold askH at h
  obtain ⟨i, hi, e⟩ := List.mem_iff_getElem.mp h
  rw [List.getElem_zipWith] at e
  subst e
  exact ⟨List.getElem_mem _, _, List.getElem_mem _, rfl, rfl⟩
/-- kids stand deeper -/
theorem kid_dep {c : Cn} {p : List Cn × List Cn} (h : kids2 c = some p) : ∀ q ∈ p.1 ++ p.2, q.t.depth < c.t.depth := by
  cases kid_of h with
  | non _ e => subst e; intro q hq; cases hq
  | ans b _ _ _ e => subst e; intro q hq; cases hq
  | draw rows ht ok e =>
    subst e
    intro q hq
    obtain ⟨r, hr, rfl⟩ := List.mem_map.mp hq
    have ok' := ok
    unfold rowsOk at ok'
    rw [Bool.and_eq_true, Bool.and_eq_true, Bool.and_eq_true] at ok'
    obtain ⟨c', e', t, rfl, _, _⟩ := row_of (List.all_eq_true.mp ok'.2.1 r hr)
    rw [ht]
    have h1 := dep_two (w := .tuple [.int c', .int e']) (t := t)
    have h2 := dep_mem hr
    have h3 := dep_mem (ds := [.str "draw", .tuple rows]) (d := .tuple rows) (by simp)
    have h4 : (PyData.tuple rows).depth = PyData.depthAll rows + 1 := rfl
    show t.depth < PyData.depthAll [.str "draw", .tuple rows] + 1
    omega
  | ask v a hs rs ht h0 ha l1 l2 e =>
    subst e
    intro q hq
    rw [ht]
    have h3 := dep_mem (ds := [.str "ask", .int v, .tuple hs, .tuple rs]) (d := .tuple hs) (by simp)
    have h4 := dep_mem (ds := [.str "ask", .int v, .tuple hs, .tuple rs]) (d := .tuple rs) (by simp)
    have h5 : (PyData.tuple hs).depth = PyData.depthAll hs + 1 := rfl
    have h6 : (PyData.tuple rs).depth = PyData.depthAll rs + 1 := rfl
    show q.t.depth < PyData.depthAll [.str "ask", .int v, .tuple hs, .tuple rs] + 1
    rcases List.mem_append.mp hq with hq | hq
    · have := dep_mem (askH_mem hq).1
      omega
    · obtain ⟨r, hr, rfl⟩ := List.mem_map.mp hq
      have := dep_mem hr
      show r.depth < _
      omega
theorem all_congr {α : Type} {f g : α → Bool} : ∀ {l : List α}, (∀ x ∈ l, f x = g x) → l.all f = l.all g
  | [], _ => rfl
  | x :: l, h => by
    rw [List.all_cons, List.all_cons, h x (List.mem_cons_self ..), all_congr fun y hy => h y (List.mem_cons_of_mem _ hy)]
theorem good_eq : ∀ (n m : Nat) (c : Cn), c.t.depth < n → c.t.depth < m → good n c = good m c
  | 0, _, _, h, _ => by omega
  | _ + 1, 0, _, _, h => by omega
  | n + 1, m + 1, c, h1, h2 => by
    unfold good
    cases e : kids2 c with
    | none => rfl
    | some p =>
      have hd := kid_dep e
      show (p.1.all (good n) && p.2.all (good n)) = (p.1.all (good m) && p.2.all (good m))
      rw [all_congr (f := good n) (g := good m) fun x hx => good_eq n m x (by have := hd x (List.mem_append_left _ hx); omega) (by have := hd x (List.mem_append_left _ hx); omega),
        all_congr (l := p.2) (f := good n) (g := good m) fun x hx => good_eq n m x (by have := hd x (List.mem_append_right _ hx); omega) (by have := hd x (List.mem_append_right _ hx); omega)]
theorem nod_eq : ∀ (n m : Nat) (c : Cn), c.t.depth < n → c.t.depth < m → nod n c = nod m c
  | 0, _, _, h, _ => by omega
  | _ + 1, 0, _, _, h => by omega
  | n + 1, m + 1, c, h1, h2 => by
    unfold nod
    cases e : kids2 c with
    | none => rfl
    | some p =>
      have hd := kid_dep e
      show 1 + ((p.1 ++ p.2).map (nod n)).sum = 1 + ((p.1 ++ p.2).map (nod m)).sum
      rw [List.map_congr_left fun x hx => nod_eq n m x (by have := hd x hx; omega) (by have := hd x hx; omega)]
theorem hgt_eq : ∀ (n m : Nat) (c : Cn), c.t.depth < n → c.t.depth < m → hgt n c = hgt m c
  | 0, _, _, h, _ => by omega
  | _ + 1, 0, _, _, h => by omega
  | n + 1, m + 1, c, h1, h2 => by
    unfold hgt
    cases e : kids2 c with
    | none => rfl
    | some p =>
      have hd := kid_dep e
      show 1 + mx ((p.1 ++ p.2).map (hgt n)) = 1 + mx ((p.1 ++ p.2).map (hgt m))
      rw [List.map_congr_left fun x hx => hgt_eq n m x (by have := hd x hx; omega) (by have := hd x hx; omega)]
/-- whether it is a talk, of how many parts, in how many rows -/
def G (c : Cn) : Bool := good (c.t.depth + 1) c
def N (c : Cn) : Nat := nod (c.t.depth + 1) c
def Hh (c : Cn) : Nat := hgt (c.t.depth + 1) c
theorem G_none {c : Cn} (h : kids2 c = none) : G c = false := by
  show (match kids2 c with | none => false | some p => p.1.all (good c.t.depth) && p.2.all (good c.t.depth)) = false
  rw [h]
theorem G_some {c : Cn} {p : List Cn × List Cn} (h : kids2 c = some p) : G c = (p.1.all G && p.2.all G) := by
  show (match kids2 c with | none => false | some p => p.1.all (good c.t.depth) && p.2.all (good c.t.depth)) = _
  have hd := kid_dep h
  rw [h]
  show (p.1.all (good c.t.depth) && p.2.all (good c.t.depth)) = _
  rw [all_congr (g := G) fun x hx => good_eq _ _ x (hd x (List.mem_append_left _ hx)) (Nat.lt_succ_self _), all_congr (l := p.2) (g := G) fun x hx => good_eq _ _ x (hd x (List.mem_append_right _ hx)) (Nat.lt_succ_self _)]
theorem N_none {c : Cn} (h : kids2 c = none) : N c = 1 := by
  show (match kids2 c with | none => 1 | some p => 1 + ((p.1 ++ p.2).map (nod c.t.depth)).sum) = 1
  rw [h]
theorem N_some {c : Cn} {p : List Cn × List Cn} (h : kids2 c = some p) : N c = 1 + ((p.1 ++ p.2).map N).sum := by
  show (match kids2 c with | none => 1 | some p => 1 + ((p.1 ++ p.2).map (nod c.t.depth)).sum) = _
  have hd := kid_dep h
  rw [h]
  show 1 + ((p.1 ++ p.2).map (nod c.t.depth)).sum = _
  rw [List.map_congr_left (g := N) fun x hx => nod_eq _ _ x (hd x hx) (Nat.lt_succ_self _)]
theorem N_pos (c : Cn) : 1 ≤ N c := by
  cases h : kids2 c with
  | none => rw [N_none h]; exact Nat.le_refl _
  | some p => rw [N_some h]; omega
theorem H_none {c : Cn} (h : kids2 c = none) : Hh c = 1 := by
  show (match kids2 c with | none => 1 | some p => 1 + mx ((p.1 ++ p.2).map (hgt c.t.depth))) = 1
  rw [h]
theorem H_some {c : Cn} {p : List Cn × List Cn} (h : kids2 c = some p) : Hh c = 1 + mx ((p.1 ++ p.2).map Hh) := by
  show (match kids2 c with | none => 1 | some p => 1 + mx ((p.1 ++ p.2).map (hgt c.t.depth))) = _
  have hd := kid_dep h
  rw [h]
  show 1 + mx ((p.1 ++ p.2).map (hgt c.t.depth)) = _
  rw [List.map_congr_left (g := Hh) fun x hx => hgt_eq _ _ x (hd x hx) (Nat.lt_succ_self _)]
theorem H_pos (c : Cn) : 1 ≤ Hh c := by
  cases h : kids2 c with
  | none => rw [H_none h]; exact Nat.le_refl _
  | some p => rw [H_some h]; omega
theorem mx_le {n : Nat} : ∀ {l : List Nat}, mx l ≤ n ↔ ∀ x ∈ l, x ≤ n
  | [] => ⟨fun _ x hx => (by cases hx), fun _ => Nat.zero_le _⟩
  | y :: l => by
    show max y (mx l) ≤ n ↔ _
    rw [Nat.max_le, mx_le (l := l)]
    constructor
    · rintro ⟨h1, h2⟩ x hx
      rcases List.mem_cons.mp hx with z | z
      · rw [z]; exact h1
      · exact h2 x z
    · intro h
      exact ⟨h y (List.mem_cons_self ..), fun x hx => h x (List.mem_cons_of_mem _ hx)⟩
/-! ## the package's list of what waits -/
abbrev Wn := List (Cn × Nat)
def nsum (W : Wn) : Nat := (W.map fun p => N p.1).sum
def Fin (many : Nat) (W : Wn) : Prop := (∀ p ∈ W, G p.1 = true ∧ p.2 + Hh p.1 ≤ 101) ∧ many + nsum W ≤ 4000
theorem nsum_app (W V : Wn) : nsum (W ++ V) = nsum W + nsum V := by
  unfold nsum
  rw [List.map_append, List.sum_append]
theorem nsum_one (c : Cn) (l : Nat) : nsum [(c, l)] = N c := by
  show N c + 0 = N c
  omega
theorem nsum_len : ∀ W : Wn, W.length ≤ nsum W
  | [] => Nat.le_refl _
  | p :: W => by
    have h1 := nsum_len W
    have h2 := N_pos p.1
    show W.length + 1 ≤ N p.1 + nsum W
    omega
theorem nsum_kids (l : List Cn) (j : Nat) : nsum (l.map fun q => (q, j)) = (l.map N).sum := by
  unfold nsum
  rw [List.map_map]
  rfl
theorem fin_bad {many : Nat} {W : Wn} {c : Cn} {l : Nat} (h : kids2 c = none) : ¬ Fin many (W ++ [(c, l)]) := fun ⟨h1, _⟩ => by
  have := (h1 (c, l) (by simp)).1
  have := (G_none h).symm.trans this
  cases this
theorem fin_deep {many : Nat} {W : Wn} {c : Cn} {l : Nat} (h : 100 < l) : ¬ Fin many (W ++ [(c, l)]) := fun ⟨h1, _⟩ => by
  have := (h1 (c, l) (by simp)).2
  have := H_pos c
  show False
  simp only at *
  omega
theorem fin_many {many : Nat} {W : Wn} {c : Cn} {l : Nat} {p : List Cn × List Cn} (h : kids2 c = some p) (hm : 4000 < many + 1 + W.length + (p.1 ++ p.2).length) : ¬ Fin many (W ++ [(c, l)]) := fun ⟨_, h2⟩ => by
  rw [nsum_app, nsum_one, N_some h] at h2
  have h3 := nsum_len W
  have h4 := nsum_len ((p.1 ++ p.2).map fun q => (q, 0))
  rw [nsum_kids, List.length_map] at h4
  omega
theorem fin_step {many : Nat} {W : Wn} {c : Cn} {l : Nat} {p : List Cn × List Cn} (h : kids2 c = some p) (hl : l ≤ 100) : Fin many (W ++ [(c, l)]) ↔ Fin (many + 1) (W ++ (p.1 ++ p.2).map fun q => (q, l + 1)) := by
  unfold Fin
  rw [nsum_app, nsum_app, nsum_one, nsum_kids, N_some h]
  have e1 : (∀ q ∈ W ++ [(c, l)], G q.1 = true ∧ q.2 + Hh q.1 ≤ 101) ↔ (∀ q ∈ W, G q.1 = true ∧ q.2 + Hh q.1 ≤ 101) ∧ G c = true ∧ l + Hh c ≤ 101 := by
    constructor
    · intro k
      exact ⟨fun q hq => k q (List.mem_append_left _ hq), k (c, l) (by simp)⟩
    · rintro ⟨k1, k2⟩ q hq
      rcases List.mem_append.mp hq with z | z
      · exact k1 q z
      · rw [List.mem_singleton.mp z]; exact k2
  have e2 : (∀ q ∈ W ++ (p.1 ++ p.2).map (fun q => (q, l + 1)), G q.1 = true ∧ q.2 + Hh q.1 ≤ 101) ↔ (∀ q ∈ W, G q.1 = true ∧ q.2 + Hh q.1 ≤ 101) ∧ ∀ q ∈ p.1 ++ p.2, G q = true ∧ l + 1 + Hh q ≤ 101 := by
    constructor
    · intro k
      exact ⟨fun q hq => k q (List.mem_append_left _ hq), fun q hq => k (q, l + 1) (List.mem_append_right _ (List.mem_map.mpr ⟨q, hq, rfl⟩))⟩
    · rintro ⟨k1, k2⟩ q hq
      rcases List.mem_append.mp hq with z | z
      · exact k1 q z
      · obtain ⟨r, hr, rfl⟩ := List.mem_map.mp z
        exact k2 r hr
  rw [e1, e2]
  have e3 : (G c = true ∧ l + Hh c ≤ 101) ↔ ∀ q ∈ p.1 ++ p.2, G q = true ∧ l + 1 + Hh q ≤ 101 := by
    rw [G_some h, H_some h, Bool.and_eq_true, List.all_eq_true, List.all_eq_true]
    constructor
    · rintro ⟨⟨g1, g2⟩, k⟩ q hq
      have := mx_le.mp (show mx ((p.1 ++ p.2).map Hh) ≤ 100 - l by omega) (Hh q) (List.mem_map.mpr ⟨q, hq, rfl⟩)
      refine ⟨?_, by omega⟩
      rcases List.mem_append.mp hq with z | z
      · exact g1 q z
      · exact g2 q z
    · intro k
      refine ⟨⟨fun q hq => (k q (List.mem_append_left _ hq)).1, fun q hq => (k q (List.mem_append_right _ hq)).1⟩, ?_⟩
      have : mx ((p.1 ++ p.2).map Hh) ≤ 100 - l := mx_le.mpr fun x hx => by
        obtain ⟨q, hq, rfl⟩ := List.mem_map.mp hx
        have := (k q hq).2
        omega
      omega
  rw [e3]
  constructor
  · rintro ⟨⟨a, b⟩, d⟩
    exact ⟨⟨a, b⟩, by omega⟩
  · rintro ⟨⟨a, b⟩, d⟩
    exact ⟨⟨a, b⟩, by omega⟩
theorem fin_nil {many : Nat} (h : many ≤ 4000) : Fin many [] := ⟨fun p hp => (by cases hp), by show many + 0 ≤ 4000; omega⟩
theorem fin_all {c : Cn} : Fin 0 [(c, 1)] ↔ G c = true ∧ N c ≤ 4000 ∧ Hh c ≤ 100 := by
  unfold Fin
  rw [nsum_one]
  constructor
  · rintro ⟨h1, h2⟩
    have := h1 (c, 1) (by simp)
    exact ⟨this.1, by omega, by have := this.2; simp only at this; omega⟩
  · rintro ⟨h1, h2, h3⟩
    refine ⟨fun p hp => ?_, by omega⟩
    rw [List.mem_singleton.mp hp]
    exact ⟨h1, by show 1 + Hh c ≤ 101; omega⟩
/-! ## bounds by sizes -/
theorem szAll_rows : ∀ {rows : List PyData}, rows.all isRow = true → ((rows.map rowT).map Kn.sz).sum + rows.length ≤ Kn.szAll rows
  | [], _ => Nat.le_refl _
  | r :: rows, h => by
    rw [List.all_cons, Bool.and_eq_true] at h
    have ih := szAll_rows h.2
    obtain ⟨c, e, t, rfl, _, _⟩ := row_of h.1
    show (Kn.sz t + ((rows.map rowT).map Kn.sz).sum) + (rows.length + 1) ≤ Kn.sz (.tuple [.tuple [.int c, .int e], t]) + Kn.szAll rows
    have : Kn.sz (.tuple [.tuple [.int c, .int e], t]) = 1 + (3 + (Kn.sz t + 0)) := rfl
    omega
theorem szAll_sum : ∀ ds : List PyData, (ds.map Kn.sz).sum = Kn.szAll ds
  | [] => rfl
  | d :: ds => by
    show Kn.sz d + (ds.map Kn.sz).sum = Kn.sz d + Kn.szAll ds
    rw [szAll_sum ds]
theorem askH_sz : ∀ (ts : List Kd) (l : List Kd) (hs : List PyData), ((List.zipWith (fun h (kd : Kd) => (⟨h, ts ++ kd.args, kd.ans⟩ : Cn)) hs l).map fun q => Kn.sz q.t).sum ≤ Kn.szAll hs
  | ts, [], hs => by
    rw [List.zipWith_nil_right]
    exact Nat.zero_le _
  | ts, _ :: _, [] => Nat.le_refl _
  | ts, kd :: l, h :: hs => by
    have := askH_sz ts l hs
    show Kn.sz h + _ ≤ Kn.sz h + Kn.szAll hs
    exact Nat.add_le_add_left this _
theorem kid_sz {c : Cn} {p : List Cn × List Cn} (h : kids2 c = some p) : ((p.1 ++ p.2).map fun q => Kn.sz q.t).sum + 1 ≤ Kn.sz c.t := by
  cases kid_of h with
  | non ht e => subst e; exact Kn.sz_pos _
  | ans b ht _ _ e => subst e; exact Kn.sz_pos _
  | draw rows ht ok e =>
    subst e
    have ok' := ok
    unfold rowsOk at ok'
    rw [Bool.and_eq_true, Bool.and_eq_true, Bool.and_eq_true] at ok'
    have h1 := szAll_rows ok'.2.1
    rw [ht]
    have h2 : Kn.sz (.tuple [.str "draw", .tuple rows]) = 1 + (1 + ((1 + Kn.szAll rows) + 0)) := rfl
    have h3 : ((([] : List Cn) ++ rows.map fun r => (⟨rowT r, c.ts, c.k⟩ : Cn)).map fun q => Kn.sz q.t) = (rows.map rowT).map Kn.sz := by
      rw [List.nil_append, List.map_map, List.map_map]
      rfl
    show ((([] : List Cn) ++ rows.map fun r => (⟨rowT r, c.ts, c.k⟩ : Cn)).map fun q => Kn.sz q.t).sum + 1 ≤ _
    rw [h3]
    omega
  | ask v a hs rs ht h0 ha l1 l2 e =>
    subst e
    rw [ht]
    have h2 : Kn.sz (.tuple [.str "ask", .int v, .tuple hs, .tuple rs]) = 1 + (1 + (1 + ((1 + Kn.szAll hs) + ((1 + Kn.szAll rs) + 0)))) := rfl
    have h3 := askH_sz c.ts a.args hs
    have h4 : ((rs.map fun r => (⟨r, c.ts, c.k⟩ : Cn)).map fun q => Kn.sz q.t).sum = Kn.szAll rs := by
      rw [List.map_map, ← szAll_sum]
      rfl
    show ((askH c.ts a hs ++ rs.map fun r => (⟨r, c.ts, c.k⟩ : Cn)).map fun q => Kn.sz q.t).sum + 1 ≤ _
    rw [List.map_append, List.sum_append, h4]
    unfold askH
    omega
theorem sum_le {α : Type} {f g : α → Nat} : ∀ {l : List α}, (∀ x ∈ l, f x ≤ g x) → (l.map f).sum ≤ (l.map g).sum
  | [], _ => Nat.le_refl _
  | x :: l, h => by
    have h1 := h x (List.mem_cons_self ..)
    have h2 := sum_le fun y hy => h y (List.mem_cons_of_mem (a := y) x hy)
    show f x + (l.map f).sum ≤ g x + (l.map g).sum
    omega
theorem N_sz : ∀ (n : Nat) (c : Cn), c.t.depth < n → N c ≤ Kn.sz c.t
  | 0, _, h => by omega
  | n + 1, c, h => by
    cases e : kids2 c with
    | none => rw [N_none e]; exact Kn.sz_pos _
    | some p =>
      rw [N_some e]
      have h1 := kid_sz e
      have h2 : ((p.1 ++ p.2).map N).sum ≤ ((p.1 ++ p.2).map fun q => Kn.sz q.t).sum := sum_le fun q hq => N_sz n q (by have := kid_dep e q hq; omega)
      omega
theorem H_dep : ∀ (n : Nat) (c : Cn), c.t.depth < n → Hh c ≤ c.t.depth + 1
  | 0, _, h => by omega
  | n + 1, c, h => by
    cases e : kids2 c with
    | none => rw [H_none e]; omega
    | some p =>
      rw [H_some e]
      have : mx ((p.1 ++ p.2).map Hh) ≤ c.t.depth := mx_le.mpr fun x hx => by
        obtain ⟨q, hq, rfl⟩ := List.mem_map.mp hx
        have h1 := kid_dep e q hq
        have h2 := H_dep n q (by omega)
        omega
      omega
/-- small ones are judged by their parts alone -/
theorem fin_small {c : Cn} (h1 : Kn.sz c.t ≤ 4000) (h2 : c.t.depth ≤ 99) : Fin 0 [(c, 1)] ↔ G c = true := by
  rw [fin_all]
  have := N_sz _ c (Nat.lt_succ_self _)
  have := H_dep _ c (Nat.lt_succ_self _)
  exact ⟨fun h => h.1, fun h => ⟨h, by omega, by omega⟩⟩
end Tk

namespace Tk
open PySem PySem.Spec PyProof.Rows L2
open Wt Kn Dc
mutual
def sm : PyData → Bool
  | .int i => decide (i.natAbs < 1048576)
  | .tuple ds => smAll ds
  | _ => true
def smAll : List PyData → Bool
  | [] => true
  | d :: ds => sm d && smAll ds
end
theorem sm_mem : ∀ {ds : List PyData} {d : PyData}, smAll ds = true → d ∈ ds → sm d = true
  | e :: ds, d, h, hm => by
    have h' : (sm e && smAll ds) = true := h
    rw [Bool.and_eq_true] at h'
    rcases List.mem_cons.mp hm with z | z
    · rw [z]; exact h'.1
    · exact sm_mem h'.2 z
theorem sm_all : ∀ {ds : List PyData}, (∀ d ∈ ds, sm d = true) → smAll ds = true
  | [], _ => rfl
  | e :: ds, h => by
    show (sm e && smAll ds) = true
    rw [h e (List.mem_cons_self ..), sm_all fun d hd => h d (List.mem_cons_of_mem _ hd)]
    rfl
/-- no tuple -/
def NoTup (u : HO) : Prop := (∀ xs, u ≠ .tup xs) ∧ ∀ o xs, u ≠ .frz o (.tup xs)
theorem noTup_lst (xs : List V) : NoTup (.lst xs) := ⟨fun _ z => (by cases z), fun _ _ z => (by cases z)⟩
theorem noTup_dK (xs : List (Key × V)) : NoTup (.dK xs) := ⟨fun _ z => (by cases z), fun _ _ z => (by cases z)⟩
/-- two addresses at which something stands that is no tuple -/
structure Av (H : Hp) (p g : Addr) : Prop where
  p : ∃ u, H p = some u ∧ NoTup u
  g : ∃ u, H g = some u ∧ NoTup u
theorem Av.same {H H' : Hp} {p g : Addr} (s : Same H H') (a : Av H p g) : Av H' p g := by
  obtain ⟨⟨u, hu, nu⟩, ⟨v, hv, nv⟩⟩ := a
  exact ⟨⟨u, s _ _ hu, nu⟩, ⟨v, s _ _ hv, nv⟩⟩
theorem Av.new {H : Hp} {p g r : Addr} {o : HO} (a : Av H p g) (hr : H r = none) : wo p g (upd H r o) r = some o := by
  obtain ⟨⟨u, hu, _⟩, ⟨v, hv, _⟩⟩ := a
  refine wo_at (fun z => ?_) (fun z => ?_) upd_same
  · rw [z, hu] at hr; cases hr
  · rw [z, hv] at hr; cases hr
theorem Av.tup {K : PySem.W.Frag} {H : Hp} {p g a : Addr} {xs : List V} (av : Av H p g) (h : SqT K H a xs) : SqT K (wo p g H) a xs := by
  obtain ⟨⟨u, hu, nu⟩, ⟨v, hv, nv⟩⟩ := av
  have off : ∀ o, H a = some o → ¬ NoTup o → wo p g H a = some o := fun o e no => wo_at (fun y => by
    rw [y, hu] at e
    cases e
    exact no nu) (fun y => by
    rw [y, hv] at e
    cases e
    exact no nv) e
  rcases h with (h | ⟨o, h⟩) | h
  · exact .inl (.inl (off _ h fun q => q.1 _ rfl))
  · exact .inl (.inr ⟨o, off _ h fun q => q.2 _ _ rfl⟩)
  · exact .inr h
theorem Av.kd {K : PySem.W.Frag} {H : Hp} {p g : Addr} (av : Av H p g) : ∀ {t : Kd} {x : V}, Dp K H x t.dat → Dp K (wo p g H) x t.dat
  | .num i, x, h => by
    cases h with
    | tup q r =>
      cases r with
      | cons h1 r =>
        cases r with
        | cons h2 r =>
          cases r
          cases h1
          cases h2
          exact .tup (av.tup q) (.cons (.str _) (.cons (.int _) .nil))
  | .to a b, x, h => by
    cases h with
    | tup q r =>
      cases r with
      | cons h1 r =>
        cases r with
        | cons h2 r =>
          cases r with
          | cons h3 r =>
            cases r
            cases h1
            exact .tup (av.tup q) (.cons (.str _) (.cons (av.kd h2) (.cons (av.kd h3) .nil)))
theorem Av.kdAll {K : PySem.W.Frag} {H : Hp} {p g : Addr} (av : Av H p g) : ∀ {ts : List Kd} {xs : List V}, DpAll K H xs (ts.map Kd.dat) → DpAll K (wo p g H) xs (ts.map Kd.dat)
  | [], _, h => by cases h; exact .nil
  | t :: ts, _, h => by
    cases h with
    | cons h1 h2 => exact .cons (av.kd h1) (av.kdAll h2)
theorem Av.kds {K : PySem.W.Frag} {H : Hp} {p g : Addr} (av : Av H p g) {ts : List Kd} {x : V} (h : Dp K H x (.tuple (ts.map Kd.dat))) : Dp K (wo p g H) x (.tuple (ts.map Kd.dat)) := by
  cases h with
  | tup q r => exact .tup (av.tup q) (av.kdAll r)
theorem Av.wo {H : Hp} {p g D : Addr} {u : HO} (av : Av H p g) (h0 : D ≠ p) (h1 : D ≠ g) (hD : H D = some u) (nu : NoTup u) : Av (wo p g H) D D := ⟨⟨u, wo_at h0 h1 hD, nu⟩, ⟨u, wo_at h0 h1 hD, nu⟩⟩
theorem Av.ne {H : Hp} {p g D : Addr} (av : Av H p g) (hD : H D = none) : D ≠ p ∧ D ≠ g := by
  obtain ⟨⟨u, hu, _⟩, ⟨v, hv, _⟩⟩ := av
  exact ⟨fun z => (by rw [z, hu] at hD; cases hD), fun z => (by rw [z, hv] at hD; cases hD)⟩
/-- a list is being made at D -/
def W2 (D p g : Addr) (H : Hp) : Hp := wo D D (wo p g H)
theorem w2_at {D p g b : Addr} {H : Hp} {o : HO} (h : b ≠ D) (e : wo p g H b = some o) : W2 D p g H b = some o := wo_at h h e
theorem w2_sub {D p g : Addr} {H : Hp} : Same (W2 D p g H) (wo p g H) := wo_sub
theorem w2_mono {D p g : Addr} {H H' : Hp} (s : Same H H') : Same (W2 D p g H) (W2 D p g H') := wo_mono (wo_mono s)
theorem w2_upd {D p g : Addr} {H : Hp} {o : HO} : Same (W2 D p g H) (W2 D p g (upd H D o)) := fun b u e => by
  obtain ⟨h1, _, h2⟩ := wo_inv e
  obtain ⟨h3, h4, h5⟩ := wo_inv h2
  exact w2_at h1 (wo_at h3 h4 (by rw [upd_ne h1]; exact h5))
theorem w2_in {D p g : Addr} {H0 H : Hp} (hD : H0 D = none) (s : Same H0 H) : Same (wo p g H0) (W2 D p g H) := fun b u e => by
  obtain ⟨h1, h2, h3⟩ := wo_inv e
  exact w2_at (fun z => by rw [z, hD] at h3; cases h3) (wo_at h1 h2 (s _ _ h3))
theorem w2_new {D p g r : Addr} {H : Hp} {o u : HO} (a : Av H p g) (hD : H D = some u) (hr : H r = none) : W2 D p g (upd H r o) r = some o :=
  w2_at (fun z => by rw [z, hD] at hr; cases hr) (a.new hr)
/-- the data of a waiting part -/
def cnD (c : Cn) : PyData := .tuple [c.t, .tuple (c.ts.map Kd.dat), .int c.k]
/-- what a def of parts gives back: None, or a new list of the parts -/
def Res (K : PySem.W.Frag) (p g : Addr) (o : Option (List Cn)) (H : Hp) (Q : VK) : Prop :=
  (o = none → ∀ H', Same H H' → Q .non H') ∧ ∀ ks, o = some ks → ∀ l vs H', Same H H' → H l = none → H' l = some (.lst vs) → DpAll K (wo p g H') vs (ks.map cnD) → Q (.ref l) H'
abbrev sPDraw : Stmt := Pre.top 28
abbrev nPDraw : List Str := ["rows", "things", "k", "row"]
theorem scPDraw : FnScope nPDraw ["rows", "things", "k"] (defScope sPDraw) := ⟨rfl, rfl, rfl, by decide +kernel, rfl, by decide +kernel, by decide +kernel⟩
/-- whether data is a row's pair -/
theorem posW_eq {w : PyData} : isPosW w = (Tw.isCP w && !PyData.eqv w (.tuple [.int 0, .int 1])) := by
  have other : (∀ c e, w ≠ .tuple [.int c, .int e]) → isPosW w = false ∧ Tw.isCP w = false := fun h => by
    constructor
    · unfold isPosW
      split
      · exact absurd rfl (h _ _)
      · rfl
    · unfold Tw.isCP
      split
      · exact absurd rfl (h _ _)
      · rfl
  by_cases hw : ∃ c e, w = .tuple [.int c, .int e]
  · obtain ⟨c, e, rfl⟩ := hw
    show (isWt (.tuple [.int c, .int e]) && decide (0 < c)) = ((isWt (.tuple [.int c, .int e]) && decide (0 ≤ c)) && !((c == 0) && ((e == 1) && true)))
    cases hw : isWt (.tuple [.int c, .int e]) with
    | false => rfl
    | true =>
      rw [Bool.true_and, Bool.true_and, Bool.and_true]
      have hp : 1 ≤ e := isW_pos (u := (c, e)) hw
      have g2 : (decide (1 ≤ e) && (gI c e == 1)) = true := hw
      rw [Bool.and_eq_true] at g2
      have g3 : gI c e = 1 := by simpa using g2.2
      by_cases h0 : c = 0
      · subst h0
        have : e = 1 := by
          unfold gI at g3
          rw [Int.gcd_zero_left] at g3
          omega
        subst this
        rfl
      · have : (c == 0) = false := by simpa using h0
        rw [this]
        by_cases h1 : 0 < c
        · rw [decide_eq_true h1, decide_eq_true (show 0 ≤ c by omega)]
          rfl
        · rw [decide_eq_false h1, decide_eq_false (show ¬ 0 ≤ c by omega)]
          rfl
  · obtain ⟨h1, h2⟩ := other fun c e z => hw ⟨c, e, z⟩
    rw [h1, h2]
    rfl
theorem isCP_pair {d : PyData} (h : Tw.isCP d = true) : ∃ c e, d = .tuple [.int c, .int e] ∧ isWt (.tuple [.int c, .int e]) = true ∧ 0 ≤ c := by
  unfold Tw.isCP at h
  split at h
  · rw [Bool.and_eq_true] at h
    exact ⟨_, _, rfl, h.1, of_decide_eq_true h.2⟩
  · cases h
theorem isRow_tup {r : PyData} (h : isTupN 2 r = false) : isRow r = false := by
  cases q : isRow r with
  | false => rfl
  | true =>
    obtain ⟨c, e, t, rfl, _, _⟩ := row_of q
    cases h
theorem rows_ws {K : PySem.W.Frag} {H : Hp} : ∀ {xs : List V} {rows : List PyData}, DpAll K H xs rows → rows.all isRow = true → ∀ (i : Nat) (x : V), xs[i]? = some x → ∃ a y b c e t, x = .ref a ∧ rows[i]? = some (.tuple [.tuple [.int c, .int e], t]) ∧ SqT K H a [.ref b, y] ∧ At K H b (c, e) ∧ Dp K H y t ∧ isW (c, e) ∧ 0 < c := by
  intro xs rows hD hr i x hx
  obtain ⟨d, hd, hdp⟩ := dpAll_at hD hx
  have := List.all_eq_true.mp hr d (List.mem_of_getElem? hd)
  obtain ⟨c, e, t, rfl, h1, h2⟩ := row_of this
  cases hdp with
  | tup q r =>
    cases r with
    | cons w1 r => cases r with
      | cons w2 r =>
        cases r
        cases w1 with
        | tup q2 r2 =>
          cases r2 with
          | cons v1 r2 => cases r2 with
            | cons v2 r2 =>
              cases r2
              cases v1
              cases v2
              exact ⟨_, _, _, c, e, t, rfl, hd, q, q2, w2, h1, h2⟩
theorem sm_row {c e : Int} {t : PyData} (h : sm (.tuple [.tuple [.int c, .int e], t]) = true) : Wt.sz 300 (c, e) := by
  have h1 : sm (.tuple [.int c, .int e]) = true := sm_mem (ds := [.tuple [.int c, .int e], t]) h (by simp)
  have h2 : sm (.int c) = true := sm_mem (ds := [.int c, .int e]) h1 (by simp)
  have h3 : sm (.int e) = true := sm_mem (ds := [.int c, .int e]) h1 (by simp)
  have h2' : c.natAbs < 1048576 := of_decide_eq_true h2
  have h3' : e.natAbs < 1048576 := of_decide_eq_true h3
  have : 1048576 ≤ 2 ^ 300 := by
    have : (1048576 : Nat) = 2 ^ 20 := by decide
    rw [this]
    exact Nat.pow_le_pow_right (by decide) (by decide)
  exact ⟨by show c.natAbs < 2 ^ 300; omega, by show e.natAbs < 2 ^ 300; omega⟩
section
variable {P0 : Program} {w : World} {K : PySem.W.Frag} {mg : Str → Option Value} {base : Heap}
def spPDraw (K : PySem.W.Frag) : Sp := fun vs H Q _ => ∃ (x y : V) (d : PyData) (ts : List Kd) (k : Int) (p g : Addr), vs = [x, y, .int k] ∧ Av H p g ∧ Dp K (wo p g H) x d ∧ Dp K (wo p g H) y (.tuple (ts.map Kd.dat)) ∧ sm d = true ∧
  Res K p g ((drawK ts k d).map fun q => q.1 ++ q.2) H Q
structure PDr (P0 : Program) (w : World) (K : PySem.W.Frag) (mg : Str → Option Value) (fT fP fB fS z1 z0 : Addr) (dT dP dB dS : FuncData) (t1 : Tok) : Prop where
  T : TxtW mg
  za : mg "all" = none
  six : mg "MOST_NUMBERS" = some (.int 6 t1)
  FT : Fun K "is_tuple_of" "is_tuple_of" sIsTup fT dT
  mT : mg "is_tuple_of" = some (.ref fT)
  GP : ∀ base, FnOk P0 w K mg base CX0 3 fP dP ["value"] (Tw.spCPart K)
  FP : Fun K "is_chance_part" "is_chance_part" Tw.sCPart fP dP
  mP : mg "is_chance_part" = some (.ref fP)
  FB : Fun K "lies_below" "lies_below" sBelow fB dB
  mB : mg "lies_below" = some (.ref fB)
  GS : ∀ base, FnOk P0 w K mg base CX0 3 fS dS ["weights"] (spTotal K SqL)
  FS : Fun K "total" "total" sTotal fS dS
  mS : mg "total" = some (.ref fS)
  m1 : mg "ALL" = some (.ref z1)
  h1 : ∀ H, At K H z1 (1, 1)
  m0 : mg "NOTHING" = some (.ref z0)
  h0 : ∀ H, At K H z0 (0, 1)
set_option maxHeartbeats 2000000 in
theorem ok_pdraw {f fT fP fB fS z1 z0 : Addr} {fd dT dP dB dS : FuncData} {t1 : Tok} (F : Fun K "_parts_of_draw" "_parts_of_draw" sPDraw f fd) (M : PDr P0 w K mg fT fP fB fS z1 z0 dT dP dB dS t1) : FnOk P0 w K mg base CX0 4 f fd ["rows", "things", "k"] (spPDraw K) := by
  have GT : FnOk P0 w K mg base CX0 1 fT dT ["value", "many"] (spTup K) := ok_tup M.FT M.T
  have GP := M.GP base
  have GB : FnOk P0 w K mg base CX0 1 fB dB ["one", "other"] (spBelow K) := ok_below M.FB
  have GS := M.GS base
  have bT := M.FT.binds (ps := ["value", "many"]) fun _ _ _ _ _ _ us hl => match us, hl with | [_, _], _ => rfl
  have bP := M.FP.binds (ps := ["value"]) fun _ _ _ _ _ _ us hl => match us, hl with | [_], _ => rfl
  have bB := M.FB.binds (ps := ["one", "other"]) fun _ _ _ _ _ _ us hl => match us, hl with | [_, _], _ => rfl
  have bS := M.FS.binds (ps := ["weights"]) fun _ _ _ _ _ _ us hl => match us, hl with | [_], _ => rfl
  refine F.ok scPDraw (fun vs H Q E h => ?_) (fun cdv A outer s H vs Q E hr h => ?_)
  · obtain ⟨x, y, d, ts, k, p, g, rfl, _⟩ := h
    rfl
  · obtain ⟨x, y, d, ts, k, p, g, rfl, av, hd, hy, hsm, hno, hyes⟩ := h
    have nd := scPDraw.nd
    have hr1 : Room 1 _ := hr.mono (by decide)
    have hr3 : Room 3 _ := hr.mono (by decide)
    refine ⟨_, pss_cons (ps_if (PW.pt (pw_or (pt_not (pt_val (pe_callB call_isi (by rfl) M.T.isi (by decide +kernel) (pa_cons (pv 0) (pa_cons (pe_bltn (v := .ty "tuple") (by rfl) M.T.tuple (by decide +kernel) rfl) pa_nil)))))
          (pw_or1 (pt_not (pt_chain op_le op_le pe_int (pe_callB call_len_seq (by rfl) M.T.len PySem.boot_len (pa_cons (pv 0) pa_nil)) (pe_glob (v := .int 6) (by rfl) M.six ⟨_, rfl⟩))))))
        (pss_one (ps_ret pe_non)) pss_nil)
      (pss_cons (ps_if (pt_not (pt_val (pe_callB (cr_all rfl) (by rfl) M.za (by decide +kernel) (pa_cons
          (pe_lc (own := [("row", 3)]) (g := gName 3) (tt := tYes) rfl nd (pi_tup (pv 0)) (blkOk_by (own := [("row", 3)]) (N := nPDraw) (sc := defScope sPDraw) (by decide +kernel)) (fun _ _ _ _ _ => pg_name (i := 3) nd rfl (Or.inl rfl)) (fun _ _ _ _ _ => pts_nil)
            (fun _ _ _ _ _ => pe_and (pe_call GT hr1 (by rfl) M.mT M.FT.kp bT .nil pass0 (pa_cons (pv 3) (pa_cons pe_int pa_nil))) (pe_and (pe_call GP hr3 (by rfl) M.mP M.FP.kp bP .nil pass0 (pa_cons (pe_ix (show IxR _ (rIxT K) from ix_tup) (pv 3) pe_int (fun _ _ => rfl)) pa_nil)) (pe_one (pe_cmpR (show OpR _ (compareOp .NotEq) (rNeD K) from op_neD hr.units) (pe_ix (show IxR _ (rIxT K) from ix_tup) (pv 3) pe_int (fun _ _ => rfl)) (pe_glob (v := .ref z0) (by rfl) M.m0 rfl) (nomark _)))))) pa_nil)))) (pss_one (ps_ret pe_non)) pss_nil)
      (pss_cons (ps_if (pt_val (pe_call GB hr1 (by rfl) M.mB M.FB.kp bB .nil pass0 (pa_cons (pe_glob (v := .ref z1) (by rfl) M.m1 rfl) (pa_cons (pe_call GS hr3 (by rfl) M.mS M.FS.kp bS .nil pass0 (pa_cons
          (pe_lc (own := [("row", 3)]) (g := gName 3) (tt := tYes) rfl nd (pi_tup (pv 0)) (blkOk_by (own := [("row", 3)]) (N := nPDraw) (sc := defScope sPDraw) (by decide +kernel)) (fun _ _ _ _ _ => pg_name (i := 3) nd rfl (Or.inl rfl)) (fun _ _ _ _ _ => pts_nil)
            (fun _ _ _ _ _ => pe_ix (show IxR _ (rIxT K) from ix_tup) (pv 3) pe_int (fun _ _ => rfl))) pa_nil)) pa_nil)))) (pss_one (ps_ret pe_non)) pss_nil)
      (pss_one (ps_ret (pe_lc (own := [("row", 3)]) (g := gName 3) (tt := tYes) rfl nd (pi_tup (pv 0)) (blkOk_by (own := [("row", 3)]) (N := nPDraw) (sc := defScope sPDraw) (by decide +kernel)) (fun _ _ _ _ _ => pg_name (i := 3) nd rfl (Or.inl rfl)) (fun _ _ _ _ _ => pts_nil)
            (fun _ _ _ _ _ => pe_tup (pa_cons (pe_ix (show IxR _ (rIxT K) from ix_tup) (pv 3) pe_int (fun _ _ => rfl)) (pa_cons (pv 1) (pa_cons (pv 2) pa_nil)))))))) ), ?_⟩
    have hdH := dp_same wo_sub hd
    have ty := ty_of hdH
    have noT : ∀ {b : Bool}, (∀ ds, d ≠ .tuple ds) → drawK ts k d = none := fun {b} h => by
      unfold drawK
      split
      · exact absurd rfl (h _)
      · rfl
    rcases tup_or hd with ⟨a, xs, rows, rfl, rfl, hxG, hDG⟩ | ⟨ht, _⟩
    rotate_left
    · have hnt : ∀ ds, d ≠ .tuple ds := fun ds e => by
        subst e
        exact absurd (show kitB "tuple" "tuple" = some false from ht) (by decide +kernel)
      have e := noT (b := true) hnt
      rw [e] at hno
      refine ⟨_, rfl, _, _, _, _, false, rfl, .ty _, ty, kit_ty (b := "tuple") ht, _, rfl, iteT (iteT (hno rfl H (Same.refl _)))⟩
    · have hx := sqT_same wo_sub hxG
      have hD := dpAll_same wo_sub hDG
      have hlen := dpAll_len hD
      have dk : drawK ts k (.tuple rows) = if rowsOk rows = true then some ([], rows.map fun r => ⟨rowT r, ts, k⟩) else none := rfl
      have bad : rowsOk rows = false → ∀ H', Same H H' → Q .non H' := fun h => hno (by rw [dk, h]; rfl)
      refine ⟨_, rfl, _, _, _, _, true, rfl, .ty _, ty, kit_ty (a := "tuple") (b := "tuple") (by decide +kernel), _, rfl, iteF ?_⟩
      refine ⟨_, rfl, a, xs, rfl, .inr hx, _, _, rfl, rfl, _, rfl, ?_⟩
      by_cases n1 : (1 : Int) ≤ (xs.length : Int)
      rotate_left
      · rw [decide_eq_false n1]
        refine iteF ⟨_, rfl, iteT (bad ?_ H (Same.refl _))⟩
        unfold rowsOk
        rw [decide_eq_false (show ¬ 1 ≤ rows.length by omega)]
        rfl
      rw [decide_eq_true n1]
      refine iteT ⟨_, _, rfl, rfl, _, rfl, ?_⟩
      by_cases n2 : (xs.length : Int) ≤ 6
      rotate_left
      · rw [decide_eq_false n2]
        refine iteT (bad ?_ H (Same.refl _))
        unfold rowsOk
        rw [decide_eq_false (show ¬ rows.length ≤ 6 by omega), Bool.and_false]
        rfl
      rw [decide_eq_true n2]
      refine iteF ?_
      -- all rows are pairs of a weight and what follows
      refine ⟨_, rfl, a, rfl, ⟨_, hx⟩, fun D hDn => lc_tup (K := K) (a := a) (xs := xs) (fun i H' => Same H H' ∧ H' D = some (.lst (((rows.take i).map isRow).map V.bl))) ⟨Pre.same_upd hDn, by rw [upd_same]; rfl⟩ (fun i H' _ ⟨s3, _⟩ => sqT_same s3 hx) ?_ ?_⟩
      · rintro i x H' hxi ⟨s3, hd3⟩
        obtain ⟨r, hri, hrx⟩ := dpAll_at hD hxi
        have hlt : i < rows.length := (List.getElem?_eq_some_iff.mp hri).1
        have fin : ∀ b : Bool, b = isRow r → ∃ acc, H' D = some (.lst acc) ∧ acc.length < sizeLine ∧ (Same H (upd H' D (.lst (acc ++ [.bl b]))) ∧ upd H' D (.lst (acc ++ [.bl b])) D = some (.lst (((rows.take (i + 1)).map isRow).map V.bl))) := fun b hb => by
          refine ⟨_, hd3, ?_, fun b o e => ?_, ?_⟩
          · rw [List.length_map, List.length_map, List.length_take]
            exact Nat.lt_of_le_of_lt (Nat.min_le_left _ _) (Nat.lt_of_lt_of_le (show i < 6 by omega) (by decide))
          · rw [upd_ne (ne_of_none e hDn)]
            exact s3 _ _ e
          · rw [upd_same, List.take_succ, hri, hb]
            simp
        have hr3 := dp_same s3 hrx
        cases h2 : isTupN 2 r with
        | false => exact ⟨rfl, _, rfl, x, r, 2, rfl, hr3, _, rfl, by rw [h2]; exact iteF (fin false (isRow_tup h2).symm)⟩
        | true =>
          obtain ⟨b, x1, x2, d1, d2, rfl, rfl, q, w1, w2⟩ := tup2 hr3 h2
          have ei : isRow (.tuple [d1, d2]) = isPosW d1 := rfl
          refine ⟨rfl, _, rfl, .ref b, _, 2, rfl, hr3, _, rfl, iteT ⟨_, rfl, b, _, _, _, rfl, rfl, q, atI_nat (j := 0) rfl, x1, d1, rfl, w1, _, rfl, ?_⟩⟩
          cases h3 : Tw.isCP d1 with
          | false => exact iteF (fin false (by rw [ei, posW_eq, h3]; rfl))
          | true =>
            obtain ⟨c', e', rfl, _, _⟩ := isCP_pair h3
            refine iteT ⟨_, rfl, b, _, _, _, rfl, rfl, q, atI_nat (j := 0) rfl, _, _, w1, at_dp (M.h0 H'), rfl, rfl, ?_⟩
            exact fin _ (by rw [ei, posW_eq, h3]; rfl)
      · rintro H2 ⟨s2, hd2⟩
        refine ⟨D, (rows.take xs.length).map isRow, rfl, SqL.of hd2, _, rfl, ?_⟩
        have e2 : ((rows.take xs.length).map isRow).all id = rows.all isRow := by
          rw [hlen, List.take_length, List.all_map]
          rfl
        rw [e2]
        cases hall : rows.all isRow with
        | false =>
          refine iteT (bad ?_ H2 s2)
          unfold rowsOk
          rw [hall, Bool.false_and, Bool.and_false]
        | true =>
          refine iteF ?_
          have hrw := rows_ws hD hall
          have hsz : ∀ u ∈ rows.map rowW, Wt.sz 300 u ∧ 1 ≤ u.2 := fun u hu => by
            obtain ⟨r, hr', rfl⟩ := List.mem_map.mp hu
            obtain ⟨c', e', t', rfl, hw, _⟩ := row_of (List.all_eq_true.mp hall r hr')
            exact ⟨sm_row (sm_mem (ds := rows) hsm hr'), isW_pos hw⟩
          -- the sum
          refine ⟨_, rfl, a, rfl, ⟨_, sqT_same s2 hx⟩, fun D2 hDn2 => lc_tup (K := K) (a := a) (xs := xs) (fun i H' => Same H2 H' ∧ ∃ acc, H' D2 = some (.lst acc) ∧ acc.length = i ∧ ∀ (j : Nat) u, j < i → (rows.map rowW)[j]? = some u → ∃ b, acc[j]? = some (.ref b) ∧ At K H b u)
            ⟨Pre.same_upd hDn2, [], upd_same, rfl, fun j u h => by omega⟩ (fun i H' _ ⟨s3, _⟩ => sqT_same (s2.trans s3) hx) ?_ ?_⟩
          · rintro i x H' hxi ⟨s3, acc, hacc, hal, hat⟩
            obtain ⟨a', y', b', c', e', t', rfl, hri, q, hb', _, _, _⟩ := hrw i x hxi
            refine ⟨rfl, _, rfl, a', _, _, _, rfl, rfl, sqT_same (s2.trans s3) q, atI_nat (j := 0) rfl, acc, hacc, Nat.lt_of_lt_of_le (show acc.length < 10 by have := (List.getElem?_eq_some_iff.mp hxi).1; omega) (by decide), fun b o e => ?_, acc ++ [.ref b'], upd_same, by rw [List.length_append, hal]; rfl, fun j u hj hu => ?_⟩
            · rw [upd_ne (ne_of_none e hDn2)]
              exact s3 _ _ e
            · rcases Nat.lt_or_ge j i with hji | hji
              · obtain ⟨b, h1, h2⟩ := hat j u hji hu
                exact ⟨b, by rw [List.getElem?_append_left (by omega)]; exact h1, h2⟩
              · have ej : j = i := by omega
                subst ej
                rw [List.getElem?_map, hri] at hu
                cases hu
                exact ⟨b', by rw [List.getElem?_append_right (by omega), hal, Nat.sub_self]; rfl, hb'⟩
          · rintro H3 ⟨s3, acc, hacc, hal, hat⟩
            have s13 := s2.trans s3
            have hml : (rows.map rowW).length = rows.length := List.length_map ..
            refine ⟨D2, acc, rows.map rowW, rfl, SqL.of hacc, ⟨by rw [hal, hml, hlen], fun j u hu => ?_⟩, by rw [hml]; omega, hsz, fun q H4 s4 hq => ?_⟩
            · obtain ⟨b, h1, h2⟩ := hat j u (by have := (List.getElem?_eq_some_iff.mp hu).1; omega) hu
              exact ⟨b, h1, sqT_same s13 h2⟩
            have s14 := s13.trans s4
            have ti := tot_inv hsz (rows.map rowW).length (Nat.le_refl _)
            rw [List.take_length] at ti
            have ti2 : 1 + 301 * (rows.map rowW).length ≤ 2000 := by rw [hml]; omega
            refine ⟨z1, q, (1, 1), tot (rows.map rowW), 2, 2000, rfl, M.h1 H4, hq, ⟨by decide, by decide⟩, sz_mono ti.1 ti2, by decide, by decide, by decide, _, rfl, ?_⟩
            have eb : belowW (1, 1) (tot (rows.map rowW)) = !leOne rows := by
              show decide (1 * (tot (rows.map rowW)).2 < (tot (rows.map rowW)).1 * 1) = !decide ((tot (rows.map rowW)).1 ≤ (tot (rows.map rowW)).2)
              rw [Int.one_mul, Int.mul_one]
              by_cases h : (tot (rows.map rowW)).1 ≤ (tot (rows.map rowW)).2
              · rw [decide_eq_true h, decide_eq_false (by omega)]
                rfl
              · rw [decide_eq_false h, decide_eq_true (by omega)]
                rfl
            rw [eb]
            cases hle : leOne rows with
            | false =>
              refine iteT (bad ?_ H4 s14)
              unfold rowsOk
              rw [hle, Bool.and_false, Bool.and_false]
            | true =>
              refine iteF ?_
              have hok : rowsOk rows = true := by
                unfold rowsOk
                rw [hall, hle, decide_eq_true (show 1 ≤ rows.length by omega), decide_eq_true (show rows.length ≤ 6 by omega)]
                rfl
              have ks_ := hyes ((rows.map fun r => (⟨rowT r, ts, k⟩ : Cn))) (by rw [dk, hok]; rfl)
              refine ⟨_, rfl, a, rfl, ⟨_, sqT_same s14 hx⟩, fun D3 hDn3 => lc_tup (K := K) (a := a) (xs := xs) (fun i H' => Same H4 H' ∧ ∃ acc, H' D3 = some (.lst acc) ∧ acc.length = i ∧ DpAll K (W2 D3 p g H') acc ((rows.take i).map fun r => cnD ⟨rowT r, ts, k⟩))
                ⟨Pre.same_upd hDn3, [], upd_same, rfl, .nil⟩ (fun i H' _ ⟨s5, _⟩ => sqT_same (s14.trans s5) hx) ?_ ?_⟩
              · rintro i x H' hxi ⟨s5, acc, hacc, hal, hdp⟩
                have s15 := s14.trans s5
                have hil := (List.getElem?_eq_some_iff.mp hxi).1
                obtain ⟨a', y', b', c', e', t', rfl, hri, qG, _, hy2, _, _⟩ := rows_ws hDG hall i x hxi
                have q := sqT_same wo_sub qG
                refine ⟨rfl, _, rfl, a', _, _, _, rfl, rfl, sqT_same s15 q, atI_nat (j := 1) rfl, _, rfl, _, rfl, by show 3 ≤ sizeLine; decide, fun tp htp => ?_⟩
                have s6 := Pre.same_upd (o := .tup [y', y, .int k]) htp
                have hDt : D3 ≠ tp := fun z => by
                  rw [← z, hacc] at htp
                  cases htp
                have av' := av.same s15
                have hin : Same (wo p g H) (W2 D3 p g (upd (upd H' tp (.tup [y', y, .int k])) D3 (.lst (acc ++ [.ref tp])))) := ((wo_mono s14).trans (w2_in hDn3 (s5.trans s6))).trans w2_upd
                refine ⟨acc, by rw [upd_ne hDt]; exact hacc, Nat.lt_of_lt_of_le (show acc.length < 10 by omega) (by decide), fun b o e => ?_, acc ++ [.ref tp], upd_same, by rw [List.length_append, hal]; rfl, ?_⟩
                · rw [upd_ne (ne_of_none e hDn3)]
                  exact s6 _ _ (s5 _ _ e)
                · have eT : ((rows.take (i + 1)).map fun r => cnD ⟨rowT r, ts, k⟩) = ((rows.take i).map fun r => cnD ⟨rowT r, ts, k⟩) ++ [cnD ⟨t', ts, k⟩] := by
                    rw [List.take_succ, hri, List.map_append]
                    rfl
                  rw [eT]
                  refine dpAll_snoc (dpAll_same ((w2_mono s6).trans w2_upd) hdp) ?_
                  exact .tup (SqT.of (w2_upd _ _ (w2_new av' hacc htp))) (.cons (dp_same hin hy2) (.cons (dp_same hin hy) (.cons (.int k) .nil)))
              · rintro H5 ⟨s5, acc, hacc, hal, hdp⟩
                rw [hlen, List.take_length] at hdp
                refine ks_ D3 acc H5 (s14.trans s5) (s14.free hDn3) hacc ?_
                rw [List.map_map]
                exact dpAll_same w2_sub hdp
end
end Tk

namespace Tk
open PySem PySem.Spec PyProof.Rows L2
open Wt Kn Dc
abbrev sPAsk : Stmt := Pre.top 29
abbrev nPAsk : List Str := ["value", "things", "k", "_", "thing", "handed", "rows", "kinds", "many", "found", "part", "kind", "own", "answer"]
theorem scPAsk : FnScope nPAsk ["value", "things", "k"] (defScope sPAsk) := ⟨rfl, rfl, rfl, by decide +kernel, rfl, by decide +kernel, by decide +kernel⟩
theorem kds_tup {K : PySem.W.Frag} {H : Hp} {y : V} {ds : List PyData} (h : Dp K H y (.tuple ds)) : ∃ a xs, y = .ref a ∧ SqT K H a xs ∧ DpAll K H xs ds := by
  cases h with
  | tup q r => exact ⟨_, _, rfl, q, r⟩
theorem dpAll_app {K : PySem.W.Frag} {H : Hp} : ∀ {xs ys : List V} {ds es : List PyData}, DpAll K H xs ds → DpAll K H ys es → DpAll K H (xs ++ ys) (ds ++ es)
  | _, _, _, _, .nil, h => h
  | _, _, _, _, .cons a r, h => .cons a (dpAll_app r h)
theorem askH_take {ts : List Kd} {a : Kd} {hs : List PyData} {i : Nat} {h : PyData} {kd : Kd} (h1 : hs[i]? = some h) (h2 : a.args[i]? = some kd) : (askH ts a hs).take (i + 1) = (askH ts a hs).take i ++ [⟨h, ts ++ kd.args, kd.ans⟩] := by
  have : (askH ts a hs)[i]? = some ⟨h, ts ++ kd.args, kd.ans⟩ := by
    unfold askH
    rw [List.getElem?_zipWith, h1, h2]
  rw [List.take_succ, this]
  rfl
theorem nums_arg : ∀ {t u : Kd}, u ∈ t.args → u.nums ≤ t.nums
  | .to a b, u, h => by
    rcases List.mem_cons.mp (show u ∈ a :: b.args from h) with z | z
    · rw [z]
      show a.nums ≤ a.nums + b.nums
      omega
    · have := nums_arg z
      show u.nums ≤ a.nums + b.nums
      omega
theorem args_few : ∀ t : Kd, t.args.length + 1 ≤ t.nums
  | .num _ => Nat.le_refl _
  | .to a b => by
    have := args_few b
    have := nums_pos a
    show (a :: b.args).length + 1 ≤ a.nums + b.nums
    simp only [List.length_cons]
    omega
theorem askK_inv {ts : List Kd} {k : Int} {d1 d2 d3 : PyData} {q : List Cn × List Cn} (h : askK ts k d1 d2 d3 = some q) : ∃ v a hs rs, d1 = .int v ∧ d2 = .tuple hs ∧ d3 = .tuple rs ∧ 0 ≤ v ∧ ts[v.toNat]? = some a ∧ hs.length = a.args.length ∧ (rs.length : Int) = a.ans := by
  unfold askK at h
  split at h
  · split at h
    · rename_i h0
      split at h
      · rename_i a ha
        unfold askA at h
        split at h
        · rename_i hl
          exact ⟨_, a, _, _, rfl, rfl, rfl, h0, ha, hl.1, hl.2⟩
        · cases h
      · cases h
    · cases h
  · cases h
theorem askK_is {ts : List Kd} {k : Int} {n : Nat} {a : Kd} {hs rs : List PyData} (ha : ts[n]? = some a) (h1 : hs.length = a.args.length) (h2 : (rs.length : Int) = a.ans) : askK ts k (.int (n : Int)) (.tuple hs) (.tuple rs) = some (askH ts a hs, rs.map fun r => ⟨r, ts, k⟩) := by
  show (if 0 ≤ (n : Int) then (match ts[((n : Nat) : Int).toNat]? with
    | some a => askA ts k a hs rs
    | none => none) else none) = _
  rw [if_pos (by omega), Int.toNat_natCast, ha]
  show askA ts k a hs rs = _
  unfold askA
  rw [if_pos ⟨h1, h2⟩]
section
variable {P0 : Program} {w : World} {K : PySem.W.Frag} {mg : Str → Option Value} {base : Heap}
def spPAsk (K : PySem.W.Frag) : Sp := fun vs H Q _ => ∃ (x y : V) (d0 d1 d2 d3 : PyData) (ts : List Kd) (k : Int) (p g : Addr), vs = [x, y, .int k] ∧ Av H p g ∧ Dp K (wo p g H) x (.tuple [d0, d1, d2, d3]) ∧ Dp K (wo p g H) y (.tuple (ts.map Kd.dat)) ∧ (∀ t ∈ ts, t.nums ≤ 40 ∧ t.good) ∧ ts.length ≤ 4000 ∧
  Res K p g ((askK ts k d1 d2 d3).map fun q => q.1 ++ q.2) H Q
structure PAk (K : PySem.W.Frag) (mg : Str → Option Value) (fT fW fA : Addr) (dT dW dA : FuncData) : Prop where
  T : TxtW mg
  zz : mg "zip" = none
  FT : Fun K "is_tuple_of" "is_tuple_of" sIsTup fT dT
  mT : mg "is_tuple_of" = some (.ref fT)
  FW : Fun K "is_whole" "is_whole" sIsWhole fW dW
  mW : mg "is_whole" = some (.ref fW)
  FA : Fun K "arguments_and_answer" "arguments_and_answer" sArgAns fA dA
  mA : mg "arguments_and_answer" = some (.ref fA)
set_option maxHeartbeats 2000000 in
theorem ok_pask {f fT fW fA : Addr} {fd dT dW dA : FuncData} (F : Fun K "_parts_of_ask" "_parts_of_ask" sPAsk f fd) (M : PAk K mg fT fW fA dT dW dA) : FnOk P0 w K mg base CX0 2 f fd ["value", "things", "k"] (spPAsk K) := by
  have GT : FnOk P0 w K mg base CX0 1 fT dT ["value", "many"] (spTup K) := ok_tup M.FT M.T
  have GW : FnOk P0 w K mg base CX0 1 fW dW ["value"] (spWhole K) := ok_whole M.FW M.T
  have GA : FnOk P0 w K mg base CX0 1 fA dA ["kind"] (spArgAns K) := ok_argans M.FA M.T
  have bT := M.FT.binds (ps := ["value", "many"]) fun _ _ _ _ _ _ us hl => match us, hl with | [_, _], _ => rfl
  have bW := M.FW.binds (ps := ["value"]) fun _ _ _ _ _ _ us hl => match us, hl with | [_], _ => rfl
  have bA := M.FA.binds (ps := ["kind"]) fun _ _ _ _ _ _ us hl => match us, hl with | [_], _ => rfl
  refine F.ok scPAsk (fun vs H Q E h => ?_) (fun cdv A outer s H vs Q E hr h => ?_)
  · obtain ⟨x, y, d0, d1, d2, d3, ts, k, p, g, rfl, _⟩ := h
    rfl
  · obtain ⟨x, y, d0, d1, d2, d3, ts, k, p, g, rfl, av, hx, hy, hts, htl, hno, hyes⟩ := h
    have nd := scPAsk.nd
    apply Exists.intro
    apply And.intro
    · apply pss_cons
      · exact ps_asg (pv 0) (pg_tup (by rfl) (pgs_cons (pg_name (i := 3) nd rfl (Or.inl rfl)) (pgs_cons (pg_name (i := 4) nd rfl (Or.inl rfl)) (pgs_cons (pg_name (i := 5) nd rfl (Or.inl rfl)) (pgs_cons (pg_name (i := 6) nd rfl (Or.inl rfl)) pgs_nil)))))
      apply pss_cons
      · exact ps_if (PW.pt (pw_or (pt_not (pt_val (pe_call GW hr (by rfl) M.mW M.FW.kp bW .nil pass0 (pa_cons (pv 4) pa_nil)))) (pw_or1 (pt_not (pt_chain op_le op_lt pe_int (pv 4) (pe_callB call_len_seq (by rfl) M.T.len PySem.boot_len (pa_cons (pv 1) pa_nil))))))) (pss_one (ps_ret pe_non)) pss_nil
      apply pss_cons
      · exact ps_asg (pe_call GA hr (by rfl) M.mA M.FA.kp bA .nil pass0 (pa_cons (pe_ix ix_tup (pv 1) (pv 4) (fun _ _ => rfl)) pa_nil)) (pg_tup (by rfl) (pgs_cons (pg_name (i := 7) nd rfl (Or.inl rfl)) (pgs_cons (pg_name (i := 8) nd rfl (Or.inl rfl)) pgs_nil)))
      apply pss_cons
      · exact ps_if (PW.pt (pw_or (pt_not (pt_val (pe_call GT hr (by rfl) M.mT M.FT.kp bT .nil pass0 (pa_cons (pv 5) (pa_cons (pe_callB call_len_seq (by rfl) M.T.len PySem.boot_len (pa_cons (pv 7) pa_nil)) pa_nil))))) (pw_or1 (pt_not (pt_val (pe_call GT hr (by rfl) M.mT M.FT.kp bT .nil pass0 (pa_cons (pv 6) (pa_cons (pv 8) pa_nil)))))))) (pss_one (ps_ret pe_non)) pss_nil
      apply pss_cons
      · exact ps_set (i := 9) nd rfl (Or.inl rfl) (pe_lst pa_nil)
      apply pss_cons
      · exact ps_for PassesOwn.never rfl (RZ.pi_zipA (by rfl) M.zz (pa_cons (pv 5) (pa_cons (pv 7) pa_nil))) (pg_tup (by rfl) (pgs_cons (pg_name (i := 10) nd rfl (Or.inl rfl)) (pgs_cons (pg_name (i := 11) nd rfl (Or.inl rfl)) pgs_nil)))
          (pss_cons (ps_asg (pe_call GA hr (by rfl) M.mA M.FA.kp bA .nil pass0 (pa_cons (pv 11) pa_nil)) (pg_tup (by rfl) (pgs_cons (pg_name (i := 12) nd rfl (Or.inl rfl)) (pgs_cons (pg_name (i := 13) nd rfl (Or.inl rfl)) pgs_nil))))
          (pss_one (ps_expr (pe_bm PySem.F.plainAttrs_list PySem.F.slot_list_append PySem.F.type_list_append mt_append (pv 9) (pa_cons (pe_tup (pa_cons (pv 10) (pa_cons (pe_op op_catA (pv 1) (pv 12)) (pa_cons (pv 13) pa_nil)))) pa_nil)))))
      exact pss_one (ps_ret (pe_op op_cat (pv 9) (pe_lc (own := [("part", 10)]) (g := gName 10) (tt := tYes) rfl nd (pi_tup (pv 6)) (blkOk_by (own := [("part", 10)]) (N := nPAsk) (sc := defScope sPAsk) (by decide +kernel)) (fun _ _ _ _ _ => pg_name (i := 10) nd rfl (Or.inl rfl)) (fun _ _ _ _ _ => pts_nil)
            (fun _ _ _ _ _ => pe_tup (pa_cons (pv 10) (pa_cons (pv 1) (pa_cons (pv 2) pa_nil)))))))
    have none_of : (∀ v a hs rs, d1 = .int v → d2 = .tuple hs → d3 = .tuple rs → 0 ≤ v → ts[v.toNat]? = some a → hs.length = a.args.length → (rs.length : Int) = a.ans → False) → ∀ H', Same H H' → Q .non H' := fun h => hno (by
      cases hq : askK ts k d1 d2 d3 with
      | none => rfl
      | some q =>
        obtain ⟨v, a, hs, rs, e1, e2, e3, e4, e5, e6, e7⟩ := askK_inv hq
        exact (h v a hs rs e1 e2 e3 e4 e5 e6 e7).elim)
    obtain ⟨ax, xs, rfl, hxG, hXG⟩ := kds_tup hx
    obtain ⟨x0, x1, x2, x3, rfl, w1, w2, w3⟩ : ∃ x0 x1 x2 x3, xs = [x0, x1, x2, x3] ∧ Dp K (wo p g H) x1 d1 ∧ Dp K (wo p g H) x2 d2 ∧ Dp K (wo p g H) x3 d3 := by
      cases hXG with
      | cons v0 r => cases r with
        | cons v1 r => cases r with
          | cons v2 r => cases r with
            | cons v3 r =>
              cases r
              exact ⟨_, _, _, _, rfl, v1, v2, v3⟩
    obtain ⟨bt, ys, rfl, hyG, hYG⟩ := kds_tup hy
    have hyl : ys.length = ts.length := by
      rw [dpAll_len hYG, List.length_map]
    refine ⟨_, rfl, ax, _, rfl, sqT_same wo_sub hxG, rfl, _, _, rfl, _, _, rfl, _, _, rfl, _, _, rfl, rfl, ?_⟩
    refine ⟨_, rfl, x1, d1, rfl, dp_same wo_sub w1, _, rfl, ?_⟩
    cases hi : isInt d1 with
    | false =>
      refine iteT (iteT (none_of (fun v a hs rs e1 _ _ _ _ _ _ => ?_) H (Same.refl _)))
      rw [e1] at hi
      cases hi
    | true =>
      obtain ⟨v, rfl⟩ : ∃ v, d1 = .int v := by
        cases d1 with
        | int v => exact ⟨v, rfl⟩
        | _ => cases hi
      cases w1
      refine iteF ⟨_, rfl, _, _, rfl, rfl, _, rfl, ?_⟩
      by_cases h0 : (0 : Int) ≤ v
      rotate_left
      · rw [decide_eq_false h0]
        refine iteF ⟨_, rfl, iteT (none_of (fun v' a hs rs e1 _ _ e4 _ _ _ => ?_) H (Same.refl _))⟩
        cases e1
        exact h0 e4
      rw [decide_eq_true h0]
      obtain ⟨n, rfl⟩ : ∃ n : Nat, v = (n : Int) := ⟨v.toNat, by omega⟩
      refine iteT ⟨_, rfl, bt, ys, rfl, .inr (sqT_same wo_sub hyG), _, _, rfl, rfl, _, rfl, ?_⟩
      by_cases h1 : ((n : Nat) : Int) < (ys.length : Int)
      rotate_left
      · rw [decide_eq_false h1]
        refine iteT (none_of (fun v' a hs rs e1 _ _ e4 e5 _ _ => ?_) H (Same.refl _))
        cases e1
        rw [Int.toNat_natCast] at e5
        have := (List.getElem?_eq_some_iff.mp e5).1
        omega
      rw [decide_eq_true h1]
      refine iteF ?_
      have hn : n < ys.length := by omega
      obtain ⟨t, ht⟩ : ∃ t, ts[n]? = some t := ⟨ts[n]'(by omega), List.getElem?_eq_getElem (by omega)⟩
      obtain ⟨yi, hyi⟩ : ∃ yi, ys[n]? = some yi := ⟨ys[n], List.getElem?_eq_getElem hn⟩
      obtain ⟨dt, hdt, hdp⟩ := dpAll_at hYG hyi
      rw [List.getElem?_map, ht] at hdt
      cases hdt
      obtain ⟨tn, tg⟩ := hts t (List.mem_of_getElem? ht)
      have ta := ans_good tg
      refine ⟨_, rfl, _, rfl, bt, ys, _, yi, rfl, rfl, sqT_same wo_sub hyG, atI_nat hyi, yi, t, rfl, dp_same wo_sub hdp, tn, fun p1 q1 H1 s1 hp1 hq1 => ?_⟩
      refine ⟨p1, _, rfl, hp1, rfl, _, _, rfl, _, _, rfl, rfl, ?_⟩
      obtain ⟨q1', zs, eq1, hzT, hZ⟩ := kds_tup hq1
      cases eq1
      have hzl : zs.length = t.args.length := by
        rw [dpAll_len hZ, List.length_map]
      have al := args_few t
      refine ⟨_, rfl, _, rfl, q1, zs, rfl, .inr hzT, x2, d2, _, rfl, dp_same (wo_sub.trans s1) w2, _, rfl, ?_⟩
      cases hh : isTupN (zs.length : Int) d2 with
      | false =>
        refine iteT (iteT (none_of (fun v' a hs rs e1 e2 _ _ e5 e6 _ => ?_) H1 s1))
        cases e1
        rw [Int.toNat_natCast, ht] at e5
        cases e5
        rw [e2] at hh
        have : decide ((hs.length : Int) = (zs.length : Int)) = false := hh
        exact of_decide_eq_false this (by omega)
      | true =>
        refine iteF ⟨_, rfl, _, rfl, x3, d3, _, rfl, dp_same (wo_sub.trans s1) w3, _, rfl, ?_⟩
        cases hrr : isTupN t.ans d3 with
        | false =>
          refine iteT (none_of (fun v' a hs rs e1 _ e3 _ e5 _ e7 => ?_) H1 s1)
          cases e1
          rw [Int.toNat_natCast, ht] at e5
          cases e5
          rw [e3] at hrr
          have : decide ((rs.length : Int) = t.ans) = false := hrr
          exact of_decide_eq_false this e7
        | true =>
          refine iteF ?_
          obtain ⟨hs, rfl⟩ : ∃ hs, d2 = .tuple hs := by
            cases d2 with
            | tuple hs => exact ⟨hs, rfl⟩
            | _ => cases hh
          obtain ⟨rs, rfl⟩ : ∃ rs, d3 = .tuple rs := by
            cases d3 with
            | tuple rs => exact ⟨rs, rfl⟩
            | _ => cases hrr
          have hh' : (hs.length : Int) = (zs.length : Int) := of_decide_eq_true hh
          have hrr' : (rs.length : Int) = t.ans := of_decide_eq_true hrr
          obtain ⟨ah, vh, rfl, hhT, hH⟩ := kds_tup w2
          obtain ⟨ar, vr, rfl, hrT, hR⟩ := kds_tup w3
          have hvl := dpAll_len hH
          have hrl := dpAll_len hR
          have yes := hyes (askH ts t hs ++ rs.map fun r => ⟨r, ts, k⟩) (by rw [askK_is ht (by omega) hrr']; rfl)
          have av1 := av.same s1
          clear none_of hno hyes
          refine ⟨by show 0 ≤ sizeLine; decide, fun L hL => ?_⟩
          have sL := Pre.same_upd (o := .lst []) hL
          have nL := av1.ne hL
          refine ⟨_, rfl, _, rfl, ah, q1, vh, zs, rfl, .inr ⟨sqT_same (wo_sub.trans (s1.trans sL)) hhT, sqT_same sL hzT, RZ.for_zipT (K := K) (by omega) (fun i σ H' => ∃ o10 o11 o12 o13, σ = [some (.ref ax), some (.ref bt), some (.int k), some x0, some (.int (n : Int)), some (.ref ah), some (.ref ar), some (.ref q1), some (.int t.ans), some (.ref L), o10, o11, o12, o13] ∧ Same H1 H' ∧ ∃ acc, H' L = some (.lst acc) ∧ acc.length = i ∧ DpAll K (W2 L p g H') acc (((askH ts t hs).take i).map cnD))
            ⟨none, none, none, none, rfl, sL, [], upd_same, rfl, .nil⟩ (fun i σ H' ⟨_, _, _, _, _, s2, _⟩ => ⟨sqT_same (wo_sub.trans (s1.trans s2)) hhT, sqT_same s2 hzT⟩) ?_ ?_⟩⟩
          · rintro i x' y' T σ H2 hxi hyi' ⟨o10, o11, o12, o13, rfl, s2, acc, hacc, hal, hdpA⟩ hT
            have s3 := Pre.same_upd (o := .tup [x', y']) hT
            obtain ⟨hd_, hhd, hdx⟩ := dpAll_at hH hxi
            obtain ⟨kd_, hkd, hdy⟩ := dpAll_at hZ hyi'
            rw [List.getElem?_map] at hkd
            obtain ⟨kd, hkd', rfl⟩ : ∃ kd, t.args[i]? = some kd ∧ kd.dat = kd_ := by
              cases q : t.args[i]? with
              | none => rw [q] at hkd; cases hkd
              | some kd => rw [q] at hkd; cases hkd; exact ⟨kd, rfl, rfl⟩
            have kn := nums_arg (List.mem_of_getElem? hkd')
            have ka := args_few kd
            have s13 := s2.trans s3
            refine ⟨T, _, rfl, SqT.of upd_same, rfl, _, _, rfl, _, _, rfl, rfl, ?_⟩
            refine ⟨_, rfl, y', kd, rfl, dp_same s13 hdy, by omega, fun p2 q2 H3 s4 hp2 hq2 => ?_⟩
            have s14 := s13.trans s4
            refine ⟨p2, _, rfl, hp2, rfl, _, _, rfl, _, _, rfl, rfl, ?_⟩
            obtain ⟨q2', os, eq2, hoT, hO⟩ := kds_tup hq2
            cases eq2
            have hol : os.length = kd.args.length := by
              rw [dpAll_len hO, List.length_map]
            have hacc3 := s4 _ _ (s3 _ _ hacc)
            refine ⟨_, rfl, .inl ⟨rfl, _, SqL.of hacc3⟩, _, rfl, _, rfl, _, rfl, catA_any (sqT_same (wo_sub.trans (s1.trans s14)) hyG) hoT (by omega) fun r H4 s5 hr5 => ?_⟩
            have s15 := s14.trans s5
            have s25 := (s3.trans s4).trans s5
            refine ⟨_, rfl, by show 3 ≤ sizeLine; decide, fun tp htp => ?_⟩
            have s6 := Pre.same_upd (o := .tup [x', .ref r, .int kd.ans]) htp
            have hacc4 := s5 _ _ hacc3
            have hLt : L ≠ tp := fun z => by
              rw [← z, hacc4] at htp
              cases htp
            have av4 := av1.same s15
            refine ⟨L, acc, _, rfl, rfl, by rw [upd_ne hLt]; exact hacc4, Nat.lt_of_lt_of_le (show acc.length < 100 by have := (List.getElem?_eq_some_iff.mp hkd').1; omega) (by decide), ?_⟩
            have hin : Same (wo p g H1) (W2 L p g (upd (upd H4 tp (.tup [x', .ref r, .int kd.ans])) L (.lst (acc ++ [.ref tp])))) := (w2_in hL (s15.trans s6)).trans w2_upd
            have hthings : Dp K (W2 L p g (upd (upd H4 tp (.tup [x', .ref r, .int kd.ans])) L (.lst (acc ++ [.ref tp])))) (.ref r) (.tuple ((ts ++ kd.args).map Kd.dat)) := by
              have h1 : Dp K H4 (.ref r) (.tuple ((ts ++ kd.args).map Kd.dat)) := by
                rw [List.map_append]
                exact .tup hr5 (dpAll_app (dpAll_same (wo_sub.trans (s1.trans s15)) hYG) (dpAll_same s5 hO))
              have h2 := (av4.wo nL.1 nL.2 hacc4 (noTup_lst _)).kds (av4.kds h1)
              exact dp_same ((w2_mono s6).trans w2_upd) h2
            refine ⟨_, _, _, _, rfl, fun b o e => ?_, acc ++ [.ref tp], upd_same, by rw [List.length_append, hal]; rfl, ?_⟩
            · rw [upd_ne (ne_of_none e hL)]
              exact s6 _ _ (s15 _ _ e)
            · rw [askH_take hhd hkd', List.map_append]
              refine dpAll_app (dpAll_same (((w2_mono s25).trans (w2_mono s6)).trans w2_upd) hdpA) (.cons ?_ .nil)
              exact .tup (SqT.of (w2_upd _ _ (w2_new av4 hacc4 htp))) (.cons (dp_same ((wo_mono s1).trans hin) hdx) (.cons hthings (.cons (.int _) .nil)))
          · rintro σ H2 ⟨o10, o11, o12, o13, rfl, s2, acc, hacc, hal, hdpA⟩
            have hAl : (askH ts t hs).length = vh.length := by
              unfold askH
              rw [List.length_zipWith]
              omega
            rw [← hAl, List.take_length] at hdpA
            have s12 := s1.trans s2
            have av2 := av1.same s2
            refine ⟨_, rfl, _, rfl, ar, rfl, ⟨_, sqT_same (wo_sub.trans s12) hrT⟩, fun D hDn => lc_tup (K := K) (a := ar) (xs := vr) (fun i H' => Same H2 H' ∧ ∃ acc2, H' D = some (.lst acc2) ∧ acc2.length = i ∧ DpAll K (W2 D p g H') acc2 ((rs.take i).map fun r => cnD ⟨r, ts, k⟩))
              ⟨Pre.same_upd hDn, [], upd_same, rfl, .nil⟩ (fun i H' _ ⟨s3, _⟩ => sqT_same (wo_sub.trans (s12.trans s3)) hrT) ?_ ?_⟩
            · rintro i x' H3 hxi ⟨s3, acc2, hacc2, hal2, hdp2⟩
              obtain ⟨r, hri, hrd⟩ := dpAll_at hR hxi
              have hil := (List.getElem?_eq_some_iff.mp hri).1
              refine ⟨rfl, _, rfl, _, rfl, _, rfl, by show 3 ≤ sizeLine; decide, fun tp htp => ?_⟩
              have s6 := Pre.same_upd (o := .tup [x', .ref bt, .int k]) htp
              have hDt : D ≠ tp := fun z => by
                rw [← z, hacc2] at htp
                cases htp
              have av3 := av2.same s3
              have hin : Same (wo p g H) (W2 D p g (upd (upd H3 tp (.tup [x', .ref bt, .int k])) D (.lst (acc2 ++ [.ref tp])))) := ((wo_mono s12).trans (w2_in hDn (s3.trans s6))).trans w2_upd
              refine ⟨acc2, by rw [upd_ne hDt]; exact hacc2, ?_, fun b o e => ?_, acc2 ++ [.ref tp], upd_same, by rw [List.length_append, hal2]; rfl, ?_⟩
              · exact Nat.lt_of_lt_of_le (show acc2.length < 100 by omega) (by decide)
              · rw [upd_ne (ne_of_none e hDn)]
                exact s6 _ _ (s3 _ _ e)
              · have eT : ((rs.take (i + 1)).map fun r => cnD ⟨r, ts, k⟩) = ((rs.take i).map fun r => cnD ⟨r, ts, k⟩) ++ [cnD ⟨r, ts, k⟩] := by
                  rw [List.take_succ, hri, List.map_append]
                  rfl
                rw [eT]
                refine dpAll_snoc (dpAll_same ((w2_mono s6).trans w2_upd) hdp2) ?_
                exact .tup (SqT.of (w2_upd _ _ (w2_new av3 hacc2 htp))) (.cons (dp_same hin hrd) (.cons (dp_same hin hy) (.cons (.int k) .nil)))
            · rintro H3 ⟨s3, acc2, hacc2, hal2, hdp2⟩
              rw [hrl, List.take_length] at hdp2
              refine ⟨L, D, acc, acc2, rfl, rfl, s3 _ _ hacc, hacc2, ?_, fun l3 hl3 => ?_⟩
              · exact Nat.le_trans (show acc.length + acc2.length ≤ 200 by omega) (by decide)
              have s4 := Pre.same_upd (o := .lst (acc ++ acc2)) hl3
              refine yes l3 _ _ ((s12.trans s3).trans s4) ((s12.trans s3).free hl3) upd_same ?_
              rw [List.map_append, List.map_map]
              exact dpAll_app (dpAll_same ((w2_sub.trans (wo_mono s3)).trans (wo_mono s4)) hdpA) (dpAll_same (w2_sub.trans (wo_mono s4)) hdp2)
end
end Tk

namespace Tk
open PySem PySem.Spec PyProof.Rows L2
open Wt Kn Dc
theorem eqv_no {e : PyData} {t : Str} (h : ∀ s, e = .str s → s ≠ t) : PyData.eqv e (.str t) = false := by
  cases q : PyData.eqv e (.str t) with
  | false => rfl
  | true => exact absurd rfl (h t (eqv_str q))
theorem k_one (e : PyData) (ts : List Kd) (k : Int) : kids2 ⟨.tuple [e], ts, k⟩ = if PyData.eqv e (.str "none") = true then some ([], []) else none := by
  by_cases h : e = .str "none"
  · subst h
    rw [if_pos (eqv_self _)]
    rfl
  · rw [eqv_no fun s hs z => h (by rw [hs, z])]
    cases hk : kids2 ⟨.tuple [e], ts, k⟩ with
    | none => rfl
    | some p =>
      cases kid_of hk with
      | non h1 _ =>
        injection h1 with h1
        injection h1 with h1
        exact absurd h1 h
      | ans b h1 => injection h1 with h1; injection h1 with _ h1; cases h1
      | draw rows h1 => injection h1 with h1; injection h1 with _ h1; cases h1
      | ask v a hs rs h1 => injection h1 with h1; injection h1 with _ h1; cases h1
theorem k_two (e x : PyData) (ts : List Kd) (k : Int) : kids2 ⟨.tuple [e, x], ts, k⟩ = if PyData.eqv e (.str "answer") = true then ansK k x else if PyData.eqv e (.str "draw") = true then drawK ts k x else none := by
  by_cases h : e = .str "answer"
  · subst h
    rw [if_pos (eqv_self _)]
    rfl
  · rw [eqv_no fun s hs z => h (by rw [hs, z])]
    by_cases h' : e = .str "draw"
    · subst h'
      rw [if_neg (by decide), if_pos (eqv_self _)]
      show (if (("draw" : Str) = "answer") then ansK k x else if (("draw" : Str) = "draw") then drawK ts k x else none) = _
      rw [if_neg (by decide +kernel), if_pos rfl]
    · rw [eqv_no fun s hs z => h' (by rw [hs, z])]
      cases hk : kids2 ⟨.tuple [e, x], ts, k⟩ with
      | none => rfl
      | some p =>
        cases kid_of hk with
        | non h1 _ => injection h1 with h1; injection h1 with _ h1; cases h1
        | ans b h1 => injection h1 with h1; injection h1 with h1 _; exact absurd h1 h
        | draw rows h1 => injection h1 with h1; injection h1 with h1 _; exact absurd h1 h'
        | ask v a hs rs h1 => injection h1 with h1; injection h1 with _ h1; injection h1 with _ h1; cases h1
theorem k_four (e x y z : PyData) (ts : List Kd) (k : Int) : kids2 ⟨.tuple [e, x, y, z], ts, k⟩ = if PyData.eqv e (.str "ask") = true then askK ts k x y z else none := by
  by_cases h : e = .str "ask"
  · subst h
    rw [if_pos (eqv_self _)]
    rfl
  · rw [eqv_no fun s hs z => h (by rw [hs, z])]
    cases hk : kids2 ⟨.tuple [e, x, y, z], ts, k⟩ with
    | none => rfl
    | some p =>
      cases kid_of hk with
      | non h1 _ => injection h1 with h1; injection h1 with _ h1; cases h1
      | ans b h1 => injection h1 with h1; injection h1 with _ h1; injection h1 with _ h1; cases h1
      | draw rows h1 => injection h1 with h1; injection h1 with _ h1; injection h1 with _ h1; cases h1
      | ask v a hs rs h1 => injection h1 with h1; injection h1 with h1 _; exact absurd h1 h
theorem k_other {d : PyData} {ts : List Kd} {k : Int} (h1 : isTupN 1 d = false) (h2 : isTupN 2 d = false) (h4 : isTupN 4 d = false) : kids2 ⟨d, ts, k⟩ = none := by
  cases hk : kids2 ⟨d, ts, k⟩ with
  | none => rfl
  | some p =>
    cases kid_of hk with
    | non h _ => rw [show d = _ from h] at h1; cases h1
    | ans b h => rw [show d = _ from h] at h2; cases h2
    | draw rows h => rw [show d = _ from h] at h2; cases h2
    | ask v a hs rs h => rw [show d = _ from h] at h4; cases h4
theorem tup1 {K : PySem.W.Frag} {H : Hp} {x : V} {d : PyData} (hd : Dp K H x d) (h : isTupN 1 d = true) : ∃ a x1 d1, x = .ref a ∧ d = .tuple [d1] ∧ SqT K H a [x1] ∧ Dp K H x1 d1 := by
  cases hd with
  | @tup a xs ds q r =>
    have hl : (ds.length : Int) = 1 := of_decide_eq_true h
    match ds, hl, xs, q, r with
    | [d1], _, _, q, .cons h1 .nil => exact ⟨a, _, _, rfl, rfl, q, h1⟩
    | [], hl, _, _, _ => simp at hl
    | _ :: _ :: _, hl, _, _, _ => simp at hl; omega
  | _ => cases h
theorem tup4 {K : PySem.W.Frag} {H : Hp} {x : V} {d : PyData} (hd : Dp K H x d) (h : isTupN 4 d = true) : ∃ a x1 x2 x3 x4 d1 d2 d3 d4, x = .ref a ∧ d = .tuple [d1, d2, d3, d4] ∧ SqT K H a [x1, x2, x3, x4] ∧ Dp K H x1 d1 := by
  cases hd with
  | @tup a xs ds q r =>
    have hl : (ds.length : Int) = 4 := of_decide_eq_true h
    match ds, hl, xs, q, r with
    | [d1, d2, d3, d4], _, _, q, .cons h1 (.cons h2 (.cons h3 (.cons h4 .nil))) => exact ⟨a, _, _, _, _, _, _, _, _, rfl, rfl, q, h1⟩
    | [], hl, _, _, _ => simp at hl
    | [_], hl, _, _, _ => simp at hl
    | [_, _], hl, _, _, _ => simp at hl
    | [_, _, _], hl, _, _, _ => simp at hl
    | _ :: _ :: _ :: _ :: _ :: _, hl, _, _, _ => simp at hl; omega
  | _ => cases h
/-- the first item of each tuple in d, at all depths, is shaped -/
def Hs (d : PyData) : Prop := ∀ e ds, d = .tuple (e :: ds) → Sh e
abbrev sParts : Stmt := Pre.top 30
theorem scParts : FnScope ["value", "things", "k"] ["value", "things", "k"] (defScope sParts) := ⟨rfl, rfl, rfl, by decide +kernel, rfl, by decide +kernel, by decide +kernel⟩
theorem sh_lit (s : Str) (h : (PyData.str s).canLay0 = true := by decide +kernel) : Sh (.str s) := sh_of h (Nat.zero_le _)
section
variable {P0 : Program} {w : World} {K : PySem.W.Frag} {mg : Str → Option Value} {base : Heap}
def spParts (K : PySem.W.Frag) : Sp := fun vs H Q _ => ∃ (x y : V) (d : PyData) (ts : List Kd) (k : Int) (p g : Addr), vs = [x, y, .int k] ∧ Av H p g ∧ Dp K (wo p g H) x d ∧ Dp K (wo p g H) y (.tuple (ts.map Kd.dat)) ∧ (∀ t ∈ ts, t.nums ≤ 40 ∧ t.good) ∧ ts.length ≤ 4000 ∧ sm d = true ∧ Hs d ∧
  Res K p g ((kids2 ⟨d, ts, k⟩).map fun q => q.1 ++ q.2) H Q
structure PTs (P0 : Program) (w : World) (K : PySem.W.Frag) (mg : Str → Option Value) (fT fW fD fA : Addr) (dT dW dD dA : FuncData) : Prop where
  T : TxtW mg
  FT : Fun K "is_tuple_of" "is_tuple_of" sIsTup fT dT
  mT : mg "is_tuple_of" = some (.ref fT)
  FW : Fun K "is_whole" "is_whole" sIsWhole fW dW
  mW : mg "is_whole" = some (.ref fW)
  GD : ∀ base, FnOk P0 w K mg base CX0 4 fD dD ["rows", "things", "k"] (spPDraw K)
  FD : Fun K "_parts_of_draw" "_parts_of_draw" sPDraw fD dD
  mD : mg "_parts_of_draw" = some (.ref fD)
  GA : ∀ base, FnOk P0 w K mg base CX0 2 fA dA ["value", "things", "k"] (spPAsk K)
  FA : Fun K "_parts_of_ask" "_parts_of_ask" sPAsk fA dA
  mA : mg "_parts_of_ask" = some (.ref fA)
set_option maxHeartbeats 2000000 in
theorem ok_parts {f fT fW fD fA : Addr} {fd dT dW dD dA : FuncData} (F : Fun K "_parts_of" "_parts_of" sParts f fd) (M : PTs P0 w K mg fT fW fD fA dT dW dD dA) : FnOk P0 w K mg base CX0 5 f fd ["value", "things", "k"] (spParts K) := by
  have GT : FnOk P0 w K mg base CX0 1 fT dT ["value", "many"] (spTup K) := ok_tup M.FT M.T
  have GW : FnOk P0 w K mg base CX0 1 fW dW ["value"] (spWhole K) := ok_whole M.FW M.T
  have GD := M.GD base
  have GA := M.GA base
  have bT := M.FT.binds (ps := ["value", "many"]) fun _ _ _ _ _ _ us hl => match us, hl with | [_, _], _ => rfl
  have bW := M.FW.binds (ps := ["value"]) fun _ _ _ _ _ _ us hl => match us, hl with | [_], _ => rfl
  have bD := M.FD.binds (ps := ["rows", "things", "k"]) fun _ _ _ _ _ _ us hl => match us, hl with | [_, _, _], _ => rfl
  have bA := M.FA.binds (ps := ["value", "things", "k"]) fun _ _ _ _ _ _ us hl => match us, hl with | [_, _, _], _ => rfl
  refine F.ok scParts (fun vs H Q E h => ?_) (fun cdv A outer s H vs Q E hr h => ?_)
  · obtain ⟨x, y, d, ts, k, p, g, rfl, _⟩ := h
    rfl
  · obtain ⟨x, y, d, ts, k, p, g, rfl, av, hx, hy, hts, htl, hsm, hhs, hno, hyes⟩ := h
    have nd := scParts.nd
    have hr1 : Room 1 _ := hr.mono (by decide)
    have hr2 : Room 2 _ := hr.mono (by decide)
    have hr4 : Room 4 _ := hr.mono (by decide)
    apply Exists.intro
    apply And.intro
    · apply pss_cons
      · exact ps_if (pt_val (pe_call GT hr1 (by rfl) M.mT M.FT.kp bT .nil pass0 (pa_cons (pv 0) (pa_cons pe_int pa_nil)))) (pss_one (ps_ret (pe_ifExp (pt_cmpR (op_eqD hr.units) (pe_ix ix_tup (pv 0) pe_int (fun _ _ => rfl)) pe_str (nomark _)) (pe_lst pa_nil) pe_non))) pss_nil
      apply pss_cons
      · exact ps_if (PW.pt (pw_and (pt_val (pe_call GT hr1 (by rfl) M.mT M.FT.kp bT .nil pass0 (pa_cons (pv 0) (pa_cons pe_int pa_nil)))) (pw_and1 (pt_cmpR (op_eqD hr.units) (pe_ix ix_tup (pv 0) pe_int (fun _ _ => rfl)) pe_str (nomark _)))))
          (pss_one (ps_ret (pe_ifExp (PW.pt (pw_and (pt_val (pe_call GW hr1 (by rfl) M.mW M.FW.kp bW .nil pass0 (pa_cons (pe_ix ix_tup (pv 0) pe_int (fun _ _ => rfl)) pa_nil))) (pw_and1 (pt_chain op_le op_lt pe_int (pe_ix ix_tup (pv 0) pe_int (fun _ _ => rfl)) (pv 2))))) (pe_lst pa_nil) pe_non))) pss_nil
      apply pss_cons
      · exact ps_if (PW.pt (pw_and (pt_val (pe_call GT hr1 (by rfl) M.mT M.FT.kp bT .nil pass0 (pa_cons (pv 0) (pa_cons pe_int pa_nil)))) (pw_and1 (pt_cmpR (op_eqD hr.units) (pe_ix ix_tup (pv 0) pe_int (fun _ _ => rfl)) pe_str (nomark _)))))
          (pss_one (ps_ret (pe_call GD hr4 (by rfl) M.mD M.FD.kp bD .nil pass0 (pa_cons (pe_ix ix_tup (pv 0) pe_int (fun _ _ => rfl)) (pa_cons (pv 1) (pa_cons (pv 2) pa_nil)))))) pss_nil
      apply pss_cons
      · exact ps_if (PW.pt (pw_and (pt_val (pe_call GT hr1 (by rfl) M.mT M.FT.kp bT .nil pass0 (pa_cons (pv 0) (pa_cons pe_int pa_nil)))) (pw_and1 (pt_cmpR (op_eqD hr.units) (pe_ix ix_tup (pv 0) pe_int (fun _ _ => rfl)) pe_str (nomark _)))))
          (pss_one (ps_ret (pe_call GA hr2 (by rfl) M.mA M.FA.kp bA .nil pass0 (pa_cons (pv 0) (pa_cons (pv 1) (pa_cons (pv 2) pa_nil)))))) pss_nil
      exact pss_one (ps_ret pe_non)
    have hxH := dp_same wo_sub hx
    have empty : kids2 ⟨d, ts, k⟩ = some ([], []) → ∀ l, H l = none → Q (.ref l) (upd H l (.lst [])) := fun h l hl => hyes [] (by rw [h]; rfl) l [] _ (Pre.same_upd hl) hl upd_same .nil
    have bad : kids2 ⟨d, ts, k⟩ = none → Q .non H := fun h => hno (by rw [h]; rfl) H (Same.refl _)
    refine ⟨_, rfl, x, d, 1, rfl, hxH, _, rfl, ?_⟩
    cases h1 : isTupN 1 d with
    | true =>
      obtain ⟨a, x1, e, rfl, rfl, hT, w1⟩ := tup1 hxH h1
      have he : Sh e := hhs e [] rfl
      refine iteT ⟨_, rfl, a, _, _, _, rfl, rfl, hT, atI_nat (j := 0) rfl, e, .str "none", w1, .str _, he, sh_lit "none", _, rfl, ?_⟩
      cases q : PyData.eqv e (.str "none") with
      | true => exact iteT ⟨by show 0 ≤ sizeLine; decide, fun l hl => empty (by rw [k_one, q]; rfl) l hl⟩
      | false => exact iteF (bad (by rw [k_one, q]; rfl))
    | false =>
      refine iteF ⟨_, rfl, x, d, 2, rfl, hxH, _, rfl, ?_⟩
      cases h2 : isTupN 2 d with
      | true =>
        obtain ⟨a, x1, x2, e, d2, rfl, rfl, hT, w1, w2⟩ := tup2 hxH h2
        have he : Sh e := hhs e [d2] rfl
        refine iteT ⟨_, rfl, a, _, _, _, rfl, rfl, hT, atI_nat (j := 0) rfl, e, .str "answer", w1, .str _, he, sh_lit "answer", _, rfl, ?_⟩
        cases q : PyData.eqv e (.str "answer") with
        | true =>
          refine iteT ⟨_, rfl, a, _, _, _, rfl, rfl, hT, atI_nat (j := 1) rfl, x2, d2, rfl, w2, _, rfl, ?_⟩
          have kk : kids2 ⟨.tuple [e, d2], ts, k⟩ = ansK k d2 := by rw [k_two, q]; rfl
          cases hi : isInt d2 with
          | false =>
            refine iteF (iteF (bad ?_))
            rw [kk]
            cases d2 with
            | int v => cases hi
            | _ => rfl
          | true =>
            obtain ⟨v, rfl⟩ : ∃ v, d2 = .int v := by
              cases d2 with
              | int v => exact ⟨v, rfl⟩
              | _ => cases hi
            cases w2
            have ka : ansK k (.int v) = if 0 ≤ v ∧ v < k then some ([], []) else none := rfl
            refine iteT ⟨_, rfl, a, _, _, _, rfl, rfl, hT, atI_nat (j := 1) rfl, _, _, rfl, rfl, _, rfl, ?_⟩
            by_cases c1 : (0 : Int) ≤ v
            · rw [decide_eq_true c1]
              refine iteT ⟨_, rfl, _, _, rfl, rfl, _, rfl, ?_⟩
              by_cases c2 : v < k
              · rw [decide_eq_true c2]
                exact iteT ⟨by show 0 ≤ sizeLine; decide, fun l hl => empty (by rw [kk, ka, if_pos ⟨c1, c2⟩]) l hl⟩
              · rw [decide_eq_false c2]
                exact iteF (bad (by rw [kk, ka, if_neg (fun z => c2 z.2)]))
            · rw [decide_eq_false c1]
              exact iteF ⟨_, rfl, iteF (bad (by rw [kk, ka, if_neg (fun z => c1 z.1)]))⟩
        | false =>
          refine iteF ⟨_, rfl, .ref a, _, 2, rfl, hxH, _, rfl, ?_⟩
          rw [h2]
          refine iteT ⟨_, rfl, a, _, _, _, rfl, rfl, hT, atI_nat (j := 0) rfl, e, .str "draw", w1, .str _, he, sh_lit "draw", _, rfl, ?_⟩
          cases q2 : PyData.eqv e (.str "draw") with
          | true =>
            have kk : kids2 ⟨.tuple [e, d2], ts, k⟩ = drawK ts k d2 := by rw [k_two, q, q2]; rfl
            obtain ⟨ag, yg, eg, hTg, hDg⟩ := kds_tup hx
            cases eg
            obtain ⟨y1, y2, rfl, _, v2⟩ : ∃ y1 y2, yg = [y1, y2] ∧ Dp K (wo p g H) y1 e ∧ Dp K (wo p g H) y2 d2 := by
              cases hDg with
              | cons u1 r => cases r with
                | cons u2 r => cases r; exact ⟨_, _, rfl, u1, u2⟩
            refine iteT ⟨_, rfl, a, _, _, _, rfl, rfl, sqT_same wo_sub hTg, atI_nat (j := 1) rfl, _, rfl, _, rfl, y2, y, d2, ts, k, p, g, rfl, av, v2, hy, sm_mem (ds := [e, d2]) hsm (by simp), ?_⟩
            rw [kk] at hno hyes
            exact ⟨hno, hyes⟩
          | false =>
            refine iteF ⟨_, rfl, .ref a, _, 4, rfl, hxH, _, rfl, ?_⟩
            have : isTupN 4 (.tuple [e, d2]) = false := rfl
            rw [this]
            exact iteF (iteF (bad (by rw [k_two, q, q2]; rfl)))
      | false =>
        refine iteF (iteF ⟨_, rfl, x, d, 2, rfl, hxH, _, rfl, ?_⟩)
        rw [h2]
        refine iteF (iteF ⟨_, rfl, x, d, 4, rfl, hxH, _, rfl, ?_⟩)
        cases h4 : isTupN 4 d with
        | false => exact iteF (iteF (bad (k_other h1 h2 h4)))
        | true =>
          obtain ⟨a, x1, x2, x3, x4, e, d2, d3, d4, rfl, rfl, hT, w1⟩ := tup4 hxH h4
          have he : Sh e := hhs e _ rfl
          refine iteT ⟨_, rfl, a, _, _, _, rfl, rfl, hT, atI_nat (j := 0) rfl, e, .str "ask", w1, .str _, he, sh_lit "ask", _, rfl, ?_⟩
          cases q : PyData.eqv e (.str "ask") with
          | false => exact iteF (bad (by rw [k_four, q]; rfl))
          | true =>
            have kk : kids2 ⟨.tuple [e, d2, d3, d4], ts, k⟩ = askK ts k d2 d3 d4 := by rw [k_four, q]; rfl
            rw [kk] at hno hyes
            exact iteT ⟨_, rfl, _, rfl, _, rfl, .ref a, y, e, d2, d3, d4, ts, k, p, g, rfl, av, hx, hy, hts, htl, hno, hyes⟩
end
end Tk

namespace Tk
open PySem PySem.Spec PyProof.Rows L2
open Wt Kn Dc
def headSh : List PyData → Bool
  | [] => true
  | e :: _ => SeqAt.shaped e
mutual
/-- the first item of each tuple, at all depths, is shaped -/
def hsB : PyData → Bool
  | .tuple ds => headSh ds && hsAll ds
  | _ => true
def hsAll : List PyData → Bool
  | [] => true
  | d :: ds => hsB d && hsAll ds
end
theorem hs_mem : ∀ {ds : List PyData} {d : PyData}, hsAll ds = true → d ∈ ds → hsB d = true
  | e :: ds, d, h, hm => by
    have h' : (hsB e && hsAll ds) = true := h
    rw [Bool.and_eq_true] at h'
    rcases List.mem_cons.mp hm with z | z
    · rw [z]; exact h'.1
    · exact hs_mem h'.2 z
theorem hs_tup {ds : List PyData} (h : hsB (.tuple ds) = true) : hsAll ds = true := by
  have h' : (headSh ds && hsAll ds) = true := h
  rw [Bool.and_eq_true] at h'
  exact h'.2
theorem hs_Hs {d : PyData} (h : hsB d = true) : Hs d := fun e ds z => by
  subst z
  have h' : (headSh (e :: ds) && hsAll (e :: ds)) = true := h
  rw [Bool.and_eq_true] at h'
  exact h'.1
theorem hs_all : ∀ {ds : List PyData}, (∀ d ∈ ds, hsB d = true) → hsAll ds = true
  | [], _ => rfl
  | e :: ds, h => by
    show (hsB e && hsAll ds) = true
    rw [h e (List.mem_cons_self ..), hs_all fun d hd => h d (List.mem_cons_of_mem _ hd)]
    rfl
theorem sh_hs : ∀ (n : Nat) (d : PyData), d.depth < n → Sh d → hsB d = true
  | 0, _, h, _ => by omega
  | n + 1, d, h, hs => by
    cases d with
    | tuple ds =>
      show (headSh ds && hsAll ds) = true
      have h1 : headSh ds = true := by
        cases ds with
        | nil => rfl
        | cons e ds => exact sh_tup hs (List.mem_cons_self ..)
      rw [h1, hs_all fun e he => sh_hs n e (by
        have := dep_mem he
        have h2 : PyData.depthAll ds + 1 < n + 1 := h
        omega) (sh_tup hs he)]
      rfl
    | _ => rfl
/-- what holds of all items of a tuple holds of the kids -/
theorem kid_cl {P : PyData → Bool} {PA : List PyData → Bool} (mem : ∀ {ds : List PyData} {d : PyData}, PA ds = true → d ∈ ds → P d = true) (tup : ∀ {ds : List PyData}, P (.tuple ds) = true → PA ds = true)
    {c : Cn} {p : List Cn × List Cn} (h : kids2 c = some p) (hP : P c.t = true) : ∀ q ∈ p.1 ++ p.2, P q.t = true := by
  cases kid_of h with
  | non _ e => subst e; intro q hq; cases hq
  | ans b _ _ _ e => subst e; intro q hq; cases hq
  | draw rows ht ok e =>
    subst e
    intro q hq
    obtain ⟨r, hr, rfl⟩ := List.mem_map.mp hq
    have ok' := ok
    unfold rowsOk at ok'
    rw [Bool.and_eq_true, Bool.and_eq_true, Bool.and_eq_true] at ok'
    obtain ⟨c', e', t, rfl, _, _⟩ := row_of (List.all_eq_true.mp ok'.2.1 r hr)
    rw [ht] at hP
    have h1 := mem (tup hP) (d := .tuple rows) (by simp)
    have h2 := mem (tup h1) hr
    exact mem (tup h2) (d := t) (by simp)
  | ask v a hs rs ht h0 ha l1 l2 e =>
    subst e
    intro q hq
    rw [ht] at hP
    rcases List.mem_append.mp hq with hq | hq
    · exact mem (tup (mem (tup hP) (d := .tuple hs) (by simp))) (askH_mem hq).1
    · obtain ⟨r, hr, rfl⟩ := List.mem_map.mp hq
      exact mem (tup (mem (tup hP) (d := .tuple rs) (by simp))) hr
/-- kinds of things -/
def TsOk (m : Nat) (ts : List Kd) : Prop := (∀ t ∈ ts, t.nums ≤ 12 ∧ t.good) ∧ ts.length ≤ m
theorem kid_ts {m : Nat} {c : Cn} {p : List Cn × List Cn} (h : kids2 c = some p) (hT : TsOk m c.ts) : ∀ q ∈ p.1 ++ p.2, TsOk (m + 12) q.ts := by
  have same : ∀ q : Cn, q.ts = c.ts → TsOk (m + 12) q.ts := fun q e => by
    rw [e]
    exact ⟨hT.1, Nat.le_trans hT.2 (Nat.le_add_right _ _)⟩
  cases kid_of h with
  | non _ e => subst e; intro q hq; cases hq
  | ans b _ _ _ e => subst e; intro q hq; cases hq
  | draw rows ht ok e =>
    subst e
    intro q hq
    obtain ⟨r, hr, rfl⟩ := List.mem_map.mp hq
    exact same _ rfl
  | ask v a hs rs ht h0 ha l1 l2 e =>
    subst e
    intro q hq
    rcases List.mem_append.mp hq with hq | hq
    · obtain ⟨_, kd, hkd, e1, _⟩ := askH_mem hq
      obtain ⟨an, ag⟩ := hT.1 a (List.mem_of_getElem? ha)
      have kn := arg_nums hkd
      have kg := arg_good ag hkd
      have kl := args_few kd
      rw [e1]
      refine ⟨fun t ht => ?_, ?_⟩
      · rcases List.mem_append.mp ht with z | z
        · exact hT.1 t z
        · have := arg_nums z
          exact ⟨by omega, arg_good kg z⟩
      · rw [List.length_append]
        have := hT.2
        omega
    · obtain ⟨r, hr, rfl⟩ := List.mem_map.mp hq
      exact same _ rfl
theorem kid_few {m : Nat} {c : Cn} {p : List Cn × List Cn} (h : kids2 c = some p) (hT : TsOk m c.ts) : (p.1 ++ p.2).length ≤ 20 := by
  cases kid_of h with
  | non _ e => subst e; exact Nat.zero_le _
  | ans b _ _ _ e => subst e; exact Nat.zero_le _
  | draw rows ht ok e =>
    subst e
    have ok' := ok
    unfold rowsOk at ok'
    rw [Bool.and_eq_true, Bool.and_eq_true, Bool.and_eq_true] at ok'
    have := of_decide_eq_true ok'.1.2
    show (([] : List Cn) ++ rows.map _).length ≤ 20
    rw [List.nil_append, List.length_map]
    omega
  | ask v a hs rs ht h0 ha l1 l2 e =>
    subst e
    obtain ⟨an, ag⟩ := hT.1 a (List.mem_of_getElem? ha)
    have := args_few a
    have := ans_good ag
    show (askH c.ts a hs ++ rs.map _).length ≤ 20
    unfold askH
    rw [List.length_append, List.length_zipWith, List.length_map]
    omega
/-- the parts of a talk, of which the first item is shaped -/
structure HsI (I : Cn → Prop) : Prop where
  hs : ∀ c, I c → Hs c.t
  kid : ∀ c p, kids2 c = some p → I c → ∀ q ∈ p.1 ++ p.2, I q
theorem hsI_B : HsI fun c => hsB c.t = true := ⟨fun _ h => hs_Hs h, fun _ _ h hi => kid_cl hs_mem hs_tup h hi⟩
/-- a part that waits, in its row -/
structure WOk (I : Cn → Prop) (p : Cn × Nat) : Prop where
  ts : TsOk (12 * p.2) p.1.ts
  l : p.2 ≤ 101
  sm : sm p.1.t = true
  hs : I p.1
def wnD (p : Cn × Nat) : PyData := .tuple [p.1.t, .tuple (p.1.ts.map Kd.dat), .int p.1.k, .int (p.2 : Int)]
abbrev sClosed : Stmt := Pre.top 31
abbrev sIsTalk : Stmt := Pre.top 32
abbrev nClosed : List Str := ["kind", "value", "things", "k", "waiting", "many", "talk", "around", "answer", "level", "inner", "part", "own", "least"]
theorem scClosed : FnScope nClosed ["kind", "value"] (defScope sClosed) := ⟨rfl, rfl, rfl, by decide +kernel, rfl, by decide +kernel, by decide +kernel⟩
theorem dpAll_snoc_inv {K : PySem.W.Frag} {H : Hp} {e : PyData} : ∀ {ds : List PyData} {vs : List V}, DpAll K H vs (ds ++ [e]) → ∃ vs' v, vs = vs' ++ [v] ∧ DpAll K H vs' ds ∧ Dp K H v e
  | [], vs, h => by
    cases h with
    | cons h1 h2 =>
      cases h2
      exact ⟨[], _, rfl, .nil, h1⟩
  | d :: ds, vs, h => by
    have h' : DpAll K H vs (d :: (ds ++ [e])) := h
    cases h' with
    | cons h1 h2 =>
      obtain ⟨vs', v, rfl, h3, h4⟩ := dpAll_snoc_inv h2
      exact ⟨_ :: vs', v, rfl, .cons h1 h3, h4⟩
theorem snoc_of {α : Type} : ∀ {l : List α}, l ≠ [] → ∃ l' a, l = l' ++ [a]
  | [], h => absurd rfl h
  | [a], _ => ⟨[], a, rfl⟩
  | a :: b :: l, _ => by
    obtain ⟨l', c, h⟩ := snoc_of (l := b :: l) (by simp)
    exact ⟨a :: l', c, by rw [h]; rfl⟩
theorem wo_updL {L : Addr} {H : Hp} {o : HO} : Same (wo L L H) (wo L L (upd H L o)) := fun b u e => by
  obtain ⟨h1, h2, h3⟩ := wo_inv e
  exact wo_at h1 h2 (by rw [upd_ne h1]; exact h3)
theorem nsum_snoc (W : Wn) (c : Cn) (l : Nat) : nsum (W ++ [(c, l)]) = nsum W + N c := by rw [nsum_app, nsum_one]
section
variable {P0 : Program} {w : World} {K : PySem.W.Frag} {mg : Str → Option Value} {base : Heap}
def spClosed (K : PySem.W.Frag) : Sp := fun vs H Q _ => ∃ (x y : V) (t : Kd) (d : PyData) (I : Cn → Prop), vs = [x, y] ∧ Dp K H x t.dat ∧ t.nums ≤ 12 ∧ t.good ∧ Dp K H y d ∧ sm d = true ∧ HsI I ∧ I ⟨d, t.args, t.ans⟩ ∧
  ∀ H' b, Same H H' → (b = true ↔ Fin 0 [(⟨d, t.args, t.ans⟩, 1)]) → Q (.bl b) H'
structure CTs (P0 : Program) (w : World) (K : PySem.W.Frag) (mg : Str → Option Value) (fA fP : Addr) (dA dP : FuncData) (t1 t2 : Tok) : Prop where
  T : TxtW mg
  FA : Fun K "arguments_and_answer" "arguments_and_answer" sArgAns fA dA
  mA : mg "arguments_and_answer" = some (.ref fA)
  GP : ∀ base, FnOk P0 w K mg base CX0 5 fP dP ["value", "things", "k"] (spParts K)
  FP : Fun K "_parts_of" "_parts_of" sParts fP dP
  mP : mg "_parts_of" = some (.ref fP)
  mR : mg "MOST_ROW" = some (.int 100 t1)
  mM : mg "MOST_PARTS" = some (.int 4000 t2)
set_option maxHeartbeats 2000000 in
theorem ok_closed {f fA fP : Addr} {fd dA dP : FuncData} {t1 t2 : Tok} (F : Fun K "is_closed_talk" "is_closed_talk" sClosed f fd) (M : CTs P0 w K mg fA fP dA dP t1 t2) : FnOk P0 w K mg base CX0 6 f fd ["kind", "value"] (spClosed K) := by
  have GA : FnOk P0 w K mg base CX0 1 fA dA ["kind"] (spArgAns K) := ok_argans M.FA M.T
  have GP := M.GP base
  have bA := M.FA.binds (ps := ["kind"]) fun _ _ _ _ _ _ us hl => match us, hl with | [_], _ => rfl
  have bP := M.FP.binds (ps := ["value", "things", "k"]) fun _ _ _ _ _ _ us hl => match us, hl with | [_, _, _], _ => rfl
  refine F.ok scClosed (fun vs H Q E h => ?_) (fun cdv A outer s H vs Q E hr h => ?_)
  · obtain ⟨x, y, t, d, I, rfl, _⟩ := h
    rfl
  · obtain ⟨x, y, t, d, I, rfl, hx, hn, hg, hy, hsm, hI, hhs, k⟩ := h
    have nd := scClosed.nd
    have hr1 : Room 1 _ := hr.mono (by decide)
    have hr5 : Room 5 _ := hr.mono (by decide)
    apply Exists.intro
    apply And.intro
    · apply pss_cons
      · exact ps_asg (pe_call GA hr1 (by rfl) M.mA M.FA.kp bA .nil pass0 (pa_cons (pv 0) pa_nil)) (pg_tup (by rfl) (pgs_cons (pg_name (i := 2) nd rfl (Or.inl rfl)) (pgs_cons (pg_name (i := 3) nd rfl (Or.inl rfl)) pgs_nil)))
      apply pss_cons
      · exact ps_set (i := 4) nd rfl (Or.inl rfl) (pe_lst (pa_cons (pe_tup (pa_cons (pv 1) (pa_cons (pv 2) (pa_cons (pv 3) (pa_cons pe_int pa_nil))))) pa_nil))
      apply pss_cons
      · exact ps_set (i := 5) nd rfl (Or.inl rfl) pe_int
      apply pss_cons
      · exact ps_while PassesOwn.never (pt_truth (pv 4) (fun _ => rfl))
          (pss_cons (ps_asg (pe_bm0 PySem.F.plainAttrs_list PySem.F.slot_list_pop PySem.F.type_list_pop mt_pop (pv 4)) (pg_tup (by rfl) (pgs_cons (pg_name (i := 6) nd rfl (Or.inl rfl)) (pgs_cons (pg_name (i := 7) nd rfl (Or.inl rfl)) (pgs_cons (pg_name (i := 8) nd rfl (Or.inl rfl)) (pgs_cons (pg_name (i := 9) nd rfl (Or.inr rfl)) pgs_nil))))))
          (pss_cons (ps_set (i := 10) nd rfl (Or.inl rfl) (pe_call GP hr5 (by rfl) M.mP M.FP.kp bP .nil pass0 (pa_cons (pv 6) (pa_cons (pv 7) (pa_cons (pv 8) pa_nil)))))
          (pss_cons (ps_aug (i := 5) nd rfl (Or.inl rfl) pe_int ip_add)
          (pss_cons (ps_if (PW.pt (pw_or (pt_cmpR op_isN (pv 10) pe_non (nomark _)) (pw_or (pt_cmpR op_gt (pv 9) (pe_glob (v := .int 100) (by rfl) M.mR ⟨_, rfl⟩) (nomark _)) (pw_or1 (pt_cmpR op_gt (pe_op op_add (pe_op op_add (pv 5) (pe_callB call_len_seq (by rfl) M.T.len PySem.boot_len (pa_cons (pv 4) pa_nil))) (pe_callB call_len_seq (by rfl) M.T.len PySem.boot_len (pa_cons (pv 10) pa_nil))) (pe_glob (v := .int 4000) (by rfl) M.mM ⟨_, rfl⟩) (nomark _)))))) (pss_one (ps_ret pe_bl)) pss_nil)
          (pss_one (ps_expr (pe_bm PySem.F.plainAttrs_list PySem.F.slot_list_extend PySem.F.type_list_extend mt_extend (pv 4) (pa_cons
            (pe_lc (own := [("part", 11), ("own", 12), ("least", 13)]) (g := gTup K 3 (gCons (gName 11) (gCons (gName 12) (gCons (gName 13) gNil)))) (tt := tYes) rfl nd (pi_list (pv 10)) (blkOk_by (own := [("part", 11), ("own", 12), ("least", 13)]) (N := nClosed) (sc := defScope sClosed) (by decide +kernel)) (fun _ _ _ _ _ => pg_tup (by rfl) (pgs_cons (pg_name (i := 11) nd rfl (Or.inl rfl)) (pgs_cons (pg_name (i := 12) nd rfl (Or.inl rfl)) (pgs_cons (pg_name (i := 13) nd rfl (Or.inl rfl)) pgs_nil)))) (fun _ _ _ _ _ => pts_nil)
              (fun _ _ _ _ _ => pe_tup (pa_cons (pv 11) (pa_cons (pv 12) (pa_cons (pv 13) (pa_cons (pe_op op_add (pv 9) pe_int) pa_nil)))))) pa_nil))))))))
      exact pss_one (ps_ret pe_bl)
    refine ⟨_, rfl, x, t, rfl, hx, by omega, fun p1 q1 H1 s1 hp1 hq1 => ?_⟩
    refine ⟨p1, _, rfl, hp1, rfl, _, _, rfl, _, _, rfl, rfl, ?_⟩
    refine ⟨_, rfl, _, rfl, _, rfl, by show 4 ≤ sizeLine; decide, fun tp htp => ?_⟩
    have s2 := Pre.same_upd (o := .tup [y, .ref q1, .int t.ans, .int 1]) htp
    have hT2 : (upd H1 tp (.tup [y, .ref q1, .int t.ans, .int 1])) tp = some (.tup [y, .ref q1, .int t.ans, .int 1]) := upd_same
    generalize upd H1 tp (.tup [y, .ref q1, .int t.ans, .int 1]) = H2 at s2 hT2
    refine ⟨by show 1 ≤ sizeLine; decide, fun L hL => ?_⟩
    have sL := Pre.same_upd (o := .lst [.ref tp]) hL
    have s02 := s1.trans s2
    have hL0 : H L = none := s02.free hL
    have inL : ∀ {b : Addr} {o : HO}, H2 b = some o → wo L L (upd H2 L (.lst [.ref tp])) b = some o := fun {b o} e => by
      have nb : b ≠ L := ne_of_none e hL
      exact wo_at nb nb (by rw [upd_ne nb]; exact e)
    have sIn : Same H2 (wo L L (upd H2 L (.lst [.ref tp]))) := fun b o e => inL e
    have tal := args_few t
    have ok0 : WOk I ((⟨d, t.args, t.ans⟩, 1) : Cn × Nat) := ⟨⟨fun u hu => ⟨by have := arg_nums hu; omega, arg_good hg hu⟩, by show t.args.length ≤ 12 * 1; omega⟩, (show 1 ≤ 101 by decide), hsm, hhs⟩
    refine ⟨fun m σ H' => ∃ (n : Nat) (W : Wn) (vs : List V) (o6 o7 o8 o9 o10 o11 o12 o13 : Option V), m = nsum W ∧ σ = [some x, some y, some (.ref q1), some (.int t.ans), some (.ref L), some (.int (n : Int)), o6, o7, o8, o9, o10, o11, o12, o13] ∧ Same H2 H' ∧ H' L = some (.lst vs) ∧ DpAll K (wo L L H') vs (W.map wnD) ∧ (∀ p ∈ W, WOk I p) ∧ (Fin n W ↔ Fin 0 [(⟨d, t.args, t.ans⟩, 1)]) ∧ n + W.length ≤ 4000,
      ⟨_, 0, [(⟨d, t.args, t.ans⟩, 1)], [.ref tp], none, none, none, none, none, none, none, none, rfl, rfl, sL, upd_same, ?_, fun p hp => by rw [List.mem_singleton.mp hp]; exact ok0, Iff.rfl, by show 0 + 1 ≤ 4000; decide⟩, ?_⟩
    · refine .cons (.tup (SqT.of (inL hT2)) (.cons (dp_same (s02.trans sIn) hy) (.cons (dp_same (s2.trans sIn) hq1) (.cons (.int _) (.cons (.int _) .nil))))) .nil
    rintro m σ H3 ⟨n, W, vs, o6, o7, o8, o9, o10, o11, o12, o13, rfl, rfl, s3, hv, hD, hok, hfin, hlen⟩
    have s03 := s02.trans s3
    by_cases hW : W = []
    · subst hW
      cases hD
      exact ⟨_, rfl, _, .inl ⟨_, SqL.of hv, rfl⟩, iteF (k H3 true s03 ⟨fun _ => hfin.mp (fin_nil (by simpa using hlen)), fun _ => rfl⟩)⟩
    obtain ⟨W', ⟨c, l⟩, rfl⟩ := snoc_of hW
    rw [List.map_append] at hD
    obtain ⟨vs', v, rfl, hD', hV⟩ := dpAll_snoc_inv hD
    have okc := hok (c, l) (by simp)
    have okW : ∀ p ∈ W', WOk I p := fun p hp => hok p (List.mem_append_left _ hp)
    rw [List.length_append, List.length_singleton] at hlen
    have hvl : vs'.length = W'.length := by
      rw [dpAll_len hD', List.length_map]
    have dropE : (vs' ++ [v]).dropLast = vs' := by simp
    have lastE : (vs' ++ [v])[(vs' ++ [v]).length - 1]? = some v := by simp
    refine ⟨_, rfl, true, .inl ⟨_, SqL.of hv, by simp⟩, iteT ⟨fun σ' H' => ∃ m', m' < nsum (W' ++ [(c, l)]) ∧ ∃ (n : Nat) (W : Wn) (vs : List V) (o6 o7 o8 o9 o10 o11 o12 o13 : Option V), m' = nsum W ∧ σ' = [some x, some y, some (.ref q1), some (.int t.ans), some (.ref L), some (.int (n : Int)), o6, o7, o8, o9, o10, o11, o12, o13] ∧ Same H2 H' ∧ H' L = some (.lst vs) ∧ DpAll K (wo L L H') vs (W.map wnD) ∧ (∀ p ∈ W, WOk I p) ∧ (Fin n W ↔ Fin 0 [(⟨d, t.args, t.ans⟩, 1)]) ∧ n + W.length ≤ 4000,
      fun σ' H' h => h, ?_⟩⟩
    obtain ⟨tv, xs, rfl, hvT, hvX⟩ := kds_tup hV
    obtain ⟨x1, x2, rfl, w1, w2⟩ : ∃ x1 x2, xs = [x1, x2, .int c.k, .int (l : Int)] ∧ Dp K (wo L L H3) x1 c.t ∧ Dp K (wo L L H3) x2 (.tuple (c.ts.map Kd.dat)) := by
      cases hvX with
      | cons u1 r => cases r with
        | cons u2 r => cases r with
          | cons u3 r => cases r with
            | cons u4 r =>
              cases r
              cases u3
              cases u4
              exact ⟨_, _, rfl, u1, u2⟩
    have sw : Same H2 (upd H3 L (.lst vs')) := fun b' o eb => by
      rw [upd_ne (ne_of_none eb hL)]
      exact s3 _ _ eb
    refine ⟨_, rfl, .inl ⟨rfl, _, SqL.of hv⟩, L, _, _, rfl, rfl, hv, lastE, ?_⟩
    rw [dropE]
    have hL4 : (upd H3 L (.lst vs')) L = some (.lst vs') := upd_same
    have s34 : Same (wo L L H3) (wo L L (upd H3 L (.lst vs'))) := wo_updL
    generalize upd H3 L (.lst vs') = H4 at sw hL4 s34
    have av4 : Av H4 L L := ⟨⟨_, hL4, noTup_lst _⟩, ⟨_, hL4, noTup_lst _⟩⟩
    refine ⟨tv, _, rfl, sqT_same (s34.trans wo_sub) hvT, rfl, _, _, rfl, _, _, rfl, _, _, rfl, _, _, rfl, rfl, ?_⟩
    refine ⟨_, rfl, _, rfl, _, rfl, x1, x2, c.t, c.ts, c.k, L, L, rfl, av4, dp_same s34 w1, dp_same s34 w2, fun u hu => ⟨by have := (okc.ts.1 u hu).1; omega, (okc.ts.1 u hu).2⟩, by have := okc.ts.2; have := okc.l; simp only at *; omega, okc.sm, hI.hs _ okc.hs, ?_, ?_⟩
    · intro hn H5 s5
      have hn' : kids2 c = none := by
        cases q : kids2 ⟨c.t, c.ts, c.k⟩ with
        | none => rfl
        | some p => rw [q] at hn; cases hn
      refine ⟨_, rfl, _, _, rfl, rfl, ?_⟩
      refine ⟨_, rfl, rfl, _, rfl, ?_⟩
      rw [show decide ((V.non : V) = V.non) = true from decide_eq_true rfl]
      refine iteT (iteT (k H5 false ((s02.trans sw).trans s5) ⟨fun z => (by cases z), fun z => absurd (hfin.mpr z) (fin_bad hn')⟩))
    · intro ks hks l5 vs5 H5 s5 hl50 hl5 hdp5
      have s05 := (s02.trans sw).trans s5
      have hp : ∃ p, kids2 c = some p ∧ p.1 ++ p.2 = ks := by
        cases q : kids2 ⟨c.t, c.ts, c.k⟩ with
        | none => rw [q] at hks; cases hks
        | some p =>
          rw [q] at hks
          cases hks
          exact ⟨p, rfl, rfl⟩
      obtain ⟨p, hp, rfl⟩ := hp
      have few := kid_few hp okc.ts
      have hvl5 : vs5.length = (p.1 ++ p.2).length := by
        rw [dpAll_len hdp5, List.length_map]
      have hL5 : H5 L = some (.lst vs') := s5 _ _ hL4
      refine ⟨_, rfl, _, _, rfl, rfl, ?_⟩
      refine ⟨_, rfl, rfl, _, rfl, ?_⟩
      rw [show decide ((V.ref l5 : V) = V.non) = false from decide_eq_false (by intro z; cases z)]
      refine iteF ⟨_, rfl, _, _, rfl, rfl, _, rfl, ?_⟩
      by_cases hl : (100 : Int) < (l : Int)
      · rw [decide_eq_true hl]
        exact iteT (iteT (k H5 false s05 ⟨fun z => (by cases z), fun z => absurd (hfin.mpr z) (fin_deep (by omega))⟩))
      rw [decide_eq_false hl]
      refine iteF ⟨_, rfl, _, rfl, L, vs', rfl, .inl (SqL.of hL5), _, _, rfl, rfl, _, rfl, l5, vs5, rfl, .inl (SqL.of hl5), _, _, rfl, rfl, _, _, rfl, rfl, _, rfl, ?_⟩
      by_cases hm : (4000 : Int) < (n : Int) + 1 + (vs'.length : Int) + (vs5.length : Int)
      · rw [decide_eq_true hm]
        exact iteT (k H5 false s05 ⟨fun z => (by cases z), fun z => absurd (hfin.mpr z) (fin_many hp (by omega))⟩)
      rw [decide_eq_false hm]
      refine iteF ?_
      have okK : ∀ q ∈ p.1 ++ p.2, WOk I (q, l + 1) := fun q hq => ⟨by
        have := kid_ts hp okc.ts q hq
        have e : 12 * l + 12 = 12 * (l + 1) := by omega
        simp only at this
        rw [e] at this
        exact this, (show l + 1 ≤ 101 by omega), kid_cl sm_mem (fun h => h) hp okc.sm q hq, hI.kid _ _ hp okc.hs q hq⟩
      refine ⟨_, rfl, .inl ⟨rfl, _, SqL.of hL5⟩, _, rfl, l5, rfl, ⟨_, SqL.of hl5⟩, fun D hDn => lc_list (K := K) (a := l5) (xs := vs5) (fun i H' => Same H5 H' ∧ ∃ acc, H' D = some (.lst acc) ∧ acc.length = i ∧ DpAll K (W2 D L L H') acc (((p.1 ++ p.2).take i).map fun q => wnD (q, l + 1)))
        ⟨Pre.same_upd hDn, [], upd_same, rfl, .nil⟩ (fun i H' _ ⟨s6, _⟩ => SqL.of (s6 _ _ hl5)) ?_ ?_⟩
      · rintro i xi H6 hxi ⟨s6, acc, hacc, hal, hdpA⟩
        obtain ⟨d6, hd6, hdp6⟩ := dpAll_at hdp5 hxi
        rw [List.getElem?_map] at hd6
        obtain ⟨q, hq, rfl⟩ : ∃ q, (p.1 ++ p.2)[i]? = some q ∧ cnD q = d6 := by
          cases z : (p.1 ++ p.2)[i]? with
          | none => rw [z] at hd6; cases hd6
          | some q => rw [z] at hd6; cases hd6; exact ⟨q, rfl, rfl⟩
        have hil := (List.getElem?_eq_some_iff.mp hq).1
        obtain ⟨tq, xs6, rfl, hqT, hqX⟩ := kds_tup hdp6
        obtain ⟨y1, y2, rfl, u1, u2⟩ : ∃ y1 y2, xs6 = [y1, y2, .int q.k] ∧ Dp K (wo L L H5) y1 q.t ∧ Dp K (wo L L H5) y2 (.tuple (q.ts.map Kd.dat)) := by
          cases hqX with
          | cons v1 r => cases r with
            | cons v2 r => cases r with
              | cons v3 r =>
                cases r
                cases v3
                exact ⟨_, _, rfl, v1, v2⟩
        refine ⟨tq, _, rfl, sqT_same (wo_sub.trans s6) hqT, rfl, _, _, rfl, _, _, rfl, _, _, rfl, rfl, rfl, ?_⟩
        refine ⟨_, rfl, _, rfl, _, rfl, _, rfl, _, _, rfl, rfl, by show 4 ≤ sizeLine; decide, fun tp6 htp6 => ?_⟩
        have s7 := Pre.same_upd (o := .tup [y1, y2, .int q.k, .int ((l : Int) + 1)]) htp6
        have hDt : D ≠ tp6 := fun z => by
          rw [← z, hacc] at htp6
          cases htp6
        have av6 := (av4.same s5).same s6
        have hin : Same (wo L L H5) (W2 D L L (upd (upd H6 tp6 (.tup [y1, y2, .int q.k, .int ((l : Int) + 1)])) D (.lst (acc ++ [.ref tp6])))) := (w2_in hDn (s6.trans s7)).trans w2_upd
        have el : (l : Int) + 1 = ((l + 1 : Nat) : Int) := by omega
        refine ⟨acc, by rw [upd_ne hDt]; exact hacc, Nat.lt_of_lt_of_le (show acc.length < 100 by omega) (by decide), fun b o e => ?_, acc ++ [.ref tp6], upd_same, by rw [List.length_append, hal]; rfl, ?_⟩
        · rw [upd_ne (ne_of_none e hDn)]
          exact s7 _ _ (s6 _ _ e)
        · have eT : (((p.1 ++ p.2).take (i + 1)).map fun q => wnD (q, l + 1)) = (((p.1 ++ p.2).take i).map fun q => wnD (q, l + 1)) ++ [wnD (q, l + 1)] := by
            rw [List.take_add_one, hq, List.map_append]
            rfl
          rw [eT]
          refine dpAll_snoc (dpAll_same ((w2_mono s7).trans w2_upd) hdpA) ?_
          have hnew := SqT.of (K := K) (w2_upd (D := D) (o := .lst (acc ++ [.ref tp6])) _ _ (w2_new (o := .tup [y1, y2, .int q.k, .int ((l : Int) + 1)]) av6 hacc htp6))
          exact .tup hnew (.cons (dp_same hin u1) (.cons (dp_same hin u2) (.cons (.int _) (.cons (by show Dp K _ (.int ((l : Int) + 1)) (.int ((l + 1 : Nat) : Int)); rw [← el]; exact .int _) .nil))))
      · rintro H6 ⟨s6, acc, hacc, hal, hdpA⟩
        rw [hvl5, List.take_length] at hdpA
        have hL6 := s6 _ _ hL5
        refine ⟨L, D, vs', acc, rfl, rfl, hL6, hacc, Nat.le_trans (show vs'.length + acc.length ≤ 5000 by omega) (by decide), ?_⟩
        have s46 := s5.trans s6
        have sfin : Same (wo L L H4) (wo L L (upd H6 L (.lst (vs' ++ acc)))) := (wo_mono s46).trans wo_updL
        refine ⟨nsum (W' ++ (p.1 ++ p.2).map fun q => (q, l + 1)), ?_, n + 1, W' ++ (p.1 ++ p.2).map fun q => (q, l + 1), vs' ++ acc, some x1, some x2, some (.int c.k), some (.int (l : Int)), some (.ref l5), o11, o12, o13, rfl, ?_, fun b' o eb => ?_, upd_same, ?_, fun q hq => ?_, ?_, ?_⟩
        · rw [nsum_snoc, nsum_app, nsum_kids, N_some hp]
          omega
        · rfl
        · rw [upd_ne (ne_of_none eb hL)]
          exact s46 _ _ (sw _ _ eb)
        · rw [List.map_append, List.map_map]
          exact dpAll_app (dpAll_same (s34.trans sfin) hD') (dpAll_same (w2_sub.trans wo_updL) hdpA)
        · rcases List.mem_append.mp hq with z | z
          · exact okW q z
          · obtain ⟨r, hr', rfl⟩ := List.mem_map.mp z
            exact okK r hr'
        · rw [← fin_step hp (by omega)]
          exact hfin
        · rw [List.length_append, List.length_map]
          omega
end
end Tk

namespace Tk
open PySem PySem.Spec PyProof.Rows L2
open Wt Kn Dc
mutual
/-- whole numbers from 0 to 99, texts, and tuples of such -/
def pl : PyData → Bool
  | .int i => decide (0 ≤ i) && decide (i < 100)
  | .str s => (PyData.str s).canLay0
  | .tuple ds => plAll ds
  | _ => false
def plAll : List PyData → Bool
  | [] => true
  | d :: ds => pl d && plAll ds
end
theorem pl_mem : ∀ {ds : List PyData} {d : PyData}, plAll ds = true → d ∈ ds → pl d = true
  | e :: ds, d, h, hm => by
    have h' : (pl e && plAll ds) = true := h
    rw [Bool.and_eq_true] at h'
    rcases List.mem_cons.mp hm with z | z
    · rw [z]; exact h'.1
    · exact pl_mem h'.2 z
theorem pl_all : ∀ {ds : List PyData}, (∀ d ∈ ds, pl d = true) → plAll ds = true
  | [], _ => rfl
  | e :: ds, h => by
    show (pl e && plAll ds) = true
    rw [h e (List.mem_cons_self ..), pl_all fun d hd => h d (List.mem_cons_of_mem _ hd)]
    rfl
theorem pl_at : ∀ {ks : List Nat} {D e : PyData}, pl D = true → atP ks D = some e → pl e = true
  | [], D, e, h, ha => by
    cases ha
    exact h
  | k :: ks, D, e, h, ha => by
    obtain ⟨ds, d1, rfl, h1, h2⟩ := atP_inv ha
    exact pl_at (pl_mem (ds := ds) h (List.mem_of_getElem? h1)) h2
mutual
theorem pl_can : ∀ d : PyData, pl d = true → d.canLay0 = true
  | .int i, _ => rfl
  | .str s, h => h
  | .tuple ds, h => pl_canAll ds h
  | .none, h => by cases h
  | .bool _, h => by cases h
  | .list _, h => by cases h
  | .dict _, h => by cases h
theorem pl_canAll : ∀ ds : List PyData, plAll ds = true → PyData.canLayAll0 ds = true
  | [], _ => rfl
  | d :: ds, h => by
    have h' : (pl d && plAll ds) = true := h
    rw [Bool.and_eq_true] at h'
    show (d.canLay0 && PyData.canLayAll0 ds) = true
    rw [pl_can d h'.1, pl_canAll ds h'.2]
    rfl
end
mutual
theorem pl_sm : ∀ d : PyData, pl d = true → sm d = true
  | .int i, h => by
    have h' : (decide (0 ≤ i) && decide (i < 100)) = true := h
    rw [Bool.and_eq_true] at h'
    have h1 := of_decide_eq_true h'.1
    have h2 := of_decide_eq_true h'.2
    exact decide_eq_true (by omega)
  | .str s, _ => rfl
  | .tuple ds, h => pl_smAll ds h
  | .none, h => by cases h
  | .bool _, h => by cases h
  | .list _, h => by cases h
  | .dict _, h => by cases h
theorem pl_smAll : ∀ ds : List PyData, plAll ds = true → smAll ds = true
  | [], _ => rfl
  | d :: ds, h => by
    have h' : (pl d && plAll ds) = true := h
    rw [Bool.and_eq_true] at h'
    show (sm d && smAll ds) = true
    rw [pl_sm d h'.1, pl_smAll ds h'.2]
    rfl
end
theorem at_sz : ∀ {ks : List Nat} {D e : PyData}, atP ks D = some e → Kn.sz e ≤ Kn.sz D
  | [], D, e, ha => by
    cases ha
    exact Nat.le_refl _
  | k :: ks, D, e, ha => by
    obtain ⟨ds, d1, rfl, h1, h2⟩ := atP_inv ha
    have := at_sz h2
    have := sz_mem h1
    omega
/-- data with bounds -/
structure Ob (m s : Nat) (d : PyData) : Prop where
  ok : Ok m d
  sz : Kn.sz d ≤ s
  sm : sm d = true
theorem ob_mono {m m' s s' : Nat} {d : PyData} (h : Ob m s d) (h1 : m ≤ m') (h2 : s ≤ s') : Ob m' s' d := ⟨ok_mono h.ok h1, Nat.le_trans h.sz h2, h.sm⟩
theorem szAll_app : ∀ (a b : List PyData), Kn.szAll (a ++ b) = Kn.szAll a + Kn.szAll b
  | [], b => by
    show Kn.szAll b = 0 + Kn.szAll b
    omega
  | d :: a, b => by
    have := szAll_app a b
    show Kn.sz d + Kn.szAll (a ++ b) = Kn.sz d + Kn.szAll a + Kn.szAll b
    omega
theorem szAll_rev : ∀ ds : List PyData, Kn.szAll ds.reverse = Kn.szAll ds
  | [] => rfl
  | d :: ds => by
    rw [List.reverse_cons, szAll_app, szAll_rev ds]
    show Kn.szAll ds + (Kn.sz d + 0) = Kn.sz d + Kn.szAll ds
    omega
theorem szAll_drop (ds : List PyData) (n : Nat) : Kn.szAll (ds.drop n) ≤ Kn.szAll ds := by
  have := szAll_app (ds.take n) (ds.drop n)
  rw [List.take_append_drop] at this
  omega
theorem szAll_tk (ds : List PyData) (n : Nat) : Kn.szAll (ds.take n) ≤ Kn.szAll ds := by
  have := szAll_app (ds.take n) (ds.drop n)
  rw [List.take_append_drop] at this
  omega
theorem ob_tup {m s : Nat} {es : List PyData} (h : ∀ e ∈ es, Ok m e ∧ sm e = true) (hs : Kn.szAll es + 1 ≤ s) : Ob (m + 1) s (.tuple es) :=
  ⟨ok_tupD fun e he => (h e he).1, by show 1 + Kn.szAll es ≤ s; omega, sm_all fun e he => (h e he).2⟩
theorem ob_mem {m s : Nat} {ds : List PyData} (h : Ob m s (.tuple ds)) : ∀ d ∈ ds, Ok (m - 1) d ∧ sm d = true := fun d hd => ⟨ok_memT h.ok hd, sm_mem (ds := ds) h.sm hd⟩
/-- the part at a path exchanged -/
def putP : List Nat → PyData → PyData → PyData
  | [], _, e => e
  | k :: ks, .tuple ds, e => .tuple (ds.take k ++ [putP ks (ds.getD k .none) e] ++ ds.drop (k + 1))
  | _ :: _, d, _ => d
theorem getD_at {ds : List PyData} {k : Nat} {d : PyData} (h : ds[k]? = some d) : ds.getD k .none = d := by
  rw [List.getD_eq_getElem?_getD, h]
  rfl
theorem szAll_split {ds : List PyData} {k : Nat} {d : PyData} (h : ds[k]? = some d) : Kn.szAll ds = Kn.szAll (ds.take k) + Kn.sz d + Kn.szAll (ds.drop (k + 1)) := by
  obtain ⟨h1, _⟩ := szAll_take h
  have h2 := szAll_app (ds.take (k + 1)) (ds.drop (k + 1))
  rw [List.take_append_drop] at h2
  omega
theorem put_ob {m s u : Nat} : ∀ {ks : List Nat} {D e e' : PyData}, Ob m s D → atP ks D = some e → Ob m u e' → Ob (m + ks.length) (s + u) (putP ks D e')
  | [], D, e, e', _, _, h => ob_mono h (Nat.le_add_right _ _) (Nat.le_add_left _ _)
  | k :: ks, D, e, e', h, ha, h' => by
    obtain ⟨ds, d1, rfl, h1, h2⟩ := atP_inv ha
    have hd := ob_mem h
    have hd1 := hd d1 (List.mem_of_getElem? h1)
    have sp := szAll_split h1
    have hsz : 1 + Kn.szAll ds ≤ s := h.sz
    have ih := put_ob (s := Kn.sz d1) (m := m) (ks := ks) (D := d1) ⟨ok_mono hd1.1 (by omega), Nat.le_refl _, hd1.2⟩ h2 h'
    have e1 : putP (k :: ks) (.tuple ds) e' = .tuple (ds.take k ++ [putP ks d1 e'] ++ ds.drop (k + 1)) := by
      show PyData.tuple (ds.take k ++ [putP ks (ds.getD k .none) e'] ++ ds.drop (k + 1)) = _
      rw [getD_at h1]
    rw [e1]
    have e2 : m + (k :: ks).length = m + ks.length + 1 := by
      simp only [List.length_cons]
      omega
    rw [e2]
    refine ob_tup (fun x hx => ?_) ?_
    · rcases List.mem_append.mp hx with hx | hx
      · rcases List.mem_append.mp hx with hx | hx
        · have := hd x (List.mem_of_mem_take hx)
          exact ⟨ok_mono this.1 (by omega), this.2⟩
        · rw [List.mem_singleton.mp hx]
          exact ⟨ih.ok, ih.sm⟩
      · have := hd x (List.mem_of_mem_drop hx)
        exact ⟨ok_mono this.1 (by omega), this.2⟩
    · rw [szAll_app, szAll_app]
      have := ih.sz
      have e3 : Kn.szAll [putP ks d1 e'] = Kn.sz (putP ks d1 e') := by
        show Kn.sz (putP ks d1 e') + 0 = _
        omega
      rw [e3]
      omega
theorem dpAll_take {K : PySem.W.Frag} {H : Hp} : ∀ {xs : List V} {ds : List PyData} (n : Nat), DpAll K H xs ds → DpAll K H (xs.take n) (ds.take n)
  | _, _, 0, _ => by
    rw [List.take_zero, List.take_zero]
    exact .nil
  | _, _, n + 1, .nil => .nil
  | _, _, n + 1, .cons a r => .cons a (dpAll_take n r)
theorem dpAll_drop {K : PySem.W.Frag} {H : Hp} : ∀ {xs : List V} {ds : List PyData} (n : Nat), DpAll K H xs ds → DpAll K H (xs.drop n) (ds.drop n)
  | _, _, 0, h => h
  | _, _, n + 1, .nil => .nil
  | _, _, n + 1, .cons a r => dpAll_drop n r
theorem dpAll_rev {K : PySem.W.Frag} {H : Hp} : ∀ {xs : List V} {ds : List PyData}, DpAll K H xs ds → DpAll K H xs.reverse ds.reverse
  | _, _, .nil => .nil
  | _, _, .cons a r => by
    rw [List.reverse_cons, List.reverse_cons]
    exact dpAll_app (dpAll_rev r) (.cons a .nil)
theorem dpAll_cut {K : PySem.W.Frag} {H : Hp} {xs : List V} {ds : List PyData} (lo hi : Option Int) (h : DpAll K H xs ds) : ∃ i j, cutV xs lo hi = (xs.drop i).take j ∧ DpAll K H (cutV xs lo hi) ((ds.drop i).take j) :=
  ⟨_, _, rfl, dpAll_take _ (dpAll_drop _ h)⟩
theorem cut_to {xs : List V} {k : Nat} (h : k ≤ xs.length) : cutV xs none (some (k : Int)) = xs.take k := by
  unfold cutV
  rw [HT.sIx_none, HT.sIx_nat, List.drop_zero]
  congr 1
  omega
theorem cut_from {xs : List V} {k : Nat} (h : k ≤ xs.length) : cutV xs (some (k : Int)) none = xs.drop k := by
  unfold cutV
  rw [HT.sIx_none, HT.sIx_nat]
  have e : min k xs.length = k := by omega
  rw [e]
  exact List.take_of_length_le (by rw [List.length_drop]; omega)
end Tk

namespace Tk
open PySem PySem.Spec PyProof.Rows L2
open Wt Kn Dc
section
variable {P0 : Program} {w : World} {K : PySem.W.Frag} {mg : Str → Option Value} {base : Heap}
/-- whether it is a talk of the kind -/
def spTalk (K : PySem.W.Frag) (C : Addr) : Sp := fun vs H Q E => ∃ (x y : V) (dk : PyData), vs = [x, y] ∧ Dp K H x dk ∧ Sh dk ∧
  ((isK dk = false ∧ ∀ H', Same H H' → E (.ref C) none H') ∨
   ∃ (t : Kd) (d : PyData) (I : Cn → Prop), dk = t.dat ∧ isK dk = true ∧ t.nums ≤ 12 ∧ t.good ∧ Dp K H y d ∧ sm d = true ∧ HsI I ∧ I ⟨d, t.args, t.ans⟩ ∧
    ∀ H' b, Same H H' → (b = true ↔ Fin 0 [(⟨d, t.args, t.ans⟩, 1)]) → Q (.bl b) H')
theorem scIsTalk : FnScope ["kind", "value"] ["kind", "value"] (defScope sIsTalk) := ⟨rfl, rfl, rfl, by decide +kernel, rfl, by decide +kernel, by decide +kernel⟩
theorem ok_talk {f fC fK C : Addr} {fd dC dK : FuncData} (F : Fun K "is_talk" "is_talk" sIsTalk f fd) (GC : ∀ base, FnOk P0 w K mg base (L2.CX P0 w) 5 fC dC ["value"] (spChk K C)) (FC : Fun K "check_kind" "check_kind" sCheckKind fC dC) (mC : mg "check_kind" = some (.ref fC))
    (GK : ∀ base, FnOk P0 w K mg base CX0 6 fK dK ["kind", "value"] (spClosed K)) (FK : Fun K "is_closed_talk" "is_closed_talk" sClosed fK dK) (mK : mg "is_closed_talk" = some (.ref fK)) : FnOk P0 w K mg base (L2.CX P0 w) 7 f fd ["kind", "value"] (spTalk K C) := by
  have GC := GC base
  have GK := GK base
  have bC := FC.binds (ps := ["value"]) fun _ _ _ _ _ _ us hl => match us, hl with | [_], _ => rfl
  have bK := FK.binds (ps := ["kind", "value"]) fun _ _ _ _ _ _ us hl => match us, hl with | [_, _], _ => rfl
  refine F.okX scIsTalk (fun vs H Q E h => ?_) (fun cdv A outer s H vs Q E hr h => ?_)
  · obtain ⟨x, y, dk, rfl, _⟩ := h
    rfl
  · obtain ⟨x, y, dk, rfl, hx, hsh, h⟩ := h
    have hr5 : Room 5 _ := hr.mono (by decide)
    refine ⟨_, pss_cons (ps_expr (pe_callS GC hr5 rfl mC FC.kp bC (fun σ => passAt (takes_of rfl rfl rfl rfl) σ) (pa_cons (pv 0) pa_nil)))
      (pss_one (ps_ret (pe_call GK hr rfl mK FK.kp bK .nil pass0 (pa_cons (pv 0) (pa_cons (pv 1) pa_nil))))), ?_⟩
    rcases h with ⟨hn, k⟩ | ⟨t, d, I, rfl, hk, hn, hg, hy, h1, h2, h3, k⟩
    · refine ⟨_, rfl, x, dk, rfl, hx, hsh, fun z => ?_, fun _ => k⟩
      rw [hn] at z
      cases z
    · refine ⟨_, rfl, x, _, rfl, hx, hsh, fun _ H1 s1 => ?_, fun z => ?_⟩
      · exact ⟨_, rfl, _, rfl, x, y, t, d, I, rfl, dp_same s1 hx, hn, hg, dp_same s1 hy, h1, h2, h3, fun H' b s2 hb => k H' b (s1.trans s2) hb⟩
      · rw [hk] at z
        cases z
end
end Tk

namespace Tk
open PySem PySem.Spec PyProof.Rows L2
open Wt Kn Dc
theorem dp_pl {K : PySem.W.Frag} {H : Hp} {p g c : Addr} {n : Nat} (hs : Pre.St H p g c n) : ∀ (m : Nat) {d : PyData} {x : V}, d.depth < m → pl d = true → Dp K H x d → Dp K (wo p g H) x d
  | 0, _, _, h, _, _ => by omega
  | m + 1, d, x, hm, hp, h => by
    cases h with
    | int i => exact .int i
    | str s => exact .str s
    | tup q r =>
      rename_i a xs ds
      refine .tup (sqT_wo q hs) ?_
      have go : ∀ {xs : List V} {es : List PyData}, (∀ e ∈ es, e.depth < m ∧ pl e = true) → DpAll K H xs es → DpAll K (wo p g H) xs es := by
        intro xs es
        induction es generalizing xs with
        | nil =>
          intro _ h
          cases h
          exact .nil
        | cons e es ih =>
          intro hh h
          cases h with
          | cons h1 h2 => exact .cons (dp_pl hs m (hh e (List.mem_cons_self ..)).1 (hh e (List.mem_cons_self ..)).2 h1) (ih (fun x hx => hh x (List.mem_cons_of_mem _ hx)) h2)
      refine go (fun e he => ⟨?_, pl_mem hp he⟩) r
      have := dep_mem he
      have h2 : PyData.depthAll ds + 1 < m + 1 := hm
      omega
    | _ => cases hp
theorem dp_plW {K : PySem.W.Frag} {H : Hp} {p g c : Addr} {n : Nat} (hs : Pre.St H p g c n) {d : PyData} {x : V} (hp : pl d = true) (h : Dp K H x d) : Dp K (wo p g H) x d := dp_pl hs (d.depth + 1) (Nat.lt_succ_self _) hp h
/-- a value that is some data with bounds -/
def ObV (K : PySem.W.Frag) (H : Hp) (m s : Nat) (v : V) : Prop := ∃ d, Dp K H v d ∧ Ob m s d
theorem obv_same {K : PySem.W.Frag} {H H' : Hp} {m s : Nat} {v : V} (z : Same H H') (h : ObV K H m s v) : ObV K H' m s v := by
  obtain ⟨d, h1, h2⟩ := h
  exact ⟨d, dp_same z h1, h2⟩
theorem obv_mono {K : PySem.W.Frag} {H : Hp} {m m' s s' : Nat} {v : V} (h : ObV K H m s v) (h1 : m ≤ m') (h2 : s ≤ s') : ObV K H m' s' v := by
  obtain ⟨d, h3, h4⟩ := h
  exact ⟨d, h3, ob_mono h4 h1 h2⟩
theorem obv_all {K : PySem.W.Frag} {H : Hp} {m s : Nat} : ∀ {xs : List V} {ds : List PyData}, DpAll K H xs ds → (∀ d ∈ ds, Ob m s d) → ∀ x ∈ xs, ObV K H m s x
  | _, _, .nil, _, x, hx => by cases hx
  | _, _, .cons (d := d) h r, k, x, hx => by
    rcases List.mem_cons.mp hx with z | z
    · rw [z]
      exact ⟨d, h, k d (List.mem_cons_self ..)⟩
    · exact obv_all r (fun e he => k e (List.mem_cons_of_mem _ he)) x z
theorem obv_tup {K : PySem.W.Frag} {H : Hp} {m s : Nat} {r : Addr} {ys : List V} {es : List PyData} (hr : SqT K H r ys) (h : DpAll K H ys es) (ho : ∀ e ∈ es, Ok m e ∧ sm e = true) (hs : Kn.szAll es + 1 ≤ s) : ObV K H (m + 1) s (.ref r) :=
  ⟨_, .tup hr h, ob_tup ho hs⟩
theorem obv_lst {K : PySem.W.Frag} {H : Hp} {m s : Nat} {r : Addr} {ys : List V} {es : List PyData} (hr : SqL K H r ys) (h : DpAll K H ys es) (ho : ∀ e ∈ es, Ok m e ∧ sm e = true) (hs : 1 ≤ s) : ObV K H (m + 1) s (.ref r) :=
  ⟨_, .lst hr h, ok_lstD fun e he => (ho e he).1, hs, rfl⟩
section
variable {P0 : Program} {w : World} {K : PySem.W.Frag} {mg : Str → Option Value} {base : Heap}
def spPutX (K : PySem.W.Frag) (N : Nat) : Sp := fun vs H Q _ => ∃ (x : V) (q : Addr) (y : V) (p g c : Addr) (n : Nat) (D e e' : PyData) (ks : List Nat), vs = [x, .ref q, y] ∧ Pre.St H p g c n ∧ Dp K (wo p g H) x D ∧ sz D ≤ 4000 ∧ SqT K H q (kV ks) ∧ atP ks D = some e ∧ ks.length < N ∧ Dp K (wo p g H) y e' ∧
  ∀ v H', Same H H' → Dp K (wo p g H') v (putP ks D e') → Q v H'
theorem ok_putX {f : Addr} {fd : FuncData} (F : Fun K "_law_cp_put" "_law_cp_put" sPut f fd) (mF : mg "_law_cp_put" = some (.ref f)) : ∀ N : Nat, FnOk P0 w K mg base CX0 (N + 1) f fd ["thing", "path", "part"] (spPutX K N)
  | 0 => by
    refine F.ok (k := 0) scPut (fun vs H Q E h => ?_) (fun cdv A outer s H vs Q E hr h => ?_)
    · obtain ⟨x, q, y, p, g, c, n, D, e, e', ks, rfl, _⟩ := h
      rfl
    · obtain ⟨x, q, y, p, g, c, n, D, e, e', ks, rfl, _, _, _, _, _, h0, _⟩ := h
      omega
  | N + 1 => by
    have IH := ok_putX F mF N
    have bF := F.binds (ps := ["thing", "path", "part"]) fun _ _ _ _ _ _ us hl => match us, hl with | [_, _, _], _ => rfl
    refine F.ok (k := N + 1) scPut (fun vs H Q E h => ?_) (fun cdv A outer s H vs Q E hr h => ?_)
    · obtain ⟨x, q, y, p, g, c, n, D, e, e', ks, rfl, _⟩ := h
      rfl
    · obtain ⟨x, q, y, p, g, c, n, D, e, e', ks, rfl, hs, hd, hsz, hq, hat, hN, hy, k⟩ := h
      have nd := scPut.nd
      refine ⟨_, pss_cons (ps_if (pt_cmpR (op_eqD hr.units) (pv 1) (pe_tup pa_nil) (nomark _)) (pss_one (ps_ret (pv 2))) pss_nil)
        (pss_one (ps_ret (pe_op op_catA (pe_op op_catA (pe_slice sl_tupA (pv 0) po_none (po_some (pe_ix ix_tup (pv 1) pe_int (fun _ _ => rfl))))
            (pe_tup (pa_cons (pe_call IH hr rfl mF F.kp bF .nil pass0 (pa_cons (pe_ix ix_tup (pv 0) (pe_ix ix_tup (pv 1) pe_int (fun _ _ => rfl)) (fun _ _ => rfl)) (pa_cons (pe_slice sl_tupA (pv 1) (po_some pe_int) po_none) (pa_cons (pv 2) pa_nil)))) pa_nil)))
          (pe_slice sl_tupA (pv 0) (po_some (pe_op op_add (pe_ix ix_tup (pv 1) pe_int (fun _ _ => rfl)) pe_int)) po_none)))), ?_⟩
      refine ⟨_, rfl, by show 0 ≤ sizeLine; decide, fun t0 ht0 => ?_⟩
      have s1 := Pre.same_upd (o := .tup []) ht0
      refine ⟨.tuple _, .tuple [], .tup (sqT_same s1 hq) (kV_ok ks), .tup (SqT.of upd_same) .nil, kV_sh ks, by decide +kernel, _, rfl, ?_⟩
      generalize upd H t0 (.tup []) = H1 at s1
      cases ks with
      | nil =>
        exact iteT ⟨_, rfl, k y H1 s1 (dp_same (wo_mono s1) hy)⟩
      | cons k0 ks =>
        refine iteF ?_
        obtain ⟨ds, d1, rfl, hd1, hat1⟩ := atP_inv hat
        have hd' := hd
        obtain ⟨a, xs, rfl, hx, hD⟩ : ∃ a xs, x = .ref a ∧ SqT K (wo p g H) a xs ∧ DpAll K (wo p g H) xs ds := by
          cases hd' with
          | tup q1 q2 => exact ⟨_, _, rfl, q1, q2⟩
        have hxl := dpAll_len hD
        have hk0 : k0 < ds.length := (List.getElem?_eq_some_iff.mp hd1).1
        obtain ⟨x1, hx1⟩ : ∃ x1, xs[k0]? = some x1 := ⟨xs[k0], List.getElem?_eq_getElem (by omega)⟩
        obtain ⟨d1', hd1', hdp⟩ := dpAll_at hD hx1
        rw [hd1] at hd1'
        cases hd1'
        have hsz' : 1 + szAll ds ≤ 4000 := hsz
        have hll := szAll_len ds
        have hszd := sz_mem hd1
        have hs1 := st_same hs s1
        have hxG := sqT_same wo_sub hx
        have hq1 := sqT_same s1 hq
        refine ⟨_, rfl, _, rfl, q, _, _, _, rfl, rfl, hq1, atI_nat (j := 0) rfl, _, rfl, slA_any (sqT_same s1 hxG) fun r1 H2 s2 hr1 => ?_⟩
        have s12 := s1.trans s2
        refine ⟨_, rfl, _, rfl, q, _, _, _, rfl, rfl, sqT_same s12 hq, atI_nat (j := 0) rfl, a, xs, _, x1, rfl, rfl, sqT_same s12 hxG, atI_nat hx1, ?_⟩
        refine ⟨_, rfl, _, rfl, go_noP (slA_any (sqT_same s12 hq) fun q2 H3 s3 hq2 => ?_)⟩
        have s13 := s12.trans s3
        rw [show kV (k0 :: ks) = V.int (k0 : Int) :: kV ks from rfl, cut_one] at hq2
        refine ⟨_, rfl, x1, q2, y, p, g, c, n, d1, e, e', ks, rfl, st_same hs s13, dp_same (wo_mono s13) hdp, by omega, hq2, hat1, Nat.lt_of_succ_lt_succ hN, dp_same (wo_mono s13) hy, fun v H4 s4 hv => ?_⟩
        have s14 := s13.trans s4
        refine ⟨by show 1 ≤ sizeLine; decide, fun r hr0 => ?_⟩
        have s5 := Pre.same_upd (o := .tup [v]) hr0
        have hc1 : (cutV xs none (some (k0 : Int))).length ≤ xs.length := cutV_length ..
        refine catA_any (ys := [v]) (sqT_same (s3.trans (s4.trans s5)) hr1) (SqT.of upd_same) (by simp only [List.length_singleton]; omega) fun r2 H6 s6 hr2 => ?_
        have s16 := s14.trans (s5.trans s6)
        refine ⟨_, rfl, _, rfl, q, _, _, _, rfl, rfl, sqT_same s16 hq, atI_nat (j := 0) rfl, _, _, rfl, rfl, _, rfl, go_noP (slA_any (sqT_same s16 hxG) fun r3 H7 s7 hr3 => ?_)⟩
        have hc2 := cutV_length xs (some ((k0 : Int) + 1)) none
        refine catA_any (sqT_same s7 hr2) hr3 (by simp only [List.length_append, List.length_singleton]; omega) fun r4 H8 s8 hr4 => ?_
        have s18 := s16.trans (s7.trans s8)
        have hv8 := dp_same (wo_mono ((s5.trans s6).trans (s7.trans s8))) hv
        refine k (.ref r4) H8 s18 ?_
        have e1 : putP (k0 :: ks) (.tuple ds) e' = .tuple (ds.take k0 ++ [putP ks d1 e'] ++ ds.drop (k0 + 1)) := by
          show PyData.tuple (ds.take k0 ++ [putP ks (ds.getD k0 .none) e'] ++ ds.drop (k0 + 1)) = _
          rw [getD_at hd1]
        have c1 : cutV xs none (some (k0 : Int)) = xs.take k0 := cut_to (by omega)
        have c2 : cutV xs (some ((k0 : Int) + 1)) none = xs.drop (k0 + 1) := cut_from (k := k0 + 1) (by omega)
        rw [c1, c2] at hr4
        rw [e1]
        have hD8 := dpAll_same (wo_mono s18) hD
        exact .tup (sqT_wo hr4 (st_same hs s18)) (dpAll_app (dpAll_app (dpAll_take k0 hD8) (.cons hv8 .nil)) (dpAll_drop (k0 + 1) hD8))
end
end Tk

namespace Dc
open PySem PySem.Spec PyProof.Rows L2
open Wt
/-- some written items, then others -/
def tPre (K : PySem.W.Frag) (ds : List PyData) (t : TA) : TA := fun σ H Q => ∀ vs H1, Same H H1 → DpAll K (Nw H H1) vs ds → t σ H1 fun xs H2 => Q (vs ++ xs) H2
theorem pre_nil {X : Cx} {es : List Expr} {t : TA} (h : PA X es t) : PA X es (tPre X.K [] t) := pa_imp h fun σ H Q k => by
  have z := k [] H (Same.refl _) .nil
  exact z
theorem pre_cons {X : Cx} {e : Expr} {es : List Expr} {d : PyData} {ds : List PyData} {t : TA} (h : ED X e d) (r : PA X es (tPre X.K ds t)) (hs : starEach (e :: es) X.env = (false, eval e X.env) :: starEach es X.env := by rfl) : PA X (e :: es) (tPre X.K (d :: ds) t) :=
  pa_imp (pa_cons h r hs) fun _ _ _ k _ _ s1 d1 _ _ s2 d2 => k _ _ (s1.trans s2) (.cons (dp_same (nw_mono s2) d1) (dpAll_same (nw_low s1) d2))
end Dc
namespace Tk
open PySem PySem.Spec PyProof.Rows L2
open Wt Kn Dc
abbrev sBent : Stmt := Pre.top 49
abbrev sBadK : Stmt := Pre.top 50
/-- between two statements: what the first leaves, and what the rest makes of it -/
theorem go_cut {t u : TS} {D : Ends} {σ : L2.St} {H : Hp} (Post : L2.St → Hp → Prop) (h1 : ∀ σ' H', Post σ' H' → u D σ' H') (h2 : ∀ nx' : L2.St → Hp → Prop, (∀ σ' H', Post σ' H' → nx' σ' H') → t { D with nx := nx' } σ H) : tSeq t u D σ H := h2 (u D) h1
theorem str_ok : ∀ i : _root_.Fin 100, Ok 0 (.str (toString (i.val : Int))) := by
  have z : ∀ i : _root_.Fin 100, (PyData.str (toString (i.val : Int))).canLay0 = true := by decide +kernel
  exact fun i => ⟨z i, Nat.le_refl _⟩
theorem str_okI {i : Int} (h1 : 0 ≤ i) (h2 : i < 100) : Ok 0 (.str (toString i)) := by
  have := str_ok ⟨i.toNat, by omega⟩
  have e : ((i.toNat : Nat) : Int) = i := by omega
  simp only at this
  rw [e] at this
  exact this
theorem log_ok : ∀ i : _root_.Fin 100, (i.val : Int).natAbs.log2 < 1920 := by decide +kernel
theorem log_okI {i : Int} (h1 : 0 ≤ i) (h2 : i < 100) : i.natAbs.log2 < 1920 := by
  have := log_ok ⟨i.toNat, by omega⟩
  have e : ((i.toNat : Nat) : Int) = i := by omega
  simp only at this
  rw [e] at this
  exact this
def bent0 : List PyData := [.none, .tuple [], .int 0, .int 1, .bool true, .str "name", .tuple [.str "num", .int 2], .tuple [.int 1, .int 1], .tuple [.int 0, .int 1], .list []]
theorem bent0_ok : ∀ d ∈ bent0, Ob 1 3 d := by
  have z : ∀ d ∈ bent0, ((d.canLay0 && decide (d.depth ≤ 1)) && (decide (Kn.sz d ≤ 3) && sm d)) = true := by decide +kernel
  intro d hd
  have := z d hd
  rw [Bool.and_eq_true, Bool.and_eq_true, Bool.and_eq_true] at this
  exact ⟨⟨this.1.1, of_decide_eq_true this.1.2⟩, of_decide_eq_true this.2.1, this.2.2⟩
section
variable {P0 : Program} {w : World} {K : PySem.W.Frag} {mg : Str → Option Value} {base : Heap}
/-- a bent one: its data with bounds -/
def spBentT (K : PySem.W.Frag) : Sp := fun vs H Q _ => ∃ (x : V) (p g c : Addr) (n : Nat) (D : PyData), vs = [.ref p, x] ∧ Pre.St H p g c n ∧ n < 2 ^ 38 ∧ Dp K (wo p g H) x D ∧ pl D = true ∧ 2 ≤ Kn.sz D ∧ Kn.sz D ≤ 900 ∧ D.depth ≤ 18 ∧
  ∀ y H', Pre.Kp p g H H' → Pre.St H' p g c (n + 3) → ObV K (wo p g H') 50 4000 y → Q y H'
theorem scBent : FnScope ["state", "thing", "spots", "path", "part", "some"] ["state", "thing"] (defScope sBent) := ⟨rfl, rfl, rfl, by decide +kernel, rfl, by decide +kernel, by decide +kernel⟩
/-- the defs of the law that take things apart -/
theorem ne_nil {ds : List PyData} (h : ds ≠ []) : (!PyData.eqv (.tuple ds) (.tuple [])) = true := by
  cases ds with
  | nil => exact absurd rfl h
  | cons d ds =>
    have : PyData.eqv (.tuple (d :: ds)) (.tuple []) = false := by simp [PyData.eqv, PyData.eqvAll]
    rw [this]
    rfl
structure Bnt (P0 : Program) (w : World) (K : PySem.W.Frag) (mg : Str → Option Value) (fS fA fU : Addr) (dS dA dU : FuncData) : Prop where
  T : TxtW mg
  zs : mg "str" = none
  zr : mg "range" = none
  FS : Fun K "_law_cp_spots" "_law_cp_spots" sSpots fS dS
  mS : mg "_law_cp_spots" = some (.ref fS)
  FA : Fun K "_law_cp_at" "_law_cp_at" sAtL fA dA
  mA : mg "_law_cp_at" = some (.ref fA)
  FU : Fun K "_law_cp_put" "_law_cp_put" sPut fU dU
  mU : mg "_law_cp_put" = some (.ref fU)
theorem ok_bent {f fD fP fB fS fA fU : Addr} {fd dD dP dB dS dA dU : FuncData} (F : Fun K "_law_cp_bent" "_law_cp_bent" sBent f fd) (D : Drw K mg fD fP fB dD dP dB) (W : Bnt P0 w K mg fS fA fU dS dA dU) : FnOk P0 w K mg base CX0 21 f fd ["state", "thing"] (spBentT K) := by
  have GP : FnOk P0 w K mg base CX0 3 fP dP ["state", "some"] (Pre.spPick K) := Pre.ok_pick D.FP D.T D.FD D.mD D.FB D.mB
  have bP := D.FP.binds (ps := ["state", "some"]) fun _ _ _ _ _ _ us hl => match us, hl with | [_, _], _ => rfl
  have GS : FnOk P0 w K mg base CX0 20 fS dS ["thing", "path"] (spSpots K 19) := ok_spots W.FS W.mS W.T W.zr 19
  have bS := W.FS.binds (ps := ["thing", "path"]) fun _ _ _ _ _ _ us hl => match us, hl with | [_, _], _ => rfl
  have GA : FnOk P0 w K mg base CX0 1 fA dA ["thing", "path"] (spAtL K) := ok_atL W.FA
  have bA := W.FA.binds (ps := ["thing", "path"]) fun _ _ _ _ _ _ us hl => match us, hl with | [_, _], _ => rfl
  have GU : FnOk P0 w K mg base CX0 20 fU dU ["thing", "path", "part"] (spPutX K 19) := ok_putX W.FU W.mU 19
  have bU := W.FU.binds (ps := ["thing", "path", "part"]) fun _ _ _ _ _ _ us hl => match us, hl with | [_, _, _], _ => rfl
  refine F.ok scBent (fun vs H Q E h => ?_) (fun cdv A outer s H vs Q E hr h => ?_)
  · obtain ⟨x, p, g, c, n, D, rfl, _⟩ := h
    rfl
  · obtain ⟨x, p, g, c, n, D0, rfl, hs, hn, hd, hpl, hz2, hz9, hdp, k⟩ := h
    have nd := scBent.nd
    have hr1 : Room 1 _ := hr.mono (by decide)
    have hr3 : Room 3 _ := hr.mono (by decide)
    have T := W.T
    refine ⟨_, pss_cons (ps_set (i := 2) nd rfl (Or.inl rfl) (pe_call GS hr (by rfl) W.mS W.FS.kp bS .nil pass0 (pa_cons (pv 1) (pa_cons (pe_tup pa_nil) pa_nil))))
      (pss_cons (ps_set (i := 3) nd rfl (Or.inl rfl) (pe_call GP hr3 (by rfl) D.mP D.FP.kp bP .nil pass0 (pa_cons (pv 0) (pa_cons (pe_slice sl_list (pv 2) (po_some pe_int) po_none) pa_nil))))
      (pss_cons (ps_set (i := 4) nd rfl (Or.inl rfl) (pe_call GA hr1 (by rfl) W.mA W.FA.kp bA .nil pass0 (pa_cons (pv 1) (pa_cons (pv 3) pa_nil))))
      (pss_cons (ps_set (i := 5) nd rfl (Or.inl rfl) (pe_lst (pre_cons (d := .none) ed_non (pre_cons (d := .tuple []) (ed_tup ad_nil (by decide)) (pre_cons (d := .int 0) ed_int (pre_cons (d := .int 1) ed_int (pre_cons (d := .bool true) ed_bl (pre_cons (d := .str "name") ed_str
          (pre_cons (d := .tuple [.str "num", .int 2]) (ed_tup (ad_cons ed_str (ad_cons ed_int ad_nil)) (by decide)) (pre_cons (d := .tuple [.int 1, .int 1]) (ed_tup (ad_cons ed_int (ad_cons ed_int ad_nil)) (by decide)) (pre_cons (d := .tuple [.int 0, .int 1]) (ed_tup (ad_cons ed_int (ad_cons ed_int ad_nil)) (by decide))
          (pre_cons (d := .list []) (ed_lst ad_nil (by decide)) (pre_nil (pa_cons (pe_call GA hr1 (by rfl) W.mA W.FA.kp bA .nil pass0 (pa_cons (pv 1) (pa_cons (pe_call GP hr3 (by rfl) D.mP D.FP.kp bP .nil pass0 (pa_cons (pv 0) (pa_cons (pv 2) pa_nil))) pa_nil))) pa_nil))))))))))))))
      (pss_cons (ps_if (pt_val (pe_callB call_isi (by rfl) T.isi (by decide +kernel) (pa_cons (pv 4) (pa_cons (pe_bltn (v := .ty "int") (by rfl) T.int (by decide +kernel) rfl) pa_nil))))
          (pss_one (ps_set (i := 5) nd rfl (Or.inl rfl) (pe_lst (pa_cons (pe_op op_add (pv 4) pe_int) (pa_cons (pe_op op_sub (pv 4) pe_int) (pa_cons (pe_callTy call_str_int (by rfl) W.zs (by decide +kernel) (pa_cons (pv 4) pa_nil)) (pa_cons pe_non (pa_cons (pe_op op_sub pe_int (pv 4)) (pa_cons pe_bl pa_nil)))))))))
          (pss_one (ps_if (PW.pt (pw_and (pt_val (pe_callB call_isi (by rfl) T.isi (by decide +kernel) (pa_cons (pv 4) (pa_cons (pe_bltn (v := .ty "tuple") (by rfl) T.tuple (by decide +kernel) rfl) pa_nil)))) (pw_and1 (pt_cmpR (op_neD hr.units) (pv 4) (pe_tup pa_nil) (nomark _)))))
            (pss_one (ps_set (i := 5) nd rfl (Or.inl rfl) (pe_op op_cat (pv 5) (pe_op op_rep (pe_lst (pa_cons (pe_slice sl_tupA (pv 4) (po_some pe_int) po_none) (pa_cons (pe_slice sl_tupA (pv 4) po_none (po_some (pe_un un_neg pe_int))) (pa_cons (Tr.pe_back (pv 4))
              (pa_cons (pe_op op_catA (pv 4) (pe_slice sl_tupA (pv 4) (po_some (pe_un un_neg pe_int)) po_none)) (pa_cons (pe_callTy call_list_of (by rfl) T.list (by decide +kernel) (pa_cons (pv 4) pa_nil)) (pa_cons (pe_op op_catA (pv 4) (pe_tup (pa_cons pe_non pa_nil))) pa_nil))))))) pe_int)))) pss_nil)))
      (pss_one (ps_ret (pe_call GU hr (by rfl) W.mU W.FU.kp bU .nil pass0 (pa_cons (pv 1) (pa_cons (pv 3) (pa_cons (pe_call GP hr3 (by rfl) D.mP D.FP.kp bP .nil pass0 (pa_cons (pv 0) (pa_cons (pv 5) pa_nil))) pa_nil)))))))))), ?_⟩
    obtain ⟨up_, hp_⟩ := st_p hs
    obtain ⟨ug_, hg_⟩ := st_g hs
    refine ⟨_, rfl, by show 0 ≤ sizeLine; decide, fun t0 ht0 => ?_⟩
    have s1 := Pre.same_upd (o := .tup []) ht0
    refine ⟨x, t0, D0, D0, [], rfl, dp_same (wo_sub.trans s1) hd, SqT.of upd_same, by decide, rfl, by omega, by omega, by omega, fun ls sv H1 s2 hls0 hls hsl hsP => ?_⟩
    have s12 := s1.trans s2
    have nls := st_new (st_same hs s1) hls0
    -- the path
    refine ⟨_, rfl, _, rfl, 1, rfl, ls, sv, rfl, SqL.of hls, fun l2 hl2 => ?_⟩
    have s3 := Pre.same_upd (o := .lst (cutV sv (some 1) none)) hl2
    have st2 := st_same hs (s12.trans s3)
    have nl2 := st_new (st_same hs s12) hl2
    have hcut : (cutV sv (some 1) none).length + 1 = sv.length := by
      cases sv with
      | nil =>
        have : (0 : Nat) = sz D0 := hsl
        have := sz_pos D0
        omega
      | cons y ys => rw [cut_one]; rfl
    refine ⟨p, g, c, n, l2, _, rfl, st2, by omega, upd_same, nl2.2, by omega, by omega, fun H3 i y kp3 st3 hi hy => ?_⟩
    obtain ⟨q, ks, e, rfl, hq0, hat⟩ := hsP y (cut_mem (List.mem_of_getElem? hy))
    have hqG := sqT_same (wo_kp kp3) (sqT_wo (sqT_same s3 hq0) st2)
    have kpa : Pre.Kp p g H H3 := (Pre.Kp.of (s12.trans s3)).trans kp3
    have hdG := dp_same (wo_kp kpa) hd
    have hls3 := kp3 ls _ nls.1 nls.2 (s3 _ _ hls)
    have hsP3 : ∀ v ∈ sv, Pth K (wo p g H3) D0 v := fun v hv => by
      obtain ⟨q', ks', e', h1, h2, h3⟩ := hsP v hv
      exact ⟨q', ks', e', h1, sqT_same (wo_kp kp3) (sqT_wo (sqT_same s3 h2) st2), h3⟩
    have hdl := atP_dep hat
    -- the part
    refine ⟨_, rfl, _, rfl, x, q, D0, e, ks, rfl, dp_same wo_sub hdG, sqT_same wo_sub hqG, hat, fun y hye => ?_⟩
    -- the ones that may stand there
    obtain ⟨up3, hp3⟩ := st_p st3
    obtain ⟨ug3, hg3⟩ := st_g st3
    intro vs0 Ha sa da
    have sta := st_same st3 sa
    refine ⟨_, rfl, _, rfl, _, rfl, p, g, c, n + 1, ls, sv, rfl, sta, by omega, sa _ _ hls3, nls.2, by omega, by omega, fun Hb ib yb kpb stb hib hyb => ?_⟩
    obtain ⟨q', ks', e', rfl, hq', hat'⟩ := hsP3 yb (List.mem_of_getElem? hyb)
    have kab : Pre.Kp p g H3 Hb := (Pre.Kp.of sa).trans kpb
    have hdb := dp_same (wo_kp kab) hdG
    refine ⟨x, q', D0, e', ks', rfl, dp_same wo_sub hdb, sqT_same (wo_sub) (sqT_same (wo_kp kab) hq'), hat', fun z hz => ?_⟩
    have okp : ∀ {v : V} {u : PyData} {H0 : Hp} {m0 : Nat} {us : List Nat}, Pre.St H0 p g c m0 → Dp K H0 v u → atP us D0 = some u → ObV K (wo p g H0) 18 900 v := by
      intro v u H0 m0 us hs0 hv hu
      have pu := pl_at hpl hu
      have := atP_dep hu
      exact ⟨u, dp_plW hs0 pu hv, ⟨pl_can u pu, by omega⟩, Nat.le_trans (at_sz hu) hz9, pl_sm u pu⟩
    have okz := okp stb hz hat'
    have lv0 := dpAll_len da
    have lv0' : vs0.length = 10 := lv0
    refine ⟨by rw [List.length_append, lv0']; show 10 + 1 ≤ sizeLine; decide, fun l hl => ?_⟩
    have sl := Pre.same_upd (o := .lst (vs0 ++ [z])) hl
    have nl := st_new stb hl
    have kpl : Pre.Kp p g H3 (upd Hb l (.lst (vs0 ++ [z]))) := kab.trans (Pre.Kp.of sl)
    refine go_name (go_nx (go_cut (fun σ' H' => ∃ (l : Addr) (vs : List V), σ' = [some (.ref p), some x, some (.ref ls), some (.ref q), some y, some (.ref l)] ∧ Pre.Kp p g H3 H' ∧ Pre.St H' p g c (n + 2) ∧ H' l = some (.lst vs) ∧ l ≠ g ∧ 0 < vs.length ∧ vs.length ≤ 1000 ∧ ∀ v ∈ vs, ObV K (wo p g H') 20 2000 v) ?_ (fun nx' hn' => ?_)))
    · rintro σ' H' ⟨l, vs, rfl, kp4, st4, hl4, hlg, hv0, hv1, hvk⟩
      refine ⟨_, rfl, _, rfl, _, rfl, _, rfl, p, g, c, n + 2, l, vs, rfl, st4, by omega, hl4, hlg, hv0, hv1, fun H5 i5 y5 kp5 st5 hi5 hy5 => ?_⟩
      obtain ⟨d5, hd5, ob5⟩ := obv_same (wo_kp kp5) (hvk y5 (List.mem_of_getElem? hy5))
      have k35 := kp4.trans kp5
      refine ⟨x, q, y5, p, g, c, n + 3, D0, e, d5, ks, rfl, st5, dp_same (wo_kp k35) hdG, by omega, sqT_same wo_sub (sqT_same (wo_kp k35) hqG), hat, by omega, hd5, fun v H6 s6 hv6 => ?_⟩
      have obD : Ob 18 900 D0 := ⟨⟨pl_can D0 hpl, hdp⟩, hz9, pl_sm D0 hpl⟩
      exact k v H6 (kpa.trans (k35.trans (Pre.Kp.of s6))) (st_same st5 s6) ⟨_, hv6, ob_mono (put_ob (ob_mono obD (show 18 ≤ 20 by decide) (Nat.le_refl 900)) hat ob5) (by omega) (by decide)⟩
    · have stl := st_same stb sl
      have all0 : ∀ v ∈ vs0 ++ [z], ObV K (wo p g (upd Hb l (.lst (vs0 ++ [z])))) 20 2000 v := fun v hv => by
        rcases List.mem_append.mp hv with hv | hv
        · have o := obv_all da bent0_ok v hv
          exact obv_mono (obv_same ((nw_wo hp3 hg3).trans (wo_kp (kpb.trans (Pre.Kp.of sl)))) o) (by decide) (by decide)
        · rw [List.mem_singleton.mp hv]
          exact obv_mono (obv_same (wo_mono sl) okz) (by decide) (by decide)
      have hll : (upd Hb l (.lst (vs0 ++ [z]))) l = some (.lst (vs0 ++ [z])) := upd_same
      have ple := pl_at hpl hat
      have hyl : Dp K (wo p g (upd Hb l (.lst (vs0 ++ [z])))) y e := dp_same (wo_kp (kab.trans (Pre.Kp.of sl))) (dp_plW st3 ple hye)
      have lenz : (vs0 ++ [z]).length = 11 := by rw [List.length_append, lv0']; rfl
      generalize upd Hb l (.lst (vs0 ++ [z])) = H4 at sl kpl stl all0 hll hyl
      have leave : nx' [some (.ref p), some x, some (.ref ls), some (.ref q), some y, some (.ref l)] H4 := hn' _ _ ⟨l, _, rfl, kpl, stl, hll, nl.2, by omega, by omega, all0⟩
      have ty := ty_of (dp_same wo_sub hyl)
      have esz := at_sz hat
      have edp := hdl
      cases e with
      | none => cases ple
      | bool _ => cases ple
      | list _ => cases ple
      | dict _ => cases ple
      | int j =>
        have hj : (decide (0 ≤ j) && decide (j < 100)) = true := ple
        rw [Bool.and_eq_true] at hj
        have j1 := of_decide_eq_true hj.1
        have j2 := of_decide_eq_true hj.2
        cases hyl
        refine ⟨_, rfl, _, _, _, _, true, rfl, .ty _, ty, kit_ty (a := "int") (b := "int") (by decide +kernel), _, rfl, iteT ?_⟩
        refine ⟨_, rfl, _, _, rfl, rfl, _, rfl, _, _, rfl, rfl, _, rfl, j, rfl, log_okI j1 j2, _, rfl, _, _, rfl, rfl, by show 6 ≤ sizeLine; decide, fun l5 hl5 => ?_⟩
        have s5 := Pre.same_upd (o := .lst [.int (j + 1), .int (j - 1), .str (toString j), .non, .int (0 - j), .bl true]) hl5
        have nl5 := st_new stl hl5
        refine hn' _ _ ⟨l5, _, rfl, kpl.trans (Pre.Kp.of s5), st_same stl s5, upd_same, nl5.2, by show 0 < 6; decide, by show 6 ≤ 1000; decide, ?_⟩
        intro v hv
        have z0 : ∀ i : Int, i.natAbs < 1048576 → Ob 20 2000 (.int i) := fun i hi => ⟨⟨rfl, Nat.zero_le _⟩, by show 1 ≤ 2000; decide, decide_eq_true hi⟩
        simp only [List.mem_cons, List.not_mem_nil, or_false] at hv
        rcases hv with rfl | rfl | rfl | rfl | rfl | rfl
        · exact ⟨_, .int _, z0 _ (by omega)⟩
        · exact ⟨_, .int _, z0 _ (by omega)⟩
        · exact ⟨_, .str _, ok_mono (str_okI j1 j2) (by decide), by show 1 ≤ 2000; decide, rfl⟩
        · exact ⟨_, .non, ⟨rfl, Nat.zero_le _⟩, by show 1 ≤ 2000; decide, rfl⟩
        · exact ⟨_, .int _, z0 _ (by omega)⟩
        · exact ⟨_, .bl _, ⟨rfl, Nat.zero_le _⟩, by show 1 ≤ 2000; decide, rfl⟩
      | str s0 =>
        cases hyl
        refine ⟨_, rfl, _, _, _, _, false, rfl, .ty _, ty, kit_ty (a := "str") (b := "int") (by decide +kernel), _, rfl, iteF ?_⟩
        exact ⟨_, rfl, _, _, _, _, false, rfl, .ty _, ty, kit_ty (a := "str") (b := "tuple") (by decide +kernel), _, rfl, iteF (iteF leave)⟩
      | tuple ds =>
        obtain ⟨a, xs, rfl, hxG, hDG⟩ : ∃ (a : Addr) (xs : List V), y = .ref a ∧ SqT K (wo p g H4) a xs ∧ DpAll K (wo p g H4) xs ds := by
          cases hyl with
          | tup q1 r1 => exact ⟨_, _, rfl, q1, r1⟩
        have hlen := dpAll_len hDG
        have hszs : 1 + szAll ds ≤ 900 := Nat.le_trans esz hz9
        have hll2 := szAll_len ds
        have pld : ∀ d ∈ ds, Ok 18 d ∧ sm d = true := fun d hd => by
          have pd := pl_mem (ds := ds) ple hd
          have := dep_mem hd
          have h2 : PyData.depthAll ds + 1 ≤ D0.depth := by
            have h3 : (PyData.tuple ds).depth = PyData.depthAll ds + 1 := rfl
            omega
          exact ⟨⟨pl_can d pd, by omega⟩, pl_sm d pd⟩
        have okT : Ok 18 (.tuple ds) := ⟨pl_can _ ple, by omega⟩
        refine ⟨_, rfl, _, _, _, _, false, rfl, .ty _, ty, kit_ty (a := "tuple") (b := "int") (by decide +kernel), _, rfl, iteF ?_⟩
        refine ⟨_, rfl, _, _, _, _, true, rfl, .ty _, ty, kit_ty (a := "tuple") (b := "tuple") (by decide +kernel), _, rfl, iteT ?_⟩
        refine ⟨_, rfl, by show 0 ≤ sizeLine; decide, fun te hte => ?_⟩
        have se := Pre.same_upd (o := .tup []) hte
        refine ⟨.tuple ds, .tuple [], .tup (sqT_same (wo_sub.trans se) hxG) (dpAll_same (wo_sub.trans se) hDG), .tup (SqT.of upd_same) .nil, ok_sh okT (by decide), by decide +kernel, _, rfl, ?_⟩
        generalize upd H4 te (.tup []) = H5 at se
        have ste := st_same stl se
        by_cases hnil : ds = []
        · subst hnil
          exact iteF (hn' _ _ ⟨l, _, rfl, kpl.trans (Pre.Kp.of se), ste, se _ _ hll, nl.2, by omega, by omega, fun v hv => obv_same (wo_mono se) (all0 v hv)⟩)
        rw [ne_nil hnil]
        refine iteT ?_
        have hx5 := sqT_same (wo_sub.trans se) hxG
        have hxl : xs.length ≤ 900 := by omega
        refine ⟨_, rfl, _, rfl, _, rfl, go_noP (slA_any hx5 fun r1 Hc sc1 hr1 => ?_)⟩
        refine ⟨_, rfl, _, rfl, _, rfl, slA_any (sqT_same sc1 hx5) fun r2 Hd sc2 hr2 => ?_⟩
        have sd := sc1.trans sc2
        refine ⟨_, rfl, a, xs, rfl, sqT_same sd hx5, fun r3 hr3n => ?_⟩
        have sc3 := Pre.same_upd (o := .tup xs.reverse) hr3n
        have hr3 : SqT K (upd Hd r3 (.tup xs.reverse)) r3 xs.reverse := SqT.of upd_same
        generalize upd Hd r3 (.tup xs.reverse) = He at sc3 hr3
        have se2 := sd.trans sc3
        refine ⟨_, rfl, _, rfl, _, rfl, _, rfl, go_noP (slA_any (sqT_same se2 hx5) fun r4 Hf sc4 hr4 => ?_)⟩
        have hc4 := cutV_length xs (some (-1)) none
        refine catA_any (sqT_same (se2.trans sc4) hx5) hr4 (by omega) fun r5 Hg sc5 hr5 => ?_
        have sg := se2.trans (sc4.trans sc5)
        refine ⟨_, rfl, a, xs, rfl, .inr (sqT_same sg hx5), fun r6 hr6n => ?_⟩
        have sc6 := Pre.same_upd (o := .lst xs) hr6n
        have st6 := st_same ste (sg.trans sc6)
        have hr6 : (wo p g (upd Hg r6 (.lst xs))) r6 = some (.lst xs) := wo_new (st_same ste sg) hr6n
        generalize upd Hg r6 (.lst xs) = Hh at sc6 st6 hr6
        have sh6 := sg.trans sc6
        refine ⟨_, rfl, by show 1 ≤ sizeLine; decide, fun r7 hr7n => ?_⟩
        have sc7 := Pre.same_upd (o := .tup [.non]) hr7n
        have hr7 : SqT K (upd Hh r7 (.tup [.non])) r7 [.non] := SqT.of upd_same
        generalize upd Hh r7 (.tup [.non]) = Hi at sc7 hr7
        have si := sh6.trans sc7
        refine catA_any (sqT_same si hx5) hr7 (by simp only [List.length_singleton]; omega) fun r8 Hj sc8 hr8 => ?_
        have sj := si.trans sc8
        refine ⟨by show 6 ≤ sizeLine; decide, fun r9 hr9n => ?_⟩
        have sc9 := Pre.same_upd (o := .lst [.ref r1, .ref r2, .ref r3, .ref r5, .ref r6, .ref r8]) hr9n
        have hr9 : upd Hj r9 (.lst [.ref r1, .ref r2, .ref r3, .ref r5, .ref r6, .ref r8]) r9 = some (.lst [.ref r1, .ref r2, .ref r3, .ref r5, .ref r6, .ref r8]) := upd_same
        generalize upd Hj r9 (.lst [.ref r1, .ref r2, .ref r3, .ref r5, .ref r6, .ref r8]) = Hk at sc9 hr9
        have sk := sj.trans sc9
        refine ⟨r9, 2, _, rfl, rfl, hr9, by decide, by decide, by show 6 * 2 ≤ sizeLine; decide, fun r10 hr10n => ?_⟩
        have sc10 := Pre.same_upd (o := .lst (List.replicate (2 : Int).toNat [V.ref r1, .ref r2, .ref r3, .ref r5, .ref r6, .ref r8]).flatten) hr10n
        have hr10 : upd Hk r10 (.lst (List.replicate (2 : Int).toNat [V.ref r1, .ref r2, .ref r3, .ref r5, .ref r6, .ref r8]).flatten) r10 = some (.lst (List.replicate (2 : Int).toNat [V.ref r1, .ref r2, .ref r3, .ref r5, .ref r6, .ref r8]).flatten) := upd_same
        generalize upd Hk r10 (.lst (List.replicate (2 : Int).toNat [V.ref r1, .ref r2, .ref r3, .ref r5, .ref r6, .ref r8]).flatten) = Hl at sc10 hr10
        have slast := sk.trans sc10
        refine ⟨l, r10, _, _, rfl, rfl, (se.trans slast) _ _ hll, hr10, by rw [lenz]; show 11 + 12 ≤ sizeLine; decide, fun r11 hr11n => ?_⟩
        have sc11 := Pre.same_upd (o := .lst (vs0 ++ [z] ++ (List.replicate (2 : Int).toNat [V.ref r1, .ref r2, .ref r3, .ref r5, .ref r6, .ref r8]).flatten)) hr11n
        have nl11 := st_new (st_same ste slast) hr11n
        have sall := se.trans (slast.trans sc11)
        have stall := st_same stl sall
        have hDm : DpAll K (wo p g (upd Hl r11 (.lst (vs0 ++ [z] ++ (List.replicate (2 : Int).toNat [V.ref r1, .ref r2, .ref r3, .ref r5, .ref r6, .ref r8]).flatten)))) xs ds := dpAll_same (wo_mono sall) hDG
        refine hn' _ _ ⟨r11, _, rfl, kpl.trans (Pre.Kp.of sall), stall, upd_same, nl11.2, by rw [List.length_append, lenz]; omega, by rw [List.length_append, lenz]; show 11 + 12 ≤ 1000; decide, ?_⟩
        have sL11 := sc11
        generalize upd Hl r11 (.lst (vs0 ++ [z] ++ (List.replicate (2 : Int).toNat [V.ref r1, .ref r2, .ref r3, .ref r5, .ref r6, .ref r8]).flatten)) = Hm at sL11 sall stall hDm
        have s6m := sc7.trans (sc8.trans (sc9.trans (sc10.trans sL11)))
        have tupk : ∀ {r : Addr} {ys : List V} {es : List PyData} {H0 : Hp}, Same H0 Hm → SqT K H0 r ys → DpAll K (wo p g Hm) ys es → (∀ d ∈ es, d ∈ ds ∨ d = .none) → szAll es ≤ 1800 → ObV K (wo p g Hm) 20 2000 (.ref r) := fun s0 h0 h1 h2 h3 => obv_mono (obv_tup (m := 18) (s := 2000) (sqT_wo (sqT_same s0 h0) stall) h1 (fun d hd => by
          rcases h2 d hd with z | z
          · exact pld d z
          · rw [z]
            exact ⟨⟨rfl, Nat.zero_le _⟩, rfl⟩) (by omega)) (by decide) (Nat.le_refl _)
        have cuts : ∀ (lo hi : Option Int), ∃ es, DpAll K (wo p g Hm) (cutV xs lo hi) es ∧ (∀ d ∈ es, d ∈ ds) ∧ szAll es ≤ szAll ds := fun lo hi => by
          obtain ⟨i, j, _, h⟩ := dpAll_cut lo hi hDm
          exact ⟨_, h, fun d hd => List.mem_of_mem_drop (List.mem_of_mem_take hd), Nat.le_trans (szAll_tk _ _) (szAll_drop _ _)⟩
        intro v hv
        rcases List.mem_append.mp hv with hv | hv
        · exact obv_same (wo_mono sall) (all0 v hv)
        · have hv' : v ∈ [V.ref r1, .ref r2, .ref r3, .ref r5, .ref r6, .ref r8] ++ ([V.ref r1, .ref r2, .ref r3, .ref r5, .ref r6, .ref r8] ++ []) := hv
          rw [List.append_nil] at hv'
          have hv2 : v ∈ [V.ref r1, .ref r2, .ref r3, .ref r5, .ref r6, .ref r8] := by
            rcases List.mem_append.mp hv' with q1 | q1 <;> exact q1
          simp only [List.mem_cons, List.not_mem_nil, or_false] at hv2
          rcases hv2 with rfl | rfl | rfl | rfl | rfl | rfl
          · obtain ⟨es, h1, h2, h3⟩ := cuts (some 1) none
            exact tupk (sc2.trans (sc3.trans (sc4.trans (sc5.trans (sc6.trans s6m))))) hr1 h1 (fun d hd => .inl (h2 d hd)) (by omega)
          · obtain ⟨es, h1, h2, h3⟩ := cuts none (some (-1))
            exact tupk (sc3.trans (sc4.trans (sc5.trans (sc6.trans s6m)))) hr2 h1 (fun d hd => .inl (h2 d hd)) (by omega)
          · exact tupk (sc4.trans (sc5.trans (sc6.trans s6m))) hr3 (dpAll_rev hDm) (fun d hd => .inl (List.mem_reverse.mp hd)) (by rw [szAll_rev]; omega)
          · obtain ⟨es, h1, h2, h3⟩ := cuts (some (-1)) none
            refine tupk (sc6.trans s6m) hr5 (dpAll_app hDm h1) (fun d hd => ?_) (by rw [szAll_app]; omega)
            rcases List.mem_append.mp hd with q1 | q1
            · exact .inl q1
            · exact .inl (h2 d q1)
          · exact obv_mono (obv_lst (m := 18) (s := 2000) (SqL.of (wo_mono s6m _ _ hr6)) hDm pld (by decide)) (by decide) (Nat.le_refl _)
          · refine tupk (sc9.trans (sc10.trans sL11)) hr8 (dpAll_app hDm (.cons .non .nil)) (fun d hd => ?_) (by rw [szAll_app]; show szAll ds + (1 + 0) ≤ 1800; omega)
            rcases List.mem_append.mp hd with q1 | q1
            · exact .inl q1
            · exact .inr (List.mem_singleton.mp q1)
end
end Tk

namespace Tk
open PySem PySem.Spec PyProof.Rows L2
open Wt Kn Dc
theorem st_le {H : Hp} {p g c : Addr} {n m : Nat} (h : Pre.St H p g c n) (l : n ≤ m) : Pre.St H p g c m := by
  obtain ⟨⟨gs, cs, r, t, h1, h2, h3, h4, h5, h6, h7⟩, h8⟩ := h
  exact ⟨⟨gs, cs, r, t, h1, h2, h3, h4, h5, h6, by omega⟩, h8⟩
theorem st_upd {H : Hp} {p g c L : Addr} {n : Nat} {o : HO} (h : Pre.St H p g c n) (h1 : L ≠ p) (h2 : L ≠ g) (h3 : L ≠ c) : Pre.St (upd H L o) p g c n := by
  obtain ⟨⟨gs, cs, r, t, q1, q2, q3, q4⟩, h8⟩ := h
  exact ⟨⟨gs, cs, r, t, by rw [upd_ne (Ne.symm h1)]; exact q1, by rw [upd_ne (Ne.symm h2)]; exact q2, by rw [upd_ne (Ne.symm h3)]; exact q3, q4⟩, h8⟩
theorem st_c {H : Hp} {p g c : Addr} {n : Nat} {l : Addr} (h : Pre.St H p g c n) (hl : H l = none) : l ≠ c := by
  obtain ⟨⟨gs, cs, r, t, q1, q2, q3, q4⟩, h8⟩ := h
  intro z
  rw [z, q3] at hl
  cases hl
/-- all tuples stay -/
def TupS (H H' : Hp) : Prop := ∀ b o, ¬ NoTup o → H b = some o → H' b = some o
theorem TupS.same {H H' : Hp} (s : Same H H') : TupS H H' := fun b o _ e => s b o e
theorem TupS.trans {H H1 H2 : Hp} (a : TupS H H1) (b : TupS H1 H2) : TupS H H2 := fun x o n e => b x o n (a x o n e)
theorem TupS.upd {H : Hp} {L : Addr} {u o : HO} (h : H L = some u) (n : NoTup u) : TupS H (upd H L o) := fun b v nv e => by
  have nb : b ≠ L := fun z => by
    rw [z, h] at e
    cases e
    exact nv n
  rw [upd_ne nb]
  exact e
theorem TupS.kp {H H' : Hp} {p g c : Addr} {n : Nat} (st : Pre.St H p g c n) (k : Pre.Kp p g H H') : TupS H H' := fun b o no e => by
  obtain ⟨⟨gs, cs, r, t, q1, q2, q3, q4⟩, h8⟩ := st
  refine k b o (fun z => ?_) (fun z => ?_) e
  · rw [z, q1] at e
    cases e
    exact no (noTup_dK _)
  · rw [z, q2] at e
    cases e
    exact no (noTup_lst _)
theorem sqT_ts {K : PySem.W.Frag} {H H' : Hp} {a : Addr} {xs : List V} (s : TupS H H') (h : SqT K H a xs) : SqT K H' a xs := by
  rcases h with (h | ⟨o, h⟩) | h
  · exact .inl (.inl (s _ _ (fun q => q.1 _ rfl) h))
  · exact .inl (.inr ⟨o, s _ _ (fun q => q.2 _ _ rfl) h⟩)
  · exact .inr h
theorem dp_tsN {K : PySem.W.Frag} {H H' : Hp} (s : TupS H H') : ∀ (m : Nat) {d : PyData} {x : V}, d.depth < m → pl d = true → Dp K H x d → Dp K H' x d
  | 0, _, _, h, _, _ => by omega
  | m + 1, d, x, hm, hp, h => by
    cases h with
    | int i => exact .int i
    | str s => exact .str s
    | tup q r =>
      rename_i a xs ds
      refine .tup (sqT_ts s q) ?_
      have go : ∀ {xs : List V} {es : List PyData}, (∀ e ∈ es, e.depth < m ∧ pl e = true) → DpAll K H xs es → DpAll K H' xs es := by
        intro xs es
        induction es generalizing xs with
        | nil =>
          intro _ h
          cases h
          exact .nil
        | cons e es ih =>
          intro hh h
          cases h with
          | cons h1 h2 => exact .cons (dp_tsN s m (hh e (List.mem_cons_self ..)).1 (hh e (List.mem_cons_self ..)).2 h1) (ih (fun x hx => hh x (List.mem_cons_of_mem _ hx)) h2)
      refine go (fun e he => ⟨?_, pl_mem hp he⟩) r
      have := dep_mem he
      have h2 : PyData.depthAll ds + 1 < m + 1 := hm
      omega
    | _ => cases hp
theorem dp_ts {K : PySem.W.Frag} {H H' : Hp} (s : TupS H H') {d : PyData} {x : V} (hp : pl d = true) (h : Dp K H x d) : Dp K H' x d := dp_tsN s (d.depth + 1) (Nat.lt_succ_self _) hp h
theorem dpAll_ts {K : PySem.W.Frag} {H H' : Hp} (s : TupS H H') : ∀ {ds : List PyData} {xs : List V}, plAll ds = true → DpAll K H xs ds → DpAll K H' xs ds
  | [], _, _, h => by cases h; exact .nil
  | d :: ds, _, hp, h => by
    have hp' : (pl d && plAll ds) = true := hp
    rw [Bool.and_eq_true] at hp'
    cases h with
    | cons h1 h2 => exact .cons (dp_ts s hp'.1 h1) (dpAll_ts s hp'.2 h2)
theorem pl_dat : ∀ {t : Kd}, t.good → pl t.dat = true
  | .num i, h => by
    show ((PyData.str "num").canLay0 && (decide (0 ≤ i) && decide (i < 100) && true)) = true
    rw [decide_eq_true (show 0 ≤ i by have := h.1; omega), decide_eq_true (show i < 100 by have := h.2; omega)]
    decide +kernel
  | .to a b, h => by
    show ((PyData.str "to").canLay0 && (pl a.dat && (pl b.dat && true))) = true
    rw [pl_dat h.1, pl_dat h.2]
    decide +kernel
theorem pl_dats {ts : List Kd} (h : ∀ t ∈ ts, t.good) : plAll (ts.map Kd.dat) = true := pl_all fun d hd => by
  obtain ⟨t, ht, rfl⟩ := List.mem_map.mp hd
  exact pl_dat (h t ht)
theorem ws_ts {K : PySem.W.Frag} {H H' : Hp} {xs : List V} {ws : List (Int × Int)} (e : TupS H H') (h : Ws K H xs ws) : Ws K H' xs ws := ⟨h.1, fun i u hu => by
  obtain ⟨b, h1, h2⟩ := h.2 i u hu
  exact ⟨b, h1, sqT_ts e h2⟩⟩
end Tk

namespace Tk
open PySem PySem.Spec PyProof.Rows L2
open Wt Kn Dc
theorem low_val {t b : Int} (h : b ≠ 0) : (low t b).1 * b = t * (low t b).2 := by
  have hg := gI_pos (t := t) h
  obtain ⟨t', ht⟩ := gI_l t b
  obtain ⟨b', hb⟩ := gI_r t b
  have e1 : t / gI t b = t' := Int.ediv_eq_of_eq_mul_right (by omega) ht
  have e2 : b / gI t b = b' := Int.ediv_eq_of_eq_mul_right (by omega) hb
  unfold low
  rw [e1, e2]
  generalize gI t b = G at *
  split
  · show (-t') * b = t * (-b')
    rw [ht, hb]
    grind
  · show t' * b = t * b'
    rw [ht, hb]
    grind
theorem low_zero {W : Int} (h : 0 < W) : low 0 W = (0, 1) := by
  have e : gI 0 W = W := by
    unfold gI
    rw [Int.gcd_zero_left]
    omega
  unfold low
  rw [if_neg (by omega), e, Int.zero_ediv, Int.ediv_self (by omega)]
theorem low_nz {t W : Int} (h : 0 < W) (n : low t W ≠ (0, 1)) : t ≠ 0 := fun z => n (by rw [z]; exact low_zero h)
theorem low_gt {t W : Int} (h : 0 < W) (ht : 0 < t) : 0 < (low t W).1 := by
  have v := low_val (t := t) (b := W) (by omega)
  have p := low_pos (t := t) (b := W) (by omega)
  have q : 0 < t * (low t W).2 := Int.mul_pos ht p
  rw [← v] at q
  rcases Int.lt_or_le 0 (low t W).1 with z | z
  · exact z
  · have := Int.mul_le_mul_of_nonneg_right z (show 0 ≤ W by omega)
    omega
theorem low_ge {t W : Int} (h : 0 < W) (ht : 0 ≤ t) : 0 ≤ (low t W).1 := by
  by_cases z : t = 0
  · rw [z, low_zero h]
    decide
  · exact Int.le_of_lt (low_gt h (by omega))
theorem fold_low {W : Int} (hW : 0 < W) : ∀ (l : List Int) (a : Int × Int) (s : Int), a.1 * W = s * a.2 → 0 < a.2 →
    ((l.map fun t => low t W).foldl addW a).1 * W = (s + l.sum) * ((l.map fun t => low t W).foldl addW a).2 ∧ 0 < ((l.map fun t => low t W).foldl addW a).2
  | [], a, s, h1, h2 => by
    show a.1 * W = (s + 0) * a.2 ∧ 0 < a.2
    rw [Int.add_zero]
    exact ⟨h1, h2⟩
  | t :: l, a, s, h1, h2 => by
    have v := low_val (t := t) (b := W) (by omega)
    have p := low_pos (t := t) (b := W) (by omega)
    have q : 0 < a.2 * (low t W).2 := Int.mul_pos h2 p
    have e := low_val (t := a.1 * (low t W).2 + (low t W).1 * a.2) (b := a.2 * (low t W).2) (by omega)
    have pp : 0 < (addW a (low t W)).2 := low_pos (by omega)
    have key : (addW a (low t W)).1 * W = (s + t) * (addW a (low t W)).2 := by
      have e' : (addW a (low t W)).1 * (a.2 * (low t W).2) = (a.1 * (low t W).2 + (low t W).1 * a.2) * (addW a (low t W)).2 := e
      generalize (addW a (low t W)).1 = x at *
      generalize (addW a (low t W)).2 = y at *
      generalize (low t W).1 = u at *
      generalize (low t W).2 = z at *
      have hd : a.2 * z ≠ 0 := by omega
      refine Int.eq_of_mul_eq_mul_right hd ?_
      grind
    have ih := fold_low hW l (addW a (low t W)) (s + t) key pp
    show ((l.map fun t => low t W).foldl addW (addW a (low t W))).1 * W = (s + (t + l.sum)) * ((l.map fun t => low t W).foldl addW (addW a (low t W))).2 ∧ _
    rw [← Int.add_assoc]
    exact ih
theorem tot_le {W : Int} (hW : 0 < W) {l : List Int} (h : l.sum ≤ W) : (tot (l.map fun t => low t W)).1 ≤ (tot (l.map fun t => low t W)).2 := by
  obtain ⟨h1, h2⟩ := fold_low hW l (0, 1) 0 (by simp) (by decide)
  have h3 : (tot (l.map fun t => low t W)).1 * W ≤ (tot (l.map fun t => low t W)).2 * W := by
    show ((l.map fun t => low t W).foldl addW (0, 1)).1 * W ≤ _
    rw [h1, Int.zero_add]
    have := Int.mul_le_mul_of_nonneg_right h (Int.le_of_lt h2)
    rw [Int.mul_comm W] at this
    exact this
  exact Int.le_of_mul_le_mul_right h3 hW
abbrev sDrawn : Stmt := Pre.top 45
theorem ws_snoc {K : PySem.W.Frag} {H : Hp} {xs : List V} {ws : List (Int × Int)} {q : Addr} {u : Int × Int} (h : Ws K H xs ws) (hq : At K H q u) : Ws K H (xs ++ [.ref q]) (ws ++ [u]) := by
  refine ⟨by rw [List.length_append, List.length_append, h.1]; rfl, fun i v hv => ?_⟩
  by_cases hi : i < ws.length
  · rw [List.getElem?_append_left hi] at hv
    rw [List.getElem?_append_left (by rw [h.1]; exact hi)]
    exact h.2 i v hv
  · have e : i = ws.length := by
      have := (List.getElem?_eq_some_iff.mp hv).1
      rw [List.length_append, List.length_singleton] at this
      omega
    subst e
    rw [List.getElem?_append_right (Nat.le_refl _), Nat.sub_self] at hv
    cases hv
    refine ⟨q, ?_, hq⟩
    rw [← h.1, List.getElem?_append_right (Nat.le_refl _), Nat.sub_self]
    rfl
section
variable {P0 : Program} {w : World} {K : PySem.W.Frag} {mg : Str → Option Value} {base : Heap}
/-- weights of at most one in all -/
def spDrawn (K : PySem.W.Frag) : Sp := fun vs H Q _ => ∃ (p g c : Addr) (n k : Nat), vs = [.ref p, .int (k : Int)] ∧ Pre.St H p g c n ∧ n < 2 ^ 39 ∧ 1 ≤ k ∧ k ≤ 3 ∧
  ∀ (r t2 : Addr) (xs : List V) (W : Int) (l : List Int) (H' : Hp), Pre.Kp p g H H' → Pre.St H' p g c (n + 7) → SqT K H' r [.str "draw", .ref t2] → SqT K H' t2 xs → Ws K H' xs (l.map fun t => low t W) →
    l.length = k → (∀ t ∈ l, 0 ≤ t) → l.sum ≤ W → 0 < W → W ≤ 12 → Q (.ref r) H'
theorem scDrawn : FnScope ["state", "k", "whole", "left", "found", "lap", "top"] ["state", "k"] (defScope sDrawn) := ⟨rfl, rfl, rfl, by decide +kernel, rfl, by decide +kernel, by decide +kernel⟩
theorem sum_snoc (l : List Int) (t : Int) : (l ++ [t]).sum = l.sum + t := by
  induction l with
  | nil => show t + 0 = 0 + t; omega
  | cons a l ih =>
    show a + (l ++ [t]).sum = a + l.sum + t
    rw [ih]
    omega
set_option maxHeartbeats 1000000 in
theorem ok_drawn {f fD fP fB fL : Addr} {fd dD dP dB dL : FuncData} (F : Fun K "_law_cp_drawn" "_law_cp_drawn" sDrawn f fd) (D : Drw K mg fD fP fB dD dP dB) (T : TxtW mg) (FL : Fun K "_law_cp_lowest" "_law_cp_lowest" sLowest fL dL) (mL : mg "_law_cp_lowest" = some (.ref fL)) : FnOk P0 w K mg base CX0 4 f fd ["state", "k"] (spDrawn K) := by
  have GP : FnOk P0 w K mg base CX0 3 fP dP ["state", "some"] (Pre.spPick K) := Pre.ok_pick D.FP D.T D.FD D.mD D.FB D.mB
  have GD : FnOk P0 w K mg base CX0 2 fD dD ["state", "room"] Pre.spDraw := Pre.ok_draw D.FD D.T D.FB D.mB
  have GL : FnOk P0 w K mg base CX0 1 fL dL ["top", "bottom"] spLowest := ok_lowest FL D.T
  have bP := D.FP.binds (ps := ["state", "some"]) fun _ _ _ _ _ _ us hl => match us, hl with | [_, _], _ => rfl
  have bD := D.FD.binds (ps := ["state", "room"]) fun _ _ _ _ _ _ us hl => match us, hl with | [_, _], _ => rfl
  have bL := FL.binds (ps := ["top", "bottom"]) fun _ _ _ _ _ _ us hl => match us, hl with | [_, _], _ => rfl
  refine F.ok scDrawn (fun vs H Q E h => ?_) (fun cdv A outer s H vs Q E hr h => ?_)
  · obtain ⟨p, g, c, n, k, rfl, _⟩ := h
    rfl
  · obtain ⟨p, g, c, n, kk, rfl, hs, hn, hk1, hk3, k⟩ := h
    have nd := scDrawn.nd
    have hr3 : Room 3 _ := hr.mono (by decide)
    have hr2 : Room 2 _ := hr.mono (by decide)
    have hr1 : Room 1 _ := hr.mono (by decide)
    refine ⟨_, pss_cons (ps_set (i := 2) nd rfl (Or.inl rfl) (pe_call GP hr3 (by rfl) D.mP D.FP.kp bP .nil pass0 (pa_cons (pv 0) (pa_cons (pe_lst (pa_cons pe_int (pa_cons pe_int (pa_cons pe_int (pa_cons pe_int (pa_cons pe_int pa_nil)))))) pa_nil))))
      (pss_cons (ps_par (i := 3) (j := 4) rfl nd rfl rfl (by decide) rfl rfl (pa_cons (pv 2) (pa_cons (pe_lst pa_nil) pa_nil)) (by rfl))
      (pss_cons (ps_for PassesOwn.never rfl (pi_range1 (by rfl) D.zg (pa_cons (pv 1) pa_nil)) (pg_name (i := 5) nd rfl (Or.inl rfl))
        (pss_cons (ps_set (i := 6) nd rfl (Or.inl rfl) (pe_ifExp (PW.pt (pw_or (pt_cmpR op_lt (pv 5) (pe_op op_sub (pv 1) pe_int) (nomark _)) (pw_or1 (pt_cmpR op_eq (pe_call GD hr2 (by rfl) D.mD D.FD.kp bD .nil pass0 (pa_cons (pv 0) (pa_cons pe_int pa_nil))) pe_int (nomark _)))))
            (pe_call GD hr2 (by rfl) D.mD D.FD.kp bD .nil pass0 (pa_cons (pv 0) (pa_cons (pe_op op_add (pv 3) pe_int) pa_nil))) (pv 3)))
        (pss_cons (ps_expr (pe_bm PySem.F.plainAttrs_list PySem.F.slot_list_append PySem.F.type_list_append mt_append (pv 4) (pa_cons (pe_call GL hr1 (by rfl) mL FL.kp bL .nil pass0 (pa_cons (pv 6) (pa_cons (pv 2) pa_nil))) pa_nil)))
        (pss_one (ps_set (i := 3) nd rfl (Or.inl rfl) (pe_op op_sub (pv 3) (pv 6)))))))
      (pss_one (ps_ret (pe_tup (pa_cons pe_str (pa_cons (pe_callTy call_tuple_of (by rfl) T.tuple (by decide +kernel) (pa_cons (pv 4) pa_nil)) pa_nil))))))), ?_⟩
    have st0 := hs
    obtain ⟨up_, hp_⟩ := st_p hs
    obtain ⟨ug_, hg_⟩ := st_g hs
    refine ⟨_, rfl, by show 5 ≤ sizeLine; decide, fun l0 hl0 => ?_⟩
    have s0 := Pre.same_upd (o := .lst [.int 2, .int 3, .int 4, .int 5, .int 12]) hl0
    have nl0 := st_new hs hl0
    refine ⟨p, g, c, n, l0, _, rfl, st_same hs s0, by omega, upd_same, nl0.2, by decide, by decide, fun H1 i0 y0 kp1 st1 hi0 hy0 => ?_⟩
    obtain ⟨W, rfl, hW0, hW1⟩ : ∃ W : Int, y0 = .int W ∧ 0 < W ∧ W ≤ 12 := by
      have hm := List.mem_of_getElem? hy0
      simp only [List.mem_cons, List.not_mem_nil, or_false] at hm
      rcases hm with z | z | z | z | z <;> exact ⟨_, z, by decide, by decide⟩
    have k01 : Pre.Kp p g H H1 := (Pre.Kp.of s0).trans kp1
    refine ⟨_, rfl, by show 0 ≤ sizeLine; decide, fun L hL => ?_⟩
    have s2 := Pre.same_upd (o := .lst []) hL
    have nL := st_new st1 hL
    refine ⟨_, _, rfl, _, rfl, kk, rfl, by omega, by omega, for_range (n := kk) (fun i σ H' => ∃ (l : List Int) (xs : List V) (left : Int) (lp tp : Option V), σ = [some (.ref p), some (.int (kk : Int)), some (.int W), some (.int left), some (.ref L), lp, tp] ∧ Pre.Kp p g H1 H' ∧ Pre.St H' p g c (n + 1 + 2 * i) ∧ H' L = some (.lst xs) ∧ Ws K H' xs (l.map fun t => low t W) ∧ l.length = i ∧ (∀ t ∈ l, 0 ≤ t) ∧ l.sum + left = W ∧ 0 ≤ left)
      ⟨[], [], W, none, none, rfl, Pre.Kp.of s2, st_same st1 s2, upd_same, ⟨rfl, fun i u hu => by cases hu⟩, rfl, (fun t ht => by cases ht), (by show 0 + W = W; omega), by omega⟩ ?_ ?_⟩
    · rintro i σ H2 hi ⟨l, xs, left, lp, tp, rfl, kp2, st2, hL2, hws, hll, hpos, hsum, hleft⟩
      have hsl : 0 ≤ l.sum := by
        clear hsum hws hll
        induction l with
        | nil => exact Int.le_refl _
        | cons a l ih =>
          have := ih (fun t ht => hpos t (List.mem_cons_of_mem _ ht))
          have := hpos a (List.mem_cons_self ..)
          show 0 ≤ a + l.sum
          omega
      refine go_name (go_cut (fun σ' H' => ∃ top : Int, σ' = [some (.ref p), some (.int (kk : Int)), some (.int W), some (.int left), some (.ref L), some (.int (0 + (i : Int))), some (.int top)] ∧ Pre.Kp p g H2 H' ∧ Pre.St H' p g c (n + 1 + 2 * i + 2) ∧ 0 ≤ top ∧ top ≤ left) ?_ (fun nx' hn' => ?_))
      · rintro σ' H3 ⟨top, rfl, kp3, st3, ht0, ht1⟩
        have hL3 := kp3 L _ nL.1 nL.2 hL2
        have hb : ∀ i : Int, 0 ≤ i → i ≤ 12 → i.natAbs < 2 ^ 10 := fun i h0 h1 => by
          have : (2 : Nat) ^ 10 = 1024 := by decide
          omega
        refine ⟨_, rfl, .inl ⟨rfl, _, SqL.of hL3⟩, _, rfl, _, rfl, top, W, 10, rfl, by omega, hb _ ht0 (by omega), hb _ (by omega) hW1, by decide, by decide, fun q H4 s4 hq => ?_⟩
        have hL4 := s4 _ _ hL3
        have hxl : xs.length = l.length := by rw [hws.1, List.length_map]
        have line : 100 < sizeLine := by decide
        have nq : q ≠ L := fun z => by
          rw [z, hL4] at hq
          cases hq
        have nc := st_c st1 hL
        have stq := st_same st3 s4
        have ts24 : TupS H2 H4 := (TupS.kp st2 kp3).trans (TupS.same s4)
        refine ⟨L, xs, .ref q, rfl, rfl, hL4, by omega, ?_⟩
        have tsu : TupS H4 (upd H4 L (.lst (xs ++ [.ref q]))) := TupS.upd hL4 (noTup_lst _)
        have hW5 : Ws K (upd H4 L (.lst (xs ++ [.ref q]))) (xs ++ [.ref q]) ((l ++ [top]).map fun t => low t W) := by
          rw [List.map_append]
          refine ws_snoc (ws_ts (ts24.trans tsu) hws) ?_
          exact SqT.of (by rw [upd_ne nq]; exact hq)
        refine ⟨_, rfl, _, rfl, _, _, rfl, rfl, l ++ [top], xs ++ [.ref q], left - top, _, _, rfl, fun b o h1 h2 e => ?_, st_le (st_upd stq nL.1 nL.2 nc) (by omega), upd_same, hW5, by rw [List.length_append, hll]; rfl, fun t ht => ?_, by rw [sum_snoc]; omega, by omega⟩
        · rw [upd_ne (ne_of_none e hL)]
          exact s4 _ _ (kp3 _ _ h1 h2 (kp2 _ _ h1 h2 e))
        · rcases List.mem_append.mp ht with z | z
          · exact hpos t z
          · rw [List.mem_singleton.mp z]; exact ht0
      · have draws : ∀ (H3 : Hp) (m : Nat), m ≤ n + 1 + 2 * i + 1 → Pre.Kp p g H2 H3 → Pre.St H3 p g c m → tCall Pre.spDraw [] E0 (tCons (tVar 0) (tCons (tOp (rI0 fun i j => V.int (i + j)) (tVar 3) (tC (V.int 1))) tNil)) [some (.ref p), some (.int (kk : Int)), some (.int W), some (.int left), some (.ref L), some (.int (0 + (i : Int))), tp] H3 (fun y H' => gName 6 y [some (.ref p), some (.int (kk : Int)), some (.int W), some (.int left), some (.ref L), some (.int (0 + (i : Int))), tp] H' nx') := fun H3 m hm k3 st3 => by
          refine ⟨_, rfl, _, rfl, _, _, rfl, rfl, p, g, c, m, left + 1, rfl, st3, by omega, by omega, by omega, fun H' f k4 st4 f0 f1 => ?_⟩
          exact hn' _ _ ⟨f, rfl, k3.trans k4, st_le st4 (by omega), f0, by omega⟩
        refine ⟨_, rfl, _, rfl, _, _, rfl, rfl, _, _, rfl, rfl, _, rfl, ?_⟩
        by_cases hlt : 0 + (i : Int) < (kk : Int) - 1
        · rw [decide_eq_true hlt]
          exact iteT (iteT (draws H2 _ (by omega) (Pre.Kp.refl) st2))
        · rw [decide_eq_false hlt]
          refine iteF ⟨_, rfl, p, g, c, _, 3, rfl, st2, by omega, by decide, by decide, fun H3 f k3 st3 f0 f1 => ?_⟩
          refine ⟨rfl, _, rfl, ?_⟩
          by_cases hf : (V.int f : V) = V.int 0
          · rw [decide_eq_true hf]
            exact iteT (draws H3 _ (by omega) k3 st3)
          · rw [decide_eq_false hf]
            exact iteF ⟨_, rfl, hn' _ _ ⟨left, rfl, k3, st_le st3 (by omega), hleft, Int.le_refl _⟩⟩
    · rintro σ H2 ⟨l, xs, left, lp, tp, rfl, kp2, st2, hL2, hws, hll, hpos, hsum, hleft⟩
      refine ⟨_, rfl, L, xs, rfl, .inl ⟨SqL.of hL2, fun t2 ht2 => ?_⟩⟩
      have s3 := Pre.same_upd (o := .tup xs) ht2
      refine ⟨by show 2 ≤ sizeLine; decide, fun r hr2' => ?_⟩
      have s4 := Pre.same_upd (o := .tup [.str "draw", .ref t2]) hr2'
      have s34 := s3.trans s4
      exact k r t2 xs W l _ ((k01.trans kp2).trans (Pre.Kp.of s34)) (st_le (st_same st2 s34) (by omega)) (SqT.of upd_same) (sqT_same s4 (SqT.of upd_same)) (ws_same s34 hws) hll hpos (by omega) hW0 hW1
end
end Tk

namespace Tk
open PySem PySem.Spec PyProof.Rows L2
open Wt Kn Dc
theorem Av.st {H : Hp} {p g c : Addr} {n : Nat} (h : Pre.St H p g c n) : Av H p g := by
  obtain ⟨⟨gs, cs, r, t, q1, q2, q3, q4⟩, h8⟩ := h
  exact ⟨⟨_, q1, noTup_dK _⟩, ⟨_, q2, noTup_lst _⟩⟩
/-- the variables of R hold their data -/
def CR (K : PySem.W.Frag) (p g : Addr) (R : List (Nat × PyData)) (σ : L2.St) (H : Hp) : Prop := Av H p g ∧ ∀ i d, (i, d) ∈ R → ∃ x, σ[i]? = some (some x) ∧ Dp K (wo p g H) x d
theorem CR.same {K : PySem.W.Frag} {p g : Addr} {R : List (Nat × PyData)} {σ : L2.St} {H H' : Hp} (s : Same H H') (h : CR K p g R σ H) : CR K p g R σ H' := ⟨h.1.same s, fun i d m => by
  obtain ⟨x, h1, h2⟩ := h.2 i d m
  exact ⟨x, h1, dp_same (wo_mono s) h2⟩⟩
/-- comes to d, where the variables of R hold their data -/
def tER (K : PySem.W.Frag) (R : List (Nat × PyData)) (d : PyData) : TE := fun σ H Q => ∃ p g, CR K p g R σ H ∧ ∀ v H1, Same H H1 → Dp K (wo p g H1) v d → Q v H1
def tERs (K : PySem.W.Frag) (R : List (Nat × PyData)) (ds : List PyData) : TA := fun σ H Q => ∃ p g, CR K p g R σ H ∧ ∀ vs H1, Same H H1 → DpAll K (wo p g H1) vs ds → Q vs H1
section
variable {X : Cx} {e : Expr} {es : List Expr} {d : PyData} {ds : List PyData} {pos : Pos} {R : List (Nat × PyData)}
theorem er_v {i : Nat} (h : PE X e (tVar i)) (m : (i, d) ∈ R) : PE X e (tER X.K R d) := pe_imp h fun σ H Q ⟨p, g, c, k⟩ => by
  obtain ⟨x, h1, h2⟩ := c.2 i d m
  exact ⟨x, h1, k x H (Same.refl _) h2⟩
theorem er_int {i j} : PE X (.Constant (.int i) j pos) (tER X.K R (.int i)) := pe_imp pe_int fun _ H _ ⟨_, _, _, k⟩ => k _ H (Same.refl _) (.int _)
theorem er_bl {b j} : PE X (.Constant (.bool b) j pos) (tER X.K R (.bool b)) := pe_imp pe_bl fun _ H _ ⟨_, _, _, k⟩ => k _ H (Same.refl _) (.bl _)
theorem er_non {j} : PE X (.Constant .none j pos) (tER X.K R .none) := pe_imp pe_non fun _ H _ ⟨_, _, _, k⟩ => k _ H (Same.refl _) .non
theorem er_str {x j} : PE X (.Constant (.str x) j pos) (tER X.K R (.str x)) := pe_imp pe_str fun _ H _ ⟨_, _, _, k⟩ => k _ H (Same.refl _) (.str _)
theorem er_neg {i j p2} : PE X (.UnaryOp .USub (.Constant (.int i) j p2) pos) (tER X.K R (.int (-i))) := pe_imp (pe_un un_neg pe_int) fun _ H _ ⟨_, _, _, k⟩ => ⟨_, rfl, k _ H (Same.refl _) (.int _)⟩
theorem ers_nil : PA X [] (tERs X.K R []) := pa_imp pa_nil fun _ H _ ⟨_, _, _, k⟩ => k _ H (Same.refl _) .nil
theorem ers_cons (h : PE X e (tER X.K R d)) (r : PA X es (tERs X.K R ds)) (hs : starEach (e :: es) X.env = (false, eval e X.env) :: starEach es X.env := by rfl) : PA X (e :: es) (tERs X.K R (d :: ds)) :=
  pa_imp (pa_cons h r hs) fun _ H _ ⟨p, g, c, k⟩ => ⟨p, g, c, fun v H1 s1 d1 => ⟨p, g, c.same s1, fun vs H2 s2 d2 => k _ H2 (s1.trans s2) (.cons (dp_same (wo_mono s2) d1) d2)⟩⟩
theorem er_tup {kk} (r : PA X es (tERs X.K R ds)) (hl : ds.length ≤ 1000) : PE X (.Tuple es kk pos) (tER X.K R (.tuple ds)) :=
  pe_imp (pe_tup r) fun _ H _ ⟨p, g, c, k⟩ => ⟨p, g, c, fun vs H1 s1 d1 => ⟨by rw [dpAll_len d1]; exact Nat.le_trans hl (by decide), fun q hq => k _ _ (s1.trans (Pre.same_upd hq)) (.tup (SqT.of ((c.1.same s1).new hq)) (dpAll_same (wo_mono (Pre.same_upd hq)) d1))⟩⟩
theorem er_lst (r : PA X es (tERs X.K R ds)) (hl : ds.length ≤ 1000) : PE X (.List es pos) (tER X.K R (.list ds)) :=
  pe_imp (pe_lst r) fun _ H _ ⟨p, g, c, k⟩ => ⟨p, g, c, fun vs H1 s1 d1 => ⟨by rw [dpAll_len d1]; exact Nat.le_trans hl (by decide), fun q hq => k _ _ (s1.trans (Pre.same_upd hq)) (.lst (SqL.of ((c.1.same s1).new hq)) (dpAll_same (wo_mono (Pre.same_upd hq)) d1))⟩⟩
/-- between a test and what it leads to -/
theorem go_tst {t : TT} {σ : L2.St} {H : Hp} {Q : Bool → Hp → Prop} (Post : Bool → Hp → Prop) (h1 : ∀ b H', Post b H' → Q b H') (h2 : ∀ Q' : Bool → Hp → Prop, (∀ b H', Post b H' → Q' b H') → t σ H Q') : t σ H Q := h2 Q h1
/-- a new list of such -/
def tLR (K : PySem.W.Frag) (R : List (Nat × PyData)) (ds : List PyData) : TE := fun σ H Q => ∃ p g, CR K p g R σ H ∧ ∀ l vs H1, Same H H1 → H l = none → H1 l = some (.lst vs) → DpAll K (wo p g H1) vs ds → Q (.ref l) H1
theorem pe_lstR (r : PA X es (tERs X.K R ds)) (hl : ds.length ≤ 1000) : PE X (.List es pos) (tLR X.K R ds) :=
  pe_imp (pe_lst r) fun _ H _ ⟨p, g, c, k⟩ => ⟨p, g, c, fun vs H1 s1 d1 => ⟨by rw [dpAll_len d1]; exact Nat.le_trans hl (by decide), fun q hq => k q vs _ (s1.trans (Pre.same_upd hq)) (s1.free hq) upd_same (dpAll_same (wo_mono (Pre.same_upd hq)) d1)⟩⟩
end
abbrev sKindL : Stmt := Pre.top 46
abbrev sKindT : Stmt := Pre.top 52
section
variable {P0 : Program} {w : World} {K : PySem.W.Frag} {mg : Str → Option Value} {base : Heap}
/-- a kind of at most eight numbers -/
def spKindL (K : PySem.W.Frag) (N : Nat) : Sp := fun vs H Q _ => ∃ (p g c : Addr) (n : Nat) (deep : Nat), vs = [.ref p, .int (deep : Int)] ∧ Pre.St H p g c n ∧ n + 4 * 2 ^ deep < 2 ^ 39 ∧ deep < N ∧
  ∀ (y : V) (t : Kd) (H' : Hp) (m : Nat), m + 1 ≤ n + 4 * 2 ^ deep → Pre.Kp p g H H' → Pre.St H' p g c m → Dp K H' y t.dat → t.good → t.nums ≤ 8 → Q y H'
theorem scKindL : FnScope ["state", "deep", "found"] ["state", "deep"] (defScope sKindL) := ⟨rfl, rfl, rfl, by decide +kernel, rfl, by decide +kernel, by decide +kernel⟩
def numsOf : List Int := [1, 2, 2, 2, 3, 2, 2, 1, 3, 2, 2]
theorem dp_num {K : PySem.W.Frag} {H : Hp} {q : Addr} {i : Int} (h : SqT K H q [.str "num", .int i]) : Dp K H (.ref q) (Kd.num i).dat := .tup h (.cons (.str _) (.cons (.int _) .nil))
theorem dp_to {K : PySem.W.Frag} {H : Hp} {q : Addr} {x y : V} {a b : Kd} (h : SqT K H q [.str "to", x, y]) (ha : Dp K H x a.dat) (hb : Dp K H y b.dat) : Dp K H (.ref q) (Kd.to a b).dat := .tup h (.cons (.str _) (.cons ha (.cons hb .nil)))
set_option maxHeartbeats 1000000 in
theorem ok_kindL {f fD fP fB fN : Addr} {fd dD dP dB dN : FuncData} (F : Fun K "_law_cp_kind" "_law_cp_kind" sKindL f fd) (mF : mg "_law_cp_kind" = some (.ref f)) (D : Drw K mg fD fP fB dD dP dB) (FN : Fun K "_law_cp_nums" "_law_cp_nums" sNumsL fN dN) (mN : mg "_law_cp_nums" = some (.ref fN)) : ∀ N : Nat, FnOk P0 w K mg base CX0 (N + 18) f fd ["state", "deep"] (spKindL K N)
  | 0 => by
    refine F.ok (k := 17) scKindL (fun vs H Q E h => ?_) (fun cdv A outer s H vs Q E hr h => ?_)
    · obtain ⟨p, g, c, n, deep, rfl, _⟩ := h
      rfl
    · obtain ⟨p, g, c, n, deep, rfl, _, _, h0, _⟩ := h
      omega
  | N + 1 => by
    have IH := ok_kindL F mF D FN mN N
    have bF := F.binds (ps := ["state", "deep"]) fun _ _ _ _ _ _ us hl => match us, hl with | [_, _], _ => rfl
    have GP : FnOk P0 w K mg base CX0 3 fP dP ["state", "some"] (Pre.spPick K) := Pre.ok_pick D.FP D.T D.FD D.mD D.FB D.mB
    have GD : FnOk P0 w K mg base CX0 2 fD dD ["state", "room"] Pre.spDraw := Pre.ok_draw D.FD D.T D.FB D.mB
    have GN : FnOk P0 w K mg base CX0 17 fN dN ["kind"] (spNumsL K 16) := ok_numsL FN mN 16
    have bP := D.FP.binds (ps := ["state", "some"]) fun _ _ _ _ _ _ us hl => match us, hl with | [_, _], _ => rfl
    have bD := D.FD.binds (ps := ["state", "room"]) fun _ _ _ _ _ _ us hl => match us, hl with | [_, _], _ => rfl
    have bN := FN.binds (ps := ["kind"]) fun _ _ _ _ _ _ us hl => match us, hl with | [_], _ => rfl
    refine F.ok (k := N + 18) scKindL (fun vs H Q E h => ?_) (fun cdv A outer s H vs Q E hr h => ?_)
    · obtain ⟨p, g, c, n, deep, rfl, _⟩ := h
      rfl
    · obtain ⟨p, g, c, n, deep, rfl, hs, hn, hN, k⟩ := h
      have nd := scKindL.nd
      have hr17 : Room 17 _ := hr.mono (by omega)
      have hr3 : Room 3 _ := hr.mono (by omega)
      have hr2 : Room 2 _ := hr.mono (by omega)
      have pw : 1 ≤ 2 ^ deep := Nat.one_le_two_pow
      refine ⟨_, pss_cons (ps_if (PW.pt (pw_or (pt_cmpR op_eq (pv 1) pe_int (nomark _)) (pw_or1 (pt_cmpR op_eq (pe_call GD hr2 (by rfl) D.mD D.FD.kp bD .nil pass0 (pa_cons (pv 0) (pa_cons pe_int pa_nil))) pe_int (nomark _)))))
          (pss_one (ps_ret (pe_tup (pa_cons pe_str (pa_cons (pe_call GP hr3 (by rfl) D.mP D.FP.kp bP .nil pass0 (pa_cons (pv 0) (pa_cons (pe_lst (pa_cons pe_int (pa_cons pe_int (pa_cons pe_int (pa_cons pe_int (pa_cons pe_int (pa_cons pe_int (pa_cons pe_int (pa_cons pe_int (pa_cons pe_int (pa_cons pe_int (pa_cons pe_int
              (pa_cons (pe_op op_add pe_int (pe_call GD hr2 (by rfl) D.mD D.FD.kp bD .nil pass0 (pa_cons (pv 0) (pa_cons pe_int pa_nil)))) pa_nil))))))))))))) pa_nil))) pa_nil))))) pss_nil)
        (pss_cons (ps_set (i := 2) nd rfl (Or.inl rfl) (pe_tup (pa_cons pe_str (pa_cons (pe_call IH hr (by rfl) mF F.kp bF .nil pass0 (pa_cons (pv 0) (pa_cons (pe_op op_sub (pv 1) pe_int) pa_nil))) (pa_cons (pe_call IH hr (by rfl) mF F.kp bF .nil pass0 (pa_cons (pv 0) (pa_cons (pe_op op_sub (pv 1) pe_int) pa_nil))) pa_nil)))))
        (pss_one (ps_ret (pe_ifExp (pt_cmpR op_le (pe_call GN hr17 (by rfl) mN FN.kp bN .nil pass0 (pa_cons (pv 2) pa_nil)) pe_int (nomark _)) (pv 2) (pe_tup (pa_cons pe_str (pa_cons (pe_tup (pa_cons pe_str (pa_cons pe_int pa_nil))) (pa_cons (pe_tup (pa_cons pe_str (pa_cons pe_int pa_nil))) pa_nil)))))))), ?_⟩
      change tOr _ _ _ _ _
      refine go_tst (fun b H' => ∃ m, m ≤ n + 1 ∧ Pre.Kp p g H H' ∧ Pre.St H' p g c m ∧ (b = false → 1 ≤ deep)) ?_ (fun Q' hQ' => ?_)
      · rintro b H1 ⟨m, hm, k1, st1, hb⟩
        cases b with
        | true =>
          refine iteT ⟨_, rfl, _, rfl, p, g, c, m, 3, rfl, st1, by omega, by decide, by decide, fun H2 f k2 st2 f0 f1 => ?_⟩
          refine ⟨_, _, rfl, rfl, by show 12 ≤ sizeLine; decide, fun l hl => ?_⟩
          have s3 := Pre.same_upd (o := .lst [.int 1, .int 2, .int 2, .int 2, .int 3, .int 2, .int 2, .int 1, .int 3, .int 2, .int 2, .int (4 + f)]) hl
          have nl := st_new st2 hl
          refine ⟨p, g, c, m + 1, l, _, rfl, st_same st2 s3, by omega, upd_same, nl.2, by show 0 < 12; decide, by show 12 ≤ 1000; decide, fun H4 i y k4 st4 hi hy => ?_⟩
          have hm' := List.mem_of_getElem? hy
          obtain ⟨v, rfl, v0, v1⟩ : ∃ v : Int, y = .int v ∧ 1 ≤ v ∧ v ≤ 6 := by
            simp only [List.mem_cons, List.not_mem_nil, or_false] at hm'
            rcases hm' with z | z | z | z | z | z | z | z | z | z | z | z <;> exact ⟨_, z, by omega, by omega⟩
          refine ⟨by show 2 ≤ sizeLine; decide, fun q hq => ?_⟩
          have s5 := Pre.same_upd (o := .tup [.str "num", .int v]) hq
          exact k (.ref q) (.num v) _ (m + 2) (by omega) (k1.trans (k2.trans ((Pre.Kp.of s3).trans (k4.trans (Pre.Kp.of s5))))) (st_same st4 s5) (dp_num (SqT.of upd_same)) ⟨v0, v1⟩ (by show 1 ≤ 8; decide)
        | false =>
          obtain ⟨dd, rfl⟩ : ∃ dd, deep = dd + 1 := ⟨deep - 1, by have := hb rfl; omega⟩
          have ed : (((dd + 1 : Nat) : Int) - 1) = (dd : Int) := by omega
          have pw2 : 2 ^ (dd + 1) = 2 * 2 ^ dd := by rw [Nat.pow_succ]; omega
          rw [pw2] at hn k
          refine iteF ⟨_, rfl, _, rfl, _, _, rfl, rfl, p, g, c, m, dd, (by show [V.ref p, V.int (((dd + 1 : Nat) : Int) - 1)] = [V.ref p, V.int (dd : Int)]; rw [ed]), st1, by omega, by omega, fun y1 t1 H2 m2 hm2 k2 st2 hy1 g1 n1 => ?_⟩
          refine ⟨_, rfl, _, rfl, _, _, rfl, rfl, p, g, c, m2, dd, (by show [V.ref p, V.int (((dd + 1 : Nat) : Int) - 1)] = [V.ref p, V.int (dd : Int)]; rw [ed]), st2, by omega, by omega, fun y2 t2 H3 m3 hm3 k3 st3 hy2 g2 n2 => ?_⟩
          refine ⟨by show 3 ≤ sizeLine; decide, fun q hq => ?_⟩
          have s4 := Pre.same_upd (o := .tup [.str "to", y1, y2]) hq
          have hd4 : Dp K (upd H3 q (.tup [.str "to", y1, y2])) (.ref q) (Kd.to t1 t2).dat := dp_to (SqT.of upd_same) (dp_ts ((TupS.kp st2 k3).trans (TupS.same s4)) (pl_dat g1) hy1) (dp_same s4 hy2)
          have st4 := st_same st3 s4
          have kp4 : Pre.Kp p g H (upd H3 q (.tup [.str "to", y1, y2])) := k1.trans (k2.trans (k3.trans (Pre.Kp.of s4)))
          refine ⟨_, rfl, _, Kd.to t1 t2, rfl, hd4, by show t1.nums + t2.nums ≤ 16; omega, _, _, rfl, rfl, _, rfl, ?_⟩
          by_cases hle : (((Kd.to t1 t2).nums : Int) : Int) ≤ 8
          · rw [decide_eq_true hle]
            exact iteT ⟨_, rfl, k _ (.to t1 t2) _ m3 (by omega) kp4 st4 hd4 ⟨g1, g2⟩ (by omega)⟩
          · rw [decide_eq_false hle]
            refine iteF ⟨by show 2 ≤ sizeLine; decide, fun q1 hq1 => ⟨by show 2 ≤ sizeLine; decide, fun q2 hq2 => ⟨by show 3 ≤ sizeLine; decide, fun q3 hq3 => ?_⟩⟩⟩
            have s5 := Pre.same_upd (o := .tup [.str "num", .int 2]) hq1
            have s6 := Pre.same_upd (o := .tup [.str "num", .int 2]) hq2
            have s7 := Pre.same_upd (o := .tup [.str "to", .ref q1, .ref q2]) hq3
            exact k _ (.to (.num 2) (.num 2)) _ m3 (by omega) (kp4.trans (Pre.Kp.of (s5.trans (s6.trans s7)))) (st_same st4 (s5.trans (s6.trans s7))) (dp_to (SqT.of upd_same) (dp_num (sqT_same (s6.trans s7) (SqT.of upd_same))) (dp_num (sqT_same s7 (SqT.of upd_same)))) ⟨⟨by decide, by decide⟩, ⟨by decide, by decide⟩⟩ (by decide)
      · refine ⟨_, rfl, rfl, _, rfl, ?_⟩
        by_cases h0 : (V.int (deep : Int) : V) = V.int 0
        · rw [decide_eq_true h0]
          exact iteT (hQ' _ _ ⟨n, by omega, Pre.Kp.refl, hs, fun z => by cases z⟩)
        · rw [decide_eq_false h0]
          have d1 : 1 ≤ deep := by
            rcases Nat.eq_zero_or_pos deep with z | z
            · exact absurd (by rw [z]; rfl) h0
            · exact z
          refine iteF ⟨_, rfl, p, g, c, n, 3, rfl, hs, by omega, by decide, by decide, fun H1 f k1 st1 f0 f1 => ?_⟩
          exact ⟨rfl, _, rfl, hQ' _ _ ⟨n + 1, Nat.le_refl _, k1, st1, fun _ => d1⟩⟩
end
end Tk

namespace Tk
open PySem PySem.Spec PyProof.Rows L2
open Wt Kn Dc
abbrev kO : Kd := .num 2
abbrev kT : Kd := .to (.num 2) (.num 2)
def ks1 : List Kd := [.to kO kO, .to kO (.to kO kO), .to kT kO, .to kT (.to kO kO)]
def ks2 : List Kd := [.to (.to kT kO) kO, .to (.num 3) kO, .to (.to kO kT) (.num 3), kO]
def ks3 : List Kd := [.to (.num 6) (.num 4), .to (.to (.num 5) (.num 6)) kO]
abbrev RK : List (Nat × PyData) := [(1, kO.dat), (2, kT.dat)]
def goodB : Kd → Bool
  | .num i => decide (1 ≤ i) && decide (i ≤ 6)
  | .to a b => goodB a && goodB b
theorem goodB_ok : ∀ {t : Kd}, goodB t = true → t.good
  | .num i, h => by
    have h' : (decide (1 ≤ i) && decide (i ≤ 6)) = true := h
    rw [Bool.and_eq_true] at h'
    exact ⟨of_decide_eq_true h'.1, of_decide_eq_true h'.2⟩
  | .to a b, h => by
    have h' : (goodB a && goodB b) = true := h
    rw [Bool.and_eq_true] at h'
    exact ⟨goodB_ok h'.1, goodB_ok h'.2⟩
theorem ks_good : ∀ t ∈ ks1 ++ ks2 ++ ks3, t.good ∧ t.nums ≤ 8 := by
  have z : ((ks1 ++ ks2 ++ ks3).all fun t => goodB t && decide (t.nums ≤ 8)) = true := by decide +kernel
  intro t ht
  have := List.all_eq_true.mp z t ht
  rw [Bool.and_eq_true] at this
  exact ⟨goodB_ok this.1, of_decide_eq_true this.2⟩
theorem m1 : (1, kO.dat) ∈ RK := List.mem_cons_self ..
theorem m2 : (2, kT.dat) ∈ RK := List.mem_cons_of_mem _ (List.mem_cons_self ..)
theorem dpAll_kdAt {K : PySem.W.Frag} {H : Hp} : ∀ {ts : List Kd} {xs : List V} {i : Nat} {x : V}, DpAll K H xs (ts.map Kd.dat) → xs[i]? = some x → ∃ t ∈ ts, Dp K H x t.dat
  | [], _, _, _, h, hx => by cases h; cases hx
  | t :: ts, _, i, x, h, hx => by
    cases h with
    | cons h1 h2 =>
      cases i with
      | zero =>
        cases hx
        exact ⟨t, List.mem_cons_self .., h1⟩
      | succ i =>
        obtain ⟨u, hu, hd⟩ := dpAll_kdAt (ts := ts) h2 hx
        exact ⟨u, List.mem_cons_of_mem _ hu, hd⟩
section
variable {P0 : Program} {w : World} {K : PySem.W.Frag} {mg : Str → Option Value} {base : Heap}
def spKindT (K : PySem.W.Frag) : Sp := fun vs H Q _ => ∃ (p g c : Addr) (n : Nat), vs = [.ref p] ∧ Pre.St H p g c n ∧ n < 2 ^ 38 ∧
  ∀ (y : V) (t : Kd) (H' : Hp), Pre.Kp p g H H' → Pre.St H' p g c (n + 40) → Dp K H' y t.dat → t.good → t.nums ≤ 8 → Q y H'
theorem scKindT : FnScope ["state", "one", "two", "some"] ["state"] (defScope sKindT) := ⟨rfl, rfl, rfl, by decide +kernel, rfl, by decide +kernel, by decide +kernel⟩
set_option maxHeartbeats 1000000 in
theorem ok_kindT {f fD fP fB fK : Addr} {fd dD dP dB dK : FuncData} (F : Fun K "_law_tk_kind" "_law_tk_kind" sKindT f fd) (D : Drw K mg fD fP fB dD dP dB) (GK : ∀ base, FnOk P0 w K mg base CX0 22 fK dK ["state", "deep"] (spKindL K 4)) (FK : Fun K "_law_cp_kind" "_law_cp_kind" sKindL fK dK) (mK : mg "_law_cp_kind" = some (.ref fK)) : FnOk P0 w K mg base CX0 23 f fd ["state"] (spKindT K) := by
  have GP : FnOk P0 w K mg base CX0 3 fP dP ["state", "some"] (Pre.spPick K) := Pre.ok_pick D.FP D.T D.FD D.mD D.FB D.mB
  have GD : FnOk P0 w K mg base CX0 2 fD dD ["state", "room"] Pre.spDraw := Pre.ok_draw D.FD D.T D.FB D.mB
  have GK := GK base
  have bP := D.FP.binds (ps := ["state", "some"]) fun _ _ _ _ _ _ us hl => match us, hl with | [_, _], _ => rfl
  have bD := D.FD.binds (ps := ["state", "room"]) fun _ _ _ _ _ _ us hl => match us, hl with | [_, _], _ => rfl
  have bK := FK.binds (ps := ["state", "deep"]) fun _ _ _ _ _ _ us hl => match us, hl with | [_, _], _ => rfl
  refine F.ok scKindT (fun vs H Q E h => ?_) (fun cdv A outer s H vs Q E hr h => ?_)
  · obtain ⟨p, g, c, n, rfl, _⟩ := h
    rfl
  · obtain ⟨p, g, c, n, rfl, hs, hn, k⟩ := h
    have nd := scKindT.nd
    have hr3 : Room 3 _ := hr.mono (by decide)
    have hr2 : Room 2 _ := hr.mono (by decide)
    apply Exists.intro
    apply And.intro
    · apply pss_cons
      · exact ps_asg (pe_tup (pa_cons (pe_tup (pa_cons pe_str (pa_cons pe_int pa_nil))) (pa_cons (pe_tup (pa_cons pe_str (pa_cons (pe_tup (pa_cons pe_str (pa_cons pe_int pa_nil))) (pa_cons (pe_tup (pa_cons pe_str (pa_cons pe_int pa_nil))) pa_nil)))) pa_nil))) (pg_tup (by rfl) (pgs_cons (pg_name (i := 1) nd rfl (Or.inl rfl)) (pgs_cons (pg_name (i := 2) nd rfl (Or.inl rfl)) pgs_nil)))
      apply pss_cons
      · exact ps_set (i := 3) nd rfl (Or.inl rfl) (show PE _ _ (tLR K RK (ks1.map Kd.dat)) from pe_lstR (ers_cons (er_tup (ers_cons er_str (ers_cons (er_v (pv 1) m1) (ers_cons (er_v (pv 1) m1) ers_nil))) (by decide)) (ers_cons (er_tup (ers_cons er_str (ers_cons (er_v (pv 1) m1) (ers_cons (er_tup (ers_cons er_str (ers_cons (er_v (pv 1) m1) (ers_cons (er_v (pv 1) m1) ers_nil))) (by decide)) ers_nil))) (by decide)) (ers_cons (er_tup (ers_cons er_str (ers_cons (er_v (pv 2) m2) (ers_cons (er_v (pv 1) m1) ers_nil))) (by decide)) (ers_cons (er_tup (ers_cons er_str (ers_cons (er_v (pv 2) m2) (ers_cons (er_tup (ers_cons er_str (ers_cons (er_v (pv 1) m1) (ers_cons (er_v (pv 1) m1) ers_nil))) (by decide)) ers_nil))) (by decide)) ers_nil)))) (by decide))
      apply pss_cons
      · exact ps_set (i := 3) nd rfl (Or.inl rfl) (pe_op op_cat (pv 3) (show PE _ _ (tLR K RK (ks2.map Kd.dat)) from pe_lstR (ers_cons (er_tup (ers_cons er_str (ers_cons (er_tup (ers_cons er_str (ers_cons (er_v (pv 2) m2) (ers_cons (er_v (pv 1) m1) ers_nil))) (by decide)) (ers_cons (er_v (pv 1) m1) ers_nil))) (by decide)) (ers_cons (er_tup (ers_cons er_str (ers_cons (er_tup (ers_cons er_str (ers_cons er_int ers_nil)) (by decide)) (ers_cons (er_v (pv 1) m1) ers_nil))) (by decide)) (ers_cons (er_tup (ers_cons er_str (ers_cons (er_tup (ers_cons er_str (ers_cons (er_v (pv 1) m1) (ers_cons (er_v (pv 2) m2) ers_nil))) (by decide)) (ers_cons (er_tup (ers_cons er_str (ers_cons er_int ers_nil)) (by decide)) ers_nil))) (by decide)) (ers_cons (er_v (pv 1) m1) ers_nil)))) (by decide)))
      apply pss_cons
      · exact ps_set (i := 3) nd rfl (Or.inl rfl) (pe_op op_cat (pv 3) (show PE _ _ (tLR K RK (ks3.map Kd.dat)) from pe_lstR (ers_cons (er_tup (ers_cons er_str (ers_cons (er_tup (ers_cons er_str (ers_cons er_int ers_nil)) (by decide)) (ers_cons (er_tup (ers_cons er_str (ers_cons er_int ers_nil)) (by decide)) ers_nil))) (by decide)) (ers_cons (er_tup (ers_cons er_str (ers_cons (er_tup (ers_cons er_str (ers_cons (er_tup (ers_cons er_str (ers_cons er_int ers_nil)) (by decide)) (ers_cons (er_tup (ers_cons er_str (ers_cons er_int ers_nil)) (by decide)) ers_nil))) (by decide)) (ers_cons (er_v (pv 1) m1) ers_nil))) (by decide)) ers_nil)) (by decide)))
      exact pss_one (ps_ret (pe_ifExp (pt_cmpR op_eq (pe_call GD hr2 (by rfl) D.mD D.FD.kp bD .nil pass0 (pa_cons (pv 0) (pa_cons pe_int pa_nil))) pe_int (nomark _)) (pe_call GP hr3 (by rfl) D.mP D.FP.kp bP .nil pass0 (pa_cons (pv 0) (pa_cons (pv 3) pa_nil)))
        (pe_call GK hr (by rfl) mK FK.kp bK .nil pass0 (pa_cons (pv 0) (pa_cons (pe_op op_add pe_int (pe_call GD hr2 (by rfl) D.mD D.FD.kp bD .nil pass0 (pa_cons (pv 0) (pa_cons pe_int pa_nil)))) pa_nil)))))
    refine ⟨by show 2 ≤ sizeLine; decide, fun q1 hq1 => ⟨by show 2 ≤ sizeLine; decide, fun q2 hq2 => ⟨by show 2 ≤ sizeLine; decide, fun q3 hq3 => ⟨by show 3 ≤ sizeLine; decide, fun q4 hq4 => ⟨by show 2 ≤ sizeLine; decide, fun q5 hq5 => ?_⟩⟩⟩⟩⟩
    have s1 := Pre.same_upd (o := .tup [.str "num", .int 2]) hq1
    have s2 := Pre.same_upd (o := .tup [.str "num", .int 2]) hq2
    have s3 := Pre.same_upd (o := .tup [.str "num", .int 2]) hq3
    have s4 := Pre.same_upd (o := .tup [.str "to", .ref q2, .ref q3]) hq4
    have s5 := Pre.same_upd (o := .tup [.ref q1, .ref q4]) hq5
    have d1 : Dp K (upd (upd (upd (upd (upd H q1 (.tup [.str "num", .int 2])) q2 (.tup [.str "num", .int 2])) q3 (.tup [.str "num", .int 2])) q4 (.tup [.str "to", .ref q2, .ref q3])) q5 (.tup [.ref q1, .ref q4])) (.ref q1) kO.dat := dp_num (sqT_same (s2.trans (s3.trans (s4.trans s5))) (SqT.of upd_same))
    have d2 : Dp K (upd (upd (upd (upd (upd H q1 (.tup [.str "num", .int 2])) q2 (.tup [.str "num", .int 2])) q3 (.tup [.str "num", .int 2])) q4 (.tup [.str "to", .ref q2, .ref q3])) q5 (.tup [.ref q1, .ref q4])) (.ref q4) kT.dat := dp_to (sqT_same s5 (SqT.of upd_same)) (dp_num (sqT_same (s3.trans (s4.trans s5)) (SqT.of upd_same))) (dp_num (sqT_same (s4.trans s5) (SqT.of upd_same)))
    have sA := s1.trans (s2.trans (s3.trans (s4.trans s5)))
    have hq5' : SqT K (upd (upd (upd (upd (upd H q1 (.tup [.str "num", .int 2])) q2 (.tup [.str "num", .int 2])) q3 (.tup [.str "num", .int 2])) q4 (.tup [.str "to", .ref q2, .ref q3])) q5 (.tup [.ref q1, .ref q4])) q5 [.ref q1, .ref q4] := SqT.of upd_same
    refine ⟨q5, _, rfl, hq5', rfl, _, _, rfl, _, _, rfl, rfl, ?_⟩
    generalize upd (upd (upd (upd (upd H q1 (.tup [.str "num", .int 2])) q2 (.tup [.str "num", .int 2])) q3 (.tup [.str "num", .int 2])) q4 (.tup [.str "to", .ref q2, .ref q3])) q5 (.tup [.ref q1, .ref q4]) = HA at sA d1 d2
    have stA := st_same hs sA
    have avA := Av.st stA
    have cr : ∀ {H' : Hp} {o : Option V}, Same HA H' → CR K p g RK [some (.ref p), some (.ref q1), some (.ref q4), o] H' := fun {H' o} s => ⟨avA.same s, fun i d m => by
      rcases List.mem_cons.mp m with z | z
      · cases z
        exact ⟨_, rfl, (avA.same s).kd (dp_same s d1)⟩
      · cases List.mem_singleton.mp z
        exact ⟨_, rfl, (avA.same s).kd (dp_same s d2)⟩⟩
    refine ⟨p, g, cr (Same.refl _), fun l1 v1 H1 s6 hl1n hl1 dv1 => ?_⟩
    refine ⟨_, rfl, p, g, cr s6, fun l2 v2 H2 s7 hl2n hl2 dv2 => ?_⟩
    have n1 : v1.length = 4 := dpAll_len dv1
    have n2 : v2.length = 4 := dpAll_len dv2
    refine ⟨l1, l2, _, _, rfl, rfl, s7 _ _ hl1, hl2, by rw [n1, n2]; decide, fun l3 hl3 => ?_⟩
    have s8 := Pre.same_upd (o := .lst (v1 ++ v2)) hl3
    have s68 := s6.trans (s7.trans s8)
    refine ⟨_, rfl, p, g, cr s68, fun l4 v4 H4 s9 hl4n hl4 dv4 => ?_⟩
    have n4 : v4.length = 2 := dpAll_len dv4
    refine ⟨l3, l4, _, _, rfl, rfl, s9 _ _ upd_same, hl4, by rw [List.length_append, n1, n2, n4]; decide, fun l5 hl5 => ?_⟩
    have s10 := Pre.same_upd (o := .lst (v1 ++ v2 ++ v4)) hl5
    have dall : DpAll K (wo p g (upd H4 l5 (.lst (v1 ++ v2 ++ v4)))) (v1 ++ v2 ++ v4) ((ks1 ++ ks2 ++ ks3).map Kd.dat) := by
      rw [List.map_append, List.map_append]
      exact dpAll_app (dpAll_app (dpAll_same (wo_mono (s7.trans (s8.trans (s9.trans s10)))) dv1) (dpAll_same (wo_mono (s8.trans (s9.trans s10))) dv2)) (dpAll_same (wo_mono s10) dv4)
    have sZ := sA.trans (s68.trans (s9.trans s10))
    have stZ := st_same hs sZ
    have nl5 := st_new (st_same hs (sA.trans (s68.trans s9))) hl5
    have hl5' : upd H4 l5 (.lst (v1 ++ v2 ++ v4)) l5 = some (.lst (v1 ++ v2 ++ v4)) := upd_same
    generalize upd H4 l5 (.lst (v1 ++ v2 ++ v4)) = HZ at dall sZ stZ hl5'
    refine ⟨_, rfl, p, g, c, n, 2, rfl, stZ, by omega, by decide, by decide, fun H5 f k5 st5 f0 f1 => ?_⟩
    have kz := (Pre.Kp.of sZ).trans k5
    refine ⟨rfl, _, rfl, ?_⟩
    by_cases hf : (V.int f : V) = V.int 0
    · rw [decide_eq_true hf]
      refine iteT ⟨_, rfl, _, rfl, p, g, c, n + 1, l5, _, rfl, st5, by omega, k5 _ _ nl5.1 nl5.2 hl5', nl5.2, by rw [List.length_append, List.length_append, n1, n2, n4]; decide, by rw [List.length_append, List.length_append, n1, n2, n4]; decide, fun H6 i y k6 st6 hi hy => ?_⟩
      obtain ⟨t, ht, hd⟩ := dpAll_kdAt dall hy
      obtain ⟨tg, tn⟩ := ks_good t ht
      exact k y t H6 (kz.trans k6) (st_le st6 (by omega)) (dp_same (wo_sub.trans (Same.refl _)) (dp_same (wo_kp (k5.trans k6)) hd)) tg tn
    · rw [decide_eq_false hf]
      refine iteF ⟨_, rfl, _, rfl, p, g, c, n + 1, 3, rfl, st5, by omega, by decide, by decide, fun H6 f2 k6 st6 g0 g1 => ?_⟩
      obtain ⟨fd2, rfl⟩ : ∃ m : Nat, f2 = (m : Int) := ⟨f2.toNat, by omega⟩
      have pw : 2 ^ (1 + fd2) ≤ 8 := by
        have : fd2 = 0 ∨ fd2 = 1 ∨ fd2 = 2 := by omega
        rcases this with z | z | z <;> rw [z] <;> decide
      refine ⟨_, _, rfl, rfl, p, g, c, n + 1 + 1, 1 + fd2, rfl, st6, by omega, by omega, fun y t H7 m hm k7 st7 hd tg tn => ?_⟩
      exact k y t H7 (kz.trans (k6.trans k7)) (st_le st7 (by omega)) hd tg tn
end
end Tk

namespace Tk
open PySem PySem.Spec PyProof.Rows L2
open Wt Kn Dc
abbrev sSumL : Stmt := Pre.top 51
section
variable {P0 : Program} {w : World} {K : PySem.W.Frag} {mg : Str → Option Value} {base : Heap}
theorem scSumL : FnScope ["weights", "found", "weight"] ["weights"] (defScope sSumL) := ⟨rfl, rfl, rfl, by decide +kernel, rfl, by decide +kernel, by decide +kernel⟩
theorem ok_sumL {f fA fS : Addr} {fd dA dS : FuncData} (F : Fun K "_law_tk_sum" "_law_tk_sum" sSumL f fd) (T : Pre.TxtP mg) (FA : Fun K "_law_cp_plus" "_law_cp_plus" sCpPlus fA dA) (mA : mg "_law_cp_plus" = some (.ref fA)) (FS : Fun K "_law_cp_lowest" "_law_cp_lowest" sLowest fS dS) (mS : mg "_law_cp_lowest" = some (.ref fS)) :
    FnOk P0 w K mg base CX0 3 f fd ["weights"] (spTotal K SqL) := by
  have GA : FnOk P0 w K mg base CX0 2 fA dA ["one", "other"] (spCpBin K addW) := ok_cpplus FA T FS mS
  have bA := FA.binds (ps := ["one", "other"]) fun _ _ _ _ _ _ us hl => match us, hl with | [_, _], _ => rfl
  refine F.ok scSumL (fun vs H Q E h => ?_) (fun cdv A outer s H vs Q E hr h => ?_)
  · obtain ⟨a, xs, ws, rfl, _⟩ := h
    rfl
  · obtain ⟨a, xs, ws, rfl, hS, hW, hl, hs, k⟩ := h
    have nd := scSumL.nd
    refine ⟨_, pss_cons (ps_set (i := 1) nd rfl (Or.inl rfl) (pe_tup (pa_cons pe_int (pa_cons pe_int pa_nil)))) (pss_cons (ps_for PassesOwn.never rfl (pi_list (pv 0)) (pg_name (i := 2) nd rfl (Or.inl rfl))
      (pss_one (ps_set (i := 1) nd rfl (Or.inl rfl) (pe_call GA hr (by rfl) mA FA.kp bA .nil pass0 (pa_cons (pv 1) (pa_cons (pv 2) pa_nil)))))) (pss_one (ps_ret (pv 1)))), ?_⟩
    refine ⟨by show 2 ≤ sizeLine; decide, fun z hz => ?_⟩
    have s0 := Pre.same_upd (o := .tup [.int 0, .int 1]) hz
    refine ⟨_, rfl, a, rfl, ⟨_, s0.seq hS⟩, for_list (K := K) (a := a) (xs := xs) (fun i σ H' => ∃ q pt, σ = [some (.ref a), some (.ref q), pt] ∧ Same H H' ∧ At K H' q (tot (ws.take i))) ⟨z, none, rfl, s0, SqT.of upd_same⟩ (fun i σ H' _ ⟨_, _, _, s1, _⟩ => s1.seq hS) ?_ ?_⟩
    · rintro i x σ H' hx ⟨q, pt, rfl, s1, hq⟩
      have hi : i < ws.length := by
        rw [← hW.1]
        exact (List.getElem?_eq_some_iff.mp hx).1
      have e : ws[i]? = some ws[i] := List.getElem?_eq_getElem hi
      obtain ⟨b, hb1, hb2⟩ := hW.2 i _ e
      rw [hx] at hb1
      cases hb1
      obtain ⟨t1, t2⟩ := tot_inv hs i (by omega)
      obtain ⟨u1, u2⟩ := hs ws[i] (List.getElem_mem hi)
      refine ⟨_, rfl, _, rfl, q, b, _, ws[i], 1 + 301 * i, 300, rfl, hq, sqT_same s1 hb2, by omega, by omega, t1, u1, by omega, by decide, by omega, fun p H2 s2 hp => ?_⟩
      exact ⟨p, _, rfl, s1.trans s2, by rw [tot_more e]; exact hp⟩
    · rintro σ H' ⟨q, pt, rfl, s1, hq⟩
      rw [hW.1, List.take_length] at hq
      exact ⟨_, rfl, k q H' s1 hq⟩
end
end Tk

namespace Tk
open PySem PySem.Spec PyProof.Rows L2
open Wt Kn Dc
abbrev kL : Key := .inr "left"
abbrev shopO (L : Int) : HO := .dK [(kL, .int L)]
theorem get_l {H : Hp} {S : Addr} {L : Int} (h : H S = some (shopO L)) : DGet H S (.str "left") (some (.int L)) := by
  have q := DGet.k (k := kL) h
  rw [show valV [(kL, V.int L)] kL = some (.int L) from valV_pos rfl] at q
  exact q
theorem put_l {L L' : Int} : putK [(kL, V.int L)] kL (.int L') = [(kL, .int L')] := by
  unfold putK
  have h : ([(kL, V.int L)].any fun kv => decide (kv.1 = kL)) = true := by simp
  rw [if_pos h]
  simp
theorem dput_l {H : Hp} {S : Addr} {L L' : Int} (h : H S = some (shopO L)) : DPut H S (.str "left") (.int L') (upd H S (shopO L')) := by
  have q := DPut.k (k := kL) (v := .int L') h (by show 1 < sizeLine; decide)
  rw [put_l] at q
  exact q
def fL (L : Int) : Nat := (L - 1).toNat
/-- all but the state, its great ones and the shop stays -/
def Kp3 (p g S : Addr) (H H' : Hp) : Prop := ∀ b o, b ≠ p → b ≠ g → b ≠ S → H b = some o → H' b = some o
theorem Kp3.trans {p g S : Addr} {H H1 H2 : Hp} (a : Kp3 p g S H H1) (b : Kp3 p g S H1 H2) : Kp3 p g S H H2 := fun x o h1 h2 h3 e => b x o h1 h2 h3 (a x o h1 h2 h3 e)
theorem Kp3.kp {p g S : Addr} {H H1 : Hp} (a : Pre.Kp p g H H1) : Kp3 p g S H H1 := fun x o h1 h2 _ e => a x o h1 h2 e
theorem Kp3.same {p g S : Addr} {H H1 : Hp} (a : Same H H1) : Kp3 p g S H H1 := fun x o _ _ _ e => a x o e
/-- a talk being made: the state at p, the shop at S with L left, the things at A -/
structure Tm (K : PySem.W.Frag) (p g c S A : Addr) (xs : List V) (ts : List Kd) (n : Nat) (L : Int) (H : Hp) : Prop where
  st : Pre.St H p g c n
  sh : H S = some (shopO L)
  nS : S ≠ p
  th : H A = some (.lst xs)
  nA : A ≠ g
  td : DpAll K H xs (ts.map Kd.dat)
variable {K : PySem.W.Frag} {p g c S A : Addr} {xs : List V} {ts : List Kd} {n m : Nat} {L L' : Int} {H H' H0 : Hp}
theorem Tm.sg (t : Tm K p g c S A xs ts n L H) : S ≠ g := fun z => by
  obtain ⟨⟨gs, cs, r, q, q1, q2, q3, q4⟩, h8⟩ := t.st
  have := t.sh
  rw [z, q2] at this
  cases this
theorem Tm.sc (t : Tm K p g c S A xs ts n L H) : S ≠ c := fun z => by
  obtain ⟨⟨gs, cs, r, q, q1, q2, q3, q4⟩, h8⟩ := t.st
  have := t.sh
  rw [z, q3] at this
  cases this
theorem Tm.ap (t : Tm K p g c S A xs ts n L H) : A ≠ p := fun z => by
  obtain ⟨⟨gs, cs, r, q, q1, q2, q3, q4⟩, h8⟩ := t.st
  have := t.th
  rw [z, q1] at this
  cases this
theorem Tm.as (t : Tm K p g c S A xs ts n L H) : A ≠ S := fun z => by
  have := t.th
  rw [z, t.sh] at this
  cases this
theorem Tm.ts3 (t : Tm K p g c S A xs ts n L H) (k : Kp3 p g S H H') : TupS H H' := fun b o no e => by
  obtain ⟨⟨gs, cs, r, q, q1, q2, q3, q4⟩, h8⟩ := t.st
  refine k b o (fun z => ?_) (fun z => ?_) (fun z => ?_) e
  · rw [z, q1] at e
    cases e
    exact no (noTup_dK _)
  · rw [z, q2] at e
    cases e
    exact no (noTup_lst _)
  · rw [z, t.sh] at e
    cases e
    exact no (noTup_dK _)
theorem Tm.same (t : Tm K p g c S A xs ts n L H) (s : Same H H') : Tm K p g c S A xs ts n L H' :=
  ⟨st_same t.st s, s _ _ t.sh, t.nS, s _ _ t.th, t.nA, dpAll_same s t.td⟩
theorem Tm.kp3 (hg : ∀ u ∈ ts, u.good) (t : Tm K p g c S A xs ts n L H) (k : Kp3 p g S H H') (st : Pre.St H' p g c m) (sh : H' S = some (shopO L')) : Tm K p g c S A xs ts m L' H' :=
  ⟨st, sh, t.nS, k _ _ t.ap t.nA t.as t.th, t.nA, dpAll_ts (t.ts3 k) (pl_dats hg) t.td⟩
theorem Tm.kp (hg : ∀ u ∈ ts, u.good) (t : Tm K p g c S A xs ts n L H) (k : Pre.Kp p g H H') (st : Pre.St H' p g c m) : Tm K p g c S A xs ts m L H' :=
  t.kp3 hg (Kp3.kp k) st (k _ _ t.nS t.sg t.sh)
theorem Tm.put (hg : ∀ u ∈ ts, u.good) (t : Tm K p g c S A xs ts n L H) : Tm K p g c S A xs ts n L' (upd H S (shopO L')) ∧ Kp3 p g S H (upd H S (shopO L')) := by
  have k : Kp3 p g S H (upd H S (shopO L')) := fun b o _ _ h3 e => by rw [upd_ne h3]; exact e
  exact ⟨t.kp3 hg k (st_upd t.st t.nS t.sg t.sc) upd_same, k⟩
/-- a new address -/
structure Fr (p g c S A F : Addr) : Prop where
  p : F ≠ p
  g : F ≠ g
  c : F ≠ c
  S : F ≠ S
  A : F ≠ A
theorem Tm.fr {F : Addr} (t : Tm K p g c S A xs ts n L H) (h : H F = none) : Fr p g c S A F :=
  ⟨(st_new t.st h).1, (st_new t.st h).2, st_c t.st h, (fun z => by rw [z, t.sh] at h; cases h), (fun z => by rw [z, t.th] at h; cases h)⟩
theorem Tm.updF {F : Addr} {u : HO} {l : List V} (hg : ∀ u ∈ ts, u.good) (t : Tm K p g c S A xs ts n L H) (f : Fr p g c S A F) (h : H F = some u) (nu : NoTup u) : Tm K p g c S A xs ts n L (upd H F (.lst l)) :=
  ⟨st_upd t.st f.p f.g f.c, by rw [upd_ne (Ne.symm f.S)]; exact t.sh, t.nS, by rw [upd_ne (Ne.symm f.A)]; exact t.th, t.nA, dpAll_ts (TupS.upd h nu) (pl_dats hg) t.td⟩
/-- what was new behind H0 stays new -/
theorem Kp3.noF {F : Addr} (k : Kp3 p g S H0 H) (h1 : F ≠ p) (h2 : F ≠ g) (h3 : F ≠ S) (h : H F = none) : H0 F = none := by
  cases e : H0 F with
  | none => rfl
  | some o =>
    have := k _ _ h1 h2 h3 e
    rw [h] at this
    cases this
theorem Kp3.updF {F : Addr} {o : HO} (k : Kp3 p g S H0 H) (h : H0 F = none) : Kp3 p g S H0 (upd H F o) := fun b v h1 h2 h3 e => by
  rw [upd_ne (ne_of_none e h)]
  exact k _ _ h1 h2 h3 e
end Tk

namespace Tk
open PySem PySem.Spec PyProof.Rows L2
open Wt Kn Dc
theorem G_by {c : Cn} {p : List Cn × List Cn} (h : kids2 c = some p) (h1 : ∀ q ∈ p.1, G q = true) (h2 : ∀ q ∈ p.2, G q = true) : G c = true := by
  rw [G_some h, Bool.and_eq_true]
  exact ⟨List.all_eq_true.mpr h1, List.all_eq_true.mpr h2⟩
theorem G_non {ts : List Kd} {k : Int} : G ⟨.tuple [.str "none"], ts, k⟩ = true := G_by (p := ([], [])) rfl (fun q h => by cases h) (fun q h => by cases h)
theorem G_ans {ts : List Kd} {k b : Int} (h0 : 0 ≤ b) (h1 : b < k) : G ⟨.tuple [.str "answer", .int b], ts, k⟩ = true :=
  G_by (p := ([], [])) (by show (if 0 ≤ b ∧ b < k then some (([], []) : List Cn × List Cn) else none) = _; rw [if_pos ⟨h0, h1⟩]) (fun q h => by cases h) (fun q h => by cases h)
theorem G_draw {ts : List Kd} {k : Int} {rows : List PyData} (ok : rowsOk rows = true) (h : ∀ r ∈ rows, G ⟨rowT r, ts, k⟩ = true) : G ⟨.tuple [.str "draw", .tuple rows], ts, k⟩ = true :=
  G_by (p := ([], rows.map fun r => ⟨rowT r, ts, k⟩)) (by show (if rowsOk rows = true then some (([], rows.map fun r => ⟨rowT r, ts, k⟩) : List Cn × List Cn) else none) = _; rw [if_pos ok]) (fun q h => by cases h) (fun q hq => by
    obtain ⟨r, hr, rfl⟩ := List.mem_map.mp hq
    exact h r hr)
theorem G_ask {ts : List Kd} {k : Int} {v : Nat} {a : Kd} {hs rs : List PyData} (ha : ts[v]? = some a) (l1 : hs.length = a.args.length) (l2 : (rs.length : Int) = a.ans)
    (h1 : ∀ (i : Nat) h kd, hs[i]? = some h → a.args[i]? = some kd → G ⟨h, ts ++ kd.args, kd.ans⟩ = true) (h2 : ∀ r ∈ rs, G ⟨r, ts, k⟩ = true) : G ⟨.tuple [.str "ask", .int (v : Int), .tuple hs, .tuple rs], ts, k⟩ = true := by
  have e : kids2 ⟨.tuple [.str "ask", .int (v : Int), .tuple hs, .tuple rs], ts, k⟩ = some (askH ts a hs, rs.map fun r => ⟨r, ts, k⟩) := by
    show (if (0 : Int) ≤ (v : Int) then (match ts[(v : Int).toNat]? with
      | some a => askA ts k a hs rs
      | none => none) else none) = _
    rw [if_pos (by omega), Int.toNat_natCast, ha]
    show askA ts k a hs rs = _
    unfold askA
    rw [if_pos ⟨l1, l2⟩]
  refine G_by e (fun q hq => ?_) (fun q hq => ?_)
  · unfold askH at hq
    obtain ⟨i, hi, rfl⟩ := List.mem_iff_getElem.mp hq
    rw [List.getElem_zipWith]
    rw [List.length_zipWith] at hi
    exact h1 i _ _ (List.getElem?_eq_getElem (by omega)) (List.getElem?_eq_getElem (by omega))
  · obtain ⟨r, hr, rfl⟩ := List.mem_map.mp hq
    exact h2 r hr
/-- a weight's data -/
def wD (w : Int × Int) : PyData := .tuple [.int w.1, .int w.2]
theorem at_wD {K : PySem.W.Frag} {H : Hp} {b : Addr} {u : Int × Int} (h : At K H b u) : Dp K H (.ref b) (wD u) := .tup h (.cons (.int _) (.cons (.int _) .nil))
theorem isRow_by {w : Int × Int} {d : PyData} (h : isW w) (h0 : 0 < w.1) : isRow (.tuple [wD w, d]) = true := by
  show (isWt (.tuple [.int w.1, .int w.2]) && decide (0 < w.1)) = true
  rw [decide_eq_true h0, Bool.and_true]
  exact h
theorem pl_wD {W t : Int} (h : 0 < W) (hW : W ≤ 12) (ht : 0 ≤ t) (htW : t ≤ 12) : pl (wD (low t W)) = true := by
  have h1 := low_abs1 (t := t) (b := W) (by omega)
  have h2 := low_abs2 (t := t) (b := W) (by omega)
  have h3 := low_pos (t := t) (b := W) (by omega)
  have h4 := low_ge h ht
  show ((decide (0 ≤ (low t W).1) && decide ((low t W).1 < 100)) && ((decide (0 ≤ (low t W).2) && decide ((low t W).2 < 100)) && true)) = true
  rw [decide_eq_true h4, decide_eq_true (show (low t W).1 < 100 by omega), decide_eq_true (show 0 ≤ (low t W).2 by omega), decide_eq_true (show (low t W).2 < 100 by omega)]
  rfl
/-- the rows of a draw, out of their numerators -/
structure RowOk (ts : List Kd) (k : Int) (W : Int) (rs : List PyData) (l : List Int) : Prop where
  w : rs.map rowW = l.map fun t => low t W
  row : rs.all isRow = true
  g : ∀ r ∈ rs, G ⟨rowT r, ts, k⟩ = true
  pl : plAll rs = true
theorem RowOk.snoc {ts : List Kd} {k W t : Int} {rs : List PyData} {l : List Int} {d : PyData} (h : RowOk ts k W rs l) (hW : 0 < W) (hW2 : W ≤ 12) (ht : 0 < t) (ht2 : t ≤ 12) (hp : Tk.pl d = true) (hg : G ⟨d, ts, k⟩ = true) :
    RowOk ts k W (rs ++ [.tuple [wD (low t W), d]]) (l ++ [t]) := by
  refine ⟨by rw [List.map_append, List.map_append, h.w]; rfl, ?_, fun r hr => ?_, pl_all fun r hr => ?_⟩
  · rw [List.all_append, h.row, List.all_cons, isRow_by (low_isW (by omega)) (low_gt hW ht)]
    rfl
  · rcases List.mem_append.mp hr with z | z
    · exact h.g r z
    · rw [List.mem_singleton.mp z]
      exact hg
  · rcases List.mem_append.mp hr with z | z
    · exact pl_mem h.pl z
    · rw [List.mem_singleton.mp z]
      show (Tk.pl (wD (low t W)) && (Tk.pl d && true)) = true
      rw [pl_wD hW hW2 (by omega) ht2, hp]
      rfl
theorem RowOk.all {ts : List Kd} {k W : Int} {rs : List PyData} {l : List Int} (h : RowOk ts k W rs l) (hW : 0 < W) (hs : l.sum ≤ W) (h1 : 1 ≤ rs.length) (h6 : rs.length ≤ 6) : rowsOk rs = true := by
  unfold rowsOk leOne
  rw [h.row, h.w, decide_eq_true h1, decide_eq_true h6, decide_eq_true (tot_le hW hs)]
  rfl
end Tk

namespace Tk
open PySem PySem.Spec PyProof.Rows L2
open Wt Kn Dc
abbrev sTalkL : Stmt := Pre.top 53
abbrev nTalkL : List Str := ["state", "shop", "things", "k", "deep", "way", "rows", "weight", "thing", "handed", "wanted", "many", "kind", "inner", "answer", "number"]
theorem scTalkL : FnScope nTalkL ["state", "shop", "things", "k", "deep"] (defScope sTalkL) := ⟨rfl, rfl, rfl, by decide +kernel, rfl, by decide +kernel, by decide +kernel⟩
theorem eqv_wD {u v : Int × Int} : PyData.eqv (wD u) (wD v) = decide (u = v) := by
  obtain ⟨a, b⟩ := u
  obtain ⟨x, y⟩ := v
  have e : PyData.eqv (wD (a, b)) (wD (x, y)) = (a == x && (b == y && true)) := by simp [wD, PyData.eqv, PyData.eqvAll]
  rw [e, Bool.and_true]
  by_cases h : ((a, b) : Int × Int) = (x, y)
  · rw [decide_eq_true h]
    injection h with h1 h2
    rw [h1, h2, beq_self_eq_true, beq_self_eq_true]
    rfl
  · rw [decide_eq_false h]
    by_cases h1 : a = x
    · have h2 : b ≠ y := fun z => h (by rw [h1, z])
      rw [h1, beq_self_eq_true, beq_false_of_ne h2]
      rfl
    · rw [beq_false_of_ne h1]
      rfl
theorem sh_wD (u : Int × Int) : Sh (wD u) := ok_sh (m := 1) (ok_tupD (m := 0) fun d hd => by
  simp only [List.mem_cons, List.not_mem_nil, or_false] at hd
  rcases hd with rfl | rfl <;> exact ⟨rfl, Nat.le_refl _⟩) (by decide)
theorem sum_nn : ∀ {l : List Int}, (∀ t ∈ l, 0 ≤ t) → 0 ≤ l.sum
  | [], _ => Int.le_refl _
  | a :: l, h => by
    have := sum_nn fun t ht => h t (List.mem_cons_of_mem a ht)
    have := h a (List.mem_cons_self ..)
    show 0 ≤ a + l.sum
    omega
theorem sum_take {l : List Int} {i : Nat} {t : Int} (h : l[i]? = some t) : (l.take (i + 1)).sum = (l.take i).sum + t := by
  rw [List.take_add_one, h]
  exact sum_snoc _ _
theorem sum_take_le {l : List Int} (h : ∀ t ∈ l, 0 ≤ t) (i : Nat) : (l.take i).sum ≤ l.sum := by
  have e := List.take_append_drop i l
  have app : ∀ (a b : List Int), (a ++ b).sum = a.sum + b.sum := fun a b => by
    induction a with
    | nil => show b.sum = 0 + b.sum; omega
    | cons x a ih =>
      show x + (a ++ b).sum = x + a.sum + b.sum
      rw [ih]
      omega
  have e2 := app (l.take i) (l.drop i)
  rw [e] at e2
  have := sum_nn (l := l.drop i) fun t ht => h t (List.mem_of_mem_drop ht)
  omega
theorem szAll_snoc (a : List PyData) (d : PyData) : Kn.szAll (a ++ [d]) = Kn.szAll a + Kn.sz d := by
  rw [szAll_app]
  rfl
theorem eqv_nilL {ds : List PyData} : PyData.eqv (.list ds) (.list []) = ds.isEmpty := by
  cases ds <;> simp [PyData.eqv, PyData.eqvAll]
section
variable {P0 : Program} {w : World} {K : PySem.W.Frag} {mg : Str → Option Value} {base : Heap}
/-- a talk made: its data, with bounds; each inner part takes one of what is left -/
def spTk (K : PySem.W.Frag) (N : Nat) : Sp := fun vs H Q _ => ∃ (p g c S A : Addr) (xs : List V) (ts : List Kd) (n : Nat) (L k deep : Int), vs = [.ref p, .ref S, .ref A, .int k, .int deep] ∧ Tm K p g c S A xs ts n L H ∧ (∀ t ∈ ts, t.good ∧ t.nums ≤ 8) ∧
  1 ≤ k ∧ k ≤ 6 ∧ deep ≤ 5 ∧ deep.toNat < N ∧ ts.length + 12 * deep.toNat ≤ 80 ∧ n + 60 * fL L < 2 ^ 37 ∧
  ∀ (y : V) (d : PyData) (L' : Int) (H' : Hp) (n' : Nat), Kp3 p g S H H' → Pre.St H' p g c n' → H' S = some (shopO L') → L' + 1 ≤ L → n' + 60 * fL L' ≤ n + 3 + 60 * fL L → Dp K H' y d → pl d = true → G ⟨d, ts, k⟩ = true →
    Kn.sz d + 44 * fL L' ≤ 3 + 44 * fL L → d.depth ≤ 1 + 3 * deep.toNat → Q y H'
structure LkT (P0 : Program) (w : World) (K : PySem.W.Frag) (mg : Str → Option Value) (fD fP fB fR fW : Addr) (dD dP dB dR dW : FuncData) : Prop where
  D : Drw K mg fD fP fB dD dP dB
  T : TxtW mg
  GR : ∀ base, FnOk P0 w K mg base CX0 4 fR dR ["state", "k"] (spDrawn K)
  FR : Fun K "_law_cp_drawn" "_law_cp_drawn" sDrawn fR dR
  mR : mg "_law_cp_drawn" = some (.ref fR)
  FW : Fun K "_law_cp_wanted" "_law_cp_wanted" sWanted fW dW
  mW : mg "_law_cp_wanted" = some (.ref fW)
set_option maxHeartbeats 4000000 in
theorem ok_tk {f fD fP fB fR fW : Addr} {fd dD dP dB dR dW : FuncData} (F : Fun K "_law_tk_talk" "_law_tk_talk" sTalkL f fd) (mF : mg "_law_tk_talk" = some (.ref f)) (M : LkT P0 w K mg fD fP fB fR fW dD dP dB dR dW) : ∀ N : Nat, FnOk P0 w K mg base CX0 (N + 5) f fd ["state", "shop", "things", "k", "deep"] (spTk K N)
  | 0 => by
    refine F.ok (k := 4) scTalkL (fun vs H Q E h => ?_) (fun cdv A outer s H vs Q E hr h => ?_)
    · obtain ⟨p, g, c, S, A, xs, ts, n, L, k, deep, rfl, _⟩ := h
      rfl
    · obtain ⟨p, g, c, S, A, xs, ts, n, L, k, deep, rfl, _, _, _, _, _, h0, _⟩ := h
      omega
  | N + 1 => by
    have IH := ok_tk F mF M N
    have bF := F.binds (ps := ["state", "shop", "things", "k", "deep"]) fun _ _ _ _ _ _ us hl => match us, hl with | [_, _, _, _, _], _ => rfl
    have GD : FnOk P0 w K mg base CX0 2 fD dD ["state", "room"] Pre.spDraw := Pre.ok_draw M.D.FD M.D.T M.D.FB M.D.mB
    have GR := M.GR base
    have GW : FnOk P0 w K mg base CX0 1 fW dW ["kind"] (spWanted K) := ok_wanted M.FW
    have bD := M.D.FD.binds (ps := ["state", "room"]) fun _ _ _ _ _ _ us hl => match us, hl with | [_, _], _ => rfl
    have bR := M.FR.binds (ps := ["state", "k"]) fun _ _ _ _ _ _ us hl => match us, hl with | [_, _], _ => rfl
    have bW := M.FW.binds (ps := ["kind"]) fun _ _ _ _ _ _ us hl => match us, hl with | [_], _ => rfl
    refine F.ok (k := N + 5) scTalkL (fun vs H Q E h => ?_) (fun cdv A0 outer s H vs Q E hr h => ?_)
    · obtain ⟨p, g, c, S, A, xs, ts, n, L, k, deep, rfl, _⟩ := h
      rfl
    · obtain ⟨p, g, c, S, A, xs, ts, n, L, k, deep, rfl, tm, hts, hk1, hk6, hd5, hdN, hlen, hn, kk⟩ := h
      have nd := scTalkL.nd
      have hu := hu_of hr
      have hr4 : Room 4 _ := hr.mono (by omega)
      have hr2 : Room 2 _ := hr.mono (by omega)
      have hr1 : Room 1 _ := hr.mono (by omega)
      have hg : ∀ u ∈ ts, u.good := fun u hu => (hts u hu).1
      apply Exists.intro
      apply And.intro
      · apply pss_cons
        · exact ps_dput hu (pv 1) pe_str (pe_op op_sub (pe_dget hu (pv 1) pe_str (fun _ _ => rfl)) pe_int) rfl
        apply pss_cons
        · exact ps_set (i := 5) nd rfl (Or.inl rfl) (pe_call GD hr2 (by rfl) M.D.mD M.D.FD.kp bD .nil pass0 (pa_cons (pv 0) (pa_cons pe_int pa_nil)))
        apply pss_cons
        · exact ps_if (PW.pt (pw_or (pt_cmpR op_le (pv 4) pe_int (nomark _)) (pw_or (pt_cmpR op_le (pe_dget hu (pv 1) pe_str (fun _ _ => rfl)) pe_int (nomark _)) (pw_or1 (pt_cmpR op_eq (pv 5) pe_int (nomark _))))))
            (pss_one (ps_ret (pe_ifExp (pt_cmpR op_eq (pe_call GD hr2 (by rfl) M.D.mD M.D.FD.kp bD .nil pass0 (pa_cons (pv 0) (pa_cons pe_int pa_nil))) pe_int (nomark _)) (pe_tup (pa_cons pe_str pa_nil))
              (pe_tup (pa_cons pe_str (pa_cons (pe_call GD hr2 (by rfl) M.D.mD M.D.FD.kp bD .nil pass0 (pa_cons (pv 0) (pa_cons (pv 3) pa_nil))) pa_nil)))))) pss_nil
        apply pss_cons
        · exact ps_if (PW.pt (pw_or (pt_cmpR op_lt (pv 5) pe_int (nomark _)) (pw_or1 (pt_cmpR (op_eqD hr.units) (pv 2) (pe_lst pa_nil) (nomark _))))) (pss_cons (ps_set (i := 6) nd rfl (Or.inl rfl) (pe_lst pa_nil)) (pss_cons (ps_for PassesOwn.never rfl (pi_tup (pe_ix ix_tup (pe_call GR hr4 (by rfl) M.mR M.FR.kp bR .nil pass0 (pa_cons (pv 0) (pa_cons (pe_op op_add pe_int (pe_call GD hr2 (by rfl) M.D.mD M.D.FD.kp bD .nil pass0 (pa_cons (pv 0) (pa_cons pe_int pa_nil)))) pa_nil))) pe_int (fun _ _ => rfl))) (pg_name (i := 7) nd rfl (Or.inl rfl))
              (pss_one (ps_if (pt_cmpR (op_neD hr.units) (pv 7) (pe_tup (pa_cons pe_int (pa_cons pe_int pa_nil))) (nomark _))
                (pss_one (ps_expr (pe_bm PySem.F.plainAttrs_list PySem.F.slot_list_append PySem.F.type_list_append mt_append (pv 6) (pa_cons (pe_tup (pa_cons (pv 7) (pa_cons (pe_call IH hr (by rfl) mF F.kp bF .nil pass0 (pa_cons (pv 0) (pa_cons (pv 1) (pa_cons (pv 2) (pa_cons (pv 3) (pa_cons (pe_op op_sub (pv 4) pe_int) pa_nil)))))) pa_nil))) pa_nil)))) pss_nil))) (pss_one (ps_ret (pe_ifExp (pt_cmpR (op_neD hr.units) (pv 6) (pe_lst pa_nil) (nomark _)) (pe_tup (pa_cons pe_str (pa_cons (pe_callTy call_tuple_of (by rfl) M.T.tuple (by decide +kernel) (pa_cons (pv 6) pa_nil)) pa_nil))) (pe_tup (pa_cons pe_str pa_nil))))))) pss_nil
        apply pss_cons
        · exact ps_par (i := 8) (j := 9) rfl nd rfl rfl (by decide) rfl rfl (pa_cons (pe_call GD hr2 (by rfl) M.D.mD M.D.FD.kp bD .nil pass0 (pa_cons (pv 0) (pa_cons (pe_callB call_len_seq (by rfl) M.T.len PySem.boot_len (pa_cons (pv 2) pa_nil)) pa_nil))) (pa_cons (pe_lst pa_nil) pa_nil)) (by rfl)
        apply pss_cons
        · exact ps_asg (pe_call GW hr1 (by rfl) M.mW M.FW.kp bW .nil pass0 (pa_cons (pe_ix ix_list (pv 2) (pv 8) (fun _ _ => rfl)) pa_nil)) (pg_tup (by rfl) (pgs_cons (pg_name (i := 10) nd rfl (Or.inl rfl)) (pgs_cons (pg_name (i := 11) nd rfl (Or.inl rfl)) pgs_nil)))
        apply pss_cons
        · exact ps_for PassesOwn.never rfl (pi_list (pv 10)) (pg_name (i := 12) nd rfl (Or.inl rfl))
            (pss_cons (ps_asg (pe_call GW hr1 (by rfl) M.mW M.FW.kp bW .nil pass0 (pa_cons (pv 12) pa_nil)) (pg_tup (by rfl) (pgs_cons (pg_name (i := 13) nd rfl (Or.inl rfl)) (pgs_cons (pg_name (i := 14) nd rfl (Or.inl rfl)) pgs_nil))))
            (pss_one (ps_expr (pe_bm PySem.F.plainAttrs_list PySem.F.slot_list_append PySem.F.type_list_append mt_append (pv 9) (pa_cons (pe_call IH hr (by rfl) mF F.kp bF .nil pass0 (pa_cons (pv 0) (pa_cons (pv 1) (pa_cons (pe_op op_cat (pv 2) (pv 13)) (pa_cons (pv 14) (pa_cons (pe_op op_sub (pv 4) pe_int) pa_nil)))))) pa_nil)))))
        apply pss_cons
        · exact ps_setLc (i := 6) (own := [("number", 15)]) (g := gName 15) (tt := tYes) rfl nd rfl rfl (sw_true rfl rfl rfl (by decide +kernel)) (pi_range1 (by rfl) M.D.zg (pa_cons (pv 11) pa_nil)) (blkOk_by (own := [("number", 15)]) (N := nTalkL) (sc := defScope sTalkL) (by decide +kernel)) (fun _ _ _ _ _ => pg_name (i := 15) nd rfl (Or.inl rfl)) (fun _ _ _ _ _ => pts_nil)
            (fun _ _ _ _ _ => pe_call IH (hr.mono (by omega)) (by rfl) mF F.kp bF .nil pass0 (pa_cons (pv 0) (pa_cons (pv 1) (pa_cons (pv 2) (pa_cons (pv 3) (pa_cons (pe_op op_sub (pv 4) pe_int) pa_nil))))))
        exact pss_one (ps_ret (pe_tup (pa_cons pe_str (pa_cons (pv 8) (pa_cons (pe_callTy call_tuple_of (by rfl) M.T.tuple (by decide +kernel) (pa_cons (pv 9) pa_nil)) (pa_cons (pe_callTy call_tuple_of (by rfl) M.T.tuple (by decide +kernel) (pa_cons (pv 6) pa_nil)) pa_nil))))))
      refine ⟨_, rfl, S, _, rfl, get_l tm.sh, _, _, rfl, rfl, _, rfl, S, _, rfl, dput_l tm.sh, ?_⟩
      obtain ⟨tm1, k1⟩ := tm.put hg (L' := L - 1)
      generalize upd H S (shopO (L - 1)) = H1 at tm1 k1
      refine ⟨_, rfl, p, g, c, n, 8, rfl, tm1.st, by omega, by decide, by decide, fun H2 way k2 st2 w0 w1 => ?_⟩
      have tm2 := tm1.kp hg k2 st2
      have k02 : Kp3 p g S H H2 := k1.trans (Kp3.kp k2)
      refine go_name (go_nx ?_)
      change tOr _ _ _ _ _
      refine go_tst (fun b H' => H2 = H' ∧ (b = false → 0 < deep ∧ 0 < L - 1)) ?_ (fun Q' hQ' => ?_)
      · rintro b H' ⟨rfl, hb⟩
        cases b with
        | true =>
          refine iteT ⟨_, rfl, p, g, c, n + 1, 6, rfl, tm2.st, by omega, by decide, by decide, fun H3 f k3 st3 f0 f1 => ?_⟩
          have tm3 := tm2.kp hg k3 st3
          have k03 := k02.trans (Kp3.kp k3)
          refine ⟨rfl, _, rfl, ?_⟩
          by_cases hf : (V.int f : V) = V.int 0
          · rw [decide_eq_true hf]
            refine iteT ⟨by show 1 ≤ sizeLine; decide, fun q hq => ?_⟩
            have s4 := Pre.same_upd (o := .tup [.str "none"]) hq
            have tm4 := tm3.same s4
            exact kk (.ref q) (.tuple [.str "none"]) (L - 1) _ (n + 2) (k03.trans (Kp3.same s4)) tm4.st tm4.sh (by omega) (by unfold fL; omega) (.tup (SqT.of upd_same) (.cons (.str _) .nil)) (by decide +kernel) G_non (by show 2 + _ ≤ _; unfold fL; omega) (by show 1 ≤ 1 + _; omega)
          · rw [decide_eq_false hf]
            refine iteF ⟨_, rfl, _, rfl, p, g, c, n + 2, k, rfl, tm3.st, by omega, by omega, by omega, fun H4 f4 k4 st4 g0 g1 => ?_⟩
            have tm4 := tm3.kp hg k4 st4
            refine ⟨by show 2 ≤ sizeLine; decide, fun q hq => ?_⟩
            have s5 := Pre.same_upd (o := .tup [.str "answer", .int f4]) hq
            have tm5 := tm4.same s5
            have pl5 : pl (.tuple [.str "answer", .int f4]) = true := by
              show ((PyData.str "answer").canLay0 && ((decide (0 ≤ f4) && decide (f4 < 100)) && true)) = true
              rw [decide_eq_true g0, decide_eq_true (show f4 < 100 by omega)]
              decide +kernel
            exact kk (.ref q) (.tuple [.str "answer", .int f4]) (L - 1) _ (n + 3) (k03.trans ((Kp3.kp k4).trans (Kp3.same s5))) tm5.st tm5.sh (by omega) (by unfold fL; omega) (.tup (SqT.of upd_same) (.cons (.str _) (.cons (.int _) .nil))) pl5 (G_ans g0 g1) (by show 3 + _ ≤ _; unfold fL; omega) (by show 1 ≤ 1 + _; omega)
        | false =>
          obtain ⟨hdp, hL⟩ := hb rfl
          refine iteF (go_on ?_)
          change tOr _ _ _ _ _
          refine go_tst (fun b H' => Same H2 H' ∧ (b = false → ts ≠ [])) ?_ (fun Q' hQ' => ?_)
          · rintro b H3 ⟨s3, hb3⟩
            have tm3 := tm2.same s3
            have k03 := k02.trans (Kp3.same s3)
            have fle : fL L = fL (L - 1) + 1 := by unfold fL; omega
            cases b with
            | true =>
              refine iteT ⟨by show 0 ≤ sizeLine; decide, fun F hF => ?_⟩
              have s4 := Pre.same_upd (o := .lst []) hF
              have tm4 := tm3.same s4
              have fr := tm3.fr hF
              have hF4 : upd H3 F (.lst []) F = some (.lst []) := upd_same
              have hF0 : H F = none := k03.noF fr.p fr.g fr.S hF
              generalize upd H3 F (.lst []) = H4 at s4 tm4 hF4
              refine ⟨_, rfl, _, rfl, p, g, c, n + 1, 3, rfl, tm4.st, by omega, by decide, by decide, fun H5 f5 k5 st5 f0 f1 => ?_⟩
              obtain ⟨kN, rfl⟩ : ∃ m : Nat, f5 = (m : Int) := ⟨f5.toNat, by omega⟩
              have tm5 := tm4.kp hg k5 st5
              refine ⟨_, _, rfl, rfl, p, g, c, n + 1 + 1, 1 + kN, rfl, st5, by omega, by omega, by omega, fun r t2 ys W l H6 k6 st6 hr6 ht2 hws hll hpos hsum hW0 hW1 => ?_⟩
              have tm6 := tm5.kp hg k6 st6
              have hF6 := k6 _ _ fr.p fr.g (k5 _ _ fr.p fr.g hF4)
              have k06 : Kp3 p g S H H6 := k03.trans ((Kp3.same s4).trans ((Kp3.kp k5).trans (Kp3.kp k6)))
              have hd1 : 1 ≤ deep.toNat := by omega
              refine ⟨r, _, 1, _, rfl, rfl, hr6, rfl, t2, rfl, ⟨_, ht2⟩, for_tup (K := K) (a := t2) (xs := ys) (fun i σ H' => ∃ (rs : List PyData) (vs : List V) (l' : List Int) (ni : Nat) (Li : Int) (ow : Option V), σ = [some (.ref p), some (.ref S), some (.ref A), some (.int k), some (.int deep), some (.int way), some (.ref F), ow, none, none, none, none, none, none, none, none] ∧ Tm K p g c S A xs ts ni Li H' ∧ Kp3 p g S H H' ∧ TupS H6 H' ∧ H' F = some (.lst vs) ∧ DpAll K H' vs rs ∧ RowOk ts k W rs l' ∧ l'.length ≤ i ∧ l'.sum ≤ (l.take i).sum ∧ Li ≤ L - 1 ∧ ni + 60 * fL Li ≤ n + 9 + 3 * i + 60 * fL (L - 1) ∧ Kn.szAll rs + 44 * fL Li ≤ 7 * i + 44 * fL (L - 1) ∧ (∀ r ∈ rs, r.depth ≤ 3 * deep.toNat - 1))
                ⟨[], [], [], n + 1 + 1 + 7, L - 1, none, rfl, tm6, k06, fun b o _ e => e, hF6, .nil, ⟨rfl, rfl, (fun r h => by cases h), rfl⟩, Nat.le_refl _, Int.le_refl _, Int.le_refl _, by omega, by show 0 + _ ≤ _; omega, fun r h => by cases h⟩ (fun i σ H' _ ⟨_, _, _, _, _, _, _, _, _, ts', _⟩ => sqT_ts ts' ht2) ?_ ?_⟩
              · rintro i x σ H7 hx ⟨rs, vs, l', ni, Li, ow, rfl, tm7, k07, ts7, hF7, hdv, hro, hl', hs', hLi, hni, hsz, hdep⟩
                have hi : i < l.length := by
                  have h1 := (List.getElem?_eq_some_iff.mp hx).1
                  have h2 := hws.1
                  rw [List.length_map] at h2
                  omega
                have hli : l[i]? = some l[i] := List.getElem?_eq_getElem hi
                have ht0 := hpos l[i] (List.getElem_mem hi)
                have hst := sum_take hli
                have hstl := sum_take_le hpos (i + 1)
                have hsn := sum_nn (l := l.take i) fun t ht => hpos t (List.mem_of_mem_take ht)
                generalize l[i] = t at hli ht0 hst
                have ht12 : t ≤ 12 := by omega
                obtain ⟨b, hb1, hb2⟩ := hws.2 i (low t W) (by rw [List.getElem?_map, hli]; rfl)
                rw [hx] at hb1
                cases hb1
                refine ⟨_, rfl, by show 2 ≤ sizeLine; decide, fun z hz => ?_⟩
                have s8 := Pre.same_upd (o := .tup [.int 0, .int 1]) hz
                refine ⟨wD (low t W), wD (0, 1), at_wD (sqT_ts (ts7.trans (TupS.same s8)) hb2), .tup (SqT.of upd_same) (.cons (.int _) (.cons (.int _) .nil)), sh_wD _, sh_wD _, _, rfl, ?_⟩
                have tm8 := tm7.same s8
                have k08 := k07.trans (Kp3.same s8)
                have hF8 := s8 _ _ hF7
                have ts8 := ts7.trans (TupS.same s8)
                have hdv8 := dpAll_same s8 hdv
                generalize upd H7 z (.tup [.int 0, .int 1]) = H8 at s8 tm8 k08 hF8 ts8 hdv8
                rw [eqv_wD]
                by_cases hzero : low t W = (0, 1)
                · rw [decide_eq_true hzero]
                  exact iteF ⟨rs, vs, l', ni, Li, _, rfl, tm8, k08, ts8, hF8, hdv8, hro, by omega, by omega, hLi, by omega, by omega, hdep⟩
                · rw [decide_eq_false hzero]
                  have tpos : 0 < t := by
                    have := low_nz hW0 hzero
                    omega
                  refine iteT ⟨_, rfl, .inl ⟨rfl, _, SqL.of hF8⟩, _, rfl, _, rfl, _, rfl, _, rfl, _, rfl, _, rfl, _, _, rfl, rfl, p, g, c, S, A, xs, ts, ni, Li, k, deep - 1, rfl, tm8, hts, hk1, hk6, by omega, by omega, by omega, by omega, fun y d L9 H9 n9 k9 st9 sh9 hL9 hn9 hdy hpl hG hszd hdd => ?_⟩
                  have tm9 := tm8.kp3 hg k9 st9 sh9
                  have hF9 := k9 _ _ fr.p fr.g fr.S hF8
                  have ts89 := tm8.ts3 k9
                  refine ⟨by show 2 ≤ sizeLine; decide, fun q hq => ?_⟩
                  have s10 := Pre.same_upd (o := .tup [.ref b, y]) hq
                  have hF10 := s10 _ _ hF9
                  have tm10 := tm9.same s10
                  have nq : q ≠ F := fun z => by
                    rw [z, hF9] at hq
                    cases hq
                  have line : 100 < sizeLine := by decide
                  have hvl : vs.length = rs.length := dpAll_len hdv
                  have hrl : rs.length = l'.length := by
                    have := congrArg List.length hro.w
                    rw [List.length_map, List.length_map] at this
                    exact this
                  have hrow : Dp K (upd H9 q (.tup [.ref b, y])) (.ref q) (.tuple [wD (low t W), d]) := .tup (SqT.of upd_same) (.cons (at_wD (sqT_ts (ts8.trans (ts89.trans (TupS.same s10))) hb2)) (.cons (dp_same s10 hdy) .nil))
                  have hro' := hro.snoc hW0 hW1 tpos ht12 hpl hG
                  have plr : pl (.tuple [wD (low t W), d]) = true := pl_mem hro'.pl (List.mem_append_right _ (List.mem_singleton.mpr rfl))
                  generalize upd H9 q (.tup [.ref b, y]) = H10 at s10 hF10 tm10 hrow
                  have tsu : TupS H10 (upd H10 F (.lst (vs ++ [.ref q]))) := TupS.upd hF10 (noTup_lst _)
                  refine ⟨F, vs, .ref q, rfl, rfl, hF10, by omega, rs ++ [.tuple [wD (low t W), d]], vs ++ [.ref q], l' ++ [t], n9, L9, _, rfl, tm10.updF hg fr hF10 (noTup_lst _), (k08.trans (k9.trans (Kp3.same s10))).updF hF0, ts8.trans (ts89.trans ((TupS.same s10).trans tsu)), upd_same,
                    dpAll_snoc (dpAll_ts (ts89.trans ((TupS.same s10).trans tsu)) hro.pl hdv8) (dp_ts tsu plr hrow), hro', by rw [List.length_append, List.length_singleton]; omega, by rw [sum_snoc]; omega, by omega, by omega, ?_, fun r hr => ?_⟩
                  · rw [szAll_snoc]
                    have e1 : Kn.sz (.tuple [wD (low t W), d]) = 1 + (3 + (Kn.sz d + 0)) := rfl
                    omega
                  · rcases List.mem_append.mp hr with zz | zz
                    · exact hdep r zz
                    · rw [List.mem_singleton.mp zz]
                      have e1 : (PyData.tuple [wD (low t W), d]).depth = max 1 (max d.depth 0) + 1 := rfl
                      omega
              · rintro σ H7 ⟨rs, vs, l', ni, Li, ow, rfl, tm7, k07, ts7, hF7, hdv, hro, hl', hs', hLi, hni, hsz, hdep⟩
                have hyl : ys.length = 1 + kN := by
                  have := hws.1
                  rw [List.length_map] at this
                  omega
                rw [hyl] at hl' hs' hni hsz
                have hrl : rs.length = l'.length := by
                  have := congrArg List.length hro.w
                  rw [List.length_map, List.length_map] at this
                  exact this
                have hstl := sum_take_le hpos (1 + kN)
                refine ⟨_, rfl, by show 0 ≤ sizeLine; decide, fun l0 hl0 => ?_⟩
                have s8 := Pre.same_upd (o := .lst []) hl0
                have okR : Ok 40 (.list rs) := ok_mono (ok_lstD (m := 3 * deep.toNat - 1) fun d hd => ⟨pl_can d (pl_mem hro.pl hd), hdep d hd⟩) (by omega)
                refine ⟨.list rs, .list [], .lst (SqL.of (s8 _ _ hF7)) (dpAll_same s8 hdv), .lst (SqL.of upd_same) .nil, ok_sh okR (by decide), by decide +kernel, _, rfl, ?_⟩
                have tm8 := tm7.same s8
                have k08 := k07.trans (Kp3.same s8)
                have hF8 := s8 _ _ hF7
                have hdv8 := dpAll_same s8 hdv
                generalize upd H7 l0 (.lst []) = H8 at s8 tm8 k08 hF8 hdv8
                rw [eqv_nilL]
                by_cases hemp : rs = []
                · subst hemp
                  refine iteF ⟨by show 1 ≤ sizeLine; decide, fun q hq => ?_⟩
                  have s9 := Pre.same_upd (o := .tup [.str "none"]) hq
                  have tm9 := tm8.same s9
                  exact kk (.ref q) (.tuple [.str "none"]) Li _ ni (k08.trans (Kp3.same s9)) tm9.st tm9.sh (by omega) (by omega) (.tup (SqT.of upd_same) (.cons (.str _) .nil)) (by decide +kernel) G_non (by show 2 + _ ≤ _; omega) (by show 1 ≤ 1 + _; omega)
                · have he : rs.isEmpty = false := by
                    cases rs with
                    | nil => exact absurd rfl hemp
                    | cons _ _ => rfl
                  rw [he]
                  have hlen1 : 1 ≤ rs.length := by
                    cases rs with
                    | nil => exact absurd rfl hemp
                    | cons _ _ => exact Nat.succ_le_succ (Nat.zero_le _)
                  refine iteT ⟨_, rfl, F, vs, rfl, .inl ⟨SqL.of hF8, fun t3 ht3 => ⟨by show 2 ≤ sizeLine; decide, fun q hq => ?_⟩⟩⟩
                  have s9 := Pre.same_upd (o := .tup vs) ht3
                  have s10 := Pre.same_upd (o := .tup [.str "draw", .ref t3]) hq
                  have s910 := s9.trans s10
                  have tm9 := tm8.same s910
                  have e1 : Kn.sz (.tuple [.str "draw", .tuple rs]) = 1 + (1 + ((1 + Kn.szAll rs) + 0)) := rfl
                  have e2 : (PyData.tuple [.str "draw", .tuple rs]).depth = max 0 (max (PyData.depthAll rs + 1) 0) + 1 := rfl
                  have e3 := dep_all (ds := rs) hdep
                  have plq : pl (.tuple [.str "draw", .tuple rs]) = true := by
                    show ((PyData.str "draw").canLay0 && (plAll rs && true)) = true
                    rw [hro.pl]
                    decide +kernel
                  exact kk (.ref q) (.tuple [.str "draw", .tuple rs]) Li _ ni (k08.trans (Kp3.same s910)) tm9.st tm9.sh (by omega) (by omega) (.tup (SqT.of upd_same) (.cons (.str _) (.cons (.tup (sqT_same s10 (SqT.of upd_same)) (dpAll_same s910 hdv8)) .nil))) plq
                    (G_draw (hro.all hW0 (by omega) hlen1 (by omega)) hro.g) (by omega) (by omega)
            | false =>
              refine iteF (go_on ?_)
              have hxl : xs.length = ts.length := by
                have := dpAll_len tm3.td
                rwa [List.length_map] at this
              have ht0 : 0 < ts.length := List.length_pos_iff.mpr (hb3 rfl)
              have hd1 : 1 ≤ deep.toNat := by omega
              refine ⟨_, rfl, _, rfl, A, xs, rfl, .inl (SqL.of tm3.th), p, g, c, n + 1, _, rfl, tm3.st, by omega, by omega, by omega, fun H4 f4 k4 st4 g0 g1 => ?_⟩
              obtain ⟨v, rfl⟩ : ∃ m : Nat, f4 = (m : Int) := ⟨f4.toNat, by omega⟩
              have tm4 := tm3.kp hg k4 st4
              have k04 := k03.trans (Kp3.kp k4)
              refine ⟨by show 0 ≤ sizeLine; decide, fun F hF => ?_⟩
              have s5 := Pre.same_upd (o := .lst []) hF
              have tm5 := tm4.same s5
              have fr := tm4.fr hF
              have hF5 : upd H4 F (.lst []) F = some (.lst []) := upd_same
              have hF0 : H F = none := k04.noF fr.p fr.g fr.S hF
              have k05 := k04.trans (Kp3.same s5)
              generalize upd H4 F (.lst []) = H5 at s5 tm5 hF5 k05
              have hv : v < ts.length := by omega
              have hta : ts[v]? = some ts[v] := List.getElem?_eq_getElem hv
              obtain ⟨htg, htn⟩ := hts ts[v] (List.getElem_mem hv)
              generalize ts[v] = t at hta htg htn
              obtain ⟨x, hx⟩ : ∃ x, xs[v]? = some x := ⟨xs[v], List.getElem?_eq_getElem (by omega)⟩
              obtain ⟨dx, hdx, hDx⟩ := dpAll_at tm5.td hx
              rw [List.getElem?_map, hta] at hdx
              cases hdx
              refine ⟨_, _, rfl, _, rfl, _, rfl, A, xs, _, x, rfl, rfl, SqL.of tm5.th, atI_nat hx, x, t, rfl, hDx, by omega, fun q Wl ys H6 s6 hq hWn hWl hys => ?_⟩
              refine ⟨q, _, rfl, hq, rfl, _, _, rfl, _, _, rfl, rfl, ?_⟩
              have tm6 := tm5.same s6
              have k06 := k05.trans (Kp3.same s6)
              have frW := tm5.fr hWn
              have hF6 := s6 _ _ hF5
              have nWF : Wl ≠ F := fun z => by
                rw [z, hF5] at hWn
                cases hWn
              have hyl : ys.length = t.args.length := by
                have := dpAll_len hys
                rwa [List.length_map] at this
              have taf := args_few t
              have plA : plAll (t.args.map Kd.dat) = true := pl_dats fun u hu => arg_good htg hu
              have hans := ans_good htg
              have line : 100 < sizeLine := by decide
              refine ⟨_, rfl, Wl, rfl, ⟨_, SqL.of hWl⟩, for_list (K := K) (a := Wl) (xs := ys) (fun i σ H' => ∃ (hs : List PyData) (vs : List V) (ni : Nat) (Li : Int) (o12 o13 o14 : Option V), σ = [some (.ref p), some (.ref S), some (.ref A), some (.int k), some (.int deep), some (.int way), none, none, some (.int (v : Int)), some (.ref F), some (.ref Wl), some (.int t.ans), o12, o13, o14, none] ∧ Tm K p g c S A xs ts ni Li H' ∧ Kp3 p g S H H' ∧ H' Wl = some (.lst ys) ∧ DpAll K H' ys (t.args.map Kd.dat) ∧ H' F = some (.lst vs) ∧ DpAll K H' vs hs ∧ plAll hs = true ∧ hs.length = i ∧ (∀ (j : Nat) (h : PyData) (kd : Kd), hs[j]? = some h → t.args[j]? = some kd → G ⟨h, ts ++ kd.args, kd.ans⟩ = true) ∧ Li ≤ L - 1 ∧ ni + 60 * fL Li ≤ n + 2 + 3 * i + 60 * fL (L - 1) ∧ Kn.szAll hs + 44 * fL Li ≤ 3 * i + 44 * fL (L - 1) ∧ (∀ h ∈ hs, h.depth ≤ 3 * deep.toNat - 2))
                ⟨[], [], n + 1 + 1, L - 1, none, none, none, rfl, tm6, k06, hWl, dpAll_same s6 hys, hF6, .nil, rfl, rfl, (fun j h kd z => by cases z), Int.le_refl _, by omega, by show 0 + _ ≤ _; omega, fun h z => by cases z⟩ (fun i σ H' _ ⟨_, _, _, _, _, _, _, _, _, _, hW', _⟩ => SqL.of hW') ?_ ?_⟩
              · rintro i x1 σ H7 hx1 ⟨hs, vs, ni, Li, o12, o13, o14, rfl, tm7, k07, hW7, hys7, hF7, hdv, hpl, hlen7, hG7, hLi, hni, hsz, hdep⟩
                have hi : i < t.args.length := by
                  have := (List.getElem?_eq_some_iff.mp hx1).1
                  omega
                have hka : t.args[i]? = some t.args[i] := List.getElem?_eq_getElem hi
                have hmem := List.getElem_mem hi
                generalize t.args[i] = kd at hka hmem
                have kg := arg_good htg hmem
                have kn := arg_nums hmem
                have kaf := args_few kd
                have kan := ans_good kg
                obtain ⟨dk, hdk, hDk⟩ := dpAll_at hys7 hx1
                rw [List.getElem?_map, hka] at hdk
                cases hdk
                refine ⟨_, rfl, x1, kd, rfl, hDk, by omega, fun q2 l2 zs H8 s8 hq2 hl2n hl2 hzs => ?_⟩
                refine ⟨q2, _, rfl, hq2, rfl, _, _, rfl, _, _, rfl, rfl, ?_⟩
                have tm8 := tm7.same s8
                have k08 := k07.trans (Kp3.same s8)
                have hF8 := s8 _ _ hF7
                have hW8 := s8 _ _ hW7
                have hzl : zs.length = kd.args.length := by
                  have := dpAll_len hzs
                  rwa [List.length_map] at this
                refine ⟨_, rfl, .inl ⟨rfl, _, SqL.of hF8⟩, _, rfl, _, rfl, _, rfl, _, rfl, A, l2, _, _, rfl, rfl, tm8.th, hl2, by omega, fun l3 hl3 => ?_⟩
                have s9 := Pre.same_upd (o := .lst (xs ++ zs)) hl3
                have tm9 := tm8.same s9
                have fr3 := tm8.fr hl3
                have hl3' : upd H8 l3 (.lst (xs ++ zs)) l3 = some (.lst (xs ++ zs)) := upd_same
                have hF9 := s9 _ _ hF8
                have hW9 := s9 _ _ hW8
                have hys9 := dpAll_same (s8.trans s9) hys7
                have hdv9 := dpAll_same (s8.trans s9) hdv
                have hzs9 := dpAll_same (s8.trans s9) hzs
                have k09 := k08.trans (Kp3.same s9)
                generalize upd H8 l3 (.lst (xs ++ zs)) = H9 at s9 tm9 hl3' hF9 hW9 hys9 hdv9 hzs9 k09
                have tm9' : Tm K p g c S l3 (xs ++ zs) (ts ++ kd.args) ni Li H9 := ⟨tm9.st, tm9.sh, tm9.nS, hl3', fr3.g, by rw [List.map_append]; exact dpAll_app tm9.td hzs9⟩
                have hts' : ∀ u ∈ ts ++ kd.args, u.good ∧ u.nums ≤ 8 := fun u hu => by
                  rcases List.mem_append.mp hu with z | z
                  · exact hts u z
                  · exact ⟨arg_good kg z, by have := arg_nums z; omega⟩
                have hlen' : (ts ++ kd.args).length + 12 * (deep - 2).toNat ≤ 80 := by
                  rw [List.length_append]
                  omega
                refine ⟨_, rfl, _, rfl, _, _, rfl, rfl, p, g, c, S, l3, xs ++ zs, ts ++ kd.args, ni, Li, kd.ans, deep - 2, rfl, tm9', hts', kan.1, kan.2, by omega, by omega, hlen', by omega, fun y d L10 H10 n10 k10 st10 sh10 hL10 hn10 hdy hpl10 hG10 hszd hdd => ?_⟩
                have tm10 := tm9.kp3 hg k10 st10 sh10
                have hF10 := k10 _ _ fr.p fr.g fr.S hF9
                have hW10 := k10 _ _ frW.p frW.g frW.S hW9
                have ts910 := tm9.ts3 k10
                have tsu : TupS H10 (upd H10 F (.lst (vs ++ [y]))) := TupS.upd hF10 (noTup_lst _)
                have hvl : vs.length = hs.length := dpAll_len hdv
                refine ⟨F, vs, y, rfl, rfl, hF10, by omega, hs ++ [d], vs ++ [y], n10, L10, _, _, _, rfl, tm10.updF hg fr hF10 (noTup_lst _), (k09.trans k10).updF hF0, by rw [upd_ne nWF]; exact hW10, dpAll_ts (ts910.trans tsu) plA hys9, upd_same, dpAll_snoc (dpAll_ts (ts910.trans tsu) hpl hdv9) (dp_ts tsu hpl10 hdy), ?_, ?_, ?_, by omega, by omega, ?_, fun h hh => ?_⟩
                · refine pl_all fun e he => ?_
                  rcases List.mem_append.mp he with z | z
                  · exact pl_mem hpl z
                  · rw [List.mem_singleton.mp z]; exact hpl10
                · rw [List.length_append, List.length_singleton, hlen7]
                · intro j h kd' hj hkd'
                  by_cases hji : j < hs.length
                  · rw [List.getElem?_append_left hji] at hj
                    exact hG7 j h kd' hj hkd'
                  · have e : j = hs.length := by
                      have := (List.getElem?_eq_some_iff.mp hj).1
                      rw [List.length_append, List.length_singleton] at this
                      omega
                    subst e
                    rw [List.getElem?_append_right (Nat.le_refl _), Nat.sub_self] at hj
                    cases hj
                    rw [hlen7, hka] at hkd'
                    cases hkd'
                    exact hG10
                · rw [szAll_snoc]
                  omega
                · rcases List.mem_append.mp hh with z | z
                  · exact hdep h z
                  · rw [List.mem_singleton.mp z]
                    omega
              · rintro σ H7 ⟨hs, vs, ni, Li, o12, o13, o14, rfl, tm7, k07, hW7, hys7, hF7, hdv, hpl, hlen7, hG7, hLi, hni, hsz, hdep⟩
                rw [hyl] at hlen7 hni hsz
                obtain ⟨many, hmany⟩ : ∃ m : Nat, t.ans = (m : Int) := ⟨t.ans.toNat, by omega⟩
                rw [hmany]
                refine ⟨_, rfl, many, rfl, by omega, by omega, fun D hD => lc_range (n := many) (fun i H' => ∃ (rs : List PyData) (us : List V) (nj : Nat) (Lj : Int), Tm K p g c S A xs ts nj Lj H' ∧ Kp3 p g S H H' ∧ H' F = some (.lst vs) ∧ DpAll K H' vs hs ∧ H' D = some (.lst us) ∧ DpAll K H' us rs ∧ plAll rs = true ∧ rs.length = i ∧ (∀ r ∈ rs, G ⟨r, ts, k⟩ = true) ∧ Lj ≤ Li ∧ nj + 60 * fL Lj ≤ ni + 3 * i + 60 * fL Li ∧ Kn.szAll rs + 44 * fL Lj ≤ 3 * i + 44 * fL Li ∧ (∀ h ∈ rs, h.depth ≤ 3 * deep.toNat - 2))
                  ?_ ?_ ?_⟩
                · have sD := Pre.same_upd (o := .lst []) hD
                  exact ⟨[], [], ni, Li, tm7.same sD, k07.trans (Kp3.same sD), sD _ _ hF7, dpAll_same sD hdv, upd_same, .nil, rfl, rfl, (fun r z => by cases z), Int.le_refl _, by omega, by show 0 + _ ≤ _; omega, fun h z => by cases z⟩
                · rintro i H8 hi ⟨rs, us, nj, Lj, tm8, k08, hF8, hdv8, hD8, hdu8, hplr, hrl, hGr, hLj, hnj, hszr, hdr⟩
                  have frD := tm7.fr hD
                  have nFD : F ≠ D := fun z => by
                    rw [← z, hF7] at hD
                    cases hD
                  have hD0 : H D = none := k07.noF frD.p frD.g frD.S hD
                  refine ⟨rfl, _, rfl, _, rfl, _, rfl, _, rfl, _, rfl, _, _, rfl, rfl, p, g, c, S, A, xs, ts, nj, Lj, k, deep - 1, rfl, tm8, hts, hk1, hk6, by omega, by omega, by omega, by omega, fun y d L9 H9 n9 k9 st9 sh9 hL9 hn9 hdy hpl9 hG9 hszd hdd => ?_⟩
                  have tm9 := tm8.kp3 hg k9 st9 sh9
                  have hF9 := k9 _ _ fr.p fr.g fr.S hF8
                  have hD9 := k9 _ _ frD.p frD.g frD.S hD8
                  have ts89 := tm8.ts3 k9
                  have tsu : TupS H9 (upd H9 D (.lst (us ++ [y]))) := TupS.upd hD9 (noTup_lst _)
                  have hul : us.length = rs.length := dpAll_len hdu8
                  refine ⟨us, hD9, by omega, rs ++ [d], us ++ [y], n9, L9, tm9.updF hg frD hD9 (noTup_lst _), (k08.trans k9).updF hD0, by rw [upd_ne nFD]; exact hF9, dpAll_ts (ts89.trans tsu) hpl hdv8, upd_same, dpAll_snoc (dpAll_ts (ts89.trans tsu) hplr hdu8) (dp_ts tsu hpl9 hdy), ?_, ?_, fun r hr => ?_, by omega, by omega, ?_, fun h hh => ?_⟩
                  · refine pl_all fun e he => ?_
                    rcases List.mem_append.mp he with z | z
                    · exact pl_mem hplr z
                    · rw [List.mem_singleton.mp z]; exact hpl9
                  · rw [List.length_append, List.length_singleton, hrl]
                  · rcases List.mem_append.mp hr with z | z
                    · exact hGr r z
                    · rw [List.mem_singleton.mp z]; exact hG9
                  · rw [szAll_snoc]
                    omega
                  · rcases List.mem_append.mp hh with z | z
                    · exact hdr h z
                    · rw [List.mem_singleton.mp z]
                      omega
                · rintro H8 ⟨rs, us, nj, Lj, tm8, k08, hF8, hdv8, hD8, hdu8, hplr, hrl, hGr, hLj, hnj, hszr, hdr⟩
                  refine ⟨_, rfl, _, rfl, F, vs, rfl, .inl ⟨SqL.of hF8, fun t1 ht1 => ?_⟩⟩
                  have s9 := Pre.same_upd (o := .tup vs) ht1
                  refine ⟨_, rfl, D, us, rfl, .inl ⟨SqL.of (s9 _ _ hD8), fun t2 ht2 => ⟨by show 4 ≤ sizeLine; decide, fun q hq => ?_⟩⟩⟩
                  have s10 := Pre.same_upd (o := .tup us) ht2
                  have s11 := Pre.same_upd (o := .tup [.str "ask", .int (v : Int), .ref t1, .ref t2]) hq
                  have sA := s9.trans (s10.trans s11)
                  have tm9 := tm8.same sA
                  have e1 : Kn.sz (.tuple [.str "ask", .int (v : Int), .tuple hs, .tuple rs]) = 1 + (1 + (1 + ((1 + Kn.szAll hs) + ((1 + Kn.szAll rs) + 0)))) := rfl
                  have e2 : (PyData.tuple [.str "ask", .int (v : Int), .tuple hs, .tuple rs]).depth = max 0 (max 0 (max (PyData.depthAll hs + 1) (max (PyData.depthAll rs + 1) 0))) + 1 := rfl
                  have e3 := dep_all (ds := rs) hdr
                  have e4 := dep_all (ds := hs) hdep
                  have plq : pl (.tuple [.str "ask", .int (v : Int), .tuple hs, .tuple rs]) = true := by
                    show ((PyData.str "ask").canLay0 && ((decide ((0 : Int) ≤ (v : Int)) && decide ((v : Int) < 100)) && (plAll hs && (plAll rs && true)))) = true
                    rw [hpl, hplr, decide_eq_true (show (0 : Int) ≤ (v : Int) by omega), decide_eq_true (show (v : Int) < 100 by omega)]
                    decide +kernel
                  exact kk (.ref q) (.tuple [.str "ask", .int (v : Int), .tuple hs, .tuple rs]) Lj _ nj (k08.trans (Kp3.same sA)) tm9.st tm9.sh (by omega) (by omega)
                    (.tup (SqT.of upd_same) (.cons (.str _) (.cons (.int _) (.cons (.tup (sqT_same (s10.trans s11) (SqT.of upd_same)) (dpAll_same sA hdv8)) (.cons (.tup (sqT_same s11 (SqT.of upd_same)) (dpAll_same sA hdu8)) .nil))))) plq
                    (G_ask hta hlen7 (by rw [hrl]; exact hmany.symm) hG7 hGr) (by omega) (by omega)
          · refine ⟨_, rfl, _, _, rfl, rfl, _, rfl, ?_⟩
            by_cases h3 : way < 3
            · rw [decide_eq_true h3]
              exact iteT (hQ' _ _ ⟨Same.refl _, fun z => by cases z⟩)
            · rw [decide_eq_false h3]
              refine iteF ⟨_, rfl, by show 0 ≤ sizeLine; decide, fun l0 hl0 => ?_⟩
              have s3 := Pre.same_upd (o := .lst []) hl0
              have tm3 := tm2.same s3
              have okT : Ok 9 (.list (ts.map Kd.dat)) := ok_lstD fun d hd => by
                obtain ⟨t, ht, rfl⟩ := List.mem_map.mp hd
                exact ⟨can_dat t, Nat.le_trans (dep_dat t) (hts t ht).2⟩
              refine ⟨.list (ts.map Kd.dat), .list [], .lst (SqL.of tm3.th) tm3.td, .lst (SqL.of upd_same) .nil, ok_sh okT (by decide), by decide +kernel, _, rfl, hQ' _ _ ⟨s3, fun z hz => ?_⟩⟩
              subst hz
              revert z
              decide +kernel
      · refine ⟨_, rfl, _, _, rfl, rfl, _, rfl, ?_⟩
        by_cases h0 : deep ≤ 0
        · rw [decide_eq_true h0]
          exact iteT (hQ' _ _ ⟨rfl, fun z => by cases z⟩)
        · rw [decide_eq_false h0]
          refine iteF ⟨_, rfl, S, _, rfl, get_l tm2.sh, _, _, rfl, rfl, _, rfl, ?_⟩
          by_cases h1 : L - 1 ≤ 0
          · rw [decide_eq_true h1]
            exact iteT (hQ' _ _ ⟨rfl, fun z => by cases z⟩)
          · rw [decide_eq_false h1]
            exact iteF ⟨_, rfl, rfl, _, rfl, hQ' _ _ ⟨rfl, fun _ => ⟨by omega, by omega⟩⟩⟩
end
end Tk

namespace Tk
open PySem PySem.Spec PyProof.Rows L2
open Wt Kn Dc
abbrev sClosedL : Stmt := Pre.top 54
theorem scClosedL : FnScope ["state", "kind", "room", "wanted", "answer"] ["state", "kind", "room"] (defScope sClosedL) := ⟨rfl, rfl, rfl, by decide +kernel, rfl, by decide +kernel, by decide +kernel⟩
section
variable {P0 : Program} {w : World} {K : PySem.W.Frag} {mg : Str → Option Value} {base : Heap}
/-- a talk of a kind -/
def spCl (K : PySem.W.Frag) : Sp := fun vs H Q _ => ∃ (p g c : Addr) (n : Nat) (x : V) (t : Kd), vs = [.ref p, x, .int 20] ∧ Pre.St H p g c n ∧ n < 2 ^ 36 ∧ Dp K H x t.dat ∧ t.good ∧ t.nums ≤ 8 ∧
  ∀ (y : V) (d : PyData) (H' : Hp), Pre.Kp p g H H' → Pre.St H' p g c (n + 1200) → Dp K H' y d → pl d = true → G ⟨d, t.args, t.ans⟩ = true → Kn.sz d ≤ 839 → d.depth ≤ 16 → Q y H'
theorem merge_l {L : Int} : mergeK [] [(kL, V.int L)] = [(kL, .int L)] := by
  unfold mergeK
  simp [putK]
set_option maxHeartbeats 1000000 in
theorem ok_cl {f fD fP fB fW fT : Addr} {fd dD dP dB dW dT : FuncData} (F : Fun K "_law_tk_closed" "_law_tk_closed" sClosedL f fd) (D : Drw K mg fD fP fB dD dP dB) (FW : Fun K "_law_cp_wanted" "_law_cp_wanted" sWanted fW dW) (mW : mg "_law_cp_wanted" = some (.ref fW))
    (GT : ∀ base, FnOk P0 w K mg base CX0 11 fT dT ["state", "shop", "things", "k", "deep"] (spTk K 6)) (FT : Fun K "_law_tk_talk" "_law_tk_talk" sTalkL fT dT) (mT : mg "_law_tk_talk" = some (.ref fT)) : FnOk P0 w K mg base CX0 12 f fd ["state", "kind", "room"] (spCl K) := by
  have GD : FnOk P0 w K mg base CX0 2 fD dD ["state", "room"] Pre.spDraw := Pre.ok_draw D.FD D.T D.FB D.mB
  have GW : FnOk P0 w K mg base CX0 1 fW dW ["kind"] (spWanted K) := ok_wanted FW
  have GT := GT base
  have bD := D.FD.binds (ps := ["state", "room"]) fun _ _ _ _ _ _ us hl => match us, hl with | [_, _], _ => rfl
  have bW := FW.binds (ps := ["kind"]) fun _ _ _ _ _ _ us hl => match us, hl with | [_], _ => rfl
  have bT := FT.binds (ps := ["state", "shop", "things", "k", "deep"]) fun _ _ _ _ _ _ us hl => match us, hl with | [_, _, _, _, _], _ => rfl
  refine F.ok scClosedL (fun vs H Q E h => ?_) (fun cdv A outer s H vs Q E hr h => ?_)
  · obtain ⟨p, g, c, n, x, t, rfl, _⟩ := h
    rfl
  · obtain ⟨p, g, c, n, x, t, rfl, hs, hn, hx, tg, tn, k⟩ := h
    have nd := scClosedL.nd
    have hr1 : Room 1 _ := hr.mono (by decide)
    have hr2 : Room 2 _ := hr.mono (by decide)
    refine ⟨_, pss_cons (ps_asg (pe_call GW hr1 (by rfl) mW FW.kp bW .nil pass0 (pa_cons (pv 1) pa_nil)) (pg_tup (by rfl) (pgs_cons (pg_name (i := 3) nd rfl (Or.inl rfl)) (pgs_cons (pg_name (i := 4) nd rfl (Or.inl rfl)) pgs_nil))))
      (pss_one (ps_ret (pe_call GT hr (by rfl) mT FT.kp bT .nil pass0 (pa_cons (pv 0) (pa_cons (pe_disp (pps_cons pe_str (pv 2) pps_nil) rfl rfl (by decide) (by decide)) (pa_cons (pv 3) (pa_cons (pv 4) (pa_cons (pe_op op_add pe_int (pe_call GD hr2 (by rfl) D.mD D.FD.kp bD .nil pass0 (pa_cons (pv 0) (pa_cons pe_int pa_nil)))) pa_nil)))))))), ?_⟩
    refine ⟨_, rfl, x, t, rfl, hx, by omega, fun q Wl ys H6 s6 hq hWn hWl hys => ?_⟩
    refine ⟨q, _, rfl, hq, rfl, _, _, rfl, _, _, rfl, rfl, ?_⟩
    have st6 := st_same hs s6
    have hans := ans_good tg
    have taf := args_few t
    refine ⟨_, rfl, fun S hS => ⟨_, rfl, ?_⟩⟩
    have s7 := Pre.same_upd (o := .dK []) hS
    have nS := st_new st6 hS
    have cS := st_c st6 hS
    have nWS : Wl ≠ S := fun z => by
      rw [z, hS] at hWl
      cases hWl
    refine ⟨upd_same, [(kL, .int 20)], rfl, by show 1 ≤ 15; decide, ?_⟩
    rw [merge_l]
    have s8 : Same H6 (upd (upd H6 S (.dK [])) S (shopO 20)) := fun b o e => by
      rw [upd_ne (ne_of_none e hS), upd_ne (ne_of_none e hS)]
      exact e
    have hS8 : upd (upd H6 S (.dK [])) S (shopO 20) S = some (shopO 20) := upd_same
    generalize upd (upd H6 S (.dK [])) S (shopO 20) = H8 at s8 hS8
    have st8 := st_same st6 s8
    refine ⟨_, rfl, _, rfl, _, rfl, p, g, c, n, 4, rfl, st8, by omega, by decide, by decide, fun H9 f k9 st9 f0 f1 => ?_⟩
    have nWg : Wl ≠ p ∧ Wl ≠ g := st_new hs hWn
    have k69 : Pre.Kp p g H H9 := (Pre.Kp.of (s6.trans s8)).trans k9
    have ts9 : TupS H H9 := TupS.kp hs k69
    have gA : ∀ u ∈ t.args, u.good := fun u hu => arg_good tg hu
    have tm : Tm K p g c S Wl ys t.args (n + 1) 20 H9 := ⟨st9, k9 _ _ nS.1 nS.2 hS8, nS.1, k9 _ _ nWg.1 nWg.2 (s8 _ _ hWl), nWg.2, dpAll_ts ts9 (pl_dats gA) hys⟩
    have f20 : fL 20 = 19 := rfl
    refine ⟨_, _, rfl, rfl, p, g, c, S, Wl, ys, t.args, n + 1, 20, t.ans, 2 + f, rfl, tm, fun u hu => ⟨gA u hu, by have := arg_nums hu; omega⟩, hans.1, hans.2, by omega, by omega, by omega, by omega, fun y d L' H' n' k' st' sh' hL' hn' hdy hpl hG hsz hdep => ?_⟩
    refine k y d H' ?_ (st_le st' (by omega)) hdy hpl hG (by omega) (by omega)
    intro b o h1 h2 e
    have e6 := s6 _ _ e
    exact k' b o h1 h2 (ne_of_none e6 hS) (k69 b o h1 h2 e)
end
end Tk

namespace Tk
open PySem PySem.Spec PyProof.Rows L2
theorem tuple_mul1 (l : Addr) (items : Array Value) (n : Nat) (dd : Option Addr) (sl : Array (Option Value)) (u : Tok) :
    Meets (Builtin.«tuple.__mul__» ⟨[.ref l, .int 1 u], []⟩) (fun _ R s => s.heap.get? l = some { cls := .type "tuple", dict := dd, data := .seq items n, slots := sl } ∧ R (.ok (.ret (Value.ref l))) s) :=
  .of_wp fun prog w A R s h => by
    obtain ⟨hp, g, d, tk, os⟩ := s
    obtain ⟨hl, h⟩ := h
    have f1 := AutoSeq1.idx_int
    have c1 : (items.isEmpty || (1 : Int) == 1) = true := by rw [beq_self_eq_true, Bool.or_true]
    have c0 : (decide ((1 : Int) < -(2 ^ 63)) || decide ((1 : Int) ≥ 2 ^ 63)) = false := by decide
    wp_walk using wpAny_loadPart' hl
    repeat (first
      | (refine wpAny_ite_false (decide_eq_false (by rw [c0]; exact Bool.false_ne_true)) ?_; wp_walk using wpAny_loadPart' hl)
      | (refine wpAny_ite_true (decide_eq_true c1) ?_; wp_walk using wpAny_loadPart' hl))
    exact ⟨_, rfl, h⟩
/-- a tuple, m times -/
def rRepA (K : PySem.W.Frag) : R2 := fun x y H Q => ∃ l k xs, x = .ref l ∧ y = .int k ∧ SqT K H l xs ∧ xs ≠ [] ∧ 1 ≤ k ∧ k ≤ 1000 ∧ xs.length ≤ 1000 ∧ (k = 1 → Q (.ref l) H) ∧ (k ≠ 1 → ∀ p, H p = none → Q (.ref p) (upd H p (.tup (List.replicate k.toNat xs).flatten)))
theorem op_repA {X : Cx} : OpR X (binaryOp .Mult) (rRepA X.K) := by
  intro pins s σ H x y v u Q I rx ry h
  obtain ⟨l, k, xs, rfl, rfl, hT, hne, h1, h2, hz, q1, q2⟩ := h
  by_cases hk : k = 1
  · subst hk
    cases rx
    obtain ⟨t, rfl⟩ := ry
    obtain ⟨its, r, ⟨⟨cls, dd, data, sl⟩, ho, hc, n, hd⟩, hs⟩ := I.tuple hT
    simp only at hc hd
    subst hc hd
    refine wpAny_binaryOp_repeat_ref (T := "tuple") (U := "int") (by decide) ⟨_, ho, rfl⟩ (fun s' => typeIs_int s' 1 t) noFill_tuple_mul F.fills_int_mul F.slot_int_rmul repeat_tuple F.slot_int_index.lookup
      (call_meets F.slot_int_rmul (typeIs_int s 1 t) F.entry_int_rmul (F.args_int_rmul_2 _ _) (int_rmul_tuple 1 t l its.toArray n dd sl)
        ⟨ho, rfl, ⟨_, ho, rfl⟩, call_meets F.slot_tuple_mul ⟨_, ho, rfl⟩ F.entry_tuple_mul (F.args_tuple_mul_2 _ _) (tuple_mul1 l its.toArray n dd sl t) ⟨ho, ?_⟩⟩)
    exact ⟨.ref l, H, I, rfl, q1 rfl⟩
  · exact op_repT pins s σ H _ _ v u Q I rx ry ⟨l, k, xs, rfl, rfl, hT, hne, by omega, h2, hz, q2 hk⟩
end Tk

namespace Tk
open PySem PySem.Spec PyProof.Rows L2
open Wt Kn Dc
theorem dpAll_rep {K : PySem.W.Frag} {H : Hp} {xs : List V} {ds : List PyData} (h : DpAll K H xs ds) : ∀ m : Nat, DpAll K H (List.replicate m xs).flatten (List.replicate m ds).flatten
  | 0 => .nil
  | m + 1 => by
    rw [List.replicate_succ, List.replicate_succ, List.flatten_cons, List.flatten_cons]
    exact dpAll_app h (dpAll_rep h m)
section
variable {X : Cx} {a b e : Expr} {d : PyData} {ds es : List PyData} {pos : Pos} {R : List (Nat × PyData)} {i j : Int}
theorem er_add (ha : PE X a (tER X.K R (.int i))) (hb : PE X b (tER X.K R (.int j))) : PE X (.BinOp a .Add b pos) (tER X.K R (.int (i + j))) :=
  pe_imp (pe_op op_add ha hb) fun σ H Q ⟨p, g, c, k⟩ => ⟨p, g, c, fun x H1 s1 d1 => ⟨p, g, c.same s1, fun y H2 s2 d2 => by
    cases d1
    cases d2
    exact ⟨_, _, rfl, rfl, k _ _ (s1.trans s2) (.int _)⟩⟩⟩
theorem er_rep (ha : PE X a (tER X.K R (.tuple ds))) (hb : PE X b (tER X.K R (.int i))) (hne : ds ≠ []) (h1 : 1 ≤ i) (h2 : i ≤ 1000) (hl : ds.length ≤ 1000) : PE X (.BinOp a .Mult b pos) (tER X.K R (.tuple (List.replicate i.toNat ds).flatten)) :=
  pe_imp (pe_op op_repA ha hb) fun σ H Q ⟨p, g, c, k⟩ => ⟨p, g, c, fun x H1 s1 d1 => ⟨p, g, c.same s1, fun y H2 s2 d2 => by
    cases d1 with
    | tup q r =>
      rename_i l xs
      cases d2
      have hxl := dpAll_len r
      refine ⟨l, i, xs, rfl, rfl, sqT_same (wo_sub.trans s2) q, ?_, h1, h2, by omega, fun e => ?_, fun _ r' hr' => ?_⟩
      · intro z
        subst z
        cases r
        exact hne rfl
      · have e2 : (List.replicate i.toNat ds).flatten = ds := by
          rw [e]
          simp
        rw [e2] at k
        exact k _ _ (s1.trans s2) (dp_same (wo_mono s2) (.tup q r))
      · have s3 := Pre.same_upd (o := .tup (List.replicate i.toNat xs).flatten) hr'
        exact k _ _ (s1.trans (s2.trans s3)) (.tup (SqT.of ((c.1.same (s1.trans s2)).new hr')) (dpAll_rep (dpAll_same (wo_mono (s2.trans s3)) r) _))⟩⟩
theorem er_cat (ha : PE X a (tER X.K R (.tuple ds))) (hb : PE X b (tER X.K R (.tuple es))) (hl : ds.length + es.length ≤ 1000) : PE X (.BinOp a .Add b pos) (tER X.K R (.tuple (ds ++ es))) :=
  pe_imp (pe_op op_catA ha hb) fun σ H Q ⟨p, g, c, k⟩ => ⟨p, g, c, fun x H1 s1 d1 => ⟨p, g, c.same s1, fun y H2 s2 d2 => by
    cases d1 with
    | tup q r =>
      rename_i l xs
      cases d2 with
      | tup q2 r2 =>
        have l1 := dpAll_len r
        have l2 := dpAll_len r2
        have line : 1000 ≤ sizeLine := by decide
        exact catA_any (sqT_same (wo_sub.trans s2) q) (sqT_same wo_sub q2) (by omega) fun r3 H3 s3 hr3 => k _ _ (s1.trans (s2.trans s3)) (.tup ((c.1.same (s1.trans (s2.trans s3))).tup hr3) (dpAll_app (dpAll_same (wo_mono (s2.trans s3)) r) (dpAll_same (wo_mono s3) r2)))⟩⟩
end
/-! ## no talks -/
def NotTalk (ts : List Kd) (k : Int) (d : PyData) : Prop := (∃ I, HsI I ∧ I ⟨d, ts, k⟩) ∧ sm d = true ∧ ¬ Fin 0 [(⟨d, ts, k⟩, 1)]
theorem no_by {ts : List Kd} {k : Int} {d : PyData} (h : kids2 ⟨d, ts, k⟩ = none) (hs : Hs d) (hsm : sm d = true) : NotTalk ts k d :=
  ⟨⟨fun c => c = ⟨d, ts, k⟩, ⟨fun c e => by rw [e]; exact hs, fun c p hp e => by rw [e, h] at hp; cases hp⟩, rfl⟩, hsm, fin_bad (W := []) h⟩
theorem hs_str {s : Str} {ds : List PyData} (h : (PyData.str s).canLay0 = true := by decide +kernel) : Hs (.tuple (.str s :: ds)) := fun e es z => by
  injection z with z
  injection z with z1 z2
  rw [← z1]
  exact sh_lit s h
theorem kd_draw {ts : List Kd} {k : Int} {rows : List PyData} (h : rowsOk rows = false) : kids2 ⟨.tuple [.str "draw", .tuple rows], ts, k⟩ = none := by
  show (if rowsOk rows = true then _ else none) = none
  rw [h]
  rfl
theorem no_draw {ts : List Kd} {k : Int} {rows : List PyData} (h : rowsOk rows = false) (hsm : smAll rows = true) : NotTalk ts k (.tuple [.str "draw", .tuple rows]) :=
  no_by (kd_draw h) hs_str (by show (true && (smAll rows && true)) = true; rw [hsm]; rfl)
theorem no_ask {ts : List Kd} {k : Int} {x y z : PyData} (h : askK ts k x y z = none) (h1 : sm x = true) (h2 : sm y = true) (h3 : sm z = true) : NotTalk ts k (.tuple [.str "ask", x, y, z]) :=
  no_by h hs_str (by show (true && (sm x && (sm y && (sm z && true)))) = true; rw [h1, h2, h3]; rfl)
/-- a row of draws, one in the other -/
def ringD (w : Int × Int) (d : PyData) : Nat → PyData
  | 0 => d
  | j + 1 => .tuple [.str "draw", .tuple [.tuple [wD w, ringD w d j]]]
theorem ring_kid {w : Int × Int} {d : PyData} {j : Nat} {ts : List Kd} {k : Int} (h : rowsOk [.tuple [wD w, ringD w d j]] = true) : kids2 ⟨ringD w d (j + 1), ts, k⟩ = some ([], [⟨ringD w d j, ts, k⟩]) := by
  show (if rowsOk [.tuple [wD w, ringD w d j]] = true then some (([], [.tuple [wD w, ringD w d j]].map fun r => (⟨rowT r, ts, k⟩ : Cn)) : List Cn × List Cn) else none) = _
  rw [if_pos h]
  rfl
theorem ring_ok {w : Int × Int} {d : PyData} (h1 : (isWt (.tuple [.int w.1, .int w.2]) && decide (0 < w.1)) = true) (h2 : (tot [w]).1 ≤ (tot [w]).2) : rowsOk [.tuple [wD w, d]] = true := by
  show ((decide (1 ≤ 1) && decide (1 ≤ 6)) && (((isWt (.tuple [.int w.1, .int w.2]) && decide (0 < w.1)) && true) && decide ((tot [w]).1 ≤ (tot [w]).2))) = true
  rw [h1, decide_eq_true h2]
  rfl
/-- the parts of a ring -/
def RingI (w : Int × Int) (d : PyData) (I : Cn → Prop) : Cn → Prop := fun c => I c ∨ ∃ j, c.t = ringD w d (j + 1) ∧ I ⟨d, c.ts, c.k⟩
theorem ring_I {w : Int × Int} {d : PyData} {I : Cn → Prop} (hI : HsI I) (h : ∀ e, rowsOk [.tuple [wD w, e]] = true) : HsI (RingI w d I) := by
  refine ⟨fun c hc => ?_, fun c p hp hc q hq => ?_⟩
  · rcases hc with hc | ⟨j, e, _⟩
    · exact hI.hs c hc
    · rw [e]
      exact hs_str
  · rcases hc with hc | ⟨j, e, hd⟩
    · exact .inl (hI.kid c p hp hc q hq)
    · have e2 : c = ⟨ringD w d (j + 1), c.ts, c.k⟩ := by rw [← e]
      rw [e2, ring_kid (h _)] at hp
      cases hp
      have hq' : q = ⟨ringD w d j, c.ts, c.k⟩ := List.mem_singleton.mp hq
      rw [hq']
      cases j with
      | zero => exact .inl hd
      | succ j => exact .inr ⟨j, rfl, hd⟩
theorem ring_H {w : Int × Int} {d : PyData} {ts : List Kd} {k : Int} (h : ∀ e, rowsOk [.tuple [wD w, e]] = true) : ∀ j, Hh ⟨ringD w d j, ts, k⟩ = j + Hh ⟨d, ts, k⟩
  | 0 => by rw [Nat.zero_add]; rfl
  | j + 1 => by
    rw [H_some (ring_kid (h _)), List.nil_append, List.map_singleton]
    show 1 + max (Hh ⟨ringD w d j, ts, k⟩) 0 = _
    rw [ring_H h j]
    omega
theorem ring_N {w : Int × Int} {d : PyData} {ts : List Kd} {k : Int} (h : ∀ e, rowsOk [.tuple [wD w, e]] = true) : ∀ j, N ⟨ringD w d j, ts, k⟩ = j + N ⟨d, ts, k⟩
  | 0 => by rw [Nat.zero_add]; rfl
  | j + 1 => by
    rw [N_some (ring_kid (h _)), List.nil_append, List.map_singleton]
    show 1 + (N ⟨ringD w d j, ts, k⟩ + 0) = _
    rw [ring_N h j]
    omega
theorem ring_G {w : Int × Int} {d : PyData} {ts : List Kd} {k : Int} (h : ∀ e, rowsOk [.tuple [wD w, e]] = true) : ∀ j, G ⟨ringD w d j, ts, k⟩ = G ⟨d, ts, k⟩
  | 0 => rfl
  | j + 1 => by
    rw [G_some (ring_kid (h _))]
    show (true && (G ⟨ringD w d j, ts, k⟩ && true)) = _
    rw [ring_G h j, Bool.true_and, Bool.and_true]
theorem ring_sm {w : Int × Int} {d : PyData} (hw : sm (wD w) = true) (hd : sm d = true) : ∀ j, sm (ringD w d j) = true
  | 0 => hd
  | j + 1 => by
    show (true && (((sm (wD w) && (sm (ringD w d j) && true)) && true) && true)) = true
    rw [hw, ring_sm hw hd j]
    rfl
end Tk

namespace Tk
open PySem PySem.Spec PyProof.Rows L2
open Wt Kn Dc
abbrev sBadT : Stmt := Pre.top 55
abbrev nBadT : List Str := ["state", "kind", "tree", "wanted", "answer", "some", "inner", "many", "few", "ring", "lap", "one"]
theorem scBadT : FnScope nBadT ["state", "kind", "tree"] (defScope sBadT) := ⟨rfl, rfl, rfl, by decide +kernel, rfl, by decide +kernel, by decide +kernel⟩
section
variable {X : Cx} {e : Expr} {ds : List PyData} {R : List (Nat × PyData)} {i : Nat}
theorem er_len (h : PE X e (tCB (fun xs H Q => ∃ p ys, xs = [.ref p] ∧ (SqL X.K H p ys ∨ SqT X.K H p ys) ∧ Q (.int ys.length) H) (tCons (tVar i) tNil))) (m : (i, PyData.list ds) ∈ R) : PE X e (tER X.K R (.int ds.length)) :=
  pe_imp h fun σ H Q ⟨p, g, c, k⟩ => by
    obtain ⟨x, h1, h2⟩ := c.2 i _ m
    cases h2 with
    | lst q r =>
      have hl := dpAll_len r
      refine ⟨_, h1, _, _, rfl, .inl (wo_sub.seq q), ?_⟩
      rw [hl]
      exact k _ H (Same.refl _) (.int _)
theorem er_listOf (h : PE X e (tCB (fun xs H Q => ∃ p ys, xs = [.ref p] ∧ (SqL X.K H p ys ∨ SqT X.K H p ys) ∧ ∀ l, H l = none → Q (.ref l) (upd H l (.lst ys))) (tCons (tER X.K R (.tuple ds)) tNil))) : PE X e (tER X.K R (.list ds)) :=
  pe_imp h fun σ H Q ⟨p, g, c, k⟩ => ⟨p, g, c, fun x H1 s1 d1 => by
    cases d1 with
    | tup q r =>
      rename_i l0 xs
      refine ⟨_, _, rfl, .inr (sqT_same wo_sub q), fun l hl => ?_⟩
      have s2 := Pre.same_upd (o := .lst xs) hl
      exact k _ _ (s1.trans s2) (.lst (SqL.of ((c.1.same s1).new hl)) (dpAll_same (wo_mono s2) r))⟩
end
abbrev RB (d : PyData) (k : Int) (ws : List PyData) : List (Nat × PyData) := [(2, d), (4, .int k), (3, .list ws)]
abbrev RB1 (d : PyData) (few : PyData) (many : Int) : List (Nat × PyData) := [(2, d), (8, few), (7, .int many)]
section
variable {d few : PyData} {k many : Int} {ws : List PyData}
theorem mR0 : (2, d) ∈ RB d k ws := List.mem_cons_self ..
theorem mR1 : (4, PyData.int k) ∈ RB d k ws := List.mem_cons_of_mem _ (List.mem_cons_self ..)
theorem mR2 : (3, PyData.list ws) ∈ RB d k ws := List.mem_cons_of_mem _ (List.mem_cons_of_mem _ (List.mem_cons_self ..))
theorem mR10 : (2, d) ∈ RB1 d few many := List.mem_cons_self ..
theorem mR13 : (8, few) ∈ RB1 d few many := List.mem_cons_of_mem _ (List.mem_cons_self ..)
theorem mR14 : (7, PyData.int many) ∈ RB1 d few many := List.mem_cons_of_mem _ (List.mem_cons_of_mem _ (List.mem_cons_self ..))
end
def aZ : PyData := .tuple [.str "answer", .int 0]
def fewD (n : Nat) : PyData := .tuple (List.replicate n aZ)
def t2 (a b : Int) : PyData := .tuple [.int a, .int b]
def dB1 (k : Int) : List PyData := [.none, .int 5, .tuple [], .tuple [.str "answer"], .tuple [.str "answer", .int k], .tuple [.str "answer", .bool true], .list [.str "answer", .int 0], .tuple [.str "none", .int 0], .tuple [.str "draw", .tuple []]]
def dB2 (d : PyData) : List PyData := [.tuple [.str "draw", .tuple [.tuple [t2 1 2]]], .tuple [.str "draw", .tuple [.tuple [t2 2 3, d], .tuple [t2 1 2, d]]], .tuple [.str "draw", .tuple [.tuple [t2 0 1, d]]]]
def dB3 (d : PyData) (n : Nat) : List PyData := [.tuple [.str "draw", .list [.tuple [t2 1 2, d]]], .tuple [.str "draw", .tuple (List.replicate (7 : Int).toNat [.tuple [t2 1 7, d]]).flatten], .tuple [.str "ask", .int n, .tuple [], .tuple [d]]]
def dB4 (d : PyData) : List PyData := [.tuple [.str "draw", .tuple [.tuple [t2 2 4, d]]], .tuple [.str "draw", .tuple [.tuple [t2 (-1) 2, d], .tuple [t2 1 2, d]]], .tuple [.str "ask", .int (-1), .tuple [], .tuple [d]]]
def reps (d : PyData) (m : Int) : PyData := .tuple (List.replicate m.toNat [d]).flatten
def dB5 (d : PyData) (n : Nat) (m : Int) : List PyData := [.tuple [.str "ask", .int 0, fewD n, reps d (m + 1)], .tuple [.str "ask", .int 0, .tuple (List.replicate n aZ ++ [d]), reps d m]]
def dB6 (d : PyData) (n : Nat) (m : Int) : List PyData := [.tuple [.str "ask", .bool false, fewD n, reps d m], .tuple [.str "ask", .int 0, .list (List.replicate n aZ), reps d m]]
section
variable {ts : List Kd} {k : Int} {d : PyData}
theorem smt2 {a b : Int} (h1 : a.natAbs < 1048576) (h2 : b.natAbs < 1048576) : sm (t2 a b) = true := by
  show (decide (a.natAbs < 1048576) && (decide (b.natAbs < 1048576) && true)) = true
  rw [decide_eq_true h1, decide_eq_true h2]
  rfl
theorem sm2 {a b : PyData} (h1 : sm a = true) (h2 : sm b = true) : sm (.tuple [a, b]) = true := by
  show (sm a && (sm b && true)) = true
  rw [h1, h2]
  rfl
theorem no1 (hk1 : 1 ≤ k) (hk6 : k ≤ 6) : ∀ e ∈ dB1 k, NotTalk ts k e := by
  intro e he
  simp only [dB1, List.mem_cons, List.not_mem_nil, or_false] at he
  have nt : ∀ {e : PyData}, (∀ x y, e ≠ .tuple (x :: y)) → Hs e := fun h x y z => absurd z (h x y)
  rcases he with rfl | rfl | rfl | rfl | rfl | rfl | rfl | rfl | rfl
  · exact no_by rfl (nt fun x y z => by cases z) rfl
  · exact no_by rfl (nt fun x y z => by cases z) (by decide)
  · exact no_by rfl (nt fun x y z => by cases z) rfl
  · exact no_by rfl hs_str rfl
  · refine no_by ?_ hs_str ?_
    · show (if 0 ≤ k ∧ k < k then _ else none) = none
      rw [if_neg (by omega)]
    · show (true && (decide (k.natAbs < 1048576) && true)) = true
      rw [decide_eq_true (by omega)]
      rfl
  · exact no_by rfl hs_str rfl
  · exact no_by rfl (nt fun x y z => by cases z) rfl
  · exact no_by rfl hs_str (by decide)
  · exact no_draw (by decide +kernel) rfl
theorem no2 (hd : sm d = true) : ∀ e ∈ dB2 d, NotTalk ts k e := by
  intro e he
  simp only [dB2, List.mem_cons, List.not_mem_nil, or_false] at he
  rcases he with rfl | rfl | rfl
  · exact no_draw (by decide +kernel) (by decide +kernel)
  · refine no_draw ?_ ?_
    · have h : ((decide (1 ≤ 2) && decide (2 ≤ 6)) && (((isPosW (t2 2 3)) && ((isPosW (t2 1 2)) && true)) && decide ((tot [(2, 3), (1, 2)]).1 ≤ (tot [(2, 3), (1, 2)]).2))) = false := by decide +kernel
      exact h
    · show (sm (.tuple [t2 2 3, d]) && (sm (.tuple [t2 1 2, d]) && true)) = true
      rw [sm2 (smt2 (by decide) (by decide)) hd, sm2 (smt2 (by decide) (by decide)) hd]
      rfl
  · refine no_draw ?_ ?_
    · show ((decide (1 ≤ 1) && decide (1 ≤ 6)) && (((isPosW (t2 0 1)) && true) && leOne [.tuple [t2 0 1, d]])) = false
      rw [show isPosW (t2 0 1) = false by decide +kernel]
      rfl
    · show (sm (.tuple [t2 0 1, d]) && true) = true
      rw [sm2 (smt2 (by decide) (by decide)) hd]
      rfl
theorem no3 (hd : sm d = true) (hl : ts.length ≤ 100) : ∀ e ∈ dB3 d ts.length, NotTalk ts k e := by
  intro e he
  simp only [dB3, List.mem_cons, List.not_mem_nil, or_false] at he
  rcases he with rfl | rfl | rfl
  · refine no_by rfl hs_str ?_
    rfl
  · refine no_draw ?_ ?_
    · show ((decide (1 ≤ 7) && decide (7 ≤ 6)) && _) = false
      rfl
    · have e := sm2 (a := t2 1 7) (b := d) (smt2 (by decide) (by decide)) hd
      show (sm (.tuple [t2 1 7, d]) && (sm (.tuple [t2 1 7, d]) && (sm (.tuple [t2 1 7, d]) && (sm (.tuple [t2 1 7, d]) && (sm (.tuple [t2 1 7, d]) && (sm (.tuple [t2 1 7, d]) && (sm (.tuple [t2 1 7, d]) && true))))))) = true
      rw [e]
      rfl
  · refine no_ask ?_ ?_ rfl ?_
    · show (if (0 : Int) ≤ (ts.length : Int) then (match ts[((ts.length : Nat) : Int).toNat]? with
        | some a => askA ts k a [] [d]
        | none => none) else none) = none
      rw [if_pos (by omega), Int.toNat_natCast, List.getElem?_eq_none (Nat.le_refl _)]
    · exact decide_eq_true (by omega)
    · show (sm d && true) = true
      rw [hd]
      rfl
theorem no4 (hd : sm d = true) : ∀ e ∈ dB4 d, NotTalk ts k e := by
  intro e he
  simp only [dB4, List.mem_cons, List.not_mem_nil, or_false] at he
  rcases he with rfl | rfl | rfl
  · refine no_draw ?_ ?_
    · show ((decide (1 ≤ 1) && decide (1 ≤ 6)) && (((isPosW (t2 2 4)) && true) && leOne [.tuple [t2 2 4, d]])) = false
      rw [show isPosW (t2 2 4) = false by decide +kernel]
      rfl
    · show (sm (.tuple [t2 2 4, d]) && true) = true
      rw [sm2 (smt2 (by decide) (by decide)) hd]
      rfl
  · refine no_draw ?_ ?_
    · show ((decide (1 ≤ 2) && decide (2 ≤ 6)) && (((isPosW (t2 (-1) 2)) && (isPosW (t2 1 2) && true)) && leOne [.tuple [t2 (-1) 2, d], .tuple [t2 1 2, d]])) = false
      rw [show isPosW (t2 (-1) 2) = false by decide +kernel]
      rfl
    · show (sm (.tuple [t2 (-1) 2, d]) && (sm (.tuple [t2 1 2, d]) && true)) = true
      rw [sm2 (smt2 (by decide) (by decide)) hd, sm2 (smt2 (by decide) (by decide)) hd]
      rfl
  · refine no_ask ?_ (by decide) rfl ?_
    · rfl
    · show (sm d && true) = true
      rw [hd]
      rfl
theorem sm_rep {e : PyData} (h : sm e = true) (n : Nat) : smAll (List.replicate n e) = true := sm_all fun x hx => by rw [List.eq_of_mem_replicate hx]; exact h
theorem reps_eq {m : Int} : reps d m = .tuple (List.replicate m.toNat d) := by
  unfold reps
  congr 1
  generalize m.toNat = j
  induction j with
  | zero => rfl
  | succ j ih => rw [List.replicate_succ, List.flatten_cons, ih, List.replicate_succ]; rfl
theorem sm_reps (hd : sm d = true) (m : Int) : sm (reps d m) = true := by
  rw [reps_eq]
  exact sm_rep hd _
theorem no5 {a : Kd} (hd : sm d = true) (ha : ts[0]? = some a) (h1 : 1 ≤ a.ans) : ∀ e ∈ dB5 d a.args.length a.ans ++ dB6 d a.args.length a.ans, NotTalk ts k e := by
  intro e he
  have z : sm aZ = true := by decide
  have ask0 : ∀ hs rs, askK ts k (.int 0) (.tuple hs) (.tuple rs) = askA ts k a hs rs := fun hs rs => by
    show (if (0 : Int) ≤ 0 then (match ts[(0 : Int).toNat]? with
      | some a => askA ts k a hs rs
      | none => none) else none) = _
    rw [if_pos (by decide), show ts[(0 : Int).toNat]? = some a from ha]
  simp only [dB5, dB6, List.mem_cons, List.not_mem_nil, or_false, List.cons_append, List.nil_append] at he
  rcases he with rfl | rfl | rfl | rfl
  · refine no_ask ?_ (by decide) (sm_rep z _) (sm_reps hd _)
    rw [reps_eq]
    show askK ts k (.int 0) (.tuple _) _ = none
    rw [ask0]
    unfold askA
    rw [if_neg]
    rintro ⟨_, h⟩
    rw [List.length_replicate] at h
    omega
  · refine no_ask ?_ (by decide) (sm_all fun x hx => ?_) (sm_reps hd _)
    · rw [reps_eq, ask0]
      unfold askA
      rw [if_neg]
      rintro ⟨h, _⟩
      rw [List.length_append, List.length_replicate, List.length_singleton] at h
      omega
    · rcases List.mem_append.mp hx with q | q
      · rw [List.eq_of_mem_replicate q]; exact z
      · rw [List.mem_singleton.mp q]; exact hd
  · refine no_ask ?_ rfl (sm_rep z _) (sm_reps hd _)
    rfl
  · refine no_ask ?_ (by decide) rfl (sm_reps hd _)
    rw [reps_eq]
    rfl
theorem ring11 (e : PyData) : rowsOk [.tuple [wD (1, 1), e]] = true := ring_ok (by decide +kernel) (by decide +kernel)
theorem no6 (hd : sm d = true) (hh : hsB d = true) : NotTalk ts k (ringD (1, 1) d 101) := by
  refine ⟨⟨_, ring_I hsI_B ring11, .inr ⟨100, rfl, hh⟩⟩, ring_sm (by decide +kernel) hd 101, fun h => ?_⟩
  have h1 := (fin_all.mp h).2.2
  rw [ring_H ring11] at h1
  omega
end
end Tk

namespace Tk
open PySem PySem.Spec PyProof.Rows L2
open Wt Kn Dc
section
variable {P0 : Program} {w : World} {K : PySem.W.Frag} {mg : Str → Option Value} {base : Heap}
theorem nots_at {H : Hp} {vs : List V} {ds : List PyData} {ts : List Kd} {k : Int} {i : Nat} {x : V} (h : DpAll K H vs ds) (hn : ∀ e ∈ ds, NotTalk ts k e) (hx : vs[i]? = some x) : ∃ e, Dp K H x e ∧ NotTalk ts k e := by
  obtain ⟨e, he, hd⟩ := dpAll_at h hx
  exact ⟨e, hd, hn e (List.mem_of_getElem? he)⟩
/-- what is no talk of the kind -/
def spBadT (K : PySem.W.Frag) : Sp := fun vs H Q _ => ∃ (p g c : Addr) (n : Nat) (x y : V) (t : Kd) (d : PyData), vs = [.ref p, x, y] ∧ Pre.St H p g c n ∧ n < 2 ^ 38 ∧ Dp K H x t.dat ∧ t.good ∧ t.nums ≤ 8 ∧ Dp K H y d ∧ pl d = true ∧ Sh d ∧
  ∀ (v : V) (H' : Hp) (e : PyData), Pre.Kp p g H H' → Pre.St H' p g c (n + 1) → Dp K (wo p g H') v e → NotTalk t.args t.ans e → Q v H'
set_option maxHeartbeats 4000000 in
theorem ok_badT {f fD fP fB fW : Addr} {fd dD dP dB dW : FuncData} (F : Fun K "_law_tk_bad_talk" "_law_tk_bad_talk" sBadT f fd) (D : Drw K mg fD fP fB dD dP dB) (T : TxtW mg) (FW : Fun K "_law_cp_wanted" "_law_cp_wanted" sWanted fW dW) (mW : mg "_law_cp_wanted" = some (.ref fW)) : FnOk P0 w K mg base CX0 4 f fd ["state", "kind", "tree"] (spBadT K) := by
  have GP : FnOk P0 w K mg base CX0 3 fP dP ["state", "some"] (Pre.spPick K) := Pre.ok_pick D.FP D.T D.FD D.mD D.FB D.mB
  have GW : FnOk P0 w K mg base CX0 1 fW dW ["kind"] (spWanted K) := ok_wanted FW
  have bP := D.FP.binds (ps := ["state", "some"]) fun _ _ _ _ _ _ us hl => match us, hl with | [_, _], _ => rfl
  have bW := FW.binds (ps := ["kind"]) fun _ _ _ _ _ _ us hl => match us, hl with | [_], _ => rfl
  refine F.ok scBadT (fun vs H Q E h => ?_) (fun cdv A0 outer s H vs Q E hr h => ?_)
  · obtain ⟨p, g, c, n, x, y, t, d, rfl, _⟩ := h
    rfl
  · obtain ⟨p, g, c, n, x, y, t, d, rfl, hs, hn, hx, tg, tn, hy, hpl, hsh, kk⟩ := h
    have nd := scBadT.nd
    have hr3 : Room 3 _ := hr.mono (by decide)
    have hr1 : Room 1 _ := hr.mono (by decide)
    have smd := pl_sm d hpl
    have hhd : hsB d = true := sh_hs _ d (Nat.lt_succ_self _) hsh
    have hans := ans_good tg
    have taf := args_few t
    obtain ⟨a0, ha0, a0n⟩ : ∃ a0 : Kd, (t.args ≠ [] → t.args[0]? = some a0 ∧ a0.good) ∧ a0.args.length ≤ 8 ∧ 1 ≤ a0.ans ∧ a0.ans ≤ 6 := by
      cases e : t.args with
      | nil => exact ⟨.num 1, fun z => absurd rfl z, by decide, by decide, by decide⟩
      | cons a r =>
        have hm : a ∈ t.args := by rw [e]; exact List.mem_cons_self ..
        have := arg_nums hm
        have := args_few a
        have g := arg_good tg hm
        have := ans_good g
        exact ⟨a, fun _ => ⟨rfl, g⟩, by omega, this.1, this.2⟩
    obtain ⟨a0l, a0a, a0b⟩ := a0n
    apply Exists.intro
    apply And.intro
    · apply pss_cons
      · exact ps_asg (pe_call GW hr1 (by rfl) mW FW.kp bW .nil pass0 (pa_cons (pv 1) pa_nil)) (pg_tup (by rfl) (pgs_cons (pg_name (i := 3) nd rfl (Or.inl rfl)) (pgs_cons (pg_name (i := 4) nd rfl (Or.inl rfl)) pgs_nil)))
      apply pss_cons
      · exact ps_set (i := 5) nd rfl (Or.inl rfl) (show PE _ _ (tLR K (RB d t.ans (t.args.map Kd.dat)) (dB1 t.ans)) from pe_lstR (ers_cons er_non (ers_cons er_int (ers_cons (er_tup ers_nil (Nat.le_of_ble_eq_true rfl)) (ers_cons (er_tup (ers_cons er_str ers_nil) (Nat.le_of_ble_eq_true rfl)) (ers_cons (er_tup (ers_cons er_str (ers_cons (er_v (pv 4) mR1) ers_nil)) (Nat.le_of_ble_eq_true rfl)) (ers_cons (er_tup (ers_cons er_str (ers_cons er_bl ers_nil)) (Nat.le_of_ble_eq_true rfl)) (ers_cons (er_lst (ers_cons er_str (ers_cons er_int ers_nil)) (Nat.le_of_ble_eq_true rfl)) (ers_cons (er_tup (ers_cons er_str (ers_cons er_int ers_nil)) (Nat.le_of_ble_eq_true rfl)) (ers_cons (er_tup (ers_cons er_str (ers_cons (er_tup ers_nil (Nat.le_of_ble_eq_true rfl)) ers_nil)) (Nat.le_of_ble_eq_true rfl)) ers_nil))))))))) (Nat.le_of_ble_eq_true rfl))
      apply pss_cons
      · exact ps_set (i := 5) nd rfl (Or.inl rfl) (pe_op op_cat (pv 5) (show PE _ _ (tLR K (RB d t.ans (t.args.map Kd.dat)) (dB2 d)) from pe_lstR (ers_cons (er_tup (ers_cons er_str (ers_cons (er_tup (ers_cons (er_tup (ers_cons (er_tup (ers_cons er_int (ers_cons er_int ers_nil)) (Nat.le_of_ble_eq_true rfl)) ers_nil) (Nat.le_of_ble_eq_true rfl)) ers_nil) (Nat.le_of_ble_eq_true rfl)) ers_nil)) (Nat.le_of_ble_eq_true rfl)) (ers_cons (er_tup (ers_cons er_str (ers_cons (er_tup (ers_cons (er_tup (ers_cons (er_tup (ers_cons er_int (ers_cons er_int ers_nil)) (Nat.le_of_ble_eq_true rfl)) (ers_cons (er_v (pv 2) mR0) ers_nil)) (Nat.le_of_ble_eq_true rfl)) (ers_cons (er_tup (ers_cons (er_tup (ers_cons er_int (ers_cons er_int ers_nil)) (Nat.le_of_ble_eq_true rfl)) (ers_cons (er_v (pv 2) mR0) ers_nil)) (Nat.le_of_ble_eq_true rfl)) ers_nil)) (Nat.le_of_ble_eq_true rfl)) ers_nil)) (Nat.le_of_ble_eq_true rfl)) (ers_cons (er_tup (ers_cons er_str (ers_cons (er_tup (ers_cons (er_tup (ers_cons (er_tup (ers_cons er_int (ers_cons er_int ers_nil)) (Nat.le_of_ble_eq_true rfl)) (ers_cons (er_v (pv 2) mR0) ers_nil)) (Nat.le_of_ble_eq_true rfl)) ers_nil) (Nat.le_of_ble_eq_true rfl)) ers_nil)) (Nat.le_of_ble_eq_true rfl)) ers_nil))) (Nat.le_of_ble_eq_true rfl)))
      apply pss_cons
      · exact ps_set (i := 5) nd rfl (Or.inl rfl) (pe_op op_cat (pv 5) (show PE _ _ (tLR K (RB d t.ans (t.args.map Kd.dat)) (dB3 d (t.args.map Kd.dat).length)) from pe_lstR (ers_cons (er_tup (ers_cons er_str (ers_cons (er_lst (ers_cons (er_tup (ers_cons (er_tup (ers_cons er_int (ers_cons er_int ers_nil)) (Nat.le_of_ble_eq_true rfl)) (ers_cons (er_v (pv 2) mR0) ers_nil)) (Nat.le_of_ble_eq_true rfl)) ers_nil) (Nat.le_of_ble_eq_true rfl)) ers_nil)) (Nat.le_of_ble_eq_true rfl)) (ers_cons (er_tup (ers_cons er_str (ers_cons (er_rep (er_tup (ers_cons (er_tup (ers_cons (er_tup (ers_cons er_int (ers_cons er_int ers_nil)) (Nat.le_of_ble_eq_true rfl)) (ers_cons (er_v (pv 2) mR0) ers_nil)) (Nat.le_of_ble_eq_true rfl)) ers_nil) (Nat.le_of_ble_eq_true rfl)) er_int (by simp) (by decide) (by decide) (Nat.le_of_ble_eq_true rfl)) ers_nil)) (Nat.le_of_ble_eq_true rfl)) (ers_cons (er_tup (ers_cons er_str (ers_cons (er_len (pe_callB call_len_seq (by rfl) T.len PySem.boot_len (pa_cons (pv 3) pa_nil)) mR2) (ers_cons (er_tup ers_nil (Nat.le_of_ble_eq_true rfl)) (ers_cons (er_tup (ers_cons (er_v (pv 2) mR0) ers_nil) (Nat.le_of_ble_eq_true rfl)) ers_nil)))) (Nat.le_of_ble_eq_true rfl)) ers_nil))) (Nat.le_of_ble_eq_true rfl)))
      apply pss_cons
      · exact ps_set (i := 5) nd rfl (Or.inl rfl) (pe_op op_cat (pv 5) (show PE _ _ (tLR K (RB d t.ans (t.args.map Kd.dat)) (dB4 d)) from pe_lstR (ers_cons (er_tup (ers_cons er_str (ers_cons (er_tup (ers_cons (er_tup (ers_cons (er_tup (ers_cons er_int (ers_cons er_int ers_nil)) (Nat.le_of_ble_eq_true rfl)) (ers_cons (er_v (pv 2) mR0) ers_nil)) (Nat.le_of_ble_eq_true rfl)) ers_nil) (Nat.le_of_ble_eq_true rfl)) ers_nil)) (Nat.le_of_ble_eq_true rfl)) (ers_cons (er_tup (ers_cons er_str (ers_cons (er_tup (ers_cons (er_tup (ers_cons (er_tup (ers_cons er_neg (ers_cons er_int ers_nil)) (Nat.le_of_ble_eq_true rfl)) (ers_cons (er_v (pv 2) mR0) ers_nil)) (Nat.le_of_ble_eq_true rfl)) (ers_cons (er_tup (ers_cons (er_tup (ers_cons er_int (ers_cons er_int ers_nil)) (Nat.le_of_ble_eq_true rfl)) (ers_cons (er_v (pv 2) mR0) ers_nil)) (Nat.le_of_ble_eq_true rfl)) ers_nil)) (Nat.le_of_ble_eq_true rfl)) ers_nil)) (Nat.le_of_ble_eq_true rfl)) (ers_cons (er_tup (ers_cons er_str (ers_cons er_neg (ers_cons (er_tup ers_nil (Nat.le_of_ble_eq_true rfl)) (ers_cons (er_tup (ers_cons (er_v (pv 2) mR0) ers_nil) (Nat.le_of_ble_eq_true rfl)) ers_nil)))) (Nat.le_of_ble_eq_true rfl)) ers_nil))) (Nat.le_of_ble_eq_true rfl)))
      apply pss_cons
      · exact ps_if (pt_cmpR (op_neD hr.units) (pv 3) (pe_lst pa_nil) (nomark _))
          (pss_cons (ps_asg (pe_call GW hr1 (by rfl) mW FW.kp bW .nil pass0 (pa_cons (pe_ix ix_list (pv 3) pe_int (fun _ _ => rfl)) pa_nil)) (pg_tup (by rfl) (pgs_cons (pg_name (i := 6) nd rfl (Or.inl rfl)) (pgs_cons (pg_name (i := 7) nd rfl (Or.inl rfl)) pgs_nil))))
          (pss_cons (ps_set (i := 8) nd rfl (Or.inl rfl) (pe_callTy call_tuple_of (by rfl) T.tuple (by decide +kernel) (pa_cons
            (pe_lc (own := [("one", 11)]) (g := gName 11) (tt := tYes) rfl nd (pi_list (pv 6)) (blkOk_by (own := [("one", 11)]) (N := nBadT) (sc := defScope sBadT) (by decide +kernel)) (fun _ _ _ _ _ => pg_name (i := 11) nd rfl (Or.inl rfl)) (fun _ _ _ _ _ => pts_nil)
              (fun _ _ _ _ _ => pe_tup (pa_cons pe_str (pa_cons pe_int pa_nil)))) pa_nil)))
          (pss_cons (ps_set (i := 5) nd rfl (Or.inl rfl) (pe_op op_cat (pv 5) (show PE _ _ (tLR K (RB1 d (fewD a0.args.length) a0.ans) (dB5 d a0.args.length a0.ans)) from pe_lstR (ers_cons (er_tup (ers_cons er_str (ers_cons er_int (ers_cons (er_v (pv 8) mR13) (ers_cons (er_rep (er_tup (ers_cons (er_v (pv 2) mR10) ers_nil) (Nat.le_of_ble_eq_true rfl)) (er_add (er_v (pv 7) mR14) er_int) (by simp) (by omega) (by omega) (Nat.le_of_ble_eq_true rfl)) ers_nil)))) (Nat.le_of_ble_eq_true rfl)) (ers_cons (er_tup (ers_cons er_str (ers_cons er_int (ers_cons (er_cat (er_v (pv 8) mR13) (er_tup (ers_cons (er_v (pv 2) mR10) ers_nil) (Nat.le_of_ble_eq_true rfl)) (by rw [List.length_replicate]; show _ + 1 ≤ 1000; omega)) (ers_cons (er_rep (er_tup (ers_cons (er_v (pv 2) mR10) ers_nil) (Nat.le_of_ble_eq_true rfl)) (er_v (pv 7) mR14) (by simp) (by omega) (by omega) (Nat.le_of_ble_eq_true rfl)) ers_nil)))) (Nat.le_of_ble_eq_true rfl)) ers_nil)) (Nat.le_of_ble_eq_true rfl))))
          (pss_one (ps_set (i := 5) nd rfl (Or.inl rfl) (pe_op op_cat (pv 5) (show PE _ _ (tLR K (RB1 d (fewD a0.args.length) a0.ans) (dB6 d a0.args.length a0.ans)) from pe_lstR (ers_cons (er_tup (ers_cons er_str (ers_cons er_bl (ers_cons (er_v (pv 8) mR13) (ers_cons (er_rep (er_tup (ers_cons (er_v (pv 2) mR10) ers_nil) (Nat.le_of_ble_eq_true rfl)) (er_v (pv 7) mR14) (by simp) (by omega) (by omega) (Nat.le_of_ble_eq_true rfl)) ers_nil)))) (Nat.le_of_ble_eq_true rfl)) (ers_cons (er_tup (ers_cons er_str (ers_cons er_int (ers_cons (er_listOf (pe_callTy call_list_of (by rfl) T.list (by decide +kernel) (pa_cons (er_v (pv 8) mR13) pa_nil))) (ers_cons (er_rep (er_tup (ers_cons (er_v (pv 2) mR10) ers_nil) (Nat.le_of_ble_eq_true rfl)) (er_v (pv 7) mR14) (by simp) (by omega) (by omega) (Nat.le_of_ble_eq_true rfl)) ers_nil)))) (Nat.le_of_ble_eq_true rfl)) ers_nil)) (Nat.le_of_ble_eq_true rfl)))))))) pss_nil
      apply pss_cons
      · exact ps_set (i := 9) nd rfl (Or.inl rfl) (pv 2)
      apply pss_cons
      · exact ps_for PassesOwn.never rfl (pi_range1 (by rfl) D.zg (pa_cons pe_int pa_nil)) (pg_name (i := 10) nd rfl (Or.inl rfl))
          (pss_one (ps_set (i := 9) nd rfl (Or.inl rfl) (pe_tup (pa_cons pe_str (pa_cons (pe_tup (pa_cons (pe_tup (pa_cons (pe_tup (pa_cons pe_int (pa_cons pe_int pa_nil))) (pa_cons (pv 9) pa_nil))) pa_nil)) pa_nil)))))
      exact pss_one (ps_ret (pe_call GP hr3 (by rfl) D.mP D.FP.kp bP .nil pass0 (pa_cons (pv 0) (pa_cons (pe_op op_cat (pv 5) (pe_lst (pa_cons (pv 9) pa_nil))) pa_nil))))
    refine ⟨_, rfl, x, t, rfl, hx, by omega, fun q Wl ws H1 s1 hq hWn hWl hws => ?_⟩
    refine ⟨q, _, rfl, hq, rfl, _, _, rfl, _, _, rfl, rfl, ?_⟩
    have gA : ∀ u ∈ t.args, u.good := fun u hu => arg_good tg hu
    have plA := pl_dats gA
    have st1 := st_same hs s1
    have nW := st_new hs hWn
    have crB : ∀ {H' : Hp} {o5 o6 o7 o8 o9 o10 o11 : Option V}, Same H1 H' → CR K p g (RB d t.ans (t.args.map Kd.dat)) [some (.ref p), some x, some y, some (.ref Wl), some (.int t.ans), o5, o6, o7, o8, o9, o10, o11] H' := fun {H' _ _ _ _ _ _ _} s => by
      have st' := st_same st1 s
      refine ⟨Av.st st', fun i e m => ?_⟩
      rcases List.mem_cons.mp m with z | m
      · cases z
        exact ⟨_, rfl, dp_plW st' hpl (dp_same (s1.trans s) hy)⟩
      rcases List.mem_cons.mp m with z | m
      · cases z
        exact ⟨_, rfl, .int _⟩
      · cases List.mem_singleton.mp m
        refine ⟨_, rfl, .lst (SqL.of (wo_at nW.1 nW.2 (s _ _ hWl))) ?_⟩
        have pt : pl (.tuple (t.args.map Kd.dat)) = true := plA
        refine dpAll_ts (H := H') (H' := wo p g H') (fun b o no e => ?_) plA (dpAll_same (s1.trans s) hws)
        obtain ⟨⟨gs, cs, r, t', q1, q2, q3, q4⟩, h8⟩ := st'
        refine wo_at (fun z => ?_) (fun z => ?_) e
        · rw [z, q1] at e
          cases e
          exact no (noTup_dK _)
        · rw [z, q2] at e
          cases e
          exact no (noTup_lst _)
    have hlw : (t.args.map Kd.dat).length = t.args.length := List.length_map ..
    refine ⟨p, g, crB (Same.refl _), fun l1 v1 H2 s2 hn2 hl2 dv1 => ?_⟩
    have e1 : v1.length = 9 := dpAll_len dv1
    refine ⟨_, rfl, p, g, crB s2, fun l2 v2 H3 s3 hn3 hl3 dv2 => ?_⟩
    have e2 : v2.length = 3 := dpAll_len dv2
    refine ⟨l1, l2, _, _, rfl, rfl, s3 _ _ hl2, hl3, by rw [e1, e2]; decide, fun l3 hl3n => ?_⟩
    have s4 := Pre.same_upd (o := .lst (v1 ++ v2)) hl3n
    have hl4 : upd H3 l3 (.lst (v1 ++ v2)) l3 = some (.lst (v1 ++ v2)) := upd_same
    have dv12 : DpAll K (wo p g (upd H3 l3 (.lst (v1 ++ v2)))) (v1 ++ v2) (dB1 t.ans ++ dB2 d) := dpAll_app (dpAll_same (wo_mono (s3.trans s4)) dv1) (dpAll_same (wo_mono s4) dv2)
    have s14 := s2.trans (s3.trans s4)
    generalize upd H3 l3 (.lst (v1 ++ v2)) = H4 at s4 hl4 dv12 s14
    refine ⟨_, rfl, p, g, crB s14, fun l5 v5 H5 s5 hn5 hl5 dv5 => ?_⟩
    have e5 : v5.length = 3 := dpAll_len dv5
    refine ⟨l3, l5, _, _, rfl, rfl, s5 _ _ hl4, hl5, by rw [List.length_append, e1, e2, e5]; decide, fun l6 hl6n => ?_⟩
    have s6 := Pre.same_upd (o := .lst (v1 ++ v2 ++ v5)) hl6n
    have hl6 : upd H5 l6 (.lst (v1 ++ v2 ++ v5)) l6 = some (.lst (v1 ++ v2 ++ v5)) := upd_same
    have dv125 : DpAll K (wo p g (upd H5 l6 (.lst (v1 ++ v2 ++ v5)))) (v1 ++ v2 ++ v5) (dB1 t.ans ++ dB2 d ++ dB3 d (t.args.map Kd.dat).length) := dpAll_app (dpAll_same (wo_mono (s5.trans s6)) dv12) (dpAll_same (wo_mono s6) dv5)
    have s16 := s14.trans (s5.trans s6)
    generalize upd H5 l6 (.lst (v1 ++ v2 ++ v5)) = H6 at s6 hl6 dv125 s16
    refine ⟨_, rfl, p, g, crB s16, fun l7 v7 H7 s7 hn7 hl7 dv7 => ?_⟩
    have e7 : v7.length = 3 := dpAll_len dv7
    refine ⟨l6, l7, _, _, rfl, rfl, s7 _ _ hl6, hl7, by rw [List.length_append, List.length_append, e1, e2, e5, e7]; decide, fun l8 hl8n => ?_⟩
    have s8 := Pre.same_upd (o := .lst (v1 ++ v2 ++ v5 ++ v7)) hl8n
    have hl8 : upd H7 l8 (.lst (v1 ++ v2 ++ v5 ++ v7)) l8 = some (.lst (v1 ++ v2 ++ v5 ++ v7)) := upd_same
    have dvA : DpAll K (wo p g (upd H7 l8 (.lst (v1 ++ v2 ++ v5 ++ v7)))) (v1 ++ v2 ++ v5 ++ v7) (dB1 t.ans ++ dB2 d ++ dB3 d (t.args.map Kd.dat).length ++ dB4 d) := dpAll_app (dpAll_same (wo_mono (s7.trans s8)) dv125) (dpAll_same (wo_mono s8) dv7)
    have s18 := s16.trans (s7.trans s8)
    generalize upd H7 l8 (.lst (v1 ++ v2 ++ v5 ++ v7)) = H8 at s8 hl8 dvA s18
    have lA : (v1 ++ v2 ++ v5 ++ v7).length = 18 := by rw [List.length_append, List.length_append, List.length_append, e1, e2, e5, e7]
    have noA : ∀ e ∈ dB1 t.ans ++ dB2 d ++ dB3 d (t.args.map Kd.dat).length ++ dB4 d, NotTalk t.args t.ans e := fun e he => by
      rw [hlw] at he
      rcases List.mem_append.mp he with he | he
      · rcases List.mem_append.mp he with he | he
        · rcases List.mem_append.mp he with he | he
          · exact no1 hans.1 hans.2 e he
          · exact no2 smd e he
        · exact no3 smd (by omega) e he
      · exact no4 smd e he
    generalize v1 ++ v2 ++ v5 ++ v7 = vA at hl8 dvA lA
    generalize dB1 t.ans ++ dB2 d ++ dB3 d (t.args.map Kd.dat).length ++ dB4 d = dA at dvA noA
    have st8 := st_same st1 s18
    refine go_name (go_nx (go_cut (fun σ' H' => ∃ (l : Addr) (vs : List V) (es : List PyData) (o6 o7 o8 o11 : Option V), σ' = [some (.ref p), some x, some y, some (.ref Wl), some (.int t.ans), some (.ref l), o6, o7, o8, none, none, o11] ∧ Same H8 H' ∧ H' l = some (.lst vs) ∧ DpAll K (wo p g H') vs es ∧ vs.length ≤ 30 ∧ ∀ e ∈ es, NotTalk t.args t.ans e) ?_ (fun nx' hn' => ?_)))
    · rintro σ' H9 ⟨l, vs, es, o6, o7, o8, o11, rfl, s9, hl9, dv9, hvl, hno⟩
      refine ⟨_, rfl, 101, rfl, by decide, by decide, for_range (n := 101) (fun i σ H' => ∃ (v : V) (o10 : Option V), σ = [some (.ref p), some x, some y, some (.ref Wl), some (.int t.ans), some (.ref l), o6, o7, o8, some v, o10, o11] ∧ Same H9 H' ∧ Dp K (wo p g H') v (ringD (1, 1) d i))
        ⟨y, none, rfl, Same.refl _, dp_plW (st_same st8 s9) hpl (dp_same (s1.trans (s18.trans s9)) hy)⟩ ?_ ?_⟩
      · rintro i σ H10 hi ⟨v, o10, rfl, s10, hv⟩
        have st10 := st_same (st_same st8 s9) s10
        refine ⟨by show 2 ≤ sizeLine; decide, fun q1 hq1 => ⟨_, rfl, by show 2 ≤ sizeLine; decide, fun q2 hq2 => ⟨by show 1 ≤ sizeLine; decide, fun q3 hq3 => ⟨by show 2 ≤ sizeLine; decide, fun q4 hq4 => ?_⟩⟩⟩⟩
        have z1 := Pre.same_upd (o := .tup [.int 1, .int 1]) hq1
        have z2 := Pre.same_upd (o := .tup [.ref q1, v]) hq2
        have z3 := Pre.same_upd (o := .tup [.ref q2]) hq3
        have z4 := Pre.same_upd (o := .tup [.str "draw", .ref q3]) hq4
        have av := Av.st st10
        have a1 := SqT.of (K := K) (av.new (o := .tup [.int 1, .int 1]) hq1)
        have a2 := SqT.of (K := K) ((av.same z1).new (o := .tup [.ref q1, v]) hq2)
        have a3 := SqT.of (K := K) (((av.same z1).same z2).new (o := .tup [.ref q2]) hq3)
        have a4 := SqT.of (K := K) ((((av.same z1).same z2).same z3).new (o := .tup [.str "draw", .ref q3]) hq4)
        exact ⟨_, _, rfl, s10.trans (z1.trans (z2.trans (z3.trans z4))), .tup a4 (.cons (.str _) (.cons (.tup (sqT_same (wo_mono z4) a3) (.cons (.tup (sqT_same (wo_mono (z3.trans z4)) a2) (.cons (.tup (sqT_same (wo_mono (z2.trans (z3.trans z4))) a1) (.cons (.int _) (.cons (.int _) .nil))) (.cons (dp_same (wo_mono (z1.trans (z2.trans (z3.trans z4)))) hv) .nil))) .nil)) .nil))⟩
      · rintro σ H10 ⟨v, o10, rfl, s10, hv⟩
        refine ⟨_, rfl, _, rfl, _, rfl, by show 1 ≤ sizeLine; decide, fun r1 hr1' => ?_⟩
        have z1 := Pre.same_upd (o := .lst [v]) hr1'
        have line : 100 < sizeLine := by decide
        refine ⟨l, r1, _, _, rfl, rfl, z1 _ _ (s10 _ _ hl9), upd_same, by show vs.length + 1 ≤ sizeLine; omega, fun r2 hr2' => ?_⟩
        have z2 := Pre.same_upd (o := .lst (vs ++ [v])) hr2'
        have st11 := st_same (st_same (st_same st8 s9) s10) (z1.trans z2)
        have n2 := st_new (st_same (st_same (st_same st8 s9) s10) z1) hr2'
        refine ⟨p, g, c, n, r2, _, rfl, st11, by omega, upd_same, n2.2, by rw [List.length_append]; exact Nat.succ_pos _, by rw [List.length_append]; show vs.length + 1 ≤ 1000; omega, fun H12 i v12 k12 st12 hi hv12 => ?_⟩
        have kp12 : Pre.Kp p g H H12 := (Pre.Kp.of (s1.trans (s18.trans (s9.trans (s10.trans (z1.trans z2)))))).trans k12
        have dall := dpAll_app (dpAll_same (wo_mono (s10.trans (z1.trans z2))) dv9) (DpAll.cons (dp_same (wo_mono (z1.trans z2)) hv) DpAll.nil)
        obtain ⟨e, he1, he2⟩ := nots_at dall (fun e he => by
          rcases List.mem_append.mp he with z | z
          · exact hno e z
          · rw [List.mem_singleton.mp z]; exact no6 smd hhd) hv12
        exact kk v12 H12 e kp12 st12 (dp_same (wo_kp k12) he1) he2
    · refine ⟨_, rfl, by show 0 ≤ sizeLine; decide, fun l0 hl0 => ?_⟩
      have z1 := Pre.same_upd (o := .lst []) hl0
      have okW : Ok 9 (.list (t.args.map Kd.dat)) := ok_lstD fun e he => by
        obtain ⟨u, hu, rfl⟩ := List.mem_map.mp he
        have := arg_nums hu
        exact ⟨can_dat u, Nat.le_trans (dep_dat u) (by omega)⟩
      refine ⟨.list (t.args.map Kd.dat), .list [], .lst (SqL.of (z1 _ _ (s18 _ _ hWl))) (dpAll_same (s1.trans (s18.trans z1)) hws), .lst (SqL.of upd_same) .nil, ok_sh okW (by decide), by decide +kernel, _, rfl, ?_⟩
      have hl8' := z1 _ _ hl8
      have hWl' := z1 _ _ (s18 _ _ hWl)
      have dvA' := dpAll_same (wo_mono z1) dvA
      have hws' := dpAll_same (s1.trans (s18.trans z1)) hws
      have st9 := st_same st8 z1
      have hy9 := dp_same (s1.trans (s18.trans z1)) hy
      generalize upd H8 l0 (.lst []) = H9 at z1 hl8' hWl' dvA' hws' st9 hy9
      rw [eqv_nilL]
      by_cases hne : t.args = []
      · have e : (t.args.map Kd.dat).isEmpty = true := by rw [hne]; rfl
        rw [e]
        exact iteF (hn' _ _ ⟨l8, vA, dA, none, none, none, none, rfl, z1, hl8', dvA', by omega, noA⟩)
      · obtain ⟨ha, hag⟩ := ha0 hne
        have e : (t.args.map Kd.dat).isEmpty = false := by
          cases h : t.args with
          | nil => exact absurd h hne
          | cons _ _ => rfl
        rw [e]
        have hwl : ws.length = t.args.length := by
          have := dpAll_len hws
          rwa [hlw] at this
        have h0l : 0 < t.args.length := List.length_pos_iff.mpr hne
        obtain ⟨x0, hx0⟩ : ∃ x0, ws[0]? = some x0 := ⟨ws[0], List.getElem?_eq_getElem (by omega)⟩
        obtain ⟨dx, hdx, hDx⟩ := dpAll_at hws' hx0
        rw [List.getElem?_map, ha] at hdx
        cases hdx
        have a0n := arg_nums (List.mem_of_getElem? ha)
        refine iteT ⟨_, rfl, Wl, ws, _, x0, rfl, rfl, SqL.of hWl', atI_nat (j := 0) hx0, x0, a0, rfl, hDx, by omega, fun q2 I2 zs H10 z2 hq2 hIn hI2 hzs => ?_⟩
        refine ⟨q2, _, rfl, hq2, rfl, _, _, rfl, _, _, rfl, rfl, ?_⟩
        have hzl : zs.length = a0.args.length := by
          have := dpAll_len hzs
          rwa [List.length_map] at this
        refine ⟨_, rfl, I2, rfl, ⟨_, SqL.of hI2⟩, fun Dl hDl => lc_list (K := K) (a := I2) (xs := zs) (fun i H' => Same H10 H' ∧ ∃ acc, H' Dl = some (.lst acc) ∧ acc.length = i ∧ DpAll K H' acc (List.replicate i aZ))
          ⟨Pre.same_upd hDl, [], upd_same, rfl, .nil⟩ (fun i H' _ ⟨z3, _⟩ => SqL.of (z3 _ _ hI2)) ?_ ?_⟩
        · rintro i xi H11 hxi ⟨z3, acc, hacc, hal, hdA⟩
          have hil := (List.getElem?_eq_some_iff.mp hxi).1
          have line : 100 < sizeLine := by decide
          refine ⟨rfl, by show 2 ≤ sizeLine; decide, fun q hq => ?_⟩
          have z4 := Pre.same_upd (o := .tup [.str "answer", .int 0]) hq
          have hacc' := z4 _ _ hacc
          have hnew : Dp K (upd H11 q (.tup [.str "answer", .int 0])) (.ref q) aZ := .tup (SqT.of upd_same) (.cons (.str _) (.cons (.int _) .nil))
          have hdA' := dpAll_same z4 hdA
          generalize upd H11 q (.tup [.str "answer", .int 0]) = H12 at z4 hacc' hnew hdA'
          have tsu : TupS H12 (upd H12 Dl (.lst (acc ++ [.ref q]))) := TupS.upd hacc' (noTup_lst _)
          have plz : pl aZ = true := by decide +kernel
          refine ⟨acc, hacc', by omega, fun b o e => by rw [upd_ne (ne_of_none e hDl)]; exact z4 _ _ (z3 _ _ e), acc ++ [.ref q], upd_same, by rw [List.length_append, hal]; rfl, ?_⟩
          rw [List.replicate_succ']
          exact dpAll_snoc (dpAll_ts tsu (pl_all fun e he => by rw [List.eq_of_mem_replicate he]; exact plz) hdA') (dp_ts tsu plz hnew)
        · rintro H11 ⟨z3, us, hus, hul, hdU⟩
          rw [hzl] at hdU hul
          refine ⟨Dl, us, rfl, .inl ⟨SqL.of hus, fun f hf => ?_⟩⟩
          have z5 := Pre.same_upd (o := .tup us) hf
          have z95 := z2.trans (z3.trans z5)
          have hfd : Dp K (upd H11 f (.tup us)) (.ref f) (fewD a0.args.length) := .tup (SqT.of upd_same) (dpAll_same z5 hdU)
          have hl12 := z95 _ _ hl8'
          have dv12 := dpAll_same (wo_mono z95) dvA'
          have st12 := st_same st9 z95
          have hy12 := dp_same z95 hy9
          generalize upd H11 f (.tup us) = H12 at z5 z95 hfd hl12 dv12 st12 hy12
          have plF : pl (fewD a0.args.length) = true := pl_all fun e he => by
            rw [List.eq_of_mem_replicate he]
            decide +kernel
          have cr1 : ∀ {H' : Hp} {o5 : Option V}, Same H12 H' → CR K p g (RB1 d (fewD a0.args.length) a0.ans) [some (.ref p), some x, some y, some (.ref Wl), some (.int t.ans), o5, some (.ref I2), some (.int a0.ans), some (.ref f), none, none, none] H' := fun {H' _} z => by
            have st' := st_same st12 z
            refine ⟨Av.st st', fun i e m => ?_⟩
            rcases List.mem_cons.mp m with z' | m
            · cases z'
              exact ⟨_, rfl, dp_plW st' hpl (dp_same z hy12)⟩
            rcases List.mem_cons.mp m with z' | m
            · cases z'
              exact ⟨_, rfl, dp_plW st' plF (dp_same z hfd)⟩
            · cases List.mem_singleton.mp m
              exact ⟨_, rfl, .int _⟩
          refine ⟨_, rfl, p, g, cr1 (Same.refl _), fun l9 v9 H13 z6 hn13 hl13 dv9 => ?_⟩
          have e9 : v9.length = 2 := dpAll_len dv9
          refine ⟨l8, l9, _, _, rfl, rfl, z6 _ _ hl12, hl13, by rw [lA, e9]; decide, fun l10 hl10 => ?_⟩
          have z7 := Pre.same_upd (o := .lst (vA ++ v9)) hl10
          have hl14 : upd H13 l10 (.lst (vA ++ v9)) l10 = some (.lst (vA ++ v9)) := upd_same
          have dv14 := dpAll_app (dpAll_same (wo_mono (z6.trans z7)) dv12) (dpAll_same (wo_mono z7) dv9)
          have z67 := z6.trans z7
          generalize upd H13 l10 (.lst (vA ++ v9)) = H14 at z7 hl14 dv14 z67
          refine ⟨_, rfl, p, g, cr1 z67, fun l11 v11 H15 z8 hn15 hl15 dv11 => ?_⟩
          have e11 : v11.length = 2 := dpAll_len dv11
          refine ⟨l10, l11, _, _, rfl, rfl, z8 _ _ hl14, hl15, by rw [List.length_append, lA, e9, e11]; decide, fun l12 hl12' => ?_⟩
          have z9 := Pre.same_upd (o := .lst (vA ++ v9 ++ v11)) hl12'
          have dvF := dpAll_app (dpAll_same (wo_mono (z8.trans z9)) dv14) (dpAll_same (wo_mono z9) dv11)
          refine hn' _ _ ⟨l12, vA ++ v9 ++ v11, _, _, _, _, _, rfl, z1.trans (z95.trans (z67.trans (z8.trans z9))), upd_same, dvF, by rw [List.length_append, List.length_append, lA, e9, e11]; decide, fun e he => ?_⟩
          rcases List.mem_append.mp he with he | he
          · rcases List.mem_append.mp he with he | he
            · exact noA e he
            · exact no5 smd ha a0a e (List.mem_append_left _ he)
          · exact no5 smd ha a0a e (List.mem_append_right _ he)
end
end Tk

namespace Tk
open PySem PySem.Spec PyProof.Rows L2
open Wt Kn Dc
abbrev sWholeL : Stmt := Pre.top 57
abbrev sChanceK : Stmt := Pre.top 58
theorem low_self {a b : Int} (hb : 0 < b) : ((low a b).1 == a && ((low a b).2 == b && true)) = (gI a b == 1) := by
  have hg := gI_pos (t := a) (b := b) (by omega)
  have e : low a b = (a / gI a b, b / gI a b) := by simp only [low, if_neg (show ¬ b < 0 by omega)]
  rw [e]
  by_cases h : gI a b = 1
  · rw [h]
    simp
  · have hne : b / gI a b ≠ b := fun z => by
      obtain ⟨q, hq⟩ := gI_r a b
      have hq' : b / gI a b = q := Int.ediv_eq_of_eq_mul_right (by omega) hq
      rw [hq'] at z
      subst z
      have : gI a q * q = 1 * q := by rw [Int.one_mul]; exact hq.symm
      exact h (Int.eq_of_mul_eq_mul_right (by omega) this)
    have h1 : (b / gI a b == b) = false := beq_eq_false_iff_ne.mpr hne
    have h2 : (gI a b == 1) = false := beq_eq_false_iff_ne.mpr h
    show (a / gI a b == a && (b / gI a b == b && true)) = (gI a b == 1)
    rw [h1, h2]
    simp
section
variable {P0 : Program} {w : World} {K : PySem.W.Frag} {mg : Str → Option Value} {base : Heap}
theorem scWholeL : FnScope ["thing"] ["thing"] (defScope sWholeL) := ⟨rfl, rfl, rfl, by decide +kernel, rfl, by decide +kernel, by decide +kernel⟩
theorem ok_wholeL {f : Addr} {fd : FuncData} (F : Fun K "_law_k24_whole" "_law_k24_whole" sWholeL f fd) (T : TxtW mg) : FnOk P0 w K mg base CX0 1 f fd ["thing"] (spWhole K) := by
  refine F.ok scWholeL (fun vs H Q E h => ?_) (fun cdv A outer s H vs Q E hr h => ?_)
  · obtain ⟨x, d, rfl, _⟩ := h
    rfl
  · obtain ⟨x, d, rfl, hd, k⟩ := h
    refine ⟨_, pss_one (ps_ret (pe_and (pe_callB call_isi (by rfl) T.isi (by decide +kernel) (pa_cons (pv 0) (pa_cons (pe_bltn (v := .ty "int") (by rfl) T.int (by decide +kernel) rfl) pa_nil)))
      (pe_one (pe_not (pe_callB call_isi (by rfl) T.isi (by decide +kernel) (pa_cons (pv 0) (pa_cons (pe_bltn (v := .ty "bool") (by rfl) T.bool (by decide +kernel) rfl) pa_nil))))))), ?_⟩
    have ty := ty_of hd
    cases d with
    | int i => exact ⟨_, rfl, x, _, _, _, true, rfl, .ty _, ty, kit_ty (a := "int") (b := "int") (by decide +kernel), true, rfl, iteT ⟨_, rfl, x, _, _, _, false, rfl, .ty _, ty, kit_ty (a := "int") (b := "bool") (by decide +kernel), false, rfl, k⟩⟩
    | bool b => exact ⟨_, rfl, x, _, _, _, true, rfl, .ty _, ty, kit_ty (a := "bool") (b := "int") (by decide +kernel), true, rfl, iteT ⟨_, rfl, x, _, _, _, true, rfl, .ty _, ty, kit_ty (a := "bool") (b := "bool") (by decide +kernel), true, rfl, k⟩⟩
    | none => exact ⟨_, rfl, x, _, _, _, false, rfl, .ty _, ty, kit_ty (a := "NoneType") (b := "int") (by decide +kernel), false, rfl, iteF k⟩
    | str z => exact ⟨_, rfl, x, _, _, _, false, rfl, .ty _, ty, kit_ty (a := "str") (b := "int") (by decide +kernel), false, rfl, iteF k⟩
    | list z => exact ⟨_, rfl, x, _, _, _, false, rfl, .ty _, ty, kit_ty (a := "list") (b := "int") (by decide +kernel), false, rfl, iteF k⟩
    | tuple z => exact ⟨_, rfl, x, _, _, _, false, rfl, .ty _, ty, kit_ty (a := "tuple") (b := "int") (by decide +kernel), false, rfl, iteF k⟩
    | dict z => exact ⟨_, rfl, x, _, _, _, false, rfl, .ty _, ty, kit_ty (a := "dict") (b := "int") (by decide +kernel), false, rfl, iteF k⟩
def spChK (K : PySem.W.Frag) : Sp := fun vs H Q _ => ∃ x d, vs = [x] ∧ Dp K H x d ∧ sm d = true ∧ ∀ H', Same H H' → Q (.bl (isPosW d)) H'
theorem scChanceK : FnScope ["thing"] ["thing"] (defScope sChanceK) := ⟨rfl, rfl, rfl, by decide +kernel, rfl, by decide +kernel, by decide +kernel⟩
theorem isPosW_inv {d : PyData} (h : isPosW d = true) : ∃ a b, d = .tuple [.int a, .int b] := by
  unfold isPosW at h
  split at h
  · exact ⟨_, _, rfl⟩
  · cases h
theorem isInt_inv {d : PyData} (h : isInt d = true) : ∃ a, d = .int a := by
  cases d with
  | int a => exact ⟨a, rfl⟩
  | _ => cases h
theorem ok_chanceK {f fW fL : Addr} {fd dW dL : FuncData} (F : Fun K "_law_k24_chance" "_law_k24_chance" sChanceK f fd) (T : TxtW mg) (T2 : Pre.TxtP mg) (FW : Fun K "_law_k24_whole" "_law_k24_whole" sWholeL fW dW) (mW : mg "_law_k24_whole" = some (.ref fW)) (FL : Fun K "_law_cp_lowest" "_law_cp_lowest" sLowest fL dL) (mL : mg "_law_cp_lowest" = some (.ref fL)) : FnOk P0 w K mg base CX0 2 f fd ["thing"] (spChK K) := by
  have GL : FnOk P0 w K mg base CX0 1 fL dL ["top", "bottom"] spLowest := ok_lowest FL T2
  have GW : FnOk P0 w K mg base CX0 1 fW dW ["thing"] (spWhole K) := ok_wholeL FW T
  have bL := FL.binds (ps := ["top", "bottom"]) fun _ _ _ _ _ _ us hl => match us, hl with | [_, _], _ => rfl
  have bW := FW.binds (ps := ["thing"]) fun _ _ _ _ _ _ us hl => match us, hl with | [_], _ => rfl
  refine F.ok scChanceK (fun vs H Q E h => ?_) (fun cdv A outer s H vs Q E hr h => ?_)
  · obtain ⟨x, d, rfl, _⟩ := h
    rfl
  · obtain ⟨x, d, rfl, hd, hsm, k⟩ := h
    refine ⟨_, pss_cons (ps_if (PW.pt (pw_or (pt_not (pt_val (pe_callB call_isi (by rfl) T.isi (by decide +kernel) (pa_cons (pv 0) (pa_cons (pe_bltn (v := .ty "tuple") (by rfl) T.tuple (by decide +kernel) rfl) pa_nil)))))
        (pw_or (pt_cmpR op_ne (pe_callB call_len_seq (by rfl) T.len PySem.boot_len (pa_cons (pv 0) pa_nil)) pe_int (nomark _))
        (pw_or (pt_not (pt_val (pe_call GW hr (by rfl) mW FW.kp bW .nil pass0 (pa_cons (pe_ix ix_tup (pv 0) pe_int (fun _ _ => rfl)) pa_nil))))
        (pw_or1 (pt_not (pt_val (pe_call GW hr (by rfl) mW FW.kp bW .nil pass0 (pa_cons (pe_ix ix_tup (pv 0) pe_int (fun _ _ => rfl)) pa_nil)))))))))
        (pss_one (ps_ret pe_bl)) pss_nil)
      (pss_one (ps_ret (pe_and (pe_cmpR op_gt (pe_ix ix_tup (pv 0) pe_int (fun _ _ => rfl)) pe_int (nomark _)) (pe_and (pe_cmpR op_gt (pe_ix ix_tup (pv 0) pe_int (fun _ _ => rfl)) pe_int (nomark _))
        (pe_one (pe_cmpR (op_eqD hr.units) (pe_call GL hr (by rfl) mL FL.kp bL .nil pass0 (pa_cons (pe_ix ix_tup (pv 0) pe_int (fun _ _ => rfl)) (pa_cons (pe_ix ix_tup (pv 0) pe_int (fun _ _ => rfl)) pa_nil))) (pv 0) (nomark _))))))), ?_⟩
    have ty := ty_of hd
    have bad : (∀ a b, d ≠ .tuple [.int a, .int b]) → Q (.bl false) H := fun h => by
      have e : isPosW d = false := by
        cases q : isPosW d with
        | false => rfl
        | true =>
          obtain ⟨a, b, e⟩ := isPosW_inv q
          exact absurd e (h a b)
      rw [← e]
      exact k H (Same.refl _)
    rcases tup_or hd with ⟨a, xs, ds, rfl, rfl, hx, hD⟩ | ⟨ht, _⟩
    rotate_left
    · refine ⟨_, rfl, _, _, _, _, false, rfl, .ty _, ty, kit_ty (b := "tuple") ht, _, rfl, iteT (iteT (bad fun a b e => ?_))⟩
      subst e
      exact absurd (show kitB "tuple" "tuple" = some false from ht) (by decide +kernel)
    · have hlen := dpAll_len hD
      refine ⟨_, rfl, _, _, _, _, true, rfl, .ty _, ty, kit_ty (a := "tuple") (b := "tuple") (by decide +kernel), _, rfl, iteF ?_⟩
      refine ⟨_, rfl, a, xs, rfl, .inr hx, rfl, _, rfl, ?_⟩
      by_cases h2 : (V.int (xs.length : Int) : V) = V.int 2
      rotate_left
      · rw [decide_eq_false h2]
        refine iteT (iteT (bad fun u v e => h2 ?_))
        injection e with e
        rw [e] at hlen
        rw [hlen]
        rfl
      rw [decide_eq_true h2]
      have hl2 : xs.length = 2 := by
        injection h2 with h2
        omega
      obtain ⟨x1, x2, rfl⟩ : ∃ x1 x2, xs = [x1, x2] := by
        match xs, hl2 with
        | [x1, x2], _ => exact ⟨x1, x2, rfl⟩
      obtain ⟨d1, d2, rfl, w1, w2⟩ : ∃ d1 d2, ds = [d1, d2] ∧ Dp K H x1 d1 ∧ Dp K H x2 d2 := by
        cases hD with
        | cons u1 r => cases r with
          | cons u2 r =>
            cases r
            exact ⟨_, _, rfl, u1, u2⟩
      refine iteF ⟨_, rfl, a, _, _, _, rfl, rfl, hx, atI_nat (j := 0) rfl, x1, d1, rfl, w1, _, rfl, ?_⟩
      cases i1 : isInt d1 with
      | false =>
        refine iteT (iteT (bad fun u v e => ?_))
        injection e with e
        injection e with e1 e2
        rw [e1] at i1
        cases i1
      | true =>
        obtain ⟨u, rfl⟩ := isInt_inv i1
        refine iteF ⟨_, rfl, a, _, _, _, rfl, rfl, hx, atI_nat (j := 1) rfl, x2, d2, rfl, w2, _, rfl, ?_⟩
        cases i2 : isInt d2 with
        | false =>
          refine iteT (bad fun u v e => ?_)
          injection e with e
          injection e with e1 e2
          injection e2 with e2 _
          rw [e2] at i2
          cases i2
        | true =>
          obtain ⟨v, rfl⟩ := isInt_inv i2
          cases w1
          cases w2
          have hsm' : (decide (u.natAbs < 1048576) && (decide (v.natAbs < 1048576) && true)) = true := hsm
          rw [Bool.and_true, Bool.and_eq_true] at hsm'
          have su := of_decide_eq_true hsm'.1
          have sv := of_decide_eq_true hsm'.2
          have val : isPosW (.tuple [.int u, .int v]) = ((decide (1 ≤ v) && (gI u v == 1)) && decide (0 < u)) := rfl
          refine iteF ⟨_, rfl, a, _, _, _, rfl, rfl, hx, atI_nat (j := 0) rfl, _, _, rfl, rfl, _, rfl, ?_⟩
          by_cases hu : (0 : Int) < u
          rotate_left
          · rw [decide_eq_false hu]
            refine iteF ?_
            have z := k H (Same.refl _)
            rw [val, decide_eq_false hu, Bool.and_false] at z
            exact z
          rw [decide_eq_true hu]
          refine iteT ⟨_, rfl, a, _, _, _, rfl, rfl, hx, atI_nat (j := 1) rfl, _, _, rfl, rfl, _, rfl, ?_⟩
          by_cases hv : (0 : Int) < v
          rotate_left
          · rw [decide_eq_false hv]
            refine iteF ?_
            have z := k H (Same.refl _)
            rw [val, decide_eq_false (show ¬ 1 ≤ v by omega), Bool.false_and, Bool.false_and] at z
            exact z
          rw [decide_eq_true hv]
          have p20 : (2 : Nat) ^ 20 = 1048576 := by decide
          refine iteT ⟨_, rfl, a, _, _, _, rfl, rfl, hx, atI_nat (j := 0) rfl, _, rfl, a, _, _, _, rfl, rfl, hx, atI_nat (j := 1) rfl, u, v, 20, rfl, by omega, by omega, by omega, by decide, by decide, fun q H1 s1 hq => ?_⟩
          refine ⟨_, rfl, wD (low u v), wD (u, v), at_wD (SqT.of hq), at_wD (sqT_same s1 hx), sh_wD _, sh_wD _, ?_⟩
          have e : PyData.eqv (wD (low u v)) (wD (u, v)) = isPosW (.tuple [.int u, .int v]) := by
            have e1 : PyData.eqv (wD (low u v)) (wD (u, v)) = ((low u v).1 == u && ((low u v).2 == v && true)) := by simp [wD, PyData.eqv, PyData.eqvAll]
            rw [e1, low_self hv, val, decide_eq_true (show 1 ≤ v by omega), decide_eq_true hu, Bool.and_true, Bool.true_and]
          rw [e]
          exact k H1 s1
end
end Tk

namespace ZM
open PySem PySem.Spec PyProof.Rows L2
/-- a list at a and a tuple at b as they stand at each turn, the items in new tuples -/
def ItzM (K : PySem.W.Frag) (a b : Addr) : It :=
  ⟨fun i H => ∃ (xs ys : List V) (x y : V), SqL K H a xs ∧ SqT K H b ys ∧ xs[i]? = some x ∧ ys[i]? = some y,
    fun i H v H' => ∃ T x y, v = .ref T ∧ H T = none ∧ H' = upd H T (.tup [x, y]) ∧ (∀ xs, SqL K H a xs → xs[i]? = some x) ∧ (∀ ys, SqT K H b ys → ys[i]? = some y),
    fun i H => ∃ xs ys : List V, SqL K H a xs ∧ SqT K H b ys ∧ xs.length = i ∧ ys.length = i⟩
theorem sep2 {n a b : Nat} (ha : a < n) (hb : b < n) : ZipSep2 (n + 4) (n + 2) (n + 3) n (n + 1) [n, a] [n + 1, b] := by
  have ni : ∀ {x u v : Nat}, x ≠ u → x ≠ v → x ∉ ([u, v] : List Nat) := fun {x u v} h1 h2 h => by
    rcases List.mem_cons.mp h with z | z
    · exact h1 z
    · exact h2 (List.mem_singleton.mp z)
  have mi : ∀ {u v : Nat}, u ∈ ([u, v] : List Nat) := fun {u v} => List.mem_cons_self
  exact ⟨show n + 2 ≠ n + 4 by omega, show n + 3 ≠ n + 4 by omega, show n + 2 ≠ n + 3 by omega, show n + 2 ≠ n by omega, mi, ni (show n + 4 ≠ n by omega) (show n + 4 ≠ a by omega), ni (show n + 3 ≠ n by omega) (show n + 3 ≠ a by omega),
    show n + 2 ≠ n + 1 by omega, mi, ni (show n + 4 ≠ n + 1 by omega) (show n + 4 ≠ b by omega), ni (show n + 3 ≠ n + 1 by omega) (show n + 3 ≠ b by omega),
    ni (show n ≠ n + 1 by omega) (show n ≠ b by omega), ni (show n + 1 ≠ n by omega) (show n + 1 ≠ a by omega)⟩
abbrev St2 (n a b : Nat) (i : Nat) (h : Heap) : Prop := IsZip h (n + 4) (n + 2) (n + 3) .none ∧ IsTupOf2 h (n + 2) (.ref n) (.ref (n + 1)) ∧ (∃ u1 u2, IsTupOf2 h (n + 3) u1 u2) ∧ h.IsListIter n a i ∧ h.IsTupleIter (n + 1) b i
abbrev own5 (n : Nat) : List Nat := [n + 4, n + 2, n + 3, n, n + 1]
theorem own5_or {n c : Nat} (h : c ∈ own5 n) : c = n + 4 ∨ c = n + 2 ∨ c = n + 3 ∨ c = n ∨ c = n + 1 := by simpa using h
theorem own5_ge {n c : Nat} (h : c ∈ own5 n) : n ≤ c := by
  rcases own5_or h with z | z | z | z | z <;> omega
theorem st2_obj {n a b c : Nat} {i : Nat} {h : Heap} (st : St2 n a b i h) (hc : c ∈ own5 n) : ∃ o, h.get? c = some o ∧ ∀ v, o.data ≠ .cell v := by
  obtain ⟨h1, h2, ⟨u1, u2, h3⟩, ⟨o4, e4, _, d4⟩, ⟨o5, e5, _, d5⟩⟩ := st
  rcases own5_or hc with z | z | z | z | z
  · rw [z]; exact ⟨_, h1, fun v q => nomatch q⟩
  · rw [z]; exact ⟨_, h2, fun v q => nomatch q⟩
  · rw [z]; exact ⟨_, h3, fun v q => nomatch q⟩
  · rw [z]; exact ⟨o4, e4, fun v q => by rw [d4] at q; cases q⟩
  · rw [z]; exact ⟨o5, e5, fun v q => by rw [d5] at q; cases q⟩
theorem turn_zipM {P0 : Program} {w : World} {K : PySem.W.Frag} {elts : List Expr} {kk : Nat} {tpos : Pos} {n a b : Nat} (ha : a < n) (hb : b < n) :
    Turn P0 w K (.Tuple elts kk tpos) (ItzM K a b) (own5 n) (n + 4) (St2 n a b) where
  mem := by simp
  obj := fun i h st c hc => st2_obj st hc
  keep := fun i h h' st k => by
    obtain ⟨h1, h2, ⟨u1, u2, h3⟩, h4, h5⟩ := st
    exact ⟨k _ (by simp) _ h1, k _ (by simp) _ h2, ⟨u1, u2, k _ (by simp) _ h3⟩, h4.at fun o q => k _ (by simp) o q, h5.at fun o q => k _ (by simp) o q⟩
  item := by
    intro X hP hw hK hc i pins s σ H E I hf st hg
    subst hP hw hK
    have there : ∀ c ∈ own5 n, c < s.heap.objs.size := fun c hc => by
      obtain ⟨o, ho, _⟩ := st2_obj st hc
      exact Heap.lt_size ho
    obtain ⟨h1, h2, ⟨u1, u2, h3⟩, h4, h5⟩ := st
    obtain ⟨xs, ys, x, y, qx, qy, hx, hy⟩ := hg
    obtain ⟨its1, r1, p1, _⟩ := I.list qx
    obtain ⟨its2, r2, p2, _⟩ := I.tuple qy
    obtain ⟨v1, hv1, rv1⟩ := r1.get hx
    obtain ⟨v2, hv2, rv2⟩ := r2.get hy
    have hh : X.A.in1.handled = none := I.ok.hd hc
    have l1 : i < its1.toArray.size := by
      have := (List.getElem?_eq_some_iff.mp hv1).1
      simpa using this
    have l2 : i < its2.toArray.size := by
      have := (List.getElem?_eq_some_iff.mp hv2).1
      simpa using this
    have Dz := sep2 ha hb
    have big : n + 4 < s.heap.objs.size := there _ (by simp)
    refine wpAny_pyNext_zipD2_item (sep2 ha hb) (Draws.list hh n a (show a ≠ n by omega) its1.toArray) (Draws.tuple hh (n + 1) b (show b ≠ n + 1 by omega) its2.toArray) h1 h2 h3 ⟨h4, p1.isList⟩ ⟨h5, p2⟩ l1 l2
      fun w1 w2 h' tk e1 e2 z' TO' st1 st2 hT hsz hk => ?_
    obtain rfl : w1 = v1 := by simpa [hv1] using e1.symm
    obtain rfl : w2 = v2 := by simpa [hv2] using e2.symm
    refine ⟨_, rfl, wpAny_letOwnedTupleGo_zip (s := { s with heap := h', toks := tk }) z' fun h'' z'' sb => ?_⟩
    have hT2 : h''.get? s.heap.objs.size = some { cls := .type "tuple", data := .seq #[w1, w2] } := (sb.2 _ (Nat.ne_of_gt big)).trans hT
    have new : ObjOk X.prog X.w (upd H s.heap.objs.size (.tup [x, y])) h'' s.heap.objs.size (.tup [x, y]) :=
      ⟨by show 2 ≤ sizeLine; decide, [w1, w2], .cons rv1 (.cons rv2 .nil), ⟨_, hT2, rfl, _, rfl⟩⟩
    have J : Inv X pins σ (upd H s.heap.objs.size (.tup [x, y])) { s with heap := h'', toks := tk } :=
      I.turnedNew (t' := tk) (ch := own5 n) (fun c o hb q => (sb.2 c (fun q' => hb (by simp [q']))).trans (hk c o (fun q' => hb (by simp [q'])) (fun q' => hb (by simp [q'])) (fun q' => hb (by simp [q'])) (fun q' => hb (by simp [q'])) q)) hf (Nat.le_refl _) new
    refine ⟨.ref s.heap.objs.size, _, J, rfl, ⟨_, x, y, rfl, I.hok.fresh (Nat.le_refl _), rfl, fun l hl => by rw [I.list_inj hl qx]; exact hx, fun l hl => by rw [I.tuple_inj hl qy]; exact hy⟩, ⟨z'', ?_, ⟨w1, w2, ?_⟩, ?_, ?_⟩, fun c hcm => ?_⟩
    · exact (sb.2 _ Dz.TIz).trans (hk _ _ Dz.TIz Dz.TITO Dz.TIi1 Dz.TIi2 h2)
    · exact (sb.2 _ Dz.TOz).trans TO'
    · exact st1.1.at fun o q => (sb.2 _ Dz.zi1.symm).trans q
    · exact st2.1.at fun o q => (sb.2 _ Dz.zi2.symm).trans q
    · rw [upd_ne (Nat.ne_of_lt (there c hcm))]
      exact (hf c hcm).1
  done := by
    intro X hP hw hK hc i pins s σ H E I hf st hg
    subst hP hw hK
    obtain ⟨h1, h2, ⟨u1, u2, h3⟩, h4, h5⟩ := st
    obtain ⟨xs, ys, qx, qy, n1, n2⟩ := hg
    obtain ⟨its1, r1, p1, _⟩ := I.list qx
    obtain ⟨its2, r2, p2, _⟩ := I.tuple qy
    have hh : X.A.in1.handled = none := I.ok.hd hc
    have m1 : its1.toArray.size = i := by rw [List.size_toArray, ← r1.length, n1]
    have m2 : its2.toArray.size = i := by rw [List.size_toArray, ← r2.length, n2]
    exact wpAny_pyNext_zipD2_end (sep2 ha hb) (Draws.list hh n a (show a ≠ n by omega) its1.toArray) (Draws.tuple hh (n + 1) b (show b ≠ n + 1 by omega) its2.toArray) h1 h2 h3 ⟨h4, p1.isList⟩ ⟨h5, p2⟩ (by omega) (by omega) (.inl m1.symm)
      fun h' tk hk => ⟨rfl, I.turnedL (t' := tk) (ch := own5 n) (fun c o hb q => hk c o (fun q' => hb (by simp [q'])) (fun q' => hb (by simp [q'])) (fun q' => hb (by simp [q'])) (fun q' => hb (by simp [q'])) q) hf⟩
  self := fun A i s Q E st h => wpAny_pyIter_zip st.1 h
def iZipM (K : PySem.W.Frag) (ta : TA) : TI := fun σ H R => ta σ H fun vs H1 => ∃ a b xs ys, vs = [.ref a, .ref b] ∧ SqL K H1 a xs ∧ SqT K H1 b ys ∧ R (ItzM K a b) H1
theorem pi_zipM {X : Cx} {e1 e2 : Expr} {ta : TA} {p pos tpos : Pos} {elts : List Expr} {kk : Nat} (hg : Gl X "zip") (hm : X.mg "zip" = none) (ha : PA X [e1, e2] ta)
    (hs : starEach [e1, e2] X.env = (false, eval e1 X.env) :: starEach [e2] X.env := by rfl) (hpl : (backTo pos (starEach [e2] X.env)).any (·.1) = false := by rfl) :
    PI X (.Tuple elts kk tpos) (.Call (.Name "zip" p) [e1, e2] [] pos) (iZipM X.K ta) := by
  refine ⟨fun pins s σ H R I h => ?_⟩
  refine Call_ (ld_blt I hg hm PyProof.Rows.boot_zip (PyProof.Rows.callWith_type1 (thn (ha.run pos pins s σ H _ I h) fun us s1 ⟨vs, H1, I1, r, a, b, xs, ys, ex, qx, qy, q⟩ => ?_) hs hpl))
  subst ex
  cases r with
  | cons r1 r => cases r with
    | cons r2 r =>
      cases r
      cases r1
      cases r2
      obtain ⟨its1, _, p1, _⟩ := I1.list qx
      obtain ⟨its2, _, p2, _⟩ := I1.tuple qy
      obtain ⟨o2, ho2, _⟩ := id p2
      refine zip_begins2 (begins_list a its1.toArray) (begins_tuple b its2.toArray) p1.isList p2 fun h' z1 z2 z3 z4 z5 _ hk => wpAny_pyIter_zip z1 ?_
      have I2 : Inv X pins σ H1 { s1 with heap := h' } := I1.kept (t' := s1.toks) hk
      exact ⟨s1.heap.objs.size + 4, own5 s1.heap.objs.size, St2 s1.heap.objs.size a b, _, H1, rfl, I2, turn_zipM p1.lt (Heap.lt_size ho2), ⟨z1, z2, ⟨_, _, z3⟩, ⟨_, z4, rfl, rfl⟩, ⟨_, z5, rfl, rfl⟩⟩, fun c hc => I1.fpOk (own5_ge hc) (I1.hok.fresh (own5_ge hc)), q⟩
/-- a loop over a list and a tuple of one length -/
theorem for_zipM {K : PySem.W.Frag} {a b : Addr} {xs ys : List V} {g : TG} {tb : TS} {D : Ends} {σ : L2.St} {H : Hp} (l1 : xs.length = ys.length) (Pv : Nat → L2.St → Hp → Prop) (h0 : Pv 0 σ H) (hq : ∀ i σ H, Pv i σ H → SqL K H a xs ∧ SqT K H b ys)
    (hs : ∀ (i : Nat) (x y : V) (T : Addr) (σ : L2.St) (H : Hp), xs[i]? = some x → ys[i]? = some y → Pv i σ H → H T = none → g (.ref T) σ (upd H T (.tup [x, y])) fun σ2 H2 => tb { D with nx := Pv (i + 1), ct := Pv (i + 1), bk := D.nx } σ2 H2) (hd : ∀ σ H, Pv ys.length σ H → D.nx σ H) :
    ∃ W : Nat → Nat → L2.St → Hp → Prop, (∃ m, W 0 m σ H) ∧ ∀ i m σ H, W i m σ H →
      ((ItzM K a b).stop i H ∧ D.nx σ H) ∨ ((ItzM K a b).go i H ∧ ∃ N : L2.St → Hp → Prop, (∀ σ' H', N σ' H' → ∃ m', m' < m ∧ W (i + 1) m' σ' H') ∧ ∀ v H', (ItzM K a b).yld i H v H' → g v σ H' fun σ2 H2 => tb { D with nx := N, ct := N, bk := D.nx } σ2 H2) := by
  refine ⟨fun i m σ H => m = ys.length - i ∧ i ≤ ys.length ∧ Pv i σ H, ⟨ys.length, rfl, Nat.zero_le _, h0⟩, ?_⟩
  rintro i m σ H ⟨rfl, hi, p⟩
  obtain ⟨qx, qy⟩ := hq i σ H p
  by_cases hlt : i < ys.length
  · have b1 : i < xs.length := by omega
    refine .inr ⟨⟨xs, ys, _, _, qx, qy, List.getElem?_eq_getElem b1, List.getElem?_eq_getElem hlt⟩, Pv (i + 1), fun σ' H' p' => ⟨ys.length - (i + 1), by omega, rfl, hlt, p'⟩, fun v H' out => ?_⟩
    obtain ⟨T, x', y', rfl, hT, rfl, f1, f2⟩ := out
    exact hs i x' y' T σ H (f1 xs qx) (f2 ys qy) p hT
  · have e0 : i = ys.length := by omega
    subst e0
    exact .inl ⟨⟨xs, ys, qx, qy, l1, rfl⟩, hd σ H p⟩
end ZM

namespace Tk
open PySem PySem.Spec PyProof.Rows L2
open Wt Kn Dc
abbrev sInner : Stmt := Pre.top 59
abbrev nInner : List Str := ["here", "around", "many", "word", "size", "total_v", "wanted", "answer", "found", "kind", "inner", "own", "k", "row"]
theorem scInner : FnScope nInner ["here", "around", "many"] (defScope sInner) := ⟨rfl, rfl, rfl, by decide +kernel, rfl, by decide +kernel, by decide +kernel⟩
theorem kw_answer {ts : List Kd} {k : Int} : ∀ {ds : List PyData}, kids2 ⟨.tuple (.str "answer" :: ds), ts, k⟩ = (match ds with | [x] => ansK k x | _ => none)
  | [] => rfl
  | [_] => rfl
  | [_, _] => rfl
  | [_, _, _] => rfl
  | _ :: _ :: _ :: _ :: _ => rfl
theorem kw_none {ts : List Kd} {k : Int} : ∀ {ds : List PyData}, kids2 ⟨.tuple (.str "none" :: ds), ts, k⟩ = (match ds with | [] => some ([], []) | _ => none)
  | [] => rfl
  | [_] => rfl
  | [_, _] => rfl
  | [_, _, _] => rfl
  | _ :: _ :: _ :: _ :: _ => rfl
theorem kw_draw {ts : List Kd} {k : Int} : ∀ {ds : List PyData}, kids2 ⟨.tuple (.str "draw" :: ds), ts, k⟩ = (match ds with | [x] => drawK ts k x | _ => none)
  | [] => rfl
  | [_] => rfl
  | [_, _] => rfl
  | [_, _, _] => rfl
  | _ :: _ :: _ :: _ :: _ => rfl
theorem kw_ask {ts : List Kd} {k : Int} : ∀ {ds : List PyData}, kids2 ⟨.tuple (.str "ask" :: ds), ts, k⟩ = (match ds with | [x, y, z] => askK ts k x y z | _ => none)
  | [] => rfl
  | [_] => rfl
  | [_, _] => rfl
  | [_, _, _] => rfl
  | _ :: _ :: _ :: _ :: _ => rfl
theorem kw_else {ts : List Kd} {k : Int} {s : Str} (h1 : s ≠ "answer") (h2 : s ≠ "none") (h3 : s ≠ "draw") (h4 : s ≠ "ask") : ∀ {ds : List PyData}, kids2 ⟨.tuple (.str s :: ds), ts, k⟩ = none
  | [] => by
    show (if s = "none" then some ([], []) else none) = none
    rw [if_neg h2]
  | [x] => by
    show (if s = "answer" then ansK k x else if s = "draw" then drawK ts k x else none) = none
    rw [if_neg h1, if_neg h3]
  | [_, _] => rfl
  | [x, y, z] => by
    show (if s = "ask" then askK ts k x y z else none) = none
    rw [if_neg h4]
  | _ :: _ :: _ :: _ :: _ => rfl
theorem kw_non {ts : List Kd} {k : Int} {d : PyData} (h : ∀ s ds, d ≠ .tuple (.str s :: ds)) : kids2 ⟨d, ts, k⟩ = none := by
  cases e : kids2 ⟨d, ts, k⟩ with
  | none => rfl
  | some p =>
    cases kid_of e with
    | non ht _ => exact absurd ht (h _ _)
    | ans b ht _ _ _ => exact absurd ht (h _ _)
    | draw rows ht _ _ => exact absurd ht (h _ _)
    | ask v a hs rs ht _ _ _ _ _ => exact absurd ht (h _ _)
def isS : PyData → Bool
  | .str _ => true
  | _ => false
theorem kit_str (d : PyData) : kitB (tyN d) "str" = some (isS d) := by
  cases d <;> (simp only [tyN, isS]; decide +kernel)
def isTp : PyData → Bool
  | .tuple _ => true
  | _ => false
theorem kit_tup (d : PyData) : kitB (tyN d) "tuple" = some (isTp d) := by
  cases d <;> (simp only [tyN, isTp]; decide +kernel)
theorem isTp_inv {d : PyData} (h : isTp d = true) : ∃ ds, d = .tuple ds := by
  cases d with
  | tuple ds => exact ⟨ds, rfl⟩
  | _ => cases h
/-- a waiting part, as the law keeps it -/
def cnL (c : Cn) : PyData := .tuple [c.t, .list (c.ts.map Kd.dat), .int c.k]
/-- a waiting part at v -/
def WI (K : PySem.W.Frag) (H : Hp) (v : V) (c : Cn) : Prop := ∃ (tp : Addr) (x : V) (A : Addr) (xs : List V), v = .ref tp ∧ SqT K H tp [x, .ref A, .int c.k] ∧ Dp K H x c.t ∧ H A = some (.lst xs) ∧ DpAll K H xs (c.ts.map Kd.dat)
def WAll (K : PySem.W.Frag) (H : Hp) : List V → List Cn → Prop
  | [], [] => True
  | v :: vs, c :: cs => WI K H v c ∧ WAll K H vs cs
  | _, _ => False
theorem wi_same {K : PySem.W.Frag} {H H' : Hp} {v : V} {c : Cn} (s : Same H H') (h : WI K H v c) : WI K H' v c := by
  obtain ⟨tp, x, A, xs, h1, h2, h3, h4, h5⟩ := h
  exact ⟨tp, x, A, xs, h1, sqT_same s h2, dp_same s h3, s _ _ h4, dpAll_same s h5⟩
theorem wall_same {K : PySem.W.Frag} {H H' : Hp} (s : Same H H') : ∀ {vs : List V} {cs : List Cn}, WAll K H vs cs → WAll K H' vs cs
  | [], [], _ => trivial
  | _ :: _, _ :: _, h => ⟨wi_same s h.1, wall_same s h.2⟩
  | [], _ :: _, h => h
  | _ :: _, [], h => h
theorem wall_app {K : PySem.W.Frag} {H : Hp} : ∀ {vs ws : List V} {cs ds : List Cn}, WAll K H vs cs → WAll K H ws ds → WAll K H (vs ++ ws) (cs ++ ds)
  | [], _, [], _, _, h => h
  | _ :: _, _, _ :: _, _, h, h' => ⟨h.1, wall_app h.2 h'⟩
  | [], _, _ :: _, _, h, _ => h.elim
  | _ :: _, _, [], _, h, _ => h.elim
theorem wall_snoc {K : PySem.W.Frag} {H : Hp} {vs : List V} {cs : List Cn} {v : V} {c : Cn} (h : WAll K H vs cs) (hv : WI K H v c) : WAll K H (vs ++ [v]) (cs ++ [c]) := wall_app h ⟨hv, trivial⟩
theorem wall_len {K : PySem.W.Frag} {H : Hp} : ∀ {vs : List V} {cs : List Cn}, WAll K H vs cs → vs.length = cs.length
  | [], [], _ => rfl
  | _ :: _, _ :: _, h => congrArg Nat.succ (wall_len h.2)
  | [], _ :: _, h => h.elim
  | _ :: _, [], h => h.elim
theorem wall_dp {K : PySem.W.Frag} {H : Hp} : ∀ {vs : List V} {cs : List Cn}, WAll K H vs cs → DpAll K H vs (cs.map cnL)
  | [], [], _ => .nil
  | _ :: _, _ :: _, h => by
    obtain ⟨⟨tp, x, A, xs, rfl, h2, h3, h4, h5⟩, hr⟩ := h
    exact .cons (.tup h2 (.cons h3 (.cons (.lst (SqL.of h4) h5) (.cons (.int _) .nil)))) (wall_dp hr)
  | [], _ :: _, h => h.elim
  | _ :: _, [], h => h.elim
theorem wall_last {K : PySem.W.Frag} {H : Hp} : ∀ {vs : List V} {cs : List Cn} {c : Cn}, WAll K H vs (cs ++ [c]) → ∃ vs' v, vs = vs' ++ [v] ∧ WAll K H vs' cs ∧ WI K H v c
  | [v], [], _, h => ⟨[], v, rfl, trivial, h.1⟩
  | [], [], _, h => h.elim
  | _ :: _ :: _, [], _, h => h.2.elim
  | [], _ :: _, _, h => h.elim
  | v :: vs, _ :: cs, _, h => by
    obtain ⟨vs', u, rfl, h1, h2⟩ := wall_last h.2
    exact ⟨v :: vs', u, rfl, ⟨h.1, h1⟩, h2⟩
section
variable {P0 : Program} {w : World} {K : PySem.W.Frag} {mg : Str → Option Value} {base : Heap}
def ResL (K : PySem.W.Frag) (p g : Addr) (o : Option (List Cn × List Cn)) (H : Hp) (Q : VK) : Prop :=
  (o = none → ∀ H', Same H H' → Q .non H') ∧ ∀ pr, o = some pr → ∀ l vs H', Same H H' → H l = none → H' l = some (.lst vs) → WAll K (wo p g H') vs (pr.2 ++ pr.1) → Q (.ref l) H'
def spInner (K : PySem.W.Frag) : Sp := fun vs H Q _ => ∃ (x : V) (A : Addr) (d : PyData) (xs : List V) (ts : List Kd) (k : Int) (p g : Addr), vs = [x, .ref A, .int k] ∧ Av H p g ∧ Dp K (wo p g H) x d ∧ A ≠ p ∧ A ≠ g ∧ H A = some (.lst xs) ∧ DpAll K (wo p g H) xs (ts.map Kd.dat) ∧ (∀ t ∈ ts, t.nums ≤ 8 ∧ t.good) ∧ ts.length ≤ 600 ∧ sm d = true ∧ Ok 50 d ∧
  ResL K p g (kids2 ⟨d, ts, k⟩) H Q
structure LkI (P0 : Program) (w : World) (K : PySem.W.Frag) (mg : Str → Option Value) (fW fC fS fA : Addr) (dW dC dS dA : FuncData) : Prop where
  T : TxtW mg
  zz : mg "zip" = none
  zs : mg "str" = none
  FW : Fun K "_law_k24_whole" "_law_k24_whole" sWholeL fW dW
  mW : mg "_law_k24_whole" = some (.ref fW)
  GC : ∀ base, FnOk P0 w K mg base CX0 2 fC dC ["thing"] (spChK K)
  FC : Fun K "_law_k24_chance" "_law_k24_chance" sChanceK fC dC
  mC : mg "_law_k24_chance" = some (.ref fC)
  GS : ∀ base, FnOk P0 w K mg base CX0 3 fS dS ["weights"] (spTotal K SqL)
  FS : Fun K "_law_tk_sum" "_law_tk_sum" sSumL fS dS
  mS : mg "_law_tk_sum" = some (.ref fS)
  FA : Fun K "_law_cp_wanted" "_law_cp_wanted" sWanted fA dA
  mA : mg "_law_cp_wanted" = some (.ref fA)
set_option maxHeartbeats 4000000 in
theorem ok_inner {f fW fC fS fA : Addr} {fd dW dC dS dA : FuncData} (F : Fun K "_law_k24_inner" "_law_k24_inner" sInner f fd) (M : LkI P0 w K mg fW fC fS fA dW dC dS dA) : FnOk P0 w K mg base CX0 4 f fd ["here", "around", "many"] (spInner K) := by
  have GW : FnOk P0 w K mg base CX0 1 fW dW ["thing"] (spWhole K) := ok_wholeL M.FW M.T
  have GC := M.GC base
  have GS := M.GS base
  have GA : FnOk P0 w K mg base CX0 1 fA dA ["kind"] (spWanted K) := ok_wanted M.FA
  have bW := M.FW.binds (ps := ["thing"]) fun _ _ _ _ _ _ us hl => match us, hl with | [_], _ => rfl
  have bC := M.FC.binds (ps := ["thing"]) fun _ _ _ _ _ _ us hl => match us, hl with | [_], _ => rfl
  have bS := M.FS.binds (ps := ["weights"]) fun _ _ _ _ _ _ us hl => match us, hl with | [_], _ => rfl
  have bA := M.FA.binds (ps := ["kind"]) fun _ _ _ _ _ _ us hl => match us, hl with | [_], _ => rfl
  refine F.ok scInner (fun vs H Q E h => ?_) (fun cdv Ax outer s H vs Q E hr h => ?_)
  · obtain ⟨x, A, d, xs, ts, k, p, g, rfl, _⟩ := h
    rfl
  · obtain ⟨x, A, d, xs, ts, k, p, g, rfl, av, hx, nAp, nAg, hA, hts0, hts, htl, hsm, hok, hno, hyes⟩ := h
    have nd := scInner.nd
    have hr1 : Room 1 _ := hr.mono (by decide)
    have hr2 : Room 2 _ := hr.mono (by decide)
    have hr3 : Room 3 _ := hr.mono (by decide)
    apply Exists.intro
    apply And.intro
    · apply pss_cons
      · exact ps_if (PW.pt (pw_or (pt_not (pt_val (pe_callB call_isi (by rfl) M.T.isi (by decide +kernel) (pa_cons (pv 0) (pa_cons (pe_bltn (v := .ty "tuple") (by rfl) M.T.tuple (by decide +kernel) rfl) pa_nil)))))
          (pw_or (pt_cmpR (op_eqD hr.units) (pv 0) (pe_tup pa_nil) (nomark _))
          (pw_or1 (pt_not (pt_val (pe_callB call_isi (by rfl) M.T.isi (by decide +kernel) (pa_cons (pe_ix ix_tup (pv 0) pe_int (fun _ _ => rfl)) (pa_cons (pe_bltn (v := .ty "str") (by rfl) M.zs (by decide +kernel) rfl) pa_nil)))))))))
          (pss_one (ps_ret pe_non)) pss_nil
      apply pss_cons
      · exact ps_par (i := 3) (j := 4) rfl nd rfl rfl (by decide) rfl rfl (pa_cons (pe_ix ix_tup (pv 0) pe_int (fun _ _ => rfl)) (pa_cons (pe_callB call_len_seq (by rfl) M.T.len PySem.boot_len (pa_cons (pv 0) pa_nil)) pa_nil)) (by rfl)
      apply pss_cons
      · exact ps_if (pt_cmpR op_eq (pv 3) pe_str (nomark _)) (pss_one (ps_ret (pe_ifExp (PW.pt (pw_and (pt_cmpR op_eq (pv 4) pe_int (nomark _)) (pw_and (pt_val (pe_call GW hr1 (by rfl) M.mW M.FW.kp bW .nil pass0 (pa_cons (pe_ix ix_tup (pv 0) pe_int (fun _ _ => rfl)) pa_nil))) (pw_and1 (pt_chain op_le op_lt pe_int (pe_ix ix_tup (pv 0) pe_int (fun _ _ => rfl)) (pv 2)))))) (pe_lst pa_nil) pe_non))) pss_nil
      apply pss_cons
      · exact ps_if (pt_cmpR op_eq (pv 3) pe_str (nomark _)) (pss_one (ps_ret (pe_ifExp (pt_cmpR op_eq (pv 4) pe_int (nomark _)) (pe_lst pa_nil) pe_non))) pss_nil
      apply pss_cons
      · exact ps_if (pt_cmpR op_eq (pv 3) pe_str (nomark _))
          (pss_cons (ps_if (PW.pt (pw_or (pt_cmpR op_ne (pv 4) pe_int (nomark _)) (pw_or (pt_not (pt_val (pe_callB call_isi (by rfl) M.T.isi (by decide +kernel) (pa_cons (pe_ix ix_tup (pv 0) pe_int (fun _ _ => rfl)) (pa_cons (pe_bltn (v := .ty "tuple") (by rfl) M.T.tuple (by decide +kernel) rfl) pa_nil)))))
              (pw_or1 (pt_not (pt_chain op_le op_le pe_int (pe_callB call_len_seq (by rfl) M.T.len PySem.boot_len (pa_cons (pe_ix ix_tup (pv 0) pe_int (fun _ _ => rfl)) pa_nil)) pe_int)))))) (pss_one (ps_ret pe_non)) pss_nil)
          (pss_cons (ps_if (pt_cmpR (op_neD hr.units) (pe_lc (own := [("row", 13)]) (g := gName 13) rfl nd (pi_tup (pe_ix ix_tup (pv 0) pe_int (fun _ _ => rfl))) (blkOk_by (own := [("row", 13)]) (N := nInner) (sc := defScope sInner) (by decide +kernel)) (fun _ _ _ _ _ => pg_name (i := 13) nd rfl (Or.inl rfl))
              (fun _ _ _ _ _ => pts_one (PW.pt (pw_or (pt_not (pt_val (pe_callB (show CallR _ (.builtin "isinstance") (rIsi K) from call_isi) (by rfl) M.T.isi (by decide +kernel) (pa_cons (pv 13) (pa_cons (pe_bltn (v := .ty "tuple") (by rfl) M.T.tuple (by decide +kernel) rfl) pa_nil)))))
                (pw_or (pt_cmpR op_ne (pe_callB (show CallR _ (.builtin "len") (fun xs H Q => ∃ p ys, xs = [.ref p] ∧ (SqL K H p ys ∨ SqT K H p ys) ∧ Q (.int ys.length) H) from call_len_seq) (by rfl) M.T.len PySem.boot_len (pa_cons (pv 13) pa_nil)) pe_int (nomark _)) (pw_or1 (pt_not (pt_val (pe_call GC hr2 (by rfl) M.mC M.FC.kp bC .nil pass0 (pa_cons (pe_ix (show IxR _ (rIxT K) from ix_tup) (pv 13) pe_int (fun _ _ => rfl)) pa_nil)))))))))
              (fun _ _ _ _ _ => pe_int)) (pe_lst pa_nil) (nomark _)) (pss_one (ps_ret pe_non)) pss_nil)
          (pss_cons (ps_set (i := 5) nd rfl (Or.inl rfl) (pe_call GS hr3 (by rfl) M.mS M.FS.kp bS .nil pass0 (pa_cons (pe_lc (own := [("row", 13)]) (g := gName 13) (tt := tYes) rfl nd (pi_tup (pe_ix ix_tup (pv 0) pe_int (fun _ _ => rfl))) (blkOk_by (own := [("row", 13)]) (N := nInner) (sc := defScope sInner) (by decide +kernel)) (fun _ _ _ _ _ => pg_name (i := 13) nd rfl (Or.inl rfl)) (fun _ _ _ _ _ => pts_nil)
              (fun _ _ _ _ _ => pe_ix (show IxR _ (rIxT K) from ix_tup) (pv 13) pe_int (fun _ _ => rfl))) pa_nil)))
          (pss_one (ps_ret (pe_ifExp (pt_cmpR op_le (pe_ix ix_tup (pv 5) pe_int (fun _ _ => rfl)) (pe_ix ix_tup (pv 5) pe_int (fun _ _ => rfl)) (nomark _)) (pe_lc (own := [("row", 13)]) (g := gName 13) (tt := tYes) rfl nd (pi_tup (pe_ix ix_tup (pv 0) pe_int (fun _ _ => rfl))) (blkOk_by (own := [("row", 13)]) (N := nInner) (sc := defScope sInner) (by decide +kernel)) (fun _ _ _ _ _ => pg_name (i := 13) nd rfl (Or.inl rfl)) (fun _ _ _ _ _ => pts_nil)
              (fun _ _ _ _ _ => pe_tup (pa_cons (pe_ix (show IxR _ (rIxT K) from ix_tup) (pv 13) pe_int (fun _ _ => rfl)) (pa_cons (pv 1) (pa_cons (pv 2) pa_nil))))) pe_non)))))) pss_nil
      apply pss_cons
      · exact ps_if (PW.pt (pw_or (pt_cmpR op_ne (pv 3) pe_str (nomark _)) (pw_or (pt_cmpR op_ne (pv 4) pe_int (nomark _)) (pw_or (pt_not (pt_val (pe_call GW hr1 (by rfl) M.mW M.FW.kp bW .nil pass0 (pa_cons (pe_ix ix_tup (pv 0) pe_int (fun _ _ => rfl)) pa_nil))))
          (pw_or1 (pt_not (pt_chain op_le op_lt pe_int (pe_ix ix_tup (pv 0) pe_int (fun _ _ => rfl)) (pe_callB call_len_seq (by rfl) M.T.len PySem.boot_len (pa_cons (pv 1) pa_nil))))))))) (pss_one (ps_ret pe_non)) pss_nil
      apply pss_cons
      · exact ps_asg (pe_call GA hr1 (by rfl) M.mA M.FA.kp bA .nil pass0 (pa_cons (pe_ix ix_list (pv 1) (pe_ix ix_tup (pv 0) pe_int (fun _ _ => rfl)) (fun _ _ => rfl)) pa_nil)) (pg_tup (by rfl) (pgs_cons (pg_name (i := 6) nd rfl (Or.inl rfl)) (pgs_cons (pg_name (i := 7) nd rfl (Or.inl rfl)) pgs_nil)))
      apply pss_cons
      · exact ps_if (PW.pt (pw_or (pt_not (pt_val (pe_callB call_isi (by rfl) M.T.isi (by decide +kernel) (pa_cons (pe_ix ix_tup (pv 0) pe_int (fun _ _ => rfl)) (pa_cons (pe_bltn (v := .ty "tuple") (by rfl) M.T.tuple (by decide +kernel) rfl) pa_nil)))))
          (pw_or1 (pt_cmpR op_ne (pe_callB call_len_seq (by rfl) M.T.len PySem.boot_len (pa_cons (pe_ix ix_tup (pv 0) pe_int (fun _ _ => rfl)) pa_nil)) (pe_callB call_len_seq (by rfl) M.T.len PySem.boot_len (pa_cons (pv 6) pa_nil)) (nomark _))))) (pss_one (ps_ret pe_non)) pss_nil
      apply pss_cons
      · exact ps_if (PW.pt (pw_or (pt_not (pt_val (pe_callB call_isi (by rfl) M.T.isi (by decide +kernel) (pa_cons (pe_ix ix_tup (pv 0) pe_int (fun _ _ => rfl)) (pa_cons (pe_bltn (v := .ty "tuple") (by rfl) M.T.tuple (by decide +kernel) rfl) pa_nil)))))
          (pw_or1 (pt_cmpR op_ne (pe_callB call_len_seq (by rfl) M.T.len PySem.boot_len (pa_cons (pe_ix ix_tup (pv 0) pe_int (fun _ _ => rfl)) pa_nil)) (pv 7) (nomark _))))) (pss_one (ps_ret pe_non)) pss_nil
      apply pss_cons
      · exact ps_setLc (i := 8) (own := [("row", 13)]) (g := gName 13) (tt := tYes) rfl nd rfl rfl (sw_true rfl rfl rfl (by decide +kernel)) (pi_tup (pe_ix ix_tup (pv 0) pe_int (fun _ _ => rfl))) (blkOk_by (own := [("row", 13)]) (N := nInner) (sc := defScope sInner) (by decide +kernel)) (fun _ _ _ _ _ => pg_name (i := 13) nd rfl (Or.inl rfl)) (fun _ _ _ _ _ => pts_nil)
            (fun _ _ _ _ _ => pe_tup (pa_cons (pv 13) (pa_cons (pv 1) (pa_cons (pv 2) pa_nil))))
      apply pss_cons
      · exact ps_for PassesOwn.never rfl (ZM.pi_zipM (by rfl) M.zz (pa_cons (pv 6) (pa_cons (pe_ix ix_tup (pv 0) pe_int (fun _ _ => rfl)) pa_nil))) (pg_tup (by rfl) (pgs_cons (pg_name (i := 9) nd rfl (Or.inl rfl)) (pgs_cons (pg_name (i := 10) nd rfl (Or.inl rfl)) pgs_nil)))
          (pss_cons (ps_asg (pe_call GA hr1 (by rfl) M.mA M.FA.kp bA .nil pass0 (pa_cons (pv 9) pa_nil)) (pg_tup (by rfl) (pgs_cons (pg_name (i := 11) nd rfl (Or.inl rfl)) (pgs_cons (pg_name (i := 12) nd rfl (Or.inl rfl)) pgs_nil))))
          (pss_one (ps_expr (pe_bm PySem.F.plainAttrs_list PySem.F.slot_list_append PySem.F.type_list_append mt_append (pv 8) (pa_cons (pe_tup (pa_cons (pv 10) (pa_cons (pe_op op_cat (pv 1) (pv 11)) (pa_cons (pv 12) pa_nil)))) pa_nil)))))
      exact pss_one (ps_ret (pv 8))
    have bad : kids2 ⟨d, ts, k⟩ = none → ∀ H', Same H H' → Q .non H' := hno
    have ty := ty_of (dp_same wo_sub hx)
    rcases tup_or hx with ⟨a, ys, ds, rfl, rfl, hxG, hDG⟩ | ⟨ht, _⟩
    rotate_left
    · refine ⟨_, rfl, _, _, _, _, false, rfl, .ty _, ty, kit_ty (b := "tuple") ht, _, rfl, iteT (iteT (bad (kw_non fun s ds e => ?_) H (Same.refl _)))⟩
      subst e
      exact absurd (show kitB "tuple" "tuple" = some false from ht) (by decide +kernel)
    have hlen := dpAll_len hDG
    refine ⟨_, rfl, _, _, _, _, true, rfl, .ty _, ty, kit_ty (a := "tuple") (b := "tuple") (by decide +kernel), _, rfl, iteF ?_⟩
    refine ⟨_, rfl, by show 0 ≤ sizeLine; decide, fun te hte => ?_⟩
    have s1 := Pre.same_upd (o := .tup []) hte
    refine ⟨.tuple ds, .tuple [], dp_same (wo_sub.trans s1) hx, .tup (SqT.of upd_same) .nil, ok_sh hok (by decide), by decide +kernel, _, rfl, ?_⟩
    have av1 := av.same s1
    generalize upd H te (.tup []) = H1 at s1 av1
    cases ds with
    | nil => exact iteT (iteT (bad rfl H1 s1))
    | cons e es =>
      have eq1 : PyData.eqv (.tuple (e :: es)) (.tuple []) = false := by simp [PyData.eqv, PyData.eqvAll]
      rw [eq1]
      obtain ⟨x0, ys', rfl, w0, wR⟩ : ∃ x0 ys', ys = x0 :: ys' ∧ Dp K (wo p g H) x0 e ∧ DpAll K (wo p g H) ys' es := by
        cases hDG with
        | cons u r => exact ⟨_, _, rfl, u, r⟩
      have hx1 := sqT_same (wo_sub.trans s1) hxG
      have ty0 := ty_of (dp_same (wo_sub.trans s1) w0)
      have notS : (∀ s, e ≠ .str s) → kids2 ⟨.tuple (e :: es), ts, k⟩ = none := fun h => kw_non fun s ds z => by
        injection z with z
        injection z with z1 z2
        exact h s z1
      refine iteF ⟨_, rfl, a, _, _, _, rfl, rfl, hx1, atI_nat (j := 0) rfl, _, _, _, _, isS e, rfl, .ty _, ty0, kit_ty (kit_str e), _, rfl, ?_⟩
      cases hS : isS e with
      | false => exact iteT (bad (notS fun s z => by rw [z] at hS; cases hS) H1 s1)
      | true =>
        obtain ⟨s, rfl⟩ : ∃ s, e = .str s := by
          cases e with
          | str s => exact ⟨s, rfl⟩
          | _ => cases hS
        cases w0
        refine iteF ⟨_, rfl, a, _, _, _, rfl, rfl, hx1, atI_nat (j := 0) rfl, _, rfl, a, _, rfl, .inr hx1, _, _, rfl, ?_⟩
        have hl : (V.str s :: ys').length = es.length + 1 := hlen
        -- the answer
        refine ⟨_, rfl, rfl, _, rfl, ?_⟩
        by_cases h1 : (V.str s : V) = V.str "answer"
        · rw [decide_eq_true h1]
          injection h1 with h1
          subst h1
          refine iteT ⟨_, rfl, rfl, _, rfl, ?_⟩
          by_cases h2 : (V.int ((V.str "answer" :: ys').length : Int) : V) = V.int 2
          rotate_left
          · rw [decide_eq_false h2]
            refine iteF (iteF (bad ?_ H1 s1))
            rw [kw_answer]
            match es, hl with
            | [], _ => rfl
            | [_], hl => exact absurd (by rw [hl]; rfl) h2
            | _ :: _ :: _, _ => rfl
          rw [decide_eq_true h2]
          have hl2 : es.length = 1 := by
            injection h2 with h2
            omega
          obtain ⟨d1, rfl⟩ : ∃ d1, es = [d1] := by
            match es, hl2 with
            | [d1], _ => exact ⟨d1, rfl⟩
          obtain ⟨x1, rfl, w1⟩ : ∃ x1, ys' = [x1] ∧ Dp K (wo p g H) x1 d1 := by
            cases wR with
            | cons u r => cases r; exact ⟨_, rfl, u⟩
          have ka : kids2 ⟨.tuple [.str "answer", d1], ts, k⟩ = ansK k d1 := kw_answer
          refine iteT ⟨_, rfl, a, _, _, _, rfl, rfl, hx1, atI_nat (j := 1) rfl, x1, d1, rfl, dp_same (wo_sub.trans s1) w1, _, rfl, ?_⟩
          cases hi : isInt d1 with
          | false =>
            refine iteF (iteF (bad ?_ H1 s1))
            rw [ka]
            cases d1 with
            | int v => cases hi
            | _ => rfl
          | true =>
            obtain ⟨v, rfl⟩ := isInt_inv hi
            cases w1
            have kv : ansK k (.int v) = if 0 ≤ v ∧ v < k then some ([], []) else none := rfl
            refine iteT ⟨_, rfl, a, _, _, _, rfl, rfl, hx1, atI_nat (j := 1) rfl, _, _, rfl, rfl, _, rfl, ?_⟩
            by_cases c1 : (0 : Int) ≤ v
            · rw [decide_eq_true c1]
              refine iteT ⟨_, rfl, _, _, rfl, rfl, _, rfl, ?_⟩
              by_cases c2 : v < k
              · rw [decide_eq_true c2]
                exact iteT ⟨by show 0 ≤ sizeLine; decide, fun l hl => hyes ([], []) (by rw [ka, kv, if_pos ⟨c1, c2⟩]) l [] _ (s1.trans (Pre.same_upd hl)) (s1.free hl) upd_same trivial⟩
              · rw [decide_eq_false c2]
                exact iteF (bad (by rw [ka, kv, if_neg (fun z => c2 z.2)]) H1 s1)
            · rw [decide_eq_false c1]
              exact iteF ⟨_, rfl, iteF (bad (by rw [ka, kv, if_neg (fun z => c1 z.1)]) H1 s1)⟩
        rw [decide_eq_false h1]
        have n1 : s ≠ "answer" := fun z => h1 (by rw [z])
        -- none
        refine iteF ⟨_, rfl, rfl, _, rfl, ?_⟩
        by_cases h2 : (V.str s : V) = V.str "none"
        · rw [decide_eq_true h2]
          injection h2 with h2
          subst h2
          refine iteT ⟨_, rfl, rfl, _, rfl, ?_⟩
          by_cases h3 : (V.int ((V.str "none" :: ys').length : Int) : V) = V.int 1
          · rw [decide_eq_true h3]
            have e0 : es = [] := by
              injection h3 with h3
              match es, hl with
              | [], _ => rfl
              | _ :: _, hl => simp only [List.length_cons] at *; omega
            exact iteT ⟨by show 0 ≤ sizeLine; decide, fun l hl => hyes ([], []) (by rw [kw_none, e0]) l [] _ (s1.trans (Pre.same_upd hl)) (s1.free hl) upd_same trivial⟩
          · rw [decide_eq_false h3]
            refine iteF (bad ?_ H1 s1)
            rw [kw_none]
            match es, hl with
            | [], hl => exact absurd (by rw [hl]; rfl) h3
            | _ :: _, _ => rfl
        rw [decide_eq_false h2]
        have n2 : s ≠ "none" := fun z => h2 (by rw [z])
        -- a draw
        refine iteF ⟨_, rfl, rfl, _, rfl, ?_⟩
        by_cases h3 : (V.str s : V) = V.str "draw"
        · rw [decide_eq_true h3]
          injection h3 with h3
          subst h3
          refine iteT ⟨_, rfl, rfl, _, rfl, ?_⟩
          by_cases h4 : (V.int ((V.str "draw" :: ys').length : Int) : V) = V.int 2
          rotate_left
          · rw [decide_eq_false h4]
            refine iteT (iteT (bad ?_ H1 s1))
            rw [kw_draw]
            match es, hl with
            | [], _ => rfl
            | [_], hl => exact absurd (by rw [hl]; rfl) h4
            | _ :: _ :: _, _ => rfl
          rw [decide_eq_true h4]
          have hl2 : es.length = 1 := by
            injection h4 with h4
            omega
          obtain ⟨d1, rfl⟩ : ∃ d1, es = [d1] := by
            match es, hl2 with
            | [d1], _ => exact ⟨d1, rfl⟩
          obtain ⟨x1, rfl, w1⟩ : ∃ x1, ys' = [x1] ∧ Dp K (wo p g H) x1 d1 := by
            cases wR with
            | cons u r => cases r; exact ⟨_, rfl, u⟩
          have kd : kids2 ⟨.tuple [.str "draw", d1], ts, k⟩ = drawK ts k d1 := kw_draw
          refine iteF ⟨_, rfl, a, _, _, _, rfl, rfl, hx1, atI_nat (j := 1) rfl, _, _, _, _, isTp d1, rfl, .ty _, ty_of (dp_same (wo_sub.trans s1) w1), kit_ty (kit_tup d1), _, rfl, ?_⟩
          cases hT : isTp d1 with
          | false =>
            refine iteT (iteT (bad ?_ H1 s1))
            rw [kd]
            cases d1 with
            | tuple _ => cases hT
            | _ => rfl
          | true =>
            obtain ⟨rows, rfl⟩ := isTp_inv hT
            obtain ⟨b, zs, rfl, hbG, hZG⟩ : ∃ b zs, x1 = .ref b ∧ SqT K (wo p g H) b zs ∧ DpAll K (wo p g H) zs rows := by
              cases w1 with
              | tup q r => exact ⟨_, _, rfl, q, r⟩
            have hb := sqT_same (wo_sub.trans s1) hbG
            have hZ := dpAll_same (wo_sub.trans s1) hZG
            have hzl := dpAll_len hZ
            have dk : drawK ts k (.tuple rows) = if rowsOk rows = true then some ([], rows.map fun r => ⟨rowT r, ts, k⟩) else none := rfl
            have badR : rowsOk rows = false → ∀ H', Same H H' → Q .non H' := fun h => bad (by rw [kd, dk, h]; rfl)
            have smr : smAll rows = true := by
              have := sm_mem (ds := [.str "draw", .tuple rows]) hsm (d := .tuple rows) (by simp)
              exact this
            refine iteF ⟨_, rfl, a, _, _, _, rfl, rfl, hx1, atI_nat (j := 1) rfl, b, zs, rfl, .inr hb, _, _, rfl, rfl, _, rfl, ?_⟩
            by_cases m1 : (1 : Int) ≤ (zs.length : Int)
            rotate_left
            · rw [decide_eq_false m1]
              refine iteF ⟨_, rfl, iteT (badR ?_ H1 s1)⟩
              unfold rowsOk
              rw [decide_eq_false (show ¬ 1 ≤ rows.length by omega)]
              rfl
            rw [decide_eq_true m1]
            refine iteT ⟨_, _, rfl, rfl, _, rfl, ?_⟩
            by_cases m2 : (zs.length : Int) ≤ 6
            rotate_left
            · rw [decide_eq_false m2]
              refine iteT (badR ?_ H1 s1)
              unfold rowsOk
              rw [decide_eq_false (show ¬ rows.length ≤ 6 by omega), Bool.and_false]
              rfl
            rw [decide_eq_true m2]
            refine iteF ?_
            have line : 100 < sizeLine := by decide
            refine ⟨_, rfl, a, _, _, _, rfl, rfl, hx1, atI_nat (j := 1) rfl, b, rfl, ⟨_, hb⟩, fun Dl hDl => lc_tup (K := K) (a := b) (xs := zs) (fun i H' => Same H1 H' ∧ ∃ acc, H' Dl = some (.lst acc) ∧ acc.length ≤ i ∧ DpAll K H' acc (List.replicate acc.length (.int 1)) ∧ (acc = [] ↔ (rows.take i).all isRow = true))
              ⟨Pre.same_upd hDl, [], upd_same, Nat.le_refl _, .nil, by simp⟩ (fun i H' _ ⟨s3, _⟩ => sqT_same s3 hb) ?_ ?_⟩
            · rintro i x H2 hxi ⟨s2, acc, hacc, hal, hda, hiff⟩
              obtain ⟨r, hri, hrd⟩ := dpAll_at hZ hxi
              have hil := (List.getElem?_eq_some_iff.mp hxi).1
              have hr2' := dp_same s2 hrd
              have tk : ((rows.take (i + 1)).all isRow) = ((rows.take i).all isRow && isRow r) := by
                rw [List.take_add_one, hri, List.all_append]
                simp
              have app : ∀ H3, Same H2 H3 → isRow r = false → ∃ acc', H3 Dl = some (.lst acc') ∧ acc'.length < sizeLine ∧ (Same H1 (upd H3 Dl (.lst (acc' ++ [.int 1]))) ∧ ∃ acc, upd H3 Dl (.lst (acc' ++ [.int 1])) Dl = some (.lst acc) ∧ acc.length ≤ i + 1 ∧ DpAll K (upd H3 Dl (.lst (acc' ++ [.int 1]))) acc (List.replicate acc.length (.int 1)) ∧ (acc = [] ↔ (rows.take (i + 1)).all isRow = true)) := fun H3 s3 hf => by
                refine ⟨acc, s3 _ _ hacc, by omega, fun b' o eb => by rw [upd_ne (ne_of_none eb hDl)]; exact s3 _ _ (s2 _ _ eb), acc ++ [.int 1], upd_same, by rw [List.length_append, List.length_singleton]; omega, ?_, ?_⟩
                · rw [List.length_append, List.length_singleton, List.replicate_succ']
                  have one : ∀ (m : Nat) (H' : Hp) (l : List V), DpAll K H3 l (List.replicate m (.int 1)) → DpAll K H' l (List.replicate m (.int 1)) := fun m => by
                    induction m with
                    | zero => intro H' l h; cases h; exact .nil
                    | succ m ih =>
                      intro H' l h
                      cases h with
                      | cons h1 h2 =>
                        cases h1
                        exact .cons (.int _) (ih H' _ h2)
                  exact dpAll_snoc (one _ _ _ (dpAll_same s3 hda)) (.int _)
                · rw [tk, hf, Bool.and_false]
                  simp
              have skp : ∀ H3, Same H2 H3 → isRow r = true → (Same H1 H3 ∧ ∃ acc, H3 Dl = some (.lst acc) ∧ acc.length ≤ i + 1 ∧ DpAll K H3 acc (List.replicate acc.length (.int 1)) ∧ (acc = [] ↔ (rows.take (i + 1)).all isRow = true)) := fun H3 s3 hf =>
                ⟨s2.trans s3, acc, s3 _ _ hacc, by omega, dpAll_same s3 hda, by rw [tk, hf, Bool.and_true]; exact hiff⟩
              refine ⟨rfl, _, rfl, _, _, _, _, isTp r, rfl, .ty _, ty_of hr2', kit_ty (kit_tup r), _, rfl, ?_⟩
              cases hTr : isTp r with
              | false =>
                refine iteT (iteT (app H2 (Same.refl _) ?_))
                cases r with
                | tuple _ => cases hTr
                | _ => rfl
              | true =>
                obtain ⟨rs, rfl⟩ := isTp_inv hTr
                obtain ⟨rb, rxs, rfl, hrT, hrD⟩ : ∃ rb rxs, x = .ref rb ∧ SqT K H2 rb rxs ∧ DpAll K H2 rxs rs := by
                  cases hr2' with
                  | tup q r => exact ⟨_, _, rfl, q, r⟩
                have hrl := dpAll_len hrD
                refine iteF ⟨_, rfl, rb, rxs, rfl, .inr hrT, rfl, _, rfl, ?_⟩
                by_cases l2 : (V.int (rxs.length : Int) : V) = V.int 2
                rotate_left
                · rw [decide_eq_false l2]
                  refine iteT (iteT (app H2 (Same.refl _) ?_))
                  match rs, hrl with
                  | [], _ => rfl
                  | [_], _ => rfl
                  | [_, _], hl => exact absurd (by rw [hl]; rfl) l2
                  | _ :: _ :: _ :: _, _ => rfl
                rw [decide_eq_true l2]
                have l2' : rs.length = 2 := by
                  injection l2 with l2
                  omega
                obtain ⟨e1, e2, rfl⟩ : ∃ e1 e2, rs = [e1, e2] := by
                  match rs, l2' with
                  | [e1, e2], _ => exact ⟨e1, e2, rfl⟩
                obtain ⟨y1, y2, rfl, v1⟩ : ∃ y1 y2, rxs = [y1, y2] ∧ Dp K H2 y1 e1 := by
                  cases hrD with
                  | cons u1 r => cases r with
                    | cons u2 r => cases r; exact ⟨_, _, rfl, u1⟩
                refine iteF ⟨_, rfl, rb, _, _, _, rfl, rfl, hrT, atI_nat (j := 0) rfl, y1, e1, rfl, v1, sm_mem (ds := [e1, e2]) (sm_mem smr (List.mem_of_getElem? hri)) (by simp), fun H3 s3 => ⟨_, rfl, ?_⟩⟩
                have er : isRow (.tuple [e1, e2]) = isPosW e1 := rfl
                cases hP : isPosW e1 with
                | false => exact iteT (app H3 s3 (by rw [er, hP]))
                | true => exact iteF (skp H3 s3 (by rw [er, hP]))
            · rintro H2 ⟨s2, acc, hacc, hal, hda, hiff⟩
              rw [hzl, List.take_length] at hiff
              refine ⟨by show 0 ≤ sizeLine; decide, fun l0 hl0 => ?_⟩
              have s3 := Pre.same_upd (o := .lst []) hl0
              have okA : Ok 1 (.list (List.replicate acc.length (.int 1))) := ok_lstD (m := 0) fun d hd => by
                rw [List.eq_of_mem_replicate hd]
                exact ⟨rfl, Nat.le_refl _⟩
              refine ⟨.list (List.replicate acc.length (.int 1)), .list [], .lst (SqL.of (s3 _ _ hacc)) (dpAll_same s3 hda), .lst (SqL.of upd_same) .nil, ok_sh okA (by decide), by decide +kernel, _, rfl, ?_⟩
              have s13 := s2.trans s3
              generalize upd H2 l0 (.lst []) = H3 at s3 s13
              rw [eqv_nilL]
              by_cases hemp : acc = []
              rotate_left
              · have : (List.replicate acc.length (PyData.int 1)).isEmpty = false := by
                  cases acc with
                  | nil => exact absurd rfl hemp
                  | cons _ _ => rfl
                rw [this]
                refine iteT (badR ?_ H3 (s1.trans s13))
                have hall : rows.all isRow = false := by
                  cases q : rows.all isRow with
                  | false => rfl
                  | true => exact absurd (hiff.mpr q) hemp
                unfold rowsOk
                rw [hall, Bool.false_and, Bool.and_false]
              · have : (List.replicate acc.length (PyData.int 1)).isEmpty = true := by rw [hemp]; rfl
                rw [this]
                have hall := hiff.mp hemp
                refine iteF ?_
                have hrw := rows_ws hZ hall
                have hsz : ∀ u ∈ rows.map rowW, Wt.sz 300 u ∧ 1 ≤ u.2 := fun u hu => by
                  obtain ⟨r, hr', rfl⟩ := List.mem_map.mp hu
                  obtain ⟨c', e', t', rfl, hw, _⟩ := row_of (List.all_eq_true.mp hall r hr')
                  exact ⟨sm_row (sm_mem (ds := rows) smr hr'), isW_pos hw⟩
                refine ⟨_, rfl, a, _, _, _, rfl, rfl, sqT_same s13 hx1, atI_nat (j := 1) rfl, b, rfl, ⟨_, sqT_same s13 hb⟩, fun D2 hDn2 => lc_tup (K := K) (a := b) (xs := zs) (fun i H' => Same H3 H' ∧ ∃ acc, H' D2 = some (.lst acc) ∧ acc.length = i ∧ ∀ (j : Nat) u, j < i → (rows.map rowW)[j]? = some u → ∃ b, acc[j]? = some (.ref b) ∧ At K H1 b u)
                  ⟨Pre.same_upd hDn2, [], upd_same, rfl, fun j u h => by omega⟩ (fun i H' _ ⟨s4, _⟩ => sqT_same (s13.trans s4) hb) ?_ ?_⟩
                · rintro i x H' hxi ⟨s4, acc, hacc, hal, hat⟩
                  obtain ⟨a', y', b', c', e', t', rfl, hri, q, hb', _, _, _⟩ := hrw i x hxi
                  refine ⟨rfl, _, rfl, a', _, _, _, rfl, rfl, sqT_same (s13.trans s4) q, atI_nat (j := 0) rfl, acc, hacc, Nat.lt_of_lt_of_le (show acc.length < 10 by have := (List.getElem?_eq_some_iff.mp hxi).1; omega) (by decide), fun b o e => ?_, acc ++ [.ref b'], upd_same, by rw [List.length_append, hal]; rfl, fun j u hj hu => ?_⟩
                  · rw [upd_ne (ne_of_none e hDn2)]
                    exact s4 _ _ e
                  · rcases Nat.lt_or_ge j i with hji | hji
                    · obtain ⟨b, h1, h2⟩ := hat j u hji hu
                      exact ⟨b, by rw [List.getElem?_append_left (by omega)]; exact h1, h2⟩
                    · have ej : j = i := by omega
                      subst ej
                      rw [List.getElem?_map, hri] at hu
                      cases hu
                      exact ⟨b', by rw [List.getElem?_append_right (by omega), hal, Nat.sub_self]; rfl, hb'⟩
                · rintro H4 ⟨s4, acc, hacc, hal, hat⟩
                  have s14 := s13.trans s4
                  have hml : (rows.map rowW).length = rows.length := List.length_map ..
                  refine ⟨D2, acc, rows.map rowW, rfl, SqL.of hacc, ⟨by rw [hal, hml, hzl], fun j u hu => ?_⟩, by rw [hml]; omega, hsz, fun q H5 s5 hq => ?_⟩
                  · obtain ⟨b, h1, h2⟩ := hat j u (by have := (List.getElem?_eq_some_iff.mp hu).1; omega) hu
                    exact ⟨b, h1, sqT_same s14 h2⟩
                  have s15 := s14.trans s5
                  refine ⟨_, rfl, q, _, _, _, rfl, rfl, hq, atI_nat (j := 0) rfl, _, rfl, q, _, _, _, rfl, rfl, hq, atI_nat (j := 1) rfl, _, _, rfl, rfl, _, rfl, ?_⟩
                  by_cases hle : (tot (rows.map rowW)).1 ≤ (tot (rows.map rowW)).2
                  rotate_left
                  · rw [decide_eq_false hle]
                    refine iteF (badR ?_ H5 (s1.trans s15))
                    unfold rowsOk leOne
                    rw [decide_eq_false hle, Bool.and_false, Bool.and_false]
                  · rw [decide_eq_true hle]
                    have hok' : rowsOk rows = true := by
                      unfold rowsOk leOne
                      rw [hall, decide_eq_true hle, decide_eq_true (show 1 ≤ rows.length by omega), decide_eq_true (show rows.length ≤ 6 by omega)]
                      rfl
                    have ks_ := hyes ([], rows.map fun r => (⟨rowT r, ts, k⟩ : Cn)) (by rw [kd, dk, hok']; rfl)
                    have hA1 := s1 _ _ hA
                    refine iteT ⟨_, rfl, a, _, _, _, rfl, rfl, sqT_same s15 hx1, atI_nat (j := 1) rfl, b, rfl, ⟨_, sqT_same s15 hb⟩, fun D3 hDn3 => lc_tup (K := K) (a := b) (xs := zs) (fun i H' => Same H5 H' ∧ ∃ acc, H' D3 = some (.lst acc) ∧ acc.length = i ∧ WAll K (W2 D3 p g H') acc ((rows.take i).map fun r => ⟨rowT r, ts, k⟩))
                      ⟨Pre.same_upd hDn3, [], upd_same, rfl, trivial⟩ (fun i H' _ ⟨s6, _⟩ => sqT_same (s15.trans s6) hb) ?_ ?_⟩
                    · rintro i x H' hxi ⟨s6, acc, hacc, hal, hdp⟩
                      have s16 := s15.trans s6
                      have hil := (List.getElem?_eq_some_iff.mp hxi).1
                      obtain ⟨a', y', b', c', e', t', rfl, hri, qG, _, hy2, _, _⟩ := rows_ws hZG hall i x hxi
                      have q := sqT_same (wo_sub.trans s1) qG
                      refine ⟨rfl, _, rfl, a', _, _, _, rfl, rfl, sqT_same s16 q, atI_nat (j := 1) rfl, _, rfl, _, rfl, by show 3 ≤ sizeLine; decide, fun tp htp => ?_⟩
                      have s7 := Pre.same_upd (o := .tup [y', .ref A, .int k]) htp
                      have hDt : D3 ≠ tp := fun z => by
                        rw [← z, hacc] at htp
                        cases htp
                      have av' := av1.same s16
                      have hin : Same (wo p g H) (W2 D3 p g (upd (upd H' tp (.tup [y', .ref A, .int k])) D3 (.lst (acc ++ [.ref tp])))) := ((wo_mono (s1.trans s15)).trans (w2_in hDn3 (s6.trans s7))).trans w2_upd
                      refine ⟨acc, by rw [upd_ne hDt]; exact hacc, Nat.lt_of_lt_of_le (show acc.length < 100 by omega) (by decide), fun b' o eb => ?_, acc ++ [.ref tp], upd_same, by rw [List.length_append, hal]; rfl, ?_⟩
                      · rw [upd_ne (ne_of_none eb hDn3)]
                        exact s7 _ _ (s6 _ _ eb)
                      · have eT : ((rows.take (i + 1)).map fun r => (⟨rowT r, ts, k⟩ : Cn)) = ((rows.take i).map fun r => (⟨rowT r, ts, k⟩ : Cn)) ++ [⟨t', ts, k⟩] := by
                          rw [List.take_succ, hri, List.map_append]
                          rfl
                        rw [eT]
                        refine wall_snoc (wall_same ((w2_mono s7).trans w2_upd) hdp) ?_
                        exact ⟨tp, y', A, xs, rfl, SqT.of (w2_upd _ _ (w2_new av' hacc htp)), dp_same hin hy2, hin _ _ (wo_at nAp nAg hA), dpAll_same hin hts0⟩
                    · rintro H6 ⟨s6, acc, hacc, hal, hdp⟩
                      rw [hzl, List.take_length] at hdp
                      refine ks_ D3 acc H6 (s1.trans (s15.trans s6)) ((s1.trans s15).free hDn3) hacc ?_
                      rw [List.append_nil]
                      exact wall_same w2_sub hdp
        rw [decide_eq_false h3]
        have n3 : s ≠ "draw" := fun z => h3 (by rw [z])
        refine iteF ⟨_, rfl, rfl, _, rfl, ?_⟩
        by_cases h4 : (V.str s : V) = V.str "ask"
        rotate_left
        · rw [decide_eq_false h4]
          exact iteT (iteT (bad (kw_else n1 n2 n3 fun z => h4 (by rw [z])) H1 s1))
        rw [decide_eq_true h4]
        injection h4 with h4
        subst h4
        refine iteF ⟨_, rfl, rfl, _, rfl, ?_⟩
        by_cases h5 : (V.int ((V.str "ask" :: ys').length : Int) : V) = V.int 4
        rotate_left
        · rw [decide_eq_false h5]
          refine iteT (iteT (bad ?_ H1 s1))
          rw [kw_ask]
          match es, hl with
          | [], _ => rfl
          | [_], _ => rfl
          | [_, _], _ => rfl
          | [_, _, _], hl => exact absurd (by rw [hl]; rfl) h5
          | _ :: _ :: _ :: _ :: _, _ => rfl
        rw [decide_eq_true h5]
        have hl3 : es.length = 3 := by
          injection h5 with h5
          omega
        obtain ⟨d1, d2, d3, rfl⟩ : ∃ d1 d2 d3, es = [d1, d2, d3] := by
          match es, hl3 with
          | [d1, d2, d3], _ => exact ⟨d1, d2, d3, rfl⟩
        obtain ⟨x1, x2, x3, rfl, w1, w2, w3⟩ : ∃ x1 x2 x3, ys' = [x1, x2, x3] ∧ Dp K (wo p g H) x1 d1 ∧ Dp K (wo p g H) x2 d2 ∧ Dp K (wo p g H) x3 d3 := by
          cases wR with
          | cons u1 r => cases r with
            | cons u2 r => cases r with
              | cons u3 r => cases r; exact ⟨_, _, _, rfl, u1, u2, u3⟩
        have ka : kids2 ⟨.tuple [.str "ask", d1, d2, d3], ts, k⟩ = askK ts k d1 d2 d3 := kw_ask
        have none_of : (∀ v a hs rs, d1 = .int v → d2 = .tuple hs → d3 = .tuple rs → 0 ≤ v → ts[v.toNat]? = some a → hs.length = a.args.length → (rs.length : Int) = a.ans → False) → ∀ H', Same H H' → Q .non H' := fun h => bad (by
          rw [ka]
          cases hq : askK ts k d1 d2 d3 with
          | none => rfl
          | some q =>
            obtain ⟨v, a, hs, rs, e1, e2, e3, e4, e5, e6, e7⟩ := askK_inv hq
            exact (h v a hs rs e1 e2 e3 e4 e5 e6 e7).elim)
        refine iteF ⟨_, rfl, a, _, _, _, rfl, rfl, hx1, atI_nat (j := 1) rfl, x1, d1, rfl, dp_same (wo_sub.trans s1) w1, _, rfl, ?_⟩
        cases hi : isInt d1 with
        | false =>
          refine iteT (iteT (none_of (fun v a hs rs e1 _ _ _ _ _ _ => ?_) H1 s1))
          rw [e1] at hi
          cases hi
        | true =>
          obtain ⟨v, rfl⟩ := isInt_inv hi
          cases w1
          have hA1 := s1 _ _ hA
          have hxl : xs.length = ts.length := by rw [dpAll_len hts0, List.length_map]
          refine iteF ⟨_, rfl, a, _, _, _, rfl, rfl, hx1, atI_nat (j := 1) rfl, _, _, rfl, rfl, _, rfl, ?_⟩
          by_cases c0 : (0 : Int) ≤ v
          rotate_left
          · rw [decide_eq_false c0]
            refine iteF ⟨_, rfl, iteT (none_of (fun v' a hs rs e1 _ _ e4 _ _ _ => ?_) H1 s1)⟩
            cases e1
            exact c0 e4
          rw [decide_eq_true c0]
          obtain ⟨n, rfl⟩ : ∃ n : Nat, v = (n : Int) := ⟨v.toNat, by omega⟩
          refine iteT ⟨_, rfl, A, xs, rfl, .inl (SqL.of hA1), _, _, rfl, rfl, _, rfl, ?_⟩
          by_cases c1 : ((n : Nat) : Int) < (xs.length : Int)
          rotate_left
          · rw [decide_eq_false c1]
            refine iteT (none_of (fun v' a hs rs e1 _ _ e4 e5 _ _ => ?_) H1 s1)
            cases e1
            rw [Int.toNat_natCast] at e5
            have := (List.getElem?_eq_some_iff.mp e5).1
            omega
          rw [decide_eq_true c1]
          refine iteF ?_
          have hn : n < ts.length := by omega
          have ht : ts[n]? = some ts[n] := List.getElem?_eq_getElem hn
          generalize ts[n] = t at ht
          obtain ⟨xi, hxi⟩ : ∃ xi, xs[n]? = some xi := ⟨xs[n], List.getElem?_eq_getElem (by omega)⟩
          obtain ⟨dt, hdt, hdp⟩ := dpAll_at hts0 hxi
          rw [List.getElem?_map, ht] at hdt
          cases hdt
          obtain ⟨tn, tg⟩ := hts t (List.mem_of_getElem? ht)
          have ta := ans_good tg
          have al := args_few t
          refine ⟨_, rfl, _, rfl, a, _, _, _, rfl, rfl, hx1, atI_nat (j := 1) rfl, A, xs, _, xi, rfl, rfl, SqL.of hA1, atI_nat hxi, xi, t, rfl, dp_same (wo_sub.trans s1) hdp, by omega, fun q Wl zs H2 s2 hq hWn hWl hzs => ?_⟩
          refine ⟨q, _, rfl, hq, rfl, _, _, rfl, _, _, rfl, rfl, ?_⟩
          have hzl : zs.length = t.args.length := by rw [dpAll_len hzs, List.length_map]
          have s12 := s1.trans s2
          have hx2 := sqT_same s2 hx1
          have av2 := av1.same s2
          have hzs2 := dpAll_same s2 hzs
          refine ⟨_, rfl, a, _, _, _, rfl, rfl, hx2, atI_nat (j := 2) rfl, _, _, _, _, isTp d2, rfl, .ty _, ty_of (dp_same (wo_sub.trans s12) w2), kit_ty (kit_tup d2), _, rfl, ?_⟩
          cases hT2 : isTp d2 with
          | false =>
            refine iteT (iteT (none_of (fun v' a hs rs e1 e2 _ _ _ _ _ => ?_) H2 s12))
            rw [e2] at hT2
            cases hT2
          | true =>
            obtain ⟨hs, rfl⟩ := isTp_inv hT2
            obtain ⟨ah, vh, rfl, hhT, hH⟩ := kds_tup w2
            have hvl := dpAll_len hH
            have hhT2 := sqT_same (wo_sub.trans s12) hhT
            refine iteF ⟨_, rfl, a, _, _, _, rfl, rfl, hx2, atI_nat (j := 2) rfl, ah, vh, rfl, .inr hhT2, _, rfl, Wl, zs, rfl, .inl (SqL.of hWl), rfl, _, rfl, ?_⟩
            by_cases hh : (V.int (vh.length : Int) : V) = V.int (zs.length : Int)
            rotate_left
            · rw [decide_eq_false hh]
              refine iteT (none_of (fun v' a hs rs e1 e2 _ _ e5 e6 _ => hh ?_) H2 s12)
              cases e1
              cases e2
              rw [Int.toNat_natCast, ht] at e5
              cases e5
              rw [hvl, e6, hzl]
            rw [decide_eq_true hh]
            have hh' : vh.length = zs.length := by
              injection hh with hh
              omega
            refine iteF ⟨_, rfl, a, _, _, _, rfl, rfl, hx2, atI_nat (j := 3) rfl, _, _, _, _, isTp d3, rfl, .ty _, ty_of (dp_same (wo_sub.trans s12) w3), kit_ty (kit_tup d3), _, rfl, ?_⟩
            cases hT3 : isTp d3 with
            | false =>
              refine iteT (iteT (none_of (fun v' a hs rs e1 _ e3 _ _ _ _ => ?_) H2 s12))
              rw [e3] at hT3
              cases hT3
            | true =>
              obtain ⟨rs, rfl⟩ := isTp_inv hT3
              obtain ⟨ar, vr, rfl, hrT, hR⟩ := kds_tup w3
              have hrl := dpAll_len hR
              have hrT2 := sqT_same (wo_sub.trans s12) hrT
              refine iteF ⟨_, rfl, a, _, _, _, rfl, rfl, hx2, atI_nat (j := 3) rfl, ar, vr, rfl, .inr hrT2, _, rfl, rfl, _, rfl, ?_⟩
              by_cases hrr : (V.int (vr.length : Int) : V) = V.int t.ans
              rotate_left
              · rw [decide_eq_false hrr]
                refine iteT (none_of (fun v' a hs rs e1 _ e3 _ e5 _ e7 => hrr ?_) H2 s12)
                cases e1
                cases e3
                rw [Int.toNat_natCast, ht] at e5
                cases e5
                rw [hrl, e7]
              rw [decide_eq_true hrr]
              have hrr' : (rs.length : Int) = t.ans := by
                injection hrr with hrr
                omega
              refine iteF ?_
              have yes := hyes (askH ts t hs, rs.map fun r => ⟨r, ts, k⟩) (by rw [ka, askK_is ht (by omega) hrr'])
              clear none_of hno hyes bad
              have line : 100 < sizeLine := by decide
              -- the rows
              refine ⟨_, rfl, a, _, _, _, rfl, rfl, hx2, atI_nat (j := 3) rfl, ar, rfl, ⟨_, hrT2⟩, fun L hLn => lc_tup (K := K) (a := ar) (xs := vr) (fun i H' => Same H2 H' ∧ ∃ acc2, H' L = some (.lst acc2) ∧ acc2.length = i ∧ WAll K (W2 L p g H') acc2 ((rs.take i).map fun r => ⟨r, ts, k⟩))
                ⟨Pre.same_upd hLn, [], upd_same, rfl, trivial⟩ (fun i H' _ ⟨s3, _⟩ => sqT_same s3 hrT2) ?_ ?_⟩
              · rintro i x' H3 hxi' ⟨s3, acc2, hacc2, hal2, hdp2⟩
                obtain ⟨r, hri, hrd⟩ := dpAll_at hR hxi'
                have hil := (List.getElem?_eq_some_iff.mp hri).1
                refine ⟨rfl, _, rfl, _, rfl, _, rfl, by show 3 ≤ sizeLine; decide, fun tp htp => ?_⟩
                have s6 := Pre.same_upd (o := .tup [x', .ref A, .int k]) htp
                have hDt : L ≠ tp := fun z => by
                  rw [← z, hacc2] at htp
                  cases htp
                have av3 := av2.same s3
                have hin : Same (wo p g H) (W2 L p g (upd (upd H3 tp (.tup [x', .ref A, .int k])) L (.lst (acc2 ++ [.ref tp])))) := ((wo_mono s12).trans (w2_in hLn (s3.trans s6))).trans w2_upd
                refine ⟨acc2, by rw [upd_ne hDt]; exact hacc2, by omega, fun b o e => ?_, acc2 ++ [.ref tp], upd_same, by rw [List.length_append, hal2]; rfl, ?_⟩
                · rw [upd_ne (ne_of_none e hLn)]
                  exact s6 _ _ (s3 _ _ e)
                · have eT : ((rs.take (i + 1)).map fun r => (⟨r, ts, k⟩ : Cn)) = ((rs.take i).map fun r => (⟨r, ts, k⟩ : Cn)) ++ [⟨r, ts, k⟩] := by
                    rw [List.take_succ, hri, List.map_append]
                    rfl
                  rw [eT]
                  refine wall_snoc (wall_same ((w2_mono s6).trans w2_upd) hdp2) ?_
                  exact ⟨tp, x', A, xs, rfl, SqT.of (w2_upd _ _ (w2_new av3 hacc2 htp)), dp_same hin hrd, hin _ _ (wo_at nAp nAg hA), dpAll_same hin hts0⟩
              · rintro H3 ⟨s3, acc2, hacc2, hal2, hdp2⟩
                rw [hrl, List.take_length] at hdp2
                have av3 := av2.same s3
                have nL := av2.ne hLn
                have nWL : Wl ≠ L := fun z => by
                  rw [z, hLn] at hWl
                  cases hWl
                -- what is handed
                refine ⟨_, rfl, _, rfl, a, _, _, _, rfl, rfl, sqT_same s3 hx2, atI_nat (j := 2) rfl, Wl, ah, zs, vh, rfl, SqL.of (s3 _ _ hWl), sqT_same s3 hhT2, ZM.for_zipM (K := K) (by omega) (fun i σ H' => ∃ (o4 o9 o10 o11 o12 : Option V), σ = [some (.ref a), some (.ref A), some (.int k), some (.str "ask"), o4, none, some (.ref Wl), some (.int t.ans), some (.ref L), o9, o10, o11, o12, none] ∧ Same H2 H' ∧ ∃ acc, H' L = some (.lst acc) ∧ acc.length ≤ 6 + i ∧ WAll K (W2 L p g H') acc ((rs.map fun r => ⟨r, ts, k⟩) ++ (askH ts t hs).take i))
                  ⟨_, none, none, none, none, rfl, s3, acc2, hacc2, by omega, by rw [List.take_zero, List.append_nil]; exact hdp2⟩ (fun i σ H' ⟨_, _, _, _, _, _, s4, _⟩ => ⟨SqL.of (s4 _ _ hWl), sqT_same s4 hhT2⟩) ?_ ?_⟩
                · rintro i x' y' T σ H4 hxi' hyi' ⟨o4, o9, o10, o11, o12, rfl, s4, acc, hacc, hal, hdpA⟩ hT
                  have s5 := Pre.same_upd (o := .tup [x', y']) hT
                  obtain ⟨hd_, hhd, hdx⟩ := dpAll_at hH hyi'
                  obtain ⟨kd_, hkd, hdy⟩ := dpAll_at hzs2 hxi'
                  rw [List.getElem?_map] at hkd
                  obtain ⟨kd, hkd', rfl⟩ : ∃ kd, t.args[i]? = some kd ∧ kd.dat = kd_ := by
                    cases q : t.args[i]? with
                    | none => rw [q] at hkd; cases hkd
                    | some kd => rw [q] at hkd; cases hkd; exact ⟨kd, rfl, rfl⟩
                  have hil := (List.getElem?_eq_some_iff.mp hkd').1
                  have kn := arg_nums (List.mem_of_getElem? hkd')
                  have kaf := args_few kd
                  have s45 := s4.trans s5
                  refine ⟨T, _, rfl, SqT.of upd_same, rfl, _, _, rfl, _, _, rfl, rfl, ?_⟩
                  refine ⟨_, rfl, x', kd, rfl, dp_same s45 hdy, by omega, fun p2 l2 os H5 s6 hp2 hl2n hl2 hos => ?_⟩
                  refine ⟨p2, _, rfl, hp2, rfl, _, _, rfl, _, _, rfl, rfl, ?_⟩
                  have hol : os.length = kd.args.length := by rw [dpAll_len hos, List.length_map]
                  have s46 := s45.trans s6
                  have hacc5 := s6 _ _ (s5 _ _ hacc)
                  refine ⟨_, rfl, .inl ⟨rfl, _, SqL.of hacc5⟩, _, rfl, _, rfl, _, rfl, A, l2, xs, os, rfl, rfl, s46 _ _ (s12 _ _ hA), hl2, Nat.le_trans (show xs.length + os.length ≤ 1000 by omega) (by decide), fun l3 hl3 => ?_⟩
                  have s7 := Pre.same_upd (o := .lst (xs ++ os)) hl3
                  refine ⟨_, rfl, by show 3 ≤ sizeLine; decide, fun tp htp => ?_⟩
                  have s8 := Pre.same_upd (o := .tup [y', .ref l3, .int kd.ans]) htp
                  have hacc7 := s7 _ _ hacc5
                  have hLt : L ≠ tp := fun z => by
                    rw [← z, hacc7] at htp
                    cases htp
                  have av5 := av2.same s46
                  have av7 := av5.same s7
                  have s47 := s46.trans s7
                  refine ⟨L, acc, _, rfl, rfl, by rw [upd_ne hLt]; exact hacc7, by omega, ?_⟩
                  have hin : Same (wo p g H2) (W2 L p g (upd (upd (upd H5 l3 (.lst (xs ++ os))) tp (.tup [y', .ref l3, .int kd.ans])) L (.lst (acc ++ [.ref tp])))) := (w2_in hLn (s47.trans s8)).trans w2_upd
                  have up7 : Same (W2 L p g (upd H5 l3 (.lst (xs ++ os)))) (W2 L p g (upd (upd (upd H5 l3 (.lst (xs ++ os))) tp (.tup [y', .ref l3, .int kd.ans])) L (.lst (acc ++ [.ref tp])))) := (w2_mono s8).trans w2_upd
                  have hthings : (W2 L p g (upd (upd (upd H5 l3 (.lst (xs ++ os))) tp (.tup [y', .ref l3, .int kd.ans])) L (.lst (acc ++ [.ref tp])))) l3 = some (.lst (xs ++ os)) ∧ DpAll K (W2 L p g (upd (upd (upd H5 l3 (.lst (xs ++ os))) tp (.tup [y', .ref l3, .int kd.ans])) L (.lst (acc ++ [.ref tp])))) (xs ++ os) ((ts ++ kd.args).map Kd.dat) := by
                    have h1 : DpAll K (upd H5 l3 (.lst (xs ++ os))) (xs ++ os) ((ts ++ kd.args).map Kd.dat) := by
                      rw [List.map_append]
                      exact dpAll_app (dpAll_same (wo_sub.trans (s12.trans s47)) hts0) (dpAll_same (s6.trans s7) hos)
                    have h2 := (av7.wo nL.1 nL.2 hacc7 (noTup_lst _)).kdAll (av7.kdAll h1)
                    exact ⟨up7 _ _ (w2_new av5 hacc5 hl3), dpAll_same up7 h2⟩
                  refine ⟨_, _, _, _, _, rfl, fun b o e => ?_, acc ++ [.ref tp], upd_same, by rw [List.length_append, List.length_singleton]; omega, ?_⟩
                  · rw [upd_ne (ne_of_none e hLn)]
                    exact s8 _ _ (s47 _ _ e)
                  · rw [askH_take hhd hkd', ← List.append_assoc]
                    refine wall_snoc (wall_same (((w2_mono (s5.trans (s6.trans s7))).trans (w2_mono s8)).trans w2_upd) hdpA) ?_
                    exact ⟨tp, y', l3, xs ++ os, rfl, SqT.of (w2_upd _ _ (w2_new av7 hacc7 htp)), dp_same ((wo_mono s12).trans hin) hdx, hthings.1, hthings.2⟩
                · rintro σ H4 ⟨o4, o9, o10, o11, o12, rfl, s4, acc, hacc, hal, hdpA⟩
                  have hAl : (askH ts t hs).length = vh.length := by
                    unfold askH
                    rw [List.length_zipWith]
                    omega
                  rw [← hAl, List.take_length] at hdpA
                  refine ⟨_, rfl, yes L acc H4 (s12.trans s4) (s12.free hLn) hacc ?_⟩
                  exact wall_same w2_sub hdpA
end
end Tk

namespace Tk
open PySem PySem.Spec PyProof.Rows L2
open Wt Kn Dc
abbrev sIsL : Stmt := Pre.top 56
theorem scIsL : FnScope ["one", "things", "k", "left", "here", "around", "many", "found"] ["one", "things", "k"] (defScope sIsL) := ⟨rfl, rfl, rfl, by decide +kernel, rfl, by decide +kernel, by decide +kernel⟩
structure IvK (c : Cn) : Prop where
  ts : ∀ t ∈ c.ts, t.nums ≤ 8 ∧ t.good
  l : c.ts.length + 8 * c.t.depth ≤ 420
  sm : sm c.t = true
  ok : Ok 50 c.t
theorem can_mem' : ∀ {ds : List PyData} {d : PyData}, PyData.canLayAll0 ds = true → d ∈ ds → d.canLay0 = true := fun h hd => can_mem h hd
theorem ivk_kid {c : Cn} {p : List Cn × List Cn} (h : kids2 c = some p) (hi : IvK c) : ∀ q ∈ p.1 ++ p.2, IvK q := by
  intro q hq
  have hd := kid_dep h q hq
  have hs := kid_cl sm_mem (fun h => h) h hi.sm q hq
  have hc := kid_cl (P := fun d => d.canLay0) (PA := fun ds => PyData.canLayAll0 ds) can_mem' (fun h => h) h hi.ok.1 q hq
  have hk : Ok 50 q.t := ⟨hc, by have := hi.ok.2; omega⟩
  have same : q.ts = c.ts → IvK q := fun e => ⟨by rw [e]; exact hi.ts, by rw [e]; have := hi.l; omega, hs, hk⟩
  cases kid_of h with
  | non _ e => subst e; cases hq
  | ans b _ _ _ e => subst e; cases hq
  | draw rows ht ok e =>
    subst e
    obtain ⟨r, hr, e⟩ := List.mem_map.mp hq
    exact same (by rw [← e])
  | ask v a hs' rs ht h0 ha l1 l2 e =>
    subst e
    rcases List.mem_append.mp hq with hq | hq
    · obtain ⟨_, kd, hkd, e1, _⟩ := askH_mem hq
      obtain ⟨an, ag⟩ := hi.ts a (List.mem_of_getElem? ha)
      have kn := arg_nums hkd
      have kg := arg_good ag hkd
      have kl := args_few kd
      refine ⟨fun t ht => ?_, ?_, hs, hk⟩
      · rw [e1] at ht
        rcases List.mem_append.mp ht with z | z
        · exact hi.ts t z
        · have := arg_nums z
          exact ⟨by omega, arg_good kg z⟩
      · rw [e1, List.length_append]
        have := hi.l
        omega
    · obtain ⟨r, hr, e⟩ := List.mem_map.mp hq
      exact same (by rw [← e])
theorem all_snoc {W : List Cn} {c : Cn} : (W ++ [c]).all G = (W.all G && G c) := by
  rw [List.all_append]
  simp
section
variable {P0 : Program} {w : World} {K : PySem.W.Frag} {mg : Str → Option Value} {base : Heap}
def spIsL (K : PySem.W.Frag) : Sp := fun vs H Q _ => ∃ (x : V) (A : Addr) (d : PyData) (xs : List V) (ts : List Kd) (k : Int) (p g : Addr), vs = [x, .ref A, .int k] ∧ Av H p g ∧ A ≠ p ∧ A ≠ g ∧ Dp K (wo p g H) x d ∧ H A = some (.lst xs) ∧ DpAll K (wo p g H) xs (ts.map Kd.dat) ∧ (∀ t ∈ ts, t.nums ≤ 8 ∧ t.good) ∧ ts.length ≤ 10 ∧ Ob 50 4000 d ∧
  ∀ H', Same H H' → Q (.bl (G ⟨d, ts, k⟩)) H'
set_option maxHeartbeats 2000000 in
theorem ok_isL {f fI : Addr} {fd dI : FuncData} (F : Fun K "_law_k24_is" "_law_k24_is" sIsL f fd) (T : TxtW mg) (GI : ∀ base, FnOk P0 w K mg base CX0 4 fI dI ["here", "around", "many"] (spInner K)) (FI : Fun K "_law_k24_inner" "_law_k24_inner" sInner fI dI) (mI : mg "_law_k24_inner" = some (.ref fI)) : FnOk P0 w K mg base CX0 5 f fd ["one", "things", "k"] (spIsL K) := by
  have GI := GI base
  have bI := FI.binds (ps := ["here", "around", "many"]) fun _ _ _ _ _ _ us hl => match us, hl with | [_, _, _], _ => rfl
  refine F.ok scIsL (fun vs H Q E h => ?_) (fun cdv Ax outer s H vs Q E hr h => ?_)
  · obtain ⟨x, A, d, xs, ts, k, p, g, rfl, _⟩ := h
    rfl
  · obtain ⟨x, A, d, xs, ts, k, p, g, rfl, av, nAp, nAg, hx, hA, hts0, hts, htl, hob, kk⟩ := h
    have nd := scIsL.nd
    refine ⟨_, pss_cons (ps_set (i := 3) nd rfl (Or.inl rfl) (pe_lst (pa_cons (pe_tup (pa_cons (pv 0) (pa_cons (pe_callTy call_list_of (by rfl) T.list (by decide +kernel) (pa_cons (pv 1) pa_nil)) (pa_cons (pv 2) pa_nil)))) pa_nil)))
      (pss_cons (ps_while PassesOwn.never (pt_cmpR (op_neD hr.units) (pv 3) (pe_lst pa_nil) (nomark _))
        (pss_cons (ps_asg (pe_bm0 PySem.F.plainAttrs_list PySem.F.slot_list_pop PySem.F.type_list_pop mt_pop (pv 3)) (pg_tup (by rfl) (pgs_cons (pg_name (i := 4) nd rfl (Or.inl rfl)) (pgs_cons (pg_name (i := 5) nd rfl (Or.inl rfl)) (pgs_cons (pg_name (i := 6) nd rfl (Or.inl rfl)) pgs_nil)))))
        (pss_cons (ps_set (i := 7) nd rfl (Or.inl rfl) (pe_call GI hr (by rfl) mI FI.kp bI .nil pass0 (pa_cons (pv 4) (pa_cons (pv 5) (pa_cons (pv 6) pa_nil)))))
        (pss_cons (ps_if (pt_cmpR op_isN (pv 7) pe_non (nomark _)) (pss_one (ps_ret pe_bl)) pss_nil)
        (pss_one (ps_set (i := 3) nd rfl (Or.inl rfl) (pe_op op_cat (pv 3) (pv 7))))))))
      (pss_one (ps_ret pe_bl))), ?_⟩
    have hd50 := hob.ok.2
    refine ⟨_, rfl, _, rfl, A, xs, rfl, .inl (SqL.of hA), fun A1 hA1n => ⟨_, rfl, by show 3 ≤ sizeLine; decide, fun tp htp => ⟨by show 1 ≤ sizeLine; decide, fun L hL => ?_⟩⟩⟩
    have s1 := Pre.same_upd (o := .lst xs) hA1n
    have s2 := Pre.same_upd (o := .tup [x, .ref A1, .int k]) htp
    have s3 := Pre.same_upd (o := .lst [.ref tp]) hL
    have hA1 : upd H A1 (.lst xs) A1 = some (.lst xs) := upd_same
    have hT2 : upd (upd H A1 (.lst xs)) tp (.tup [x, .ref A1, .int k]) tp = some (.tup [x, .ref A1, .int k]) := upd_same
    generalize upd H A1 (.lst xs) = Ha at s1 s2 s3 hA1 htp hL hT2
    generalize upd Ha tp (.tup [x, .ref A1, .int k]) = Hb at s2 s3 hL hT2
    have s12 := s1.trans s2
    have hL0 : H L = none := s12.free hL
    have inL : Same Hb (wo L L (upd Hb L (.lst [.ref tp]))) := fun b o e => by
      have nb : b ≠ L := ne_of_none e hL
      exact wo_at nb nb (by rw [upd_ne nb]; exact e)
    have w0 : WAll K (wo L L (upd Hb L (.lst [.ref tp]))) [.ref tp] [⟨d, ts, k⟩] := ⟨⟨tp, x, A1, xs, rfl, SqT.of (inL _ _ hT2), dp_same (wo_sub.trans (s12.trans inL)) hx, inL _ _ (s2 _ _ hA1), dpAll_same (wo_sub.trans (s12.trans inL)) hts0⟩, trivial⟩
    have iv0 : IvK ⟨d, ts, k⟩ := ⟨hts, by show ts.length + 8 * d.depth ≤ 420; omega, hob.sm, hob.ok⟩
    refine ⟨fun m σ H' => ∃ (W : List Cn) (L : Addr) (vs : List V) (o4 o5 o6 o7 : Option V), m = (W.map N).sum ∧ σ = [some x, some (.ref A), some (.int k), some (.ref L), o4, o5, o6, o7] ∧ Same H H' ∧ H L = none ∧ H' L = some (.lst vs) ∧ WAll K (wo L L H') vs W ∧ (∀ c ∈ W, IvK c) ∧ W.all G = G ⟨d, ts, k⟩ ∧ (W.map N).sum ≤ 4000,
      ⟨_, [⟨d, ts, k⟩], L, [.ref tp], none, none, none, none, rfl, rfl, s12.trans s3, hL0, upd_same, w0, fun c hc => by rw [List.mem_singleton.mp hc]; exact iv0, by simp, ?_⟩, ?_⟩
    · have := N_sz _ (⟨d, ts, k⟩ : Cn) (Nat.lt_succ_self _)
      have hz := hob.sz
      show N ⟨d, ts, k⟩ + 0 ≤ 4000
      simp only at this
      omega
    clear s1 s2 s3 hA1 hL hT2 s12 inL w0 iv0
    rintro m σ H3 ⟨W, L, vs, o4, o5, o6, o7, rfl, rfl, s3, hL0, hv, hW, hiv, hG, hN⟩
    have hvl := wall_len hW
    have wln : W.length ≤ (W.map N).sum := by
      clear hW hiv hG hN hvl
      induction W with
      | nil => exact Nat.le_refl _
      | cons c W ih =>
        have := N_pos c
        show W.length + 1 ≤ N c + (W.map N).sum
        omega
    refine ⟨_, rfl, by show 0 ≤ sizeLine; decide, fun l0 hl0 => ?_⟩
    have z1 := Pre.same_upd (o := .lst []) hl0
    have okW : Ok 60 (.list (W.map cnL)) := ok_mono (ok_lstD (m := 51) fun e he => by
      obtain ⟨c, hc, rfl⟩ := List.mem_map.mp he
      have i := hiv c hc
      refine ok_tupD (m := 50) fun e he => ?_
      simp only [List.mem_cons, List.not_mem_nil, or_false] at he
      rcases he with rfl | rfl | rfl
      · exact i.ok
      · exact ok_mono (ok_lstD (m := 8) fun e he => by
          obtain ⟨u, hu, rfl⟩ := List.mem_map.mp he
          exact ⟨can_dat u, Nat.le_trans (dep_dat u) (i.ts u hu).1⟩) (by decide)
      · exact ⟨rfl, Nat.zero_le _⟩) (by decide)
    refine ⟨.list (W.map cnL), .list [], .lst (SqL.of (z1 _ _ hv)) (dpAll_same (wo_sub.trans z1) (wall_dp hW)), .lst (SqL.of upd_same) .nil, ok_sh okW (by decide), by decide +kernel, _, rfl, ?_⟩
    have hv4 := z1 _ _ hv
    have hW4 := wall_same (wo_mono z1) hW
    have s4 := s3.trans z1
    generalize upd H3 l0 (.lst []) = H4 at z1 hv4 hW4 s4
    rw [eqv_nilL]
    by_cases hemp : W = []
    · subst hemp
      refine iteF ?_
      have e : G ⟨d, ts, k⟩ = true := hG.symm
      have z := kk H4 s4
      rw [e] at z
      exact z
    obtain ⟨W', c, rfl⟩ := snoc_of hemp
    have e1 : ((W' ++ [c]).map cnL).isEmpty = false := by
      cases W' <;> rfl
    rw [e1]
    obtain ⟨vs', v, rfl, hW', hV⟩ := wall_last hW4
    obtain ⟨tp, x1, A2, xs2, rfl, hT, hx1, hA2, hd2⟩ := hV
    have ic := hiv c (by simp)
    have iW : ∀ q ∈ W', IvK q := fun q hq => hiv q (List.mem_append_left _ hq)
    have dropE : (vs' ++ [V.ref tp]).dropLast = vs' := by simp
    have lastE : (vs' ++ [V.ref tp])[(vs' ++ [V.ref tp]).length - 1]? = some (V.ref tp) := by simp
    refine iteT ⟨fun σ' H' => ∃ m', m' < ((W' ++ [c]).map N).sum ∧ ∃ (W : List Cn) (L : Addr) (vs : List V) (o4 o5 o6 o7 : Option V), m' = (W.map N).sum ∧ σ' = [some x, some (.ref A), some (.int k), some (.ref L), o4, o5, o6, o7] ∧ Same H H' ∧ H L = none ∧ H' L = some (.lst vs) ∧ WAll K (wo L L H') vs W ∧ (∀ c ∈ W, IvK c) ∧ W.all G = G ⟨d, ts, k⟩ ∧ (W.map N).sum ≤ 4000, fun σ' H' h => h, ?_⟩
    refine ⟨_, rfl, .inl ⟨rfl, _, SqL.of hv4⟩, L, _, _, rfl, rfl, hv4, lastE, ?_⟩
    rw [dropE]
    have hL5 : (upd H4 L (.lst vs')) L = some (.lst vs') := upd_same
    have s45 : Same (wo L L H4) (wo L L (upd H4 L (.lst vs'))) := wo_updL
    have s5 : Same H (upd H4 L (.lst vs')) := fun b o e => by
      rw [upd_ne (ne_of_none e hL0)]
      exact s4 _ _ e
    generalize upd H4 L (.lst vs') = H5 at hL5 s45 s5
    have av5 : Av H5 L L := ⟨⟨_, hL5, noTup_lst _⟩, ⟨_, hL5, noTup_lst _⟩⟩
    obtain ⟨nA2, _, hA2'⟩ := wo_inv (s45 _ _ hA2)
    have hsum : ((W' ++ [c]).map N).sum = (W'.map N).sum + N c := by
      rw [List.map_append, List.sum_append]
      simp
    refine ⟨tp, _, rfl, sqT_same (s45.trans wo_sub) hT, rfl, _, _, rfl, _, _, rfl, _, _, rfl, rfl, ?_⟩
    refine ⟨_, rfl, _, rfl, _, rfl, x1, A2, c.t, xs2, c.ts, c.k, L, L, rfl, av5, dp_same s45 hx1, nA2, nA2, hA2', dpAll_same s45 hd2, ic.ts, by have := ic.l; omega, ic.sm, ic.ok, ?_, ?_⟩
    · intro hn H6 s6
      refine ⟨_, rfl, rfl, _, rfl, ?_⟩
      rw [show decide ((V.non : V) = V.non) = true from decide_eq_true rfl]
      refine iteT ?_
      have e : G ⟨d, ts, k⟩ = false := by
        rw [← hG, all_snoc, G_none (c := c) hn, Bool.and_false]
      have z := kk H6 (s5.trans s6)
      rw [e] at z
      exact z
    · intro pr hpr l6 vs6 H6 s6 hl6n hl6 hw6
      have hpr' : kids2 c = some pr := hpr
      have gc := G_some hpr'
      have nc := N_some hpr'
      have few : pr.2.length + pr.1.length ≤ 40 := by
        have z := kid_few (m := 500) hpr' ⟨fun t ht => ⟨by have := (ic.ts t ht).1; omega, (ic.ts t ht).2⟩, by have := ic.l; omega⟩
        rw [List.length_append] at z
        omega
      refine ⟨_, rfl, rfl, _, rfl, ?_⟩
      rw [show decide ((V.ref l6 : V) = V.non) = false from decide_eq_false (by intro z; cases z)]
      have l6l := wall_len hw6
      rw [List.length_append] at l6l
      have l5l := wall_len hW'
      rw [List.length_append] at wln
      have line : 5000 < sizeLine := by decide
      refine iteF ⟨_, rfl, _, rfl, L, l6, vs', vs6, rfl, rfl, s6 _ _ hL5, hl6, by omega, fun l7 hl7 => ?_⟩
      have s7 := Pre.same_upd (o := .lst (vs' ++ vs6)) hl7
      have nL7 : L ≠ l7 := fun z => by
        rw [← z, s6 _ _ hL5] at hl7
        cases hl7
      have up : Same H6 (wo l7 l7 (upd H6 l7 (.lst (vs' ++ vs6)))) := fun b o e => by
        have nb : b ≠ l7 := ne_of_none e hl7
        exact wo_at nb nb (by rw [upd_ne nb]; exact e)
      refine ⟨((W' ++ (pr.2 ++ pr.1)).map N).sum, ?_, W' ++ (pr.2 ++ pr.1), l7, vs' ++ vs6, _, _, _, _, rfl, rfl, s5.trans (s6.trans s7), (s5.trans s6).free hl7, upd_same, wall_app (wall_same (s45.trans (wo_sub.trans (s6.trans up))) hW') (wall_same (wo_sub.trans up) hw6), fun q hq => ?_, ?_, ?_⟩
      · rw [hsum, nc, List.map_append, List.sum_append, List.map_append, List.sum_append, List.map_append, List.sum_append]
        omega
      · rcases List.mem_append.mp hq with z | z
        · exact iW q z
        · refine ivk_kid hpr' ic q ?_
          rcases List.mem_append.mp z with z | z
          · exact List.mem_append_right _ z
          · exact List.mem_append_left _ z
      · rw [← hG, all_snoc, gc, List.all_append, List.all_append, Bool.and_comm (pr.2.all G)]
      · rw [hsum, nc, List.map_append, List.sum_append] at hN
        rw [List.map_append, List.sum_append, List.map_append, List.sum_append]
        omega
end
end Tk

namespace Tk
open PySem PySem.Spec PyProof.Rows L2
open Wt Kn Dc
abbrev sTree : Stmt := Pre.top 60
abbrev sSized : Stmt := Pre.top 61
/-- so many parts at most have so many rows -/
def bT : Nat → Nat
  | 0 => 0
  | n + 1 => 6 * bT n + 1
structure TreeD (n m : Nat) (d : PyData) : Prop where
  pl : pl d = true
  g : G ⟨d, [], 2⟩ = true
  nn : N ⟨d, [], 2⟩ = m
  h : Hh ⟨d, [], 2⟩ ≤ n
  dep : d.depth ≤ 3 * n
theorem low16 : low 1 6 = (1, 6) := by decide +kernel
theorem div_in {l r B : Nat} (hr : 0 < r) (h1 : r ≤ l) (h2 : l ≤ B * r) : 1 ≤ l / r ∧ l / r ≤ B ∧ r - 1 ≤ l - l / r ∧ l - l / r ≤ B * (r - 1) := by
  have q1 : 1 ≤ l / r := (Nat.le_div_iff_mul_le hr).mpr (by omega)
  have q2 : l / r ≤ B := Nat.div_le_of_le_mul (by rw [Nat.mul_comm]; exact h2)
  have e := Nat.div_add_mod l r
  have hm := Nat.mod_lt l hr
  obtain ⟨r', rfl⟩ : ∃ r', r = r' + 1 := ⟨r - 1, by omega⟩
  generalize hq : l / (r' + 1) = q at *
  generalize l % (r' + 1) = t at *
  have e' : q * r' + q + t = l := by
    have e3 : (r' + 1) * q = q * r' + q := by rw [Nat.succ_mul, Nat.mul_comm]
    omega
  refine ⟨q1, q2, ?_, ?_⟩
  · show r' ≤ l - q
    have : r' ≤ q * r' := Nat.le_mul_of_pos_left r' (by omega)
    omega
  · show l - q ≤ B * r'
    by_cases hB : q = B
    · subst hB
      have : q * (r' + 1) = q * r' + q := Nat.mul_succ ..
      omega
    · have h3 : (q + 1) * r' ≤ B * r' := Nat.mul_le_mul_right r' (by omega)
      have : (q + 1) * r' = q * r' + r' := Nat.succ_mul ..
      omega
section
variable {P0 : Program} {w : World} {K : PySem.W.Frag} {mg : Str → Option Value} {base : Heap}
def spTree (K : PySem.W.Frag) (n : Nat) : Sp := fun vs H Q _ => ∃ m : Nat, vs = [.int (m : Int)] ∧ 1 ≤ m ∧ m ≤ bT n ∧ m < 2 ^ 20 ∧ ∀ (y : V) (d : PyData) (H' : Hp), Same H H' → Dp K H' y d → TreeD n m d → Q y H'
theorem scTree : FnScope ["many", "found", "left", "size", "spot", "own"] ["many"] (defScope sTree) := ⟨rfl, rfl, rfl, by decide +kernel, rfl, by decide +kernel, by decide +kernel⟩
set_option maxHeartbeats 1000000 in
theorem ok_tree {f : Addr} {fd : FuncData} (F : Fun K "_law_k24_tree" "_law_k24_tree" sTree f fd) (mF : mg "_law_k24_tree" = some (.ref f)) (T : TxtW mg) (zm : mg "min" = none) (zg : mg "range" = none) : ∀ n : Nat, FnOk P0 w K mg base CX0 (n + 1) f fd ["many"] (spTree K n)
  | 0 => by
    refine F.ok (k := 0) scTree (fun vs H Q E h => ?_) (fun cdv A outer s H vs Q E hr h => ?_)
    · obtain ⟨m, rfl, _⟩ := h
      rfl
    · obtain ⟨m, rfl, h1, h2, _⟩ := h
      have : bT 0 = 0 := rfl
      omega
  | n + 1 => by
    have IH := ok_tree F mF T zm zg n
    have bF := F.binds (ps := ["many"]) fun _ _ _ _ _ _ us hl => match us, hl with | [_], _ => rfl
    refine F.ok (k := n + 1) scTree (fun vs H Q E h => ?_) (fun cdv A outer s H vs Q E hr h => ?_)
    · obtain ⟨m, rfl, _⟩ := h
      rfl
    · obtain ⟨m, rfl, hm1, hmB, hm2, k⟩ := h
      have nd := scTree.nd
      have hB : bT (n + 1) = 6 * bT n + 1 := rfl
      refine ⟨_, pss_cons (ps_if (pt_cmpR op_eq (pv 0) pe_int (nomark _)) (pss_one (ps_ret (pe_tup (pa_cons pe_str (pa_cons pe_int pa_nil))))) pss_nil)
        (pss_cons (ps_par3 (i := 1) (j := 2) (l := 3) rfl nd rfl rfl rfl (by decide) (by decide) (by decide) rfl rfl rfl (pa_cons (pe_lst pa_nil) (pa_cons (pe_op op_sub (pv 0) pe_int) (pa_cons (pe_callB (call_min2 (by rfl)) (by rfl) zm (by decide +kernel) (pa_cons pe_int (pa_cons (pe_op op_sub (pv 0) pe_int) pa_nil))) pa_nil))) (by rfl))
        (pss_cons (ps_for PassesOwn.never rfl (pi_range1 (by rfl) zg (pa_cons (pv 3) pa_nil)) (pg_name (i := 4) nd rfl (Or.inl rfl))
          (pss_cons (ps_set (i := 5) nd rfl (Or.inl rfl) (pe_op op_fdiv (pv 2) (pe_op op_sub (pv 3) (pv 4))))
          (pss_cons (ps_expr (pe_bm PySem.F.plainAttrs_list PySem.F.slot_list_append PySem.F.type_list_append mt_append (pv 1) (pa_cons (pe_tup (pa_cons (pe_tup (pa_cons pe_int (pa_cons pe_int pa_nil))) (pa_cons (pe_call IH hr (by rfl) mF F.kp bF .nil pass0 (pa_cons (pv 5) pa_nil)) pa_nil))) pa_nil)))
          (pss_one (ps_set (i := 2) nd rfl (Or.inl rfl) (pe_op op_sub (pv 2) (pv 5)))))))
        (pss_one (ps_ret (pe_tup (pa_cons pe_str (pa_cons (pe_callTy call_tuple_of (by rfl) T.tuple (by decide +kernel) (pa_cons (pv 1) pa_nil)) pa_nil))))))), ?_⟩
      refine ⟨_, rfl, rfl, _, rfl, ?_⟩
      by_cases h1 : (V.int (m : Int) : V) = V.int 1
      · rw [decide_eq_true h1]
        refine iteT ⟨by show 2 ≤ sizeLine; decide, fun q hq => ?_⟩
        have e : m = 1 := by
          injection h1 with h1
          omega
        refine k (.ref q) (.tuple [.str "answer", .int 0]) _ (Pre.same_upd hq) (.tup (SqT.of upd_same) (.cons (.str _) (.cons (.int _) .nil))) ⟨by decide +kernel, G_ans (by decide) (by decide), ?_, ?_, by show 1 ≤ 3 * (n + 1); omega⟩
        · rw [e]
          exact N_some (p := ([], [])) rfl
        · have : Hh ⟨.tuple [.str "answer", .int 0], [], 2⟩ = 1 := H_some (p := ([], [])) rfl
          omega
      · rw [decide_eq_false h1]
        have hm3 : 2 ≤ m := by
          rcases Nat.lt_or_ge m 2 with z | z
          · exact absurd (by rw [show m = 1 by omega]; rfl) h1
          · exact z
        refine iteF ⟨by show 0 ≤ sizeLine; decide, fun F hF => ⟨_, rfl, _, _, rfl, rfl, _, rfl, _, _, rfl, rfl, 6, (m : Int) - 1, rfl, _, _, _, rfl, ?_⟩⟩
        have s1 := Pre.same_upd (o := .lst []) hF
        have hF1 : upd H F (.lst []) F = some (.lst []) := upd_same
        generalize upd H F (.lst []) = H1 at s1 hF1
        obtain ⟨sz, hsz, sz1, sz6, sB1, sB2⟩ : ∃ sz : Nat, (if (m : Int) - 1 < 6 then (m : Int) - 1 else 6) = (sz : Int) ∧ 1 ≤ sz ∧ sz ≤ 6 ∧ sz ≤ m - 1 ∧ m - 1 ≤ bT n * sz := by
          have hb1 : 1 ≤ bT n := by omega
          by_cases h6 : (m : Int) - 1 < 6
          · refine ⟨m - 1, by rw [if_pos h6]; omega, by omega, by omega, Nat.le_refl _, Nat.le_mul_of_pos_left _ hb1⟩
          · exact ⟨6, by rw [if_neg h6]; rfl, by decide, by decide, by omega, by omega⟩
        generalize (if (m : Int) - 1 < 6 then (m : Int) - 1 else 6) = S at hsz
        have line : 100 < sizeLine := by decide
        refine ⟨_, rfl, sz, (by rw [hsz]), by omega, by omega, for_range (n := sz) (fun i σ H' => ∃ (left : Nat) (Lv : Int) (rs : List PyData) (vs : List V) (l : List Int) (o4 o5 : Option V), σ = [some (.int (m : Int)), some (.ref F), some (.int Lv), some (.int S), o4, o5] ∧ Lv = (left : Int) ∧ Same H H' ∧ H' F = some (.lst vs) ∧ DpAll K H' vs rs ∧ RowOk [] 2 6 rs l ∧ l.sum = (i : Int) ∧ rs.length = i ∧ sz - i ≤ left ∧ left ≤ bT n * (sz - i) ∧ (rs.map fun r => N ⟨rowT r, [], 2⟩).sum + left = m - 1 ∧ (∀ r ∈ rs, Hh ⟨rowT r, [], 2⟩ ≤ n) ∧ (∀ r ∈ rs, r.depth ≤ 3 * n + 1))
          ⟨m - 1, (m : Int) - 1, [], [], [], none, none, rfl, by omega, s1, hF1, .nil, ⟨rfl, rfl, (fun r h => by cases h), rfl⟩, rfl, rfl, by omega, by rw [Nat.sub_zero]; exact sB2, by show 0 + (m - 1) = m - 1; omega, (fun r h => by cases h), (fun r h => by cases h)⟩ ?_ ?_⟩
        · rintro i σ H2 hi ⟨left, Lv, rs, vs, l, o4, o5, rfl, hLv, s2, hF2, hdv, hro, hls, hrl, hl1, hl2, hsum, hhh, hdep⟩
          obtain ⟨q1, q2, q3, q4⟩ := div_in (l := left) (r := sz - i) (B := bT n) (by omega) hl1 hl2
          have eo : Lv / (S - (0 + (i : Int))) = ((left / (sz - i) : Nat) : Int) := by
            rw [show S - (0 + (i : Int)) = ((sz - i : Nat) : Int) by omega, hLv]
            rfl
          have ql : left / (sz - i) ≤ left := Nat.div_le_self _ _
          generalize left / (sz - i) = q at *
          refine ⟨_, rfl, _, rfl, _, rfl, _, _, rfl, rfl, _, _, rfl, rfl, ⟨by omega, by omega⟩, ?_⟩
          refine ⟨_, rfl, .inl ⟨rfl, _, SqL.of hF2⟩, by show 2 ≤ sizeLine; decide, fun t1 ht1 => ⟨_, rfl, q, (by show [V.int (Lv / (S - (0 + (i : Int))))] = [V.int (q : Int)]; rw [eo]), q1, q2, by omega, fun y d H3 s3 hy ht => ⟨by show 2 ≤ sizeLine; decide, fun t2 ht2 => ?_⟩⟩⟩
          have z1 := Pre.same_upd (o := .tup [.int 1, .int 6]) ht1
          have z2 := Pre.same_upd (o := .tup [.ref t1, y]) ht2
          have hF3 := z2 _ _ (s3 _ _ (z1 _ _ hF2))
          have hT1 : SqT K (upd H3 t2 (.tup [.ref t1, y])) t1 [.int 1, .int 6] := sqT_same (s3.trans z2) (SqT.of upd_same)
          have hrow : Dp K (upd H3 t2 (.tup [.ref t1, y])) (.ref t2) (.tuple [wD (1, 6), d]) := .tup (SqT.of upd_same) (.cons (.tup hT1 (.cons (.int _) (.cons (.int _) .nil))) (.cons (dp_same z2 hy) .nil))
          have hdv3 := dpAll_same (z1.trans (s3.trans z2)) hdv
          have s23 := s2.trans (z1.trans (s3.trans z2))
          generalize upd H3 t2 (.tup [.ref t1, y]) = H4 at hF3 hrow hdv3 s23
          have hro' := hro.snoc (by decide) (by decide) (show (0 : Int) < 1 by decide) (by decide) ht.pl ht.g
          rw [low16] at hro'
          have plr : pl (.tuple [wD (1, 6), d]) = true := pl_mem hro'.pl (List.mem_append_right _ (List.mem_singleton.mpr rfl))
          have tsu : TupS H4 (upd H4 F (.lst (vs ++ [.ref t2]))) := TupS.upd hF3 (noTup_lst _)
          have hvl : vs.length = rs.length := dpAll_len hdv
          refine ⟨F, vs, .ref t2, rfl, rfl, hF3, by omega, ?_⟩
          refine ⟨_, rfl, _, rfl, _, _, rfl, rfl, left - q, _, rs ++ [.tuple [wD (1, 6), d]], vs ++ [.ref t2], l ++ [1], _, _, rfl, by rw [eo]; omega, fun b o e => by rw [upd_ne (ne_of_none e hF)]; exact s23 _ _ e, upd_same, dpAll_snoc (dpAll_ts tsu hro.pl hdv3) (dp_ts tsu plr hrow), hro', by rw [sum_snoc, hls]; omega, by rw [List.length_append, hrl]; rfl, by omega, ?_, ?_, fun r hr => ?_, fun r hr => ?_⟩
          · have e2 : sz - (i + 1) = sz - i - 1 := by omega
            rw [e2]
            exact q4
          · rw [List.map_append, List.sum_append]
            show _ + (N ⟨d, [], 2⟩ + 0) + (left - q) = m - 1
            rw [ht.nn]
            omega
          · rcases List.mem_append.mp hr with z | z
            · exact hhh r z
            · rw [List.mem_singleton.mp z]
              exact ht.h
          · rcases List.mem_append.mp hr with z | z
            · exact hdep r z
            · rw [List.mem_singleton.mp z]
              have e1 : (PyData.tuple [wD (1, 6), d]).depth = max 1 (max d.depth 0) + 1 := rfl
              have := ht.dep
              have hn1 : 1 ≤ n := by
                rcases Nat.eq_zero_or_pos n with z | z
                · rw [z] at q2
                  have : bT 0 = 0 := rfl
                  omega
                · exact z
              omega
        · rintro σ H2 ⟨left, Lv, rs, vs, l, o4, o5, rfl, hLv, s2, hF2, hdv, hro, hls, hrl, hl1, hl2, hsum, hhh, hdep⟩
          have l0 : left = 0 := by
            rw [Nat.sub_self, Nat.mul_zero] at hl2
            omega
          refine ⟨_, rfl, F, vs, rfl, .inl ⟨SqL.of hF2, fun t3 ht3 => ⟨by show 2 ≤ sizeLine; decide, fun q hq => ?_⟩⟩⟩
          have s9 := Pre.same_upd (o := .tup vs) ht3
          have s10 := Pre.same_upd (o := .tup [.str "draw", .ref t3]) hq
          have ok := hro.all (by decide) (by omega) (by omega) (by omega)
          have kd : kids2 ⟨.tuple [.str "draw", .tuple rs], [], 2⟩ = some ([], rs.map fun r => ⟨rowT r, [], 2⟩) := by
            show (if rowsOk rs = true then some (([], rs.map fun r => ⟨rowT r, [], 2⟩) : List Cn × List Cn) else none) = _
            rw [if_pos ok]
          refine k (.ref q) (.tuple [.str "draw", .tuple rs]) _ (s2.trans (s9.trans s10)) (.tup (SqT.of upd_same) (.cons (.str _) (.cons (.tup (sqT_same s10 (SqT.of upd_same)) (dpAll_same (s9.trans s10) hdv)) .nil))) ⟨?_, G_draw ok hro.g, ?_, ?_, ?_⟩
          · show ((PyData.str "draw").canLay0 && (plAll rs && true)) = true
            rw [hro.pl]
            decide +kernel
          · rw [N_some kd, List.nil_append, List.map_map]
            show 1 + (rs.map fun r => N ⟨rowT r, [], 2⟩).sum = m
            omega
          · rw [H_some kd, List.nil_append, List.map_map]
            have : mx (rs.map (Hh ∘ fun r => (⟨rowT r, [], 2⟩ : Cn))) ≤ n := mx_le.mpr fun x hx => by
              obtain ⟨r, hr, rfl⟩ := List.mem_map.mp hx
              exact hhh r hr
            omega
          · have e2 : (PyData.tuple [.str "draw", .tuple rs]).depth = max 0 (max (PyData.depthAll rs + 1) 0) + 1 := rfl
            have e3 := dep_all (ds := rs) hdep
            omega
end
end Tk

namespace Tk
open PySem PySem.Spec PyProof.Rows L2
open Wt Kn Dc
def a1D : PyData := .tuple [.str "answer", .int 1]
theorem ring12 (e : PyData) : rowsOk [.tuple [wD (1, 2), e]] = true := ring_ok (by decide +kernel) (by decide +kernel)
theorem ring_pl {w : Int × Int} {d : PyData} (hw : pl (wD w) = true) (hd : pl d = true) : ∀ j, pl (ringD w d j) = true
  | 0 => hd
  | j + 1 => by
    show ((PyData.str "draw").canLay0 && (((pl (wD w) && (pl (ringD w d j) && true)) && true) && true)) = true
    rw [hw, ring_pl hw hd j]
    decide +kernel
section
variable {P0 : Program} {w : World} {K : PySem.W.Frag} {mg : Str → Option Value} {base : Heap}
def spSized (K : PySem.W.Frag) : Sp := fun vs H Q _ => ∃ (p g c : Addr) (n : Nat), vs = [.ref p] ∧ Pre.St H p g c n ∧ n < 2 ^ 38 ∧
  ∀ (r : Addr) (y : V) (b : Bool) (d : PyData) (H' : Hp), Pre.Kp p g H H' → Pre.St H' p g c (n + 2) → SqT K H' r [y, .bl b] → Dp K H' y d → pl d = true → (∃ I, HsI I ∧ I ⟨d, [], 2⟩) → (b = true ↔ Fin 0 [(⟨d, [], 2⟩, 1)]) → Q (.ref r) H'
theorem scSized : FnScope ["state", "many", "found", "lap"] ["state"] (defScope sSized) := ⟨rfl, rfl, rfl, by decide +kernel, rfl, by decide +kernel, by decide +kernel⟩
set_option maxHeartbeats 1000000 in
theorem ok_sized {f fD fP fB fT : Addr} {fd dD dP dB dT : FuncData} (F : Fun K "_law_k24_sized" "_law_k24_sized" sSized f fd) (D : Drw K mg fD fP fB dD dP dB) (GT : ∀ base, FnOk P0 w K mg base CX0 7 fT dT ["many"] (spTree K 6)) (FT : Fun K "_law_k24_tree" "_law_k24_tree" sTree fT dT) (mT : mg "_law_k24_tree" = some (.ref fT)) : FnOk P0 w K mg base CX0 8 f fd ["state"] (spSized K) := by
  have GP : FnOk P0 w K mg base CX0 3 fP dP ["state", "some"] (Pre.spPick K) := Pre.ok_pick D.FP D.T D.FD D.mD D.FB D.mB
  have GD : FnOk P0 w K mg base CX0 2 fD dD ["state", "room"] Pre.spDraw := Pre.ok_draw D.FD D.T D.FB D.mB
  have GT := GT base
  have bP := D.FP.binds (ps := ["state", "some"]) fun _ _ _ _ _ _ us hl => match us, hl with | [_, _], _ => rfl
  have bD := D.FD.binds (ps := ["state", "room"]) fun _ _ _ _ _ _ us hl => match us, hl with | [_, _], _ => rfl
  have bT' := FT.binds (ps := ["many"]) fun _ _ _ _ _ _ us hl => match us, hl with | [_], _ => rfl
  refine F.ok scSized (fun vs H Q E h => ?_) (fun cdv A outer s H vs Q E hr h => ?_)
  · obtain ⟨p, g, c, n, rfl, _⟩ := h
    rfl
  · obtain ⟨p, g, c, n, rfl, hs, hn, k⟩ := h
    have nd := scSized.nd
    have hr3 : Room 3 _ := hr.mono (by decide)
    have hr2 : Room 2 _ := hr.mono (by decide)
    refine ⟨_, pss_cons (ps_if (pt_cmpR op_eq (pe_call GD hr2 (by rfl) D.mD D.FD.kp bD .nil pass0 (pa_cons (pv 0) (pa_cons pe_int pa_nil))) pe_int (nomark _))
        (pss_cons (ps_par (i := 1) (j := 2) rfl nd rfl rfl (by decide) rfl rfl (pa_cons (pe_call GP hr3 (by rfl) D.mP D.FP.kp bP .nil pass0 (pa_cons (pv 0) (pa_cons (pe_lst (pa_cons pe_int (pa_cons pe_int (pa_cons pe_int pa_nil)))) pa_nil))) (pa_cons (pe_tup (pa_cons pe_str (pa_cons pe_int pa_nil))) pa_nil)) (by rfl))
        (pss_cons (ps_for PassesOwn.never rfl (pi_range1 (by rfl) D.zg (pa_cons (pe_op op_sub (pv 1) pe_int) pa_nil)) (pg_name (i := 3) nd rfl (Or.inl rfl))
          (pss_one (ps_set (i := 2) nd rfl (Or.inl rfl) (pe_tup (pa_cons pe_str (pa_cons (pe_tup (pa_cons (pe_tup (pa_cons (pe_tup (pa_cons pe_int (pa_cons pe_int pa_nil))) (pa_cons (pv 2) pa_nil))) pa_nil)) pa_nil))))))
        (pss_one (ps_ret (pe_tup (pa_cons (pv 2) (pa_cons (pe_cmpR op_le (pv 1) pe_int (nomark _)) pa_nil))))))) pss_nil)
      (pss_cons (ps_set (i := 1) nd rfl (Or.inl rfl) (pe_call GP hr3 (by rfl) D.mP D.FP.kp bP .nil pass0 (pa_cons (pv 0) (pa_cons (pe_lst (pa_cons pe_int (pa_cons pe_int (pa_cons pe_int pa_nil)))) pa_nil))))
      (pss_one (ps_ret (pe_tup (pa_cons (pe_call GT (hr.mono (by decide)) (by rfl) mT FT.kp bT' .nil pass0 (pa_cons (pv 1) pa_nil)) (pa_cons (pe_cmpR op_le (pv 1) pe_int (nomark _)) pa_nil)))))), ?_⟩
    refine ⟨_, rfl, p, g, c, n, 2, rfl, hs, by omega, by decide, by decide, fun H1 f k1 st1 f0 f1 => ?_⟩
    refine ⟨rfl, _, rfl, ?_⟩
    by_cases hf : (V.int f : V) = V.int 0
    · rw [decide_eq_true hf]
      refine iteT ⟨_, rfl, by show 3 ≤ sizeLine; decide, fun l hl => ?_⟩
      have s2 := Pre.same_upd (o := .lst [.int 99, .int 100, .int 101]) hl
      have nl := st_new st1 hl
      refine ⟨p, g, c, n + 1, l, _, rfl, st_same st1 s2, by omega, upd_same, nl.2, by show 0 < 3; decide, by show 3 ≤ 1000; decide, fun H3 i y k3 st3 hi hy => ?_⟩
      obtain ⟨j, rfl, j0, j1⟩ : ∃ j : Nat, y = .int ((j + 1 : Nat) : Int) ∧ 98 ≤ j ∧ j ≤ 100 := by
        have hm := List.mem_of_getElem? hy
        simp only [List.mem_cons, List.not_mem_nil, or_false] at hm
        rcases hm with z | z | z
        · exact ⟨98, z, by decide, by decide⟩
        · exact ⟨99, z, by decide, by decide⟩
        · exact ⟨100, z, by decide, by decide⟩
      refine ⟨by show 2 ≤ sizeLine; decide, fun t0 ht0 => ⟨_, _, rfl, _, rfl, _, _, rfl, rfl, j, (by show [V.int (((j + 1 : Nat) : Int) - 1)] = [V.int (j : Int)]; rw [show (((j + 1 : Nat) : Int) - 1) = (j : Int) by omega]), by omega, by omega, ?_⟩⟩
      have s4 := Pre.same_upd (o := .tup [.str "answer", .int 1]) ht0
      have d0 : Dp K (upd H3 t0 (.tup [.str "answer", .int 1])) (.ref t0) a1D := .tup (SqT.of upd_same) (.cons (.str _) (.cons (.int _) .nil))
      refine for_range (n := j) (fun i σ H' => ∃ (v : V) (o3 : Option V), σ = [some (.ref p), some (.int ((j + 1 : Nat) : Int)), some v, o3] ∧ Same H3 H' ∧ Dp K H' v (ringD (1, 2) a1D i)) ⟨.ref t0, none, rfl, s4, d0⟩ ?_ ?_
      · rintro i σ H5 hi ⟨v, o3, rfl, s5, hv⟩
        refine ⟨by show 2 ≤ sizeLine; decide, fun q1 hq1 => ⟨_, rfl, by show 2 ≤ sizeLine; decide, fun q2 hq2 => ⟨by show 1 ≤ sizeLine; decide, fun q3 hq3 => ⟨by show 2 ≤ sizeLine; decide, fun q4 hq4 => ?_⟩⟩⟩⟩
        have z1 := Pre.same_upd (o := .tup [.int 1, .int 2]) hq1
        have z2 := Pre.same_upd (o := .tup [.ref q1, v]) hq2
        have z3 := Pre.same_upd (o := .tup [.ref q2]) hq3
        have z4 := Pre.same_upd (o := .tup [.str "draw", .ref q3]) hq4
        exact ⟨_, _, rfl, s5.trans (z1.trans (z2.trans (z3.trans z4))), .tup (SqT.of upd_same) (.cons (.str _) (.cons (.tup (sqT_same z4 (SqT.of upd_same)) (.cons (.tup (sqT_same (z3.trans z4) (SqT.of upd_same)) (.cons (.tup (sqT_same (z2.trans (z3.trans z4)) (SqT.of upd_same)) (.cons (.int _) (.cons (.int _) .nil))) (.cons (dp_same (z1.trans (z2.trans (z3.trans z4))) hv) .nil))) .nil)) .nil))⟩
      · rintro σ H5 ⟨v, o3, rfl, s5, hv⟩
        refine ⟨_, rfl, _, rfl, _, _, rfl, rfl, by show 2 ≤ sizeLine; decide, fun r hr' => ?_⟩
        have z := Pre.same_upd (o := .tup [v, .bl (decide ((((j + 1 : Nat) : Int)) ≤ 100))]) hr'
        have hs3 : hsB a1D = true := sh_hs _ a1D (Nat.lt_succ_self _) (by decide +kernel)
        have g1 : G ⟨a1D, [], 2⟩ = true := G_ans (by decide) (by decide)
        have n1 : N ⟨a1D, [], 2⟩ = 1 := N_some (p := ([], [])) rfl
        have h1 : Hh ⟨a1D, [], 2⟩ = 1 := H_some (p := ([], [])) rfl
        refine k r v _ (ringD (1, 2) a1D j) _ (k1.trans ((Pre.Kp.of s2).trans (k3.trans (Pre.Kp.of (s5.trans z))))) (st_same st3 (s5.trans z)) (SqT.of upd_same) (dp_same z hv) (ring_pl (by decide +kernel) (by decide +kernel) j) ⟨_, ring_I (d := a1D) hsI_B ring12, ?_⟩ ?_
        · obtain ⟨i, rfl⟩ : ∃ i, j = i + 1 := ⟨j - 1, by omega⟩
          exact .inr ⟨i, rfl, hs3⟩
        · rw [fin_all, ring_G ring12, ring_N ring12, ring_H ring12, g1, n1, h1, decide_eq_true_iff]
          constructor
          · intro q
            exact ⟨rfl, by omega, by omega⟩
          · rintro ⟨_, _, q⟩
            omega
    · rw [decide_eq_false hf]
      refine iteF ⟨_, rfl, by show 3 ≤ sizeLine; decide, fun l hl => ?_⟩
      have s2 := Pre.same_upd (o := .lst [.int 4000, .int 4001, .int 4006]) hl
      have nl := st_new st1 hl
      refine ⟨p, g, c, n + 1, l, _, rfl, st_same st1 s2, by omega, upd_same, nl.2, by show 0 < 3; decide, by show 3 ≤ 1000; decide, fun H3 i y k3 st3 hi hy => ?_⟩
      obtain ⟨m, rfl, m0, m1⟩ : ∃ m : Nat, y = .int (m : Int) ∧ 4000 ≤ m ∧ m ≤ 4006 := by
        have hm := List.mem_of_getElem? hy
        simp only [List.mem_cons, List.not_mem_nil, or_false] at hm
        rcases hm with z | z | z
        · exact ⟨4000, z, by decide, by decide⟩
        · exact ⟨4001, z, by decide, by decide⟩
        · exact ⟨4006, z, by decide, by decide⟩
      have b6 : bT 6 = 9331 := rfl
      refine ⟨_, rfl, m, rfl, by omega, by omega, by omega, fun v d H4 s4 hv ht => ?_⟩
      refine ⟨_, rfl, _, _, rfl, rfl, by show 2 ≤ sizeLine; decide, fun r hr' => ?_⟩
      have z := Pre.same_upd (o := .tup [v, .bl (decide ((m : Int) ≤ 4000))]) hr'
      have hd := ht.dep
      have hsd : hsB d = true := sh_hs _ d (Nat.lt_succ_self _) (ok_sh (m := 18) ⟨pl_can d ht.pl, by omega⟩ (by decide))
      refine k r v _ d _ (k1.trans ((Pre.Kp.of s2).trans (k3.trans (Pre.Kp.of (s4.trans z))))) (st_same st3 (s4.trans z)) (SqT.of upd_same) (dp_same z hv) ht.pl ⟨_, hsI_B, hsd⟩ ?_
      have hh := ht.h
      rw [fin_all, ht.g, ht.nn, decide_eq_true_iff]
      constructor
      · intro q
        exact ⟨rfl, by omega, by omega⟩
      · rintro ⟨_, q, _⟩
        omega
end
end Tk

namespace Kn
open PySem PySem.Spec PyProof.Rows L2
open Wt Dc
abbrev sBadK : Stmt := Pre.top 50
theorem dp_kd {K : PySem.W.Frag} {H : Hp} {p g c : Addr} {n : Nat} (hs : Pre.St H p g c n) {t : Kd} {x : V} (h : Dp K H x t.dat) : Dp K (wo p g H) x t.dat := (Tk.Av.st hs).kd h
theorem ok_dat {t : Kd} {m : Nat} (h : t.nums ≤ m) : Ok m t.dat := ⟨can_dat t, Nat.le_trans (dep_dat t) h⟩
def gr : Nat → Kd
  | 0 => .num 1
  | i + 1 => .to (.num 1) (gr i)
theorem gr_good : ∀ i, (gr i).good
  | 0 => ⟨by decide, by decide⟩
  | i + 1 => ⟨⟨by decide, by decide⟩, gr_good i⟩
theorem gr_nums : ∀ i, (gr i).nums = i + 1
  | 0 => rfl
  | i + 1 => by
    show 1 + (gr i).nums = i + 1 + 1
    rw [gr_nums i]
    omega
def badk0 : List PyData := [.none, .int 5, .str "num", .tuple [], .tuple [.str "num"], .tuple [.str "num", .int 0], .tuple [.str "num", .int 7], .tuple [.str "num", .bool true], .list [.str "num", .int 2], .tuple [.str "to", .tuple [.str "num", .int 2]]]
def badk1 : List PyData := [.tuple [.str "to", .tuple [.str "num", .int 2], .none], .tuple [.str "from", .tuple [.str "num", .int 2], .tuple [.str "num", .int 2]], .tuple [.str "num", .int 2, .int 2]]
def noK (d : PyData) : Prop := isK d = false ∧ Ok 30 d
theorem noK_by {ds : List PyData} (z : ∀ d ∈ ds, (!isK d && (d.canLay0 && decide (d.depth ≤ 30))) = true) : ∀ d ∈ ds, noK d := fun d hd => by
  have h := z d hd
  rw [Bool.and_eq_true, Bool.and_eq_true] at h
  exact ⟨(Bool.not_eq_true' _).mp h.1, h.2.1, of_decide_eq_true h.2.2⟩
theorem badk0_no : ∀ d ∈ badk0, noK d := noK_by (by decide +kernel)
theorem badk1_no : ∀ d ∈ badk1, noK d := noK_by (by decide +kernel)
theorem great_no : noK (gr 12).dat := by
  refine ⟨?_, ok_dat (by rw [gr_nums]; decide)⟩
  rw [isK_dat (gr_good 12), gr_nums]
  rfl
def NoV (K : PySem.W.Frag) (H : Hp) (v : V) : Prop := ∃ d, Dp K H v d ∧ noK d
theorem nov_same {K : PySem.W.Frag} {H H' : Hp} {v : V} (s : Same H H') (h : NoV K H v) : NoV K H' v := by
  obtain ⟨d, h1, h2⟩ := h
  exact ⟨d, dp_same s h1, h2⟩
theorem nov_all {K : PySem.W.Frag} {H : Hp} : ∀ {xs : List V} {ds : List PyData}, DpAll K H xs ds → (∀ d ∈ ds, noK d) → ∀ x ∈ xs, NoV K H x
  | _, _, .nil, _, x, hx => by cases hx
  | _, _, .cons (d := d) h r, k, x, hx => by
    rcases List.mem_cons.mp hx with z | z
    · rw [z]
      exact ⟨d, h, k d (List.mem_cons_self ..)⟩
    · exact nov_all r (fun e he => k e (List.mem_cons_of_mem _ he)) x z
section
variable {P0 : Program} {w : World} {K : PySem.W.Frag} {mg : Str → Option Value} {base : Heap}
def spBadK (K : PySem.W.Frag) : Sp := fun vs H Q _ => ∃ (p g c : Addr) (n : Nat), vs = [.ref p] ∧ Pre.St H p g c n ∧ n < 2 ^ 39 ∧ ∀ (H' : Hp) (y : V), Pre.Kp p g H H' → Pre.St H' p g c (n + 1) → NoV K (wo p g H') y → Q y H'
theorem scBadK : FnScope ["state", "some", "great", "lap"] ["state"] (defScope sBadK) := ⟨rfl, rfl, rfl, by decide +kernel, rfl, by decide +kernel, by decide +kernel⟩
theorem ok_badK {f fD fP fB : Addr} {fd dD dP dB : FuncData} (F : Fun K "_law_cp_bad_kind" "_law_cp_bad_kind" sBadK f fd) (D : Drw K mg fD fP fB dD dP dB) : FnOk P0 w K mg base CX0 4 f fd ["state"] (spBadK K) := by
  have GP : FnOk P0 w K mg base CX0 3 fP dP ["state", "some"] (Pre.spPick K) := Pre.ok_pick D.FP D.T D.FD D.mD D.FB D.mB
  have bP := D.FP.binds (ps := ["state", "some"]) fun _ _ _ _ _ _ us hl => match us, hl with | [_, _], _ => rfl
  refine F.ok scBadK (fun vs H Q E h => ?_) (fun cdv A outer s H vs Q E hr h => ?_)
  · obtain ⟨p, g, c, n, rfl, _⟩ := h
    rfl
  · obtain ⟨p, g, c, n, rfl, hs, hn, k⟩ := h
    have nd := scBadK.nd
    refine ⟨_, pss_cons (ps_set (i := 1) nd rfl (Or.inl rfl) (pe_lstD (ds := badk0) (ad_cons ed_non (ad_cons ed_int (ad_cons ed_str (ad_cons (ed_tup ad_nil (by decide)) (ad_cons (ed_tup (ad_cons ed_str ad_nil) (by decide)) (ad_cons (ed_tup (ad_cons ed_str (ad_cons ed_int ad_nil)) (by decide))
        (ad_cons (ed_tup (ad_cons ed_str (ad_cons ed_int ad_nil)) (by decide)) (ad_cons (ed_tup (ad_cons ed_str (ad_cons ed_bl ad_nil)) (by decide)) (ad_cons (ed_lst (ad_cons ed_str (ad_cons ed_int ad_nil)) (by decide)) (ad_cons (ed_tup (ad_cons ed_str (ad_cons (ed_tup (ad_cons ed_str (ad_cons ed_int ad_nil)) (by decide)) ad_nil)) (by decide)) ad_nil)))))))))) (by decide)))
      (pss_cons (ps_set (i := 2) nd rfl (Or.inl rfl) (pe_tup (pa_cons pe_str (pa_cons pe_int pa_nil))))
      (pss_cons (ps_for PassesOwn.never rfl (pi_range1 (by rfl) D.zg (pa_cons pe_int pa_nil)) (pg_name (i := 3) nd rfl (Or.inl rfl)) (pss_one (ps_set (i := 2) nd rfl (Or.inl rfl) (pe_tup (pa_cons pe_str (pa_cons (pe_tup (pa_cons pe_str (pa_cons pe_int pa_nil))) (pa_cons (pv 2) pa_nil)))))))
      (pss_one (ps_ret (pe_call GP hr (by rfl) D.mP D.FP.kp bP .nil pass0 (pa_cons (pv 0) (pa_cons (pe_op op_cat (pv 1) (pe_lst (pa_cons (pv 2) (show AD _ _ badk1 from
        ad_cons (ed_tup (ad_cons ed_str (ad_cons (ed_tup (ad_cons ed_str (ad_cons ed_int ad_nil)) (by decide)) (ad_cons ed_non ad_nil))) (by decide)) (ad_cons (ed_tup (ad_cons ed_str (ad_cons (ed_tup (ad_cons ed_str (ad_cons ed_int ad_nil)) (by decide)) (ad_cons (ed_tup (ad_cons ed_str (ad_cons ed_int ad_nil)) (by decide)) ad_nil))) (by decide))
          (ad_cons (ed_tup (ad_cons ed_str (ad_cons ed_int (ad_cons ed_int ad_nil))) (by decide)) ad_nil)))))) pa_nil))))))), ?_⟩
    obtain ⟨up0, hp0⟩ := st_p hs
    obtain ⟨ug0, hg0⟩ := st_g hs
    intro l vs0 H1 s1 hl hl1 hd0
    have st1 := st_same hs s1
    have hv0 : vs0.length = 10 := dpAll_len hd0
    refine ⟨by show 2 ≤ sizeLine; decide, fun r hr0 => ?_⟩
    have s2 := Pre.same_upd (o := .tup [.str "num", .int 1]) hr0
    refine ⟨12, rfl, by decide, by decide, for_range (n := 12) (fun i σ H' => ∃ (r : Addr) (lp : Option V), σ = [some (.ref p), some (.ref l), some (.ref r), lp] ∧ Same H1 H' ∧ Dp K H' (.ref r) (gr i).dat)
      ⟨r, none, rfl, s2, .tup (SqT.of upd_same) (.cons (.str _) (.cons (.int _) .nil))⟩ ?_ ?_⟩
    · rintro i σ H2 hi ⟨r2, lp, rfl, s3, hd3⟩
      refine ⟨by show 2 ≤ sizeLine; decide, fun r3 hr3 => ?_⟩
      have s4 := Pre.same_upd (o := .tup [.str "num", .int 1]) hr3
      refine ⟨_, rfl, by show 3 ≤ sizeLine; decide, fun r4 hr4 => ?_⟩
      have s5 := Pre.same_upd (o := .tup [.str "to", .ref r3, .ref r2]) hr4
      exact ⟨r4, _, rfl, s3.trans (s4.trans s5), .tup (SqT.of upd_same) (.cons (.str _) (.cons (dp_same s5 (.tup (SqT.of upd_same) (.cons (.str _) (.cons (.int _) .nil)))) (.cons (dp_same (s4.trans s5) hd3) .nil)))⟩
    · rintro σ H2 ⟨r2, lp, rfl, s3, hd3⟩
      have st2 := st_same st1 s3
      obtain ⟨up2, hp2⟩ := st_p st2
      obtain ⟨ug2, hg2⟩ := st_g st2
      refine ⟨_, rfl, _, rfl, _, rfl, ?_⟩
      intro vs1 H3 s4 hd4
      have hv1 : vs1.length = 3 := dpAll_len hd4
      refine ⟨by show (V.ref r2 :: vs1).length ≤ sizeLine; rw [List.length_cons, hv1]; decide, fun l2 hl2 => ?_⟩
      have s5 := Pre.same_upd (o := .lst (V.ref r2 :: vs1)) hl2
      have hl1' := (s3.trans (s4.trans s5)) _ _ hl1
      refine ⟨l, l2, vs0, V.ref r2 :: vs1, rfl, rfl, hl1', upd_same, by rw [List.length_cons, hv0, hv1]; decide, fun l3 hl3 => ?_⟩
      have s6 := Pre.same_upd (o := .lst (vs0 ++ V.ref r2 :: vs1)) hl3
      have s26 := s4.trans (s5.trans s6)
      have s16 := s3.trans s26
      have st3 := st_same st1 s16
      have nl3 := st_new (st_same st1 (s3.trans (s4.trans s5))) hl3
      have all : ∀ v ∈ vs0 ++ V.ref r2 :: vs1, NoV K (wo p g (upd (upd H3 l2 (.lst (V.ref r2 :: vs1))) l3 (.lst (vs0 ++ V.ref r2 :: vs1)))) v := fun v hv => by
        rcases List.mem_append.mp hv with hv | hv
        · exact nov_same ((nw_wo hp0 hg0).trans (wo_mono s16)) (nov_all hd0 badk0_no v hv)
        · rcases List.mem_cons.mp hv with hv | hv
          · rw [hv]
            exact nov_same (wo_mono s26) ⟨_, dp_kd st2 hd3, great_no⟩
          · exact nov_same ((nw_wo hp2 hg2).trans (wo_mono (s5.trans s6))) (nov_all hd4 badk1_no v hv)
      have lz : (vs0 ++ V.ref r2 :: vs1).length = 14 := by rw [List.length_append, List.length_cons, hv0, hv1]
      refine ⟨p, g, c, n, l3, _, rfl, st3, by omega, upd_same, nl3.2, by omega, by omega, fun H5 i y kp st5 hi hy => ?_⟩
      exact k H5 y ((Pre.Kp.of (s1.trans s16)).trans kp) st5 (nov_same (wo_kp kp) (all y (List.mem_of_getElem? hy)))
end
end Kn
namespace Wt
open PySem PySem.Spec PyProof.Rows L2
open Dc
abbrev sTruth : Stmt := Pre.top 39
section
variable {P0 : Program} {w : World} {K : PySem.W.Frag} {mg : Str → Option Value} {base : Heap}
def spTruth : Sp := fun vs H Q _ => ∃ a b : Bool, vs = [.bl a, .bl b] ∧ Q (.bl (decide (a = b))) H
theorem scTruth : FnScope ["found", "due"] ["found", "due"] (defScope sTruth) := ⟨rfl, rfl, rfl, by decide +kernel, rfl, by decide +kernel, by decide +kernel⟩
theorem ok_truth {f : Addr} {fd : FuncData} (F : Fun K "_law_is_truth" "_law_is_truth" sTruth f fd) : FnOk P0 w K mg base CX0 1 f fd ["found", "due"] spTruth := by
  refine F.ok scTruth (fun vs H Q E h => ?_) (fun cdv A outer s H vs Q E hr h => ?_)
  · obtain ⟨a, b, rfl, _⟩ := h
    rfl
  · obtain ⟨a, b, rfl, k⟩ := h
    refine ⟨_, pss_one (ps_ret (pe_ifExp (pt_val (pv 1)) (pe_cmpR op_isBl (pv 0) pe_bl (nomark _)) (pe_cmpR op_isBl (pv 0) pe_bl (nomark _)))), ?_⟩
    refine ⟨_, rfl, b, rfl, ?_⟩
    cases b with
    | true => exact ⟨_, rfl, a, true, rfl, rfl, k⟩
    | false => exact ⟨_, rfl, a, false, rfl, rfl, k⟩
end
end Wt

namespace Tk
open PySem PySem.Spec PyProof.Rows L2
open Wt Kn Dc Us Xt
open Lm (LamO ExT tLamb pe_lam tCaught pe_caught sCaught)
open LamX (CodeO TabS Tabs ExtN TabB LamS lamEnv lamCx lamS_by)
abbrev sLawQ : Stmt := Pre.top 62
abbrev nLawQ : List Str := ["script", "state", "lap", "kind", "wanted", "answer", "tree", "turn", "bent", "found", "is_good", "bad"]
theorem scLawQ : FnScope nLawQ ["script"] (defScope sLawQ) := ⟨rfl, rfl, rfl, by decide +kernel, rfl, by decide +kernel, by decide +kernel⟩
abbrev qK : Str := lamQ "law" (defScope sLawQ)
theorem ts_wo {H : Hp} {p g c : Addr} {n : Nat} (h : Pre.St H p g c n) : TupS H (wo p g H) := fun b o no e => by
  obtain ⟨⟨gs, cs, r, t', q1, q2, q3, q4⟩, h8⟩ := h
  refine wo_at (fun z => ?_) (fun z => ?_) e
  · rw [z, q1] at e
    cases e
    exact no (noTup_dK _)
  · rw [z, q2] at e
    cases e
    exact no (noTup_lst _)
theorem G_two {c : Cn} (h : G c = true) : 2 ≤ Kn.sz c.t := by
  cases e : kids2 c with
  | none => rw [G_none e] at h; cases h
  | some p =>
    have two : ∀ (x : PyData) (xs : List PyData), 2 ≤ Kn.sz (.tuple (x :: xs)) := fun x xs => by
      have := Kn.sz_pos x
      show 2 ≤ 1 + (Kn.sz x + Kn.szAll xs)
      omega
    cases kid_of e with
    | non ht _ => rw [ht]; exact two _ _
    | ans b ht _ _ _ => rw [ht]; exact two _ _
    | draw rows ht _ _ => rw [ht]; exact two _ _
    | ask v a hs rs ht _ _ _ _ _ => rw [ht]; exact two _ _
section
variable {P0 : Program} {w : World} {K : PySem.W.Frag} {mg : Str → Option Value} {base : Heap}
/-- a def of the law -/
structure Own (K : PySem.W.Frag) (mg : Str → Option Value) (x : Str) (st : Stmt) (f : Addr) (fd : FuncData) : Prop where
  F : Fun K x x st f fd
  m : mg x = some (.ref f)
/-- an error that the law catches -/
structure ErX (K : PySem.W.Frag) (mg : Str → Option Value) (x : Str) (CS C : Addr) : Prop where
  g : mg x = some (.ref C)
  x : PySem.W.exmOne K (.ref C) (.ref CS) = some true
  i : IsE K C
  k : PySem.W.kitOne K (.ref C) (.ref C) = some true
structure LkQ (P0 : Program) (w : World) (K : PySem.W.Frag) (mg : Str → Option Value) (CB CK fD fP fB fA fKt fW fCl fBe fIs fBt fSz fTr fBk fC ftk : Addr) (dD dP dB dA dKt dW dCl dBe dIs dBt dSz dTr dBk dC dtk : FuncData) : Prop where
  D : Drw K mg fD fP fB dD dP dB
  T : TxtW mg
  zm : mg "min" = none
  A : Own K mg "_law_begun" Pre.sBegun fA dA
  Kt : Own K mg "_law_tk_kind" sKindT fKt dKt
  gKt : ∀ base, FnOk P0 w K mg base CX0 23 fKt dKt ["state"] (spKindT K)
  Wa : Own K mg "_law_cp_wanted" sWanted fW dW
  Cl : Own K mg "_law_tk_closed" sClosedL fCl dCl
  gCl : ∀ base, FnOk P0 w K mg base CX0 12 fCl dCl ["state", "kind", "room"] (spCl K)
  Be : Own K mg "_law_cp_bent" sBent fBe dBe
  gBe : ∀ base, FnOk P0 w K mg base CX0 21 fBe dBe ["state", "thing"] (spBentT K)
  Is : Own K mg "_law_k24_is" sIsL fIs dIs
  gIs : ∀ base, FnOk P0 w K mg base CX0 5 fIs dIs ["one", "things", "k"] (spIsL K)
  Bt : Own K mg "_law_tk_bad_talk" sBadT fBt dBt
  gBt : ∀ base, FnOk P0 w K mg base CX0 4 fBt dBt ["state", "kind", "tree"] (spBadT K)
  Sz : Own K mg "_law_k24_sized" sSized fSz dSz
  gSz : ∀ base, FnOk P0 w K mg base CX0 8 fSz dSz ["state"] (spSized K)
  Tr : Own K mg "_law_is_truth" sTruth fTr dTr
  Bk : Own K mg "_law_cp_bad_kind" Kn.sBadK fBk dBk
  C : Own K mg "_law_caught" sCaught fC dC
  tk : Use P0 w K mg (L2.CX P0 w) 7 "is_talk" ["kind", "value"] (spTalk K CK) ftk dtk
  btk : Binds K dtk ["kind", "value"] []
  ktk : ∀ (s : Shared) (u v : Value), K.In s.heap → BindsTo s dtk ⟨[], [("kind", u), ("value", v)]⟩ [("kind", u), ("value", v)]
  eB : mg "ChanceError" = some (.ref CB)
  eK : ErX K mg "BadKind" CB CK
  Z : IsG K
/-- what stands between two statements: the state, the table of the law's lambdas -/
structure Am (K : PySem.W.Frag) (PR p g c : Addr) (n : Nat) (H : Hp) : Prop where
  st : Pre.St H p g c n
  tb : Tabs [(PR, qK)] H
theorem Am.same {PR p g c : Addr} {n : Nat} {H H' : Hp} (a : Am K PR p g c n H) (s : Same H H') : Am K PR p g c n H' := ⟨st_same a.st s, tabs_same a.tb s⟩
theorem Am.kp {PR p g c : Addr} {n m : Nat} {H H' : Hp} (a : Am K PR p g c n H) (s : Pre.Kp p g H H') (st : Pre.St H' p g c m) : Am K PR p g c m H' := ⟨st, tabs_kp a.tb a.st s⟩
theorem Am.ext {PR p g c : Addr} {n : Nat} {H H' : Hp} (a : Am K PR p g c n H) (s : ExtN H H') (t : Tabs [(PR, qK)] H') : Am K PR p g c n H' := ⟨st_ext a.st s, t⟩
/-- data that stays -/
theorem dp_kx {H H' : Hp} {p g : Addr} {x : V} {d : PyData} (k : Kx p g H H') (h : Dp K (wx p g H) x d) : Dp K (wx p g H') x d := dp_same (wx_kx k) h
theorem dp_in {H : Hp} {p g : Addr} {x : V} {d : PyData} (h : Dp K (wo p g H) x d) : Dp K (wx p g H) x d := dp_nt h
theorem dp_out {H : Hp} {p g : Addr} {x : V} {d : PyData} (h : Dp K (wx p g H) x d) : Dp K H x d := dp_same wx_sub h
def spLawQ (K : PySem.W.Frag) (PR : Addr) : Sp := fun vs H Q _ => ∃ (a : Addr) (ns : List Int), vs = [.ref a] ∧ SqL K H a (ns.map V.int) ∧ ns.length ≤ 63 ∧ Tabs [(PR, qK)] H ∧ ∀ H', Q (.bl true) H'
set_option maxHeartbeats 4000000 in
theorem ok_lawQ {f cR PR : Addr} {oc kV doc pm ct : Value} {od an : Option Addr} {osl : Array (Option Value)} {CB CK fD fP fB fA fKt fW fCl fBe fIs fBt fSz fTr fBk fC ftk : Addr} {dD dP dB dA dKt dW dCl dBe dIs dBt dSz dTr dBk dC dtk : FuncData}
    (at_ : K.lookup f = some ⟨oc, od, .func (PySem.W.fnOf "law" "law" (defArgs sLawQ) (defBody sLawQ) (defScope sLawQ) .none kV doc pm an (.ref cR) ct), osl⟩) (code : PySem.W.codeIn K (.ref cR) "law" = true)
    (TB : TabB base mg cR PR) (T : LkQ P0 w K mg CB CK fD fP fB fA fKt fW fCl fBe fIs fBt fSz fTr fBk fC ftk dD dP dB dA dKt dW dCl dBe dIs dBt dSz dTr dBk dC dtk) :
    Gd.FnG P0 w K mg base CX0 24 f (PySem.W.fnOf "law" "law" (defArgs sLawQ) (defBody sLawQ) (defScope sLawQ) .none kV doc pm an (.ref cR) ct) ["script"] (spLawQ K PR) := by
  have GA : FnOk P0 w K mg base CX0 1 fA dA ["script"] (Pre.spBegun K) := Pre.ok_begun T.A.F T.D.T
  have GKt := T.gKt base
  have GW : FnOk P0 w K mg base CX0 1 fW dW ["kind"] (spWanted K) := ok_wanted T.Wa.F
  have GCl := T.gCl base
  have GBe := T.gBe base
  have GIs := T.gIs base
  have GBt := T.gBt base
  have GSz := T.gSz base
  have GBk : FnOk P0 w K mg base CX0 4 fBk dBk ["state"] (spBadK K) := ok_badK T.Bk.F T.D
  have GT : FnOk P0 w K mg base CX0 1 fTr dTr ["found", "due"] spTruth := ok_truth T.Tr.F
  have bA := T.A.F.binds (ps := ["script"]) fun _ _ _ _ _ _ us hl => match us, hl with | [_], _ => rfl
  have bKt := T.Kt.F.binds (ps := ["state"]) fun _ _ _ _ _ _ us hl => match us, hl with | [_], _ => rfl
  have bW := T.Wa.F.binds (ps := ["kind"]) fun _ _ _ _ _ _ us hl => match us, hl with | [_], _ => rfl
  have bCl := T.Cl.F.binds (ps := ["state", "kind", "room"]) fun _ _ _ _ _ _ us hl => match us, hl with | [_, _, _], _ => rfl
  have bBe := T.Be.F.binds (ps := ["state", "thing"]) fun _ _ _ _ _ _ us hl => match us, hl with | [_, _], _ => rfl
  have bIs := T.Is.F.binds (ps := ["one", "things", "k"]) fun _ _ _ _ _ _ us hl => match us, hl with | [_, _, _], _ => rfl
  have bBt := T.Bt.F.binds (ps := ["state", "kind", "tree"]) fun _ _ _ _ _ _ us hl => match us, hl with | [_, _, _], _ => rfl
  have bSz := T.Sz.F.binds (ps := ["state"]) fun _ _ _ _ _ _ us hl => match us, hl with | [_], _ => rfl
  have bBk := T.Bk.F.binds (ps := ["state"]) fun _ _ _ _ _ _ us hl => match us, hl with | [_], _ => rfl
  have bT := T.Tr.F.binds (ps := ["found", "due"]) fun _ _ _ _ _ _ us hl => match us, hl with | [_, _], _ => rfl
  refine Gd.fnG_of at_ code scLawQ (fun vs H Q E h => ?_) (fun A outer s H vs Q E hr hG h => ?_)
  · obtain ⟨a, ns, rfl, _⟩ := h
    rfl
  · obtain ⟨a, ns, rfl, hS, hlen, ht, k⟩ := h
    have nd := scLawQ.nd
    have hr1 : Room 1 _ := hr.mono (by decide)
    have hr4 : Room 4 _ := hr.mono (by decide)
    have hr5 : Room 5 _ := hr.mono (by decide)
    have hr7 : Room 7 _ := hr.mono (by decide)
    have hr8 : Room 8 _ := hr.mono (by decide)
    have hr12 : Room 12 _ := hr.mono (by decide)
    have hr21 : Room 21 _ := hr.mono (by decide)
    have hr23 : Room 23 _ := hr.mono (by decide)
    refine (fun (z : ∃ t, PSs (cxOf CX0 P0 w K mg base nLawQ "law" (defScope sLawQ) f (.ref cR) A outer s H E).nox (defBody sLawQ) t ∧ t { nx := fun _ H' => Q .non H', rt := Q } (L2.start nLawQ [.ref a]) H) => let ⟨t, h1, h2⟩ := z; ⟨t, h1.nox, h2⟩) ?_
    apply Exists.intro
    apply And.intro
    · apply pss_cons
      · exact ps_set (i := 1) nd rfl (Or.inl rfl) (pe_call GA hr1 (by rfl) T.A.m T.A.F.kp bA .nil pass0 (pa_cons (pv 0) pa_nil))
      apply pss_cons
      · exact ps_for PassesOwn.never rfl (pi_range1 (by rfl) T.D.zg (pa_cons (pe_op op_add pe_int (pe_callB (call_min2 (by rfl)) (by rfl) T.zm (by decide +kernel) (pa_cons (pe_callB call_len_seq (by rfl) T.T.len PySem.boot_len (pa_cons (pv 0) pa_nil)) (pa_cons pe_int pa_nil)))) pa_nil)) (pg_name (i := 2) nd rfl (Or.inl rfl))
          (pss_cons (ps_set (i := 3) nd rfl (Or.inl rfl) (pe_call GKt hr23 (by rfl) T.Kt.m T.Kt.F.kp bKt .nil pass0 (pa_cons (pv 1) pa_nil)))
          (pss_cons (ps_asg (pe_call GW hr1 (by rfl) T.Wa.m T.Wa.F.kp bW .nil pass0 (pa_cons (pv 3) pa_nil)) (pg_tup (by rfl) (pgs_cons (pg_name (i := 4) nd rfl (Or.inl rfl)) (pgs_cons (pg_name (i := 5) nd rfl (Or.inl rfl)) pgs_nil))))
          (pss_cons (ps_set (i := 6) nd rfl (Or.inl rfl) (pe_call GCl hr12 (by rfl) T.Cl.m T.Cl.F.kp bCl .nil pass0 (pa_cons (pv 1) (pa_cons (pv 3) (pa_cons pe_int pa_nil)))))
          (pss_cons (ps_if (pt_cmpR op_notBl (pe_kw2 T.tk hr7 none_out T.ktk (pv 3) (pv 6)) pe_bl (nomark _)) (pss_one (ps_ret pe_bl)) pss_nil)
          (pss_cons (ps_for PassesOwn.never rfl (pi_range1 (by rfl) T.D.zg (pa_cons pe_int pa_nil)) (pg_name (i := 7) nd rfl (Or.inl rfl))
            (pss_cons (ps_set (i := 8) nd rfl (Or.inl rfl) (pe_call GBe hr21 (by rfl) T.Be.m T.Be.F.kp bBe .nil pass0 (pa_cons (pv 1) (pa_cons (pv 6) pa_nil))))
            (pss_one (ps_if (pt_not (pt_val (pe_call GT hr1 (by rfl) T.Tr.m T.Tr.F.kp bT .nil pass0 (pa_cons (pe_useN T.tk hr7 T.btk .nil (pa_cons (pv 3) (pa_cons (pv 8) pa_nil))) (pa_cons (pe_call GIs hr5 (by rfl) T.Is.m T.Is.F.kp bIs .nil pass0 (pa_cons (pv 8) (pa_cons (pv 4) (pa_cons (pv 5) pa_nil)))) pa_nil))))) (pss_one (ps_ret pe_bl)) pss_nil))))
          (pss_one (ps_if (pt_cmpR op_notBl (pe_useN T.tk hr7 T.btk .nil (pa_cons (pv 3) (pa_cons (pe_call GBt hr4 (by rfl) T.Bt.m T.Bt.F.kp bBt .nil pass0 (pa_cons (pv 1) (pa_cons (pv 3) (pa_cons (pv 6) pa_nil)))) pa_nil))) pe_bl (nomark _)) (pss_one (ps_ret pe_bl)) pss_nil)))))))
      apply pss_cons
      · exact ps_asg (pe_call GSz hr8 (by rfl) T.Sz.m T.Sz.F.kp bSz .nil pass0 (pa_cons (pv 1) pa_nil)) (pg_tup (by rfl) (pgs_cons (pg_name (i := 9) nd rfl (Or.inl rfl)) (pgs_cons (pg_name (i := 10) nd rfl (Or.inl rfl)) pgs_nil)))
      apply pss_cons
      · exact ps_if (pt_not (pt_val (pe_call GT hr1 (by rfl) T.Tr.m T.Tr.F.kp bT .nil pass0 (pa_cons (pe_useN T.tk hr7 T.btk .nil (pa_cons (pe_tup (pa_cons pe_str (pa_cons pe_int pa_nil))) (pa_cons (pv 9) pa_nil))) (pa_cons (pv 10) pa_nil))))) (pss_one (ps_ret pe_bl)) pss_nil
      apply pss_cons
      · exact ps_set (i := 11) nd rfl (Or.inr rfl) (pe_call GBk hr4 (by rfl) T.Bk.m T.Bk.F.kp bBk .nil pass0 (pa_cons (pv 1) pa_nil))
      exact pss_one (ps_ret (pe_callB (call_isE T.Z) (by rfl) T.T.isi (by decide +kernel) (pa_cons (pe_caught (k := 7) (CS := CB) T.C.F T.C.m T.eB (hr.mono (by decide)) (pa_cons (pe_lam (T := [(PR, qK)]) TB rfl (List.mem_singleton.mpr rfl) one_l (lamS_by (by rfl)) (by rfl)) pa_nil)) (pa_cons (pe_glob (v := .ref CK) (by rfl) T.eK.g rfl) pa_nil))))
    refine ⟨_, rfl, a, ns, rfl, hS, hlen, fun H1 p g c s1 st1 p0 g0 => ?_⟩
    refine ⟨_, rfl, a, _, rfl, .inl (s1.seq hS), _, _, rfl, _, _, rfl, rfl, _, rfl, ?_, ?_, for_range (fun i σ H' => ∃ o2 o3 o4 o5 o6 o7 o8, σ = [some (.ref a), some (.ref p), o2, o3, o4, o5, o6, o7, o8, none, none, none] ∧ Am K PR p g c (1300 * i) H')
      ⟨_, _, _, _, _, _, _, rfl, ⟨st1, tabs_same ht s1⟩⟩ ?_ ?_⟩
    · split <;> omega
    · split <;> omega
    · rintro i σ H2 hi ⟨o2, o3, o4, o5, o6, o7, o8, rfl, am⟩
      have hi2 : i < 10 := by
        revert hi
        split <;> omega
      clear hi s1 st1 p0 g0 H1 ht hS
      refine ⟨_, rfl, p, g, c, 1300 * i, rfl, am.st, by omega, fun y t H3 k3 st3 hy tg tn => ?_⟩
      have am3 := am.kp k3 st3
      refine ⟨_, rfl, y, t, rfl, hy, by omega, fun q Wl ws H4 s4 hq hWn hWl hws => ?_⟩
      refine ⟨q, _, rfl, hq, rfl, _, _, rfl, _, _, rfl, rfl, ?_⟩
      have am4 := am3.same s4
      have nW := st_new am3.st hWn
      have hy4 := dp_same s4 hy
      have hws4 := dpAll_same s4 hws
      have gA : ∀ u ∈ t.args, u.good := fun u hu => arg_good tg hu
      have plK := pl_dat tg
      have plA := pl_dats gA
      have taf := args_few t
      have isk : isK t.dat = true := by
        rw [isK_dat tg]
        exact decide_eq_true (by omega)
      have shK : Sh t.dat := ok_sh (m := 8) ⟨can_dat t, Nat.le_trans (dep_dat t) tn⟩ (by decide)
      refine ⟨_, rfl, _, rfl, p, g, c, 1300 * i + 40, y, t, rfl, am4.st, by omega, hy4, tg, tn, fun v d H5 k5 st5 hv hpl hG hsz hdep => ?_⟩
      have am5 := am4.kp k5 st5
      have ts45 := TupS.kp am4.st k5
      have hy5 := dp_ts ts45 plK hy4
      have hWl5 := k5 _ _ nW.1 nW.2 hWl
      have hws5 := dpAll_ts ts45 plA hws4
      have hsh : Sh d := ok_sh (m := 16) ⟨pl_can d hpl, hdep⟩ (by decide)
      have hsB : hsB d = true := sh_hs _ d (Nat.lt_succ_self _) hsh
      -- the talk itself
      refine ⟨_, rfl, _, rfl, y, v, t.dat, rfl, hy5, shK, .inr ⟨t, d, _, rfl, isk, by omega, tg, hv, pl_sm d hpl, hsI_B, hsB, fun H6 b s6 hb => ?_⟩⟩
      have b1 : b = true := hb.mpr ((fin_small (by show Kn.sz d ≤ 4000; omega) (by show d.depth ≤ 99; omega)).mpr hG)
      subst b1
      refine ⟨true, true, rfl, rfl, _, rfl, iteF ?_⟩
      have am6 := am5.same s6
      have hy6 := dp_same s6 hy5
      have hv6 := dp_same s6 hv
      have hWl6 := s6 _ _ hWl5
      have hws6 := dpAll_same s6 hws5
      have h2 := G_two hG
      clear am am3 am4 am5 k3 st3 hq s4 hWn hWl hws hy4 hws4 k5 st5 ts45 hy5 hWl5 hws5 hv s6 hy hb
      refine ⟨4, rfl, by decide, by decide, for_range (n := 4) (fun j σ H' => ∃ o7 o8, σ = [some (.ref a), some (.ref p), some (.int (0 + (i : Int))), some y, some (.ref Wl), some (.int t.ans), some v, o7, o8, none, none, none] ∧ Am K PR p g c (1300 * i + 1240 + 3 * j) H' ∧ Dp K H' y t.dat ∧ Dp K H' v d ∧ H' Wl = some (.lst ws) ∧ DpAll K H' ws (t.args.map Kd.dat))
        ⟨_, _, rfl, am6, hy6, hv6, hWl6, hws6⟩ ?_ ?_⟩
      · rintro j σ H7 hj ⟨o7, o8, rfl, am7, hy7, hv7, hWl7, hws7⟩
        refine ⟨_, rfl, _, rfl, v, p, g, c, _, d, rfl, am7.st, by omega, dp_plW am7.st hpl hv7, hpl, h2, by omega, by omega, fun z H8 k8 st8 hz => ?_⟩
        obtain ⟨e, he, ob⟩ := hz
        have am8 := am7.kp k8 st8
        have ts8 := TupS.kp am7.st k8
        have hy8 := dp_ts ts8 plK hy7
        have hv8 := dp_ts ts8 hpl hv7
        have hWl8 := k8 _ _ nW.1 nW.2 hWl7
        have hws8 := dpAll_ts ts8 plA hws7
        have hse : Tk.hsB e = true := sh_hs _ e (Nat.lt_succ_self _) (ok_sh ob.ok (by decide))
        refine ⟨_, rfl, _, rfl, y, z, t.dat, rfl, hy8, shK, .inr ⟨t, e, _, rfl, isk, by omega, tg, dp_same wo_sub he, ob.sm, hsI_B, hse, fun H9 b s9 hb => ?_⟩⟩
        have am9 := am8.same s9
        refine ⟨_, rfl, _, rfl, _, rfl, z, Wl, e, ws, t.args, t.ans, p, g, rfl, Av.st am9.st, nW.1, nW.2, dp_same (wo_mono s9) he, s9 _ _ hWl8, dpAll_ts (ts_wo am9.st) plA (dpAll_same s9 hws8), fun u hu => ⟨by have := arg_nums hu; omega, gA u hu⟩, by omega, ob, fun H10 s10 => ?_⟩
        have eb : b = G ⟨e, t.args, t.ans⟩ := Bool.eq_iff_iff.mpr (hb.trans (fin_small ob.sz (Nat.le_trans ob.ok.2 (by decide))))
        refine ⟨b, _, rfl, _, rfl, ?_⟩
        rw [← eb, decide_eq_true rfl]
        refine iteF ⟨_, _, rfl, am9.same s10, dp_same (s9.trans s10) hy8, dp_same (s9.trans s10) hv8, s10 _ _ (s9 _ _ hWl8), dpAll_same (s9.trans s10) hws8⟩
      · rintro σ H7 ⟨o7, o8, rfl, am7, hy7, hv7, hWl7, hws7⟩
        refine ⟨_, rfl, _, rfl, _, rfl, _, rfl, p, g, c, _, y, v, t, d, rfl, am7.st, by omega, hy7, tg, tn, hv7, hpl, hsh, fun u H8 e k8 st8 he hno => ?_⟩
        have am8 := am7.kp k8 st8
        have ts8 := TupS.kp am7.st k8
        obtain ⟨⟨I, hI, hIe⟩, hsm, hnf⟩ := hno
        refine ⟨y, u, t.dat, rfl, dp_ts ts8 plK hy7, shK, .inr ⟨t, e, I, rfl, isk, by omega, tg, dp_same wo_sub he, hsm, hI, hIe, fun H9 b s9 hb => ?_⟩⟩
        have b0 : b = false := by
          cases b with
          | false => rfl
          | true => exact absurd (hb.mp rfl) hnf
        subst b0
        refine ⟨false, false, rfl, rfl, _, rfl, iteF ?_⟩
        have am9 := am8.same s9
        exact ⟨_, _, _, _, _, _, _, rfl, ⟨st_more am9.st (by omega), am9.tb⟩⟩
    · rintro σ H2 ⟨o2, o3, o4, o5, o6, o7, o8, rfl, am0⟩
      have am : Am K PR p g c 13000 H2 := ⟨st_more am0.st (by split <;> omega), am0.tb⟩
      clear am0
      refine ⟨_, rfl, p, g, c, 13000, rfl, am.st, by decide, fun r y b d H3 k3 st3 hr' hy hpl hI hb => ?_⟩
      refine ⟨r, _, rfl, hr', rfl, _, _, rfl, _, _, rfl, rfl, ?_⟩
      have am3 := am.kp k3 st3
      obtain ⟨I, hI, hIe⟩ := hI
      refine ⟨by show 2 ≤ sizeLine; decide, fun q1 hq1 => ?_⟩
      have s4 := Pre.same_upd (o := .tup [.str "num", .int 2]) hq1
      refine ⟨_, rfl, .ref q1, y, (Kd.num 2).dat, rfl, dp_num (SqT.of upd_same), by decide +kernel, .inr ⟨.num 2, d, I, rfl, by decide +kernel, by decide, ⟨by decide, by decide⟩, dp_same s4 hy, pl_sm d hpl, hI, hIe, fun H5 b' s5 hb' => ?_⟩⟩
      have eb : b' = b := Bool.eq_iff_iff.mpr (hb'.trans hb.symm)
      refine ⟨_, rfl, b', b, rfl, _, rfl, ?_⟩
      rw [decide_eq_true eb]
      have am5 := (am3.same s4).same s5
      refine iteF ⟨_, rfl, p, g, c, _, rfl, am5.st, by decide, fun H6 z k6 st6 hz => ?_⟩
      obtain ⟨e, he, hno⟩ := hz
      have am6 := am5.kp k6 st6
      have he6 := dp_in he
      refine ⟨am6.tb, fun f0 q0 H0 eN tN n0 h0 => ?_⟩
      have eB : ∀ o, ExtN H6 (upd H0 f0 o) := fun o => eN.trans (ext_of (Pre.same_upd n0))
      refine ⟨f0, q0, _, _, _, fun E => tCallS (spTalk K CK) (fun _ => E) (tCons (tVar 11) (tCons (tTup (tCons (tC (.str "none")) tNil)) tNil)), rfl, upd_same, (upd_ne (ne_of_none h0 n0)).trans h0, lamS_by (by rfl), fun _ _ _ _ _ => rfl, fun A outer s H E hr => pe_callS (T.tk.ok _) (hr.mono (by decide)) rfl T.tk.at_ T.tk.kp T.btk (fun σ => passAt (takes_of rfl rfl rfl rfl) σ) (pa_cons (pv 11) (pa_cons (pe_tup (pa_cons pe_str pa_nil)) pa_nil)), fun E R hE _ => ?_⟩
      refine ⟨_, rfl, by show 1 ≤ sizeLine; decide, fun q2 hq2 => ?_⟩
      have sq := Pre.same_upd (o := .tup [.str "none"]) hq2
      refine ⟨z, .ref q2, e, rfl, dp_same sq (dp_out (dp_kx (Kx.ext (eB _)) he6)), ok_sh hno.2 (by decide), .inl ⟨hno.1, fun HC sC => hE (.ref CK) none HC T.eK.x (fun ea hea => ?_)⟩⟩
      exact ⟨ea, CK, .ref CK, .ref CK, true, rfl, upd_same, T.eK.i, .own CK, T.eK.k, k _⟩
end
end Tk

namespace Gd
open PySem PySem.Spec PyProof.Rows L2
open LamX (TabB)
/-- the law's call, where it makes texts of things and where one def of it makes lambdas: c that def's code, P the table of it -/
theorem call_G {P0 : Program} {w : World} {K : PySem.W.Frag} {mg mb : Str → Option Value} {CX : CXT} {k : Nat} {fa a c P : Addr} {fd : FuncData} {x : Str} {sp : Sp} {sA : Shared} {us : List Value} {zs : List Int}
    (inK : K.In sA.heap) (nsG : sA.heap.Ns mainGlobals mg) (nsB : sA.heap.Ns builtinsNs mb) (bts : ∀ y : Str, y ≠ "__name__" → mb y = bootBuiltins y) (lim : sA.heap.NoLimit) (gen0 : sA.gens = #[])
    (tab0 : sA.heap.get? P = some { cls := .none, data := .fields #[] }) (offK : K.lookup P = none) (cd : PySem.W.CodeHd sA.heap c P)
    (bmod : ∃ (m : Addr) (om : Obj), mg "__builtins__" = some (.ref m) ∧ m ≠ builtinsNs ∧ sA.heap.get? m = some om ∧ om.cls = .type "module" ∧ om.dict = some builtinsNs ∧ om.data = .plain)
    (scr : sA.heap.get? a = some { cls := .type "list", data := .seq us.toArray }) (nums : IntsAre us zs) (few : zs.length ≤ sizeLine) (room : Room k callerA)
    (prom : ∀ base : Heap, K.In base → base.Ns mainGlobals mg → TabB base mg c P → FnG P0 w K mg base CX k fa fd [x] sp) (bnd : ∀ (s : Shared) (u : Value), BindsTo s fd ⟨[u], []⟩ [(x, u)])
    (wish : ∀ H : Hp, H P = some (.tbl #[]) → SqL K H a (zs.map V.int) → sp [.ref a] H (fun v _ => v = .bl true) fun _ _ _ => False)
    (noX : ∀ H e s', CX [] H sA (fun _ _ _ => False) e s' → False) :
    codeAny (model P0 w) callerA (.call (.ref fa) ⟨[.ref a], []⟩) (fun r s' => r = .ok (.ret (.bool true)) ∧ OldK sA.heap s'.heap ∧ s'.os = sA.os ∧ AllBare s'.gens) sA := by
  have rel := vals_ints nums
  have same := nums.length
  have aP : a ≠ P := fun z => by
    rw [← z, scr] at tab0
    have y : Data.seq us.toArray _ = Data.fields #[] := congrArg Obj.data (Option.some.inj tab0)
    cases y
  -- H tracks the table, and the script if it is none of the module's own things
  have go : ∀ H : Hp, H P = some (.tbl #[]) → (∀ b, b ≠ P → b ≠ a → H b = none) → (H a = none ∨ ∃ o ys, H a = some (.frz o (.lst ys))) → (H a ≠ none → K.lookup a = none) → SqL K H a (zs.map V.int) → HOk P0 w H sA.heap →
      codeAny (model P0 w) callerA (.call (.ref fa) ⟨[.ref a], []⟩) (fun r s' => r = .ok (.ret (.bool true)) ∧ OldK sA.heap s'.heap ∧ s'.os = sA.os ∧ AllBare s'.gens) sA := by
    intro H tP rest atA atK sq ok
    have keep : ∀ {b : Addr} {o : Obj}, sA.heap.get? b = some o → H b = none → (hidT sA.heap H).get? b = some o := fun e n => hidT_get e n
    -- what is no list and no empty table is not tracked
    have off : ∀ {b : Addr} {o : Obj}, sA.heap.get? b = some o → (∀ ys n, o.data ≠ .seq ys n) → o.data ≠ .fields #[] → H b = none := fun {b o} e h1 h2 => by
      by_cases h3 : b = P
      · rw [h3, tab0] at e
        cases e
        exact absurd rfl h2
      · by_cases h4 : b = a
        · rw [h4, scr] at e
          cases e
          exact absurd rfl (h1 _ _)
        · exact rest b h3 h4
    have offD : ∀ {b : Addr} {o : Obj} {es : Array DictEntry} {ep : Nat}, sA.heap.get? b = some o → o.data = .dict es ep → H b = none := fun {b o es ep} e d => off e (fun ys n z => by
      rw [d] at z
      cases z) (fun z => by
      rw [d] at z
      cases z)
    have nsOf : ∀ {b : Addr} {m : Str → Option Value}, sA.heap.Ns b m → (hidT sA.heap H).Ns b m := fun {b m} ⟨o, es, ep, e, d, r⟩ => ⟨o, es, ep, keep e (offD e d), d, r⟩
    have inB : K.In (hidT sA.heap H) := fun b o e => keep (inK b o e) (by
      by_cases h3 : b = P
      · rw [h3, offK] at e
        cases e
      · by_cases h4 : b = a
        · cases q : H a with
          | none => rw [h4, q]
          | some u =>
            rw [h4, atK (by rw [q]; simp)] at e
            cases e
        · exact rest b h3 h4)
    have modB : L2.Mod K mg (hidT sA.heap H) := ⟨inB, nsOf nsG, ⟨mb, nsOf nsB, bts⟩, let ⟨mc, h1, h2⟩ := lim; ⟨mc, nsOf h1, h2⟩⟩
    have TB : TabB (hidT sA.heap H) mg c P := by
      refine ⟨?_, ?_, fun z => ?_⟩
      · obtain ⟨o, fv, file, tf, flags, tg, inF, text, tt, k1, k2, k3, k4, k5, k6, k7, k8, k9, k10⟩ := cd
        refine ⟨o, fv, file, tf, flags, tg, inF, text, tt, keep k1 (off k1 (fun ys n z => ?_) fun z => ?_), k2, k3, k4, k5, k6, k7, k8, k9, k10⟩
        · rw [k3] at z
          cases z
        · rw [k3] at z
          cases z
          simp at k4
      · obtain ⟨m, om, k1, k2, k3, k4, k5, k6⟩ := bmod
        have n1 : m ≠ mainGlobals := fun z => by
          obtain ⟨o, es, ep, e, d, _⟩ := nsG
          rw [z, e] at k3
          cases k3
          rw [d] at k6
          cases k6
        have n2 : m ≠ P := fun z => by
          rw [z, tab0] at k3
          cases k3
          cases k6
        exact ⟨m, om, k1, k2, n1, n2, keep k3 (off k3 (fun ys n z => by rw [k6] at z; cases z) fun z => by rw [k6] at z; cases z), k4, k5, k6⟩
      · obtain ⟨o, es, ep, e, d, _⟩ := nsG
        rw [z, tab0] at e
        cases e
        cases d
    have e0 : Env0 P0 w K mg (hidT sA.heap H) callerA [] sA H := ⟨rfl, modB, fun b o e => of_hidT e, Nat.le_of_eq (hidT_size _ _), trivial, fun b hb => (by cases hb), ok, .of_eq gen0⟩
    refine codeAny_mono ((prom _ inB (nsOf nsG) TB).goes callerA [] sA H ⟨[.ref a], []⟩ [.ref a] [.ref a] _ _ room rfl e0 (bnd sA (.ref a)) (.cons rfl .nil) (wish H tP sq)) fun r s' out => ?_
    cases r with
    | error e => exact (noX H e s' out).elim
    | ok fl =>
      cases fl with
      | next => exact out.elim
      | brk => exact out.elim
      | cont => exact out.elim
      | ret u =>
        obtain ⟨v, H', os, bare, un, ok', rv, told⟩ := out
        obtain rfl : v = .bl true := told
        obtain rfl : u = Value.bool true := rv
        have stays : ∀ b o, b ≠ P → sA.heap.get? b = some o → s'.heap.get? b = some o := fun b o nb e => by
          cases q : H b with
          | none => exact un.keep b o e q (fun z => by cases z) (by simp)
          | some u =>
            by_cases h4 : b = a
            · rcases atA with z | ⟨o', ys, z⟩
              · rw [← h4, q] at z
                cases z
              · rw [← h4] at z
                obtain ⟨k1, _⟩ := ok b _ z
                obtain ⟨k2, _⟩ := ok' b _ (un.frzs b o' _ z)
                rw [e] at k1
                cases k1
                exact k2
            · rw [rest b nb h4] at q
              cases q
        have grown : ∃ more : Array Value, s'.heap.get? P = some { cls := .none, data := .fields more } := by
          obtain ⟨more, z⟩ := un.tbls P #[] tP
          exact ⟨_, ok' P _ z⟩
        refine ⟨rfl, ⟨fun b o e => ?_, fun b o e => ?_⟩, os, bare⟩
        · by_cases nb : b = P
          · obtain ⟨more, hm⟩ := grown
            subst nb
            rw [tab0] at e
            cases e
            exact .inr (.inl ⟨(cd.tab tab0).isCodeTable, rfl, #[], more, rfl, by rw [Array.empty_append]; exact hm⟩)
          · exact .inl (stays b o nb e)
        · by_cases nb : b = P
          · obtain ⟨more, hm⟩ := grown
            subst nb
            exact ⟨_, hm⟩
          · exact ⟨o, stays b o nb e⟩
  cases hk : K.lookup a with
  | some o =>
    have e := inK a o hk
    rw [scr] at e
    cases e
    refine go (fun b => if b = P then some (.tbl #[]) else none) (if_pos rfl) (fun b h1 _ => if_neg h1) (.inl (if_neg aP)) (fun z => absurd (if_neg aP) z) (.inr ⟨_, us.toArray, _, hk, rfl, rfl, rfl, by rw [List.size_toArray, same]; exact few, by simpa using rel⟩) fun b u z => ?_
    by_cases nb : b = P
    · have y := (if_pos nb).symm.trans z
      cases y
      subst nb
      exact tab0
    · have y := (if_neg nb).symm.trans z
      cases y
  | none =>
    refine go (fun b => if b = P then some (.tbl #[]) else if b = a then some (.frz { cls := .type "list", data := .seq us.toArray } (.lst (zs.map V.int))) else none) (if_pos rfl) (fun b h1 h2 => (if_neg h1).trans (if_neg h2)) (.inr ⟨_, _, (if_neg aP).trans (if_pos rfl)⟩) (fun _ => hk)
      (.inl (.inr ⟨{ cls := .type "list", data := .seq us.toArray }, (if_neg aP).trans (if_pos rfl)⟩)) fun b u z => ?_
    by_cases nb : b = P
    · have y := (if_pos nb).symm.trans z
      cases y
      subst nb
      exact tab0
    · have z1 := (if_neg nb).symm.trans z
      by_cases hb : b = a
      · have y := (if_pos hb).symm.trans z1
        cases y
        subst hb
        exact ⟨scr, by rw [List.length_map]; exact few, us, _, rel, scr⟩
      · have y := (if_neg hb).symm.trans z1
        cases y
/-- the end of such a row: xl the def with the lambdas -/
theorem walk_G {l : PySem.W.OpenLaw} {k : Nat} {q : Program} {loose : List Str} {XP : (Str → Option Value) → Heap → Prop} {YP : World → Heap → Prop} {d dl : DefRec} {K : Params → PySem.W.Frag} {x xl : Str} {sp : PySem.W.Frag → Addr → Sp}
    (hn : l.most = some 63) (hdf : d.params.defaults = []) (room : Room k callerA) (inY : ∀ (w : World) (h : Heap), YP w h → (K w.params).In h) (hrec : (recsOf q).find? (fun e => e.name == xl) = some dl)
    (wish : ∀ (K : PySem.W.Frag) (P : Addr) (H : Hp) (a : Addr) (zs : List Int), zs.length ≤ 63 → H P = some (.tbl #[]) → SqL K H a (zs.map V.int) → sp K P [.ref a] H (fun v _ => v = .bl true) fun _ _ _ => False)
    (F : ∀ (w : World) (mg : Str → Option Value) (fa : Addr) (h : Heap), (K w.params).In h → h.Ns mainGlobals mg → mg d.name = some (.ref fa) →
      ∃ (fd : FuncData) (c P : Addr), PySem.W.tabIn (K w.params) xl = some (c, P) ∧ PySem.W.noTabs (K w.params) = true ∧ (∀ (s : Shared) (u : Value), BindsTo s fd ⟨[u], []⟩ [(x, u)]) ∧
        ∀ base : Heap, (K w.params).In base → base.Ns mainGlobals mg → TabB base mg c P → FnG l.prog w (K w.params) mg base CX0 k fa fd [x] (sp (K w.params) P)) :
    PySem.W.WalkO q loose XP YP l.row.toRowW d [] (fun f vs => PySem.call f vs) := by
  refine Att.attach_callB hn hdf fun w s₀ sA mg mb fa o pm cd doc a us zs G Y ho hd hcd hmg scr nums few bits gen0 => ?_
  have inK := inY w _ Y
  obtain ⟨fd, c, P, tI, noT, bnd, prom⟩ := F w mg fa _ inK G.T.g hmg
  obtain ⟨hcode, tab0⟩ := PySem.W.tab_of G.T inK hrec tI
  have offK : (K w.params).lookup P = none := by
    cases hk : (K w.params).lookup P with
    | none => rfl
    | some ob =>
      have y := List.all_eq_true.mp noT (P, ob) (PySem.W.mem_of_lookupK hk)
      have z := (inK P ob hk).symm.trans tab0
      cases z
      exact absurd (show false = true from y) Bool.false_ne_true
  exact call_G inK G.T.g G.T.b G.T.builtins G.T.nolimit gen0 tab0 offK hcode G.T.bmain scr nums (Nat.le_trans few (by decide)) room prom bnd (fun H hH hS => wish _ P H a zs few hH hS) fun _ _ _ z => z
end Gd

namespace Tk
open PySem PySem.Spec PyProof.Rows L2
open Wt Kn Dc Us Xt
open LamX (TabB)
theorem tab_in {K : PySem.W.Frag} {x q : Str} {f c P : Addr} {oc kV dc pm ct ec : Value} {od an ed : Option Addr} {sl esl : Array (Option Value)} {ps : Arguments} {bd : List Stmt} {sc : Scope} {ev : Array Value} (h1 : PySem.W.nsIn K mainGlobals x = some (some (.ref f)))
    (h2 : K.lookup f = some ⟨oc, od, .func (PySem.W.fnOf x q ps bd sc .none kV dc pm an (.ref c) ct), sl⟩) (h3 : K.lookup c = some ⟨ec, ed, .fields ev, esl⟩) (h4 : ev[11]? = some (.ref P)) : PySem.W.tabIn K x = some (c, P) := by
  unfold PySem.W.tabIn
  rw [h1]
  show (match K.lookup f with
    | some ⟨_, _, .func fd, _⟩ => (match fd.code with
      | .ref c => (match K.lookup c with
        | some ⟨_, _, .fields vs, _⟩ => (match (vs[11]? : Option Value) with
          | some (.ref P) => some (c, P)
          | _ => none)
        | _ => none)
      | _ => none)
    | _ => none) = some (c, P)
  rw [h2]
  show (match K.lookup c with
        | some ⟨_, _, .fields vs, _⟩ => (match (vs[11]? : Option Value) with
          | some (.ref P) => some (c, P)
          | _ => none)
        | _ => none) = some (c, P)
  rw [h3]
  show (match (ev[11]? : Option Value) with
          | some (.ref P) => some (c, P)
          | _ => none) = some (c, P)
  rw [h4]
set_option maxHeartbeats 4000000 in
theorem all_mk {l : PySem.W.OpenLaw} {w : World} {K : PySem.W.Frag} {h : Heap} {mg : Str → Option Value} {fa fa1 fa2 fa4 fa5 fa6 fa7 fa8 fa9 fb1 fb2 fb3 fb4 fb5 fb6 fb7 fb8 fb9 fc1 fc2 fA fB fD fP fC fT fLo fPl fWa fAt fPu fDr fKl fNu fSp fBe fBk fSu fKt fTa fCl fBt fIs fWh fCh fIn fTe fSz fW : Addr} (X : K.In h) (G : h.Ns mainGlobals mg) (hfa : mg "law" = some (.ref fa))
    {oca kVa dca pma cda cta : Value} {oda ana : Option Addr} {sla : Array (Option Value)}
    {ocb kVb dcb pmb cdb ctb : Value} {odb anb : Option Addr} {slb : Array (Option Value)}
    {ocd kVd dcd pmd cdd ctd : Value} {odd and : Option Addr} {sld : Array (Option Value)}
    {oce kVe dce pme cde cte : Value} {ode ane : Option Addr} {sle : Array (Option Value)}
    {ocf kVf dcf pmf cdf ctf : Value} {odf anf : Option Addr} {slf : Array (Option Value)}
    {ocg kVg dcg pmg cdg ctg : Value} {odg ang : Option Addr} {slg : Array (Option Value)}
    {och kVh dch pmh cdh cth : Value} {odh anh : Option Addr} {slh : Array (Option Value)}
    {oci kVi dci pmi cdi cti : Value} {odi ani : Option Addr} {sli : Array (Option Value)}
    {ocj kVj dcj pmj cdj ctj : Value} {odj anj : Option Addr} {slj : Array (Option Value)}
    {ock kVk dck pmk cdk ctk : Value} {odk ank : Option Addr} {slk : Array (Option Value)}
    {ocl kVl dcl pml cdl ctl : Value} {odl anl : Option Addr} {sll : Array (Option Value)}
    {ocm kVm dcm pmm cdm ctm : Value} {odm anm : Option Addr} {slm : Array (Option Value)}
    {ocn kVn dcn pmn cdn ctn : Value} {odn ann : Option Addr} {sln : Array (Option Value)}
    {oco kVo dco pmo cdo cto : Value} {odo ano : Option Addr} {slo : Array (Option Value)}
    {ocp kVp dcp pmp cdp ctp : Value} {odp anp : Option Addr} {slp : Array (Option Value)}
    {ocq kVq dcq pmq cdq ctq : Value} {odq anq : Option Addr} {slq : Array (Option Value)}
    {ocr kVr dcr pmr cdr ctr : Value} {odr anr : Option Addr} {slr : Array (Option Value)}
    {ocs kVs dcs pms cds cts : Value} {ods ans : Option Addr} {sls : Array (Option Value)}
    {octk kVtk dctk pmtk cdtk cttk : Value} {odtk antk : Option Addr} {sltk : Array (Option Value)}
    {ocA kVA dcA pmA cdA ctA : Value} {odA anA : Option Addr} {slA : Array (Option Value)}
    {ocB kVB dcB pmB cdB ctB : Value} {odB anB : Option Addr} {slB : Array (Option Value)}
    {ocD kVD dcD pmD cdD ctD : Value} {odD anD : Option Addr} {slD : Array (Option Value)}
    {ocP kVP dcP pmP cdP ctP : Value} {odP anP : Option Addr} {slP : Array (Option Value)}
    {ocC kVC dcC pmC cdC ctC : Value} {odC anC : Option Addr} {slC : Array (Option Value)}
    {ocTr kVTr dcTr pmTr cdTr ctTr : Value} {odTr anTr : Option Addr} {slTr : Array (Option Value)}
    {ocLo kVLo dcLo pmLo cdLo ctLo : Value} {odLo anLo : Option Addr} {slLo : Array (Option Value)}
    {ocPl kVPl dcPl pmPl cdPl ctPl : Value} {odPl anPl : Option Addr} {slPl : Array (Option Value)}
    {ocWa kVWa dcWa pmWa cdWa ctWa : Value} {odWa anWa : Option Addr} {slWa : Array (Option Value)}
    {ocAt kVAt dcAt pmAt cdAt ctAt : Value} {odAt anAt : Option Addr} {slAt : Array (Option Value)}
    {ocPu kVPu dcPu pmPu cdPu ctPu : Value} {odPu anPu : Option Addr} {slPu : Array (Option Value)}
    {ocDr kVDr dcDr pmDr cdDr ctDr : Value} {odDr anDr : Option Addr} {slDr : Array (Option Value)}
    {ocKl kVKl dcKl pmKl cdKl ctKl : Value} {odKl anKl : Option Addr} {slKl : Array (Option Value)}
    {ocNu kVNu dcNu pmNu cdNu ctNu : Value} {odNu anNu : Option Addr} {slNu : Array (Option Value)}
    {ocSp kVSp dcSp pmSp cdSp ctSp : Value} {odSp anSp : Option Addr} {slSp : Array (Option Value)}
    {ocBe kVBe dcBe pmBe cdBe ctBe : Value} {odBe anBe : Option Addr} {slBe : Array (Option Value)}
    {ocBk kVBk dcBk pmBk cdBk ctBk : Value} {odBk anBk : Option Addr} {slBk : Array (Option Value)}
    {ocSu kVSu dcSu pmSu cdSu ctSu : Value} {odSu anSu : Option Addr} {slSu : Array (Option Value)}
    {ocKt kVKt dcKt pmKt cdKt ctKt : Value} {odKt anKt : Option Addr} {slKt : Array (Option Value)}
    {ocTa kVTa dcTa pmTa cdTa ctTa : Value} {odTa anTa : Option Addr} {slTa : Array (Option Value)}
    {ocCl kVCl dcCl pmCl cdCl ctCl : Value} {odCl anCl : Option Addr} {slCl : Array (Option Value)}
    {ocBt kVBt dcBt pmBt cdBt ctBt : Value} {odBt anBt : Option Addr} {slBt : Array (Option Value)}
    {ocIs kVIs dcIs pmIs cdIs ctIs : Value} {odIs anIs : Option Addr} {slIs : Array (Option Value)}
    {ocWh kVWh dcWh pmWh cdWh ctWh : Value} {odWh anWh : Option Addr} {slWh : Array (Option Value)}
    {ocCh kVCh dcCh pmCh cdCh ctCh : Value} {odCh anCh : Option Addr} {slCh : Array (Option Value)}
    {ocIn kVIn dcIn pmIn cdIn ctIn : Value} {odIn anIn : Option Addr} {slIn : Array (Option Value)}
    {ocTe kVTe dcTe pmTe cdTe ctTe : Value} {odTe anTe : Option Addr} {slTe : Array (Option Value)}
    {ocSz kVSz dcSz pmSz cdSz ctSz : Value} {odSz anSz : Option Addr} {slSz : Array (Option Value)}
    {ocW kVW dcW pmW ctW : Value} {odW anW : Option Addr} {slW : Array (Option Value)}
    {ec : Value} {ed : Option Addr} {esl : Array (Option Value)} {t6 t12 tR tM : Tok} {cR PR CB CK : Addr} {ev : Array Value}
    {dNo : Option Addr} {mNo : Nat} {slNo : Array (Option Value)} {tNo1 tNo2 : Tok} {aNo : Addr}
    {dAl : Option Addr} {mAl : Nat} {slAl : Array (Option Value)} {tAl1 tAl2 : Tok} {aAl : Addr}
    (na : PySem.W.nsIn K mainGlobals "is_whole" = some (some (.ref fa1)))
    (nb : PySem.W.nsIn K mainGlobals "is_within" = some (some (.ref fa2)))
    (nd : PySem.W.nsIn K mainGlobals "is_tuple_of" = some (some (.ref fa4)))
    (ne : PySem.W.nsIn K mainGlobals "is_num" = some (some (.ref fa5)))
    (nf : PySem.W.nsIn K mainGlobals "_is_to" = some (some (.ref fa6)))
    (ng : PySem.W.nsIn K mainGlobals "is_kind" = some (some (.ref fa7)))
    (nh : PySem.W.nsIn K mainGlobals "arguments_and_answer" = some (some (.ref fa8)))
    (ni : PySem.W.nsIn K mainGlobals "check_kind" = some (some (.ref fa9)))
    (nj : PySem.W.nsIn K mainGlobals "is_weight" = some (some (.ref fb1)))
    (nk : PySem.W.nsIn K mainGlobals "is_chance_part" = some (some (.ref fb2)))
    (nl : PySem.W.nsIn K mainGlobals "shortened" = some (some (.ref fb3)))
    (nm : PySem.W.nsIn K mainGlobals "added" = some (some (.ref fb4)))
    (nn : PySem.W.nsIn K mainGlobals "lies_below" = some (some (.ref fb5)))
    (no : PySem.W.nsIn K mainGlobals "total" = some (some (.ref fb6)))
    (np : PySem.W.nsIn K mainGlobals "_parts_of_draw" = some (some (.ref fb7)))
    (nq : PySem.W.nsIn K mainGlobals "_parts_of_ask" = some (some (.ref fb8)))
    (nr : PySem.W.nsIn K mainGlobals "_parts_of" = some (some (.ref fb9)))
    (ns : PySem.W.nsIn K mainGlobals "is_closed_talk" = some (some (.ref fc1)))
    (ntk : PySem.W.nsIn K mainGlobals "is_talk" = some (some (.ref fc2)))
    (nA : PySem.W.nsIn K mainGlobals "_law_begun" = some (some (.ref fA)))
    (nB : PySem.W.nsIn K mainGlobals "_law_blended" = some (some (.ref fB)))
    (nD : PySem.W.nsIn K mainGlobals "_law_draw" = some (some (.ref fD)))
    (nP : PySem.W.nsIn K mainGlobals "_law_pick" = some (some (.ref fP)))
    (nC : PySem.W.nsIn K mainGlobals "_law_caught" = some (some (.ref fC)))
    (nTr : PySem.W.nsIn K mainGlobals "_law_is_truth" = some (some (.ref fT)))
    (nLo : PySem.W.nsIn K mainGlobals "_law_cp_lowest" = some (some (.ref fLo)))
    (nPl : PySem.W.nsIn K mainGlobals "_law_cp_plus" = some (some (.ref fPl)))
    (nWa : PySem.W.nsIn K mainGlobals "_law_cp_wanted" = some (some (.ref fWa)))
    (nAt : PySem.W.nsIn K mainGlobals "_law_cp_at" = some (some (.ref fAt)))
    (nPu : PySem.W.nsIn K mainGlobals "_law_cp_put" = some (some (.ref fPu)))
    (nDr : PySem.W.nsIn K mainGlobals "_law_cp_drawn" = some (some (.ref fDr)))
    (nKl : PySem.W.nsIn K mainGlobals "_law_cp_kind" = some (some (.ref fKl)))
    (nNu : PySem.W.nsIn K mainGlobals "_law_cp_nums" = some (some (.ref fNu)))
    (nSp : PySem.W.nsIn K mainGlobals "_law_cp_spots" = some (some (.ref fSp)))
    (nBe : PySem.W.nsIn K mainGlobals "_law_cp_bent" = some (some (.ref fBe)))
    (nBk : PySem.W.nsIn K mainGlobals "_law_cp_bad_kind" = some (some (.ref fBk)))
    (nSu : PySem.W.nsIn K mainGlobals "_law_tk_sum" = some (some (.ref fSu)))
    (nKt : PySem.W.nsIn K mainGlobals "_law_tk_kind" = some (some (.ref fKt)))
    (nTa : PySem.W.nsIn K mainGlobals "_law_tk_talk" = some (some (.ref fTa)))
    (nCl : PySem.W.nsIn K mainGlobals "_law_tk_closed" = some (some (.ref fCl)))
    (nBt : PySem.W.nsIn K mainGlobals "_law_tk_bad_talk" = some (some (.ref fBt)))
    (nIs : PySem.W.nsIn K mainGlobals "_law_k24_is" = some (some (.ref fIs)))
    (nWh : PySem.W.nsIn K mainGlobals "_law_k24_whole" = some (some (.ref fWh)))
    (nCh : PySem.W.nsIn K mainGlobals "_law_k24_chance" = some (some (.ref fCh)))
    (nIn : PySem.W.nsIn K mainGlobals "_law_k24_inner" = some (some (.ref fIn)))
    (nTe : PySem.W.nsIn K mainGlobals "_law_k24_tree" = some (some (.ref fTe)))
    (nSz : PySem.W.nsIn K mainGlobals "_law_k24_sized" = some (some (.ref fSz)))
    (nW : PySem.W.nsIn K mainGlobals "law" = some (some (.ref fW)))
    (la : K.lookup fa1 = some ⟨oca, oda, .func (PySem.W.fnOf "is_whole" "is_whole" (defArgs sIsWhole) (defBody sIsWhole) (defScope sIsWhole) .none kVa dca pma ana cda cta), sla⟩)
    (cca : PySem.W.codeIn K cda "is_whole" = true)
    (kka : PySem.W.keepIn K (.ref fa1) = true)
    (lb : K.lookup fa2 = some ⟨ocb, odb, .func (PySem.W.fnOf "is_within" "is_within" (defArgs sWithin) (defBody sWithin) (defScope sWithin) .none kVb dcb pmb anb cdb ctb), slb⟩)
    (ccb : PySem.W.codeIn K cdb "is_within" = true)
    (kkb : PySem.W.keepIn K (.ref fa2) = true)
    (ld : K.lookup fa4 = some ⟨ocd, odd, .func (PySem.W.fnOf "is_tuple_of" "is_tuple_of" (defArgs sIsTup) (defBody sIsTup) (defScope sIsTup) .none kVd dcd pmd and cdd ctd), sld⟩)
    (ccd : PySem.W.codeIn K cdd "is_tuple_of" = true)
    (kkd : PySem.W.keepIn K (.ref fa4) = true)
    (le : K.lookup fa5 = some ⟨oce, ode, .func (PySem.W.fnOf "is_num" "is_num" (defArgs sIsNum) (defBody sIsNum) (defScope sIsNum) .none kVe dce pme ane cde cte), sle⟩)
    (cce : PySem.W.codeIn K cde "is_num" = true)
    (kke : PySem.W.keepIn K (.ref fa5) = true)
    (lf : K.lookup fa6 = some ⟨ocf, odf, .func (PySem.W.fnOf "_is_to" "_is_to" (defArgs sIsTo) (defBody sIsTo) (defScope sIsTo) .none kVf dcf pmf anf cdf ctf), slf⟩)
    (ccf : PySem.W.codeIn K cdf "_is_to" = true)
    (kkf : PySem.W.keepIn K (.ref fa6) = true)
    (lg : K.lookup fa7 = some ⟨ocg, odg, .func (PySem.W.fnOf "is_kind" "is_kind" (defArgs sIsKind) (defBody sIsKind) (defScope sIsKind) .none kVg dcg pmg ang cdg ctg), slg⟩)
    (ccg : PySem.W.codeIn K cdg "is_kind" = true)
    (kkg : PySem.W.keepIn K (.ref fa7) = true)
    (lh : K.lookup fa8 = some ⟨och, odh, .func (PySem.W.fnOf "arguments_and_answer" "arguments_and_answer" (defArgs sArgAns) (defBody sArgAns) (defScope sArgAns) .none kVh dch pmh anh cdh cth), slh⟩)
    (cch : PySem.W.codeIn K cdh "arguments_and_answer" = true)
    (kkh : PySem.W.keepIn K (.ref fa8) = true)
    (li : K.lookup fa9 = some ⟨oci, odi, .func (PySem.W.fnOf "check_kind" "check_kind" (defArgs sCheckKind) (defBody sCheckKind) (defScope sCheckKind) .none kVi dci pmi ani cdi cti), sli⟩)
    (cci : PySem.W.codeIn K cdi "check_kind" = true)
    (kki : PySem.W.keepIn K (.ref fa9) = true)
    (lj : K.lookup fb1 = some ⟨ocj, odj, .func (PySem.W.fnOf "is_weight" "is_weight" (defArgs sIsWt) (defBody sIsWt) (defScope sIsWt) .none kVj dcj pmj anj cdj ctj), slj⟩)
    (ccj : PySem.W.codeIn K cdj "is_weight" = true)
    (kkj : PySem.W.keepIn K (.ref fb1) = true)
    (lk : K.lookup fb2 = some ⟨ock, odk, .func (PySem.W.fnOf "is_chance_part" "is_chance_part" (defArgs Tw.sCPart) (defBody Tw.sCPart) (defScope Tw.sCPart) .none kVk dck pmk ank cdk ctk), slk⟩)
    (cck : PySem.W.codeIn K cdk "is_chance_part" = true)
    (kkk : PySem.W.keepIn K (.ref fb2) = true)
    (ll : K.lookup fb3 = some ⟨ocl, odl, .func (PySem.W.fnOf "shortened" "shortened" (defArgs sShort) (defBody sShort) (defScope sShort) .none kVl dcl pml anl cdl ctl), sll⟩)
    (ccl : PySem.W.codeIn K cdl "shortened" = true)
    (kkl : PySem.W.keepIn K (.ref fb3) = true)
    (lm : K.lookup fb4 = some ⟨ocm, odm, .func (PySem.W.fnOf "added" "added" (defArgs sAdded) (defBody sAdded) (defScope sAdded) .none kVm dcm pmm anm cdm ctm), slm⟩)
    (ccm : PySem.W.codeIn K cdm "added" = true)
    (kkm : PySem.W.keepIn K (.ref fb4) = true)
    (ln : K.lookup fb5 = some ⟨ocn, odn, .func (PySem.W.fnOf "lies_below" "lies_below" (defArgs sBelow) (defBody sBelow) (defScope sBelow) .none kVn dcn pmn ann cdn ctn), sln⟩)
    (ccn : PySem.W.codeIn K cdn "lies_below" = true)
    (kkn : PySem.W.keepIn K (.ref fb5) = true)
    (lo : K.lookup fb6 = some ⟨oco, odo, .func (PySem.W.fnOf "total" "total" (defArgs sTotal) (defBody sTotal) (defScope sTotal) .none kVo dco pmo ano cdo cto), slo⟩)
    (cco : PySem.W.codeIn K cdo "total" = true)
    (kko : PySem.W.keepIn K (.ref fb6) = true)
    (lp : K.lookup fb7 = some ⟨ocp, odp, .func (PySem.W.fnOf "_parts_of_draw" "_parts_of_draw" (defArgs sPDraw) (defBody sPDraw) (defScope sPDraw) .none kVp dcp pmp anp cdp ctp), slp⟩)
    (ccp : PySem.W.codeIn K cdp "_parts_of_draw" = true)
    (kkp : PySem.W.keepIn K (.ref fb7) = true)
    (lq : K.lookup fb8 = some ⟨ocq, odq, .func (PySem.W.fnOf "_parts_of_ask" "_parts_of_ask" (defArgs sPAsk) (defBody sPAsk) (defScope sPAsk) .none kVq dcq pmq anq cdq ctq), slq⟩)
    (ccq : PySem.W.codeIn K cdq "_parts_of_ask" = true)
    (kkq : PySem.W.keepIn K (.ref fb8) = true)
    (lr : K.lookup fb9 = some ⟨ocr, odr, .func (PySem.W.fnOf "_parts_of" "_parts_of" (defArgs sParts) (defBody sParts) (defScope sParts) .none kVr dcr pmr anr cdr ctr), slr⟩)
    (ccr : PySem.W.codeIn K cdr "_parts_of" = true)
    (kkr : PySem.W.keepIn K (.ref fb9) = true)
    (ls : K.lookup fc1 = some ⟨ocs, ods, .func (PySem.W.fnOf "is_closed_talk" "is_closed_talk" (defArgs sClosed) (defBody sClosed) (defScope sClosed) .none kVs dcs pms ans cds cts), sls⟩)
    (ccs : PySem.W.codeIn K cds "is_closed_talk" = true)
    (kks : PySem.W.keepIn K (.ref fc1) = true)
    (ltk : K.lookup fc2 = some ⟨octk, odtk, .func (PySem.W.fnOf "is_talk" "is_talk" (defArgs sIsTalk) (defBody sIsTalk) (defScope sIsTalk) .none kVtk dctk pmtk antk cdtk cttk), sltk⟩)
    (cctk : PySem.W.codeIn K cdtk "is_talk" = true)
    (kktk : PySem.W.keepIn K (.ref fc2) = true)
    (lA : K.lookup fA = some ⟨ocA, odA, .func (PySem.W.fnOf "_law_begun" "_law_begun" (defArgs Pre.sBegun) (defBody Pre.sBegun) (defScope Pre.sBegun) .none kVA dcA pmA anA cdA ctA), slA⟩)
    (ccA : PySem.W.codeIn K cdA "_law_begun" = true)
    (kkA : PySem.W.keepIn K (.ref fA) = true)
    (lB : K.lookup fB = some ⟨ocB, odB, .func (PySem.W.fnOf "_law_blended" "_law_blended" (defArgs Pre.sBlended) (defBody Pre.sBlended) (defScope Pre.sBlended) .none kVB dcB pmB anB cdB ctB), slB⟩)
    (ccB : PySem.W.codeIn K cdB "_law_blended" = true)
    (kkB : PySem.W.keepIn K (.ref fB) = true)
    (lD : K.lookup fD = some ⟨ocD, odD, .func (PySem.W.fnOf "_law_draw" "_law_draw" (defArgs Pre.sDraw) (defBody Pre.sDraw) (defScope Pre.sDraw) .none kVD dcD pmD anD cdD ctD), slD⟩)
    (ccD : PySem.W.codeIn K cdD "_law_draw" = true)
    (kkD : PySem.W.keepIn K (.ref fD) = true)
    (lP : K.lookup fP = some ⟨ocP, odP, .func (PySem.W.fnOf "_law_pick" "_law_pick" (defArgs Pre.sPick) (defBody Pre.sPick) (defScope Pre.sPick) .none kVP dcP pmP anP cdP ctP), slP⟩)
    (ccP : PySem.W.codeIn K cdP "_law_pick" = true)
    (kkP : PySem.W.keepIn K (.ref fP) = true)
    (lC : K.lookup fC = some ⟨ocC, odC, .func (PySem.W.fnOf "_law_caught" "_law_caught" (defArgs Lm.sCaught) (defBody Lm.sCaught) (defScope Lm.sCaught) .none kVC dcC pmC anC cdC ctC), slC⟩)
    (ccC : PySem.W.codeIn K cdC "_law_caught" = true)
    (kkC : PySem.W.keepIn K (.ref fC) = true)
    (lTr : K.lookup fT = some ⟨ocTr, odTr, .func (PySem.W.fnOf "_law_is_truth" "_law_is_truth" (defArgs sTruth) (defBody sTruth) (defScope sTruth) .none kVTr dcTr pmTr anTr cdTr ctTr), slTr⟩)
    (ccTr : PySem.W.codeIn K cdTr "_law_is_truth" = true)
    (kkTr : PySem.W.keepIn K (.ref fT) = true)
    (lLo : K.lookup fLo = some ⟨ocLo, odLo, .func (PySem.W.fnOf "_law_cp_lowest" "_law_cp_lowest" (defArgs sLowest) (defBody sLowest) (defScope sLowest) .none kVLo dcLo pmLo anLo cdLo ctLo), slLo⟩)
    (ccLo : PySem.W.codeIn K cdLo "_law_cp_lowest" = true)
    (kkLo : PySem.W.keepIn K (.ref fLo) = true)
    (lPl : K.lookup fPl = some ⟨ocPl, odPl, .func (PySem.W.fnOf "_law_cp_plus" "_law_cp_plus" (defArgs sCpPlus) (defBody sCpPlus) (defScope sCpPlus) .none kVPl dcPl pmPl anPl cdPl ctPl), slPl⟩)
    (ccPl : PySem.W.codeIn K cdPl "_law_cp_plus" = true)
    (kkPl : PySem.W.keepIn K (.ref fPl) = true)
    (lWa : K.lookup fWa = some ⟨ocWa, odWa, .func (PySem.W.fnOf "_law_cp_wanted" "_law_cp_wanted" (defArgs sWanted) (defBody sWanted) (defScope sWanted) .none kVWa dcWa pmWa anWa cdWa ctWa), slWa⟩)
    (ccWa : PySem.W.codeIn K cdWa "_law_cp_wanted" = true)
    (kkWa : PySem.W.keepIn K (.ref fWa) = true)
    (lAt : K.lookup fAt = some ⟨ocAt, odAt, .func (PySem.W.fnOf "_law_cp_at" "_law_cp_at" (defArgs sAtL) (defBody sAtL) (defScope sAtL) .none kVAt dcAt pmAt anAt cdAt ctAt), slAt⟩)
    (ccAt : PySem.W.codeIn K cdAt "_law_cp_at" = true)
    (kkAt : PySem.W.keepIn K (.ref fAt) = true)
    (lPu : K.lookup fPu = some ⟨ocPu, odPu, .func (PySem.W.fnOf "_law_cp_put" "_law_cp_put" (defArgs sPut) (defBody sPut) (defScope sPut) .none kVPu dcPu pmPu anPu cdPu ctPu), slPu⟩)
    (ccPu : PySem.W.codeIn K cdPu "_law_cp_put" = true)
    (kkPu : PySem.W.keepIn K (.ref fPu) = true)
    (lDr : K.lookup fDr = some ⟨ocDr, odDr, .func (PySem.W.fnOf "_law_cp_drawn" "_law_cp_drawn" (defArgs sDrawn) (defBody sDrawn) (defScope sDrawn) .none kVDr dcDr pmDr anDr cdDr ctDr), slDr⟩)
    (ccDr : PySem.W.codeIn K cdDr "_law_cp_drawn" = true)
    (kkDr : PySem.W.keepIn K (.ref fDr) = true)
    (lKl : K.lookup fKl = some ⟨ocKl, odKl, .func (PySem.W.fnOf "_law_cp_kind" "_law_cp_kind" (defArgs sKindL) (defBody sKindL) (defScope sKindL) .none kVKl dcKl pmKl anKl cdKl ctKl), slKl⟩)
    (ccKl : PySem.W.codeIn K cdKl "_law_cp_kind" = true)
    (kkKl : PySem.W.keepIn K (.ref fKl) = true)
    (lNu : K.lookup fNu = some ⟨ocNu, odNu, .func (PySem.W.fnOf "_law_cp_nums" "_law_cp_nums" (defArgs sNumsL) (defBody sNumsL) (defScope sNumsL) .none kVNu dcNu pmNu anNu cdNu ctNu), slNu⟩)
    (ccNu : PySem.W.codeIn K cdNu "_law_cp_nums" = true)
    (kkNu : PySem.W.keepIn K (.ref fNu) = true)
    (lSp : K.lookup fSp = some ⟨ocSp, odSp, .func (PySem.W.fnOf "_law_cp_spots" "_law_cp_spots" (defArgs sSpots) (defBody sSpots) (defScope sSpots) .none kVSp dcSp pmSp anSp cdSp ctSp), slSp⟩)
    (ccSp : PySem.W.codeIn K cdSp "_law_cp_spots" = true)
    (kkSp : PySem.W.keepIn K (.ref fSp) = true)
    (lBe : K.lookup fBe = some ⟨ocBe, odBe, .func (PySem.W.fnOf "_law_cp_bent" "_law_cp_bent" (defArgs sBent) (defBody sBent) (defScope sBent) .none kVBe dcBe pmBe anBe cdBe ctBe), slBe⟩)
    (ccBe : PySem.W.codeIn K cdBe "_law_cp_bent" = true)
    (kkBe : PySem.W.keepIn K (.ref fBe) = true)
    (lBk : K.lookup fBk = some ⟨ocBk, odBk, .func (PySem.W.fnOf "_law_cp_bad_kind" "_law_cp_bad_kind" (defArgs Kn.sBadK) (defBody Kn.sBadK) (defScope Kn.sBadK) .none kVBk dcBk pmBk anBk cdBk ctBk), slBk⟩)
    (ccBk : PySem.W.codeIn K cdBk "_law_cp_bad_kind" = true)
    (kkBk : PySem.W.keepIn K (.ref fBk) = true)
    (lSu : K.lookup fSu = some ⟨ocSu, odSu, .func (PySem.W.fnOf "_law_tk_sum" "_law_tk_sum" (defArgs sSumL) (defBody sSumL) (defScope sSumL) .none kVSu dcSu pmSu anSu cdSu ctSu), slSu⟩)
    (ccSu : PySem.W.codeIn K cdSu "_law_tk_sum" = true)
    (kkSu : PySem.W.keepIn K (.ref fSu) = true)
    (lKt : K.lookup fKt = some ⟨ocKt, odKt, .func (PySem.W.fnOf "_law_tk_kind" "_law_tk_kind" (defArgs sKindT) (defBody sKindT) (defScope sKindT) .none kVKt dcKt pmKt anKt cdKt ctKt), slKt⟩)
    (ccKt : PySem.W.codeIn K cdKt "_law_tk_kind" = true)
    (kkKt : PySem.W.keepIn K (.ref fKt) = true)
    (lTa : K.lookup fTa = some ⟨ocTa, odTa, .func (PySem.W.fnOf "_law_tk_talk" "_law_tk_talk" (defArgs sTalkL) (defBody sTalkL) (defScope sTalkL) .none kVTa dcTa pmTa anTa cdTa ctTa), slTa⟩)
    (ccTa : PySem.W.codeIn K cdTa "_law_tk_talk" = true)
    (kkTa : PySem.W.keepIn K (.ref fTa) = true)
    (lCl : K.lookup fCl = some ⟨ocCl, odCl, .func (PySem.W.fnOf "_law_tk_closed" "_law_tk_closed" (defArgs sClosedL) (defBody sClosedL) (defScope sClosedL) .none kVCl dcCl pmCl anCl cdCl ctCl), slCl⟩)
    (ccCl : PySem.W.codeIn K cdCl "_law_tk_closed" = true)
    (kkCl : PySem.W.keepIn K (.ref fCl) = true)
    (lBt : K.lookup fBt = some ⟨ocBt, odBt, .func (PySem.W.fnOf "_law_tk_bad_talk" "_law_tk_bad_talk" (defArgs sBadT) (defBody sBadT) (defScope sBadT) .none kVBt dcBt pmBt anBt cdBt ctBt), slBt⟩)
    (ccBt : PySem.W.codeIn K cdBt "_law_tk_bad_talk" = true)
    (kkBt : PySem.W.keepIn K (.ref fBt) = true)
    (lIs : K.lookup fIs = some ⟨ocIs, odIs, .func (PySem.W.fnOf "_law_k24_is" "_law_k24_is" (defArgs sIsL) (defBody sIsL) (defScope sIsL) .none kVIs dcIs pmIs anIs cdIs ctIs), slIs⟩)
    (ccIs : PySem.W.codeIn K cdIs "_law_k24_is" = true)
    (kkIs : PySem.W.keepIn K (.ref fIs) = true)
    (lWh : K.lookup fWh = some ⟨ocWh, odWh, .func (PySem.W.fnOf "_law_k24_whole" "_law_k24_whole" (defArgs sWholeL) (defBody sWholeL) (defScope sWholeL) .none kVWh dcWh pmWh anWh cdWh ctWh), slWh⟩)
    (ccWh : PySem.W.codeIn K cdWh "_law_k24_whole" = true)
    (kkWh : PySem.W.keepIn K (.ref fWh) = true)
    (lCh : K.lookup fCh = some ⟨ocCh, odCh, .func (PySem.W.fnOf "_law_k24_chance" "_law_k24_chance" (defArgs sChanceK) (defBody sChanceK) (defScope sChanceK) .none kVCh dcCh pmCh anCh cdCh ctCh), slCh⟩)
    (ccCh : PySem.W.codeIn K cdCh "_law_k24_chance" = true)
    (kkCh : PySem.W.keepIn K (.ref fCh) = true)
    (lIn : K.lookup fIn = some ⟨ocIn, odIn, .func (PySem.W.fnOf "_law_k24_inner" "_law_k24_inner" (defArgs sInner) (defBody sInner) (defScope sInner) .none kVIn dcIn pmIn anIn cdIn ctIn), slIn⟩)
    (ccIn : PySem.W.codeIn K cdIn "_law_k24_inner" = true)
    (kkIn : PySem.W.keepIn K (.ref fIn) = true)
    (lTe : K.lookup fTe = some ⟨ocTe, odTe, .func (PySem.W.fnOf "_law_k24_tree" "_law_k24_tree" (defArgs sTree) (defBody sTree) (defScope sTree) .none kVTe dcTe pmTe anTe cdTe ctTe), slTe⟩)
    (ccTe : PySem.W.codeIn K cdTe "_law_k24_tree" = true)
    (kkTe : PySem.W.keepIn K (.ref fTe) = true)
    (lSz : K.lookup fSz = some ⟨ocSz, odSz, .func (PySem.W.fnOf "_law_k24_sized" "_law_k24_sized" (defArgs sSized) (defBody sSized) (defScope sSized) .none kVSz dcSz pmSz anSz cdSz ctSz), slSz⟩)
    (ccSz : PySem.W.codeIn K cdSz "_law_k24_sized" = true)
    (kkSz : PySem.W.keepIn K (.ref fSz) = true)
    (lW : K.lookup fW = some ⟨ocW, odW, .func (PySem.W.fnOf "law" "law" (defArgs sLawQ) (defBody sLawQ) (defScope sLawQ) .none kVW dcW pmW anW (.ref cR) ctW), slW⟩)
    (ccW : PySem.W.codeIn K (.ref cR) "law" = true)
    (kkW : PySem.W.keepIn K (.ref fW) = true)
    (n6 : PySem.W.nsIn K mainGlobals "MOST_NUMBERS" = some (some (.int 6 t6)))
    (n12 : PySem.W.nsIn K mainGlobals "MOST_NUMS" = some (some (.int 12 t12)))
    (nR : PySem.W.nsIn K mainGlobals "MOST_ROW" = some (some (.int 100 tR)))
    (nM : PySem.W.nsIn K mainGlobals "MOST_PARTS" = some (some (.int 4000 tM)))
    (nCB : PySem.W.nsIn K mainGlobals "ChanceError" = some (some (.ref CB)))
    (nCK : PySem.W.nsIn K mainGlobals "BadKind" = some (some (.ref CK)))
    (qCK : PySem.W.excIn K CK veT "ValueError.__new__" = true)
    (kpCK : PySem.W.keepIn K (.ref CK) = true)
    (sbCK : PySem.W.subIn K (.ref CK) (.type "BaseException") = some true)
    (tyCK : PySem.W.typeIn K (.ref CK) = some (.type "type"))
    (clCK : PySem.W.isClsIn K CK = true)
    (gaCK : PySem.W.findIn K (.ref CK) "__getattribute__" = some (some (.builtin "BaseException.__getattribute__")))
    (gtCK : PySem.W.findIn K (.ref CK) "__getattr__" = some none)
    (caCK : PySem.W.findIn K (.ref CK) "__class__" = some (some (.builtin "object.__class__")))
    (moCK : PySem.W.mroIn K CK (.type "object") = some true)
    (kiCK : PySem.W.kitOne K (.ref CK) (.ref CK) = some true)
    (suCK : PySem.W.subIn K (.ref CK) (.ref CB) = some true)
    (sbS : PySem.W.subIn K (.ref CB) (.type "BaseException") = some true)
    (hdS : PySem.W.hasDictIn K CB = true)
    (tyS : PySem.W.typeIn K (.ref CB) = some (.type "type"))
    (zh : PySem.W.specialIn K (.builtin "object.__class__") "__get__" = some (some (.builtin "getset_descriptor.__get__")))
    (zt : PySem.W.takesIn K (.builtin "object.__class__") = some true)
    (lco : K.lookup cR = some ⟨ec, ed, .fields ev, esl⟩)
    (lev : ev[11]? = some (.ref PR))
    (ngcd : PySem.W.nsIn K mainGlobals "gcd" = some (some (.builtin "math.gcd")))
    (nNo : PySem.W.nsIn K mainGlobals "NOTHING" = some (some (.ref aNo)))
    (lNo : K.lookup aNo = some ⟨.type "tuple", dNo, .seq #[.int 0 tNo1, .int 1 tNo2] mNo, slNo⟩)
    (nAl : PySem.W.nsIn K mainGlobals "ALL" = some (some (.ref aAl)))
    (lAl : K.lookup aAl = some ⟨.type "tuple", dAl, .seq #[.int 1 tAl1, .int 1 tAl2] mAl, slAl⟩)
    (zisinstance : PySem.W.nsIn K mainGlobals "isinstance" = some none)
    (zint : PySem.W.nsIn K mainGlobals "int" = some none)
    (zbool : PySem.W.nsIn K mainGlobals "bool" = some none)
    (zlist : PySem.W.nsIn K mainGlobals "list" = some none)
    (ztuple : PySem.W.nsIn K mainGlobals "tuple" = some none)
    (zlen : PySem.W.nsIn K mainGlobals "len" = some none)
    (zabs : PySem.W.nsIn K mainGlobals "abs" = some none)
    (zrange : PySem.W.nsIn K mainGlobals "range" = some none)
    (zall : PySem.W.nsIn K mainGlobals "all" = some none)
    (zzip : PySem.W.nsIn K mainGlobals "zip" = some none)
    (zmin : PySem.W.nsIn K mainGlobals "min" = some none)
    (zstr : PySem.W.nsIn K mainGlobals "str" = some none)
    (nt : PySem.W.noTabs K = true)
    : ∃ (fd : FuncData) (c P : Addr), PySem.W.tabIn K "law" = some (c, P) ∧ PySem.W.noTabs K = true ∧ (∀ (s : Shared) (v : Value), BindsTo s fd ⟨[v], []⟩ [("script", v)]) ∧
      ∀ base : Heap, K.In base → base.Ns mainGlobals mg → TabB base mg c P → Gd.FnG l.prog w K mg base CX0 24 fa fd ["script"] (spLawQ K P) := by
  have e := hfa.symm.trans (PySem.W.mg_of X G nW)
  cases e
  have TW : TxtW mg := ⟨(PySem.W.mg_none_of X G zisinstance), (PySem.W.mg_none_of X G zint), (PySem.W.mg_none_of X G zbool), (PySem.W.mg_none_of X G zlist), (PySem.W.mg_none_of X G ztuple), (PySem.W.mg_none_of X G zlen), (PySem.W.mg_of X G ngcd)⟩
  have TP : Pre.TxtP mg := ⟨(PySem.W.mg_none_of X G zabs), (PySem.W.mg_none_of X G zint), (PySem.W.mg_none_of X G zlen)⟩
  have MM : Nms mg t6 t12 := ⟨PySem.W.mg_of X G n6, PySem.W.mg_of X G n12⟩
  have EK : ErC K mg "BadKind" CK := ⟨PySem.W.mg_of X G nCK, qCK, kpCK, sbCK, tyCK⟩
  have hNo : ∀ H, At K H aNo (0, 1) := fun H => .inr ⟨_, #[.int 0 tNo1, .int 1 tNo2], mNo, lNo, rfl, rfl, by show 2 ≤ sizeLine; decide, .cons ⟨_, rfl⟩ (.cons ⟨_, rfl⟩ .nil)⟩
  have hAl : ∀ H, At K H aAl (1, 1) := fun H => .inr ⟨_, #[.int 1 tAl1, .int 1 tAl2], mAl, lAl, rfl, rfl, by show 2 ≤ sizeLine; decide, .cons ⟨_, rfl⟩ (.cons ⟨_, rfl⟩ .nil)⟩
  have KD : KdK K mg fa4 fa2 fa1 fa5 fa6 _ _ _ _ _ t6 t12 := ⟨TW, MM, (fun_mk (st := sIsTup) ld ccd kkd), (PySem.W.mg_of X G nd), (fun_mk (st := sWithin) lb ccb kkb), (PySem.W.mg_of X G nb), (fun_mk (st := sIsWhole) la cca kka), (PySem.W.mg_of X G na), (fun_mk (st := sIsNum) le cce kke), (PySem.W.mg_of X G ne), (fun_mk (st := sIsTo) lf ccf kkf), (PySem.W.mg_of X G nf)⟩
  have Gg : ∀ base, FnOk l.prog w K mg base CX0 4 fa7 _ ["value"] (spIsK K) := fun base => ok_iskind (fun_mk (st := sIsKind) lg ccg kkg) KD
  have Gi : ∀ base, FnOk l.prog w K mg base (L2.CX l.prog w) 5 fa9 _ ["value"] (spChk K CK) := fun base => ok_chk (fun_mk (st := sCheckKind) li cci kki) Gg (fun_mk (st := sIsKind) lg ccg kkg) (PySem.W.mg_of X G ng) EK
  have Gj : ∀ base, FnOk l.prog w K mg base CX0 2 fb1 _ ["value"] (spIsWt K) := fun base => ok_iswt (fun_mk (st := sIsWt) lj ccj kkj) TW (fun_mk (st := sIsTup) ld ccd kkd) (PySem.W.mg_of X G nd) (fun_mk (st := sIsWhole) la cca kka) (PySem.W.mg_of X G na)
  have Gk : ∀ base, FnOk l.prog w K mg base CX0 3 fb2 _ ["value"] (Tw.spCPart K) := fun base => Tw.ok_cpart (fun_mk (st := Tw.sCPart) lk cck kkk) Gj (fun_mk (st := sIsWt) lj ccj kkj) (PySem.W.mg_of X G nj)
  have Gm : ∀ base, FnOk l.prog w K mg base CX0 2 fb4 _ ["one", "other"] (spAdded K) := fun base => ok_added (fun_mk (st := sAdded) lm ccm kkm) TW (fun_mk (st := sShort) ll ccl kkl) (PySem.W.mg_of X G nl)
  have Go : ∀ base, FnOk l.prog w K mg base CX0 3 fb6 _ ["weights"] (spTotal K SqL) := fun base => ok_totalL (fun_mk (st := sTotal) lo cco kko) Gm (fun_mk (st := sAdded) lm ccm kkm) (PySem.W.mg_of X G nm) (PySem.W.mg_of X G nNo) hNo
  have Gp : ∀ base, FnOk l.prog w K mg base CX0 4 fb7 _ ["rows", "things", "k"] (spPDraw K) := fun base => ok_pdraw (fun_mk (st := sPDraw) lp ccp kkp) ⟨TW, (PySem.W.mg_none_of X G zall), (PySem.W.mg_of X G n6), (fun_mk (st := sIsTup) ld ccd kkd), (PySem.W.mg_of X G nd), Gk, (fun_mk (st := Tw.sCPart) lk cck kkk), (PySem.W.mg_of X G nk), (fun_mk (st := sBelow) ln ccn kkn), (PySem.W.mg_of X G nn), Go, (fun_mk (st := sTotal) lo cco kko), (PySem.W.mg_of X G no), (PySem.W.mg_of X G nAl), hAl, (PySem.W.mg_of X G nNo), hNo⟩
  have Gq : ∀ base, FnOk l.prog w K mg base CX0 2 fb8 _ ["value", "things", "k"] (spPAsk K) := fun base => ok_pask (fun_mk (st := sPAsk) lq ccq kkq) ⟨TW, (PySem.W.mg_none_of X G zzip), (fun_mk (st := sIsTup) ld ccd kkd), (PySem.W.mg_of X G nd), (fun_mk (st := sIsWhole) la cca kka), (PySem.W.mg_of X G na), (fun_mk (st := sArgAns) lh cch kkh), (PySem.W.mg_of X G nh)⟩
  have Gr : ∀ base, FnOk l.prog w K mg base CX0 5 fb9 _ ["value", "things", "k"] (spParts K) := fun base => ok_parts (fun_mk (st := sParts) lr ccr kkr) ⟨TW, (fun_mk (st := sIsTup) ld ccd kkd), (PySem.W.mg_of X G nd), (fun_mk (st := sIsWhole) la cca kka), (PySem.W.mg_of X G na), Gp, (fun_mk (st := sPDraw) lp ccp kkp), (PySem.W.mg_of X G np), Gq, (fun_mk (st := sPAsk) lq ccq kkq), (PySem.W.mg_of X G nq)⟩
  have Gs : ∀ base, FnOk l.prog w K mg base CX0 6 fc1 _ ["kind", "value"] (spClosed K) := fun base => ok_closed (fun_mk (st := sClosed) ls ccs kks) ⟨TW, (fun_mk (st := sArgAns) lh cch kkh), (PySem.W.mg_of X G nh), Gr, (fun_mk (st := sParts) lr ccr kkr), (PySem.W.mg_of X G nr), (PySem.W.mg_of X G nR), (PySem.W.mg_of X G nM)⟩
  have Gtk : ∀ base, FnOk l.prog w K mg base (L2.CX l.prog w) 7 fc2 _ ["kind", "value"] (spTalk K CK) := fun base => ok_talk (fun_mk (st := sIsTalk) ltk cctk kktk) Gi (fun_mk (st := sCheckKind) li cci kki) (PySem.W.mg_of X G ni) Gs (fun_mk (st := sClosed) ls ccs kks) (PySem.W.mg_of X G ns)
  have DR : Drw K mg fD fP fB _ _ _ := ⟨TP, (PySem.W.mg_none_of X G zrange), (fun_mk (st := Pre.sDraw) lD ccD kkD), (PySem.W.mg_of X G nD), (fun_mk (st := Pre.sPick) lP ccP kkP), (PySem.W.mg_of X G nP), (fun_mk (st := Pre.sBlended) lB ccB kkB), (PySem.W.mg_of X G nB)⟩
  have BN : Tk.Bnt l.prog w K mg fSp fAt fPu _ _ _ := ⟨TW, (PySem.W.mg_none_of X G zstr), (PySem.W.mg_none_of X G zrange), (fun_mk (st := sSpots) lSp ccSp kkSp), (PySem.W.mg_of X G nSp), (fun_mk (st := sAtL) lAt ccAt kkAt), (PySem.W.mg_of X G nAt), (fun_mk (st := sPut) lPu ccPu kkPu), (PySem.W.mg_of X G nPu)⟩
  have GBe : ∀ base, FnOk l.prog w K mg base CX0 21 fBe _ ["state", "thing"] (spBentT K) := fun base => Tk.ok_bent (fun_mk (st := sBent) lBe ccBe kkBe) DR BN
  have GDr : ∀ base, FnOk l.prog w K mg base CX0 4 fDr _ ["state", "k"] (spDrawn K) := fun base => ok_drawn (fun_mk (st := sDrawn) lDr ccDr kkDr) DR TW (fun_mk (st := sLowest) lLo ccLo kkLo) (PySem.W.mg_of X G nLo)
  have GKl : ∀ base, FnOk l.prog w K mg base CX0 22 fKl _ ["state", "deep"] (spKindL K 4) := fun base => ok_kindL (fun_mk (st := sKindL) lKl ccKl kkKl) (PySem.W.mg_of X G nKl) DR (fun_mk (st := sNumsL) lNu ccNu kkNu) (PySem.W.mg_of X G nNu) 4
  have GKt : ∀ base, FnOk l.prog w K mg base CX0 23 fKt _ ["state"] (spKindT K) := fun base => ok_kindT (fun_mk (st := sKindT) lKt ccKt kkKt) DR GKl (fun_mk (st := sKindL) lKl ccKl kkKl) (PySem.W.mg_of X G nKl)
  have GSu : ∀ base, FnOk l.prog w K mg base CX0 3 fSu _ ["weights"] (spTotal K SqL) := fun base => ok_sumL (fun_mk (st := sSumL) lSu ccSu kkSu) TP (fun_mk (st := sCpPlus) lPl ccPl kkPl) (PySem.W.mg_of X G nPl) (fun_mk (st := sLowest) lLo ccLo kkLo) (PySem.W.mg_of X G nLo)
  have GTa : ∀ base, FnOk l.prog w K mg base CX0 11 fTa _ ["state", "shop", "things", "k", "deep"] (spTk K 6) := fun base => ok_tk (fun_mk (st := sTalkL) lTa ccTa kkTa) (PySem.W.mg_of X G nTa) ⟨DR, TW, GDr, (fun_mk (st := sDrawn) lDr ccDr kkDr), (PySem.W.mg_of X G nDr), (fun_mk (st := sWanted) lWa ccWa kkWa), (PySem.W.mg_of X G nWa)⟩ 6
  have GCl : ∀ base, FnOk l.prog w K mg base CX0 12 fCl _ ["state", "kind", "room"] (spCl K) := fun base => ok_cl (fun_mk (st := sClosedL) lCl ccCl kkCl) DR (fun_mk (st := sWanted) lWa ccWa kkWa) (PySem.W.mg_of X G nWa) GTa (fun_mk (st := sTalkL) lTa ccTa kkTa) (PySem.W.mg_of X G nTa)
  have GBt : ∀ base, FnOk l.prog w K mg base CX0 4 fBt _ ["state", "kind", "tree"] (spBadT K) := fun base => ok_badT (fun_mk (st := sBadT) lBt ccBt kkBt) DR TW (fun_mk (st := sWanted) lWa ccWa kkWa) (PySem.W.mg_of X G nWa)
  have GCh : ∀ base, FnOk l.prog w K mg base CX0 2 fCh _ ["thing"] (spChK K) := fun base => ok_chanceK (fun_mk (st := sChanceK) lCh ccCh kkCh) TW TP (fun_mk (st := sWholeL) lWh ccWh kkWh) (PySem.W.mg_of X G nWh) (fun_mk (st := sLowest) lLo ccLo kkLo) (PySem.W.mg_of X G nLo)
  have GIn : ∀ base, FnOk l.prog w K mg base CX0 4 fIn _ ["here", "around", "many"] (spInner K) := fun base => ok_inner (fun_mk (st := sInner) lIn ccIn kkIn) ⟨TW, (PySem.W.mg_none_of X G zzip), (PySem.W.mg_none_of X G zstr), (fun_mk (st := sWholeL) lWh ccWh kkWh), (PySem.W.mg_of X G nWh), GCh, (fun_mk (st := sChanceK) lCh ccCh kkCh), (PySem.W.mg_of X G nCh), GSu, (fun_mk (st := sSumL) lSu ccSu kkSu), (PySem.W.mg_of X G nSu), (fun_mk (st := sWanted) lWa ccWa kkWa), (PySem.W.mg_of X G nWa)⟩
  have GIs : ∀ base, FnOk l.prog w K mg base CX0 5 fIs _ ["one", "things", "k"] (spIsL K) := fun base => ok_isL (fun_mk (st := sIsL) lIs ccIs kkIs) TW GIn (fun_mk (st := sInner) lIn ccIn kkIn) (PySem.W.mg_of X G nIn)
  have GTe : ∀ base, FnOk l.prog w K mg base CX0 7 fTe _ ["many"] (spTree K 6) := fun base => ok_tree (fun_mk (st := sTree) lTe ccTe kkTe) (PySem.W.mg_of X G nTe) TW (PySem.W.mg_none_of X G zmin) (PySem.W.mg_none_of X G zrange) 6
  have GSz : ∀ base, FnOk l.prog w K mg base CX0 8 fSz _ ["state"] (spSized K) := fun base => ok_sized (fun_mk (st := sSized) lSz ccSz kkSz) DR GTe (fun_mk (st := sTree) lTe ccTe kkTe) (PySem.W.mg_of X G nTe)
  refine ⟨PySem.W.fnOf "law" "law" (defArgs sLawQ) (defBody sLawQ) (defScope sLawQ) .none kVW dcW pmW anW (.ref cR) ctW, cR, PR, tab_in nW lW lco lev, nt, fun s v => .of_eq rfl, fun base _ _ TB => ?_⟩
  exact ok_lawQ lW ccW TB ⟨DR, TW, (PySem.W.mg_none_of X G zmin), ⟨(fun_mk (st := Pre.sBegun) lA ccA kkA), (PySem.W.mg_of X G nA)⟩, ⟨(fun_mk (st := sKindT) lKt ccKt kkKt), (PySem.W.mg_of X G nKt)⟩, GKt, ⟨(fun_mk (st := sWanted) lWa ccWa kkWa), (PySem.W.mg_of X G nWa)⟩, ⟨(fun_mk (st := sClosedL) lCl ccCl kkCl), (PySem.W.mg_of X G nCl)⟩, GCl, ⟨(fun_mk (st := sBent) lBe ccBe kkBe), (PySem.W.mg_of X G nBe)⟩, GBe, ⟨(fun_mk (st := sIsL) lIs ccIs kkIs), (PySem.W.mg_of X G nIs)⟩, GIs, ⟨(fun_mk (st := sBadT) lBt ccBt kkBt), (PySem.W.mg_of X G nBt)⟩, GBt, ⟨(fun_mk (st := sSized) lSz ccSz kkSz), (PySem.W.mg_of X G nSz)⟩, GSz, ⟨(fun_mk (st := sTruth) lTr ccTr kkTr), (PySem.W.mg_of X G nTr)⟩, ⟨(fun_mk (st := Kn.sBadK) lBk ccBk kkBk), (PySem.W.mg_of X G nBk)⟩, ⟨(fun_mk (st := Lm.sCaught) lC ccC kkC), (PySem.W.mg_of X G nC)⟩, ⟨Gtk, (PySem.W.mg_of X G ntk), kktk⟩, (fun_mk (st := sIsTalk) ltk cctk kktk).binds (ps := ["kind", "value"]) fun _ _ _ _ _ _ us hl => match us, hl with | [_, _], _ => rfl, fun s u v _ => .of_eq rfl, PySem.W.mg_of X G nCB, ⟨PySem.W.mg_of X G nCK, PySem.W.exm_ref sbS hdS tyS suCK, ⟨clCK, gaCK, gtCK, sbCK, caCK, moCK⟩, kiCK⟩, ⟨zh, zt⟩⟩
end Tk


open PySem PySem.W PyProof.Rows in
set_option maxRecDepth 100000 in
set_option maxHeartbeats 0 in
theorem PySem.Challenge.cw_chancepoints_k24_talks_judged_holds : PySem.Challenge.rw_chancepoints_k24_talks_judged.Holds := by
  w_on; o_law; k_head; (case hw => w_witness2)
  k_fill
  refine Gd.walk_G (l := PySem.Challenge.rw_chancepoints_k24_talks_judged) (xl := "law") (k := 24) (x := "script") (sp := Tk.spLawQ) rfl rfl ⟨rfl, by decide, by decide⟩ (fun w h Y => PySem.W.km_in_of Y) (by rfl) (fun K P H a zs hl hP hS => ⟨a, zs, rfl, hS, hl, fun z hz => by rw [List.mem_singleton.mp hz]; exact LamX.TabS.nil hP, fun _ => rfl⟩) ?F
  case F =>
    intro w mg fa h KX G hmg
    refine' Tk.all_mk KX G hmg ?q0_na ?q0_nb ?q0_nd ?q0_ne ?q0_nf ?q0_ng ?q0_nh ?q0_ni ?q0_nj ?q0_nk ?q0_nl ?q0_nm ?q0_nn ?q0_no ?q0_np ?q0_nq ?q0_nr ?q0_ns ?q0_ntk ?q0_nA ?q0_nB ?q0_nD ?q0_nP ?q0_nC ?q0_nTr ?q0_nLo ?q0_nPl ?q0_nWa ?q0_nAt ?q0_nPu ?q0_nDr ?q0_nKl ?q0_nNu ?q0_nSp ?q0_nBe ?q0_nBk ?q0_nSu ?q0_nKt ?q0_nTa ?q0_nCl ?q0_nBt ?q0_nIs ?q0_nWh ?q0_nCh ?q0_nIn ?q0_nTe ?q0_nSz ?q0_nW ?q0_la ?q0_cca ?q0_kka ?q0_lb ?q0_ccb ?q0_kkb ?q0_ld ?q0_ccd ?q0_kkd ?q0_le ?q0_cce ?q0_kke ?q0_lf ?q0_ccf ?q0_kkf ?q0_lg ?q0_ccg ?q0_kkg ?q0_lh ?q0_cch ?q0_kkh ?q0_li ?q0_cci ?q0_kki ?q0_lj ?q0_ccj ?q0_kkj ?q0_lk ?q0_cck ?q0_kkk ?q0_ll ?q0_ccl ?q0_kkl ?q0_lm ?q0_ccm ?q0_kkm ?q0_ln ?q0_ccn ?q0_kkn ?q0_lo ?q0_cco ?q0_kko ?q0_lp ?q0_ccp ?q0_kkp ?q0_lq ?q0_ccq ?q0_kkq ?q0_lr ?q0_ccr ?q0_kkr ?q0_ls ?q0_ccs ?q0_kks ?q0_ltk ?q0_cctk ?q0_kktk ?q0_lA ?q0_ccA ?q0_kkA ?q0_lB ?q0_ccB ?q0_kkB ?q0_lD ?q0_ccD ?q0_kkD ?q0_lP ?q0_ccP ?q0_kkP ?q0_lC ?q0_ccC ?q0_kkC ?q0_lTr ?q0_ccTr ?q0_kkTr ?q0_lLo ?q0_ccLo ?q0_kkLo ?q0_lPl ?q0_ccPl ?q0_kkPl ?q0_lWa ?q0_ccWa ?q0_kkWa ?q0_lAt ?q0_ccAt ?q0_kkAt ?q0_lPu ?q0_ccPu ?q0_kkPu ?q0_lDr ?q0_ccDr ?q0_kkDr ?q0_lKl ?q0_ccKl ?q0_kkKl ?q0_lNu ?q0_ccNu ?q0_kkNu ?q0_lSp ?q0_ccSp ?q0_kkSp ?q0_lBe ?q0_ccBe ?q0_kkBe ?q0_lBk ?q0_ccBk ?q0_kkBk ?q0_lSu ?q0_ccSu ?q0_kkSu ?q0_lKt ?q0_ccKt ?q0_kkKt ?q0_lTa ?q0_ccTa ?q0_kkTa ?q0_lCl ?q0_ccCl ?q0_kkCl ?q0_lBt ?q0_ccBt ?q0_kkBt ?q0_lIs ?q0_ccIs ?q0_kkIs ?q0_lWh ?q0_ccWh ?q0_kkWh ?q0_lCh ?q0_ccCh ?q0_kkCh ?q0_lIn ?q0_ccIn ?q0_kkIn ?q0_lTe ?q0_ccTe ?q0_kkTe ?q0_lSz ?q0_ccSz ?q0_kkSz ?q0_lW ?q0_ccW ?q0_kkW ?q0_n6 ?q0_n12 ?q0_nR ?q0_nM ?q0_nCB ?q0_nCK ?q0_qCK ?q0_kpCK ?q0_sbCK ?q0_tyCK ?q0_clCK ?q0_gaCK ?q0_gtCK ?q0_caCK ?q0_moCK ?q0_kiCK ?q0_suCK ?q0_sbS ?q0_hdS ?q0_tyS ?q0_zh ?q0_zt ?q0_lco ?q0_lev ?q0_ngcd ?q0_nNo ?q0_lNo ?q0_nAl ?q0_lAl ?q0_zisinstance ?q0_zint ?q0_zbool ?q0_zlist ?q0_ztuple ?q0_zlen ?q0_zabs ?q0_zrange ?q0_zall ?q0_zzip ?q0_zmin ?q0_zstr ?q0_nt
    (case q0_na => k_is)
    (case q0_nb => k_is)
    (case q0_nd => k_is)
    (case q0_ne => k_is)
    (case q0_nf => k_is)
    (case q0_ng => k_is)
    (case q0_nh => k_is)
    (case q0_ni => k_is)
    (case q0_nj => k_is)
    (case q0_nk => k_is)
    (case q0_nl => k_is)
    (case q0_nm => k_is)
    (case q0_nn => k_is)
    (case q0_no => k_is)
    (case q0_np => k_is)
    (case q0_nq => k_is)
    (case q0_nr => k_is)
    (case q0_ns => k_is)
    (case q0_ntk => k_is)
    (case q0_nA => k_is)
    (case q0_nB => k_is)
    (case q0_nD => k_is)
    (case q0_nP => k_is)
    (case q0_nC => k_is)
    (case q0_nTr => k_is)
    (case q0_nLo => k_is)
    (case q0_nPl => k_is)
    (case q0_nWa => k_is)
    (case q0_nAt => k_is)
    (case q0_nPu => k_is)
    (case q0_nDr => k_is)
    (case q0_nKl => k_is)
    (case q0_nNu => k_is)
    (case q0_nSp => k_is)
    (case q0_nBe => k_is)
    (case q0_nBk => k_is)
    (case q0_nSu => k_is)
    (case q0_nKt => k_is)
    (case q0_nTa => k_is)
    (case q0_nCl => k_is)
    (case q0_nBt => k_is)
    (case q0_nIs => k_is)
    (case q0_nWh => k_is)
    (case q0_nCh => k_is)
    (case q0_nIn => k_is)
    (case q0_nTe => k_is)
    (case q0_nSz => k_is)
    (case q0_nW => k_is)
    (case q0_la => k_is)
    (case q0_cca => k_is)
    (case q0_kka => k_is)
    (case q0_lb => k_is)
    (case q0_ccb => k_is)
    (case q0_kkb => k_is)
    (case q0_ld => k_is)
    (case q0_ccd => k_is)
    (case q0_kkd => k_is)
    (case q0_le => k_is)
    (case q0_cce => k_is)
    (case q0_kke => k_is)
    (case q0_lf => k_is)
    (case q0_ccf => k_is)
    (case q0_kkf => k_is)
    (case q0_lg => k_is)
    (case q0_ccg => k_is)
    (case q0_kkg => k_is)
    (case q0_lh => k_is)
    (case q0_cch => k_is)
    (case q0_kkh => k_is)
    (case q0_li => k_is)
    (case q0_cci => k_is)
    (case q0_kki => k_is)
    (case q0_lj => k_is)
    (case q0_ccj => k_is)
    (case q0_kkj => k_is)
    (case q0_lk => k_is)
    (case q0_cck => k_is)
    (case q0_kkk => k_is)
    (case q0_ll => k_is)
    (case q0_ccl => k_is)
    (case q0_kkl => k_is)
    (case q0_lm => k_is)
    (case q0_ccm => k_is)
    (case q0_kkm => k_is)
    (case q0_ln => k_is)
    (case q0_ccn => k_is)
    (case q0_kkn => k_is)
    (case q0_lo => k_is)
    (case q0_cco => k_is)
    (case q0_kko => k_is)
    (case q0_lp => k_is)
    (case q0_ccp => k_is)
    (case q0_kkp => k_is)
    (case q0_lq => k_is)
    (case q0_ccq => k_is)
    (case q0_kkq => k_is)
    (case q0_lr => k_is)
    (case q0_ccr => k_is)
    (case q0_kkr => k_is)
    (case q0_ls => k_is)
    (case q0_ccs => k_is)
    (case q0_kks => k_is)
    (case q0_ltk => k_is)
    (case q0_cctk => k_is)
    (case q0_kktk => k_is)
    (case q0_lA => k_is)
    (case q0_ccA => k_is)
    (case q0_kkA => k_is)
    (case q0_lB => k_is)
    (case q0_ccB => k_is)
    (case q0_kkB => k_is)
    (case q0_lD => k_is)
    (case q0_ccD => k_is)
    (case q0_kkD => k_is)
    (case q0_lP => k_is)
    (case q0_ccP => k_is)
    (case q0_kkP => k_is)
    (case q0_lC => k_is)
    (case q0_ccC => k_is)
    (case q0_kkC => k_is)
    (case q0_lTr => k_is)
    (case q0_ccTr => k_is)
    (case q0_kkTr => k_is)
    (case q0_lLo => k_is)
    (case q0_ccLo => k_is)
    (case q0_kkLo => k_is)
    (case q0_lPl => k_is)
    (case q0_ccPl => k_is)
    (case q0_kkPl => k_is)
    (case q0_lWa => k_is)
    (case q0_ccWa => k_is)
    (case q0_kkWa => k_is)
    (case q0_lAt => k_is)
    (case q0_ccAt => k_is)
    (case q0_kkAt => k_is)
    (case q0_lPu => k_is)
    (case q0_ccPu => k_is)
    (case q0_kkPu => k_is)
    (case q0_lDr => k_is)
    (case q0_ccDr => k_is)
    (case q0_kkDr => k_is)
    (case q0_lKl => k_is)
    (case q0_ccKl => k_is)
    (case q0_kkKl => k_is)
    (case q0_lNu => k_is)
    (case q0_ccNu => k_is)
    (case q0_kkNu => k_is)
    (case q0_lSp => k_is)
    (case q0_ccSp => k_is)
    (case q0_kkSp => k_is)
    (case q0_lBe => k_is)
    (case q0_ccBe => k_is)
    (case q0_kkBe => k_is)
    (case q0_lBk => k_is)
    (case q0_ccBk => k_is)
    (case q0_kkBk => k_is)
    (case q0_lSu => k_is)
    (case q0_ccSu => k_is)
    (case q0_kkSu => k_is)
    (case q0_lKt => k_is)
    (case q0_ccKt => k_is)
    (case q0_kkKt => k_is)
    (case q0_lTa => k_is)
    (case q0_ccTa => k_is)
    (case q0_kkTa => k_is)
    (case q0_lCl => k_is)
    (case q0_ccCl => k_is)
    (case q0_kkCl => k_is)
    (case q0_lBt => k_is)
    (case q0_ccBt => k_is)
    (case q0_kkBt => k_is)
    (case q0_lIs => k_is)
    (case q0_ccIs => k_is)
    (case q0_kkIs => k_is)
    (case q0_lWh => k_is)
    (case q0_ccWh => k_is)
    (case q0_kkWh => k_is)
    (case q0_lCh => k_is)
    (case q0_ccCh => k_is)
    (case q0_kkCh => k_is)
    (case q0_lIn => k_is)
    (case q0_ccIn => k_is)
    (case q0_kkIn => k_is)
    (case q0_lTe => k_is)
    (case q0_ccTe => k_is)
    (case q0_kkTe => k_is)
    (case q0_lSz => k_is)
    (case q0_ccSz => k_is)
    (case q0_kkSz => k_is)
    (case q0_lW => k_is)
    (case q0_ccW => k_is)
    (case q0_kkW => k_is)
    (case q0_n6 => k_is)
    (case q0_n12 => k_is)
    (case q0_nR => k_is)
    (case q0_nM => k_is)
    (case q0_nCB => k_is)
    (case q0_nCK => k_is)
    (case q0_qCK => k_exc)
    (case q0_kpCK => k_is)
    (case q0_sbCK => k_is)
    (case q0_tyCK => k_is)
    (case q0_clCK => k_is)
    (case q0_gaCK => k_is)
    (case q0_gtCK => k_is)
    (case q0_caCK => k_is)
    (case q0_moCK => k_is)
    (case q0_kiCK => kit_is)
    (case q0_suCK => k_is)
    (case q0_sbS => k_is)
    (case q0_hdS => k_is)
    (case q0_tyS => k_is)
    (case q0_zh => k_is)
    (case q0_zt => k_is)
    (case q0_lco => k_is)
    (case q0_lev => exact rfl)
    (case q0_ngcd => k_is)
    (case q0_nNo => k_is)
    (case q0_lNo => k_is)
    (case q0_nAl => k_is)
    (case q0_lAl => k_is)
    (case q0_zisinstance => k_is)
    (case q0_zint => k_is)
    (case q0_zbool => k_is)
    (case q0_zlist => k_is)
    (case q0_ztuple => k_is)
    (case q0_zlen => k_is)
    (case q0_zabs => k_is)
    (case q0_zrange => k_is)
    (case q0_zall => k_is)
    (case q0_zzip => k_is)
    (case q0_zmin => k_is)
    (case q0_zstr => k_is)
    (case q0_nt => kernel_rfl)

