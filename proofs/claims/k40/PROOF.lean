import PyProof.Rows.All
import Wide.All
import OpenK.AllK
import Wide.FinOn
import HandS.ForMost
import HandS.Wide
import HandS.Codes
import HandS.ExcValue
import HandS.ExcInit
import HandS.ExcField
import HandS.ExcIs
import HandS.ExcOwn
import HandS.Exc
import HandS.WordsExc
import HandS.WordsList
import HandS.IsInst
import KE.KExcIs
import HandS.FStr
import HandS.Lambda
import HandS.EndTab
import HandS.Gcd
import HandS.Defaults
import HandS.MakeKw
import HandS.Style
import HandS.Zip
import KE.GoesZip
import HandS.EndTab
import KE.KMathGC
import HandS.Rev
import HandS.Walk
import HandS.Style
import PySem.Challenge.RW_chancepoints_k40_whole_always_enough_tri
set_option Elab.async false
set_option maxRecDepth 100000
namespace Pre
open PySem L2
def top (i : Nat) : Stmt := PySem.Challenge.pw_chancepoints_k40_whole_always_enough_tri.main.body.getD i (.Pass ⟨0, 0, 0, 0⟩)
abbrev sBegun : Stmt := top 29
abbrev sBlended : Stmt := top 30
abbrev sDraw : Stmt := top 31
abbrev sPick : Stmt := top 32

/-! ## the state of the draws -/
abbrev kG : Key := .inr "great"
abbrev kC : Key := .inr "cells"
abbrev kR : Key := .inr "rest"
abbrev kT : Key := .inr "turn"
def stp (g c : Addr) (r t : Int) : List (Key × V) := [(kG, .ref g), (kC, .ref c), (kR, .int r), (kT, .int t)]
theorem z1 : ¬ ("great" : Str) = "cells" := by decide +kernel
theorem z2 : ¬ ("great" : Str) = "rest" := by decide +kernel
theorem z3 : ¬ ("great" : Str) = "turn" := by decide +kernel
theorem z4 : ¬ ("cells" : Str) = "rest" := by decide +kernel
theorem z5 : ¬ ("cells" : Str) = "turn" := by decide +kernel
theorem z6 : ¬ ("rest" : Str) = "turn" := by decide +kernel
theorem n1 : ¬ kG = kC := by decide +kernel
theorem n2 : ¬ kG = kR := by decide +kernel
theorem n3 : ¬ kG = kT := by decide +kernel
theorem n4 : ¬ kC = kR := by decide +kernel
theorem n5 : ¬ kC = kT := by decide +kernel
theorem n6 : ¬ kR = kT := by decide +kernel
theorem n1' : ¬ kC = kG := fun e => n1 e.symm
theorem n2' : ¬ kR = kG := fun e => n2 e.symm
theorem n3' : ¬ kT = kG := fun e => n3 e.symm
theorem n4' : ¬ kR = kC := fun e => n4 e.symm
theorem n5' : ¬ kT = kC := fun e => n5 e.symm
theorem n6' : ¬ kT = kR := fun e => n6 e.symm
theorem st_g {g c : Addr} {r t : Int} : valV (stp g c r t) kG = some (.ref g) := valV_pos rfl
theorem st_c {g c : Addr} {r t : Int} : valV (stp g c r t) kC = some (.ref c) := by
  unfold stp
  rw [valV_neg n1, valV_pos rfl]
theorem st_r {g c : Addr} {r t : Int} : valV (stp g c r t) kR = some (.int r) := by
  unfold stp
  rw [valV_neg n2, valV_neg n4, valV_pos rfl]
theorem st_t {g c : Addr} {r t : Int} : valV (stp g c r t) kT = some (.int t) := by
  unfold stp
  rw [valV_neg n3, valV_neg n5, valV_neg n6, valV_pos rfl]
theorem put_t {g c : Addr} {r t u : Int} : putK (stp g c r t) kT (.int u) = stp g c r u := by
  unfold putK stp
  have h : ([(kG, V.ref g), (kC, .ref c), (kR, .int r), (kT, .int t)].any fun kv => decide (kv.1 = kT)) = true := by simp
  rw [if_pos h]
  simp only [List.map_cons, List.map_nil, if_neg n3, if_neg n5, if_neg n6, if_pos]
theorem put_r {g c : Addr} {r t u : Int} : putK (stp g c r t) kR (.int u) = stp g c u t := by
  unfold putK stp
  have h : ([(kG, V.ref g), (kC, .ref c), (kR, .int r), (kT, .int t)].any fun kv => decide (kv.1 = kR)) = true := by simp
  rw [if_pos h]
  simp only [List.map_cons, List.map_nil, if_neg n2, if_neg n4, if_neg n6', if_pos]
theorem merge_st {g c : Addr} {r t : Int} : mergeK [] [(kG, V.ref g), (kC, .ref c), (kR, .int r), (kT, .int t)] = stp g c r t := by
  unfold mergeK stp
  simp only [List.foldl_cons, List.foldl_nil]
  have e1 : putK ([] : List (Key × V)) kG (.ref g) = [(kG, .ref g)] := by simp [putK]
  have e2 : putK [(kG, V.ref g)] kC (.ref c) = [(kG, .ref g), (kC, .ref c)] := by simp [putK, z1]
  have e3 : putK [(kG, V.ref g), (kC, .ref c)] kR (.int r) = [(kG, .ref g), (kC, .ref c), (kR, .int r)] := by simp [putK, z2, z4]
  have e4 : putK [(kG, V.ref g), (kC, .ref c), (kR, .int r)] kT (.int t) = [(kG, .ref g), (kC, .ref c), (kR, .int r), (kT, .int t)] := by simp [putK, z3, z5, z6]
  rw [e1, e2, e3, e4]
theorem stp_len {g c : Addr} {r t : Int} : (stp g c r t).length < sizeLine := by show 4 < sizeLine; decide

/-- at p the state of the draws, its two lists at g and c; at most n times were the cells blended -/
structure St (H : Hp) (p g c : Addr) (n : Nat) : Prop where
  ex : ∃ (gs cs : List Int) (r t : Int), H p = some (.dK (stp g c r t)) ∧ H g = some (.lst (gs.map V.int)) ∧ H c = some (.lst (cs.map V.int)) ∧ gs.length ≤ 63 ∧ cs.length ≤ 63 ∧ 0 ≤ t ∧ t ≤ n
  ne : g ≠ c
/-- all that was tracked stands, but for the state and its great ones -/
def Kp (p g : Addr) (H H' : Hp) : Prop := ∀ b o, b ≠ p → b ≠ g → H b = some o → H' b = some o
theorem Kp.refl {p g : Addr} {H : Hp} : Kp p g H H := fun _ _ _ _ e => e
theorem Kp.trans {p g : Addr} {H H1 H2 : Hp} (a : Kp p g H H1) (b : Kp p g H1 H2) : Kp p g H H2 := fun x o h1 h2 e => b x o h1 h2 (a x o h1 h2 e)
theorem Kp.of {p g : Addr} {H H' : Hp} (a : Same H H') : Kp p g H H' := fun x o _ _ e => a x o e
theorem Kp.upd_p {p g : Addr} {H : Hp} {o : HO} : Kp p g H (upd H p o) := fun x u h1 _ e => by rw [upd_ne h1]; exact e
theorem Kp.upd_g {p g : Addr} {H : Hp} {o : HO} : Kp p g H (upd H g o) := fun x u _ h2 e => by rw [upd_ne h2]; exact e
theorem same_upd {H : Hp} {p : Addr} {o : HO} (h : H p = none) : Same H (upd H p o) := fun b u e => by
  rw [upd_ne (ne_of_none e h)]
  exact e
theorem dk_ne_lst {H : Hp} {a b : Addr} {kvs : List (Key × V)} {xs : List V} (h1 : H a = some (.dK kvs)) (h2 : H b = some (.lst xs)) : a ≠ b := ne_of h1 h2 (by intro z; cases z)
theorem ints_at {K : PySem.W.Frag} {xs : List Int} {i : Nat} {y : V} (h : (xs.map V.int)[i]? = some y) : ∃ u, y = V.int u ∧ xs[i]? = some u ∧ i < xs.length := by
  rw [List.getElem?_map] at h
  cases e : xs[i]? with
  | none =>
    rw [e] at h
    cases h
  | some u =>
    rw [e] at h
    exact ⟨u, (Option.some.inj h).symm, rfl, (List.getElem?_eq_some_iff.mp e).1⟩
theorem dpAll_ints {K : PySem.W.Frag} {H : Hp} : ∀ (xs : List Int), DpAll K H (xs.map V.int) (xs.map PyData.int)
  | [] => .nil
  | x :: xs => .cons (.int x) (dpAll_ints xs)
theorem can_ints : ∀ (xs : List Int), PyData.canLayAll0 (xs.map PyData.int) = true
  | [] => rfl
  | x :: xs => by
    show (PyData.canLay0 (.int x) && PyData.canLayAll0 (xs.map PyData.int)) = true
    rw [can_ints xs]
    rfl
theorem depth_ints : ∀ (xs : List Int), PyData.depthAll (xs.map PyData.int) = 0
  | [] => rfl
  | x :: xs => by
    show max (PyData.depth (.int x)) (PyData.depthAll (xs.map PyData.int)) = 0
    rw [depth_ints xs]
    rfl
theorem shaped_ints (xs : List Int) : SeqAt.shaped (.list (xs.map PyData.int)) = true := by
  unfold SeqAt.shaped
  have h1 : PyData.canLay0 (.list (xs.map PyData.int)) = true := can_ints xs
  have h2 : PyData.depth (.list (xs.map PyData.int)) = 1 := by
    show PyData.depthAll (xs.map PyData.int) + 1 = 1
    rw [depth_ints]
  rw [h1, h2]
  rfl

/-! ## what a def of the draws asks of the module -/
structure TxtP (mg : Str → Option Value) : Prop where
  abs : mg "abs" = none
  int : mg "int" = none
  len : mg "len" = none

def spBegun (K : PySem.W.Frag) : Sp := fun vs H Q _ => ∃ (a : Addr) (ns : List Int), vs = [.ref a] ∧ SqL K H a (ns.map V.int) ∧ ns.length ≤ 63 ∧
  ∀ (H' : Hp) (p g c : Addr), Same H H' → St H' p g c 0 → H p = none → H g = none → Q (.ref p) H'
def spBlended : Sp := fun vs H Q _ => ∃ (p g c : Addr) (cs : List Int) (r t : Int), vs = [.ref p] ∧ H p = some (.dK (stp g c r t)) ∧ H c = some (.lst (cs.map V.int)) ∧ 0 ≤ t ∧ t < 2 ^ 40 ∧
  ∀ (H' : Hp) (f : Int), Same (upd H p (.dK (stp g c r (t + 1)))) H' → Q (.int f) H'
def spDraw : Sp := fun vs H Q _ => ∃ (p g c : Addr) (n : Nat) (m : Int), vs = [.ref p, .int m] ∧ St H p g c n ∧ n < 2 ^ 40 ∧ 0 < m ∧ m < 2 ^ 30 ∧
  ∀ (H' : Hp) (f : Int), Kp p g H H' → St H' p g c (n + 1) → 0 ≤ f → f < m → Q (.int f) H'
def spPick (K : PySem.W.Frag) : Sp := fun vs H Q _ => ∃ (p g c : Addr) (n : Nat) (l : Addr) (xs : List V), vs = [.ref p, .ref l] ∧ St H p g c n ∧ n < 2 ^ 40 ∧ H l = some (.lst xs) ∧ l ≠ g ∧ 0 < xs.length ∧ xs.length ≤ 1000 ∧
  ∀ (H' : Hp) (i : Nat) (y : V), Kp p g H H' → St H' p g c (n + 1) → i < xs.length → xs[i]? = some y → Q y H'

section
variable {P : Program} {w : World} {K : PySem.W.Frag} {mg : Str → Option Value} {base : Heap}
abbrev nBegun : List Str := ["script", "great", "cell"]
theorem scBegun : FnScope nBegun ["script"] (defScope sBegun) := ⟨rfl, rfl, rfl, by decide +kernel, rfl, by decide +kernel, by decide +kernel⟩
theorem ok_begun {f : Addr} {fd : FuncData} (F : Fun K "_law_begun" "_law_begun" sBegun f fd) (T : TxtP mg) : FnOk P w K mg base CX0 1 f fd ["script"] (spBegun K) := by
  refine F.ok scBegun (fun vs H Q E h => ?_) (fun cdv A outer s H vs Q E hr h => ?_)
  · obtain ⟨a, ns, rfl, _⟩ := h
    rfl
  · obtain ⟨a, ns, rfl, hS, hlen, k⟩ := h
    have nd := scBegun.nd
    refine ⟨_, pss_cons (ps_setLc (i := 1) (own := [("cell", 2)]) (g := gName 2) rfl nd rfl rfl (sw_true rfl rfl rfl (by decide +kernel)) (pi_list (pv 0)) (blkOk_by (own := [("cell", 2)]) (N := nBegun) (sc := defScope sBegun) (by decide +kernel))
          (fun _ _ _ _ _ => pg_name (i := 2) nd rfl (Or.inl rfl))
          (fun _ _ _ _ _ => pts_one (pt_cmpR op_ge (pe_callB call_abs (by rfl) T.abs (by decide +kernel) (pa_cons (pv 2) pa_nil)) (pe_op op_pow pe_int pe_int) (nomark _)))
          (fun _ _ _ _ _ => pe_op op_sub (pe_callB call_abs (by rfl) T.abs (by decide +kernel) (pa_cons (pv 2) pa_nil)) (pe_op op_pow pe_int pe_int)))
      (pss_one (ps_ret (pe_disp (pps_cons pe_str (pv 1) (pps_cons pe_str
          (pe_lc (own := [("cell", 2)]) (g := gName 2) (tt := tYes) rfl nd (pi_list (pv 0)) (blkOk_by (own := [("cell", 2)]) (N := nBegun) (sc := defScope sBegun) (by decide +kernel))
            (fun _ _ _ _ _ => pg_name (i := 2) nd rfl (Or.inl rfl)) (fun _ _ _ _ _ => pts_nil) (fun _ _ _ _ _ => pe_callB call_abs (by rfl) T.abs (by decide +kernel) (pa_cons (pv 2) pa_nil)))
          (pps_cons pe_str pe_int (pps_cons pe_str pe_int pps_nil)))) (by rfl) (by rfl) (fun z => by cases z) (by decide)))), ?_⟩
    refine ⟨_, rfl, a, rfl, ⟨_, hS⟩, fun D hD => lc_list (K := K) (a := a) (xs := ns.map V.int) (fun i H' => ∃ gs : List Int, Same H H' ∧ H' D = some (.lst (gs.map V.int)) ∧ gs.length ≤ i)
      ⟨[], same_upd hD, upd_same, Nat.le_refl _⟩ (fun i H' _ ⟨_, s1, _⟩ => s1.seq hS) ?_ ?_⟩
    · rintro i y H' hi ⟨gs, s1, hd, hl⟩
      obtain ⟨u, rfl, hu, hlt⟩ := ints_at (K := K) hi
      refine ⟨rfl, _, rfl, _, rfl, _, _, rfl, rfl, ⟨by decide, by decide, by decide⟩, _, _, rfl, rfl, _, rfl, ?_⟩
      refine ite2 (fun _ => ?_) (fun _ => ?_)
      · refine ⟨_, rfl, _, rfl, _, _, rfl, rfl, ⟨by decide, by decide, by decide⟩, _, _, rfl, rfl, _, hd, ?_, ?_⟩
        · rw [List.length_map]
          exact Nat.lt_of_le_of_lt hl (Nat.lt_of_lt_of_le hlt (Nat.le_trans hlen (by decide)))
        · refine ⟨gs ++ [_], fun b o e => ?_, by rw [upd_same, List.map_append]; rfl, by rw [List.length_append]; exact Nat.succ_le_succ hl⟩
          rw [upd_ne (ne_of_none e hD)]
          exact s1 _ _ e
      · exact ⟨gs, s1, hd, Nat.le_succ_of_le hl⟩
    · rintro H1 ⟨gs, s1, hd, hl⟩
      rw [List.length_map] at hl
      refine fun p hp1 => ?_
      have npD : p ≠ D := fun e => by
        rw [e, hd] at hp1
        cases hp1
      have s2 : Same H (upd H1 p (.dK [])) := s1.trans (same_upd hp1)
      have hd2 : (upd H1 p (.dK [])) D = some (.lst (gs.map V.int)) := by rw [upd_ne npD.symm]; exact hd
      have hp2 : (upd H1 p (.dK [])) p = some (.dK []) := upd_same
      generalize hH2 : upd H1 p (.dK []) = H2 at s2 hd2 hp2
      refine ⟨_, rfl, _, rfl, a, rfl, ⟨_, s2.seq hS⟩, fun D2 hD2 => lc_list (K := K) (a := a) (xs := ns.map V.int) (fun i H' => ∃ cs : List Int, Same H2 H' ∧ H' D2 = some (.lst (cs.map V.int)) ∧ cs.length ≤ i)
        ⟨[], same_upd hD2, upd_same, Nat.le_refl _⟩ (fun i H' _ ⟨_, s3, _⟩ => s3.seq (s2.seq hS)) ?_ ?_⟩
      · rintro i y H' hi ⟨cs, s3, hd3, hl3⟩
        obtain ⟨u, rfl, hu, hlt⟩ := ints_at (K := K) hi
        refine ⟨rfl, ?_⟩
        refine ⟨_, rfl, _, rfl, _, hd3, ?_, ?_⟩
        · rw [List.length_map]
          exact Nat.lt_of_le_of_lt hl3 (Nat.lt_of_lt_of_le hlt (Nat.le_trans hlen (by decide)))
        · refine ⟨cs ++ [_], fun b o e => ?_, by rw [upd_same, List.map_append]; rfl, by rw [List.length_append]; exact Nat.succ_le_succ hl3⟩
          rw [upd_ne (ne_of_none e hD2)]
          exact s3 _ _ e
      · rintro H3 ⟨cs, s3, hd3, hl3⟩
        rw [List.length_map] at hl3
        have nD2 : D ≠ D2 := ne_of_none hd2 hD2
        have npD2 : p ≠ D2 := ne_of_none hp2 hD2
        refine ⟨s3 _ _ hp2, [(kG, .ref D), (kC, .ref D2), (kR, .int 0), (kT, .int 0)], rfl, by show 4 ≤ 15; decide, ?_⟩
        rw [merge_st]
        have hp0 : H p = none := s1.free hp1
        refine k _ p D D2 (fun b o e => ?_) ⟨⟨gs, cs, 0, 0, upd_same, ?_, ?_, Nat.le_trans hl hlen, Nat.le_trans hl3 hlen, Int.le_refl _, Int.le_refl _⟩, nD2⟩ hp0 hD
        · rw [upd_ne (ne_of_none e hp0)]
          exact s3 _ _ (s2 _ _ e)
        · rw [upd_ne npD.symm]
          exact s3 _ _ hd2
        · rw [upd_ne npD2.symm]
          exact hd3

abbrev nBlended : List Str := ["state", "turn", "found", "prime", "blend", "cell"]
theorem scBlended : FnScope nBlended ["state"] (defScope sBlended) := ⟨rfl, rfl, rfl, by decide +kernel, rfl, by decide +kernel, by decide +kernel⟩
theorem get_t {H : Hp} {p g c : Addr} {r t : Int} (h : H p = some (.dK (stp g c r t))) : DGet H p (.str "turn") (some (.int t)) := by
  have q := DGet.k (k := kT) h
  rw [st_t] at q
  exact q
theorem get_r {H : Hp} {p g c : Addr} {r t : Int} (h : H p = some (.dK (stp g c r t))) : DGet H p (.str "rest") (some (.int r)) := by
  have q := DGet.k (k := kR) h
  rw [st_r] at q
  exact q
theorem get_c {H : Hp} {p g c : Addr} {r t : Int} (h : H p = some (.dK (stp g c r t))) : DGet H p (.str "cells") (some (.ref c)) := by
  have q := DGet.k (k := kC) h
  rw [st_c] at q
  exact q
theorem get_g {H : Hp} {p g c : Addr} {r t : Int} (h : H p = some (.dK (stp g c r t))) : DGet H p (.str "great") (some (.ref g)) := by
  have q := DGet.k (k := kG) h
  rw [st_g] at q
  exact q
theorem dput_t {H : Hp} {p g c : Addr} {r t u : Int} (h : H p = some (.dK (stp g c r t))) : DPut H p (.str "turn") (.int u) (upd H p (.dK (stp g c r u))) := by
  have q := DPut.k (k := kT) (v := .int u) h stp_len
  rw [put_t] at q
  exact q
theorem dput_r {H : Hp} {p g c : Addr} {r t u : Int} (h : H p = some (.dK (stp g c r t))) : DPut H p (.str "rest") (.int u) (upd H p (.dK (stp g c u t))) := by
  have q := DPut.k (k := kR) (v := .int u) h stp_len
  rw [put_r] at q
  exact q
theorem prime_at {i : Nat} {x : V} (h : ([V.int 2147483579, .int 2147483629, .int 2147483563] : List V)[i]? = some x) : ∃ u : Int, x = .int u ∧ 0 < u ∧ u < 2147483648 := by
  match i, h with
  | 0, h => exact ⟨_, (Option.some.inj h).symm, by decide, by decide⟩
  | 1, h => exact ⟨_, (Option.some.inj h).symm, by decide, by decide⟩
  | 2, h => exact ⟨_, (Option.some.inj h).symm, by decide, by decide⟩
  | n + 3, h => cases h
theorem ok_blended {f : Addr} {fd : FuncData} (F : Fun K "_law_blended" "_law_blended" sBlended f fd) (T : TxtP mg) : FnOk P w K mg base CX0 1 f fd ["state"] spBlended := by
  refine F.ok scBlended (fun vs H Q E h => ?_) (fun cdv A outer s H vs Q E hr h => ?_)
  · obtain ⟨p, g, c, cs, r, t, rfl, _⟩ := h
    rfl
  · obtain ⟨p, g, c, cs, r, t, rfl, hp, hc, t0, t1, k⟩ := h
    have nd := scBlended.nd
    have hu := hu_of hr
    refine ⟨_, pss_cons (ps_par (i := 1) (j := 2) rfl nd rfl rfl (by decide) rfl rfl (pa_cons (pe_op op_add (pe_dget hu (pv 0) pe_str (fun _ _ => rfl)) pe_int) (pa_cons pe_int pa_nil)) (by rfl))
      (pss_cons (ps_dput hu (pv 0) pe_str (pv 1) rfl)
      (pss_cons (ps_for PassesOwn.never rfl (pi_list (pe_lst (pa_cons pe_int (pa_cons pe_int (pa_cons pe_int pa_nil))))) (pg_name (i := 3) nd rfl (Or.inl rfl))
        (pss_cons (ps_set (i := 4) nd rfl (Or.inl rfl) (pe_op op_add (pe_op op_mul pe_int (pv 1)) (pe_op op_fdivW (pv 3) pe_int)))
        (pss_cons (ps_for PassesOwn.never rfl (pi_list (pe_dget hu (pv 0) pe_str (fun _ _ => rfl))) (pg_name (i := 5) nd rfl (Or.inl rfl))
            (pss_one (ps_set (i := 4) nd rfl (Or.inl rfl) (pe_op op_mod (pe_callTy call_int1 (by rfl) T.int (by decide +kernel) (pa_cons (pe_op op_add (pe_op op_add (pe_op op_mul (pv 4) pe_int) (pv 5)) (pv 1)) pa_nil)) (pv 3)))))
        (pss_one (ps_set (i := 2) nd rfl (Or.inl rfl) (pe_op op_add (pe_op op_mul (pv 2) pe_int) (pe_op op_mod (pe_callTy call_int1 (by rfl) T.int (by decide +kernel) (pa_cons (pe_op op_pow (pv 4) pe_int) pa_nil)) (pv 3))))))))
      (pss_one (ps_ret (pv 2))))), ?_⟩
    refine ⟨_, rfl, p, _, rfl, get_t hp, t, 1, rfl, rfl, _, _, rfl, ?_⟩
    refine ⟨_, rfl, _, rfl, p, _, rfl, dput_t hp, ?_⟩
    refine ⟨by show 3 ≤ sizeLine; decide, fun l hl => ?_⟩
    have npl : p ≠ l := fun e => by
      rw [e, upd_same] at hl
      cases hl
    have ncp : c ≠ p := ne_of hc hp (by intro z; cases z)
    have ncl : c ≠ l := fun e => by
      rw [← e, upd_ne ncp, hc] at hl
      cases hl
    have s0 : Same (upd H p (.dK (stp g c r (t + 1)))) (upd (upd H p (.dK (stp g c r (t + 1)))) l (.lst [.int 2147483579, .int 2147483629, .int 2147483563])) := same_upd hl
    generalize hHH : upd (upd H p (.dK (stp g c r (t + 1)))) l (.lst [.int 2147483579, .int 2147483629, .int 2147483563]) = HH at s0
    have hp' : HH p = some (.dK (stp g c r (t + 1))) := s0 _ _ upd_same
    have hc' : HH c = some (.lst (cs.map V.int)) := s0 _ _ (by rw [upd_ne ncp]; exact hc)
    have hl' : HH l = some (.lst [.int 2147483579, .int 2147483629, .int 2147483563]) := by rw [← hHH]; exact upd_same
    refine ⟨l, rfl, ⟨_, SqL.of hl'⟩, for_list (K := K) (a := l) (xs := [.int 2147483579, .int 2147483629, .int 2147483563])
      (fun i σ H' => ∃ (fo : Int) (pr bl ce : Option V), σ = [some (.ref p), some (.int (t + 1)), some (.int fo), pr, bl, ce] ∧ H' = HH) ⟨0, none, none, none, rfl, rfl⟩ (fun i σ H' _ ⟨_, _, _, _, _, e⟩ => by rw [e]; exact SqL.of hl') ?_ ?_⟩
    · rintro i x σ H' hx ⟨fo, pr, bl, ce, rfl, rfl⟩
      obtain ⟨q, rfl, q0, q1⟩ := prime_at hx
      refine ⟨_, rfl, 48271, t + 1, rfl, rfl, .inl ⟨by decide, by decide⟩, _, rfl, q, 53, rfl, rfl, ⟨by decide, by decide +kernel⟩, _, _, rfl, rfl, ?_⟩
      refine ⟨_, rfl, p, _, rfl, get_c hp', c, rfl, ⟨_, SqL.of hc'⟩, for_list (K := K) (a := c) (xs := cs.map V.int)
        (fun j σ H'' => ∃ (b : Int) (ce : Option V), σ = [some (.ref p), some (.int (t + 1)), some (.int fo), some (.int q), some (.int b), ce] ∧ H'' = H' ∧ 0 ≤ b ∧ b < 2 ^ 60) ⟨_, ce, rfl, rfl, ?_, ?_⟩
        (fun i σ H' _ ⟨_, _, _, e, _⟩ => by rw [e]; exact SqL.of hc') ?_ ?_⟩
      · have z : 0 ≤ q / 53 := Int.ediv_nonneg (by omega) (by decide)
        omega
      · have z : q / 53 ≤ q := Int.ediv_le_self _ (by omega)
        omega
      · rintro j y σ H'' hy ⟨b, ce', rfl, rfl, b0, b1⟩
        obtain ⟨u, rfl, _, _⟩ := ints_at (K := K) hy
        refine ⟨_, rfl, b, 69621, rfl, rfl, .inr ⟨by decide, by decide⟩, _, rfl, _, _, rfl, rfl, _, rfl, _, _, rfl, rfl, .inl ⟨_, rfl, _, rfl, _, q, rfl, rfl, q0, ?_⟩⟩
        refine ⟨_, _, rfl, rfl, Int.emod_nonneg _ (by omega), ?_⟩
        have z := Int.emod_lt_of_pos (b * 69621 + u + (t + 1)) q0
        omega
      · rintro σ H'' ⟨b, ce', rfl, rfl, b0, b1⟩
        refine ⟨_, rfl, fo, 2147483647, rfl, rfl, .inr ⟨by decide, by decide⟩, _, rfl, b, 5, rfl, rfl, ⟨by decide, by decide, by omega⟩, .inl ⟨_, rfl, _, rfl, _, q, rfl, rfl, q0, _, _, rfl, rfl, ?_⟩⟩
        exact ⟨_, _, _, _, rfl, rfl⟩
    · rintro σ H' ⟨fo, pr, bl, ce, rfl, rfl⟩
      exact ⟨_, rfl, k _ _ s0⟩

theorem eqv_ints_nil : ∀ gs : List Int, PyData.eqv (.list (gs.map PyData.int)) (.list []) = gs.isEmpty
  | [] => rfl
  | _ :: _ => rfl
theorem dp_ints {H : Hp} {a : Addr} {gs : List Int} (h : H a = some (.lst (gs.map V.int))) : Dp K H (.ref a) (.list (gs.map PyData.int)) := .lst (SqL.of h) (dpAll_ints (K := K) gs)
abbrev nDraw : List Str := ["state", "room", "found"]
theorem scDraw : FnScope nDraw ["state", "room"] (defScope sDraw) := ⟨rfl, rfl, rfl, by decide +kernel, rfl, by decide +kernel, by decide +kernel⟩
theorem ok_draw {f fB : Addr} {fd fdB : FuncData} (F : Fun K "_law_draw" "_law_draw" sDraw f fd) (T : TxtP mg) (FB : Fun K "_law_blended" "_law_blended" sBlended fB fdB) (mgB : mg "_law_blended" = some (.ref fB)) :
    FnOk P w K mg base CX0 2 f fd ["state", "room"] spDraw := by
  have GB : FnOk P w K mg base CX0 1 fB fdB ["state"] spBlended := ok_blended FB T
  have bB : Binds K fdB ["state"] [] := FB.binds (ps := ["state"]) fun _ _ _ _ _ _ us hl => match us, hl with | [_], _ => rfl
  refine F.ok scDraw (fun vs H Q E h => ?_) (fun cdv A outer s H vs Q E hr h => ?_)
  · obtain ⟨p, g, c, n, m, rfl, _⟩ := h
    rfl
  · obtain ⟨p, g, c, n, m, rfl, ⟨⟨gs, cs, r, t, hp, hg, hc, lg, lc, t0, t1⟩, ngc⟩, hn, m0, m1, k⟩ := h
    have nd := scDraw.nd
    have hu := hu_of hr
    have npg : p ≠ g := dk_ne_lst hp hg
    have npc : p ≠ c := dk_ne_lst hp hc
    refine ⟨_, C8.pss_cut (ps_if (pt_cmpR op_eq (pe_dget hu (pv 0) pe_str (fun _ _ => rfl)) pe_int (nomark _))
        (pss_one (ps_dput hu (pv 0) pe_str (pe_ifExp (pt_cmpR (op_neD hr.units) (pe_dget hu (pv 0) pe_str (fun _ _ => rfl)) (pe_lst pa_nil) (nomark _))
          (pe_bm PySem.F.plainAttrs_list PySem.F.slot_list_pop PySem.F.type_list_pop mt_popAt (pe_dget hu (pv 0) pe_str (fun _ _ => rfl)) (pa_cons pe_int pa_nil))
          (pe_call GB hr rfl mgB FB.kp bB .nil pass0 (pa_cons (pv 0) pa_nil))) rfl)) pss_nil)
      (pss_cons (ps_set (i := 2) nd rfl (Or.inl rfl) (pe_op op_mod (pe_callTy call_int1 (by rfl) T.int (by decide +kernel) (pa_cons (pe_dget hu (pv 0) pe_str (fun _ _ => rfl)) pa_nil)) (pv 1)))
      (pss_cons (ps_dput hu (pv 0) pe_str (pe_op op_fdivW (pe_dget hu (pv 0) pe_str (fun _ _ => rfl)) (pv 1)) rfl)
      (pss_one (ps_ret (pv 2))))), ?_⟩
    refine ⟨fun σ H' => σ = [some (.ref p), some (.int m), none] ∧ Kp p g H H' ∧ ∃ (gs' : List Int) (r' t' : Int), H' p = some (.dK (stp g c r' t')) ∧ H' g = some (.lst (gs'.map V.int)) ∧ H' c = some (.lst (cs.map V.int)) ∧ gs'.length ≤ 63 ∧ 0 ≤ t' ∧ t' ≤ n + 1, ?_, ?_⟩
    · refine ⟨_, rfl, p, _, rfl, get_r hp, rfl, _, rfl, ?_⟩
      refine ite2 (fun _ => ?_) (fun _ => ?_)
      · refine ⟨_, rfl, p, _, rfl, get_g hp, by show 0 ≤ sizeLine; decide, fun l hl => ?_⟩
        have s0 : Same H (upd H l (.lst [])) := same_upd hl
        have hp1 := s0 _ _ hp
        have hg1 := s0 _ _ hg
        have hc1 := s0 _ _ hc
        have hl1 : (upd H l (.lst [])) l = some (.lst (([] : List Int).map V.int)) := upd_same
        generalize hH1 : upd H l (.lst []) = H1 at s0 hp1 hg1 hc1 hl1
        refine ⟨_, _, dp_ints hg1, dp_ints hl1, shaped_ints _, shaped_ints _, _, rfl, ?_⟩
        have eq : PyData.eqv (.list (gs.map PyData.int)) (.list (([] : List Int).map PyData.int)) = gs.isEmpty := eqv_ints_nil gs
        rw [eq]
        refine ite2 (fun hne => ?_) (fun _ => ?_)
        · match gs, hne, lg, hg1 with
          | [], hne, _, _ => exact absurd hne (by simp)
          | u :: gs', _, lg, hg1 =>
            refine ⟨_, rfl, p, _, rfl, get_g hp1, .inl ⟨rfl, _, SqL.of hg1⟩, g, _, 0, 0, .int u, rfl, rfl, hg1, by decide, by decide, ?_, rfl, ?_⟩
            · rw [List.length_map, List.length_cons]
              unfold seqIndex?
              simp
            · have hp2 : (upd H1 g (.lst (((u :: gs').map V.int).eraseIdx 0))) p = some (.dK (stp g c r t)) := by rw [upd_ne npg]; exact hp1
              refine ⟨_, rfl, p, _, rfl, dput_r hp2, ?_⟩
              refine ⟨rfl, (Kp.of s0).trans (Kp.upd_g.trans Kp.upd_p), gs', u, t, upd_same, ?_, ?_, ?_, t0, by omega⟩
              · rw [upd_ne npg.symm, upd_same]
                rfl
              · rw [upd_ne npc.symm, upd_ne ngc.symm]
                exact hc1
              · simp only [List.length_cons] at lg
                omega
        · refine ⟨_, rfl, p, g, c, cs, r, t, rfl, hp1, hc1, t0, by omega, fun H2 f0 s2 => ?_⟩
          have hp2 := s2 _ _ upd_same
          refine ⟨_, rfl, p, _, rfl, dput_r hp2, ?_⟩
          refine ⟨rfl, (Kp.of s0).trans (Kp.upd_p.trans ((Kp.of s2).trans Kp.upd_p)), gs, f0, t + 1, upd_same, ?_, ?_, lg, by omega, by omega⟩
          · rw [upd_ne npg.symm]
            exact s2 _ _ (by rw [upd_ne npg.symm]; exact hg1)
          · rw [upd_ne npc.symm]
            exact s2 _ _ (by rw [upd_ne npc.symm]; exact hc1)
      · exact ⟨rfl, Kp.refl, gs, r, t, hp, hg, hc, lg, t0, by omega⟩
    · rintro σ H' ⟨rfl, kp, gs', r', t', hp', hg', hc', lg', t0', t1'⟩
      refine ⟨_, rfl, p, _, rfl, get_r hp', .inl ⟨_, rfl, _, rfl, _, m, rfl, rfl, m0, ?_⟩⟩
      refine ⟨_, rfl, p, _, rfl, get_r hp', _, rfl, _, m, rfl, rfl, wide_div m0 (b := 30) (by omega) (by decide) (by decide), _, rfl, p, _, rfl, dput_r hp', ?_⟩
      refine ⟨_, rfl, k _ _ (kp.trans Kp.upd_p) ⟨⟨gs', cs, r' / m, t', upd_same, ?_, ?_, lg', lc, t0', t1'⟩, ngc⟩ (Int.emod_nonneg _ (by omega)) (Int.emod_lt_of_pos _ m0)⟩
      · rw [upd_ne npg.symm]
        exact hg'
      · rw [upd_ne npc.symm]
        exact hc'
abbrev nPick : List Str := ["state", "some"]
theorem scPick : FnScope nPick ["state", "some"] (defScope sPick) := ⟨rfl, rfl, rfl, by decide +kernel, rfl, by decide +kernel, by decide +kernel⟩
theorem ok_pick {f fD fB : Addr} {fd fdD fdB : FuncData} (F : Fun K "_law_pick" "_law_pick" sPick f fd) (T : TxtP mg) (FD : Fun K "_law_draw" "_law_draw" sDraw fD fdD) (mgD : mg "_law_draw" = some (.ref fD)) (FB : Fun K "_law_blended" "_law_blended" sBlended fB fdB) (mgB : mg "_law_blended" = some (.ref fB)) :
    FnOk P w K mg base CX0 3 f fd ["state", "some"] (spPick K) := by
  have GD : FnOk P w K mg base CX0 2 fD fdD ["state", "room"] spDraw := ok_draw FD T FB mgB
  have bD : Binds K fdD ["state", "room"] [] := FD.binds (ps := ["state", "room"]) fun _ _ _ _ _ _ us hl => match us, hl with | [_, _], _ => rfl
  refine F.ok scPick (fun vs H Q E h => ?_) (fun cdv A outer s H vs Q E hr h => ?_)
  · obtain ⟨p, g, c, n, l, xs, rfl, _⟩ := h
    rfl
  · obtain ⟨p, g, c, n, l, xs, rfl, hs, hn, hl, nlg, x0, x1, k⟩ := h
    have nlp : l ≠ p := by
      obtain ⟨⟨gs, cs, r, t, hp, _⟩, _⟩ := hs
      exact (dk_ne_lst hp hl).symm
    refine ⟨_, pss_one (ps_ret (pe_ix ix_list (pv 1) (pe_call GD hr rfl mgD FD.kp bD .nil pass0 (pa_cons (pv 0) (pa_cons (pe_callB call_len_seq (by rfl) T.len PySem.boot_len (pa_cons (pv 1) pa_nil)) pa_nil))) (fun _ _ => rfl))), ?_⟩
    refine ⟨_, rfl, _, rfl, _, rfl, l, _, rfl, .inl (SqL.of hl), p, g, c, n, (xs.length : Int), rfl, hs, hn, by omega, by omega, fun H' f0 kp s' f1 f2 => ?_⟩
    have hl' := kp l _ nlp nlg hl
    obtain ⟨i, rfl⟩ := Int.eq_ofNat_of_zero_le f1
    have hi : i < xs.length := by omega
    refine ⟨l, _, _, xs[i], rfl, rfl, SqL.of hl', atI_nat (List.getElem?_eq_getElem hi), ?_⟩
    exact k _ i _ kp s' hi (List.getElem?_eq_getElem hi)
end
end Pre

namespace Lm
open PySem PySem.Spec PyProof.Rows L2
open LamX (CodeO TabS Tabs ExtN TabB LamS lamEnv lamCx inv_table among_app codeO_ne lam_start2 run_ofS takes0)

/-! ## lambdas that are kept: in a name, in a list; what a try catches is kept, too -/
/-- at f a lambda of the name q, its code object at c', its cells cl -/
def LamO (f : Addr) (q : Str) (params : Arguments) (body : Expr) (scope : Scope) (cl : List (Str × Addr)) (c' : Addr) : HO := .ext fun h => ∃ pm ctv, h.get? f = some (PySem.W.kla_obj "<lambda>" q params body scope cl pm c' ctv)
theorem lamO_ok {P : Program} {w : World} {H : Hp} {h : Heap} {f c' : Addr} {q : Str} {params : Arguments} {body : Expr} {scope : Scope} {cl : List (Str × Addr)} {pm ctv : Value} (e : h.get? f = some (PySem.W.kla_obj "<lambda>" q params body scope cl pm c' ctv)) :
    ObjOk P w H h f (LamO f q params body scope cl c') := ⟨⟨pm, ctv, e⟩, ⟨_, e⟩, fun _ _ ⟨p, t, y⟩ k => ⟨p, t, k _ y⟩⟩
theorem lamO_ne {f c' : Addr} {q : Str} {params : Arguments} {body : Expr} {scope : Scope} {cl : List (Str × Addr)} (ps : Array Value) : LamO f q params body scope cl c' ≠ .tbl ps := fun y => by
  unfold LamO at y
  cases y
/-- at a an exception of the class cls, its dict d, that was caught -/
def ExT (cls : Value) (d : Option Addr) (a : Addr) : HO := .ext fun h => ∃ (oe : Obj) (fv : Array Value), h.get? a = some oe ∧ Zc cls d oe ∧ oe.data = .fields fv
theorem exT_ok {P : Program} {w : World} {H : Hp} {h : Heap} {a : Addr} {cls : Value} {d : Option Addr} {oe : Obj} {fv : Array Value} (e : h.get? a = some oe) (y : Zc cls d oe) (dt : oe.data = .fields fv) : ObjOk P w H h a (ExT cls d a) :=
  ⟨⟨oe, fv, e, y, dt⟩, ⟨oe, e⟩, fun _ _ ⟨o, v, q, r⟩ k => ⟨o, v, k _ q, r⟩⟩

section
variable {X : Cx} {pins : List (Addr × Obj)} {σ : L2.St} {H : Hp} {s : Shared}
/-- an object that is newer than the def's entry is tracked from now on -/
theorem track {a : Addr} {o : HO} (J : Inv X pins σ H s) (hn : H a = none) (h0 : X.s_0.heap.get? a = none) (nL : X.env.locals ≠ a) (nC : ∀ x c, X.env.cells.lookup x = some c → c ≠ a) (nP : ∀ p ∈ X.pn ++ pins, p.1 ≠ a) (new : ObjOk X.prog X.w (upd H a o) s.heap a o) :
    Inv X pins σ (upd H a o) s := by
  have ne0 : ∀ b u, X.s_0.heap.get? b = some u → b ≠ a := fun b u e y => by
    rw [y, h0] at e
    cases e
  have neT : ∀ b u, H b = some u → b ≠ a := fun b u e => ne_of_none e hn
  refine ⟨J.ok, J.os, J.bare, ⟨J.base.keep, J.base.slot, fun b u e n hx => ?_, J.base.there, fun b xs e => ?_, fun b u v e => ?_, fun b ps e => ?_⟩, J.loc, J.cell, ?_, fun x c e => ?_, fun p hp => ?_, fun b u e => ?_, J.len⟩
  · rw [upd_ne (ne0 b u e)]
    exact J.base.free b u e n hx
  · have y := J.base.tups b xs e
    rw [upd_ne (neT b _ y)]
    exact y
  · have y := J.base.frzs b u v e
    rw [upd_ne (neT b _ y)]
    exact y
  · obtain ⟨m, y⟩ := J.base.tbls b ps e
    exact ⟨m, by rw [upd_ne (neT b _ y)]; exact y⟩
  · rw [upd_ne nL]
    exact J.free
  · rw [upd_ne (nC x c e)]
    exact J.freeC x c e
  · obtain ⟨e, n, r⟩ := J.pin p hp
    exact ⟨e, by rw [upd_ne (nP p hp)]; exact n, r⟩
  · by_cases hb : b = a
    · subst hb
      rw [upd_same] at e
      cases e
      exact new
    · rw [upd_ne hb] at e
      exact (J.hok b u e).stay (fun _ _ _ y => y) (fun c y => by rw [upd_ne (neT c _ y)]; exact y) fun c xs y => by rw [upd_ne (neT c _ y)]; exact y

/-- lambda: body, the new function object tracked -/
theorem lam_new {T : List (Addr × Str)} {c P : Addr} {params : Arguments} {body : Expr} {scope : Scope} {pos : Pos} {E : Value → Shared → Prop} {Q : Value → Shared → Prop} (I : Inv X pins σ H s) (TB : TabB X.base X.mg c P) (hcode : X.env.code = .ref c)
    (hm : (P, X.env.qual ++ "<lambda>") ∈ T) (hu : ∀ p ∈ T, p.1 = P → p.2 = X.env.qual ++ "<lambda>") (hT : Tabs T H) (hdef : defaultsOf params X.env = ([], [])) (hfree : ∀ y ∈ scope.names, y.2 = .free → ∃ c, X.env.cells.lookup y.1 = some c)
    (h : ∀ (f c' : Addr) (H1 : Hp) (s' : Shared), Inv X pins σ (upd H1 f (LamO f (X.env.qual ++ "<lambda>") params body scope (cloFrom X.env.cells scope.names []) c')) s' → ExtN H H1 → Tabs T H1 → H1 f = none → H1 c' = some (CodeO c' (X.env.qual ++ "<lambda>")) → Q (.ref f) s') :
    wpAny (model X.prog X.w) X.A (eval (.Lambda params body scope pos) X.env) Q E s := by
  obtain ⟨ps, hP, ht, ha⟩ := hT _ hm
  refine PySem.W.kla_eval hdef ?_
  have bIn : s.heap.BuiltinsAt X.mg P := TB.bm.keeps I.bk
  have atP : s.heap.get? P = some { cls := .none, data := .fields ps } := I.hok P _ hP
  cases hc : codeAmong pos ps.toList with
  | none =>
    refine PySem.W.kla_makeFunction (mg := X.mg) (c := c) (P := P) (ps := ps) (closure_ok hfree) I.ok.glob (I.mod.glob.keeps I.bk) hcode (TB.code.keeps I.bk) atP ht hc TB.gP bIn fun c' ctv h' tk keepsB hge hlt hrec htb => ?_
    obtain ⟨c2, oc, fv, t, e2, hoc, hd, hv⟩ := hrec
    cases e2
    have nC : H c' = none := I.hok.fresh hge
    have I0 := inv_table (t' := tk) (more := #[rawInt pos.line, rawInt pos.col, .ref c']) (h' := h') I hP keepsB htb hge ⟨oc, fv, t, hoc, hd, hv⟩
    have hE : ExtN H (upd (upd H P (.tbl (ps ++ #[rawInt pos.line, rawInt pos.col, .ref c']))) c' (CodeO c' (X.env.qual ++ "<lambda>"))) := fun b o e n => by
      rw [upd_ne (ne_of_none e nC), upd_ne (fun y => n ps (Option.some.inj (e.symm.trans (by rw [y]; exact hP))))]
      exact e
    have app : (ps ++ #[rawInt pos.line, rawInt pos.col, .ref c']).toList = ps.toList ++ [rawInt pos.line, rawInt pos.col, .ref c'] := by simp
    have I1 := I0.laid (t' := tk) (a := h'.objs.size) (o := LamO h'.objs.size (X.env.qual ++ "<lambda>") params body scope (cloFrom X.env.cells scope.names []) c') (h' := h'.push (PySem.W.kla_obj "<lambda>" (X.env.qual ++ "<lambda>") params body scope (cloFrom X.env.cells scope.names []) ((X.mg "__name__").getD .none) c' ctv))
      (fun _ _ e => Heap.get?_push_of_some _ e) (Nat.le_refl _) (lamO_ok (Heap.get?_push_size _ rfl))
    refine h h'.objs.size c' _ _ I1 hE (fun p hp => ?_) (I0.hok.fresh (Nat.le_refl _)) upd_same
    by_cases hb : p.1 = P
    · rw [hu p hp hb, hb]
      refine ⟨_, by rw [upd_ne (ne_of_none hP nC), upd_same], by rw [app]; exact PySem.TriplesOk_snoc _ _ _ _ ht, fun p' cv hcv => ?_⟩
      rw [app] at hcv
      rcases among_app _ ht hcv with y | y
      · obtain ⟨c0, e1, e2⟩ := ha p' cv y
        exact ⟨c0, e1, hE _ _ e2 codeO_ne⟩
      · exact ⟨c', y, upd_same⟩
    · obtain ⟨ps', a1, a2, a3⟩ := hT p hp
      refine ⟨ps', by rw [upd_ne (ne_of_none a1 nC), upd_ne hb]; exact a1, a2, fun p' cv hcv => ?_⟩
      obtain ⟨c0, e1, e2⟩ := a3 p' cv hcv
      exact ⟨c0, e1, hE _ _ e2 codeO_ne⟩
  | some cv =>
    obtain ⟨c', e, hco⟩ := ha pos cv hc
    subst e
    refine PySem.W.kla_makeFunctionHit (mg := X.mg) (c := c) (P := P) (ps := ps) (closure_ok hfree) I.ok.glob (I.mod.glob.keeps I.bk) hcode (TB.code.keeps I.bk) atP ht hc bIn fun ctv h' tk keepsB _ => ?_
    have I0 : Inv X pins σ H { s with heap := h', toks := tk } := I.kept keepsB
    have I1 := I0.laid (t' := tk) (a := h'.objs.size) (o := LamO h'.objs.size (X.env.qual ++ "<lambda>") params body scope (cloFrom X.env.cells scope.names []) c') (h' := h'.push (PySem.W.kla_obj "<lambda>" (X.env.qual ++ "<lambda>") params body scope (cloFrom X.env.cells scope.names []) ((X.mg "__name__").getD .none) c' ctv))
      (fun _ _ e => Heap.get?_push_of_some _ e) (Nat.le_refl _) (lamO_ok (Heap.get?_push_size _ rfl))
    exact h h'.objs.size c' H _ I1 (ExtN.refl H) hT (I0.hok.fresh (Nat.le_refl _)) hco
end
def tLamb (T : List (Addr × Str)) (q : Str) (params : Arguments) (body : Expr) (scope : Scope) (cl : List (Str × Addr)) : TE := fun _ H Q => Tabs T H ∧ ∀ (f c' : Addr) (H1 : Hp), ExtN H H1 → Tabs T H1 → H1 f = none → H1 c' = some (CodeO c' q) → Q (.ref f) (upd H1 f (LamO f q params body scope cl c'))
theorem pe_lam {X : Cx} {T : List (Addr × Str)} {c P : Addr} {params : Arguments} {body : Expr} {scope : Scope} {pos : Pos} (TB : TabB X.base X.mg c P) (hcode : X.env.code = .ref c) (hm : (P, X.env.qual ++ "<lambda>") ∈ T) (hu : ∀ p ∈ T, p.1 = P → p.2 = X.env.qual ++ "<lambda>")
    (L : LamS X.env.scope scope) (hdef : defaultsOf params X.env = ([], [])) : PE X (.Lambda params body scope pos) (tLamb T (X.env.qual ++ "<lambda>") params body scope (cloFrom X.env.cells scope.names [])) :=
  ⟨fun pins s σ H Q I ⟨hT, k⟩ => lam_new I TB hcode hm hu hT hdef (L.has I.ok) fun f c' H1 s' I1 eN T1 hn hco => ⟨.ref f, _, I1, rfl, k f c' H1 eN T1 hn hco⟩⟩
end Lm

namespace Lm
open PySem PySem.Spec PyProof.Rows L2
open LamX (CodeO TabS Tabs ExtN TabB LamS lamEnv lamCx inv_table among_app codeO_ne lam_start2 run_ofS takes0)
section
variable {X : Cx} {pins : List (Addr × Obj)} {σ : L2.St} {H : Hp} {s : Shared}
/-- a(), in the def that was handed the lambda; σ: the slots of the def that made it -/
theorem act_ok {CXg : CXT} {Eg : XK} {Ng : List Str} {qg : Str} {sg : Scope} {g f c' : Addr} {cdg : Value} {params : Arguments} {body : Expr} {scope : Scope} {k i : Nat} {a : Str} {pn : List (Addr × Obj)} {xe : Value → Shared → Prop} {W : WX} {t : XK → TE} {p1 p2 : Pos}
    (I : Inv X pins σ H s) (L : LamS X.env.scope scope)
    (hbind : ∀ (q : Str) (cl : List (Str × Addr)) (pm cv ctv : Value), bindArgs (PySem.W.kla_fn "<lambda>" q params body scope cl pm cv ctv) ⟨[], []⟩ = pure [])
    (tk : Takes ((cxOf CXg X.prog X.w X.K X.mg X.base Ng qg sg g cdg X.A X.stack s H Eg).tr pn xe) W) (hr : Room (k + 1) (X.A.deeper (envOfC qg sg s.heap.objs.size g cdg)))
    (hbody : ∀ (A : Around) (outer : List Env) (s : Shared) (H : Hp) (E : XK), Room k (A.deeper (lamEnv X scope s.heap.objs.size f c')) → PE (lamCx X A outer s H E scope f c') body (t E))
    (hN : Ng[i]? = some a) (hv : Vis sg a) (hd : (a == ("__debug__" : Str)) = false := by decide) (hcd : (a == ("__classdict__" : Str)) = false := by decide) :
    PE ((cxOf CXg X.prog X.w X.K X.mg X.base Ng qg sg g cdg X.A X.stack s H Eg).tr pn xe) (.Call (.Name a p1) [] [] p2)
      (fun σZ HZ Q => σZ[i]? = some (some (.ref f)) ∧ HZ f = some (LamO f (X.env.qual ++ "<lambda>") params body scope (cloFrom X.env.cells scope.names []) c') ∧ HZ c' = some (CodeO c' (X.env.qual ++ "<lambda>")) ∧ t (WE W σZ) σ HZ Q) := by
  refine ⟨fun pinsZ sZ σZ HZ Q IZ ⟨atI, isL, isC, rd⟩ => ?_⟩
  refine wpAny_Call_Name_kw (thn ((pe_var (pos := p1) (i := i) hN hv hd hcd).run pinsZ sZ σZ HZ (fun v H1 => v = .ref f ∧ H1 = HZ) IZ ⟨.ref f, atI, rfl, rfl⟩) fun u s1 ⟨v, H1, I1, r1, isF, same⟩ => ?_)
  subst isF
  rw [same] at I1
  obtain rfl : u = Value.ref f := r1
  obtain ⟨⟨pm, ctv, fun1⟩, _, _⟩ := (show ObjOk X.prog X.w HZ s1.heap f (LamO f (X.env.qual ++ "<lambda>") params body scope (cloFrom X.env.cells scope.names []) c') from I1.hok f _ isL)
  refine PySem.W.callWith_F0 ⟨_, _, _, _, fun1⟩ ?_
  have un : Un (frs X.stack) [] H HZ s.heap s1.heap := I1.base
  obtain ⟨⟨oc, fv, t, atC, dC, nC⟩, _, _⟩ := I1.hok c' _ isC
  have ran : codeAny (model X.prog X.w) (X.A.deeper (envOfC qg sg s.heap.objs.size g cdg)) (.call (.ref f) ⟨[], []⟩) (CR (L2.CX X.prog X.w) (envOfC qg sg s.heap.objs.size g cdg :: X.stack) X.prog X.w HZ s1 Q (WE W σZ)) s1 := by
    refine PySem.W.kla_callFunE hr.depth fun1 rfl L.co L.gen rfl ⟨c', oc, fv, t, rfl, atC, dC, nC⟩ ?_
    rw [hbind]
    refine wpAny_pure (wpAny_newFunctionEnv (fun y hy => (L.own y hy).2) (fun y hy => absurd hy (by simp)) (fun h₁ hns hsb => ⟨I1.nolimit.fresh _ hsb, ?_⟩) L.kind)
    show codeAny _ _ (.expr body (lamEnv X scope s1.heap.objs.size f c')) _ _
    have kept : ∀ b o, s1.heap.get? b = some o → h₁.get? b = some o := fun b o e => hsb.extBut b o (Nat.ne_of_lt (Heap.lt_size e)) (Heap.get?_push_of_some _ e)
    have J : Inv (lamCx X (X.A.deeper (envOfC qg sg s.heap.objs.size g cdg)) (envOfC qg sg s.heap.objs.size g cdg :: X.stack) s1 HZ (WE W σZ) scope f c') [] σ HZ { s1 with heap := h₁, toks := s1.toks + ([] : List (Str × Value)).length } :=
      lam_start2 I L I1.env0 hr.hd un hns kept
    refine PySem.W.kla_codeExpr (wpAny_mono ((hbody _ _ s1 HZ (WE W σZ) (hr.deeper _)).run [] _ _ HZ Q J rd) (fun v s' out => ?_) fun _ _ y => y)
    obtain ⟨v', H', J', rv, y⟩ := out
    exact ⟨v', H', J'.os, J'.bare, J'.base, J'.hok, rv, y⟩
  refine wpAny_call (codeAny_mono ran fun r s' out => ?_)
  cases r with
  | error e => exact passAt tk σZ pinsZ HZ s1 e s' I1 out
  | ok fl =>
    cases fl with
    | ret u => exact I1.after out
    | next => exact out.elim
    | brk => exact out.elim
    | cont => exact out.elim
end
/-- what «except x as n» wishes of the body's exception, which is tracked behind the clause: slot i is n's -/
def wAsT (K : PySem.W.Frag) (c : Value) (i : Nat) (ts : Addr → Value → Option Addr → TS) (Wout : WX) (D : Ends) : WX := fun cls d σ H =>
  ∃ b, PySem.W.exmOne K cls c = some b ∧ (b = true → ∀ a, H a = none → ts a cls d { nx := fun σ' H' => H' a = none → D.nx (σ'.set i none) (upd H' a (ExT cls d a)), rt := fun _ _ => False, bk := fun _ _ => False, ct := fun _ _ => False } (σ.set i (some (.ref a))) H) ∧
    (b = false → Wout cls d σ H)
section
variable {X : Cx} {x n : Str} {c : Value} {i : Nat} {body suite : List Stmt} {b₀ : Stmt} {np pos pos' : Pos} {tb : WX → TS} {ts : Addr → Value → Option Addr → TS} {Wout : WX}
theorem ps_try_keep (hex : X.ex = []) (hs : X.stack = X.env :: X.outer) (hf : X.env.frame = some X.env.locals) (hN : X.N.Nodup) (hi : X.N[i]? = some n) (hln : X.env.kindOf n = some .local) (hc : Names X x c) (tk : Takes X Wout)
    (hb : ∀ (W : WX) (pn : List (Addr × Obj)) (xe : Value → Shared → Prop), Takes (X.tr pn xe) W → PassesOwn (model X.prog X.w) X.A X.env xe → PSs (X.tr pn xe) body (tb W))
    (hsu : ∀ (a : Addr) (oe : Obj) (cls : Value) (d : Option Addr) (pn : List (Addr × Obj)), Zc cls d oe → (∃ vs, oe.data = .fields vs) → PSs (X.suite a ((a, oe) :: pn)) (b₀ :: suite) (ts a cls d)) :
    PS X (.Try body [.ExceptHandler (some (.Name x np)) (some n) (b₀ :: suite) pos'] [] [] pos) (fun D σ H => tb (wAsT X.K c i ts Wout D) D σ H) := by
  refine ⟨fun pins s σ H D I rd => ?_⟩
  have ok := I.ok
  have frm : X.A.frames = some (X.env :: X.outer) := by rw [ok.frames, hs]
  have isLoc : Loc X.env.scope n := .inl hln
  refine wpAny_Try_except ?_
  refine wpAny_mono ((hb (wAsT X.K c i ts Wout D) (X.pn ++ pins) (fun e s₁ => wpAny (model X.prog X.w) X.A (noteFrame e X.env) (fun _ s₂ => wpAny (model X.prog X.w) X.A (setFlight e none) (fun _ s₃ =>
    wpAny (model X.prog X.w) X.A (handleBy e X.env [.ExceptHandler (some (.Name x np)) (some n) (b₀ :: suite) pos']) (SP X pins D) X.xe s₃) X.xe s₂) X.xe s₁) (fun u s' xx => ?_) PassesOwn.looking).run [] s σ H D (I.toTry _) rd) (fun f s1 hsp => ?_) (fun _ _ y => y)
  · obtain ⟨a, B, sI, pins', σ', H', cls, d, rfl, JT, nb, up, sky, na, sameOs, bare, b, hb1, hyes, hno⟩ := xx
    have J : Inv X pins σ' H' sI := JT.ofTry ok
    have air : Sky B (X.env :: X.outer) a (Zc cls d) X.env.locals s'.heap := by rw [← hs]; exact sky
    show wpAny _ X.A (noteFrame (.ref a) X.env) _ _ _
    refine Sky.land Zc.steady frm hf air fun h3 fl3 up3 => ?_
    have J3 : Inv X pins σ' H' { s' with heap := h3 } := J.landed nb fl3.1 (up.trans up3) sameOs bare
    obtain ⟨oe3, fv3, he3, hz3, hd3⟩ := fl3.there
    have offFr : a ∉ frs (X.env :: X.outer) := fun hm => by
      obtain ⟨_, o', e', hnf⟩ := fl3.2.2.1.mem hm
      rw [he3] at e'
      cases e'
      exact hnf _ hd3
    have nL : a ≠ X.env.locals := fun y => offFr (List.mem_filterMap.mpr ⟨X.env, List.mem_cons_self, by rw [hf, y]⟩)
    have nF : a ∉ X.fs := fun hm => by
      obtain ⟨e, he, q⟩ := List.mem_filterMap.mp hm
      exact offFr (List.mem_filterMap.mpr ⟨e, List.mem_cons_of_mem _ he, q⟩)
    -- a is newer than all that stood at the try, hence than the entry
    have newI : sI.heap.get? a = none := by
      cases y : sI.heap.get? a with
      | none => rfl
      | some o =>
        have q := nb a o y (by rw [hs]; exact offFr)
        rw [fl3.2.1] at q
        cases q
    have new0 : X.s_0.heap.get? a = none := by
      cases y : X.s_0.heap.get? a with
      | none => rfl
      | some o =>
        obtain ⟨o', q⟩ := J.base.there a o y (by rw [hex]; simp)
        rw [newI] at q
        cases q
    have offCell : ∀ y c, X.env.cells.lookup y = some c → c ≠ a := fun y c e q => by
      obtain ⟨_, o, ho, _⟩ := J.cell y c e
      rw [q, newI] at ho
      cases ho
    have offPin : ∀ p ∈ X.pn ++ pins, p.1 ≠ a := fun p hp q => by
      have ho := (J.pin p hp).1
      rw [q, newI] at ho
      cases ho
    have S3 := J3.suite he3 hd3 na nL nF
    refine wpAny_handleBy_cons (codeAny_handlers_test ?_) (by intro q; cases q)
    have LT : PySem.W.Looks (model X.prog X.w) h3 (typeOf (.ref a)) cls := fun A Q E s k q => wpAny_typeOf_ref (k _ _ he3) (by rw [hz3.1]; exact q)
    have LM := PySem.W.exm_one (M := model X.prog X.w) (J3.kIn) LT hb1
    have tested : ∀ {Q : Value → Shared → Prop} {E : Value → Shared → Prop}, Q c { s' with heap := h3 } → wpAny (model X.prog X.w) (X.A.mark (some (.ref a))) (eval (.Name x np) X.env) Q E { s' with heap := h3 } := fun {Q E} q => by
      obtain ⟨gl, nodbg, hm | ⟨hm, hv, hnn⟩⟩ := hc
      · exact ld_glob (X := X.suite a ((a, oe3) :: (X.pn ++ pins))) S3 gl hm q nodbg
      · exact ld_blt (X := X.suite a ((a, oe3) :: (X.pn ++ pins))) S3 gl hm hv q hnn nodbg
    refine tested (LM.here ?_)
    cases b with
    | true =>
      refine codeAny_handlers_suite_as (HandSPX.lands_againZ fl3 fun h4 fl4 up4 => ?_)
      have J4 : Inv X pins σ' H' { s' with heap := h4 } := J.landed nb fl4.1 ((up.trans up3).trans up4) sameOs bare
      obtain ⟨oe4, fv4, he4, hz4, hd4⟩ := fl4.there
      have S4 := J4.suite he4 hd4 na nL nF
      refine store_ok (X := X.suite a ((a, oe4) :: (X.pn ++ pins))) (v := .ref a) S4 hN hi isLoc rfl (fun s5 S5 => ?_) (.inr hln)
      refine wpAny_mono ((hsu a oe4 cls d (X.pn ++ pins) hz4 ⟨_, hd4⟩).run [] s5 _ H' _ S5 (hyes rfl a na)) (fun f s6 out => ?_) (fun _ _ y => False.elim y)
      cases f with
      | next =>
        obtain ⟨σ6, H6, S6, q6⟩ := out
        refine gone_ok (X := X.suite a ((a, oe4) :: (X.pn ++ pins))) S6 hN hi hln fun s7 S7 => ?_
        obtain ⟨e7, n7, _⟩ := S7.pin (a, oe4) (List.mem_append_left _ List.mem_cons_self)
        have J7 : Inv X pins (σ6.set i none) H6 s7 := S7.unsuite ok
        exact ⟨_, _, track J7 n7 new0 nL.symm offCell offPin (exT_ok e7 hz4 hd4), q6 n7⟩
      | brk =>
        obtain ⟨_, _, _, q6⟩ := out
        exact q6.elim
      | cont =>
        obtain ⟨_, _, _, q6⟩ := out
        exact q6.elim
      | ret u =>
        obtain ⟨_, _, _, _, _, q6⟩ := out
        exact q6.elim
    | false =>
      show wpAny _ X.A (handleBy (.ref a) X.env []) _ _ _
      refine wpAny_handleBy_nil ?_
      obtain ⟨k1, k2, k3, oe, fv, T, oT, ts', he, hz, hd, h1, hr⟩ := id fl3
      unfold PySem.passOn
      refine wpAny_bind (wpAny_field he hd h1 ?_)
      rw [if_neg (show ¬ ((Value.ref T == Value.none) = true) from by simp)]
      have onward : wpAny (model X.prog X.w) X.A (setFlight (.ref a) X.env.frame) (fun _ s4 => wpAny (model X.prog X.w) X.A (throw (.ref a) : Sem Flow) (SP X pins D) X.xe s4) X.xe { s' with heap := h3 } := by
        rw [hf]
        refine HandSPX.setFlight_upZ fl3 fun h4 hh4 up4 => wpAny_throw (tk _ _ ?_)
        exact ⟨a, B, sI, pins, σ', H', cls, d, rfl, J, nb, (up.trans up3).trans up4, .inr (.inr (by rw [hs]; exact hh4)), na, sameOs, bare, hno rfl⟩
      first
        | exact wpAny_bind (wpAny_pure (wpAny_bind onward))
        | exact wpAny_bind onward
  · cases f with
    | next =>
      obtain ⟨σ', H', J', y⟩ := hsp
      exact wpAny_execs_nil ⟨σ', H', J'.ofTry ok, y⟩
    | brk =>
      obtain ⟨σ', H', J', y⟩ := hsp
      exact ⟨σ', H', J'.ofTry ok, y⟩
    | cont =>
      obtain ⟨σ', H', J', y⟩ := hsp
      exact ⟨σ', H', J'.ofTry ok, y⟩
    | ret u =>
      obtain ⟨v, σ', H', J', r, y⟩ := hsp
      exact ⟨v, σ', H', J'.ofTry ok, r, y⟩
end
end Lm

namespace Lm
open PySem PySem.Spec PyProof.Rows L2
open LamX (CodeO TabS Tabs ExtN TabB LamS lamEnv lamCx run_ofS takes0)
abbrev sCaught : Stmt := Pre.top 33
abbrev nCaught : List Str := ["action", "found", "error"]
theorem scCaught : FnScope nCaught ["action"] (defScope sCaught) := ⟨rfl, rfl, rfl, by decide +kernel, rfl, by decide +kernel, by decide +kernel⟩
/-- _law_caught(e), e a lambda of this very frame: None if its body comes to a value; else what it raises, tracked -/
def tCaught (X : Cx) (k : Nat) (CS : Addr) (te : TA) : TE := fun σ H Q => te σ H fun vs H1 => ∃ (f c' : Addr) (params : Arguments) (body : Expr) (scope : Scope) (t : XK → TE), vs = [.ref f] ∧
  H1 f = some (LamO f (X.env.qual ++ "<lambda>") params body scope (cloFrom X.env.cells scope.names []) c') ∧ H1 c' = some (CodeO c' (X.env.qual ++ "<lambda>")) ∧ LamS X.env.scope scope ∧
  (∀ (q : Str) (cl : List (Str × Addr)) (pm cv ctv : Value), bindArgs (PySem.W.kla_fn "<lambda>" q params body scope cl pm cv ctv) ⟨[], []⟩ = pure []) ∧
  (∀ (A : Around) (outer : List Env) (s : Shared) (H : Hp) (E : XK), Room k (A.deeper (lamEnv X scope s.heap.objs.size f c')) → PE (lamCx X A outer s H E scope f c') body (t E)) ∧
  ∀ (E : XK) (R : VK), (∀ cls d H', PySem.W.exmOne X.K cls (.ref CS) = some true → (∀ a, H' a = none → Q (.ref a) (upd H' a (ExT cls d a))) → E cls d H') → (∀ v H', Q .non H' → R v H') → t E σ H1 R
theorem pe_caught {X : Cx} {g CS : Addr} {fdg : FuncData} {k : Nat} {e : Expr} {te : TA} {p pos : Pos} (FG : Fun X.K "_law_caught" "_law_caught" sCaught g fdg) (hm : X.mg "_law_caught" = some (.ref g)) (hCS : X.mg "ChanceError" = some (.ref CS)) (hr : Room (k + 2) X.A) (ha : PA X [e] te)
    (hg : Gl X "_law_caught" := by rfl) (he : starEach [e] X.env = (false, eval e X.env) :: starEach [] X.env := by rfl) (hpl : (backTo pos (starEach [] X.env)).any (·.1) = false := by rfl) :
    PE X (.Call (.Name "_law_caught" p) [e] [] pos) (tCaught X k CS te) := by
  have bG : L2.Binds X.K fdg ["action"] [] := FG.binds (ps := ["action"]) fun _ _ _ _ _ _ us hl => match us, hl with | [_], _ => rfl
  obtain ⟨oc, od, kV, doc, pm, an, cdv, ct, osl, rfl, lk, hcd⟩ := FG.ex
  refine ⟨fun pins s σ H Q I h => ?_⟩
  refine wpAny_Call_Name_kw (ld_glob I hg hm ?_)
  refine PySem.W.callWith_K (h₀ := X.base) I.ok.mod.kin FG.kp (thn (ha.run pos pins s σ H _ I h) fun us s1 ⟨vs, H1, I1, r1, f, c', params, body, scope, t, e1, isL, isC, L, hbind, hbody, rd⟩ => ⟨I1.kIn, ?_⟩) he hpl
  subst e1
  cases r1 with
  | @cons _ u0 _ ur ru rn =>
    cases rn
    obtain rfl : u0 = Value.ref f := ru
    show wpAny _ _ (call (.ref g) [.ref f]) _ _ _
    have ran : codeAny (model X.prog X.w) X.A (.call (.ref g) ⟨[.ref f], []⟩) (CR CX0 X.stack X.prog X.w H1 s1 Q E0) s1 := by
      refine run_ofS (N := nCaught) (ps := ["action"]) (us := [.ref f]) (vs := [.ref f]) lk hcd scCaught hr I1.env0 (bG s1 [.ref f] I1.kIn rfl) (.cons rfl .nil) rfl fun hr' => ?_
      have nd := scCaught.nd
      have term : ∀ (Xc : Cx), Xc = (cxOf CX0 X.prog X.w X.K X.mg X.base nCaught "_law_caught" (defScope sCaught) g cdv X.A X.stack s1 H1 E0).nox → ∃ t, PSs Xc (defBody sCaught) t ∧ t { nx := fun _ H' => Q .non H', rt := Q } (L2.start nCaught [.ref f]) H1 := by
        intro Xc eX
        subst eX
        refine ⟨_, pss_cons (ps_set (i := 1) nd rfl (Or.inl rfl) pe_non) (pss_cons (ps_try_keep (i := 2) (c := .ref CS)
            (tb := fun W D σZ HZ => σZ[0]? = some (some (.ref f)) ∧ HZ f = some (LamO f (X.env.qual ++ "<lambda>") params body scope (cloFrom X.env.cells scope.names []) c') ∧ HZ c' = some (CodeO c' (X.env.qual ++ "<lambda>")) ∧ t (WE W σZ) σ HZ (fun _ H' => D.nx σZ H'))
            (ts := fun _ _ _ => tAsg (tVar 2) (gName 1)) (Wout := fun _ _ _ _ => False) rfl rfl rfl nd rfl rfl ⟨rfl, by decide, .inl hCS⟩ LamX.takes0
            (fun W pn xe tk _ => ?_) (fun a oe cls d pn _ _ => pss_one (ps_set (i := 1) nd rfl (Or.inl rfl) (pv 2)))) (pss_one (ps_ret (pv 1)))), ?_⟩
        · refine ⟨fun pinsB s' σ' H' D IB hB => ?_⟩
          exact (pss_one (ps_expr (act_ok (CXg := CX0) (Eg := E0) (i := 0) I1 L hbind tk hr' hbody rfl (Or.inl rfl)))).run pinsB s' σ' H' D IB hB
        · refine ⟨rfl, isL, isC, rd _ _ (fun cls d H' ex q => ?_) fun v H' q => ⟨.non, rfl, q⟩⟩
          exact ⟨true, ex, fun _ a na => ⟨.ref a, rfl, fun hn => ⟨.ref a, rfl, q a hn⟩⟩, fun z => by cases z⟩
      obtain ⟨t', ht', hq'⟩ := term _ rfl
      exact ⟨t', ht'.nox, hq'⟩
    refine wpAny_call (codeAny_mono ran fun r s2 out => ?_)
    cases r with
    | error e => exact (show False from out).elim
    | ok fl =>
      cases fl with
      | ret u => exact I1.after out
      | next => exact out.elim
      | brk => exact out.elim
      | cont => exact out.elim
end Lm

namespace Gd
open PySem PySem.Spec PyProof.Rows L2
/-- what a def keeps where no text of a thing is being made -/
structure FnG (P0 : Program) (w : World) (K : PySem.W.Frag) (mg : Str → Option Value) (base : Heap) (CX : CXT) (k : Nat) (f : Addr) (fd : FuncData) (ps : List Str) (sp : Sp) : Prop where
  many : ∀ xs H Q E, sp xs H Q E → xs.length = ps.length
  goes : ∀ (A : Around) (out : List Env) (s : Shared) (H : Hp) (given : Args) (us : List Value) (xs : List V) (Q : VK) (E : XK), Room k A → A.guards = some [] → Env0 P0 w K mg base A out s H → BindsTo s fd given (ps.zip us) → Vals xs us → sp xs H Q E →
    codeAny (model P0 w) A (.call (.ref f) given) (CR CX out P0 w H s Q E) s
theorem fnG_of {CX : CXT} {P0 : Program} {w : World} {K : PySem.W.Frag} {mg : Str → Option Value} {base : Heap} {k : Nat} {f : Addr} {nm q : Str} {pm0 : Arguments} {bd : List Stmt} {sc : Scope} {v1 v2 v3 v4 cdv v5 oc : Value} {an od : Option Addr}
    {osl : Array (Option Value)} {N ps : List Str} {sp : Sp} (at_ : K.lookup f = some ⟨oc, od, .func (PySem.W.fnOf nm q pm0 bd sc v1 v2 v3 v4 an cdv v5), osl⟩) (code : PySem.W.codeIn K cdv q = true) (S : FnScope N ps sc)
    (many : ∀ xs H Q E, sp xs H Q E → xs.length = ps.length)
    (inside : ∀ (A : Around) (out : List Env) (s : Shared) (H : Hp) (xs : List V) (Q : VK) (E : XK), Room k (A.deeper (envOfC q sc s.heap.objs.size f cdv)) → A.guards = some [] → sp xs H Q E →
      ∃ t, PSs (cxOf CX P0 w K mg base N q sc f cdv A out s H E) bd t ∧ t { nx := fun _ H1 => Q .non H1, rt := Q } (start N xs) H) :
    FnG P0 w K mg base CX (k + 1) f (PySem.W.fnOf nm q pm0 bd sc v1 v2 v3 v4 an cdv v5) ps sp := by
  refine ⟨many, fun A out s H given us xs Q E room hG e0 bound r rd => ?_⟩
  have same := many _ _ _ _ rd
  have inK : K.In s.heap := e0.mod.kin.keeps fun b o e => (e0.bs b o e).1
  have noLim : s.heap.NoLimit := e0.mod.nolimit.keeps fun b o e => (e0.bs b o e).1
  have kinds : ∀ z ∈ ps.zip us, sc.names.lookup z.1 = some .local ∨ (sc.names.lookup z.1 = some .cell ∧ ((cellsFrom (s.heap.objs.size + 1) sc.names []).lookup z.1).isSome = true) := fun ⟨n, v⟩ hz => by
    rcases S.par n (List.of_mem_zip hz).1 with c | c
    · exact .inl c
    · exact .inr ⟨c, PySem.W.cellsFrom_some _ _ _ (.inl c)⟩
  refine codeAny_call_function room.depth (inK _ _ at_) rfl S.co S.gen rfl (PySem.W.codeRec_of inK code) (bound _ _ _ _ ?_)
  refine wpAny_newFunctionEnv_cells S.kind kinds fun en he s1 x => ?_
  subst he
  refine ⟨noLim.keeps x.toInCall.keep, codeAny_func ?_⟩
  obtain ⟨t, ht, rd2⟩ := inside A out s H xs Q E (room.deeper _) hG rd
  have J : Inv (cxOf CX P0 w K mg base N q sc f cdv A out s H E) [] (start N xs) H s1 := inv_start S room.hd e0 same r x
  refine wpAny_mono (ht.run [] s1 (start N xs) H _ J rd2) (fun fl s' out1 => ?_) fun _ _ z => z
  have ends : ∀ {σ1 : L2.St} {H1 : Hp} {v : V} {u : Value}, Inv (cxOf CX P0 w K mg base N q sc f cdv A out s H E) [] σ1 H1 s' → RelV v u → Q v H1 → CE out P0 w H s Q u s' :=
    fun {σ1 H1 v u} J1 rv z => ⟨v, H1, J1.os, J1.bare, J1.base, J1.hok, rv, z⟩
  cases fl with
  | next =>
    obtain ⟨_, _, J1, z⟩ := out1
    exact ends (v := V.non) (u := Value.none) J1 rfl z
  | ret u =>
    obtain ⟨_, _, _, J1, rv, z⟩ := out1
    exact ends J1 rv z
  | brk =>
    obtain ⟨_, _, _, z⟩ := out1
    exact z.elim
  | cont =>
    obtain ⟨_, _, _, z⟩ := out1
    exact z.elim
section
variable {P0 : Program} {w : World} {K : PySem.W.Frag} {mg : Str → Option Value} {base : Heap}
theorem fun_okG {x q : Str} {st : Stmt} {f : Addr} {fd : FuncData} {N ps : List Str} {k : Nat} {sp : Sp} (F : Fun K x q st f fd) (S : FnScope N ps (defScope st)) (many : ∀ xs H Q E, sp xs H Q E → xs.length = ps.length)
    (inside : ∀ (cdv : Value) (A : Around) (out : List Env) (s : Shared) (H : Hp) (xs : List V) (Q : VK) (E : XK), Room k (A.deeper (envOfC q (defScope st) s.heap.objs.size f cdv)) → A.guards = some [] → sp xs H Q E →
      ∃ t, PSs (cxOf CX0 P0 w K mg base N q (defScope st) f cdv A out s H E).nox (defBody st) t ∧ t { nx := fun _ H1 => Q .non H1, rt := Q } (start N xs) H) : FnG P0 w K mg base CX0 (k + 1) f fd ps sp := by
  obtain ⟨_, _, _, _, _, _, cdv, _, _, rfl, lk, code⟩ := F.ex
  refine fnG_of lk code S many fun A out s H xs Q E room hG rd => ?_
  obtain ⟨t, ht, rd2⟩ := inside cdv A out s H xs Q E room hG rd
  exact ⟨t, ht.nox, rd2⟩
end
section
variable {X : Cx} {CX : CXT} {k : Nat} {f : Addr} {fd : FuncData} {ps : List Str} {sp : Sp} {E : XK} {x : Str} {p pos : Pos} {e : Expr} {es : List Expr} {t : TA}
theorem pe_callG (F : FnG X.prog X.w X.K X.mg X.base CX k f fd ps sp) (room : Room k X.A) (hG : X.A.guards = some []) (hg : Gl X x) (hm : X.mg x = some (.ref f)) (hk : PySem.W.keepIn X.K (.ref f) = true) (hb : Binds X.K fd ps []) (hx : Passes CX X E)
    (ha : PA X (e :: es) t) (hdb : (x == ("__debug__" : Str)) = false := by decide) (he : starEach (e :: es) X.env = (false, eval e X.env) :: starEach es X.env := by rfl) (hpl : (backTo pos (starEach es X.env)).any (·.1) = false := by rfl) :
    PE X (.Call (.Name x p) (e :: es) [] pos) (tCall sp [] E t) := by
  refine ⟨fun pins s σ H Q I rd => ?_⟩
  refine wpAny_Call_Name_kw (ld_glob I hg hm ?_ hdb)
  refine PySem.W.callWith_K (h₀ := X.base) I.ok.mod.kin hk (thn (ha.run pos pins s σ H _ I rd) fun us s1 ⟨xs, H1, I1, r, z⟩ => ⟨I1.kIn, ?_⟩) he hpl
  have z' : sp xs H1 Q E := by
    have q : sp (xs ++ []) H1 Q E := z
    rw [List.append_nil] at q
    exact q
  have hl : us.length = ps.length := (r.length).symm.trans (F.many _ _ _ _ z')
  have b := hb s1 us I1.kIn (by rw [List.append_nil]; exact hl)
  rw [List.append_nil] at b
  refine wpAny_call (codeAny_mono (F.goes X.A X.stack s1 H1 ⟨us, []⟩ us xs Q E room hG I1.env0 b r z') fun r s2 out => ?_)
  cases r with
  | error e => exact hx pins σ H1 s1 e s2 I1 out
  | ok fl =>
    cases fl with
    | ret u => exact I1.after out
    | next => exact out.elim
    | brk => exact out.elim
    | cont => exact out.elim
end
theorem sameText {X : Cx} (hG : X.A.guards = some []) (room : X.A.units + 64 < cLine) : CallR X (.builtin "repr") (fun xs H Q => ∃ a d, xs = [.ref a] ∧ Dp X.K H (.ref a) d ∧ d.showable = true ∧ d.hasDict = false ∧ d.depth < 32 ∧ d.shown.length ≤ sizeLine ∧ Q (.str d.shown) H) := by
  intro pins s σ H xs us Q I r h
  obtain ⟨a, d, rfl, hd, h1, h2, h3, h4, q⟩ := h
  obtain ⟨u, rfl, ru⟩ := vals1 r
  obtain ⟨as, rd⟩ := Dp.reads I d _ u hd ru
  obtain rfl : u = Value.ref a := ru
  exact repr_of_reads' rd h1 (PyData.noDict_hsm h2) hG (by omega) (fun _ _ z => z) (fun h' u tk k => ⟨.str d.shown, H, I.kept k, ⟨_, rfl⟩, q⟩) h4
/-- repr of None, of a truth, of a whole number, of a text -/
theorem int_log {i : Int} {n : Nat} (h : i.natAbs < 2 ^ n) (h0 : 0 < n) (h1 : n ≤ 1900) : i.natAbs.log2 < 1920 := Nat.lt_of_lt_of_le (PySem.Flt.log2_lt_of h0 h) (by omega)
theorem digits_len : ∀ (fuel n : Nat) (ds : List Char) (m : Nat), n < 10 ^ m → 0 < m → (Nat.toDigitsCore 10 fuel n ds).length ≤ ds.length + m
  | 0, n, ds, m, _, _ => by
    unfold Nat.toDigitsCore
    omega
  | fuel + 1, n, ds, m, h, h0 => by
    unfold Nat.toDigitsCore
    simp only
    split
    · simp only [List.length_cons]
      omega
    · rename_i hne
      have hn : n / 10 ≠ 0 := hne
      have hm : 1 < m := by
        rcases Nat.lt_or_ge 1 m with z | z
        · exact z
        · have e : m = 1 := by omega
          subst e
          omega
      have h2 : n / 10 < 10 ^ (m - 1) := by
        have e : 10 ^ m = 10 ^ (m - 1) * 10 := by
          rw [← Nat.pow_succ]
          congr 1
          omega
        rw [e] at h
        exact (Nat.div_lt_iff_lt_mul (by decide)).mpr h
      have := digits_len fuel (n / 10) (Nat.digitChar (n % 10) :: ds) (m - 1) h2 (by omega)
      simp only [List.length_cons] at this
      omega
end Gd

namespace Xt
open PySem PySem.Spec PyProof.Rows L2
open Lm (ExT)
/-- what isinstance asks of an own exception's class at C -/
structure IsE (K : PySem.W.Frag) (C : Addr) : Prop where
  clsd : (PySem.W.clsIn K C).isSome = true
  getA : PySem.W.findIn K (.ref C) "__getattribute__" = some (some (.builtin "BaseException.__getattribute__"))
  getB : PySem.W.findIn K (.ref C) "__getattr__" = some none
  under : PySem.W.subIn K (.ref C) (.type "BaseException") = some true
  clsA : PySem.W.findIn K (.ref C) "__class__" = some (some (.builtin "object.__class__"))
  orig : PySem.W.mroIn K C (.type "object") = some true
structure IsG (K : PySem.W.Frag) : Prop where
  get : PySem.W.specialIn K (.builtin "object.__class__") "__get__" = some (some (.builtin "getset_descriptor.__get__"))
  takes : PySem.W.takesIn K (.builtin "object.__class__") = some true
/-- isinstance(e, c), e caught -/
def rIsE (K : PySem.W.Frag) : List V → Hp → VK → Prop := fun xs H Q => ∃ (a C : Addr) (c : V) (cv : Value) (b : Bool), xs = [.ref a, c] ∧ H a = some (ExT (.ref C) none a) ∧ IsE K C ∧ ClsV c cv ∧ PySem.W.kitOne K (.ref C) cv = some b ∧ Q (.bl b) H
theorem call_isE {X : Cx} (Z : IsG X.K) : CallR X (.builtin "isinstance") (rIsE X.K) := by
  intro ps0 s σ H xs args Q I r h
  obtain ⟨a, C, c, cv, b, rfl, x, T, k, e, q⟩ := h
  obtain ⟨u1, u2, rfl, r1, r2⟩ := vals2 r
  cases (show u1 = Value.ref a from r1)
  have e2 := k.eq r2
  subst e2
  obtain ⟨⟨oe, fv, ho, hz, hd⟩, _, _⟩ := (show ObjOk X.prog X.w H s.heap a (ExT (.ref C) none a) from I.hok a _ x)
  have J : PySem.W.InstAt s.heap a oe C none := ⟨ho, hz.1, by unfold PySem.W.notCls; rw [hd] <;> rfl, by rw [hz.2]; trivial⟩
  exact PySem.W.kia_one (PySem.W.kitx_exc (od := none) T.clsd T.getA T.getB T.under T.clsA Z.get Z.takes T.orig) I.kIn J e (by intro fin; cases fin) fun tks => ⟨.bl b, H, I.tok tks, rfl, q⟩
end Xt
namespace Us
open PySem PySem.Spec PyProof.Rows L2
/-- a def of the module that keeps sp -/
structure Use (P0 : Program) (w : World) (K : PySem.W.Frag) (mg : Str → Option Value) (CX : CXT) (k : Nat) (x : Str) (ps : List Str) (sp : Sp) (f : Addr) (fd : FuncData) : Prop where
  ok : ∀ base, FnOk P0 w K mg base CX k f fd ps sp
  at_ : mg x = some (.ref f)
  kp : PySem.W.keepIn K (.ref f) = true
theorem Use.imp {P0 : Program} {w : World} {K : PySem.W.Frag} {mg : Str → Option Value} {CX : CXT} {k : Nat} {x : Str} {ps : List Str} {sp sp' : Sp} {f : Addr} {fd : FuncData} (U : Use P0 w K mg CX k x ps sp f fd) (h : ∀ vs H Q E, sp' vs H Q E → sp vs H Q E) : Use P0 w K mg CX k x ps sp' f fd := ⟨fun base => (U.ok base).imp h, U.at_, U.kp⟩
theorem Use.or {P0 : Program} {w : World} {K : PySem.W.Frag} {mg : Str → Option Value} {CX : CXT} {k : Nat} {x : Str} {ps : List Str} {sp sp' : Sp} {f : Addr} {fd : FuncData} (U : Use P0 w K mg CX k x ps sp f fd) (U' : Use P0 w K mg CX k x ps sp' f fd) : Use P0 w K mg CX k x ps (fun vs H Q E => sp vs H Q E ∨ sp' vs H Q E) f fd :=
  ⟨fun base => ⟨fun vs H Q E h => h.elim ((U.ok base).len vs H Q E) ((U'.ok base).len vs H Q E), fun A outer s H args us vs Q E hr e0 hb r h => h.elim ((U.ok base).run A outer s H args us vs Q E hr e0 hb r) ((U'.ok base).run A outer s H args us vs Q E hr e0 hb r)⟩, U.at_, U.kp⟩
section
variable {X : Cx} {CX : CXT} {k : Nat} {f : Addr} {fd : FuncData} {ps : List Str} {sp : Sp} {E : XK} {x : Str} {p pos : Pos} {e : Expr} {es : List Expr} {t : TA}
theorem pe_use0 (U : Use X.prog X.w X.K X.mg CX0 k x ps sp f fd) (hr : Room k X.A) (hb : Binds X.K fd ps []) (ha : PA X (e :: es) t) (hg : Gl X x := by rfl) (hdb : (x == ("__debug__" : Str)) = false := by decide)
    (he : starEach (e :: es) X.env = (false, eval e X.env) :: starEach es X.env := by rfl) (hpl : (backTo pos (starEach es X.env)).any (·.1) = false := by rfl) : PE X (.Call (.Name x p) (e :: es) [] pos) (tCall sp [] E0 t) :=
  pe_call (U.ok X.base) hr hg U.at_ U.kp hb .nil pass0 ha hdb he hpl
theorem none_out : Passes (L2.CX X.prog X.w) X E0 := fun pins σ H s e s' I c => passAt LamX.takes0 σ pins H s e s' I c
/-- a call that lets nothing out -/
theorem pe_useN {ds : List Value} {dvs : List V} (U : Use X.prog X.w X.K X.mg (L2.CX X.prog X.w) k x ps sp f fd) (hr : Room k X.A) (hb : Binds X.K fd ps ds) (hd : Vals dvs ds) (ha : PA X (e :: es) t) (hg : Gl X x := by rfl) (hdb : (x == ("__debug__" : Str)) = false := by decide)
    (he : starEach (e :: es) X.env = (false, eval e X.env) :: starEach es X.env := by rfl) (hpl : (backTo pos (starEach es X.env)).any (·.1) = false := by rfl) : PE X (.Call (.Name x p) (e :: es) [] pos) (tCall sp dvs E0 t) :=
  pe_call (U.ok X.base) hr hg U.at_ U.kp hb hd none_out ha hdb he hpl
/-- f(k = e) and f(k = e, l = e'): keywords alone -/
def tKw (sp : Sp) (ord : List V → List V) (t : TA) : TE := fun σ H Q => t σ H fun zs H1 => sp (ord zs) H1 Q E0
theorem pe_kw {kws : List Keyword} {ks : List Str} {ord : List V → List V} {ordW : List Value → List Value} (U : Use X.prog X.w X.K X.mg CX k x ps sp f fd) (hr : Room k X.A) (hx : Passes CX X E0) (hb : ∀ (s : Shared) (ws : List Value), X.K.In s.heap → ws.length = ks.length → BindsTo s fd ⟨[], ks.zip ws⟩ (ps.zip (ordW ws))) (hv : ∀ zs ws, Vals zs ws → ws.length = ks.length → Vals (ord zs) (ordW ws)) (hkw : PK X kws t)
    (hl : ∀ zs ws, Vals zs ws → sp (ord zs) = sp (ord zs) → (ord zs).length = ps.length → ws.length = ks.length) (hg : Gl X x := by rfl)
    (hall : (backToKw pos (keywordEach kws X.env)).all (·.1.isSome) = true := by rfl) (hks : (backToKw pos (keywordEach kws X.env)).filterMap (·.1) = ks := by rfl) (hdb : (x == ("__debug__" : Str)) = false := by decide)
    (hpl : ((backTo pos (starEach [] X.env)).any (·.1) || (backToKw pos (keywordEach kws X.env)).any (·.1.isNone)) = false := by rfl) : PE X (.Call (.Name x p) [] kws pos) (tKw sp ord t) := by
  refine ⟨fun pins s σ H Q I h => ?_⟩
  refine wpAny_Call_Name_kw (ld_glob I hg U.at_ ?_ hdb)
  refine PySem.W.callWith_KW0 (h₀ := X.base) I.ok.mod.kin U.kp hall (thn (hkw.run pos pins s σ H _ I h) fun ws s1 ⟨zs, H1, I1, r, q⟩ => ⟨I1.kIn, ?_⟩) hpl
  rw [hks]
  have n1 := hl zs ws r rfl ((U.ok X.base).len _ _ _ _ q)
  show wpAny _ _ (call (.ref f) [] (ks.zip ws)) _ _ _
  refine wpAny_call (codeAny_mono ((U.ok X.base).run X.A X.stack s1 H1 ⟨[], ks.zip ws⟩ (ordW ws) (ord zs) Q E0 hr I1.env0 (hb s1 ws I1.kIn n1) (hv zs ws r n1) q) fun r s2 out => ?_)
  cases r with
  | error e => exact hx pins σ H1 s1 e s2 I1 out
  | ok fl =>
    cases fl with
    | ret u => exact I1.after out
    | next => exact out.elim
    | brk => exact out.elim
    | cont => exact out.elim
/-- one keyword -/
theorem pe_kw1 {a : Str} {e1 : Expr} {t1 : TE} {kp0 : Pos} (U : Use X.prog X.w X.K X.mg CX k x [a] sp f fd) (hr : Room k X.A) (hx : Passes CX X E0) (hb : ∀ (s : Shared) (u : Value), X.K.In s.heap → BindsTo s fd ⟨[], [(a, u)]⟩ [(a, u)]) (h1 : PE X e1 t1) (hg : Gl X x := by rfl)
    (hall : (backToKw pos (keywordEach [⟨some a, e1, kp0⟩] X.env)).all (·.1.isSome) = true := by rfl) (hks : (backToKw pos (keywordEach [⟨some a, e1, kp0⟩] X.env)).filterMap (·.1) = [a] := by rfl) (hdb : (x == ("__debug__" : Str)) = false := by decide)
    (hpl : ((backTo pos (starEach [] X.env)).any (·.1) || (backToKw pos (keywordEach [⟨some a, e1, kp0⟩] X.env)).any (·.1.isNone)) = false := by rfl) : PE X (.Call (.Name x p) [] [⟨some a, e1, kp0⟩] pos) (tKw sp (fun zs => zs) (tCons t1 tNil)) :=
  pe_kw (ks := [a]) (ord := fun zs => zs) (ordW := fun ws => ws) U hr hx (fun s ws kin h => match ws, h with | [u], _ => hb s u kin) (fun _ _ r _ => r) (pk_cons h1 pk_nil) (fun zs ws r _ h => by rw [← r.length]; exact h) hg hall hks hdb hpl
def swapL {α : Type} : List α → List α
  | [a, b] => [b, a]
  | zs => zs
theorem swapL_len {α : Type} : ∀ zs : List α, (swapL zs).length = zs.length
  | [] => rfl
  | [_] => rfl
  | [_, _] => rfl
  | _ :: _ :: _ :: _ => rfl
theorem swapL_vals : ∀ {zs : List V} {ws : List Value}, Vals zs ws → Vals (swapL zs) (swapL ws)
  | _, _, .nil => .nil
  | _, _, .cons h .nil => .cons h .nil
  | _, _, .cons h (.cons h2 .nil) => .cons h2 (.cons h .nil)
  | _, _, .cons h (.cons h2 (.cons h3 r)) => .cons h (.cons h2 (.cons h3 r))
/-- two keywords in the parameters' order -/
theorem pe_kw2 {a b : Str} {e1 e2 : Expr} {t1 t2 : TE} {kp1 kp2 : Pos} (U : Use X.prog X.w X.K X.mg CX k x [a, b] sp f fd) (hr : Room k X.A) (hx : Passes CX X E0) (hb : ∀ (s : Shared) (u v : Value), X.K.In s.heap → BindsTo s fd ⟨[], [(a, u), (b, v)]⟩ [(a, u), (b, v)]) (h1 : PE X e1 t1) (h2 : PE X e2 t2) (hg : Gl X x := by rfl)
    (hall : (backToKw pos (keywordEach [⟨some a, e1, kp1⟩, ⟨some b, e2, kp2⟩] X.env)).all (·.1.isSome) = true := by rfl) (hks : (backToKw pos (keywordEach [⟨some a, e1, kp1⟩, ⟨some b, e2, kp2⟩] X.env)).filterMap (·.1) = [a, b] := by rfl) (hdb : (x == ("__debug__" : Str)) = false := by decide)
    (hpl : ((backTo pos (starEach [] X.env)).any (·.1) || (backToKw pos (keywordEach [⟨some a, e1, kp1⟩, ⟨some b, e2, kp2⟩] X.env)).any (·.1.isNone)) = false := by rfl) : PE X (.Call (.Name x p) [] [⟨some a, e1, kp1⟩, ⟨some b, e2, kp2⟩] pos) (tKw sp (fun zs => zs) (tCons t1 (tCons t2 tNil))) :=
  pe_kw (ks := [a, b]) (ord := fun zs => zs) (ordW := fun ws => ws) U hr hx (fun s ws kin h => match ws, h with | [u, v], _ => hb s u v kin) (fun _ _ r _ => r) (pk_cons h1 (pk_cons h2 pk_nil)) (fun zs ws r _ h => by rw [← r.length]; exact h) hg hall hks hdb hpl
/-- two keywords the other way round -/
theorem pe_kw2s {a b : Str} {e1 e2 : Expr} {t1 t2 : TE} {kp1 kp2 : Pos} (U : Use X.prog X.w X.K X.mg CX k x [a, b] sp f fd) (hr : Room k X.A) (hx : Passes CX X E0) (hb : ∀ (s : Shared) (u v : Value), X.K.In s.heap → BindsTo s fd ⟨[], [(b, v), (a, u)]⟩ [(a, u), (b, v)]) (h1 : PE X e1 t1) (h2 : PE X e2 t2) (hg : Gl X x := by rfl)
    (hall : (backToKw pos (keywordEach [⟨some b, e1, kp1⟩, ⟨some a, e2, kp2⟩] X.env)).all (·.1.isSome) = true := by rfl) (hks : (backToKw pos (keywordEach [⟨some b, e1, kp1⟩, ⟨some a, e2, kp2⟩] X.env)).filterMap (·.1) = [b, a] := by rfl) (hdb : (x == ("__debug__" : Str)) = false := by decide)
    (hpl : ((backTo pos (starEach [] X.env)).any (·.1) || (backToKw pos (keywordEach [⟨some b, e1, kp1⟩, ⟨some a, e2, kp2⟩] X.env)).any (·.1.isNone)) = false := by rfl) : PE X (.Call (.Name x p) [] [⟨some b, e1, kp1⟩, ⟨some a, e2, kp2⟩] pos) (tKw sp swapL (tCons t1 (tCons t2 tNil))) :=
  pe_kw (ks := [b, a]) (ord := swapL) (ordW := swapL) U hr hx (fun s ws kin h => match ws, h with | [v, u], _ => hb s u v kin) (fun _ _ r _ => swapL_vals r) (pk_cons h1 (pk_cons h2 pk_nil)) (fun zs ws r _ h => by rw [← r.length]; rw [swapL_len] at h; exact h) hg hall hks hdb hpl
end
end Us

namespace Wt
open PySem PySem.Spec PyProof.Rows L2
abbrev sIsWhole : Stmt := Pre.top 6
abbrev sIsTup : Stmt := Pre.top 7
abbrev sIsWt : Stmt := Pre.top 11
abbrev sShort : Stmt := Pre.top 13
abbrev sBelow : Stmt := Pre.top 17
def gI (t b : Int) : Int := (Int.gcd t b : Int)
def low (t b : Int) : Int × Int := if b < 0 then (-(t / gI t b), -(b / gI t b)) else (t / gI t b, b / gI t b)
theorem gI_pos {t b : Int} (h : b ≠ 0) : 0 < gI t b := by
  unfold gI
  have : 0 < Int.gcd t b := Int.gcd_pos_of_ne_zero_right t h
  omega
theorem gI_l (t b : Int) : gI t b ∣ t := Int.gcd_dvd_left ..
theorem gI_r (t b : Int) : gI t b ∣ b := Int.gcd_dvd_right ..
theorem fdiv_neg {g t : Int} (hg : 0 < g) (h : g ∣ t) : t.fdiv (-g) = -(t / g) := by
  obtain ⟨k, rfl⟩ := h
  rw [Int.mul_ediv_cancel_left _ (by omega)]
  have e : g * k = (-g) * (-k) := by rw [Int.neg_mul_neg]
  rw [e, Int.mul_fdiv_cancel_left _ (by omega)]
theorem neg_ediv {g t : Int} (hg : 0 < g) (h : g ∣ t) : (-1 * t) / g = -(t / g) := by
  obtain ⟨k, rfl⟩ := h
  rw [Int.mul_ediv_cancel_left _ (by omega)]
  have e : -1 * (g * k) = g * (-k) := by
    rw [Int.mul_neg, Int.neg_mul, Int.one_mul]
  rw [e, Int.mul_ediv_cancel_left _ (by omega)]
theorem ediv_abs {g t : Int} (hg : 0 < g) (h : g ∣ t) : (t / g).natAbs ≤ t.natAbs := by
  obtain ⟨k, rfl⟩ := h
  rw [Int.mul_ediv_cancel_left _ (by omega), Int.natAbs_mul]
  have : 1 ≤ g.natAbs := by omega
  exact Nat.le_mul_of_pos_left _ this
theorem low_abs1 {t b : Int} (h : b ≠ 0) : (low t b).1.natAbs ≤ t.natAbs := by
  unfold low
  split
  · show (-(t / gI t b)).natAbs ≤ _
    rw [Int.natAbs_neg]
    exact ediv_abs (gI_pos h) (gI_l t b)
  · exact ediv_abs (gI_pos h) (gI_l t b)
theorem low_abs2 {t b : Int} (h : b ≠ 0) : (low t b).2.natAbs ≤ b.natAbs := by
  unfold low
  split
  · show (-(b / gI t b)).natAbs ≤ _
    rw [Int.natAbs_neg]
    exact ediv_abs (gI_pos h) (gI_r t b)
  · exact ediv_abs (gI_pos h) (gI_r t b)
theorem low_pos {t b : Int} (h : b ≠ 0) : 0 < (low t b).2 := by
  have hg := gI_pos (t := t) h
  obtain ⟨k, e⟩ := gI_r t b
  have eb : b / gI t b = k := Int.ediv_eq_of_eq_mul_right (by omega) e
  have kpos : b < 0 → k < 0 := fun hb => by
    rcases Int.lt_or_le k 0 with q | q
    · exact q
    · have := Int.mul_nonneg (Int.le_of_lt hg) q
      omega
  have kpos' : ¬ b < 0 → 0 < k := fun hb => by
    rcases Int.lt_or_le 0 k with q | q
    · exact q
    · have := Int.mul_nonneg (Int.le_of_lt hg) (Int.neg_nonneg_of_nonpos q)
      rw [Int.mul_neg, ← e] at this
      omega
  unfold low
  split
  · rename_i hb
    have := kpos hb
    show 0 < -(b / gI t b)
    rw [eb]
    omega
  · rename_i hb
    show 0 < b / gI t b
    rw [eb]
    exact kpos' hb
/-- at most 2 ^ n in size -/
def sz (n : Nat) (w : Int × Int) : Prop := w.1.natAbs < 2 ^ n ∧ w.2.natAbs < 2 ^ n
theorem ne_mul {a b : Int} (ha : a ≠ 0) (hb : b ≠ 0) : a * b ≠ 0 := fun e => by
  rcases Int.mul_eq_zero.mp e with q | q
  · exact ha q
  · exact hb q
theorem abs_mul_lt {a b : Int} {n m : Nat} (ha : a.natAbs < 2 ^ n) (hb : b.natAbs < 2 ^ m) : (a * b).natAbs < 2 ^ (n + m) := wide_lt ha hb
theorem abs_add_lt {a b : Int} {n : Nat} (ha : a.natAbs < 2 ^ n) (hb : b.natAbs < 2 ^ n) : (a + b).natAbs < 2 ^ (n + 1) := by
  have h1 := Int.natAbs_add_le a b
  rw [Nat.pow_succ]
  omega
theorem num_lt {w v : Int × Int} {n m : Nat} (hw : sz n w) (hv : sz m v) : (w.1 * v.2 + v.1 * w.2).natAbs < 2 ^ (n + m + 1) := by
  refine abs_add_lt (abs_mul_lt hw.1 hv.2) ?_
  have h := abs_mul_lt hv.1 hw.2
  rw [Nat.add_comm n m]
  exact h
theorem den_lt {w v : Int × Int} {n m : Nat} (hw : sz n w) (hv : sz m v) : (w.2 * v.2).natAbs < 2 ^ (n + m) := abs_mul_lt hw.2 hv.2
theorem sz_low {t b : Int} {n : Nat} (h1 : t.natAbs < 2 ^ n) (h2 : b.natAbs < 2 ^ n) (h : b ≠ 0) : sz n (low t b) := ⟨Nat.lt_of_le_of_lt (low_abs1 h) h1, Nat.lt_of_le_of_lt (low_abs2 h) h2⟩
def isInt : PyData → Bool
  | .int _ => true
  | _ => false
def tyN : PyData → String
  | .none => "NoneType"
  | .bool _ => "bool"
  | .int _ => "int"
  | .str _ => "str"
  | .list _ => "list"
  | .tuple _ => "tuple"
  | .dict _ => "dict"
theorem ty_of {K : PySem.W.Frag} {H : Hp} {x : V} {d : PyData} (h : Dp K H x d) : TyX K H x (.type (tyN d)) := by
  cases h with
  | non => exact .base .non
  | bl b => exact .base (.bl b)
  | int i => exact .base (.int i)
  | str z => exact .base (.str z)
  | lst q _ =>
    rcases q with (q | ⟨o, q⟩) | ⟨o, its, n, hk, hc, _⟩
    · exact .base (.lst q)
    · exact .base (.frz q)
    · exact .kList hk hc
  | tup q _ =>
    rcases q with (q | ⟨o, q⟩) | ⟨o, its, n, hk, hc, _⟩
    · exact .base (.tup q)
    · exact .fTuple q
    · exact .kTuple hk hc
/-- // by any divisor unlike 0 -/
def CDivA (_ j : Int) : Prop := j ≠ 0 ∧ j.natAbs.log2 < 9000
theorem op_fdivA {X : Cx} : OpR X (binaryOp .FloorDiv) (rI CDivA fun i j => .int (i.fdiv j)) := opI fun _ _ _ _ _ _ _ hc q => floordiv_int hc.1 q (.inl (PyProof.noPylong_of_log2 hc.2))
theorem log_lt {j : Int} {n : Nat} (h : j.natAbs < 2 ^ n) (h0 : 0 < n) : j.natAbs.log2 < n := PySem.Flt.log2_lt_of h0 h
structure TxtW (mg : Str → Option Value) : Prop where
  isi : mg "isinstance" = none
  int : mg "int" = none
  bool : mg "bool" = none
  list : mg "list" = none
  tuple : mg "tuple" = none
  len : mg "len" = none
  gcd : mg "gcd" = some (.builtin "math.gcd")
section
variable {P0 : Program} {w : World} {K : PySem.W.Frag} {mg : Str → Option Value} {base : Heap}
def spWhole (K : PySem.W.Frag) : Sp := fun vs H Q _ => ∃ x d, vs = [x] ∧ Dp K H x d ∧ Q (.bl (isInt d)) H
theorem scIsWhole : FnScope ["value"] ["value"] (defScope sIsWhole) := ⟨rfl, rfl, rfl, by decide +kernel, rfl, by decide +kernel, by decide +kernel⟩
theorem ok_whole {f : Addr} {fd : FuncData} (F : Fun K "is_whole" "is_whole" sIsWhole f fd) (T : TxtW mg) : FnOk P0 w K mg base CX0 1 f fd ["value"] (spWhole K) := by
  refine F.ok scIsWhole (fun vs H Q E h => ?_) (fun cdv A outer s H vs Q E hr h => ?_)
  · obtain ⟨x, d, rfl, _⟩ := h
    rfl
  · obtain ⟨x, d, rfl, hd, k⟩ := h
    refine ⟨_, pss_one (ps_ret (pe_and (pe_callB call_isi (by rfl) T.isi (by decide +kernel) (pa_cons (pv 0) (pa_cons (pe_bltn (v := .ty "int") (by rfl) T.int (by decide +kernel) rfl) pa_nil)))
      (pe_one (pe_not (pe_callB call_isi (by rfl) T.isi (by decide +kernel) (pa_cons (pv 0) (pa_cons (pe_bltn (v := .ty "bool") (by rfl) T.bool (by decide +kernel) rfl) pa_nil))))))), ?_⟩
    have ty := ty_of hd
    cases d with
    | int i => exact ⟨_, rfl, x, _, _, _, true, rfl, .ty _, ty, kit_ty (a := "int") (b := "int") (by decide +kernel), true, rfl, iteT ⟨_, rfl, x, _, _, _, false, rfl, .ty _, ty, kit_ty (a := "int") (b := "bool") (by decide +kernel), false, rfl, k⟩⟩
    | bool b => exact ⟨_, rfl, x, _, _, _, true, rfl, .ty _, ty, kit_ty (a := "bool") (b := "int") (by decide +kernel), true, rfl, iteT ⟨_, rfl, x, _, _, _, true, rfl, .ty _, ty, kit_ty (a := "bool") (b := "bool") (by decide +kernel), true, rfl, k⟩⟩
    | none => exact ⟨_, rfl, x, _, _, _, false, rfl, .ty _, ty, kit_ty (a := "NoneType") (b := "int") (by decide +kernel), false, rfl, iteF k⟩
    | str z => exact ⟨_, rfl, x, _, _, _, false, rfl, .ty _, ty, kit_ty (a := "str") (b := "int") (by decide +kernel), false, rfl, iteF k⟩
    | list z => exact ⟨_, rfl, x, _, _, _, false, rfl, .ty _, ty, kit_ty (a := "list") (b := "int") (by decide +kernel), false, rfl, iteF k⟩
    | tuple z => exact ⟨_, rfl, x, _, _, _, false, rfl, .ty _, ty, kit_ty (a := "tuple") (b := "int") (by decide +kernel), false, rfl, iteF k⟩
    | dict z => exact ⟨_, rfl, x, _, _, _, false, rfl, .ty _, ty, kit_ty (a := "dict") (b := "int") (by decide +kernel), false, rfl, iteF k⟩
def isTupN (m : Int) : PyData → Bool
  | .tuple ds => decide ((ds.length : Int) = m)
  | _ => false
def spTup (K : PySem.W.Frag) : Sp := fun vs H Q _ => ∃ x d m, vs = [x, .int m] ∧ Dp K H x d ∧ Q (.bl (isTupN m d)) H
theorem scIsTup : FnScope ["value", "many"] ["value", "many"] (defScope sIsTup) := ⟨rfl, rfl, rfl, by decide +kernel, rfl, by decide +kernel, by decide +kernel⟩
theorem dpAll_len {K : PySem.W.Frag} {H : Hp} : ∀ {xs : List V} {ds : List PyData}, DpAll K H xs ds → xs.length = ds.length
  | _, _, .nil => rfl
  | _, _, .cons _ r => congrArg Nat.succ (dpAll_len r)
theorem ok_tup {f : Addr} {fd : FuncData} (F : Fun K "is_tuple_of" "is_tuple_of" sIsTup f fd) (T : TxtW mg) : FnOk P0 w K mg base CX0 1 f fd ["value", "many"] (spTup K) := by
  refine F.ok scIsTup (fun vs H Q E h => ?_) (fun cdv A outer s H vs Q E hr h => ?_)
  · obtain ⟨x, d, m, rfl, _⟩ := h
    rfl
  · obtain ⟨x, d, m, rfl, hd, k⟩ := h
    refine ⟨_, pss_one (ps_ret (pe_and (pe_callB call_isi (by rfl) T.isi (by decide +kernel) (pa_cons (pv 0) (pa_cons (pe_bltn (v := .ty "tuple") (by rfl) T.tuple (by decide +kernel) rfl) pa_nil)))
      (pe_one (pe_cmpR op_eq (pe_callB call_len_seq (by rfl) T.len PySem.boot_len (pa_cons (pv 0) pa_nil)) (pv 1) (nomark _))))), ?_⟩
    have ty := ty_of hd
    cases hd with
    | @tup a xs ds q r =>
      refine ⟨_, rfl, _, _, _, _, true, rfl, .ty _, ty, kit_ty (a := "tuple") (b := "tuple") (by decide +kernel), true, rfl, iteT ⟨_, rfl, a, xs, rfl, .inr q, _, rfl, rfl, ?_⟩⟩
      rw [dec_int, dpAll_len r]
      exact k
    | non => exact ⟨_, rfl, _, _, _, _, false, rfl, .ty _, ty, kit_ty (a := "NoneType") (b := "tuple") (by decide +kernel), false, rfl, iteF k⟩
    | bl b => exact ⟨_, rfl, _, _, _, _, false, rfl, .ty _, ty, kit_ty (a := "bool") (b := "tuple") (by decide +kernel), false, rfl, iteF k⟩
    | int b => exact ⟨_, rfl, _, _, _, _, false, rfl, .ty _, ty, kit_ty (a := "int") (b := "tuple") (by decide +kernel), false, rfl, iteF k⟩
    | str b => exact ⟨_, rfl, _, _, _, _, false, rfl, .ty _, ty, kit_ty (a := "str") (b := "tuple") (by decide +kernel), false, rfl, iteF k⟩
    | lst q r => exact ⟨_, rfl, _, _, _, _, false, rfl, .ty _, ty, kit_ty (a := "list") (b := "tuple") (by decide +kernel), false, rfl, iteF k⟩
end
def isWt : PyData → Bool
  | .tuple [.int a, .int b] => decide (1 ≤ b) && (gI a b == 1)
  | _ => false
theorem isWt_tup {d : PyData} (h : isWt d = true) : isTupN 2 d = true := by
  unfold isWt at h
  split at h
  · rfl
  · cases h
theorem tup2 {K : PySem.W.Frag} {H : Hp} {x : V} {d : PyData} (hd : Dp K H x d) (h : isTupN 2 d = true) : ∃ a x1 x2 d1 d2, x = .ref a ∧ d = .tuple [d1, d2] ∧ SqT K H a [x1, x2] ∧ Dp K H x1 d1 ∧ Dp K H x2 d2 := by
  cases hd with
  | @tup a xs ds q r =>
    have hl : (ds.length : Int) = 2 := of_decide_eq_true h
    cases r with
    | nil =>
      simp only [List.length_nil] at hl
      omega
    | cons h1 r =>
      cases r with
      | nil =>
        simp only [List.length_cons, List.length_nil] at hl
        omega
      | cons h2 r =>
        cases r with
        | nil => exact ⟨a, _, _, _, _, rfl, rfl, q, h1, h2⟩
        | cons h3 r =>
          simp only [List.length_cons] at hl
          omega
  | non => cases h
  | bl b => cases h
  | int b => cases h
  | str b => cases h
  | lst q r => cases h
theorem sqT_same {K : PySem.W.Frag} {H H' : Hp} {a : Addr} {xs : List V} (e : Same H H') (h : SqT K H a xs) : SqT K H' a xs := by
  rcases h with (h | ⟨o, h⟩) | h
  · exact .inl (.inl (e _ _ h))
  · exact .inl (.inr ⟨o, e _ _ h⟩)
  · exact .inr h
mutual
theorem dp_same {K : PySem.W.Frag} {H H' : Hp} (e : Same H H') : ∀ {x : V} {d : PyData}, Dp K H x d → Dp K H' x d
  | _, _, .non => .non
  | _, _, .bl b => .bl b
  | _, _, .int i => .int i
  | _, _, .str s => .str s
  | _, _, .lst q r => .lst (e.seq q) (dpAll_same e r)
  | _, _, .tup q r => .tup (sqT_same e q) (dpAll_same e r)
theorem dpAll_same {K : PySem.W.Frag} {H H' : Hp} (e : Same H H') : ∀ {xs : List V} {ds : List PyData}, DpAll K H xs ds → DpAll K H' xs ds
  | _, _, .nil => .nil
  | _, _, .cons h r => .cons (dp_same e h) (dpAll_same e r)
end
/-- at a the pair w -/
abbrev At (K : PySem.W.Frag) (H : Hp) (a : Addr) (w : Int × Int) : Prop := SqT K H a [.int w.1, .int w.2]
theorem at_dp {K : PySem.W.Frag} {H : Hp} {a : Addr} {w : Int × Int} (h : At K H a w) : Dp K H (.ref a) (.tuple [.int w.1, .int w.2]) := .tup h (.cons (.int _) (.cons (.int _) .nil))
section
variable {P0 : Program} {w : World} {K : PySem.W.Frag} {mg : Str → Option Value} {base : Heap}
def spIsWt (K : PySem.W.Frag) : Sp := fun vs H Q _ => ∃ x d, vs = [x] ∧ Dp K H x d ∧ Q (.bl (isWt d)) H
theorem scIsWt : FnScope ["value", "top", "bottom"] ["value"] (defScope sIsWt) := ⟨rfl, rfl, rfl, by decide +kernel, rfl, by decide +kernel, by decide +kernel⟩
theorem ok_iswt {f fT fW : Addr} {fd dT dW : FuncData} (F : Fun K "is_weight" "is_weight" sIsWt f fd) (T : TxtW mg) (FT : Fun K "is_tuple_of" "is_tuple_of" sIsTup fT dT) (mT : mg "is_tuple_of" = some (.ref fT)) (FW : Fun K "is_whole" "is_whole" sIsWhole fW dW) (mW : mg "is_whole" = some (.ref fW)) :
    FnOk P0 w K mg base CX0 2 f fd ["value"] (spIsWt K) := by
  have GT : FnOk P0 w K mg base CX0 1 fT dT ["value", "many"] (spTup K) := ok_tup FT T
  have GW : FnOk P0 w K mg base CX0 1 fW dW ["value"] (spWhole K) := ok_whole FW T
  have bT := FT.binds (ps := ["value", "many"]) fun _ _ _ _ _ _ us hl => match us, hl with | [_, _], _ => rfl
  have bW := FW.binds (ps := ["value"]) fun _ _ _ _ _ _ us hl => match us, hl with | [_], _ => rfl
  refine F.ok scIsWt (fun vs H Q E h => ?_) (fun cdv A outer s H vs Q E hr h => ?_)
  · obtain ⟨x, d, rfl, _⟩ := h
    rfl
  · obtain ⟨x, d, rfl, hd, k⟩ := h
    have nd := scIsWt.nd
    refine ⟨_, pss_cons (ps_if (pt_not (pt_val (pe_call GT hr rfl mT FT.kp bT .nil pass0 (pa_cons (pv 0) (pa_cons pe_int pa_nil))))) (pss_one (ps_ret pe_bl)) pss_nil)
      (pss_cons (ps_asg (pv 0) (pg_tup (by rfl) (pgs_cons (pg_name (i := 1) nd rfl (Or.inl rfl)) (pgs_cons (pg_name (i := 2) nd rfl (Or.inl rfl)) pgs_nil))))
      (pss_one (ps_ret (pe_and (pe_call GW hr rfl mW FW.kp bW .nil pass0 (pa_cons (pv 1) pa_nil)) (pe_and (pe_call GW hr rfl mW FW.kp bW .nil pass0 (pa_cons (pv 2) pa_nil))
        (pe_and (pe_cmpR op_ge (pv 2) pe_int (nomark _)) (pe_one (pe_cmpR op_eq (pe_callBfun cr_gcd (by rfl) T.gcd (pa_cons (pv 1) (pa_cons (pv 2) pa_nil))) pe_int (nomark _))))))))), ?_⟩
    refine ⟨_, rfl, x, d, 2, rfl, hd, _, rfl, ?_⟩
    cases ht : isTupN 2 d with
    | false =>
      refine iteT ?_
      cases hw : isWt d with
      | true =>
        rw [isWt_tup hw] at ht
        cases ht
      | false =>
        rw [hw] at k
        exact k
    | true =>
      refine iteF ?_
      obtain ⟨a, x1, x2, d1, d2, rfl, rfl, q, h1, h2⟩ := tup2 hd ht
      refine ⟨_, rfl, a, _, rfl, q, rfl, _, _, rfl, _, _, rfl, rfl, _, rfl, x1, d1, rfl, h1, _, rfl, ?_⟩
      cases h1 with
      | int i =>
        refine iteT ⟨_, rfl, x2, d2, rfl, h2, _, rfl, ?_⟩
        cases h2 with
        | int j =>
          refine iteT ⟨_, rfl, _, _, rfl, rfl, _, rfl, ?_⟩
          by_cases hj : 1 ≤ j
          · rw [decide_eq_true hj]
            refine iteT ⟨_, rfl, _, rfl, i, j, rfl, rfl, ?_⟩
            rw [dec_int]
            have e : isWt (.tuple [.int i, .int j]) = (gI i j == 1) := by simp [isWt, hj]
            rw [e] at k
            exact k
          · rw [decide_eq_false hj]
            refine iteF ?_
            have e : isWt (.tuple [.int i, .int j]) = false := by simp [isWt, hj]
            rw [e] at k
            exact k
        | non => exact iteF k
        | bl b => exact iteF k
        | str b => exact iteF k
        | lst _ _ => exact iteF k
        | tup _ _ => exact iteF k
      | non => exact iteF k
      | bl b => exact iteF k
      | str b => exact iteF k
      | lst _ _ => exact iteF k
      | tup _ _ => exact iteF k
def spShort : Sp := fun vs H Q _ => ∃ (t b : Int) (n : Nat), vs = [.int t, .int b] ∧ b ≠ 0 ∧ b.natAbs < 2 ^ n ∧ 0 < n ∧ n ≤ 8000 ∧ ∀ (p : Addr) (H' : Hp), Same H H' → H' p = some (.tup [.int (low t b).1, .int (low t b).2]) → Q (.ref p) H'
theorem scShort : FnScope ["top", "bottom", "common"] ["top", "bottom"] (defScope sShort) := ⟨rfl, rfl, rfl, by decide +kernel, rfl, by decide +kernel, by decide +kernel⟩
theorem gI_small {t b : Int} {n : Nat} (hb : b ≠ 0) (h : b.natAbs < 2 ^ n) : (gI t b).natAbs < 2 ^ n := by
  refine Nat.lt_of_le_of_lt ?_ h
  have h1 : (gI t b).natAbs ∣ b.natAbs := Int.natAbs_dvd_natAbs.mpr (gI_r t b)
  exact Nat.le_of_dvd (by omega) h1
theorem ok_short {f : Addr} {fd : FuncData} (F : Fun K "shortened" "shortened" sShort f fd) (T : TxtW mg) : FnOk P0 w K mg base CX0 1 f fd ["top", "bottom"] spShort := by
  refine F.ok scShort (fun vs H Q E h => ?_) (fun cdv A outer s H vs Q E hr h => ?_)
  · obtain ⟨t, b, n, rfl, _⟩ := h
    rfl
  · obtain ⟨t, b, n, rfl, hb, hn, n0, n1, k⟩ := h
    have nd := scShort.nd
    have gp := gI_pos (t := t) hb
    have gs := gI_small (t := t) hb hn
    refine ⟨_, pss_cons (ps_set (i := 2) nd rfl (Or.inl rfl) (pe_callBfun cr_gcd (by rfl) T.gcd (pa_cons (pv 0) (pa_cons (pv 1) pa_nil))))
      (C8.pss_cut (ps_if (pt_cmpR op_lt (pv 1) pe_int (nomark _)) (pss_one (ps_set (i := 2) nd rfl (Or.inl rfl) (pe_un un_neg (pv 2)))) pss_nil)
      (pss_one (ps_ret (pe_tup (pa_cons (pe_op op_fdivA (pv 0) (pv 2)) (pa_cons (pe_op op_fdivA (pv 1) (pv 2)) pa_nil)))))), ?_⟩
    refine ⟨_, rfl, _, rfl, t, b, rfl, fun σ H' => ∃ c : Int, σ = [some (.int t), some (.int b), some (.int c)] ∧ H' = H ∧ c ≠ 0 ∧ c.natAbs < 2 ^ n ∧ t.fdiv c = (low t b).1 ∧ b.fdiv c = (low t b).2, ?_, ?_⟩
    · refine ⟨_, rfl, _, _, rfl, rfl, _, rfl, ite2 (fun c => ?_) (fun c => ?_)⟩
      · have hneg : b < 0 := of_decide_eq_true c
        refine ⟨_, rfl, _, rfl, -(gI t b), rfl, rfl, by omega, by rw [Int.natAbs_neg]; exact gs, ?_, ?_⟩
        · rw [fdiv_neg gp (gI_l t b)]
          simp only [low, if_pos hneg]
        · rw [fdiv_neg gp (gI_r t b)]
          simp only [low, if_pos hneg]
      · have hneg : ¬ b < 0 := fun q => c (decide_eq_true q)
        refine ⟨gI t b, rfl, rfl, by omega, gs, ?_, ?_⟩
        · rw [Int.fdiv_eq_ediv_of_nonneg _ (by omega)]
          simp only [low, if_neg hneg]
        · rw [Int.fdiv_eq_ediv_of_nonneg _ (by omega)]
          simp only [low, if_neg hneg]
    · rintro σ H' ⟨c, rfl, rfl, c0, c1, e1, e2⟩
      have lg : c.natAbs.log2 < 9000 := Nat.lt_of_lt_of_le (log_lt c1 n0) (by omega)
      refine ⟨_, rfl, _, rfl, _, _, rfl, rfl, ⟨c0, lg⟩, _, rfl, _, rfl, _, _, rfl, rfl, ⟨c0, lg⟩, by show 2 ≤ sizeLine; decide, fun p hp => ?_⟩
      refine k p _ (Pre.same_upd hp) ?_
      rw [upd_same]
      show some (HO.tup [V.int (t.fdiv c), V.int (b.fdiv c)]) = _
      rw [e1, e2]
theorem wide {i j : Int} {n m : Nat} (hi : i.natAbs < 2 ^ n) (hj : j.natAbs < 2 ^ m) (h1 : 0 < n) (h2 : 0 < m) (h : n + m ≤ 8000) : CMulW i j := wide_mul hi hj h1 h2 (by omega)
def belowW (u v : Int × Int) : Bool := decide (u.1 * v.2 < v.1 * u.2)
def spBelow (K : PySem.W.Frag) : Sp := fun vs H Q _ => ∃ (a b : Addr) (u v : Int × Int) (n m : Nat), vs = [.ref a, .ref b] ∧ At K H a u ∧ At K H b v ∧ sz n u ∧ sz m v ∧ 0 < n ∧ 0 < m ∧ n + m ≤ 7000 ∧ Q (.bl (belowW u v)) H
theorem scBelow : FnScope ["one", "other"] ["one", "other"] (defScope sBelow) := ⟨rfl, rfl, rfl, by decide +kernel, rfl, by decide +kernel, by decide +kernel⟩
theorem ok_below {f : Addr} {fd : FuncData} (F : Fun K "lies_below" "lies_below" sBelow f fd) : FnOk P0 w K mg base CX0 1 f fd ["one", "other"] (spBelow K) := by
  refine F.ok scBelow (fun vs H Q E h => ?_) (fun cdv A outer s H vs Q E hr h => ?_)
  · obtain ⟨a, b, u, v, n, m, rfl, _⟩ := h
    rfl
  · obtain ⟨a, b, u, v, n, m, rfl, ha, hb, su, sv, n0, m0, nm, k⟩ := h
    refine ⟨_, pss_one (ps_ret (pe_cmpR op_lt (pe_op op_mulW (pe_ix ix_tup (pv 0) pe_int (fun _ _ => rfl)) (pe_ix ix_tup (pv 1) pe_int (fun _ _ => rfl))) (pe_op op_mulW (pe_ix ix_tup (pv 1) pe_int (fun _ _ => rfl)) (pe_ix ix_tup (pv 0) pe_int (fun _ _ => rfl))) (nomark _))), ?_⟩
    refine ⟨_, rfl, a, _, _, _, rfl, rfl, ha, rfl, _, rfl, b, _, _, _, rfl, rfl, hb, rfl, _, _, rfl, rfl, wide su.1 sv.2 n0 m0 (by omega), ?_⟩
    exact ⟨_, rfl, b, _, _, _, rfl, rfl, hb, rfl, _, rfl, a, _, _, _, rfl, rfl, ha, rfl, _, _, rfl, rfl, wide sv.1 su.2 m0 n0 (by omega), _, _, rfl, rfl, k⟩
end
/-- x's class is called t, whatever is made besides -/
def Lk (K : PySem.W.Frag) (H : Hp) (x : V) (t : String) : Prop := (∃ d, Dp K H x d ∧ t = tyN d) ∨ ∃ a kvs, x = .ref a ∧ H a = some (.dK kvs) ∧ t = "dict"
theorem lk_same {K : PySem.W.Frag} {H H' : Hp} {x : V} {t : String} (e : Same H H') (h : Lk K H x t) : Lk K H' x t := by
  rcases h with ⟨d, h, rfl⟩ | ⟨a, kvs, rfl, h, rfl⟩
  · exact .inl ⟨d, dp_same e h, rfl⟩
  · exact .inr ⟨a, kvs, rfl, e _ _ h, rfl⟩
theorem lk_ty {K : PySem.W.Frag} {H : Hp} {x : V} {t : String} (h : Lk K H x t) : TyX K H x (.type t) := by
  rcases h with ⟨d, h, rfl⟩ | ⟨a, kvs, rfl, h, rfl⟩
  · exact ty_of h
  · exact .base (.dK h)
theorem dpAll_at {K : PySem.W.Frag} {H : Hp} : ∀ {xs : List V} {ds : List PyData} {i : Nat} {x : V}, DpAll K H xs ds → xs[i]? = some x → ∃ d, ds[i]? = some d ∧ Dp K H x d
  | _, _, 0, _, .cons h _, e => ⟨_, rfl, by cases e; exact h⟩
  | _, _, i + 1, _, .cons _ r, e => dpAll_at (i := i) r e
  | _, _, _, _, .nil, e => by cases e
end Wt
namespace Dc
open PySem PySem.Spec PyProof.Rows L2
/-- what was tracked newly since H -/
def Nw (H H1 : Hp) : Hp := fun b => match H b with
  | none => H1 b
  | some _ => none
theorem nw_at {H H1 : Hp} {b : Addr} {o : HO} (h : H b = none) (e : H1 b = some o) : Nw H H1 b = some o := by
  unfold Nw
  rw [h]
  exact e
theorem nw_inv {H H1 : Hp} {b : Addr} {o : HO} (e : Nw H H1 b = some o) : H b = none ∧ H1 b = some o := by
  unfold Nw at e
  cases h : H b with
  | none =>
    rw [h] at e
    exact ⟨rfl, e⟩
  | some _ =>
    rw [h] at e
    cases e
theorem nw_sub {H H1 : Hp} : Same (Nw H H1) H1 := fun _ _ e => (nw_inv e).2
theorem nw_mono {H H1 H2 : Hp} (s : Same H1 H2) : Same (Nw H H1) (Nw H H2) := fun _ _ e => nw_at (nw_inv e).1 (s _ _ (nw_inv e).2)
theorem nw_low {H H1 H2 : Hp} (s : Same H H1) : Same (Nw H1 H2) (Nw H H2) := fun _ _ e => nw_at (s.free (nw_inv e).1) (nw_inv e).2
/-- all but the state and its great ones -/
def wo (p g : Addr) (H : Hp) : Hp := fun b => if b = p then none else if b = g then none else H b
theorem wo_at {p g : Addr} {H : Hp} {b : Addr} {o : HO} (h1 : b ≠ p) (h2 : b ≠ g) (e : H b = some o) : wo p g H b = some o := by
  unfold wo
  rw [if_neg h1, if_neg h2]
  exact e
theorem wo_inv {p g : Addr} {H : Hp} {b : Addr} {o : HO} (e : wo p g H b = some o) : b ≠ p ∧ b ≠ g ∧ H b = some o := by
  unfold wo at e
  by_cases h1 : b = p
  · rw [if_pos h1] at e
    cases e
  · rw [if_neg h1] at e
    by_cases h2 : b = g
    · rw [if_pos h2] at e
      cases e
    · rw [if_neg h2] at e
      exact ⟨h1, h2, e⟩
theorem wo_sub {p g : Addr} {H : Hp} : Same (wo p g H) H := fun _ _ e => (wo_inv e).2.2
theorem wo_kp {p g : Addr} {H H1 : Hp} (k : Pre.Kp p g H H1) : Same (wo p g H) (wo p g H1) := fun b o e => by
  obtain ⟨h1, h2, h3⟩ := wo_inv e
  exact wo_at h1 h2 (k b o h1 h2 h3)
theorem wo_mono {p g : Addr} {H H1 : Hp} (k : Same H H1) : Same (wo p g H) (wo p g H1) := wo_kp (Pre.Kp.of k)
theorem nw_wo {p g : Addr} {H H1 : Hp} {u v : HO} (hp : H p = some u) (hg : H g = some v) : Same (Nw H H1) (wo p g H1) := fun b o e => by
  obtain ⟨h1, h2⟩ := nw_inv e
  refine wo_at (fun z => ?_) (fun z => ?_) h2
  · rw [z, hp] at h1
    cases h1
  · rw [z, hg] at h1
    cases h1
/-- e is written data: it comes to d, all that it needs newly made -/
abbrev ED (X : Cx) (e : Expr) (d : PyData) : Prop := PE X e (fun _ H Q => ∀ v H1, Same H H1 → Dp X.K (Nw H H1) v d → Q v H1)
abbrev AD (X : Cx) (es : List Expr) (ds : List PyData) : Prop := PA X es (fun _ H Q => ∀ vs H1, Same H H1 → DpAll X.K (Nw H H1) vs ds → Q vs H1)
section
variable {X : Cx} {e : Expr} {es : List Expr} {d : PyData} {ds : List PyData} {pos : Pos}
theorem pe_imp {t t' : TE} (h : PE X e t) (k : ∀ σ H Q, t' σ H Q → t σ H Q) : PE X e t' := ⟨fun pins s σ H Q I rd => h.run pins s σ H Q I (k σ H Q rd)⟩
theorem pa_imp {t t' : TA} (h : PA X es t) (k : ∀ σ H Q, t' σ H Q → t σ H Q) : PA X es t' := ⟨fun p pins s σ H Q I rd => h.run p pins s σ H Q I (k σ H Q rd)⟩
theorem ed_int {i j} : ED X (.Constant (.int i) j pos) (.int i) := pe_imp pe_int fun _ H _ k => k _ H (Same.refl _) (.int _)
theorem ed_bl {b j} : ED X (.Constant (.bool b) j pos) (.bool b) := pe_imp pe_bl fun _ H _ k => k _ H (Same.refl _) (.bl _)
theorem ed_non {j} : ED X (.Constant .none j pos) .none := pe_imp pe_non fun _ H _ k => k _ H (Same.refl _) .non
theorem ed_str {x j} : ED X (.Constant (.str x) j pos) (.str x) := pe_imp pe_str fun _ H _ k => k _ H (Same.refl _) (.str _)
theorem ed_neg {i j p2} : ED X (.UnaryOp .USub (.Constant (.int i) j p2) pos) (.int (-i)) := pe_imp (pe_un un_neg pe_int) fun _ H _ k => ⟨_, rfl, k _ H (Same.refl _) (.int _)⟩
theorem ad_nil : AD X [] [] := pa_imp pa_nil fun _ H _ k => k _ H (Same.refl _) .nil
theorem ad_cons (h : ED X e d) (r : AD X es ds) (hs : starEach (e :: es) X.env = (false, eval e X.env) :: starEach es X.env := by rfl) : AD X (e :: es) (d :: ds) :=
  pa_imp (pa_cons h r hs) fun _ H _ k v H1 s1 d1 vs H2 s2 d2 => k _ H2 (s1.trans s2) (.cons (Wt.dp_same (nw_mono s2) d1) (Wt.dpAll_same (nw_low s1) d2))
theorem new_one {H H1 : Hp} {p : Addr} {o : HO} (s1 : Same H H1) (hp : H1 p = none) : Nw H (upd H1 p o) p = some o := nw_at (s1.free hp) upd_same
theorem ed_tup {kk} (r : AD X es ds) (hl : ds.length ≤ 1000) : ED X (.Tuple es kk pos) (.tuple ds) :=
  pe_imp (pe_tup r) fun _ H _ k vs H1 s1 d1 => ⟨by rw [Wt.dpAll_len d1]; exact Nat.le_trans hl (by decide), fun p hp => k _ _ (s1.trans (Pre.same_upd hp)) (.tup (SqT.of (new_one s1 hp)) (Wt.dpAll_same (nw_mono (Pre.same_upd hp)) d1))⟩
theorem ed_lst (r : AD X es ds) (hl : ds.length ≤ 1000) : ED X (.List es pos) (.list ds) :=
  pe_imp (pe_lst r) fun _ H _ k vs H1 s1 d1 => ⟨by rw [Wt.dpAll_len d1]; exact Nat.le_trans hl (by decide), fun p hp => k _ _ (s1.trans (Pre.same_upd hp)) (.lst (SqL.of (new_one s1 hp)) (Wt.dpAll_same (nw_mono (Pre.same_upd hp)) d1))⟩
/-- a new list of written data -/
theorem pe_lstD (r : AD X es ds) (hl : ds.length ≤ 1000) : PE X (.List es pos) (fun _ H Q => ∀ l vs H1, Same H H1 → H l = none → H1 l = some (.lst vs) → DpAll X.K (Nw H H1) vs ds → Q (.ref l) H1) :=
  pe_imp (pe_lst r) fun _ H _ k vs H1 s1 d1 => ⟨by rw [Wt.dpAll_len d1]; exact Nat.le_trans hl (by decide), fun p hp => k p vs _ (s1.trans (Pre.same_upd hp)) (s1.free hp) upd_same (Wt.dpAll_same (nw_mono (Pre.same_upd hp)) d1)⟩
end
end Dc
namespace Wt
open PySem PySem.Spec PyProof.Rows L2
open Dc
open LamX (CodeO TabS Tabs ExtN TabB lamEnv lamCx)
theorem st_same {H H' : Hp} {p g c : Addr} {n : Nat} (h : Pre.St H p g c n) (s : Same H H') : Pre.St H' p g c n := by
  obtain ⟨⟨gs, cs, r, t, h1, h2, h3, h4⟩, h5⟩ := h
  exact ⟨⟨gs, cs, r, t, s _ _ h1, s _ _ h2, s _ _ h3, h4⟩, h5⟩
theorem st_more {H : Hp} {p g c : Addr} {n m : Nat} (h : Pre.St H p g c n) (l : n ≤ m) : Pre.St H p g c m := by
  obtain ⟨⟨gs, cs, r, t, h1, h2, h3, h4, h5, h6, h7⟩, h8⟩ := h
  exact ⟨⟨gs, cs, r, t, h1, h2, h3, h4, h5, h6, by omega⟩, h8⟩
theorem st_p {H : Hp} {p g c : Addr} {n : Nat} (h : Pre.St H p g c n) : ∃ u, H p = some u := by
  obtain ⟨⟨gs, cs, r, t, h1, _⟩, _⟩ := h
  exact ⟨_, h1⟩
theorem st_g {H : Hp} {p g c : Addr} {n : Nat} (h : Pre.St H p g c n) : ∃ u, H g = some u := by
  obtain ⟨⟨gs, cs, r, t, _, h1, _⟩, _⟩ := h
  exact ⟨_, h1⟩
theorem st_new {H : Hp} {p g c : Addr} {n : Nat} {l : Addr} (h : Pre.St H p g c n) (hl : H l = none) : l ≠ p ∧ l ≠ g := by
  obtain ⟨u, hu⟩ := st_p h
  obtain ⟨v, hv⟩ := st_g h
  exact ⟨(ne_of_none hu hl).symm, (ne_of_none hv hl).symm⟩
section
variable {P0 : Program} {w : World} {K : PySem.W.Frag} {mg : Str → Option Value} {base : Heap}
/-- the law's draws -/
structure Drw (K : PySem.W.Frag) (mg : Str → Option Value) (fD fP fB : Addr) (dD dP dB : FuncData) : Prop where
  T : Pre.TxtP mg
  zg : mg "range" = none
  FD : Fun K "_law_draw" "_law_draw" Pre.sDraw fD dD
  mD : mg "_law_draw" = some (.ref fD)
  FP : Fun K "_law_pick" "_law_pick" Pre.sPick fP dP
  mP : mg "_law_pick" = some (.ref fP)
  FB : Fun K "_law_blended" "_law_blended" Pre.sBlended fB dB
  mB : mg "_law_blended" = some (.ref fB)
end
/-- how the lambdas of the def x are called -/
abbrev lamQ (x : Str) (sc : Scope) : Str := (envOfC x sc 0 0 .none).qual ++ "<lambda>"
/-- all but the state, its great ones and tables stays -/
def Kx (p g : Addr) (H H' : Hp) : Prop := ∀ b o, b ≠ p → b ≠ g → (∀ ps, o ≠ .tbl ps) → H b = some o → H' b = some o
theorem Kx.trans {p g : Addr} {H H1 H2 : Hp} (a : Kx p g H H1) (b : Kx p g H1 H2) : Kx p g H H2 := fun x o h1 h2 h3 e => b x o h1 h2 h3 (a x o h1 h2 h3 e)
theorem Kx.kp {p g : Addr} {H H1 : Hp} (a : Pre.Kp p g H H1) : Kx p g H H1 := fun x o h1 h2 _ e => a x o h1 h2 e
theorem Kx.ext {p g : Addr} {H H1 : Hp} (a : ExtN H H1) : Kx p g H H1 := fun x o _ _ h e => a x o e h
theorem Kx.of {p g : Addr} {H H1 : Hp} (a : Same H H1) : Kx p g H H1 := fun x o _ _ _ e => a x o e
theorem ext_of {H H1 : Hp} (a : Same H H1) : ExtN H H1 := fun x o e _ => a x o e
/-- tables apart -/
def nt (H : Hp) : Hp := fun b => match H b with
  | some (.tbl _) => none
  | x => x
theorem nt_at {H : Hp} {b : Addr} {o : HO} (e : H b = some o) (h : ∀ ps, o ≠ .tbl ps) : nt H b = some o := by
  unfold nt
  rw [e]
  cases o <;> first | rfl | exact absurd rfl (h _)
theorem nt_inv {H : Hp} {b : Addr} {o : HO} (e : nt H b = some o) : H b = some o ∧ ∀ ps, o ≠ .tbl ps := by
  unfold nt at e
  split at e
  · cases e
  · rename_i h
    exact ⟨e, fun ps z => h ps (by rw [e, z])⟩
theorem nt_sub {H : Hp} : Same (nt H) H := fun _ _ e => (nt_inv e).1
def wx (p g : Addr) (H : Hp) : Hp := nt (wo p g H)
theorem wx_sub {p g : Addr} {H : Hp} : Same (wx p g H) H := nt_sub.trans wo_sub
theorem wx_kx {p g : Addr} {H H1 : Hp} (k : Kx p g H H1) : Same (wx p g H) (wx p g H1) := fun b o e => by
  obtain ⟨h1, h2⟩ := nt_inv e
  obtain ⟨h3, h4, h5⟩ := wo_inv h1
  exact nt_at (wo_at h3 h4 (k b o h3 h4 h2 h5)) h2
theorem sqT_nt {K : PySem.W.Frag} {H : Hp} {a : Addr} {xs : List V} (h : SqT K H a xs) : SqT K (nt H) a xs := by
  rcases h with (h | ⟨o, h⟩) | h
  · exact .inl (.inl (nt_at h (fun _ z => by cases z)))
  · exact .inl (.inr ⟨o, nt_at h (fun _ z => by cases z)⟩)
  · exact .inr h
theorem sqL_nt {K : PySem.W.Frag} {H : Hp} {a : Addr} {xs : List V} (h : SqL K H a xs) : SqL K (nt H) a xs := by
  rcases h with (h | ⟨o, h⟩) | h
  · exact .inl (.inl (nt_at h (fun _ z => by cases z)))
  · exact .inl (.inr ⟨o, nt_at h (fun _ z => by cases z)⟩)
  · exact .inr h
mutual
theorem dp_nt {K : PySem.W.Frag} {H : Hp} : ∀ {x : V} {d : PyData}, Dp K H x d → Dp K (nt H) x d
  | _, _, .non => .non
  | _, _, .bl b => .bl b
  | _, _, .int i => .int i
  | _, _, .str s => .str s
  | _, _, .lst q r => .lst (sqL_nt q) (dpAll_nt r)
  | _, _, .tup q r => .tup (sqT_nt q) (dpAll_nt r)
theorem dpAll_nt {K : PySem.W.Frag} {H : Hp} : ∀ {xs : List V} {ds : List PyData}, DpAll K H xs ds → DpAll K (nt H) xs ds
  | _, _, .nil => .nil
  | _, _, .cons h r => .cons (dp_nt h) (dpAll_nt r)
end
theorem st_ext {H H' : Hp} {p g c : Addr} {n : Nat} (h : Pre.St H p g c n) (s : ExtN H H') : Pre.St H' p g c n := by
  obtain ⟨⟨gs, cs, r, t, h1, h2, h3, h4⟩, h5⟩ := h
  exact ⟨⟨gs, cs, r, t, s _ _ h1 (fun _ z => by cases z), s _ _ h2 (fun _ z => by cases z), s _ _ h3 (fun _ z => by cases z), h4⟩, h5⟩
theorem at_wx {K : PySem.W.Frag} {H : Hp} {p g c a : Addr} {n : Nat} {xs : List V} (h : SqT K H a xs) (hs : Pre.St H p g c n) : SqT K (wx p g H) a xs := by
  obtain ⟨⟨gs, cs, r, t, hp, hg, _⟩, _⟩ := hs
  refine sqT_nt ?_
  have off : ∀ o, H a = some o → (∀ kvs, o ≠ .dK kvs) → (∀ ys, o ≠ .lst ys) → wo p g H a = some o := fun o e n1 n2 => wo_at (fun y => by
    rw [y, hp] at e
    cases e
    exact n1 _ rfl) (fun y => by
    rw [y, hg] at e
    cases e
    exact n2 _ rfl) e
  rcases h with (h | ⟨o, h⟩) | h
  · exact .inl (.inl (off _ h (fun _ z => by cases z) (fun _ z => by cases z)))
  · exact .inl (.inr ⟨o, off _ h (fun _ z => by cases z) (fun _ z => by cases z)⟩)
  · exact .inr h
theorem at_kx {K : PySem.W.Frag} {H H' : Hp} {p g c a : Addr} {n : Nat} {xs : List V} (h : SqT K H a xs) (hs : Pre.St H p g c n) (k : Kx p g H H') : SqT K H' a xs := sqT_same wx_sub (sqT_same (wx_kx k) (at_wx h hs))
theorem one_l {a : Addr} {q : Str} : ∀ z ∈ [(a, q)], z.1 = a → z.2 = q := fun z hz _ => by
  rw [List.mem_singleton.mp hz]
theorem tabs_kp {PR : Addr} {q : Str} {H H' : Hp} {p g c : Addr} {n : Nat} (t : Tabs [(PR, q)] H) (hs : Pre.St H p g c n) (k : Pre.Kp p g H H') : Tabs [(PR, q)] H' := fun z hz => by
  obtain ⟨ps, h1, h2, h3⟩ := t z hz
  obtain ⟨⟨gs, cs, r, t, hp, hg, _⟩, _⟩ := hs
  have off : ∀ b o, H b = some o → (∀ kvs, o ≠ .dK kvs) → (∀ xs, o ≠ .lst xs) → H' b = some o := fun b o e n1 n2 => k b o (fun y => by
    rw [y, hp] at e
    cases e
    exact n1 _ rfl) (fun y => by
    rw [y, hg] at e
    cases e
    exact n2 _ rfl) e
  refine ⟨ps, off _ _ h1 (fun _ y => by cases y) (fun _ y => by cases y), h2, fun pos cv hc => ?_⟩
  obtain ⟨c0, e1, e2⟩ := h3 pos cv hc
  exact ⟨c0, e1, off _ _ e2 (fun _ y => by unfold CodeO at y; cases y) (fun _ y => by unfold CodeO at y; cases y)⟩
theorem tabs_same {PR : Addr} {q : Str} {H H' : Hp} (t : Tabs [(PR, q)] H) (s : Same H H') : Tabs [(PR, q)] H' := t.ext s
theorem go_name {i : Nat} {v : V} {σ : L2.St} {H : Hp} {Q : L2.St → Hp → Prop} (h : Q (σ.set i (some v)) H) : gName i v σ H Q := h
theorem go_seq {t u : TS} {D : Ends} {σ : L2.St} {H : Hp} (h : t { D with nx := u D } σ H) : tSeq t u D σ H := h
theorem go_nx {f b c : L2.St → Hp → Prop} {r : V → Hp → Prop} {σ : L2.St} {H : Hp} (h : f σ H) : (Ends.mk f r b c).nx σ H := h
theorem go_asg {te : TE} {g : TG} {D : Ends} {σ : L2.St} {H : Hp} (h : te σ H fun x H1 => g x σ H1 D.nx) : tAsg te g D σ H := h
theorem go_par {i j : Nat} {ta tb : TE} {D : Ends} {σ : L2.St} {H : Hp} (h : ta σ H fun x H1 => tb σ H1 fun y H2 => D.nx ((σ.set i (some x)).set j (some y)) H2) : tPar i j (tCons ta (tCons tb tNil)) D σ H := by
  show ta σ H fun x H1 => tb σ H1 fun y H2 => ∃ v w, [x, y] = [v, w] ∧ D.nx ((σ.set i (some v)).set j (some w)) H2
  have e : (fun x H1 => tb σ H1 fun y H2 => ∃ v w, [x, y] = [v, w] ∧ D.nx ((σ.set i (some v)).set j (some w)) H2) = (fun x H1 => tb σ H1 fun y H2 => D.nx ((σ.set i (some x)).set j (some y)) H2) := by
    funext x H1
    congr 1
    funext y H2
    apply propext
    constructor
    · rintro ⟨v, w, e, h⟩
      cases e
      exact h
    · intro h
      exact ⟨x, y, rfl, h⟩
  rw [e]
  exact h
theorem go_on {f b c : L2.St → Hp → Prop} {r : V → Hp → Prop} {σ : L2.St} {H : Hp} (h : f σ H) : tNext (Ends.mk f r b c) σ H := h
abbrev sLowest : Stmt := Pre.top 34
section
variable {P0 : Program} {w : World} {K : PySem.W.Frag} {mg : Str → Option Value} {base : Heap}
def spLowest : Sp := fun vs H Q _ => ∃ (t b : Int) (n : Nat), vs = [.int t, .int b] ∧ b ≠ 0 ∧ t.natAbs < 2 ^ n ∧ b.natAbs < 2 ^ n ∧ 0 < n ∧ n ≤ 7000 ∧ ∀ (p : Addr) (H' : Hp), Same H H' → H' p = some (.tup [.int (low t b).1, .int (low t b).2]) → Q (.ref p) H'
theorem scLowest : FnScope ["top", "bottom", "one", "other", "sign"] ["top", "bottom"] (defScope sLowest) := ⟨rfl, rfl, rfl, by decide +kernel, rfl, by decide +kernel, by decide +kernel⟩
theorem abs_if (i : Int) : (if i < 0 then -i else i) = (i.natAbs : Int) := by
  split <;> omega
theorem ok_lowest {f : Addr} {fd : FuncData} (F : Fun K "_law_cp_lowest" "_law_cp_lowest" sLowest f fd) (T : Pre.TxtP mg) : FnOk P0 w K mg base CX0 1 f fd ["top", "bottom"] spLowest := by
  refine F.ok scLowest (fun vs H Q E h => ?_) (fun cdv A outer s H vs Q E hr h => ?_)
  · obtain ⟨t, b, n, rfl, _⟩ := h
    rfl
  · obtain ⟨t, b, n, rfl, hb, ht, hbn, n0, n1, k⟩ := h
    have nd := scLowest.nd
    have gp := gI_pos (t := t) hb
    have gs := gI_small (t := t) hb hbn
    refine ⟨_, pss_cons (ps_par (i := 2) (j := 3) rfl nd rfl rfl (by decide) rfl rfl (pa_cons (pe_callB call_abs (by rfl) T.abs (by decide +kernel) (pa_cons (pv 0) pa_nil)) (pa_cons (pe_callB call_abs (by rfl) T.abs (by decide +kernel) (pa_cons (pv 1) pa_nil)) pa_nil)) (by rfl))
      (pss_cons (ps_while PassesOwn.never (pt_cmpR op_ne (pv 3) pe_int (nomark _)) (pss_one (ps_par (i := 2) (j := 3) rfl nd rfl rfl (by decide) rfl rfl (pa_cons (pv 3) (pa_cons (pe_op op_mod (pe_callTy call_int1 (by rfl) T.int (by decide +kernel) (pa_cons (pv 2) pa_nil)) (pv 3)) pa_nil)) (by rfl))))
      (pss_cons (ps_set (i := 4) nd rfl (Or.inl rfl) (pe_ifExp (pt_cmpR op_gt (pv 1) pe_int (nomark _)) pe_int (pe_un un_neg pe_int)))
      (pss_one (ps_ret (pe_tup (pa_cons (pe_op op_fdivA (pe_op op_mulW (pv 4) (pv 0)) (pv 2)) (pa_cons (pe_op op_fdivA (pe_op op_mulW (pv 4) (pv 1)) (pv 2)) pa_nil))))))), ?_⟩
    refine ⟨_, rfl, t, rfl, _, rfl, b, rfl, _, _, rfl, ?_⟩
    refine while_by (fun σ H' => ∃ a c : Nat, σ = [some (.int t), some (.int b), some (.int a), some (.int c), none] ∧ H' = H ∧ Nat.gcd a c = Nat.gcd t.natAbs b.natAbs) (fun σ H' => match σ with
      | [_, _, _, some (.int c), _] => c.toNat
      | _ => 0) ⟨t.natAbs, b.natAbs, ?_, rfl, rfl⟩ ?_ ?_
    · rw [abs_if, abs_if]
      rfl
    · rintro σ H' ⟨a, c, rfl, rfl, hg⟩
      refine ⟨_, rfl, rfl, _, rfl, ?_⟩
      refine ite2 (fun hc => ?_) (fun hc => ?_)
      · have c0 : c ≠ 0 := fun z => by
          subst z
          simp at hc
        refine ⟨_, rfl, _, rfl, .inl ⟨_, rfl, _, rfl, (a : Int), (c : Int), rfl, rfl, by omega, _, _, rfl, ?_⟩⟩
        refine ⟨⟨c, a % c, ?_, rfl, ?_⟩, ?_⟩
        · rw [show ((a % c : Nat) : Int) = (a : Int) % (c : Int) from Int.natCast_emod a c]
          rfl
        · rw [← hg, Nat.gcd_comm a c, Nat.gcd_rec c a, Nat.gcd_comm]
        · show ((a : Int) % (c : Int)).toNat < (c : Int).toNat
          rw [← Int.natCast_emod, Int.toNat_natCast, Int.toNat_natCast]
          exact Nat.mod_lt _ (by omega)
      · have c0 : c = 0 := by
          rcases Nat.eq_zero_or_pos c with z | z
          · exact z
          · exact absurd (by simp; omega) hc
        subst c0
        rw [Nat.gcd_zero_right] at hg
        have ha : (a : Int) = gI t b := by
          unfold gI Int.gcd
          rw [hg]
        rw [ha]
        have lg : (gI t b).natAbs.log2 < 9000 := Nat.lt_of_lt_of_le (log_lt gs n0) (by omega)
        have small : ∀ u v : Int, u.natAbs < 2 ^ n → v.natAbs < 2 → CMulW v u := fun u v h1 h2 => wide (n := 1) (m := n) h2 h1 (by decide) n0 (by omega)
        refine ⟨_, rfl, _, _, rfl, rfl, _, rfl, ite2 (fun hp => ?_) (fun hp => ?_)⟩
        · have hpos : 0 < b := of_decide_eq_true hp
          refine ⟨_, rfl, _, rfl, _, _, rfl, rfl, small t 1 ht (by decide), _, rfl, _, _, rfl, rfl, ⟨by omega, lg⟩, _, rfl, _, rfl, _, _, rfl, rfl, small b 1 hbn (by decide), _, rfl, _, _, rfl, rfl, ⟨by omega, lg⟩, by show 2 ≤ sizeLine; decide, fun p hp => ?_⟩
          refine k p _ (Pre.same_upd hp) ?_
          rw [upd_same]
          have e1 : (1 * t).fdiv (gI t b) = (low t b).1 := by
            rw [Int.one_mul, Int.fdiv_eq_ediv_of_nonneg _ (by omega)]
            simp only [low, if_neg (show ¬ b < 0 by omega)]
          have e2 : (1 * b).fdiv (gI t b) = (low t b).2 := by
            rw [Int.one_mul, Int.fdiv_eq_ediv_of_nonneg _ (by omega)]
            simp only [low, if_neg (show ¬ b < 0 by omega)]
          show some (HO.tup [V.int ((1 * t).fdiv (gI t b)), V.int ((1 * b).fdiv (gI t b))]) = _
          rw [e1, e2]
        · have hneg : b < 0 := by
            have z : ¬ 0 < b := fun z => hp (decide_eq_true z)
            omega
          refine ⟨_, rfl, _, rfl, _, rfl, _, _, rfl, rfl, small t (-1) ht (by decide), _, rfl, _, _, rfl, rfl, ⟨by omega, lg⟩, _, rfl, _, rfl, _, _, rfl, rfl, small b (-1) hbn (by decide), _, rfl, _, _, rfl, rfl, ⟨by omega, lg⟩, by show 2 ≤ sizeLine; decide, fun p hp => ?_⟩
          refine k p _ (Pre.same_upd hp) ?_
          rw [upd_same]
          have e1 : (-1 * t).fdiv (gI t b) = (low t b).1 := by
            rw [Int.fdiv_eq_ediv_of_nonneg _ (by omega), neg_ediv gp (gI_l t b)]
            simp only [low, if_pos hneg]
          have e2 : (-1 * b).fdiv (gI t b) = (low t b).2 := by
            rw [Int.fdiv_eq_ediv_of_nonneg _ (by omega), neg_ediv gp (gI_r t b)]
            simp only [low, if_pos hneg]
          show some (HO.tup [V.int ((-1 * t).fdiv (gI t b)), V.int ((-1 * b).fdiv (gI t b))]) = _
          rw [e1, e2]
    · rintro σ H' Q1 Q2 hq ⟨x, hx, e, y, e2, q⟩
      exact ⟨x, hx, e, y, e2, hq _ _ q⟩
end
abbrev sCpPlus : Stmt := Pre.top 35
abbrev sCpTimes : Stmt := Pre.top 36
def addW (w v : Int × Int) : Int × Int := low (w.1 * v.2 + v.1 * w.2) (w.2 * v.2)
def mulW (w v : Int × Int) : Int × Int := low (w.1 * v.1) (w.2 * v.2)
theorem sz_add {w v : Int × Int} {n m : Nat} (hw : sz n w) (hv : sz m v) (h1 : w.2 ≠ 0) (h2 : v.2 ≠ 0) : sz (n + m + 1) (addW w v) := by
  have h := ne_mul h1 h2
  refine ⟨Nat.lt_of_le_of_lt (low_abs1 h) (num_lt hw hv), Nat.lt_of_le_of_lt (low_abs2 h) ?_⟩
  have := den_lt hw hv
  rw [Nat.pow_succ]
  omega
theorem sz_mul {w v : Int × Int} {n m : Nat} (hw : sz n w) (hv : sz m v) (h1 : w.2 ≠ 0) (h2 : v.2 ≠ 0) : sz (n + m) (mulW w v) := sz_low (abs_mul_lt hw.1 hv.1) (abs_mul_lt hw.2 hv.2) (ne_mul h1 h2)
section
variable {P0 : Program} {w : World} {K : PySem.W.Frag} {mg : Str → Option Value} {base : Heap}
def spCpBin (K : PySem.W.Frag) (op : Int × Int → Int × Int → Int × Int) : Sp := fun vs H Q _ => ∃ (a b : Addr) (u v : Int × Int) (n m : Nat), vs = [.ref a, .ref b] ∧ At K H a u ∧ At K H b v ∧ u.2 ≠ 0 ∧ v.2 ≠ 0 ∧ sz n u ∧ sz m v ∧ 0 < n ∧ 0 < m ∧ n + m ≤ 6000 ∧
  ∀ (p : Addr) (H' : Hp), Same H H' → At K H' p (op u v) → Q (.ref p) H'
theorem scCpPlus : FnScope ["one", "other"] ["one", "other"] (defScope sCpPlus) := ⟨rfl, rfl, rfl, by decide +kernel, rfl, by decide +kernel, by decide +kernel⟩
theorem scCpTimes : FnScope ["one", "other"] ["one", "other"] (defScope sCpTimes) := ⟨rfl, rfl, rfl, by decide +kernel, rfl, by decide +kernel, by decide +kernel⟩
theorem ok_cpplus {f fS : Addr} {fd dS : FuncData} (F : Fun K "_law_cp_plus" "_law_cp_plus" sCpPlus f fd) (T : Pre.TxtP mg) (FS : Fun K "_law_cp_lowest" "_law_cp_lowest" sLowest fS dS) (mS : mg "_law_cp_lowest" = some (.ref fS)) : FnOk P0 w K mg base CX0 2 f fd ["one", "other"] (spCpBin K addW) := by
  have GS : FnOk P0 w K mg base CX0 1 fS dS ["top", "bottom"] spLowest := ok_lowest FS T
  have bS := FS.binds (ps := ["top", "bottom"]) fun _ _ _ _ _ _ us hl => match us, hl with | [_, _], _ => rfl
  refine F.ok scCpPlus (fun vs H Q E h => ?_) (fun cdv A outer s H vs Q E hr h => ?_)
  · obtain ⟨a, b, u, v, n, m, rfl, _⟩ := h
    rfl
  · obtain ⟨a, b, u, v, n, m, rfl, ha, hb, hu, hv, su, sv, n0, m0, nm, k⟩ := h
    refine ⟨_, pss_one (ps_ret (pe_call GS hr rfl mS FS.kp bS .nil pass0 (pa_cons (pe_op op_add (pe_op op_mulW (pe_ix ix_tup (pv 0) pe_int (fun _ _ => rfl)) (pe_ix ix_tup (pv 1) pe_int (fun _ _ => rfl))) (pe_op op_mulW (pe_ix ix_tup (pv 1) pe_int (fun _ _ => rfl)) (pe_ix ix_tup (pv 0) pe_int (fun _ _ => rfl))))
      (pa_cons (pe_op op_mulW (pe_ix ix_tup (pv 0) pe_int (fun _ _ => rfl)) (pe_ix ix_tup (pv 1) pe_int (fun _ _ => rfl))) pa_nil)))), ?_⟩
    refine ⟨_, rfl, a, _, _, _, rfl, rfl, ha, rfl, _, rfl, b, _, _, _, rfl, rfl, hb, rfl, _, _, rfl, rfl, wide su.1 sv.2 n0 m0 (by omega), ?_⟩
    refine ⟨_, rfl, b, _, _, _, rfl, rfl, hb, rfl, _, rfl, a, _, _, _, rfl, rfl, ha, rfl, _, _, rfl, rfl, wide sv.1 su.2 m0 n0 (by omega), _, _, rfl, rfl, ?_⟩
    refine ⟨_, rfl, a, _, _, _, rfl, rfl, ha, rfl, _, rfl, b, _, _, _, rfl, rfl, hb, rfl, _, _, rfl, rfl, wide su.2 sv.2 n0 m0 (by omega), ?_⟩
    exact ⟨_, _, n + m + 1, rfl, ne_mul hu hv, num_lt su sv, Nat.lt_of_lt_of_le (den_lt su sv) (Nat.pow_le_pow_right (by decide) (by omega)), by omega, by omega, fun p H' s1 hp => k p H' s1 (SqT.of hp)⟩
theorem ok_cptimes {f fS : Addr} {fd dS : FuncData} (F : Fun K "_law_cp_times" "_law_cp_times" sCpTimes f fd) (T : Pre.TxtP mg) (FS : Fun K "_law_cp_lowest" "_law_cp_lowest" sLowest fS dS) (mS : mg "_law_cp_lowest" = some (.ref fS)) : FnOk P0 w K mg base CX0 2 f fd ["one", "other"] (spCpBin K mulW) := by
  have GS : FnOk P0 w K mg base CX0 1 fS dS ["top", "bottom"] spLowest := ok_lowest FS T
  have bS := FS.binds (ps := ["top", "bottom"]) fun _ _ _ _ _ _ us hl => match us, hl with | [_, _], _ => rfl
  refine F.ok scCpTimes (fun vs H Q E h => ?_) (fun cdv A outer s H vs Q E hr h => ?_)
  · obtain ⟨a, b, u, v, n, m, rfl, _⟩ := h
    rfl
  · obtain ⟨a, b, u, v, n, m, rfl, ha, hb, hu, hv, su, sv, n0, m0, nm, k⟩ := h
    refine ⟨_, pss_one (ps_ret (pe_call GS hr rfl mS FS.kp bS .nil pass0 (pa_cons (pe_op op_mulW (pe_ix ix_tup (pv 0) pe_int (fun _ _ => rfl)) (pe_ix ix_tup (pv 1) pe_int (fun _ _ => rfl)))
      (pa_cons (pe_op op_mulW (pe_ix ix_tup (pv 0) pe_int (fun _ _ => rfl)) (pe_ix ix_tup (pv 1) pe_int (fun _ _ => rfl))) pa_nil)))), ?_⟩
    refine ⟨_, rfl, a, _, _, _, rfl, rfl, ha, rfl, _, rfl, b, _, _, _, rfl, rfl, hb, rfl, _, _, rfl, rfl, wide su.1 sv.1 n0 m0 (by omega), ?_⟩
    refine ⟨_, rfl, a, _, _, _, rfl, rfl, ha, rfl, _, rfl, b, _, _, _, rfl, rfl, hb, rfl, _, _, rfl, rfl, wide su.2 sv.2 n0 m0 (by omega), ?_⟩
    exact ⟨_, _, n + m, rfl, ne_mul hu hv, abs_mul_lt su.1 sv.1, den_lt su sv, by omega, by omega, fun p H' s1 hp => k p H' s1 (SqT.of hp)⟩
end
end Wt

namespace Tw
open PySem PySem.Spec PyProof.Rows L2
open Wt
abbrev sPower : Stmt := Pre.top 37
abbrev sTried : Stmt := Pre.top 39
theorem pow_lt {b : Int} {nb : Nat} (h : b.natAbs < 2 ^ nb) (i : Nat) : (b ^ i).natAbs < 2 ^ (nb * i + 1) := by
  rw [Int.natAbs_pow, Nat.pow_succ, Nat.pow_mul]
  have h1 := Nat.pow_le_pow_left (Nat.le_of_lt h) i
  have h2 : 0 < (2 ^ nb) ^ i := Nat.pow_pos (Nat.pow_pos (by decide))
  omega
section
variable {P0 : Program} {w : World} {K : PySem.W.Frag} {mg : Str → Option Value} {base : Heap}
def spPower : Sp := fun vs H Q _ => ∃ (b : Int) (m nb : Nat), vs = [.int b, .int (m : Int)] ∧ b.natAbs < 2 ^ nb ∧ 0 < nb ∧ nb ≤ 100 ∧ m ≤ 41 ∧ Q (.int (b ^ m)) H
theorem scPower : FnScope ["base", "many", "found", "lap"] ["base", "many"] (defScope sPower) := ⟨rfl, rfl, rfl, by decide +kernel, rfl, by decide +kernel, by decide +kernel⟩
theorem ok_power {f : Addr} {fd : FuncData} (F : Fun K "_law_ap_power" "_law_ap_power" sPower f fd) (zg : mg "range" = none) : FnOk P0 w K mg base CX0 1 f fd ["base", "many"] spPower := by
  refine F.ok scPower (fun vs H Q E h => ?_) (fun cdv A outer s H vs Q E hr h => ?_)
  · obtain ⟨b, m, nb, rfl, _⟩ := h
    rfl
  · obtain ⟨b, m, nb, rfl, hb, n0, n1, hm, k⟩ := h
    have nd := scPower.nd
    refine ⟨_, pss_cons (ps_set (i := 2) nd rfl (Or.inl rfl) pe_int)
      (pss_cons (ps_for PassesOwn.never rfl (pi_range1 (by rfl) zg (pa_cons (pv 1) pa_nil)) (pg_name (i := 3) nd rfl (Or.inl rfl)) (pss_one (ps_set (i := 2) nd rfl (Or.inl rfl) (pe_op op_mulW (pv 2) (pv 0)))))
      (pss_one (ps_ret (pv 2)))), ?_⟩
    refine ⟨_, rfl, (m : Int), rfl, by omega, by omega, for_range (n := (m : Int).toNat) (fun i σ H' => ∃ lp, σ = [some (.int b), some (.int (m : Int)), some (.int (b ^ i)), lp] ∧ H' = H) ⟨none, by rw [Int.pow_zero]; rfl, rfl⟩ ?_ ?_⟩
    · rintro i σ H2 hi ⟨lp, rfl, rfl⟩
      rw [Int.toNat_natCast] at hi
      have hle : nb * i ≤ 100 * 41 := Nat.mul_le_mul n1 (by omega)
      refine ⟨_, rfl, _, rfl, b ^ i, b, rfl, rfl, wide (pow_lt hb i) hb (by omega) n0 (by omega), some (.int (0 + (i : Int))), ?_, rfl⟩
      rw [Int.pow_succ]
      rfl
    · rintro σ H2 ⟨lp, rfl, rfl⟩
      rw [Int.toNat_natCast]
      exact ⟨_, rfl, k⟩
/-- one try more: behind i of the items -/
def tri (c e : Int) (xs : List Int) (i j : Nat) : Int := (if 0 < j ∧ j ≤ i then xs.getD (j - 1) 0 * c else 0) + (if j < i then xs.getD j 0 * e else 0)
def triL (c e : Int) (xs : List Int) (i : Nat) : List Int := (List.range (xs.length + 1)).map (tri c e xs i)
def tried (c e : Int) (xs : List Int) : List Int := triL c e xs xs.length
theorem triL_len (c e : Int) (xs : List Int) (i : Nat) : (triL c e xs i).length = xs.length + 1 := by
  unfold triL
  rw [List.length_map, List.length_range]
theorem triL_get {c e : Int} {xs : List Int} {i j : Nat} (h : j < xs.length + 1) : (triL c e xs i)[j]? = some (tri c e xs i j) := by
  unfold triL
  rw [List.getElem?_map, List.getElem?_range h]
  rfl
theorem triL_zero (c e : Int) (xs : List Int) : triL c e xs 0 = List.replicate (xs.length + 1) 0 := by
  apply List.ext_getElem?
  intro j
  rcases Nat.lt_or_ge j (xs.length + 1) with h | h
  · rw [triL_get h, List.getElem?_replicate_of_lt h]
    unfold tri
    rw [if_neg (by omega), if_neg (by omega)]
    rfl
  · rw [List.getElem?_eq_none (by rw [triL_len]; exact h), List.getElem?_eq_none (by rw [List.length_replicate]; exact h)]
theorem triL_step {c e x : Int} {xs : List Int} {i : Nat} (h : xs[i]? = some x) : ((triL c e xs i).set (i + 1) (tri c e xs i (i + 1) + x * c)).set i (tri c e xs i i + x * e) = triL c e xs (i + 1) := by
  have hi : i < xs.length := (List.getElem?_eq_some_iff.mp h).1
  have hx : xs.getD i 0 = x := by rw [List.getD_eq_getElem?_getD, h]; rfl
  apply List.ext_getElem?
  intro j
  rcases Nat.lt_or_ge j (xs.length + 1) with hj | hj
  · rw [triL_get hj, List.getElem?_set, List.getElem?_set, List.length_set, triL_len, triL_get hj]
    by_cases h1 : i = j
    · subst h1
      rw [if_pos rfl, if_pos (by omega)]
      unfold tri
      rw [if_neg (show ¬ i < i by omega), if_pos (show i < i + 1 by omega), hx, Int.add_zero]
      by_cases h0 : 0 < i
      · rw [if_pos ⟨h0, Nat.le_refl _⟩, if_pos ⟨h0, by omega⟩]
      · rw [if_neg (by omega), if_neg (by omega)]
    · rw [if_neg h1]
      by_cases h2 : i + 1 = j
      · subst h2
        rw [if_pos rfl, if_pos (by omega)]
        unfold tri
        rw [if_neg (by omega), if_neg (by omega), if_pos (by omega), if_neg (by omega), Nat.add_sub_cancel, hx, Int.add_zero, Int.add_zero, Int.zero_add]
      · rw [if_neg h2]
        unfold tri
        congr 2
        · by_cases h3 : 0 < j ∧ j ≤ i
          · rw [if_pos h3, if_pos ⟨h3.1, by omega⟩]
          · rw [if_neg h3, if_neg (by omega)]
        · by_cases h3 : j < i
          · rw [if_pos h3, if_pos (by omega)]
          · rw [if_neg h3, if_neg (by omega)]
  · rw [List.getElem?_eq_none (by rw [List.length_set, List.length_set, triL_len]; exact hj), List.getElem?_eq_none (by rw [triL_len]; exact hj)]
theorem mul_lt2 {x y : Int} {n m : Nat} (hx : x.natAbs < 2 ^ n) (hy : y.natAbs < 2 ^ m) : (x * y).natAbs < 2 ^ (n + m) := by
  rw [Int.natAbs_mul, Nat.pow_add]
  exact Nat.mul_lt_mul'' hx hy
theorem tri_lt {c e : Int} {xs : List Int} {B nb i j : Nat} (hx : ∀ x ∈ xs, x.natAbs < 2 ^ B) (hc : c.natAbs < 2 ^ nb) (he : e.natAbs < 2 ^ nb) : (tri c e xs i j).natAbs < 2 ^ (B + nb + 1) := by
  have g : ∀ k, (xs.getD k 0).natAbs < 2 ^ B := fun k => by
    rw [List.getD_eq_getElem?_getD]
    cases h : xs[k]? with
    | none => exact Nat.pow_pos (by decide)
    | some x => exact hx x (List.mem_of_getElem? h)
  have p : (0 : Nat) < 2 ^ (B + nb) := Nat.pow_pos (by decide)
  have h1 : (if 0 < j ∧ j ≤ i then xs.getD (j - 1) 0 * c else 0).natAbs < 2 ^ (B + nb) := by
    split
    · exact mul_lt2 (g _) hc
    · exact p
  have h2 : (if j < i then xs.getD j 0 * e else 0).natAbs < 2 ^ (B + nb) := by
    split
    · exact mul_lt2 (g _) he
    · exact p
  unfold tri
  have h3 := Int.natAbs_add_le (if 0 < j ∧ j ≤ i then xs.getD (j - 1) 0 * c else 0) (if j < i then xs.getD j 0 * e else 0)
  rw [Nat.pow_succ]
  omega
theorem tried_lt {c e : Int} {xs : List Int} {B nb : Nat} (hx : ∀ x ∈ xs, x.natAbs < 2 ^ B) (hc : c.natAbs < 2 ^ nb) (he : e.natAbs < 2 ^ nb) : ∀ x ∈ tried c e xs, x.natAbs < 2 ^ (B + nb + 1) := fun x h => by
  obtain ⟨j, _, rfl⟩ := List.mem_map.mp h
  exact tri_lt hx hc he
theorem flat_rep {α : Type} (a : α) : ∀ n : Nat, (List.replicate n [a]).flatten = List.replicate n a
  | 0 => rfl
  | n + 1 => by
    rw [List.replicate_succ, List.flatten_cons, flat_rep a n]
    rfl
theorem ixN_nat {n i : Nat} (h : i < n) : ixN n (i : Int) = some i := by
  unfold ixN
  rw [if_pos (by omega), if_pos (by omega), Int.toNat_natCast]
def spTried (K : PySem.W.Frag) : Sp := fun vs H Q _ => ∃ (a ch : Addr) (xs : List Int) (c d : Int) (B nb : Nat), vs = [.ref a, .ref ch] ∧ SqL K H a (xs.map V.int) ∧ At K H ch (c, d) ∧ (∀ x ∈ xs, x.natAbs < 2 ^ B) ∧ c.natAbs < 2 ^ nb ∧ (d - c).natAbs < 2 ^ nb ∧ 0 < B ∧ 0 < nb ∧ B + nb ≤ 7000 ∧ xs.length ≤ 100 ∧
  ∀ l H', Same H H' → H l = none → H' l = some (.lst ((tried c (d - c) xs).map V.int)) → Q (.ref l) H'
theorem scTried : FnScope ["exact", "chance", "more", "spot", "ways"] ["exact", "chance"] (defScope sTried) := ⟨rfl, rfl, rfl, by decide +kernel, rfl, by decide +kernel, by decide +kernel⟩
theorem ok_tried {f : Addr} {fd : FuncData} (F : Fun K "_law_ap_tried" "_law_ap_tried" sTried f fd) (zl : mg "len" = none) (ze : mg "enumerate" = none) : FnOk P0 w K mg base CX0 1 f fd ["exact", "chance"] (spTried K) := by
  refine F.ok scTried (fun vs H Q E h => ?_) (fun cdv A outer s H vs Q E hr h => ?_)
  · obtain ⟨a, ch, xs, c, d, B, nb, rfl, _⟩ := h
    rfl
  · obtain ⟨a, ch, xs, c, d, B, nb, rfl, ha, hch, hx, hc, he, B0, n0, hB, hl, k⟩ := h
    have nd := scTried.nd
    refine ⟨_, pss_cons (ps_set (i := 2) nd rfl (Or.inl rfl) (pe_op op_rep (pe_lst (pa_cons pe_int pa_nil)) (pe_op op_add (pe_callB call_len_seq (by rfl) zl PySem.boot_len (pa_cons (pv 0) pa_nil)) pe_int)))
      (pss_cons (ps_for PassesOwn.never rfl (pi_enum (by rfl) ze (pa_cons (pv 0) pa_nil)) (pg_tup (by rfl) (pgs_cons (pg_name (i := 3) nd rfl (Or.inl rfl)) (pgs_cons (pg_name (i := 4) nd rfl (Or.inl rfl)) pgs_nil)))
        (pss_cons (ps_asg (pe_op op_add (pe_ix ix_list (pv 2) (pe_op op_add (pv 3) pe_int) (fun _ _ => rfl)) (pe_op op_mulW (pv 4) (pe_ix ix_tup (pv 1) pe_int (fun _ _ => rfl)))) (pg_sub (pv 2) (pe_op op_add (pv 3) pe_int) set_list))
        (pss_one (ps_asg (pe_op op_add (pe_ix ix_list (pv 2) (pv 3) (fun _ _ => rfl)) (pe_op op_mulW (pv 4) (pe_op op_sub (pe_ix ix_tup (pv 1) pe_int (fun _ _ => rfl)) (pe_ix ix_tup (pv 1) pe_int (fun _ _ => rfl))))) (pg_sub (pv 2) (pv 3) set_list)))))
      (pss_one (ps_ret (pv 2)))), ?_⟩
    refine ⟨by show 1 ≤ sizeLine; decide, fun l0 hl0 => ?_⟩
    have s0 := Pre.same_upd (o := .lst [.int 0]) hl0
    refine ⟨_, rfl, a, _, rfl, .inl (s0.seq ha), _, _, rfl, rfl, l0, _, _, rfl, rfl, upd_same, ?_, ?_, ?_, fun l hl' => ?_⟩
    · rw [List.length_map]; omega
    · rw [List.length_map]; omega
    · rw [List.length_map]
      show 1 * ((xs.length : Int) + 1).toNat ≤ sizeLine
      exact Nat.le_trans (show 1 * ((xs.length : Int) + 1).toNat ≤ 101 by omega) (by decide)
    have s1 := s0.trans (Pre.same_upd (o := .lst (List.replicate (((xs.map V.int).length : Int) + 1).toNat [V.int 0]).flatten) hl')
    have hln : H l = none := s0.free hl'
    have e0 : (List.replicate (((xs.map V.int).length : Int) + 1).toNat [V.int 0]).flatten = (triL c (d - c) xs 0).map V.int := by
      rw [flat_rep, triL_zero, List.map_replicate, List.length_map]
      congr 1
    have h1 : (upd (upd H l0 (.lst [.int 0])) l (.lst (List.replicate (((xs.map V.int).length : Int) + 1).toNat [V.int 0]).flatten)) l = some (.lst ((triL c (d - c) xs 0).map V.int)) := by
      rw [upd_same, e0]
    refine ⟨_, rfl, a, _, rfl, s1.seq ha, for_it (walk_enum (K := K) (a := a) (xs := xs.map V.int)) (fun i σ H' => ∃ o3 o4, σ = [some (.ref a), some (.ref ch), some (.ref l), o3, o4] ∧ Same H H' ∧ H' l = some (.lst ((triL c (d - c) xs i).map V.int)))
      ⟨none, none, rfl, s1, h1⟩ (fun i σ H' _ ⟨_, _, _, s, _⟩ => s.seq ha) ?_ ?_⟩
    · rintro i v σ H2 H3 hi ⟨o3, o4, rfl, s2, h2⟩ ⟨T, x, y, rfl, hT, rfl, ex, ey⟩
      cases ex
      obtain ⟨z, hz, rfl⟩ : ∃ z, xs[i]? = some z ∧ V.int z = y := by
        have ey' : (xs.map V.int)[i]? = some y := ey
        rw [List.getElem?_map] at ey'
        cases h : xs[i]? with
        | none => rw [h] at ey'; cases ey'
        | some z => rw [h] at ey'; cases ey'; exact ⟨z, rfl, rfl⟩
      have hi' : i < xs.length := (List.getElem?_eq_some_iff.mp hz).1
      have zB := hx z (List.mem_of_getElem? hz)
      have s3 := s2.trans (Pre.same_upd (o := .tup [.int (i : Nat), .int z]) hT)
      have h3 : (upd H2 T (.tup [.int (i : Nat), .int z])) l = some (.lst ((triL c (d - c) xs i).map V.int)) := by
        rw [upd_ne (ne_of_none h2 hT)]
        exact h2
      have hch3 : SqT K (upd H2 T (.tup [.int (i : Nat), .int z])) ch [.int c, .int d] := sqT_same s3 hch
      refine ⟨T, _, rfl, SqT.of upd_same, rfl, _, _, rfl, _, _, rfl, rfl, ?_⟩
      generalize upd H2 T (.tup [.int (i : Nat), .int z]) = H4 at s3 h3 hch3
      have ei : (i : Int) + 1 = ((i + 1 : Nat) : Int) := by omega
      have g1 : ((triL c (d - c) xs i).map V.int)[i + 1]? = some (.int (tri c (d - c) xs i (i + 1))) := by
        rw [List.getElem?_map, triL_get (by omega)]
        rfl
      refine ⟨_, rfl, _, rfl, _, _, rfl, rfl, l, _, _, _, rfl, rfl, SqL.of h3, (by rw [ei]; exact atI_nat g1), ?_⟩
      refine ⟨_, rfl, _, rfl, ch, _, _, _, rfl, rfl, hch3, rfl, z, c, rfl, rfl, wide zB hc B0 n0 (by omega), _, _, rfl, rfl, ?_⟩
      refine ⟨_, rfl, _, rfl, _, _, rfl, rfl, l, _, _, i + 1, rfl, rfl, h3, ?_, ?_⟩
      · rw [ei]
        exact ixN_nat (by rw [List.length_map, triL_len]; omega)
      have s5 : Same H (upd H4 l (.lst (((triL c (d - c) xs i).map V.int).set (i + 1) (.int (tri c (d - c) xs i (i + 1) + z * c))))) := fun b o e => by
        rw [upd_ne (ne_of_none e hln)]
        exact s3 _ _ e
      have h5 : (upd H4 l (.lst (((triL c (d - c) xs i).map V.int).set (i + 1) (.int (tri c (d - c) xs i (i + 1) + z * c))))) l = some (.lst (((triL c (d - c) xs i).map V.int).set (i + 1) (.int (tri c (d - c) xs i (i + 1) + z * c)))) := upd_same
      have g2 : (((triL c (d - c) xs i).map V.int).set (i + 1) (.int (tri c (d - c) xs i (i + 1) + z * c)))[i]? = some (.int (tri c (d - c) xs i i)) := by
        rw [List.getElem?_set_ne (by omega), List.getElem?_map, triL_get (by omega)]
        rfl
      have hch5 := sqT_same s5 hch
      generalize upd H4 l (.lst (((triL c (d - c) xs i).map V.int).set (i + 1) (.int (tri c (d - c) xs i (i + 1) + z * c)))) = H5 at s5 h5 hch5
      refine ⟨_, rfl, _, rfl, l, _, _, _, rfl, rfl, SqL.of h5, atI_nat g2, ?_⟩
      refine ⟨_, rfl, _, rfl, ch, _, _, _, rfl, rfl, hch5, rfl, _, rfl, ch, _, _, _, rfl, rfl, hch5, rfl, _, _, rfl, rfl, z, d - c, rfl, rfl, wide zB he B0 n0 (by omega), _, _, rfl, rfl, ?_⟩
      refine ⟨_, rfl, _, rfl, l, _, _, i, rfl, rfl, h5, ?_, ?_⟩
      · exact ixN_nat (by rw [List.length_set, List.length_map, triL_len]; omega)
      refine ⟨_, _, rfl, fun b o e => ?_, ?_⟩
      · rw [upd_ne (ne_of_none e hln)]
        exact s5 _ _ e
      · rw [upd_same, ← triL_step hz, List.map_set, List.map_set]
    · rintro σ H2 ⟨o3, o4, rfl, s2, h2⟩
      rw [List.length_map] at h2
      exact ⟨_, rfl, k l H2 s2 hln h2⟩
end
end Tw

namespace Wt
open PySem PySem.Spec PyProof.Rows L2
/-- u is a weight -/
def isW (u : Int × Int) : Prop := isWt (.tuple [.int u.1, .int u.2]) = true
theorem isW_pos {u : Int × Int} (h : isW u) : 1 ≤ u.2 := by
  unfold isW isWt at h
  rw [Bool.and_eq_true] at h
  exact of_decide_eq_true h.1
theorem gI_parts {t b : Int} (h : b ≠ 0) : gI (t / gI t b) (b / gI t b) = 1 := by
  have hg := gI_pos (t := t) h
  obtain ⟨t', ht⟩ := gI_l t b
  obtain ⟨b', hb⟩ := gI_r t b
  have e1 : t / gI t b = t' := Int.ediv_eq_of_eq_mul_right (by omega) ht
  have e2 : b / gI t b = b' := Int.ediv_eq_of_eq_mul_right (by omega) hb
  rw [e1, e2]
  have b0 : b' ≠ 0 := fun z => by
    rw [z, Int.mul_zero] at hb
    exact h hb
  have hd := gI_pos (t := t') b0
  have d1 : gI t b * gI t' b' ∣ t := by
    obtain ⟨x, hx⟩ := gI_l t' b'
    exact ⟨x, by rw [Int.mul_assoc, ← hx, ← ht]⟩
  have d2 : gI t b * gI t' b' ∣ b := by
    obtain ⟨x, hx⟩ := gI_r t' b'
    exact ⟨x, by rw [Int.mul_assoc, ← hx, ← hb]⟩
  have d3 : gI t b * gI t' b' ∣ gI t b := Int.dvd_coe_gcd d1 d2
  have d4 : gI t b * gI t' b' ≤ gI t b := Int.le_of_dvd hg d3
  have d5 : gI t' b' ≤ 1 := by
    rcases Int.lt_or_le 1 (gI t' b') with q | q
    · have := Int.mul_lt_mul_of_pos_left q hg
      rw [Int.mul_one] at this
      omega
    · exact q
  omega
theorem low_isW {t b : Int} (h : b ≠ 0) : isW (low t b) := by
  have hp := low_pos (t := t) h
  have e1 := gI_parts (t := t) h
  have e : gI (low t b).1 (low t b).2 = 1 := by
    unfold low
    split
    · show gI (-(t / gI t b)) (-(b / gI t b)) = 1
      unfold gI at e1 ⊢
      rw [Int.neg_gcd, Int.gcd_neg]
      exact e1
    · exact e1
  show (decide (1 ≤ (low t b).2) && (gI (low t b).1 (low t b).2 == 1)) = true
  rw [e, decide_eq_true (show 1 ≤ (low t b).2 by omega)]
  rfl
theorem low_one (t : Int) : low t 1 = (t, 1) := by
  have e : gI t 1 = 1 := by
    unfold gI
    rw [Int.gcd_one_right]
    rfl
  unfold low
  rw [if_neg (by decide), e, Int.ediv_one]
  rfl
end Wt
namespace Tw
open PySem PySem.Spec PyProof.Rows L2
open Wt Dc
/-- the ways of 0, 1, .. runs behind n tries -/
def exN (c e : Int) : Nat → List Int
  | 0 => [1]
  | n + 1 => tried c e (exN c e n)
theorem exN_len (c e : Int) : ∀ n, (exN c e n).length = n + 1
  | 0 => rfl
  | n + 1 => by
    show (triL c e (exN c e n) _).length = _
    rw [triL_len, exN_len c e n]
theorem exN_lt {c e : Int} {nb : Nat} (hc : c.natAbs < 2 ^ nb) (he : e.natAbs < 2 ^ nb) : ∀ n, ∀ x ∈ exN c e n, x.natAbs < 2 ^ (1 + n * (nb + 1))
  | 0, x, h => by
    rw [List.mem_singleton.mp h, Nat.zero_mul]
    decide
  | n + 1, x, h => by
    have z := tried_lt (exN_lt hc he n) hc he x h
    have e2 : 1 + n * (nb + 1) + nb + 1 = 1 + (n + 1) * (nb + 1) := by
      rw [Nat.add_mul]
      omega
    rw [e2] at z
    exact z
theorem sum_lt {B : Nat} : ∀ {xs : List Int} {m : Nat}, (∀ x ∈ xs, x.natAbs < 2 ^ B) → xs.length ≤ m → xs.sum.natAbs ≤ m * 2 ^ B
  | [], _, _, _ => Nat.zero_le _
  | x :: xs, 0, _, h => by cases h
  | x :: xs, m + 1, hx, h => by
    have h1 := sum_lt (fun y hy => hx y (List.mem_cons_of_mem _ hy)) (Nat.le_of_succ_le_succ h)
    have h2 := hx x (List.mem_cons_self ..)
    have h3 := Int.natAbs_add_le x xs.sum
    rw [List.sum_cons, Nat.add_mul]
    omega
theorem drop_lt {c e : Int} {nb n j : Nat} (hc : c.natAbs < 2 ^ nb) (he : e.natAbs < 2 ^ nb) (hn : n ≤ 40) (hb : nb ≤ 100) : ((exN c e n).drop j).sum.natAbs < 2 ^ 4100 := by
  have h1 := exN_lt hc he n
  have hle : 1 + n * (nb + 1) ≤ 4041 := by
    have := Nat.mul_le_mul hn (show nb + 1 ≤ 101 by omega)
    omega
  have h2 : ∀ x ∈ (exN c e n).drop j, x.natAbs < 2 ^ 4041 := fun x hx => Nat.lt_of_lt_of_le (h1 x (List.mem_of_mem_drop hx)) (Nat.pow_le_pow_right (by decide) hle)
  have h3 := sum_lt (m := 64) h2 (by rw [List.length_drop, exN_len]; omega)
  refine Nat.lt_of_le_of_lt h3 ?_
  have : 64 * 2 ^ 4041 = 2 ^ (6 + 4041) := by rw [Nat.pow_add]
  rw [this]
  exact Nat.pow_lt_pow_right (by decide) (by decide)
/-- the chance of bar runs or more out of n tries -/
def alW (c d : Int) (n b : Nat) : Int × Int := low ((exN c (d - c) n).drop b).sum (d ^ n)
theorem low_share {t b : Int} (h0 : 0 ≤ t) (h1 : t ≤ b) (hb : 0 < b) : 0 ≤ (low t b).1 ∧ (low t b).1 ≤ (low t b).2 ∧ 1 ≤ (low t b).2 ∧ (low t b).2 ≤ b := by
  have hg := gI_pos (t := t) (b := b) (by omega)
  have hp := low_pos (t := t) (b := b) (by omega)
  have e : low t b = (t / gI t b, b / gI t b) := by
    unfold low
    rw [if_neg (by omega)]
  rw [e] at hp ⊢
  refine ⟨Int.ediv_nonneg h0 (by omega), Int.ediv_le_ediv hg h1, hp, ?_⟩
  exact Int.ediv_le_self _ (by omega)
end Tw

namespace Tw
open PySem PySem.Spec PyProof.Rows L2
open Wt Dc
abbrev sRest : Stmt := Pre.top 38
abbrev sBelowE : Stmt := Pre.top 41
def sureW (w : Int × Int) : Int × Int := addW (1, 1) (0 - w.1, w.2)
def tl (u : Int × Int) (n b : Nat) : Int := ((exN u.1 (u.2 - u.1) n).drop b).sum
/-- whether n tries and the bar b are enough -/
def cond (l g w : Int × Int) (n b : Nat) : Bool := decide (tl l n b * w.2 ≤ w.1 * l.2 ^ n) && decide ((sureW w).1 * g.2 ^ n ≤ tl g n b * (sureW w).2)
def Lst (l g w : Int × Int) (n b : Nat) : Prop := 1 ≤ n ∧ n ≤ 40 ∧ 1 ≤ b ∧ b ≤ n ∧ cond l g w n b = true ∧ ∀ n' b', 1 ≤ n' → 1 ≤ b' → b' ≤ n' → (n' < n ∨ n' = n ∧ b' < b) → cond l g w n' b' = false
def NoL (l g w : Int × Int) : Prop := ∀ n b, 1 ≤ n → n ≤ 40 → 1 ≤ b → b ≤ n → cond l g w n b = false
theorem Lst.one {l g w : Int × Int} {n b n' b' : Nat} (h : Lst l g w n b) (h' : Lst l g w n' b') : n = n' ∧ b = b' := by
  obtain ⟨a1, a2, a3, a4, a5, a6⟩ := h
  obtain ⟨c1, c2, c3, c4, c5, c6⟩ := h'
  have x1 : ¬ (n' < n ∨ n' = n ∧ b' < b) := fun z => by
    rw [a6 n' b' c1 c3 c4 z] at c5
    cases c5
  have x2 : ¬ (n < n' ∨ n = n' ∧ b < b') := fun z => by
    rw [c6 n b a1 a3 a4 z] at a5
    cases a5
  omega
theorem Lst.no {l g w : Int × Int} {n b : Nat} (h : Lst l g w n b) (h' : NoL l g w) : False := by
  obtain ⟨a1, a2, a3, a4, a5, a6⟩ := h
  rw [h' n b a1 a2 a3 a4] at a5
  cases a5
/-- a pair that is a chance of few digits -/
structure Chn (nb : Nat) (u : Int × Int) : Prop where
  d : 0 < u.2
  c1 : u.1.natAbs < 2 ^ nb
  c2 : (u.2 - u.1).natAbs < 2 ^ nb
  c3 : u.2.natAbs < 2 ^ nb
theorem Chn.tl_lt {nb n b : Nat} {u : Int × Int} (h : Chn nb u) (hn : n ≤ 40) (hb : nb ≤ 100) : (tl u n b).natAbs < 2 ^ 4100 := drop_lt h.c1 h.c2 hn hb
theorem Chn.pw_lt {nb n : Nat} {u : Int × Int} (h : Chn nb u) (hn : n ≤ 40) (hb : nb ≤ 100) : (u.2 ^ n).natAbs < 2 ^ 4100 := Nat.lt_of_lt_of_le (pow_lt h.c3 n) (Nat.pow_le_pow_right (by decide) (by have := Nat.mul_le_mul hb hn; omega))
section
variable {P0 : Program} {w : World} {K : PySem.W.Frag} {mg : Str → Option Value} {base : Heap}
def spRest (K : PySem.W.Frag) : Sp := fun vs H Q _ => ∃ (l a : Addr) (u : Int × Int), vs = [.ref l] ∧ SqL K H l [.ref a] ∧ At K H a u ∧ sz 30 u ∧ u.2 ≠ 0 ∧ ∀ r H', Same H H' → At K H' r (sureW u) → Q (.ref r) H'
theorem scRest : FnScope ["weights", "found", "one"] ["weights"] (defScope sRest) := ⟨rfl, rfl, rfl, by decide +kernel, rfl, by decide +kernel, by decide +kernel⟩
theorem ok_rest {f fP fL : Addr} {fd dP dL : FuncData} (F : Fun K "_law_ap_rest" "_law_ap_rest" sRest f fd) (T : Pre.TxtP mg) (FP : Fun K "_law_cp_plus" "_law_cp_plus" sCpPlus fP dP) (mP : mg "_law_cp_plus" = some (.ref fP)) (FL : Fun K "_law_cp_lowest" "_law_cp_lowest" sLowest fL dL) (mL : mg "_law_cp_lowest" = some (.ref fL)) : FnOk P0 w K mg base CX0 3 f fd ["weights"] (spRest K) := by
  have GP : FnOk P0 w K mg base CX0 2 fP dP ["one", "other"] (spCpBin K addW) := ok_cpplus FP T FL mL
  have bP := FP.binds (ps := ["one", "other"]) fun _ _ _ _ _ _ us hl => match us, hl with | [_, _], _ => rfl
  refine F.ok scRest (fun vs H Q E h => ?_) (fun cdv A outer s H vs Q E hr h => ?_)
  · obtain ⟨l, a, u, rfl, _⟩ := h
    rfl
  · obtain ⟨l, a, u, rfl, hl, ha, su, u0, k⟩ := h
    have nd := scRest.nd
    refine ⟨_, pss_cons (ps_set (i := 1) nd rfl (Or.inl rfl) (pe_tup (pa_cons pe_int (pa_cons pe_int pa_nil))))
      (pss_cons (ps_for PassesOwn.never rfl (pi_list (pv 0)) (pg_name (i := 2) nd rfl (Or.inl rfl)) (pss_one (ps_set (i := 1) nd rfl (Or.inl rfl) (pe_call GP hr (by rfl) mP FP.kp bP .nil pass0 (pa_cons (pv 1) (pa_cons (pe_tup (pa_cons (pe_op op_sub pe_int (pe_ix ix_tup (pv 2) pe_int (fun _ _ => rfl))) (pa_cons (pe_ix ix_tup (pv 2) pe_int (fun _ _ => rfl)) pa_nil))) pa_nil))))))
      (pss_one (ps_ret (pv 1)))), ?_⟩
    refine ⟨by show 2 ≤ sizeLine; decide, fun r0 hr0 => ?_⟩
    have s0 := Pre.same_upd (o := .tup [.int 1, .int 1]) hr0
    have h0 : At K (upd H r0 (.tup [.int 1, .int 1])) r0 (1, 1) := SqT.of upd_same
    generalize upd H r0 (.tup [.int 1, .int 1]) = H1 at s0 h0
    refine ⟨_, rfl, l, rfl, ⟨_, s0.seq hl⟩, for_list (K := K) (a := l) (xs := [.ref a]) (fun i σ H' => ∃ (r : Addr) (o2 : Option V), σ = [some (.ref l), some (.ref r), o2] ∧ Same H H' ∧ At K H' r (if i = 0 then (1, 1) else sureW u)) ⟨r0, none, rfl, s0, h0⟩ (fun i σ H' _ ⟨_, _, _, s, _⟩ => s.seq hl) ?_ ?_⟩
    · rintro i x σ H2 hx ⟨r, o2, rfl, s2, h2⟩
      match i, hx with
      | 0, hx =>
        cases hx
        have ha2 := sqT_same s2 ha
        refine ⟨_, rfl, _, rfl, a, _, _, _, rfl, rfl, ha2, rfl, _, _, rfl, rfl, _, rfl, a, _, _, _, rfl, rfl, ha2, rfl, by show 2 ≤ sizeLine; decide, fun q hq => ?_⟩
        have s3 := Pre.same_upd (o := .tup [.int (0 - u.1), .int u.2]) hq
        refine ⟨r, q, (1, 1), (0 - u.1, u.2), 1, 30, rfl, sqT_same s3 h2, SqT.of upd_same, (by show (1 : Int) ≠ 0; decide), u0, ⟨by show (1 : Int).natAbs < 2 ^ 1; decide, by show (1 : Int).natAbs < 2 ^ 1; decide⟩, ⟨(by show (0 - u.1).natAbs < 2 ^ 30; have := su.1; omega), su.2⟩, by decide, by decide, by decide, fun p H4 s4 h4 => ?_⟩
        exact ⟨p, _, rfl, s2.trans (s3.trans s4), h4⟩
      | n + 1, hx => cases hx
    · rintro σ H2 ⟨r, o2, rfl, s2, h2⟩
      exact ⟨_, rfl, k r H2 s2 h2⟩
def spBelowE (K : PySem.W.Frag) : Sp := fun vs H Q _ => ∃ (a b : Addr) (u v : Int × Int) (n m : Nat), vs = [.ref a, .ref b] ∧ At K H a u ∧ At K H b v ∧ sz n u ∧ sz m v ∧ 0 < n ∧ 0 < m ∧ n + m ≤ 7000 ∧ Q (.bl (decide (u.1 * v.2 ≤ v.1 * u.2))) H
theorem scBelowE : FnScope ["one", "other"] ["one", "other"] (defScope sBelowE) := ⟨rfl, rfl, rfl, by decide +kernel, rfl, by decide +kernel, by decide +kernel⟩
theorem ok_belowE {f : Addr} {fd : FuncData} (F : Fun K "_law_ap_below" "_law_ap_below" sBelowE f fd) : FnOk P0 w K mg base CX0 1 f fd ["one", "other"] (spBelowE K) := by
  refine F.ok scBelowE (fun vs H Q E h => ?_) (fun cdv A outer s H vs Q E hr h => ?_)
  · obtain ⟨a, b, u, v, n, m, rfl, _⟩ := h
    rfl
  · obtain ⟨a, b, u, v, n, m, rfl, ha, hb, su, sv, n0, m0, hnm, k⟩ := h
    refine ⟨_, pss_one (ps_ret (pe_cmpR op_le (pe_op op_mulW (pe_ix ix_tup (pv 0) pe_int (fun _ _ => rfl)) (pe_ix ix_tup (pv 1) pe_int (fun _ _ => rfl))) (pe_op op_mulW (pe_ix ix_tup (pv 1) pe_int (fun _ _ => rfl)) (pe_ix ix_tup (pv 0) pe_int (fun _ _ => rfl))) (nomark _))), ?_⟩
    refine ⟨_, rfl, a, _, _, _, rfl, rfl, ha, rfl, _, rfl, b, _, _, _, rfl, rfl, hb, rfl, u.1, v.2, rfl, rfl, wide su.1 sv.2 n0 m0 (by omega), ?_⟩
    refine ⟨_, rfl, b, _, _, _, rfl, rfl, hb, rfl, _, rfl, a, _, _, _, rfl, rfl, ha, rfl, v.1, u.2, rfl, rfl, wide sv.1 su.2 m0 n0 (by omega), ?_⟩
    exact ⟨_, _, rfl, rfl, k⟩
end
theorem low_cross {t b : Int} (h : b ≠ 0) : (low t b).1 * b = t * (low t b).2 := by
  obtain ⟨t', ht⟩ := gI_l t b
  obtain ⟨b', hb⟩ := gI_r t b
  have hg := gI_pos (t := t) h
  have e1 : t / gI t b = t' := Int.ediv_eq_of_eq_mul_right (by omega) ht
  have e2 : b / gI t b = b' := Int.ediv_eq_of_eq_mul_right (by omega) hb
  have key : t' * b = t * b' := by
    have h1 : t' * b = t' * (gI t b * b') := by rw [← hb]
    have h2 : t * b' = gI t b * t' * b' := by rw [← ht]
    rw [h1, h2, ← Int.mul_assoc, Int.mul_comm t' (gI t b)]
  unfold low
  split
  · show -(t / gI t b) * b = t * -(b / gI t b)
    rw [e1, e2, Int.neg_mul, Int.mul_neg, key]
  · show t / gI t b * b = t * (b / gI t b)
    rw [e1, e2, key]
end Tw
namespace Dc
open PySem PySem.Spec PyProof.Rows L2
theorem ed_pow {X : Cx} {i j : Int} {a b p1 p2 pos} (h : CPow i j := by exact ⟨by decide, by decide, by decide⟩) : ED X (.BinOp (.Constant (.int i) a p1) .Pow (.Constant (.int j) b p2) pos) (.int (i ^ j.toNat)) :=
  pe_imp (pe_op op_pow pe_int pe_int) fun _ H _ k => ⟨i, j, rfl, rfl, h, k _ H (Same.refl _) (.int _)⟩
end Dc

namespace Tw
/-! ## what a count of runs comes to: mean and spread -/
def sumR : Nat → (Nat → Int) → Int
  | 0, _ => 0
  | n + 1, g => sumR n g + g n
theorem sumR_congr : ∀ {n : Nat} {f g : Nat → Int}, (∀ i, i < n → f i = g i) → sumR n f = sumR n g
  | 0, _, _, _ => rfl
  | n + 1, f, g, h => by
    show sumR n f + f n = sumR n g + g n
    rw [sumR_congr (fun i hi => h i (by omega)), h n (by omega)]
theorem sumR_front : ∀ (n : Nat) (g : Nat → Int), sumR (n + 1) g = g 0 + sumR n (fun i => g (i + 1))
  | 0, g => by
    show 0 + g 0 = g 0 + 0
    omega
  | n + 1, g => by
    show sumR (n + 1) g + g (n + 1) = g 0 + (sumR n (fun i => g (i + 1)) + g (n + 1))
    rw [sumR_front n g, Int.add_assoc]
theorem sumR_add : ∀ (n : Nat) (f g : Nat → Int), sumR n (fun i => f i + g i) = sumR n f + sumR n g
  | 0, _, _ => rfl
  | n + 1, f, g => by
    show sumR n (fun i => f i + g i) + (f n + g n) = sumR n f + f n + (sumR n g + g n)
    rw [sumR_add n f g]
    omega
theorem sumR_mul : ∀ (n : Nat) (a : Int) (f : Nat → Int), sumR n (fun i => a * f i) = a * sumR n f
  | 0, a, _ => (Int.mul_zero a).symm
  | n + 1, a, f => by
    show sumR n (fun i => a * f i) + a * f n = a * (sumR n f + f n)
    rw [sumR_mul n a f, Int.mul_add]
theorem sumR_le : ∀ {n : Nat} {f g : Nat → Int}, (∀ i, i < n → f i ≤ g i) → sumR n f ≤ sumR n g
  | 0, _, _, _ => Int.le_refl _
  | n + 1, f, g, h => by
    show sumR n f + f n ≤ sumR n g + g n
    have h1 := sumR_le (n := n) (f := f) (g := g) fun i hi => h i (by omega)
    have h2 := h n (by omega)
    omega
def mom (f : Nat → Int) (xs : List Int) : Int := sumR xs.length fun i => f i * xs.getD i 0
theorem tried_getD {c e : Int} {xs : List Int} {j : Nat} (h : j < xs.length + 1) : (tried c e xs).getD j 0 = tri c e xs xs.length j := by
  unfold tried
  rw [List.getD_eq_getElem?_getD, triL_get h]
  rfl
theorem mom_tried (f : Nat → Int) (c e : Int) (xs : List Int) : mom f (tried c e xs) = mom (fun i => c * f (i + 1) + e * f i) xs := by
  have hl : (tried c e xs).length = xs.length + 1 := triL_len c e xs xs.length
  unfold mom
  rw [hl]
  have h1 : sumR (xs.length + 1) (fun i => f i * (tried c e xs).getD i 0) = sumR (xs.length + 1) (fun j => f j * (if 0 < j ∧ j ≤ xs.length then xs.getD (j - 1) 0 * c else 0) + f j * (if j < xs.length then xs.getD j 0 * e else 0)) :=
    sumR_congr fun i hi => by
      rw [tried_getD hi]
      unfold tri
      rw [Int.mul_add]
  rw [h1, sumR_add]
  have h2 : sumR (xs.length + 1) (fun j => f j * (if 0 < j ∧ j ≤ xs.length then xs.getD (j - 1) 0 * c else 0)) = sumR xs.length (fun i => f (i + 1) * (xs.getD i 0 * c)) := by
    rw [sumR_front, if_neg (by omega), Int.mul_zero, Int.zero_add]
    refine sumR_congr fun i hi => ?_
    rw [if_pos ⟨by omega, by omega⟩, Nat.add_sub_cancel]
  have h3 : sumR (xs.length + 1) (fun j => f j * (if j < xs.length then xs.getD j 0 * e else 0)) = sumR xs.length (fun i => f i * (xs.getD i 0 * e)) := by
    show sumR xs.length _ + f xs.length * (if xs.length < xs.length then xs.getD xs.length 0 * e else 0) = _
    rw [if_neg (by omega), Int.mul_zero, Int.add_zero]
    exact sumR_congr fun i hi => by rw [if_pos hi]
  rw [h2, h3, ← sumR_add]
  exact sumR_congr fun i hi => by grind
theorem mom_all (c e : Int) : ∀ n : Nat, mom (fun _ => 1) (exN c e n) = (c + e) ^ n
  | 0 => by
    show 0 + 1 * 1 = _
    rw [Int.pow_zero]
    rfl
  | n + 1 => by
    show mom (fun _ => 1) (tried c e (exN c e n)) = _
    rw [mom_tried]
    have h : mom (fun _ => c * 1 + e * 1) (exN c e n) = (c + e) * mom (fun _ => 1) (exN c e n) := by
      unfold mom
      rw [← sumR_mul]
      exact sumR_congr fun i hi => by grind
    rw [h, mom_all c e n, Int.pow_succ, Int.mul_comm]
def sq (c e : Int) (n i : Nat) : Int := ((c + e) * (i : Int) - (n : Int) * c) * ((c + e) * (i : Int) - (n : Int) * c)
theorem mom_sq (c e : Int) : ∀ n : Nat, mom (sq c e n) (exN c e n) = (n : Int) * c * e * (c + e) ^ n
  | 0 => by
    show sumR 1 (fun i => sq c e 0 i * [1].getD i 0) = _
    show 0 + sq c e 0 0 * 1 = _
    unfold sq
    grind
  | n + 1 => by
    show mom (sq c e (n + 1)) (tried c e (exN c e n)) = _
    rw [mom_tried]
    have h : mom (fun i => c * sq c e (n + 1) (i + 1) + e * sq c e (n + 1) i) (exN c e n) = (c + e) * mom (sq c e n) (exN c e n) + c * e * (c + e) * mom (fun _ => 1) (exN c e n) := by
      unfold mom
      rw [← sumR_mul, ← sumR_mul, ← sumR_add]
      refine sumR_congr fun i hi => ?_
      have k1 : sq c e (n + 1) (i + 1) = ((c + e) * ((i : Int) + 1) - ((n : Int) + 1) * c) * ((c + e) * ((i : Int) + 1) - ((n : Int) + 1) * c) := rfl
      have k2 : sq c e (n + 1) i = ((c + e) * (i : Int) - ((n : Int) + 1) * c) * ((c + e) * (i : Int) - ((n : Int) + 1) * c) := rfl
      show (c * sq c e (n + 1) (i + 1) + e * sq c e (n + 1) i) * _ = (c + e) * (sq c e n i * _) + c * e * (c + e) * (1 * _)
      rw [k1, k2]
      unfold sq
      grind
    rw [h, mom_sq c e n, mom_all, Int.pow_succ]
    have e1 : ((n + 1 : Nat) : Int) = (n : Int) + 1 := by omega
    rw [e1]
    generalize (c + e) ^ n = z
    grind
theorem tried_nonneg {c e : Int} {xs : List Int} (hc : 0 ≤ c) (he : 0 ≤ e) (hx : ∀ x ∈ xs, 0 ≤ x) : ∀ x ∈ tried c e xs, 0 ≤ x := fun x h => by
  have g : ∀ k, 0 ≤ xs.getD k 0 := fun k => by
    rw [List.getD_eq_getElem?_getD]
    cases h : xs[k]? with
    | none => exact Int.le_refl _
    | some x => exact hx x (List.mem_of_getElem? h)
  obtain ⟨j, _, rfl⟩ := List.mem_map.mp h
  unfold tri
  refine Int.add_nonneg ?_ ?_
  · split
    · exact Int.mul_nonneg (g _) hc
    · exact Int.le_refl _
  · split
    · exact Int.mul_nonneg (g _) he
    · exact Int.le_refl _
theorem exN_nonneg {c e : Int} (hc : 0 ≤ c) (he : 0 ≤ e) : ∀ n, ∀ x ∈ exN c e n, 0 ≤ x
  | 0, x, h => by
    rw [List.mem_singleton.mp h]
    decide
  | n + 1, x, h => tried_nonneg hc he (exN_nonneg hc he n) x h
theorem getD_nonneg {xs : List Int} (hx : ∀ x ∈ xs, 0 ≤ x) (k : Nat) : 0 ≤ xs.getD k 0 := by
  rw [List.getD_eq_getElem?_getD]
  cases h : xs[k]? with
  | none => exact Int.le_refl _
  | some x => exact hx x (List.mem_of_getElem? h)
theorem sum_sumR : ∀ xs : List Int, xs.sum = sumR xs.length fun i => xs.getD i 0
  | [] => rfl
  | x :: xs => by
    rw [List.sum_cons, List.length_cons, sumR_front, sum_sumR xs]
    rfl
/-- the sum from b on, as a sum over all -/
theorem drop_sumR {xs : List Int} : ∀ {b : Nat}, (xs.drop b).sum = sumR xs.length fun i => if b ≤ i then xs.getD i 0 else 0 := by
  induction xs with
  | nil =>
    intro b
    rw [List.drop_nil]
    rfl
  | cons x xs ih =>
    intro b
    cases b with
    | zero =>
      rw [List.drop_zero, sum_sumR]
      exact sumR_congr fun i hi => by rw [if_pos (Nat.zero_le _)]
    | succ b =>
      rw [List.drop_succ_cons, ih, List.length_cons, sumR_front, if_neg (by omega), Int.zero_add]
      refine sumR_congr fun i hi => ?_
      by_cases h : b ≤ i
      · rw [if_pos h, if_pos (by omega)]
        rfl
      · rw [if_neg h, if_neg (by omega)]
theorem head_sumR {xs : List Int} (b : Nat) : xs.sum - (xs.drop b).sum = sumR xs.length fun i => if i < b then xs.getD i 0 else 0 := by
  have h : sumR xs.length (fun i => (if b ≤ i then xs.getD i 0 else 0) + (if i < b then xs.getD i 0 else 0)) = xs.sum := by
    rw [sum_sumR]
    refine sumR_congr fun i hi => ?_
    by_cases h : b ≤ i
    · rw [if_pos h, if_neg (by omega)]
      omega
    · rw [if_neg h, if_pos (by omega)]
      omega
  rw [sumR_add] at h
  rw [drop_sumR]
  omega
/-- those far from the mean are few: T at most each distance, squared -/
theorem far_few {c e T : Int} {n : Nat} (P : Nat → Prop) [DecidablePred P] (hc : 0 ≤ c) (he : 0 ≤ e) (h : ∀ i, i < n + 1 → P i → T ≤ sq c e n i) (hT : 0 ≤ T) :
    T * sumR (n + 1) (fun i => if P i then (exN c e n).getD i 0 else 0) ≤ (n : Int) * c * e * (c + e) ^ n := by
  rw [← mom_sq, ← sumR_mul]
  have hl := exN_len c e n
  unfold mom
  rw [hl]
  refine sumR_le fun i hi => ?_
  have hx := getD_nonneg (exN_nonneg hc he n) i
  have hs : 0 ≤ sq c e n i := by
    unfold sq
    rcases Int.le_total 0 ((c + e) * (i : Int) - (n : Int) * c) with z | z
    · exact Int.mul_nonneg z z
    · exact Int.mul_nonneg_of_nonpos_of_nonpos z z
  split
  · rename_i hp
    exact Int.mul_le_mul_of_nonneg_right (h i hi hp) hx
  · rw [Int.mul_zero]
    exact Int.mul_nonneg hs hx
end Tw

namespace Tw
open PySem PySem.Spec PyProof.Rows L2
open Wt Dc
theorem far_few2 {c e T M : Int} {n : Nat} (P : Nat → Prop) [DecidablePred P] (hc : 0 ≤ c) (he : 0 ≤ e) (hM : 0 ≤ M) (h : ∀ i, i < n + 1 → P i → T ≤ M * sq c e n i) :
    T * sumR (n + 1) (fun i => if P i then (exN c e n).getD i 0 else 0) ≤ M * ((n : Int) * c * e * (c + e) ^ n) := by
  rw [← mom_sq, ← sumR_mul]
  have hl := exN_len c e n
  unfold mom
  rw [hl, ← sumR_mul]
  refine sumR_le fun i hi => ?_
  have hx := getD_nonneg (exN_nonneg hc he n) i
  have hs : 0 ≤ sq c e n i := by
    unfold sq
    rcases Int.le_total 0 ((c + e) * (i : Int) - (n : Int) * c) with z | z
    · exact Int.mul_nonneg z z
    · exact Int.mul_nonneg_of_nonpos_of_nonpos z z
  split
  · rename_i hp
    rw [← Int.mul_assoc]
    exact Int.mul_le_mul_of_nonneg_right (h i hi hp) hx
  · rw [Int.mul_zero]
    exact Int.mul_nonneg hM (Int.mul_nonneg hs hx)
theorem sq_le {x y : Int} (h : 0 ≤ x) (h1 : x ≤ y) : x * x ≤ y * y := Int.mul_le_mul h1 h1 h (Int.le_trans h h1)
theorem sq_le_neg {x y : Int} (h : 0 ≤ x) (h1 : y ≤ -x) : x * x ≤ y * y := by
  have := sq_le h (show x ≤ -y by omega)
  rw [Int.neg_mul_neg] at this
  exact this
theorem four_le (c e : Int) : 4 * (c * e) ≤ (c + e) * (c + e) := by
  have h : 0 ≤ (c - e) * (c - e) := by
    rcases Int.le_total 0 (c - e) with z | z
    · exact Int.mul_nonneg z z
    · exact Int.mul_nonneg_of_nonpos_of_nonpos z z
  have h2 : (c + e) * (c + e) = (c - e) * (c - e) + 4 * (c * e) := by grind
  omega
/-- what is far is little: S the sum of what is far -/
theorem little {n G c e d D2 a b S Z : Int} (hn : 1 ≤ n) (hG : 1 ≤ G) (hd : d = c + e) (hS : n * G * (n * G) * S ≤ 4 * (D2 * D2) * (n * c * e * Z)) (hZ : 0 ≤ Z) (hb : 0 ≤ b) (hD2 : 0 ≤ D2 * D2)
    (hA : d * D2 * (d * D2) * b ≤ n * a * (G * G)) : S * b ≤ a * Z := by
  have k1 : 4 * (D2 * D2) * (n * c * e * Z) = (D2 * D2 * (n * Z)) * (4 * (c * e)) := by grind
  have k2 : (D2 * D2 * (n * Z)) * (4 * (c * e)) ≤ (D2 * D2 * (n * Z)) * ((c + e) * (c + e)) := Int.mul_le_mul_of_nonneg_left (four_le c e) (Int.mul_nonneg hD2 (Int.mul_nonneg (by omega) hZ))
  have k3 : n * G * (n * G) * S ≤ n * (d * D2 * (d * D2) * Z) := by
    have z : (D2 * D2 * (n * Z)) * ((c + e) * (c + e)) = n * (d * D2 * (d * D2) * Z) := by
      subst hd
      grind
    omega
  have k4 : n * (n * (G * G) * S) ≤ n * (d * D2 * (d * D2) * Z) := by
    have z : n * G * (n * G) * S = n * (n * (G * G) * S) := by grind
    omega
  have k5 : n * (G * G) * S ≤ d * D2 * (d * D2) * Z := Int.le_of_mul_le_mul_left k4 (by omega)
  have k6 : n * (G * G) * S * b ≤ d * D2 * (d * D2) * Z * b := Int.mul_le_mul_of_nonneg_right k5 hb
  have k7 : d * D2 * (d * D2) * b * Z ≤ n * a * (G * G) * Z := Int.mul_le_mul_of_nonneg_right hA hZ
  have k8 : n * (G * G) * (S * b) ≤ n * (G * G) * (a * Z) := by
    have z1 : n * (G * G) * (S * b) = n * (G * G) * S * b := by grind
    have z2 : d * D2 * (d * D2) * Z * b = d * D2 * (d * D2) * b * Z := by grind
    have z3 : n * (G * G) * (a * Z) = n * a * (G * G) * Z := by grind
    omega
  exact Int.le_of_mul_le_mul_left k8 (Int.mul_pos (by omega) (Int.mul_pos (by omega) (by omega)))
theorem exN_sum (c e : Int) (n : Nat) : (exN c e n).sum = (c + e) ^ n := by
  rw [sum_sumR, exN_len, ← mom_all]
  unfold mom
  rw [exN_len]
  exact sumR_congr fun i _ => (Int.one_mul _).symm
theorem sure_cross {w : Int × Int} (h : 0 < w.2) : (sureW w).1 * w.2 = (w.2 - w.1) * (sureW w).2 := by
  have e : (low (1 * w.2 + (0 - w.1) * 1) (1 * w.2)).1 * (1 * w.2) = (1 * w.2 + (0 - w.1) * 1) * (low (1 * w.2 + (0 - w.1) * 1) (1 * w.2)).2 := low_cross (by omega)
  show (low (1 * w.2 + (0 - w.1) * 1) (1 * w.2)).1 * w.2 = (w.2 - w.1) * (low (1 * w.2 + (0 - w.1) * 1) (1 * w.2)).2
  rw [Int.one_mul, Int.mul_one] at e ⊢
  rw [show w.2 - w.1 = w.2 + (0 - w.1) by omega]
  exact e
theorem sure_pos {w : Int × Int} (h : 0 < w.2) : 0 < (sureW w).2 := by
  have : isW (sureW w) := low_isW (by show 1 * w.2 ≠ 0; omega)
  have := isW_pos this
  omega
/-- tries of the spread, the bar at the mean: enough -/
theorem cheb {l g w : Int × Int} {n bar : Nat} (l0 : 0 ≤ l.1) (l1 : l.1 ≤ l.2) (ld : 0 < l.2) (g0 : 0 ≤ g.1) (g1 : g.1 ≤ g.2) (gd : 0 < g.2) (hw : 0 < w.2)
    (hG : l.1 * g.2 < g.1 * l.2) (hn : 1 ≤ n)
    (hA : l.2 * g.2 * (l.2 * g.2) * w.2 ≤ (n : Int) * w.1 * ((g.1 * l.2 - l.1 * g.2) * (g.1 * l.2 - l.1 * g.2)))
    (hb : (n : Int) * (l.1 * g.2 + g.1 * l.2) ≤ 2 * (l.2 * g.2) * (bar : Int)) (hb1 : 2 * (l.2 * g.2) * ((bar : Int) - 1) < (n : Int) * (l.1 * g.2 + g.1 * l.2)) : cond l g w n bar = true := by
  obtain ⟨c1, d1⟩ := l
  obtain ⟨c2, d2⟩ := g
  obtain ⟨a, b⟩ := w
  simp only at l0 l1 ld g0 g1 gd hw hG hA hb hb1
  have hn' : (1 : Int) ≤ n := by omega
  have hG' : 1 ≤ c2 * d1 - c1 * d2 := by omega
  have hnG : 0 ≤ (n : Int) * (c2 * d1 - c1 * d2) := Int.mul_nonneg (by omega) (by omega)
  have e1 : c1 + (d1 - c1) = d1 := by omega
  have e2 : c2 + (d2 - c2) = d2 := by omega
  -- from the bar on
  have A : tl (c1, d1) n bar * b ≤ a * d1 ^ n := by
    have hS : (n : Int) * (c2 * d1 - c1 * d2) * ((n : Int) * (c2 * d1 - c1 * d2)) * sumR (n + 1) (fun i => if bar ≤ i then (exN c1 (d1 - c1) n).getD i 0 else 0) ≤ 4 * (d2 * d2) * ((n : Int) * c1 * (d1 - c1) * (c1 + (d1 - c1)) ^ n) :=
      far_few2 (fun i => bar ≤ i) l0 (by omega) (Int.mul_nonneg (by decide) (Int.mul_nonneg (by omega) (by omega))) fun i hi hp => by
        have m1 : 2 * (d1 * d2) * (bar : Int) ≤ 2 * (d1 * d2) * (i : Int) := Int.mul_le_mul_of_nonneg_left (by omega) (Int.mul_nonneg (by decide) (Int.mul_nonneg (by omega) (by omega)))
        have m2 : (n : Int) * (c2 * d1 - c1 * d2) ≤ 2 * d2 * (d1 * (i : Int) - (n : Int) * c1) := by
          have z1 : 2 * d2 * (d1 * (i : Int) - (n : Int) * c1) = 2 * (d1 * d2) * (i : Int) - 2 * ((n : Int) * (c1 * d2)) := by grind
          have z2 : (n : Int) * (c1 * d2 + c2 * d1) = (n : Int) * (c2 * d1 - c1 * d2) + 2 * ((n : Int) * (c1 * d2)) := by grind
          omega
        have m3 := sq_le hnG m2
        unfold sq
        rw [e1]
        have z : 4 * (d2 * d2) * ((d1 * (i : Int) - (n : Int) * c1) * (d1 * (i : Int) - (n : Int) * c1)) = 2 * d2 * (d1 * (i : Int) - (n : Int) * c1) * (2 * d2 * (d1 * (i : Int) - (n : Int) * c1)) := by grind
        rw [z]
        exact m3
    have := little (d := d1) (a := a) (b := b) hn' hG' (by omega) hS (by rw [e1]; exact Int.le_of_lt (Int.pow_pos ld)) (by omega) (Int.mul_nonneg (by omega) (by omega)) hA
    rw [e1] at this
    show ((exN c1 (d1 - c1) n).drop bar).sum * b ≤ _
    rw [drop_sumR, exN_len]
    exact this
  -- below the bar
  have B : (d2 ^ n - tl (c2, d2) n bar) * b ≤ a * d2 ^ n := by
    have hS : (n : Int) * (c2 * d1 - c1 * d2) * ((n : Int) * (c2 * d1 - c1 * d2)) * sumR (n + 1) (fun i => if i < bar then (exN c2 (d2 - c2) n).getD i 0 else 0) ≤ 4 * (d1 * d1) * ((n : Int) * c2 * (d2 - c2) * (c2 + (d2 - c2)) ^ n) :=
      far_few2 (fun i => i < bar) g0 (by omega) (Int.mul_nonneg (by decide) (Int.mul_nonneg (by omega) (by omega))) fun i hi hp => by
        have m1 : 2 * (d1 * d2) * (i : Int) ≤ 2 * (d1 * d2) * ((bar : Int) - 1) := Int.mul_le_mul_of_nonneg_left (by omega) (Int.mul_nonneg (by decide) (Int.mul_nonneg (by omega) (by omega)))
        have m2 : 2 * d1 * (d2 * (i : Int) - (n : Int) * c2) ≤ -((n : Int) * (c2 * d1 - c1 * d2)) := by
          have z1 : 2 * d1 * (d2 * (i : Int) - (n : Int) * c2) = 2 * (d1 * d2) * (i : Int) - 2 * ((n : Int) * (c2 * d1)) := by grind
          have z2 : (n : Int) * (c1 * d2 + c2 * d1) = 2 * ((n : Int) * (c2 * d1)) - (n : Int) * (c2 * d1 - c1 * d2) := by grind
          omega
        have m3 := sq_le_neg hnG m2
        unfold sq
        rw [e2]
        have z : 4 * (d1 * d1) * ((d2 * (i : Int) - (n : Int) * c2) * (d2 * (i : Int) - (n : Int) * c2)) = 2 * d1 * (d2 * (i : Int) - (n : Int) * c2) * (2 * d1 * (d2 * (i : Int) - (n : Int) * c2)) := by grind
        rw [z]
        exact m3
    have := little (d := d2) (a := a) (b := b) hn' hG' (by omega) hS (by rw [e2]; exact Int.le_of_lt (Int.pow_pos gd)) (by omega) (Int.mul_nonneg (by omega) (by omega)) (by rw [Int.mul_comm d2 d1]; exact hA)
    rw [e2] at this
    have z : d2 ^ n - tl (c2, d2) n bar = sumR (n + 1) (fun i => if i < bar then (exN c2 (d2 - c2) n).getD i 0 else 0) := by
      have q := head_sumR (xs := exN c2 (d2 - c2) n) bar
      rw [exN_sum, exN_len, e2] at q
      exact q
    rw [z]
    exact this
  have C : (sureW (a, b)).1 * d2 ^ n ≤ tl (c2, d2) n bar * (sureW (a, b)).2 := by
    have p := sure_pos (w := (a, b)) hw
    have q : (sureW (a, b)).1 * b = (b - a) * (sureW (a, b)).2 := sure_cross (w := (a, b)) hw
    generalize (sureW (a, b)).1 = s1 at *
    generalize (sureW (a, b)).2 = s2 at *
    generalize tl (c2, d2) n bar = t at *
    generalize d2 ^ n = z at *
    have h1 : (b - a) * z ≤ t * b := by
      have y : (z - t) * b = z * b - t * b := Int.sub_mul _ _ _
      have y2 : (b - a) * z = z * b - a * z := by grind
      omega
    have h2 : (b - a) * z * s2 ≤ t * b * s2 := Int.mul_le_mul_of_nonneg_right h1 (by omega)
    refine Int.le_of_mul_le_mul_left (a := b) ?_ hw
    have y1 : b * (s1 * z) = (b - a) * z * s2 := by
      have : b * (s1 * z) = s1 * b * z := by grind
      rw [this, q]
      grind
    have y2 : b * (t * s2) = t * b * s2 := by grind
    omega
  unfold cond
  rw [decide_eq_true A, decide_eq_true C]
  rfl
theorem cond_lst {l g w : Int × Int} {n b : Nat} (h1 : 1 ≤ n) (h2 : n ≤ 40) (h3 : 1 ≤ b) (h4 : b ≤ n) (h : cond l g w n b = true) : ∃ n' b', Lst l g w n' b' ∧ n' ≤ n := by
  induction n using Nat.strongRecOn generalizing b with
  | ind n ih =>
    by_cases z : ∃ n' b', 1 ≤ n' ∧ 1 ≤ b' ∧ b' ≤ n' ∧ n' < n ∧ cond l g w n' b' = true
    · obtain ⟨n', b', z1, z2, z3, z4, z5⟩ := z
      obtain ⟨m, x, y, y2⟩ := ih n' z4 z1 (by omega) z2 z3 z5
      exact ⟨m, x, y, by omega⟩
    · induction b using Nat.strongRecOn with
      | ind b ihb =>
        by_cases y : ∃ b', 1 ≤ b' ∧ b' < b ∧ cond l g w n b' = true
        · obtain ⟨b', y1, y2, y3⟩ := y
          exact ihb b' y2 y1 (by omega) y3
        · refine ⟨n, b, ⟨h1, h2, h3, h4, h, fun n' b' q1 q2 q3 q4 => ?_⟩, Nat.le_refl _⟩
          cases q : cond l g w n' b' with
          | false => rfl
          | true =>
            rcases q4 with q4 | ⟨rfl, q4⟩
            · exact absurd ⟨n', b', q1, q2, q3, q4, q⟩ z
            · exact absurd ⟨b', q2, q4, q⟩ y
end Tw

namespace Tw
open PySem PySem.Spec PyProof.Rows L2
open Wt Dc
abbrev sChanceL : Stmt := Pre.top 42
abbrev sTail : Stmt := Pre.top 40
theorem pw20 : (2 : Nat) ^ 20 = 1048576 := by decide
section
variable {P0 : Program} {w : World} {K : PySem.W.Frag} {mg : Str → Option Value} {base : Heap}
/-- a drawn chance -/
def spChanceL (K : PySem.W.Frag) : Sp := fun vs H Q _ => ∃ (p g c : Addr) (n : Nat), vs = [.ref p] ∧ Pre.St H p g c n ∧ n < 2 ^ 39 ∧ ∀ (H' : Hp) (a : Addr) (t b : Int), Pre.Kp p g H H' → Pre.St H' p g c (n + 3) → At K (wo p g H') a (t, b) → isW (t, b) → 0 ≤ t → t ≤ b → b ≤ 1000000 → Q (.ref a) H'
theorem scChanceL : FnScope ["state", "bottom"] ["state"] (defScope sChanceL) := ⟨rfl, rfl, rfl, by decide +kernel, rfl, by decide +kernel, by decide +kernel⟩
theorem chroom_at {i : Nat} {x : V} (h : ([V.int 1, .int 2, .int 6, .int 12, .int 100, .int (10 ^ (6 : Int).toNat)] : List V)[i]? = some x) : ∃ u : Int, x = .int u ∧ 1 ≤ u ∧ u ≤ 1000000 := by
  have := List.mem_of_getElem? h
  simp only [List.mem_cons, List.not_mem_nil, or_false] at this
  rcases this with rfl | rfl | rfl | rfl | rfl | rfl <;> exact ⟨_, rfl, by decide, by decide⟩
theorem ok_chanceL {f fD fP fB fL : Addr} {fd dD dP dB dL : FuncData} (F : Fun K "_law_ap_chance" "_law_ap_chance" sChanceL f fd) (D : Drw K mg fD fP fB dD dP dB) (FL : Fun K "_law_cp_lowest" "_law_cp_lowest" sLowest fL dL) (mL : mg "_law_cp_lowest" = some (.ref fL)) : FnOk P0 w K mg base CX0 4 f fd ["state"] (spChanceL K) := by
  have GD : FnOk P0 w K mg base CX0 2 fD dD ["state", "room"] Pre.spDraw := Pre.ok_draw D.FD D.T D.FB D.mB
  have GP : FnOk P0 w K mg base CX0 3 fP dP ["state", "some"] (Pre.spPick K) := Pre.ok_pick D.FP D.T D.FD D.mD D.FB D.mB
  have GL : FnOk P0 w K mg base CX0 1 fL dL ["top", "bottom"] spLowest := ok_lowest FL D.T
  have bD := D.FD.binds (ps := ["state", "room"]) fun _ _ _ _ _ _ us hl => match us, hl with | [_, _], _ => rfl
  have bP := D.FP.binds (ps := ["state", "some"]) fun _ _ _ _ _ _ us hl => match us, hl with | [_, _], _ => rfl
  have bL := FL.binds (ps := ["top", "bottom"]) fun _ _ _ _ _ _ us hl => match us, hl with | [_, _], _ => rfl
  refine F.ok scChanceL (fun vs H Q E h => ?_) (fun cdv A outer s H vs Q E hr h => ?_)
  · obtain ⟨p, g, c, n, rfl, _⟩ := h
    rfl
  · obtain ⟨p, g, c, n, rfl, hs, hn, k⟩ := h
    have nd := scChanceL.nd
    have hr1 : Room 1 _ := hr.mono (by decide)
    have hr2 : Room 2 _ := hr.mono (by decide)
    refine ⟨_, pss_cons (ps_set (i := 1) nd rfl (Or.inl rfl) (pe_op op_add pe_int (pe_call GD hr2 (by rfl) D.mD D.FD.kp bD .nil pass0 (pa_cons (pv 0) (pa_cons (pe_call GP hr (by rfl) D.mP D.FP.kp bP .nil pass0 (pa_cons (pv 0) (pa_cons (pe_lst (pa_cons pe_int (pa_cons pe_int (pa_cons pe_int (pa_cons pe_int (pa_cons pe_int (pa_cons (pe_op op_pow pe_int pe_int) pa_nil))))))) pa_nil))) pa_nil)))))
      (pss_one (ps_ret (pe_call GL hr1 (by rfl) mL FL.kp bL .nil pass0 (pa_cons (pe_call GD hr2 (by rfl) D.mD D.FD.kp bD .nil pass0 (pa_cons (pv 0) (pa_cons (pe_op op_add (pv 1) pe_int) pa_nil))) (pa_cons (pv 1) pa_nil))))), ?_⟩
    refine ⟨_, rfl, _, rfl, 10, 6, rfl, rfl, ⟨by decide, by decide, by decide⟩, by show 6 ≤ sizeLine; decide, fun l hl => ?_⟩
    have nl := st_new hs hl
    have s0 := Pre.same_upd (o := .lst [.int 1, .int 2, .int 6, .int 12, .int 100, .int (10 ^ (6 : Int).toNat)]) hl
    refine ⟨p, g, c, n, l, [.int 1, .int 2, .int 6, .int 12, .int 100, .int (10 ^ (6 : Int).toNat)], rfl, st_same hs s0, by omega, upd_same, nl.2, by decide, by decide, fun H1 i y kp1 st1 hi hy => ?_⟩
    obtain ⟨u, rfl, u0, u1⟩ := chroom_at hy
    refine ⟨p, g, c, n + 1, u, rfl, st1, by omega, by omega, by omega, fun H2 bt kp2 st2 b0 b1 => ?_⟩
    refine ⟨1, bt, rfl, rfl, ?_⟩
    refine ⟨_, rfl, _, rfl, _, _, rfl, rfl, p, g, c, n + 2, 1 + bt + 1, rfl, st2, by omega, by omega, by omega, fun H3 t kp3 st3 t0 t1 => ?_⟩
    have big : ∀ x : Int, 0 ≤ x → x ≤ 1000000 → x.natAbs < 2 ^ 20 := fun x h0 h1 => by
      rw [pw20]
      omega
    refine ⟨_, rfl, t, 1 + bt, 20, rfl, by omega, big t t0 (by omega), big (1 + bt) (by omega) (by omega), by decide, by decide, fun r H4 s4 hr4 => ?_⟩
    obtain ⟨w0, w1, w2, w3⟩ := low_share t0 (show t ≤ 1 + bt by omega) (show 0 < 1 + bt by omega)
    have st4 := st_same st3 s4
    exact k H4 r (low t (1 + bt)).1 (low t (1 + bt)).2 (((Pre.Kp.of s0).trans kp1).trans (kp2.trans (kp3.trans (Pre.Kp.of s4)))) st4 (sqT_same nt_sub (at_wx (SqT.of hr4) st4)) (low_isW (by omega)) w0 w1 (by omega)
structure TlL (K : PySem.W.Frag) (mg : Str → Option Value) (fP fT : Addr) (dP dT : FuncData) : Prop where
  zl : mg "len" = none
  ze : mg "enumerate" = none
  zg : mg "range" = none
  zs : mg "sum" = none
  FP : Fun K "_law_ap_power" "_law_ap_power" sPower fP dP
  mP : mg "_law_ap_power" = some (.ref fP)
  FT : Fun K "_law_ap_tried" "_law_ap_tried" sTried fT dT
  mT : mg "_law_ap_tried" = some (.ref fT)
/-- the chance of bar runs or more out of n tries -/
def spTailL (K : PySem.W.Frag) : Sp := fun vs H Q _ => ∃ (ch : Addr) (u : Int × Int) (n b nb : Nat), vs = [.ref ch, .int (n : Int), .int (b : Int)] ∧ At K H ch u ∧ Chn nb u ∧ 0 < nb ∧ nb ≤ 100 ∧ n ≤ 40 ∧ b ≤ n ∧
  ∀ r H', Same H H' → At K H' r (tl u n b, u.2 ^ n) → Q (.ref r) H'
theorem scTail : FnScope ["chance", "tries", "bar", "exact", "lap"] ["chance", "tries", "bar"] (defScope sTail) := ⟨rfl, rfl, rfl, by decide +kernel, rfl, by decide +kernel, by decide +kernel⟩
theorem cut_drop {xs : List Int} {b : Nat} (h : b ≤ xs.length) : cutV (xs.map V.int) (some (b : Int)) none = (xs.drop b).map V.int := by
  unfold cutV
  rw [HT.sIx_nat, HT.sIx_none, List.length_map, Nat.min_eq_left h, List.map_drop]
  exact List.take_of_length_le (by rw [List.length_drop, List.length_map]; exact Nat.le_refl _)
theorem ok_tailL {f fP fT : Addr} {fd dP dT : FuncData} (F : Fun K "_law_ap_tail" "_law_ap_tail" sTail f fd) (T : TlL K mg fP fT dP dT) : FnOk P0 w K mg base CX0 2 f fd ["chance", "tries", "bar"] (spTailL K) := by
  have GP : FnOk P0 w K mg base CX0 1 fP dP ["base", "many"] spPower := ok_power T.FP T.zg
  have GT : FnOk P0 w K mg base CX0 1 fT dT ["exact", "chance"] (spTried K) := ok_tried T.FT T.zl T.ze
  have bP := T.FP.binds (ps := ["base", "many"]) fun _ _ _ _ _ _ us hl => match us, hl with | [_, _], _ => rfl
  have bT := T.FT.binds (ps := ["exact", "chance"]) fun _ _ _ _ _ _ us hl => match us, hl with | [_, _], _ => rfl
  refine F.ok scTail (fun vs H Q E h => ?_) (fun cdv A outer s H vs Q E hr h => ?_)
  · obtain ⟨ch, u, n, b, nb, rfl, _⟩ := h
    rfl
  · obtain ⟨ch, u, n, b, nb, rfl, hch, hu, n0, n1, hn, hb, k⟩ := h
    have nd := scTail.nd
    refine ⟨_, pss_cons (ps_set (i := 3) nd rfl (Or.inl rfl) (pe_lst (pa_cons pe_int pa_nil)))
      (pss_cons (ps_for PassesOwn.never rfl (pi_range1 (by rfl) T.zg (pa_cons (pv 1) pa_nil)) (pg_name (i := 4) nd rfl (Or.inl rfl)) (pss_one (ps_set (i := 3) nd rfl (Or.inl rfl) (pe_call GT hr (by rfl) T.mT T.FT.kp bT .nil pass0 (pa_cons (pv 3) (pa_cons (pv 0) pa_nil))))))
      (pss_one (ps_ret (pe_tup (pa_cons (pe_callB (cr_sum (by rfl)) (by rfl) T.zs (by decide +kernel) (pa_cons (pe_slice sl_list (pv 3) (po_some (pv 2)) po_none) pa_nil)) (pa_cons (pe_call GP hr (by rfl) T.mP T.FP.kp bP .nil pass0 (pa_cons (pe_ix ix_tup (pv 0) pe_int (fun _ _ => rfl)) (pa_cons (pv 1) pa_nil))) pa_nil)))))), ?_⟩
    refine ⟨by show 1 ≤ sizeLine; decide, fun l0 hl0 => ?_⟩
    have s0 := Pre.same_upd (o := .lst [.int 1]) hl0
    refine ⟨_, rfl, (n : Int), rfl, by omega, by omega, for_range (n := (n : Int).toNat) (fun i σ H' => ∃ (l : Addr) (lp : Option V), σ = [some (.ref ch), some (.int (n : Int)), some (.int (b : Int)), some (.ref l), lp] ∧ Same H H' ∧ H' l = some (.lst ((exN u.1 (u.2 - u.1) i).map V.int))) ⟨l0, none, rfl, s0, upd_same⟩ ?_ ?_⟩
    · rintro i σ H2 hi ⟨l, lp, rfl, s2, h2⟩
      rw [Int.toNat_natCast] at hi
      have hle : i * (nb + 1) ≤ 40 * 101 := Nat.mul_le_mul (by omega) (by omega)
      refine ⟨_, rfl, _, rfl, l, ch, exN u.1 (u.2 - u.1) i, u.1, u.2, 1 + i * (nb + 1), nb, rfl, SqL.of h2, sqT_same s2 hch, exN_lt hu.c1 hu.c2 i, hu.c1, hu.c2, by omega, n0, by omega, by rw [exN_len]; omega, fun l3 H3 s3 hl3 h3 => ?_⟩
      exact ⟨l3, _, rfl, s2.trans s3, h3⟩
    · rintro σ H2 ⟨l, lp, rfl, s2, h2⟩
      rw [Int.toNat_natCast] at h2
      refine ⟨_, rfl, _, rfl, _, rfl, l, _, rfl, SqL.of h2, fun q hq => ?_⟩
      have s3 := s2.trans (Pre.same_upd (o := .lst (cutV ((exN u.1 (u.2 - u.1) n).map V.int) (some (b : Int)) none)) hq)
      refine ⟨q, (exN u.1 (u.2 - u.1) n).drop b, rfl, SqL.of (by rw [upd_same, cut_drop (by rw [exN_len]; omega)]), ?_⟩
      refine ⟨_, rfl, ch, _, _, _, rfl, rfl, sqT_same s3 hch, rfl, _, rfl, u.2, n, nb, rfl, hu.c3, n0, n1, by omega, ?_⟩
      refine ⟨by show 2 ≤ sizeLine; decide, fun r hr' => ?_⟩
      exact k r _ (s3.trans (Pre.same_upd hr')) (SqT.of upd_same)
end
end Tw

namespace Us
open PySem PySem.Spec PyProof.Rows L2
open Wt
theorem vals_rev3 {zs : List V} {ws : List Value} (h : Vals zs ws) (hl : ws.length = 3) : Vals zs.reverse ws.reverse := by
  match ws, hl with
  | [a, b, c], _ =>
    cases h with
    | cons h1 h => cases h with
      | cons h2 h => cases h with
        | cons h3 h =>
          cases h
          exact .cons h3 (.cons h2 (.cons h1 .nil))
/-- three keywords, the last parameter's first -/
theorem pe_kw3r {X : Cx} {CX : CXT} {k : Nat} {f : Addr} {fd : FuncData} {sp : Sp} {x a b c : Str} {p pos : Pos} {e1 e2 e3 : Expr} {t1 t2 t3 : TE} {kp1 kp2 kp3 : Pos} (U : Use X.prog X.w X.K X.mg CX k x [a, b, c] sp f fd) (hr : Room k X.A) (hx : Passes CX X E0) (hb : ∀ (s : Shared) (u v z : Value), X.K.In s.heap → BindsTo s fd ⟨[], [(c, z), (b, v), (a, u)]⟩ [(a, u), (b, v), (c, z)]) (h1 : PE X e1 t1) (h2 : PE X e2 t2) (h3 : PE X e3 t3) (hg : Gl X x := by rfl)
    (hall : (backToKw pos (keywordEach [⟨some c, e1, kp1⟩, ⟨some b, e2, kp2⟩, ⟨some a, e3, kp3⟩] X.env)).all (·.1.isSome) = true := by rfl) (hks : (backToKw pos (keywordEach [⟨some c, e1, kp1⟩, ⟨some b, e2, kp2⟩, ⟨some a, e3, kp3⟩] X.env)).filterMap (·.1) = [c, b, a] := by rfl) (hdb : (x == ("__debug__" : Str)) = false := by decide)
    (hpl : ((backTo pos (starEach [] X.env)).any (·.1) || (backToKw pos (keywordEach [⟨some c, e1, kp1⟩, ⟨some b, e2, kp2⟩, ⟨some a, e3, kp3⟩] X.env)).any (·.1.isNone)) = false := by rfl) : PE X (.Call (.Name x p) [] [⟨some c, e1, kp1⟩, ⟨some b, e2, kp2⟩, ⟨some a, e3, kp3⟩] pos) (tKw sp List.reverse (tCons t1 (tCons t2 (tCons t3 tNil)))) :=
  pe_kw (ks := [c, b, a]) (ord := List.reverse) (ordW := List.reverse) U hr hx (fun s ws kin h => match ws, h with | [z, v, u], _ => hb s u v z kin) (fun _ _ r h => vals_rev3 r h) (pk_cons h1 (pk_cons h2 (pk_cons h3 pk_nil))) (fun zs ws r _ h => by rw [← r.length]; rw [List.length_reverse] at h; exact h) hg hall hks hdb hpl
end Us
namespace Tw
open PySem PySem.Spec PyProof.Rows L2
open Wt Dc Us
theorem go_cut {t u : TS} {D : Ends} {σ : L2.St} {H : Hp} (Post : L2.St → Hp → Prop) (h1 : ∀ σ' H', Post σ' H' → u D σ' H') (h2 : ∀ nx' : L2.St → Hp → Prop, (∀ σ' H', Post σ' H' → nx' σ' H') → t { D with nx := nx' } σ H) : tSeq t u D σ H := h2 (u D) h1
/-- whether data is a chance -/
def isChD : PyData → Bool
  | .tuple [.int c, .int d] => isWt (.tuple [.int c, .int d]) && (decide (0 ≤ c) && decide (c ≤ d))
  | _ => false
def SmD (dx : PyData) : Prop := ∀ c d, dx = .tuple [.int c, .int d] → c.natAbs < 2 ^ 60 ∧ d.natAbs < 2 ^ 60
abbrev Sh (d : PyData) : Prop := SeqAt.shaped d = true
theorem isCh_of {c d : Int} (h : isW (c, d)) (h0 : 0 ≤ c) (h1 : c ≤ d) : isChD (.tuple [.int c, .int d]) = true := by
  have z : isWt (.tuple [.int c, .int d]) = true := h
  show (isWt (.tuple [.int c, .int d]) && (decide (0 ≤ c) && decide (c ≤ d))) = true
  rw [z, decide_eq_true h0, decide_eq_true h1]
  rfl
def smB (d : PyData) : Bool := match d with
  | .tuple [.int c, .int d] => decide (c.natAbs < 2000000000) && decide (d.natAbs < 2000000000)
  | _ => true
theorem smB_ok {d : PyData} (h : smB d = true) : SmD d := fun a b e => by
  subst e
  have z : (decide (a.natAbs < 2000000000) && decide (b.natAbs < 2000000000)) = true := h
  rw [Bool.and_eq_true] at z
  have z1 := of_decide_eq_true z.1
  have z2 := of_decide_eq_true z.2
  have : (2 : Nat) ^ 60 = 1152921504606846976 := by decide
  omega
abbrev wD (u : Int × Int) : PyData := .tuple [.int u.1, .int u.2]
def isWishD : PyData → Bool
  | .tuple [.int c, .int d] => isWt (.tuple [.int c, .int d]) && (decide (0 < c) && decide (2 * c < d))
  | _ => false
def loW (u v : Int × Int) : Int × Int := if u.1 * v.2 ≤ v.1 * u.2 then u else v
def hiW (u v : Int × Int) : Int × Int := if u.1 * v.2 ≤ v.1 * u.2 then v else u
theorem wish_pair {d : PyData} (h : isWishD d = true) : ∃ u : Int × Int, d = wD u ∧ isW u ∧ 0 < u.1 ∧ 2 * u.1 < u.2 := by
  match d, h with
  | .tuple [.int a, .int b], h =>
    have z : (isWt (.tuple [.int a, .int b]) && (decide (0 < a) && decide (2 * a < b))) = true := h
    rw [Bool.and_eq_true, Bool.and_eq_true] at z
    exact ⟨(a, b), rfl, z.1, of_decide_eq_true z.2.1, of_decide_eq_true z.2.2⟩
def SmT (d : PyData) : Prop := SmD d ∧ Sh d
theorem eqv_pair {u v : Int × Int} (h : PyData.eqv (wD u) (wD v) = true) : u = v := by
  have z : ((u.1 == v.1) && ((u.2 == v.2) && true)) = true := h
  rw [Bool.and_true, Bool.and_eq_true] at z
  exact Prod.ext (by simpa using z.1) (by simpa using z.2)
theorem wD_inj {u v : Int × Int} (h : wD u = wD v) : u = v := by
  injection h with h
  injection h with h1 h
  injection h with h2 h
  injection h1 with h1
  injection h2 with h2
  exact Prod.ext h1 h2
theorem dp_pair {K : PySem.W.Frag} {H : Hp} {x : V} {u : Int × Int} (h : Dp K H x (wD u)) : ∃ a, x = .ref a ∧ At K H a u := by
  cases h with
  | tup q r =>
    cases r with
    | cons h1 r => cases r with
      | cons h2 r =>
        cases r
        cases h1
        cases h2
        exact ⟨_, rfl, q⟩
theorem cross_eq {u v : Int × Int} (hu : isW u) (hv : isW v) (h : u.1 * v.2 = v.1 * u.2) : u = v := by
  have pu := isW_pos hu
  have pv := isW_pos hv
  have gu : (decide (1 ≤ u.2) && (gI u.1 u.2 == 1)) = true := hu
  have gv : (decide (1 ≤ v.2) && (gI v.1 v.2 == 1)) = true := hv
  rw [Bool.and_eq_true] at gu gv
  have gu1 : gI u.1 u.2 = 1 := by simpa using gu.2
  have gv1 : gI v.1 v.2 = 1 := by simpa using gv.2
  have cu : Nat.Coprime u.2.natAbs u.1.natAbs := by
    have z : (Int.gcd u.1 u.2 : Int) = 1 := gu1
    rw [Nat.coprime_iff_gcd_eq_one, Nat.gcd_comm]
    exact_mod_cast z
  have cv : Nat.Coprime v.2.natAbs v.1.natAbs := by
    have z : (Int.gcd v.1 v.2 : Int) = 1 := gv1
    rw [Nat.coprime_iff_gcd_eq_one, Nat.gcd_comm]
    exact_mod_cast z
  have hn : u.1.natAbs * v.2.natAbs = v.1.natAbs * u.2.natAbs := by rw [← Int.natAbs_mul, ← Int.natAbs_mul, h]
  have d1 : u.2.natAbs ∣ v.2.natAbs := cu.dvd_of_dvd_mul_left ⟨v.1.natAbs, by rw [hn, Nat.mul_comm]⟩
  have d2 : v.2.natAbs ∣ u.2.natAbs := cv.dvd_of_dvd_mul_left ⟨u.1.natAbs, by rw [← hn, Nat.mul_comm]⟩
  have e := Nat.dvd_antisymm d1 d2
  have e2 : u.2 = v.2 := by omega
  rw [e2] at h
  have e1 : u.1 = v.1 := Int.eq_of_mul_eq_mul_right (by omega) h
  exact Prod.ext e1 e2
theorem lohi_swap {u v : Int × Int} (hu : isW u) (hv : isW v) (h : u ≠ v) : loW v u = loW u v ∧ hiW v u = hiW u v := by
  have ne : u.1 * v.2 ≠ v.1 * u.2 := fun z => h (cross_eq hu hv z)
  unfold loW hiW
  rcases Int.lt_or_le (u.1 * v.2) (v.1 * u.2) with q | q
  · rw [if_neg (by omega), if_pos (by omega), if_neg (by omega), if_pos (by omega)]
    exact ⟨rfl, rfl⟩
  · rw [if_pos (by omega), if_neg (by omega), if_pos (by omega), if_neg (by omega)]
    exact ⟨rfl, rfl⟩
/-- what the fewest tries' def keeps -/
def spLT (K : PySem.W.Frag) (CW CT : Addr) : Sp := fun vs H Q E => ∃ x y z dx dy dz, vs = [x, y, z] ∧ Dp K H x dx ∧ Dp K H y dy ∧ Dp K H z dz ∧ SmT dx ∧ SmT dy ∧ SmT dz ∧
  (isChD dx = false → ∀ H', Same H H' → E (.ref CW) none H') ∧
  (isChD dx = true → (isChD dy && !PyData.eqv dx dy) = false → ∀ H', Same H H' → E (.ref CW) none H') ∧
  (isChD dx = true → (isChD dy && !PyData.eqv dx dy) = true → isWishD dz = false → ∀ H', Same H H' → E (.ref CW) none H') ∧
  (∀ u v w, dx = wD u → dy = wD v → dz = wD w → isChD dx = true → (isChD dy && !PyData.eqv dx dy) = true → isWishD dz = true → NoL (loW u v) (hiW u v) w → ∀ d H', Same H H' → H d = none → H' d = some (.xd [("most", .int 40)]) → E (.ref CT) (some d) H') ∧
  (∀ u v w n b, dx = wD u → dy = wD v → dz = wD w → isChD dx = true → (isChD dy && !PyData.eqv dx dy) = true → isWishD dz = true → Lst (loW u v) (hiW u v) w n b → ∀ r H', Same H H' → SqT K H' r [.int (n : Int), .int (b : Int)] → Q (.ref r) H')
theorem smD_big {u : Int × Int} (h1 : u.1.natAbs < 2 ^ 60) (h2 : u.2.natAbs < 2 ^ 60) : SmD (wD u) := fun c d e => by
  have := wD_inj (v := (c, d)) e
  subst this
  exact ⟨h1, h2⟩
/-- tries of the spread, the bar at the mean -/
structure Ent (l g w : Int × Int) (n b : Nat) : Prop where
  n1 : 1 ≤ n
  e1 : l.2 * g.2 * (l.2 * g.2) * w.2 ≤ (n : Int) * w.1 * ((g.1 * l.2 - l.1 * g.2) * (g.1 * l.2 - l.1 * g.2))
  e2 : ((n : Int) - 1) * w.1 * ((g.1 * l.2 - l.1 * g.2) * (g.1 * l.2 - l.1 * g.2)) < l.2 * g.2 * (l.2 * g.2) * w.2
  b1 : (n : Int) * (l.1 * g.2 + g.1 * l.2) ≤ 2 * (l.2 * g.2) * (b : Int)
  b2 : 2 * (l.2 * g.2) * ((b : Int) - 1) < (n : Int) * (l.1 * g.2 + g.1 * l.2)
/-- what the enough tries' def keeps -/
def spET (K : PySem.W.Frag) (CW : Addr) : Sp := fun vs H Q E => ∃ x y z dx dy dz, vs = [x, y, z] ∧ Dp K H x dx ∧ Dp K H y dy ∧ Dp K H z dz ∧ SmT dx ∧ SmT dy ∧ SmT dz ∧
  (isChD dx = false → ∀ H', Same H H' → E (.ref CW) none H') ∧
  (isChD dx = true → (isChD dy && !PyData.eqv dx dy) = false → ∀ H', Same H H' → E (.ref CW) none H') ∧
  (isChD dx = true → (isChD dy && !PyData.eqv dx dy) = true → isWishD dz = false → ∀ H', Same H H' → E (.ref CW) none H') ∧
  (∀ u v w n b, dx = wD u → dy = wD v → dz = wD w → isChD dx = true → (isChD dy && !PyData.eqv dx dy) = true → isWishD dz = true → Ent (loW u v) (hiW u v) w n b → ∀ r H', Same H H' → SqT K H' r [.int (n : Int), .int (b : Int)] → Q (.ref r) H')
/-! ## the numbers that pairs stand for -/
structure Val (p : Int × Int) (t b : Int) : Prop where
  b0 : 0 < b
  p0 : 0 < p.2
  e : p.1 * b = t * p.2
theorem val_self {p : Int × Int} (h : 0 < p.2) : Val p p.1 p.2 := ⟨h, h, rfl⟩
theorem val_low {t b : Int} (h : 0 < b) : Val (low t b) t b := ⟨h, low_pos (by omega), low_cross (by omega)⟩
theorem val_mul {p q : Int × Int} {t b t' b' : Int} (h : Val p t b) (h' : Val q t' b') : Val (mulW p q) (t * t') (b * b') := by
  have hz := Int.mul_pos h.p0 h'.p0
  refine ⟨Int.mul_pos h.b0 h'.b0, low_pos (by show p.2 * q.2 ≠ 0; omega), ?_⟩
  have e : (mulW p q).1 * (p.2 * q.2) = p.1 * q.1 * (mulW p q).2 := low_cross (by omega)
  refine Int.eq_of_mul_eq_mul_right (a := p.2 * q.2) (by omega) ?_
  have e1 := h.e
  have e2 := h'.e
  generalize (mulW p q).1 = x at *
  generalize (mulW p q).2 = y at *
  have z1 : x * (b * b') * (p.2 * q.2) = x * (p.2 * q.2) * (b * b') := by grind
  have z2 : p.1 * q.1 * y * (b * b') = (p.1 * b) * (q.1 * b') * y := by grind
  rw [z1, e, z2, e1, e2]
  grind
theorem val_add {p q : Int × Int} {t b t' b' : Int} (h : Val p t b) (h' : Val q t' b') : Val (addW p q) (t * b' + t' * b) (b * b') := by
  have hz := Int.mul_pos h.p0 h'.p0
  refine ⟨Int.mul_pos h.b0 h'.b0, low_pos (by show p.2 * q.2 ≠ 0; omega), ?_⟩
  have e : (addW p q).1 * (p.2 * q.2) = (p.1 * q.2 + q.1 * p.2) * (addW p q).2 := low_cross (by omega)
  refine Int.eq_of_mul_eq_mul_right (a := p.2 * q.2) (by omega) ?_
  have e1 := h.e
  have e2 := h'.e
  generalize (addW p q).1 = x at *
  generalize (addW p q).2 = y at *
  have z1 : x * (b * b') * (p.2 * q.2) = x * (p.2 * q.2) * (b * b') := by grind
  have z2 : (p.1 * q.2 + q.1 * p.2) * y * (b * b') = ((p.1 * b) * (q.2 * b') + (q.1 * b') * (p.2 * b)) * y := by grind
  rw [z1, e, z2, e1, e2]
  grind
theorem val_le {p q : Int × Int} {t b t' b' : Int} (h : Val p t b) (h' : Val q t' b') : p.1 * q.2 ≤ q.1 * p.2 ↔ t * b' ≤ t' * b := by
  have e1 := h.e
  have e2 := h'.e
  have z1 : p.1 * q.2 * (b * b') = t * b' * (p.2 * q.2) := by
    have : p.1 * q.2 * (b * b') = p.1 * b * (q.2 * b') := by grind
    rw [this, e1]
    grind
  have z2 : q.1 * p.2 * (b * b') = t' * b * (p.2 * q.2) := by
    have : q.1 * p.2 * (b * b') = q.1 * b' * (p.2 * b) := by grind
    rw [this, e2]
    grind
  have hb := Int.mul_pos h.b0 h'.b0
  have hp := Int.mul_pos h.p0 h'.p0
  constructor
  · intro k
    have := Int.mul_le_mul_of_nonneg_right k (show 0 ≤ b * b' by omega)
    rw [z1, z2] at this
    exact Int.le_of_mul_le_mul_right this hp
  · intro k
    have := Int.mul_le_mul_of_nonneg_right k (show 0 ≤ p.2 * q.2 by omega)
    rw [← z1, ← z2] at this
    exact Int.le_of_mul_le_mul_right this hb
theorem lohi_facts (u v : Int × Int) : ((hiW u v).1 * (loW u v).2 - (loW u v).1 * (hiW u v).2) * ((hiW u v).1 * (loW u v).2 - (loW u v).1 * (hiW u v).2) = (u.1 * v.2 + (0 - v.1) * u.2) * (u.1 * v.2 + (0 - v.1) * u.2) ∧ (loW u v).2 * (hiW u v).2 = u.2 * v.2 ∧ (loW u v).1 * (hiW u v).2 + (hiW u v).1 * (loW u v).2 = u.1 * v.2 + v.1 * u.2 := by
  unfold loW hiW
  split
  · exact ⟨by grind, rfl, rfl⟩
  · exact ⟨by grind, Int.mul_comm _ _, by grind⟩
/-- the law's two asks for the tries -/
theorem part_le {u v w : Int × Int} {n : Int} (hu : 0 < u.2) (hv : 0 < v.2) (hw : 0 < w.2) :
    (1 * (mulW (n, 1) (mulW w (mulW (addW u (0 - v.1, v.2)) (addW u (0 - v.1, v.2))))).2 ≤ (mulW (n, 1) (mulW w (mulW (addW u (0 - v.1, v.2)) (addW u (0 - v.1, v.2))))).1 * 1) ↔
    (loW u v).2 * (hiW u v).2 * ((loW u v).2 * (hiW u v).2) * w.2 ≤ n * w.1 * (((hiW u v).1 * (loW u v).2 - (loW u v).1 * (hiW u v).2) * ((hiW u v).1 * (loW u v).2 - (loW u v).1 * (hiW u v).2)) := by
  obtain ⟨f1, f2, f3⟩ := lohi_facts u v
  rw [f1, f2]
  have a := val_add (val_self hu) (val_self (p := (0 - v.1, v.2)) hv)
  have b := val_mul (val_self (p := (n, 1)) (by show (0 : Int) < 1; decide)) (val_mul (val_self hw) (val_mul a a))
  have c := val_le (val_self (p := (1, 1)) (by decide)) b
  refine c.trans ?_
  show 1 * (1 * (w.2 * (u.2 * v.2 * (u.2 * v.2)))) ≤ n * (w.1 * ((u.1 * v.2 + (0 - v.1) * u.2) * (u.1 * v.2 + (0 - v.1) * u.2))) * 1 ↔ _
  have z1 : 1 * (1 * (w.2 * (u.2 * v.2 * (u.2 * v.2)))) = u.2 * v.2 * (u.2 * v.2) * w.2 := by grind
  have z2 : n * (w.1 * ((u.1 * v.2 + (0 - v.1) * u.2) * (u.1 * v.2 + (0 - v.1) * u.2))) * 1 = n * w.1 * ((u.1 * v.2 + (0 - v.1) * u.2) * (u.1 * v.2 + (0 - v.1) * u.2)) := by grind
  rw [z1, z2]
theorem mean_le {u v : Int × Int} {n b : Int} (hu : 0 < u.2) (hv : 0 < v.2) :
    ((mulW (n, 2) (addW u v)).1 * 1 ≤ b * (mulW (n, 2) (addW u v)).2) ↔ n * ((loW u v).1 * (hiW u v).2 + (hiW u v).1 * (loW u v).2) ≤ 2 * ((loW u v).2 * (hiW u v).2) * b := by
  obtain ⟨f1, f2, f3⟩ := lohi_facts u v
  rw [f2, f3]
  have a := val_mul (val_self (p := (n, 2)) (by show (0 : Int) < 2; decide)) (val_add (val_self hu) (val_self hv))
  have c := val_le a (val_self (p := (b, 1)) (by show (0 : Int) < 1; decide))
  refine c.trans ?_
  show n * (u.1 * v.2 + v.1 * u.2) * 1 ≤ b * (2 * (u.2 * v.2)) ↔ _
  have z1 : n * (u.1 * v.2 + v.1 * u.2) * 1 = n * (u.1 * v.2 + v.1 * u.2) := by grind
  have z2 : b * (2 * (u.2 * v.2)) = 2 * (u.2 * v.2) * b := by grind
  rw [z1, z2]
/-! ## what such tries are -/
structure Apart (l g w : Int × Int) : Prop where
  l0 : 0 ≤ l.1
  l1 : l.1 ≤ l.2
  ld : 0 < l.2
  g0 : 0 ≤ g.1
  g1 : g.1 ≤ g.2
  gd : 0 < g.2
  w0 : 0 < w.1
  wd : 0 < w.2
  lt : l.1 * g.2 < g.1 * l.2
theorem apart_of {u v w : Int × Int} (hu : isW u) (hv : isW v) (u0 : 0 ≤ u.1) (u1 : u.1 ≤ u.2) (v0 : 0 ≤ v.1) (v1 : v.1 ≤ v.2) (ne : u ≠ v) (w0 : 0 < w.1) (wd : 0 < w.2) : Apart (loW u v) (hiW u v) w := by
  have ne' : u.1 * v.2 ≠ v.1 * u.2 := fun z => ne (cross_eq hu hv z)
  have pu := isW_pos hu
  have pv := isW_pos hv
  unfold loW hiW
  split
  · exact ⟨u0, u1, by omega, v0, v1, by omega, w0, wd, by omega⟩
  · exact ⟨v0, v1, by omega, u0, u1, by omega, w0, wd, by omega⟩
theorem Ent.bar {l g w : Int × Int} {n b : Nat} (a : Apart l g w) (h : Ent l g w n b) : 1 ≤ b ∧ b ≤ n := by
  have hD := Int.mul_pos a.ld a.gd
  have h1 : 0 ≤ l.1 * g.2 := Int.mul_nonneg a.l0 (Int.le_of_lt a.gd)
  have h2 : 0 < l.1 * g.2 + g.1 * l.2 := by have := a.lt; omega
  have h3 : l.1 * g.2 ≤ l.2 * g.2 := Int.mul_le_mul_of_nonneg_right a.l1 (Int.le_of_lt a.gd)
  have h4 : g.1 * l.2 ≤ l.2 * g.2 := by
    rw [Int.mul_comm l.2 g.2]
    exact Int.mul_le_mul_of_nonneg_right a.g1 (Int.le_of_lt a.ld)
  have n1 := h.n1
  have h5 : 0 < (n : Int) * (l.1 * g.2 + g.1 * l.2) := Int.mul_pos (by omega) h2
  have b1 := h.b1
  have b2 := h.b2
  constructor
  · rcases Nat.eq_zero_or_pos b with z | z
    · subst z
      rw [show ((0 : Nat) : Int) = 0 from rfl, Int.mul_zero] at b1
      omega
    · exact z
  · have h6 : (n : Int) * (l.1 * g.2 + g.1 * l.2) ≤ (n : Int) * (2 * (l.2 * g.2)) := Int.mul_le_mul_of_nonneg_left (by omega) (by omega)
    have h7 : 2 * (l.2 * g.2) * ((b : Int) - 1) < 2 * (l.2 * g.2) * (n : Int) := by
      rw [Int.mul_comm (2 * (l.2 * g.2)) (n : Int)]
      omega
    have := Int.lt_of_mul_lt_mul_left h7 (by omega)
    omega
theorem Ent.cond {l g w : Int × Int} {n b : Nat} (a : Apart l g w) (h : Ent l g w n b) : cond l g w n b = true :=
  cheb a.l0 a.l1 a.ld a.g0 a.g1 a.gd a.wd a.lt h.n1 h.e1 h.b1 h.b2
theorem Ent.lt {l g w : Int × Int} {n b : Nat} {k m : Nat} (a : Apart l g w) (h : Ent l g w n b) (hl : l.2.natAbs < 2 ^ k) (hg : g.2.natAbs < 2 ^ k) (hw : w.2.natAbs < 2 ^ m) : n ≤ 2 ^ (4 * k + m) := by
  have hG : 1 ≤ (g.1 * l.2 - l.1 * g.2) * (g.1 * l.2 - l.1 * g.2) := by
    have : 0 < g.1 * l.2 - l.1 * g.2 := by have := a.lt; omega
    have := Int.mul_pos this this
    omega
  have n1 := h.n1
  have w0 := a.w0
  have h1 : ((n : Int) - 1) * 1 ≤ ((n : Int) - 1) * (w.1 * ((g.1 * l.2 - l.1 * g.2) * (g.1 * l.2 - l.1 * g.2))) := Int.mul_le_mul_of_nonneg_left (by have := Int.mul_pos (show 0 < w.1 by omega) (show 0 < (g.1 * l.2 - l.1 * g.2) * (g.1 * l.2 - l.1 * g.2) by omega); omega) (by omega)
  have h2 := h.e2
  rw [Int.mul_assoc] at h2
  have h3 : (n : Int) - 1 < l.2 * g.2 * (l.2 * g.2) * w.2 := by omega
  have d1 := mul_lt2 hl hg
  have d2 := mul_lt2 (mul_lt2 d1 d1) hw
  have d3 : k + k + (k + k) + m = 4 * k + m := by omega
  rw [d3] at d2
  omega
theorem Ent.one {l g w : Int × Int} {n b n' b' : Nat} (a : Apart l g w) (h : Ent l g w n b) (h' : Ent l g w n' b') : n = n' ∧ b = b' := by
  have hG : 0 < (g.1 * l.2 - l.1 * g.2) * (g.1 * l.2 - l.1 * g.2) := by
    have : 0 < g.1 * l.2 - l.1 * g.2 := by have := a.lt; omega
    exact Int.mul_pos this this
  have hZ : 0 < w.1 * ((g.1 * l.2 - l.1 * g.2) * (g.1 * l.2 - l.1 * g.2)) := Int.mul_pos a.w0 hG
  have le : ∀ {x y x' y' : Nat}, Ent l g w x y → Ent l g w x' y' → x ≤ x' := fun {x y x' y'} k k' => by
    have h1 := k.e2
    have h2 := k'.e1
    rw [Int.mul_assoc ((x : Int) - 1)] at h1
    rw [Int.mul_assoc (x' : Int)] at h2
    have : ((x : Int) - 1) * (w.1 * ((g.1 * l.2 - l.1 * g.2) * (g.1 * l.2 - l.1 * g.2))) < (x' : Int) * (w.1 * ((g.1 * l.2 - l.1 * g.2) * (g.1 * l.2 - l.1 * g.2))) := by omega
    have := Int.lt_of_mul_lt_mul_right this (by omega)
    omega
  have en : n = n' := Nat.le_antisymm (le h h') (le h' h)
  subst en
  refine ⟨rfl, ?_⟩
  have hD := Int.mul_pos a.ld a.gd
  have le2 : ∀ {y y' : Nat}, Ent l g w n y → Ent l g w n y' → y ≤ y' := fun {y y'} k k' => by
    have h1 := k.b2
    have h2 := k'.b1
    have : 2 * (l.2 * g.2) * ((y : Int) - 1) < 2 * (l.2 * g.2) * (y' : Int) := by omega
    have := Int.lt_of_mul_lt_mul_left this (by omega)
    omega
  exact Nat.le_antisymm (le2 h h') (le2 h' h)
end Tw

namespace Tw
open PySem PySem.Spec PyProof.Rows L2
open Wt Dc Us
abbrev sEnough : Stmt := Pre.top 43
theorem iteN {c : Bool} {A B : Prop} (h : c = true) (k : B) : if (!c) = true then A else B := by
  subst h
  exact iteF k
theorem iteF2 {c : Bool} {A B : Prop} (h : c = false) (k : B) : if c = true then A else B := by
  subst h
  exact iteF k
section
variable {P0 : Program} {w : World} {K : PySem.W.Frag} {mg : Str → Option Value} {base : Heap}
structure EnL (P0 : Program) (w : World) (K : PySem.W.Frag) (mg : Str → Option Value) (CW CT fL fPw fT fTl fR fBe fPl fTi fet flt : Addr) (dL dPw dT dTl dR dBe dPl dTi det dlt : FuncData) (kA : Nat) : Prop where
  T : Pre.TxtP mg
  tl : TlL K mg fPw fT dPw dT
  FL : Fun K "_law_cp_lowest" "_law_cp_lowest" sLowest fL dL
  mL : mg "_law_cp_lowest" = some (.ref fL)
  FTl : Fun K "_law_ap_tail" "_law_ap_tail" sTail fTl dTl
  mTl : mg "_law_ap_tail" = some (.ref fTl)
  FR : Fun K "_law_ap_rest" "_law_ap_rest" sRest fR dR
  mR : mg "_law_ap_rest" = some (.ref fR)
  FB : Fun K "_law_ap_below" "_law_ap_below" sBelowE fBe dBe
  mB : mg "_law_ap_below" = some (.ref fBe)
  FPl : Fun K "_law_cp_plus" "_law_cp_plus" sCpPlus fPl dPl
  mPl : mg "_law_cp_plus" = some (.ref fPl)
  FTi : Fun K "_law_cp_times" "_law_cp_times" sCpTimes fTi dTi
  mTi : mg "_law_cp_times" = some (.ref fTi)
  hkA : kA ≤ 10
  et : Use P0 w K mg (L2.CX P0 w) kA "enough_tries" ["one", "other", "wish"] (spET K CW) fet det
  bet : Binds K det ["one", "other", "wish"] []
  lt : Use P0 w K mg (L2.CX P0 w) kA "least_tries" ["one", "other", "wish"] (spLT K CW CT) flt dlt
  blt : Binds K dlt ["one", "other", "wish"] []
/-- the tries for a pair of chances exist -/
def HasEnt (u v w : Int × Int) : Prop := ∃ n b, Ent (loW u v) (hiW u v) w n b
def spEnough (K : PySem.W.Frag) : Sp := fun vs H Q _ => ∃ (a b c : Addr) (u v x : Int × Int), vs = [.ref a, .ref b, .ref c] ∧ At K H a u ∧ At K H b v ∧ At K H c x ∧ isW u ∧ isW v ∧ 0 ≤ u.1 ∧ u.1 ≤ u.2 ∧ 0 ≤ v.1 ∧ v.1 ≤ v.2 ∧ u ≠ v ∧ u.2.natAbs < 2 ^ 41 ∧ v.2.natAbs < 2 ^ 41 ∧ isWishD (wD x) = true ∧ x.2.natAbs < 2 ^ 30 ∧
  ∀ H', Same H H' → Q (.bl true) H'
abbrev nEnough : List Str := ["one", "other", "wish", "tries", "bar", "gap", "part", "mean", "lesser", "greater"]
theorem scEnough : FnScope nEnough ["one", "other", "wish"] (defScope sEnough) := ⟨rfl, rfl, rfl, by decide +kernel, rfl, by decide +kernel, by decide +kernel⟩
set_option maxHeartbeats 2000000 in
theorem ok_enough {f CW CT fL fPw fT fTl fR fBe fPl fTi fet flt : Addr} {fd dL dPw dT dTl dR dBe dPl dTi det dlt : FuncData} {kA : Nat} (F : Fun K "_law_is_enough" "_law_is_enough" sEnough f fd) (T : EnL P0 w K mg CW CT fL fPw fT fTl fR fBe fPl fTi fet flt dL dPw dT dTl dR dBe dPl dTi det dlt kA) : FnOk P0 w K mg base CX0 11 f fd ["one", "other", "wish"] (spEnough K) := by
  have GPl : FnOk P0 w K mg base CX0 2 fPl dPl ["one", "other"] (spCpBin K addW) := ok_cpplus T.FPl T.T T.FL T.mL
  have GTi : FnOk P0 w K mg base CX0 2 fTi dTi ["one", "other"] (spCpBin K mulW) := ok_cptimes T.FTi T.T T.FL T.mL
  have GB : FnOk P0 w K mg base CX0 1 fBe dBe ["one", "other"] (spBelowE K) := ok_belowE T.FB
  have GTl : FnOk P0 w K mg base CX0 2 fTl dTl ["chance", "tries", "bar"] (spTailL K) := ok_tailL T.FTl T.tl
  have GR : FnOk P0 w K mg base CX0 3 fR dR ["weights"] (spRest K) := ok_rest T.FR T.T T.FPl T.mPl T.FL T.mL
  have bPl := T.FPl.binds (ps := ["one", "other"]) fun _ _ _ _ _ _ us hl => match us, hl with | [_, _], _ => rfl
  have bTi := T.FTi.binds (ps := ["one", "other"]) fun _ _ _ _ _ _ us hl => match us, hl with | [_, _], _ => rfl
  have bB := T.FB.binds (ps := ["one", "other"]) fun _ _ _ _ _ _ us hl => match us, hl with | [_, _], _ => rfl
  have bTl := T.FTl.binds (ps := ["chance", "tries", "bar"]) fun _ _ _ _ _ _ us hl => match us, hl with | [_, _, _], _ => rfl
  have bR := T.FR.binds (ps := ["weights"]) fun _ _ _ _ _ _ us hl => match us, hl with | [_], _ => rfl
  refine F.ok scEnough (fun vs H Q E h => ?_) (fun cdv A outer s H vs Q E hr h => ?_)
  · obtain ⟨a, b, c, u, v, x, rfl, _⟩ := h
    rfl
  · obtain ⟨a, b, c, u, v, x, rfl, ha, hb, hc, hu, hv, u0, u1, v0, v1, hne, su, sv, hx, sx, k⟩ := h
    have nd := scEnough.nd
    have hr1 : Room 1 _ := hr.mono (by decide)
    have hr2 : Room 2 _ := hr.mono (by decide)
    have hr3 : Room 3 _ := hr.mono (by decide)
    have hrA : Room kA _ := hr.mono (Nat.le_trans T.hkA (by decide))
    apply Exists.intro
    apply And.intro
    apply pss_cons
    · exact (ps_asg (pe_useN T.et hrA T.bet .nil (pa_cons (pv 0) (pa_cons (pv 1) (pa_cons (pv 2) pa_nil)))) (pg_tup (by rfl) (pgs_cons (pg_name (i := 3) nd rfl (Or.inl rfl)) (pgs_cons (pg_name (i := 4) nd rfl (Or.inl rfl)) pgs_nil))))
    apply pss_cons
    · exact (ps_set (i := 5) nd rfl (Or.inl rfl) (pe_call GPl hr2 (by rfl) T.mPl T.FPl.kp bPl .nil pass0 (pa_cons (pv 0) (pa_cons (pe_tup (pa_cons (pe_op op_sub pe_int (pe_ix ix_tup (pv 1) pe_int (fun _ _ => rfl))) (pa_cons (pe_ix ix_tup (pv 1) pe_int (fun _ _ => rfl)) pa_nil))) pa_nil))))
    apply pss_cons
    · exact (ps_set (i := 6) nd rfl (Or.inl rfl) (pe_call GTi hr2 (by rfl) T.mTi T.FTi.kp bTi .nil pass0 (pa_cons (pv 2) (pa_cons (pe_call GTi hr2 (by rfl) T.mTi T.FTi.kp bTi .nil pass0 (pa_cons (pv 5) (pa_cons (pv 5) pa_nil))) pa_nil))))
    apply pss_cons
    · exact (ps_if (pt_not (pt_val (pe_call GB hr1 (by rfl) T.mB T.FB.kp bB .nil pass0 (pa_cons (pe_tup (pa_cons pe_int (pa_cons pe_int pa_nil))) (pa_cons (pe_call GTi hr2 (by rfl) T.mTi T.FTi.kp bTi .nil pass0 (pa_cons (pe_tup (pa_cons (pv 3) (pa_cons pe_int pa_nil))) (pa_cons (pv 6) pa_nil))) pa_nil))))) (pss_one (ps_ret pe_bl)) pss_nil)
    apply pss_cons
    · exact (ps_if (pt_val (pe_call GB hr1 (by rfl) T.mB T.FB.kp bB .nil pass0 (pa_cons (pe_tup (pa_cons pe_int (pa_cons pe_int pa_nil))) (pa_cons (pe_call GTi hr2 (by rfl) T.mTi T.FTi.kp bTi .nil pass0 (pa_cons (pe_tup (pa_cons (pe_op op_sub (pv 3) pe_int) (pa_cons pe_int pa_nil))) (pa_cons (pv 6) pa_nil))) pa_nil)))) (pss_one (ps_ret pe_bl)) pss_nil)
    apply pss_cons
    · exact (ps_set (i := 7) nd rfl (Or.inl rfl) (pe_call GTi hr2 (by rfl) T.mTi T.FTi.kp bTi .nil pass0 (pa_cons (pe_tup (pa_cons (pv 3) (pa_cons pe_int pa_nil))) (pa_cons (pe_call GPl hr2 (by rfl) T.mPl T.FPl.kp bPl .nil pass0 (pa_cons (pv 0) (pa_cons (pv 1) pa_nil))) pa_nil))))
    apply pss_cons
    · exact (ps_if (PW.pt (pw_or (pt_not (pt_val (pe_call GB hr1 (by rfl) T.mB T.FB.kp bB .nil pass0 (pa_cons (pv 7) (pa_cons (pe_tup (pa_cons (pv 4) (pa_cons pe_int pa_nil))) pa_nil))))) (pw_or1 (pt_val (pe_call GB hr1 (by rfl) T.mB T.FB.kp bB .nil pass0 (pa_cons (pv 7) (pa_cons (pe_tup (pa_cons (pe_op op_sub (pv 4) pe_int) (pa_cons pe_int pa_nil))) pa_nil))))))) (pss_one (ps_ret pe_bl)) pss_nil)
    apply pss_cons
    · exact (ps_if (pt_cmpR op_gt (pv 3) pe_int (nomark _)) (pss_one (ps_ret pe_bl)) pss_nil)
    apply pss_cons
    · exact (ps_asg (pe_ifExp (pt_val (pe_call GB hr1 (by rfl) T.mB T.FB.kp bB .nil pass0 (pa_cons (pv 0) (pa_cons (pv 1) pa_nil)))) (pe_tup (pa_cons (pv 0) (pa_cons (pv 1) pa_nil))) (pe_tup (pa_cons (pv 1) (pa_cons (pv 0) pa_nil)))) (pg_tup (by rfl) (pgs_cons (pg_name (i := 8) nd rfl (Or.inl rfl)) (pgs_cons (pg_name (i := 9) nd rfl (Or.inl rfl)) pgs_nil))))
    apply pss_cons
    · exact (ps_if (pt_not (pt_val (pe_call GB hr1 (by rfl) T.mB T.FB.kp bB .nil pass0 (pa_cons (pe_call GTl hr2 (by rfl) T.mTl T.FTl.kp bTl .nil pass0 (pa_cons (pv 8) (pa_cons (pv 3) (pa_cons (pv 4) pa_nil)))) (pa_cons (pv 2) pa_nil))))) (pss_one (ps_ret pe_bl)) pss_nil)
    apply pss_cons
    · exact (ps_if (pt_not (pt_val (pe_call GB hr1 (by rfl) T.mB T.FB.kp bB .nil pass0 (pa_cons (pe_call GR hr3 (by rfl) T.mR T.FR.kp bR .nil pass0 (pa_cons (pe_lst (pa_cons (pv 2) pa_nil)) pa_nil)) (pa_cons (pe_call GTl hr2 (by rfl) T.mTl T.FTl.kp bTl .nil pass0 (pa_cons (pv 9) (pa_cons (pv 3) (pa_cons (pv 4) pa_nil)))) pa_nil))))) (pss_one (ps_ret pe_bl)) pss_nil)
    · exact pss_one (ps_ret (pe_cmpR op_le (pe_ix ix_tup (pe_useN T.lt hrA T.blt .nil (pa_cons (pv 0) (pa_cons (pv 1) (pa_cons (pv 2) pa_nil)))) pe_int (fun _ _ => rfl)) (pv 3) (nomark _)))
    have pu := isW_pos hu
    have pv := isW_pos hv
    obtain ⟨y, hxe, hxw, xw0, xw1⟩ := wish_pair hx
    obtain rfl := wD_inj hxe
    have px := isW_pos hxw
    have A := apart_of (w := x) hu hv u0 u1 v0 v1 hne xw0 (by omega)
    have e41 : (2 : Nat) ^ 41 = 2199023255552 := by decide
    have e60 : (2 : Nat) ^ 60 = 1152921504606846976 := by decide
    have e30 : (2 : Nat) ^ 30 = 1073741824 := by decide
    have cU : Chn 41 u := ⟨by omega, by omega, by omega, su⟩
    have cV : Chn 41 v := ⟨by omega, by omega, by omega, sv⟩
    have smU : SmT (wD u) := ⟨smD_big (by omega) (by omega), rfl⟩
    have smV : SmT (wD v) := ⟨smD_big (by omega) (by omega), rfl⟩
    have smX : SmT (wD x) := ⟨smD_big (by omega) (by omega), rfl⟩
    have chU : isChD (wD u) = true := isCh_of (c := u.1) (d := u.2) hu u0 u1
    have chV : isChD (wD v) = true := isCh_of (c := v.1) (d := v.2) hv v0 v1
    have une : PyData.eqv (wD u) (wD v) = false := by
      cases q : PyData.eqv (wD u) (wD v) with
      | false => rfl
      | true => exact absurd (eqv_pair q) hne
    have both : (isChD (wD v) && !PyData.eqv (wD u) (wD v)) = true := by rw [chV, une]; rfl
    -- the tries
    refine ⟨_, rfl, _, rfl, _, rfl, .ref a, .ref b, .ref c, wD u, wD v, wD x, rfl, at_dp ha, at_dp hb, at_dp hc, smU, smV, smX, fun q => ?_, fun _ q => ?_, fun _ _ q => ?_, fun u' v' x' n br eu ev ex _ _ _ hEnt r H1 s1 hr1 => ?_⟩
    · rw [chU] at q
      cases q
    · rw [both] at q
      cases q
    · rw [hx] at q
      cases q
    have eu' := wD_inj eu
    have ev' := wD_inj ev
    have ex' := wD_inj ex
    subst eu' ev' ex'
    clear eu ev ex
    refine ⟨r, _, rfl, hr1, rfl, _, _, rfl, _, _, rfl, rfl, ?_⟩
    have ha1 := sqT_same s1 ha
    have hb1 := sqT_same s1 hb
    have hc1 := sqT_same s1 hc
    obtain ⟨b0, bn⟩ := hEnt.bar A
    have lohi : ∀ m : Nat, u.2.natAbs < 2 ^ m → v.2.natAbs < 2 ^ m → (loW u v).2.natAbs < 2 ^ m ∧ (hiW u v).2.natAbs < 2 ^ m := fun m h1 h2 => by
      unfold loW hiW
      split
      · exact ⟨h1, h2⟩
      · exact ⟨h2, h1⟩
    have nlt : n ≤ 2 ^ 194 := hEnt.lt A (k := 41) (m := 30) (lohi 41 su sv).1 (lohi 41 su sv).2 sx
    have e194 : (2 : Nat) ^ 195 = 2 * 2 ^ 194 := by decide
    have e194' : (0 : Nat) < 2 ^ 194 := by decide
    have szn : ∀ i : Int, i = n ∨ i = (n : Int) - 1 ∨ i = br ∨ i = (br : Int) - 1 → i.natAbs < 2 ^ 195 := fun i hi => by omega
    -- the gap
    refine ⟨_, rfl, _, rfl, b, _, _, _, rfl, rfl, hb1, rfl, _, _, rfl, rfl, _, rfl, b, _, _, _, rfl, rfl, hb1, rfl, by show 2 ≤ sizeLine; decide, fun q hq => ?_⟩
    have s2 := Pre.same_upd (o := .tup [.int (0 - v.1), .int v.2]) hq
    have szU : sz 41 u := ⟨cU.c1, su⟩
    have szV : sz 41 (0 - v.1, v.2) := ⟨by show (0 - v.1).natAbs < 2 ^ 41; omega, sv⟩
    refine ⟨a, q, u, (0 - v.1, v.2), 41, 41, rfl, sqT_same s2 ha1, SqT.of upd_same, by omega, (by show v.2 ≠ 0; omega), szU, szV, by decide, by decide, by decide, fun gp H3 s3 hg3 => ?_⟩
    have s13 := s2.trans s3
    have ha3 := sqT_same s13 ha1
    have hb3 := sqT_same s13 hb1
    have hc3 := sqT_same s13 hc1
    have s03 := s1.trans s13
    clear ha1 hb1 hc1 s2 s3 s13 hr1 hq s1
    have szG : sz 83 (addW u (0 - v.1, v.2)) := sz_add szU szV (by omega) (by show v.2 ≠ 0; omega)
    have pG : 0 < (addW u (0 - v.1, v.2)).2 := low_pos (ne_mul (by omega) (by show v.2 ≠ 0; omega))
    -- the part
    refine ⟨_, rfl, _, rfl, _, rfl, gp, gp, addW u (0 - v.1, v.2), addW u (0 - v.1, v.2), 83, 83, rfl, hg3, hg3, by omega, by omega, szG, szG, by decide, by decide, by decide, fun gg H4 s4 hg4 => ?_⟩
    have szGG : sz 166 (mulW (addW u (0 - v.1, v.2)) (addW u (0 - v.1, v.2))) := sz_mul szG szG (by omega) (by omega)
    have pGG : 0 < (mulW (addW u (0 - v.1, v.2)) (addW u (0 - v.1, v.2))).2 := low_pos (ne_mul (by omega) (by omega))
    have szX : sz 30 x := ⟨by omega, sx⟩
    refine ⟨c, gg, x, mulW (addW u (0 - v.1, v.2)) (addW u (0 - v.1, v.2)), 30, 166, rfl, sqT_same s4 hc3, hg4, by omega, by omega, szX, szGG, by decide, by decide, by decide, fun pp H5 s5 hp5 => ?_⟩
    have s35 := s4.trans s5
    have ha5 := sqT_same s35 ha3
    have hb5 := sqT_same s35 hb3
    have hc5 := sqT_same s35 hc3
    have s05 := s03.trans s35
    clear ha3 hb3 hc3 s4 s5 s35 s03 hg3 hg4
    have szP : sz 196 (mulW x (mulW (addW u (0 - v.1, v.2)) (addW u (0 - v.1, v.2)))) := sz_mul szX szGG (by omega) (by omega)
    have pP : 0 < (mulW x (mulW (addW u (0 - v.1, v.2)) (addW u (0 - v.1, v.2)))).2 := low_pos (ne_mul (by omega) (by omega))
    have szI : ∀ i j : Int, (i = n ∨ i = (n : Int) - 1 ∨ i = br ∨ i = (br : Int) - 1) → (j = 1 ∨ j = 2) → sz 195 (i, j) := fun i j hi hj => ⟨szn i hi, by
      show j.natAbs < 2 ^ 195
      have : j.natAbs ≤ 2 := by omega
      exact Nat.lt_of_le_of_lt this (by decide)⟩
    have sz1 : sz 1 ((1, 1) : Int × Int) := ⟨by decide, by decide⟩
    -- tries are enough
    have part1 := (part_le (n := (n : Int)) (w := x) (u := u) (v := v) (by omega) (by omega) (by omega)).mpr hEnt.e1
    have part2 : ¬ _ := fun z => absurd ((part_le (n := (n : Int) - 1) (w := x) (u := u) (v := v) (by omega) (by omega) (by omega)).mp z) (Int.not_le.mpr hEnt.e2)
    have mean1 := (mean_le (n := (n : Int)) (b := (br : Int)) (u := u) (v := v) (by omega) (by omega)).mpr hEnt.b1
    have mean2 : ¬ _ := fun z => absurd ((mean_le (n := (n : Int)) (b := (br : Int) - 1) (u := u) (v := v) (by omega) (by omega)).mp z) (Int.not_le.mpr hEnt.b2)
    refine ⟨by show 2 ≤ sizeLine; decide, fun p1 hp1 => ?_⟩
    have s6 := Pre.same_upd (o := .tup [.int 1, .int 1]) hp1
    refine ⟨_, rfl, by show 2 ≤ sizeLine; decide, fun p2 hp2 => ?_⟩
    have s7 := Pre.same_upd (o := .tup [.int (n : Int), .int 1]) hp2
    refine ⟨_, rfl, p2, pp, ((n : Int), 1), _, 195, 196, rfl, SqT.of upd_same, sqT_same (s6.trans s7) hp5, (by show (1 : Int) ≠ 0; decide), by omega, szI _ _ (.inl rfl) (.inl rfl), szP, by decide, by decide, by decide, fun p3 H8 s8 h8 => ?_⟩
    refine ⟨p1, p3, (1, 1), _, 1, 391, rfl, sqT_same (s7.trans s8) (SqT.of upd_same), h8, sz1, sz_mul (szI _ _ (.inl rfl) (.inl rfl)) szP (by show (1 : Int) ≠ 0; decide) (by omega), by decide, by decide, by decide, _, rfl, iteN (decide_eq_true part1) ?_⟩
    have s58 := s6.trans (s7.trans s8)
    have ha8 := sqT_same s58 ha5
    have hb8 := sqT_same s58 hb5
    have hc8 := sqT_same s58 hc5
    have hp8 := sqT_same s58 hp5
    have s08 := s05.trans s58
    clear ha5 hb5 hc5 hp5 s6 s7 s8 s58 s05 h8 hp1 hp2
    refine go_nx ?_
    refine ⟨by show 2 ≤ sizeLine; decide, fun p1 hp1 => ?_⟩
    have s6 := Pre.same_upd (o := .tup [.int 1, .int 1]) hp1
    refine ⟨_, rfl, _, _, rfl, rfl, by show 2 ≤ sizeLine; decide, fun p2 hp2 => ?_⟩
    have s7 := Pre.same_upd (o := .tup [.int ((n : Int) - 1), .int 1]) hp2
    refine ⟨_, rfl, p2, pp, ((n : Int) - 1, 1), _, 195, 196, rfl, SqT.of upd_same, sqT_same (s6.trans s7) hp8, (by show (1 : Int) ≠ 0; decide), by omega, szI _ _ (.inr (.inl rfl)) (.inl rfl), szP, by decide, by decide, by decide, fun p3 H9 s8 h9 => ?_⟩
    refine ⟨p1, p3, (1, 1), _, 1, 391, rfl, sqT_same (s7.trans s8) (SqT.of upd_same), h9, sz1, sz_mul (szI _ _ (.inr (.inl rfl)) (.inl rfl)) szP (by show (1 : Int) ≠ 0; decide) (by omega), by decide, by decide, by decide, _, rfl, iteF2 (decide_eq_false part2) ?_⟩
    have s58 := s6.trans (s7.trans s8)
    have ha9 := sqT_same s58 ha8
    have hb9 := sqT_same s58 hb8
    have hc9 := sqT_same s58 hc8
    have s09 := s08.trans s58
    clear ha8 hb8 hc8 hp8 s6 s7 s8 s58 s08 h9 hp1 hp2
    refine go_nx ?_
    -- the mean
    refine ⟨_, rfl, by show 2 ≤ sizeLine; decide, fun p2 hp2 => ?_⟩
    have s7 := Pre.same_upd (o := .tup [.int (n : Int), .int 2]) hp2
    refine ⟨_, rfl, _, rfl, a, b, u, v, 41, 41, rfl, sqT_same s7 ha9, sqT_same s7 hb9, by omega, by omega, szU, ⟨cV.c1, sv⟩, by decide, by decide, by decide, fun p3 H8 s8 h8 => ?_⟩
    have szS : sz 83 (addW u v) := sz_add szU ⟨cV.c1, sv⟩ (by omega) (by omega)
    have pS : 0 < (addW u v).2 := low_pos (ne_mul (by omega) (by omega))
    refine ⟨p2, p3, ((n : Int), 2), _, 195, 83, rfl, sqT_same s8 (SqT.of upd_same), h8, (by show (2 : Int) ≠ 0; decide), by omega, szI _ _ (.inl rfl) (.inr rfl), szS, by decide, by decide, by decide, fun mp H10 s10 hm10 => ?_⟩
    have szM : sz 278 (mulW ((n : Int), 2) (addW u v)) := sz_mul (szI _ _ (.inl rfl) (.inr rfl)) szS (by show (2 : Int) ≠ 0; decide) (by omega)
    have s90 := s7.trans (s8.trans s10)
    have ha10 := sqT_same s90 ha9
    have hb10 := sqT_same s90 hb9
    have hc10 := sqT_same s90 hc9
    have s010 := s09.trans s90
    clear ha9 hb9 hc9 s7 s8 s10 s90 s09 h8 hp2
    refine ⟨_, rfl, _, rfl, by show 2 ≤ sizeLine; decide, fun p1 hp1 => ?_⟩
    have s6 := Pre.same_upd (o := .tup [.int (br : Int), .int 1]) hp1
    refine ⟨mp, p1, _, ((br : Int), 1), 278, 195, rfl, sqT_same s6 hm10, SqT.of upd_same, szM, szI _ _ (.inr (.inr (.inl rfl))) (.inl rfl), by decide, by decide, by decide, _, rfl, iteN (decide_eq_true mean1) ?_⟩
    refine ⟨_, rfl, _, rfl, _, _, rfl, rfl, by show 2 ≤ sizeLine; decide, fun p2 hp2 => ?_⟩
    have s7 := Pre.same_upd (o := .tup [.int ((br : Int) - 1), .int 1]) hp2
    refine ⟨mp, p2, _, ((br : Int) - 1, 1), 278, 195, rfl, sqT_same (s6.trans s7) hm10, SqT.of upd_same, szM, szI _ _ (.inr (.inr (.inr rfl))) (.inl rfl), by decide, by decide, by decide, _, rfl, iteF2 (decide_eq_false mean2) ?_⟩
    have s67 := s6.trans s7
    have ha11 := sqT_same s67 ha10
    have hb11 := sqT_same s67 hb10
    have hc11 := sqT_same s67 hc10
    have s011 := s010.trans s67
    clear ha10 hb10 hc10 hm10 s6 s7 s67 s010 hp1 hp2
    generalize upd (upd H10 p1 (.tup [.int (br : Int), .int 1])) p2 (.tup [.int ((br : Int) - 1), .int 1]) = H11 at *
    refine go_nx ?_
    -- more than forty
    refine ⟨_, rfl, _, _, rfl, rfl, _, rfl, ite2 (fun q => ?_) (fun q => ?_)⟩
    · exact k H11 s011
    have n40 : n ≤ 40 := by
      have z : ¬ ((40 : Int) < (n : Int)) := fun z => q (decide_eq_true z)
      omega
    refine go_nx ?_
    -- lesser, greater
    refine go_cut (fun σ' H' => ∃ (la ga : Addr) (o5 o6 o7 : Option V), σ' = [some (.ref a), some (.ref b), some (.ref c), some (.int (n : Int)), some (.int (br : Int)), o5, o6, o7, some (.ref la), some (.ref ga)] ∧ Same H11 H' ∧ At K H' la (loW u v) ∧ At K H' ga (hiW u v)) ?_ (fun nx' hn' => ?_)
    · rintro σ' H12 ⟨la, ga, o5, o6, o7, rfl, s12, hl12, hg12⟩
      have ha12 := sqT_same s12 ha11
      have hb12 := sqT_same s12 hb11
      have hc12 := sqT_same s12 hc11
      have s012 := s011.trans s12
      clear ha11 hb11 hc11 s12 s011
      have cL : Chn 41 (loW u v) := by unfold loW; split <;> assumption
      have cH : Chn 41 (hiW u v) := by unfold hiW; split <;> assumption
      have hcond := hEnt.cond A
      have hc2 : (decide (tl (loW u v) n br * x.2 ≤ x.1 * (loW u v).2 ^ n) && decide ((sureW x).1 * (hiW u v).2 ^ n ≤ tl (hiW u v) n br * (sureW x).2)) = true := hcond
      rw [Bool.and_eq_true] at hc2
      have bl : br ≤ n := bn
      have szT : ∀ y : Int × Int, Chn 41 y → sz 4100 (tl y n br, y.2 ^ n) := fun y hy => ⟨hy.tl_lt n40 (by decide), hy.pw_lt n40 (by decide)⟩
      refine ⟨_, rfl, _, rfl, _, rfl, la, loW u v, n, br, 41, rfl, hl12, cL, by decide, by decide, n40, bl, fun r1 H13 s13 h13 => ?_⟩
      refine ⟨_, rfl, r1, c, _, x, 4100, 30, rfl, h13, sqT_same s13 hc12, szT _ cL, szX, by decide, by decide, by decide, _, rfl, iteN hc2.1 ?_⟩
      refine go_nx ?_
      -- the rest of the wish
      refine ⟨_, rfl, by show 1 ≤ sizeLine; decide, fun l1 hl1 => ?_⟩
      have s14 := s13.trans (Pre.same_upd (o := .lst [.ref c]) hl1)
      refine ⟨l1, c, x, rfl, SqL.of upd_same, sqT_same s14 hc12, szX, by omega, fun r2 H15 s15 h15 => ?_⟩
      have s15' := s14.trans s15
      refine ⟨_, rfl, _, rfl, _, rfl, ga, hiW u v, n, br, 41, rfl, sqT_same s15' hg12, cH, by decide, by decide, n40, bl, fun r3 H16 s16 h16 => ?_⟩
      have s16' := s15'.trans s16
      have szR : sz 32 (sureW x) := sz_add (n := 1) (m := 30) sz1 ⟨by show (0 - x.1).natAbs < 2 ^ 30; omega, sx⟩ (by show (1 : Int) ≠ 0; decide) (by show x.2 ≠ 0; omega)
      refine ⟨r2, r3, _, _, 32, 4100, rfl, sqT_same s16 h15, h16, szR, szT _ cH, by decide, by decide, by decide, _, rfl, iteN hc2.2 ?_⟩
      refine go_nx ?_
      -- the fewest tries are not more
      obtain ⟨n', b', hL, hle⟩ := cond_lst hEnt.n1 n40 b0 bn hcond
      refine ⟨_, rfl, _, rfl, _, rfl, .ref a, .ref b, .ref c, wD u, wD v, wD x, rfl, at_dp (sqT_same s16' ha12), at_dp (sqT_same s16' hb12), at_dp (sqT_same s16' hc12), smU, smV, smX, fun q => ?_, fun _ q => ?_, fun _ _ q => ?_, fun u1 v1 w1 e2 e3 e4 _ _ _ hN => ?_, fun u1 v1 w1 n1 m1 e2 e3 e4 _ _ _ hL1 r4 H17 s17 h17 => ?_⟩
      · rw [chU] at q
        cases q
      · rw [both] at q
        cases q
      · rw [hx] at q
        cases q
      · have e2' := wD_inj e2
        have e3' := wD_inj e3
        have e4' := wD_inj e4
        subst e2' e3' e4'
        exact (hL.no hN).elim
      have e2' := wD_inj e2
      have e3' := wD_inj e3
      have e4' := wD_inj e4
      subst e2' e3' e4'
      obtain ⟨rfl, rfl⟩ := hL.one hL1
      refine ⟨r4, _, _, _, rfl, rfl, h17, rfl, _, rfl, _, _, rfl, rfl, ?_⟩
      have z : decide ((n' : Int) ≤ (n : Int)) = true := decide_eq_true (by omega)
      show Q (.bl (decide ((n' : Int) ≤ (n : Int)))) H17
      rw [z]
      exact k H17 (s012.trans (s16'.trans s17))
    · refine ⟨_, rfl, _, rfl, a, b, u, v, 41, 41, rfl, ha11, hb11, szU, ⟨cV.c1, sv⟩, by decide, by decide, by decide, _, rfl, ite2 (fun q => ?_) (fun q => ?_)⟩
      · have hle : u.1 * v.2 ≤ v.1 * u.2 := of_decide_eq_true q
        refine ⟨_, rfl, _, rfl, by show 2 ≤ sizeLine; decide, fun pt hpt => ?_⟩
        have s9 := Pre.same_upd (o := .tup [.ref a, .ref b]) hpt
        refine ⟨pt, _, rfl, SqT.of upd_same, rfl, _, _, rfl, _, _, rfl, rfl, ?_⟩
        refine hn' _ _ ⟨a, b, _, _, _, rfl, s9, ?_, ?_⟩
        · rw [show loW u v = u from if_pos hle]
          exact sqT_same s9 ha11
        · rw [show hiW u v = v from if_pos hle]
          exact sqT_same s9 hb11
      · have hle : ¬ u.1 * v.2 ≤ v.1 * u.2 := fun z => q (decide_eq_true z)
        refine ⟨_, rfl, _, rfl, by show 2 ≤ sizeLine; decide, fun pt hpt => ?_⟩
        have s9 := Pre.same_upd (o := .tup [.ref b, .ref a]) hpt
        refine ⟨pt, _, rfl, SqT.of upd_same, rfl, _, _, rfl, _, _, rfl, rfl, ?_⟩
        refine hn' _ _ ⟨b, a, _, _, _, rfl, s9, ?_, ?_⟩
        · rw [show loW u v = v from if_neg hle]
          exact sqT_same s9 hb11
        · rw [show hiW u v = u from if_neg hle]
          exact sqT_same s9 ha11
end
end Tw

namespace Tw
open PySem PySem.Spec PyProof.Rows L2
open Wt Dc Us Xt
open Lm (LamO ExT tLamb pe_lam tCaught pe_caught sCaught)
open LamX (CodeO TabS Tabs ExtN TabB LamS lamEnv lamCx lamS_by)
abbrev sLaw4 : Stmt := Pre.top 44
abbrev nLaw4 : List Str := ["script", "state", "turn", "one", "wish", "other", "odd", "task"]
theorem scLaw4 : FnScope nLaw4 ["script"] (defScope sLaw4) := ⟨rfl, rfl, rfl, by decide +kernel, rfl, by decide +kernel, by decide +kernel⟩
abbrev qT : Str := lamQ "law" (defScope sLaw4)
abbrev qF : Str := qT
def wishes : List PyData := [.tuple [.int 1, .int 3], .tuple [.int 2, .int 5], .tuple [.int 1, .int 5], .tuple [.int 1, .int 10], .tuple [.int 1, .int (10 ^ (9 : Int).toNat)], .tuple [.int 49, .int 100]]
theorem zero_one {u : Int × Int} (hu : isW u) (z : u.1 = 0) : u = (0, 1) := by
  have p := isW_pos hu
  have g2 : (decide (1 ≤ u.2) && (gI u.1 u.2 == 1)) = true := hu
  rw [Bool.and_eq_true] at g2
  have g3 : gI u.1 u.2 = 1 := by simpa using g2.2
  rw [z] at g3
  unfold gI at g3
  rw [Int.gcd_zero_left] at g3
  exact Prod.ext z (by show u.2 = 1; omega)
def oddF : List PyData := [.none, .tuple [.int 3, .int 2], .tuple [.int (-1), .int 2], .tuple [.int 2, .int 4], .int 1, .tuple [.int 1, .int 0], .list [.int 1, .int 2]]
theorem oddF_no : ∀ d ∈ oddF, isChD d = false ∧ Sh d ∧ smB d = true := by decide +kernel
theorem wishes_are : ∀ d ∈ wishes, isWishD d = true ∧ Sh d ∧ smB d = true ∧ (match d with | .tuple [_, .int b] => decide (b.natAbs < 2 ^ 30) | _ => false) = true := by decide +kernel
structure ErX (K : PySem.W.Frag) (mg : Str → Option Value) (x : Str) (CS C : Addr) : Prop where
  g : mg x = some (.ref C)
  x : PySem.W.exmOne K (.ref C) (.ref CS) = some true
  i : IsE K C
  k : PySem.W.kitOne K (.ref C) (.ref C) = some true
section
variable {P0 : Program} {w : World} {K : PySem.W.Frag} {mg : Str → Option Value} {base : Heap}
structure Lk4 (P0 : Program) (w : World) (K : PySem.W.Frag) (mg : Str → Option Value) (CB CW CT fD fP fB fA fC fL fPw fT fTl fR fBe fPl fTi fet flt fCh fEn : Addr) (dD dP dB dA dC dL dPw dT dTl dR dBe dPl dTi det dlt dCh dEn : FuncData) (kA : Nat) : Prop where
  D : Drw K mg fD fP fB dD dP dB
  N : EnL P0 w K mg CW CT fL fPw fT fTl fR fBe fPl fTi fet flt dL dPw dT dTl dR dBe dPl dTi det dlt kA
  zi : mg "isinstance" = none
  zm : mg "min" = none
  FA : Fun K "_law_begun" "_law_begun" Pre.sBegun fA dA
  mA : mg "_law_begun" = some (.ref fA)
  FC : Fun K "_law_caught" "_law_caught" sCaught fC dC
  mC : mg "_law_caught" = some (.ref fC)
  FCh : Fun K "_law_ap_chance" "_law_ap_chance" sChanceL fCh dCh
  mCh : mg "_law_ap_chance" = some (.ref fCh)
  FEn : Fun K "_law_is_enough" "_law_is_enough" sEnough fEn dEn
  mEn : mg "_law_is_enough" = some (.ref fEn)
  ket : ∀ (s : Shared) (u v z : Value), K.In s.heap → BindsTo s det ⟨[], [("wish", z), ("other", v), ("one", u)]⟩ [("one", u), ("other", v), ("wish", z)]
  eB : mg "ChanceError" = some (.ref CB)
  eW : ErX K mg "BadWeight" CB CW
  Z : IsG K
def spLaw4 (K : PySem.W.Frag) (PR : Addr) : Sp := fun vs H Q _ => ∃ (a : Addr) (ns : List Int), vs = [.ref a] ∧ SqL K H a (ns.map V.int) ∧ ns.length ≤ 63 ∧ Tabs [(PR, qF)] H ∧ ∀ H', Q (.bl true) H'
structure Am (K : PySem.W.Frag) (PR p g c : Addr) (n : Nat) (H : Hp) : Prop where
  st : Pre.St H p g c n
  tb : Tabs [(PR, qT)] H
theorem Am.same {PR p g c : Addr} {n : Nat} {H H' : Hp} (a : Am K PR p g c n H) (s : Same H H') : Am K PR p g c n H' := ⟨st_same a.st s, tabs_same a.tb s⟩
theorem Am.kp {PR p g c : Addr} {n m : Nat} {H H' : Hp} (a : Am K PR p g c n H) (s : Pre.Kp p g H H') (st : Pre.St H' p g c m) : Am K PR p g c m H' := ⟨st, tabs_kp a.tb a.st s⟩
theorem Am.ext {PR p g c : Addr} {n : Nat} {H H' : Hp} (a : Am K PR p g c n H) (s : ExtN H H') (t : Tabs [(PR, qT)] H') : Am K PR p g c n H' := ⟨st_ext a.st s, t⟩
theorem dp_kx {H H' : Hp} {p g : Addr} {x : V} {d : PyData} (k : Kx p g H H') (h : Dp K (wx p g H) x d) : Dp K (wx p g H') x d := dp_same (wx_kx k) h
theorem dp_out {H : Hp} {p g : Addr} {x : V} {d : PyData} (h : Dp K (wx p g H) x d) : Dp K H x d := dp_same wx_sub h
set_option maxHeartbeats 4000000 in
theorem ok_law4 {f cR PR : Addr} {oc kV doc pm ct : Value} {od an : Option Addr} {osl : Array (Option Value)} {CB CW CT fD fP fB fA fC fL fPw fT fTl fR fBe fPl fTi fet flt fCh fEn : Addr} {dD dP dB dA dC dL dPw dT dTl dR dBe dPl dTi det dlt dCh dEn : FuncData} {kA : Nat}
    (at_ : K.lookup f = some ⟨oc, od, .func (PySem.W.fnOf "law" "law" (defArgs sLaw4) (defBody sLaw4) (defScope sLaw4) .none kV doc pm an (.ref cR) ct), osl⟩) (code : PySem.W.codeIn K (.ref cR) "law" = true)
    (TB : TabB base mg cR PR) (T : Lk4 P0 w K mg CB CW CT fD fP fB fA fC fL fPw fT fTl fR fBe fPl fTi fet flt fCh fEn dD dP dB dA dC dL dPw dT dTl dR dBe dPl dTi det dlt dCh dEn kA) :
    FnOk P0 w K mg base CX0 13 f (PySem.W.fnOf "law" "law" (defArgs sLaw4) (defBody sLaw4) (defScope sLaw4) .none kV doc pm an (.ref cR) ct) ["script"] (spLaw4 K PR) := by
  have GA : FnOk P0 w K mg base CX0 1 fA dA ["script"] (Pre.spBegun K) := Pre.ok_begun T.FA T.D.T
  have GD : FnOk P0 w K mg base CX0 2 fD dD ["state", "room"] Pre.spDraw := Pre.ok_draw T.D.FD T.D.T T.D.FB T.D.mB
  have GP : FnOk P0 w K mg base CX0 3 fP dP ["state", "some"] (Pre.spPick K) := Pre.ok_pick T.D.FP T.D.T T.D.FD T.D.mD T.D.FB T.D.mB
  have GL : FnOk P0 w K mg base CX0 1 fL dL ["top", "bottom"] spLowest := ok_lowest T.N.FL T.N.T
  have GCh : FnOk P0 w K mg base CX0 4 fCh dCh ["state"] (spChanceL K) := ok_chanceL T.FCh T.D T.N.FL T.N.mL
  have GTi : FnOk P0 w K mg base CX0 2 fTi dTi ["one", "other"] (spCpBin K mulW) := ok_cptimes T.N.FTi T.N.T T.N.FL T.N.mL
  have GEn : FnOk P0 w K mg base CX0 11 fEn dEn ["one", "other", "wish"] (spEnough K) := ok_enough T.FEn T.N
  have bA := T.FA.binds (ps := ["script"]) fun _ _ _ _ _ _ us hl => match us, hl with | [_], _ => rfl
  have bD := T.D.FD.binds (ps := ["state", "room"]) fun _ _ _ _ _ _ us hl => match us, hl with | [_, _], _ => rfl
  have bP := T.D.FP.binds (ps := ["state", "some"]) fun _ _ _ _ _ _ us hl => match us, hl with | [_, _], _ => rfl
  have bL := T.N.FL.binds (ps := ["top", "bottom"]) fun _ _ _ _ _ _ us hl => match us, hl with | [_, _], _ => rfl
  have bCh := T.FCh.binds (ps := ["state"]) fun _ _ _ _ _ _ us hl => match us, hl with | [_], _ => rfl
  have bTi := T.N.FTi.binds (ps := ["one", "other"]) fun _ _ _ _ _ _ us hl => match us, hl with | [_, _], _ => rfl
  have bEn := T.FEn.binds (ps := ["one", "other", "wish"]) fun _ _ _ _ _ _ us hl => match us, hl with | [_, _, _], _ => rfl
  refine fn_of at_ code scLaw4 (fun vs H Q E h => ?_) (fun A outer s H vs Q E hr h => ?_)
  · obtain ⟨a, ns, rfl, _⟩ := h
    rfl
  · obtain ⟨a, ns, rfl, hS, hlen, ht, k⟩ := h
    have nd := scLaw4.nd
    have hr1 : Room 1 _ := hr.mono (by decide)
    have hr2 : Room 2 _ := hr.mono (by decide)
    have hr3 : Room 3 _ := hr.mono (by decide)
    have hr4 : Room 4 _ := hr.mono (by decide)
    have hr11 : Room 11 _ := hr.mono (by decide)
    have hr10 : Room kA _ := hr.mono (Nat.le_trans T.N.hkA (by decide))
    refine (fun (z : ∃ t, PSs (cxOf CX0 P0 w K mg base nLaw4 "law" (defScope sLaw4) f (.ref cR) A outer s H E).nox (defBody sLaw4) t ∧ t { nx := fun _ H' => Q .non H', rt := Q } (L2.start nLaw4 [.ref a]) H) => let ⟨t, h1, h2⟩ := z; ⟨t, h1.nox, h2⟩) ?_
    refine ⟨_, pss_cons (ps_set (i := 1) nd rfl (Or.inl rfl) (pe_call GA hr1 (by rfl) T.mA T.FA.kp bA .nil pass0 (pa_cons (pv 0) pa_nil)))
      (pss_cons (ps_for PassesOwn.never rfl (pi_range1 (by rfl) T.D.zg (pa_cons (pe_op op_add pe_int (pe_callB (call_min2 (by rfl)) (by rfl) T.zm (by decide +kernel) (pa_cons (pe_callB call_len_seq (by rfl) T.N.tl.zl PySem.boot_len (pa_cons (pv 0) pa_nil)) (pa_cons pe_int pa_nil)))) pa_nil)) (pg_name (i := 2) nd rfl (Or.inl rfl))
        (pss_cons (ps_asg (pe_tup (pa_cons (pe_call GCh hr4 (by rfl) T.mCh T.FCh.kp bCh .nil pass0 (pa_cons (pv 1) pa_nil)) (pa_cons (pe_call GP hr3 (by rfl) T.D.mP T.D.FP.kp bP .nil pass0 (pa_cons (pv 1) (pa_cons (pe_lstD (ds := wishes) (ad_cons (ed_tup (ad_cons ed_int (ad_cons ed_int ad_nil)) (by decide)) (ad_cons (ed_tup (ad_cons ed_int (ad_cons ed_int ad_nil)) (by decide)) (ad_cons (ed_tup (ad_cons ed_int (ad_cons ed_int ad_nil)) (by decide)) (ad_cons (ed_tup (ad_cons ed_int (ad_cons ed_int ad_nil)) (by decide)) (ad_cons (ed_tup (ad_cons ed_int (ad_cons (ed_pow ⟨by decide, by decide, by decide⟩) ad_nil)) (by decide)) (ad_cons (ed_tup (ad_cons ed_int (ad_cons ed_int ad_nil)) (by decide)) ad_nil)))))) (by decide)) pa_nil))) pa_nil))) (pg_tup (by rfl) (pgs_cons (pg_name (i := 3) nd rfl (Or.inr rfl)) (pgs_cons (pg_name (i := 4) nd rfl (Or.inr rfl)) pgs_nil))))
        (pss_cons (ps_set (i := 5) nd rfl (Or.inr rfl) (pe_call GCh hr4 (by rfl) T.mCh T.FCh.kp bCh .nil pass0 (pa_cons (pv 1) pa_nil)))
        (pss_cons (ps_if (pt_cmpR op_eq (pe_call GD hr2 (by rfl) T.D.mD T.D.FD.kp bD .nil pass0 (pa_cons (pv 1) (pa_cons pe_int pa_nil))) pe_int (nomark _)) (pss_one (ps_asg (pe_tup (pa_cons (pe_call GL hr1 (by rfl) T.N.mL T.N.FL.kp bL .nil pass0 (pa_cons (pe_call GD hr2 (by rfl) T.D.mD T.D.FD.kp bD .nil pass0 (pa_cons (pv 1) (pa_cons pe_int pa_nil))) (pa_cons pe_int pa_nil))) (pa_cons (pe_call GL hr1 (by rfl) T.N.mL T.N.FL.kp bL .nil pass0 (pa_cons (pe_op op_sub pe_int (pe_call GD hr2 (by rfl) T.D.mD T.D.FD.kp bD .nil pass0 (pa_cons (pv 1) (pa_cons pe_int pa_nil)))) (pa_cons pe_int pa_nil))) pa_nil))) (pg_tup (by rfl) (pgs_cons (pg_name (i := 3) nd rfl (Or.inr rfl)) (pgs_cons (pg_name (i := 5) nd rfl (Or.inr rfl)) pgs_nil))))) pss_nil)
        (pss_cons (ps_if (pt_cmpR (op_eqD hr.units) (pv 3) (pv 5) (nomark _)) (pss_one (ps_set (i := 5) nd rfl (Or.inr rfl) (pe_ifExp (pt_cmpR (op_neD hr.units) (pv 3) (pe_tup (pa_cons pe_int (pa_cons pe_int pa_nil))) (nomark _)) (pe_call GTi hr2 (by rfl) T.N.mTi T.N.FTi.kp bTi .nil pass0 (pa_cons (pv 3) (pa_cons (pe_tup (pa_cons (pe_op op_pow pe_int pe_int) (pa_cons (pe_op op_add (pe_op op_pow pe_int pe_int) pe_int) pa_nil))) pa_nil))) (pe_tup (pa_cons pe_int (pa_cons (pe_op op_pow pe_int pe_int) pa_nil)))))) pss_nil)
        (pss_cons (ps_if (pt_not (pt_val (pe_call GEn hr11 (by rfl) T.mEn T.FEn.kp bEn .nil pass0 (pa_cons (pv 3) (pa_cons (pv 5) (pa_cons (pv 4) pa_nil)))))) (pss_one (ps_ret pe_bl)) pss_nil)
        (pss_cons (ps_if (pt_cmpR (op_neD hr.units) (pe_kw3r T.N.et hr10 none_out T.ket (pv 4) (pv 3) (pv 5)) (pe_useN T.N.et hr10 T.N.bet .nil (pa_cons (pv 3) (pa_cons (pv 5) (pa_cons (pv 4) pa_nil)))) (nomark _)) (pss_one (ps_ret pe_bl)) pss_nil)
        (pss_cons (ps_set (i := 6) nd rfl (Or.inr rfl) (pe_call GP hr3 (by rfl) T.D.mP T.D.FP.kp bP .nil pass0 (pa_cons (pv 1) (pa_cons (pe_lstD (ds := oddF) (ad_cons ed_non (ad_cons (ed_tup (ad_cons ed_int (ad_cons ed_int ad_nil)) (by decide)) (ad_cons (ed_tup (ad_cons ed_neg (ad_cons ed_int ad_nil)) (by decide)) (ad_cons (ed_tup (ad_cons ed_int (ad_cons ed_int ad_nil)) (by decide)) (ad_cons ed_int (ad_cons (ed_tup (ad_cons ed_int (ad_cons ed_int ad_nil)) (by decide)) (ad_cons (ed_lst (ad_cons ed_int (ad_cons ed_int ad_nil)) (by decide)) ad_nil))))))) (by decide)) pa_nil))))
        (pss_one (ps_for PassesOwn.never rfl (pi_list (pe_lst (pa_cons (pe_lam (T := [(PR, qF)]) TB rfl (List.mem_singleton.mpr rfl) one_l (lamS_by (by rfl)) (by rfl)) (pa_cons (pe_lam (T := [(PR, qF)]) TB rfl (List.mem_singleton.mpr rfl) one_l (lamS_by (by rfl)) (by rfl)) (pa_cons (pe_lam (T := [(PR, qF)]) TB rfl (List.mem_singleton.mpr rfl) one_l (lamS_by (by rfl)) (by rfl)) (pa_cons (pe_lam (T := [(PR, qF)]) TB rfl (List.mem_singleton.mpr rfl) one_l (lamS_by (by rfl)) (by rfl)) pa_nil)))))) (pg_name (i := 7) nd rfl (Or.inl rfl)) (pss_one (ps_if (pt_not (pt_val (pe_callB (call_isE T.Z) (by rfl) T.zi (by decide +kernel) (pa_cons (pe_caught (k := 10) (CS := CB) T.FC T.mC T.eB hr (pa_cons (pv 7) pa_nil)) (pa_cons (pe_glob (v := .ref CW) (by rfl) T.eW.g rfl) pa_nil))))) (pss_one (ps_ret pe_bl)) pss_nil))))))))))))
      (pss_one (ps_ret pe_bl))), ?_⟩
    refine ⟨_, rfl, a, ns, rfl, hS, hlen, fun H1 p g c s1 st1 p0 g0 => ?_⟩
    refine ⟨_, rfl, a, _, rfl, .inl (s1.seq hS), _, _, rfl, _, _, rfl, rfl, _, rfl, ?_, ?_, for_range (fun i σ H' => ∃ o2 o3 o4 o5 o6 o7, σ = [some (.ref a), some (.ref p), o2, o3, o4, o5, o6, o7] ∧ Am K PR p g c (20 * i) H')
      ⟨_, _, _, _, _, _, rfl, ⟨st1, tabs_same ht s1⟩⟩ ?_ ?_⟩
    · split <;> omega
    · split <;> omega
    · rintro i σ H2 hi ⟨o2, o3, o4, o5, o6, o7, rfl, am⟩
      have hi2 : i < 6 := by
        revert hi
        split <;> omega
      clear hi s1 st1 p0 g0 H1 ht hS
      -- one, wish
      refine ⟨_, rfl, p, g, c, 20 * i, rfl, am.st, by omega, fun H3 oa t b kp3 st3 hoa hw h0 h1 h2 => ?_⟩
      have am3 := am.kp kp3 st3
      have ux3 : SqT K (wx p g H3) oa [.int t, .int b] := sqT_nt hoa
      clear am kp3 st3 hoa
      obtain ⟨up, hp⟩ := st_p am3.st
      obtain ⟨ug, hg⟩ := st_g am3.st
      refine ⟨_, rfl, ?_⟩
      intro lo vso H7 s7 hlo hlo1 hdo
      have nlo := st_new am3.st hlo
      have lvo : vso.length = 6 := dpAll_len hdo
      refine ⟨p, g, c, 20 * i + 3, lo, vso, rfl, st_same am3.st s7, by omega, hlo1, nlo.2, by omega, by omega, fun H8 jo yo kp8 st8 hjo hyo => ?_⟩
      obtain ⟨d_w, hdo1, hdo2⟩ := dpAll_at hdo hyo
      obtain ⟨wi1, wi2, wi3, wi4⟩ := wishes_are d_w (List.mem_of_getElem? hdo1)
      have k8 : Kx p g H3 H8 := (Kx.of s7).trans (Kx.kp kp8)
      have am8 := (am3.same s7).kp kp8 st8
      have wx8 : Dp K (wx p g H8) yo d_w := dp_nt (dp_same ((nw_wo hp hg).trans (wo_kp kp8)) hdo2)
      have ux8 := sqT_same (wx_kx k8) ux3
      clear am3 ux3 hdo hlo hlo1 hdo2 k8 hp hg s7 kp8 st8
      obtain ⟨wu, rfl, ww, w0, w1⟩ := wish_pair wi1
      obtain ⟨wa, rfl, wy8⟩ := dp_pair wx8
      have wb : wu.2.natAbs < 2 ^ 30 := of_decide_eq_true wi4
      refine ⟨by show 2 ≤ sizeLine; decide, fun pt hpt => ?_⟩
      have s9 := Pre.same_upd (o := .tup [.ref oa, .ref wa]) hpt
      refine ⟨pt, _, rfl, SqT.of upd_same, rfl, _, _, rfl, _, _, rfl, rfl, ?_⟩
      have am9 := am8.same s9
      have ux9 := sqT_same (wx_kx (p := p) (g := g) (Kx.of s9)) ux8
      have wx9 := sqT_same (wx_kx (p := p) (g := g) (Kx.of s9)) wy8
      generalize upd H8 pt (.tup [.ref oa, .ref wa]) = H9 at am9 ux9 wx9
      clear am8 ux8 wy8 wx8 s9 hpt
      -- other
      refine ⟨_, rfl, p, g, c, 20 * i + 4, rfl, am9.st, by omega, fun H10 va t' b' kp10 st10 hva hw' h0' h1' h2' => ?_⟩
      have am10 := am9.kp kp10 st10
      have ux10 := sqT_same (wx_kx (Kx.kp kp10)) ux9
      have wx10 := sqT_same (wx_kx (Kx.kp kp10)) wx9
      have vx10 : SqT K (wx p g H10) va [.int t', .int b'] := sqT_nt hva
      clear am9 ux9 wx9 kp10 st10 hva
      -- others, at times
      refine go_name (go_nx (go_cut (fun σ' H' => ∃ (oa ob : Addr) (u v : Int × Int), σ' = [some (.ref a), some (.ref p), some (.int (0 + (i : Int))), some (.ref oa), some (.ref wa), some (.ref ob), o6, o7] ∧ Am K PR p g c (20 * i + 10) H' ∧ At K (wx p g H') oa u ∧ At K (wx p g H') ob v ∧ At K (wx p g H') wa wu ∧ isW u ∧ 0 ≤ u.1 ∧ u.1 ≤ u.2 ∧ u.2 ≤ 1000000 ∧ isW v ∧ 0 ≤ v.1 ∧ v.1 ≤ v.2 ∧ v.2 ≤ 1000000) ?_ (fun nx' hn' => ?_)))
      · clear h0 h1 h2 h0' h1' h2' hw hw' am10 ux10 wx10 vx10
        rintro σ' H5 ⟨oa, ob, u, v', rfl, am5, ux5, vx5, wx5, hu, u0, u1, u2, hv', v0', v1', v2'⟩
        have e41 : (2 : Nat) ^ 41 = 2199023255552 := by decide
        have e60 : (2 : Nat) ^ 60 = 1152921504606846976 := by decide
        have e30 : (2 : Nat) ^ 30 = 1073741824 := by decide
        have pu := isW_pos hu
        have qv' := isW_pos hv'
        -- unlike
        refine go_cut (fun σ' H' => ∃ (ob : Addr) (v : Int × Int), σ' = [some (.ref a), some (.ref p), some (.int (0 + (i : Int))), some (.ref oa), some (.ref wa), some (.ref ob), o6, o7] ∧ Same H5 H' ∧ At K (wx p g H') ob v ∧ isW v ∧ 0 ≤ v.1 ∧ v.1 ≤ v.2 ∧ v.2.natAbs < 2 ^ 41 ∧ u ≠ v) ?_ (fun nx' hn' => ?_)
        · rintro σ' H6 ⟨ob, v, rfl, s6, vx6, wv, v0, v1, v2, hne⟩
          have am6 := am5.same s6
          have ux6 := sqT_same (wx_kx (p := p) (g := g) (Kx.of s6)) ux5
          have wx6 := sqT_same (wx_kx (p := p) (g := g) (Kx.of s6)) wx5
          clear am5 ux5 vx5 wx5 s6 hv' v0' v1' v2' qv'
          have qv := isW_pos wv
          have une : PyData.eqv (wD u) (wD v) = false := by
            cases q : PyData.eqv (wD u) (wD v) with
            | false => rfl
            | true => exact absurd (eqv_pair q) hne
          have une' : PyData.eqv (wD v) (wD u) = false := by
            cases q : PyData.eqv (wD v) (wD u) with
            | false => rfl
            | true => exact absurd (eqv_pair q).symm hne
          have chU : isChD (wD u) = true := isCh_of (c := u.1) (d := u.2) hu u0 u1
          have chV : isChD (wD v) = true := isCh_of (c := v.1) (d := v.2) wv v0 v1
          have bothUV : (isChD (wD v) && !PyData.eqv (wD u) (wD v)) = true := by rw [chV, une]; rfl
          have bothVU : (isChD (wD u) && !PyData.eqv (wD v) (wD u)) = true := by rw [chU, une']; rfl
          have su : u.2.natAbs < 2 ^ 41 := by omega
          have smU : SmT (wD u) := ⟨smD_big (by omega) (by omega), rfl⟩
          have smV : SmT (wD v) := ⟨smD_big (by omega) (by omega), rfl⟩
          have smW : SmT (wD wu) := ⟨smB_ok wi3, wi2⟩
          have swap := lohi_swap hu wv hne
          have A := apart_of (w := wu) hu wv u0 u1 v0 v1 hne w0 (by have := isW_pos ww; omega)
          -- enough
          refine ⟨_, rfl, _, rfl, _, rfl, oa, ob, wa, u, v, wu, rfl, sqT_same wx_sub ux6, sqT_same wx_sub vx6, sqT_same wx_sub wx6, hu, wv, u0, u1, v0, v1, hne, su, v2, wi1, wb, fun H7 s7 => ?_⟩
          refine ⟨_, rfl, iteN rfl ?_⟩
          have am7 := am6.same s7
          have ux7 := sqT_same (wx_kx (p := p) (g := g) (Kx.of s7)) ux6
          have vx7 := sqT_same (wx_kx (p := p) (g := g) (Kx.of s7)) vx6
          have wx7 := sqT_same (wx_kx (p := p) (g := g) (Kx.of s7)) wx6
          clear am6 ux6 vx6 wx6 s7
          refine go_nx ?_
          -- in either order
          have uxl : ∀ {H0}, Same H7 H0 → Dp K H0 (.ref oa) (wD u) := fun {H0} s => at_dp (sqT_same s (sqT_same wx_sub ux7))
          have vxl : ∀ {H0}, Same H7 H0 → Dp K H0 (.ref ob) (wD v) := fun {H0} s => at_dp (sqT_same s (sqT_same wx_sub vx7))
          have wxl : ∀ {H0}, Same H7 H0 → Dp K H0 (.ref wa) (wD wu) := fun {H0} s => at_dp (sqT_same s (sqT_same wx_sub wx7))
          refine ⟨_, rfl, _, rfl, _, rfl, .ref ob, .ref oa, .ref wa, wD v, wD u, wD wu, rfl, vxl (Same.refl _), uxl (Same.refl _), wxl (Same.refl _), smV, smU, smW, fun q => ?_, fun _ q => ?_, fun _ _ q => ?_, fun u1' v1' w1' n1 m1 e2 e3 e4 _ _ _ hE1 r1 H8 s8 h8 => ?_⟩
          · rw [chV] at q
            cases q
          · rw [bothVU] at q
            cases q
          · rw [wi1] at q
            cases q
          have e2' := wD_inj e2
          have e3' := wD_inj e3
          have e4' := wD_inj e4
          subst e2' e3' e4'
          rw [swap.1, swap.2] at hE1
          refine ⟨_, rfl, _, rfl, _, rfl, .ref oa, .ref ob, .ref wa, wD u, wD v, wD wu, rfl, uxl s8, vxl s8, wxl s8, smU, smV, smW, fun q => ?_, fun _ q => ?_, fun _ _ q => ?_, fun u1' v1' w1' n2 m2 e2 e3 e4 _ _ _ hE2 r2 H9 s9 h9 => ?_⟩
          · rw [chU] at q
            cases q
          · rw [bothUV] at q
            cases q
          · rw [wi1] at q
            cases q
          have e2' := wD_inj e2
          have e3' := wD_inj e3
          have e4' := wD_inj e4
          subst e2' e3' e4'
          clear e2 e3 e4
          obtain ⟨rfl, rfl⟩ := hE1.one A hE2
          refine ⟨wD ((n1 : Int), (m1 : Int)), wD ((n1 : Int), (m1 : Int)), at_dp (w := ((n1 : Int), (m1 : Int))) (sqT_same s9 h8), at_dp (w := ((n1 : Int), (m1 : Int))) h9, rfl, rfl, _, rfl, ?_⟩
          rw [show PyData.eqv (wD ((n1 : Int), (m1 : Int))) (wD ((n1 : Int), (m1 : Int))) = true from SeqAt.eqv_refl _ rfl]
          refine iteF (go_nx ?_)
          have s79 := s8.trans s9
          have am11 := am7.same s79
          have ux11 := sqT_same (wx_kx (p := p) (g := g) (Kx.of s79)) ux7
          have vx11 := sqT_same (wx_kx (p := p) (g := g) (Kx.of s79)) vx7
          have wx11 := sqT_same (wx_kx (p := p) (g := g) (Kx.of s79)) wx7
          clear am7 ux7 vx7 wx7 s8 s9 s79 h8 h9 uxl vxl wxl hE1 hE2 A swap
          -- odd
          obtain ⟨up, hp⟩ := st_p am11.st
          obtain ⟨ug, hg⟩ := st_g am11.st
          refine ⟨_, rfl, ?_⟩
          intro lo vso H12 s12 hlo hlo1 hdo
          have nlo := st_new am11.st hlo
          have lvo : vso.length = 7 := dpAll_len hdo
          refine ⟨p, g, c, 20 * i + 10, lo, vso, rfl, st_same am11.st s12, by omega, hlo1, nlo.2, by omega, by omega, fun H13 jo yo kp13 st13 hjo hyo => ?_⟩
          obtain ⟨d_o, hdo1, hdo2⟩ := dpAll_at hdo hyo
          obtain ⟨no1, no2, no3⟩ := oddF_no d_o (List.mem_of_getElem? hdo1)
          have ox13 : Dp K (wx p g H13) yo d_o := dp_nt (dp_same ((nw_wo hp hg).trans (wo_kp kp13)) hdo2)
          have k13 : Kx p g H9 H13 := (Kx.of s12).trans (Kx.kp kp13)
          have am13 := (am11.same s12).kp kp13 st13
          have ux15 := sqT_same (wx_kx k13) ux11
          have vx15 := sqT_same (wx_kx k13) vx11
          have wx15 := sqT_same (wx_kx k13) wx11
          have ox15 := ox13
          have am15 := am13
          clear am11 ux11 vx11 wx11 hdo hlo hlo1 hdo2 k13 hp hg s12 kp13 st13 am13 ox13
          have smO : SmT d_o := ⟨smB_ok no3, no2⟩
          -- the four tasks
          refine ⟨am15.tb, fun g1 q1 H22 x22 t22 n22 w22 => ⟨t22.ext (Pre.same_upd n22), fun g2 q2 H23 x23 t23 n23 w23 => ⟨t23.ext (Pre.same_upd n23), fun g3 q3 H24 x24 t24 n24 w24 => ⟨t24.ext (Pre.same_upd n24), fun g4 q4 H25 x25 t25 n25 w25 => ?_⟩⟩⟩⟩
          refine ⟨by show 4 ≤ sizeLine; decide, fun l26 hl26 => ?_⟩
          have E4 := ext_of (Pre.same_upd (o := .lst [.ref g1, .ref g2, .ref g3, .ref g4]) hl26)
          have E3 := x25.trans ((ext_of (Pre.same_upd n25)).trans E4)
          have E2 := x24.trans ((ext_of (Pre.same_upd n24)).trans E3)
          have E1 := x23.trans ((ext_of (Pre.same_upd n23)).trans E2)
          have E0' := x22.trans ((ext_of (Pre.same_upd n22)).trans E1)
          have hL1 := E1 _ _ upd_same Lm.lamO_ne
          have hL2 := E2 _ _ upd_same Lm.lamO_ne
          have hL3 := E3 _ _ upd_same Lm.lamO_ne
          have hL4 := E4 _ _ upd_same Lm.lamO_ne
          have hC1 := E1 _ _ ((upd_ne (ne_of_none w22 n22)).trans w22) LamX.codeO_ne
          have hC2 := E2 _ _ ((upd_ne (ne_of_none w23 n23)).trans w23) LamX.codeO_ne
          have hC3 := E3 _ _ ((upd_ne (ne_of_none w24 n24)).trans w24) LamX.codeO_ne
          have hC4 := E4 _ _ ((upd_ne (ne_of_none w25 n25)).trans w25) LamX.codeO_ne
          have t26 := (t25.ext (Pre.same_upd n25)).ext (Pre.same_upd (o := .lst [.ref g1, .ref g2, .ref g3, .ref g4]) hl26)
          have am26 := am15.ext E0' t26
          have ux26 := sqT_same (wx_kx (p := p) (g := g) (Kx.ext E0')) ux15
          have vx26 := sqT_same (wx_kx (p := p) (g := g) (Kx.ext E0')) vx15
          have wx26 := sqT_same (wx_kx (p := p) (g := g) (Kx.ext E0')) wx15
          have ox26 := dp_kx (Kx.ext E0') ox15
          refine ⟨l26, rfl, ⟨_, SqL.of upd_same⟩, for_list (K := K) (a := l26) (xs := [.ref g1, .ref g2, .ref g3, .ref g4])
            (fun j σ H' => ∃ tk : Option V, σ = [some (.ref a), some (.ref p), some (.int (0 + (i : Int))), some (.ref oa), some (.ref wa), some (.ref ob), some yo, tk] ∧ Same _ H') ⟨o7, rfl, Same.refl _⟩ (fun j σ H' _ ⟨_, _, e1⟩ => SqL.of (e1 _ _ upd_same)) ?_ ?_⟩
          · rintro j y σ H' hy ⟨tk, rfl, e1⟩
            have uxl := at_dp (sqT_same e1 (sqT_same wx_sub ux26))
            have vxl := at_dp (sqT_same e1 (sqT_same wx_sub vx26))
            have wxl := at_dp (sqT_same e1 (sqT_same wx_sub wx26))
            have oxl := dp_same e1 (dp_same wx_sub ox26)
            match j, hy with
            | 0, hy =>
              cases hy
              refine ⟨_, rfl, g1, q1, _, _, _, fun E => tCallS (spET K CW) (fun _ => E) (tCons (tVar 6) (tCons (tVar 5) (tCons (tVar 4) tNil))), rfl, e1 _ _ hL1, e1 _ _ hC1, lamS_by (by rfl), fun _ _ _ _ _ => rfl, fun A outer s H E hr => pe_callS (T.N.et.ok _) (hr.mono T.N.hkA) rfl T.N.et.at_ T.N.et.kp T.N.bet (fun σ => passAt (takes_of rfl rfl rfl rfl) σ) (pa_cons (pv 6) (pa_cons (pv 5) (pa_cons (pv 4) pa_nil))), fun E R hE _ => ?_⟩
              refine ⟨_, rfl, _, rfl, _, rfl, yo, .ref ob, .ref wa, d_o, wD v, wD wu, rfl, oxl, vxl, wxl, smO, smV, smW, fun _ HC sC => hE (.ref CW) none HC T.eW.x (fun ea hea => ?_), fun q => ?_, fun q => ?_, fun _ _ _ _ _ _ _ _ q => ?_⟩
              · refine ⟨ea, CW, .ref CW, .ref CW, true, rfl, upd_same, T.eW.i, .own CW, T.eW.k, true, rfl, iteF ?_⟩
                exact ⟨_, rfl, e1.trans (sC.trans (Pre.same_upd hea))⟩
              all_goals
                rw [no1] at q
                cases q
            | 1, hy =>
              cases hy
              refine ⟨_, rfl, g2, q2, _, _, _, fun E => tCallS (spET K CW) (fun _ => E) (tCons (tVar 3) (tCons (tVar 6) (tCons (tVar 4) tNil))), rfl, e1 _ _ hL2, e1 _ _ hC2, lamS_by (by rfl), fun _ _ _ _ _ => rfl, fun A outer s H E hr => pe_callS (T.N.et.ok _) (hr.mono T.N.hkA) rfl T.N.et.at_ T.N.et.kp T.N.bet (fun σ => passAt (takes_of rfl rfl rfl rfl) σ) (pa_cons (pv 3) (pa_cons (pv 6) (pa_cons (pv 4) pa_nil))), fun E R hE _ => ?_⟩
              refine ⟨_, rfl, _, rfl, _, rfl, .ref oa, yo, .ref wa, wD u, d_o, wD wu, rfl, uxl, oxl, wxl, smU, smO, smW, fun q => ?_, fun _ _ HC sC => hE (.ref CW) none HC T.eW.x (fun ea hea => ?_), fun _ q => ?_, fun _ _ _ _ _ _ _ _ _ q => ?_⟩
              · rw [chU] at q
                cases q
              · refine ⟨ea, CW, .ref CW, .ref CW, true, rfl, upd_same, T.eW.i, .own CW, T.eW.k, true, rfl, iteF ?_⟩
                exact ⟨_, rfl, e1.trans (sC.trans (Pre.same_upd hea))⟩
              all_goals
                rw [no1, Bool.false_and] at q
                cases q
            | 2, hy =>
              cases hy
              refine ⟨_, rfl, g3, q3, _, _, _, fun E => tCallS (spET K CW) (fun _ => E) (tCons (tVar 3) (tCons (tVar 3) (tCons (tVar 4) tNil))), rfl, e1 _ _ hL3, e1 _ _ hC3, lamS_by (by rfl), fun _ _ _ _ _ => rfl, fun A outer s H E hr => pe_callS (T.N.et.ok _) (hr.mono T.N.hkA) rfl T.N.et.at_ T.N.et.kp T.N.bet (fun σ => passAt (takes_of rfl rfl rfl rfl) σ) (pa_cons (pv 3) (pa_cons (pv 3) (pa_cons (pv 4) pa_nil))), fun E R hE _ => ?_⟩
              have refl2 : (isChD (wD u) && !PyData.eqv (wD u) (wD u)) = false := by
                rw [SeqAt.eqv_refl _ rfl]
                exact Bool.and_false _
              refine ⟨_, rfl, _, rfl, _, rfl, .ref oa, .ref oa, .ref wa, wD u, wD u, wD wu, rfl, uxl, uxl, wxl, smU, smU, smW, fun q => ?_, fun _ _ HC sC => hE (.ref CW) none HC T.eW.x (fun ea hea => ?_), fun _ q => ?_, fun _ _ _ _ _ _ _ _ _ q => ?_⟩
              · rw [chU] at q
                cases q
              · refine ⟨ea, CW, .ref CW, .ref CW, true, rfl, upd_same, T.eW.i, .own CW, T.eW.k, true, rfl, iteF ?_⟩
                exact ⟨_, rfl, e1.trans (sC.trans (Pre.same_upd hea))⟩
              all_goals
                rw [refl2] at q
                cases q
            | 3, hy =>
              cases hy
              refine ⟨_, rfl, g4, q4, _, _, _, fun E => tCallS (spET K CW) (fun _ => E) (tCons (tVar 3) (tCons (tVar 5) (tCons (tTup (tCons (tC (.int 1)) (tCons (tC (.int 2)) tNil))) tNil))), rfl, e1 _ _ hL4, e1 _ _ hC4, lamS_by (by rfl), fun _ _ _ _ _ => rfl, fun A outer s H E hr => pe_callS (T.N.et.ok _) (hr.mono T.N.hkA) rfl T.N.et.at_ T.N.et.kp T.N.bet (fun σ => passAt (takes_of rfl rfl rfl rfl) σ) (pa_cons (pv 3) (pa_cons (pv 5) (pa_cons (pe_tup (pa_cons pe_int (pa_cons pe_int pa_nil))) pa_nil))), fun E R hE _ => ?_⟩
              have half : isWishD (wD (1, 2)) = false := by decide +kernel
              refine ⟨_, rfl, _, rfl, by show 2 ≤ sizeLine; decide, fun ha hha => ?_⟩
              have sh := Pre.same_upd (o := .tup [.int 1, .int 2]) hha
              refine ⟨.ref oa, .ref ob, .ref ha, wD u, wD v, wD (1, 2), rfl, dp_same sh uxl, dp_same sh vxl, at_dp (w := (1, 2)) (SqT.of upd_same), smU, smV, ⟨smB_ok rfl, rfl⟩, fun q => ?_, fun _ q => ?_, fun _ _ _ HC sC => hE (.ref CW) none HC T.eW.x (fun ea hea => ?_), fun _ _ _ _ _ _ _ _ _ _ q => ?_⟩
              · rw [chU] at q
                cases q
              · rw [bothUV] at q
                cases q
              · refine ⟨ea, CW, .ref CW, .ref CW, true, rfl, upd_same, T.eW.i, .own CW, T.eW.k, true, rfl, iteF ?_⟩
                exact ⟨_, rfl, e1.trans (sh.trans (sC.trans (Pre.same_upd hea)))⟩
              · rw [half] at q
                cases q
            | m + 4, hy => cases hy
          · rintro σ H27 ⟨tk, rfl, e27⟩
            have am27 := am26.same e27
            exact ⟨_, _, _, _, _, _, rfl, ⟨st_more am27.st (by omega), am27.tb⟩⟩
        · refine ⟨_, rfl, _, rfl, wD u, wD v', at_dp (sqT_same wx_sub ux5), at_dp (sqT_same wx_sub vx5), rfl, rfl, _, rfl, ?_⟩
          cases une : PyData.eqv (wD u) (wD v') with
          | false =>
            refine iteF (hn' _ _ ⟨ob, v', rfl, Same.refl _, vx5, hv', v0', v1', by omega, fun z => ?_⟩)
            rw [z, SeqAt.eqv_refl _ rfl] at une
            cases une
          | true =>
            refine iteT ?_
            refine ⟨_, rfl, by show 2 ≤ sizeLine; decide, fun z0 hz0 => ?_⟩
            have s6 := Pre.same_upd (o := .tup [.int 0, .int 1]) hz0
            refine ⟨wD u, wD (0, 1), at_dp (sqT_same s6 (sqT_same wx_sub ux5)), at_dp (w := (0, 1)) (SqT.of upd_same), rfl, rfl, _, rfl, ?_⟩
            generalize upd H5 z0 (.tup [.int 0, .int 1]) = H6 at s6
            have cp : CPow 10 6 := ⟨by decide, by decide, by decide⟩
            have cp2 : CPow 10 12 := ⟨by decide, by decide, by decide⟩
            cases zer : PyData.eqv (wD u) (wD (0, 1)) with
            | false =>
              have u00 : 0 < u.1 := by
                rcases Int.lt_or_eq_of_le u0 with q | q
                · exact q
                · have := zero_one hu q.symm
                  rw [this, SeqAt.eqv_refl _ rfl] at zer
                  cases zer
              refine iteT ⟨_, rfl, 10, 6, rfl, rfl, cp, 10, 6, rfl, rfl, cp, _, _, rfl, rfl, by show 2 ≤ sizeLine; decide, fun z1 hz1 => ?_⟩
              have s7 := Pre.same_upd (o := .tup [.int (10 ^ (6 : Int).toNat), .int (10 ^ (6 : Int).toNat + 1)]) hz1
              have k6 : (10 : Int) ^ (6 : Int).toNat = 1000000 := by decide
              have u1' : SqT K (upd H6 z1 (.tup [.int (10 ^ (6 : Int).toNat), .int (10 ^ (6 : Int).toNat + 1)])) oa [.int u.1, .int u.2] := sqT_same (wx_sub.trans (s6.trans s7)) ux5
              have z1' : SqT K (upd H6 z1 (.tup [.int (10 ^ (6 : Int).toNat), .int (10 ^ (6 : Int).toNat + 1)])) z1 [.int 1000000, .int 1000001] := SqT.of upd_same
              refine ⟨oa, z1, u, (1000000, 1000001), 21, 21, rfl, u1', z1', by omega, (by show (1000001 : Int) ≠ 0; decide), ⟨by rw [show (2 : Nat) ^ 21 = 2097152 by decide]; omega, by rw [show (2 : Nat) ^ 21 = 2097152 by decide]; omega⟩, ⟨by show (1000000 : Int).natAbs < 2 ^ 21; decide, by show (1000001 : Int).natAbs < 2 ^ 21; decide⟩, by decide, by decide, by decide, fun r H8 s8 hr8 => ?_⟩
              have e58 := s6.trans (s7.trans s8)
              obtain ⟨y0, y1, y2, y3⟩ := low_share (t := u.1 * 1000000) (b := u.2 * 1000001) (by omega) (by omega) (by omega)
              refine hn' _ _ ⟨r, mulW u (1000000, 1000001), rfl, e58, at_wx hr8 (st_same am5.st e58), low_isW (by show u.2 * 1000001 ≠ 0; omega), y0, y1, by show (low (u.1 * 1000000) (u.2 * 1000001)).2.natAbs < 2 ^ 41; omega, fun z => ?_⟩
              have e : (mulW u (1000000, 1000001)).1 * (u.2 * 1000001) = u.1 * 1000000 * (mulW u (1000000, 1000001)).2 := low_cross (by omega)
              rw [← z] at e
              have p := Int.mul_pos u00 (show 0 < u.2 by omega)
              have e1 : u.1 * (u.2 * 1000001) = 1000001 * (u.1 * u.2) := by grind
              have e2 : u.1 * 1000000 * u.2 = 1000000 * (u.1 * u.2) := by grind
              rw [e1, e2] at e
              omega
            | true =>
              refine iteF ⟨10, 12, rfl, rfl, cp2, by show 2 ≤ sizeLine; decide, fun z1 hz1 => ?_⟩
              have e58 := s6.trans (Pre.same_upd (o := .tup [.int 1, .int (10 ^ (12 : Int).toNat)]) hz1)
              have e01 := eqv_pair zer
              have z1' : SqT K (upd H6 z1 (.tup [.int 1, .int (10 ^ (12 : Int).toNat)])) z1 [.int 1, .int 1000000000000] := SqT.of upd_same
              refine hn' _ _ ⟨z1, (1, 1000000000000), rfl, e58, at_wx z1' (st_same am5.st e58), by show isWt (.tuple [.int 1, .int 1000000000000]) = true; decide +kernel, by decide, by decide, by decide, fun z => ?_⟩
              rw [e01] at z
              injection z with z1 z2
              cases z1
      · refine ⟨_, rfl, p, g, c, 20 * i + 7, 2, rfl, am10.st, by omega, by decide, by decide, fun H11 dr kp11 st11 d0 d1 => ?_⟩
        have am11 := am10.kp kp11 st11
        have ux11 := sqT_same (wx_kx (Kx.kp kp11)) ux10
        have vx11 := sqT_same (wx_kx (Kx.kp kp11)) vx10
        have wx11 := sqT_same (wx_kx (Kx.kp kp11)) wx10
        clear am10 ux10 vx10 wx10 kp11 st11
        refine ⟨rfl, _, rfl, ite2 (fun q => ?_) (fun q => ?_)⟩
        · refine ⟨_, rfl, p, g, c, 20 * i + 8, 5, rfl, am11.st, by omega, by decide, by decide, fun H12 t2 kp12 st12 q0 q1 => ?_⟩
          have big : ∀ x : Int, 0 ≤ x → x ≤ 20 → x.natAbs < 2 ^ 20 := fun x h0 h1 => by
            rw [pw20]
            omega
          refine ⟨t2, 20, 20, rfl, by decide, big t2 q0 (by omega), big 20 (by decide) (by decide), by decide, by decide, fun r H13 s13 hr13 => ?_⟩
          refine ⟨_, rfl, p, g, c, 20 * i + 9, 5, rfl, st_same st12 s13, by omega, by decide, by decide, fun H14 t3 kp14 st14 q2 q3 => ?_⟩
          refine ⟨_, _, rfl, rfl, 20 - t3, 20, 20, rfl, by decide, big (20 - t3) (by omega) (by omega), big 20 (by decide) (by decide), by decide, by decide, fun r2 H15 s15 hr15 => ?_⟩
          refine ⟨by show 2 ≤ sizeLine; decide, fun pt hpt => ?_⟩
          have s16 := Pre.same_upd (o := .tup [.ref r, .ref r2]) hpt
          refine ⟨pt, _, rfl, SqT.of upd_same, rfl, _, _, rfl, _, _, rfl, rfl, ?_⟩
          have k13 : Kx p g H13 (upd H15 pt (.tup [.ref r, .ref r2])) := (Kx.kp kp14).trans (Kx.of (s15.trans s16))
          have k11 : Kx p g H11 (upd H15 pt (.tup [.ref r, .ref r2])) := ((Kx.kp kp12).trans (Kx.of s13)).trans k13
          have a13 : SqT K (wx p g H13) r [.int (low t2 20).1, .int (low t2 20).2] := at_wx (SqT.of hr13) (st_same st12 s13)
          have a15 : SqT K (wx p g H15) r2 [.int (low (20 - t3) 20).1, .int (low (20 - t3) 20).2] := at_wx (SqT.of hr15) (st_same st14 s15)
          obtain ⟨x0, x1, x2, x3⟩ := low_share (t := t2) (b := 20) q0 (by omega) (by decide)
          obtain ⟨y0, y1, y2, y3⟩ := low_share (t := 20 - t3) (b := 20) (by omega) (by omega) (by decide)
          refine hn' _ _ ⟨r, r2, low t2 20, low (20 - t3) 20, rfl, ((((am11.kp kp12 st12).same s13).kp kp14 st14).same s15).same s16, sqT_same (wx_kx k13) a13, sqT_same (wx_kx (Kx.of s16)) a15, sqT_same (wx_kx k11) wx11, low_isW (by decide), x0, x1, by omega, low_isW (by decide), y0, y1, by omega⟩
        · exact hn' _ _ ⟨oa, va, (t, b), (t', b'), rfl, ⟨st_more am11.st (by omega), am11.tb⟩, ux11, vx11, wx11, hw, h0, h1, h2, hw', h0', h1', h2'⟩
    · rintro σ H' ⟨o2, o3, o4, o5, o6, o7, rfl, am⟩
      exact k H'
end
end Tw

namespace RvL
open PySem PySem.Spec PyProof.Rows L2 RT
section
variable {prog : Program} {w : World} {A : Around} {E : Value → Shared → Prop} {s : Shared}
theorem extend_rev {R : Result → Shared → Prop} {it l : Addr} {items : Array Value} (hh : A.handled = none) (hit : s.heap.IsRevIter it l ((items.size : Int) - 1)) (hl : s.heap.IsList l items) (hne : l ≠ it) (hn : items.size ≤ sizeLine) (S : Addr) (hSi : S ≠ it) (hSl : S ≠ l) (res : Value) (c₀ : Nat) (hS : s.heap.get? S = some { cls := .type "list", data := .seq #[] c₀ })
    (hR : ∀ h' tk acc' c', (∀ b o, b ≠ S → b ≠ it → s.heap.get? b = some o → h'.get? b = some o) → h'.get? S = some { cls := .type "list", dict := none, data := .seq acc' c', slots := #[] } →
      ItemsOf (fun i v => items[items.size - 1 - i]? = some v) acc' items.size → R (.ok (.ret res)) { s with heap := h', toks := tk }) :
    wpAny (model prog w) A.in1 (Builtin.List.listExtendWith (.ref S) (.ref it) res)
      (fun fin s' => match fin with | .done f => R (.ok f) s' | .again c' => c'.quiet = true ∧ codeAny (model prog w) A c' R s') (fun e s' => R (.error e) s') s := by
  have W := (Walks.listRev (prog := prog) (w := w) (A := A.in1) hh it l hne items).toS
  have hSf : S ∉ [it, l] := by simp only [List.mem_cons, List.not_mem_nil, or_false, not_or]; exact ⟨hSi, hSl⟩
  have hT : s.TypeIs (.ref it) "list_reverseiterator" := hit.typeIs
  have h1 : Builtin.List.listSameRef (.ref S) (.ref it) = false := by simp [Builtin.List.listSameRef, hSi]
  unfold Builtin.List.listExtendWith
  refine wpAny_bind (wpAny_typeOf hT ?_)
  rw [if_neg (by rw [h1]; decide)]
  refine wpAny_bind (wpAny_pyIter_revIter hit ?_)
  refine wpAny_bind (wpAny_holding ?_)
  unfold Builtin.List.listLengthHint
  refine wpAny_bind (wpAny_specialOf hT nolen_lri ?_)
  show wpAny _ A.in1 (specialOf (Value.ref it) (Str.ofString "__length_hint__") >>= _) _ _ _
  refine wpAny_bind (wpAny_specialOf hT hint_lri ?_)
  generalize hid : ("list_reverseiterator.__length_hint__" : String) = id0
  wp_delta
  rw [show splitId id0 = some ("list_reverseiterator", "__length_hint__") from by subst hid; decide +kernel]
  subst hid
  refine wpAny_bind (wpAny_isInstance (b := true) hT (by rw [isSubtype_type]; kernel_rfl) ?_)
  refine wpAny_pure ?_
  rw [if_neg (by decide)]
  have e0 : ((items.size : Nat) : Int) - 1 - ((0 : Nat) : Int) = (items.size : Int) - 1 := by omega
  refine wpAny_pure ⟨plainId_quiet F.plain_extend_loop _, codeAny_extend_loopS W hn _ hSf _ items.size 0 _ _ _ rfl (Nat.zero_le _) ⟨Nat.zero_le _, by rw [e0]; exact hit, hl⟩ hS (ItemsOf.nil _) fun s' acc' c' hm hS' hacc => ?_⟩
  rw [Moved.eq_with hm]
  refine hR s'.heap s'.toks acc' c' (fun b o hb hb2 e => hm.heap b o (fun hmem => ?_) e) hS' hacc
  rcases List.mem_cons.mp hmem with e' | hmem
  · exact hb e'
  · exact hb2 (List.mem_singleton.mp hmem)
theorem init_rev {R : Result → Shared → Prop} {it l : Addr} {items : Array Value} (hh : A.handled = none) (hit : s.heap.IsRevIter it l ((items.size : Int) - 1)) (hl : s.heap.IsList l items) (hne : l ≠ it) (hn : items.size ≤ sizeLine) (S : Addr) (hSi : S ≠ it) (hSl : S ≠ l) (hS : s.heap.get? S = some { cls := .type "list", data := .seq #[] })
    (hR : ∀ h' tk acc' c', (∀ b o, b ≠ S → b ≠ it → s.heap.get? b = some o → h'.get? b = some o) → h'.get? S = some { cls := .type "list", dict := none, data := .seq acc' c', slots := #[] } →
      ItemsOf (fun i v => items[items.size - 1 - i]? = some v) acc' items.size → R (.ok (.ret .none)) { s with heap := h', toks := tk }) :
    wpAny (model prog w) A.in1 (Builtin.«list.__init__» ⟨[.ref S, .ref it], []⟩)
      (fun fin s' => match fin with | .done f => R (.ok f) s' | .again c' => c'.quiet = true ∧ codeAny (model prog w) A c' R s') (fun e s' => R (.error e) s') s := by
  show wpAny _ _ (do let old ← Builtin.List.listItems (.ref S); Builtin.List.listUpdate (.ref S) (fun _ => #[]); letGo old.toList.reverse; Builtin.List.listExtendWith (.ref S) (.ref it) .none) _ _ s
  refine wpAny_bind ?_
  unfold Builtin.List.listItems
  refine wpAny_bind (wpAny_seqItems hS rfl (wpAny_pure ?_))
  show wpAny _ _ (updateSeq S (fun _ => #[]) >>= fun _ => letGo (#[] : Array Value).toList.reverse >>= fun _ => Builtin.List.listExtendWith (.ref S) (.ref it) .none) _ _ s
  refine wpAny_bind (wpAny_updateSeq hS rfl ?_)
  have hS₂ := Heap.get?_update_self (Obj.mapSeq (fun _ => (#[] : Array Value))) hS rfl
  have oth : ∀ b o, b ≠ S → s.heap.get? b = some o → (s.heap.update S (Obj.mapSeq (fun _ => (#[] : Array Value)))).get? b = some o :=
    fun b o hb e => (Heap.get?_update_other _ _ (Ne.symm hb)).trans e
  refine wpAny_bind (wpAny_letGo ?_)
  obtain ⟨ol, hol, hlc⟩ := id hl
  refine extend_rev hh (hit.at fun o e => oth it o (Ne.symm hSi) e) ⟨ol, oth l ol (Ne.symm hSl) hol, hlc⟩ hne hn S hSi hSl .none _ hS₂ fun h' tk acc' c' hk hS' hacc => ?_
  exact hR h' tk acc' c' (fun b o hb hb2 e => hk b o hb hb2 (oth b o hb e)) hS' hacc
end
section
variable {prog : Program} {w : World} {A : Around} {E : Value → Shared → Prop} {s : Shared}
theorem call_list_rev {Q : Value → Shared → Prop} {it l : Addr} {items : Array Value} (hh : A.handled = none) (hit : s.heap.IsRevIter it l ((items.size : Int) - 1)) (hl : s.heap.IsList l items) (hne : l ≠ it) (hn : items.size ≤ sizeLine)
    (hQ : ∀ h' tk acc' c', (∀ b o, b ≠ it → s.heap.get? b = some o → h'.get? b = some o) →
      h'.get? s.heap.objs.size = some { cls := .type "list", dict := none, data := .seq acc' c', slots := #[] } → ItemsOf (fun i v => items[items.size - 1 - i]? = some v) acc' items.size → Q (.ref s.heap.objs.size) { s with heap := h', toks := tk }) :
    wpAny (model prog w) A (call (.type "list") [.ref it]) Q E s := by
  refine callType_codes (Q₁ := fun obj s₁ => obj = .ref s.heap.objs.size ∧ s₁ = { s with heap := s.heap.push { cls := .type "list", data := .seq #[] } }) F.called_list (F.typeCall_list_1 _) F.entry_list_init
    (code_list_new _ ⟨rfl, rfl⟩) fun obj s₁ h₁ => ?_
  obtain ⟨rfl, rfl⟩ := h₁
  have hS : (s.heap.push { cls := .type "list", data := .seq #[] }).get? s.heap.objs.size = some { cls := .type "list", data := .seq #[] } := Heap.get?_push_size _ rfl
  obtain ⟨oi, hoi, _⟩ := id hit
  obtain ⟨ol, hol, _⟩ := id hl
  refine ⟨⟨_, hS, rfl⟩, F.args_list_init_2 _ _, init_rev (A := A.in1) hh (hit.at fun o e => Heap.get?_push_of_some _ e) (hl.push _) hne hn _ (Nat.ne_of_gt (Heap.lt_size hoi)) (Nat.ne_of_gt (Heap.lt_size hol)) hS fun h' tk acc' c' hk hS' hacc => ?_⟩
  exact ⟨rfl, hQ h' tk acc' c' (fun b o hb e => hk b o (Nat.ne_of_lt (Heap.lt_size e)) hb (Heap.get?_push_of_some _ e)) hS' hacc⟩
end
section
variable {X : Cx}
/-- list(reversed(x)), x a list: a new list -/
def tListRev (K : PySem.W.Frag) (te : TE) : TE := fun σ H Q => te σ H fun v H1 => ∃ (a : Addr) (xs : List V), v = .ref a ∧ SqL K H1 a xs ∧ ∀ q, H1 q = none → Q (.ref q) (upd H1 q (.lst xs.reverse))
theorem pe_listRev {e : Expr} {te : TE} {p p2 pos pos2 : Pos} (hc : X.calm = true) (hg : Gl X "list") (hm : X.mg "list" = none) (hg2 : Gl X "reversed") (hm2 : X.mg "reversed" = none) (he : PE X e te)
    (hs : starEach [e] X.env = (false, eval e X.env) :: starEach [] X.env := by rfl)
    (hs2 : starEach [.Call (.Name "reversed" p2) [e] [] pos2] X.env = (false, eval (.Call (.Name "reversed" p2) [e] [] pos2) X.env) :: starEach [] X.env := by rfl) :
    PE X (.Call (.Name "list" p) [.Call (.Name "reversed" p2) [e] [] pos2] [] pos) (tListRev X.K te) := by
  refine ⟨fun pins s σ H Q I h => ?_⟩
  refine Call_ (ld_blt I hg hm boot_list (PyProof.Rows.callWith_type1 (args_cons (Call_ (ld_blt I hg2 hm2 PyProof.Rows.boot_reversed (PyProof.Rows.callWith_type1 (args_cons (thn (he.run pins s σ H _ I h) fun u s1 ⟨v, H1, I1, r1, q1⟩ => args_nil ?_) hs) hs rfl))) hs2) hs2 rfl))
  obtain ⟨a, xs, ev, hq, q⟩ := q1
  subst ev
  obtain rfl : u = Value.ref a := r1
  obtain ⟨its, rv, p', hz⟩ := I1.list hq
  refine call_reversed_list p'.isList (args_nil ?_)
  have hl := p'.isList
  obtain ⟨ol, hol, _⟩ := id hl
  have hne : a ≠ s1.heap.objs.size := Nat.ne_of_lt (Heap.lt_size hol)
  have hn : its.toArray.size ≤ sizeLine := by rw [List.size_toArray, ← rv.length]; exact hz
  refine call_list_rev (s := { s1 with heap := s1.heap.push (revObj a ((its.toArray.size : Int) - 1)) }) (I1.ok.hd hc) ⟨_, Heap.get?_push_size _ rfl, rfl, rfl⟩ (hl.push _) hne hn fun h' tk acc c' hk hS' hi => ?_
  have hsz : s1.heap.objs.size ≤ (s1.heap.push (revObj a ((its.toArray.size : Int) - 1))).objs.size := by
    show s1.heap.objs.size ≤ (s1.heap.objs.push _).size
    rw [Array.size_push]
    omega
  exact ⟨.ref _, upd H1 _ (.lst xs.reverse), I1.laid (t' := tk) (fun b o e => hk b o (Nat.ne_of_lt (Heap.lt_size e)) (Heap.get?_push_of_some _ e)) hsz (show ObjOk X.prog X.w _ _ _ (.lst xs.reverse) from ⟨by rw [List.length_reverse]; exact hz, acc.toList, c', vals_rev rv hi, hS'⟩), rfl, q _ (I1.hok.fresh hsz)⟩
/-- comb(n, k), a module's name for math.comb -/
def rComb : List V → Hp → VK → Prop := fun vs H Q => ∃ n k : Nat, vs = [.int (n : Int), .int (k : Int)] ∧ n ≤ 9000 ∧ Q (.int (PySem.W.mcComb (n : Int) (k : Int))) H
theorem cr_comb : CallR X (.builtin "math.comb") rComb := by
  intro pins s σ H vs us Q I r h
  obtain ⟨a, b, rfl, ha, q⟩ := h
  obtain ⟨t, u, rfl⟩ := Vals.int2 r
  have e64 : (9000 : Int) < 2 ^ 64 := by decide
  exact PySem.W.mc_comb (by omega) (by omega) (by omega) (.inr (by omega)) fun _ => ⟨.int _, H, I.tok _, ⟨_, rfl⟩, q⟩
end
end RvL

namespace Xr
open PySem PySem.Spec PyProof.Rows L2

/-! ## exceptions of own classes as values: made with an own __init__, their fields, isinstance -/
/-- what isinstance and a field's read ask of the class at C -/
structure IsC (K : PySem.W.Frag) (C : Addr) : Prop where
  cl : (PySem.W.clsIn K C).isSome = true
  ga : PySem.W.findIn K (.ref C) "__getattribute__" = some (some (.builtin "BaseException.__getattribute__"))
  gt : PySem.W.findIn K (.ref C) "__getattr__" = some none
  sb : PySem.W.subIn K (.ref C) (.type "BaseException") = some true
  ca : PySem.W.findIn K (.ref C) "__class__" = some (some (.builtin "object.__class__"))
  mo : PySem.W.mroIn K C (.type "object") = some true
structure IsK (K : PySem.W.Frag) : Prop where
  hn : PySem.W.specialIn K (.builtin "object.__class__") "__get__" = some (some (.builtin "getset_descriptor.__get__"))
  tks : PySem.W.takesIn K (.builtin "object.__class__") = some true
/-- at a stands an exception of the class at C, not raised -/
inductive Exi (H : Hp) (a C : Addr) : Prop where
  | plain (h : H a = some (ExO (.ref C) a))
  | own {d : Addr} {fs : List (Str × V)} (h : H a = some (exo a C (some d))) (hd : H d = some (exd d fs))
theorem Exi.same {H H' : Hp} {a C : Addr} (x : Exi H a C) (s : Same H H') : Exi H' a C := by
  cases x with
  | plain h => exact .plain (s _ _ h)
  | own h hd => exact .own (s _ _ h) (s _ _ hd)
def rIsX (K : PySem.W.Frag) : List V → Hp → VK → Prop := fun xs H Q => ∃ (a C : Addr) (c : V) (cv : Value) (b : Bool), xs = [.ref a, c] ∧ Exi H a C ∧ IsC K C ∧ ClsV c cv ∧ PySem.W.kitOne K (.ref C) cv = some b ∧ Q (.bl b) H
section
variable {X : Cx}
theorem inst_of {ps0 : List (Addr × Obj)} {σ : L2.St} {H : Hp} {s : Shared} {a C : Addr} (I : Inv X ps0 σ H s) (x : Exi H a C) : ∃ ox od, PySem.W.InstAt s.heap a ox C od := by
  cases x with
  | plain h =>
    obtain ⟨⟨oe, vals, ho, hz, hd, _⟩, _, _⟩ := (show ObjOk X.prog X.w H s.heap a (ExO (.ref C) a) from I.hok a _ h)
    exact ⟨oe, none, ho, hz.1, by unfold PySem.W.notCls; rw [hd] <;> rfl, by rw [hz.2]; trivial⟩
  | own h hd =>
    obtain ⟨t1, ho⟩ := exo_at I.hok h
    obtain ⟨mA, hns, _⟩ := exd_at I.hok hd
    obtain ⟨od, h2, _⟩ := lookIn_ns hns
    exact ⟨_, some od, ho, rfl, rfl, h2⟩
theorem call_isX (Z : IsK X.K) : CallR X (.builtin "isinstance") (rIsX X.K) := by
  intro ps0 s σ H xs args Q I r h
  obtain ⟨a, C, c, cv, b, rfl, x, T, k, e, q⟩ := h
  obtain ⟨u1, u2, rfl, r1, r2⟩ := vals2 r
  cases (show u1 = Value.ref a from r1)
  have e2 := k.eq r2
  subst e2
  obtain ⟨ox, od, J⟩ := inst_of I x
  exact PySem.W.kia_one (PySem.W.kitx_exc (od := od) T.cl T.ga T.gt T.sb T.ca Z.hn Z.tks T.mo) I.kIn J e (by intro fin; cases fin) fun tks => ⟨.bl b, H, I.tok tks, rfl, q⟩
/-- e.f, e an exception that was made with an own __init__ -/
def tXo (K : PySem.W.Frag) (f : Str) (te : TE) : TE := fun σ H Q => te σ H fun x H1 => ∃ (a C d : Addr) (fs : List (Str × V)) (v : V), x = .ref a ∧ IsC K C ∧ PySem.W.hasDictIn K C = true ∧ PySem.W.findIn K (.ref C) f = some none ∧ H1 a = some (exo a C (some d)) ∧ H1 d = some (exd d fs) ∧ fs.lookup f = some v ∧ Q v H1
theorem pe_xo {e : Expr} {te : TE} {pos : Pos} {f : Str} (he : PE X e te) (hb : attributeBase e f X.env (eval e X.env) = eval e X.env := by rfl) : PE X (.Attribute e f pos) (tXo X.K f te) := by
  refine ⟨fun ps0 s σ H Q I h => ?_⟩
  refine attr_of hb (thn (he.run ps0 s σ H _ I h) fun u s1 hh => ?_)
  obtain ⟨x, H1, I1, rx, a, C, d, fs, v, ex, T, hdC, hno, ha, hd, l, q⟩ := hh
  subst ex
  obtain rfl : u = Value.ref a := rx
  obtain ⟨t1, ho⟩ := exo_at I1.hok ha
  obtain ⟨mA, hns, hr⟩ := exd_at I1.hok hd
  obtain ⟨od, h2, hl⟩ := lookIn_ns hns
  obtain ⟨u, hu, ru⟩ := RelO.some_of (v := v) (o := mA f) (by rw [← l]; exact hr f)
  have J : PySem.W.InstAt s1.heap a _ C (some od) := ⟨ho, rfl, rfl, h2⟩
  exact HandSPX.exc_get I1.kIn J T.ga T.gt T.sb (PySem.W.findObj_own hdC hno rfl (by rw [hl, hu])) (handed_of ru) ⟨v, H1, I1.tok _, ru, q⟩
/-- {x}: None or an int -/
def tFmtN (te : TE) : TE := fun σ H Q => te σ H fun x H1 => (x = .non ∧ Q (.str "None") H1) ∨ ∃ i : Int, x = .int i ∧ i.natAbs.log2 < 1920 ∧ Q (.str (toString i)) H1
theorem pe_fmtN {e : Expr} {te : TE} {pos : Pos} (he : PE X e te) : PE X (.FormattedValue e (-1) none pos) (tFmtN te) := by
  refine ⟨fun ps0 s σ H Q I h => ?_⟩
  refine wpAny_FormattedValue_plain (thn (he.run ps0 s σ H _ I h) fun v s1 hv => ?_)
  obtain ⟨x, H1, I1, r1, q⟩ := hv
  rcases q with ⟨rfl, q⟩ | ⟨i, rfl, hz, q⟩
  · cases (show v = Value.none from r1)
    exact wpAny_formatField_none ⟨.str "None", H1, I1.tok _, ⟨_, rfl⟩, q⟩
  · obtain ⟨t, rfl⟩ := r1
    exact wpAny_formatField_int hz ⟨.str (toString i), H1, I1.tok _, ⟨_, rfl⟩, q⟩
/-- B.__init__(self, ..), B an own class that has ValueError's -/
theorem pe_ceinit {B : Str} {C0 : Addr} {e : Expr} {es : List Expr} {ta : TA} {p1 p2 pos : Pos} {pl : Sem Bool} (hg : Gl X B) (hm : X.mg B = some (.ref C0)) (hs : PySem.W.specialIn X.K (.ref C0) "__getattribute__" = some (some (.builtin "type.__getattribute__")))
    (hr : PySem.W.readsIn X.K C0 (.type "type") = true) (vV : PySem.W.findCls X.K (.ref C0) (.type "type") "__init__" = some (.val (.builtin "ValueError.__init__"))) (ha : PA X (e :: es) ta)
    (nodbg : (B == ("__debug__" : Str)) = false := by decide)
    (hc : eval (.Call (.Attribute (.Name B p1) "__init__" p2) (e :: es) [] pos) X.env = (do
      let ov ← eval (.Name B p1) X.env
      standAt p2.atName
      let (f, first) ← holding [ov] (getMethod ov "__init__" pl)
      callWith pos f first (backTo pos (starEach (e :: es) X.env)) (backToKw pos (keywordEach [] X.env))) := by rfl)
    (he : starEach (e :: es) X.env = (false, eval e X.env) :: starEach es X.env := by rfl) (nosp : (backTo pos (starEach es X.env)).any (·.1) = false := by rfl) :
    PE X (.Call (.Attribute (.Name B p1) "__init__" p2) (e :: es) [] pos) (tVeI X.K ta) := by
  refine ⟨fun ps0 s σ H Q I h => ?_⟩
  refine PySem.W.methodCall_KW (ld_glob I hg hm ?_ nodbg) hc
  refine PySem.W.method_cls I.kIn hs (PySem.W.cls_value I.kIn hr vV (by decide +kernel) ?_)
  show wpAny _ _ (callWith pos (Value.builtin "ValueError.__init__") [] (backTo pos (starEach (e :: es) X.env)) []) _ _ _
  refine PyProof.Rows.callWith_method1 (thn (ha.run pos ps0 _ σ H _ (I.tok _) h) fun args s1 ⟨vals, H1, I1, r1, a, C, ws, isN, hl, T, ea, q⟩ => ?_) he nosp
  subst isN
  cases r1 with
  | @cons _ self _ rest rself rw' =>
    obtain rfl : self = Value.ref a := rself
    have few : rest.length ≤ sizeLine := by
      rw [← Paired.length rw', sizeLine_eq]
      omega
    exact oinit_ok T I1 ea few fun s' J => ⟨.non, H1, J, rfl, q⟩
/-- C(e, ..), C's own __init__ keeping sp: a value -/
def tMkV (C : Addr) (sp : Sp) (ta : TA) : TE := fun σ H Q => ta σ H fun vals H1 => vals.length ≤ 1000 ∧ ∀ a, H1 a = none → sp (.ref a :: vals) (upd H1 a (exo a C none)) (fun v H2 => v = .non ∧ Q (.ref a) H2) (fun _ _ _ => False)
theorem pe_oexV {CX : CXT} {x : Str} {C fI : Addr} {k : Nat} {fd : FuncData} {ps : List Str} {sp : Sp} {e : Expr} {es : List Expr} {ta : TA} {p pos : Pos} (T : OexC X.K C) (iC : PySem.W.findIn X.K (.ref C) "__init__" = some (some (.ref fI))) (tI : PySem.W.typeIn X.K (.ref fI) = some (.type "function"))
    (F1 : FnOk X.prog X.w X.K X.mg X.base CX k fI fd ps sp) (hr : Room (k + 1) X.A) (hb : Binds X.K fd ps []) (hx : Passes CX X (fun _ _ _ => False)) (hg : Gl X x) (hm : X.mg x = some (.ref C)) (ha : PA X (e :: es) ta)
    (nodbg : (x == ("__debug__" : Str)) = false := by decide) (he : starEach (e :: es) X.env = (false, eval e X.env) :: starEach es X.env := by rfl) (nosp : (backTo pos (starEach es X.env)).any (·.1) = false := by rfl) :
    PE X (.Call (.Name x p) (e :: es) [] pos) (tMkV C sp ta) := by
  refine ⟨fun ps0 s σ H Q I h => ?_⟩
  obtain ⟨nm, qn, N, bs, bm, sn, sub, ab, col, dd, k0, k1, k2, k3, k5, lookC, refs⟩ := T.cls
  refine wpAny_Call_Name_kw (ld_glob I hg hm ?_ nodbg)
  refine PySem.W.callWith_K (h₀ := X.base) I.ok.mod.kin T.kC (thn (ha.run pos ps0 s σ H _ I h) fun args s1 ⟨vals, H1, I1, r1, hz, q1⟩ => ⟨I1.kIn, ?_⟩) he nosp
  show wpAny _ _ (call (.ref C) args) _ _ _
  obtain ⟨mem, g, drw, tks, oss⟩ := s1
  have big : mem.objs.size ≤ mem.objs.size + 1 := Nat.le_succ _
  have hn : H1 (mem.objs.size + 1) = none := I1.hok.fresh big
  have hq := q1 (mem.objs.size + 1) hn
  have old : ∀ b o, mem.get? b = some o → ((mem.push (PySem.W.kdv_tup args)).push (PySem.HandSPX.excO C mem.objs.size)).get? b = some o := fun b o e => Heap.get?_push_of_some _ (Heap.get?_push_of_some _ e)
  have atNew : ((mem.push (PySem.W.kdv_tup args)).push (PySem.HandSPX.excO C mem.objs.size)).get? (mem.objs.size + 1) = some (PySem.HandSPX.excO C mem.objs.size) := by heap_get
  have J2 : Inv X ps0 σ (upd H1 (mem.objs.size + 1) (exo (mem.objs.size + 1) C none)) ⟨(mem.push (PySem.W.kdv_tup args)).push (PySem.HandSPX.excO C mem.objs.size), g, drw, tks, oss⟩ :=
    I1.laid (t' := tks) (a := mem.objs.size + 1) (o := exo (mem.objs.size + 1) C none) (h' := (mem.push (PySem.W.kdv_tup args)).push (PySem.HandSPX.excO C mem.objs.size)) old big (exo_ok atNew)
  have r2 : Vals (V.ref (mem.objs.size + 1) :: vals) (Value.ref (mem.objs.size + 1) :: args) := .cons rfl r1
  have hl : (Value.ref (mem.objs.size + 1) :: args ++ []).length = ps.length := by
    have e := r2.length
    rw [F1.len _ _ _ _ hq] at e
    rw [List.append_nil]
    exact e.symm
  have few : args.length ≤ sizeLine := by
    rw [← Paired.length r1, sizeLine_eq]
    omega
  refine wpAny_call (PySem.HandSPX.call_own F.excBase_ValueError (fun Y => PySem.HandSPX.refsVE_contains Y bm refs) (I1.kIn _ _ lookC) (PySem.W.looks_findIn I1.kIn iC) (fun self => PySem.W.bind_fn I1.kIn self tI) few
    (codeAny_mono (F1.run _ X.stack _ _ ⟨Value.ref (mem.objs.size + 1) :: args, []⟩ (Value.ref (mem.objs.size + 1) :: args) _ _ (fun _ _ _ => False) (hr.make C args []) (J2.env0.make C args []) (by have fin := hb _ (Value.ref (mem.objs.size + 1) :: args) J2.kIn hl; rw [List.append_nil] at fin; exact fin) r2 hq) fun r s' out => ?_))
  cases r with
  | error er => exact hx ps0 σ _ _ er s' J2 out
  | ok fl =>
    cases fl with
    | ret u =>
      obtain ⟨v, H', J3, rv, isN, qq⟩ := J2.after out
      subst isN
      exact ⟨rv, ⟨V.ref (mem.objs.size + 1), H', J3, rfl, qq⟩⟩
    | next => exact False.elim out
    | brk => exact False.elim out
    | cont => exact False.elim out
end

/-! ## C(k = e): the same by keywords -/
section
open PySem.HandSPX
variable {M : Model} {A : Around} {E : Value → Shared → Prop} {h : Heap} {g : Array GenState} {d : Drawn} {t : Nat} {oss : OsState}
variable {nm q : Str} {C N : Addr} {bs bm bmB : List Value} {hdct : Bool} {sn : List Str} {sub : List Value} {ab : Bool} {col : Option Bool} {dd : Option Addr} {k0 k1 k2 k3 k5 : Option Value} {B newId initId : String} {kn : Str} {kv : Value}
theorem check_new_kw (F : ExcBaseFacts B newId initId bmB) (hT : ∀ X : String, bm.contains (.type X) = bmB.contains (.type X)) {Q : Unit → Shared → Prop}
    (atC : h.get? C = some (excClassObj nm q C N bs bm hdct sn sub ab col dd k0 k1 k2 k3 k5 newId)) (hq : Q () ⟨h, g, d, t, oss⟩) : wpAny M A (checkBuiltinCall newId ⟨[.ref C], [(kn, kv)]⟩) Q E ⟨h, g, d, t, oss⟩ := by
  have hasB : (Value.ref C :: bm).contains (.type B) = true := by rw [List.contains_cons, hT, F.hasB, Bool.or_true]
  have nstar := F.noStar
  simp only [checkBuiltinCall, F.newKind, F.newSplit, F.newRow]
  repeat (first | refine wpAny_loadPart_at atC ?_ | (refine wpAny_isSubtype_exc atC ?_; rw [hasB]) | refine wpAny_staticBase_exc atC ?_ | refine wpAny_madeBy_exc atC ?_ | simp only [bne_self_eq_false, Bool.false_eq_true, if_false] | wp_step)
  exact hq
theorem check_type_call_kw {Q : Unit → Shared → Prop} (atC : h.get? C = some (excClassObj nm q C N bs bm hdct sn sub ab col dd k0 k1 k2 k3 k5 newId))
    (hq : Q () ⟨h, g, d, t, oss⟩) : wpAny M A (checkBuiltinCall "type.__call__" ⟨[.ref C], [(kn, kv)]⟩) Q E ⟨h, g, d, t, oss⟩ := by
  have f3 := tc_sub
  have hT : (⟨h, g, d, t, oss⟩ : Shared).TypeIs (.ref C) "type" := ⟨_, atC, rfl⟩
  simp only [checkBuiltinCall, tc_kind, tc_split]
  repeat (any_goals (first | assumption | with_reducible refine wpAny_loadPart_at atC ?_ | with_reducible refine wpAny_onRaise ?_ | with_reducible refine wpAny_map ?_ | wp_step))
end
section
open PySem.HandSPX
variable {prog : Program} {w : World} {A : Around} {E : Value → Shared → Prop} {R : Result → Shared → Prop} {h : Heap} {g : Array GenState} {d : Drawn} {t : Nat} {oss : OsState}
variable {nm q : Str} {C N : Addr} {bs bm bmB : List Value} {hdct : Bool} {sn : List Str} {sub : List Value} {ab : Bool} {col : Option Bool} {dd : Option Addr} {k0 k1 k2 k3 k5 : Option Value} {B newId initId : String} {kn : Str} {kv : Value}
theorem new_kw (F : ExcBaseFacts B newId initId bmB) (hT : ∀ X : String, bm.contains (.type X) = bmB.contains (.type X))
    (atC : h.get? C = some (excClassObj nm q C N bs bm hdct sn sub ab col dd k0 k1 k2 k3 k5 newId))
    (hq : R (.ok (.ret (.ref (h.objs.size + 1)))) ⟨(h.push (PySem.W.kdv_tup [])).push (excO C h.objs.size), g, d, t, oss⟩) :
    codeAny (model prog w) A (.builtin newId ⟨[.ref C], [(kn, kv)]⟩) R ⟨h, g, d, t, oss⟩ := by
  have ends := F.ends
  have hasB : (Value.ref C :: bm).contains (.type B) = true := by rw [List.contains_cons, hT, F.hasB, Bool.or_true]
  have noA : (Value.ref C :: bm).contains (.type "AttributeError") = false := by rw [List.contains_cons, hT, F.noAttr]; rfl
  have noN : (Value.ref C :: bm).contains (.type "NameError") = false := by rw [List.contains_cons, hT, F.noName]; rfl
  have hrest : ([] : List Value).length ≤ sizeLine := Nat.zero_le _
  refine codeAny_builtinAt F.entry ?_
  unfold Builtin.«BaseException.__new__»
  refine PySem.wpAt_bind ?_
  show PySem.wpAt _ _ _ (stack >>= _) _ _ _
  refine PySem.wpAt_bind (PySem.wpAt_stack fun p below => PySem.wpAt_of_wpAny ?_)
  wp_walk
  refine PySem.wpAt_of_wpAny ?_
  rw [F.owner]
  repeat (first | with_reducible refine wpAny_madeHere_exc F.canon atC ?_ | with_reducible refine wpAny_loadPart_at atC ?_ | (with_reducible refine wpAny_isSubtype_exc atC ?_; first | rw [hasB] | rw [noA] | rw [noN]) | wp_step)
  show R _ _
  rw [Heap.size_push]
  exact hq
theorem type_call_kw (F : ExcBaseFacts B newId initId bmB) (hT : ∀ X : String, bm.contains (.type X) = bmB.contains (.type X)) {fI : Addr} {Q : Fin → Shared → Prop}
    (atC : h.get? C = some (excClassObj nm q C N bs bm hdct sn sub ab col dd k0 k1 k2 k3 k5 newId))
    (hi : PySem.W.Looks (model prog w) h (typeLookup (.ref C) "__init__") (some (.ref fI))) (hb : ∀ self, PySem.W.Looks (model prog w) h (bindSpecial (.ref fI) self) (.ref fI, [self]))
    (hq : codeAny (model prog w) A (.call (.ref fI) ⟨[.ref (h.objs.size + 1)], [(kn, kv)]⟩)
      (fun r s' => match r with | .ok (.ret v) => v = .none ∧ Q (.done (.ret (.ref (h.objs.size + 1)))) s' | .ok _ => False | .error e => E e s')
      ⟨(h.push (PySem.W.kdv_tup [])).push (excO C h.objs.size), g, d, t, oss⟩) :
    wpAny (model prog w) A (Builtin.«type.__call__» ⟨[.ref C], [(kn, kv)]⟩) Q E ⟨h, g, d, t, oss⟩ := by
  repeat (first | with_reducible refine wpAny_loadPart_at atC ?_ | with_reducible refine wpAny_madeBy_exc atC ?_ | wp_step)
  refine codeAny_call_builtin_code (Code.quiet_builtin _ F.quiet) (check_new_kw F hT atC ?_)
  refine new_kw F hT atC ?_
  show wpAny _ _ _ _ _ _
  have k : ∀ b o, h.get? b = some o → ((h.push (PySem.W.kdv_tup [])).push (excO C h.objs.size)).get? b = some o := fun b o e => Heap.get?_push_of_some _ (Heap.get?_push_of_some _ e)
  have hC₁ := k _ _ atC
  have atNew : ((h.push (PySem.W.kdv_tup [])).push (excO C h.objs.size)).get? (h.objs.size + 1) = some (excO C h.objs.size) := by heap_get
  have hasC : (Value.ref C :: bm).contains (.ref C) = true := by simp
  have ini := hi.keeps k
  have bnd := (hb (.ref (h.objs.size + 1))).keeps k
  unfold isInstance
  repeat (first | with_reducible refine wpAny_loadPart_at atNew ?_ | (with_reducible refine wpAny_isSubtype_exc hC₁ ?_; rw [hasC]) | wp_step)
  show wpAny _ _ (typeLookup (.ref C) _) _ _ _
  refine ini.at ?_
  refine wpAny_holding (wpAny_bind (bnd.at ?_))
  refine wpAny_bind (wpAny_call (codeAny_mono hq fun r s' fin => ?_))
  rcases r with e | (v | _ | _ | _) <;> first | exact fin | exact fin.elim | skip
  obtain ⟨rfl, fin⟩ := fin
  first
    | exact wpAny_pure (wpAny_pure fin)
    | (wp_walk; exact fin)
theorem call_kw (F : ExcBaseFacts B newId initId bmB) (hT : ∀ X : String, bm.contains (.type X) = bmB.contains (.type X)) {fI : Addr}
    (atC : h.get? C = some (excClassObj nm q C N bs bm hdct sn sub ab col dd k0 k1 k2 k3 k5 newId))
    (hi : PySem.W.Looks (model prog w) h (typeLookup (.ref C) "__init__") (some (.ref fI))) (hb : ∀ self, PySem.W.Looks (model prog w) h (bindSpecial (.ref fI) self) (.ref fI, [self]))
    (hq : codeAny (model prog w) (A.under (.builtin "type.__call__" ⟨[.ref C], [(kn, kv)]⟩)) (.call (.ref fI) ⟨[.ref (h.objs.size + 1)], [(kn, kv)]⟩) (PySem.W.InitBack (h.objs.size + 1) R)
      ⟨(h.push (PySem.W.kdv_tup [])).push (excO C h.objs.size), g, d, t, oss⟩) :
    codeAny (model prog w) A (.call (.ref C) ⟨[], [(kn, kv)]⟩) R ⟨h, g, d, t, oss⟩ := by
  have f1 := tc_lookup
  have f2 := tc_bind (.ref C)
  have tyC : (⟨h, g, d, t, oss⟩ : Shared).TypeIs (.ref C) "type" := ⟨_, atC, rfl⟩
  refine codeAny_of_tree ?_
  show wpAny _ _ (callAny (.ref C) _) _ _ _
  repeat (any_goals (first | assumption | with_reducible refine wpAny_loadPart_at atC ?_ | wp_step))
  refine ⟨rfl, ?_⟩
  refine codeAny_call_builtin_at (Code.quiet_builtin _ (by decide +kernel)) entry_typeCall (check_type_call_kw atC (type_call_kw F hT atC hi hb ?_))
  refine codeAny_mono hq fun r s' fin => ?_
  rcases r with e | (v | _ | _ | _) <;> exact fin
end
end Xr
namespace Xr
open PySem PySem.Spec PyProof.Rows L2
section
variable {X : Cx}
/-- C(k = e), C's own __init__ keeping sp: a value -/
def tMkK (C : Addr) (sp : Sp) (tks : TA) : TE := fun σ H Q => tks σ H fun zs H1 => ∃ v, zs = [v] ∧ ∀ a, H1 a = none → sp [.ref a, v] (upd H1 a (exo a C none)) (fun v H2 => v = .non ∧ Q (.ref a) H2) (fun _ _ _ => False)
theorem pe_oexK {CX : CXT} {x kn : Str} {C fI : Addr} {k : Nat} {fd : FuncData} {ps : List Str} {sp : Sp} {kws : List Keyword} {tks : TA} {p pos : Pos} (T : OexC X.K C) (iC : PySem.W.findIn X.K (.ref C) "__init__" = some (some (.ref fI))) (tI : PySem.W.typeIn X.K (.ref fI) = some (.type "function"))
    (F1 : FnOk X.prog X.w X.K X.mg X.base CX k fI fd ps sp) (hr : Room (k + 1) X.A) (hb : ∀ (s : Shared) (a b : Value), BindsTo s fd ⟨[a], [(kn, b)]⟩ (ps.zip [a, b])) (hx : Passes CX X (fun _ _ _ => False)) (hg : Gl X x) (hm : X.mg x = some (.ref C)) (hkw : PK X kws tks)
    (hall : (backToKw pos (keywordEach kws X.env)).all (·.1.isSome) = true := by rfl) (hks : (backToKw pos (keywordEach kws X.env)).filterMap (·.1) = [kn] := by rfl)
    (nodbg : (x == ("__debug__" : Str)) = false := by decide)
    (nosp : ((backTo pos (starEach [] X.env)).any (·.1) || (backToKw pos (keywordEach kws X.env)).any (·.1.isNone)) = false := by rfl) :
    PE X (.Call (.Name x p) [] kws pos) (tMkK C sp tks) := by
  refine ⟨fun ps0 s σ H Q I h => ?_⟩
  obtain ⟨nm, qn, N, bs, bm, sn, sub, ab, col, dd, k0, k1, k2, k3, k5, lookC, refs⟩ := T.cls
  refine wpAny_Call_Name_kw (ld_glob I hg hm ?_ nodbg)
  refine PySem.W.callWith_KW0 (h₀ := X.base) I.ok.mod.kin T.kC hall (thn (hkw.run pos ps0 s σ H _ I h) fun ws s1 ⟨zs, H1, I1, r1, v, ez, q1⟩ => ⟨I1.kIn, ?_⟩) nosp
  rw [hks]
  subst ez
  cases r1 with
  | @cons _ u _ rest ru rw' =>
    cases rw'
    show wpAny _ _ (call (.ref C) [] [(kn, u)]) _ _ _
    obtain ⟨mem, g, drw, tks, oss⟩ := s1
    have big : mem.objs.size ≤ mem.objs.size + 1 := Nat.le_succ _
    have hn : H1 (mem.objs.size + 1) = none := I1.hok.fresh big
    have hq := q1 (mem.objs.size + 1) hn
    have old : ∀ b o, mem.get? b = some o → ((mem.push (PySem.W.kdv_tup [])).push (PySem.HandSPX.excO C mem.objs.size)).get? b = some o := fun b o e => Heap.get?_push_of_some _ (Heap.get?_push_of_some _ e)
    have atNew : ((mem.push (PySem.W.kdv_tup [])).push (PySem.HandSPX.excO C mem.objs.size)).get? (mem.objs.size + 1) = some (PySem.HandSPX.excO C mem.objs.size) := by heap_get
    have J2 : Inv X ps0 σ (upd H1 (mem.objs.size + 1) (exo (mem.objs.size + 1) C none)) ⟨(mem.push (PySem.W.kdv_tup [])).push (PySem.HandSPX.excO C mem.objs.size), g, drw, tks, oss⟩ :=
      I1.laid (t' := tks) (a := mem.objs.size + 1) (o := exo (mem.objs.size + 1) C none) (h' := (mem.push (PySem.W.kdv_tup [])).push (PySem.HandSPX.excO C mem.objs.size)) old big (exo_ok atNew)
    have r2 : Vals [V.ref (mem.objs.size + 1), v] [Value.ref (mem.objs.size + 1), u] := .cons rfl (.cons ru .nil)
    refine wpAny_call (call_kw F.excBase_ValueError (fun Y => PySem.HandSPX.refsVE_contains Y bm refs) (I1.kIn _ _ lookC) (PySem.W.looks_findIn I1.kIn iC) (fun self => PySem.W.bind_fn I1.kIn self tI)
      (codeAny_mono (F1.run _ X.stack _ _ ⟨[Value.ref (mem.objs.size + 1)], [(kn, u)]⟩ [Value.ref (mem.objs.size + 1), u] _ _ (fun _ _ _ => False) (hr.make C [] [(kn, u)]) (J2.env0.make C [] [(kn, u)]) (hb _ _ _) r2 hq) fun r s' out => ?_))
    cases r with
    | error er => exact hx ps0 σ _ _ er s' J2 out
    | ok fl =>
      cases fl with
      | ret u =>
        obtain ⟨v, H', J3, rv, isN, qq⟩ := J2.after out
        subst isN
        exact ⟨rv, ⟨V.ref (mem.objs.size + 1), H', J3, rfl, qq⟩⟩
      | next => exact False.elim out
      | brk => exact False.elim out
      | cont => exact False.elim out
end
end Xr

namespace Tw
/-- the ways to have i out of n -/
def bin : Nat → Nat → Nat
  | _, 0 => 1
  | 0, _ + 1 => 0
  | n + 1, i + 1 => bin n i + bin n (i + 1)
theorem bin_zero (n : Nat) : bin n 0 = 1 := by cases n <;> rfl
theorem bin_over : ∀ {n i : Nat}, n < i → bin n i = 0
  | 0, i + 1, _ => rfl
  | n + 1, i + 1, h => by
    show bin n i + bin n (i + 1) = 0
    rw [bin_over (n := n) (i := i) (by omega), bin_over (n := n) (i := i + 1) (by omega)]
theorem bin_self : ∀ n : Nat, bin n n = 1
  | 0 => rfl
  | n + 1 => by
    show bin n n + bin n (n + 1) = 1
    rw [bin_self n, bin_over (by omega)]
/-- one more, by a product and a share -/
theorem bin_step : ∀ {n i : Nat}, i ≤ n → bin n (i + 1) * (i + 1) = bin n i * (n - i)
  | 0, i, h => by
    have : i = 0 := by omega
    subst this
    rfl
  | n + 1, 0, _ => by
    have q : ∀ n, bin n 1 = n := fun n => by
      induction n with
      | zero => rfl
      | succ n ih =>
        show bin n 0 + bin n 1 = n + 1
        rw [ih, bin_zero]
        omega
    rw [q, bin_zero]
    omega
  | n + 1, i + 1, h => by
    show (bin n (i + 1) + bin n (i + 2)) * (i + 2) = (bin n i + bin n (i + 1)) * (n + 1 - (i + 1))
    have e : n + 1 - (i + 1) = n - i := by omega
    rw [e]
    rcases Nat.lt_or_ge i n with hi | hi
    · have h1 := bin_step (n := n) (i := i) (by omega)
      have h2 := bin_step (n := n) (i := i + 1) (by omega)
      obtain ⟨k, hk⟩ : ∃ k, n = i + 1 + k := ⟨n - (i + 1), by omega⟩
      have e1 : n - i = k + 1 := by omega
      have e2 : n - (i + 1) = k := by omega
      rw [e1] at h1
      rw [e2] at h2
      rw [e1]
      have h3 : bin n (i + 1 + 1) * (i + 2) = bin n (i + 1) * k := h2
      have h4 : bin n (i + 2) * (i + 2) = bin n (i + 1) * k := h2
      rw [Nat.add_mul, h4, Nat.add_mul, ← h1]
      generalize bin n (i + 1) = x
      grind
    · have : i = n := by omega
      subst this
      rw [bin_over (n := i) (i := i + 1) (by omega), bin_over (n := i) (i := i + 2) (by omega), Nat.sub_self, Nat.mul_zero, Nat.add_zero, Nat.zero_mul]
theorem bin_div {n i : Nat} (h : i ≤ n) : bin n i * (n - i) / (i + 1) = bin n (i + 1) := by
  rw [← bin_step h]
  exact Nat.mul_div_cancel _ (by omega)
theorem tried_at {c e : Int} {xs : List Int} {j : Nat} (h : j < xs.length + 1) : (tried c e xs).getD j 0 = tri c e xs xs.length j := by
  unfold tried
  rw [List.getD_eq_getElem?_getD, triL_get h]
  rfl
/-- each count's share -/
theorem exN_at (c e : Int) : ∀ (n i : Nat), i ≤ n → (exN c e n).getD i 0 = (bin n i : Int) * c ^ i * e ^ (n - i)
  | 0, i, h => by
    have : i = 0 := by omega
    subst this
    show (1 : Int) = ((1 : Nat) : Int) * c ^ 0 * e ^ 0
    rw [Int.pow_zero, Int.pow_zero]
    rfl
  | n + 1, i, h => by
    show (tried c e (exN c e n)).getD i 0 = _
    have hl := exN_len c e n
    rw [tried_at (by omega)]
    unfold tri
    rw [hl]
    cases i with
    | zero =>
      rw [if_neg (by omega), if_pos (by omega), exN_at c e n 0 (by omega), bin_zero, bin_zero, Int.zero_add, Nat.sub_zero, Nat.sub_zero, Int.pow_succ]
      generalize e ^ n = z
      grind
    | succ i =>
      rw [if_pos ⟨by omega, by omega⟩, Nat.add_sub_cancel, exN_at c e n i (by omega)]
      have e0 : n + 1 - (i + 1) = n - i := by omega
      rw [e0]
      have b : ((bin (n + 1) (i + 1) : Nat) : Int) = (bin n i : Int) + (bin n (i + 1) : Int) := by
        show ((bin n i + bin n (i + 1) : Nat) : Int) = _
        omega
      rw [b]
      rcases Nat.lt_or_ge i n with hi | hi
      · rw [if_pos (by omega), exN_at c e n (i + 1) (by omega)]
        obtain ⟨k, hk⟩ : ∃ k, n = i + 1 + k := ⟨n - (i + 1), by omega⟩
        have e1 : n - i = k + 1 := by omega
        have e2 : n - (i + 1) = k := by omega
        rw [e1, e2, Int.pow_succ, Int.pow_succ]
        generalize c ^ i = u
        generalize e ^ k = v
        grind
      · have : i = n := by omega
        subst this
        rw [if_neg (by omega), bin_over (n := i) (i := i + 1) (by omega), Int.pow_succ]
        generalize c ^ i = u
        generalize e ^ (i - i) = v
        show _ = ((bin i i : Int) + 0) * _ * _
        grind
end Tw

namespace Tw
open PySem PySem.Spec PyProof.Rows L2
open Wt Dc
abbrev sCPart : Stmt := Pre.top 12
/-- whether data is a weight from nothing on -/
def isCP : PyData → Bool
  | .tuple [.int c, .int e] => isWt (.tuple [.int c, .int e]) && decide (0 ≤ c)
  | _ => false
section
variable {P0 : Program} {w : World} {K : PySem.W.Frag} {mg : Str → Option Value} {base : Heap}
def spCPart (K : PySem.W.Frag) : Sp := fun vs H Q _ => ∃ x d, vs = [x] ∧ Dp K H x d ∧ Q (.bl (isCP d)) H
theorem scCPart : FnScope ["value"] ["value"] (defScope sCPart) := ⟨rfl, rfl, rfl, by decide +kernel, rfl, by decide +kernel, by decide +kernel⟩
theorem ok_cpart {f fI : Addr} {fd dI : FuncData} (F : Fun K "is_chance_part" "is_chance_part" sCPart f fd) (GI : ∀ base, FnOk P0 w K mg base CX0 2 fI dI ["value"] (spIsWt K)) (FI : Fun K "is_weight" "is_weight" sIsWt fI dI) (mI : mg "is_weight" = some (.ref fI)) : FnOk P0 w K mg base CX0 3 f fd ["value"] (spCPart K) := by
  have GI := GI base
  have bI := FI.binds (ps := ["value"]) fun _ _ _ _ _ _ us hl => match us, hl with | [_], _ => rfl
  refine F.ok scCPart (fun vs H Q E h => ?_) (fun cdv A outer s H vs Q E hr h => ?_)
  · obtain ⟨x, d, rfl, _⟩ := h
    rfl
  · obtain ⟨x, d, rfl, hd, k⟩ := h
    refine ⟨_, pss_one (ps_ret (pe_and (pe_call GI hr (by rfl) mI FI.kp bI .nil pass0 (pa_cons (pv 0) pa_nil)) (pe_one (pe_cmpR op_ge (pe_ix ix_tup (pv 0) pe_int (fun _ _ => rfl)) pe_int (nomark _))))), ?_⟩
    refine ⟨_, rfl, x, d, rfl, hd, _, rfl, ?_⟩
    cases hw : isWt d with
    | false =>
      refine iteF ?_
      have e : isCP d = false := by
        unfold isCP
        split
        · rw [hw]
          rfl
        · rfl
      rw [e] at k
      exact k
    | true =>
      refine iteT ?_
      obtain ⟨a, x1, x2, d1, d2, rfl, rfl, q, h1, h2⟩ := tup2 hd (isWt_tup hw)
      cases h1 with
      | int i =>
        cases h2 with
        | int j =>
          refine ⟨_, rfl, a, _, _, _, rfl, rfl, q, rfl, _, _, rfl, rfl, ?_⟩
          have e : isCP (.tuple [.int i, .int j]) = decide (0 ≤ i) := by
            show (isWt (.tuple [.int i, .int j]) && decide (0 ≤ i)) = _
            rw [hw]
            rfl
          rw [e] at k
          exact k
        | non => simp [isWt] at hw
        | bl b => simp [isWt] at hw
        | str b => simp [isWt] at hw
        | lst _ _ => simp [isWt] at hw
        | tup _ _ => simp [isWt] at hw
      | non => simp [isWt] at hw
      | bl b => simp [isWt] at hw
      | str b => simp [isWt] at hw
      | lst _ _ => simp [isWt] at hw
      | tup _ _ => simp [isWt] at hw
end
end Tw

namespace Tw
open PySem PySem.Spec PyProof.Rows L2
open Wt Dc
abbrev sIsCh : Stmt := Pre.top 21
abbrev wayQ (d : PyData) : Bool := match d with
  | .tuple [.int c, .int e] => isWt (.tuple [.int c, .int e]) && (decide (0 ≤ c) && decide (c ≤ e))
  | _ => false
section
variable {P0 : Program} {w : World} {K : PySem.W.Frag} {mg : Str → Option Value} {base : Heap}
/-- whether data is a weight from nothing to all; its digits few -/
def spIsCh (K : PySem.W.Frag) : Sp := fun vs H Q _ => ∃ x d, vs = [x] ∧ Dp K H x d ∧ (∀ c e, d = .tuple [.int c, .int e] → sz 60 (c, e)) ∧ Q (.bl (wayQ d)) H
theorem scIsCh : FnScope ["value"] ["value"] (defScope sIsCh) := ⟨rfl, rfl, rfl, by decide +kernel, rfl, by decide +kernel, by decide +kernel⟩
theorem isCP_pair {d : PyData} (h : isCP d = true) : ∃ c e, d = .tuple [.int c, .int e] ∧ isWt (.tuple [.int c, .int e]) = true ∧ 0 ≤ c := by
  unfold isCP at h
  split at h
  · rw [Bool.and_eq_true] at h
    exact ⟨_, _, rfl, h.1, of_decide_eq_true h.2⟩
  · cases h
theorem ok_isch {f fP fB z : Addr} {fd dP dB : FuncData} (F : Fun K "_is_chance" "_is_chance" sIsCh f fd) (GP : ∀ base, FnOk P0 w K mg base CX0 3 fP dP ["value"] (spCPart K)) (FP : Fun K "is_chance_part" "is_chance_part" sCPart fP dP) (mP : mg "is_chance_part" = some (.ref fP)) (FB : Fun K "lies_below" "lies_below" sBelow fB dB) (mB : mg "lies_below" = some (.ref fB)) (mZ : mg "ALL" = some (.ref z)) (hZ : ∀ H, At K H z (1, 1)) : FnOk P0 w K mg base CX0 4 f fd ["value"] (spIsCh K) := by
  have GP := GP base
  have GB : FnOk P0 w K mg base CX0 1 fB dB ["one", "other"] (spBelow K) := ok_below FB
  have bP := FP.binds (ps := ["value"]) fun _ _ _ _ _ _ us hl => match us, hl with | [_], _ => rfl
  have bB := FB.binds (ps := ["one", "other"]) fun _ _ _ _ _ _ us hl => match us, hl with | [_, _], _ => rfl
  refine F.ok scIsCh (fun vs H Q E h => ?_) (fun cdv A outer s H vs Q E hr h => ?_)
  · obtain ⟨x, d, rfl, _⟩ := h
    rfl
  · obtain ⟨x, d, rfl, hd, hs, k⟩ := h
    have hr1 : Room 1 _ := hr.mono (by decide)
    refine ⟨_, pss_one (ps_ret (pe_and (pe_call GP hr (by rfl) mP FP.kp bP .nil pass0 (pa_cons (pv 0) pa_nil)) (pe_one (pe_not (pe_call GB hr1 (by rfl) mB FB.kp bB .nil pass0 (pa_cons (pe_glob (v := .ref z) (by rfl) mZ rfl) (pa_cons (pv 0) pa_nil))))))), ?_⟩
    refine ⟨_, rfl, x, d, rfl, hd, _, rfl, ?_⟩
    cases hc : isCP d with
    | false =>
      refine iteF ?_
      have e : wayQ d = false := by
        unfold isCP at hc
        unfold wayQ
        split
        · rename_i c e
          have hc' : (isWt (.tuple [.int c, .int e]) && decide (0 ≤ c)) = false := hc
          rw [← Bool.and_assoc, hc']
          rfl
        · rfl
      rw [e] at k
      exact k
    | true =>
      refine iteT ?_
      obtain ⟨c, e, rfl, hw, h0⟩ := isCP_pair hc
      cases hd with
      | tup q r =>
        cases r with
        | cons h1 r => cases r with
          | cons h2 r =>
            cases r
            cases h1
            cases h2
            refine ⟨_, rfl, z, _, (1, 1), (c, e), 1, 60, rfl, hZ H, q, ⟨by decide, by decide⟩, hs c e rfl, by decide, by decide, by decide, _, rfl, ?_⟩
            have e1 : wayQ (.tuple [.int c, .int e]) = !belowW (1, 1) (c, e) := by
              show (isWt (.tuple [.int c, .int e]) && (decide (0 ≤ c) && decide (c ≤ e))) = !decide (1 * e < c * 1)
              rw [hw, decide_eq_true h0, Bool.true_and, Bool.true_and, Int.one_mul, Int.mul_one]
              by_cases h : c ≤ e
              · rw [decide_eq_true h, decide_eq_false (show ¬ e < c by omega)]
                rfl
              · rw [decide_eq_false h, decide_eq_true (show e < c by omega)]
                rfl
            rw [e1] at k
            exact k
end
end Tw

namespace Tw
open PySem PySem.Spec PyProof.Rows L2
open Wt Dc
theorem bin_le : ∀ n i : Nat, bin n i ≤ 2 ^ n
  | 0, 0 => Nat.le_refl _
  | 0, _ + 1 => Nat.zero_le _
  | n + 1, 0 => Nat.one_le_two_pow
  | n + 1, i + 1 => by
    show bin n i + bin n (i + 1) ≤ 2 ^ (n + 1)
    have h1 := bin_le n i
    have h2 := bin_le n (i + 1)
    rw [Nat.pow_succ]
    omega
theorem fp_up (n : Int) : ∀ k : Nat, Builtin.Math.fallingProduct (n + 1) (k + 1) = (n + 1) * Builtin.Math.fallingProduct n k
  | 0 => by
    rw [PySem.W.mc_fp_succ, PySem.W.mc_fp_zero, PySem.W.mc_fp_zero]
    omega
  | k + 1 => by
    rw [PySem.W.mc_fp_succ, fp_up n k, PySem.W.mc_fp_succ n k]
    have e : n + 1 - ((k + 1 : Nat) : Int) = n - (k : Int) := by omega
    rw [e, Int.mul_assoc]
theorem bin_fp (n : Nat) : ∀ k : Nat, k ≤ n → (bin n k : Int) * Builtin.Math.fallingProduct (k : Int) k = Builtin.Math.fallingProduct (n : Int) k
  | 0, _ => by
    rw [bin_zero, PySem.W.mc_fp_zero, PySem.W.mc_fp_zero]
    rfl
  | k + 1, h => by
    have ih := bin_fp n k (by omega)
    have hs := bin_step (n := n) (i := k) (by omega)
    have e1 : ((k + 1 : Nat) : Int) = (k : Int) + 1 := by omega
    rw [e1, fp_up, PySem.W.mc_fp_succ, ← ih]
    have hs' : (bin n (k + 1) : Int) * ((k : Int) + 1) = (bin n k : Int) * ((n : Int) - (k : Int)) := by
      have : ((n - k : Nat) : Int) = (n : Int) - (k : Int) := by omega
      rw [← this, ← e1, ← Int.natCast_mul, ← Int.natCast_mul, hs]
    rw [← Int.mul_assoc, hs']
    generalize Builtin.Math.fallingProduct (k : Int) k = z
    generalize ((n : Int) - (k : Int)) = y
    generalize ((bin n k : Nat) : Int) = x
    rw [Int.mul_assoc, Int.mul_assoc, Int.mul_comm y z]
theorem bin_sym : ∀ {n k : Nat}, k ≤ n → bin n k = bin n (n - k)
  | 0, 0, _ => rfl
  | n + 1, 0, _ => by rw [bin_zero, Nat.sub_zero, bin_self]
  | n + 1, k + 1, h => by
    show bin n k + bin n (k + 1) = _
    rcases Nat.lt_or_ge k n with hk | hk
    · have e : n + 1 - (k + 1) = (n - (k + 1)) + 1 := by omega
      rw [e]
      show _ = bin n (n - (k + 1)) + bin n (n - (k + 1) + 1)
      have e2 : n - (k + 1) + 1 = n - k := by omega
      rw [e2, bin_sym (n := n) (k := k) (by omega), bin_sym (n := n) (k := k + 1) (by omega)]
      omega
    · have : k = n := by omega
      subst this
      rw [bin_self, bin_over (by omega), Nat.sub_self, bin_zero]
theorem comb_bin {n k : Nat} (h : k ≤ n) : PySem.W.mcComb (n : Int) (k : Int) = (bin n k : Int) := by
  have key : ∀ m : Nat, m ≤ n → bin n m = bin n k → min (k : Int) ((n : Int) - (k : Int)) = (m : Int) → PySem.W.mcComb (n : Int) (k : Int) = (bin n k : Int) := fun m hm he hmin => by
    rw [PySem.W.mcComb_at (by omega) (by omega) hmin, Int.toNat_natCast, ← bin_fp n m hm, he]
    have := PySem.W.mc_fp_pos (n := (m : Int)) m (by omega)
    exact Int.mul_ediv_cancel _ (by omega)
  rcases Nat.lt_or_ge (n - k) k with z | z
  · exact key (n - k) (by omega) (bin_sym h).symm (by omega)
  · exact key k h rfl (by omega)
/-! the object -/
abbrev sTriesI : Stmt := inClass (Pre.top 22) 0
abbrev sTriesA : Stmt := inClass (Pre.top 22) 1
def f1 (w : Int) : List (Str × V) := putF "all_ways" (.int w) []
def f2 (w : Int) (l : Addr) : List (Str × V) := putF "ways_from" (.ref l) (f1 w)
theorem aw_ : ¬ (("all_ways" : Str) = "ways_from") := by decide +kernel
theorem wa_ : ¬ (("ways_from" : Str) = "all_ways") := by decide +kernel
theorem f1_eq (w : Int) : f1 w = ([("all_ways", V.int w)] : List (Str × V)) := rfl
theorem f2_eq (w : Int) (l : Addr) : f2 w l = ([("all_ways", V.int w), ("ways_from", V.ref l)] : List (Str × V)) := by
  show (if ("all_ways" : Str) = "ways_from" then [(("all_ways" : Str), V.ref l)] else (("all_ways" : Str), V.int w) :: putF "ways_from" (V.ref l) []) = _
  rw [if_neg aw_]
  rfl
theorem f1_at (w : Int) : (f1 w).lookup ("all_ways" : Str) = some (.int w) := by
  unfold f1
  rw [lookup_putF, if_pos rfl]
theorem f2_all (w : Int) (l : Addr) : (f2 w l).lookup ("all_ways" : Str) = some (.int w) := by
  unfold f2
  rw [lookup_putF, if_neg aw_, f1_at]
theorem f2_from (w : Int) (l : Addr) : (f2 w l).lookup ("ways_from" : Str) = some (.ref l) := by
  unfold f2
  rw [lookup_putF, if_pos rfl]
theorem f2_no (w : Int) (l : Addr) {m : Str} (h1 : ¬ m = "ways_from") (h2 : ¬ m = "all_ways") : (f2 w l).lookup m = none := by
  unfold f2 f1
  rw [lookup_putF, if_neg h1, lookup_putF, if_neg h2]
  rfl
theorem f1_put (w v : Int) : putF "all_ways" (.int v) (f1 w) = f1 v := by
  rw [f1_eq, f1_eq]
  show (if ("all_ways" : Str) = "all_ways" then [(("all_ways" : Str), V.int v)] else _) = _
  rw [if_pos rfl]
theorem f2_put (w : Int) (l m : Addr) : putF "ways_from" (.ref m) (f2 w l) = f2 w m := by
  rw [f2_eq, f2_eq]
  show (if ("all_ways" : Str) = "ways_from" then _ else (("all_ways" : Str), V.int w) :: (if ("ways_from" : Str) = "ways_from" then [(("ways_from" : Str), V.ref m)] else _)) = _
  rw [if_neg aw_, if_pos rfl]
/-- behind x stand the tries with the chance c by d -/
def Tr (C : Addr) (H : Hp) (x : Addr) (c d : Int) (n : Nat) : Prop := ∃ dx l ws, H x = some (.ins C dx (f2 (d ^ n) l)) ∧ H l = some (.lst ((ws : List Int).map V.int)) ∧ ws.length = n + 2 ∧ ∀ b, b ≤ n + 1 → ws[b]? = some (((exN c (d - c) n).drop b).sum)
theorem Tr.same {C x : Addr} {H H' : Hp} {c d : Int} {n : Nat} (s : Same H H') (h : Tr C H x c d n) : Tr C H' x c d n := by
  obtain ⟨dx, l, ws, h1, h2, h3, h4⟩ := h
  exact ⟨dx, l, ws, s _ _ h1, s _ _ h2, h3, h4⟩
/-- the powers -/
def pws (c : Int) (i : Nat) : List Int := (List.range (i + 1)).map fun t => c ^ t
theorem pws_len (c : Int) (i : Nat) : (pws c i).length = i + 1 := by rw [pws, List.length_map, List.length_range]
theorem pws_more (c : Int) (i : Nat) : pws c (i + 1) = pws c i ++ [c ^ (i + 1)] := by
  unfold pws
  rw [List.range_succ, List.map_append]
  rfl
theorem pws_at (c : Int) {i t : Nat} (h : t ≤ i) : (pws c i)[t]? = some (c ^ t) := by
  unfold pws
  rw [List.getElem?_map, List.getElem?_range (by omega)]
  rfl
theorem pws_last (c : Int) : ∀ i : Nat, ∃ r, pws c i = r ++ [c ^ i]
  | 0 => ⟨[], rfl⟩
  | i + 1 => ⟨_, pws_more c i⟩
theorem at_last_map {xs : List Int} {r : List Int} {z : Int} (h : xs = r ++ [z]) : atI (xs.map V.int) (-1) = some (V.int z) := by
  subst h
  rw [List.map_append]
  exact atI_last _ _
/-- the sums from behind -/
def sums (xs : List Int) (j : Nat) : List Int := (List.range (j + 1)).map fun t => (xs.drop (xs.length - t)).sum
theorem sums_len (xs : List Int) (j : Nat) : (sums xs j).length = j + 1 := by rw [sums, List.length_map, List.length_range]
theorem sums_more (xs : List Int) (j : Nat) : sums xs (j + 1) = sums xs j ++ [(xs.drop (xs.length - (j + 1))).sum] := by
  unfold sums
  rw [List.range_succ, List.map_append]
  rfl
theorem sums_at (xs : List Int) {j t : Nat} (h : t ≤ j) : (sums xs j)[t]? = some ((xs.drop (xs.length - t)).sum) := by
  unfold sums
  rw [List.getElem?_map, List.getElem?_range (by omega)]
  rfl
theorem sums_rev {xs : List Int} {b : Nat} (h : b ≤ xs.length) : (sums xs xs.length).reverse[b]? = some ((xs.drop b).sum) := by
  rw [List.getElem?_reverse (by rw [sums_len]; omega), sums_len, sums_at xs (by omega)]
  have e : xs.length - (xs.length + 1 - 1 - b) = b := by omega
  rw [e]
theorem drop_more {xs : List Int} {j : Nat} (h : j < xs.length) : (xs.drop (xs.length - (j + 1))).sum = (xs.drop (xs.length - j)).sum + xs.getD (xs.length - (j + 1)) 0 := by
  have hl : xs.length - (j + 1) < xs.length := by omega
  have e : xs.drop (xs.length - (j + 1)) = xs[xs.length - (j + 1)] :: xs.drop (xs.length - (j + 1) + 1) := List.drop_eq_getElem_cons hl
  have e2 : xs.length - (j + 1) + 1 = xs.length - j := by omega
  rw [e, List.sum_cons, e2, List.getD_eq_getElem?_getD, List.getElem?_eq_getElem hl]
  show _ = _ + xs[xs.length - (j + 1)]
  omega
theorem in_mul {X : Cx} : InOp X .Mult (rI CMul fun i j => .int (i * j)) := by
  intro pins s σ H x y u v Q I r1 r2 h
  obtain ⟨i, j, e1, e2, hc, q⟩ := h
  subst e1; subst e2
  obtain ⟨t, rfl⟩ := r1
  obtain ⟨t', rfl⟩ := r2
  exact imul_int ⟨.int _, H, I.tok _, ⟨_, rfl⟩, q⟩ hc.ok
structure TxtT (K : PySem.W.Frag) (mg : Str → Option Value) (C : Addr) : Prop where
  cl : Cls K C
  nA : NoAttr K C "all_ways"
  nF : NoAttr K C "ways_from"
  zg : mg "range" = none
  zl : mg "list" = none
  zn : mg "len" = none
  zr : mg "reversed" = none
  cm : mg "comb" = some (.builtin "math.comb")
theorem ne_of_none' {H : Hp} {a b : Addr} {o : HO} (h : H b = some o) (h' : H a = none) : a ≠ b := fun z => by
  rw [z, h] at h'
  cases h'
section
variable {P0 : Program} {w : World} {K : PySem.W.Frag} {mg : Str → Option Value} {base : Heap}
def spTrI (K : PySem.W.Frag) (C : Addr) : Sp := fun vs H Q _ => ∃ (H0 : Hp) (x dx ch : Addr) (c d : Int) (n : Nat), vs = [.ref x, .ref ch, .int (n : Int)] ∧ Same H0 H ∧ H0 x = none ∧ H x = some (.ins C dx []) ∧ At K H0 ch (c, d) ∧ 0 ≤ c ∧ c ≤ d ∧ 0 < d ∧ d.natAbs < 2 ^ 60 ∧ n ≤ 40 ∧
  ∀ H', Same H0 H' → Tr C H' x c d n → Q .non H'
theorem scTrI : FnScope ["self", "chance", "tries", "top", "bottom", "left", "rises", "falls", "_", "ways", "often"] ["self", "chance", "tries"] (defScope sTriesI) := ⟨rfl, rfl, rfl, by decide +kernel, rfl, by decide +kernel, by decide +kernel⟩
theorem ok_trI {f C : Addr} {fd : FuncData} (F : Fun K "__init__" "Tries.__init__" sTriesI f fd) (T : TxtT K mg C) : FnOk P0 w K mg base CX0 1 f fd ["self", "chance", "tries"] (spTrI K C) := by
  refine F.ok scTrI (fun vs H Q E h => ?_) (fun cdv A outer s H vs Q E hr h => ?_)
  · obtain ⟨H0, x, dx, ch, c, d, n, rfl, _⟩ := h
    rfl
  · obtain ⟨H0, x, dx, ch, c, d, n, rfl, s0, x0, hx, hch, c0, cd, d0, hd, hn, k⟩ := h
    have nd := scTrI.nd
    refine ⟨_, pss_cons (ps_asg (pv 1) (pg_tup (by rfl) (pgs_cons (pg_name (i := 3) nd rfl (Or.inl rfl)) (pgs_cons (pg_name (i := 4) nd rfl (Or.inl rfl)) pgs_nil))))
      (pss_cons (ps_set (i := 5) nd rfl (Or.inl rfl) (pe_op op_sub (pv 4) (pv 3)))
      (pss_cons (ps_fld (pv 0) pe_int rfl)
      (pss_cons (ps_set (i := 6) nd rfl (Or.inl rfl) (pe_lst (pa_cons pe_int pa_nil)))
      (pss_cons (ps_set (i := 7) nd rfl (Or.inl rfl) (pe_lst (pa_cons pe_int pa_nil)))
      (pss_cons (ps_for PassesOwn.never rfl (pi_range1 (by rfl) T.zg (pa_cons (pv 2) pa_nil)) (pg_name (i := 8) nd rfl (Or.inl rfl))
        (pss_cons (ps_fldaug (pv 0) (pv 4) in_mul)
        (pss_cons (ps_expr (pe_bm PySem.F.plainAttrs_list PySem.F.slot_list_append PySem.F.type_list_append mt_append (pv 6) (pa_cons (pe_op op_mul (pe_ix ix_list (pv 6) (pe_un un_neg pe_int) (fun _ _ => rfl)) (pv 3)) pa_nil)))
        (pss_one (ps_expr (pe_bm PySem.F.plainAttrs_list PySem.F.slot_list_append PySem.F.type_list_append mt_append (pv 7) (pa_cons (pe_op op_mul (pe_ix ix_list (pv 7) (pe_un un_neg pe_int) (fun _ _ => rfl)) (pv 5)) pa_nil)))))))
      (pss_cons (ps_set (i := 9) nd rfl (Or.inl rfl) pe_int)
      (pss_cons (ps_fld (pv 0) (pe_lst (pa_cons pe_int pa_nil)) rfl)
      (pss_cons (ps_for PassesOwn.never rfl (pi_range3 (by rfl) T.zg (pa_cons (pv 2) (pa_cons (pe_un un_neg pe_int) (pa_cons (pe_un un_neg pe_int) pa_nil)))) (pg_name (i := 10) nd rfl (Or.inl rfl))
        (pss_cons (ps_aug (i := 9) nd rfl (Or.inl rfl) (pe_op op_mulW (pe_op op_mulW (pe_callBfun RvL.cr_comb (by rfl) T.cm (pa_cons (pv 2) (pa_cons (pv 10) pa_nil))) (pe_ix ix_list (pv 6) (pv 10) (fun _ _ => rfl))) (pe_ix ix_list (pv 7) (pe_op op_sub (pv 2) (pv 10)) (fun _ _ => rfl))) ip_add)
        (pss_one (ps_expr (pe_bm PySem.F.plainAttrs_list PySem.F.slot_list_append PySem.F.type_list_append mt_append (pe_fld (pv 0) rfl) (pa_cons (pv 9) pa_nil))))))
      (pss_one (ps_fld (pv 0) (RvL.pe_listRev rfl (by rfl) T.zl (by rfl) T.zr (pe_fld (pv 0) rfl)) rfl)))))))))), ?_⟩
    have chx : x ≠ ch → True := fun _ => trivial
    have hch1 : At K H ch (c, d) := sqT_same s0 hch
    have hc : c.natAbs < 2 ^ 60 := by omega
    have he : (d - c).natAbs < 2 ^ 60 := by omega
    have e60 : (2 : Nat) ^ 60 = 1152921504606846976 := by decide
    have e64 : (2 : Int) ^ 64 = 18446744073709551616 := by decide
    refine ⟨_, rfl, ch, _, rfl, hch1, rfl, _, _, rfl, _, _, rfl, rfl, ?_⟩
    refine ⟨_, rfl, _, rfl, _, _, rfl, rfl, ?_⟩
    refine ⟨_, rfl, x, C, dx, [], rfl, hx, T.cl, T.nA, (by show 0 < 1000; decide), ?_⟩
    refine ⟨by show 1 ≤ sizeLine; decide, fun r hr1 => ?_⟩
    refine ⟨by show 1 ≤ sizeLine; decide, fun f hf1 => ?_⟩
    have hx1 : upd H x (.ins C dx (f1 1)) x = some (.ins C dx (f1 1)) := upd_same
    have nrx : r ≠ x := fun z => by
      rw [z] at hr1
      exact absurd (hx1.symm.trans hr1) (by intro q; cases q)
    have nfr : f ≠ r := fun z => by
      rw [z, upd_same] at hf1
      cases hf1
    have nfx : f ≠ x := fun z => by
      rw [z, upd_ne nrx.symm] at hf1
      exact absurd (hx1.symm.trans hf1) (by intro q; cases q)
    have r0 : H0 r = none := s0.free (by
      rw [← hr1]
      exact (upd_ne nrx).symm)
    have f0 : H0 f = none := s0.free (by
      rw [← hf1, upd_ne nfr]
      exact (upd_ne nfx).symm)
    have keep : ∀ {H' : Hp} {a : Addr} {o : HO}, Same H0 H' → H0 a = none → Same H0 (upd H' a o) := fun {H' a o} z z0 b ob e => by
      have nb : b ≠ a := fun q => by
        rw [q, z0] at e
        cases e
      rw [upd_ne nb]
      exact z _ _ e
    refine ⟨_, rfl, (n : Int), rfl, by omega, by omega, for_range (n := (n : Int).toNat) (fun i σ H' => ∃ o8, σ = [some (.ref x), some (.ref ch), some (.int (n : Int)), some (.int c), some (.int d), some (.int (d - c)), some (.ref r), some (.ref f), o8, none, none] ∧ Same H0 H' ∧ H' x = some (.ins C dx (f1 (d ^ i))) ∧ H' r = some (.lst ((pws c i).map V.int)) ∧ H' f = some (.lst ((pws (d - c) i).map V.int)))
      ⟨none, rfl, keep (keep (keep s0 x0) r0) f0, ?_, ?_, ?_⟩ ?_ ?_⟩
    · rw [upd_ne nfx.symm, upd_ne nrx.symm, Int.pow_zero]
      exact upd_same
    · rw [upd_ne nfr.symm]
      show upd _ r _ r = some (.lst [V.int (c ^ 0)])
      rw [Int.pow_zero]
      exact upd_same
    · show upd _ f _ f = some (.lst [V.int ((d - c) ^ 0)])
      rw [Int.pow_zero]
      exact upd_same
    · rintro i σ H2 hi ⟨o8, rfl, s2, hx2, hr2, hf2⟩
      rw [Int.toNat_natCast] at hi
      obtain ⟨ra, era⟩ := pws_last c i
      obtain ⟨fa, efa⟩ := pws_last (d - c) i
      have hrx : upd H2 x (.ins C dx (f1 (d ^ i * d))) r = some (.lst ((pws c i).map V.int)) := (upd_ne nrx).trans hr2
      refine ⟨_, rfl, x, C, dx, _, _, rfl, hx2, T.cl, T.nA, f1_at _, _, rfl, _, _, rfl, rfl, .inr ⟨by omega, by omega⟩, dx, _, hx2, (by rw [f1_eq]; show 1 < 1000; decide), ?_⟩
      rw [f1_put]
      refine ⟨_, rfl, .inl ⟨rfl, _, SqL.of hrx⟩, _, rfl, _, rfl, r, _, _, _, rfl, rfl, SqL.of hrx, at_last_map era, _, rfl, _, _, rfl, rfl, .inr ⟨by omega, by omega⟩, r, _, _, rfl, rfl, hrx, by rw [List.length_map, pws_len]; exact Nat.lt_of_le_of_lt (show i + 1 ≤ 41 by omega) (by decide), ?_⟩
      have hfx : upd (upd H2 x (.ins C dx (f1 (d ^ i * d)))) r (.lst ((pws c i).map V.int ++ [.int (c ^ i * c)])) f = some (.lst ((pws (d - c) i).map V.int)) := by
        rw [upd_ne nfr, upd_ne nfx]
        exact hf2
      refine ⟨_, rfl, .inl ⟨rfl, _, SqL.of hfx⟩, _, rfl, _, rfl, f, _, _, _, rfl, rfl, SqL.of hfx, at_last_map efa, _, rfl, _, _, rfl, rfl, .inr ⟨by omega, by omega⟩, f, _, _, rfl, rfl, hfx, by rw [List.length_map, pws_len]; exact Nat.lt_of_le_of_lt (show i + 1 ≤ 41 by omega) (by decide), ?_⟩
      refine ⟨_, rfl, keep (keep (keep s2 x0) r0) f0, ?_, ?_, ?_⟩
      · rw [upd_ne nfx.symm, upd_ne nrx.symm, upd_same, Int.pow_succ]
      · rw [upd_ne nfr.symm, upd_same, pws_more, List.map_append, Int.pow_succ]
        rfl
      · rw [upd_same, pws_more, List.map_append, Int.pow_succ]
        rfl
    · rintro σ H2 ⟨o8, rfl, s2, hx2, hr2, hf2⟩
      rw [Int.toNat_natCast] at hx2 hr2 hf2
      refine ⟨by show 1 ≤ sizeLine; decide, fun l hl => ?_⟩
      have hl0 : H0 l = none := s2.free hl
      have nlx : l ≠ x := ne_of_none' hx2 hl
      have nlr : l ≠ r := ne_of_none' hr2 hl
      have nlf : l ≠ f := ne_of_none' hf2 hl
      have hxl : upd H2 l (.lst [.int 0]) x = some (.ins C dx (f1 (d ^ n))) := (upd_ne nlx.symm).trans hx2
      have hlen := exN_len c (d - c) n
      refine ⟨_, rfl, x, C, dx, _, rfl, hxl, T.cl, T.nF, (by rw [f1_eq]; show 1 < 1000; decide), ?_⟩
      have l0 : H0 l = none := s2.free hl
      refine ⟨_, rfl, _, rfl, _, rfl, (n : Int), -1, -1, _, rfl, RgC.neg (by omega) (by omega) (by decide) (by decide), for_rangeC (lo := (n : Int)) (c := -1) (n := ((n : Int) - -1).toNat) (fun j σ H' => ∃ o10, σ = [some (.ref x), some (.ref ch), some (.int (n : Int)), some (.int c), some (.int d), some (.int (d - c)), some (.ref r), some (.ref f), o8, some (.int (((exN c (d - c) n).drop ((exN c (d - c) n).length - j)).sum)), o10] ∧ Same H0 H' ∧ H' x = some (.ins C dx (f2 (d ^ n) l)) ∧ H' r = some (.lst ((pws c n).map V.int)) ∧ H' f = some (.lst ((pws (d - c) n).map V.int)) ∧ H' l = some (.lst ((sums (exN c (d - c) n) j).map V.int)))
        ⟨none, ?_, keep (keep s2 l0) x0, upd_same, ?_, ?_, ?_⟩ ?_ ?_⟩
      · rw [Nat.sub_zero, List.drop_length]
        rfl
      · rw [upd_ne nrx, upd_ne nlr.symm]
        exact hr2
      · rw [upd_ne nfx, upd_ne nlf.symm]
        exact hf2
      · rw [upd_ne nlx, upd_same]
        show some (HO.lst [V.int 0]) = some (HO.lst [V.int (((exN c (d - c) n).drop ((exN c (d - c) n).length - 0)).sum)])
        rw [Nat.sub_zero, List.drop_length]
        rfl
      · rintro j σ H4 hj ⟨o10, rfl, s4, hx4, hr4, hf4, hl4⟩
        have hj : j ≤ n := by omega
        have ej : (n : Int) + ((j : Nat) : Int) * -1 = ((n - j : Nat) : Int) := by omega
        rw [ej]
        have w1 : (PySem.W.mcComb (n : Int) ((n - j : Nat) : Int)).natAbs < 2 ^ 41 := by
          rw [comb_bin (show n - j ≤ n by omega)]
          have := bin_le n (n - j)
          have : 2 ^ n ≤ 2 ^ 40 := Nat.pow_le_pow_right (by decide) hn
          have : (2 : Nat) ^ 41 = 2 * 2 ^ 40 := by decide
          have : (0 : Nat) < 2 ^ 40 := by decide
          omega
        have big : ∀ (x : Int) (m : Nat), x.natAbs < 2 ^ 60 → m ≤ 40 → (x ^ m).natAbs < 2 ^ 2401 := fun x m hx hm => Nat.lt_of_lt_of_le (pow_lt hx m) (Nat.pow_le_pow_right (by decide) (by omega))
        have w2 := big c (n - j) hc (by omega)
        have w3 := big (d - c) j he (by omega)
        have efj : (n : Int) - ((n - j : Nat) : Int) = ((j : Nat) : Int) := by omega
        refine ⟨_, rfl, _, rfl, _, rfl, n, n - j, rfl, by omega, _, rfl, _, rfl, r, _, _, _, rfl, rfl, SqL.of hr4, atI_nat (j := n - j) (by rw [List.getElem?_map, pws_at c (by omega)]; rfl), _, _, rfl, rfl, wide w1 w2 (by decide) (by decide) (by decide), ?_⟩
        refine ⟨_, rfl, _, rfl, _, rfl, _, _, rfl, rfl, f, _, _, _, rfl, rfl, SqL.of hf4, (by rw [efj]; exact atI_nat (j := j) (by rw [List.getElem?_map, pws_at (d - c) hj]; rfl)), _, _, rfl, rfl, wide (mul_lt2 w1 w2) w3 (by decide) (by decide) (by decide), _, _, rfl, rfl, ?_⟩
        refine ⟨_, rfl, x, C, dx, _, _, rfl, hx4, T.cl, T.nF, f2_from _ _, .inl ⟨rfl, _, SqL.of hl4⟩, _, rfl, l, _, _, rfl, rfl, hl4, by rw [List.length_map, sums_len]; exact Nat.lt_of_le_of_lt (show j + 1 ≤ 41 by omega) (by decide), ?_⟩
        have esum : ((exN c (d - c) n).drop ((exN c (d - c) n).length - (j + 1))).sum = ((exN c (d - c) n).drop ((exN c (d - c) n).length - j)).sum + PySem.W.mcComb (n : Int) ((n - j : Nat) : Int) * c ^ (n - j) * (d - c) ^ j := by
          rw [drop_more (by omega), comb_bin (show n - j ≤ n by omega), hlen]
          have e1 : n + 1 - (j + 1) = n - j := by omega
          rw [e1, exN_at c (d - c) n (n - j) (by omega)]
          have e2 : n - (n - j) = j := by omega
          rw [e2]
        refine ⟨some (.int ((n - j : Nat) : Int)), ?_, keep s4 l0, ?_, ?_, ?_, ?_⟩
        · rw [esum]
          rfl
        · rw [upd_ne nlx.symm]
          exact hx4
        · rw [upd_ne nlr.symm]
          exact hr4
        · rw [upd_ne nlf.symm]
          exact hf4
        · rw [upd_same, sums_more, List.map_append, esum]
          rfl
      · rintro σ H4 ⟨o10, rfl, s4, hx4, hr4, hf4, hl4⟩
        have et : ((n : Int) - -1).toNat = (exN c (d - c) n).length := by omega
        rw [et] at hl4
        refine ⟨_, rfl, x, C, dx, _, _, rfl, hx4, T.cl, T.nF, f2_from _ _, l, _, rfl, SqL.of hl4, fun q hq => ?_⟩
        have nqx : q ≠ x := ne_of_none' hx4 hq
        refine ⟨_, rfl, x, C, dx, _, rfl, (upd_ne nqx.symm).trans hx4, T.cl, T.nF, (by rw [f2_eq]; show 2 < 1000; decide), ?_⟩
        rw [f2_put]
        refine k _ (keep (keep s4 (s4.free hq)) x0) ⟨dx, q, (sums (exN c (d - c) n) (exN c (d - c) n).length).reverse, upd_same, ?_, ?_, fun b hb => sums_rev (by omega)⟩
        · rw [upd_ne nqx, upd_same, List.map_reverse]
        · rw [List.length_reverse, sums_len, hlen]
end
end Tw

namespace Tw
open PySem PySem.Spec PyProof.Rows L2
open Wt Dc
abbrev sWish : Stmt := Pre.top 23
abbrev veT : List Value := [.type "ValueError", .type "Exception", .type "BaseException", .type "object"]
/-- an error of the text -/
structure ErC (K : PySem.W.Frag) (mg : Str → Option Value) (x : Str) (C : Addr) : Prop where
  g : mg x = some (.ref C)
  q : PySem.W.excIn K C veT "ValueError.__new__" = true
  k : PySem.W.keepIn K (.ref C) = true
  b : PySem.W.subIn K (.ref C) (.type "BaseException") = some true
  t : PySem.W.typeIn K (.ref C) = some (.type "type")
theorem wayQ_eq (d : PyData) : wayQ d = isChD d := by
  first
    | rfl
    | (unfold wayQ isChD; split <;> split <;> simp_all)
theorem zero_eq {u : Int × Int} (hu : isW u) (z : u.1 = 0) : u = (0, 1) := by
  have p := isW_pos hu
  have g2 : (decide (1 ≤ u.2) && (gI u.1 u.2 == 1)) = true := hu
  rw [Bool.and_eq_true] at g2
  have g3 : gI u.1 u.2 = 1 := by simpa using g2.2
  rw [z] at g3
  unfold gI at g3
  rw [Int.gcd_zero_left] at g3
  exact Prod.ext z (by show u.2 = 1; omega)
theorem isWt_pair {d : PyData} (h : isWt d = true) : ∃ c e, d = .tuple [.int c, .int e] ∧ isWt (.tuple [.int c, .int e]) = true := by
  match d, h with
  | .tuple [.int a, .int b], h => exact ⟨a, b, rfl, h⟩
section
variable {P0 : Program} {w : World} {K : PySem.W.Frag} {mg : Str → Option Value} {base : Heap}
def spWish (K : PySem.W.Frag) (CW : Addr) : Sp := fun vs H Q E => ∃ x y z dx dy dz, vs = [x, y, z] ∧ Dp K H x dx ∧ Dp K H y dy ∧ Dp K H z dz ∧ SmT dx ∧ SmT dy ∧ SmT dz ∧
  (isChD dx = false → ∀ H', Same H H' → E (.ref CW) none H') ∧
  (isChD dx = true → (isChD dy && !PyData.eqv dx dy) = false → ∀ H', Same H H' → E (.ref CW) none H') ∧
  (isChD dx = true → (isChD dy && !PyData.eqv dx dy) = true → isWishD dz = false → ∀ H', Same H H' → E (.ref CW) none H') ∧
  (isChD dx = true → (isChD dy && !PyData.eqv dx dy) = true → isWishD dz = true → ∀ H', Same H H' → Q .non H')
theorem scWish : FnScope ["one", "other", "wish"] ["one", "other", "wish"] (defScope sWish) := ⟨rfl, rfl, rfl, by decide +kernel, rfl, by decide +kernel, by decide +kernel⟩
theorem sm_sz {d : PyData} (h : SmT d) : ∀ c e, d = .tuple [.int c, .int e] → sz 60 (c, e) := fun c e z => h.1 c e z
theorem ok_wish {f fC fP fB z0 CW : Addr} {fd dC dP dB : FuncData} (F : Fun K "_check_wish" "_check_wish" sWish f fd) (GC : ∀ base, FnOk P0 w K mg base CX0 4 fC dC ["value"] (spIsCh K)) (FC : Fun K "_is_chance" "_is_chance" sIsCh fC dC) (mC : mg "_is_chance" = some (.ref fC))
    (GP : ∀ base, FnOk P0 w K mg base CX0 2 fP dP ["value"] (spIsWt K)) (FP : Fun K "is_weight" "is_weight" sIsWt fP dP) (mP : mg "is_weight" = some (.ref fP)) (FB : Fun K "lies_below" "lies_below" sBelow fB dB) (mB : mg "lies_below" = some (.ref fB)) (mZ : mg "NOTHING" = some (.ref z0)) (hZ : ∀ H, At K H z0 (0, 1)) {zh : Addr} (mH : mg "HALF" = some (.ref zh)) (hH : ∀ H, At K H zh (1, 2)) (e : ErC K mg "BadWeight" CW) :
    FnOk P0 w K mg base (L2.CX P0 w) 5 f fd ["one", "other", "wish"] (spWish K CW) := by
  have GC := GC base
  have GP := GP base
  have GB : FnOk P0 w K mg base CX0 1 fB dB ["one", "other"] (spBelow K) := ok_below FB
  have bC := FC.binds (ps := ["value"]) fun _ _ _ _ _ _ us hl => match us, hl with | [_], _ => rfl
  have bP := FP.binds (ps := ["value"]) fun _ _ _ _ _ _ us hl => match us, hl with | [_], _ => rfl
  have bB := FB.binds (ps := ["one", "other"]) fun _ _ _ _ _ _ us hl => match us, hl with | [_, _], _ => rfl
  refine F.okX scWish (fun vs H Q E h => ?_) (fun cdv A outer s H vs Q E hr h => ?_)
  · obtain ⟨x, y, z, dx, dy, dz, rfl, _⟩ := h
    rfl
  · obtain ⟨x, y, z, dx, dy, dz, rfl, hx, hy, hz, smx, smy, smz, k1, k2, k3, k4⟩ := h
    have hr1 : Room 1 _ := hr.mono (by decide)
    have hr3 : Room 2 _ := hr.mono (by decide)
    refine ⟨_, pss_cons (ps_if (pt_not (pt_val (pe_call GC hr (by rfl) mC FC.kp bC .nil pass0 (pa_cons (pv 0) pa_nil)))) (pss_one (ps_raise rfl (takes_of rfl rfl rfl rfl) (pmk_own PySem.F.excBase_ValueError e.q e.g e.k (raises_own e.b e.t) rfl))) pss_nil)
      (pss_cons (ps_if (PW.pt (pw_or (pt_not (pt_val (pe_call GC hr (by rfl) mC FC.kp bC .nil pass0 (pa_cons (pv 1) pa_nil)))) (pw_or1 (pt_cmpR (op_eqD hr.units) (pv 0) (pv 1) (nomark _))))) (pss_one (ps_raise rfl (takes_of rfl rfl rfl rfl) (pmk_own PySem.F.excBase_ValueError e.q e.g e.k (raises_own e.b e.t) rfl))) pss_nil)
      (pss_one (ps_if (PW.pt (pw_or (pt_not (pt_val (pe_call GP hr3 (by rfl) mP FP.kp bP .nil pass0 (pa_cons (pv 2) pa_nil)))) (pw_or (pt_not (pt_val (pe_call GB hr1 (by rfl) mB FB.kp bB .nil pass0 (pa_cons (pe_glob (v := .ref z0) (by rfl) mZ rfl) (pa_cons (pv 2) pa_nil))))) (pw_or1 (pt_not (pt_val (pe_call GB hr1 (by rfl) mB FB.kp bB .nil pass0 (pa_cons (pv 2) (pa_cons (pe_glob (v := .ref zh) (by rfl) mH rfl) pa_nil))))))))) (pss_one (ps_raise rfl (takes_of rfl rfl rfl rfl) (pmk_own PySem.F.excBase_ValueError e.q e.g e.k (raises_own e.b e.t) rfl))) pss_nil))), ?_⟩
    refine ⟨_, rfl, x, dx, rfl, hx, sm_sz smx, _, rfl, ?_⟩
    rw [wayQ_eq]
    cases h1 : isChD dx with
    | false => exact iteT (k1 h1 H (Same.refl _))
    | true =>
      refine iteF ⟨_, rfl, y, dy, rfl, hy, sm_sz smy, _, rfl, ?_⟩
      rw [wayQ_eq]
      cases h2 : isChD dy with
      | false => exact iteT (iteT (k2 h1 (by rw [h2]; rfl) H (Same.refl _)))
      | true =>
        refine iteF ⟨_, rfl, _, rfl, dx, dy, hx, hy, smx.2, smy.2, _, rfl, ?_⟩
        cases h3 : PyData.eqv dx dy with
        | true => exact iteT (k2 h1 (by rw [h2, h3]; rfl) H (Same.refl _))
        | false =>
          have hb : (isChD dy && !PyData.eqv dx dy) = true := by rw [h2, h3]; rfl
          refine iteF ⟨_, rfl, z, dz, rfl, hz, _, rfl, ?_⟩
          cases h4 : isWt dz with
          | false =>
            refine iteT (iteT (k3 h1 hb ?_ H (Same.refl _)))
            cases q : isWishD dz with
            | false => rfl
            | true =>
              obtain ⟨u, rfl, hu, u0, _⟩ := wish_pair q
              have : isWt (wD u) = true := hu
              rw [this] at h4
              cases h4
          | true =>
            obtain ⟨c, d, rfl, hw⟩ := isWt_pair h4
            have wdef : isWishD (.tuple [.int c, .int d]) = (decide (0 < c) && decide (2 * c < d)) := by
              show (isWt (.tuple [.int c, .int d]) && (decide (0 < c) && decide (2 * c < d))) = _
              rw [hw, Bool.true_and]
            cases hz with
            | tup q r =>
              cases r with
              | cons r1 r => cases r with
                | cons r2 r =>
                  cases r
                  cases r1
                  cases r2
                  refine iteF ⟨_, rfl, z0, _, (0, 1), (c, d), 2, 60, rfl, hZ H, q, ⟨by decide, by decide⟩, smz.1 c d rfl, by decide, by decide, by decide, _, rfl, ?_⟩
                  have ea : belowW (0, 1) (c, d) = decide (0 < c) := by
                    show decide (0 * d < c * 1) = _
                    rw [Int.zero_mul, Int.mul_one]
                  rw [ea]
                  cases h5 : decide (0 < c) with
                  | false => exact iteT (iteT (k3 h1 hb (by rw [wdef, h5]; rfl) H (Same.refl _)))
                  | true =>
                    refine iteF ⟨_, rfl, _, zh, (c, d), (1, 2), 60, 2, rfl, q, hH H, smz.1 c d rfl, ⟨by show (1 : Int).natAbs < 2 ^ 2; decide, by show (2 : Int).natAbs < 2 ^ 2; decide⟩, by decide, by decide, by decide, _, rfl, ?_⟩
                    have eb : belowW (c, d) (1, 2) = decide (2 * c < d) := by
                      show decide (c * 2 < 1 * d) = _
                      rw [Int.one_mul, Int.mul_comm]
                    rw [eb]
                    cases h6 : decide (2 * c < d) with
                    | false => exact iteT (k3 h1 hb (by rw [wdef, h6, Bool.and_false]) H (Same.refl _))
                    | true => exact iteF (k4 h1 hb (by rw [wdef, h6, h5]; rfl) H (Same.refl _))
end
end Tw

namespace Wt
open PySem PySem.Spec PyProof.Rows L2
abbrev sAdded : Stmt := Pre.top 14
abbrev sMul : Stmt := Pre.top 15
def lessW (u v : Int × Int) : Int × Int := addW u (-v.1, v.2)
section
variable {P0 : Program} {w : World} {K : PySem.W.Frag} {mg : Str → Option Value} {base : Heap}
def spAdded (K : PySem.W.Frag) : Sp := fun vs H Q _ => ∃ (a b : Addr) (u v : Int × Int) (n m : Nat), vs = [.ref a, .ref b] ∧ At K H a u ∧ At K H b v ∧ u.2 ≠ 0 ∧ v.2 ≠ 0 ∧ sz n u ∧ sz m v ∧ 0 < n ∧ 0 < m ∧ n + m ≤ 7000 ∧
  ∀ (p : Addr) (H' : Hp), Same H H' → At K H' p (addW u v) → Q (.ref p) H'
theorem scAdded : FnScope ["one", "other"] ["one", "other"] (defScope sAdded) := ⟨rfl, rfl, rfl, by decide +kernel, rfl, by decide +kernel, by decide +kernel⟩
theorem ok_added {f fS : Addr} {fd dS : FuncData} (F : Fun K "added" "added" sAdded f fd) (T : TxtW mg) (FS : Fun K "shortened" "shortened" sShort fS dS) (mS : mg "shortened" = some (.ref fS)) : FnOk P0 w K mg base CX0 2 f fd ["one", "other"] (spAdded K) := by
  have GS : FnOk P0 w K mg base CX0 1 fS dS ["top", "bottom"] spShort := ok_short FS T
  have bS := FS.binds (ps := ["top", "bottom"]) fun _ _ _ _ _ _ us hl => match us, hl with | [_, _], _ => rfl
  refine F.ok scAdded (fun vs H Q E h => ?_) (fun cdv A outer s H vs Q E hr h => ?_)
  · obtain ⟨a, b, u, v, n, m, rfl, _⟩ := h
    rfl
  · obtain ⟨a, b, u, v, n, m, rfl, ha, hb, hu, hv, su, sv, n0, m0, nm, k⟩ := h
    refine ⟨_, pss_one (ps_ret (pe_call GS hr rfl mS FS.kp bS .nil pass0 (pa_cons (pe_op op_add (pe_op op_mulW (pe_ix ix_tup (pv 0) pe_int (fun _ _ => rfl)) (pe_ix ix_tup (pv 1) pe_int (fun _ _ => rfl))) (pe_op op_mulW (pe_ix ix_tup (pv 1) pe_int (fun _ _ => rfl)) (pe_ix ix_tup (pv 0) pe_int (fun _ _ => rfl))))
      (pa_cons (pe_op op_mulW (pe_ix ix_tup (pv 0) pe_int (fun _ _ => rfl)) (pe_ix ix_tup (pv 1) pe_int (fun _ _ => rfl))) pa_nil)))), ?_⟩
    refine ⟨_, rfl, a, _, _, _, rfl, rfl, ha, rfl, _, rfl, b, _, _, _, rfl, rfl, hb, rfl, _, _, rfl, rfl, wide su.1 sv.2 n0 m0 (by omega), ?_⟩
    refine ⟨_, rfl, b, _, _, _, rfl, rfl, hb, rfl, _, rfl, a, _, _, _, rfl, rfl, ha, rfl, _, _, rfl, rfl, wide sv.1 su.2 m0 n0 (by omega), _, _, rfl, rfl, ?_⟩
    refine ⟨_, rfl, a, _, _, _, rfl, rfl, ha, rfl, _, rfl, b, _, _, _, rfl, rfl, hb, rfl, _, _, rfl, rfl, wide su.2 sv.2 n0 m0 (by omega), ?_⟩
    exact ⟨_, _, n + m, rfl, ne_mul hu hv, den_lt su sv, by omega, by omega, fun p H' s1 hp => k p H' s1 (SqT.of hp)⟩
def spMul (K : PySem.W.Frag) : Sp := fun vs H Q _ => ∃ (a b : Addr) (u v : Int × Int) (n m : Nat), vs = [.ref a, .ref b] ∧ At K H a u ∧ At K H b v ∧ u.2 ≠ 0 ∧ v.2 ≠ 0 ∧ sz n u ∧ sz m v ∧ 0 < n ∧ 0 < m ∧ n + m ≤ 7000 ∧
  ∀ (p : Addr) (H' : Hp), Same H H' → At K H' p (mulW u v) → Q (.ref p) H'
theorem scMul : FnScope ["one", "other"] ["one", "other"] (defScope sMul) := ⟨rfl, rfl, rfl, by decide +kernel, rfl, by decide +kernel, by decide +kernel⟩
theorem ok_mul {f fS : Addr} {fd dS : FuncData} (F : Fun K "multiplied" "multiplied" sMul f fd) (T : TxtW mg) (FS : Fun K "shortened" "shortened" sShort fS dS) (mS : mg "shortened" = some (.ref fS)) : FnOk P0 w K mg base CX0 2 f fd ["one", "other"] (spMul K) := by
  have GS : FnOk P0 w K mg base CX0 1 fS dS ["top", "bottom"] spShort := ok_short FS T
  have bS := FS.binds (ps := ["top", "bottom"]) fun _ _ _ _ _ _ us hl => match us, hl with | [_, _], _ => rfl
  refine F.ok scMul (fun vs H Q E h => ?_) (fun cdv A outer s H vs Q E hr h => ?_)
  · obtain ⟨a, b, u, v, n, m, rfl, _⟩ := h
    rfl
  · obtain ⟨a, b, u, v, n, m, rfl, ha, hb, hu, hv, su, sv, n0, m0, nm, k⟩ := h
    refine ⟨_, pss_one (ps_ret (pe_call GS hr rfl mS FS.kp bS .nil pass0 (pa_cons (pe_op op_mulW (pe_ix ix_tup (pv 0) pe_int (fun _ _ => rfl)) (pe_ix ix_tup (pv 1) pe_int (fun _ _ => rfl)))
      (pa_cons (pe_op op_mulW (pe_ix ix_tup (pv 0) pe_int (fun _ _ => rfl)) (pe_ix ix_tup (pv 1) pe_int (fun _ _ => rfl))) pa_nil)))), ?_⟩
    refine ⟨_, rfl, a, _, _, _, rfl, rfl, ha, rfl, _, rfl, b, _, _, _, rfl, rfl, hb, rfl, _, _, rfl, rfl, wide su.1 sv.1 n0 m0 (by omega), ?_⟩
    refine ⟨_, rfl, a, _, _, _, rfl, rfl, ha, rfl, _, rfl, b, _, _, _, rfl, rfl, hb, rfl, _, _, rfl, rfl, wide su.2 sv.2 n0 m0 (by omega), ?_⟩
    exact ⟨_, _, n + m, rfl, ne_mul hu hv, den_lt su sv, by omega, by omega, fun p H' s1 hp => k p H' s1 (SqT.of hp)⟩
abbrev sSubt : Stmt := Pre.top 16
theorem scSubt : FnScope ["one", "other"] ["one", "other"] (defScope sSubt) := ⟨rfl, rfl, rfl, by decide +kernel, rfl, by decide +kernel, by decide +kernel⟩
def spSubt (K : PySem.W.Frag) : Sp := fun vs H Q _ => ∃ (a b : Addr) (u v : Int × Int) (n m : Nat), vs = [.ref a, .ref b] ∧ At K H a u ∧ At K H b v ∧ u.2 ≠ 0 ∧ v.2 ≠ 0 ∧ sz n u ∧ sz m v ∧ 0 < n ∧ 0 < m ∧ n + m ≤ 7000 ∧
  ∀ (p : Addr) (H' : Hp), Same H H' → At K H' p (lessW u v) → Q (.ref p) H'
theorem ok_subt {f fA : Addr} {fd dA : FuncData} (F : Fun K "subtracted" "subtracted" sSubt f fd)
    (GA : ∀ base, FnOk P0 w K mg base CX0 2 fA dA ["one", "other"] (spAdded K)) (FA : Fun K "added" "added" sAdded fA dA) (mA : mg "added" = some (.ref fA)) : FnOk P0 w K mg base CX0 3 f fd ["one", "other"] (spSubt K) := by
  have GA := GA base
  have bA := FA.binds (ps := ["one", "other"]) fun _ _ _ _ _ _ us hl => match us, hl with | [_, _], _ => rfl
  refine F.ok scSubt (fun vs H Q E h => ?_) (fun cdv A outer s H vs Q E hr h => ?_)
  · obtain ⟨a, b, u, v, n, m, rfl, _⟩ := h
    rfl
  · obtain ⟨a, b, u, v, n, m, rfl, ha, hb, u2, v2, su, sv, n0, m0, nm, k⟩ := h
    refine ⟨_, pss_one (ps_ret (pe_call GA hr rfl mA FA.kp bA .nil pass0 (pa_cons (pv 0) (pa_cons (pe_tup (pa_cons (pe_un un_neg (pe_ix ix_tup (pv 1) pe_int (fun _ _ => rfl))) (pa_cons (pe_ix ix_tup (pv 1) pe_int (fun _ _ => rfl)) pa_nil))) pa_nil)))), ?_⟩
    refine ⟨_, rfl, _, rfl, b, _, _, _, rfl, rfl, hb, rfl, _, rfl, _, rfl, b, _, _, _, rfl, rfl, hb, rfl, by show 2 ≤ sizeLine; decide, fun q hq => ?_⟩
    exact ⟨a, q, u, (-v.1, v.2), n, m, rfl, sqT_same (Pre.same_upd hq) ha, SqT.of upd_same, u2, v2, su, ⟨by show (-v.1).natAbs < _; rw [Int.natAbs_neg]; exact sv.1, sv.2⟩, n0, m0, nm, fun p H' s1 hp => k p H' ((Pre.same_upd hq).trans s1) hp⟩
end
end Wt
namespace Tw
open PySem PySem.Spec PyProof.Rows L2
open Wt Dc
abbrev sEnoughB : Stmt := Pre.top 24
abbrev sLeast : Stmt := Pre.top 25
abbrev sMany : Stmt := inClass (Pre.top 4) 0
theorem low_zero {b : Int} (h : 0 < b) : low 0 b = (0, 1) := by
  have e : gI 0 b = b := by
    unfold gI
    rw [Int.gcd_zero_left]
    omega
  unfold low
  rw [if_neg (by omega), e, Int.zero_ediv, Int.ediv_self (by omega)]
theorem alW_far {c d : Int} {n b : Nat} (hd : 0 < d) (h : n < b) : alW c d n b = (0, 1) := by
  unfold alW
  rw [List.drop_eq_nil_of_le (by rw [exN_len]; omega)]
  exact low_zero (Int.pow_pos hd)
theorem alW_val {u : Int × Int} {n b : Nat} (hd : 0 < u.2) : Val (alW u.1 u.2 n b) (tl u n b) (u.2 ^ n) := val_low (Int.pow_pos hd)
theorem alW_sz {u : Int × Int} {n b : Nat} (h0 : 0 ≤ u.1) (h1 : u.1 ≤ u.2) (hd : 0 < u.2) (hz : u.2.natAbs < 2 ^ 60) (hn : n ≤ 40) : sz 4100 (alW u.1 u.2 n b) := by
  have hc : u.1.natAbs < 2 ^ 60 := by omega
  have he : (u.2 - u.1).natAbs < 2 ^ 60 := by omega
  have hp : (u.2 ^ n).natAbs < 2 ^ 4100 := Nat.lt_of_lt_of_le (pow_lt hz n) (Nat.pow_le_pow_right (by decide) (by have := Nat.mul_le_mul_left 60 hn; omega))
  exact sz_low (drop_lt (j := b) hc he hn (by decide)) hp (Int.ne_of_gt (Int.pow_pos hd))
theorem less_sure (w : Int × Int) : lessW (1, 1) w = sureW w := by
  unfold lessW sureW
  rw [Int.zero_sub]
theorem below_val {p q : Int × Int} {t b t' b' : Int} (h : Val p t b) (h' : Val q t' b') : belowW p q = !decide (t' * b ≤ t * b') := by
  have := val_le h' h
  unfold belowW
  by_cases z : t' * b ≤ t * b'
  · have := this.mpr z
    rw [decide_eq_true z, decide_eq_false (by omega)]
    rfl
  · have z' : ¬ q.1 * p.2 ≤ p.1 * q.2 := fun k => z (this.mp k)
    rw [decide_eq_false z, decide_eq_true (by omega)]
    rfl
section
variable {P0 : Program} {w : World} {K : PySem.W.Frag} {mg : Str → Option Value} {base : Heap}
/-- the method -/
def spTrA (K : PySem.W.Frag) (C : Addr) : Sp := fun vs H Q _ => ∃ (x : Addr) (c d : Int) (n b : Nat), vs = [.ref x, .int (b : Int)] ∧ Tr C H x c d n ∧ 0 ≤ c ∧ c ≤ d ∧ 0 < d ∧ d.natAbs < 2 ^ 60 ∧ n ≤ 40 ∧ ∀ r H', Same H H' → At K H' r (alW c d n b) → Q (.ref r) H'
theorem scTrA : FnScope ["self", "bar"] ["self", "bar"] (defScope sTriesA) := ⟨rfl, rfl, rfl, by decide +kernel, rfl, by decide +kernel, by decide +kernel⟩
theorem ok_trA {f C z fS : Addr} {fd dS : FuncData} (F : Fun K "at_least" "Tries.at_least" sTriesA f fd) (T : TxtT K mg C) (TW : TxtW mg) (FS : Fun K "shortened" "shortened" sShort fS dS) (mS : mg "shortened" = some (.ref fS)) (mZ : mg "NOTHING" = some (.ref z)) (hZ : ∀ H, At K H z (0, 1)) : FnOk P0 w K mg base CX0 2 f fd ["self", "bar"] (spTrA K C) := by
  have GS : FnOk P0 w K mg base CX0 1 fS dS ["top", "bottom"] spShort := ok_short FS TW
  have bS := FS.binds (ps := ["top", "bottom"]) fun _ _ _ _ _ _ us hl => match us, hl with | [_, _], _ => rfl
  refine F.ok scTrA (fun vs H Q E h => ?_) (fun cdv A outer s H vs Q E hr h => ?_)
  · obtain ⟨x, c, d, n, b, rfl, _⟩ := h
    rfl
  · obtain ⟨x, c, d, n, b, rfl, ht, c0, cd, d0, hd, hn, k⟩ := h
    refine ⟨_, pss_cons (ps_if (pt_cmpR op_ge (pv 1) (pe_callB call_len_seq (by rfl) T.zn PySem.boot_len (pa_cons (pe_fld (pv 0) rfl) pa_nil)) (nomark _)) (pss_one (ps_ret (pe_glob (v := .ref z) (by rfl) mZ rfl))) pss_nil)
      (pss_one (ps_ret (pe_call GS hr (by rfl) mS FS.kp bS .nil pass0 (pa_cons (pe_ix ix_list (pe_fld (pv 0) rfl) (pv 1) (fun _ _ => rfl)) (pa_cons (pe_fld (pv 0) rfl) pa_nil))))), ?_⟩
    obtain ⟨dx, l, ws, hx, hl, hws, hat⟩ := id ht
    refine ⟨_, rfl, _, rfl, x, C, dx, _, _, rfl, hx, T.cl, T.nF, f2_from _ _, l, _, rfl, .inl (SqL.of hl), _, _, rfl, rfl, _, rfl, ?_⟩
    rw [List.length_map, hws]
    refine ite2 (fun h => ?_) (fun h => ?_)
    · have h := of_decide_eq_true h
      have e := alW_far (c := c) (n := n) (b := b) d0 (by omega)
      have hz := hZ H
      rw [← e] at hz
      exact k z H (Same.refl _) hz
    · have h : ¬ ((n + 2 : Nat) : Int) ≤ (b : Int) := fun q => h (decide_eq_true q)
      have hp : (d ^ n).natAbs < 2 ^ 4100 := Nat.lt_of_lt_of_le (pow_lt hd n) (Nat.pow_le_pow_right (by decide) (by have := Nat.mul_le_mul_left 60 hn; omega))
      refine ⟨_, rfl, x, C, dx, _, _, rfl, hx, T.cl, T.nF, f2_from _ _, _, rfl, l, _, _, _, rfl, rfl, SqL.of hl, atI_nat (j := b) (by rw [List.getElem?_map, hat b (by omega)]; rfl), _, rfl, x, C, dx, _, _, rfl, hx, T.cl, T.nA, f2_all _ _, ?_⟩
      exact ⟨_, d ^ n, 4100, rfl, Int.ne_of_gt (Int.pow_pos d0), hp, by decide, by decide, fun r H3 s3 h3 => k r H3 s3 (SqT.of h3)⟩
/-- a chance of few digits -/
structure Chp (u : Int × Int) : Prop where
  h0 : 0 ≤ u.1
  h1 : u.1 ≤ u.2
  hd : 0 < u.2
  hz : u.2.natAbs < 2 ^ 60
def spEno (K : PySem.W.Frag) (C : Addr) : Sp := fun vs H Q _ => ∃ (g s wi : Addr) (u v x : Int × Int) (n b : Nat), vs = [.ref g, .ref s, .int (b : Int), .ref wi] ∧ Tr C H g v.1 v.2 n ∧ Tr C H s u.1 u.2 n ∧ At K H wi x ∧ Chp u ∧ Chp v ∧ sz 60 x ∧ 0 < x.2 ∧ n ≤ 40 ∧ ∀ H', Same H H' → Q (.bl (cond u v x n b)) H'
theorem scEno : FnScope ["great", "small", "bar", "wish"] ["great", "small", "bar", "wish"] (defScope sEnoughB) := ⟨rfl, rfl, rfl, by decide +kernel, rfl, by decide +kernel, by decide +kernel⟩
theorem ok_eno {f C fA fS fB z1 : Addr} {fd dA dS dB : FuncData} (F : Fun K "_is_enough" "_is_enough" sEnoughB f fd) (T : TxtT K mg C) (GA : ∀ base, FnOk P0 w K mg base CX0 2 fA dA ["self", "bar"] (spTrA K C)) (bA : Binds K dA ["self", "bar"] []) (mA : Meth K C "at_least" fA)
    (GS : ∀ base, FnOk P0 w K mg base CX0 3 fS dS ["one", "other"] (spSubt K)) (FS : Fun K "subtracted" "subtracted" sSubt fS dS) (mS : mg "subtracted" = some (.ref fS)) (FB : Fun K "lies_below" "lies_below" sBelow fB dB) (mB : mg "lies_below" = some (.ref fB)) (m1 : mg "ALL" = some (.ref z1)) (h1 : ∀ H, At K H z1 (1, 1)) :
    FnOk P0 w K mg base CX0 4 f fd ["great", "small", "bar", "wish"] (spEno K C) := by
  have GA := GA base
  have GS := GS base
  have GB : FnOk P0 w K mg base CX0 1 fB dB ["one", "other"] (spBelow K) := ok_below FB
  have bS := FS.binds (ps := ["one", "other"]) fun _ _ _ _ _ _ us hl => match us, hl with | [_, _], _ => rfl
  have bB := FB.binds (ps := ["one", "other"]) fun _ _ _ _ _ _ us hl => match us, hl with | [_, _], _ => rfl
  refine F.ok scEno (fun vs H Q E h => ?_) (fun cdv A outer s H vs Q E hr h => ?_)
  · obtain ⟨g, s, wi, u, v, x, n, b, rfl, _⟩ := h
    rfl
  · obtain ⟨g, s, wi, u, v, x, n, b, rfl, tg, ts, hw, cu, cv, sx, x2, hn, k⟩ := h
    have hr1 : Room 1 _ := hr.mono (by decide)
    have hr2 : Room 2 _ := hr.mono (by decide)
    refine ⟨_, pss_cons (ps_if (pt_val (pe_call GB hr1 (by rfl) mB FB.kp bB .nil pass0 (pa_cons (pe_meth (pv 0) T.cl mA GA hr2 bA .nil pass0 (pa_cons (pv 2) pa_nil)) (pa_cons (pe_call GS hr (by rfl) mS FS.kp bS .nil pass0 (pa_cons (pe_glob (v := .ref z1) (by rfl) m1 rfl) (pa_cons (pv 3) pa_nil))) pa_nil)))) (pss_one (ps_ret pe_bl)) pss_nil)
      (pss_one (ps_ret (pe_not (pe_call GB hr1 (by rfl) mB FB.kp bB .nil pass0 (pa_cons (pv 3) (pa_cons (pe_meth (pv 1) T.cl mA GA hr2 bA .nil pass0 (pa_cons (pv 2) pa_nil)) pa_nil)))))), ?_⟩
    obtain ⟨dg, lg, wg, hg, _⟩ := id tg
    obtain ⟨ds, ls, ws, hs, _⟩ := id ts
    have nm : ∀ (z : Int) (l : Addr), (f2 z l).lookup ("at_least" : Str) = none := fun z l => f2_no _ _ (by decide +kernel) (by decide +kernel)
    refine ⟨_, rfl, g, dg, _, rfl, hg, nm _ _, _, rfl, g, v.1, v.2, n, b, rfl, tg, cv.h0, cv.h1, cv.hd, cv.hz, hn, fun r1 H1 s1 hr1' => ?_⟩
    refine ⟨_, rfl, z1, wi, (1, 1), x, 2, 60, rfl, h1 H1, sqT_same s1 hw, (by decide), by omega, ⟨by decide, by decide⟩, sx, by decide, by decide, by decide, fun r2 H2 s2 hr2' => ?_⟩
    rw [less_sure] at hr2'
    have ssz : sz 63 (sureW x) := by
      have := sz_add (n := 2) (m := 60) (w := (1, 1)) (v := (-x.1, x.2)) ⟨by decide, by decide⟩ ⟨by show (-x.1).natAbs < _; rw [Int.natAbs_neg]; exact sx.1, sx.2⟩ (by decide) (by show x.2 ≠ 0; omega)
      rw [← less_sure]
      exact this
    refine ⟨r1, r2, alW v.1 v.2 n b, sureW x, 4100, 63, rfl, sqT_same s2 hr1', hr2', alW_sz cv.h0 cv.h1 cv.hd cv.hz hn, ssz, by decide, by decide, by decide, _, rfl, ?_⟩
    have vs : Val (sureW x) (sureW x).1 (sureW x).2 := val_self (by
      have := low_pos (t := 1 * x.2 + (0 - x.1) * 1) (b := 1 * x.2) (by omega)
      exact this)
    have vx : Val x x.1 x.2 := val_self x2
    rw [below_val (alW_val cv.hd) vs]
    have cdef : cond u v x n b = (decide (tl u n b * x.2 ≤ x.1 * u.2 ^ n) && decide ((sureW x).1 * v.2 ^ n ≤ tl v n b * (sureW x).2)) := rfl
    cases c2 : decide ((sureW x).1 * v.2 ^ n ≤ tl v n b * (sureW x).2) with
    | false =>
      refine iteT ?_
      have := k H2 (s1.trans s2)
      rw [cdef, c2, Bool.and_false] at this
      exact this
    | true =>
      refine iteF ?_
      refine ⟨_, rfl, _, rfl, s, ds, _, rfl, s2 _ _ (s1 _ _ hs), nm _ _, _, rfl, s, u.1, u.2, n, b, rfl, (ts.same s1).same s2, cu.h0, cu.h1, cu.hd, cu.hz, hn, fun r3 H3 s3 hr3 => ?_⟩
      have s03 := (s1.trans s2).trans s3
      refine ⟨wi, r3, x, alW u.1 u.2 n b, 60, 4100, rfl, sqT_same s03 hw, hr3, sx, alW_sz cu.h0 cu.h1 cu.hd cu.hz hn, by decide, by decide, by decide, _, rfl, ?_⟩
      have := k H3 s03
      rw [cdef, c2, Bool.and_true] at this
      rw [below_val vx (alW_val cu.hd), Bool.not_not]
      exact this
end
end Tw

namespace Tw
open PySem PySem.Spec PyProof.Rows L2
open Wt Dc
theorem ps_nox {X : Cx} {st : Stmt} {t : TS} (h : PS X.nox st t) : PS X st t := ⟨fun pins s σ H D I hw =>
  wpAny_mono (h.run pins s σ H D (I.wish _) hw) (fun _ _ q => q.unwish) fun _ _ z => False.elim z⟩
structure BasM (K : PySem.W.Frag) (mg : Str → Option Value) (E : Addr) : Prop where
  g : mg "ChanceError" = some (.ref E)
  s : PySem.W.specialIn K (.ref E) "__getattribute__" = some (some (.builtin "type.__getattribute__"))
  r : PySem.W.readsIn K E (.type "type") = true
  v : PySem.W.findCls K (.ref E) (.type "type") "__init__" = some (.val (.builtin "ValueError.__init__"))
structure OwM (K : PySem.W.Frag) (mg : Str → Option Value) (C fI : Addr) : Prop where
  g : mg "TooMany" = some (.ref C)
  o : OexC K C
  iC : PySem.W.findIn K (.ref C) "__init__" = some (some (.ref fI))
  tI : PySem.W.typeIn K (.ref fI) = some (.type "function")
  no : PySem.W.findIn K (.ref C) "most" = some none
/-- TooMany.__init__(self, 40) stores 40 under most -/
def spMany (C : Addr) : Sp := fun vs H Q _ => ∃ (a : Addr), vs = [.ref a, .int 40] ∧ H a = some (exo a C none) ∧ ∀ dx, H dx = none → dx ≠ a → Q .non (upd (upd H dx (exd dx [("most", .int 40)])) a (exo a C (some dx)))
section
variable {P0 : Program} {w : World} {K : PySem.W.Frag} {mg : Str → Option Value} {base : Heap} {E : Addr}
theorem scMany : FnScope ["self", "most"] ["self", "most"] (defScope sMany) := ⟨rfl, rfl, rfl, by decide +kernel, rfl, by decide +kernel, by decide +kernel⟩
theorem ok_many {f C : Addr} {fd : FuncData} (F : Fun K "__init__" "TooMany.__init__" sMany f fd) (B : BasM K mg E) (T : OwM K mg C f) : FnOk P0 w K mg base CX0 1 f fd ["self", "most"] (spMany C) := by
  refine F.ok scMany (fun vs H Q E h => ?_) (fun cdv A outer s H vs Q E hr h => ?_)
  · obtain ⟨a, rfl, _⟩ := h
    rfl
  · obtain ⟨a, rfl, ha, k⟩ := h
    refine ⟨_, pss_cons (ps_expr (Xr.pe_ceinit rfl B.g B.s B.r B.v (pa_cons (pv 0) (pa_cons (pe_joined (PJ.cons pe_str (PJ.cons (Xr.pe_fmtN (pv 1)) PJ.nil))) pa_nil)))) (pss_one (ps_ost (pv 0) (pv 1))), ?_⟩
    exact ⟨_, rfl, _, rfl, by decide +kernel, _, rfl, .inr ⟨_, rfl, by decide +kernel, _, rfl, by decide +kernel, a, C, _, rfl, by decide, T.o, ha, _, rfl, _, rfl, a, C, rfl, T.o, T.no, .inl ⟨ha, k⟩⟩⟩
theorem chp_of {u : Int × Int} (h : isChD (wD u) = true) (z : sz 60 u) : Chp u := by
  have g : (isWt (.tuple [.int u.1, .int u.2]) && (decide (0 ≤ u.1) && decide (u.1 ≤ u.2))) = true := h
  rw [Bool.and_eq_true, Bool.and_eq_true] at g
  have hw : isW u := g.1
  have := isW_pos hw
  exact ⟨of_decide_eq_true g.2.1, of_decide_eq_true g.2.2, by omega, z.2⟩
theorem scLeast : FnScope ["one", "other", "wish", "low", "high", "tries", "great", "small", "bar"] ["one", "other", "wish"] (defScope sLeast) := ⟨rfl, rfl, rfl, by decide +kernel, rfl, by decide +kernel, by decide +kernel⟩
theorem go_cut' {t u : TS} {D : Ends} {σ : L2.St} {H : Hp} (Post : L2.St → Hp → Prop) (h1 : ∀ σ' H', Post σ' H' → u D σ' H') (h2 : ∀ nx' : L2.St → Hp → Prop, (∀ σ' H', Post σ' H' → nx' σ' H') → t { D with nx := nx' } σ H) : tSeq t u D σ H := h2 (u D) h1
set_option maxHeartbeats 2000000 in
theorem ok_least {f fC C fI fE fB CW CT fM : Addr} {fd dC dI dE dB dM : FuncData} {tk : Tok} (F : Fun K "least_tries" "least_tries" sLeast f fd) (GC : ∀ base, FnOk P0 w K mg base (L2.CX P0 w) 5 fC dC ["one", "other", "wish"] (spWish K CW)) (FC : Fun K "_check_wish" "_check_wish" sWish fC dC) (mC : mg "_check_wish" = some (.ref fC))
    (T : TxtT K mg C) (M : Mk K C fI) (mT : mg "Tries" = some (.ref C)) (GI : ∀ base, FnOk P0 w K mg base CX0 1 fI dI ["self", "chance", "tries"] (spTrI K C)) (bI : Binds K dI ["self", "chance", "tries"] [])
    (GE : ∀ base, FnOk P0 w K mg base CX0 4 fE dE ["great", "small", "bar", "wish"] (spEno K C)) (FE : Fun K "_is_enough" "_is_enough" sEnoughB fE dE) (mE : mg "_is_enough" = some (.ref fE)) (FB : Fun K "lies_below" "lies_below" sBelow fB dB) (mB : mg "lies_below" = some (.ref fB))
    (mM : mg "MOST_TRIES" = some (.int 40 tk)) (OM : OwM K mg CT fM) (GM : ∀ base, FnOk P0 w K mg base CX0 1 fM dM ["self", "most"] (spMany CT)) (bM : Binds K dM ["self", "most"] []) :
    FnOk P0 w K mg base (L2.CX P0 w) 6 f fd ["one", "other", "wish"] (spLT K CW CT) := by
  have GC := GC base
  have GI := GI base
  have GE := GE base
  have GM := GM base
  have GB : FnOk P0 w K mg base CX0 1 fB dB ["one", "other"] (spBelow K) := ok_below FB
  have bC := FC.binds (ps := ["one", "other", "wish"]) fun _ _ _ _ _ _ us hl => match us, hl with | [_, _, _], _ => rfl
  have bE := FE.binds (ps := ["great", "small", "bar", "wish"]) fun _ _ _ _ _ _ us hl => match us, hl with | [_, _, _, _], _ => rfl
  have bB := FB.binds (ps := ["one", "other"]) fun _ _ _ _ _ _ us hl => match us, hl with | [_, _], _ => rfl
  refine F.okX scLeast (fun vs H Q E h => ?_) (fun cdv A outer s H vs Q E hr h => ?_)
  · obtain ⟨x, y, z, dx, dy, dz, rfl, _⟩ := h
    rfl
  · obtain ⟨x, y, z, dx, dy, dz, rfl, hx, hy, hz, smx, smy, smz, k1, k2, k3, k4, k5⟩ := h
    have nd := scLeast.nd
    have hr1 : Room 1 _ := hr.mono (by decide)
    have hr2 : Room 2 _ := hr.mono (by decide)
    have hr4 : Room 4 _ := hr.mono (by decide)
    refine ⟨_, pss_cons (ps_expr (pe_callS GC hr (by rfl) mC FC.kp bC (fun σ => passAt (takes_of rfl rfl rfl rfl) σ) (pa_cons (pv 0) (pa_cons (pv 1) (pa_cons (pv 2) pa_nil)))))
      (pss_cons (ps_asg (pe_ifExp (pt_val (pe_call GB hr1 (by rfl) mB FB.kp bB .nil pass0 (pa_cons (pv 0) (pa_cons (pv 1) pa_nil)))) (pe_tup (pa_cons (pv 0) (pa_cons (pv 1) pa_nil))) (pe_tup (pa_cons (pv 1) (pa_cons (pv 0) pa_nil)))) (pg_tup (by rfl) (pgs_cons (pg_name (i := 3) nd rfl (Or.inl rfl)) (pgs_cons (pg_name (i := 4) nd rfl (Or.inl rfl)) pgs_nil))))
      (pss_cons (ps_nox (ps_for PassesOwn.never rfl (pi_range2 (by rfl) T.zg (pa_cons pe_int (pa_cons (pe_op op_add (pe_glob (v := .int 40) (by rfl) mM ⟨_, rfl⟩) pe_int) pa_nil))) (pg_name (i := 5) nd rfl (Or.inl rfl))
        (pss_cons (ps_set (i := 6) nd rfl (Or.inl rfl) (pe_make M GI hr2 (by rfl) mT bI .nil pass0 (pa_cons (pv 4) (pa_cons (pv 5) pa_nil))))
        (pss_cons (ps_set (i := 7) nd rfl (Or.inl rfl) (pe_make M GI hr2 (by rfl) mT bI .nil pass0 (pa_cons (pv 3) (pa_cons (pv 5) pa_nil))))
        (pss_one (ps_for PassesOwn.never rfl (pi_range2 (by rfl) T.zg (pa_cons pe_int (pa_cons (pe_op op_add (pv 5) pe_int) pa_nil))) (pg_name (i := 8) nd rfl (Or.inl rfl))
          (pss_one (ps_if (pt_val (pe_call GE hr4 (by rfl) mE FE.kp bE .nil pass0 (pa_cons (pv 6) (pa_cons (pv 7) (pa_cons (pv 8) (pa_cons (pv 2) pa_nil)))))) (pss_one (ps_ret (pe_tup (pa_cons (pv 5) (pa_cons (pv 8) pa_nil))))) pss_nil))))))))
      (pss_one (ps_raise rfl (takes_of rfl rfl rfl rfl) (pmk_oex OM.o OM.iC OM.tI GM hr2 bM .nil pass0 (by rfl) OM.g (pa_cons (pe_glob (v := .int 40) (by rfl) mM ⟨_, rfl⟩) pa_nil)))))), ?_⟩
    refine ⟨_, rfl, _, rfl, _, rfl, x, y, z, dx, dy, dz, rfl, hx, hy, hz, smx, smy, smz, k1, k2, k3, fun g1 g2 g3 H1 s1 => ?_⟩
    have g2a : isChD dy = true ∧ PyData.eqv dx dy = false := by
      rw [Bool.and_eq_true] at g2
      exact ⟨g2.1, by simpa using g2.2⟩
    obtain ⟨u, rfl, hu⟩ : ∃ u : Int × Int, dx = wD u ∧ isW u := by
      have g := g1
      unfold isChD at g
      split at g
      · rw [Bool.and_eq_true, Bool.and_eq_true] at g
        exact ⟨(_, _), rfl, g.1⟩
      · cases g
    obtain ⟨v, rfl, hv⟩ : ∃ v : Int × Int, dy = wD v ∧ isW v := by
      have g := g2a.1
      unfold isChD at g
      split at g
      · rw [Bool.and_eq_true, Bool.and_eq_true] at g
        exact ⟨(_, _), rfl, g.1⟩
      · cases g
    obtain ⟨x', rfl, hw, w0, w1⟩ := wish_pair g3
    obtain ⟨a, rfl, ha⟩ := dp_pair hx
    obtain ⟨b, rfl, hb⟩ := dp_pair hy
    obtain ⟨c, rfl, hc⟩ := dp_pair hz
    have hne : u ≠ v := fun q => by
      have := g2a.2
      rw [q, SeqAt.eqv_refl _ rfl] at this
      cases this
    have hcr : u.1 * v.2 ≠ v.1 * u.2 := fun z => hne (cross_eq hu hv z)
    have pw := isW_pos hw
    have szU : sz 60 u := smx.1 u.1 u.2 rfl
    have szV : sz 60 v := smy.1 v.1 v.2 rfl
    have szX : sz 60 x' := smz.1 x'.1 x'.2 rfl
    have cu : Chp u := chp_of g1 szU
    have cv : Chp v := chp_of g2a.1 szV
    have cL : Chp (loW u v) := by unfold loW; split <;> assumption
    have cH : Chp (hiW u v) := by unfold hiW; split <;> assumption
    have k5' := fun n m h => k5 u v x' n m rfl rfl rfl g1 g2 g3 h
    have k4' := fun h => k4 u v x' rfl rfl rfl g1 g2 g3 h
    clear k1 k2 k3 k4 k5 hx hy hz smx smy smz g1 g2 g3 g2a
    have ha1 := sqT_same s1 ha
    have hb1 := sqT_same s1 hb
    have hc1 := sqT_same s1 hc
    refine go_nx (go_cut' (fun σ' H' => ∃ (la ga : Addr), σ' = [some (.ref a), some (.ref b), some (.ref c), some (.ref la), some (.ref ga), none, none, none, none] ∧ Same H1 H' ∧ At K H' la (loW u v) ∧ At K H' ga (hiW u v)) ?_ ?_)
    rotate_left
    · intro nx' hnx
      refine ⟨_, rfl, _, rfl, a, b, u, v, 60, 60, rfl, ha1, hb1, szU, szV, by decide, by decide, by decide, _, rfl, ?_⟩
      cases q : belowW u v with
      | true =>
        have q' : u.1 * v.2 < v.1 * u.2 := of_decide_eq_true q
        have e1 : loW u v = u := if_pos (by omega)
        have e2 : hiW u v = v := if_pos (by omega)
        refine iteT ⟨_, rfl, _, rfl, by show 2 ≤ sizeLine; decide, fun p hp => ⟨p, _, rfl, SqT.of upd_same, rfl, _, _, rfl, _, _, rfl, rfl, hnx _ _ ⟨a, b, rfl, Pre.same_upd hp, ?_, ?_⟩⟩⟩
        · rw [e1]; exact sqT_same (Pre.same_upd hp) ha1
        · rw [e2]; exact sqT_same (Pre.same_upd hp) hb1
      | false =>
        have q' : ¬ u.1 * v.2 < v.1 * u.2 := of_decide_eq_false q
        have e1 : loW u v = v := if_neg (by omega)
        have e2 : hiW u v = u := if_neg (by omega)
        refine iteF ⟨_, rfl, _, rfl, by show 2 ≤ sizeLine; decide, fun p hp => ⟨p, _, rfl, SqT.of upd_same, rfl, _, _, rfl, _, _, rfl, rfl, hnx _ _ ⟨b, a, rfl, Pre.same_upd hp, ?_, ?_⟩⟩⟩
        · rw [e1]; exact sqT_same (Pre.same_upd hp) hb1
        · rw [e2]; exact sqT_same (Pre.same_upd hp) ha1
    rintro σ' H2 ⟨la, ga, rfl, s2, hla, hga⟩
    have hc2 := sqT_same s2 hc1
    have s02 := s1.trans s2
    refine ⟨_, _, rfl, rfl, (1 : Int), 40 + 1, rfl, ⟨by decide, by decide, by decide, by decide⟩, for_range (n := ((40 : Int) + 1 - 1).toNat) (fun i σ H' => ∃ o5 o6 o7 o8, σ = [some (.ref a), some (.ref b), some (.ref c), some (.ref la), some (.ref ga), o5, o6, o7, o8] ∧ Same H2 H' ∧ ∀ n' b', 1 ≤ n' → n' ≤ i → 1 ≤ b' → b' ≤ n' → cond (loW u v) (hiW u v) x' n' b' = false)
      ⟨none, none, none, none, rfl, Same.refl _, fun n' b' h1 h2 => by omega⟩ ?_ ?_⟩
    · rintro i σ H3 hi ⟨o5, o6, o7, o8, rfl, s3, hno⟩
      have hi : i < 40 := hi
      have en : (1 : Int) + (i : Int) = ((i + 1 : Nat) : Int) := by omega
      refine ⟨_, rfl, _, rfl, fun p dp np ndp nep => ?_⟩
      have sm : ∀ {H : Hp} {p dp : Addr}, H p = none → H dp = none → Same H (upd (upd H dp (.own p)) p (.ins C dp [])) := fun {H p dp} np ndp b o e => by
        rw [upd_ne (ne_of_none e np), upd_ne (ne_of_none e ndp)]
        exact e
      refine ⟨H3, p, dp, ga, (hiW u v).1, (hiW u v).2, i + 1, by rw [← en]; rfl, sm np ndp, np, upd_same, sqT_same s3 hga, cH.h0, cH.h1, cH.hd, cH.hz, by omega, fun H4 s4 ht => ⟨rfl, ?_⟩⟩
      refine ⟨_, rfl, _, rfl, fun q dq nq ndq neq => ?_⟩
      refine ⟨H4, q, dq, la, (loW u v).1, (loW u v).2, i + 1, by rw [← en]; rfl, sm nq ndq, nq, upd_same, sqT_same (s3.trans s4) hla, cL.h0, cL.h1, cL.hd, cL.hz, by omega, fun H5 s5 ht5 => ⟨rfl, ?_⟩⟩
      have ht4 := ht.same s5
      have s25 := (s3.trans s4).trans s5
      refine ⟨_, rfl, _, _, rfl, rfl, (1 : Int), 1 + (i : Int) + 1, rfl, ⟨by decide, by decide, by omega, by omega⟩, for_range (n := (1 + (i : Int) + 1 - 1).toNat) (fun j σ H' => ∃ o8, σ = [some (.ref a), some (.ref b), some (.ref c), some (.ref la), some (.ref ga), some (.int (1 + (i : Int))), some (.ref p), some (.ref q), o8] ∧ Same H5 H' ∧ ∀ b', 1 ≤ b' → b' ≤ j → cond (loW u v) (hiW u v) x' (i + 1) b' = false)
        ⟨o8, rfl, Same.refl _, fun b' h1 h2 => by omega⟩ ?_ ?_⟩
      · rintro j σ H6 hj ⟨o8', rfl, s6, hnb⟩
        have hj : j < i + 1 := by omega
        have em : (1 : Int) + (j : Int) = ((j + 1 : Nat) : Int) := by omega
        refine ⟨_, rfl, _, rfl, _, rfl, _, rfl, p, q, c, loW u v, hiW u v, x', i + 1, j + 1, by rw [← em]; rfl, ht4.same s6, ht5.same s6, sqT_same (s25.trans s6) hc2, cL, cH, szX, by omega, by omega, fun H7 s7 => ⟨_, rfl, ?_⟩⟩
        have s27 := (s25.trans s6).trans s7
        cases hcd : cond (loW u v) (hiW u v) x' (i + 1) (j + 1) with
        | true =>
          refine iteT ⟨_, rfl, _, rfl, by show 2 ≤ sizeLine; decide, fun r hr => ?_⟩
          refine k5' (i + 1) (j + 1) ⟨by omega, by omega, by omega, by omega, hcd, fun n' b' h1 h2 h3 h4 => ?_⟩ r _ ((s02.trans s27).trans (Pre.same_upd hr)) ?_
          · rcases h4 with h4 | ⟨rfl, h4⟩
            · exact hno n' b' h1 (by omega) h2 h3
            · exact hnb b' h2 (by omega)
          · rw [← em, ← en]
            exact SqT.of upd_same
        | false =>
          refine iteF ⟨_, rfl, s6.trans s7, fun b' h1 h2 => ?_⟩
          rcases Nat.lt_or_ge j b' with z | z
          · have : b' = j + 1 := by omega
            rw [this]
            exact hcd
          · exact hnb b' h1 z
      · rintro σ H6 ⟨o8', rfl, s6, hnb⟩
        refine ⟨_, _, _, _, rfl, s25.trans s6, fun n' b' h1 h2 h3 h4 => ?_⟩
        rcases Nat.lt_or_ge i n' with z | z
        · have : n' = i + 1 := by omega
          subst this
          exact hnb b' h3 (by omega)
        · exact hno n' b' h1 z h3 h4
    · rintro σ H3 ⟨o5, o6, o7, o8, rfl, s3, hno⟩
      have hno : NoL (loW u v) (hiW u v) x' := fun n' b' h1 h2 h3 h4 => hno n' b' h1 (by show n' ≤ 40; omega) h3 h4
      refine ⟨by show 1 ≤ 1000; decide, fun e he => ⟨e, rfl, upd_same, fun dd hdd hde => ⟨rfl, dd, [("most", .int 40)], upd_same, ?_, ?_, ?_⟩⟩⟩
      · rw [upd_ne hde, upd_same]
      · rw [upd_ne hde] at hdd
        exact hdd
      · have hd3 : H3 dd = none := by
          rw [upd_ne hde] at hdd
          exact hdd
        have s03 := s02.trans s3
        refine k4' hno dd _ (fun b o ob => ?_) (s03.free hd3) upd_same
        have o3 := s03 _ _ ob
        have nbd : b ≠ dd := ne_of_none o3 hd3
        have nbe : b ≠ e := ne_of_none o3 he
        rw [upd_ne nbd, del_ne nbe, upd_ne nbe, upd_ne nbd, upd_ne nbe]
        exact o3
end
end Tw

namespace Tw
open PySem PySem.Spec PyProof.Rows L2
open Wt Dc
abbrev sLeastW : Stmt := Pre.top 26
abbrev sEnoughP : Stmt := Pre.top 27
theorem ceil_div {a b : Int} (hb : 0 < b) : a ≤ -((-a) / b) * b ∧ (-((-a) / b) - 1) * b < a := by
  have h1 := Int.ediv_mul_le (-a) (b := b) (by omega)
  have h2 := Int.lt_ediv_add_one_mul_self (-a) hb
  generalize (-a) / b = q at *
  have e1 : -q * b = -(q * b) := Int.neg_mul _ _
  have e2 : (-q - 1) * b = -((q + 1) * b) := by grind
  omega
theorem ceil_val {p : Int × Int} {t b n : Int} (h : Val p t b) : p.2 ≤ n * p.1 ↔ b ≤ n * t := by
  have e := h.e
  have p0 := h.p0
  have b0 := h.b0
  constructor
  · intro k
    have := Int.mul_le_mul_of_nonneg_right k (show 0 ≤ b by omega)
    have z : n * p.1 * b = n * t * p.2 := by
      rw [Int.mul_assoc, e, Int.mul_assoc]
    rw [z, Int.mul_comm p.2 b] at this
    exact Int.le_of_mul_le_mul_right this p0
  · intro k
    have := Int.mul_le_mul_of_nonneg_right k (show 0 ≤ p.2 by omega)
    have z : n * t * p.2 = n * p.1 * b := by
      rw [Int.mul_assoc, ← e, Int.mul_assoc]
    rw [z, Int.mul_comm b p.2] at this
    exact Int.le_of_mul_le_mul_right this b0
section
variable {P0 : Program} {w : World} {K : PySem.W.Frag} {mg : Str → Option Value} {base : Heap}
def spLeastW (K : PySem.W.Frag) : Sp := fun vs H Q _ => ∃ (p : Addr) (i j : Int), vs = [.ref p] ∧ At K H p (i, j) ∧ 0 < j ∧ j.natAbs.log2 < 9000 ∧ Q (.int (-((-i) / j))) H
theorem scLeastW : FnScope ["weight"] ["weight"] (defScope sLeastW) := ⟨rfl, rfl, rfl, by decide +kernel, rfl, by decide +kernel, by decide +kernel⟩
theorem ok_leastW {f : Addr} {fd : FuncData} (F : Fun K "_least_whole" "_least_whole" sLeastW f fd) : FnOk P0 w K mg base CX0 1 f fd ["weight"] (spLeastW K) := by
  refine F.ok scLeastW (fun vs H Q E h => ?_) (fun cdv A outer s H vs Q E hr h => ?_)
  · obtain ⟨p, i, j, rfl, _⟩ := h
    rfl
  · obtain ⟨p, i, j, rfl, hp, hj, lg, k⟩ := h
    refine ⟨_, pss_one (ps_ret (pe_un un_neg (pe_op op_fdivA (pe_un un_neg (pe_ix ix_tup (pv 0) pe_int (fun _ _ => rfl))) (pe_ix ix_tup (pv 0) pe_int (fun _ _ => rfl))))), ?_⟩
    refine ⟨_, rfl, p, _, _, _, rfl, rfl, hp, rfl, _, rfl, _, rfl, p, _, _, _, rfl, rfl, hp, rfl, _, _, rfl, rfl, ⟨by omega, lg⟩, _, rfl, ?_⟩
    have ed : (-i).fdiv j = (-i) / j := Int.fdiv_eq_ediv_of_nonneg _ (by omega)
    rw [← ed] at k
    exact k
theorem scEnoughP : FnScope ["one", "other", "wish", "apart", "top", "bottom", "tries"] ["one", "other", "wish"] (defScope sEnoughP) := ⟨rfl, rfl, rfl, by decide +kernel, rfl, by decide +kernel, by decide +kernel⟩
set_option maxHeartbeats 2000000 in
theorem ok_enoughP {f fC fA fM fS fD fL CW zh : Addr} {fd dC dA dM dS dD dL : FuncData} (F : Fun K "enough_tries" "enough_tries" sEnoughP f fd) (TW : TxtW mg) (GC : ∀ base, FnOk P0 w K mg base (L2.CX P0 w) 5 fC dC ["one", "other", "wish"] (spWish K CW)) (FC : Fun K "_check_wish" "_check_wish" sWish fC dC) (mC : mg "_check_wish" = some (.ref fC))
    (GD : ∀ base, FnOk P0 w K mg base CX0 3 fD dD ["one", "other"] (spSubt K)) (FD : Fun K "subtracted" "subtracted" sSubt fD dD) (mD : mg "subtracted" = some (.ref fD))
    (FS : Fun K "shortened" "shortened" sShort fS dS) (mS : mg "shortened" = some (.ref fS)) (FA : Fun K "added" "added" sAdded fA dA) (mA : mg "added" = some (.ref fA)) (FM : Fun K "multiplied" "multiplied" sMul fM dM) (mM : mg "multiplied" = some (.ref fM))
    (FL : Fun K "_least_whole" "_least_whole" sLeastW fL dL) (mL : mg "_least_whole" = some (.ref fL)) (mH : mg "HALF" = some (.ref zh)) (hH : ∀ H, At K H zh (1, 2)) :
    FnOk P0 w K mg base (L2.CX P0 w) 6 f fd ["one", "other", "wish"] (spET K CW) := by
  have GC := GC base
  have GD := GD base
  have GA : FnOk P0 w K mg base CX0 2 fA dA ["one", "other"] (spAdded K) := ok_added FA TW FS mS
  have GM : FnOk P0 w K mg base CX0 2 fM dM ["one", "other"] (spMul K) := ok_mul FM TW FS mS
  have GL : FnOk P0 w K mg base CX0 1 fL dL ["weight"] (spLeastW K) := ok_leastW FL
  have bC := FC.binds (ps := ["one", "other", "wish"]) fun _ _ _ _ _ _ us hl => match us, hl with | [_, _, _], _ => rfl
  have bA := FA.binds (ps := ["one", "other"]) fun _ _ _ _ _ _ us hl => match us, hl with | [_, _], _ => rfl
  have bD := FD.binds (ps := ["one", "other"]) fun _ _ _ _ _ _ us hl => match us, hl with | [_, _], _ => rfl
  have bM := FM.binds (ps := ["one", "other"]) fun _ _ _ _ _ _ us hl => match us, hl with | [_, _], _ => rfl
  have bL := FL.binds (ps := ["weight"]) fun _ _ _ _ _ _ us hl => match us, hl with | [_], _ => rfl
  refine F.okX scEnoughP (fun vs H Q E h => ?_) (fun cdv A outer s H vs Q E hr h => ?_)
  · obtain ⟨x, y, z, dx, dy, dz, rfl, _⟩ := h
    rfl
  · obtain ⟨x, y, z, dx, dy, dz, rfl, hx, hy, hz, smx, smy, smz, k1, k2, k3, k4⟩ := h
    have nd := scEnoughP.nd
    have hr1 : Room 1 _ := hr.mono (by decide)
    have hr2 : Room 2 _ := hr.mono (by decide)
    have hr3 : Room 3 _ := hr.mono (by decide)
    apply Exists.intro
    apply And.intro
    · apply pss_cons
      · exact ps_expr (pe_callS GC hr (by rfl) mC FC.kp bC (fun σ => passAt (takes_of rfl rfl rfl rfl) σ) (pa_cons (pv 0) (pa_cons (pv 1) (pa_cons (pv 2) pa_nil))))
      apply pss_cons
      · exact ps_set (i := 3) nd rfl (Or.inl rfl) (pe_call GD hr3 (by rfl) mD FD.kp bD .nil pass0 (pa_cons (pv 0) (pa_cons (pv 1) pa_nil)))
      apply pss_cons
      · exact ps_asg (pe_call GM hr2 (by rfl) mM FM.kp bM .nil pass0 (pa_cons (pv 2) (pa_cons (pe_call GM hr2 (by rfl) mM FM.kp bM .nil pass0 (pa_cons (pv 3) (pa_cons (pv 3) pa_nil))) pa_nil))) (pg_tup (by rfl) (pgs_cons (pg_name (i := 4) nd rfl (Or.inl rfl)) (pgs_cons (pg_name (i := 5) nd rfl (Or.inl rfl)) pgs_nil)))
      apply pss_cons
      · exact ps_set (i := 6) nd rfl (Or.inl rfl) (pe_call GL hr1 (by rfl) mL FL.kp bL .nil pass0 (pa_cons (pe_tup (pa_cons (pv 5) (pa_cons (pv 4) pa_nil))) pa_nil))
      exact pss_one (ps_ret (pe_tup (pa_cons (pv 6) (pa_cons (pe_call GL hr1 (by rfl) mL FL.kp bL .nil pass0 (pa_cons (pe_call GM hr2 (by rfl) mM FM.kp bM .nil pass0 (pa_cons (pe_tup (pa_cons (pv 6) (pa_cons pe_int pa_nil))) (pa_cons (pe_call GM hr2 (by rfl) mM FM.kp bM .nil pass0 (pa_cons (pe_glob (v := .ref zh) (by rfl) mH rfl) (pa_cons (pe_call GA hr2 (by rfl) mA FA.kp bA .nil pass0 (pa_cons (pv 0) (pa_cons (pv 1) pa_nil))) pa_nil))) pa_nil))) pa_nil)) pa_nil))))
    refine ⟨_, rfl, _, rfl, _, rfl, x, y, z, dx, dy, dz, rfl, hx, hy, hz, smx, smy, smz, k1, k2, k3, fun g1 g2 g3 H1 s1 => ?_⟩
    have g2a : isChD dy = true ∧ PyData.eqv dx dy = false := by
      rw [Bool.and_eq_true] at g2
      exact ⟨g2.1, by simpa using g2.2⟩
    obtain ⟨u, rfl, hu, u0, u1⟩ : ∃ u : Int × Int, dx = wD u ∧ isW u ∧ 0 ≤ u.1 ∧ u.1 ≤ u.2 := by
      unfold isChD at g1
      split at g1
      · rw [Bool.and_eq_true, Bool.and_eq_true] at g1
        exact ⟨(_, _), rfl, g1.1, of_decide_eq_true g1.2.1, of_decide_eq_true g1.2.2⟩
      · cases g1
    obtain ⟨v, rfl, hv, v0, v1⟩ : ∃ v : Int × Int, dy = wD v ∧ isW v ∧ 0 ≤ v.1 ∧ v.1 ≤ v.2 := by
      have g := g2a.1
      unfold isChD at g
      split at g
      · rw [Bool.and_eq_true, Bool.and_eq_true] at g
        exact ⟨(_, _), rfl, g.1, of_decide_eq_true g.2.1, of_decide_eq_true g.2.2⟩
      · cases g
    obtain ⟨x', rfl, hw, w0, w1⟩ := wish_pair g3
    obtain ⟨a, rfl, ha⟩ := dp_pair hx
    obtain ⟨b, rfl, hb⟩ := dp_pair hy
    obtain ⟨c, rfl, hc⟩ := dp_pair hz
    have hne : u ≠ v := fun q => by
      have := g2a.2
      rw [q, SeqAt.eqv_refl _ rfl] at this
      cases this
    have pu := isW_pos hu
    have pv' := isW_pos hv
    have pw := isW_pos hw
    have A := apart_of (w := x') hu hv u0 u1 v0 v1 hne w0 (by omega)
    have szU : sz 60 u := smx.1 u.1 u.2 rfl
    have szV : sz 60 v := smy.1 v.1 v.2 rfl
    have szX : sz 60 x' := smz.1 x'.1 x'.2 rfl
    have k4' := fun n b' h => k4 u v x' n b' rfl rfl rfl g1 g2 g3 h
    clear k1 k2 k3 k4 hx hy hz smx smy smz g1 g2 g3 g2a
    have ha1 := sqT_same s1 ha
    have hb1 := sqT_same s1 hb
    have hc1 := sqT_same s1 hc
    -- the gap
    refine ⟨_, rfl, _, rfl, a, b, u, v, 60, 60, rfl, ha1, hb1, by omega, by omega, szU, szV, by decide, by decide, by decide, fun gp H3 s13 hg3 => ?_⟩
    have szV' : sz 60 (-v.1, v.2) := ⟨by show (-v.1).natAbs < 2 ^ 60; rw [Int.natAbs_neg]; exact szV.1, szV.2⟩
    have hg3 : At K H3 gp (addW u (-v.1, v.2)) := hg3
    have s03 := s1.trans s13
    have hc3 := sqT_same s13 hc1
    have szG : sz 121 (addW u (-v.1, v.2)) := sz_add szU szV' (by omega) (by show v.2 ≠ 0; omega)
    have vG : Val (addW u (-v.1, v.2)) (u.1 * v.2 + -v.1 * u.2) (u.2 * v.2) := val_add (val_self (by omega)) (val_self (p := (-v.1, v.2)) (by show 0 < v.2; omega))
    have pG := vG.p0
    -- the part
    refine ⟨_, rfl, _, rfl, _, rfl, gp, gp, addW u (-v.1, v.2), addW u (-v.1, v.2), 121, 121, rfl, hg3, hg3, by omega, by omega, szG, szG, by decide, by decide, by decide, fun gg H4 s4 hg4 => ?_⟩
    have szGG : sz 242 (mulW (addW u (-v.1, v.2)) (addW u (-v.1, v.2))) := sz_mul szG szG (by omega) (by omega)
    have vGG := val_mul vG vG
    have pGG := vGG.p0
    refine ⟨c, gg, x', mulW (addW u (-v.1, v.2)) (addW u (-v.1, v.2)), 60, 242, rfl, sqT_same s4 hc3, hg4, by omega, by omega, szX, szGG, by decide, by decide, by decide, fun pp H5 s5 hp5 => ?_⟩
    have szP : sz 302 (mulW x' (mulW (addW u (-v.1, v.2)) (addW u (-v.1, v.2)))) := sz_mul szX szGG (by omega) (by omega)
    have vP := val_mul (val_self (p := x') (by omega)) vGG
    have pP := vP.p0
    generalize mulW x' (mulW (addW u (-v.1, v.2)) (addW u (-v.1, v.2))) = P at *
    have s05 := s03.trans (s4.trans s5)
    have hX : 0 < (u.1 * v.2 + -v.1 * u.2) * (u.1 * v.2 + -v.1 * u.2) := by
      have ne : u.1 * v.2 ≠ v.1 * u.2 := fun q => hne (cross_eq hu hv q)
      have e : -v.1 * u.2 = -(v.1 * u.2) := Int.neg_mul _ _
      rcases Int.lt_or_lt_of_ne ne with q | q
      · have z : u.1 * v.2 + -v.1 * u.2 < 0 := by omega
        exact Int.mul_pos_of_neg_of_neg z z
      · have z : 0 < u.1 * v.2 + -v.1 * u.2 := by omega
        exact Int.mul_pos z z
    have hT : 0 < x'.1 * ((u.1 * v.2 + -v.1 * u.2) * (u.1 * v.2 + -v.1 * u.2)) := Int.mul_pos w0 hX
    have pP1 : 0 < P.1 := by
      have e := vP.e
      have := Int.mul_pos hT pP
      rw [← e] at this
      rcases Int.lt_or_le 0 P.1 with q | q
      · exact q
      · have := Int.mul_nonneg_of_nonpos_of_nonpos (a := P.1) (b := -(x'.2 * (u.2 * v.2 * (u.2 * v.2)))) q (by have := vP.b0; omega)
        rw [Int.mul_neg] at this
        omega
    -- the tries
    have lg : P.1.natAbs.log2 < 9000 := Nat.lt_of_lt_of_le (log_lt szP.1 (by decide)) (by decide)
    refine ⟨pp, _, rfl, hp5, rfl, _, _, rfl, _, _, rfl, rfl, ?_⟩
    refine ⟨_, rfl, _, rfl, by show 2 ≤ sizeLine; decide, fun p0 hp0 => ?_⟩
    have s0t := Pre.same_upd (o := .tup [.int P.2, .int P.1]) hp0
    refine ⟨p0, P.2, P.1, rfl, SqT.of upd_same, pP1, lg, ?_⟩
    obtain ⟨c1, c2⟩ := ceil_div (a := P.2) (b := P.1) pP1
    generalize -((-P.2) / P.1) = n at *
    have n1 : 1 ≤ n := by
      rcases Int.lt_or_le 0 n with q | q
      · omega
      · have := Int.mul_nonneg (a := -n) (b := P.1) (by omega) (by omega)
        rw [Int.neg_mul] at this
        omega
    have nle : n ≤ P.2 := by
      rcases Int.lt_or_le P.2 n with q | q
      · have := Int.mul_le_mul_of_nonneg_left (show 1 ≤ P.1 by omega) (show 0 ≤ n - 1 by omega)
        omega
      · exact q
    have szN : ∀ j : Int, j = 1 ∨ j = 2 → sz 302 (n, j) := fun j hj => ⟨by show n.natAbs < 2 ^ 302; have := szP.2; omega, by
      show j.natAbs < 2 ^ 302
      have : j.natAbs ≤ 2 := by omega
      exact Nat.lt_of_le_of_lt this (by decide)⟩
    -- the mean
    refine ⟨_, rfl, _, rfl, by show 2 ≤ sizeLine; decide, fun p1 hp1 => ?_⟩
    have s6 := s0t.trans (Pre.same_upd (o := .tup [.int n, .int 1]) hp1)
    have s17 := (s13.trans (s4.trans s5)).trans s6
    refine ⟨_, rfl, _, rfl, a, b, u, v, 60, 60, rfl, sqT_same s17 ha1, sqT_same s17 hb1, by omega, by omega, szU, szV, by decide, by decide, by decide, fun p3 H8 s8 h8 => ?_⟩
    have szS : sz 121 (addW u v) := sz_add szU szV (by omega) (by omega)
    have vS : Val (addW u v) (u.1 * v.2 + v.1 * u.2) (u.2 * v.2) := val_add (val_self (by omega)) (val_self (by omega))
    have pS := vS.p0
    have sz2 : sz 2 ((1, 2) : Int × Int) := ⟨by decide, by decide⟩
    refine ⟨zh, p3, (1, 2), addW u v, 2, 121, rfl, hH _, h8, (by show (2 : Int) ≠ 0; decide), by omega, sz2, szS, by decide, by decide, by decide, fun p4 H9 s9 h9 => ?_⟩
    have vH : Val (mulW (1, 2) (addW u v)) (1 * (u.1 * v.2 + v.1 * u.2)) (2 * (u.2 * v.2)) := val_mul (val_self (p := (1, 2)) (by decide)) vS
    have szH : sz 123 (mulW (1, 2) (addW u v)) := sz_mul sz2 szS (by show (2 : Int) ≠ 0; decide) (by omega)
    have pH := vH.p0
    refine ⟨p1, p4, (n, 1), mulW (1, 2) (addW u v), 302, 123, rfl, sqT_same (s8.trans s9) (SqT.of upd_same), h9, (by show (1 : Int) ≠ 0; decide), by omega, szN 1 (.inl rfl), szH, by decide, by decide, by decide, fun mp H10 s10 hm => ?_⟩
    have vM : Val (mulW (n, 1) (mulW (1, 2) (addW u v))) (n * (1 * (u.1 * v.2 + v.1 * u.2))) (1 * (2 * (u.2 * v.2))) := val_mul (val_self (p := (n, 1)) (by show (0 : Int) < 1; decide)) vH
    have szM : sz 425 (mulW (n, 1) (mulW (1, 2) (addW u v))) := sz_mul (szN 1 (.inl rfl)) szH (by show (1 : Int) ≠ 0; decide) (by omega)
    have pM := vM.p0
    generalize mulW (n, 1) (mulW (1, 2) (addW u v)) = M at *
    have lm : M.2.natAbs.log2 < 9000 := Nat.lt_of_lt_of_le (log_lt szM.2 (by decide)) (by decide)
    refine ⟨mp, M.1, M.2, rfl, hm, pM, lm, ?_⟩
    obtain ⟨d1, d2⟩ := ceil_div (a := M.1) (b := M.2) pM
    generalize -((-M.1) / M.2) = m at *
    refine ⟨by show 2 ≤ sizeLine; decide, fun r hr' => ?_⟩
    obtain ⟨f1, f2, f3⟩ := lohi_facts u v
    have f1' : (u.1 * v.2 + (0 - v.1) * u.2) = (u.1 * v.2 + -v.1 * u.2) := by
      rw [Int.zero_sub]
    rw [f1'] at f1
    -- what they are
    have q1 : x'.2 * (u.2 * v.2 * (u.2 * v.2)) ≤ n * (x'.1 * ((u.1 * v.2 + -v.1 * u.2) * (u.1 * v.2 + -v.1 * u.2))) := (ceil_val vP).mp c1
    have q2 : ¬ x'.2 * (u.2 * v.2 * (u.2 * v.2)) ≤ (n - 1) * (x'.1 * ((u.1 * v.2 + -v.1 * u.2) * (u.1 * v.2 + -v.1 * u.2))) := fun z => by
      have := (ceil_val vP).mpr z
      omega
    have r1 := (val_le vM (val_self (p := (m, 1)) (by show (0 : Int) < 1; decide))).mp (by show M.1 * 1 ≤ m * M.2; omega)
    have r2 : ¬ n * (1 * (u.1 * v.2 + v.1 * u.2)) * 1 ≤ (m - 1) * (1 * (2 * (u.2 * v.2))) := fun z => by
      have : M.1 * 1 ≤ (m - 1) * M.2 := (val_le vM (val_self (p := (m - 1, 1)) (by show (0 : Int) < 1; decide))).mpr z
      omega
    have r1' : n * (1 * (u.1 * v.2 + v.1 * u.2)) * 1 ≤ m * (1 * (2 * (u.2 * v.2))) := r1
    have hD := Int.mul_pos (show 0 < u.2 by omega) (show 0 < v.2 by omega)
    have t1 : n * (1 * (u.1 * v.2 + v.1 * u.2)) * 1 = n * (u.1 * v.2 + v.1 * u.2) := by grind
    have t2 : ∀ y : Int, y * (1 * (2 * (u.2 * v.2))) = 2 * (u.2 * v.2) * y := fun y => by grind
    rw [t1, t2] at r1' r2
    have m0 : 0 ≤ m := by
      rcases Int.lt_or_le m 0 with q | q
      · have a1 : 0 ≤ n * (u.1 * v.2 + v.1 * u.2) := Int.mul_nonneg (by omega) (Int.add_nonneg (Int.mul_nonneg u0 (by omega)) (Int.mul_nonneg v0 (by omega)))
        have a2 := Int.mul_pos (show 0 < 2 * (u.2 * v.2) by omega) (show 0 < -m by omega)
        rw [Int.mul_neg] at a2
        omega
      · exact q
    have en : ((n.toNat : Nat) : Int) = n := Int.toNat_of_nonneg (by omega)
    have em2 : ((m.toNat : Nat) : Int) = m := Int.toNat_of_nonneg m0
    have hEnt : Ent (loW u v) (hiW u v) x' n.toNat m.toNat := by
      refine ⟨by omega, ?_, ?_, ?_, ?_⟩
      · rw [f1, f2, en]
        have z1 : u.2 * v.2 * (u.2 * v.2) * x'.2 = x'.2 * (u.2 * v.2 * (u.2 * v.2)) := Int.mul_comm _ _
        rw [z1, Int.mul_assoc n]
        exact q1
      · rw [f1, f2, en]
        have z1 : u.2 * v.2 * (u.2 * v.2) * x'.2 = x'.2 * (u.2 * v.2 * (u.2 * v.2)) := Int.mul_comm _ _
        rw [z1, Int.mul_assoc (n - 1)]
        omega
      · rw [f2, f3, en, em2]
        exact r1'
      · rw [f2, f3, en, em2]
        omega
    have s18 := (s05.trans s6).trans (s8.trans (s9.trans (s10.trans (Pre.same_upd (o := .tup [.int n, .int m]) hr'))))
    exact k4' _ _ hEnt r _ s18 (by rw [en, em2]; exact SqT.of upd_same)
end
end Tw

namespace Gd
open PySem PySem.Spec PyProof.Rows L2
open LamX (TabB)
/-- the law's call, where it makes texts of things and where one def of it makes lambdas: c that def's code, P the table of it -/
theorem call_G {P0 : Program} {w : World} {K : PySem.W.Frag} {mg mb : Str → Option Value} {CX : CXT} {k : Nat} {fa a c P : Addr} {fd : FuncData} {x : Str} {sp : Sp} {sA : Shared} {us : List Value} {zs : List Int}
    (inK : K.In sA.heap) (nsG : sA.heap.Ns mainGlobals mg) (nsB : sA.heap.Ns builtinsNs mb) (bts : ∀ y : Str, y ≠ "__name__" → mb y = bootBuiltins y) (lim : sA.heap.NoLimit) (gen0 : sA.gens = #[])
    (tab0 : sA.heap.get? P = some { cls := .none, data := .fields #[] }) (offK : K.lookup P = none) (cd : PySem.W.CodeHd sA.heap c P)
    (bmod : ∃ (m : Addr) (om : Obj), mg "__builtins__" = some (.ref m) ∧ m ≠ builtinsNs ∧ sA.heap.get? m = some om ∧ om.cls = .type "module" ∧ om.dict = some builtinsNs ∧ om.data = .plain)
    (scr : sA.heap.get? a = some { cls := .type "list", data := .seq us.toArray }) (nums : IntsAre us zs) (few : zs.length ≤ sizeLine) (room : Room k callerA)
    (prom : ∀ base : Heap, K.In base → base.Ns mainGlobals mg → TabB base mg c P → FnG P0 w K mg base CX k fa fd [x] sp) (bnd : ∀ (s : Shared) (u : Value), BindsTo s fd ⟨[u], []⟩ [(x, u)])
    (wish : ∀ H : Hp, H P = some (.tbl #[]) → SqL K H a (zs.map V.int) → sp [.ref a] H (fun v _ => v = .bl true) fun _ _ _ => False)
    (noX : ∀ H e s', CX [] H sA (fun _ _ _ => False) e s' → False) :
    codeAny (model P0 w) callerA (.call (.ref fa) ⟨[.ref a], []⟩) (fun r s' => r = .ok (.ret (.bool true)) ∧ OldK sA.heap s'.heap ∧ s'.os = sA.os ∧ AllBare s'.gens) sA := by
  have rel := vals_ints nums
  have same := nums.length
  have aP : a ≠ P := fun z => by
    rw [← z, scr] at tab0
    have y : Data.seq us.toArray _ = Data.fields #[] := congrArg Obj.data (Option.some.inj tab0)
    cases y
  -- H tracks the table, and the script if it is none of the module's own things
  have go : ∀ H : Hp, H P = some (.tbl #[]) → (∀ b, b ≠ P → b ≠ a → H b = none) → (H a = none ∨ ∃ o ys, H a = some (.frz o (.lst ys))) → (H a ≠ none → K.lookup a = none) → SqL K H a (zs.map V.int) → HOk P0 w H sA.heap →
      codeAny (model P0 w) callerA (.call (.ref fa) ⟨[.ref a], []⟩) (fun r s' => r = .ok (.ret (.bool true)) ∧ OldK sA.heap s'.heap ∧ s'.os = sA.os ∧ AllBare s'.gens) sA := by
    intro H tP rest atA atK sq ok
    have keep : ∀ {b : Addr} {o : Obj}, sA.heap.get? b = some o → H b = none → (hidT sA.heap H).get? b = some o := fun e n => hidT_get e n
    -- what is no list and no empty table is not tracked
    have off : ∀ {b : Addr} {o : Obj}, sA.heap.get? b = some o → (∀ ys n, o.data ≠ .seq ys n) → o.data ≠ .fields #[] → H b = none := fun {b o} e h1 h2 => by
      by_cases h3 : b = P
      · rw [h3, tab0] at e
        cases e
        exact absurd rfl h2
      · by_cases h4 : b = a
        · rw [h4, scr] at e
          cases e
          exact absurd rfl (h1 _ _)
        · exact rest b h3 h4
    have offD : ∀ {b : Addr} {o : Obj} {es : Array DictEntry} {ep : Nat}, sA.heap.get? b = some o → o.data = .dict es ep → H b = none := fun {b o es ep} e d => off e (fun ys n z => by
      rw [d] at z
      cases z) (fun z => by
      rw [d] at z
      cases z)
    have nsOf : ∀ {b : Addr} {m : Str → Option Value}, sA.heap.Ns b m → (hidT sA.heap H).Ns b m := fun {b m} ⟨o, es, ep, e, d, r⟩ => ⟨o, es, ep, keep e (offD e d), d, r⟩
    have inB : K.In (hidT sA.heap H) := fun b o e => keep (inK b o e) (by
      by_cases h3 : b = P
      · rw [h3, offK] at e
        cases e
      · by_cases h4 : b = a
        · cases q : H a with
          | none => rw [h4, q]
          | some u =>
            rw [h4, atK (by rw [q]; simp)] at e
            cases e
        · exact rest b h3 h4)
    have modB : L2.Mod K mg (hidT sA.heap H) := ⟨inB, nsOf nsG, ⟨mb, nsOf nsB, bts⟩, let ⟨mc, h1, h2⟩ := lim; ⟨mc, nsOf h1, h2⟩⟩
    have TB : TabB (hidT sA.heap H) mg c P := by
      refine ⟨?_, ?_, fun z => ?_⟩
      · obtain ⟨o, fv, file, tf, flags, tg, inF, text, tt, k1, k2, k3, k4, k5, k6, k7, k8, k9, k10⟩ := cd
        refine ⟨o, fv, file, tf, flags, tg, inF, text, tt, keep k1 (off k1 (fun ys n z => ?_) fun z => ?_), k2, k3, k4, k5, k6, k7, k8, k9, k10⟩
        · rw [k3] at z
          cases z
        · rw [k3] at z
          cases z
          simp at k4
      · obtain ⟨m, om, k1, k2, k3, k4, k5, k6⟩ := bmod
        have n1 : m ≠ mainGlobals := fun z => by
          obtain ⟨o, es, ep, e, d, _⟩ := nsG
          rw [z, e] at k3
          cases k3
          rw [d] at k6
          cases k6
        have n2 : m ≠ P := fun z => by
          rw [z, tab0] at k3
          cases k3
          cases k6
        exact ⟨m, om, k1, k2, n1, n2, keep k3 (off k3 (fun ys n z => by rw [k6] at z; cases z) fun z => by rw [k6] at z; cases z), k4, k5, k6⟩
      · obtain ⟨o, es, ep, e, d, _⟩ := nsG
        rw [z, tab0] at e
        cases e
        cases d
    have e0 : Env0 P0 w K mg (hidT sA.heap H) callerA [] sA H := ⟨rfl, modB, fun b o e => of_hidT e, Nat.le_of_eq (hidT_size _ _), trivial, fun b hb => (by cases hb), ok, .of_eq gen0⟩
    refine codeAny_mono ((prom _ inB (nsOf nsG) TB).goes callerA [] sA H ⟨[.ref a], []⟩ [.ref a] [.ref a] _ _ room rfl e0 (bnd sA (.ref a)) (.cons rfl .nil) (wish H tP sq)) fun r s' out => ?_
    cases r with
    | error e => exact (noX H e s' out).elim
    | ok fl =>
      cases fl with
      | next => exact out.elim
      | brk => exact out.elim
      | cont => exact out.elim
      | ret u =>
        obtain ⟨v, H', os, bare, un, ok', rv, told⟩ := out
        obtain rfl : v = .bl true := told
        obtain rfl : u = Value.bool true := rv
        have stays : ∀ b o, b ≠ P → sA.heap.get? b = some o → s'.heap.get? b = some o := fun b o nb e => by
          cases q : H b with
          | none => exact un.keep b o e q (fun z => by cases z) (by simp)
          | some u =>
            by_cases h4 : b = a
            · rcases atA with z | ⟨o', ys, z⟩
              · rw [← h4, q] at z
                cases z
              · rw [← h4] at z
                obtain ⟨k1, _⟩ := ok b _ z
                obtain ⟨k2, _⟩ := ok' b _ (un.frzs b o' _ z)
                rw [e] at k1
                cases k1
                exact k2
            · rw [rest b nb h4] at q
              cases q
        have grown : ∃ more : Array Value, s'.heap.get? P = some { cls := .none, data := .fields more } := by
          obtain ⟨more, z⟩ := un.tbls P #[] tP
          exact ⟨_, ok' P _ z⟩
        refine ⟨rfl, ⟨fun b o e => ?_, fun b o e => ?_⟩, os, bare⟩
        · by_cases nb : b = P
          · obtain ⟨more, hm⟩ := grown
            subst nb
            rw [tab0] at e
            cases e
            exact .inr (.inl ⟨(cd.tab tab0).isCodeTable, rfl, #[], more, rfl, by rw [Array.empty_append]; exact hm⟩)
          · exact .inl (stays b o nb e)
        · by_cases nb : b = P
          · obtain ⟨more, hm⟩ := grown
            subst nb
            exact ⟨_, hm⟩
          · exact ⟨o, stays b o nb e⟩
  cases hk : K.lookup a with
  | some o =>
    have e := inK a o hk
    rw [scr] at e
    cases e
    refine go (fun b => if b = P then some (.tbl #[]) else none) (if_pos rfl) (fun b h1 _ => if_neg h1) (.inl (if_neg aP)) (fun z => absurd (if_neg aP) z) (.inr ⟨_, us.toArray, _, hk, rfl, rfl, rfl, by rw [List.size_toArray, same]; exact few, by simpa using rel⟩) fun b u z => ?_
    by_cases nb : b = P
    · have y := (if_pos nb).symm.trans z
      cases y
      subst nb
      exact tab0
    · have y := (if_neg nb).symm.trans z
      cases y
  | none =>
    refine go (fun b => if b = P then some (.tbl #[]) else if b = a then some (.frz { cls := .type "list", data := .seq us.toArray } (.lst (zs.map V.int))) else none) (if_pos rfl) (fun b h1 h2 => (if_neg h1).trans (if_neg h2)) (.inr ⟨_, _, (if_neg aP).trans (if_pos rfl)⟩) (fun _ => hk)
      (.inl (.inr ⟨{ cls := .type "list", data := .seq us.toArray }, (if_neg aP).trans (if_pos rfl)⟩)) fun b u z => ?_
    by_cases nb : b = P
    · have y := (if_pos nb).symm.trans z
      cases y
      subst nb
      exact tab0
    · have z1 := (if_neg nb).symm.trans z
      by_cases hb : b = a
      · have y := (if_pos hb).symm.trans z1
        cases y
        subst hb
        exact ⟨scr, by rw [List.length_map]; exact few, us, _, rel, scr⟩
      · have y := (if_neg hb).symm.trans z1
        cases y
/-- the end of such a row: xl the def with the lambdas -/
theorem walk_G {l : PySem.W.OpenLaw} {k : Nat} {q : Program} {loose : List Str} {XP : (Str → Option Value) → Heap → Prop} {YP : World → Heap → Prop} {d dl : DefRec} {K : Params → PySem.W.Frag} {x xl : Str} {sp : PySem.W.Frag → Addr → Sp}
    (hn : l.most = some 63) (hdf : d.params.defaults = []) (room : Room k callerA) (inY : ∀ (w : World) (h : Heap), YP w h → (K w.params).In h) (hrec : (recsOf q).find? (fun e => e.name == xl) = some dl)
    (wish : ∀ (K : PySem.W.Frag) (P : Addr) (H : Hp) (a : Addr) (zs : List Int), zs.length ≤ 63 → H P = some (.tbl #[]) → SqL K H a (zs.map V.int) → sp K P [.ref a] H (fun v _ => v = .bl true) fun _ _ _ => False)
    (F : ∀ (w : World) (mg : Str → Option Value) (fa : Addr) (h : Heap), (K w.params).In h → h.Ns mainGlobals mg → mg d.name = some (.ref fa) →
      ∃ (fd : FuncData) (c P : Addr), PySem.W.tabIn (K w.params) xl = some (c, P) ∧ PySem.W.noTabs (K w.params) = true ∧ (∀ (s : Shared) (u : Value), BindsTo s fd ⟨[u], []⟩ [(x, u)]) ∧
        ∀ base : Heap, (K w.params).In base → base.Ns mainGlobals mg → TabB base mg c P → FnG l.prog w (K w.params) mg base CX0 k fa fd [x] (sp (K w.params) P)) :
    PySem.W.WalkO q loose XP YP l.row.toRowW d [] (fun f vs => PySem.call f vs) := by
  refine Att.attach_callB hn hdf fun w s₀ sA mg mb fa o pm cd doc a us zs G Y ho hd hcd hmg scr nums few bits gen0 => ?_
  have inK := inY w _ Y
  obtain ⟨fd, c, P, tI, noT, bnd, prom⟩ := F w mg fa _ inK G.T.g hmg
  obtain ⟨hcode, tab0⟩ := PySem.W.tab_of G.T inK hrec tI
  have offK : (K w.params).lookup P = none := by
    cases hk : (K w.params).lookup P with
    | none => rfl
    | some ob =>
      have y := List.all_eq_true.mp noT (P, ob) (PySem.W.mem_of_lookupK hk)
      have z := (inK P ob hk).symm.trans tab0
      cases z
      exact absurd (show false = true from y) Bool.false_ne_true
  exact call_G inK G.T.g G.T.b G.T.builtins G.T.nolimit gen0 tab0 offK hcode G.T.bmain scr nums (Nat.le_trans few (by decide)) room prom bnd (fun H hH hS => wish _ P H a zs few hH hS) fun _ _ _ z => z
end Gd

namespace Tw
open PySem PySem.Spec PyProof.Rows L2
open Wt Dc Us Xt
open LamX (TabB)
theorem fnG_ok {P0 : Program} {w : World} {K : PySem.W.Frag} {mg : Str → Option Value} {base : Heap} {CX : CXT} {k : Nat} {f : Addr} {fd : FuncData} {ps : List Str} {sp : Sp} (h : FnOk P0 w K mg base CX k f fd ps sp) : Gd.FnG P0 w K mg base CX k f fd ps sp :=
  ⟨h.len, fun A out s H given us xs Q E room _ e0 bound r rd => h.run A out s H given us xs Q E room e0 bound r rd⟩
theorem tab_in {K : PySem.W.Frag} {x q : Str} {f c P : Addr} {oc kV dc pm ct ec : Value} {od an ed : Option Addr} {sl esl : Array (Option Value)} {ps : Arguments} {bd : List Stmt} {sc : Scope} {ev : Array Value} (h1 : PySem.W.nsIn K mainGlobals x = some (some (.ref f)))
    (h2 : K.lookup f = some ⟨oc, od, .func (PySem.W.fnOf x q ps bd sc .none kV dc pm an (.ref c) ct), sl⟩) (h3 : K.lookup c = some ⟨ec, ed, .fields ev, esl⟩) (h4 : ev[11]? = some (.ref P)) : PySem.W.tabIn K x = some (c, P) := by
  unfold PySem.W.tabIn
  rw [h1]
  show (match K.lookup f with
    | some ⟨_, _, .func fd, _⟩ => (match fd.code with
      | .ref c => (match K.lookup c with
        | some ⟨_, _, .fields vs, _⟩ => (match (vs[11]? : Option Value) with
          | some (.ref P) => some (c, P)
          | _ => none)
        | _ => none)
      | _ => none)
    | _ => none) = some (c, P)
  rw [h2]
  show (match K.lookup c with
        | some ⟨_, _, .fields vs, _⟩ => (match (vs[11]? : Option Value) with
          | some (.ref P) => some (c, P)
          | _ => none)
        | _ => none) = some (c, P)
  rw [h3]
  show (match (ev[11]? : Option Value) with
          | some (.ref P) => some (c, P)
          | _ => none) = some (c, P)
  rw [h4]
theorem all_mk {l : PySem.W.OpenLaw} {w : World} {K : PySem.W.Frag} {h : Heap} {mg : Str → Option Value} {fa flt fet fd1 fd2 fb1 fb2 fb3 fb4 fb5 fb6 fb7 fb8 fb9 fc1 fc2 fA fB fD fP fC fL fPl fTi fPw fR fT fTl fBe fCh fEn fW : Addr} (X : K.In h) (G : h.Ns mainGlobals mg) (hfa : mg "law" = some (.ref fa))
    {oca kVa dca pma cda cta : Value} {oda ana : Option Addr} {sla : Array (Option Value)}
    {ocb kVb dcb pmb cdb ctb : Value} {odb anb : Option Addr} {slb : Array (Option Value)}
    {ocm kVm dcm pmm cdm ctm : Value} {odm anm : Option Addr} {slm : Array (Option Value)}
    {oco kVo dco pmo cdo cto : Value} {odo ano : Option Addr} {slo : Array (Option Value)}
    {ocbw kVbw dcbw pmbw cdbw ctbw : Value} {odbw anbw : Option Addr} {slbw : Array (Option Value)}
    {occ kVc dcc pmc cdc ctc : Value} {odc anc : Option Addr} {slc : Array (Option Value)}
    {ocd kVd dcd pmd cdd ctd : Value} {odd and : Option Addr} {sld : Array (Option Value)}
    {oce kVe dce pme cde cte : Value} {ode ane : Option Addr} {sle : Array (Option Value)}
    {ocf kVf dcf pmf cdf ctf : Value} {odf anf : Option Addr} {slf : Array (Option Value)}
    {ocg kVg dcg pmg cdg ctg : Value} {odg ang : Option Addr} {slg : Array (Option Value)}
    {och kVh dch pmh cdh cth : Value} {odh anh : Option Addr} {slh : Array (Option Value)}
    {oci kVi dci pmi cdi cti : Value} {odi ani : Option Addr} {sli : Array (Option Value)}
    {ocj kVj dcj pmj cdj ctj : Value} {odj anj : Option Addr} {slj : Array (Option Value)}
    {ock kVk dck pmk cdk ctk : Value} {odk ank : Option Addr} {slk : Array (Option Value)}
    {ocl kVl dcl pml cdl ctl : Value} {odl anl : Option Addr} {sll : Array (Option Value)}
    {ocA kVA dcA pmA cdA ctA : Value} {odA anA : Option Addr} {slA : Array (Option Value)}
    {ocB kVB dcB pmB cdB ctB : Value} {odB anB : Option Addr} {slB : Array (Option Value)}
    {ocD kVD dcD pmD cdD ctD : Value} {odD anD : Option Addr} {slD : Array (Option Value)}
    {ocP kVP dcP pmP cdP ctP : Value} {odP anP : Option Addr} {slP : Array (Option Value)}
    {ocC kVC dcC pmC cdC ctC : Value} {odC anC : Option Addr} {slC : Array (Option Value)}
    {ocL kVL dcL pmL cdL ctL : Value} {odL anL : Option Addr} {slL : Array (Option Value)}
    {ocPl kVPl dcPl pmPl cdPl ctPl : Value} {odPl anPl : Option Addr} {slPl : Array (Option Value)}
    {ocTi kVTi dcTi pmTi cdTi ctTi : Value} {odTi anTi : Option Addr} {slTi : Array (Option Value)}
    {ocPw kVPw dcPw pmPw cdPw ctPw : Value} {odPw anPw : Option Addr} {slPw : Array (Option Value)}
    {ocRe kVRe dcRe pmRe cdRe ctRe : Value} {odRe anRe : Option Addr} {slRe : Array (Option Value)}
    {ocT kVT dcT pmT cdT ctT : Value} {odT anT : Option Addr} {slT : Array (Option Value)}
    {ocTl kVTl dcTl pmTl cdTl ctTl : Value} {odTl anTl : Option Addr} {slTl : Array (Option Value)}
    {ocBe kVBe dcBe pmBe cdBe ctBe : Value} {odBe anBe : Option Addr} {slBe : Array (Option Value)}
    {ocCh kVCh dcCh pmCh cdCh ctCh : Value} {odCh anCh : Option Addr} {slCh : Array (Option Value)}
    {ocEn kVEn dcEn pmEn cdEn ctEn : Value} {odEn anEn : Option Addr} {slEn : Array (Option Value)}
    {ocW kVW dcW pmW ctW : Value} {odW anW : Option Addr} {slW : Array (Option Value)}
    {ec : Value} {ed : Option Addr} {esl : Array (Option Value)} {cR PR CB CW CT : Addr} {ev : Array Value}
    {TC : Addr}
    {fc3 : Addr}
    {octI kVtI dctI pmtI cdtI cttI : Value} {odtI antI : Option Addr} {sltI : Array (Option Value)}
    {fc4 : Addr}
    {octA kVtA dctA pmtA cdtA cttA : Value} {odtA antA : Option Addr} {sltA : Array (Option Value)}
    {fc5 : Addr}
    {octM kVtM dctM pmtM cdtM cttM : Value} {odtM antM : Option Addr} {sltM : Array (Option Value)}
    {nmM qM : Str} {NM : Addr} {bsM : List Value} {snM : List Str} {suM : List Value} {abM : Bool} {coM : Option Bool} {ddM : Option Addr} {m0M m1M m2M m3M m5M : Option Value}
    {dNo : Option Addr} {mNo : Nat} {slNo : Array (Option Value)} {tNo1 tNo2 : Tok} {aNo : Addr}
    {dAl : Option Addr} {mAl : Nat} {slAl : Array (Option Value)} {tAl1 tAl2 : Tok} {aAl : Addr}
    {dHa : Option Addr} {mHa : Nat} {slHa : Array (Option Value)} {tHa1 tHa2 : Tok} {aHa : Addr}
    {tM : Tok}
    (na : PySem.W.nsIn K mainGlobals "least_tries" = some (some (.ref flt)))
    (nb : PySem.W.nsIn K mainGlobals "enough_tries" = some (some (.ref fet)))
    (nm : PySem.W.nsIn K mainGlobals "multiplied" = some (some (.ref fd1)))
    (no : PySem.W.nsIn K mainGlobals "_least_whole" = some (some (.ref fd2)))
    (nbw : PySem.W.nsIn K mainGlobals "is_whole" = some (some (.ref fb1)))
    (nc : PySem.W.nsIn K mainGlobals "is_tuple_of" = some (some (.ref fb2)))
    (nd : PySem.W.nsIn K mainGlobals "is_weight" = some (some (.ref fb3)))
    (ne : PySem.W.nsIn K mainGlobals "is_chance_part" = some (some (.ref fb4)))
    (nf : PySem.W.nsIn K mainGlobals "lies_below" = some (some (.ref fb5)))
    (ng : PySem.W.nsIn K mainGlobals "shortened" = some (some (.ref fb6)))
    (nh : PySem.W.nsIn K mainGlobals "added" = some (some (.ref fb7)))
    (ni : PySem.W.nsIn K mainGlobals "subtracted" = some (some (.ref fb8)))
    (nj : PySem.W.nsIn K mainGlobals "_is_chance" = some (some (.ref fb9)))
    (nk : PySem.W.nsIn K mainGlobals "_check_wish" = some (some (.ref fc1)))
    (nl : PySem.W.nsIn K mainGlobals "_is_enough" = some (some (.ref fc2)))
    (nA : PySem.W.nsIn K mainGlobals "_law_begun" = some (some (.ref fA)))
    (nB : PySem.W.nsIn K mainGlobals "_law_blended" = some (some (.ref fB)))
    (nD : PySem.W.nsIn K mainGlobals "_law_draw" = some (some (.ref fD)))
    (nP : PySem.W.nsIn K mainGlobals "_law_pick" = some (some (.ref fP)))
    (nC : PySem.W.nsIn K mainGlobals "_law_caught" = some (some (.ref fC)))
    (nL : PySem.W.nsIn K mainGlobals "_law_cp_lowest" = some (some (.ref fL)))
    (nPl : PySem.W.nsIn K mainGlobals "_law_cp_plus" = some (some (.ref fPl)))
    (nTi : PySem.W.nsIn K mainGlobals "_law_cp_times" = some (some (.ref fTi)))
    (nPw : PySem.W.nsIn K mainGlobals "_law_ap_power" = some (some (.ref fPw)))
    (nRe : PySem.W.nsIn K mainGlobals "_law_ap_rest" = some (some (.ref fR)))
    (nT : PySem.W.nsIn K mainGlobals "_law_ap_tried" = some (some (.ref fT)))
    (nTl : PySem.W.nsIn K mainGlobals "_law_ap_tail" = some (some (.ref fTl)))
    (nBe : PySem.W.nsIn K mainGlobals "_law_ap_below" = some (some (.ref fBe)))
    (nCh : PySem.W.nsIn K mainGlobals "_law_ap_chance" = some (some (.ref fCh)))
    (nEn : PySem.W.nsIn K mainGlobals "_law_is_enough" = some (some (.ref fEn)))
    (nW : PySem.W.nsIn K mainGlobals "law" = some (some (.ref fW)))
    (la : K.lookup flt = some ⟨oca, oda, .func (PySem.W.fnOf "least_tries" "least_tries" (defArgs sLeast) (defBody sLeast) (defScope sLeast) .none kVa dca pma ana cda cta), sla⟩)
    (cca : PySem.W.codeIn K cda "least_tries" = true)
    (kka : PySem.W.keepIn K (.ref flt) = true)
    (lb : K.lookup fet = some ⟨ocb, odb, .func (PySem.W.fnOf "enough_tries" "enough_tries" (defArgs sEnoughP) (defBody sEnoughP) (defScope sEnoughP) .none kVb dcb pmb anb cdb ctb), slb⟩)
    (ccb : PySem.W.codeIn K cdb "enough_tries" = true)
    (kkb : PySem.W.keepIn K (.ref fet) = true)
    (lm : K.lookup fd1 = some ⟨ocm, odm, .func (PySem.W.fnOf "multiplied" "multiplied" (defArgs sMul) (defBody sMul) (defScope sMul) .none kVm dcm pmm anm cdm ctm), slm⟩)
    (ccm : PySem.W.codeIn K cdm "multiplied" = true)
    (kkm : PySem.W.keepIn K (.ref fd1) = true)
    (lo : K.lookup fd2 = some ⟨oco, odo, .func (PySem.W.fnOf "_least_whole" "_least_whole" (defArgs sLeastW) (defBody sLeastW) (defScope sLeastW) .none kVo dco pmo ano cdo cto), slo⟩)
    (cco : PySem.W.codeIn K cdo "_least_whole" = true)
    (kko : PySem.W.keepIn K (.ref fd2) = true)
    (lbw : K.lookup fb1 = some ⟨ocbw, odbw, .func (PySem.W.fnOf "is_whole" "is_whole" (defArgs sIsWhole) (defBody sIsWhole) (defScope sIsWhole) .none kVbw dcbw pmbw anbw cdbw ctbw), slbw⟩)
    (ccbw : PySem.W.codeIn K cdbw "is_whole" = true)
    (kkbw : PySem.W.keepIn K (.ref fb1) = true)
    (lc : K.lookup fb2 = some ⟨occ, odc, .func (PySem.W.fnOf "is_tuple_of" "is_tuple_of" (defArgs sIsTup) (defBody sIsTup) (defScope sIsTup) .none kVc dcc pmc anc cdc ctc), slc⟩)
    (ccc : PySem.W.codeIn K cdc "is_tuple_of" = true)
    (kkc : PySem.W.keepIn K (.ref fb2) = true)
    (ld : K.lookup fb3 = some ⟨ocd, odd, .func (PySem.W.fnOf "is_weight" "is_weight" (defArgs sIsWt) (defBody sIsWt) (defScope sIsWt) .none kVd dcd pmd and cdd ctd), sld⟩)
    (ccd : PySem.W.codeIn K cdd "is_weight" = true)
    (kkd : PySem.W.keepIn K (.ref fb3) = true)
    (le : K.lookup fb4 = some ⟨oce, ode, .func (PySem.W.fnOf "is_chance_part" "is_chance_part" (defArgs sCPart) (defBody sCPart) (defScope sCPart) .none kVe dce pme ane cde cte), sle⟩)
    (cce : PySem.W.codeIn K cde "is_chance_part" = true)
    (kke : PySem.W.keepIn K (.ref fb4) = true)
    (lf : K.lookup fb5 = some ⟨ocf, odf, .func (PySem.W.fnOf "lies_below" "lies_below" (defArgs sBelow) (defBody sBelow) (defScope sBelow) .none kVf dcf pmf anf cdf ctf), slf⟩)
    (ccf : PySem.W.codeIn K cdf "lies_below" = true)
    (kkf : PySem.W.keepIn K (.ref fb5) = true)
    (lg : K.lookup fb6 = some ⟨ocg, odg, .func (PySem.W.fnOf "shortened" "shortened" (defArgs sShort) (defBody sShort) (defScope sShort) .none kVg dcg pmg ang cdg ctg), slg⟩)
    (ccg : PySem.W.codeIn K cdg "shortened" = true)
    (kkg : PySem.W.keepIn K (.ref fb6) = true)
    (lh : K.lookup fb7 = some ⟨och, odh, .func (PySem.W.fnOf "added" "added" (defArgs sAdded) (defBody sAdded) (defScope sAdded) .none kVh dch pmh anh cdh cth), slh⟩)
    (cch : PySem.W.codeIn K cdh "added" = true)
    (kkh : PySem.W.keepIn K (.ref fb7) = true)
    (li : K.lookup fb8 = some ⟨oci, odi, .func (PySem.W.fnOf "subtracted" "subtracted" (defArgs sSubt) (defBody sSubt) (defScope sSubt) .none kVi dci pmi ani cdi cti), sli⟩)
    (cci : PySem.W.codeIn K cdi "subtracted" = true)
    (kki : PySem.W.keepIn K (.ref fb8) = true)
    (lj : K.lookup fb9 = some ⟨ocj, odj, .func (PySem.W.fnOf "_is_chance" "_is_chance" (defArgs sIsCh) (defBody sIsCh) (defScope sIsCh) .none kVj dcj pmj anj cdj ctj), slj⟩)
    (ccj : PySem.W.codeIn K cdj "_is_chance" = true)
    (kkj : PySem.W.keepIn K (.ref fb9) = true)
    (lk : K.lookup fc1 = some ⟨ock, odk, .func (PySem.W.fnOf "_check_wish" "_check_wish" (defArgs sWish) (defBody sWish) (defScope sWish) .none kVk dck pmk ank cdk ctk), slk⟩)
    (cck : PySem.W.codeIn K cdk "_check_wish" = true)
    (kkk : PySem.W.keepIn K (.ref fc1) = true)
    (ll : K.lookup fc2 = some ⟨ocl, odl, .func (PySem.W.fnOf "_is_enough" "_is_enough" (defArgs sEnoughB) (defBody sEnoughB) (defScope sEnoughB) .none kVl dcl pml anl cdl ctl), sll⟩)
    (ccl : PySem.W.codeIn K cdl "_is_enough" = true)
    (kkl : PySem.W.keepIn K (.ref fc2) = true)
    (lA : K.lookup fA = some ⟨ocA, odA, .func (PySem.W.fnOf "_law_begun" "_law_begun" (defArgs Pre.sBegun) (defBody Pre.sBegun) (defScope Pre.sBegun) .none kVA dcA pmA anA cdA ctA), slA⟩)
    (ccA : PySem.W.codeIn K cdA "_law_begun" = true)
    (kkA : PySem.W.keepIn K (.ref fA) = true)
    (lB : K.lookup fB = some ⟨ocB, odB, .func (PySem.W.fnOf "_law_blended" "_law_blended" (defArgs Pre.sBlended) (defBody Pre.sBlended) (defScope Pre.sBlended) .none kVB dcB pmB anB cdB ctB), slB⟩)
    (ccB : PySem.W.codeIn K cdB "_law_blended" = true)
    (kkB : PySem.W.keepIn K (.ref fB) = true)
    (lD : K.lookup fD = some ⟨ocD, odD, .func (PySem.W.fnOf "_law_draw" "_law_draw" (defArgs Pre.sDraw) (defBody Pre.sDraw) (defScope Pre.sDraw) .none kVD dcD pmD anD cdD ctD), slD⟩)
    (ccD : PySem.W.codeIn K cdD "_law_draw" = true)
    (kkD : PySem.W.keepIn K (.ref fD) = true)
    (lP : K.lookup fP = some ⟨ocP, odP, .func (PySem.W.fnOf "_law_pick" "_law_pick" (defArgs Pre.sPick) (defBody Pre.sPick) (defScope Pre.sPick) .none kVP dcP pmP anP cdP ctP), slP⟩)
    (ccP : PySem.W.codeIn K cdP "_law_pick" = true)
    (kkP : PySem.W.keepIn K (.ref fP) = true)
    (lC : K.lookup fC = some ⟨ocC, odC, .func (PySem.W.fnOf "_law_caught" "_law_caught" (defArgs Lm.sCaught) (defBody Lm.sCaught) (defScope Lm.sCaught) .none kVC dcC pmC anC cdC ctC), slC⟩)
    (ccC : PySem.W.codeIn K cdC "_law_caught" = true)
    (kkC : PySem.W.keepIn K (.ref fC) = true)
    (lL : K.lookup fL = some ⟨ocL, odL, .func (PySem.W.fnOf "_law_cp_lowest" "_law_cp_lowest" (defArgs sLowest) (defBody sLowest) (defScope sLowest) .none kVL dcL pmL anL cdL ctL), slL⟩)
    (ccL : PySem.W.codeIn K cdL "_law_cp_lowest" = true)
    (kkL : PySem.W.keepIn K (.ref fL) = true)
    (lPl : K.lookup fPl = some ⟨ocPl, odPl, .func (PySem.W.fnOf "_law_cp_plus" "_law_cp_plus" (defArgs sCpPlus) (defBody sCpPlus) (defScope sCpPlus) .none kVPl dcPl pmPl anPl cdPl ctPl), slPl⟩)
    (ccPl : PySem.W.codeIn K cdPl "_law_cp_plus" = true)
    (kkPl : PySem.W.keepIn K (.ref fPl) = true)
    (lTi : K.lookup fTi = some ⟨ocTi, odTi, .func (PySem.W.fnOf "_law_cp_times" "_law_cp_times" (defArgs sCpTimes) (defBody sCpTimes) (defScope sCpTimes) .none kVTi dcTi pmTi anTi cdTi ctTi), slTi⟩)
    (ccTi : PySem.W.codeIn K cdTi "_law_cp_times" = true)
    (kkTi : PySem.W.keepIn K (.ref fTi) = true)
    (lPw : K.lookup fPw = some ⟨ocPw, odPw, .func (PySem.W.fnOf "_law_ap_power" "_law_ap_power" (defArgs sPower) (defBody sPower) (defScope sPower) .none kVPw dcPw pmPw anPw cdPw ctPw), slPw⟩)
    (ccPw : PySem.W.codeIn K cdPw "_law_ap_power" = true)
    (kkPw : PySem.W.keepIn K (.ref fPw) = true)
    (lRe : K.lookup fR = some ⟨ocRe, odRe, .func (PySem.W.fnOf "_law_ap_rest" "_law_ap_rest" (defArgs sRest) (defBody sRest) (defScope sRest) .none kVRe dcRe pmRe anRe cdRe ctRe), slRe⟩)
    (ccRe : PySem.W.codeIn K cdRe "_law_ap_rest" = true)
    (kkRe : PySem.W.keepIn K (.ref fR) = true)
    (lT : K.lookup fT = some ⟨ocT, odT, .func (PySem.W.fnOf "_law_ap_tried" "_law_ap_tried" (defArgs sTried) (defBody sTried) (defScope sTried) .none kVT dcT pmT anT cdT ctT), slT⟩)
    (ccT : PySem.W.codeIn K cdT "_law_ap_tried" = true)
    (kkT : PySem.W.keepIn K (.ref fT) = true)
    (lTl : K.lookup fTl = some ⟨ocTl, odTl, .func (PySem.W.fnOf "_law_ap_tail" "_law_ap_tail" (defArgs sTail) (defBody sTail) (defScope sTail) .none kVTl dcTl pmTl anTl cdTl ctTl), slTl⟩)
    (ccTl : PySem.W.codeIn K cdTl "_law_ap_tail" = true)
    (kkTl : PySem.W.keepIn K (.ref fTl) = true)
    (lBe : K.lookup fBe = some ⟨ocBe, odBe, .func (PySem.W.fnOf "_law_ap_below" "_law_ap_below" (defArgs sBelowE) (defBody sBelowE) (defScope sBelowE) .none kVBe dcBe pmBe anBe cdBe ctBe), slBe⟩)
    (ccBe : PySem.W.codeIn K cdBe "_law_ap_below" = true)
    (kkBe : PySem.W.keepIn K (.ref fBe) = true)
    (lCh : K.lookup fCh = some ⟨ocCh, odCh, .func (PySem.W.fnOf "_law_ap_chance" "_law_ap_chance" (defArgs sChanceL) (defBody sChanceL) (defScope sChanceL) .none kVCh dcCh pmCh anCh cdCh ctCh), slCh⟩)
    (ccCh : PySem.W.codeIn K cdCh "_law_ap_chance" = true)
    (kkCh : PySem.W.keepIn K (.ref fCh) = true)
    (lEn : K.lookup fEn = some ⟨ocEn, odEn, .func (PySem.W.fnOf "_law_is_enough" "_law_is_enough" (defArgs sEnough) (defBody sEnough) (defScope sEnough) .none kVEn dcEn pmEn anEn cdEn ctEn), slEn⟩)
    (ccEn : PySem.W.codeIn K cdEn "_law_is_enough" = true)
    (kkEn : PySem.W.keepIn K (.ref fEn) = true)
    (lW : K.lookup fW = some ⟨ocW, odW, .func (PySem.W.fnOf "law" "law" (defArgs sLaw4) (defBody sLaw4) (defScope sLaw4) .none kVW dcW pmW anW (.ref cR) ctW), slW⟩)
    (ccW : PySem.W.codeIn K (.ref cR) "law" = true)
    (kkW : PySem.W.keepIn K (.ref fW) = true)
    (nCB : PySem.W.nsIn K mainGlobals "ChanceError" = some (some (.ref CB)))
    (nCW : PySem.W.nsIn K mainGlobals "BadWeight" = some (some (.ref CW)))
    (nCT : PySem.W.nsIn K mainGlobals "TooMany" = some (some (.ref CT)))
    (qCW : PySem.W.excIn K CW veT "ValueError.__new__" = true)
    (kpCW : PySem.W.keepIn K (.ref CW) = true)
    (sbCW : PySem.W.subIn K (.ref CW) (.type "BaseException") = some true)
    (tyCW : PySem.W.typeIn K (.ref CW) = some (.type "type"))
    (clCW : PySem.W.isClsIn K CW = true)
    (gaCW : PySem.W.findIn K (.ref CW) "__getattribute__" = some (some (.builtin "BaseException.__getattribute__")))
    (gtCW : PySem.W.findIn K (.ref CW) "__getattr__" = some none)
    (caCW : PySem.W.findIn K (.ref CW) "__class__" = some (some (.builtin "object.__class__")))
    (moCW : PySem.W.mroIn K CW (.type "object") = some true)
    (kiCW : PySem.W.kitOne K (.ref CW) (.ref CW) = some true)
    (suCW : PySem.W.subIn K (.ref CW) (.ref CB) = some true)
    (sbS : PySem.W.subIn K (.ref CB) (.type "BaseException") = some true)
    (hdS : PySem.W.hasDictIn K CB = true)
    (tyS : PySem.W.typeIn K (.ref CB) = some (.type "type"))
    (zh : PySem.W.specialIn K (.builtin "object.__class__") "__get__" = some (some (.builtin "getset_descriptor.__get__")))
    (zt : PySem.W.takesIn K (.builtin "object.__class__") = some true)
    (lco : K.lookup cR = some ⟨ec, ed, .fields ev, esl⟩)
    (lev : ev[11]? = some (.ref PR))
    (zisinstance : PySem.W.nsIn K mainGlobals "isinstance" = some none)
    (zint : PySem.W.nsIn K mainGlobals "int" = some none)
    (zlen : PySem.W.nsIn K mainGlobals "len" = some none)
    (zabs : PySem.W.nsIn K mainGlobals "abs" = some none)
    (zrange : PySem.W.nsIn K mainGlobals "range" = some none)
    (zmin : PySem.W.nsIn K mainGlobals "min" = some none)
    (zenumerate : PySem.W.nsIn K mainGlobals "enumerate" = some none)
    (zsum : PySem.W.nsIn K mainGlobals "sum" = some none)
    (nTC : PySem.W.nsIn K mainGlobals "Tries" = some (some (.ref TC)))
    (atI : PySem.W.findIn K (.ref TC) "__init__" = some (some (.ref fc3)))
    (itI : PySem.W.isFn K (.ref fc3) = true)
    (ltI : K.lookup fc3 = some ⟨octI, odtI, .func (PySem.W.fnOf "__init__" "Tries.__init__" (defArgs sTriesI) (defBody sTriesI) (defScope sTriesI) .none kVtI dctI pmtI antI cdtI cttI), sltI⟩)
    (cctI : PySem.W.codeIn K cdtI "Tries.__init__" = true)
    (kktI : PySem.W.keepIn K (.ref fc3) = true)
    (atA : PySem.W.findIn K (.ref TC) "at_least" = some (some (.ref fc4)))
    (itA : PySem.W.isFn K (.ref fc4) = true)
    (ltA : K.lookup fc4 = some ⟨octA, odtA, .func (PySem.W.fnOf "at_least" "Tries.at_least" (defArgs sTriesA) (defBody sTriesA) (defScope sTriesA) .none kVtA dctA pmtA antA cdtA cttA), sltA⟩)
    (cctA : PySem.W.codeIn K cdtA "Tries.at_least" = true)
    (kktA : PySem.W.keepIn K (.ref fc4) = true)
    (atM : PySem.W.findIn K (.ref CT) "__init__" = some (some (.ref fc5)))
    (itM : PySem.W.isFn K (.ref fc5) = true)
    (ltM : K.lookup fc5 = some ⟨octM, odtM, .func (PySem.W.fnOf "__init__" "TooMany.__init__" (defArgs sMany) (defBody sMany) (defScope sMany) .none kVtM dctM pmtM antM cdtM cttM), sltM⟩)
    (cctM : PySem.W.codeIn K cdtM "TooMany.__init__" = true)
    (kktM : PySem.W.keepIn K (.ref fc5) = true)
    (tiM : PySem.W.typeIn K (.ref fc5) = some (.type "function"))
    (pgT : PySem.W.plainGet K TC Str.empty = true)
    (hdT : PySem.W.hasDictIn K TC = true)
    (poT : PySem.W.plainOver K TC = true)
    (saT : PySem.W.findIn K (.ref TC) "__setattr__" = some (some (.builtin "object.__setattr__")))
    (mkT : PySem.W.makesIn K TC = true)
    (kcT : PySem.W.keepIn K (.ref TC) = true)
    (nAT : PySem.W.findIn K (.ref TC) "all_ways" = some none)
    (nFT : PySem.W.findIn K (.ref TC) "ways_from" = some none)
    (xM : K.lookup CT = some (excClassObj nmM qM CT NM bsM (.ref CB :: veT) true snM suM abM coM ddM m0M m1M m2M m3M m5M "ValueError.__new__"))
    (saM : PySem.W.findIn K (.ref CT) "__setattr__" = some (some (.builtin "object.__setattr__")))
    (noM : PySem.W.findIn K (.ref CT) "most" = some none)
    (bs_ : PySem.W.specialIn K (.ref CB) "__getattribute__" = some (some (.builtin "type.__getattribute__")))
    (br_ : PySem.W.readsIn K CB (.type "type") = true)
    (bv_ : PySem.W.findCls K (.ref CB) (.type "type") "__init__" = some (.val (.builtin "ValueError.__init__")))
    (ngcd : PySem.W.nsIn K mainGlobals "gcd" = some (some (.builtin "math.gcd")))
    (ncomb : PySem.W.nsIn K mainGlobals "comb" = some (some (.builtin "math.comb")))
    (nNo : PySem.W.nsIn K mainGlobals "NOTHING" = some (some (.ref aNo)))
    (lNo : K.lookup aNo = some ⟨.type "tuple", dNo, .seq #[.int 0 tNo1, .int 1 tNo2] mNo, slNo⟩)
    (nAl : PySem.W.nsIn K mainGlobals "ALL" = some (some (.ref aAl)))
    (lAl : K.lookup aAl = some ⟨.type "tuple", dAl, .seq #[.int 1 tAl1, .int 1 tAl2] mAl, slAl⟩)
    (nHa : PySem.W.nsIn K mainGlobals "HALF" = some (some (.ref aHa)))
    (lHa : K.lookup aHa = some ⟨.type "tuple", dHa, .seq #[.int 1 tHa1, .int 2 tHa2] mHa, slHa⟩)
    (nM : PySem.W.nsIn K mainGlobals "MOST_TRIES" = some (some (.int 40 tM)))
    (zbool : PySem.W.nsIn K mainGlobals "bool" = some none)
    (zlist : PySem.W.nsIn K mainGlobals "list" = some none)
    (ztuple : PySem.W.nsIn K mainGlobals "tuple" = some none)
    (zreversed : PySem.W.nsIn K mainGlobals "reversed" = some none)
    (kpCT : PySem.W.keepIn K (.ref CT) = true)
    (sbCT : PySem.W.subIn K (.ref CT) (.type "BaseException") = some true)
    (tyCT : PySem.W.typeIn K (.ref CT) = some (.type "type"))
    (nt : PySem.W.noTabs K = true)
    : ∃ (fd : FuncData) (c P : Addr), PySem.W.tabIn K "law" = some (c, P) ∧ PySem.W.noTabs K = true ∧ (∀ (s : Shared) (v : Value), BindsTo s fd ⟨[v], []⟩ [("script", v)]) ∧
      ∀ base : Heap, K.In base → base.Ns mainGlobals mg → TabB base mg c P → Gd.FnG l.prog w K mg base CX0 13 fa fd ["script"] (spLaw4 K P) := by
  have e := hfa.symm.trans (PySem.W.mg_of X G nW)
  cases e
  have TP : Pre.TxtP mg := ⟨(PySem.W.mg_none_of X G zabs), (PySem.W.mg_none_of X G zint), (PySem.W.mg_none_of X G zlen)⟩
  have TW : TxtW mg := ⟨(PySem.W.mg_none_of X G zisinstance), (PySem.W.mg_none_of X G zint), (PySem.W.mg_none_of X G zbool), (PySem.W.mg_none_of X G zlist), (PySem.W.mg_none_of X G ztuple), (PySem.W.mg_none_of X G zlen), PySem.W.mg_of X G ngcd⟩
  have hNo : ∀ H, At K H aNo (0, 1) := fun H => .inr ⟨_, #[.int 0 tNo1, .int 1 tNo2], mNo, lNo, rfl, rfl, by show 2 ≤ sizeLine; decide, .cons ⟨_, rfl⟩ (.cons ⟨_, rfl⟩ .nil)⟩
  have hAl : ∀ H, At K H aAl (1, 1) := fun H => .inr ⟨_, #[.int 1 tAl1, .int 1 tAl2], mAl, lAl, rfl, rfl, by show 2 ≤ sizeLine; decide, .cons ⟨_, rfl⟩ (.cons ⟨_, rfl⟩ .nil)⟩
  have hHa : ∀ H, At K H aHa (1, 2) := fun H => .inr ⟨_, #[.int 1 tHa1, .int 2 tHa2], mHa, lHa, rfl, rfl, by show 2 ≤ sizeLine; decide, .cons ⟨_, rfl⟩ (.cons ⟨_, rfl⟩ .nil)⟩
  have ECW : ErC K mg "BadWeight" CW := ⟨PySem.W.mg_of X G nCW, qCW, kpCW, sbCW, tyCW⟩
  have TT : TxtT K mg TC := ⟨⟨pgT, hdT, poT, saT⟩, nAT, nFT, (PySem.W.mg_none_of X G zrange), (PySem.W.mg_none_of X G zlist), (PySem.W.mg_none_of X G zlen), (PySem.W.mg_none_of X G zreversed), PySem.W.mg_of X G ncomb⟩
  have FtI := fun_mk (st := sTriesI) ltI cctI kktI
  have FtA := fun_mk (st := sTriesA) ltA cctA kktA
  have FtM := fun_mk (st := sMany) ltM cctM kktM
  have GtI : ∀ base, FnOk l.prog w K mg base CX0 1 fc3 _ ["self", "chance", "tries"] (spTrI K TC) := fun base => ok_trI FtI TT
  have GtA : ∀ base, FnOk l.prog w K mg base CX0 2 fc4 _ ["self", "bar"] (spTrA K TC) := fun base => ok_trA FtA TT TW (fun_mk (st := sShort) lg ccg kkg) (PySem.W.mg_of X G ng) (PySem.W.mg_of X G nNo) hNo
  have btI := FtI.binds (ps := ["self", "chance", "tries"]) fun _ _ _ _ _ _ us hl => match us, hl with | [_, _, _], _ => rfl
  have btA := FtA.binds (ps := ["self", "bar"]) fun _ _ _ _ _ _ us hl => match us, hl with | [_, _], _ => rfl
  have btM := FtM.binds (ps := ["self", "most"]) fun _ _ _ _ _ _ us hl => match us, hl with | [_, _], _ => rfl
  have Gd : ∀ base, FnOk l.prog w K mg base CX0 2 fb3 _ ["value"] (spIsWt K) := fun base => ok_iswt (fun_mk (st := sIsWt) ld ccd kkd) TW (fun_mk (st := sIsTup) lc ccc kkc) (PySem.W.mg_of X G nc) (fun_mk (st := sIsWhole) lbw ccbw kkbw) (PySem.W.mg_of X G nbw)
  have Ge : ∀ base, FnOk l.prog w K mg base CX0 3 fb4 _ ["value"] (spCPart K) := fun base => ok_cpart (fun_mk (st := sCPart) le cce kke) Gd (fun_mk (st := sIsWt) ld ccd kkd) (PySem.W.mg_of X G nd)
  have Gj : ∀ base, FnOk l.prog w K mg base CX0 4 fb9 _ ["value"] (spIsCh K) := fun base => ok_isch (fun_mk (st := sIsCh) lj ccj kkj) Ge (fun_mk (st := sCPart) le cce kke) (PySem.W.mg_of X G ne) (fun_mk (st := sBelow) lf ccf kkf) (PySem.W.mg_of X G nf) (PySem.W.mg_of X G nAl) hAl
  have Gh : ∀ base, FnOk l.prog w K mg base CX0 2 fb7 _ ["one", "other"] (spAdded K) := fun base => ok_added (fun_mk (st := sAdded) lh cch kkh) TW (fun_mk (st := sShort) lg ccg kkg) (PySem.W.mg_of X G ng)
  have Gi : ∀ base, FnOk l.prog w K mg base CX0 3 fb8 _ ["one", "other"] (spSubt K) := fun base => ok_subt (fun_mk (st := sSubt) li cci kki) Gh (fun_mk (st := sAdded) lh cch kkh) (PySem.W.mg_of X G nh)
  have Gk : ∀ base, FnOk l.prog w K mg base (L2.CX l.prog w) 5 fc1 _ ["one", "other", "wish"] (spWish K CW) := fun base => ok_wish (fun_mk (st := sWish) lk cck kkk) Gj (fun_mk (st := sIsCh) lj ccj kkj) (PySem.W.mg_of X G nj) Gd (fun_mk (st := sIsWt) ld ccd kkd) (PySem.W.mg_of X G nd) (fun_mk (st := sBelow) lf ccf kkf) (PySem.W.mg_of X G nf) (PySem.W.mg_of X G nNo) hNo (PySem.W.mg_of X G nHa) hHa ECW
  have Gl : ∀ base, FnOk l.prog w K mg base CX0 4 fc2 _ ["great", "small", "bar", "wish"] (spEno K TC) := fun base => ok_eno (fun_mk (st := sEnoughB) ll ccl kkl) TT GtA btA ⟨atA, itA, kktA⟩ Gi (fun_mk (st := sSubt) li cci kki) (PySem.W.mg_of X G ni) (fun_mk (st := sBelow) lf ccf kkf) (PySem.W.mg_of X G nf) (PySem.W.mg_of X G nAl) hAl
  have OM : OwM K mg CT fc5 := ⟨PySem.W.mg_of X G nCT, ⟨⟨nmM, qM, NM, bsM, _, snM, suM, abM, coM, ddM, m0M, m1M, m2M, m3M, m5M, xM, (show PySem.HandSPX.refsVE veT = true by decide +kernel)⟩, saM, sbCT, tyCT, kpCT⟩, atM, tiM, noM⟩
  have GtM : ∀ base, FnOk l.prog w K mg base CX0 1 fc5 _ ["self", "most"] (spMany CT) := fun base => ok_many FtM ⟨PySem.W.mg_of X G nCB, bs_, br_, bv_⟩ OM
  have Gm : ∀ base, FnOk l.prog w K mg base CX0 2 fd1 _ ["one", "other"] (spMul K) := fun base => ok_mul (fun_mk (st := sMul) lm ccm kkm) TW (fun_mk (st := sShort) lg ccg kkg) (PySem.W.mg_of X G ng)
  have ET : Use l.prog w K mg (L2.CX l.prog w) 10 "enough_tries" ["one", "other", "wish"] (spET K CW) fet _ := ⟨fun base => ((ok_enoughP (fun_mk (st := sEnoughP) lb ccb kkb) TW Gk (fun_mk (st := sWish) lk cck kkk) (PySem.W.mg_of X G nk) Gi (fun_mk (st := sSubt) li cci kki) (PySem.W.mg_of X G ni) (fun_mk (st := sShort) lg ccg kkg) (PySem.W.mg_of X G ng) (fun_mk (st := sAdded) lh cch kkh) (PySem.W.mg_of X G nh) (fun_mk (st := sMul) lm ccm kkm) (PySem.W.mg_of X G nm) (fun_mk (st := sLeastW) lo cco kko) (PySem.W.mg_of X G no) (PySem.W.mg_of X G nHa) hHa).mono (by decide)), (PySem.W.mg_of X G nb), kkb⟩
  have LT : Use l.prog w K mg (L2.CX l.prog w) 10 "least_tries" ["one", "other", "wish"] (spLT K CW CT) flt _ := ⟨fun base => ((ok_least (fun_mk (st := sLeast) la cca kka) Gk (fun_mk (st := sWish) lk cck kkk) (PySem.W.mg_of X G nk) TT ⟨mkT, atI, itI, kcT⟩ (PySem.W.mg_of X G nTC) GtI btI Gl (fun_mk (st := sEnoughB) ll ccl kkl) (PySem.W.mg_of X G nl) (fun_mk (st := sBelow) lf ccf kkf) (PySem.W.mg_of X G nf) (PySem.W.mg_of X G nM) OM GtM btM).mono (by decide)), (PySem.W.mg_of X G na), kka⟩
  have DR : Drw K mg fD fP fB _ _ _ := ⟨TP, (PySem.W.mg_none_of X G zrange), (fun_mk (st := Pre.sDraw) lD ccD kkD), (PySem.W.mg_of X G nD), (fun_mk (st := Pre.sPick) lP ccP kkP), (PySem.W.mg_of X G nP), (fun_mk (st := Pre.sBlended) lB ccB kkB), (PySem.W.mg_of X G nB)⟩
  have TL : TlL K mg fPw fT _ _ := ⟨(PySem.W.mg_none_of X G zlen), (PySem.W.mg_none_of X G zenumerate), (PySem.W.mg_none_of X G zrange), (PySem.W.mg_none_of X G zsum), (fun_mk (st := sPower) lPw ccPw kkPw), (PySem.W.mg_of X G nPw), (fun_mk (st := sTried) lT ccT kkT), (PySem.W.mg_of X G nT)⟩
  have EN : EnL l.prog w K mg CW CT fL fPw fT fTl fR fBe fPl fTi fet flt _ _ _ _ _ _ _ _ _ _ 10 := ⟨TP, TL, (fun_mk (st := sLowest) lL ccL kkL), (PySem.W.mg_of X G nL), (fun_mk (st := sTail) lTl ccTl kkTl), (PySem.W.mg_of X G nTl), (fun_mk (st := sRest) lRe ccRe kkRe), (PySem.W.mg_of X G nRe), (fun_mk (st := sBelowE) lBe ccBe kkBe), (PySem.W.mg_of X G nBe), (fun_mk (st := sCpPlus) lPl ccPl kkPl), (PySem.W.mg_of X G nPl), (fun_mk (st := sCpTimes) lTi ccTi kkTi), (PySem.W.mg_of X G nTi), Nat.le_refl _, ET, (fun_mk (st := sEnoughP) lb ccb kkb).binds (ps := ["one", "other", "wish"]) fun _ _ _ _ _ _ us hl => match us, hl with | [_, _, _], _ => rfl, LT, (fun_mk (st := sLeast) la cca kka).binds (ps := ["one", "other", "wish"]) fun _ _ _ _ _ _ us hl => match us, hl with | [_, _, _], _ => rfl⟩
  refine ⟨PySem.W.fnOf "law" "law" (defArgs sLaw4) (defBody sLaw4) (defScope sLaw4) .none kVW dcW pmW anW (.ref cR) ctW, cR, PR, tab_in nW lW lco lev, nt, fun s v => .of_eq rfl, fun base _ _ TB => ?_⟩
  exact fnG_ok (ok_law4 lW ccW TB ⟨DR, EN, (PySem.W.mg_none_of X G zisinstance), (PySem.W.mg_none_of X G zmin), (fun_mk (st := Pre.sBegun) lA ccA kkA), (PySem.W.mg_of X G nA), (fun_mk (st := Lm.sCaught) lC ccC kkC), (PySem.W.mg_of X G nC), (fun_mk (st := sChanceL) lCh ccCh kkCh), (PySem.W.mg_of X G nCh), (fun_mk (st := sEnough) lEn ccEn kkEn), (PySem.W.mg_of X G nEn), fun s u v z _ => .of_eq rfl, PySem.W.mg_of X G nCB, ⟨PySem.W.mg_of X G nCW, PySem.W.exm_ref sbS hdS tyS suCW, ⟨clCW, gaCW, gtCW, sbCW, caCW, moCW⟩, kiCW⟩, ⟨zh, zt⟩⟩)
end Tw


open PySem PySem.W PyProof.Rows in
set_option maxRecDepth 100000 in
set_option maxHeartbeats 0 in
theorem PySem.Challenge.cw_chancepoints_k40_whole_always_enough_tri_holds : PySem.Challenge.rw_chancepoints_k40_whole_always_enough_tri.Holds := by
  w_on; o_law; k_head; (case hw => w_witness2)
  k_fill
  refine Gd.walk_G (l := PySem.Challenge.rw_chancepoints_k40_whole_always_enough_tri) (xl := "law") (k := 13) (x := "script") (sp := Tw.spLaw4) rfl rfl ⟨rfl, by decide, by decide⟩ (fun w h Y => PySem.W.km_in_of Y) (by rfl) (fun K P H a zs hl hP hS => ⟨a, zs, rfl, hS, hl, fun z hz => by rw [List.mem_singleton.mp hz]; exact LamX.TabS.nil hP, fun _ => rfl⟩) ?F
  case F =>
    intro w mg fa h KX G hmg
    refine' Tw.all_mk KX G hmg ?q0_na ?q0_nb ?q0_nm ?q0_no ?q0_nbw ?q0_nc ?q0_nd ?q0_ne ?q0_nf ?q0_ng ?q0_nh ?q0_ni ?q0_nj ?q0_nk ?q0_nl ?q0_nA ?q0_nB ?q0_nD ?q0_nP ?q0_nC ?q0_nL ?q0_nPl ?q0_nTi ?q0_nPw ?q0_nRe ?q0_nT ?q0_nTl ?q0_nBe ?q0_nCh ?q0_nEn ?q0_nW ?q0_la ?q0_cca ?q0_kka ?q0_lb ?q0_ccb ?q0_kkb ?q0_lm ?q0_ccm ?q0_kkm ?q0_lo ?q0_cco ?q0_kko ?q0_lbw ?q0_ccbw ?q0_kkbw ?q0_lc ?q0_ccc ?q0_kkc ?q0_ld ?q0_ccd ?q0_kkd ?q0_le ?q0_cce ?q0_kke ?q0_lf ?q0_ccf ?q0_kkf ?q0_lg ?q0_ccg ?q0_kkg ?q0_lh ?q0_cch ?q0_kkh ?q0_li ?q0_cci ?q0_kki ?q0_lj ?q0_ccj ?q0_kkj ?q0_lk ?q0_cck ?q0_kkk ?q0_ll ?q0_ccl ?q0_kkl ?q0_lA ?q0_ccA ?q0_kkA ?q0_lB ?q0_ccB ?q0_kkB ?q0_lD ?q0_ccD ?q0_kkD ?q0_lP ?q0_ccP ?q0_kkP ?q0_lC ?q0_ccC ?q0_kkC ?q0_lL ?q0_ccL ?q0_kkL ?q0_lPl ?q0_ccPl ?q0_kkPl ?q0_lTi ?q0_ccTi ?q0_kkTi ?q0_lPw ?q0_ccPw ?q0_kkPw ?q0_lRe ?q0_ccRe ?q0_kkRe ?q0_lT ?q0_ccT ?q0_kkT ?q0_lTl ?q0_ccTl ?q0_kkTl ?q0_lBe ?q0_ccBe ?q0_kkBe ?q0_lCh ?q0_ccCh ?q0_kkCh ?q0_lEn ?q0_ccEn ?q0_kkEn ?q0_lW ?q0_ccW ?q0_kkW ?q0_nCB ?q0_nCW ?q0_nCT ?q0_qCW ?q0_kpCW ?q0_sbCW ?q0_tyCW ?q0_clCW ?q0_gaCW ?q0_gtCW ?q0_caCW ?q0_moCW ?q0_kiCW ?q0_suCW ?q0_sbS ?q0_hdS ?q0_tyS ?q0_zh ?q0_zt ?q0_lco ?q0_lev ?q0_zisinstance ?q0_zint ?q0_zlen ?q0_zabs ?q0_zrange ?q0_zmin ?q0_zenumerate ?q0_zsum ?q0_nTC ?q0_atI ?q0_itI ?q0_ltI ?q0_cctI ?q0_kktI ?q0_atA ?q0_itA ?q0_ltA ?q0_cctA ?q0_kktA ?q0_atM ?q0_itM ?q0_ltM ?q0_cctM ?q0_kktM ?q0_tiM ?q0_pgT ?q0_hdT ?q0_poT ?q0_saT ?q0_mkT ?q0_kcT ?q0_nAT ?q0_nFT ?q0_xM ?q0_saM ?q0_noM ?q0_bs_ ?q0_br_ ?q0_bv_ ?q0_ngcd ?q0_ncomb ?q0_nNo ?q0_lNo ?q0_nAl ?q0_lAl ?q0_nHa ?q0_lHa ?q0_nM ?q0_zbool ?q0_zlist ?q0_ztuple ?q0_zreversed ?q0_kpCT ?q0_sbCT ?q0_tyCT ?q0_nt
    (case q0_na => k_is)
    (case q0_nb => k_is)
    (case q0_nm => k_is)
    (case q0_no => k_is)
    (case q0_nbw => k_is)
    (case q0_nc => k_is)
    (case q0_nd => k_is)
    (case q0_ne => k_is)
    (case q0_nf => k_is)
    (case q0_ng => k_is)
    (case q0_nh => k_is)
    (case q0_ni => k_is)
    (case q0_nj => k_is)
    (case q0_nk => k_is)
    (case q0_nl => k_is)
    (case q0_nA => k_is)
    (case q0_nB => k_is)
    (case q0_nD => k_is)
    (case q0_nP => k_is)
    (case q0_nC => k_is)
    (case q0_nL => k_is)
    (case q0_nPl => k_is)
    (case q0_nTi => k_is)
    (case q0_nPw => k_is)
    (case q0_nRe => k_is)
    (case q0_nT => k_is)
    (case q0_nTl => k_is)
    (case q0_nBe => k_is)
    (case q0_nCh => k_is)
    (case q0_nEn => k_is)
    (case q0_nW => k_is)
    (case q0_la => k_is)
    (case q0_cca => k_is)
    (case q0_kka => k_is)
    (case q0_lb => k_is)
    (case q0_ccb => k_is)
    (case q0_kkb => k_is)
    (case q0_lm => k_is)
    (case q0_ccm => k_is)
    (case q0_kkm => k_is)
    (case q0_lo => k_is)
    (case q0_cco => k_is)
    (case q0_kko => k_is)
    (case q0_lbw => k_is)
    (case q0_ccbw => k_is)
    (case q0_kkbw => k_is)
    (case q0_lc => k_is)
    (case q0_ccc => k_is)
    (case q0_kkc => k_is)
    (case q0_ld => k_is)
    (case q0_ccd => k_is)
    (case q0_kkd => k_is)
    (case q0_le => k_is)
    (case q0_cce => k_is)
    (case q0_kke => k_is)
    (case q0_lf => k_is)
    (case q0_ccf => k_is)
    (case q0_kkf => k_is)
    (case q0_lg => k_is)
    (case q0_ccg => k_is)
    (case q0_kkg => k_is)
    (case q0_lh => k_is)
    (case q0_cch => k_is)
    (case q0_kkh => k_is)
    (case q0_li => k_is)
    (case q0_cci => k_is)
    (case q0_kki => k_is)
    (case q0_lj => k_is)
    (case q0_ccj => k_is)
    (case q0_kkj => k_is)
    (case q0_lk => k_is)
    (case q0_cck => k_is)
    (case q0_kkk => k_is)
    (case q0_ll => k_is)
    (case q0_ccl => k_is)
    (case q0_kkl => k_is)
    (case q0_lA => k_is)
    (case q0_ccA => k_is)
    (case q0_kkA => k_is)
    (case q0_lB => k_is)
    (case q0_ccB => k_is)
    (case q0_kkB => k_is)
    (case q0_lD => k_is)
    (case q0_ccD => k_is)
    (case q0_kkD => k_is)
    (case q0_lP => k_is)
    (case q0_ccP => k_is)
    (case q0_kkP => k_is)
    (case q0_lC => k_is)
    (case q0_ccC => k_is)
    (case q0_kkC => k_is)
    (case q0_lL => k_is)
    (case q0_ccL => k_is)
    (case q0_kkL => k_is)
    (case q0_lPl => k_is)
    (case q0_ccPl => k_is)
    (case q0_kkPl => k_is)
    (case q0_lTi => k_is)
    (case q0_ccTi => k_is)
    (case q0_kkTi => k_is)
    (case q0_lPw => k_is)
    (case q0_ccPw => k_is)
    (case q0_kkPw => k_is)
    (case q0_lRe => k_is)
    (case q0_ccRe => k_is)
    (case q0_kkRe => k_is)
    (case q0_lT => k_is)
    (case q0_ccT => k_is)
    (case q0_kkT => k_is)
    (case q0_lTl => k_is)
    (case q0_ccTl => k_is)
    (case q0_kkTl => k_is)
    (case q0_lBe => k_is)
    (case q0_ccBe => k_is)
    (case q0_kkBe => k_is)
    (case q0_lCh => k_is)
    (case q0_ccCh => k_is)
    (case q0_kkCh => k_is)
    (case q0_lEn => k_is)
    (case q0_ccEn => k_is)
    (case q0_kkEn => k_is)
    (case q0_lW => k_is)
    (case q0_ccW => k_is)
    (case q0_kkW => k_is)
    (case q0_nCB => k_is)
    (case q0_nCW => k_is)
    (case q0_nCT => k_is)
    (case q0_qCW => k_exc)
    (case q0_kpCW => k_is)
    (case q0_sbCW => k_is)
    (case q0_tyCW => k_is)
    (case q0_clCW => k_is)
    (case q0_gaCW => k_is)
    (case q0_gtCW => k_is)
    (case q0_caCW => k_is)
    (case q0_moCW => k_is)
    (case q0_kiCW => kit_is)
    (case q0_suCW => k_is)
    (case q0_sbS => k_is)
    (case q0_hdS => k_is)
    (case q0_tyS => k_is)
    (case q0_zh => k_is)
    (case q0_zt => k_is)
    (case q0_lco => k_is)
    (case q0_lev => exact rfl)
    (case q0_zisinstance => k_is)
    (case q0_zint => k_is)
    (case q0_zlen => k_is)
    (case q0_zabs => k_is)
    (case q0_zrange => k_is)
    (case q0_zmin => k_is)
    (case q0_zenumerate => k_is)
    (case q0_zsum => k_is)
    (case q0_nTC => k_is)
    (case q0_atI => k_is)
    (case q0_itI => k_is)
    (case q0_ltI => k_is)
    (case q0_cctI => k_is)
    (case q0_kktI => k_is)
    (case q0_atA => k_is)
    (case q0_itA => k_is)
    (case q0_ltA => k_is)
    (case q0_cctA => k_is)
    (case q0_kktA => k_is)
    (case q0_atM => k_is)
    (case q0_itM => k_is)
    (case q0_ltM => k_is)
    (case q0_cctM => k_is)
    (case q0_kktM => k_is)
    (case q0_tiM => k_is)
    (case q0_pgT => k_is)
    (case q0_hdT => k_is)
    (case q0_poT => k_is)
    (case q0_saT => k_is)
    (case q0_mkT => k_is)
    (case q0_kcT => k_is)
    (case q0_nAT => k_is)
    (case q0_nFT => k_is)
    (case q0_xM => k_is)
    (case q0_saM => k_is)
    (case q0_noM => k_is)
    (case q0_bs_ => k_is)
    (case q0_br_ => k_is)
    (case q0_bv_ => k_is)
    (case q0_ngcd => k_is)
    (case q0_ncomb => k_is)
    (case q0_nNo => k_is)
    (case q0_lNo => k_is)
    (case q0_nAl => k_is)
    (case q0_lAl => k_is)
    (case q0_nHa => k_is)
    (case q0_lHa => k_is)
    (case q0_nM => k_is)
    (case q0_zbool => k_is)
    (case q0_zlist => k_is)
    (case q0_ztuple => k_is)
    (case q0_zreversed => k_is)
    (case q0_kpCT => k_is)
    (case q0_sbCT => k_is)
    (case q0_tyCT => k_is)
    (case q0_nt => kernel_rfl)

