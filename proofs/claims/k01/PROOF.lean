import PyProof.Rows.All
import Wide.All
import OpenK.AllK
import Wide.FinOn
import HandS.Base
import HandS.Call
import HandS.List
import HandS.Comp
import HandS.Text
import HandS.Ends
import HandS.Words
import HandS.Exc
import HandS.ExcOwn
import HandS.Codes
import HandS.IsInst
import HandS.ExcInit
import HandS.ExcIs
import HandS.Small
import HandS.HotCalls
import HandS.ExcField
import KE.KExcIs
import HandS.WordsExc
import HandS.WordsList
import PySem.Challenge.RW_leastfile_k01_errors_and_their_fields
set_option Elab.async false
set_option linter.all false
set_option maxRecDepth 100000
set_option maxHeartbeats 4000000
namespace Lf
open PySem L2
def top (i : Nat) : Stmt := PySem.Challenge.pw_leastfile_k01_errors_and_their_fields.main.body.getD i (.Pass ⟨0, 0, 0, 0⟩)
abbrev sStart : Stmt := top 29
abbrev sPull : Stmt := top 30
/-- built-in names are not hidden -/
structure Txt (mg : Str → Option Value) : Prop where
  b_len : mg "len" = none
  b_int : mg "int" = none
  b_list : mg "list" = none
  b_range : mg "range" = none
  b_isinstance : mg "isinstance" = none
  b_bool : mg "bool" = none
  b_str : mg "str" = none
  b_dict : mg "dict" = none
  b_tuple : mg "tuple" = none
/-- a def of the text stands where its name says -/
structure At (K : PySem.W.Frag) (mg : Str → Option Value) (x : Str) (st : Stmt) (ps : List Str) (f : Addr) (fd : FuncData) : Prop where
  F : Fun K x x st f fd
  g : mg x = some (.ref f)
  k : PySem.W.keepIn K (.ref f) = true
  b : Binds K fd ps []
/-- a def keeps its promise -/
def Has (P : Program) (w : World) (K : PySem.W.Frag) (mg : Str → Option Value) (base : Heap) (k : Nat) (x : Str) (ps : List Str) (sp : Sp) : Prop :=
  ∃ (f : Addr) (fd : FuncData), FnOk P w K mg base CX0 k f fd ps sp ∧ mg x = some (.ref f) ∧ PySem.W.keepIn K (.ref f) = true ∧ Binds K fd ps []
/-! ### the state of the draws -/
def StA (H : Hp) (a L : Addr) (xs : List Int) : Prop := ∃ (i c m : Int), H a = some (.lst [.ref L, .int i, .int c, .int m]) ∧ H L = some (.lst (xs.map V.int)) ∧ xs.length ≤ 63 ∧ 0 ≤ i ∧ 0 ≤ c
/-- all but a stands -/
def Fr1 (a : Addr) (H H' : Hp) : Prop := ∀ b o, H b = some o → b ≠ a → H' b = some o
theorem Fr1.rfl' {a : Addr} {H : Hp} : Fr1 a H H := fun _ _ e _ => e
theorem Fr1.trans {a : Addr} {H H1 H2 : Hp} (x : Fr1 a H H1) (y : Fr1 a H1 H2) : Fr1 a H H2 := fun b o e n => y b o (x b o e n) n
theorem Fr1.upd {a : Addr} {H H1 : Hp} {o : HO} (x : Fr1 a H H1) : Fr1 a H (upd H1 a o) := fun b u e n => by rw [upd_ne n]; exact x b u e n
theorem st_ne {H : Hp} {a L : Addr} {xs : List Int} {i c m : Int} (ha : H a = some (.lst [.ref L, .int i, .int c, .int m])) (hL : H L = some (.lst (xs.map V.int))) : L ≠ a := by
  rintro rfl
  rw [hL] at ha
  have e := HO.lst.inj (Option.some.inj ha)
  cases xs with
  | nil => cases e
  | cons y ys => injection e with e1 _; cases e1
theorem StA.ne {H : Hp} {a L : Addr} {xs : List Int} (h : StA H a L xs) : L ≠ a := by
  obtain ⟨i, c, m, ha, hL, _⟩ := h
  exact st_ne ha hL
/-- another object is laid or changed -/
theorem StA.upd {H : Hp} {a L p : Addr} {xs : List Int} {o : HO} (h : StA H a L xs) (h1 : p ≠ a) (h2 : p ≠ L) : StA (upd H p o) a L xs := by
  obtain ⟨i, c, m, ha, hL, hx, hi, hc⟩ := h
  exact ⟨i, c, m, by rw [upd_ne h1.symm]; exact ha, by rw [upd_ne h2.symm]; exact hL, hx, hi, hc⟩
theorem StA.ne_new {H : Hp} {a L p : Addr} {xs : List Int} (h : StA H a L xs) (hp : H p = none) : p ≠ a ∧ p ≠ L := by
  obtain ⟨i, c, m, ha, hL, _⟩ := h
  exact ⟨(ne_of_none ha hp).symm, (ne_of_none hL hp).symm⟩
/-- all else stands: the state, too -/
theorem StA.same {H H' : Hp} {a L : Addr} {xs : List Int} (h : StA H a L xs) (e : Same H H') : StA H' a L xs := by
  obtain ⟨i, c, m, ha, hL, hx, hi, hc⟩ := h
  exact ⟨i, c, m, e _ _ ha, e _ _ hL, hx, hi, hc⟩
theorem Fr1.new {a p : Addr} {H H1 : Hp} {o : HO} (x : Fr1 a H H1) (hp : H1 p = none) : Fr1 a H (L2.upd H1 p o) := fun b u e n => by
  have e1 := x b u e n
  rw [upd_ne (ne_of_none e1 hp)]
  exact e1
theorem st_upd {H H1 : Hp} {a L : Addr} {xs : List Int} {i c m i' c' m' : Int} (ha : H a = some (.lst [.ref L, .int i, .int c, .int m])) (hL : H L = some (.lst (xs.map V.int))) (hx : xs.length ≤ 63) (hi : 0 ≤ i') (hc : 0 ≤ c')
    (e : H1 L = H L) : StA (upd H1 a (.lst [.ref L, .int i', .int c', .int m'])) a L xs := ⟨i', c', m', upd_same, by rw [upd_ne (st_ne ha hL), e]; exact hL, hx, hi, hc⟩
def spStart (K : PySem.W.Frag) : Sp := fun vs H Q _ => ∃ (a : Addr) (ns : List Int), vs = [.ref a] ∧ SqL K H a (ns.map V.int) ∧ ns.length ≤ 63 ∧ ∀ p L H', H p = none → H L = none → Same H H' → StA H' p L ns → Q (.ref p) H'
def spPull : Sp := fun vs H Q _ => ∃ (a L : Addr) (xs : List Int) (n : Int), vs = [.ref a, .int n] ∧ 0 < n ∧ n < 1073741824 ∧ StA H a L xs ∧ ∀ k H', 0 ≤ k → k < n → StA H' a L xs → Fr1 a H H' → Q (.int k) H'
section
variable {P : Program} {w : World} {K : PySem.W.Frag} {mg : Str → Option Value} {base : Heap}
theorem scStart : FnScope ["_law_script"] ["_law_script"] (defScope sStart) := ⟨rfl, rfl, rfl, by decide +kernel, rfl, by decide +kernel, by decide +kernel⟩
theorem ok_start {f : Addr} {fd : FuncData} (D : At K mg "_law_start" sStart ["_law_script"] f fd) (T : Txt mg) : Has P w K mg base 1 "_law_start" ["_law_script"] (spStart K) := by
  refine ⟨f, fd, D.F.ok scStart (fun vs H Q E h => ?_) (fun cdv A outer s H vs Q E hr h => ?_), D.g, D.k, D.b⟩
  · obtain ⟨_, _, rfl, _⟩ := h
    rfl
  · obtain ⟨a, ns, rfl, hS, hn, kq⟩ := h
    have sc := scStart
    refine ⟨_, (pss_one (ps_ret (pe_lst (pa_cons (pe_callTy call_list_of (by rfl) T.b_list (by decide +kernel) (pa_cons (pv 0) pa_nil)) (pa_cons pe_int (pa_cons pe_int (pa_cons pe_int pa_nil))))))), ?_⟩
    refine ⟨_, rfl, _, _, rfl, .inl hS, fun l hl => ⟨by show 4 ≤ sizeLine; decide, fun p hp => ?_⟩⟩
    have hlp : l ≠ p := ne_of_none upd_same hp
    have hpn : H p = none := by rw [upd_ne (Ne.symm hlp)] at hp; exact hp
    refine kq p l _ hpn hl (fun b o e => ?_) ⟨0, 0, _, upd_same, by rw [upd_ne hlp, upd_same], hn, Int.le_refl _, Int.le_refl _⟩
    rw [upd_ne (ne_of_none e hpn), upd_ne (ne_of_none e hl)]
    exact e
theorem scPull : FnScope ["_law_state", "_law_many", "_law_cell", "_law_number"] ["_law_state", "_law_many"] (defScope sPull) := ⟨rfl, rfl, rfl, by decide +kernel, rfl, by decide +kernel, by decide +kernel⟩
theorem ok_pull {f : Addr} {fd : FuncData} (D : At K mg "_law_pull" sPull ["_law_state", "_law_many"] f fd) (T : Txt mg) : Has P w K mg base 1 "_law_pull" ["_law_state", "_law_many"] spPull := by
  refine ⟨f, fd, D.F.ok scPull (fun vs H Q E h => ?_) (fun cdv A outer s H vs Q E hr h => ?_), D.g, D.k, D.b⟩
  · obtain ⟨_, _, _, _, rfl, _⟩ := h
    rfl
  · obtain ⟨a, L, xs, n, rfl, h0, hn, hst, kq⟩ := h
    have sc := scPull
    refine ⟨_, (C8.pss_cut (ps_if (PW.pt (pw_and (pt_cmpR op_eq (pe_ix ix_list (pv 0) pe_int (fun _ _ => rfl)) pe_int (nomark _)) (pw_and1 (pt_cmpR op_lt (pe_ix ix_list (pv 0) pe_int (fun _ _ => rfl)) (pe_callB call_len_seq (by rfl) T.b_len PySem.boot_len (pa_cons (pe_ix ix_list (pv 0) pe_int (fun _ _ => rfl)) pa_nil)) (nomark _)))))
        (pss_cons (ps_set (i := 2) sc.nd rfl (Or.inl rfl) (pe_ix ix_list (pe_ix ix_list (pv 0) pe_int (fun _ _ => rfl)) (pe_ix ix_list (pv 0) pe_int (fun _ _ => rfl)) (fun _ _ => rfl)))
        (pss_cons (ps_asg (pe_op op_add (pe_ix ix_list (pv 0) pe_int (fun _ _ => rfl)) pe_int) (pg_sub (pv 0) pe_int set_list))
        (pss_one (ps_if (pt_cmpR op_ge (pv 2) (pe_op op_pow pe_int pe_int) (nomark _))
          (pss_one (ps_asg (pv 2) (pg_sub (pv 0) pe_int set_list)))
          (pss_one (ps_asg (pe_op op_mod (pe_callTy call_int1 (by rfl) T.b_int (by decide +kernel) (pa_cons (pe_op op_add (pe_op op_add (pe_op op_mul (pe_ix ix_list (pv 0) pe_int (fun _ _ => rfl)) pe_int) (pe_op op_mod (pe_callTy call_int1 (by rfl) T.b_int (by decide +kernel) (pa_cons (pv 2) pa_nil)) pe_int)) pe_int) pa_nil)) pe_int) (pg_sub (pv 0) pe_int set_list)))))))
        pss_nil)
      (pss_cons (ps_if (pt_cmpR op_gt (pe_ix ix_list (pv 0) pe_int (fun _ _ => rfl)) pe_int (nomark _))
        (pss_cons (ps_set (i := 3) sc.nd rfl (Or.inl rfl) (pe_op op_mod (pe_callTy call_int1 (by rfl) T.b_int (by decide +kernel) (pa_cons (pe_ix ix_list (pv 0) pe_int (fun _ _ => rfl)) pa_nil)) (pv 1)))
        (pss_cons (ps_asg (pe_op op_fdiv (pe_ix ix_list (pv 0) pe_int (fun _ _ => rfl)) (pv 1)) (pg_sub (pv 0) pe_int set_list))
        (pss_one (ps_ret (pv 3)))))
        pss_nil)
      (pss_cons (ps_asg (pe_op op_mod (pe_callTy call_int1 (by rfl) T.b_int (by decide +kernel) (pa_cons (pe_op op_add (pe_op op_mul (pe_ix ix_list (pv 0) pe_int (fun _ _ => rfl)) pe_int) pe_int) pa_nil)) pe_int) (pg_sub (pv 0) pe_int set_list))
      (pss_cons (ps_set (i := 3) sc.nd rfl (Or.inl rfl) (pe_op op_mod (pe_callTy call_int1 (by rfl) T.b_int (by decide +kernel) (pa_cons (pe_op op_add (pe_op op_mul (pe_ix ix_list (pv 0) pe_int (fun _ _ => rfl)) pe_int) (pe_op op_fdiv (pe_ix ix_list (pv 0) pe_int (fun _ _ => rfl)) pe_int)) pa_nil)) pe_int))
      (pss_one (ps_ret (pe_op op_mod (pe_callTy call_int1 (by rfl) T.b_int (by decide +kernel) (pa_cons (pe_op op_fdiv (pv 3) pe_int) pa_nil)) (pv 1)))))))), ?_⟩
    refine ⟨fun σ' H' => ∃ v2, σ' = [some (.ref a), some (.int n), v2, none] ∧ StA H' a L xs ∧ Fr1 a H H', ?_, ?_⟩
    · obtain ⟨i, c, m, ha, hL, hx, hi, hc⟩ := id hst
      have nLa := st_ne ha hL
      refine ⟨_, rfl, _, _, _, _, rfl, rfl, SqL.of ha, rfl, rfl, _, rfl, ?_⟩
      refine ite2 (fun hz => ?_) (fun hz => iteF ⟨_, rfl, hst, Fr1.rfl'⟩)
      refine ⟨_, rfl, _, _, _, _, rfl, rfl, SqL.of ha, rfl, _, rfl, _, _, _, _, rfl, rfl, SqL.of ha, rfl, _, _, rfl, .inl (SqL.of hL), _, _, rfl, rfl, _, rfl, ?_⟩
      refine ite2 (fun hlt => ?_) (fun hlt => ⟨_, rfl, hst, Fr1.rfl'⟩)
      have hlt' : i < (xs.length : Int) := by simpa using hlt
      obtain ⟨x, hxi⟩ : ∃ x, xs[i.toNat]? = some x := by
        have : i.toNat < xs.length := by omega
        exact ⟨_, List.getElem?_eq_getElem this⟩
      have hat : atI (xs.map V.int) i = some (.int x) := by
        have e := atI_nat (xs := xs.map V.int) (j := i.toNat) (v := .int x) (by rw [List.getElem?_map, hxi]; rfl)
        rw [Int.toNat_of_nonneg hi] at e
        exact e
      refine ⟨_, rfl, _, _, _, _, rfl, rfl, SqL.of ha, rfl, _, rfl, _, _, _, _, rfl, rfl, SqL.of ha, rfl, _, _, _, _, rfl, rfl, SqL.of hL, hat, ?_⟩
      refine ⟨_, rfl, _, _, _, _, rfl, rfl, SqL.of ha, rfl, _, _, rfl, rfl, _, rfl, _, _, _, _, rfl, rfl, ha, rfl, ?_⟩
      refine ⟨_, rfl, _, _, rfl, rfl, ⟨by decide, by decide, by decide⟩, _, _, rfl, rfl, _, rfl, ?_⟩
      refine ite2 (fun hge => ?_) (fun _ => ?_)
      · have hge' : 1000000000000000000 ≤ x := by simpa using hge
        refine ⟨_, rfl, _, rfl, _, _, _, _, rfl, rfl, upd_same, rfl, ?_⟩
        refine ⟨_, rfl, ?_, ?_⟩
        · exact st_upd (i' := i + 1) (c' := x) (m' := m) ha hL hx (by omega) (by omega) (by rw [upd_ne nLa])
        · exact (Fr1.rfl'.upd).upd
      · refine ⟨_, rfl, _, _, _, _, rfl, rfl, SqL.of upd_same, rfl, _, _, rfl, rfl, .inr ⟨by decide, by decide⟩, _, rfl, .inl ⟨_, rfl, _, _, rfl, rfl, by show (0 : Int) < 2147483629; decide, _, _, rfl, rfl, _, _, rfl, rfl, .inl ⟨_, rfl, _, _, rfl, rfl, by show (0 : Int) < 2147483647; decide, _, rfl, _, _, _, _, rfl, rfl, upd_same, rfl, ?_⟩⟩⟩
        refine ⟨_, rfl, ?_, ?_⟩
        · exact st_upd (i' := i + 1) (c' := c) ha hL hx (by omega) hc (by rw [upd_ne nLa])
        · exact (Fr1.rfl'.upd).upd
    · rintro σ' H1 ⟨v2, rfl, hst1, fr1⟩
      obtain ⟨i, c, m, ha, hL, hx, hi, hc⟩ := id hst1
      have nLa := st_ne ha hL
      refine ⟨_, rfl, _, _, _, _, rfl, rfl, SqL.of ha, rfl, _, _, rfl, rfl, _, rfl, ?_⟩
      refine ite2 (fun hz => ?_) (fun hz => ?_)
      · have hc0 : 0 < c := by simpa using hz
        refine ⟨_, rfl, _, _, _, _, rfl, rfl, SqL.of ha, rfl, .inl ⟨_, rfl, _, rfl, _, _, rfl, rfl, h0, ?_⟩⟩
        refine ⟨_, rfl, _, _, _, _, rfl, rfl, SqL.of ha, rfl, _, rfl, _, _, rfl, rfl, ⟨h0, hn⟩, _, rfl, _, _, _, _, rfl, rfl, ha, rfl, _, rfl, ?_⟩
        refine kq _ _ (Int.emod_nonneg _ (by omega)) (Int.emod_lt_of_pos _ h0) ?_ (fr1.upd)
        exact st_upd (i' := i) (c' := c / n) (m' := m) ha hL hx hi (Int.ediv_nonneg hc (by omega)) rfl
      · refine ⟨_, rfl, _, _, _, _, rfl, rfl, SqL.of ha, rfl, _, _, rfl, rfl, .inr ⟨by decide, by decide⟩, _, _, rfl, rfl, .inl ⟨_, rfl, _, _, rfl, rfl, by show (0 : Int) < 2147483647; decide, _, rfl, _, _, _, _, rfl, rfl, ha, rfl, ?_⟩⟩
        refine ⟨_, rfl, _, _, _, _, rfl, rfl, SqL.of upd_same, rfl, _, _, rfl, rfl, .inr ⟨by decide, by decide⟩, _, rfl, _, _, _, _, rfl, rfl, SqL.of upd_same, rfl, _, _, rfl, rfl, ⟨by decide, by decide⟩, _, _, rfl, rfl, .inl ⟨_, rfl, _, _, rfl, rfl, by show (0 : Int) < 2147483399; decide, ?_⟩⟩
        refine ⟨_, rfl, _, _, rfl, rfl, ⟨by decide, by decide⟩, .inl ⟨_, rfl, _, rfl, _, _, rfl, rfl, h0, ?_⟩⟩
        refine kq _ _ (Int.emod_nonneg _ (by omega)) (Int.emod_lt_of_pos _ h0) ?_ (fr1.upd)
        exact st_upd (i' := i) (c' := c) ha hL hx hi hc rfl
end
end Lf

namespace Lf
open PySem L2
abbrev sBig : Stmt := top 31
abbrev sField : Stmt := top 32
def spBig : Sp := fun vs H Q _ => ∃ (a L : Addr) (xs : List Int) (n : Int), vs = [.ref a, .int n] ∧ 0 < n ∧ StA H a L xs ∧ ∀ k H', 0 ≤ k → k < n → StA H' a L xs → Fr1 a H H' → Q (.int k) H'
/-- a field's value -/
def FldV (H : Hp) (v : V) : Prop := v = .non ∨ (∃ i, v = .int i) ∨ (∃ s, v = .str s) ∨ ∃ p x y, v = .ref p ∧ H p = some (.tup [.int x, .int y])
def spField : Sp := fun vs H Q _ => ∃ (a L : Addr) (xs : List Int), vs = [.ref a] ∧ StA H a L xs ∧ ∀ v H', FldV H' v → StA H' a L xs → Fr1 a H H' → Q v H'
theorem sum_ones : ∀ {ys : List Str}, (∀ y ∈ ys, y.length = 1) → (ys.map (·.length)).sum = ys.length
  | [], _ => rfl
  | y :: ys, h => by
    rw [List.map_cons, List.sum_cons, h y List.mem_cons_self, sum_ones fun z hz => h z (List.mem_cons_of_mem _ hz), List.length_cons]
    omega
section
variable {P : Program} {w : World} {K : PySem.W.Frag} {mg : Str → Option Value} {base : Heap}
theorem scBig : FnScope ["_law_state", "_law_many", "_law_number", "_law_k"] ["_law_state", "_law_many"] (defScope sBig) := ⟨rfl, rfl, rfl, by decide +kernel, rfl, by decide +kernel, by decide +kernel⟩
theorem ok_big {f : Addr} {fd : FuncData} (D : At K mg "_law_big" sBig ["_law_state", "_law_many"] f fd) (T : Txt mg) (h1 : Has P w K mg base 1 "_law_pull" ["_law_state", "_law_many"] spPull) : Has P w K mg base 2 "_law_big" ["_law_state", "_law_many"] spBig := by
  obtain ⟨f_pull, fd_pull, F__law_pull, g__law_pull, k__law_pull, b__law_pull⟩ := h1
  refine ⟨f, fd, D.F.ok scBig (fun vs H Q E h => ?_) (fun cdv A outer s H vs Q E hr h => ?_), D.g, D.k, D.b⟩
  · obtain ⟨_, _, _, _, rfl, _⟩ := h
    rfl
  · obtain ⟨a, L, xs, n, rfl, h0, hst, kq⟩ := h
    have sc := scBig
    refine ⟨_, (pss_cons (ps_set (i := 2) sc.nd rfl (Or.inl rfl) pe_int)
      (pss_cons (ps_for PassesOwn.never rfl (pi_range1 (by rfl) T.b_range (pa_cons pe_int pa_nil)) (pg_name (i := 3) sc.nd rfl (Or.inl rfl))
        (pss_one (ps_set (i := 2) sc.nd rfl (Or.inl rfl) (pe_op op_add (pe_op op_mul (pv 2) pe_int) (pe_call F__law_pull (hr.mono (by decide)) (by rfl) g__law_pull k__law_pull b__law_pull .nil pass0 (pa_cons (pv 0) (pa_cons pe_int pa_nil)))))))
      (pss_one (ps_ret (pe_op op_mod (pe_callTy call_int1 (by rfl) T.b_int (by decide +kernel) (pa_cons (pv 2) pa_nil)) (pv 1)))))), ?_⟩
    refine ⟨8, rfl, by decide, by decide, for_range (lo := 0) (n := 8) (fun i σ H' => ∃ z k, σ = [some (.ref a), some (.int n), some (.int z), k] ∧ StA H' a L xs ∧ Fr1 a H H') ⟨0, none, rfl, hst, Fr1.rfl'⟩ ?_ ?_⟩
    · rintro i σ H1 hi ⟨z, k, rfl, hst1, fr1⟩
      refine ⟨_, rfl, _, _, rfl, rfl, .inr ⟨by decide, by decide⟩, _, rfl, a, L, xs, _, rfl, by decide, by decide, hst1, fun k2 H2 _ _ hst2 fr2 => ⟨_, _, rfl, rfl, ?_⟩⟩
      exact ⟨_, _, rfl, hst2, fr1.trans fr2⟩
    · rintro σ H1 ⟨z, k, rfl, hst1, fr1⟩
      exact ⟨_, rfl, .inl ⟨_, rfl, _, rfl, _, _, rfl, rfl, h0, kq _ _ (Int.emod_nonneg _ (by omega)) (Int.emod_lt_of_pos _ h0) hst1 fr1⟩⟩
theorem scField : FnScope ["_law_state", "_law_turn", "_law_alphabet", "_law_k"] ["_law_state"] (defScope sField) := ⟨rfl, rfl, rfl, by decide +kernel, rfl, by decide +kernel, by decide +kernel⟩
theorem ok_field {f : Addr} {fd : FuncData} (D : At K mg "_law_field" sField ["_law_state"] f fd) (T : Txt mg) (h1 : Has P w K mg base 1 "_law_pull" ["_law_state", "_law_many"] spPull) (h2 : Has P w K mg base 2 "_law_big" ["_law_state", "_law_many"] spBig) : Has P w K mg base 3 "_law_field" ["_law_state"] spField := by
  obtain ⟨f_pull, fd_pull, F__law_pull, g__law_pull, k__law_pull, b__law_pull⟩ := h1
  obtain ⟨f_big, fd_big, F__law_big, g__law_big, k__law_big, b__law_big⟩ := h2
  refine ⟨f, fd, D.F.ok scField (fun vs H Q E h => ?_) (fun cdv A outer s H vs Q E hr h => ?_), D.g, D.k, D.b⟩
  · obtain ⟨_, _, _, rfl, _⟩ := h
    rfl
  · obtain ⟨a, L, xs, rfl, hst, kq⟩ := h
    have sc := scField
    refine ⟨_, (pss_cons (ps_set (i := 1) sc.nd rfl (Or.inl rfl) (pe_call F__law_pull (hr.mono (by decide)) (by rfl) g__law_pull k__law_pull b__law_pull .nil pass0 (pa_cons (pv 0) (pa_cons pe_int pa_nil))))
      (pss_cons (ps_if (pt_cmpR op_eq (pv 1) pe_int (nomark _))
        (pss_one (ps_ret (pe_op op_add (pe_op op_sub (pe_call F__law_big (hr.mono (by decide)) (by rfl) g__law_big k__law_big b__law_big .nil pass0 (pa_cons (pv 0) (pa_cons (pe_op op_sub (pe_op op_mul pe_int (pe_op op_pow pe_int pe_int)) pe_int) pa_nil))) (pe_op op_pow pe_int pe_int)) pe_int)))
        pss_nil)
      (pss_cons (ps_if (pt_cmpR op_eq (pv 1) pe_int (nomark _))
        (pss_cons (ps_set (i := 2) sc.nd rfl (Or.inr rfl) pe_str)
        (pss_one (ps_ret (pe_bm PySem.F.plainAttrs_str PySem.F.slot_str_join PySem.F.type_str_join mt_join pe_str (pa_cons (pe_lc (own := [("_law_k", 3)]) (g := gName 3) (tt := tYes) rfl sc.nd (pi_range1 (by rfl) T.b_range (pa_cons (pe_op op_add pe_int (pe_call F__law_pull (hr.mono (by decide)) (by rfl) g__law_pull k__law_pull b__law_pull .nil pass0 (pa_cons (pv 0) (pa_cons pe_int pa_nil)))) pa_nil)) (blkOk_by (N := ["_law_state", "_law_turn", "_law_alphabet", "_law_k"]) (sc := defScope sField) (by decide +kernel)) (fun _ _ _ _ _ => pg_name (i := 3) sc.nd rfl (Or.inl rfl)) (fun _ _ _ _ _ => pts_nil) (fun _ _ _ _ _ => (pe_ix ix_str (pv 2) (pe_call F__law_pull (hr.mono (by decide)) (by rfl) g__law_pull k__law_pull b__law_pull .nil pass0 (pa_cons (pv 0) (pa_cons pe_int pa_nil))) (fun _ _ => rfl)))) pa_nil)))))
        pss_nil)
      (pss_cons (ps_if (pt_cmpR op_eq (pv 1) pe_int (nomark _))
        (pss_one (ps_ret pe_non))
        pss_nil)
      (pss_one (ps_ret (pe_tup (pa_cons (pe_call F__law_pull (hr.mono (by decide)) (by rfl) g__law_pull k__law_pull b__law_pull .nil pass0 (pa_cons (pv 0) (pa_cons pe_int pa_nil))) (pa_cons (pe_op op_sub (pe_call F__law_pull (hr.mono (by decide)) (by rfl) g__law_pull k__law_pull b__law_pull .nil pass0 (pa_cons (pv 0) (pa_cons pe_int pa_nil))) pe_int) pa_nil))))))))), ?_⟩
    refine ⟨_, rfl, a, L, xs, _, rfl, by decide, by decide, hst, fun t H1 t0 t4 hst1 fr1 => ?_⟩
    refine ⟨_, rfl, rfl, _, rfl, ?_⟩
    refine ite2 (fun _ => ?_) (fun _ => ?_)
    · refine ⟨_, rfl, _, _, rfl, rfl, ⟨by decide, by decide, by decide⟩, _, _, rfl, rfl, .inl ⟨by decide, by decide⟩, _, _, rfl, rfl, a, L, xs, _, rfl, by decide +kernel, hst1, fun k H2 _ _ hst2 fr2 => ?_⟩
      refine ⟨_, _, rfl, rfl, ⟨by decide, by decide, by decide⟩, _, _, rfl, rfl, _, _, rfl, rfl, ?_⟩
      exact kq _ _ (.inr (.inl ⟨_, rfl⟩)) hst2 (fr1.trans fr2)
    refine ⟨_, rfl, rfl, _, rfl, ?_⟩
    refine ite2 (fun _ => ?_) (fun _ => ?_)
    · refine ⟨rfl, _, rfl, a, L, xs, _, rfl, by decide, by decide, hst1, fun k8 H2 k80 k81 hst2 fr2 => ⟨_, _, rfl, rfl, _, rfl, by omega, by omega, fun p hp => ?_⟩⟩
      have np := hst2.ne_new hp
      refine lc_range (lo := 0) (n := (1 + k8).toNat) (fun i H' => ∃ ys : List Str, H' p = some (.lst (ys.map V.str)) ∧ ys.length = i ∧ (∀ y ∈ ys, y.length = 1) ∧ StA H' a L xs ∧ Fr1 a H H') ?_ ?_ ?_
      · exact ⟨[], upd_same, rfl, (fun _ z => nomatch z), hst2.upd np.1 np.2, (fr1.trans fr2).new hp⟩
      · rintro i H3 hi ⟨ys, hD, hl, h1s, hst3, fr3⟩
        refine ⟨rfl, ?_⟩
        refine ⟨_, rfl, _, rfl, a, L, xs, _, rfl, by decide, by decide, hst3, fun kc H4 kc0 kc1 hst4 fr4 => ?_⟩
        obtain ⟨c, hcc⟩ : ∃ c, ("abcdefghijklmnopqrstuvwxyz" : Str).cps.toList[kc.toNat]? = some c := by
          have hlt : kc.toNat < ("abcdefghijklmnopqrstuvwxyz" : Str).cps.toList.length := by
            have : ("abcdefghijklmnopqrstuvwxyz" : Str).cps.toList.length = 26 := by decide +kernel
            omega
          exact ⟨_, List.getElem?_eq_getElem hlt⟩
        have hat := atI_nat hcc
        rw [Int.toNat_of_nonneg kc0] at hat
        refine ⟨_, _, c, rfl, rfl, by decide +kernel, hat, _, fr4 p _ hD np.1, by rw [List.length_map, sizeLine_eq]; omega, ys ++ [⟨#[c]⟩], ?_, by rw [List.length_append, hl]; rfl, fun y hy => ?_, hst4.upd np.1 np.2, fun b o e ne => ?_⟩
        · rw [upd_same, List.map_append]
          rfl
        · rcases List.mem_append.mp hy with z | z
          · exact h1s y z
          · rw [List.mem_singleton.mp z]
            rfl
        · have e5 := (fr3.trans fr4) b o e ne
          have e6 := (fr1.trans fr2) b o e ne
          rw [upd_ne (ne_of_none e6 hp)]
          exact e5
      · rintro H3 ⟨ys, hD, hl, h1s, hst3, fr3⟩
        refine ⟨_, _, ys, rfl, rfl, .inl (SqL.of hD), ?_, kq _ _ (.inr (.inr (.inl ⟨_, rfl⟩))) hst3 fr3⟩
        rw [sum_ones h1s, hl]
        have e0 : ("" : Str).length = 0 := by decide +kernel
        rw [e0]
        omega
    refine ⟨_, rfl, rfl, _, rfl, ?_⟩
    refine ite2 (fun _ => ?_) (fun _ => ?_)
    · exact kq _ _ (.inl rfl) hst1 fr1
    · refine ⟨_, rfl, a, L, xs, _, rfl, by decide, by decide, hst1, fun x H2 _ _ hst2 fr2 => ?_⟩
      refine ⟨_, rfl, a, L, xs, _, rfl, by decide, by decide, hst2, fun y H3 _ _ hst3 fr3 => ⟨_, _, rfl, rfl, ?_⟩⟩
      refine ⟨by show 2 ≤ sizeLine; decide, fun p hp => ?_⟩
      have np := hst3.ne_new hp
      exact kq _ _ (.inr (.inr (.inr ⟨p, _, _, rfl, upd_same⟩))) (hst3.upd np.1 np.2) (((fr1.trans fr2).trans fr3).new hp)
end
end Lf

namespace Lf
open PySem L2
abbrev sIsInt : Stmt := top 26
abbrev sSame : Stmt := top 28
/-- two values that show the same data, to a depth -/
def SameV (H : Hp) : Nat → V → V → Prop
  | 0, _, _ => False
  | n + 1, x, y => (x = .non ∧ y = .non) ∨ (∃ b, x = .bl b ∧ y = .bl b) ∨ (∃ i, x = .int i ∧ y = .int i) ∨ (∃ z, x = .str z ∧ y = .str z) ∨
      ∃ (p q : Addr) (xs ys : List V), x = .ref p ∧ y = .ref q ∧ ((H p = some (.lst xs) ∧ H q = some (.lst ys)) ∨ (H p = some (.tup xs) ∧ H q = some (.tup ys))) ∧ xs.length = ys.length ∧ ys.length < 1000 ∧
        ∀ (i : Nat) (x y : V), xs[i]? = some x → ys[i]? = some y → SameV H n x y
def spIsInt : Sp := fun vs H Q _ => ∃ i, vs = [.int i] ∧ Q (.bl true) H
def spSame (n : Nat) : Sp := fun vs H Q _ => ∃ x y, vs = [x, y] ∧ SameV H n x y ∧ Q (.bl true) H
section
variable {P : Program} {w : World} {K : PySem.W.Frag} {mg : Str → Option Value} {base : Heap}
theorem scIsInt : FnScope ["_law_told"] ["_law_told"] (defScope sIsInt) := ⟨rfl, rfl, rfl, by decide +kernel, rfl, by decide +kernel, by decide +kernel⟩
theorem ok_isint {f : Addr} {fd : FuncData} (D : At K mg "_law_is_int" sIsInt ["_law_told"] f fd) (T : Txt mg) : Has P w K mg base 1 "_law_is_int" ["_law_told"] spIsInt := by
  refine ⟨f, fd, D.F.ok scIsInt (fun vs H Q E h => ?_) (fun cdv A outer s H vs Q E hr h => ?_), D.g, D.k, D.b⟩
  · obtain ⟨_, rfl, _⟩ := h
    rfl
  · obtain ⟨i, rfl, kq⟩ := h
    have sc := scIsInt
    refine ⟨_, (pss_one (ps_ret (pe_and (pe_callB call_isi (by rfl) T.b_isinstance (by decide +kernel) (pa_cons (pv 0) (pa_cons (pe_bltn (v := .ty "int") (u := .type "int") (by rfl) T.b_int (by decide +kernel) rfl) pa_nil))) (pe_one (pe_not (pe_callB call_isi (by rfl) T.b_isinstance (by decide +kernel) (pa_cons (pv 0) (pa_cons (pe_bltn (v := .ty "bool") (u := .type "bool") (by rfl) T.b_bool (by decide +kernel) rfl) pa_nil)))))))), ?_⟩
    refine ⟨_, rfl, _, _, _, _, true, rfl, .ty _, .base (.int i), kit_ty (by decide +kernel), _, rfl, ?_⟩
    exact ⟨_, rfl, _, _, _, _, false, rfl, .ty _, .base (.int i), kit_ty (by decide +kernel), _, rfl, kq⟩
theorem scSame : FnScope ["_law_told", "_law_due", "_law_k"] ["_law_told", "_law_due"] (defScope sSame) := ⟨rfl, rfl, rfl, by decide +kernel, rfl, by decide +kernel, by decide +kernel⟩
theorem ok_same {f : Addr} {fd : FuncData} (D : At K mg "_law_same" sSame ["_law_told", "_law_due"] f fd) (T : Txt mg) (h1 : Has P w K mg base 1 "_law_is_int" ["_law_told"] spIsInt) (n : Nat) : Has P w K mg base (n + 2) "_law_same" ["_law_told", "_law_due"] (spSame n) := by
  obtain ⟨f_i, fd_i, F__law_is_int, g__law_is_int, k__law_is_int, b__law_is_int⟩ := h1
  refine ⟨f, fd, ?_, D.g, D.k, D.b⟩
  have g__law_same := D.g
  have k__law_same := D.k
  have b__law_same := D.b
  induction n with
  | zero => exact D.F.ok scSame (fun vs H Q E h => by obtain ⟨_, _, rfl, _⟩ := h; rfl) (fun cdv A outer s H vs Q E hr h => by obtain ⟨_, _, _, z, _⟩ := h; exact z.elim)
  | succ n F__law_same =>
  refine D.F.ok scSame (fun vs H Q E h => ?_) (fun cdv A outer s H vs Q E hr h => ?_)
  · obtain ⟨_, _, rfl, _⟩ := h
    rfl
  · obtain ⟨x, y, rfl, hs, kq⟩ := h
    have sc := scSame
    refine ⟨_, (pss_cons (ps_if (pt_cmpR op_isN (pv 1) pe_non (nomark _))
        (pss_one (ps_ret (pe_cmpR op_isN (pv 0) pe_non (nomark _))))
        pss_nil)
      (pss_cons (ps_if (pt_val (pe_callB call_isi (by rfl) T.b_isinstance (by decide +kernel) (pa_cons (pv 1) (pa_cons (pe_bltn (v := .ty "bool") (u := .type "bool") (by rfl) T.b_bool (by decide +kernel) rfl) pa_nil))))
        (pss_one (ps_ret (pe_and (pe_callB call_isi (by rfl) T.b_isinstance (by decide +kernel) (pa_cons (pv 0) (pa_cons (pe_bltn (v := .ty "bool") (u := .type "bool") (by rfl) T.b_bool (by decide +kernel) rfl) pa_nil))) (pe_one (pe_cmpR op_eq (pv 0) (pv 1) (nomark _))))))
        pss_nil)
      (pss_cons (ps_if (pt_val (pe_callB call_isi (by rfl) T.b_isinstance (by decide +kernel) (pa_cons (pv 1) (pa_cons (pe_bltn (v := .ty "int") (u := .type "int") (by rfl) T.b_int (by decide +kernel) rfl) pa_nil))))
        (pss_one (ps_ret (pe_and (pe_call F__law_is_int (hr.mono (by omega)) (by rfl) g__law_is_int k__law_is_int b__law_is_int .nil pass0 (pa_cons (pv 0) pa_nil)) (pe_one (pe_cmpR op_eq (pv 0) (pv 1) (nomark _))))))
        pss_nil)
      (pss_cons (ps_if (pt_val (pe_callB call_isi (by rfl) T.b_isinstance (by decide +kernel) (pa_cons (pv 1) (pa_cons (pe_bltn (v := .ty "str") (u := .type "str") (by rfl) T.b_str (by decide +kernel) rfl) pa_nil))))
        (pss_one (ps_ret (pe_and (pe_callB call_isi (by rfl) T.b_isinstance (by decide +kernel) (pa_cons (pv 0) (pa_cons (pe_bltn (v := .ty "str") (u := .type "str") (by rfl) T.b_str (by decide +kernel) rfl) pa_nil))) (pe_one (pe_cmpR op_eq (pv 0) (pv 1) (nomark _))))))
        pss_nil)
      (pss_cons (ps_if (pt_val (pe_callB call_isi (by rfl) T.b_isinstance (by decide +kernel) (pa_cons (pv 1) (pa_cons (pe_bltn (v := .ty "dict") (u := .type "dict") (by rfl) T.b_dict (by decide +kernel) rfl) pa_nil))))
        (pss_one ps_never)
        pss_nil)
      (pss_cons (ps_if (PW.pt (pw_and (pt_val (pe_callB call_isi (by rfl) T.b_isinstance (by decide +kernel) (pa_cons (pv 1) (pa_cons (pe_bltn (v := .ty "list") (u := .type "list") (by rfl) T.b_list (by decide +kernel) rfl) pa_nil)))) (pw_and1 (pt_not (pt_val (pe_callB call_isi (by rfl) T.b_isinstance (by decide +kernel) (pa_cons (pv 0) (pa_cons (pe_bltn (v := .ty "list") (u := .type "list") (by rfl) T.b_list (by decide +kernel) rfl) pa_nil))))))))
        (pss_one (ps_ret pe_bl))
        pss_nil)
      (pss_cons (ps_if (PW.pt (pw_and (pt_val (pe_callB call_isi (by rfl) T.b_isinstance (by decide +kernel) (pa_cons (pv 1) (pa_cons (pe_bltn (v := .ty "tuple") (u := .type "tuple") (by rfl) T.b_tuple (by decide +kernel) rfl) pa_nil)))) (pw_and1 (pt_not (pt_val (pe_callB call_isi (by rfl) T.b_isinstance (by decide +kernel) (pa_cons (pv 0) (pa_cons (pe_bltn (v := .ty "tuple") (u := .type "tuple") (by rfl) T.b_tuple (by decide +kernel) rfl) pa_nil))))))))
        (pss_one (ps_ret pe_bl))
        pss_nil)
      (pss_cons (ps_if (pt_cmpR op_ne (pe_callB call_len_seq (by rfl) T.b_len PySem.boot_len (pa_cons (pv 0) pa_nil)) (pe_callB call_len_seq (by rfl) T.b_len PySem.boot_len (pa_cons (pv 1) pa_nil)) (nomark _))
        (pss_one (ps_ret pe_bl))
        pss_nil)
      (pss_cons (ps_for PassesOwn.never rfl (pi_range1 (by rfl) T.b_range (pa_cons (pe_callB call_len_seq (by rfl) T.b_len PySem.boot_len (pa_cons (pv 1) pa_nil)) pa_nil)) (pg_name (i := 2) sc.nd rfl (Or.inl rfl))
        (pss_one (ps_if (pt_not (pt_val (pe_call F__law_same hr (by rfl) g__law_same k__law_same b__law_same .nil pass0 (pa_cons (pe_ix ix_seq (pv 0) (pv 2) (fun _ _ => rfl)) (pa_cons (pe_ix ix_seq (pv 1) (pv 2) (fun _ _ => rfl)) pa_nil)))))
          (pss_one (ps_ret pe_bl))
          pss_nil)))
      (pss_one (ps_ret pe_bl))))))))))), ?_⟩
    rcases hs with ⟨rfl, rfl⟩ | ⟨b, rfl, rfl⟩ | ⟨i, rfl, rfl⟩ | ⟨z, rfl, rfl⟩ | ⟨p, q, xs, ys, rfl, rfl, hpq, hl, hlt, hall⟩
    · exact ⟨_, rfl, rfl, _, rfl, _, rfl, rfl, kq⟩
    · refine ⟨_, rfl, rfl, _, rfl, ?_⟩
      refine ⟨_, rfl, _, _, _, _, true, rfl, .ty _, .base (.bl b), kit_ty (by decide +kernel), _, rfl, ?_⟩
      refine ⟨_, rfl, _, _, _, _, true, rfl, .ty _, .base (.bl b), kit_ty (by decide +kernel), _, rfl, ?_⟩
      refine ⟨_, rfl, _, rfl, rfl, ?_⟩
      rw [decide_eq_true rfl]
      exact kq
    · refine ⟨_, rfl, rfl, _, rfl, ?_⟩
      refine ⟨_, rfl, _, _, _, _, false, rfl, .ty _, .base (.int i), kit_ty (by decide +kernel), _, rfl, ?_⟩
      refine ⟨_, rfl, _, _, _, _, true, rfl, .ty _, .base (.int i), kit_ty (by decide +kernel), _, rfl, ?_⟩
      refine ⟨_, rfl, _, rfl, _, rfl, ?_⟩
      refine ⟨_, rfl, _, rfl, rfl, ?_⟩
      rw [decide_eq_true rfl]
      exact kq
    · refine ⟨_, rfl, rfl, _, rfl, ?_⟩
      refine ⟨_, rfl, _, _, _, _, false, rfl, .ty _, .base (.str z), kit_ty (by decide +kernel), _, rfl, ?_⟩
      refine ⟨_, rfl, _, _, _, _, false, rfl, .ty _, .base (.str z), kit_ty (by decide +kernel), _, rfl, ?_⟩
      refine ⟨_, rfl, _, _, _, _, true, rfl, .ty _, .base (.str z), kit_ty (by decide +kernel), _, rfl, ?_⟩
      refine ⟨_, rfl, _, _, _, _, true, rfl, .ty _, .base (.str z), kit_ty (by decide +kernel), _, rfl, ?_⟩
      refine ⟨_, rfl, _, rfl, rfl, ?_⟩
      rw [decide_eq_true rfl]
      exact kq
    · rcases hpq with ⟨hp, hq⟩ | ⟨hp, hq⟩
      · have nq : ys.length = xs.length := hl.symm
        refine ⟨_, rfl, rfl, _, rfl, ?_⟩
        refine ⟨_, rfl, _, _, _, _, false, rfl, .ty _, .base (.lst hq), kit_ty (by decide +kernel), _, rfl, ?_⟩
        refine ⟨_, rfl, _, _, _, _, false, rfl, .ty _, .base (.lst hq), kit_ty (by decide +kernel), _, rfl, ?_⟩
        refine ⟨_, rfl, _, _, _, _, false, rfl, .ty _, .base (.lst hq), kit_ty (by decide +kernel), _, rfl, ?_⟩
        refine ⟨_, rfl, _, _, _, _, false, rfl, .ty _, .base (.lst hq), kit_ty (by decide +kernel), _, rfl, ?_⟩
        refine ⟨_, rfl, _, _, _, _, true, rfl, .ty _, .base (.lst hq), kit_ty (by decide +kernel), _, rfl, ?_⟩
        refine ⟨_, rfl, _, _, _, _, true, rfl, .ty _, .base (.lst hp), kit_ty (by decide +kernel), _, rfl, ?_⟩
        refine ⟨_, rfl, _, _, _, _, false, rfl, .ty _, .base (.lst hq), kit_ty (by decide +kernel), _, rfl, ?_⟩
        refine ⟨_, rfl, _, _, rfl, .inl (SqL.of hp), _, rfl, _, _, rfl, .inl (SqL.of hq), rfl, _, rfl, ?_⟩
        rw [show decide (V.int (xs.length : Int) = V.int (ys.length : Int)) = true from decide_eq_true (by rw [hl])]
        refine ⟨_, rfl, _, _, rfl, .inl (SqL.of hq), _, rfl, by omega, by omega, ?_⟩
        refine for_range (lo := 0) (n := ys.length) (fun i σ H' => H' = H ∧ ∃ k, σ = [some (.ref p), some (.ref q), k]) ⟨rfl, _, rfl⟩ ?_ ?_
        · rintro i σ H1 hi ⟨rfl, k, rfl⟩
          have hx : xs[i]? = some xs[i] := List.getElem?_eq_getElem (by omega)
          have hy : ys[i]? = some ys[i] := List.getElem?_eq_getElem hi
          have ex := atI_nat hx
          have ey := atI_nat hy
          have e0 : (0 : Int) + (i : Int) = (i : Int) := by omega
          refine ⟨_, rfl, _, rfl, .inl ⟨_, _, _, _, rfl, rfl, SqL.of hp, by rw [e0]; exact ex, _, rfl, _, rfl, .inl ⟨_, _, _, _, rfl, rfl, SqL.of hq, by rw [e0]; exact ey, _, _, rfl, hall i _ _ hx hy, _, rfl, ?_⟩⟩⟩
          exact ⟨rfl, _, rfl⟩
        · rintro σ H1 ⟨rfl, k, rfl⟩
          exact kq
      · have nq : ys.length = xs.length := hl.symm
        refine ⟨_, rfl, rfl, _, rfl, ?_⟩
        refine ⟨_, rfl, _, _, _, _, false, rfl, .ty _, .base (.tup hq), kit_ty (by decide +kernel), _, rfl, ?_⟩
        refine ⟨_, rfl, _, _, _, _, false, rfl, .ty _, .base (.tup hq), kit_ty (by decide +kernel), _, rfl, ?_⟩
        refine ⟨_, rfl, _, _, _, _, false, rfl, .ty _, .base (.tup hq), kit_ty (by decide +kernel), _, rfl, ?_⟩
        refine ⟨_, rfl, _, _, _, _, false, rfl, .ty _, .base (.tup hq), kit_ty (by decide +kernel), _, rfl, ?_⟩
        refine ⟨_, rfl, _, _, _, _, false, rfl, .ty _, .base (.tup hq), kit_ty (by decide +kernel), _, rfl, ?_⟩
        refine ⟨_, rfl, _, _, _, _, true, rfl, .ty _, .base (.tup hq), kit_ty (by decide +kernel), _, rfl, ?_⟩
        refine ⟨_, rfl, _, _, _, _, true, rfl, .ty _, .base (.tup hp), kit_ty (by decide +kernel), _, rfl, ?_⟩
        refine ⟨_, rfl, _, _, rfl, .inr (SqT.of hp), _, rfl, _, _, rfl, .inr (SqT.of hq), rfl, _, rfl, ?_⟩
        rw [show decide (V.int (xs.length : Int) = V.int (ys.length : Int)) = true from decide_eq_true (by rw [hl])]
        refine ⟨_, rfl, _, _, rfl, .inr (SqT.of hq), _, rfl, by omega, by omega, ?_⟩
        refine for_range (lo := 0) (n := ys.length) (fun i σ H' => H' = H ∧ ∃ k, σ = [some (.ref p), some (.ref q), k]) ⟨rfl, _, rfl⟩ ?_ ?_
        · rintro i σ H1 hi ⟨rfl, k, rfl⟩
          have hx : xs[i]? = some xs[i] := List.getElem?_eq_getElem (by omega)
          have hy : ys[i]? = some ys[i] := List.getElem?_eq_getElem hi
          have ex := atI_nat hx
          have ey := atI_nat hy
          have e0 : (0 : Int) + (i : Int) = (i : Int) := by omega
          refine ⟨_, rfl, _, rfl, .inr (.inl ⟨_, _, _, _, rfl, rfl, SqT.of hp, by rw [e0]; exact ex, _, rfl, _, rfl, .inr (.inl ⟨_, _, _, _, rfl, rfl, SqT.of hq, by rw [e0]; exact ey, _, _, rfl, hall i _ _ hx hy, _, rfl, ?_⟩)⟩)⟩
          exact ⟨rfl, _, rfl⟩
        · rintro σ H1 ⟨rfl, k, rfl⟩
          exact kq
end
end Lf

/-! ### an own exception made by keywords -/
namespace PySem
namespace LfX
open PySem.HandSPX Builtin Builtin.ObjectAttr
/-- what stands at C: a class of errors -/
structure ErrAt (h : Heap) (C : Addr) (B newId : String) (bmB : List Value) : Prop where
  ex : ∃ nm qu N bs bm hd sn sb ab co dd c0 c1 c2 c3 c5, h.get? C = some (excClassObj nm qu C N bs bm hd sn sb ab co dd c0 c1 c2 c3 c5 newId) ∧ ∀ X : String, bm.contains (.type X) = bmB.contains (.type X)
section
variable {M : Model} {A : Around} {E : Value → Shared → Prop} {C : Addr} {B newId initId : String} {bmB : List Value}
variable {h : Heap} {g : Array GenState} {d : Drawn} {t : Nat} {os : OsState}
/-- the check of C(k = v) ahead of BaseException.__new__ -/
theorem asks_new (F : ExcBaseFacts B newId initId bmB) (c : ErrAt h C B newId bmB) {kx : Str} {kv : Value} {Q : Unit → Shared → Prop} (hq : Q () ⟨h, g, d, t, os⟩) :
    wpAny M A (checkBuiltinCall newId ⟨[.ref C], [(kx, kv)]⟩) Q E ⟨h, g, d, t, os⟩ := by
  obtain ⟨_, _, _, _, bm, _, _, _, _, _, _, _, _, _, _, _, hC, hT⟩ := c.ex
  have inB : (Value.ref C :: bm).contains (.type B) = true := by rw [List.contains_cons, hT, F.hasB, Bool.or_true]
  have noS := F.noStar
  simp only [F.newRow, F.newSplit, F.newKind, checkBuiltinCall]
  repeat (first
    | refine wpAny_loadPart_at hC ?_
    | (refine wpAny_isSubtype_exc hC ?_; rw [inB])
    | refine wpAny_staticBase_exc hC ?_
    | refine wpAny_madeBy_exc hC ?_
    | simp only [bne_self_eq_false, Bool.false_eq_true, if_false]
    | wp_step)
  exact hq
end
section
variable {prog : Program} {w : World} {A : Around} {E : Value → Shared → Prop} {R : Result → Shared → Prop} {C : Addr} {B newId initId : String} {bmB : List Value}
variable {h : Heap} {g : Array GenState} {d : Drawn} {t : Nat} {os : OsState}
/-- BaseException.__new__(C, k = v) -/
theorem makes_new (F : ExcBaseFacts B newId initId bmB) (c : ErrAt h C B newId bmB) {kx : Str} {kv : Value}
    (hq : R (.ok (.ret (.ref (h.objs.size + 1)))) ⟨(h.push (W.kdv_tup [])).push (excO C h.objs.size), g, d, t, os⟩) :
    codeAny (model prog w) A (.builtin newId ⟨[.ref C], [(kx, kv)]⟩) R ⟨h, g, d, t, os⟩ := by
  obtain ⟨_, _, _, _, bm, _, _, _, _, _, _, _, _, _, _, _, hC, hT⟩ := c.ex
  have hends := F.ends
  have inB : (Value.ref C :: bm).contains (.type B) = true := by rw [List.contains_cons, hT, F.hasB, Bool.or_true]
  have noA : (Value.ref C :: bm).contains (.type "AttributeError") = false := by rw [List.contains_cons, hT, F.noAttr] <;> rfl
  have noN : (Value.ref C :: bm).contains (.type "NameError") = false := by rw [List.contains_cons, hT, F.noName] <;> rfl
  refine codeAny_builtinAt F.entry ?_
  unfold Builtin.«BaseException.__new__»
  apply wpAt_bind
  show wpAt _ _ _ (stack >>= _) _ _ _
  apply wpAt_bind
  refine wpAt_stack fun p below => wpAt_of_wpAny ?_
  wp_walk
  apply wpAt_of_wpAny
  rw [F.owner]
  repeat (first
    | with_reducible refine wpAny_madeHere_exc F.canon hC ?_
    | with_reducible refine wpAny_loadPart_at hC ?_
    | (with_reducible refine wpAny_isSubtype_exc hC ?_; first | rw [inB] | rw [noA] | rw [noN])
    | wp_step)
  show R _ _
  rw [Heap.size_push]
  exact hq
/-- type.__call__(C, k = v) -/
theorem calls_kw (F : ExcBaseFacts B newId initId bmB) (c : ErrAt h C B newId bmB) {kx : Str} {kv : Value} {fI : Addr} {Q : Fin → Shared → Prop}
    (hi : W.Looks (model prog w) h (typeLookup (.ref C) "__init__") (some (.ref fI))) (hb : ∀ self, W.Looks (model prog w) h (bindSpecial (.ref fI) self) (.ref fI, [self]))
    (hq : codeAny (model prog w) A (.call (.ref fI) ⟨[.ref (h.objs.size + 1)], [(kx, kv)]⟩)
      (fun r s' => match r with | .ok (.ret v) => v = .none ∧ Q (.done (.ret (.ref (h.objs.size + 1)))) s' | .ok _ => False | .error e => E e s')
      ⟨(h.push (W.kdv_tup [])).push (excO C h.objs.size), g, d, t, os⟩) :
    wpAny (model prog w) A (Builtin.«type.__call__» ⟨[.ref C], [(kx, kv)]⟩) Q E ⟨h, g, d, t, os⟩ := by
  obtain ⟨_, _, _, _, bm, _, _, _, _, _, _, _, _, _, _, _, hC, hT⟩ := id c.ex
  repeat (first
    | with_reducible refine wpAny_loadPart_at hC ?_
    | with_reducible refine wpAny_madeBy_exc hC ?_
    | wp_step)
  refine codeAny_call_builtin_code (Code.quiet_builtin _ F.quiet) (asks_new F c ?_)
  refine makes_new F c ?_
  show wpAny _ _ _ _ _ _
  have k : ∀ b o, h.get? b = some o → ((h.push (W.kdv_tup [])).push (excO C h.objs.size)).get? b = some o := fun b o e => Heap.get?_push_of_some _ (Heap.get?_push_of_some _ e)
  have hC1 := k _ _ hC
  have new : ((h.push (W.kdv_tup [])).push (excO C h.objs.size)).get? (h.objs.size + 1) = some (excO C h.objs.size) := by heap_get
  have self : (Value.ref C :: bm).contains (.ref C) = true := by simp
  have i1 := hi.keeps k
  have b1 := (hb (.ref (h.objs.size + 1))).keeps k
  unfold isInstance
  repeat (first
    | with_reducible refine wpAny_loadPart_at new ?_
    | (with_reducible refine wpAny_isSubtype_exc hC1 ?_; rw [self])
    | wp_step)
  show wpAny _ _ (typeLookup (.ref C) _) _ _ _
  apply i1.at
  apply wpAny_holding
  apply wpAny_bind
  apply b1.at
  apply wpAny_bind
  apply wpAny_call
  refine codeAny_mono hq fun r s' z => ?_
  cases r with
  | error e => exact z
  | ok f =>
    cases f with
    | ret v =>
      obtain ⟨rfl, z⟩ := z
      first
        | exact wpAny_pure (wpAny_pure z)
        | (wp_walk; exact z)
    | next => exact z.elim
    | brk => exact z.elim
    | cont => exact z.elim
/-- C(k = v) -/
theorem call_kw (F : ExcBaseFacts B newId initId bmB) (c : ErrAt h C B newId bmB) {kx : Str} {kv : Value} {fI : Addr}
    (hi : W.Looks (model prog w) h (typeLookup (.ref C) "__init__") (some (.ref fI))) (hb : ∀ self, W.Looks (model prog w) h (bindSpecial (.ref fI) self) (.ref fI, [self]))
    (hq : codeAny (model prog w) (A.under (.builtin "type.__call__" ⟨[.ref C], [(kx, kv)]⟩)) (.call (.ref fI) ⟨[.ref (h.objs.size + 1)], [(kx, kv)]⟩) (W.InitBack (h.objs.size + 1) R)
      ⟨(h.push (W.kdv_tup [])).push (excO C h.objs.size), g, d, t, os⟩) :
    codeAny (model prog w) A (.call (.ref C) ⟨[], [(kx, kv)]⟩) R ⟨h, g, d, t, os⟩ := by
  obtain ⟨_, _, _, _, bm, _, _, _, _, _, _, _, _, _, _, _, hC, hT⟩ := id c.ex
  have f1 := tc_lookup
  have f2 := tc_bind (.ref C)
  have isT : (⟨h, g, d, t, os⟩ : Shared).TypeIs (.ref C) "type" := ⟨_, hC, rfl⟩
  apply codeAny_of_tree
  show wpAny _ _ (callAny (.ref C) _) _ _ _
  repeat (any_goals (first
    | assumption
    | with_reducible refine wpAny_loadPart_at hC ?_
    | wp_step))
  refine ⟨rfl, ?_⟩
  refine codeAny_call_builtin_at (Code.quiet_builtin _ (by decide +kernel)) entry_typeCall ?_
  refine wpAny_check_type_call_sub hC ?_
  refine calls_kw F c hi hb ?_
  refine codeAny_mono hq fun r s' z => ?_
  cases r with
  | error e => exact z
  | ok f => cases f <;> exact z
end
end LfX
end PySem

namespace Lf
open PySem PySem.Spec PyProof.Rows L2
section
variable {X : Cx} {C : Addr} {x : Str} {p pos : Pos}
/-- X(), a class of errors without own __init__ -/
theorem mk_bare {bmB : List Value} {B newId initId : String} (F : ExcBaseFacts B newId initId bmB) (q : PySem.W.excIn X.K C bmB newId = true) (gC : X.mg x = some (.ref C)) (kC : PySem.W.keepIn X.K (.ref C) = true) (r : Raises X (.ref C)) (hg : Gl X x)
    (nd : (x == ("__debug__" : Str)) = false := by decide) : PMk X (.Call (.Name x p) [] [] pos) (fun _ H Q => Q (.ref C) none H) := by
  intro pins s σ H Q I h
  refine wpAny_Call_Name_kw (ld_glob I hg gC ?_ nd)
  refine PySem.W.callWith_K0 I.kIn kC ?_
  obtain ⟨bm, N, nm, qn, bs, hdct, sn, sub, ab, col, dd, c0, c1, c2, c3, c5, mN, hC, hN, hni, T⟩ := exc_obj I.kIn q
  show wpAny _ _ (call (.ref C) []) _ _ _
  refine wpAny_call_exc_subT F T hC hN hni (fun h' e hm => mk_of I hm r h (I.hok.gone hm.new)) ?_
  show 0 ≤ sizeLine
  exact Nat.zero_le _
/-- what an error's __init__ is to leave -/
def madeQ (C : Addr) (H1 : Hp) (Q : XK) (a : Addr) : VK := fun v H2 => v = .non ∧ ∃ (d : Addr) (fs : List (Str × V)), H2 a = some (exo a C (some d)) ∧ H2 d = some (exd d fs) ∧ H1 d = none ∧ Q (.ref C) (some d) (upd (del H2 a) d (.xd fs))
def namedQ (C : Addr) (sp : Sp) (Q : XK) : List V → Hp → Prop := fun vs H1 => match vs with
  | [v] => ∀ a, H1 a = none → sp [.ref a, v] (upd H1 a (exo a C none)) (madeQ C H1 Q a) (fun _ _ _ => False)
  | _ => False
def tNamed (C : Addr) (sp : Sp) (te : TE) : L2.St → Hp → XK → Prop := fun σ H Q => te σ H fun v H1 => ∀ a, H1 a = none → sp [.ref a, v] (upd H1 a (exo a C none)) (madeQ C H1 Q a) (fun _ _ _ => False)
/-- X(f = e), a class of errors with its own __init__(self, f) -/
theorem mk_named {CX : CXT} {fI : Addr} {k : Nat} {fd : FuncData} {ps : List Str} {sp : Sp} {fx : Str} {kp : Pos} {e : Expr} {te : TE} (T : OexC X.K C) (iC : PySem.W.findIn X.K (.ref C) "__init__" = some (some (.ref fI))) (tI : PySem.W.typeIn X.K (.ref fI) = some (.type "function"))
    (F1 : FnOk X.prog X.w X.K X.mg X.base CX k fI fd ps sp) (hr : Room (k + 1) X.A) (hb : ∀ (s : Shared) (a u : Value), X.K.In s.heap → BindsTo s fd ⟨[a], [(fx, u)]⟩ (ps.zip [a, u])) (hx : Passes CX X (fun _ _ _ => False)) (hg : Gl X x) (hm : X.mg x = some (.ref C)) (he : PE X e te)
    (nd : (x == ("__debug__" : Str)) = false := by decide) : PMk X (.Call (.Name x p) [] [⟨some fx, e, kp⟩] pos) (tNamed C sp te) := by
  intro pins s σ H Q I h
  obtain ⟨nm, qn, N, bs, bm, sn, sub, ab, col, dd, c0, c1, c2, c3, c5, hC, hbm⟩ := T.cls
  refine wpAny_Call_Name_kw (ld_glob I hg hm ?_ nd)
  have hk : PK X [⟨some fx, e, kp⟩] (tCons te tNil) := pk_cons he pk_nil
  refine PySem.W.callWith_KW0 (h₀ := X.base) I.ok.mod.kin T.kC rfl (thn (hk.run pos pins s σ H (namedQ C sp Q) I h) fun us s1 hh => ?_) rfl
  obtain ⟨vs, H1, I1, r1, q1⟩ := hh
  refine ⟨I1.kIn, ?_⟩
  cases r1 with
  | nil => exact q1.elim
  | @cons v u vr ur ru rr =>
    cases rr with
    | cons _ _ => exact q1.elim
    | nil =>
      obtain ⟨hp, g, dr, tk, os⟩ := s1
      have q2 : ∀ a, H1 a = none → sp [.ref a, v] (upd H1 a (exo a C none)) (madeQ C H1 Q a) (fun _ _ _ => False) := q1
      show wpAny _ _ (call (.ref C) [] [(fx, u)]) _ _ _
      have up : hp.objs.size ≤ hp.objs.size + 1 := Nat.le_succ _
      have hq := q2 (hp.objs.size + 1) (I1.hok.fresh up)
      have old : ∀ b o, hp.get? b = some o → ((hp.push (PySem.W.kdv_tup [])).push (PySem.HandSPX.excO C hp.objs.size)).get? b = some o := fun b o e => Heap.get?_push_of_some _ (Heap.get?_push_of_some _ e)
      have new : ((hp.push (PySem.W.kdv_tup [])).push (PySem.HandSPX.excO C hp.objs.size)).get? (hp.objs.size + 1) = some (PySem.HandSPX.excO C hp.objs.size) := by heap_get
      have I2 : Inv X pins σ (upd H1 (hp.objs.size + 1) (exo (hp.objs.size + 1) C none)) ⟨(hp.push (PySem.W.kdv_tup [])).push (PySem.HandSPX.excO C hp.objs.size), g, dr, tk, os⟩ :=
        I1.laid (t' := tk) old up (exo_ok new)
      have two : Vals [V.ref (hp.objs.size + 1), v] [Value.ref (hp.objs.size + 1), u] := .cons rfl (.cons ru .nil)
      have c : PySem.LfX.ErrAt hp C "ValueError" "ValueError.__new__" PySem.HandSPX.veTail := ⟨_, _, _, _, _, _, _, _, _, _, _, _, _, _, _, _, I1.kIn _ _ hC, fun Y => PySem.HandSPX.refsVE_contains Y bm hbm⟩
      apply wpAny_call
      refine PySem.LfX.call_kw F.excBase_ValueError c (PySem.W.looks_findIn I1.kIn iC) (fun self => PySem.W.bind_fn I1.kIn self tI) ?_
      refine codeAny_mono (F1.run _ X.stack _ _ ⟨[Value.ref (hp.objs.size + 1)], [(fx, u)]⟩ [Value.ref (hp.objs.size + 1), u] _ _ (fun _ _ _ => False) (hr.make C [] [(fx, u)]) (I2.env0.make C [] [(fx, u)]) (hb _ _ _ I2.kIn) two hq) fun r s' hq' => ?_
      cases r with
      | error er => exact hx pins σ _ _ er s' I2 hq'
      | ok fl =>
        cases fl with
        | ret z =>
          obtain ⟨zv, H2, os2, bare2, un2, hok2, rz, ez, d, fs, ea, ed, hd1, q3⟩ := hq'
          subst ez
          obtain ⟨h2, g2, d2, t2, os'⟩ := s'
          exact ⟨rz, mk_end (raises_own T.exC T.tyC) I1 up old un2 hok2 os2 bare2 ea ed hd1 q3⟩
        | next => exact hq'.elim
        | brk => exact hq'.elim
        | cont => exact hq'.elim
end
end Lf

namespace Lf
open PySem PySem.Spec PyProof.Rows L2
/-! ### a def to which the suite's own exception is handed -/
/-- the promise is told of the exception: its address, its class, its dict -/
abbrev SpE := Addr → Value → Option Addr → Sp
structure FnE (P : Program) (w : World) (K : PySem.W.Frag) (mg : Str → Option Value) (base : Heap) (k : Nat) (f : Addr) (fd : FuncData) (ps : List Str) (sp : SpE) : Prop where
  len : ∀ a cls d vs H Q E, sp a cls d vs H Q E → vs.length = ps.length
  run : ∀ (A : Around) (outer : List Env) (s : Shared) (H : Hp) (args : Args) (us : List Value) (vs : List V) (Q : VK) (E : XK) (p : Addr × Obj) (cls : Value) (d : Option Addr), L2H.RoomH k A → L2H.PinOk outer H s p →
    Zc cls d p.2 → (∃ fv, p.2.data = .fields fv) → Env0 P w K mg base A outer s H → BindsTo s fd args (ps.zip us) → Vals vs us → sp p.1 cls d vs H Q E → codeAny (model P w) A (.call (.ref f) args) (CR CX0 outer P w H s Q E) s
section
variable {P : Program} {w : World} {K : PySem.W.Frag} {mg : Str → Option Value} {base : Heap}
theorem fnE_of {k : Nat} {f : Addr} {fd : FuncData} {x qual : Str} {st : Stmt} {N ps : List Str} {sp : SpE} (F : Fun K x qual st f fd) (S : FnScope N ps (defScope st)) (len : ∀ a cls d vs H Q E, sp a cls d vs H Q E → vs.length = ps.length)
    (body : ∀ (cdv : Value) (A : Around) (outer : List Env) (s : Shared) (H : Hp) (vs : List V) (Q : VK) (E : XK) (p : Addr × Obj) (cls : Value) (d : Option Addr), Zc cls d p.2 → (∃ fv, p.2.data = .fields fv) → sp p.1 cls d vs H Q E →
      ∃ t, PSs (L2H.cxH CX0 P w K mg base N qual (defScope st) f cdv A outer s H E p) (defBody st) t ∧ t { nx := fun _ H' => Q .non H', rt := Q } (L2.start N vs) H) : FnE P w K mg base (k + 1) f fd ps sp := by
  obtain ⟨oc, od, kV, doc, pm, an, cdv, ct, osl, rfl, lk, hcd⟩ := F.ex
  refine ⟨len, ?_⟩
  intro A outer s H args us vs Q E p cls d room pin hz hf e0 hb r want
  have same := len _ _ _ _ _ _ _ want
  have inK : K.In s.heap := e0.mod.kin.keeps fun b o e => (e0.bs b o e).1
  have nolim : s.heap.NoLimit := e0.mod.nolimit.keeps fun b o e => (e0.bs b o e).1
  have kinds : ∀ y ∈ ps.zip us, (defScope st).names.lookup y.1 = some .local ∨ ((defScope st).names.lookup y.1 = some .cell ∧ ((PySem.cellsFrom (s.heap.objs.size + 1) (defScope st).names []).lookup y.1).isSome = true) := by
    rintro ⟨n, v⟩ hy
    cases S.par n (List.of_mem_zip hy).1 with
    | inl q => exact .inl q
    | inr q => exact .inr ⟨q, PySem.W.cellsFrom_some _ _ _ (.inl q)⟩
  refine codeAny_call_function room.depth (inK _ _ lk) rfl S.co S.gen rfl (PySem.W.codeRec_of inK hcd) (hb _ _ _ _ ?_)
  refine wpAny_newFunctionEnv_cells S.kind kinds fun env he s1 x => ?_
  subst he
  refine ⟨nolim.keeps x.toInCall.keep, codeAny_func ?_⟩
  obtain ⟨t, ht, hq⟩ := body cdv A outer s H vs Q E p cls d hz hf want
  have I := L2H.inv_startH (CX := CX0) (E := E) S pin e0 same r x
  refine wpAny_mono (ht.run [] s1 (L2.start N vs) H _ I hq) (fun fl s' end_ => ?_) fun e s' z => z
  cases fl with
  | next =>
    obtain ⟨σ', H', J, q⟩ := end_
    exact ⟨V.non, H', J.os, J.bare, J.base, J.hok, rfl, q⟩
  | ret u =>
    obtain ⟨v, σ', H', J, rv, q⟩ := end_
    exact ⟨v, H', J.os, J.bare, J.base, J.hok, rv, q⟩
  | brk =>
    obtain ⟨_, _, _, q⟩ := end_
    exact q.elim
  | cont =>
    obtain ⟨_, _, _, q⟩ := end_
    exact q.elim
end
/-- f(.., e, ..) in the suite that holds e at a -/
def tCallE (sp : SpE) (a : Addr) (cls : Value) (d : Option Addr) (t : TA) : TE := fun σ H Q => t σ H fun vs H1 => sp a cls d vs H1 Q (fun _ _ _ => False)
section
variable {X : Cx} {x : Str} {p pos : Pos} {e : Expr} {es : List Expr} {t : TA}
theorem pe_callE {k : Nat} {f : Addr} {fd : FuncData} {ps : List Str} {sp : SpE} {a : Addr} {oe : Obj} {cls : Value} {d : Option Addr} {pn : List (Addr × Obj)} (F : FnE X.prog X.w X.K X.mg X.base k f fd ps sp) (hr : L2H.RoomH k X.A) (hz : Zc cls d oe) (hf : ∃ fv, oe.data = .fields fv)
    (hg : Gl X x) (hm : X.mg x = some (.ref f)) (hk : PySem.W.keepIn X.K (.ref f) = true) (hb : Binds X.K fd ps []) (ha : PA (X.suite a ((a, oe) :: pn)) (e :: es) t) (nd : (x == ("__debug__" : Str)) = false := by decide)
    (he : starEach (e :: es) X.env = (false, eval e X.env) :: starEach es X.env := by rfl) (pl : (backTo pos (starEach es X.env)).any (·.1) = false := by rfl) :
    PE (X.suite a ((a, oe) :: pn)) (.Call (.Name x p) (e :: es) [] pos) (tCallE sp a cls d t) := by
  refine ⟨fun pins s σ H Q I h => ?_⟩
  refine wpAny_Call_Name_kw (ld_glob (X := X.suite a ((a, oe) :: pn)) I hg hm ?_ nd)
  refine PySem.W.callWith_K (h₀ := X.base) I.ok.mod.kin hk (thn (ha.run pos pins s σ H _ I h) fun us s1 hh => ?_) he pl
  obtain ⟨vs, H1, I1, r, q⟩ := hh
  refine ⟨I1.kIn, ?_⟩
  show wpAny _ _ (call (.ref f) us) _ _ _
  have P1 := I1.pin (a, oe) (List.mem_append_left _ List.mem_cons_self)
  have pin : L2H.PinOk X.stack H1 s1 (a, oe) := ⟨P1.1, P1.2.1, fun hm => (List.mem_cons.mp (I1.stkSub a hm)).elim P1.2.2.1 P1.2.2.2.1, P1.2.2.2.2⟩
  have hl : us.length = ps.length := by rw [← r.length]; exact F.len _ _ _ _ _ _ _ q
  have b := hb s1 us I1.kIn (by rw [List.append_nil]; exact hl)
  rw [List.append_nil] at b
  refine wpAny_call (codeAny_mono (F.run (X.A.mark (some (.ref a))) X.stack s1 H1 ⟨us, []⟩ us vs Q _ (a, oe) cls d ⟨hr.dp, hr.un⟩ pin hz hf I1.env0 b r q) fun r s' hq => ?_)
  cases r with
  | error e => exact hq.elim
  | ok fl =>
    cases fl with
    | ret u => exact I1.after hq
    | next => exact hq.elim
    | brk => exact hq.elim
    | cont => exact hq.elim
/-- the exception's own dict, where it has one, is told -/
def DctOk (H : Hp) (d : Option Addr) : Prop := d = none ∨ ∃ dd fs, d = some dd ∧ H dd = some (.xd fs)
theorem inst_of {P : Program} {w : World} {H : Hp} {h : Heap} {a D : Addr} {d : Option Addr} {oe : Obj} (ok : HOk P w H h) (he : h.get? a = some oe) (hz : Zc (.ref D) d oe) (hf : ∃ fv, oe.data = .fields fv) (hd : DctOk H d) : ∃ od, PySem.W.InstAt h a oe D od := by
  obtain ⟨fv, hv⟩ := hf
  have nc : PySem.W.notCls oe = true := by unfold PySem.W.notCls; rw [hv] <;> rfl
  rcases hd with rfl | ⟨dd, fs, rfl, hdd⟩
  · exact ⟨none, he, hz.1, nc, by rw [hz.2] <;> trivial⟩
  · obtain ⟨mA, hns, _⟩ := (show ObjOk P w H h dd (.xd fs) from ok dd _ hdd)
    obtain ⟨od, ho, _⟩ := lookIn_ns hns
    exact ⟨some od, he, hz.1, nc, by rw [hz.2]; exact ho⟩
/-- isinstance(e, C), e an exception that the context bears (its class is told by the reading) -/
def rIsP (K : PySem.W.Frag) (cls : Value) (a : Addr) (d : Option Addr) : List V → Hp → VK → Prop := fun xs H Q => ∃ (D : Addr) (c : V) (cv : Value) (b : Bool), xs = [.ref a, c] ∧ cls = .ref D ∧ ExcC K D ∧ ClsV c cv ∧ DctOk H d ∧ PySem.W.kitOne K (.ref D) cv = some b ∧ Q (.bl b) H
theorem call_isP {a : Addr} {cls : Value} {d : Option Addr} {oe : Obj} (hp : (a, oe) ∈ X.pn) (hz : Zc cls d oe) (hf : ∃ fv, oe.data = .fields fv) : CallR X (.builtin "isinstance") (rIsP X.K cls a d) := by
  intro pins s σ H xs us Q I r h
  obtain ⟨D, t, cv, b, rfl, rfl, c, ht, hd, e, q⟩ := h
  obtain ⟨u1, u2, rfl, r1, r2⟩ := vals2 r
  have e2 := ht.eq r2
  subst e2
  cases (show u1 = Value.ref a from r1)
  obtain ⟨od, J⟩ := inst_of I.hok (I.pin (a, oe) (List.mem_append_left _ hp)).1 hz hf hd
  have cl : (PySem.W.clsIn X.K D).isSome = true := by
    obtain ⟨cd, hc, _⟩ := PySem.W.any_some c.hd
    rw [hc] <;> rfl
  exact PySem.W.kia_one (PySem.W.kitx_exc cl c.hg c.hk c.hs c.ha c.hn c.ht c.hm) I.kIn J e (fun z => nomatch z) fun tk => ⟨.bl b, H, I.tok tk, rfl, q⟩
/-- e.f, e an exception that the context bears -/
def tFldP (K : PySem.W.Frag) (a : Addr) (cls : Value) (d : Option Addr) (f : Str) (te : TE) : TE := fun σ H Q => te σ H fun x H1 => x = .ref a ∧ ∃ (D dd : Addr) (fs : List (Str × V)) (v : V), cls = .ref D ∧ XfC K D ∧ PySem.W.findIn K (.ref D) f = some none ∧ d = some dd ∧ H1 dd = some (.xd fs) ∧ fs.lookup f = some v ∧ Q v H1
theorem pe_fldP {a : Addr} {cls : Value} {d : Option Addr} {oe : Obj} {o : Expr} {te : TE} {n : Str} (hp : (a, oe) ∈ X.pn) (hz : Zc cls d oe) (hf : ∃ fv, oe.data = .fields fv) (ho : PE X o te)
    (hb : attributeBase o n X.env (eval o X.env) = eval o X.env := by rfl) : PE X (.Attribute o n pos) (tFldP X.K a cls d n te) := by
  refine ⟨fun pins s σ H Q I h => ?_⟩
  refine attr_of hb (thn (ho.run pins s σ H _ I h) fun u s1 hh => ?_)
  obtain ⟨x, H1, I1, rx, ex, D, dd, fs, v, ec, T, hno, ed, ea, l, q⟩ := hh
  subst ex
  obtain rfl : u = Value.ref a := rx
  subst ed
  subst ec
  have there := (I1.pin (a, oe) (List.mem_append_left _ hp)).1
  obtain ⟨fv, hv⟩ := hf
  obtain ⟨mA, hns, rel⟩ := (show ObjOk X.prog X.w H1 s1.heap dd (.xd fs) from I1.hok dd _ ea)
  obtain ⟨od, hod, look⟩ := lookIn_ns hns
  obtain ⟨u, hu, ru⟩ := RelO.some_of (v := v) (o := mA n) (by rw [← l]; exact rel n)
  have J : PySem.W.InstAt s1.heap a oe D (some od) := ⟨there, hz.1, by unfold PySem.W.notCls; rw [hv] <;> rfl, by rw [hz.2]; exact hod⟩
  refine HandSPX.exc_get I1.kIn J T.ga T.gg T.exC ?_ (handed_of ru) ⟨v, H1, I1.tok _, ru, q⟩
  exact PySem.W.findObj_own T.hdC hno rfl (by rw [look, hu])
end
end Lf

namespace Lf
open PySem L2
/-! ### the 23 errors -/
def nmE : Nat → Str
  | 0 => "BadFormat"
  | 1 => "BadNumber"
  | 2 => "BadRule"
  | 3 => "BadWay"
  | 4 => "BadBits"
  | 5 => "Left"
  | 6 => "TooFew"
  | 7 => "BadText"
  | 8 => "TooMany"
  | 9 => "NoName"
  | 10 => "NoCommand"
  | 11 => "NoBits"
  | 12 => "NoUndo"
  | 13 => "BadPlaces"
  | 14 => "BadView"
  | 15 => "OtherLetters"
  | 16 => "BadTexts"
  | 17 => "BadLine"
  | 18 => "NoLine"
  | 19 => "BadSight"
  | 20 => "NoMove"
  | 21 => "BadFlag"
  | _ => "BadCopies"
def fldE : Nat → Str
  | 0 => "part"
  | 1 => "part"
  | 2 => "part"
  | 3 => "at"
  | 4 => "at"
  | 5 => "at"
  | 6 => "due"
  | 7 => "place"
  | 8 => "most"
  | _ => "name"
/-- what the top has written of the 23 classes, at ca 0, ca 1, .. -/
structure ErrT (K : PySem.W.Frag) (mg : Str → Option Value) (ca : Nat → Addr) (cp : Addr) : Prop where
  g : ∀ k, k < 23 → mg (nmE k) = some (.ref (ca k))
  gP : mg "PackError" = some (.ref cp)
  o : ∀ k, k < 10 → OexC K (ca k)
  no : ∀ k, k < 23 → ∀ j, j < 10 → PySem.W.findIn K (.ref (ca k)) (fldE j) = some none
  exc : ∀ k, k < 23 → 10 ≤ k → PySem.W.excIn K (ca k) [.type "ValueError", .type "Exception", .type "BaseException", .type "object"] "ValueError.__new__" = true
  kp : ∀ k, k < 23 → PySem.W.keepIn K (.ref (ca k)) = true
  sub : ∀ k, k < 23 → PySem.W.subIn K (.ref (ca k)) (.type "BaseException") = some true
  ty : ∀ k, k < 23 → PySem.W.typeIn K (.ref (ca k)) = some (.type "type")
  xf : ∀ k, k < 23 → XfC K (ca k)
  ec : ∀ k, k < 23 → ExcC K (ca k)
  kit : ∀ k, k < 23 → ∀ j, j < 23 → PySem.W.kitOne K (.ref (ca k)) (.ref (ca j)) = some (decide (j = k))
  ve : ∀ k, k < 23 → PySem.W.kitOne K (.ref (ca k)) (.type "ValueError") = some true
  te : ∀ k, k < 23 → PySem.W.exmOne K (.ref (ca k)) (.ref cp) = some true
/-- an error's own __init__(self, f) -/
def spXI (K : PySem.W.Frag) (fx : Str) : Sp := fun vs H Q _ => ∃ (a C : Addr) (v : V), vs = [.ref a, v] ∧ OexC K C ∧ PySem.W.findIn K (.ref C) fx = some none ∧ H a = some (exo a C none) ∧
  ∀ dx, H dx = none → dx ≠ a → Q .non (upd (upd H dx (exd dx [(fx, v)])) a (exo a C (some dx)))
def HasI (P : Program) (w : World) (K : PySem.W.Frag) (mg : Str → Option Value) (base : Heap) (C : Addr) (fx : Str) : Prop :=
  ∃ (f : Addr) (fd : FuncData), FnOk P w K mg base CX0 1 f fd ["self", fx] (spXI K fx) ∧ PySem.W.findIn K (.ref C) "__init__" = some (some (.ref f)) ∧ PySem.W.typeIn K (.ref f) = some (.type "function") ∧ Binds K fd ["self", fx] [] ∧
    ∀ (s : Shared) (a u : Value), K.In s.heap → BindsTo s fd ⟨[a], [(fx, u)]⟩ ((["self", fx] : List Str).zip [a, u])
def HasX (P : Program) (w : World) (K : PySem.W.Frag) (mg : Str → Option Value) (base : Heap) (k : Nat) (x : Str) (ps : List Str) (sp : Sp) : Prop :=
  ∃ (f : Addr) (fd : FuncData), FnOk P w K mg base (L2.CX P w) k f fd ps sp ∧ mg x = some (.ref f) ∧ PySem.W.keepIn K (.ref f) = true ∧ Binds K fd ps []
def spPlain (ca : Nat → Addr) : Sp := fun vs H _ E => ∃ k : Nat, 10 ≤ k ∧ k < 23 ∧ vs = [.int k] ∧ E (.ref (ca k)) none H
def spRaise (ca : Nat → Addr) : Sp := fun vs H _ E => ∃ (k : Nat) (v : V), k < 23 ∧ vs = [.int k, v] ∧ (10 ≤ k → E (.ref (ca k)) none H) ∧ (k < 10 → ∀ dd H', Same H H' → H' dd = some (.xd [(fldE k, v)]) → E (.ref (ca k)) (some dd) H')
theorem made_same {H : Hp} {a dx : Addr} {o1 o2 o3 o4 : HO} (ha : H a = none) (hd : (upd H a o1) dx = none) (ne : dx ≠ a) : Same H (upd (del (upd (upd (upd H a o1) dx o2) a o3) a) dx o4) := fun b o e => by
  have na := ne_of_none e ha
  have hd' : H dx = none := by rw [upd_ne ne] at hd; exact hd
  have nd := ne_of_none e hd'
  rw [upd_ne nd, del_ne na, upd_ne na, upd_ne nd, upd_ne na]
  exact e
theorem tenE {k : Nat} (h : k < 23) : k = 0 ∨ k = 1 ∨ k = 2 ∨ k = 3 ∨ k = 4 ∨ k = 5 ∨ k = 6 ∨ k = 7 ∨ k = 8 ∨ k = 9 ∨ k = 10 ∨ k = 11 ∨ k = 12 ∨ k = 13 ∨ k = 14 ∨ k = 15 ∨ k = 16 ∨ k = 17 ∨ k = 18 ∨ k = 19 ∨ k = 20 ∨ k = 21 ∨ k = 22 := by omega
theorem tenP {k : Nat} (h : k < 23) (h' : 10 ≤ k) : k = 10 ∨ k = 11 ∨ k = 12 ∨ k = 13 ∨ k = 14 ∨ k = 15 ∨ k = 16 ∨ k = 17 ∨ k = 18 ∨ k = 19 ∨ k = 20 ∨ k = 21 ∨ k = 22 := by omega
section
variable {P : Program} {w : World} {K : PySem.W.Frag} {mg : Str → Option Value} {base : Heap} {ca : Nat → Addr} {cp : Addr}
abbrev sI0 : Stmt := inClass (top 2) 0
theorem scI0 : FnScope ["self", "part"] ["self", "part"] (defScope sI0) := ⟨rfl, rfl, rfl, by decide +kernel, rfl, by decide +kernel, by decide +kernel⟩
theorem ok_I0 {f : Addr} {fd : FuncData} (F : Fun K "__init__" "BadFormat.__init__" sI0 f fd) (hi : PySem.W.findIn K (.ref (ca 0)) "__init__" = some (some (.ref f))) (ht : PySem.W.typeIn K (.ref f) = some (.type "function")) : HasI P w K mg base (ca 0) "part" := by
  refine ⟨f, fd, F.ok scI0 (fun vs H Q E h => ?_) (fun cdv A outer s H vs Q E hr h => ?_), hi, ht, F.binds (ps := ["self", "part"]) (fun _ _ _ _ _ _ us hl => match us, hl with | [_, _], _ => rfl), ?_⟩
  · obtain ⟨_, _, _, rfl, _⟩ := h
    rfl
  · obtain ⟨a, C, v, rfl, ho, hno, ha, kq⟩ := h
    refine ⟨_, pss_one (ps_ost (pv 0) (pv 1)), ?_⟩
    exact ⟨_, rfl, _, rfl, a, C, rfl, ho, hno, .inl ⟨ha, fun dx h1 h2 => kq dx h1 h2⟩⟩
  · obtain ⟨oc, od, kV, doc, pm, an, cdv, ct, osl, rfl, lk, hcd⟩ := F.ex
    exact fun s a u _ => .of_eq rfl
abbrev sI1 : Stmt := inClass (top 11) 0
theorem scI1 : FnScope ["self", "part"] ["self", "part"] (defScope sI1) := ⟨rfl, rfl, rfl, by decide +kernel, rfl, by decide +kernel, by decide +kernel⟩
theorem ok_I1 {f : Addr} {fd : FuncData} (F : Fun K "__init__" "BadNumber.__init__" sI1 f fd) (hi : PySem.W.findIn K (.ref (ca 1)) "__init__" = some (some (.ref f))) (ht : PySem.W.typeIn K (.ref f) = some (.type "function")) : HasI P w K mg base (ca 1) "part" := by
  refine ⟨f, fd, F.ok scI1 (fun vs H Q E h => ?_) (fun cdv A outer s H vs Q E hr h => ?_), hi, ht, F.binds (ps := ["self", "part"]) (fun _ _ _ _ _ _ us hl => match us, hl with | [_, _], _ => rfl), ?_⟩
  · obtain ⟨_, _, _, rfl, _⟩ := h
    rfl
  · obtain ⟨a, C, v, rfl, ho, hno, ha, kq⟩ := h
    refine ⟨_, pss_one (ps_ost (pv 0) (pv 1)), ?_⟩
    exact ⟨_, rfl, _, rfl, a, C, rfl, ho, hno, .inl ⟨ha, fun dx h1 h2 => kq dx h1 h2⟩⟩
  · obtain ⟨oc, od, kV, doc, pm, an, cdv, ct, osl, rfl, lk, hcd⟩ := F.ex
    exact fun s a u _ => .of_eq rfl
abbrev sI2 : Stmt := inClass (top 13) 0
theorem scI2 : FnScope ["self", "part"] ["self", "part"] (defScope sI2) := ⟨rfl, rfl, rfl, by decide +kernel, rfl, by decide +kernel, by decide +kernel⟩
theorem ok_I2 {f : Addr} {fd : FuncData} (F : Fun K "__init__" "BadRule.__init__" sI2 f fd) (hi : PySem.W.findIn K (.ref (ca 2)) "__init__" = some (some (.ref f))) (ht : PySem.W.typeIn K (.ref f) = some (.type "function")) : HasI P w K mg base (ca 2) "part" := by
  refine ⟨f, fd, F.ok scI2 (fun vs H Q E h => ?_) (fun cdv A outer s H vs Q E hr h => ?_), hi, ht, F.binds (ps := ["self", "part"]) (fun _ _ _ _ _ _ us hl => match us, hl with | [_, _], _ => rfl), ?_⟩
  · obtain ⟨_, _, _, rfl, _⟩ := h
    rfl
  · obtain ⟨a, C, v, rfl, ho, hno, ha, kq⟩ := h
    refine ⟨_, pss_one (ps_ost (pv 0) (pv 1)), ?_⟩
    exact ⟨_, rfl, _, rfl, a, C, rfl, ho, hno, .inl ⟨ha, fun dx h1 h2 => kq dx h1 h2⟩⟩
  · obtain ⟨oc, od, kV, doc, pm, an, cdv, ct, osl, rfl, lk, hcd⟩ := F.ex
    exact fun s a u _ => .of_eq rfl
abbrev sI3 : Stmt := inClass (top 4) 0
theorem scI3 : FnScope ["self", "at"] ["self", "at"] (defScope sI3) := ⟨rfl, rfl, rfl, by decide +kernel, rfl, by decide +kernel, by decide +kernel⟩
theorem ok_I3 {f : Addr} {fd : FuncData} (F : Fun K "__init__" "BadWay.__init__" sI3 f fd) (hi : PySem.W.findIn K (.ref (ca 3)) "__init__" = some (some (.ref f))) (ht : PySem.W.typeIn K (.ref f) = some (.type "function")) : HasI P w K mg base (ca 3) "at" := by
  refine ⟨f, fd, F.ok scI3 (fun vs H Q E h => ?_) (fun cdv A outer s H vs Q E hr h => ?_), hi, ht, F.binds (ps := ["self", "at"]) (fun _ _ _ _ _ _ us hl => match us, hl with | [_, _], _ => rfl), ?_⟩
  · obtain ⟨_, _, _, rfl, _⟩ := h
    rfl
  · obtain ⟨a, C, v, rfl, ho, hno, ha, kq⟩ := h
    refine ⟨_, pss_one (ps_ost (pv 0) (pv 1)), ?_⟩
    exact ⟨_, rfl, _, rfl, a, C, rfl, ho, hno, .inl ⟨ha, fun dx h1 h2 => kq dx h1 h2⟩⟩
  · obtain ⟨oc, od, kV, doc, pm, an, cdv, ct, osl, rfl, lk, hcd⟩ := F.ex
    exact fun s a u _ => .of_eq rfl
abbrev sI4 : Stmt := inClass (top 6) 0
theorem scI4 : FnScope ["self", "at"] ["self", "at"] (defScope sI4) := ⟨rfl, rfl, rfl, by decide +kernel, rfl, by decide +kernel, by decide +kernel⟩
theorem ok_I4 {f : Addr} {fd : FuncData} (F : Fun K "__init__" "BadBits.__init__" sI4 f fd) (hi : PySem.W.findIn K (.ref (ca 4)) "__init__" = some (some (.ref f))) (ht : PySem.W.typeIn K (.ref f) = some (.type "function")) : HasI P w K mg base (ca 4) "at" := by
  refine ⟨f, fd, F.ok scI4 (fun vs H Q E h => ?_) (fun cdv A outer s H vs Q E hr h => ?_), hi, ht, F.binds (ps := ["self", "at"]) (fun _ _ _ _ _ _ us hl => match us, hl with | [_, _], _ => rfl), ?_⟩
  · obtain ⟨_, _, _, rfl, _⟩ := h
    rfl
  · obtain ⟨a, C, v, rfl, ho, hno, ha, kq⟩ := h
    refine ⟨_, pss_one (ps_ost (pv 0) (pv 1)), ?_⟩
    exact ⟨_, rfl, _, rfl, a, C, rfl, ho, hno, .inl ⟨ha, fun dx h1 h2 => kq dx h1 h2⟩⟩
  · obtain ⟨oc, od, kV, doc, pm, an, cdv, ct, osl, rfl, lk, hcd⟩ := F.ex
    exact fun s a u _ => .of_eq rfl
abbrev sI5 : Stmt := inClass (top 8) 0
theorem scI5 : FnScope ["self", "at"] ["self", "at"] (defScope sI5) := ⟨rfl, rfl, rfl, by decide +kernel, rfl, by decide +kernel, by decide +kernel⟩
theorem ok_I5 {f : Addr} {fd : FuncData} (F : Fun K "__init__" "Left.__init__" sI5 f fd) (hi : PySem.W.findIn K (.ref (ca 5)) "__init__" = some (some (.ref f))) (ht : PySem.W.typeIn K (.ref f) = some (.type "function")) : HasI P w K mg base (ca 5) "at" := by
  refine ⟨f, fd, F.ok scI5 (fun vs H Q E h => ?_) (fun cdv A outer s H vs Q E hr h => ?_), hi, ht, F.binds (ps := ["self", "at"]) (fun _ _ _ _ _ _ us hl => match us, hl with | [_, _], _ => rfl), ?_⟩
  · obtain ⟨_, _, _, rfl, _⟩ := h
    rfl
  · obtain ⟨a, C, v, rfl, ho, hno, ha, kq⟩ := h
    refine ⟨_, pss_one (ps_ost (pv 0) (pv 1)), ?_⟩
    exact ⟨_, rfl, _, rfl, a, C, rfl, ho, hno, .inl ⟨ha, fun dx h1 h2 => kq dx h1 h2⟩⟩
  · obtain ⟨oc, od, kV, doc, pm, an, cdv, ct, osl, rfl, lk, hcd⟩ := F.ex
    exact fun s a u _ => .of_eq rfl
abbrev sI6 : Stmt := inClass (top 7) 0
theorem scI6 : FnScope ["self", "due"] ["self", "due"] (defScope sI6) := ⟨rfl, rfl, rfl, by decide +kernel, rfl, by decide +kernel, by decide +kernel⟩
theorem ok_I6 {f : Addr} {fd : FuncData} (F : Fun K "__init__" "TooFew.__init__" sI6 f fd) (hi : PySem.W.findIn K (.ref (ca 6)) "__init__" = some (some (.ref f))) (ht : PySem.W.typeIn K (.ref f) = some (.type "function")) : HasI P w K mg base (ca 6) "due" := by
  refine ⟨f, fd, F.ok scI6 (fun vs H Q E h => ?_) (fun cdv A outer s H vs Q E hr h => ?_), hi, ht, F.binds (ps := ["self", "due"]) (fun _ _ _ _ _ _ us hl => match us, hl with | [_, _], _ => rfl), ?_⟩
  · obtain ⟨_, _, _, rfl, _⟩ := h
    rfl
  · obtain ⟨a, C, v, rfl, ho, hno, ha, kq⟩ := h
    refine ⟨_, pss_one (ps_ost (pv 0) (pv 1)), ?_⟩
    exact ⟨_, rfl, _, rfl, a, C, rfl, ho, hno, .inl ⟨ha, fun dx h1 h2 => kq dx h1 h2⟩⟩
  · obtain ⟨oc, od, kV, doc, pm, an, cdv, ct, osl, rfl, lk, hcd⟩ := F.ex
    exact fun s a u _ => .of_eq rfl
abbrev sI7 : Stmt := inClass (top 10) 0
theorem scI7 : FnScope ["self", "place"] ["self", "place"] (defScope sI7) := ⟨rfl, rfl, rfl, by decide +kernel, rfl, by decide +kernel, by decide +kernel⟩
theorem ok_I7 {f : Addr} {fd : FuncData} (F : Fun K "__init__" "BadText.__init__" sI7 f fd) (hi : PySem.W.findIn K (.ref (ca 7)) "__init__" = some (some (.ref f))) (ht : PySem.W.typeIn K (.ref f) = some (.type "function")) : HasI P w K mg base (ca 7) "place" := by
  refine ⟨f, fd, F.ok scI7 (fun vs H Q E h => ?_) (fun cdv A outer s H vs Q E hr h => ?_), hi, ht, F.binds (ps := ["self", "place"]) (fun _ _ _ _ _ _ us hl => match us, hl with | [_, _], _ => rfl), ?_⟩
  · obtain ⟨_, _, _, rfl, _⟩ := h
    rfl
  · obtain ⟨a, C, v, rfl, ho, hno, ha, kq⟩ := h
    refine ⟨_, pss_one (ps_ost (pv 0) (pv 1)), ?_⟩
    exact ⟨_, rfl, _, rfl, a, C, rfl, ho, hno, .inl ⟨ha, fun dx h1 h2 => kq dx h1 h2⟩⟩
  · obtain ⟨oc, od, kV, doc, pm, an, cdv, ct, osl, rfl, lk, hcd⟩ := F.ex
    exact fun s a u _ => .of_eq rfl
abbrev sI8 : Stmt := inClass (top 15) 0
theorem scI8 : FnScope ["self", "most"] ["self", "most"] (defScope sI8) := ⟨rfl, rfl, rfl, by decide +kernel, rfl, by decide +kernel, by decide +kernel⟩
theorem ok_I8 {f : Addr} {fd : FuncData} (F : Fun K "__init__" "TooMany.__init__" sI8 f fd) (hi : PySem.W.findIn K (.ref (ca 8)) "__init__" = some (some (.ref f))) (ht : PySem.W.typeIn K (.ref f) = some (.type "function")) : HasI P w K mg base (ca 8) "most" := by
  refine ⟨f, fd, F.ok scI8 (fun vs H Q E h => ?_) (fun cdv A outer s H vs Q E hr h => ?_), hi, ht, F.binds (ps := ["self", "most"]) (fun _ _ _ _ _ _ us hl => match us, hl with | [_, _], _ => rfl), ?_⟩
  · obtain ⟨_, _, _, rfl, _⟩ := h
    rfl
  · obtain ⟨a, C, v, rfl, ho, hno, ha, kq⟩ := h
    refine ⟨_, pss_one (ps_ost (pv 0) (pv 1)), ?_⟩
    exact ⟨_, rfl, _, rfl, a, C, rfl, ho, hno, .inl ⟨ha, fun dx h1 h2 => kq dx h1 h2⟩⟩
  · obtain ⟨oc, od, kV, doc, pm, an, cdv, ct, osl, rfl, lk, hcd⟩ := F.ex
    exact fun s a u _ => .of_eq rfl
abbrev sI9 : Stmt := inClass (top 20) 0
theorem scI9 : FnScope ["self", "name"] ["self", "name"] (defScope sI9) := ⟨rfl, rfl, rfl, by decide +kernel, rfl, by decide +kernel, by decide +kernel⟩
theorem ok_I9 {f : Addr} {fd : FuncData} (F : Fun K "__init__" "NoName.__init__" sI9 f fd) (hi : PySem.W.findIn K (.ref (ca 9)) "__init__" = some (some (.ref f))) (ht : PySem.W.typeIn K (.ref f) = some (.type "function")) : HasI P w K mg base (ca 9) "name" := by
  refine ⟨f, fd, F.ok scI9 (fun vs H Q E h => ?_) (fun cdv A outer s H vs Q E hr h => ?_), hi, ht, F.binds (ps := ["self", "name"]) (fun _ _ _ _ _ _ us hl => match us, hl with | [_, _], _ => rfl), ?_⟩
  · obtain ⟨_, _, _, rfl, _⟩ := h
    rfl
  · obtain ⟨a, C, v, rfl, ho, hno, ha, kq⟩ := h
    refine ⟨_, pss_one (ps_ost (pv 0) (pv 1)), ?_⟩
    exact ⟨_, rfl, _, rfl, a, C, rfl, ho, hno, .inl ⟨ha, fun dx h1 h2 => kq dx h1 h2⟩⟩
  · obtain ⟨oc, od, kV, doc, pm, an, cdv, ct, osl, rfl, lk, hcd⟩ := F.ex
    exact fun s a u _ => .of_eq rfl
abbrev sPlain : Stmt := top 33
abbrev sRaise : Stmt := top 34
abbrev sNamed : Stmt := top 35
theorem scPlain : FnScope ["_law_which"] ["_law_which"] (defScope sPlain) := ⟨rfl, rfl, rfl, by decide +kernel, rfl, by decide +kernel, by decide +kernel⟩
theorem ok_plain {f : Addr} {fd : FuncData} (D : At K mg "_law_raise_plain" sPlain ["_law_which"] f fd) (T : ErrT K mg ca cp) : HasX P w K mg base 1 "_law_raise_plain" ["_law_which"] (spPlain ca) := by
  refine ⟨f, fd, D.F.okX scPlain (fun vs H Q E h => ?_) (fun cdv A outer s H vs Q E hr h => ?_), D.g, D.k, D.b⟩
  · obtain ⟨_, _, _, rfl, _⟩ := h
    rfl
  · obtain ⟨k, h1, h2, rfl, kq⟩ := h
    refine ⟨_, (pss_cons (ps_if (pt_cmpR op_eq (pv 0) pe_int (nomark _)) (pss_one (ps_raise rfl (takes_of rfl rfl rfl rfl) (mk_bare PySem.F.excBase_ValueError (T.exc 10 (by decide) (by decide)) (T.g 10 (by decide)) (T.kp 10 (by decide)) (raises_own (T.sub 10 (by decide)) (T.ty 10 (by decide))) (by rfl)))) pss_nil)
      (pss_cons (ps_if (pt_cmpR op_eq (pv 0) pe_int (nomark _)) (pss_one (ps_raise rfl (takes_of rfl rfl rfl rfl) (mk_bare PySem.F.excBase_ValueError (T.exc 11 (by decide) (by decide)) (T.g 11 (by decide)) (T.kp 11 (by decide)) (raises_own (T.sub 11 (by decide)) (T.ty 11 (by decide))) (by rfl)))) pss_nil)
      (pss_cons (ps_if (pt_cmpR op_eq (pv 0) pe_int (nomark _)) (pss_one (ps_raise rfl (takes_of rfl rfl rfl rfl) (mk_bare PySem.F.excBase_ValueError (T.exc 12 (by decide) (by decide)) (T.g 12 (by decide)) (T.kp 12 (by decide)) (raises_own (T.sub 12 (by decide)) (T.ty 12 (by decide))) (by rfl)))) pss_nil)
      (pss_cons (ps_if (pt_cmpR op_eq (pv 0) pe_int (nomark _)) (pss_one (ps_raise rfl (takes_of rfl rfl rfl rfl) (mk_bare PySem.F.excBase_ValueError (T.exc 13 (by decide) (by decide)) (T.g 13 (by decide)) (T.kp 13 (by decide)) (raises_own (T.sub 13 (by decide)) (T.ty 13 (by decide))) (by rfl)))) pss_nil)
      (pss_cons (ps_if (pt_cmpR op_eq (pv 0) pe_int (nomark _)) (pss_one (ps_raise rfl (takes_of rfl rfl rfl rfl) (mk_bare PySem.F.excBase_ValueError (T.exc 14 (by decide) (by decide)) (T.g 14 (by decide)) (T.kp 14 (by decide)) (raises_own (T.sub 14 (by decide)) (T.ty 14 (by decide))) (by rfl)))) pss_nil)
      (pss_cons (ps_if (pt_cmpR op_eq (pv 0) pe_int (nomark _)) (pss_one (ps_raise rfl (takes_of rfl rfl rfl rfl) (mk_bare PySem.F.excBase_ValueError (T.exc 15 (by decide) (by decide)) (T.g 15 (by decide)) (T.kp 15 (by decide)) (raises_own (T.sub 15 (by decide)) (T.ty 15 (by decide))) (by rfl)))) pss_nil)
      (pss_cons (ps_if (pt_cmpR op_eq (pv 0) pe_int (nomark _)) (pss_one (ps_raise rfl (takes_of rfl rfl rfl rfl) (mk_bare PySem.F.excBase_ValueError (T.exc 16 (by decide) (by decide)) (T.g 16 (by decide)) (T.kp 16 (by decide)) (raises_own (T.sub 16 (by decide)) (T.ty 16 (by decide))) (by rfl)))) pss_nil)
      (pss_cons (ps_if (pt_cmpR op_eq (pv 0) pe_int (nomark _)) (pss_one (ps_raise rfl (takes_of rfl rfl rfl rfl) (mk_bare PySem.F.excBase_ValueError (T.exc 17 (by decide) (by decide)) (T.g 17 (by decide)) (T.kp 17 (by decide)) (raises_own (T.sub 17 (by decide)) (T.ty 17 (by decide))) (by rfl)))) pss_nil)
      (pss_cons (ps_if (pt_cmpR op_eq (pv 0) pe_int (nomark _)) (pss_one (ps_raise rfl (takes_of rfl rfl rfl rfl) (mk_bare PySem.F.excBase_ValueError (T.exc 18 (by decide) (by decide)) (T.g 18 (by decide)) (T.kp 18 (by decide)) (raises_own (T.sub 18 (by decide)) (T.ty 18 (by decide))) (by rfl)))) pss_nil)
      (pss_cons (ps_if (pt_cmpR op_eq (pv 0) pe_int (nomark _)) (pss_one (ps_raise rfl (takes_of rfl rfl rfl rfl) (mk_bare PySem.F.excBase_ValueError (T.exc 19 (by decide) (by decide)) (T.g 19 (by decide)) (T.kp 19 (by decide)) (raises_own (T.sub 19 (by decide)) (T.ty 19 (by decide))) (by rfl)))) pss_nil)
      (pss_cons (ps_if (pt_cmpR op_eq (pv 0) pe_int (nomark _)) (pss_one (ps_raise rfl (takes_of rfl rfl rfl rfl) (mk_bare PySem.F.excBase_ValueError (T.exc 20 (by decide) (by decide)) (T.g 20 (by decide)) (T.kp 20 (by decide)) (raises_own (T.sub 20 (by decide)) (T.ty 20 (by decide))) (by rfl)))) pss_nil)
      (pss_cons (ps_if (pt_cmpR op_eq (pv 0) pe_int (nomark _)) (pss_one (ps_raise rfl (takes_of rfl rfl rfl rfl) (mk_bare PySem.F.excBase_ValueError (T.exc 21 (by decide) (by decide)) (T.g 21 (by decide)) (T.kp 21 (by decide)) (raises_own (T.sub 21 (by decide)) (T.ty 21 (by decide))) (by rfl)))) pss_nil)
      (pss_one (ps_raise rfl (takes_of rfl rfl rfl rfl) (mk_bare PySem.F.excBase_ValueError (T.exc 22 (by decide) (by decide)) (T.g 22 (by decide)) (T.kp 22 (by decide)) (raises_own (T.sub 22 (by decide)) (T.ty 22 (by decide))) (by rfl)))))))))))))))), ?_⟩
    have hk := tenP h2 h1
    rcases hk with rfl | rfl | rfl | rfl | rfl | rfl | rfl | rfl | rfl | rfl | rfl | rfl | rfl
    · skip
      exact ⟨_, rfl, rfl, _, rfl, kq⟩
    · skip
      refine ⟨_, rfl, rfl, _, rfl, ?_⟩
      exact ⟨_, rfl, rfl, _, rfl, kq⟩
    · skip
      refine ⟨_, rfl, rfl, _, rfl, ?_⟩
      refine ⟨_, rfl, rfl, _, rfl, ?_⟩
      exact ⟨_, rfl, rfl, _, rfl, kq⟩
    · skip
      refine ⟨_, rfl, rfl, _, rfl, ?_⟩
      refine ⟨_, rfl, rfl, _, rfl, ?_⟩
      refine ⟨_, rfl, rfl, _, rfl, ?_⟩
      exact ⟨_, rfl, rfl, _, rfl, kq⟩
    · skip
      refine ⟨_, rfl, rfl, _, rfl, ?_⟩
      refine ⟨_, rfl, rfl, _, rfl, ?_⟩
      refine ⟨_, rfl, rfl, _, rfl, ?_⟩
      refine ⟨_, rfl, rfl, _, rfl, ?_⟩
      exact ⟨_, rfl, rfl, _, rfl, kq⟩
    · skip
      refine ⟨_, rfl, rfl, _, rfl, ?_⟩
      refine ⟨_, rfl, rfl, _, rfl, ?_⟩
      refine ⟨_, rfl, rfl, _, rfl, ?_⟩
      refine ⟨_, rfl, rfl, _, rfl, ?_⟩
      refine ⟨_, rfl, rfl, _, rfl, ?_⟩
      exact ⟨_, rfl, rfl, _, rfl, kq⟩
    · skip
      refine ⟨_, rfl, rfl, _, rfl, ?_⟩
      refine ⟨_, rfl, rfl, _, rfl, ?_⟩
      refine ⟨_, rfl, rfl, _, rfl, ?_⟩
      refine ⟨_, rfl, rfl, _, rfl, ?_⟩
      refine ⟨_, rfl, rfl, _, rfl, ?_⟩
      refine ⟨_, rfl, rfl, _, rfl, ?_⟩
      exact ⟨_, rfl, rfl, _, rfl, kq⟩
    · skip
      refine ⟨_, rfl, rfl, _, rfl, ?_⟩
      refine ⟨_, rfl, rfl, _, rfl, ?_⟩
      refine ⟨_, rfl, rfl, _, rfl, ?_⟩
      refine ⟨_, rfl, rfl, _, rfl, ?_⟩
      refine ⟨_, rfl, rfl, _, rfl, ?_⟩
      refine ⟨_, rfl, rfl, _, rfl, ?_⟩
      refine ⟨_, rfl, rfl, _, rfl, ?_⟩
      exact ⟨_, rfl, rfl, _, rfl, kq⟩
    · skip
      refine ⟨_, rfl, rfl, _, rfl, ?_⟩
      refine ⟨_, rfl, rfl, _, rfl, ?_⟩
      refine ⟨_, rfl, rfl, _, rfl, ?_⟩
      refine ⟨_, rfl, rfl, _, rfl, ?_⟩
      refine ⟨_, rfl, rfl, _, rfl, ?_⟩
      refine ⟨_, rfl, rfl, _, rfl, ?_⟩
      refine ⟨_, rfl, rfl, _, rfl, ?_⟩
      refine ⟨_, rfl, rfl, _, rfl, ?_⟩
      exact ⟨_, rfl, rfl, _, rfl, kq⟩
    · skip
      refine ⟨_, rfl, rfl, _, rfl, ?_⟩
      refine ⟨_, rfl, rfl, _, rfl, ?_⟩
      refine ⟨_, rfl, rfl, _, rfl, ?_⟩
      refine ⟨_, rfl, rfl, _, rfl, ?_⟩
      refine ⟨_, rfl, rfl, _, rfl, ?_⟩
      refine ⟨_, rfl, rfl, _, rfl, ?_⟩
      refine ⟨_, rfl, rfl, _, rfl, ?_⟩
      refine ⟨_, rfl, rfl, _, rfl, ?_⟩
      refine ⟨_, rfl, rfl, _, rfl, ?_⟩
      exact ⟨_, rfl, rfl, _, rfl, kq⟩
    · skip
      refine ⟨_, rfl, rfl, _, rfl, ?_⟩
      refine ⟨_, rfl, rfl, _, rfl, ?_⟩
      refine ⟨_, rfl, rfl, _, rfl, ?_⟩
      refine ⟨_, rfl, rfl, _, rfl, ?_⟩
      refine ⟨_, rfl, rfl, _, rfl, ?_⟩
      refine ⟨_, rfl, rfl, _, rfl, ?_⟩
      refine ⟨_, rfl, rfl, _, rfl, ?_⟩
      refine ⟨_, rfl, rfl, _, rfl, ?_⟩
      refine ⟨_, rfl, rfl, _, rfl, ?_⟩
      refine ⟨_, rfl, rfl, _, rfl, ?_⟩
      exact ⟨_, rfl, rfl, _, rfl, kq⟩
    · skip
      refine ⟨_, rfl, rfl, _, rfl, ?_⟩
      refine ⟨_, rfl, rfl, _, rfl, ?_⟩
      refine ⟨_, rfl, rfl, _, rfl, ?_⟩
      refine ⟨_, rfl, rfl, _, rfl, ?_⟩
      refine ⟨_, rfl, rfl, _, rfl, ?_⟩
      refine ⟨_, rfl, rfl, _, rfl, ?_⟩
      refine ⟨_, rfl, rfl, _, rfl, ?_⟩
      refine ⟨_, rfl, rfl, _, rfl, ?_⟩
      refine ⟨_, rfl, rfl, _, rfl, ?_⟩
      refine ⟨_, rfl, rfl, _, rfl, ?_⟩
      refine ⟨_, rfl, rfl, _, rfl, ?_⟩
      exact ⟨_, rfl, rfl, _, rfl, kq⟩
    · skip
      refine ⟨_, rfl, rfl, _, rfl, ?_⟩
      refine ⟨_, rfl, rfl, _, rfl, ?_⟩
      refine ⟨_, rfl, rfl, _, rfl, ?_⟩
      refine ⟨_, rfl, rfl, _, rfl, ?_⟩
      refine ⟨_, rfl, rfl, _, rfl, ?_⟩
      refine ⟨_, rfl, rfl, _, rfl, ?_⟩
      refine ⟨_, rfl, rfl, _, rfl, ?_⟩
      refine ⟨_, rfl, rfl, _, rfl, ?_⟩
      refine ⟨_, rfl, rfl, _, rfl, ?_⟩
      refine ⟨_, rfl, rfl, _, rfl, ?_⟩
      refine ⟨_, rfl, rfl, _, rfl, ?_⟩
      refine ⟨_, rfl, rfl, _, rfl, ?_⟩
      exact kq
theorem scRaise : FnScope ["_law_which", "_law_one"] ["_law_which", "_law_one"] (defScope sRaise) := ⟨rfl, rfl, rfl, by decide +kernel, rfl, by decide +kernel, by decide +kernel⟩
theorem oksRaise {f : Addr} {fd : FuncData} (D : At K mg "_law_raise" sRaise ["_law_which", "_law_one"] f fd) (T : ErrT K mg ca cp) (hp : HasX P w K mg base 1 "_law_raise_plain" ["_law_which"] (spPlain ca)) (hi0 : HasI P w K mg base (ca 0) "part") (hi1 : HasI P w K mg base (ca 1) "part") (hi2 : HasI P w K mg base (ca 2) "part") (hi3 : HasI P w K mg base (ca 3) "at") (hi4 : HasI P w K mg base (ca 4) "at") (hi5 : HasI P w K mg base (ca 5) "at") (hi6 : HasI P w K mg base (ca 6) "due") (hi7 : HasI P w K mg base (ca 7) "place") (hi8 : HasI P w K mg base (ca 8) "most") (hi9 : HasI P w K mg base (ca 9) "name") : HasX P w K mg base 4 "_law_raise" ["_law_which", "_law_one"] (spRaise ca) := by
  obtain ⟨f_p, fd_p, F_p, g_p, k_p, b_p⟩ := hp
  obtain ⟨f0, fd0, F0, i0, t0, b0, n0⟩ := hi0
  obtain ⟨f1, fd1, F1, i1, t1, b1, n1⟩ := hi1
  obtain ⟨f2, fd2, F2, i2, t2, b2, n2⟩ := hi2
  obtain ⟨f3, fd3, F3, i3, t3, b3, n3⟩ := hi3
  obtain ⟨f4, fd4, F4, i4, t4, b4, n4⟩ := hi4
  obtain ⟨f5, fd5, F5, i5, t5, b5, n5⟩ := hi5
  obtain ⟨f6, fd6, F6, i6, t6, b6, n6⟩ := hi6
  obtain ⟨f7, fd7, F7, i7, t7, b7, n7⟩ := hi7
  obtain ⟨f8, fd8, F8, i8, t8, b8, n8⟩ := hi8
  obtain ⟨f9, fd9, F9, i9, t9, b9, n9⟩ := hi9
  refine ⟨f, fd, D.F.okX scRaise (fun vs H Q E h => ?_) (fun cdv A outer s H vs Q E hr h => ?_), D.g, D.k, D.b⟩
  · obtain ⟨_, _, _, rfl, _⟩ := h
    rfl
  · obtain ⟨k, v, h1, rfl, kp, kf⟩ := h
    refine ⟨_, (pss_cons (ps_if (pt_cmpR op_eq (pv 0) pe_int (nomark _)) (pss_one (ps_raise rfl (takes_of rfl rfl rfl rfl) (pmk_oex (T.o 0 (by decide)) i0 t0 F0 (k := 1) (hr.mono (by decide)) b0 .nil (fun _ _ _ _ _ _ _ z => z.elim) (by rfl) (T.g 0 (by decide)) (pa_cons (pv 1) pa_nil)))) pss_nil)
      (pss_cons (ps_if (pt_cmpR op_eq (pv 0) pe_int (nomark _)) (pss_one (ps_raise rfl (takes_of rfl rfl rfl rfl) (pmk_oex (T.o 1 (by decide)) i1 t1 F1 (k := 1) (hr.mono (by decide)) b1 .nil (fun _ _ _ _ _ _ _ z => z.elim) (by rfl) (T.g 1 (by decide)) (pa_cons (pv 1) pa_nil)))) pss_nil)
      (pss_cons (ps_if (pt_cmpR op_eq (pv 0) pe_int (nomark _)) (pss_one (ps_raise rfl (takes_of rfl rfl rfl rfl) (pmk_oex (T.o 2 (by decide)) i2 t2 F2 (k := 1) (hr.mono (by decide)) b2 .nil (fun _ _ _ _ _ _ _ z => z.elim) (by rfl) (T.g 2 (by decide)) (pa_cons (pv 1) pa_nil)))) pss_nil)
      (pss_cons (ps_if (pt_cmpR op_eq (pv 0) pe_int (nomark _)) (pss_one (ps_raise rfl (takes_of rfl rfl rfl rfl) (pmk_oex (T.o 3 (by decide)) i3 t3 F3 (k := 1) (hr.mono (by decide)) b3 .nil (fun _ _ _ _ _ _ _ z => z.elim) (by rfl) (T.g 3 (by decide)) (pa_cons (pv 1) pa_nil)))) pss_nil)
      (pss_cons (ps_if (pt_cmpR op_eq (pv 0) pe_int (nomark _)) (pss_one (ps_raise rfl (takes_of rfl rfl rfl rfl) (pmk_oex (T.o 4 (by decide)) i4 t4 F4 (k := 1) (hr.mono (by decide)) b4 .nil (fun _ _ _ _ _ _ _ z => z.elim) (by rfl) (T.g 4 (by decide)) (pa_cons (pv 1) pa_nil)))) pss_nil)
      (pss_cons (ps_if (pt_cmpR op_eq (pv 0) pe_int (nomark _)) (pss_one (ps_raise rfl (takes_of rfl rfl rfl rfl) (pmk_oex (T.o 5 (by decide)) i5 t5 F5 (k := 1) (hr.mono (by decide)) b5 .nil (fun _ _ _ _ _ _ _ z => z.elim) (by rfl) (T.g 5 (by decide)) (pa_cons (pv 1) pa_nil)))) pss_nil)
      (pss_cons (ps_if (pt_cmpR op_eq (pv 0) pe_int (nomark _)) (pss_one (ps_raise rfl (takes_of rfl rfl rfl rfl) (pmk_oex (T.o 6 (by decide)) i6 t6 F6 (k := 1) (hr.mono (by decide)) b6 .nil (fun _ _ _ _ _ _ _ z => z.elim) (by rfl) (T.g 6 (by decide)) (pa_cons (pv 1) pa_nil)))) pss_nil)
      (pss_cons (ps_if (pt_cmpR op_eq (pv 0) pe_int (nomark _)) (pss_one (ps_raise rfl (takes_of rfl rfl rfl rfl) (pmk_oex (T.o 7 (by decide)) i7 t7 F7 (k := 1) (hr.mono (by decide)) b7 .nil (fun _ _ _ _ _ _ _ z => z.elim) (by rfl) (T.g 7 (by decide)) (pa_cons (pv 1) pa_nil)))) pss_nil)
      (pss_cons (ps_if (pt_cmpR op_eq (pv 0) pe_int (nomark _)) (pss_one (ps_raise rfl (takes_of rfl rfl rfl rfl) (pmk_oex (T.o 8 (by decide)) i8 t8 F8 (k := 1) (hr.mono (by decide)) b8 .nil (fun _ _ _ _ _ _ _ z => z.elim) (by rfl) (T.g 8 (by decide)) (pa_cons (pv 1) pa_nil)))) pss_nil)
      (pss_cons (ps_if (pt_cmpR op_eq (pv 0) pe_int (nomark _)) (pss_one (ps_raise rfl (takes_of rfl rfl rfl rfl) (pmk_oex (T.o 9 (by decide)) i9 t9 F9 (k := 1) (hr.mono (by decide)) b9 .nil (fun _ _ _ _ _ _ _ z => z.elim) (by rfl) (T.g 9 (by decide)) (pa_cons (pv 1) pa_nil)))) pss_nil)
      (pss_one (ps_expr (pe_callS F_p (hr.mono (by decide)) (by rfl) g_p k_p b_p (fun σ => passAt (takes_of rfl rfl rfl rfl) σ) (pa_cons (pv 0) pa_nil)))))))))))))), ?_⟩
    rcases tenE h1 with rfl | rfl | rfl | rfl | rfl | rfl | rfl | rfl | rfl | rfl | rfl | rfl | rfl | rfl | rfl | rfl | rfl | rfl | rfl | rfl | rfl | rfl | rfl
    · skip
      refine ⟨_, rfl, rfl, _, rfl, _, rfl, (by show 1 ≤ 1000; decide), fun a ha => ⟨a, ca 0, v, rfl, T.o 0 (by decide), T.no 0 (by decide) 0 (by decide), upd_same, fun dx hdx ne => ⟨rfl, dx, _, upd_same, by rw [upd_ne ne, upd_same], by rw [upd_ne ne] at hdx; exact hdx, ?_⟩⟩⟩
      exact kf (by decide) dx _ (made_same ha hdx ne) upd_same
    · skip
      refine ⟨_, rfl, rfl, _, rfl, ?_⟩
      refine ⟨_, rfl, rfl, _, rfl, _, rfl, (by show 1 ≤ 1000; decide), fun a ha => ⟨a, ca 1, v, rfl, T.o 1 (by decide), T.no 1 (by decide) 1 (by decide), upd_same, fun dx hdx ne => ⟨rfl, dx, _, upd_same, by rw [upd_ne ne, upd_same], by rw [upd_ne ne] at hdx; exact hdx, ?_⟩⟩⟩
      exact kf (by decide) dx _ (made_same ha hdx ne) upd_same
    · skip
      refine ⟨_, rfl, rfl, _, rfl, ?_⟩
      refine ⟨_, rfl, rfl, _, rfl, ?_⟩
      refine ⟨_, rfl, rfl, _, rfl, _, rfl, (by show 1 ≤ 1000; decide), fun a ha => ⟨a, ca 2, v, rfl, T.o 2 (by decide), T.no 2 (by decide) 2 (by decide), upd_same, fun dx hdx ne => ⟨rfl, dx, _, upd_same, by rw [upd_ne ne, upd_same], by rw [upd_ne ne] at hdx; exact hdx, ?_⟩⟩⟩
      exact kf (by decide) dx _ (made_same ha hdx ne) upd_same
    · skip
      refine ⟨_, rfl, rfl, _, rfl, ?_⟩
      refine ⟨_, rfl, rfl, _, rfl, ?_⟩
      refine ⟨_, rfl, rfl, _, rfl, ?_⟩
      refine ⟨_, rfl, rfl, _, rfl, _, rfl, (by show 1 ≤ 1000; decide), fun a ha => ⟨a, ca 3, v, rfl, T.o 3 (by decide), T.no 3 (by decide) 3 (by decide), upd_same, fun dx hdx ne => ⟨rfl, dx, _, upd_same, by rw [upd_ne ne, upd_same], by rw [upd_ne ne] at hdx; exact hdx, ?_⟩⟩⟩
      exact kf (by decide) dx _ (made_same ha hdx ne) upd_same
    · skip
      refine ⟨_, rfl, rfl, _, rfl, ?_⟩
      refine ⟨_, rfl, rfl, _, rfl, ?_⟩
      refine ⟨_, rfl, rfl, _, rfl, ?_⟩
      refine ⟨_, rfl, rfl, _, rfl, ?_⟩
      refine ⟨_, rfl, rfl, _, rfl, _, rfl, (by show 1 ≤ 1000; decide), fun a ha => ⟨a, ca 4, v, rfl, T.o 4 (by decide), T.no 4 (by decide) 4 (by decide), upd_same, fun dx hdx ne => ⟨rfl, dx, _, upd_same, by rw [upd_ne ne, upd_same], by rw [upd_ne ne] at hdx; exact hdx, ?_⟩⟩⟩
      exact kf (by decide) dx _ (made_same ha hdx ne) upd_same
    · skip
      refine ⟨_, rfl, rfl, _, rfl, ?_⟩
      refine ⟨_, rfl, rfl, _, rfl, ?_⟩
      refine ⟨_, rfl, rfl, _, rfl, ?_⟩
      refine ⟨_, rfl, rfl, _, rfl, ?_⟩
      refine ⟨_, rfl, rfl, _, rfl, ?_⟩
      refine ⟨_, rfl, rfl, _, rfl, _, rfl, (by show 1 ≤ 1000; decide), fun a ha => ⟨a, ca 5, v, rfl, T.o 5 (by decide), T.no 5 (by decide) 5 (by decide), upd_same, fun dx hdx ne => ⟨rfl, dx, _, upd_same, by rw [upd_ne ne, upd_same], by rw [upd_ne ne] at hdx; exact hdx, ?_⟩⟩⟩
      exact kf (by decide) dx _ (made_same ha hdx ne) upd_same
    · skip
      refine ⟨_, rfl, rfl, _, rfl, ?_⟩
      refine ⟨_, rfl, rfl, _, rfl, ?_⟩
      refine ⟨_, rfl, rfl, _, rfl, ?_⟩
      refine ⟨_, rfl, rfl, _, rfl, ?_⟩
      refine ⟨_, rfl, rfl, _, rfl, ?_⟩
      refine ⟨_, rfl, rfl, _, rfl, ?_⟩
      refine ⟨_, rfl, rfl, _, rfl, _, rfl, (by show 1 ≤ 1000; decide), fun a ha => ⟨a, ca 6, v, rfl, T.o 6 (by decide), T.no 6 (by decide) 6 (by decide), upd_same, fun dx hdx ne => ⟨rfl, dx, _, upd_same, by rw [upd_ne ne, upd_same], by rw [upd_ne ne] at hdx; exact hdx, ?_⟩⟩⟩
      exact kf (by decide) dx _ (made_same ha hdx ne) upd_same
    · skip
      refine ⟨_, rfl, rfl, _, rfl, ?_⟩
      refine ⟨_, rfl, rfl, _, rfl, ?_⟩
      refine ⟨_, rfl, rfl, _, rfl, ?_⟩
      refine ⟨_, rfl, rfl, _, rfl, ?_⟩
      refine ⟨_, rfl, rfl, _, rfl, ?_⟩
      refine ⟨_, rfl, rfl, _, rfl, ?_⟩
      refine ⟨_, rfl, rfl, _, rfl, ?_⟩
      refine ⟨_, rfl, rfl, _, rfl, _, rfl, (by show 1 ≤ 1000; decide), fun a ha => ⟨a, ca 7, v, rfl, T.o 7 (by decide), T.no 7 (by decide) 7 (by decide), upd_same, fun dx hdx ne => ⟨rfl, dx, _, upd_same, by rw [upd_ne ne, upd_same], by rw [upd_ne ne] at hdx; exact hdx, ?_⟩⟩⟩
      exact kf (by decide) dx _ (made_same ha hdx ne) upd_same
    · skip
      refine ⟨_, rfl, rfl, _, rfl, ?_⟩
      refine ⟨_, rfl, rfl, _, rfl, ?_⟩
      refine ⟨_, rfl, rfl, _, rfl, ?_⟩
      refine ⟨_, rfl, rfl, _, rfl, ?_⟩
      refine ⟨_, rfl, rfl, _, rfl, ?_⟩
      refine ⟨_, rfl, rfl, _, rfl, ?_⟩
      refine ⟨_, rfl, rfl, _, rfl, ?_⟩
      refine ⟨_, rfl, rfl, _, rfl, ?_⟩
      refine ⟨_, rfl, rfl, _, rfl, _, rfl, (by show 1 ≤ 1000; decide), fun a ha => ⟨a, ca 8, v, rfl, T.o 8 (by decide), T.no 8 (by decide) 8 (by decide), upd_same, fun dx hdx ne => ⟨rfl, dx, _, upd_same, by rw [upd_ne ne, upd_same], by rw [upd_ne ne] at hdx; exact hdx, ?_⟩⟩⟩
      exact kf (by decide) dx _ (made_same ha hdx ne) upd_same
    · skip
      refine ⟨_, rfl, rfl, _, rfl, ?_⟩
      refine ⟨_, rfl, rfl, _, rfl, ?_⟩
      refine ⟨_, rfl, rfl, _, rfl, ?_⟩
      refine ⟨_, rfl, rfl, _, rfl, ?_⟩
      refine ⟨_, rfl, rfl, _, rfl, ?_⟩
      refine ⟨_, rfl, rfl, _, rfl, ?_⟩
      refine ⟨_, rfl, rfl, _, rfl, ?_⟩
      refine ⟨_, rfl, rfl, _, rfl, ?_⟩
      refine ⟨_, rfl, rfl, _, rfl, ?_⟩
      refine ⟨_, rfl, rfl, _, rfl, _, rfl, (by show 1 ≤ 1000; decide), fun a ha => ⟨a, ca 9, v, rfl, T.o 9 (by decide), T.no 9 (by decide) 9 (by decide), upd_same, fun dx hdx ne => ⟨rfl, dx, _, upd_same, by rw [upd_ne ne, upd_same], by rw [upd_ne ne] at hdx; exact hdx, ?_⟩⟩⟩
      exact kf (by decide) dx _ (made_same ha hdx ne) upd_same
    · skip
      refine ⟨_, rfl, rfl, _, rfl, ?_⟩
      refine ⟨_, rfl, rfl, _, rfl, ?_⟩
      refine ⟨_, rfl, rfl, _, rfl, ?_⟩
      refine ⟨_, rfl, rfl, _, rfl, ?_⟩
      refine ⟨_, rfl, rfl, _, rfl, ?_⟩
      refine ⟨_, rfl, rfl, _, rfl, ?_⟩
      refine ⟨_, rfl, rfl, _, rfl, ?_⟩
      refine ⟨_, rfl, rfl, _, rfl, ?_⟩
      refine ⟨_, rfl, rfl, _, rfl, ?_⟩
      refine ⟨_, rfl, rfl, _, rfl, ?_⟩
      exact ⟨_, rfl, 10, by decide, by decide, rfl, kp (by decide)⟩
    · skip
      refine ⟨_, rfl, rfl, _, rfl, ?_⟩
      refine ⟨_, rfl, rfl, _, rfl, ?_⟩
      refine ⟨_, rfl, rfl, _, rfl, ?_⟩
      refine ⟨_, rfl, rfl, _, rfl, ?_⟩
      refine ⟨_, rfl, rfl, _, rfl, ?_⟩
      refine ⟨_, rfl, rfl, _, rfl, ?_⟩
      refine ⟨_, rfl, rfl, _, rfl, ?_⟩
      refine ⟨_, rfl, rfl, _, rfl, ?_⟩
      refine ⟨_, rfl, rfl, _, rfl, ?_⟩
      refine ⟨_, rfl, rfl, _, rfl, ?_⟩
      exact ⟨_, rfl, 11, by decide, by decide, rfl, kp (by decide)⟩
    · skip
      refine ⟨_, rfl, rfl, _, rfl, ?_⟩
      refine ⟨_, rfl, rfl, _, rfl, ?_⟩
      refine ⟨_, rfl, rfl, _, rfl, ?_⟩
      refine ⟨_, rfl, rfl, _, rfl, ?_⟩
      refine ⟨_, rfl, rfl, _, rfl, ?_⟩
      refine ⟨_, rfl, rfl, _, rfl, ?_⟩
      refine ⟨_, rfl, rfl, _, rfl, ?_⟩
      refine ⟨_, rfl, rfl, _, rfl, ?_⟩
      refine ⟨_, rfl, rfl, _, rfl, ?_⟩
      refine ⟨_, rfl, rfl, _, rfl, ?_⟩
      exact ⟨_, rfl, 12, by decide, by decide, rfl, kp (by decide)⟩
    · skip
      refine ⟨_, rfl, rfl, _, rfl, ?_⟩
      refine ⟨_, rfl, rfl, _, rfl, ?_⟩
      refine ⟨_, rfl, rfl, _, rfl, ?_⟩
      refine ⟨_, rfl, rfl, _, rfl, ?_⟩
      refine ⟨_, rfl, rfl, _, rfl, ?_⟩
      refine ⟨_, rfl, rfl, _, rfl, ?_⟩
      refine ⟨_, rfl, rfl, _, rfl, ?_⟩
      refine ⟨_, rfl, rfl, _, rfl, ?_⟩
      refine ⟨_, rfl, rfl, _, rfl, ?_⟩
      refine ⟨_, rfl, rfl, _, rfl, ?_⟩
      exact ⟨_, rfl, 13, by decide, by decide, rfl, kp (by decide)⟩
    · skip
      refine ⟨_, rfl, rfl, _, rfl, ?_⟩
      refine ⟨_, rfl, rfl, _, rfl, ?_⟩
      refine ⟨_, rfl, rfl, _, rfl, ?_⟩
      refine ⟨_, rfl, rfl, _, rfl, ?_⟩
      refine ⟨_, rfl, rfl, _, rfl, ?_⟩
      refine ⟨_, rfl, rfl, _, rfl, ?_⟩
      refine ⟨_, rfl, rfl, _, rfl, ?_⟩
      refine ⟨_, rfl, rfl, _, rfl, ?_⟩
      refine ⟨_, rfl, rfl, _, rfl, ?_⟩
      refine ⟨_, rfl, rfl, _, rfl, ?_⟩
      exact ⟨_, rfl, 14, by decide, by decide, rfl, kp (by decide)⟩
    · skip
      refine ⟨_, rfl, rfl, _, rfl, ?_⟩
      refine ⟨_, rfl, rfl, _, rfl, ?_⟩
      refine ⟨_, rfl, rfl, _, rfl, ?_⟩
      refine ⟨_, rfl, rfl, _, rfl, ?_⟩
      refine ⟨_, rfl, rfl, _, rfl, ?_⟩
      refine ⟨_, rfl, rfl, _, rfl, ?_⟩
      refine ⟨_, rfl, rfl, _, rfl, ?_⟩
      refine ⟨_, rfl, rfl, _, rfl, ?_⟩
      refine ⟨_, rfl, rfl, _, rfl, ?_⟩
      refine ⟨_, rfl, rfl, _, rfl, ?_⟩
      exact ⟨_, rfl, 15, by decide, by decide, rfl, kp (by decide)⟩
    · skip
      refine ⟨_, rfl, rfl, _, rfl, ?_⟩
      refine ⟨_, rfl, rfl, _, rfl, ?_⟩
      refine ⟨_, rfl, rfl, _, rfl, ?_⟩
      refine ⟨_, rfl, rfl, _, rfl, ?_⟩
      refine ⟨_, rfl, rfl, _, rfl, ?_⟩
      refine ⟨_, rfl, rfl, _, rfl, ?_⟩
      refine ⟨_, rfl, rfl, _, rfl, ?_⟩
      refine ⟨_, rfl, rfl, _, rfl, ?_⟩
      refine ⟨_, rfl, rfl, _, rfl, ?_⟩
      refine ⟨_, rfl, rfl, _, rfl, ?_⟩
      exact ⟨_, rfl, 16, by decide, by decide, rfl, kp (by decide)⟩
    · skip
      refine ⟨_, rfl, rfl, _, rfl, ?_⟩
      refine ⟨_, rfl, rfl, _, rfl, ?_⟩
      refine ⟨_, rfl, rfl, _, rfl, ?_⟩
      refine ⟨_, rfl, rfl, _, rfl, ?_⟩
      refine ⟨_, rfl, rfl, _, rfl, ?_⟩
      refine ⟨_, rfl, rfl, _, rfl, ?_⟩
      refine ⟨_, rfl, rfl, _, rfl, ?_⟩
      refine ⟨_, rfl, rfl, _, rfl, ?_⟩
      refine ⟨_, rfl, rfl, _, rfl, ?_⟩
      refine ⟨_, rfl, rfl, _, rfl, ?_⟩
      exact ⟨_, rfl, 17, by decide, by decide, rfl, kp (by decide)⟩
    · skip
      refine ⟨_, rfl, rfl, _, rfl, ?_⟩
      refine ⟨_, rfl, rfl, _, rfl, ?_⟩
      refine ⟨_, rfl, rfl, _, rfl, ?_⟩
      refine ⟨_, rfl, rfl, _, rfl, ?_⟩
      refine ⟨_, rfl, rfl, _, rfl, ?_⟩
      refine ⟨_, rfl, rfl, _, rfl, ?_⟩
      refine ⟨_, rfl, rfl, _, rfl, ?_⟩
      refine ⟨_, rfl, rfl, _, rfl, ?_⟩
      refine ⟨_, rfl, rfl, _, rfl, ?_⟩
      refine ⟨_, rfl, rfl, _, rfl, ?_⟩
      exact ⟨_, rfl, 18, by decide, by decide, rfl, kp (by decide)⟩
    · skip
      refine ⟨_, rfl, rfl, _, rfl, ?_⟩
      refine ⟨_, rfl, rfl, _, rfl, ?_⟩
      refine ⟨_, rfl, rfl, _, rfl, ?_⟩
      refine ⟨_, rfl, rfl, _, rfl, ?_⟩
      refine ⟨_, rfl, rfl, _, rfl, ?_⟩
      refine ⟨_, rfl, rfl, _, rfl, ?_⟩
      refine ⟨_, rfl, rfl, _, rfl, ?_⟩
      refine ⟨_, rfl, rfl, _, rfl, ?_⟩
      refine ⟨_, rfl, rfl, _, rfl, ?_⟩
      refine ⟨_, rfl, rfl, _, rfl, ?_⟩
      exact ⟨_, rfl, 19, by decide, by decide, rfl, kp (by decide)⟩
    · skip
      refine ⟨_, rfl, rfl, _, rfl, ?_⟩
      refine ⟨_, rfl, rfl, _, rfl, ?_⟩
      refine ⟨_, rfl, rfl, _, rfl, ?_⟩
      refine ⟨_, rfl, rfl, _, rfl, ?_⟩
      refine ⟨_, rfl, rfl, _, rfl, ?_⟩
      refine ⟨_, rfl, rfl, _, rfl, ?_⟩
      refine ⟨_, rfl, rfl, _, rfl, ?_⟩
      refine ⟨_, rfl, rfl, _, rfl, ?_⟩
      refine ⟨_, rfl, rfl, _, rfl, ?_⟩
      refine ⟨_, rfl, rfl, _, rfl, ?_⟩
      exact ⟨_, rfl, 20, by decide, by decide, rfl, kp (by decide)⟩
    · skip
      refine ⟨_, rfl, rfl, _, rfl, ?_⟩
      refine ⟨_, rfl, rfl, _, rfl, ?_⟩
      refine ⟨_, rfl, rfl, _, rfl, ?_⟩
      refine ⟨_, rfl, rfl, _, rfl, ?_⟩
      refine ⟨_, rfl, rfl, _, rfl, ?_⟩
      refine ⟨_, rfl, rfl, _, rfl, ?_⟩
      refine ⟨_, rfl, rfl, _, rfl, ?_⟩
      refine ⟨_, rfl, rfl, _, rfl, ?_⟩
      refine ⟨_, rfl, rfl, _, rfl, ?_⟩
      refine ⟨_, rfl, rfl, _, rfl, ?_⟩
      exact ⟨_, rfl, 21, by decide, by decide, rfl, kp (by decide)⟩
    · skip
      refine ⟨_, rfl, rfl, _, rfl, ?_⟩
      refine ⟨_, rfl, rfl, _, rfl, ?_⟩
      refine ⟨_, rfl, rfl, _, rfl, ?_⟩
      refine ⟨_, rfl, rfl, _, rfl, ?_⟩
      refine ⟨_, rfl, rfl, _, rfl, ?_⟩
      refine ⟨_, rfl, rfl, _, rfl, ?_⟩
      refine ⟨_, rfl, rfl, _, rfl, ?_⟩
      refine ⟨_, rfl, rfl, _, rfl, ?_⟩
      refine ⟨_, rfl, rfl, _, rfl, ?_⟩
      refine ⟨_, rfl, rfl, _, rfl, ?_⟩
      exact ⟨_, rfl, 22, by decide, by decide, rfl, kp (by decide)⟩
theorem scNamed : FnScope ["_law_which", "_law_one"] ["_law_which", "_law_one"] (defScope sNamed) := ⟨rfl, rfl, rfl, by decide +kernel, rfl, by decide +kernel, by decide +kernel⟩
theorem oksNamed {f : Addr} {fd : FuncData} (D : At K mg "_law_raise_named" sNamed ["_law_which", "_law_one"] f fd) (T : ErrT K mg ca cp) (hp : HasX P w K mg base 1 "_law_raise_plain" ["_law_which"] (spPlain ca)) (hi0 : HasI P w K mg base (ca 0) "part") (hi1 : HasI P w K mg base (ca 1) "part") (hi2 : HasI P w K mg base (ca 2) "part") (hi3 : HasI P w K mg base (ca 3) "at") (hi4 : HasI P w K mg base (ca 4) "at") (hi5 : HasI P w K mg base (ca 5) "at") (hi6 : HasI P w K mg base (ca 6) "due") (hi7 : HasI P w K mg base (ca 7) "place") (hi8 : HasI P w K mg base (ca 8) "most") (hi9 : HasI P w K mg base (ca 9) "name") : HasX P w K mg base 4 "_law_raise_named" ["_law_which", "_law_one"] (spRaise ca) := by
  obtain ⟨f_p, fd_p, F_p, g_p, k_p, b_p⟩ := hp
  obtain ⟨f0, fd0, F0, i0, t0, b0, n0⟩ := hi0
  obtain ⟨f1, fd1, F1, i1, t1, b1, n1⟩ := hi1
  obtain ⟨f2, fd2, F2, i2, t2, b2, n2⟩ := hi2
  obtain ⟨f3, fd3, F3, i3, t3, b3, n3⟩ := hi3
  obtain ⟨f4, fd4, F4, i4, t4, b4, n4⟩ := hi4
  obtain ⟨f5, fd5, F5, i5, t5, b5, n5⟩ := hi5
  obtain ⟨f6, fd6, F6, i6, t6, b6, n6⟩ := hi6
  obtain ⟨f7, fd7, F7, i7, t7, b7, n7⟩ := hi7
  obtain ⟨f8, fd8, F8, i8, t8, b8, n8⟩ := hi8
  obtain ⟨f9, fd9, F9, i9, t9, b9, n9⟩ := hi9
  refine ⟨f, fd, D.F.okX scNamed (fun vs H Q E h => ?_) (fun cdv A outer s H vs Q E hr h => ?_), D.g, D.k, D.b⟩
  · obtain ⟨_, _, _, rfl, _⟩ := h
    rfl
  · obtain ⟨k, v, h1, rfl, kp, kf⟩ := h
    refine ⟨_, (pss_cons (ps_if (pt_cmpR op_eq (pv 0) pe_int (nomark _)) (pss_one (ps_raise rfl (takes_of rfl rfl rfl rfl) (mk_named (T.o 0 (by decide)) i0 t0 F0 (k := 1) (hr.mono (by decide)) n0 (fun _ _ _ _ _ _ _ z => z.elim) (by rfl) (T.g 0 (by decide)) (pv 1)))) pss_nil)
      (pss_cons (ps_if (pt_cmpR op_eq (pv 0) pe_int (nomark _)) (pss_one (ps_raise rfl (takes_of rfl rfl rfl rfl) (mk_named (T.o 1 (by decide)) i1 t1 F1 (k := 1) (hr.mono (by decide)) n1 (fun _ _ _ _ _ _ _ z => z.elim) (by rfl) (T.g 1 (by decide)) (pv 1)))) pss_nil)
      (pss_cons (ps_if (pt_cmpR op_eq (pv 0) pe_int (nomark _)) (pss_one (ps_raise rfl (takes_of rfl rfl rfl rfl) (mk_named (T.o 2 (by decide)) i2 t2 F2 (k := 1) (hr.mono (by decide)) n2 (fun _ _ _ _ _ _ _ z => z.elim) (by rfl) (T.g 2 (by decide)) (pv 1)))) pss_nil)
      (pss_cons (ps_if (pt_cmpR op_eq (pv 0) pe_int (nomark _)) (pss_one (ps_raise rfl (takes_of rfl rfl rfl rfl) (mk_named (T.o 3 (by decide)) i3 t3 F3 (k := 1) (hr.mono (by decide)) n3 (fun _ _ _ _ _ _ _ z => z.elim) (by rfl) (T.g 3 (by decide)) (pv 1)))) pss_nil)
      (pss_cons (ps_if (pt_cmpR op_eq (pv 0) pe_int (nomark _)) (pss_one (ps_raise rfl (takes_of rfl rfl rfl rfl) (mk_named (T.o 4 (by decide)) i4 t4 F4 (k := 1) (hr.mono (by decide)) n4 (fun _ _ _ _ _ _ _ z => z.elim) (by rfl) (T.g 4 (by decide)) (pv 1)))) pss_nil)
      (pss_cons (ps_if (pt_cmpR op_eq (pv 0) pe_int (nomark _)) (pss_one (ps_raise rfl (takes_of rfl rfl rfl rfl) (mk_named (T.o 5 (by decide)) i5 t5 F5 (k := 1) (hr.mono (by decide)) n5 (fun _ _ _ _ _ _ _ z => z.elim) (by rfl) (T.g 5 (by decide)) (pv 1)))) pss_nil)
      (pss_cons (ps_if (pt_cmpR op_eq (pv 0) pe_int (nomark _)) (pss_one (ps_raise rfl (takes_of rfl rfl rfl rfl) (mk_named (T.o 6 (by decide)) i6 t6 F6 (k := 1) (hr.mono (by decide)) n6 (fun _ _ _ _ _ _ _ z => z.elim) (by rfl) (T.g 6 (by decide)) (pv 1)))) pss_nil)
      (pss_cons (ps_if (pt_cmpR op_eq (pv 0) pe_int (nomark _)) (pss_one (ps_raise rfl (takes_of rfl rfl rfl rfl) (mk_named (T.o 7 (by decide)) i7 t7 F7 (k := 1) (hr.mono (by decide)) n7 (fun _ _ _ _ _ _ _ z => z.elim) (by rfl) (T.g 7 (by decide)) (pv 1)))) pss_nil)
      (pss_cons (ps_if (pt_cmpR op_eq (pv 0) pe_int (nomark _)) (pss_one (ps_raise rfl (takes_of rfl rfl rfl rfl) (mk_named (T.o 8 (by decide)) i8 t8 F8 (k := 1) (hr.mono (by decide)) n8 (fun _ _ _ _ _ _ _ z => z.elim) (by rfl) (T.g 8 (by decide)) (pv 1)))) pss_nil)
      (pss_cons (ps_if (pt_cmpR op_eq (pv 0) pe_int (nomark _)) (pss_one (ps_raise rfl (takes_of rfl rfl rfl rfl) (mk_named (T.o 9 (by decide)) i9 t9 F9 (k := 1) (hr.mono (by decide)) n9 (fun _ _ _ _ _ _ _ z => z.elim) (by rfl) (T.g 9 (by decide)) (pv 1)))) pss_nil)
      (pss_one (ps_expr (pe_callS F_p (hr.mono (by decide)) (by rfl) g_p k_p b_p (fun σ => passAt (takes_of rfl rfl rfl rfl) σ) (pa_cons (pv 0) pa_nil)))))))))))))), ?_⟩
    rcases tenE h1 with rfl | rfl | rfl | rfl | rfl | rfl | rfl | rfl | rfl | rfl | rfl | rfl | rfl | rfl | rfl | rfl | rfl | rfl | rfl | rfl | rfl | rfl | rfl
    · skip
      refine ⟨_, rfl, rfl, _, rfl, _, rfl, fun a ha => ⟨a, ca 0, v, rfl, T.o 0 (by decide), T.no 0 (by decide) 0 (by decide), upd_same, fun dx hdx ne => ⟨rfl, dx, _, upd_same, by rw [upd_ne ne, upd_same], by rw [upd_ne ne] at hdx; exact hdx, ?_⟩⟩⟩
      exact kf (by decide) dx _ (made_same ha hdx ne) upd_same
    · skip
      refine ⟨_, rfl, rfl, _, rfl, ?_⟩
      refine ⟨_, rfl, rfl, _, rfl, _, rfl, fun a ha => ⟨a, ca 1, v, rfl, T.o 1 (by decide), T.no 1 (by decide) 1 (by decide), upd_same, fun dx hdx ne => ⟨rfl, dx, _, upd_same, by rw [upd_ne ne, upd_same], by rw [upd_ne ne] at hdx; exact hdx, ?_⟩⟩⟩
      exact kf (by decide) dx _ (made_same ha hdx ne) upd_same
    · skip
      refine ⟨_, rfl, rfl, _, rfl, ?_⟩
      refine ⟨_, rfl, rfl, _, rfl, ?_⟩
      refine ⟨_, rfl, rfl, _, rfl, _, rfl, fun a ha => ⟨a, ca 2, v, rfl, T.o 2 (by decide), T.no 2 (by decide) 2 (by decide), upd_same, fun dx hdx ne => ⟨rfl, dx, _, upd_same, by rw [upd_ne ne, upd_same], by rw [upd_ne ne] at hdx; exact hdx, ?_⟩⟩⟩
      exact kf (by decide) dx _ (made_same ha hdx ne) upd_same
    · skip
      refine ⟨_, rfl, rfl, _, rfl, ?_⟩
      refine ⟨_, rfl, rfl, _, rfl, ?_⟩
      refine ⟨_, rfl, rfl, _, rfl, ?_⟩
      refine ⟨_, rfl, rfl, _, rfl, _, rfl, fun a ha => ⟨a, ca 3, v, rfl, T.o 3 (by decide), T.no 3 (by decide) 3 (by decide), upd_same, fun dx hdx ne => ⟨rfl, dx, _, upd_same, by rw [upd_ne ne, upd_same], by rw [upd_ne ne] at hdx; exact hdx, ?_⟩⟩⟩
      exact kf (by decide) dx _ (made_same ha hdx ne) upd_same
    · skip
      refine ⟨_, rfl, rfl, _, rfl, ?_⟩
      refine ⟨_, rfl, rfl, _, rfl, ?_⟩
      refine ⟨_, rfl, rfl, _, rfl, ?_⟩
      refine ⟨_, rfl, rfl, _, rfl, ?_⟩
      refine ⟨_, rfl, rfl, _, rfl, _, rfl, fun a ha => ⟨a, ca 4, v, rfl, T.o 4 (by decide), T.no 4 (by decide) 4 (by decide), upd_same, fun dx hdx ne => ⟨rfl, dx, _, upd_same, by rw [upd_ne ne, upd_same], by rw [upd_ne ne] at hdx; exact hdx, ?_⟩⟩⟩
      exact kf (by decide) dx _ (made_same ha hdx ne) upd_same
    · skip
      refine ⟨_, rfl, rfl, _, rfl, ?_⟩
      refine ⟨_, rfl, rfl, _, rfl, ?_⟩
      refine ⟨_, rfl, rfl, _, rfl, ?_⟩
      refine ⟨_, rfl, rfl, _, rfl, ?_⟩
      refine ⟨_, rfl, rfl, _, rfl, ?_⟩
      refine ⟨_, rfl, rfl, _, rfl, _, rfl, fun a ha => ⟨a, ca 5, v, rfl, T.o 5 (by decide), T.no 5 (by decide) 5 (by decide), upd_same, fun dx hdx ne => ⟨rfl, dx, _, upd_same, by rw [upd_ne ne, upd_same], by rw [upd_ne ne] at hdx; exact hdx, ?_⟩⟩⟩
      exact kf (by decide) dx _ (made_same ha hdx ne) upd_same
    · skip
      refine ⟨_, rfl, rfl, _, rfl, ?_⟩
      refine ⟨_, rfl, rfl, _, rfl, ?_⟩
      refine ⟨_, rfl, rfl, _, rfl, ?_⟩
      refine ⟨_, rfl, rfl, _, rfl, ?_⟩
      refine ⟨_, rfl, rfl, _, rfl, ?_⟩
      refine ⟨_, rfl, rfl, _, rfl, ?_⟩
      refine ⟨_, rfl, rfl, _, rfl, _, rfl, fun a ha => ⟨a, ca 6, v, rfl, T.o 6 (by decide), T.no 6 (by decide) 6 (by decide), upd_same, fun dx hdx ne => ⟨rfl, dx, _, upd_same, by rw [upd_ne ne, upd_same], by rw [upd_ne ne] at hdx; exact hdx, ?_⟩⟩⟩
      exact kf (by decide) dx _ (made_same ha hdx ne) upd_same
    · skip
      refine ⟨_, rfl, rfl, _, rfl, ?_⟩
      refine ⟨_, rfl, rfl, _, rfl, ?_⟩
      refine ⟨_, rfl, rfl, _, rfl, ?_⟩
      refine ⟨_, rfl, rfl, _, rfl, ?_⟩
      refine ⟨_, rfl, rfl, _, rfl, ?_⟩
      refine ⟨_, rfl, rfl, _, rfl, ?_⟩
      refine ⟨_, rfl, rfl, _, rfl, ?_⟩
      refine ⟨_, rfl, rfl, _, rfl, _, rfl, fun a ha => ⟨a, ca 7, v, rfl, T.o 7 (by decide), T.no 7 (by decide) 7 (by decide), upd_same, fun dx hdx ne => ⟨rfl, dx, _, upd_same, by rw [upd_ne ne, upd_same], by rw [upd_ne ne] at hdx; exact hdx, ?_⟩⟩⟩
      exact kf (by decide) dx _ (made_same ha hdx ne) upd_same
    · skip
      refine ⟨_, rfl, rfl, _, rfl, ?_⟩
      refine ⟨_, rfl, rfl, _, rfl, ?_⟩
      refine ⟨_, rfl, rfl, _, rfl, ?_⟩
      refine ⟨_, rfl, rfl, _, rfl, ?_⟩
      refine ⟨_, rfl, rfl, _, rfl, ?_⟩
      refine ⟨_, rfl, rfl, _, rfl, ?_⟩
      refine ⟨_, rfl, rfl, _, rfl, ?_⟩
      refine ⟨_, rfl, rfl, _, rfl, ?_⟩
      refine ⟨_, rfl, rfl, _, rfl, _, rfl, fun a ha => ⟨a, ca 8, v, rfl, T.o 8 (by decide), T.no 8 (by decide) 8 (by decide), upd_same, fun dx hdx ne => ⟨rfl, dx, _, upd_same, by rw [upd_ne ne, upd_same], by rw [upd_ne ne] at hdx; exact hdx, ?_⟩⟩⟩
      exact kf (by decide) dx _ (made_same ha hdx ne) upd_same
    · skip
      refine ⟨_, rfl, rfl, _, rfl, ?_⟩
      refine ⟨_, rfl, rfl, _, rfl, ?_⟩
      refine ⟨_, rfl, rfl, _, rfl, ?_⟩
      refine ⟨_, rfl, rfl, _, rfl, ?_⟩
      refine ⟨_, rfl, rfl, _, rfl, ?_⟩
      refine ⟨_, rfl, rfl, _, rfl, ?_⟩
      refine ⟨_, rfl, rfl, _, rfl, ?_⟩
      refine ⟨_, rfl, rfl, _, rfl, ?_⟩
      refine ⟨_, rfl, rfl, _, rfl, ?_⟩
      refine ⟨_, rfl, rfl, _, rfl, _, rfl, fun a ha => ⟨a, ca 9, v, rfl, T.o 9 (by decide), T.no 9 (by decide) 9 (by decide), upd_same, fun dx hdx ne => ⟨rfl, dx, _, upd_same, by rw [upd_ne ne, upd_same], by rw [upd_ne ne] at hdx; exact hdx, ?_⟩⟩⟩
      exact kf (by decide) dx _ (made_same ha hdx ne) upd_same
    · skip
      refine ⟨_, rfl, rfl, _, rfl, ?_⟩
      refine ⟨_, rfl, rfl, _, rfl, ?_⟩
      refine ⟨_, rfl, rfl, _, rfl, ?_⟩
      refine ⟨_, rfl, rfl, _, rfl, ?_⟩
      refine ⟨_, rfl, rfl, _, rfl, ?_⟩
      refine ⟨_, rfl, rfl, _, rfl, ?_⟩
      refine ⟨_, rfl, rfl, _, rfl, ?_⟩
      refine ⟨_, rfl, rfl, _, rfl, ?_⟩
      refine ⟨_, rfl, rfl, _, rfl, ?_⟩
      refine ⟨_, rfl, rfl, _, rfl, ?_⟩
      exact ⟨_, rfl, 10, by decide, by decide, rfl, kp (by decide)⟩
    · skip
      refine ⟨_, rfl, rfl, _, rfl, ?_⟩
      refine ⟨_, rfl, rfl, _, rfl, ?_⟩
      refine ⟨_, rfl, rfl, _, rfl, ?_⟩
      refine ⟨_, rfl, rfl, _, rfl, ?_⟩
      refine ⟨_, rfl, rfl, _, rfl, ?_⟩
      refine ⟨_, rfl, rfl, _, rfl, ?_⟩
      refine ⟨_, rfl, rfl, _, rfl, ?_⟩
      refine ⟨_, rfl, rfl, _, rfl, ?_⟩
      refine ⟨_, rfl, rfl, _, rfl, ?_⟩
      refine ⟨_, rfl, rfl, _, rfl, ?_⟩
      exact ⟨_, rfl, 11, by decide, by decide, rfl, kp (by decide)⟩
    · skip
      refine ⟨_, rfl, rfl, _, rfl, ?_⟩
      refine ⟨_, rfl, rfl, _, rfl, ?_⟩
      refine ⟨_, rfl, rfl, _, rfl, ?_⟩
      refine ⟨_, rfl, rfl, _, rfl, ?_⟩
      refine ⟨_, rfl, rfl, _, rfl, ?_⟩
      refine ⟨_, rfl, rfl, _, rfl, ?_⟩
      refine ⟨_, rfl, rfl, _, rfl, ?_⟩
      refine ⟨_, rfl, rfl, _, rfl, ?_⟩
      refine ⟨_, rfl, rfl, _, rfl, ?_⟩
      refine ⟨_, rfl, rfl, _, rfl, ?_⟩
      exact ⟨_, rfl, 12, by decide, by decide, rfl, kp (by decide)⟩
    · skip
      refine ⟨_, rfl, rfl, _, rfl, ?_⟩
      refine ⟨_, rfl, rfl, _, rfl, ?_⟩
      refine ⟨_, rfl, rfl, _, rfl, ?_⟩
      refine ⟨_, rfl, rfl, _, rfl, ?_⟩
      refine ⟨_, rfl, rfl, _, rfl, ?_⟩
      refine ⟨_, rfl, rfl, _, rfl, ?_⟩
      refine ⟨_, rfl, rfl, _, rfl, ?_⟩
      refine ⟨_, rfl, rfl, _, rfl, ?_⟩
      refine ⟨_, rfl, rfl, _, rfl, ?_⟩
      refine ⟨_, rfl, rfl, _, rfl, ?_⟩
      exact ⟨_, rfl, 13, by decide, by decide, rfl, kp (by decide)⟩
    · skip
      refine ⟨_, rfl, rfl, _, rfl, ?_⟩
      refine ⟨_, rfl, rfl, _, rfl, ?_⟩
      refine ⟨_, rfl, rfl, _, rfl, ?_⟩
      refine ⟨_, rfl, rfl, _, rfl, ?_⟩
      refine ⟨_, rfl, rfl, _, rfl, ?_⟩
      refine ⟨_, rfl, rfl, _, rfl, ?_⟩
      refine ⟨_, rfl, rfl, _, rfl, ?_⟩
      refine ⟨_, rfl, rfl, _, rfl, ?_⟩
      refine ⟨_, rfl, rfl, _, rfl, ?_⟩
      refine ⟨_, rfl, rfl, _, rfl, ?_⟩
      exact ⟨_, rfl, 14, by decide, by decide, rfl, kp (by decide)⟩
    · skip
      refine ⟨_, rfl, rfl, _, rfl, ?_⟩
      refine ⟨_, rfl, rfl, _, rfl, ?_⟩
      refine ⟨_, rfl, rfl, _, rfl, ?_⟩
      refine ⟨_, rfl, rfl, _, rfl, ?_⟩
      refine ⟨_, rfl, rfl, _, rfl, ?_⟩
      refine ⟨_, rfl, rfl, _, rfl, ?_⟩
      refine ⟨_, rfl, rfl, _, rfl, ?_⟩
      refine ⟨_, rfl, rfl, _, rfl, ?_⟩
      refine ⟨_, rfl, rfl, _, rfl, ?_⟩
      refine ⟨_, rfl, rfl, _, rfl, ?_⟩
      exact ⟨_, rfl, 15, by decide, by decide, rfl, kp (by decide)⟩
    · skip
      refine ⟨_, rfl, rfl, _, rfl, ?_⟩
      refine ⟨_, rfl, rfl, _, rfl, ?_⟩
      refine ⟨_, rfl, rfl, _, rfl, ?_⟩
      refine ⟨_, rfl, rfl, _, rfl, ?_⟩
      refine ⟨_, rfl, rfl, _, rfl, ?_⟩
      refine ⟨_, rfl, rfl, _, rfl, ?_⟩
      refine ⟨_, rfl, rfl, _, rfl, ?_⟩
      refine ⟨_, rfl, rfl, _, rfl, ?_⟩
      refine ⟨_, rfl, rfl, _, rfl, ?_⟩
      refine ⟨_, rfl, rfl, _, rfl, ?_⟩
      exact ⟨_, rfl, 16, by decide, by decide, rfl, kp (by decide)⟩
    · skip
      refine ⟨_, rfl, rfl, _, rfl, ?_⟩
      refine ⟨_, rfl, rfl, _, rfl, ?_⟩
      refine ⟨_, rfl, rfl, _, rfl, ?_⟩
      refine ⟨_, rfl, rfl, _, rfl, ?_⟩
      refine ⟨_, rfl, rfl, _, rfl, ?_⟩
      refine ⟨_, rfl, rfl, _, rfl, ?_⟩
      refine ⟨_, rfl, rfl, _, rfl, ?_⟩
      refine ⟨_, rfl, rfl, _, rfl, ?_⟩
      refine ⟨_, rfl, rfl, _, rfl, ?_⟩
      refine ⟨_, rfl, rfl, _, rfl, ?_⟩
      exact ⟨_, rfl, 17, by decide, by decide, rfl, kp (by decide)⟩
    · skip
      refine ⟨_, rfl, rfl, _, rfl, ?_⟩
      refine ⟨_, rfl, rfl, _, rfl, ?_⟩
      refine ⟨_, rfl, rfl, _, rfl, ?_⟩
      refine ⟨_, rfl, rfl, _, rfl, ?_⟩
      refine ⟨_, rfl, rfl, _, rfl, ?_⟩
      refine ⟨_, rfl, rfl, _, rfl, ?_⟩
      refine ⟨_, rfl, rfl, _, rfl, ?_⟩
      refine ⟨_, rfl, rfl, _, rfl, ?_⟩
      refine ⟨_, rfl, rfl, _, rfl, ?_⟩
      refine ⟨_, rfl, rfl, _, rfl, ?_⟩
      exact ⟨_, rfl, 18, by decide, by decide, rfl, kp (by decide)⟩
    · skip
      refine ⟨_, rfl, rfl, _, rfl, ?_⟩
      refine ⟨_, rfl, rfl, _, rfl, ?_⟩
      refine ⟨_, rfl, rfl, _, rfl, ?_⟩
      refine ⟨_, rfl, rfl, _, rfl, ?_⟩
      refine ⟨_, rfl, rfl, _, rfl, ?_⟩
      refine ⟨_, rfl, rfl, _, rfl, ?_⟩
      refine ⟨_, rfl, rfl, _, rfl, ?_⟩
      refine ⟨_, rfl, rfl, _, rfl, ?_⟩
      refine ⟨_, rfl, rfl, _, rfl, ?_⟩
      refine ⟨_, rfl, rfl, _, rfl, ?_⟩
      exact ⟨_, rfl, 19, by decide, by decide, rfl, kp (by decide)⟩
    · skip
      refine ⟨_, rfl, rfl, _, rfl, ?_⟩
      refine ⟨_, rfl, rfl, _, rfl, ?_⟩
      refine ⟨_, rfl, rfl, _, rfl, ?_⟩
      refine ⟨_, rfl, rfl, _, rfl, ?_⟩
      refine ⟨_, rfl, rfl, _, rfl, ?_⟩
      refine ⟨_, rfl, rfl, _, rfl, ?_⟩
      refine ⟨_, rfl, rfl, _, rfl, ?_⟩
      refine ⟨_, rfl, rfl, _, rfl, ?_⟩
      refine ⟨_, rfl, rfl, _, rfl, ?_⟩
      refine ⟨_, rfl, rfl, _, rfl, ?_⟩
      exact ⟨_, rfl, 20, by decide, by decide, rfl, kp (by decide)⟩
    · skip
      refine ⟨_, rfl, rfl, _, rfl, ?_⟩
      refine ⟨_, rfl, rfl, _, rfl, ?_⟩
      refine ⟨_, rfl, rfl, _, rfl, ?_⟩
      refine ⟨_, rfl, rfl, _, rfl, ?_⟩
      refine ⟨_, rfl, rfl, _, rfl, ?_⟩
      refine ⟨_, rfl, rfl, _, rfl, ?_⟩
      refine ⟨_, rfl, rfl, _, rfl, ?_⟩
      refine ⟨_, rfl, rfl, _, rfl, ?_⟩
      refine ⟨_, rfl, rfl, _, rfl, ?_⟩
      refine ⟨_, rfl, rfl, _, rfl, ?_⟩
      exact ⟨_, rfl, 21, by decide, by decide, rfl, kp (by decide)⟩
    · skip
      refine ⟨_, rfl, rfl, _, rfl, ?_⟩
      refine ⟨_, rfl, rfl, _, rfl, ?_⟩
      refine ⟨_, rfl, rfl, _, rfl, ?_⟩
      refine ⟨_, rfl, rfl, _, rfl, ?_⟩
      refine ⟨_, rfl, rfl, _, rfl, ?_⟩
      refine ⟨_, rfl, rfl, _, rfl, ?_⟩
      refine ⟨_, rfl, rfl, _, rfl, ?_⟩
      refine ⟨_, rfl, rfl, _, rfl, ?_⟩
      refine ⟨_, rfl, rfl, _, rfl, ?_⟩
      refine ⟨_, rfl, rfl, _, rfl, ?_⟩
      exact ⟨_, rfl, 22, by decide, by decide, rfl, kp (by decide)⟩
end
end Lf

namespace Lf
open PySem L2
structure TxtE (mg : Str → Option Value) : Prop extends Txt mg where
  b_ve : mg "ValueError" = none
theorem DctOk.new {H : Hp} {d : Option Addr} {p : Addr} {o : HO} (h : DctOk H d) (hp : H p = none) : DctOk (upd H p o) d := by
  rcases h with h | ⟨dd, fs, e, hd⟩
  · exact .inl h
  · exact .inr ⟨dd, fs, e, by rw [upd_ne (ne_of_none hd hp)]; exact hd⟩
theorem same_new {H H1 : Hp} {p : Addr} {o : HO} (h : Same H H1) (hp : H1 p = none) : Same H (upd H1 p o) := fun b u e => by
  have e1 := h b u e
  rw [upd_ne (ne_of_none e1 hp)]
  exact e1
theorem look1 (f : Str) (v : V) : ([(f, v)] : List (Str × V)).lookup f = some v := by simp [List.lookup]
def flags (k : Nat) : List V := (List.range 23).map fun j => V.bl (decide (j = k))
def HasE (P : Program) (w : World) (K : PySem.W.Frag) (mg : Str → Option Value) (base : Heap) (k : Nat) (x : Str) (ps : List Str) (sp : SpE) : Prop :=
  ∃ (f : Addr) (fd : FuncData), FnE P w K mg base k f fd ps sp ∧ mg x = some (.ref f) ∧ PySem.W.keepIn K (.ref f) = true ∧ Binds K fd ps []
def spCls (ca : Nat → Addr) : SpE := fun a cls d vs H Q _ => ∃ k, k < 23 ∧ cls = .ref (ca k) ∧ vs = [.ref a] ∧ DctOk H d ∧ ∀ q H', Same H H' → H' q = some (.lst (flags k)) → Q (.ref q) H'
def spFld (ca : Nat → Addr) : SpE := fun a cls d vs H Q _ => ∃ (k : Nat) (v : V), k < 23 ∧ cls = .ref (ca k) ∧ vs = [.ref a, .int k] ∧ (k < 10 → ∃ dd, d = some dd ∧ H dd = some (.xd [(fldE k, v)])) ∧
  ∀ r H', Same H H' → H' r = some (.tup (if k < 10 then [v] else [])) → Q (.ref r) H'
def spCaught : Sp := fun vs H Q _ => ∃ (k : Nat) (v : V) (b : Bool), k < 23 ∧ vs = [.int k, v, .bl b] ∧ ∀ p q r H', Same H H' → H' p = some (.tup [.bl true, .ref q, .ref r]) → H' q = some (.lst (flags k)) → H' r = some (.tup (if k < 10 then [v] else [])) → Q (.ref p) H'
abbrev sCls : Stmt := top 36
abbrev sFld : Stmt := top 37
abbrev sCaught : Stmt := top 38
section
variable {P : Program} {w : World} {K : PySem.W.Frag} {mg : Str → Option Value} {base : Heap} {ca : Nat → Addr} {cp : Addr}
theorem scCls : FnScope ["_law_e", "_law_told"] ["_law_e"] (defScope sCls) := ⟨rfl, rfl, rfl, by decide +kernel, rfl, by decide +kernel, by decide +kernel⟩
theorem ok_cls {f : Addr} {fd : FuncData} (D : At K mg "_law_classes" sCls ["_law_e"] f fd) (X : TxtE mg) (T : ErrT K mg ca cp) : HasE P w K mg base 1 "_law_classes" ["_law_e"] (spCls ca) := by
  refine ⟨f, fd, fnE_of D.F scCls (fun a cls d vs H Q E h => ?_) (fun cdv A outer s H vs Q E p cls d hz hf h => ?_), D.g, D.k, D.b⟩
  · obtain ⟨_, _, _, rfl, _⟩ := h
    rfl
  · obtain ⟨k, hk, rfl, rfl, dc, kq⟩ := h
    have sc := scCls
    obtain ⟨a, oe⟩ := p
    have mem : (a, oe) ∈ [(a, oe)] := List.mem_cons_self
    refine ⟨_, (pss_cons (ps_set (i := 1) sc.nd rfl (Or.inl rfl) (pe_lst (pa_cons (pe_callB (call_isP mem hz hf) (by rfl) X.b_isinstance (by decide +kernel) (pa_cons (pv 0) (pa_cons (C8.pe_gc (v := .ref (ca 0)) (by rfl) ⟨_, T.g 0 (by decide), rfl⟩) pa_nil))) (pa_cons (pe_callB (call_isP mem hz hf) (by rfl) X.b_isinstance (by decide +kernel) (pa_cons (pv 0) (pa_cons (C8.pe_gc (v := .ref (ca 1)) (by rfl) ⟨_, T.g 1 (by decide), rfl⟩) pa_nil))) (pa_cons (pe_callB (call_isP mem hz hf) (by rfl) X.b_isinstance (by decide +kernel) (pa_cons (pv 0) (pa_cons (C8.pe_gc (v := .ref (ca 2)) (by rfl) ⟨_, T.g 2 (by decide), rfl⟩) pa_nil))) pa_nil)))))
      (pss_cons (ps_set (i := 1) sc.nd rfl (Or.inl rfl) (pe_op op_cat (pv 1) (pe_lst (pa_cons (pe_callB (call_isP mem hz hf) (by rfl) X.b_isinstance (by decide +kernel) (pa_cons (pv 0) (pa_cons (C8.pe_gc (v := .ref (ca 3)) (by rfl) ⟨_, T.g 3 (by decide), rfl⟩) pa_nil))) (pa_cons (pe_callB (call_isP mem hz hf) (by rfl) X.b_isinstance (by decide +kernel) (pa_cons (pv 0) (pa_cons (C8.pe_gc (v := .ref (ca 4)) (by rfl) ⟨_, T.g 4 (by decide), rfl⟩) pa_nil))) (pa_cons (pe_callB (call_isP mem hz hf) (by rfl) X.b_isinstance (by decide +kernel) (pa_cons (pv 0) (pa_cons (C8.pe_gc (v := .ref (ca 5)) (by rfl) ⟨_, T.g 5 (by decide), rfl⟩) pa_nil))) pa_nil))))))
      (pss_cons (ps_set (i := 1) sc.nd rfl (Or.inl rfl) (pe_op op_cat (pv 1) (pe_lst (pa_cons (pe_callB (call_isP mem hz hf) (by rfl) X.b_isinstance (by decide +kernel) (pa_cons (pv 0) (pa_cons (C8.pe_gc (v := .ref (ca 6)) (by rfl) ⟨_, T.g 6 (by decide), rfl⟩) pa_nil))) (pa_cons (pe_callB (call_isP mem hz hf) (by rfl) X.b_isinstance (by decide +kernel) (pa_cons (pv 0) (pa_cons (C8.pe_gc (v := .ref (ca 7)) (by rfl) ⟨_, T.g 7 (by decide), rfl⟩) pa_nil))) (pa_cons (pe_callB (call_isP mem hz hf) (by rfl) X.b_isinstance (by decide +kernel) (pa_cons (pv 0) (pa_cons (C8.pe_gc (v := .ref (ca 8)) (by rfl) ⟨_, T.g 8 (by decide), rfl⟩) pa_nil))) pa_nil))))))
      (pss_cons (ps_set (i := 1) sc.nd rfl (Or.inl rfl) (pe_op op_cat (pv 1) (pe_lst (pa_cons (pe_callB (call_isP mem hz hf) (by rfl) X.b_isinstance (by decide +kernel) (pa_cons (pv 0) (pa_cons (C8.pe_gc (v := .ref (ca 9)) (by rfl) ⟨_, T.g 9 (by decide), rfl⟩) pa_nil))) (pa_cons (pe_callB (call_isP mem hz hf) (by rfl) X.b_isinstance (by decide +kernel) (pa_cons (pv 0) (pa_cons (C8.pe_gc (v := .ref (ca 10)) (by rfl) ⟨_, T.g 10 (by decide), rfl⟩) pa_nil))) (pa_cons (pe_callB (call_isP mem hz hf) (by rfl) X.b_isinstance (by decide +kernel) (pa_cons (pv 0) (pa_cons (C8.pe_gc (v := .ref (ca 11)) (by rfl) ⟨_, T.g 11 (by decide), rfl⟩) pa_nil))) pa_nil))))))
      (pss_cons (ps_set (i := 1) sc.nd rfl (Or.inl rfl) (pe_op op_cat (pv 1) (pe_lst (pa_cons (pe_callB (call_isP mem hz hf) (by rfl) X.b_isinstance (by decide +kernel) (pa_cons (pv 0) (pa_cons (C8.pe_gc (v := .ref (ca 12)) (by rfl) ⟨_, T.g 12 (by decide), rfl⟩) pa_nil))) (pa_cons (pe_callB (call_isP mem hz hf) (by rfl) X.b_isinstance (by decide +kernel) (pa_cons (pv 0) (pa_cons (C8.pe_gc (v := .ref (ca 13)) (by rfl) ⟨_, T.g 13 (by decide), rfl⟩) pa_nil))) (pa_cons (pe_callB (call_isP mem hz hf) (by rfl) X.b_isinstance (by decide +kernel) (pa_cons (pv 0) (pa_cons (C8.pe_gc (v := .ref (ca 14)) (by rfl) ⟨_, T.g 14 (by decide), rfl⟩) pa_nil))) pa_nil))))))
      (pss_cons (ps_set (i := 1) sc.nd rfl (Or.inl rfl) (pe_op op_cat (pv 1) (pe_lst (pa_cons (pe_callB (call_isP mem hz hf) (by rfl) X.b_isinstance (by decide +kernel) (pa_cons (pv 0) (pa_cons (C8.pe_gc (v := .ref (ca 15)) (by rfl) ⟨_, T.g 15 (by decide), rfl⟩) pa_nil))) (pa_cons (pe_callB (call_isP mem hz hf) (by rfl) X.b_isinstance (by decide +kernel) (pa_cons (pv 0) (pa_cons (C8.pe_gc (v := .ref (ca 16)) (by rfl) ⟨_, T.g 16 (by decide), rfl⟩) pa_nil))) (pa_cons (pe_callB (call_isP mem hz hf) (by rfl) X.b_isinstance (by decide +kernel) (pa_cons (pv 0) (pa_cons (C8.pe_gc (v := .ref (ca 17)) (by rfl) ⟨_, T.g 17 (by decide), rfl⟩) pa_nil))) pa_nil))))))
      (pss_cons (ps_set (i := 1) sc.nd rfl (Or.inl rfl) (pe_op op_cat (pv 1) (pe_lst (pa_cons (pe_callB (call_isP mem hz hf) (by rfl) X.b_isinstance (by decide +kernel) (pa_cons (pv 0) (pa_cons (C8.pe_gc (v := .ref (ca 18)) (by rfl) ⟨_, T.g 18 (by decide), rfl⟩) pa_nil))) (pa_cons (pe_callB (call_isP mem hz hf) (by rfl) X.b_isinstance (by decide +kernel) (pa_cons (pv 0) (pa_cons (C8.pe_gc (v := .ref (ca 19)) (by rfl) ⟨_, T.g 19 (by decide), rfl⟩) pa_nil))) (pa_cons (pe_callB (call_isP mem hz hf) (by rfl) X.b_isinstance (by decide +kernel) (pa_cons (pv 0) (pa_cons (C8.pe_gc (v := .ref (ca 20)) (by rfl) ⟨_, T.g 20 (by decide), rfl⟩) pa_nil))) pa_nil))))))
      (pss_one (ps_ret (pe_op op_cat (pv 1) (pe_lst (pa_cons (pe_callB (call_isP mem hz hf) (by rfl) X.b_isinstance (by decide +kernel) (pa_cons (pv 0) (pa_cons (C8.pe_gc (v := .ref (ca 21)) (by rfl) ⟨_, T.g 21 (by decide), rfl⟩) pa_nil))) (pa_cons (pe_callB (call_isP mem hz hf) (by rfl) X.b_isinstance (by decide +kernel) (pa_cons (pv 0) (pa_cons (C8.pe_gc (v := .ref (ca 22)) (by rfl) ⟨_, T.g 22 (by decide), rfl⟩) pa_nil))) pa_nil))))))))))))), ?_⟩
    refine ⟨_, rfl, ca k, _, _, _, rfl, rfl, T.ec k hk, .own _, dc, T.kit k hk 0 (by decide), _, rfl, ca k, _, _, _, rfl, rfl, T.ec k hk, .own _, dc, T.kit k hk 1 (by decide), _, rfl, ca k, _, _, _, rfl, rfl, T.ec k hk, .own _, dc, T.kit k hk 2 (by decide), by show 3 ≤ sizeLine; decide, fun p0 hp0 => ?_⟩
    have d0 := dc.new (o := .lst [.bl (decide (0 = k)), .bl (decide (1 = k)), .bl (decide (2 = k))]) hp0
    have s0 : Same H _ := same_new (fun _ _ e => e) hp0 (o := .lst [.bl (decide (0 = k)), .bl (decide (1 = k)), .bl (decide (2 = k))])
    refine ⟨_, rfl, _, rfl, ca k, _, _, _, rfl, rfl, T.ec k hk, .own _, d0, T.kit k hk 3 (by decide), _, rfl, ca k, _, _, _, rfl, rfl, T.ec k hk, .own _, d0, T.kit k hk 4 (by decide), _, rfl, ca k, _, _, _, rfl, rfl, T.ec k hk, .own _, d0, T.kit k hk 5 (by decide), by show 3 ≤ sizeLine; decide, fun q1 hq1 => ?_⟩
    have e1 := d0.new (o := .lst [.bl (decide (3 = k)), .bl (decide (4 = k)), .bl (decide (5 = k))]) hq1
    have t1 := same_new s0 hq1 (o := .lst [.bl (decide (3 = k)), .bl (decide (4 = k)), .bl (decide (5 = k))])
    refine ⟨_, _, _, _, rfl, rfl, (by rw [upd_ne (ne_of_none upd_same hq1)]; exact upd_same), upd_same, by show 6 ≤ sizeLine; decide, fun p1 hp1 => ?_⟩
    have d1 := e1.new (o := .lst [.bl (decide (0 = k)), .bl (decide (1 = k)), .bl (decide (2 = k)), .bl (decide (3 = k)), .bl (decide (4 = k)), .bl (decide (5 = k))]) hp1
    have s1 := same_new t1 hp1 (o := .lst [.bl (decide (0 = k)), .bl (decide (1 = k)), .bl (decide (2 = k)), .bl (decide (3 = k)), .bl (decide (4 = k)), .bl (decide (5 = k))])
    refine ⟨_, rfl, _, rfl, ca k, _, _, _, rfl, rfl, T.ec k hk, .own _, d1, T.kit k hk 6 (by decide), _, rfl, ca k, _, _, _, rfl, rfl, T.ec k hk, .own _, d1, T.kit k hk 7 (by decide), _, rfl, ca k, _, _, _, rfl, rfl, T.ec k hk, .own _, d1, T.kit k hk 8 (by decide), by show 3 ≤ sizeLine; decide, fun q2 hq2 => ?_⟩
    have e2 := d1.new (o := .lst [.bl (decide (6 = k)), .bl (decide (7 = k)), .bl (decide (8 = k))]) hq2
    have t2 := same_new s1 hq2 (o := .lst [.bl (decide (6 = k)), .bl (decide (7 = k)), .bl (decide (8 = k))])
    refine ⟨_, _, _, _, rfl, rfl, (by rw [upd_ne (ne_of_none upd_same hq2)]; exact upd_same), upd_same, by show 9 ≤ sizeLine; decide, fun p2 hp2 => ?_⟩
    have d2 := e2.new (o := .lst [.bl (decide (0 = k)), .bl (decide (1 = k)), .bl (decide (2 = k)), .bl (decide (3 = k)), .bl (decide (4 = k)), .bl (decide (5 = k)), .bl (decide (6 = k)), .bl (decide (7 = k)), .bl (decide (8 = k))]) hp2
    have s2 := same_new t2 hp2 (o := .lst [.bl (decide (0 = k)), .bl (decide (1 = k)), .bl (decide (2 = k)), .bl (decide (3 = k)), .bl (decide (4 = k)), .bl (decide (5 = k)), .bl (decide (6 = k)), .bl (decide (7 = k)), .bl (decide (8 = k))])
    refine ⟨_, rfl, _, rfl, ca k, _, _, _, rfl, rfl, T.ec k hk, .own _, d2, T.kit k hk 9 (by decide), _, rfl, ca k, _, _, _, rfl, rfl, T.ec k hk, .own _, d2, T.kit k hk 10 (by decide), _, rfl, ca k, _, _, _, rfl, rfl, T.ec k hk, .own _, d2, T.kit k hk 11 (by decide), by show 3 ≤ sizeLine; decide, fun q3 hq3 => ?_⟩
    have e3 := d2.new (o := .lst [.bl (decide (9 = k)), .bl (decide (10 = k)), .bl (decide (11 = k))]) hq3
    have t3 := same_new s2 hq3 (o := .lst [.bl (decide (9 = k)), .bl (decide (10 = k)), .bl (decide (11 = k))])
    refine ⟨_, _, _, _, rfl, rfl, (by rw [upd_ne (ne_of_none upd_same hq3)]; exact upd_same), upd_same, by show 12 ≤ sizeLine; decide, fun p3 hp3 => ?_⟩
    have d3 := e3.new (o := .lst [.bl (decide (0 = k)), .bl (decide (1 = k)), .bl (decide (2 = k)), .bl (decide (3 = k)), .bl (decide (4 = k)), .bl (decide (5 = k)), .bl (decide (6 = k)), .bl (decide (7 = k)), .bl (decide (8 = k)), .bl (decide (9 = k)), .bl (decide (10 = k)), .bl (decide (11 = k))]) hp3
    have s3 := same_new t3 hp3 (o := .lst [.bl (decide (0 = k)), .bl (decide (1 = k)), .bl (decide (2 = k)), .bl (decide (3 = k)), .bl (decide (4 = k)), .bl (decide (5 = k)), .bl (decide (6 = k)), .bl (decide (7 = k)), .bl (decide (8 = k)), .bl (decide (9 = k)), .bl (decide (10 = k)), .bl (decide (11 = k))])
    refine ⟨_, rfl, _, rfl, ca k, _, _, _, rfl, rfl, T.ec k hk, .own _, d3, T.kit k hk 12 (by decide), _, rfl, ca k, _, _, _, rfl, rfl, T.ec k hk, .own _, d3, T.kit k hk 13 (by decide), _, rfl, ca k, _, _, _, rfl, rfl, T.ec k hk, .own _, d3, T.kit k hk 14 (by decide), by show 3 ≤ sizeLine; decide, fun q4 hq4 => ?_⟩
    have e4 := d3.new (o := .lst [.bl (decide (12 = k)), .bl (decide (13 = k)), .bl (decide (14 = k))]) hq4
    have t4 := same_new s3 hq4 (o := .lst [.bl (decide (12 = k)), .bl (decide (13 = k)), .bl (decide (14 = k))])
    refine ⟨_, _, _, _, rfl, rfl, (by rw [upd_ne (ne_of_none upd_same hq4)]; exact upd_same), upd_same, by show 15 ≤ sizeLine; decide, fun p4 hp4 => ?_⟩
    have d4 := e4.new (o := .lst [.bl (decide (0 = k)), .bl (decide (1 = k)), .bl (decide (2 = k)), .bl (decide (3 = k)), .bl (decide (4 = k)), .bl (decide (5 = k)), .bl (decide (6 = k)), .bl (decide (7 = k)), .bl (decide (8 = k)), .bl (decide (9 = k)), .bl (decide (10 = k)), .bl (decide (11 = k)), .bl (decide (12 = k)), .bl (decide (13 = k)), .bl (decide (14 = k))]) hp4
    have s4 := same_new t4 hp4 (o := .lst [.bl (decide (0 = k)), .bl (decide (1 = k)), .bl (decide (2 = k)), .bl (decide (3 = k)), .bl (decide (4 = k)), .bl (decide (5 = k)), .bl (decide (6 = k)), .bl (decide (7 = k)), .bl (decide (8 = k)), .bl (decide (9 = k)), .bl (decide (10 = k)), .bl (decide (11 = k)), .bl (decide (12 = k)), .bl (decide (13 = k)), .bl (decide (14 = k))])
    refine ⟨_, rfl, _, rfl, ca k, _, _, _, rfl, rfl, T.ec k hk, .own _, d4, T.kit k hk 15 (by decide), _, rfl, ca k, _, _, _, rfl, rfl, T.ec k hk, .own _, d4, T.kit k hk 16 (by decide), _, rfl, ca k, _, _, _, rfl, rfl, T.ec k hk, .own _, d4, T.kit k hk 17 (by decide), by show 3 ≤ sizeLine; decide, fun q5 hq5 => ?_⟩
    have e5 := d4.new (o := .lst [.bl (decide (15 = k)), .bl (decide (16 = k)), .bl (decide (17 = k))]) hq5
    have t5 := same_new s4 hq5 (o := .lst [.bl (decide (15 = k)), .bl (decide (16 = k)), .bl (decide (17 = k))])
    refine ⟨_, _, _, _, rfl, rfl, (by rw [upd_ne (ne_of_none upd_same hq5)]; exact upd_same), upd_same, by show 18 ≤ sizeLine; decide, fun p5 hp5 => ?_⟩
    have d5 := e5.new (o := .lst [.bl (decide (0 = k)), .bl (decide (1 = k)), .bl (decide (2 = k)), .bl (decide (3 = k)), .bl (decide (4 = k)), .bl (decide (5 = k)), .bl (decide (6 = k)), .bl (decide (7 = k)), .bl (decide (8 = k)), .bl (decide (9 = k)), .bl (decide (10 = k)), .bl (decide (11 = k)), .bl (decide (12 = k)), .bl (decide (13 = k)), .bl (decide (14 = k)), .bl (decide (15 = k)), .bl (decide (16 = k)), .bl (decide (17 = k))]) hp5
    have s5 := same_new t5 hp5 (o := .lst [.bl (decide (0 = k)), .bl (decide (1 = k)), .bl (decide (2 = k)), .bl (decide (3 = k)), .bl (decide (4 = k)), .bl (decide (5 = k)), .bl (decide (6 = k)), .bl (decide (7 = k)), .bl (decide (8 = k)), .bl (decide (9 = k)), .bl (decide (10 = k)), .bl (decide (11 = k)), .bl (decide (12 = k)), .bl (decide (13 = k)), .bl (decide (14 = k)), .bl (decide (15 = k)), .bl (decide (16 = k)), .bl (decide (17 = k))])
    refine ⟨_, rfl, _, rfl, ca k, _, _, _, rfl, rfl, T.ec k hk, .own _, d5, T.kit k hk 18 (by decide), _, rfl, ca k, _, _, _, rfl, rfl, T.ec k hk, .own _, d5, T.kit k hk 19 (by decide), _, rfl, ca k, _, _, _, rfl, rfl, T.ec k hk, .own _, d5, T.kit k hk 20 (by decide), by show 3 ≤ sizeLine; decide, fun q6 hq6 => ?_⟩
    have e6 := d5.new (o := .lst [.bl (decide (18 = k)), .bl (decide (19 = k)), .bl (decide (20 = k))]) hq6
    have t6 := same_new s5 hq6 (o := .lst [.bl (decide (18 = k)), .bl (decide (19 = k)), .bl (decide (20 = k))])
    refine ⟨_, _, _, _, rfl, rfl, (by rw [upd_ne (ne_of_none upd_same hq6)]; exact upd_same), upd_same, by show 21 ≤ sizeLine; decide, fun p6 hp6 => ?_⟩
    have d6 := e6.new (o := .lst [.bl (decide (0 = k)), .bl (decide (1 = k)), .bl (decide (2 = k)), .bl (decide (3 = k)), .bl (decide (4 = k)), .bl (decide (5 = k)), .bl (decide (6 = k)), .bl (decide (7 = k)), .bl (decide (8 = k)), .bl (decide (9 = k)), .bl (decide (10 = k)), .bl (decide (11 = k)), .bl (decide (12 = k)), .bl (decide (13 = k)), .bl (decide (14 = k)), .bl (decide (15 = k)), .bl (decide (16 = k)), .bl (decide (17 = k)), .bl (decide (18 = k)), .bl (decide (19 = k)), .bl (decide (20 = k))]) hp6
    have s6 := same_new t6 hp6 (o := .lst [.bl (decide (0 = k)), .bl (decide (1 = k)), .bl (decide (2 = k)), .bl (decide (3 = k)), .bl (decide (4 = k)), .bl (decide (5 = k)), .bl (decide (6 = k)), .bl (decide (7 = k)), .bl (decide (8 = k)), .bl (decide (9 = k)), .bl (decide (10 = k)), .bl (decide (11 = k)), .bl (decide (12 = k)), .bl (decide (13 = k)), .bl (decide (14 = k)), .bl (decide (15 = k)), .bl (decide (16 = k)), .bl (decide (17 = k)), .bl (decide (18 = k)), .bl (decide (19 = k)), .bl (decide (20 = k))])
    refine ⟨_, rfl, _, rfl, ca k, _, _, _, rfl, rfl, T.ec k hk, .own _, d6, T.kit k hk 21 (by decide), _, rfl, ca k, _, _, _, rfl, rfl, T.ec k hk, .own _, d6, T.kit k hk 22 (by decide), by show 2 ≤ sizeLine; decide, fun q7 hq7 => ?_⟩
    have e7 := d6.new (o := .lst [.bl (decide (21 = k)), .bl (decide (22 = k))]) hq7
    have t7 := same_new s6 hq7 (o := .lst [.bl (decide (21 = k)), .bl (decide (22 = k))])
    refine ⟨_, _, _, _, rfl, rfl, (by rw [upd_ne (ne_of_none upd_same hq7)]; exact upd_same), upd_same, by show 23 ≤ sizeLine; decide, fun p7 hp7 => ?_⟩
    exact kq _ _ (same_new t7 hp7) upd_same
theorem scFld : FnScope ["_law_e", "_law_which"] ["_law_e", "_law_which"] (defScope sFld) := ⟨rfl, rfl, rfl, by decide +kernel, rfl, by decide +kernel, by decide +kernel⟩
theorem ok_fld {f : Addr} {fd : FuncData} (D : At K mg "_law_fields" sFld ["_law_e", "_law_which"] f fd) (T : ErrT K mg ca cp) : HasE P w K mg base 1 "_law_fields" ["_law_e", "_law_which"] (spFld ca) := by
  refine ⟨f, fd, fnE_of D.F scFld (fun a cls d vs H Q E h => ?_) (fun cdv A outer s H vs Q E p cls d hz hf h => ?_), D.g, D.k, D.b⟩
  · obtain ⟨_, _, _, _, rfl, _⟩ := h
    rfl
  · obtain ⟨k, v, hk, rfl, rfl, hd, kq⟩ := h
    have sc := scFld
    obtain ⟨a, oe⟩ := p
    have mem : (a, oe) ∈ [(a, oe)] := List.mem_cons_self
    refine ⟨_, (pss_cons (ps_if (pt_cmpR op_lt (pv 1) pe_int (nomark _)) (pss_one (ps_ret (pe_tup (pa_cons (pe_fldP mem hz hf (pv 0)) pa_nil)))) pss_nil)
      (pss_cons (ps_if (pt_cmpR op_lt (pv 1) pe_int (nomark _)) (pss_one (ps_ret (pe_tup (pa_cons (pe_fldP mem hz hf (pv 0)) pa_nil)))) pss_nil)
      (pss_cons (ps_if (pt_cmpR op_eq (pv 1) pe_int (nomark _)) (pss_one (ps_ret (pe_tup (pa_cons (pe_fldP mem hz hf (pv 0)) pa_nil)))) pss_nil)
      (pss_cons (ps_if (pt_cmpR op_eq (pv 1) pe_int (nomark _)) (pss_one (ps_ret (pe_tup (pa_cons (pe_fldP mem hz hf (pv 0)) pa_nil)))) pss_nil)
      (pss_cons (ps_if (pt_cmpR op_eq (pv 1) pe_int (nomark _)) (pss_one (ps_ret (pe_tup (pa_cons (pe_fldP mem hz hf (pv 0)) pa_nil)))) pss_nil)
      (pss_cons (ps_if (pt_cmpR op_eq (pv 1) pe_int (nomark _)) (pss_one (ps_ret (pe_tup (pa_cons (pe_fldP mem hz hf (pv 0)) pa_nil)))) pss_nil)
      (pss_one (ps_ret (pe_tup pa_nil))))))))), ?_⟩
    rcases tenE hk with rfl | rfl | rfl | rfl | rfl | rfl | rfl | rfl | rfl | rfl | rfl | rfl | rfl | rfl | rfl | rfl | rfl | rfl | rfl | rfl | rfl | rfl | rfl
    · skip
      obtain ⟨dd, rfl, hdd⟩ := hd (by decide)
      exact ⟨_, rfl, _, _, rfl, rfl, _, rfl, _, rfl, rfl, ca 0, dd, _, v, rfl, T.xf 0 (by decide), T.no 0 (by decide) 0 (by decide), rfl, hdd, look1 _ _, by show 1 ≤ sizeLine; decide, fun r hr => kq r _ (same_new (fun _ _ e => e) hr) upd_same⟩
    · skip
      obtain ⟨dd, rfl, hdd⟩ := hd (by decide)
      exact ⟨_, rfl, _, _, rfl, rfl, _, rfl, _, rfl, rfl, ca 1, dd, _, v, rfl, T.xf 1 (by decide), T.no 1 (by decide) 0 (by decide), rfl, hdd, look1 _ _, by show 1 ≤ sizeLine; decide, fun r hr => kq r _ (same_new (fun _ _ e => e) hr) upd_same⟩
    · skip
      obtain ⟨dd, rfl, hdd⟩ := hd (by decide)
      exact ⟨_, rfl, _, _, rfl, rfl, _, rfl, _, rfl, rfl, ca 2, dd, _, v, rfl, T.xf 2 (by decide), T.no 2 (by decide) 0 (by decide), rfl, hdd, look1 _ _, by show 1 ≤ sizeLine; decide, fun r hr => kq r _ (same_new (fun _ _ e => e) hr) upd_same⟩
    · skip
      refine ⟨_, rfl, _, _, rfl, rfl, _, rfl, ?_⟩
      obtain ⟨dd, rfl, hdd⟩ := hd (by decide)
      exact ⟨_, rfl, _, _, rfl, rfl, _, rfl, _, rfl, rfl, ca 3, dd, _, v, rfl, T.xf 3 (by decide), T.no 3 (by decide) 3 (by decide), rfl, hdd, look1 _ _, by show 1 ≤ sizeLine; decide, fun r hr => kq r _ (same_new (fun _ _ e => e) hr) upd_same⟩
    · skip
      refine ⟨_, rfl, _, _, rfl, rfl, _, rfl, ?_⟩
      obtain ⟨dd, rfl, hdd⟩ := hd (by decide)
      exact ⟨_, rfl, _, _, rfl, rfl, _, rfl, _, rfl, rfl, ca 4, dd, _, v, rfl, T.xf 4 (by decide), T.no 4 (by decide) 3 (by decide), rfl, hdd, look1 _ _, by show 1 ≤ sizeLine; decide, fun r hr => kq r _ (same_new (fun _ _ e => e) hr) upd_same⟩
    · skip
      refine ⟨_, rfl, _, _, rfl, rfl, _, rfl, ?_⟩
      obtain ⟨dd, rfl, hdd⟩ := hd (by decide)
      exact ⟨_, rfl, _, _, rfl, rfl, _, rfl, _, rfl, rfl, ca 5, dd, _, v, rfl, T.xf 5 (by decide), T.no 5 (by decide) 3 (by decide), rfl, hdd, look1 _ _, by show 1 ≤ sizeLine; decide, fun r hr => kq r _ (same_new (fun _ _ e => e) hr) upd_same⟩
    · skip
      refine ⟨_, rfl, _, _, rfl, rfl, _, rfl, ?_⟩
      refine ⟨_, rfl, _, _, rfl, rfl, _, rfl, ?_⟩
      obtain ⟨dd, rfl, hdd⟩ := hd (by decide)
      exact ⟨_, rfl, rfl, _, rfl, _, rfl, rfl, ca 6, dd, _, v, rfl, T.xf 6 (by decide), T.no 6 (by decide) 6 (by decide), rfl, hdd, look1 _ _, by show 1 ≤ sizeLine; decide, fun r hr => kq r _ (same_new (fun _ _ e => e) hr) upd_same⟩
    · skip
      refine ⟨_, rfl, _, _, rfl, rfl, _, rfl, ?_⟩
      refine ⟨_, rfl, _, _, rfl, rfl, _, rfl, ?_⟩
      refine ⟨_, rfl, rfl, _, rfl, ?_⟩
      obtain ⟨dd, rfl, hdd⟩ := hd (by decide)
      exact ⟨_, rfl, rfl, _, rfl, _, rfl, rfl, ca 7, dd, _, v, rfl, T.xf 7 (by decide), T.no 7 (by decide) 7 (by decide), rfl, hdd, look1 _ _, by show 1 ≤ sizeLine; decide, fun r hr => kq r _ (same_new (fun _ _ e => e) hr) upd_same⟩
    · skip
      refine ⟨_, rfl, _, _, rfl, rfl, _, rfl, ?_⟩
      refine ⟨_, rfl, _, _, rfl, rfl, _, rfl, ?_⟩
      refine ⟨_, rfl, rfl, _, rfl, ?_⟩
      refine ⟨_, rfl, rfl, _, rfl, ?_⟩
      obtain ⟨dd, rfl, hdd⟩ := hd (by decide)
      exact ⟨_, rfl, rfl, _, rfl, _, rfl, rfl, ca 8, dd, _, v, rfl, T.xf 8 (by decide), T.no 8 (by decide) 8 (by decide), rfl, hdd, look1 _ _, by show 1 ≤ sizeLine; decide, fun r hr => kq r _ (same_new (fun _ _ e => e) hr) upd_same⟩
    · skip
      refine ⟨_, rfl, _, _, rfl, rfl, _, rfl, ?_⟩
      refine ⟨_, rfl, _, _, rfl, rfl, _, rfl, ?_⟩
      refine ⟨_, rfl, rfl, _, rfl, ?_⟩
      refine ⟨_, rfl, rfl, _, rfl, ?_⟩
      refine ⟨_, rfl, rfl, _, rfl, ?_⟩
      obtain ⟨dd, rfl, hdd⟩ := hd (by decide)
      exact ⟨_, rfl, rfl, _, rfl, _, rfl, rfl, ca 9, dd, _, v, rfl, T.xf 9 (by decide), T.no 9 (by decide) 9 (by decide), rfl, hdd, look1 _ _, by show 1 ≤ sizeLine; decide, fun r hr => kq r _ (same_new (fun _ _ e => e) hr) upd_same⟩
    · skip
      refine ⟨_, rfl, _, _, rfl, rfl, _, rfl, ?_⟩
      refine ⟨_, rfl, _, _, rfl, rfl, _, rfl, ?_⟩
      refine ⟨_, rfl, rfl, _, rfl, ?_⟩
      refine ⟨_, rfl, rfl, _, rfl, ?_⟩
      refine ⟨_, rfl, rfl, _, rfl, ?_⟩
      refine ⟨_, rfl, rfl, _, rfl, ?_⟩
      exact ⟨by show 0 ≤ sizeLine; decide, fun r hr => kq r _ (same_new (fun _ _ e => e) hr) upd_same⟩
    · skip
      refine ⟨_, rfl, _, _, rfl, rfl, _, rfl, ?_⟩
      refine ⟨_, rfl, _, _, rfl, rfl, _, rfl, ?_⟩
      refine ⟨_, rfl, rfl, _, rfl, ?_⟩
      refine ⟨_, rfl, rfl, _, rfl, ?_⟩
      refine ⟨_, rfl, rfl, _, rfl, ?_⟩
      refine ⟨_, rfl, rfl, _, rfl, ?_⟩
      exact ⟨by show 0 ≤ sizeLine; decide, fun r hr => kq r _ (same_new (fun _ _ e => e) hr) upd_same⟩
    · skip
      refine ⟨_, rfl, _, _, rfl, rfl, _, rfl, ?_⟩
      refine ⟨_, rfl, _, _, rfl, rfl, _, rfl, ?_⟩
      refine ⟨_, rfl, rfl, _, rfl, ?_⟩
      refine ⟨_, rfl, rfl, _, rfl, ?_⟩
      refine ⟨_, rfl, rfl, _, rfl, ?_⟩
      refine ⟨_, rfl, rfl, _, rfl, ?_⟩
      exact ⟨by show 0 ≤ sizeLine; decide, fun r hr => kq r _ (same_new (fun _ _ e => e) hr) upd_same⟩
    · skip
      refine ⟨_, rfl, _, _, rfl, rfl, _, rfl, ?_⟩
      refine ⟨_, rfl, _, _, rfl, rfl, _, rfl, ?_⟩
      refine ⟨_, rfl, rfl, _, rfl, ?_⟩
      refine ⟨_, rfl, rfl, _, rfl, ?_⟩
      refine ⟨_, rfl, rfl, _, rfl, ?_⟩
      refine ⟨_, rfl, rfl, _, rfl, ?_⟩
      exact ⟨by show 0 ≤ sizeLine; decide, fun r hr => kq r _ (same_new (fun _ _ e => e) hr) upd_same⟩
    · skip
      refine ⟨_, rfl, _, _, rfl, rfl, _, rfl, ?_⟩
      refine ⟨_, rfl, _, _, rfl, rfl, _, rfl, ?_⟩
      refine ⟨_, rfl, rfl, _, rfl, ?_⟩
      refine ⟨_, rfl, rfl, _, rfl, ?_⟩
      refine ⟨_, rfl, rfl, _, rfl, ?_⟩
      refine ⟨_, rfl, rfl, _, rfl, ?_⟩
      exact ⟨by show 0 ≤ sizeLine; decide, fun r hr => kq r _ (same_new (fun _ _ e => e) hr) upd_same⟩
    · skip
      refine ⟨_, rfl, _, _, rfl, rfl, _, rfl, ?_⟩
      refine ⟨_, rfl, _, _, rfl, rfl, _, rfl, ?_⟩
      refine ⟨_, rfl, rfl, _, rfl, ?_⟩
      refine ⟨_, rfl, rfl, _, rfl, ?_⟩
      refine ⟨_, rfl, rfl, _, rfl, ?_⟩
      refine ⟨_, rfl, rfl, _, rfl, ?_⟩
      exact ⟨by show 0 ≤ sizeLine; decide, fun r hr => kq r _ (same_new (fun _ _ e => e) hr) upd_same⟩
    · skip
      refine ⟨_, rfl, _, _, rfl, rfl, _, rfl, ?_⟩
      refine ⟨_, rfl, _, _, rfl, rfl, _, rfl, ?_⟩
      refine ⟨_, rfl, rfl, _, rfl, ?_⟩
      refine ⟨_, rfl, rfl, _, rfl, ?_⟩
      refine ⟨_, rfl, rfl, _, rfl, ?_⟩
      refine ⟨_, rfl, rfl, _, rfl, ?_⟩
      exact ⟨by show 0 ≤ sizeLine; decide, fun r hr => kq r _ (same_new (fun _ _ e => e) hr) upd_same⟩
    · skip
      refine ⟨_, rfl, _, _, rfl, rfl, _, rfl, ?_⟩
      refine ⟨_, rfl, _, _, rfl, rfl, _, rfl, ?_⟩
      refine ⟨_, rfl, rfl, _, rfl, ?_⟩
      refine ⟨_, rfl, rfl, _, rfl, ?_⟩
      refine ⟨_, rfl, rfl, _, rfl, ?_⟩
      refine ⟨_, rfl, rfl, _, rfl, ?_⟩
      exact ⟨by show 0 ≤ sizeLine; decide, fun r hr => kq r _ (same_new (fun _ _ e => e) hr) upd_same⟩
    · skip
      refine ⟨_, rfl, _, _, rfl, rfl, _, rfl, ?_⟩
      refine ⟨_, rfl, _, _, rfl, rfl, _, rfl, ?_⟩
      refine ⟨_, rfl, rfl, _, rfl, ?_⟩
      refine ⟨_, rfl, rfl, _, rfl, ?_⟩
      refine ⟨_, rfl, rfl, _, rfl, ?_⟩
      refine ⟨_, rfl, rfl, _, rfl, ?_⟩
      exact ⟨by show 0 ≤ sizeLine; decide, fun r hr => kq r _ (same_new (fun _ _ e => e) hr) upd_same⟩
    · skip
      refine ⟨_, rfl, _, _, rfl, rfl, _, rfl, ?_⟩
      refine ⟨_, rfl, _, _, rfl, rfl, _, rfl, ?_⟩
      refine ⟨_, rfl, rfl, _, rfl, ?_⟩
      refine ⟨_, rfl, rfl, _, rfl, ?_⟩
      refine ⟨_, rfl, rfl, _, rfl, ?_⟩
      refine ⟨_, rfl, rfl, _, rfl, ?_⟩
      exact ⟨by show 0 ≤ sizeLine; decide, fun r hr => kq r _ (same_new (fun _ _ e => e) hr) upd_same⟩
    · skip
      refine ⟨_, rfl, _, _, rfl, rfl, _, rfl, ?_⟩
      refine ⟨_, rfl, _, _, rfl, rfl, _, rfl, ?_⟩
      refine ⟨_, rfl, rfl, _, rfl, ?_⟩
      refine ⟨_, rfl, rfl, _, rfl, ?_⟩
      refine ⟨_, rfl, rfl, _, rfl, ?_⟩
      refine ⟨_, rfl, rfl, _, rfl, ?_⟩
      exact ⟨by show 0 ≤ sizeLine; decide, fun r hr => kq r _ (same_new (fun _ _ e => e) hr) upd_same⟩
    · skip
      refine ⟨_, rfl, _, _, rfl, rfl, _, rfl, ?_⟩
      refine ⟨_, rfl, _, _, rfl, rfl, _, rfl, ?_⟩
      refine ⟨_, rfl, rfl, _, rfl, ?_⟩
      refine ⟨_, rfl, rfl, _, rfl, ?_⟩
      refine ⟨_, rfl, rfl, _, rfl, ?_⟩
      refine ⟨_, rfl, rfl, _, rfl, ?_⟩
      exact ⟨by show 0 ≤ sizeLine; decide, fun r hr => kq r _ (same_new (fun _ _ e => e) hr) upd_same⟩
    · skip
      refine ⟨_, rfl, _, _, rfl, rfl, _, rfl, ?_⟩
      refine ⟨_, rfl, _, _, rfl, rfl, _, rfl, ?_⟩
      refine ⟨_, rfl, rfl, _, rfl, ?_⟩
      refine ⟨_, rfl, rfl, _, rfl, ?_⟩
      refine ⟨_, rfl, rfl, _, rfl, ?_⟩
      refine ⟨_, rfl, rfl, _, rfl, ?_⟩
      exact ⟨by show 0 ≤ sizeLine; decide, fun r hr => kq r _ (same_new (fun _ _ e => e) hr) upd_same⟩
theorem scCaught : FnScope ["_law_which", "_law_one", "_law_named", "_law_e"] ["_law_which", "_law_one", "_law_named"] (defScope sCaught) := ⟨rfl, rfl, rfl, by decide +kernel, rfl, by decide +kernel, by decide +kernel⟩
theorem ok_caught {f : Addr} {fd : FuncData} (D : At K mg "_law_caught" sCaught ["_law_which", "_law_one", "_law_named"] f fd) (X : TxtE mg) (T : ErrT K mg ca cp) (h1 : HasX P w K mg base 4 "_law_raise" ["_law_which", "_law_one"] (spRaise ca)) (h2 : HasX P w K mg base 4 "_law_raise_named" ["_law_which", "_law_one"] (spRaise ca))
    (h3 : HasE P w K mg base 1 "_law_classes" ["_law_e"] (spCls ca)) (h4 : HasE P w K mg base 1 "_law_fields" ["_law_e", "_law_which"] (spFld ca)) : Has P w K mg base 5 "_law_caught" ["_law_which", "_law_one", "_law_named"] spCaught := by
  obtain ⟨f_r, fd_r, F_r, g_r, k_r, b_r⟩ := h1
  obtain ⟨f_n, fd_n, F_n, g_n, k_n, b_n⟩ := h2
  obtain ⟨f_c, fd_c, F_c, g_c, k_c, b_c⟩ := h3
  obtain ⟨f_f, fd_f, F_f, g_f, k_f, b_f⟩ := h4
  refine ⟨f, fd, D.F.ok scCaught (fun vs H Q E h => ?_) (fun cdv A outer s H vs Q E hr h => ?_), D.g, D.k, D.b⟩
  · obtain ⟨_, _, _, _, rfl, _⟩ := h
    rfl
  · obtain ⟨k, v, b, hk, rfl, kq⟩ := h
    have sc := scCaught
    refine ⟨_, (pss_cons (ps_try_as (i := 3) rfl rfl sc.nd rfl rfl ⟨rfl, by decide, Or.inl T.gP⟩ takes0
        (fun W pn xe tk _ => pss_one (ps_if (pt_val (pv 2))
          (pss_one (ps_expr (pe_callS F_n (hr.mono (by decide)) (by rfl) g_n k_n b_n (fun σ => passAt tk σ) (pa_cons (pv 0) (pa_cons (pv 1) pa_nil)))))
          (pss_one (ps_expr (pe_callS F_r (hr.mono (by decide)) (by rfl) g_r k_r b_r (fun σ => passAt tk σ) (pa_cons (pv 0) (pa_cons (pv 1) pa_nil)))))))
        (fun a oe cls d pn hz hf => pss_one (ps_ret (pe_tup
          (pa_cons (pe_callB (id := "isinstance") (r := rIsP K cls a d) (call_isP List.mem_cons_self hz hf) (by rfl) X.b_isinstance (by decide +kernel) (pa_cons (pv 3) (pa_cons (pe_bltn (v := .ty "ValueError") (u := .type "ValueError") (by rfl) X.b_ve (by decide +kernel) rfl) pa_nil)))
          (pa_cons (pe_callE F_c (L2H.roomH_of (hr.mono (by decide))) hz hf (by rfl) g_c k_c b_c (pa_cons (pv 3) pa_nil))
          (pa_cons (pe_callE F_f (L2H.roomH_of (hr.mono (by decide))) hz hf (by rfl) g_f k_f b_f (pa_cons (pv 3) (pa_cons (pv 0) pa_nil))) pa_nil)))))))
      (pss_one (ps_ret pe_non))), ?_⟩
    refine ⟨_, rfl, b, rfl, ?_⟩
    cases b
    all_goals
      refine ⟨_, rfl, _, rfl, k, v, hk, rfl, fun h10 => ⟨true, T.te k hk, fun _ a ha => ?_, fun z => nomatch z⟩, fun h10 dd H1 s1 hdd => ⟨true, T.te k hk, fun _ a ha => ?_, fun z => nomatch z⟩⟩
      · have s1 : Same H H := fun _ _ e => e
        have dok : DctOk H none := .inl rfl
        have dfl : k < 10 → ∃ dd, (none : Option Addr) = some dd ∧ H dd = some (.xd [(fldE k, v)]) := fun z => absurd z (by omega)
        refine ⟨_, rfl, ca k, _, _, true, rfl, rfl, T.ec k hk, .ty _, dok, T.ve k hk, _, rfl, k, hk, rfl, rfl, dok, fun q H2 s2 hq => ?_⟩
        refine ⟨_, rfl, _, rfl, k, v, hk, rfl, rfl, fun z => by obtain ⟨dd', e1, e2⟩ := dfl z; exact ⟨dd', e1, s2 _ _ e2⟩, fun r H3 s3 hr3 => ⟨by show 3 ≤ sizeLine; decide, fun p hp => ?_⟩⟩
        refine kq p q r _ (same_new (fun b o e => s3 _ _ (s2 _ _ (s1 _ _ e))) hp) upd_same ?_ ?_
        · rw [upd_ne (ne_of_none (s3 _ _ hq) hp)]
          exact s3 _ _ hq
        · rw [upd_ne (ne_of_none hr3 hp)]
          exact hr3
      · have dok : DctOk H1 (some dd) := .inr ⟨dd, _, rfl, hdd⟩
        have dfl : k < 10 → ∃ dd', some dd = some dd' ∧ H1 dd' = some (.xd [(fldE k, v)]) := fun _ => ⟨dd, rfl, hdd⟩
        refine ⟨_, rfl, ca k, _, _, true, rfl, rfl, T.ec k hk, .ty _, dok, T.ve k hk, _, rfl, k, hk, rfl, rfl, dok, fun q H2 s2 hq => ?_⟩
        refine ⟨_, rfl, _, rfl, k, v, hk, rfl, rfl, fun z => by obtain ⟨dd', e1, e2⟩ := dfl z; exact ⟨dd', e1, s2 _ _ e2⟩, fun r H3 s3 hr3 => ⟨by show 3 ≤ sizeLine; decide, fun p hp => ?_⟩⟩
        refine kq p q r _ (same_new (fun b o e => s3 _ _ (s2 _ _ (s1 _ _ e))) hp) upd_same ?_ ?_
        · rw [upd_ne (ne_of_none (s3 _ _ hq) hp)]
          exact s3 _ _ hq
        · rw [upd_ne (ne_of_none hr3 hp)]
          exact hr3
end
end Lf

namespace Lf
open PySem L2
abbrev sLaw : Stmt := top 39
def spLaw (K : PySem.W.Frag) : Sp := fun vs H Q _ => ∃ (a : Addr) (ns : List Int), vs = [.ref a] ∧ SqL K H a (ns.map V.int) ∧ ns.length ≤ 63 ∧ ∀ H', Q (.bl true) H'
theorem FldV.same {H H' : Hp} {v : V} (h : FldV H v) (s : Same H H') : FldV H' v := by
  rcases h with h | h | h | ⟨p, x, y, e, hp⟩
  · exact .inl h
  · exact .inr (.inl h)
  · exact .inr (.inr (.inl h))
  · exact .inr (.inr (.inr ⟨p, x, y, e, s _ _ hp⟩))
theorem same_fld {H : Hp} {v : V} (h : FldV H v) : SameV H 2 v v := by
  rcases h with rfl | ⟨i, rfl⟩ | ⟨z, rfl⟩ | ⟨p, x, y, rfl, hp⟩
  · exact .inl ⟨rfl, rfl⟩
  · exact .inr (.inr (.inl ⟨i, rfl, rfl⟩))
  · exact .inr (.inr (.inr (.inl ⟨z, rfl, rfl⟩)))
  · refine .inr (.inr (.inr (.inr ⟨p, p, _, _, rfl, rfl, .inr ⟨hp, hp⟩, rfl, by show 2 < 1000; decide, fun i a b ha hb => ?_⟩)))
    rw [ha] at hb
    cases hb
    match i, ha with
    | 0, ha => cases ha; exact .inr (.inr (.inl ⟨_, rfl, rfl⟩))
    | 1, ha => cases ha; exact .inr (.inr (.inl ⟨_, rfl, rfl⟩))
theorem flags_len (k : Nat) : (flags k).length = 23 := by unfold flags; rw [List.length_map, List.length_range]
theorem same_flags {H : Hp} {k : Nat} {p q : Addr} (hp : H p = some (.lst (flags k))) (hq : H q = some (.lst (flags k))) : SameV H 3 (.ref p) (.ref q) := by
  refine .inr (.inr (.inr (.inr ⟨p, q, _, _, rfl, rfl, .inl ⟨hp, hq⟩, rfl, by rw [flags_len]; decide, fun i a b ha hb => ?_⟩)))
  rw [ha] at hb
  cases hb
  unfold flags at ha
  rw [List.getElem?_map] at ha
  cases e : (List.range 23)[i]? with
  | none => rw [e] at ha; cases ha
  | some j =>
    rw [e] at ha
    cases ha
    exact .inr (.inl ⟨_, rfl, rfl⟩)
theorem same_told {H : Hp} {k : Nat} {v : V} {p q r p' q' r' : Addr} (hv : FldV H v) (hp : H p = some (.tup [.bl true, .ref q, .ref r])) (hp' : H p' = some (.tup [.bl true, .ref q', .ref r'])) (hq : H q = some (.lst (flags k))) (hq' : H q' = some (.lst (flags k)))
    (hr : H r = some (.tup (if k < 10 then [v] else []))) (hr' : H r' = some (.tup (if k < 10 then [v] else []))) : SameV H 4 (.ref p) (.ref p') := by
  refine .inr (.inr (.inr (.inr ⟨p, p', _, _, rfl, rfl, .inr ⟨hp, hp'⟩, rfl, by show 3 < 1000; decide, fun i a b ha hb => ?_⟩)))
  match i, ha, hb with
  | 0, ha, hb => cases ha; cases hb; exact .inr (.inl ⟨_, rfl, rfl⟩)
  | 1, ha, hb => cases ha; cases hb; exact same_flags hq hq'
  | 2, ha, hb =>
    cases ha; cases hb
    refine .inr (.inr (.inr (.inr ⟨r, r', _, _, rfl, rfl, .inr ⟨hr, hr'⟩, rfl, by split; (show 1 < 1000; decide); (show 0 < 1000; decide), fun i a b ha hb => ?_⟩)))
    rw [ha] at hb
    cases hb
    split at ha
    · match i, ha with
      | 0, ha => cases ha; exact same_fld hv
    · cases ha
section
variable {P : Program} {w : World} {K : PySem.W.Frag} {mg : Str → Option Value} {base : Heap} {ca : Nat → Addr} {cp : Addr}
theorem scLaw : FnScope ["_law_script", "_law_state", "_law_which", "_law_one", "_law_due", "_law_named", "_law_told", "_law_k"] ["_law_script"] (defScope sLaw) := ⟨rfl, rfl, rfl, by decide +kernel, rfl, by decide +kernel, by decide +kernel⟩
theorem ok_law {f : Addr} {fd : FuncData} (D : At K mg "law" sLaw ["_law_script"] f fd) (X : TxtE mg) (h1 : Has P w K mg base 1 "_law_start" ["_law_script"] (spStart K)) (h2 : Has P w K mg base 3 "_law_field" ["_law_state"] spField)
    (h3 : Has P w K mg base 5 "_law_caught" ["_law_which", "_law_one", "_law_named"] spCaught) (h4 : Has P w K mg base 6 "_law_same" ["_law_told", "_law_due"] (spSame 4)) : FnOk P w K mg base CX0 7 f fd ["_law_script"] (spLaw K) := by
  obtain ⟨f_s, fd_s, F__law_start, g__law_start, k__law_start, b__law_start⟩ := h1
  obtain ⟨f_f, fd_f, F__law_field, g__law_field, k__law_field, b__law_field⟩ := h2
  obtain ⟨f_c, fd_c, F__law_caught, g__law_caught, k__law_caught, b__law_caught⟩ := h3
  obtain ⟨f_m, fd_m, F__law_same, g__law_same, k__law_same, b__law_same⟩ := h4
  refine D.F.ok scLaw (fun vs H Q E h => ?_) (fun cdv A outer s H vs Q E hr h => ?_)
  · obtain ⟨_, _, rfl, _⟩ := h
    rfl
  · obtain ⟨a, ns, rfl, hS, hn, kq⟩ := h
    have sc := scLaw
    have T : Txt mg := X.toTxt
    refine ⟨_, (pss_cons (ps_set (i := 1) sc.nd rfl (Or.inl rfl) (pe_call F__law_start (hr.mono (by decide)) (by rfl) g__law_start k__law_start b__law_start .nil pass0 (pa_cons (pv 0) pa_nil)))
      (pss_cons (ps_for PassesOwn.never rfl (pi_range1 (by rfl) T.b_range (pa_cons pe_int pa_nil)) (pg_name (i := 2) sc.nd rfl (Or.inr rfl))
        (pss_cons (ps_set (i := 3) sc.nd rfl (Or.inl rfl) (pe_call F__law_field (hr.mono (by decide)) (by rfl) g__law_field k__law_field b__law_field .nil pass0 (pa_cons (pv 1) pa_nil)))
        (pss_cons (ps_set (i := 4) sc.nd rfl (Or.inl rfl) (pe_tup (pa_cons (pv 3) pa_nil)))
        (C8.pss_cut (ps_if (pt_cmpR op_gt (pv 2) pe_int (nomark _))
          (pss_one (ps_set (i := 4) sc.nd rfl (Or.inl rfl) (pe_tup pa_nil)))
          pss_nil)
        (pss_one (ps_for PassesOwn.never rfl (pi_list (pe_lst (pa_cons pe_bl (pa_cons pe_bl pa_nil)))) (pg_name (i := 5) sc.nd rfl (Or.inl rfl))
          (pss_cons (ps_set (i := 6) sc.nd rfl (Or.inl rfl) (pe_call F__law_caught (hr.mono (by decide)) (by rfl) g__law_caught k__law_caught b__law_caught .nil pass0 (pa_cons (pv 2) (pa_cons (pv 3) (pa_cons (pv 5) pa_nil)))))
          (pss_one (ps_if (pt_not (pt_val (pe_call F__law_same (hr.mono (by decide)) (by rfl) g__law_same k__law_same b__law_same .nil pass0 (pa_cons (pv 6) (pa_cons (pe_tup (pa_cons pe_bl (pa_cons (pe_lc (own := [("_law_k", 7)]) (g := gName 7) (tt := tYes) rfl sc.nd (pi_range1 (by rfl) T.b_range (pa_cons pe_int pa_nil)) (blkOk_by (N := ["_law_script", "_law_state", "_law_which", "_law_one", "_law_due", "_law_named", "_law_told", "_law_k"]) (sc := defScope sLaw) (by decide +kernel)) (fun _ _ _ _ _ => pg_name (i := 7) sc.nd rfl (Or.inl rfl)) (fun _ _ _ _ _ => pts_nil) (fun _ _ _ _ _ => (pe_cmpR op_eq (pv 7) (pv 2) (nomark _)))) (pa_cons (pv 4) pa_nil)))) pa_nil)))))
            (pss_one (ps_ret pe_bl))
            pss_nil)))))))))
      (pss_one (ps_ret pe_bl)))), ?_⟩
    refine ⟨_, rfl, a, ns, rfl, hS, hn, fun p L H0 hp hL s0 st0 => ?_⟩
    refine ⟨23, rfl, by decide, by decide, for_range (lo := 0) (n := 23) (fun i σ H' => ∃ o2 o3 o4 o5 o6 o7, σ = [some (.ref a), some (.ref p), o2, o3, o4, o5, o6, o7] ∧ StA H' p L ns) ⟨_, _, _, _, _, _, rfl, st0⟩ ?_ ?_⟩
    · rintro i σ H1 hi ⟨o2, o3, o4, o5, o6, o7, rfl, st1⟩
      rw [Int.zero_add]
      refine ⟨_, rfl, p, L, ns, rfl, st1, fun v H2 fv2 st2 fr2 => ?_⟩
      refine ⟨_, rfl, by show 1 ≤ sizeLine; decide, fun r hr2 => ?_⟩
      have nr := st2.ne_new hr2
      have v2 : FldV (upd H2 r (.tup [v])) v := fv2.same (same_new (fun _ _ e => e) hr2)
      have st3 := st2.upd (o := .tup [v]) nr.1 nr.2
      refine ⟨fun σ' H' => ∃ r, σ' = [some (.ref a), some (.ref p), some (.int (i : Int)), some v, some (.ref r), o5, o6, o7] ∧ H' r = some (.tup (if i < 10 then [v] else [])) ∧ FldV H' v ∧ StA H' p L ns, ?_, ?_⟩
      · refine ⟨_, rfl, _, _, rfl, rfl, _, rfl, ?_⟩
        refine ite2 (fun h => ?_) (fun h => ?_)
        · have h' : (9 : Int) < (i : Int) := by simpa using h
          refine ⟨by show 0 ≤ sizeLine; decide, fun r2 h2 => ?_⟩
          have n2 := st3.ne_new h2
          exact ⟨r2, rfl, by rw [upd_same, if_neg (by omega)], v2.same (same_new (fun _ _ e => e) h2), st3.upd n2.1 n2.2⟩
        · have h' : ¬ (9 : Int) < (i : Int) := by simpa using h
          exact ⟨r, rfl, by rw [upd_same, if_pos (by omega)], v2, st3⟩
      · rintro σ' H3 ⟨r, rfl, hr3, fv3, st3⟩
        refine ⟨by show 2 ≤ sizeLine; decide, fun q hq => ?_⟩
        have nq := st3.ne_new hq
        refine ⟨q, rfl, ⟨_, SqL.of upd_same⟩, for_list (K := K) (a := q) (xs := [.bl false, .bl true]) (fun j σ H' => ∃ o5 o6 o7, σ = [some (.ref a), some (.ref p), some (.int (i : Int)), some v, some (.ref r), o5, o6, o7] ∧ H' q = some (.lst [.bl false, .bl true]) ∧ H' r = some (.tup (if i < 10 then [v] else [])) ∧ FldV H' v ∧ StA H' p L ns)
          ⟨_, _, _, rfl, upd_same, by rw [upd_ne (ne_of_none hr3 hq)]; exact hr3, fv3.same (same_new (fun _ _ e => e) hq), st3.upd nq.1 nq.2⟩ (fun j σ H' _ z => by obtain ⟨_, _, _, _, z, _⟩ := z; exact SqL.of z) ?_ ?_⟩
        · rintro j x σ H4 hx ⟨o5, o6, o7, rfl, hq4, hr4, fv4, st4⟩
          obtain ⟨b, rfl⟩ : ∃ b, x = V.bl b := by
            match j, hx with
            | 0, hx => cases hx; exact ⟨_, rfl⟩
            | 1, hx => cases hx; exact ⟨_, rfl⟩
          refine ⟨_, rfl, _, rfl, _, rfl, i, v, b, hi, rfl, fun pt qt rt H5 s5 hpt hqt hrt => ?_⟩
          refine ⟨_, rfl, _, rfl, by decide, by decide, fun D hD => ?_⟩
          refine lc_range (lo := 0) (n := 23) (fun m H' => H' = upd H5 D (.lst ((List.range m).map fun j => V.bl (decide (j = i))))) rfl ?_ ?_
          · rintro m H6 hm rfl
            refine ⟨rfl, ?_⟩
            refine ⟨_, rfl, _, rfl, rfl, _, upd_same, by rw [List.length_map, List.length_range, sizeLine_eq]; omega, ?_⟩
            rw [upd_upd, List.range_succ, List.map_append]
            have e1 : decide (V.int (0 + (m : Int)) = V.int (i : Int)) = decide (m = i) := by
              by_cases h : m = i
              · subst h
                rw [decide_eq_true rfl, decide_eq_true (by rw [Int.zero_add])]
              · rw [decide_eq_false h, decide_eq_false (fun z => h (by have z' := V.int.inj z; omega))]
            rw [e1]
            rfl
          · rintro H6 rfl
            refine ⟨_, rfl, by show 3 ≤ sizeLine; decide, fun tp htp => ?_⟩
            have s6 : Same H5 (upd H5 D (.lst ((List.range 23).map fun j => V.bl (decide (j = i))))) := same_new (fun _ _ e => e) hD
            have s7 := same_new s6 htp (o := .tup [.bl true, .ref D, .ref r])
            have s8 : Same H4 _ := fun b o e => s7 b o (s5 b o e)
            refine ⟨_, _, rfl, same_told (k := i) (v := v) (fv4.same s8) (s7 _ _ hpt) upd_same (s7 _ _ hqt) ?_ (s7 _ _ hrt) (s8 _ _ hr4), true, rfl, ?_⟩
            · rw [upd_ne (ne_of_none upd_same htp)]
              exact upd_same
            · exact ⟨_, _, _, rfl, s8 _ _ hq4, s8 _ _ hr4, fv4.same s8, st4.same s8⟩
        · rintro σ H4 ⟨o5, o6, o7, rfl, hq4, hr4, fv4, st4⟩
          exact ⟨_, _, _, _, _, _, rfl, st4⟩
    · rintro σ H1 ⟨o2, o3, o4, o5, o6, o7, rfl, st1⟩
      exact kq H1
end
end Lf

namespace Lf
open PySem L2
def cas (l : List Addr) (k : Nat) : Addr := l.getD k 0
def xfOk (K : PySem.W.Frag) (C : Addr) : Bool := xfB K C
def ecOk (K : PySem.W.Frag) (D : Addr) : Bool := decide (PySem.W.findIn K (.ref D) "__class__" = some (some (.builtin "object.__class__"))) && (decide (PySem.W.specialIn K (.builtin "object.__class__") "__get__" = some (some (.builtin "getset_descriptor.__get__"))) &&
  (decide (PySem.W.takesIn K (.builtin "object.__class__") = some true) && decide (PySem.W.mroIn K D (.type "object") = some true)))
def oneOk (K : PySem.W.Frag) (C cp : Addr) : Bool := xfB K C && (ecOk K C && (PySem.W.keepIn K (.ref C) && (decide (PySem.W.typeIn K (.ref C) = some (.type "type")) && (decide (PySem.W.kitOne K (.ref C) (.type "ValueError") = some true) &&
  (decide (PySem.W.exmOne K (.ref C) (.ref cp) = some true) && (decide (PySem.W.findIn K (.ref C) "__setattr__" = some (some (.builtin "object.__setattr__"))) && (List.range 10).all fun j => decide (PySem.W.findIn K (.ref C) (fldE j) = some none)))))))
def errB (K : PySem.W.Frag) (ca : Nat → Addr) (cp : Addr) : Bool := (List.range 23).all fun k => oneOk K (ca k) cp && ((decide (k < 10) || PySem.W.excIn K (ca k) [.type "ValueError", .type "Exception", .type "BaseException", .type "object"] "ValueError.__new__") &&
  (List.range 23).all fun j => decide (PySem.W.kitOne K (.ref (ca k)) (.ref (ca j)) = some (decide (j = k))))
structure One (K : PySem.W.Frag) (C cp : Addr) : Prop where
  xf : XfC K C
  ec : ExcC K C
  kp : PySem.W.keepIn K (.ref C) = true
  ty : PySem.W.typeIn K (.ref C) = some (.type "type")
  ve : PySem.W.kitOne K (.ref C) (.type "ValueError") = some true
  te : PySem.W.exmOne K (.ref C) (.ref cp) = some true
  sa : PySem.W.findIn K (.ref C) "__setattr__" = some (some (.builtin "object.__setattr__"))
  no : ∀ j, j < 10 → PySem.W.findIn K (.ref C) (fldE j) = some none
theorem one_of {K : PySem.W.Frag} {C cp : Addr} (h : oneOk K C cp = true) : One K C cp := by
  unfold oneOk ecOk at h
  simp only [Bool.and_eq_true, decide_eq_true_eq, List.all_eq_true, List.mem_range] at h
  obtain ⟨h1, ⟨h2, h3, h4, h5⟩, h6, h7, h8, h9, h10, h11⟩ := h
  have xf := xfB_ok h1
  exact ⟨xf, ⟨xf.ga, xf.gg, xf.exC, xf.hdC, h2, h3, h4, h5⟩, h6, h7, h8, h9, h10, h11⟩
theorem refs_ok (cp : Addr) : PySem.HandSPX.refsVE [Value.ref cp, .type "ValueError", .type "Exception", .type "BaseException", .type "object"] = true := (by decide +kernel : PySem.HandSPX.refsVE PySem.HandSPX.veTail = true)
theorem all_mk {l : PySem.W.OpenLaw} {w : World} {K : PySem.W.Frag} {h : Heap} {mg : Str → Option Value} {fa cp C0 C1 C2 C3 C4 C5 C6 C7 C8 C9 C10 C11 C12 C13 C14 C15 C16 C17 C18 C19 C20 C21 C22 fd0 fd1 fd2 fd3 fd4 fd5 fd6 fd7 fd8 fd9 fd10 fd11 fd12 fi0 fi1 fi2 fi3 fi4 fi5 fi6 fi7 fi8 fi9 : Addr} (X : K.In h) (G : h.Ns mainGlobals mg) (hfa : mg "law" = some (.ref fa))
    {odd0 and0 odd1 and1 odd2 and2 odd3 and3 odd4 and4 odd5 and5 odd6 and6 odd7 and7 odd8 and8 odd9 and9 odd10 and10 odd11 and11 odd12 and12 odi0 ani0 odi1 ani1 odi2 ani2 odi3 ani3 odi4 ani4 odi5 ani5 odi6 ani6 odi7 ani7 odi8 ani8 odi9 ani9 : Option Addr} {sld0 sld1 sld2 sld3 sld4 sld5 sld6 sld7 sld8 sld9 sld10 sld11 sld12 sli0 sli1 sli2 sli3 sli4 sli5 sli6 sli7 sli8 sli9 : Array (Option Value)} {ocd0 kVd0 dcd0 pmd0 cdd0 ctd0 ocd1 kVd1 dcd1 pmd1 cdd1 ctd1 ocd2 kVd2 dcd2 pmd2 cdd2 ctd2 ocd3 kVd3 dcd3 pmd3 cdd3 ctd3 ocd4 kVd4 dcd4 pmd4 cdd4 ctd4 ocd5 kVd5 dcd5 pmd5 cdd5 ctd5 ocd6 kVd6 dcd6 pmd6 cdd6 ctd6 ocd7 kVd7 dcd7 pmd7 cdd7 ctd7 ocd8 kVd8 dcd8 pmd8 cdd8 ctd8 ocd9 kVd9 dcd9 pmd9 cdd9 ctd9 ocd10 kVd10 dcd10 pmd10 cdd10 ctd10 ocd11 kVd11 dcd11 pmd11 cdd11 ctd11 ocd12 kVd12 dcd12 pmd12 cdd12 ctd12 oci0 kVi0 dci0 pmi0 cdi0 cti0 oci1 kVi1 dci1 pmi1 cdi1 cti1 oci2 kVi2 dci2 pmi2 cdi2 cti2 oci3 kVi3 dci3 pmi3 cdi3 cti3 oci4 kVi4 dci4 pmi4 cdi4 cti4 oci5 kVi5 dci5 pmi5 cdi5 cti5 oci6 kVi6 dci6 pmi6 cdi6 cti6 oci7 kVi7 dci7 pmi7 cdi7 cti7 oci8 kVi8 dci8 pmi8 cdi8 cti8 oci9 kVi9 dci9 pmi9 cdi9 cti9 : Value} {nm0 qn0 nm1 qn1 nm2 qn2 nm3 qn3 nm4 qn4 nm5 qn5 nm6 qn6 nm7 qn7 nm8 qn8 nm9 qn9 : Str} {N0 N1 N2 N3 N4 N5 N6 N7 N8 N9 : Addr} {bs0 sb0 bs1 sb1 bs2 sb2 bs3 sb3 bs4 sb4 bs5 sb5 bs6 sb6 bs7 sb7 bs8 sb8 bs9 sb9 : List Value} {sn0 sn1 sn2 sn3 sn4 sn5 sn6 sn7 sn8 sn9 : List Str} {ab0 ab1 ab2 ab3 ab4 ab5 ab6 ab7 ab8 ab9 : Bool} {co0 co1 co2 co3 co4 co5 co6 co7 co8 co9 : Option Bool} {dd0 dd1 dd2 dd3 dd4 dd5 dd6 dd7 dd8 dd9 : Option Addr} {m00 m10 m20 m30 m50 m01 m11 m21 m31 m51 m02 m12 m22 m32 m52 m03 m13 m23 m33 m53 m04 m14 m24 m34 m54 m05 m15 m25 m35 m55 m06 m16 m26 m36 m56 m07 m17 m27 m37 m57 m08 m18 m28 m38 m58 m09 m19 m29 m39 m59 : Option Value}
    (g0 : PySem.W.nsIn K mainGlobals "BadFormat" = some (some (.ref C0))) (g1 : PySem.W.nsIn K mainGlobals "BadNumber" = some (some (.ref C1))) (g2 : PySem.W.nsIn K mainGlobals "BadRule" = some (some (.ref C2))) (g3 : PySem.W.nsIn K mainGlobals "BadWay" = some (some (.ref C3))) (g4 : PySem.W.nsIn K mainGlobals "BadBits" = some (some (.ref C4))) (g5 : PySem.W.nsIn K mainGlobals "Left" = some (some (.ref C5))) (g6 : PySem.W.nsIn K mainGlobals "TooFew" = some (some (.ref C6))) (g7 : PySem.W.nsIn K mainGlobals "BadText" = some (some (.ref C7))) (g8 : PySem.W.nsIn K mainGlobals "TooMany" = some (some (.ref C8))) (g9 : PySem.W.nsIn K mainGlobals "NoName" = some (some (.ref C9))) (g10 : PySem.W.nsIn K mainGlobals "NoCommand" = some (some (.ref C10))) (g11 : PySem.W.nsIn K mainGlobals "NoBits" = some (some (.ref C11))) (g12 : PySem.W.nsIn K mainGlobals "NoUndo" = some (some (.ref C12))) (g13 : PySem.W.nsIn K mainGlobals "BadPlaces" = some (some (.ref C13))) (g14 : PySem.W.nsIn K mainGlobals "BadView" = some (some (.ref C14))) (g15 : PySem.W.nsIn K mainGlobals "OtherLetters" = some (some (.ref C15))) (g16 : PySem.W.nsIn K mainGlobals "BadTexts" = some (some (.ref C16))) (g17 : PySem.W.nsIn K mainGlobals "BadLine" = some (some (.ref C17))) (g18 : PySem.W.nsIn K mainGlobals "NoLine" = some (some (.ref C18))) (g19 : PySem.W.nsIn K mainGlobals "BadSight" = some (some (.ref C19))) (g20 : PySem.W.nsIn K mainGlobals "NoMove" = some (some (.ref C20))) (g21 : PySem.W.nsIn K mainGlobals "BadFlag" = some (some (.ref C21))) (g22 : PySem.W.nsIn K mainGlobals "BadCopies" = some (some (.ref C22))) (gP : PySem.W.nsIn K mainGlobals "PackError" = some (some (.ref cp)))
    (ad0 : PySem.W.nsIn K mainGlobals "_law_is_int" = some (some (.ref fd0))) (ld0 : K.lookup fd0 = some ⟨ocd0, odd0, .func (PySem.W.fnOf "_law_is_int" "_law_is_int" (defArgs sIsInt) (defBody sIsInt) (defScope sIsInt) .none kVd0 dcd0 pmd0 and0 cdd0 ctd0), sld0⟩) (cd0 : PySem.W.codeIn K cdd0 "_law_is_int" = true) (kd0 : PySem.W.keepIn K (.ref fd0) = true)
    (ad1 : PySem.W.nsIn K mainGlobals "_law_same" = some (some (.ref fd1))) (ld1 : K.lookup fd1 = some ⟨ocd1, odd1, .func (PySem.W.fnOf "_law_same" "_law_same" (defArgs sSame) (defBody sSame) (defScope sSame) .none kVd1 dcd1 pmd1 and1 cdd1 ctd1), sld1⟩) (cd1 : PySem.W.codeIn K cdd1 "_law_same" = true) (kd1 : PySem.W.keepIn K (.ref fd1) = true)
    (ad2 : PySem.W.nsIn K mainGlobals "_law_start" = some (some (.ref fd2))) (ld2 : K.lookup fd2 = some ⟨ocd2, odd2, .func (PySem.W.fnOf "_law_start" "_law_start" (defArgs sStart) (defBody sStart) (defScope sStart) .none kVd2 dcd2 pmd2 and2 cdd2 ctd2), sld2⟩) (cd2 : PySem.W.codeIn K cdd2 "_law_start" = true) (kd2 : PySem.W.keepIn K (.ref fd2) = true)
    (ad3 : PySem.W.nsIn K mainGlobals "_law_pull" = some (some (.ref fd3))) (ld3 : K.lookup fd3 = some ⟨ocd3, odd3, .func (PySem.W.fnOf "_law_pull" "_law_pull" (defArgs sPull) (defBody sPull) (defScope sPull) .none kVd3 dcd3 pmd3 and3 cdd3 ctd3), sld3⟩) (cd3 : PySem.W.codeIn K cdd3 "_law_pull" = true) (kd3 : PySem.W.keepIn K (.ref fd3) = true)
    (ad4 : PySem.W.nsIn K mainGlobals "_law_big" = some (some (.ref fd4))) (ld4 : K.lookup fd4 = some ⟨ocd4, odd4, .func (PySem.W.fnOf "_law_big" "_law_big" (defArgs sBig) (defBody sBig) (defScope sBig) .none kVd4 dcd4 pmd4 and4 cdd4 ctd4), sld4⟩) (cd4 : PySem.W.codeIn K cdd4 "_law_big" = true) (kd4 : PySem.W.keepIn K (.ref fd4) = true)
    (ad5 : PySem.W.nsIn K mainGlobals "_law_field" = some (some (.ref fd5))) (ld5 : K.lookup fd5 = some ⟨ocd5, odd5, .func (PySem.W.fnOf "_law_field" "_law_field" (defArgs sField) (defBody sField) (defScope sField) .none kVd5 dcd5 pmd5 and5 cdd5 ctd5), sld5⟩) (cd5 : PySem.W.codeIn K cdd5 "_law_field" = true) (kd5 : PySem.W.keepIn K (.ref fd5) = true)
    (ad6 : PySem.W.nsIn K mainGlobals "_law_raise_plain" = some (some (.ref fd6))) (ld6 : K.lookup fd6 = some ⟨ocd6, odd6, .func (PySem.W.fnOf "_law_raise_plain" "_law_raise_plain" (defArgs sPlain) (defBody sPlain) (defScope sPlain) .none kVd6 dcd6 pmd6 and6 cdd6 ctd6), sld6⟩) (cd6 : PySem.W.codeIn K cdd6 "_law_raise_plain" = true) (kd6 : PySem.W.keepIn K (.ref fd6) = true)
    (ad7 : PySem.W.nsIn K mainGlobals "_law_raise" = some (some (.ref fd7))) (ld7 : K.lookup fd7 = some ⟨ocd7, odd7, .func (PySem.W.fnOf "_law_raise" "_law_raise" (defArgs sRaise) (defBody sRaise) (defScope sRaise) .none kVd7 dcd7 pmd7 and7 cdd7 ctd7), sld7⟩) (cd7 : PySem.W.codeIn K cdd7 "_law_raise" = true) (kd7 : PySem.W.keepIn K (.ref fd7) = true)
    (ad8 : PySem.W.nsIn K mainGlobals "_law_raise_named" = some (some (.ref fd8))) (ld8 : K.lookup fd8 = some ⟨ocd8, odd8, .func (PySem.W.fnOf "_law_raise_named" "_law_raise_named" (defArgs sNamed) (defBody sNamed) (defScope sNamed) .none kVd8 dcd8 pmd8 and8 cdd8 ctd8), sld8⟩) (cd8 : PySem.W.codeIn K cdd8 "_law_raise_named" = true) (kd8 : PySem.W.keepIn K (.ref fd8) = true)
    (ad9 : PySem.W.nsIn K mainGlobals "_law_classes" = some (some (.ref fd9))) (ld9 : K.lookup fd9 = some ⟨ocd9, odd9, .func (PySem.W.fnOf "_law_classes" "_law_classes" (defArgs sCls) (defBody sCls) (defScope sCls) .none kVd9 dcd9 pmd9 and9 cdd9 ctd9), sld9⟩) (cd9 : PySem.W.codeIn K cdd9 "_law_classes" = true) (kd9 : PySem.W.keepIn K (.ref fd9) = true)
    (ad10 : PySem.W.nsIn K mainGlobals "_law_fields" = some (some (.ref fd10))) (ld10 : K.lookup fd10 = some ⟨ocd10, odd10, .func (PySem.W.fnOf "_law_fields" "_law_fields" (defArgs sFld) (defBody sFld) (defScope sFld) .none kVd10 dcd10 pmd10 and10 cdd10 ctd10), sld10⟩) (cd10 : PySem.W.codeIn K cdd10 "_law_fields" = true) (kd10 : PySem.W.keepIn K (.ref fd10) = true)
    (ad11 : PySem.W.nsIn K mainGlobals "_law_caught" = some (some (.ref fd11))) (ld11 : K.lookup fd11 = some ⟨ocd11, odd11, .func (PySem.W.fnOf "_law_caught" "_law_caught" (defArgs sCaught) (defBody sCaught) (defScope sCaught) .none kVd11 dcd11 pmd11 and11 cdd11 ctd11), sld11⟩) (cd11 : PySem.W.codeIn K cdd11 "_law_caught" = true) (kd11 : PySem.W.keepIn K (.ref fd11) = true)
    (ad12 : PySem.W.nsIn K mainGlobals "law" = some (some (.ref fd12))) (ld12 : K.lookup fd12 = some ⟨ocd12, odd12, .func (PySem.W.fnOf "law" "law" (defArgs sLaw) (defBody sLaw) (defScope sLaw) .none kVd12 dcd12 pmd12 and12 cdd12 ctd12), sld12⟩) (cd12 : PySem.W.codeIn K cdd12 "law" = true) (kd12 : PySem.W.keepIn K (.ref fd12) = true)
    (ai0 : PySem.W.findIn K (.ref C0) "__init__" = some (some (.ref fi0))) (li0 : K.lookup fi0 = some ⟨oci0, odi0, .func (PySem.W.fnOf "__init__" "BadFormat.__init__" (defArgs sI0) (defBody sI0) (defScope sI0) .none kVi0 dci0 pmi0 ani0 cdi0 cti0), sli0⟩) (ci0 : PySem.W.codeIn K cdi0 "BadFormat.__init__" = true) (ki0 : PySem.W.keepIn K (.ref fi0) = true)
    (ai1 : PySem.W.findIn K (.ref C1) "__init__" = some (some (.ref fi1))) (li1 : K.lookup fi1 = some ⟨oci1, odi1, .func (PySem.W.fnOf "__init__" "BadNumber.__init__" (defArgs sI1) (defBody sI1) (defScope sI1) .none kVi1 dci1 pmi1 ani1 cdi1 cti1), sli1⟩) (ci1 : PySem.W.codeIn K cdi1 "BadNumber.__init__" = true) (ki1 : PySem.W.keepIn K (.ref fi1) = true)
    (ai2 : PySem.W.findIn K (.ref C2) "__init__" = some (some (.ref fi2))) (li2 : K.lookup fi2 = some ⟨oci2, odi2, .func (PySem.W.fnOf "__init__" "BadRule.__init__" (defArgs sI2) (defBody sI2) (defScope sI2) .none kVi2 dci2 pmi2 ani2 cdi2 cti2), sli2⟩) (ci2 : PySem.W.codeIn K cdi2 "BadRule.__init__" = true) (ki2 : PySem.W.keepIn K (.ref fi2) = true)
    (ai3 : PySem.W.findIn K (.ref C3) "__init__" = some (some (.ref fi3))) (li3 : K.lookup fi3 = some ⟨oci3, odi3, .func (PySem.W.fnOf "__init__" "BadWay.__init__" (defArgs sI3) (defBody sI3) (defScope sI3) .none kVi3 dci3 pmi3 ani3 cdi3 cti3), sli3⟩) (ci3 : PySem.W.codeIn K cdi3 "BadWay.__init__" = true) (ki3 : PySem.W.keepIn K (.ref fi3) = true)
    (ai4 : PySem.W.findIn K (.ref C4) "__init__" = some (some (.ref fi4))) (li4 : K.lookup fi4 = some ⟨oci4, odi4, .func (PySem.W.fnOf "__init__" "BadBits.__init__" (defArgs sI4) (defBody sI4) (defScope sI4) .none kVi4 dci4 pmi4 ani4 cdi4 cti4), sli4⟩) (ci4 : PySem.W.codeIn K cdi4 "BadBits.__init__" = true) (ki4 : PySem.W.keepIn K (.ref fi4) = true)
    (ai5 : PySem.W.findIn K (.ref C5) "__init__" = some (some (.ref fi5))) (li5 : K.lookup fi5 = some ⟨oci5, odi5, .func (PySem.W.fnOf "__init__" "Left.__init__" (defArgs sI5) (defBody sI5) (defScope sI5) .none kVi5 dci5 pmi5 ani5 cdi5 cti5), sli5⟩) (ci5 : PySem.W.codeIn K cdi5 "Left.__init__" = true) (ki5 : PySem.W.keepIn K (.ref fi5) = true)
    (ai6 : PySem.W.findIn K (.ref C6) "__init__" = some (some (.ref fi6))) (li6 : K.lookup fi6 = some ⟨oci6, odi6, .func (PySem.W.fnOf "__init__" "TooFew.__init__" (defArgs sI6) (defBody sI6) (defScope sI6) .none kVi6 dci6 pmi6 ani6 cdi6 cti6), sli6⟩) (ci6 : PySem.W.codeIn K cdi6 "TooFew.__init__" = true) (ki6 : PySem.W.keepIn K (.ref fi6) = true)
    (ai7 : PySem.W.findIn K (.ref C7) "__init__" = some (some (.ref fi7))) (li7 : K.lookup fi7 = some ⟨oci7, odi7, .func (PySem.W.fnOf "__init__" "BadText.__init__" (defArgs sI7) (defBody sI7) (defScope sI7) .none kVi7 dci7 pmi7 ani7 cdi7 cti7), sli7⟩) (ci7 : PySem.W.codeIn K cdi7 "BadText.__init__" = true) (ki7 : PySem.W.keepIn K (.ref fi7) = true)
    (ai8 : PySem.W.findIn K (.ref C8) "__init__" = some (some (.ref fi8))) (li8 : K.lookup fi8 = some ⟨oci8, odi8, .func (PySem.W.fnOf "__init__" "TooMany.__init__" (defArgs sI8) (defBody sI8) (defScope sI8) .none kVi8 dci8 pmi8 ani8 cdi8 cti8), sli8⟩) (ci8 : PySem.W.codeIn K cdi8 "TooMany.__init__" = true) (ki8 : PySem.W.keepIn K (.ref fi8) = true)
    (ai9 : PySem.W.findIn K (.ref C9) "__init__" = some (some (.ref fi9))) (li9 : K.lookup fi9 = some ⟨oci9, odi9, .func (PySem.W.fnOf "__init__" "NoName.__init__" (defArgs sI9) (defBody sI9) (defScope sI9) .none kVi9 dci9 pmi9 ani9 cdi9 cti9), sli9⟩) (ci9 : PySem.W.codeIn K cdi9 "NoName.__init__" = true) (ki9 : PySem.W.keepIn K (.ref fi9) = true)
    (t0 : PySem.W.typeIn K (.ref fi0) = some (.type "function"))
    (x0 : K.lookup C0 = some (excClassObj nm0 qn0 C0 N0 bs0 [.ref cp, .type "ValueError", .type "Exception", .type "BaseException", .type "object"] true sn0 sb0 ab0 co0 dd0 m00 m10 m20 m30 m50 "ValueError.__new__"))
    (t1 : PySem.W.typeIn K (.ref fi1) = some (.type "function"))
    (x1 : K.lookup C1 = some (excClassObj nm1 qn1 C1 N1 bs1 [.ref cp, .type "ValueError", .type "Exception", .type "BaseException", .type "object"] true sn1 sb1 ab1 co1 dd1 m01 m11 m21 m31 m51 "ValueError.__new__"))
    (t2 : PySem.W.typeIn K (.ref fi2) = some (.type "function"))
    (x2 : K.lookup C2 = some (excClassObj nm2 qn2 C2 N2 bs2 [.ref cp, .type "ValueError", .type "Exception", .type "BaseException", .type "object"] true sn2 sb2 ab2 co2 dd2 m02 m12 m22 m32 m52 "ValueError.__new__"))
    (t3 : PySem.W.typeIn K (.ref fi3) = some (.type "function"))
    (x3 : K.lookup C3 = some (excClassObj nm3 qn3 C3 N3 bs3 [.ref cp, .type "ValueError", .type "Exception", .type "BaseException", .type "object"] true sn3 sb3 ab3 co3 dd3 m03 m13 m23 m33 m53 "ValueError.__new__"))
    (t4 : PySem.W.typeIn K (.ref fi4) = some (.type "function"))
    (x4 : K.lookup C4 = some (excClassObj nm4 qn4 C4 N4 bs4 [.ref cp, .type "ValueError", .type "Exception", .type "BaseException", .type "object"] true sn4 sb4 ab4 co4 dd4 m04 m14 m24 m34 m54 "ValueError.__new__"))
    (t5 : PySem.W.typeIn K (.ref fi5) = some (.type "function"))
    (x5 : K.lookup C5 = some (excClassObj nm5 qn5 C5 N5 bs5 [.ref cp, .type "ValueError", .type "Exception", .type "BaseException", .type "object"] true sn5 sb5 ab5 co5 dd5 m05 m15 m25 m35 m55 "ValueError.__new__"))
    (t6 : PySem.W.typeIn K (.ref fi6) = some (.type "function"))
    (x6 : K.lookup C6 = some (excClassObj nm6 qn6 C6 N6 bs6 [.ref cp, .type "ValueError", .type "Exception", .type "BaseException", .type "object"] true sn6 sb6 ab6 co6 dd6 m06 m16 m26 m36 m56 "ValueError.__new__"))
    (t7 : PySem.W.typeIn K (.ref fi7) = some (.type "function"))
    (x7 : K.lookup C7 = some (excClassObj nm7 qn7 C7 N7 bs7 [.ref cp, .type "ValueError", .type "Exception", .type "BaseException", .type "object"] true sn7 sb7 ab7 co7 dd7 m07 m17 m27 m37 m57 "ValueError.__new__"))
    (t8 : PySem.W.typeIn K (.ref fi8) = some (.type "function"))
    (x8 : K.lookup C8 = some (excClassObj nm8 qn8 C8 N8 bs8 [.ref cp, .type "ValueError", .type "Exception", .type "BaseException", .type "object"] true sn8 sb8 ab8 co8 dd8 m08 m18 m28 m38 m58 "ValueError.__new__"))
    (t9 : PySem.W.typeIn K (.ref fi9) = some (.type "function"))
    (x9 : K.lookup C9 = some (excClassObj nm9 qn9 C9 N9 bs9 [.ref cp, .type "ValueError", .type "Exception", .type "BaseException", .type "object"] true sn9 sb9 ab9 co9 dd9 m09 m19 m29 m39 m59 "ValueError.__new__"))
    (z_len : PySem.W.nsIn K mainGlobals "len" = some none)
    (z_int : PySem.W.nsIn K mainGlobals "int" = some none)
    (z_list : PySem.W.nsIn K mainGlobals "list" = some none)
    (z_range : PySem.W.nsIn K mainGlobals "range" = some none)
    (z_isinstance : PySem.W.nsIn K mainGlobals "isinstance" = some none)
    (z_bool : PySem.W.nsIn K mainGlobals "bool" = some none)
    (z_str : PySem.W.nsIn K mainGlobals "str" = some none)
    (z_dict : PySem.W.nsIn K mainGlobals "dict" = some none)
    (z_tuple : PySem.W.nsIn K mainGlobals "tuple" = some none)
    (z_ValueError : PySem.W.nsIn K mainGlobals "ValueError" = some none)
    (chk : errB K (cas [C0, C1, C2, C3, C4, C5, C6, C7, C8, C9, C10, C11, C12, C13, C14, C15, C16, C17, C18, C19, C20, C21, C22]) cp = true) :
    ∃ fd : FuncData, (∀ (s : Shared) (v : Value), BindsTo s fd ⟨[v], []⟩ [("_law_script", v)]) ∧ ∀ base : Heap, K.In base → base.Ns mainGlobals mg → FnOk l.prog w K mg base CX0 7 fa fd ["_law_script"] (spLaw K) := by
  have e := hfa.symm.trans (PySem.W.mg_of X G ad12)
  cases e
  have all := chk
  unfold errB at all
  simp only [Bool.and_eq_true, Bool.or_eq_true, decide_eq_true_eq, List.all_eq_true, List.mem_range] at all
  have one : ∀ k, k < 23 → One K (cas [C0, C1, C2, C3, C4, C5, C6, C7, C8, C9, C10, C11, C12, C13, C14, C15, C16, C17, C18, C19, C20, C21, C22] k) cp := fun k hk => one_of (all k hk).1
  have T : ErrT K mg (cas [C0, C1, C2, C3, C4, C5, C6, C7, C8, C9, C10, C11, C12, C13, C14, C15, C16, C17, C18, C19, C20, C21, C22]) cp :=
    { g := fun k hk => by
        rcases tenE hk with rfl | rfl | rfl | rfl | rfl | rfl | rfl | rfl | rfl | rfl | rfl | rfl | rfl | rfl | rfl | rfl | rfl | rfl | rfl | rfl | rfl | rfl | rfl
        · exact PySem.W.mg_of X G g0
        · exact PySem.W.mg_of X G g1
        · exact PySem.W.mg_of X G g2
        · exact PySem.W.mg_of X G g3
        · exact PySem.W.mg_of X G g4
        · exact PySem.W.mg_of X G g5
        · exact PySem.W.mg_of X G g6
        · exact PySem.W.mg_of X G g7
        · exact PySem.W.mg_of X G g8
        · exact PySem.W.mg_of X G g9
        · exact PySem.W.mg_of X G g10
        · exact PySem.W.mg_of X G g11
        · exact PySem.W.mg_of X G g12
        · exact PySem.W.mg_of X G g13
        · exact PySem.W.mg_of X G g14
        · exact PySem.W.mg_of X G g15
        · exact PySem.W.mg_of X G g16
        · exact PySem.W.mg_of X G g17
        · exact PySem.W.mg_of X G g18
        · exact PySem.W.mg_of X G g19
        · exact PySem.W.mg_of X G g20
        · exact PySem.W.mg_of X G g21
        · exact PySem.W.mg_of X G g22
      gP := PySem.W.mg_of X G gP
      o := fun k hk => by
        have h23 : k < 23 := by omega
        rcases (show k = 0 ∨ k = 1 ∨ k = 2 ∨ k = 3 ∨ k = 4 ∨ k = 5 ∨ k = 6 ∨ k = 7 ∨ k = 8 ∨ k = 9 by omega) with rfl | rfl | rfl | rfl | rfl | rfl | rfl | rfl | rfl | rfl
        · exact ⟨⟨_, _, _, _, _, _, _, _, _, _, _, _, _, _, _, x0, refs_ok cp⟩, (one 0 h23).sa, (one 0 h23).xf.exC, (one 0 h23).ty, (one 0 h23).kp⟩
        · exact ⟨⟨_, _, _, _, _, _, _, _, _, _, _, _, _, _, _, x1, refs_ok cp⟩, (one 1 h23).sa, (one 1 h23).xf.exC, (one 1 h23).ty, (one 1 h23).kp⟩
        · exact ⟨⟨_, _, _, _, _, _, _, _, _, _, _, _, _, _, _, x2, refs_ok cp⟩, (one 2 h23).sa, (one 2 h23).xf.exC, (one 2 h23).ty, (one 2 h23).kp⟩
        · exact ⟨⟨_, _, _, _, _, _, _, _, _, _, _, _, _, _, _, x3, refs_ok cp⟩, (one 3 h23).sa, (one 3 h23).xf.exC, (one 3 h23).ty, (one 3 h23).kp⟩
        · exact ⟨⟨_, _, _, _, _, _, _, _, _, _, _, _, _, _, _, x4, refs_ok cp⟩, (one 4 h23).sa, (one 4 h23).xf.exC, (one 4 h23).ty, (one 4 h23).kp⟩
        · exact ⟨⟨_, _, _, _, _, _, _, _, _, _, _, _, _, _, _, x5, refs_ok cp⟩, (one 5 h23).sa, (one 5 h23).xf.exC, (one 5 h23).ty, (one 5 h23).kp⟩
        · exact ⟨⟨_, _, _, _, _, _, _, _, _, _, _, _, _, _, _, x6, refs_ok cp⟩, (one 6 h23).sa, (one 6 h23).xf.exC, (one 6 h23).ty, (one 6 h23).kp⟩
        · exact ⟨⟨_, _, _, _, _, _, _, _, _, _, _, _, _, _, _, x7, refs_ok cp⟩, (one 7 h23).sa, (one 7 h23).xf.exC, (one 7 h23).ty, (one 7 h23).kp⟩
        · exact ⟨⟨_, _, _, _, _, _, _, _, _, _, _, _, _, _, _, x8, refs_ok cp⟩, (one 8 h23).sa, (one 8 h23).xf.exC, (one 8 h23).ty, (one 8 h23).kp⟩
        · exact ⟨⟨_, _, _, _, _, _, _, _, _, _, _, _, _, _, _, x9, refs_ok cp⟩, (one 9 h23).sa, (one 9 h23).xf.exC, (one 9 h23).ty, (one 9 h23).kp⟩
      no := fun k hk => (one k hk).no
      exc := fun k hk h10 => ((all k hk).2.1).resolve_left (by omega)
      kp := fun k hk => (one k hk).kp
      sub := fun k hk => (one k hk).xf.exC
      ty := fun k hk => (one k hk).ty
      xf := fun k hk => (one k hk).xf
      ec := fun k hk => (one k hk).ec
      kit := fun k hk j hj => (all k hk).2.2 j hj
      ve := fun k hk => (one k hk).ve
      te := fun k hk => (one k hk).te }
  have XT : TxtE mg := { b_len := PySem.W.mg_none_of X G z_len, b_int := PySem.W.mg_none_of X G z_int, b_list := PySem.W.mg_none_of X G z_list, b_range := PySem.W.mg_none_of X G z_range, b_isinstance := PySem.W.mg_none_of X G z_isinstance, b_bool := PySem.W.mg_none_of X G z_bool, b_str := PySem.W.mg_none_of X G z_str, b_dict := PySem.W.mg_none_of X G z_dict, b_tuple := PySem.W.mg_none_of X G z_tuple, b_ve := PySem.W.mg_none_of X G z_ValueError }
  have F0 := fun_mk (st := sIsInt) ld0 cd0 kd0
  have D0 : At K mg "_law_is_int" sIsInt ["_law_told"] _ _ := ⟨F0, PySem.W.mg_of X G ad0, kd0, F0.binds (ps := ["_law_told"]) fun _ _ _ _ _ _ us hl => match us, hl with | [_], _ => rfl⟩
  have F1 := fun_mk (st := sSame) ld1 cd1 kd1
  have D1 : At K mg "_law_same" sSame ["_law_told", "_law_due"] _ _ := ⟨F1, PySem.W.mg_of X G ad1, kd1, F1.binds (ps := ["_law_told", "_law_due"]) fun _ _ _ _ _ _ us hl => match us, hl with | [_, _], _ => rfl⟩
  have F2 := fun_mk (st := sStart) ld2 cd2 kd2
  have D2 : At K mg "_law_start" sStart ["_law_script"] _ _ := ⟨F2, PySem.W.mg_of X G ad2, kd2, F2.binds (ps := ["_law_script"]) fun _ _ _ _ _ _ us hl => match us, hl with | [_], _ => rfl⟩
  have F3 := fun_mk (st := sPull) ld3 cd3 kd3
  have D3 : At K mg "_law_pull" sPull ["_law_state", "_law_many"] _ _ := ⟨F3, PySem.W.mg_of X G ad3, kd3, F3.binds (ps := ["_law_state", "_law_many"]) fun _ _ _ _ _ _ us hl => match us, hl with | [_, _], _ => rfl⟩
  have F4 := fun_mk (st := sBig) ld4 cd4 kd4
  have D4 : At K mg "_law_big" sBig ["_law_state", "_law_many"] _ _ := ⟨F4, PySem.W.mg_of X G ad4, kd4, F4.binds (ps := ["_law_state", "_law_many"]) fun _ _ _ _ _ _ us hl => match us, hl with | [_, _], _ => rfl⟩
  have F5 := fun_mk (st := sField) ld5 cd5 kd5
  have D5 : At K mg "_law_field" sField ["_law_state"] _ _ := ⟨F5, PySem.W.mg_of X G ad5, kd5, F5.binds (ps := ["_law_state"]) fun _ _ _ _ _ _ us hl => match us, hl with | [_], _ => rfl⟩
  have F6 := fun_mk (st := sPlain) ld6 cd6 kd6
  have D6 : At K mg "_law_raise_plain" sPlain ["_law_which"] _ _ := ⟨F6, PySem.W.mg_of X G ad6, kd6, F6.binds (ps := ["_law_which"]) fun _ _ _ _ _ _ us hl => match us, hl with | [_], _ => rfl⟩
  have F7 := fun_mk (st := sRaise) ld7 cd7 kd7
  have D7 : At K mg "_law_raise" sRaise ["_law_which", "_law_one"] _ _ := ⟨F7, PySem.W.mg_of X G ad7, kd7, F7.binds (ps := ["_law_which", "_law_one"]) fun _ _ _ _ _ _ us hl => match us, hl with | [_, _], _ => rfl⟩
  have F8 := fun_mk (st := sNamed) ld8 cd8 kd8
  have D8 : At K mg "_law_raise_named" sNamed ["_law_which", "_law_one"] _ _ := ⟨F8, PySem.W.mg_of X G ad8, kd8, F8.binds (ps := ["_law_which", "_law_one"]) fun _ _ _ _ _ _ us hl => match us, hl with | [_, _], _ => rfl⟩
  have F9 := fun_mk (st := sCls) ld9 cd9 kd9
  have D9 : At K mg "_law_classes" sCls ["_law_e"] _ _ := ⟨F9, PySem.W.mg_of X G ad9, kd9, F9.binds (ps := ["_law_e"]) fun _ _ _ _ _ _ us hl => match us, hl with | [_], _ => rfl⟩
  have F10 := fun_mk (st := sFld) ld10 cd10 kd10
  have D10 : At K mg "_law_fields" sFld ["_law_e", "_law_which"] _ _ := ⟨F10, PySem.W.mg_of X G ad10, kd10, F10.binds (ps := ["_law_e", "_law_which"]) fun _ _ _ _ _ _ us hl => match us, hl with | [_, _], _ => rfl⟩
  have F11 := fun_mk (st := sCaught) ld11 cd11 kd11
  have D11 : At K mg "_law_caught" sCaught ["_law_which", "_law_one", "_law_named"] _ _ := ⟨F11, PySem.W.mg_of X G ad11, kd11, F11.binds (ps := ["_law_which", "_law_one", "_law_named"]) fun _ _ _ _ _ _ us hl => match us, hl with | [_, _, _], _ => rfl⟩
  have F12 := fun_mk (st := sLaw) ld12 cd12 kd12
  have D12 : At K mg "law" sLaw ["_law_script"] _ _ := ⟨F12, PySem.W.mg_of X G ad12, kd12, F12.binds (ps := ["_law_script"]) fun _ _ _ _ _ _ us hl => match us, hl with | [_], _ => rfl⟩
  have FI0 := fun_mk (st := sI0) li0 ci0 ki0
  have FI1 := fun_mk (st := sI1) li1 ci1 ki1
  have FI2 := fun_mk (st := sI2) li2 ci2 ki2
  have FI3 := fun_mk (st := sI3) li3 ci3 ki3
  have FI4 := fun_mk (st := sI4) li4 ci4 ki4
  have FI5 := fun_mk (st := sI5) li5 ci5 ki5
  have FI6 := fun_mk (st := sI6) li6 ci6 ki6
  have FI7 := fun_mk (st := sI7) li7 ci7 ki7
  have FI8 := fun_mk (st := sI8) li8 ci8 ki8
  have FI9 := fun_mk (st := sI9) li9 ci9 ki9
  refine ⟨PySem.W.fnOf "law" "law" (defArgs sLaw) (defBody sLaw) (defScope sLaw) .none kVd12 dcd12 pmd12 and12 cdd12 ctd12, fun s v => ?_, fun base _ _ => ?_⟩
  rotate_left
  · skip
    have hi0 : HasI l.prog w K mg base (cas [C0, C1, C2, C3, C4, C5, C6, C7, C8, C9, C10, C11, C12, C13, C14, C15, C16, C17, C18, C19, C20, C21, C22] 0) "part" := ok_I0 FI0 ai0 t0
    have hi1 : HasI l.prog w K mg base (cas [C0, C1, C2, C3, C4, C5, C6, C7, C8, C9, C10, C11, C12, C13, C14, C15, C16, C17, C18, C19, C20, C21, C22] 1) "part" := ok_I1 FI1 ai1 t1
    have hi2 : HasI l.prog w K mg base (cas [C0, C1, C2, C3, C4, C5, C6, C7, C8, C9, C10, C11, C12, C13, C14, C15, C16, C17, C18, C19, C20, C21, C22] 2) "part" := ok_I2 FI2 ai2 t2
    have hi3 : HasI l.prog w K mg base (cas [C0, C1, C2, C3, C4, C5, C6, C7, C8, C9, C10, C11, C12, C13, C14, C15, C16, C17, C18, C19, C20, C21, C22] 3) "at" := ok_I3 FI3 ai3 t3
    have hi4 : HasI l.prog w K mg base (cas [C0, C1, C2, C3, C4, C5, C6, C7, C8, C9, C10, C11, C12, C13, C14, C15, C16, C17, C18, C19, C20, C21, C22] 4) "at" := ok_I4 FI4 ai4 t4
    have hi5 : HasI l.prog w K mg base (cas [C0, C1, C2, C3, C4, C5, C6, C7, C8, C9, C10, C11, C12, C13, C14, C15, C16, C17, C18, C19, C20, C21, C22] 5) "at" := ok_I5 FI5 ai5 t5
    have hi6 : HasI l.prog w K mg base (cas [C0, C1, C2, C3, C4, C5, C6, C7, C8, C9, C10, C11, C12, C13, C14, C15, C16, C17, C18, C19, C20, C21, C22] 6) "due" := ok_I6 FI6 ai6 t6
    have hi7 : HasI l.prog w K mg base (cas [C0, C1, C2, C3, C4, C5, C6, C7, C8, C9, C10, C11, C12, C13, C14, C15, C16, C17, C18, C19, C20, C21, C22] 7) "place" := ok_I7 FI7 ai7 t7
    have hi8 : HasI l.prog w K mg base (cas [C0, C1, C2, C3, C4, C5, C6, C7, C8, C9, C10, C11, C12, C13, C14, C15, C16, C17, C18, C19, C20, C21, C22] 8) "most" := ok_I8 FI8 ai8 t8
    have hi9 : HasI l.prog w K mg base (cas [C0, C1, C2, C3, C4, C5, C6, C7, C8, C9, C10, C11, C12, C13, C14, C15, C16, C17, C18, C19, C20, C21, C22] 9) "name" := ok_I9 FI9 ai9 t9
    have h_isint := ok_isint (P := l.prog) (w := w) (base := base) D0 XT.toTxt
    have h_same := ok_same (P := l.prog) (w := w) (base := base) D1 XT.toTxt h_isint 4
    have h_start := ok_start (P := l.prog) (w := w) (base := base) D2 XT.toTxt
    have h_pull := ok_pull (P := l.prog) (w := w) (base := base) D3 XT.toTxt
    have h_big := ok_big D4 XT.toTxt h_pull
    have h_field := ok_field D5 XT.toTxt h_pull h_big
    have h_plain := ok_plain (P := l.prog) (w := w) (base := base) D6 T
    have h_raise := oksRaise D7 T h_plain hi0 hi1 hi2 hi3 hi4 hi5 hi6 hi7 hi8 hi9
    have h_named := oksNamed D8 T h_plain hi0 hi1 hi2 hi3 hi4 hi5 hi6 hi7 hi8 hi9
    have h_cls := ok_cls (P := l.prog) (w := w) (base := base) D9 XT T
    have h_fld := ok_fld (P := l.prog) (w := w) (base := base) D10 T
    have h_caught := ok_caught D11 XT T h_raise h_named h_cls h_fld
    exact ok_law D12 XT h_start h_field h_caught h_same
  · exact .of_eq rfl
theorem walk {l : PySem.W.OpenLaw} {q : Program} {loose : List Str} {XP : (Str → Option Value) → Heap → Prop} {YP : World → Heap → Prop} {d : DefRec} {K : Params → PySem.W.Frag} (hn : l.most = some 63) (hdf : d.params.defaults = [])
    (hY : ∀ (w : World) (h : Heap), YP w h → (K w.params).In h)
    (F : ∀ (w : World) (mg : Str → Option Value) (fa : Addr) (h : Heap), (K w.params).In h → h.Ns mainGlobals mg → mg d.name = some (.ref fa) →
      ∃ fd : FuncData, (∀ (s : Shared) (u : Value), BindsTo s fd ⟨[u], []⟩ [("_law_script", u)]) ∧ ∀ base : Heap, (K w.params).In base → base.Ns mainGlobals mg → FnOk l.prog w (K w.params) mg base CX0 7 fa fd ["_law_script"] (spLaw (K w.params))) :
    PySem.W.WalkO q loose XP YP l.row.toRowW d [] (fun f vs => PySem.call f vs) :=
  L2.walk_of (n := 63) (k := 7) (x := "_law_script") (CX := fun _ => CX0) (sp := fun w => spLaw (K w.params)) hn (by decide) hdf ⟨rfl, by decide, by decide⟩ hY F (fun _ _ a ns hl _ hS => ⟨a, ns, rfl, hS, hl, fun _ => rfl⟩) fun _ _ _ _ _ z => z
end Lf

open PySem PySem.W PyProof.Rows
set_option maxRecDepth 100000 in
set_option maxHeartbeats 0 in
theorem PySem.Challenge.cw_leastfile_k01_errors_and_their_fields_holds : PySem.Challenge.rw_leastfile_k01_errors_and_their_fields.Holds := by
  w_on; o_law; k_head; (case hw => w_witness2)
  k_fill
  refine Lf.walk (l := PySem.Challenge.rw_leastfile_k01_errors_and_their_fields) rfl rfl (fun w h Y => PySem.W.kIn_of Y) ?F
  case F =>
    intro w mg fa h KX G hmg
    refine' Lf.all_mk KX G hmg ?lfq_g0 ?lfq_g1 ?lfq_g2 ?lfq_g3 ?lfq_g4 ?lfq_g5 ?lfq_g6 ?lfq_g7 ?lfq_g8 ?lfq_g9 ?lfq_g10 ?lfq_g11 ?lfq_g12 ?lfq_g13 ?lfq_g14 ?lfq_g15 ?lfq_g16 ?lfq_g17 ?lfq_g18 ?lfq_g19 ?lfq_g20 ?lfq_g21 ?lfq_g22 ?lfq_gP ?lfq_ad0 ?lfq_ld0 ?lfq_cd0 ?lfq_kd0 ?lfq_ad1 ?lfq_ld1 ?lfq_cd1 ?lfq_kd1 ?lfq_ad2 ?lfq_ld2 ?lfq_cd2 ?lfq_kd2 ?lfq_ad3 ?lfq_ld3 ?lfq_cd3 ?lfq_kd3 ?lfq_ad4 ?lfq_ld4 ?lfq_cd4 ?lfq_kd4 ?lfq_ad5 ?lfq_ld5 ?lfq_cd5 ?lfq_kd5 ?lfq_ad6 ?lfq_ld6 ?lfq_cd6 ?lfq_kd6 ?lfq_ad7 ?lfq_ld7 ?lfq_cd7 ?lfq_kd7 ?lfq_ad8 ?lfq_ld8 ?lfq_cd8 ?lfq_kd8 ?lfq_ad9 ?lfq_ld9 ?lfq_cd9 ?lfq_kd9 ?lfq_ad10 ?lfq_ld10 ?lfq_cd10 ?lfq_kd10 ?lfq_ad11 ?lfq_ld11 ?lfq_cd11 ?lfq_kd11 ?lfq_ad12 ?lfq_ld12 ?lfq_cd12 ?lfq_kd12 ?lfq_ai0 ?lfq_li0 ?lfq_ci0 ?lfq_ki0 ?lfq_ai1 ?lfq_li1 ?lfq_ci1 ?lfq_ki1 ?lfq_ai2 ?lfq_li2 ?lfq_ci2 ?lfq_ki2 ?lfq_ai3 ?lfq_li3 ?lfq_ci3 ?lfq_ki3 ?lfq_ai4 ?lfq_li4 ?lfq_ci4 ?lfq_ki4 ?lfq_ai5 ?lfq_li5 ?lfq_ci5 ?lfq_ki5 ?lfq_ai6 ?lfq_li6 ?lfq_ci6 ?lfq_ki6 ?lfq_ai7 ?lfq_li7 ?lfq_ci7 ?lfq_ki7 ?lfq_ai8 ?lfq_li8 ?lfq_ci8 ?lfq_ki8 ?lfq_ai9 ?lfq_li9 ?lfq_ci9 ?lfq_ki9 ?lfq_t0 ?lfq_x0 ?lfq_t1 ?lfq_x1 ?lfq_t2 ?lfq_x2 ?lfq_t3 ?lfq_x3 ?lfq_t4 ?lfq_x4 ?lfq_t5 ?lfq_x5 ?lfq_t6 ?lfq_x6 ?lfq_t7 ?lfq_x7 ?lfq_t8 ?lfq_x8 ?lfq_t9 ?lfq_x9 ?lfq_z_len ?lfq_z_int ?lfq_z_list ?lfq_z_range ?lfq_z_isinstance ?lfq_z_bool ?lfq_z_str ?lfq_z_dict ?lfq_z_tuple ?lfq_z_ValueError ?lfq_chk
    (case lfq_g0 => k_is); (case lfq_g1 => k_is); (case lfq_g2 => k_is); (case lfq_g3 => k_is); (case lfq_g4 => k_is); (case lfq_g5 => k_is); (case lfq_g6 => k_is); (case lfq_g7 => k_is)
    (case lfq_g8 => k_is); (case lfq_g9 => k_is); (case lfq_g10 => k_is); (case lfq_g11 => k_is); (case lfq_g12 => k_is); (case lfq_g13 => k_is); (case lfq_g14 => k_is); (case lfq_g15 => k_is)
    (case lfq_g16 => k_is); (case lfq_g17 => k_is); (case lfq_g18 => k_is); (case lfq_g19 => k_is); (case lfq_g20 => k_is); (case lfq_g21 => k_is); (case lfq_g22 => k_is); (case lfq_gP => k_is)
    (case lfq_ad0 => k_is); (case lfq_ld0 => k_is); (case lfq_cd0 => k_is); (case lfq_kd0 => k_is); (case lfq_ad1 => k_is); (case lfq_ld1 => k_is); (case lfq_cd1 => k_is); (case lfq_kd1 => k_is)
    (case lfq_ad2 => k_is); (case lfq_ld2 => k_is); (case lfq_cd2 => k_is); (case lfq_kd2 => k_is); (case lfq_ad3 => k_is); (case lfq_ld3 => k_is); (case lfq_cd3 => k_is); (case lfq_kd3 => k_is)
    (case lfq_ad4 => k_is); (case lfq_ld4 => k_is); (case lfq_cd4 => k_is); (case lfq_kd4 => k_is); (case lfq_ad5 => k_is); (case lfq_ld5 => k_is); (case lfq_cd5 => k_is); (case lfq_kd5 => k_is)
    (case lfq_ad6 => k_is); (case lfq_ld6 => k_is); (case lfq_cd6 => k_is); (case lfq_kd6 => k_is); (case lfq_ad7 => k_is); (case lfq_ld7 => k_is); (case lfq_cd7 => k_is); (case lfq_kd7 => k_is)
    (case lfq_ad8 => k_is); (case lfq_ld8 => k_is); (case lfq_cd8 => k_is); (case lfq_kd8 => k_is); (case lfq_ad9 => k_is); (case lfq_ld9 => k_is); (case lfq_cd9 => k_is); (case lfq_kd9 => k_is)
    (case lfq_ad10 => k_is); (case lfq_ld10 => k_is); (case lfq_cd10 => k_is); (case lfq_kd10 => k_is); (case lfq_ad11 => k_is); (case lfq_ld11 => k_is); (case lfq_cd11 => k_is); (case lfq_kd11 => k_is)
    (case lfq_ad12 => k_is); (case lfq_ld12 => k_is); (case lfq_cd12 => k_is); (case lfq_kd12 => k_is); (case lfq_ai0 => k_is); (case lfq_li0 => k_is); (case lfq_ci0 => k_is); (case lfq_ki0 => k_is)
    (case lfq_ai1 => k_is); (case lfq_li1 => k_is); (case lfq_ci1 => k_is); (case lfq_ki1 => k_is); (case lfq_ai2 => k_is); (case lfq_li2 => k_is); (case lfq_ci2 => k_is); (case lfq_ki2 => k_is)
    (case lfq_ai3 => k_is); (case lfq_li3 => k_is); (case lfq_ci3 => k_is); (case lfq_ki3 => k_is); (case lfq_ai4 => k_is); (case lfq_li4 => k_is); (case lfq_ci4 => k_is); (case lfq_ki4 => k_is)
    (case lfq_ai5 => k_is); (case lfq_li5 => k_is); (case lfq_ci5 => k_is); (case lfq_ki5 => k_is); (case lfq_ai6 => k_is); (case lfq_li6 => k_is); (case lfq_ci6 => k_is); (case lfq_ki6 => k_is)
    (case lfq_ai7 => k_is); (case lfq_li7 => k_is); (case lfq_ci7 => k_is); (case lfq_ki7 => k_is); (case lfq_ai8 => k_is); (case lfq_li8 => k_is); (case lfq_ci8 => k_is); (case lfq_ki8 => k_is)
    (case lfq_ai9 => k_is); (case lfq_li9 => k_is); (case lfq_ci9 => k_is); (case lfq_ki9 => k_is); (case lfq_t0 => k_is); (case lfq_x0 => k_is); (case lfq_t1 => k_is); (case lfq_x1 => k_is)
    (case lfq_t2 => k_is); (case lfq_x2 => k_is); (case lfq_t3 => k_is); (case lfq_x3 => k_is); (case lfq_t4 => k_is); (case lfq_x4 => k_is); (case lfq_t5 => k_is); (case lfq_x5 => k_is)
    (case lfq_t6 => k_is); (case lfq_x6 => k_is); (case lfq_t7 => k_is); (case lfq_x7 => k_is); (case lfq_t8 => k_is); (case lfq_x8 => k_is); (case lfq_t9 => k_is); (case lfq_x9 => k_is)
    (case lfq_z_len => k_is); (case lfq_z_int => k_is); (case lfq_z_list => k_is); (case lfq_z_range => k_is); (case lfq_z_isinstance => k_is); (case lfq_z_bool => k_is); (case lfq_z_str => k_is); (case lfq_z_dict => k_is)
    (case lfq_z_tuple => k_is); (case lfq_z_ValueError => k_is)
    (case lfq_chk => kernel_rfl)
