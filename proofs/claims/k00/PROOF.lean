import PyProof.Rows.All
import Wide.All
import OpenK.AllK
import Wide.FinOn
import HandS.ForMost
import HandS.ExcValue
import HandS.ExcInit
import HandS.ExcField
import HandS.IsInst
import KE.KExcIs
import PySem.Challenge.RW_namedmeets_k00_errors
set_option Elab.async false
set_option maxRecDepth 100000
set_option maxHeartbeats 4000000
namespace Nm
open PySem L2
def top (i : Nat) : Stmt := PySem.Challenge.pw_namedmeets_k00_errors.main.body.getD i (.Pass ⟨0, 0, 0, 0⟩)
abbrev sPen : Stmt := top 15
abbrev sDraw : Stmt := top 16
abbrev sPick : Stmt := top 17
/-! ### the pen: the script's ints, the place, the digits left, the count, the fold -/
structure Pen where
  l : Addr
  ns : List Int
  i : Int
  d : Int
  c : Int
  f : Int
def kCe : Key := .inr "cells"
def kAt : Key := .inr "at"
def kDi : Key := .inr "digits"
def kCo : Key := .inr "count"
def kFo : Key := .inr "fold"
theorem ce_at : ¬ kCe = kAt := by decide +kernel
theorem ce_di : ¬ kCe = kDi := by decide +kernel
theorem ce_co : ¬ kCe = kCo := by decide +kernel
theorem ce_fo : ¬ kCe = kFo := by decide +kernel
theorem at_di : ¬ kAt = kDi := by decide +kernel
theorem at_co : ¬ kAt = kCo := by decide +kernel
theorem at_fo : ¬ kAt = kFo := by decide +kernel
theorem di_co : ¬ kDi = kCo := by decide +kernel
theorem di_fo : ¬ kDi = kFo := by decide +kernel
theorem co_fo : ¬ kCo = kFo := by decide +kernel
def Pen.kvs (z : Pen) : List (Key × V) := [(kCe, .ref z.l), (kAt, .int z.i), (kDi, .int z.d), (kCo, .int z.c), (kFo, .int z.f)]
structure Pen.Ok (z : Pen) : Prop where
  i0 : 0 ≤ z.i
  i1 : z.i ≤ (z.ns.length : Int)
  d0 : 0 ≤ z.d
  c0 : 0 ≤ z.c
  f0 : 0 ≤ z.f
  f1 : z.f < 2147483587
theorem pen_ce (z : Pen) : valV z.kvs kCe = some (.ref z.l) := by unfold Pen.kvs; rw [valV_pos rfl]
theorem pen_at (z : Pen) : valV z.kvs kAt = some (.int z.i) := by unfold Pen.kvs; rw [valV_neg ce_at, valV_pos rfl]
theorem pen_di (z : Pen) : valV z.kvs kDi = some (.int z.d) := by unfold Pen.kvs; rw [valV_neg ce_di, valV_neg at_di, valV_pos rfl]
theorem pen_co (z : Pen) : valV z.kvs kCo = some (.int z.c) := by unfold Pen.kvs; rw [valV_neg ce_co, valV_neg at_co, valV_neg di_co, valV_pos rfl]
theorem pen_fo (z : Pen) : valV z.kvs kFo = some (.int z.f) := by unfold Pen.kvs; rw [valV_neg ce_fo, valV_neg at_fo, valV_neg di_fo, valV_neg co_fo, valV_pos rfl]
section
variable {κ : Type} [DecidableEq κ]
theorem putK_old {kvs : List (κ × V)} {k : κ} {u : V} (v : V) (h : valV kvs k = some u) : putK kvs k v = kvs.map fun kv => if kv.1 = k then (kv.1, v) else kv := by
  unfold putK
  rw [valV_any, h]
  rfl
end
theorem put_at (z : Pen) (v : Int) : putK z.kvs kAt (.int v) = ({ z with i := v } : Pen).kvs := by
  rw [putK_old _ (pen_at z)]
  unfold Pen.kvs
  simp only [List.map_cons, List.map_nil, if_neg ce_at, if_neg (Ne.symm at_di), if_neg (Ne.symm at_co), if_neg (Ne.symm at_fo), if_true]
theorem put_di (z : Pen) (v : Int) : putK z.kvs kDi (.int v) = ({ z with d := v } : Pen).kvs := by
  rw [putK_old _ (pen_di z)]
  unfold Pen.kvs
  simp only [List.map_cons, List.map_nil, if_neg ce_di, if_neg at_di, if_neg (Ne.symm di_co), if_neg (Ne.symm di_fo), if_true]
theorem put_co (z : Pen) (v : Int) : putK z.kvs kCo (.int v) = ({ z with c := v } : Pen).kvs := by
  rw [putK_old _ (pen_co z)]
  unfold Pen.kvs
  simp only [List.map_cons, List.map_nil, if_neg ce_co, if_neg at_co, if_neg di_co, if_neg (Ne.symm co_fo), if_true]
theorem put_fo (z : Pen) (v : Int) : putK z.kvs kFo (.int v) = ({ z with f := v } : Pen).kvs := by
  rw [putK_old _ (pen_fo z)]
  unfold Pen.kvs
  simp only [List.map_cons, List.map_nil, if_neg ce_fo, if_neg at_fo, if_neg di_fo, if_neg co_fo, if_true]
theorem dget {H : Hp} {a : Addr} {kvs : List (Key × V)} {k : Key} {v : V} (e : H a = some (.dK kvs)) (h : valV kvs k = some v) : DGet H a (kV k) (some v) := by
  rw [← h]
  exact DGet.k e
theorem dput {H : Hp} {a : Addr} {kvs kvs' : List (Key × V)} {k : Key} {v : V} (e : H a = some (.dK kvs)) (hl : kvs.length < sizeLine) (h : putK kvs k v = kvs') : DPut H a (kV k) v (upd H a (.dK kvs')) := by
  rw [← h]
  exact DPut.k e hl
theorem pen_len (z : Pen) : z.kvs.length < sizeLine := by
  show 5 < sizeLine
  decide
/-- a pen stands at p -/
structure PenAt (H : Hp) (p : Addr) (z : Pen) : Prop where
  at_ : H p = some (.dK z.kvs)
  cells : H z.l = some (.lst (z.ns.map V.int))
  ok : z.Ok
theorem PenAt.ne {H : Hp} {p : Addr} {z : Pen} (h : PenAt H p z) : z.l ≠ p := ne_of h.cells h.at_ (by intro q; cases q)
theorem PenAt.put {H : Hp} {p : Addr} {z z' : Pen} (h : PenAt H p z) (el : z'.l = z.l) (en : z'.ns = z.ns) (ok : z'.Ok) : PenAt (upd H p (.dK z'.kvs)) p z' :=
  ⟨upd_same, by rw [el, en, upd_ne h.ne]; exact h.cells, ok⟩
/-- a pen through a heap that keeps what was tracked -/
theorem PenAt.same {H H' : Hp} {p : Addr} {z : Pen} (h : PenAt H p z) (s : Same H H') : PenAt H' p z := ⟨s _ _ h.at_, s _ _ h.cells, h.ok⟩
/-- z' is z behind n draws -/
structure Pen.Go (n : Int) (z z' : Pen) : Prop where
  l : z'.l = z.l
  ns : z'.ns = z.ns
  c : z'.c = z.c + n
  ok : z'.Ok
theorem q_back {Q : V → Hp → Prop} {v : V} {H : Hp} {p : Addr} {zz : Pen} (e : H p = some (.dK zz.kvs)) (q : Q v (upd H p (.dK zz.kvs))) : Q v H := by
  have x : upd H p (.dK zz.kvs) = H := by
    funext b
    by_cases h : b = p
    · rw [h, upd_same, e]
    · rw [upd_ne h]
  rw [x] at q
  exact q
theorem atI_nat' {xs : List V} {i : Int} {v : V} (h0 : 0 ≤ i) (h : xs[i.toNat]? = some v) : atI xs i = some v := by
  obtain ⟨n, rfl⟩ := Int.eq_ofNat_of_zero_le h0
  exact atI_nat h

/-! ### the promises -/
def spPen (K : PySem.W.Frag) : Sp := fun vs H Q _ => ∃ (a : Addr) (ns : List Int), vs = [.ref a] ∧ SqL K H a (ns.map V.int) ∧ ns.length ≤ 63 ∧
  ∀ (p : Addr) (z : Pen) (H' : Hp), Same H H' → H p = none → z.c = 0 → PenAt H' p z → Q (.ref p) H'
def spDraw : Sp := fun vs H Q _ => ∃ (p : Addr) (z : Pen) (m : Int), vs = [.ref p, .int m] ∧ PenAt H p z ∧ 0 < m ∧ m < 1073741824 ∧ z.c < 1000000000000 ∧
  ∀ (r : Int) (z' : Pen), 0 ≤ r → r < m → Pen.Go 1 z z' → Q (.int r) (upd H p (.dK z'.kvs))
def spPick (K : PySem.W.Frag) : Sp := fun vs H Q _ => ∃ (p q : Addr) (z : Pen) (xs : List V), vs = [.ref p, .ref q] ∧ PenAt H p z ∧ H q = some (.lst xs) ∧ 0 < xs.length ∧ xs.length < 1073741824 ∧ z.c < 1000000000000 ∧
  ∀ (v : V) (z' : Pen), v ∈ xs → Pen.Go 1 z z' → Q v (upd H p (.dK z'.kvs))
structure PenTxt (mg : Str → Option Value) : Prop where
  int : mg "int" = none
  list : mg "list" = none
  len : mg "len" = none

section
variable {P : Program} {w : World} {K : PySem.W.Frag} {mg : Str → Option Value} {base : Heap}
theorem scPen : FnScope ["_law_script", "_law_fold", "_law_cell"] ["_law_script"] (defScope sPen) := ⟨rfl, rfl, rfl, by decide +kernel, rfl, by decide +kernel, by decide +kernel⟩
theorem int_of {ns : List Int} {i : Nat} {y : V} (hi : (ns.map V.int)[i]? = some y) : ∃ u, ns[i]? = some u ∧ y = V.int u := by
  rw [List.getElem?_map] at hi
  cases e : ns[i]? with
  | none =>
    rw [e] at hi
    cases hi
  | some u =>
    rw [e] at hi
    exact ⟨u, rfl, (Option.some.inj hi).symm⟩
theorem kV_ce : kV kCe = V.str "cells" := rfl
theorem ok_pen {f : Addr} {fd : FuncData} (F : Fun K "_law_pen" "_law_pen" sPen f fd) (T : PenTxt mg) : FnOk P w K mg base CX0 1 f fd ["_law_script"] (spPen K) := by
  refine F.ok scPen (fun vs H Q E h => ?_) (fun cdv A outer s H vs Q E hr h => ?_)
  · obtain ⟨a, ns, rfl, _⟩ := h
    rfl
  · obtain ⟨a, ns, rfl, hS, hlen, k⟩ := h
    have hu := hu_of hr
    refine ⟨_, pss_cons (ps_set (i := 1) scPen.nd rfl (Or.inl rfl) pe_int)
      (pss_cons (ps_for PassesOwn.never rfl (pi_list (pv 0)) (pg_name (i := 2) scPen.nd rfl (Or.inl rfl))
        (pss_one (ps_set (i := 1) scPen.nd rfl (Or.inl rfl) (pe_op op_mod (pe_callTy call_int1 (by rfl) T.int (by decide +kernel) (pa_cons (pe_op op_add (pe_op op_mul (pv 1) pe_int) (pv 2)) pa_nil)) pe_int))))
      (pss_one (ps_ret (pe_disp (pps_cons pe_str (pe_callTy call_list_of (by rfl) T.list (by decide +kernel) (pa_cons (pv 0) pa_nil)) (pps_cons pe_str pe_int (pps_cons pe_str pe_int (pps_cons pe_str pe_int (pps_cons pe_str (pv 1) pps_nil))))) (by rfl) (by rfl) (fun z => by cases z) (by decide))))), ?_⟩
    refine ⟨_, rfl, a, rfl, ⟨_, hS⟩, for_list (K := K) (a := a) (xs := ns.map V.int) (fun i σ H' => ∃ (g : Int) (v : Option V), σ = [some (.ref a), some (.int g), v] ∧ H' = H ∧ 0 ≤ g ∧ g < 1000000007)
      ⟨0, none, rfl, rfl, by decide, by decide⟩ (fun i σ H' _ ⟨_, _, _, e, _⟩ => by rw [e]; exact hS) ?_ ?_⟩
    · rintro i y σ H' hi ⟨g, v, rfl, rfl, g0, g1⟩
      obtain ⟨u, _, rfl⟩ := int_of hi
      refine ⟨_, rfl, _, _, rfl, rfl, .inl ⟨by omega, by omega⟩, _, rfl, _, _, rfl, rfl, .inl ⟨_, rfl, _, _, rfl, rfl, (by show (0 : Int) < 1000000007; decide), ?_⟩⟩
      exact ⟨_, _, rfl, rfl, Int.emod_nonneg _ (by decide), Int.emod_lt_of_pos _ (by decide)⟩
    · rintro σ H' ⟨g, v, rfl, rfl, g0, g1⟩
      intro p hp
      refine ⟨_, rfl, a, _, rfl, .inl ((Same.seq (H := H') (H' := upd H' p (.dK [])) (fun b o e => by rw [upd_ne (ne_of_none e hp)]; exact e)) hS), fun l hl => ?_⟩
      have lp : l ≠ p := fun q => by
        rw [q, upd_same] at hl
        cases hl
      have hl0 : H' l = none := by
        rw [upd_ne lp] at hl
        exact hl
      refine ⟨_, rfl, by rw [upd_ne lp.symm, upd_same], [(kCe, .ref l), (kAt, .int 0), (kDi, .int 0), (kCo, .int 0), (kFo, .int g)], rfl, (by show 5 ≤ 15; decide), ?_⟩
      let z : Pen := ⟨l, ns, 0, 0, 0, g⟩
      have em : mergeK [] [(kCe, V.ref l), (kAt, .int 0), (kDi, .int 0), (kCo, .int 0), (kFo, .int g)] = z.kvs := by
        simp [mergeK, putK, z, Pen.kvs, ce_at, ce_di, ce_co, ce_fo, at_di, at_co, at_fo, di_co, di_fo, co_fo]
      rw [em]
      refine k p z _ (fun b o e => ?_) hp rfl ⟨upd_same, ?_, ⟨Int.le_refl 0, by show (0 : Int) ≤ (ns.length : Int); omega, Int.le_refl 0, Int.le_refl 0, g0, by show g < 2147483587; omega⟩⟩
      · rw [upd_ne (ne_of_none e hp), upd_ne (ne_of_none e hl0), upd_ne (ne_of_none e hp)]
        exact e
      · show upd _ p _ l = _
        rw [upd_ne lp, upd_same]

theorem scDraw : FnScope ["_law_pen_here", "_law_many", "_law_cell", "_law_digit", "_law_mixed"] ["_law_pen_here", "_law_many"] (defScope sDraw) := ⟨rfl, rfl, rfl, by decide +kernel, rfl, by decide +kernel, by decide +kernel⟩
theorem fmod_in {x m : Int} (h : 0 < m) : 0 ≤ x.fmod m ∧ x.fmod m < m := ⟨by rw [Int.fmod_eq_emod_of_nonneg _ (Int.le_of_lt h)]; exact Int.emod_nonneg _ (Int.ne_of_gt h), Int.fmod_lt_of_pos x h⟩
theorem fdiv_nn {x m : Int} (h : 0 ≤ x) (hm : 0 < m) : 0 ≤ x.fdiv m := by
  rw [Int.fdiv_eq_ediv_of_nonneg _ (Int.le_of_lt hm)]
  exact Int.ediv_nonneg h (Int.le_of_lt hm)
theorem ok_draw {f : Addr} {fd : FuncData} (F : Fun K "_law_draw" "_law_draw" sDraw f fd) (T : PenTxt mg) : FnOk P w K mg base CX0 1 f fd ["_law_pen_here", "_law_many"] spDraw := by
  refine F.ok scDraw (fun vs H Q E h => ?_) (fun cdv A outer s H vs Q E hr h => ?_)
  · obtain ⟨p, z, m, rfl, _⟩ := h
    rfl
  · obtain ⟨p, z, m, rfl, Z, m0, m1, hc, k⟩ := h
    have hu := hu_of hr
    refine ⟨_, pss_cons (ps_dput hu (pv 0) pe_str (pe_op op_add (pe_dget hu (pv 0) pe_str (fun _ _ => rfl)) pe_int) rfl)
      (pss_cons (ps_if (PW.pt (pw_and (pt_cmpR op_eq (pe_dget hu (pv 0) pe_str (fun _ _ => rfl)) pe_int (nomark _)) (pw_and1 (pt_cmpR op_lt (pe_dget hu (pv 0) pe_str (fun _ _ => rfl)) (pe_callB call_len_seq (by rfl) T.len PySem.boot_len (pa_cons (pe_dget hu (pv 0) pe_str (fun _ _ => rfl)) pa_nil)) (nomark _)))))
        (pss_cons (ps_set (i := 2) scDraw.nd rfl (Or.inl rfl) (pe_ix ix_list (pe_dget hu (pv 0) pe_str (fun _ _ => rfl)) (pe_dget hu (pv 0) pe_str (fun _ _ => rfl)) (fun _ _ => rfl)))
        (pss_cons (ps_dput hu (pv 0) pe_str (pe_op op_add (pe_dget hu (pv 0) pe_str (fun _ _ => rfl)) pe_int) rfl)
        (pss_one (ps_if (pt_cmpR op_ge (pv 2) (pe_op op_pow pe_int pe_int) (nomark _))
          (pss_one (ps_dput hu (pv 0) pe_str (pe_op op_sub (pv 2) (pe_op op_pow pe_int pe_int)) rfl))
          (pss_one (ps_dput hu (pv 0) pe_str (pe_op op_mod (pe_callTy call_int1 (by rfl) T.int (by decide +kernel) (pa_cons (pe_op op_add (pe_op op_mul (pe_dget hu (pv 0) pe_str (fun _ _ => rfl)) pe_int) (pv 2)) pa_nil)) pe_int) rfl))))))
        pss_nil)
      (pss_cons (ps_if (pt_cmpR op_gt (pe_dget hu (pv 0) pe_str (fun _ _ => rfl)) pe_int (nomark _))
        (pss_cons (ps_set (i := 3) scDraw.nd rfl (Or.inl rfl) (pe_op op_modN (pe_callTy call_int1 (by rfl) T.int (by decide +kernel) (pa_cons (pe_dget hu (pv 0) pe_str (fun _ _ => rfl)) pa_nil)) (pv 1)))
        (pss_cons (ps_dput hu (pv 0) pe_str (pe_op op_fdivN (pe_dget hu (pv 0) pe_str (fun _ _ => rfl)) (pv 1)) rfl)
        (pss_one (ps_ret (pv 3)))))
        pss_nil)
      (pss_cons (ps_set (i := 4) scDraw.nd rfl (Or.inl rfl) (pe_op op_add (pe_op op_add (pe_dget hu (pv 0) pe_str (fun _ _ => rfl)) (pe_op op_mul (pe_dget hu (pv 0) pe_str (fun _ _ => rfl)) pe_int)) pe_int))
      (pss_one (ps_ret (pe_op op_modN (pe_op op_fdiv (pe_callTy call_int1 (by rfl) T.int (by decide +kernel) (pa_cons (pe_op op_mod (pe_op op_pow (pv 4) pe_int) pe_int) pa_nil)) pe_int) (pv 1))))))), ?_⟩
    -- count + 1
    refine ⟨_, rfl, p, _, rfl, dget Z.at_ (pen_co z), _, _, rfl, rfl, _, rfl, p, _, rfl, dput Z.at_ (pen_len z) (put_co z (z.c + 1)), ?_⟩
    have Z1 : PenAt (upd H p (.dK ({ z with c := z.c + 1 } : Pen).kvs)) p { z with c := z.c + 1 } := Z.put rfl rfl ⟨Z.ok.i0, Z.ok.i1, Z.ok.d0, by show (0 : Int) ≤ z.c + 1; have := Z.ok.c0; omega, Z.ok.f0, Z.ok.f1⟩
    have k1 : ∀ (r : Int) (z' : Pen), 0 ≤ r → r < m → Pen.Go 0 { z with c := z.c + 1 } z' → Q (.int r) (upd (upd H p (.dK ({ z with c := z.c + 1 } : Pen).kvs)) p (.dK z'.kvs)) := fun r z' r0 r1 g => by
      rw [upd_upd]
      exact k r z' r0 r1 ⟨g.l, g.ns, by have e : z'.c = (z.c + 1) + 0 := g.c; omega, g.ok⟩
    have hc1 : ({ z with c := z.c + 1 } : Pen).c ≤ 1000000000000 := by show z.c + 1 ≤ _; omega
    generalize ({ z with c := z.c + 1 } : Pen) = z1 at Z1 k1 hc1
    generalize upd H p (.dK z1.kvs) = H1 at Z1 k1
    have step : ∀ (Ha : Hp) (za zb : Pen), PenAt Ha p za → (∀ (r : Int) (z' : Pen), 0 ≤ r → r < m → Pen.Go 0 za z' → Q (.int r) (upd Ha p (.dK z'.kvs))) → za.c ≤ 1000000000000 →
        zb.l = za.l → zb.ns = za.ns → zb.c = za.c → zb.Ok →
        PenAt (upd Ha p (.dK zb.kvs)) p zb ∧ (∀ (r : Int) (z' : Pen), 0 ≤ r → r < m → Pen.Go 0 zb z' → Q (.int r) (upd (upd Ha p (.dK zb.kvs)) p (.dK z'.kvs))) ∧ zb.c ≤ 1000000000000 := fun Ha za zb Za ka ca el en ec ok =>
      ⟨Za.put el en ok, fun r z' r0 r1 g => by
        rw [upd_upd]
        exact ka r z' r0 r1 ⟨g.l.trans el, g.ns.trans en, by rw [g.c, ec], g.ok⟩, by rw [ec]; exact ca⟩
    -- if digits == 0 and at < len(cells)
    refine ⟨_, rfl, p, _, rfl, dget Z1.at_ (pen_di z1), rfl, _, rfl, ?_⟩
    refine ite2 (fun _ => ?_) (fun _ => ?_)
    · refine ⟨_, rfl, p, _, rfl, dget Z1.at_ (pen_at z1), _, rfl, p, _, rfl, dget Z1.at_ (pen_ce z1), z1.l, _, rfl, .inl (SqL.of Z1.cells), _, _, rfl, rfl, _, rfl, ?_⟩
      refine ite2 (fun lt => ?_) (fun _ => ?_)
      · have lt' : z1.i < (z1.ns.length : Int) := by
          have q := of_decide_eq_true lt
          rw [List.length_map] at q
          exact q
        have i0 := Z1.ok.i0
        have hn : z1.i.toNat < z1.ns.length := by omega
        refine ⟨_, rfl, p, _, rfl, dget Z1.at_ (pen_ce z1), _, rfl, p, _, rfl, dget Z1.at_ (pen_at z1), z1.l, _, _, V.int (z1.ns[z1.i.toNat]), rfl, rfl, SqL.of Z1.cells, atI_nat' i0 (by simp [hn]), ?_⟩
        generalize z1.ns[z1.i.toNat] = cell
        refine ⟨_, rfl, p, _, rfl, dget Z1.at_ (pen_at z1), _, _, rfl, rfl, _, rfl, p, _, rfl, dput Z1.at_ (pen_len z1) (put_at z1 (z1.i + 1)), ?_⟩
        obtain ⟨Z2, k2, hc2⟩ := step H1 z1 { z1 with i := z1.i + 1 } Z1 k1 hc1 rfl rfl rfl ⟨by show (0 : Int) ≤ z1.i + 1; omega, by show z1.i + 1 ≤ (z1.ns.length : Int); omega, Z1.ok.d0, Z1.ok.c0, Z1.ok.f0, Z1.ok.f1⟩
        generalize ({ z1 with i := z1.i + 1 } : Pen) = z2 at Z2 k2 hc2
        generalize upd H1 p (.dK z2.kvs) = H2 at Z2 k2
        refine ⟨_, rfl, _, _, rfl, rfl, ⟨by decide, by decide, by decide⟩, _, _, rfl, rfl, _, rfl, ?_⟩
        refine ite2 (fun ge => ?_) (fun _ => ?_)
        · have ge' := of_decide_eq_true ge
          refine ⟨_, rfl, _, _, rfl, rfl, ⟨by decide, by decide, by decide⟩, _, _, rfl, rfl, _, rfl, p, _, rfl, dput Z2.at_ (pen_len z2) (put_di z2 _), ?_⟩
          obtain ⟨Z3, k3, hc3⟩ := step H2 z2 { z2 with d := cell - 10 ^ (18 : Int).toNat } Z2 k2 hc2 rfl rfl rfl ⟨Z2.ok.i0, Z2.ok.i1, Int.sub_nonneg.mpr ge', Z2.ok.c0, Z2.ok.f0, Z2.ok.f1⟩
          generalize ({ z2 with d := cell - 10 ^ (18 : Int).toNat } : Pen) = z3 at Z3 k3 hc3
          generalize upd H2 p (.dK z3.kvs) = H3 at Z3 k3
          refine ⟨_, rfl, p, _, rfl, dget Z3.at_ (pen_di _), _, _, rfl, rfl, _, rfl, ?_⟩
          refine ite2 (fun dg => ?_) (fun _ => ?_)
          · have dg' := of_decide_eq_true dg
            refine ⟨_, rfl, p, _, rfl, dget Z3.at_ (pen_di _), .inl ⟨_, rfl, _, rfl, _, _, rfl, rfl, (by omega), ?_⟩⟩
            refine ⟨_, rfl, p, _, rfl, dget Z3.at_ (pen_di _), _, rfl, _, _, rfl, rfl, ⟨by omega, by omega⟩, _, rfl, p, _, rfl, dput Z3.at_ (pen_len _) (put_di _ _), ?_⟩
            refine ⟨_, rfl, ?_⟩
            exact k3 _ _ (fmod_in m0).1 (fmod_in m0).2 ⟨rfl, rfl, (Int.add_zero _).symm, ⟨Z3.ok.i0, Z3.ok.i1, fdiv_nn Z3.ok.d0 m0, Z3.ok.c0, Z3.ok.f0, Z3.ok.f1⟩⟩
          · have f0 := Z3.ok.f0
            have f1 := Z3.ok.f1
            have c0 := Z3.ok.c0
            refine ⟨_, rfl, p, _, rfl, dget Z3.at_ (pen_fo _), _, rfl, p, _, rfl, dget Z3.at_ (pen_co _), _, _, rfl, rfl, .inl ⟨by omega, by omega⟩, _, _, rfl, rfl, _, _, rfl, rfl, ?_⟩
            refine ⟨_, rfl, _, _, rfl, rfl, ⟨by decide, by decide, by omega⟩, _, _, rfl, rfl, (by show (0 : Int) < 2305843009213693951; decide), .inl ⟨_, rfl, _, _, rfl, rfl, ⟨by decide, by decide⟩, _, rfl, _, _, rfl, rfl, (by omega), ?_⟩⟩
            exact q_back (Q := Q) Z3.at_ (k3 _ _ (fmod_in m0).1 (fmod_in m0).2 ⟨rfl, rfl, (Int.add_zero _).symm, Z3.ok⟩)
        · have f0 := Z2.ok.f0
          have f1 := Z2.ok.f1
          refine ⟨_, rfl, p, _, rfl, dget Z2.at_ (pen_fo z2), _, _, rfl, rfl, .inl ⟨by omega, by omega⟩, _, rfl, _, _, rfl, rfl, .inl ⟨_, rfl, _, _, rfl, rfl, (by show (0 : Int) < 2147483587; decide), ?_⟩⟩
          refine ⟨_, rfl, p, _, rfl, dput Z2.at_ (pen_len z2) (put_fo z2 _), ?_⟩
          obtain ⟨Z3, k3, hc3⟩ := step H2 z2 { z2 with f := (z2.f * 69069 + cell) % 2147483587 } Z2 k2 hc2 rfl rfl rfl ⟨Z2.ok.i0, Z2.ok.i1, Z2.ok.d0, Z2.ok.c0, Int.emod_nonneg _ (by decide), Int.emod_lt_of_pos _ (by decide)⟩
          generalize ({ z2 with f := (z2.f * 69069 + cell) % 2147483587 } : Pen) = z3 at Z3 k3 hc3
          generalize upd H2 p (.dK z3.kvs) = H3 at Z3 k3
          refine ⟨_, rfl, p, _, rfl, dget Z3.at_ (pen_di _), _, _, rfl, rfl, _, rfl, ?_⟩
          refine ite2 (fun dg => ?_) (fun _ => ?_)
          · have dg' := of_decide_eq_true dg
            refine ⟨_, rfl, p, _, rfl, dget Z3.at_ (pen_di _), .inl ⟨_, rfl, _, rfl, _, _, rfl, rfl, (by omega), ?_⟩⟩
            refine ⟨_, rfl, p, _, rfl, dget Z3.at_ (pen_di _), _, rfl, _, _, rfl, rfl, ⟨by omega, by omega⟩, _, rfl, p, _, rfl, dput Z3.at_ (pen_len _) (put_di _ _), ?_⟩
            refine ⟨_, rfl, ?_⟩
            exact k3 _ _ (fmod_in m0).1 (fmod_in m0).2 ⟨rfl, rfl, (Int.add_zero _).symm, ⟨Z3.ok.i0, Z3.ok.i1, fdiv_nn Z3.ok.d0 m0, Z3.ok.c0, Z3.ok.f0, Z3.ok.f1⟩⟩
          · have f0 := Z3.ok.f0
            have f1 := Z3.ok.f1
            have c0 := Z3.ok.c0
            refine ⟨_, rfl, p, _, rfl, dget Z3.at_ (pen_fo _), _, rfl, p, _, rfl, dget Z3.at_ (pen_co _), _, _, rfl, rfl, .inl ⟨by omega, by omega⟩, _, _, rfl, rfl, _, _, rfl, rfl, ?_⟩
            refine ⟨_, rfl, _, _, rfl, rfl, ⟨by decide, by decide, by omega⟩, _, _, rfl, rfl, (by show (0 : Int) < 2305843009213693951; decide), .inl ⟨_, rfl, _, _, rfl, rfl, ⟨by decide, by decide⟩, _, rfl, _, _, rfl, rfl, (by omega), ?_⟩⟩
            exact q_back (Q := Q) Z3.at_ (k3 _ _ (fmod_in m0).1 (fmod_in m0).2 ⟨rfl, rfl, (Int.add_zero _).symm, Z3.ok⟩)
      · have Z3 := Z1
        have k3 := k1
        have hc3 := hc1
        refine ⟨_, rfl, p, _, rfl, dget Z3.at_ (pen_di _), _, _, rfl, rfl, _, rfl, ?_⟩
        refine ite2 (fun dg => ?_) (fun _ => ?_)
        · have dg' := of_decide_eq_true dg
          refine ⟨_, rfl, p, _, rfl, dget Z3.at_ (pen_di _), .inl ⟨_, rfl, _, rfl, _, _, rfl, rfl, (by omega), ?_⟩⟩
          refine ⟨_, rfl, p, _, rfl, dget Z3.at_ (pen_di _), _, rfl, _, _, rfl, rfl, ⟨by omega, by omega⟩, _, rfl, p, _, rfl, dput Z3.at_ (pen_len _) (put_di _ _), ?_⟩
          refine ⟨_, rfl, ?_⟩
          exact k3 _ _ (fmod_in m0).1 (fmod_in m0).2 ⟨rfl, rfl, (Int.add_zero _).symm, ⟨Z3.ok.i0, Z3.ok.i1, fdiv_nn Z3.ok.d0 m0, Z3.ok.c0, Z3.ok.f0, Z3.ok.f1⟩⟩
        · have f0 := Z3.ok.f0
          have f1 := Z3.ok.f1
          have c0 := Z3.ok.c0
          refine ⟨_, rfl, p, _, rfl, dget Z3.at_ (pen_fo _), _, rfl, p, _, rfl, dget Z3.at_ (pen_co _), _, _, rfl, rfl, .inl ⟨by omega, by omega⟩, _, _, rfl, rfl, _, _, rfl, rfl, ?_⟩
          refine ⟨_, rfl, _, _, rfl, rfl, ⟨by decide, by decide, by omega⟩, _, _, rfl, rfl, (by show (0 : Int) < 2305843009213693951; decide), .inl ⟨_, rfl, _, _, rfl, rfl, ⟨by decide, by decide⟩, _, rfl, _, _, rfl, rfl, (by omega), ?_⟩⟩
          exact q_back (Q := Q) Z3.at_ (k3 _ _ (fmod_in m0).1 (fmod_in m0).2 ⟨rfl, rfl, (Int.add_zero _).symm, Z3.ok⟩)
    · have Z3 := Z1
      have k3 := k1
      have hc3 := hc1
      refine ⟨_, rfl, p, _, rfl, dget Z3.at_ (pen_di _), _, _, rfl, rfl, _, rfl, ?_⟩
      refine ite2 (fun dg => ?_) (fun _ => ?_)
      · have dg' := of_decide_eq_true dg
        refine ⟨_, rfl, p, _, rfl, dget Z3.at_ (pen_di _), .inl ⟨_, rfl, _, rfl, _, _, rfl, rfl, (by omega), ?_⟩⟩
        refine ⟨_, rfl, p, _, rfl, dget Z3.at_ (pen_di _), _, rfl, _, _, rfl, rfl, ⟨by omega, by omega⟩, _, rfl, p, _, rfl, dput Z3.at_ (pen_len _) (put_di _ _), ?_⟩
        refine ⟨_, rfl, ?_⟩
        exact k3 _ _ (fmod_in m0).1 (fmod_in m0).2 ⟨rfl, rfl, (Int.add_zero _).symm, ⟨Z3.ok.i0, Z3.ok.i1, fdiv_nn Z3.ok.d0 m0, Z3.ok.c0, Z3.ok.f0, Z3.ok.f1⟩⟩
      · have f0 := Z3.ok.f0
        have f1 := Z3.ok.f1
        have c0 := Z3.ok.c0
        refine ⟨_, rfl, p, _, rfl, dget Z3.at_ (pen_fo _), _, rfl, p, _, rfl, dget Z3.at_ (pen_co _), _, _, rfl, rfl, .inl ⟨by omega, by omega⟩, _, _, rfl, rfl, _, _, rfl, rfl, ?_⟩
        refine ⟨_, rfl, _, _, rfl, rfl, ⟨by decide, by decide, by omega⟩, _, _, rfl, rfl, (by show (0 : Int) < 2305843009213693951; decide), .inl ⟨_, rfl, _, _, rfl, rfl, ⟨by decide, by decide⟩, _, rfl, _, _, rfl, rfl, (by omega), ?_⟩⟩
        exact q_back (Q := Q) Z3.at_ (k3 _ _ (fmod_in m0).1 (fmod_in m0).2 ⟨rfl, rfl, (Int.add_zero _).symm, Z3.ok⟩)

theorem scPick : FnScope ["_law_pen_here", "_law_some"] ["_law_pen_here", "_law_some"] (defScope sPick) := ⟨rfl, rfl, rfl, by decide +kernel, rfl, by decide +kernel, by decide +kernel⟩
theorem ok_pick {f fD : Addr} {fd fdD : FuncData} (F : Fun K "_law_pick" "_law_pick" sPick f fd) (T : PenTxt mg) (FD : Fun K "_law_draw" "_law_draw" sDraw fD fdD) (bD : Binds K fdD ["_law_pen_here", "_law_many"] []) (gD : mg "_law_draw" = some (.ref fD)) :
    FnOk P w K mg base CX0 2 f fd ["_law_pen_here", "_law_some"] (spPick K) := by
  have GD : FnOk P w K mg base CX0 1 fD fdD ["_law_pen_here", "_law_many"] spDraw := ok_draw FD T
  refine F.ok scPick (fun vs H Q E h => ?_) (fun cdv A outer s H vs Q E hr h => ?_)
  · obtain ⟨p, q, z, xs, rfl, _⟩ := h
    rfl
  · obtain ⟨p, q, z, xs, rfl, Z, hq, h0, h1, hc, k⟩ := h
    refine ⟨_, pss_one (ps_ret (pe_ix ix_list (pv 1) (pe_call GD hr rfl gD FD.kp bD .nil pass0 (pa_cons (pv 0) (pa_cons (pe_callB call_len_seq (by rfl) T.len PySem.boot_len (pa_cons (pv 1) pa_nil)) pa_nil))) (fun _ _ => rfl))), ?_⟩
    refine ⟨_, rfl, _, rfl, _, rfl, q, _, rfl, .inl (SqL.of hq), p, z, _, rfl, Z, by omega, by omega, hc, fun r z' r0 r1 g => ?_⟩
    have qp : q ≠ p := ne_of hq Z.at_ (by intro x; cases x)
    have hn : r.toNat < xs.length := by omega
    refine ⟨q, xs, r, xs[r.toNat], rfl, rfl, SqL.of (by rw [upd_ne qp]; exact hq), atI_nat' r0 (by simp [hn]), ?_⟩
    exact k _ z' (List.getElem_mem hn) g
end
end Nm
namespace Nm
open PySem L2
/-! ### exceptions as values: made, their fields read, isinstance -/
section
variable {X : Cx} {e : Expr} {es : List Expr} {te : TE} {ta : TA} {p pos : Pos}
/-- C(e, ..), C an own exception class whose __init__ keeps sp: the exception stays tracked -/
def tExcI (C : Addr) (sp : Sp) (ta : TA) : TE := fun σ H Q => ta σ H fun vs H1 => vs.length ≤ 1000 ∧ ∀ a, H1 a = none → sp (.ref a :: vs) (upd H1 a (exo a C none)) (fun v H2 => v = .non ∧ Q (.ref a) H2) (fun _ _ _ => False)
theorem pe_excI {x : Str} {C fI : Addr} {k : Nat} {fd : FuncData} {ps : List Str} {sp : Sp} (T : OexC X.K C) (iC : PySem.W.findIn X.K (.ref C) "__init__" = some (some (.ref fI))) (tI : PySem.W.typeIn X.K (.ref fI) = some (.type "function"))
    (G : FnOk X.prog X.w X.K X.mg X.base CX0 k fI fd ps sp) (hr : Room (k + 1) X.A) (hb : Binds X.K fd ps []) (hg : Gl X x) (hm : X.mg x = some (.ref C)) (ha : PA X (e :: es) ta)
    (hdb : (x == ("__debug__" : Str)) = false := by decide) (he : starEach (e :: es) X.env = (false, eval e X.env) :: starEach es X.env := by rfl) (hpl : (backTo pos (starEach es X.env)).any (·.1) = false := by rfl) :
    PE X (.Call (.Name x p) (e :: es) [] pos) (tExcI C sp ta) := by
  constructor
  intro pins s σ H Q I h
  obtain ⟨_, _, _, _, bm, _, _, _, _, _, _, _, _, _, _, hC, hbm⟩ := T.cls
  apply wpAny_Call_Name_kw (ld_glob I hg hm _ hdb)
  apply PySem.W.callWith_K (h₀ := X.base) I.ok.mod.kin T.kC _ he hpl
  apply thn (ha.run pos pins s σ H _ I h)
  rintro us s1 ⟨vs, H1, I1, r1, hz, q1⟩
  refine ⟨I1.kIn, ?_⟩
  obtain ⟨hp, g, dr, tk, os⟩ := s1
  let a := hp.objs.size + 1
  let hp2 := (hp.push (PySem.W.kdv_tup us)).push (PySem.HandSPX.excO C hp.objs.size)
  have an : H1 a = none := I1.hok.fresh (Nat.le_succ _)
  have I2 : Inv X pins σ (upd H1 a (exo a C none)) ⟨hp2, g, dr, tk, os⟩ := by
    refine I1.laid (t' := tk) (fun b o e => Heap.get?_push_of_some _ (Heap.get?_push_of_some _ e)) (Nat.le_succ _) (exo_ok (t1 := hp.objs.size) ?_)
    show hp2.get? (hp.objs.size + 1) = some (PySem.HandSPX.excO C hp.objs.size)
    heap_get
  have rr : Vals (V.ref a :: vs) (Value.ref a :: us) := .cons rfl r1
  have hl : (Value.ref a :: us).length = ps.length := rr.length.symm.trans (G.len _ _ _ _ (q1 a an))
  have hus : us.length ≤ sizeLine := by
    rw [← Paired.length r1, sizeLine_eq]
    omega
  have bb := hb ⟨hp2, g, dr, tk, os⟩ (Value.ref a :: us) I2.kIn (by rw [List.append_nil]; exact hl)
  rw [List.append_nil] at bb
  show wpAny _ _ (call (.ref C) us) _ _ _
  apply wpAny_call
  refine PySem.HandSPX.call_own F.excBase_ValueError (fun Y => PySem.HandSPX.refsVE_contains Y bm hbm) (I1.kIn _ _ hC) (PySem.W.looks_findIn I1.kIn iC) (fun self => PySem.W.bind_fn I1.kIn self tI) hus ?_
  refine codeAny_mono (G.run _ X.stack _ _ ⟨Value.ref a :: us, []⟩ (Value.ref a :: us) (V.ref a :: vs) _ (fun _ _ _ => False) (hr.make C us []) (I2.env0.make C us []) bb rr (q1 a an)) ?_
  rintro (er | fl) s' hq
  · exact False.elim hq
  · cases fl with
    | ret u =>
      obtain ⟨v, H2, J, rv, ev, q2⟩ := I2.after hq
      subst ev
      exact ⟨rv, .ref a, H2, J, rfl, q2⟩
    | next => exact False.elim hq
    | brk => exact False.elim hq
    | cont => exact False.elim hq
/-- C(), an own exception class that its base makes: a new exception object -/
theorem pe_exc0 {x : Str} {C : Addr} {bmB : List Value} {B newId initId : String} (F : ExcBaseFacts B newId initId bmB) (q : PySem.W.excIn X.K C bmB newId = true) (gC : X.mg x = some (.ref C)) (kC : PySem.W.keepIn X.K (.ref C) = true) (hg : Gl X x)
    (hdb : (x == ("__debug__" : Str)) = false := by decide) :
    PE X (.Call (.Name x p) [] [] pos) (fun _ H Q => ∀ a, H a = none → Q (.ref a) (upd H a (exo a C none))) := by
  constructor
  intro pins s σ H Q I h
  apply wpAny_Call_Name_kw (ld_glob I hg gC _ hdb)
  refine PySem.W.callWith_K0 I.kIn kC ?_
  show wpAny _ _ (call (.ref C) []) _ _ _
  obtain ⟨bm, N, nm, qn, bs, hdct, sn, sub, ab, col, dd, k0, k1, k2, k3, k5, mN, hC, hN, hni, T⟩ := exc_obj I.kIn q
  obtain ⟨hp, g, dr, tk, os⟩ := s
  refine wpAny_call_exc_subT F T hC hN hni (fun h' a hm => ?_) (by show 0 ≤ sizeLine; exact Nat.zero_le _)
  have hn : H a = none := I.hok.gone hm.new
  obtain ⟨t, ht, _, _⟩ := hm.there
  exact ⟨.ref a, _, I.laidN hm.keeps hm.new hn (exo_ok (t1 := t) ht), rfl, h a hn⟩
/-- e.f, e an exception that is tracked -/
def tXat (K : PySem.W.Frag) (f : Str) (te : TE) : TE := fun σ H Q => te σ H fun x H1 => ∃ (a d C : Addr) (fs : List (Str × V)) (v : V), x = .ref a ∧ H1 a = some (exo a C (some d)) ∧ H1 d = some (exd d fs) ∧ fs.lookup f = some v ∧ XfC K C ∧ PySem.W.findIn K (.ref C) f = some none ∧ Q v H1
theorem pe_xat {f : Str} (he : PE X e te) (hb : attributeBase e f X.env (eval e X.env) = eval e X.env := by rfl) : PE X (.Attribute e f pos) (tXat X.K f te) := by
  constructor
  intro pins s σ H Q I h
  apply attr_of hb
  apply thn (he.run pins s σ H _ I h)
  rintro u s1 ⟨x, H1, I1, rx, a, d, C, fs, v, rfl, ea, ed, l, T, hno, q⟩
  obtain rfl : u = Value.ref a := rx
  obtain ⟨t1, ho⟩ := exo_at I1.hok ea
  obtain ⟨mA, hns, rel⟩ := exd_at I1.hok ed
  obtain ⟨od, hod, hl⟩ := lookIn_ns hns
  obtain ⟨u, hu, ru⟩ := RelO.some_of (v := v) (o := mA f) (by rw [← l]; exact rel f)
  have J : PySem.W.InstAt s1.heap a { cls := .ref C, dict := some d, data := .fields #[.ref t1, .none, .none, .none, .bool false, .none] } C (some od) := ⟨ho, rfl, rfl, hod⟩
  exact HandSPX.exc_get I1.kIn J T.ga T.gg T.exC (PySem.W.findObj_own T.hdC hno rfl (by rw [hl, hu])) (handed_of ru) ⟨v, H1, I1.tok _, ru, q⟩
/-- what isinstance asks of an exception's class -/
structure IsC (K : PySem.W.Frag) (C : Addr) : Prop where
  cl : (PySem.W.clsIn K C).isSome = true
  ga : PySem.W.findIn K (.ref C) "__getattribute__" = some (some (.builtin "BaseException.__getattribute__"))
  gg : PySem.W.findIn K (.ref C) "__getattr__" = some none
  sb : PySem.W.subIn K (.ref C) (.type "BaseException") = some true
  ca : PySem.W.findIn K (.ref C) "__class__" = some (some (.builtin "object.__class__"))
  gt : PySem.W.specialIn K (.builtin "object.__class__") "__get__" = some (some (.builtin "getset_descriptor.__get__"))
  tk : PySem.W.takesIn K (.builtin "object.__class__") = some true
  mo : PySem.W.mroIn K C (.type "object") = some true
/-- isinstance(e, c), e a tracked exception of the class at C -/
theorem call_isX : CallR X (.builtin "isinstance") (fun xs H Q => ∃ (a C : Addr) (d : Option Addr) (c : V) (u : Value) (b : Bool), xs = [.ref a, c] ∧ H a = some (exo a C d) ∧ (∀ dd, d = some dd → ∃ fs, H dd = some (exd dd fs)) ∧ ClsV c u ∧ IsC X.K C ∧ PySem.W.kitOne X.K (.ref C) u = some b ∧ Q (.bl b) H) := by
  intro pins s σ H xs us Q I r h
  obtain ⟨a, C, d, c, u, b, rfl, ea, ed, k, T, e, q⟩ := h
  obtain ⟨u1, u2, rfl, r1, r2⟩ := vals2 r
  have e2 := k.eq r2
  subst e2
  obtain rfl : u1 = Value.ref a := r1
  obtain ⟨t1, ho⟩ := exo_at I.hok ea
  have fin : ∀ od, PySem.W.InstAt s.heap a { cls := .ref C, dict := d, data := .fields #[.ref t1, .none, .none, .none, .bool false, .none] } C od → wpAny (model X.prog X.w) X.A (call (.builtin "isinstance") [.ref a, u2]) (EP X pins σ Q) X.xe s := fun od J =>
    PySem.W.kia_one (PySem.W.kitx_exc T.cl T.ga T.gg T.sb T.ca T.gt T.tk T.mo) I.kIn J e (fun z => nomatch z) fun tk => ⟨.bl b, H, I.tok tk, rfl, q⟩
  cases d with
  | none => exact fin none ⟨ho, rfl, rfl, trivial⟩
  | some dd =>
    obtain ⟨fs, hd⟩ := ed dd rfl
    obtain ⟨mA, hns, _⟩ := exd_at I.hok hd
    obtain ⟨od, hod, _⟩ := lookIn_ns hns
    exact fin (some od) ⟨ho, rfl, rfl, hod⟩
/-- repr(x), x data -/
theorem call_reprD (hg : X.A.guards = some []) (hu : X.A.units + 64 < cLine) : CallR X (.builtin "repr") (fun xs H Q => ∃ (x : V) (d : PyData), xs = [x] ∧ Dp X.K H x d ∧ d.showable = true ∧ d.hasDict = false ∧ d.depth ≤ 8 ∧ d.shown.length ≤ sizeLine ∧ (∀ i, d = .int i → i.natAbs.log2 < 1920) ∧ Q (.str d.shown) H) := by
  intro pins s σ H xs us Q I r h
  obtain ⟨x, d, rfl, D, h1, h2, h3, h4, h5, q⟩ := h
  obtain ⟨u, rfl, ru⟩ := vals1 r
  obtain ⟨as, R⟩ := Dp.reads I d x u D ru
  have far : ∀ a, x = .ref a → wpAny (model X.prog X.w) X.A (call (.builtin "repr") [u]) (EP X pins σ Q) X.xe s := fun a ea => by
    subst ea
    obtain rfl : u = Value.ref a := ru
    refine repr_of_reads' R h1 (fun z => ?_) hg (by omega) (fun _ _ z => z) (fun h' v tk kk => ⟨.str d.shown, H, I.kept (t' := tk) kk, ⟨v, rfl⟩, q⟩) h4
    rw [h2] at z
    cases z
  cases D with
  | non =>
    obtain rfl : u = Value.none := ru
    exact PySem.P.repr_of_none ⟨.str _, H, I.tok _, ⟨_, rfl⟩, q⟩
  | bl b =>
    obtain rfl : u = Value.bool b := ru
    exact PySem.P.repr_of_bool ⟨.str _, H, I.tok _, ⟨_, by cases b <;> rfl⟩, q⟩
  | int i =>
    obtain ⟨t, rfl⟩ := ru
    exact PySem.P.repr_of_int (h5 i rfl) ⟨.str _, H, I.tok _, ⟨_, rfl⟩, q⟩
  | str y =>
    obtain ⟨t, rfl⟩ := ru
    exact PySem.P.repr_of_str ⟨.str _, H, I.tok _, ⟨_, rfl⟩, q⟩ h4
  | lst => exact far _ rfl
  | tup => exact far _ rfl
def rRepr (K : PySem.W.Frag) : List V → Hp → VK → Prop := fun xs H Q => ∃ (x : V) (d : PyData), xs = [x] ∧ Dp K H x d ∧ d.showable = true ∧ d.hasDict = false ∧ d.depth ≤ 8 ∧ d.shown.length ≤ sizeLine ∧ (∀ i, d = .int i → i.natAbs.log2 < 1920) ∧ Q (.str d.shown) H
theorem pe_repr {p2 : Pos} {K : PySem.W.Frag} (hK : X.K = K) (hgd : X.A.guards = some []) (hu : X.A.units + 64 < cLine) (hg : Gl X "repr") (hm : X.mg "repr" = none) (hx : PE X e te)
    (he : starEach [e] X.env = (false, eval e X.env) :: starEach [] X.env := by rfl) (hpl : (backTo pos (starEach [] X.env)).any (·.1) = false := by rfl) : PE X (.Call (.Name "repr" p2) [e] [] pos) (tCB (rRepr K) (tCons te tNil)) := by
  subst hK
  exact pe_callB (id := "repr") (call_reprD hgd hu) hg hm (by decide +kernel) (pa_cons hx pa_nil (hs := he)) (he := he) (hpl := hpl)
end
end Nm
namespace Nm
open PySem PySem.Spec PyProof.Rows L2
/-! ### the end, where the law's own body asks what guards run: none, at the caller -/
theorem entry {P : Program} {w : World} {K : PySem.W.Frag} {h : Heap} {a : Addr} {vs : List Value} {ns : List Int} (KX : K.In h) (ha : h.get? a = some { cls := .type "list", data := .seq vs.toArray }) (hi : IntsAre vs ns) (hl : ns.length ≤ sizeLine) :
    ∃ H : Hp, SqL K H a (ns.map V.int) ∧ HOk P w H h ∧ ∀ b u, H b = some u → b = a ∧ K.lookup a = none ∧ u = .frz { cls := .type "list", data := .seq vs.toArray } (.lst (ns.map V.int)) := by
  have rv := vals_ints hi
  have lenV := hi.length
  cases hk : K.lookup a with
  | some o =>
    have e := (KX a o hk).symm.trans ha
    cases e
    exact ⟨fun _ => none, .inr ⟨_, vs.toArray, _, hk, rfl, rfl, rfl, by rw [List.size_toArray, lenV]; exact hl, by simpa using rv⟩, (fun b u z => nomatch (show (none : Option HO) = some u from z)), fun b u z => nomatch (show (none : Option HO) = some u from z)⟩
  | none =>
    let o : Obj := { cls := .type "list", data := .seq vs.toArray }
    have at_ : ∀ b u, (if b = a then some (HO.frz o (.lst (ns.map V.int))) else none) = some u → b = a ∧ u = .frz o (.lst (ns.map V.int)) := fun b u z => by
      by_cases q : b = a
      · rw [if_pos q] at z
        exact ⟨q, (Option.some.inj z).symm⟩
      · rw [if_neg q] at z
        cases z
    refine ⟨fun b => if b = a then some (.frz o (.lst (ns.map V.int))) else none, .inl (.inr ⟨o, if_pos rfl⟩), fun b u z => ?_, fun b u z => ⟨(at_ b u z).1, rfl, (at_ b u z).2⟩⟩
    obtain ⟨rfl, rfl⟩ := at_ b u z
    exact ⟨ha, by rw [List.length_map]; exact hl, vs, _, rv, ha⟩
/-- a law's body, at the caller, from its term of rules and its reading -/
theorem walk_g {l : PySem.W.OpenLaw} {k : Nat} {q : Program} {loose : List Str} {XP : (Str → Option Value) → Heap → Prop} {YP : World → Heap → Prop} {d : DefRec} {K : Params → PySem.W.Frag} {x : Str} {N : List Str} {st : Stmt} {qual : Str}
    (hn : l.most = some 63) (hdf : d.params.defaults = []) (hr : Room (k + 1) callerA) (S : FnScope N [x] (defScope st)) (hY : ∀ (w : World) (h : Heap), YP w h → (K w.params).In h)
    (F : ∀ (w : World) (mg : Str → Option Value) (fa : Addr) (h : Heap), (K w.params).In h → h.Ns mainGlobals mg → mg d.name = some (.ref fa) →
      ∃ fd : FuncData, Fun (K w.params) qual qual st fa fd ∧ (∀ (s : Shared) (u : Value), BindsTo s fd ⟨[u], []⟩ [(x, u)]) ∧
        ∀ (base : Heap) (cdv : Value) (s : Shared) (H : Hp) (a : Addr) (ns : List Int), (K w.params).In base → base.Ns mainGlobals mg → ns.length ≤ 63 → SqL (K w.params) H a (ns.map V.int) →
          ∃ t, PSs (cxOf CX0 l.prog w (K w.params) mg base N qual (defScope st) fa cdv callerA [] s H E0).nox (defBody st) t ∧ t { nx := fun _ _ => False, rt := fun v _ => v = .bl true } (start N [.ref a]) H) :
    PySem.W.WalkO q loose XP YP l.row.toRowW d [] (fun f vs => PySem.call f vs) := by
  refine Att.attach_call hn hdf ?_
  intro w s₀ s₁ mg mb fa o pm cd doc a vs ns G Y ho hd hcd hmg hobj hints hlen hg
  have KX := hY w _ Y
  obtain ⟨fd, FF, hb, body⟩ := F w mg fa _ KX G.T.g hmg
  obtain ⟨H, hS, hok, only⟩ := entry (P := l.prog) (w := w) KX hobj hints (Nat.le_trans hlen (by decide))
  -- what the base keeps: all but the script
  have keepB : ∀ b o, s₁.heap.get? b = some o → (b = a → (K w.params).lookup a = none → False) → (hidT s₁.heap H).get? b = some o := fun b o e n => hidT_get e (by
    cases z : H b with
    | none => rfl
    | some u => exact (n (only b u z).1 (only b u z).2.1).elim)
  have KB : (K w.params).In (hidT s₁.heap H) := fun b o e => keepB b o (KX b o e) fun q z => by
    rw [q, z] at e
    cases e
  have nsB : ∀ {b : Addr} {m : Str → Option Value}, s₁.heap.Ns b m → (hidT s₁.heap H).Ns b m := fun {b m} n => by
    obtain ⟨o, es, ep, e, hdat, r⟩ := n
    refine ⟨o, es, ep, keepB b o e fun q _ => ?_, hdat, r⟩
    rw [q, hobj] at e
    cases e
    cases hdat
  have limB : (hidT s₁.heap H).NoLimit := by
    obtain ⟨mc, h1, h2⟩ := G.T.nolimit
    exact ⟨mc, nsB h1, h2⟩
  have e0 : Env0 l.prog w (K w.params) mg (hidT s₁.heap H) callerA [] s₁ H :=
    { frames := rfl, mod := ⟨KB, nsB G.T.g, ⟨mb, nsB G.T.b, G.T.builtins⟩, limB⟩, bs := fun b o e => of_hidT e, bsz := Nat.le_of_eq (hidT_size _ _), funs := trivial, frf := (fun b z => by cases z), hok := hok, bare := .of_eq hg }
  obtain ⟨oc, od, kV, dc, pmv, an, cdv, ct, osl, rfl, lk, hcode⟩ := FF.ex
  have hpar : (defScope st).names.lookup x = some .local ∨ (defScope st).names.lookup x = some .cell := S.par x (List.mem_singleton.mpr rfl)
  refine Att.call_fn KX G.T.nolimit lk hcode hr.depth (hb s₁ (.ref a)) ?_ (fun s2 ic => ?_) S.co S.gen S.kind
  · rcases hpar with z | z <;> simp [z]
  obtain ⟨t, ht, hq⟩ := body _ cdv s₁ H a ns KB (nsB G.T.g) hlen hS
  have I : Inv (cxOf CX0 l.prog w (K w.params) mg (hidT s₁.heap H) N qual (defScope st) fa cdv callerA [] s₁ H E0) [] (start N [.ref a]) H s2 := inv_start S hr.hd e0 rfl (.cons rfl .nil) ic
  have old : ∀ (s' : Shared) (σ' : L2.St) (H' : Hp), Inv (cxOf CX0 l.prog w (K w.params) mg (hidT s₁.heap H) N qual (defScope st) fa cdv callerA [] s₁ H E0) [] σ' H' s' → OldK s₁.heap s'.heap := fun s' σ' H' J => by
    refine OldK.of_keep fun b o e => ?_
    cases z : H b with
    | none => exact J.base.keep b o e z (by intro y; cases y) (by intro y; cases y)
    | some u =>
      obtain ⟨_, _, rfl⟩ := only b u z
      have p1 := (hok b _ z).1
      have p2 := (J.hok b _ (J.base.frzs b _ _ z)).1
      rw [e] at p1
      cases p1
      exact p2
  refine wpAny_mono (ht.nox.run [] s2 _ H _ I hq) ?_ ?_
  · intro fl s' hs
    cases fl with
    | ret u =>
      obtain ⟨v, σ', H', J, rv, q⟩ := hs
      have q' : v = V.bl true := q
      subst q'
      have ru : u = Value.bool true := rv
      subst ru
      exact ⟨rfl, old _ _ _ J, J.os, J.bare⟩
    | next =>
      obtain ⟨_, _, _, q⟩ := hs
      exact False.elim q
    | brk =>
      obtain ⟨_, _, _, q⟩ := hs
      exact False.elim q
    | cont =>
      obtain ⟨_, _, _, q⟩ := hs
      exact False.elim q
  · intro e s' hs
    exact wpAny_mono hs (fun _ _ z => False.elim z) fun _ _ z => False.elim z
end Nm
namespace Nm
open PySem L2
/-! ### the classes -/
structure XCls (K : PySem.W.Frag) (mg : Str → Option Value) (x : Str) (C fI J : Addr) (names : List Str) : Prop where
  gm : mg x = some (.ref C)
  oex : OexC K C
  ini : PySem.W.findIn K (.ref C) "__init__" = some (some (.ref fI))
  tyI : PySem.W.typeIn K (.ref fI) = some (.type "function")
  isC : IsC K C
  xf : XfC K C
  no : ∀ f ∈ names, PySem.W.findIn K (.ref C) f = some none
structure XCls0 (K : PySem.W.Frag) (mg : Str → Option Value) (x : Str) (C : Addr) : Prop where
  gm : mg x = some (.ref C)
  ex : PySem.W.excIn K C [.type "ValueError", .type "Exception", .type "BaseException", .type "object"] "ValueError.__new__" = true
  kp : PySem.W.keepIn K (.ref C) = true
  isC : IsC K C
def fieldsOf (names : List Str) (vals : List V) : List (Str × V) := (names.zip vals).reverse
def ExAt (H : Hp) (a C : Addr) : Prop := ∃ d, H a = some (exo a C d) ∧ ∀ dd, d = some dd → ∃ fs, H dd = some (exd dd fs)
def ExF (H : Hp) (a C : Addr) (fs : List (Str × V)) : Prop := ∃ d, H a = some (exo a C (some d)) ∧ H d = some (exd d fs)
theorem ExF.at {H : Hp} {a C : Addr} {fs : List (Str × V)} (h : ExF H a C fs) : ExAt H a C := by
  obtain ⟨d, h1, h2⟩ := h
  exact ⟨some d, h1, fun dd e => ⟨fs, by cases e; exact h2⟩⟩
theorem ExAt.same {H H' : Hp} {a C : Addr} (h : ExAt H a C) (s : Same H H') : ExAt H' a C := by
  obtain ⟨d, h1, h2⟩ := h
  exact ⟨d, s _ _ h1, fun dd e => by obtain ⟨fs, q⟩ := h2 dd e; exact ⟨fs, s _ _ q⟩⟩
theorem ExF.same {H H' : Hp} {a C : Addr} {fs : List (Str × V)} (h : ExF H a C fs) (s : Same H H') : ExF H' a C fs := by
  obtain ⟨d, h1, h2⟩ := h
  exact ⟨d, s _ _ h1, s _ _ h2⟩
theorem same_new {H : Hp} {p : Addr} {o : HO} (h : H p = none) : Same H (upd H p o) := fun b u e => by
  rw [upd_ne (ne_of_none e h)]
  exact e
def spInitE (C : Addr) (names : List Str) : Sp := fun vs H Q _ => ∃ (a : Addr) (vals : List V), vs = .ref a :: vals ∧ vals.length = names.length ∧ H a = some (exo a C none) ∧
  ∀ (d : Addr) (H' : Hp), H' a = some (exo a C (some d)) → H' d = some (exd d (fieldsOf names vals)) → H d = none → (∀ b, b ≠ a → b ≠ d → H' b = H b) → Q .non H'
theorem made {H H' : Hp} {a C d : Addr} {fs : List (Str × V)} (an : H a = none) (ea : H' a = some (exo a C (some d))) (ed : H' d = some (exd d fs)) (nd : (upd H a (exo a C none)) d = none)
    (oth : ∀ b, b ≠ a → b ≠ d → H' b = (upd H a (exo a C none)) b) : Same H H' ∧ ExF H' a C fs := by
  have da : d ≠ a := fun q => by
    rw [q, upd_same] at nd
    cases nd
  rw [upd_ne da] at nd
  refine ⟨fun b o e => ?_, d, ea, ed⟩
  have h1 := ne_of_none e an
  have h2 := ne_of_none e nd
  rw [oth b h1 h2, upd_ne h1]
  exact e

section
variable {P : Program} {w : World} {K : PySem.W.Frag} {mg : Str → Option Value} {base : Heap}

abbrev sBadTextinit : Stmt := inClass (top 2) 0
abbrev NBadTextinit : List Str := ["self", "line", "column"]
abbrev PBadTextinit : List Str := ["self", "line", "column"]
theorem scBadTextinit : FnScope NBadTextinit PBadTextinit (defScope sBadTextinit) := ⟨rfl, rfl, rfl, by decide +kernel, rfl, by decide +kernel, by decide +kernel⟩

theorem ok_BadTextinit {f C fI J : Addr} {fd : FuncData} (F : Fun K "__init__" "BadText.__init__" sBadTextinit f fd) (X : XCls K mg "BadText" C fI J ["line", "column"]) : FnOk P w K mg base CX0 1 f fd ["self", "line", "column"] (spInitE C ["line", "column"]) := by
  refine F.ok scBadTextinit (fun vs H Q E h => ?_) (fun cdv A outer s H vs Q E hr h => ?_)
  · obtain ⟨a, vals, rfl, hl, _⟩ := h
    show vals.length + 1 = _
    rw [hl]
    rfl
  · obtain ⟨a, vals, rfl, hl, ha, k⟩ := h
    obtain ⟨v1, v2, rfl⟩ : ∃ v1 v2, vals = [v1, v2] := by
      match vals, hl with
      | [v1, v2], _ => exact ⟨v1, v2, rfl⟩
    refine ⟨_, (pss_cons (ps_ost (pv 0) (pv 1)) (pss_one (ps_ost (pv 0) (pv 2)))), ?_⟩
    refine ⟨_, rfl, _, rfl, a, C, rfl, X.oex, X.no _ (by simp), .inl ⟨ha, fun d dn da => ?_⟩⟩
    refine ⟨_, rfl, _, rfl, a, C, rfl, X.oex, X.no _ (by simp), .inr ⟨d, _, upd_same, (by rw [upd_ne da, upd_same]), (by show 1 ≤ 900; decide), ?_⟩⟩
    exact k d _ (by rw [upd_ne da.symm, upd_same]) (by rw [upd_same]; rfl) dn fun b h1 h2 => by rw [upd_ne h2, upd_ne h1, upd_ne h2]
abbrev sBadPrograminit : Stmt := inClass (top 3) 0
abbrev NBadPrograminit : List Str := ["self", "line", "what"]
abbrev PBadPrograminit : List Str := ["self", "line", "what"]
theorem scBadPrograminit : FnScope NBadPrograminit PBadPrograminit (defScope sBadPrograminit) := ⟨rfl, rfl, rfl, by decide +kernel, rfl, by decide +kernel, by decide +kernel⟩

theorem ok_BadPrograminit {f C fI J : Addr} {fd : FuncData} (F : Fun K "__init__" "BadProgram.__init__" sBadPrograminit f fd) (X : XCls K mg "BadProgram" C fI J ["line", "what"]) : FnOk P w K mg base CX0 1 f fd ["self", "line", "what"] (spInitE C ["line", "what"]) := by
  refine F.ok scBadPrograminit (fun vs H Q E h => ?_) (fun cdv A outer s H vs Q E hr h => ?_)
  · obtain ⟨a, vals, rfl, hl, _⟩ := h
    show vals.length + 1 = _
    rw [hl]
    rfl
  · obtain ⟨a, vals, rfl, hl, ha, k⟩ := h
    obtain ⟨v1, v2, rfl⟩ : ∃ v1 v2, vals = [v1, v2] := by
      match vals, hl with
      | [v1, v2], _ => exact ⟨v1, v2, rfl⟩
    refine ⟨_, (pss_cons (ps_ost (pv 0) (pv 1)) (pss_one (ps_ost (pv 0) (pv 2)))), ?_⟩
    refine ⟨_, rfl, _, rfl, a, C, rfl, X.oex, X.no _ (by simp), .inl ⟨ha, fun d dn da => ?_⟩⟩
    refine ⟨_, rfl, _, rfl, a, C, rfl, X.oex, X.no _ (by simp), .inr ⟨d, _, upd_same, (by rw [upd_ne da, upd_same]), (by show 1 ≤ 900; decide), ?_⟩⟩
    exact k d _ (by rw [upd_ne da.symm, upd_same]) (by rw [upd_same]; rfl) dn fun b h1 h2 => by rw [upd_ne h2, upd_ne h1, upd_ne h2]
abbrev sBadValueinit : Stmt := inClass (top 4) 0
abbrev NBadValueinit : List Str := ["self", "value", "why"]
abbrev PBadValueinit : List Str := ["self", "value", "why"]
theorem scBadValueinit : FnScope NBadValueinit PBadValueinit (defScope sBadValueinit) := ⟨rfl, rfl, rfl, by decide +kernel, rfl, by decide +kernel, by decide +kernel⟩

theorem ok_BadValueinit {f C fI J : Addr} {fd : FuncData} (F : Fun K "__init__" "BadValue.__init__" sBadValueinit f fd) (X : XCls K mg "BadValue" C fI J ["value", "why"]) : FnOk P w K mg base CX0 1 f fd ["self", "value", "why"] (spInitE C ["value", "why"]) := by
  refine F.ok scBadValueinit (fun vs H Q E h => ?_) (fun cdv A outer s H vs Q E hr h => ?_)
  · obtain ⟨a, vals, rfl, hl, _⟩ := h
    show vals.length + 1 = _
    rw [hl]
    rfl
  · obtain ⟨a, vals, rfl, hl, ha, k⟩ := h
    obtain ⟨v1, v2, rfl⟩ : ∃ v1 v2, vals = [v1, v2] := by
      match vals, hl with
      | [v1, v2], _ => exact ⟨v1, v2, rfl⟩
    refine ⟨_, (pss_cons (ps_ost (pv 0) (pv 1)) (pss_one (ps_ost (pv 0) (pv 2)))), ?_⟩
    refine ⟨_, rfl, _, rfl, a, C, rfl, X.oex, X.no _ (by simp), .inl ⟨ha, fun d dn da => ?_⟩⟩
    refine ⟨_, rfl, _, rfl, a, C, rfl, X.oex, X.no _ (by simp), .inr ⟨d, _, upd_same, (by rw [upd_ne da, upd_same]), (by show 1 ≤ 900; decide), ?_⟩⟩
    exact k d _ (by rw [upd_ne da.symm, upd_same]) (by rw [upd_same]; rfl) dn fun b h1 h2 => by rw [upd_ne h2, upd_ne h1, upd_ne h2]
abbrev sBadNameinit : Stmt := inClass (top 5) 0
abbrev NBadNameinit : List Str := ["self", "name"]
abbrev PBadNameinit : List Str := ["self", "name"]
theorem scBadNameinit : FnScope NBadNameinit PBadNameinit (defScope sBadNameinit) := ⟨rfl, rfl, rfl, by decide +kernel, rfl, by decide +kernel, by decide +kernel⟩

theorem ok_BadNameinit {f C fI J : Addr} {fd : FuncData} (F : Fun K "__init__" "BadName.__init__" sBadNameinit f fd) (X : XCls K mg "BadName" C fI J ["name"]) : FnOk P w K mg base CX0 1 f fd ["self", "name"] (spInitE C ["name"]) := by
  refine F.ok scBadNameinit (fun vs H Q E h => ?_) (fun cdv A outer s H vs Q E hr h => ?_)
  · obtain ⟨a, vals, rfl, hl, _⟩ := h
    show vals.length + 1 = _
    rw [hl]
    rfl
  · obtain ⟨a, vals, rfl, hl, ha, k⟩ := h
    obtain ⟨v1, rfl⟩ : ∃ v1, vals = [v1] := by
      match vals, hl with
      | [v1], _ => exact ⟨v1, rfl⟩
    refine ⟨_, (pss_one (ps_ost (pv 0) (pv 1))), ?_⟩
    refine ⟨_, rfl, _, rfl, a, C, rfl, X.oex, X.no _ (by simp), .inl ⟨ha, fun d dn da => ?_⟩⟩
    exact k d _ upd_same (by rw [upd_ne da, upd_same]; rfl) dn fun b h1 h2 => by rw [upd_ne h1, upd_ne h2]
abbrev sNoNameinit : Stmt := inClass (top 6) 0
abbrev NNoNameinit : List Str := ["self", "name"]
abbrev PNoNameinit : List Str := ["self", "name"]
theorem scNoNameinit : FnScope NNoNameinit PNoNameinit (defScope sNoNameinit) := ⟨rfl, rfl, rfl, by decide +kernel, rfl, by decide +kernel, by decide +kernel⟩

theorem ok_NoNameinit {f C fI J : Addr} {fd : FuncData} (F : Fun K "__init__" "NoName.__init__" sNoNameinit f fd) (X : XCls K mg "NoName" C fI J ["name"]) : FnOk P w K mg base CX0 1 f fd ["self", "name"] (spInitE C ["name"]) := by
  refine F.ok scNoNameinit (fun vs H Q E h => ?_) (fun cdv A outer s H vs Q E hr h => ?_)
  · obtain ⟨a, vals, rfl, hl, _⟩ := h
    show vals.length + 1 = _
    rw [hl]
    rfl
  · obtain ⟨a, vals, rfl, hl, ha, k⟩ := h
    obtain ⟨v1, rfl⟩ : ∃ v1, vals = [v1] := by
      match vals, hl with
      | [v1], _ => exact ⟨v1, rfl⟩
    refine ⟨_, (pss_one (ps_ost (pv 0) (pv 1))), ?_⟩
    refine ⟨_, rfl, _, rfl, a, C, rfl, X.oex, X.no _ (by simp), .inl ⟨ha, fun d dn da => ?_⟩⟩
    exact k d _ upd_same (by rw [upd_ne da, upd_same]; rfl) dn fun b h1 h2 => by rw [upd_ne h1, upd_ne h2]
abbrev sTakenNameinit : Stmt := inClass (top 7) 0
abbrev NTakenNameinit : List Str := ["self", "name"]
abbrev PTakenNameinit : List Str := ["self", "name"]
theorem scTakenNameinit : FnScope NTakenNameinit PTakenNameinit (defScope sTakenNameinit) := ⟨rfl, rfl, rfl, by decide +kernel, rfl, by decide +kernel, by decide +kernel⟩

theorem ok_TakenNameinit {f C fI J : Addr} {fd : FuncData} (F : Fun K "__init__" "TakenName.__init__" sTakenNameinit f fd) (X : XCls K mg "TakenName" C fI J ["name"]) : FnOk P w K mg base CX0 1 f fd ["self", "name"] (spInitE C ["name"]) := by
  refine F.ok scTakenNameinit (fun vs H Q E h => ?_) (fun cdv A outer s H vs Q E hr h => ?_)
  · obtain ⟨a, vals, rfl, hl, _⟩ := h
    show vals.length + 1 = _
    rw [hl]
    rfl
  · obtain ⟨a, vals, rfl, hl, ha, k⟩ := h
    obtain ⟨v1, rfl⟩ : ∃ v1, vals = [v1] := by
      match vals, hl with
      | [v1], _ => exact ⟨v1, rfl⟩
    refine ⟨_, (pss_one (ps_ost (pv 0) (pv 1))), ?_⟩
    refine ⟨_, rfl, _, rfl, a, C, rfl, X.oex, X.no _ (by simp), .inl ⟨ha, fun d dn da => ?_⟩⟩
    exact k d _ upd_same (by rw [upd_ne da, upd_same]; rfl) dn fun b h1 h2 => by rw [upd_ne h1, upd_ne h2]
abbrev sBadNumberinit : Stmt := inClass (top 8) 0
abbrev NBadNumberinit : List Str := ["self", "what", "number"]
abbrev PBadNumberinit : List Str := ["self", "what", "number"]
theorem scBadNumberinit : FnScope NBadNumberinit PBadNumberinit (defScope sBadNumberinit) := ⟨rfl, rfl, rfl, by decide +kernel, rfl, by decide +kernel, by decide +kernel⟩

theorem ok_BadNumberinit {f C fI J : Addr} {fd : FuncData} (F : Fun K "__init__" "BadNumber.__init__" sBadNumberinit f fd) (X : XCls K mg "BadNumber" C fI J ["what", "number"]) : FnOk P w K mg base CX0 1 f fd ["self", "what", "number"] (spInitE C ["what", "number"]) := by
  refine F.ok scBadNumberinit (fun vs H Q E h => ?_) (fun cdv A outer s H vs Q E hr h => ?_)
  · obtain ⟨a, vals, rfl, hl, _⟩ := h
    show vals.length + 1 = _
    rw [hl]
    rfl
  · obtain ⟨a, vals, rfl, hl, ha, k⟩ := h
    obtain ⟨v1, v2, rfl⟩ : ∃ v1 v2, vals = [v1, v2] := by
      match vals, hl with
      | [v1, v2], _ => exact ⟨v1, v2, rfl⟩
    refine ⟨_, (pss_cons (ps_ost (pv 0) (pv 1)) (pss_one (ps_ost (pv 0) (pv 2)))), ?_⟩
    refine ⟨_, rfl, _, rfl, a, C, rfl, X.oex, X.no _ (by simp), .inl ⟨ha, fun d dn da => ?_⟩⟩
    refine ⟨_, rfl, _, rfl, a, C, rfl, X.oex, X.no _ (by simp), .inr ⟨d, _, upd_same, (by rw [upd_ne da, upd_same]), (by show 1 ≤ 900; decide), ?_⟩⟩
    exact k d _ (by rw [upd_ne da.symm, upd_same]) (by rw [upd_same]; rfl) dn fun b h1 h2 => by rw [upd_ne h2, upd_ne h1, upd_ne h2]
abbrev sTooManyinit : Stmt := inClass (top 9) 0
abbrev NTooManyinit : List Str := ["self", "what", "many", "limit"]
abbrev PTooManyinit : List Str := ["self", "what", "many", "limit"]
theorem scTooManyinit : FnScope NTooManyinit PTooManyinit (defScope sTooManyinit) := ⟨rfl, rfl, rfl, by decide +kernel, rfl, by decide +kernel, by decide +kernel⟩

theorem ok_TooManyinit {f C fI J : Addr} {fd : FuncData} (F : Fun K "__init__" "TooMany.__init__" sTooManyinit f fd) (X : XCls K mg "TooMany" C fI J ["what", "many", "limit"]) : FnOk P w K mg base CX0 1 f fd ["self", "what", "many", "limit"] (spInitE C ["what", "many", "limit"]) := by
  refine F.ok scTooManyinit (fun vs H Q E h => ?_) (fun cdv A outer s H vs Q E hr h => ?_)
  · obtain ⟨a, vals, rfl, hl, _⟩ := h
    show vals.length + 1 = _
    rw [hl]
    rfl
  · obtain ⟨a, vals, rfl, hl, ha, k⟩ := h
    obtain ⟨v1, v2, v3, rfl⟩ : ∃ v1 v2 v3, vals = [v1, v2, v3] := by
      match vals, hl with
      | [v1, v2, v3], _ => exact ⟨v1, v2, v3, rfl⟩
    refine ⟨_, (pss_cons (ps_ost (pv 0) (pv 1)) (pss_cons (ps_ost (pv 0) (pv 2)) (pss_one (ps_ost (pv 0) (pv 3))))), ?_⟩
    refine ⟨_, rfl, _, rfl, a, C, rfl, X.oex, X.no _ (by simp), .inl ⟨ha, fun d dn da => ?_⟩⟩
    refine ⟨_, rfl, _, rfl, a, C, rfl, X.oex, X.no _ (by simp), .inr ⟨d, _, upd_same, (by rw [upd_ne da, upd_same]), (by show 1 ≤ 900; decide), ?_⟩⟩
    refine ⟨_, rfl, _, rfl, a, C, rfl, X.oex, X.no _ (by simp), .inr ⟨d, _, (by rw [upd_ne da.symm, upd_same]), upd_same, (by show 2 ≤ 900; decide), ?_⟩⟩
    exact k d _ (by rw [upd_ne da.symm, upd_ne da.symm, upd_same]) (by rw [upd_same]; rfl) dn fun b h1 h2 => by rw [upd_ne h2, upd_ne h2, upd_ne h1, upd_ne h2]
abbrev sBadNetinit : Stmt := inClass (top 10) 0
abbrev NBadNetinit : List Str := ["self", "what"]
abbrev PBadNetinit : List Str := ["self", "what"]
theorem scBadNetinit : FnScope NBadNetinit PBadNetinit (defScope sBadNetinit) := ⟨rfl, rfl, rfl, by decide +kernel, rfl, by decide +kernel, by decide +kernel⟩

theorem ok_BadNetinit {f C fI J : Addr} {fd : FuncData} (F : Fun K "__init__" "BadNet.__init__" sBadNetinit f fd) (X : XCls K mg "BadNet" C fI J ["what"]) : FnOk P w K mg base CX0 1 f fd ["self", "what"] (spInitE C ["what"]) := by
  refine F.ok scBadNetinit (fun vs H Q E h => ?_) (fun cdv A outer s H vs Q E hr h => ?_)
  · obtain ⟨a, vals, rfl, hl, _⟩ := h
    show vals.length + 1 = _
    rw [hl]
    rfl
  · obtain ⟨a, vals, rfl, hl, ha, k⟩ := h
    obtain ⟨v1, rfl⟩ : ∃ v1, vals = [v1] := by
      match vals, hl with
      | [v1], _ => exact ⟨v1, rfl⟩
    refine ⟨_, (pss_one (ps_ost (pv 0) (pv 1))), ?_⟩
    refine ⟨_, rfl, _, rfl, a, C, rfl, X.oex, X.no _ (by simp), .inl ⟨ha, fun d dn da => ?_⟩⟩
    exact k d _ upd_same (by rw [upd_ne da, upd_same]; rfl) dn fun b h1 h2 => by rw [upd_ne h1, upd_ne h2]
abbrev sNotKeptinit : Stmt := inClass (top 11) 0
abbrev NNotKeptinit : List Str := ["self", "promise", "witness"]
abbrev PNotKeptinit : List Str := ["self", "promise", "witness"]
theorem scNotKeptinit : FnScope NNotKeptinit PNotKeptinit (defScope sNotKeptinit) := ⟨rfl, rfl, rfl, by decide +kernel, rfl, by decide +kernel, by decide +kernel⟩

theorem ok_NotKeptinit {f C fI J : Addr} {fd : FuncData} (F : Fun K "__init__" "NotKept.__init__" sNotKeptinit f fd) (X : XCls K mg "NotKept" C fI J ["promise", "witness"]) : FnOk P w K mg base CX0 1 f fd ["self", "promise", "witness"] (spInitE C ["promise", "witness"]) := by
  refine F.ok scNotKeptinit (fun vs H Q E h => ?_) (fun cdv A outer s H vs Q E hr h => ?_)
  · obtain ⟨a, vals, rfl, hl, _⟩ := h
    show vals.length + 1 = _
    rw [hl]
    rfl
  · obtain ⟨a, vals, rfl, hl, ha, k⟩ := h
    obtain ⟨v1, v2, rfl⟩ : ∃ v1 v2, vals = [v1, v2] := by
      match vals, hl with
      | [v1, v2], _ => exact ⟨v1, v2, rfl⟩
    refine ⟨_, (pss_cons (ps_ost (pv 0) (pv 1)) (pss_one (ps_ost (pv 0) (pv 2)))), ?_⟩
    refine ⟨_, rfl, _, rfl, a, C, rfl, X.oex, X.no _ (by simp), .inl ⟨ha, fun d dn da => ?_⟩⟩
    refine ⟨_, rfl, _, rfl, a, C, rfl, X.oex, X.no _ (by simp), .inr ⟨d, _, upd_same, (by rw [upd_ne da, upd_same]), (by show 1 ≤ 900; decide), ?_⟩⟩
    exact k d _ (by rw [upd_ne da.symm, upd_same]) (by rw [upd_same]; rfl) dn fun b h1 h2 => by rw [upd_ne h2, upd_ne h1, upd_ne h2]
end
end Nm
namespace Nm
open PySem L2
structure Txt (K : PySem.W.Frag) (mg : Str → Option Value) (C0 C1 C2 C3 C4 C5 C6 C7 C8 C9 C10 C11 J f0 f1 f2 f3 f4 f5 f6 f7 f8 f9 : Addr) (fd0 fd1 fd2 fd3 fd4 fd5 fd6 fd7 fd8 fd9 : FuncData) : Prop where
  X_BadText : XCls K mg "BadText" C0 f0 J ["line", "column"]
  F_BadText : Fun K "__init__" "BadText.__init__" sBadTextinit f0 fd0
  B_BadText : Binds K fd0 ["self", "line", "column"] []
  X_BadProgram : XCls K mg "BadProgram" C1 f1 J ["line", "what"]
  F_BadProgram : Fun K "__init__" "BadProgram.__init__" sBadPrograminit f1 fd1
  B_BadProgram : Binds K fd1 ["self", "line", "what"] []
  X_BadValue : XCls K mg "BadValue" C2 f2 J ["value", "why"]
  F_BadValue : Fun K "__init__" "BadValue.__init__" sBadValueinit f2 fd2
  B_BadValue : Binds K fd2 ["self", "value", "why"] []
  X_BadName : XCls K mg "BadName" C3 f3 J ["name"]
  F_BadName : Fun K "__init__" "BadName.__init__" sBadNameinit f3 fd3
  B_BadName : Binds K fd3 ["self", "name"] []
  X_NoName : XCls K mg "NoName" C4 f4 J ["name"]
  F_NoName : Fun K "__init__" "NoName.__init__" sNoNameinit f4 fd4
  B_NoName : Binds K fd4 ["self", "name"] []
  X_TakenName : XCls K mg "TakenName" C5 f5 J ["name"]
  F_TakenName : Fun K "__init__" "TakenName.__init__" sTakenNameinit f5 fd5
  B_TakenName : Binds K fd5 ["self", "name"] []
  X_BadNumber : XCls K mg "BadNumber" C6 f6 J ["what", "number"]
  F_BadNumber : Fun K "__init__" "BadNumber.__init__" sBadNumberinit f6 fd6
  B_BadNumber : Binds K fd6 ["self", "what", "number"] []
  X_TooMany : XCls K mg "TooMany" C7 f7 J ["what", "many", "limit"]
  F_TooMany : Fun K "__init__" "TooMany.__init__" sTooManyinit f7 fd7
  B_TooMany : Binds K fd7 ["self", "what", "many", "limit"] []
  X_BadNet : XCls K mg "BadNet" C8 f8 J ["what"]
  F_BadNet : Fun K "__init__" "BadNet.__init__" sBadNetinit f8 fd8
  B_BadNet : Binds K fd8 ["self", "what"] []
  X_NotKept : XCls K mg "NotKept" C9 f9 J ["promise", "witness"]
  F_NotKept : Fun K "__init__" "NotKept.__init__" sNotKeptinit f9 fd9
  B_NotKept : Binds K fd9 ["self", "promise", "witness"] []
  X_NothingToUndo : XCls0 K mg "NothingToUndo" C10
  X_NothingToRedo : XCls0 K mg "NothingToRedo" C11
  gJ : mg "JoinError" = some (.ref J)
  isC : ∀ C ∈ [C0, C1, C2, C3, C4, C5, C6, C7, C8, C9, C10, C11], IsC K C
  kit : ∀ C ∈ [C0, C1, C2, C3, C4, C5, C6, C7, C8, C9, C10, C11], ∀ D ∈ [C0, C1, C2, C3, C4, C5, C6, C7, C8, C9, C10, C11], PySem.W.kitOne K (.ref C) (.ref D) = some (decide (D = C))
  kitJ : ∀ C ∈ [C0, C1, C2, C3, C4, C5, C6, C7, C8, C9, C10, C11], PySem.W.kitOne K (.ref C) (.ref J) = some true
  kitV : ∀ C ∈ [C0, C1, C2, C3, C4, C5, C6, C7, C8, C9, C10, C11], PySem.W.kitOne K (.ref C) (.type "ValueError") = some true
  nd : [C0, C1, C2, C3, C4, C5, C6, C7, C8, C9, C10, C11].Nodup
  isinstance : mg "isinstance" = none
  VE : mg "ValueError" = none
  enumerate : mg "enumerate" = none
  range : mg "range" = none
  len : mg "len" = none
  repr : mg "repr" = none
theorem pe_gref {X : Cx} {x : Str} {C : Addr} {pos : Pos} (hg : Gl X x) (hm : X.mg x = some (.ref C)) (hd : (x == ("__debug__" : Str)) = false := by decide) : PE X (.Name x pos) (tC (.ref C)) := pe_glob hg hm rfl hd
/-- what stands, address by address -/
def Has (H : Hp) (l : List (Addr × HO)) : Prop := ∀ p ∈ l, H p.1 = some p.2
theorem Has.get {H : Hp} {l : List (Addr × HO)} (h : Has H l) (i : Nat) {p : Addr} {o : HO} (e : l[i]? = some (p, o)) : H p = some o := h (p, o) (List.mem_of_getElem? e)
theorem Has.nil {H : Hp} : Has H [] := fun p z => nomatch z
theorem Has.same {H H' : Hp} {l : List (Addr × HO)} (h : Has H l) (s : Same H H') : Has H' l := fun p m => s _ _ (h p m)
theorem Has.cons {H : Hp} {l : List (Addr × HO)} {p : Addr} {o : HO} (h : Has H l) (e : H p = some o) : Has H ((p, o) :: l) := fun q m => by
  rcases List.mem_cons.mp m with z | z
  · rw [z]
    exact e
  · exact h q z
/-! readings, step by step: the heap behind a step is a letter -/
theorem lst_step {H : Hp} {xs : List V} {Q : VK} (h1 : xs.length ≤ 1000) (k : ∀ (p : Addr) (H' : Hp), Same H H' → H' p = some (.lst xs) → Q (.ref p) H') : xs.length ≤ sizeLine ∧ ∀ p, H p = none → Q (.ref p) (upd H p (.lst xs)) :=
  ⟨Nat.le_of_lt (small1000 h1), fun p hp => k p _ (same_new hp) upd_same⟩
theorem tup_step {H : Hp} {xs : List V} {Q : VK} (h1 : xs.length ≤ 1000) (k : ∀ (p : Addr) (H' : Hp), Same H H' → H' p = some (.tup xs) → Q (.ref p) H') : xs.length ≤ sizeLine ∧ ∀ p, H p = none → Q (.ref p) (upd H p (.tup xs)) :=
  ⟨Nat.le_of_lt (small1000 h1), fun p hp => k p _ (same_new hp) upd_same⟩
theorem cat_step {H : Hp} {l : Addr} {xs zs : List V} {Q : VK} (hl : H l = some (.lst xs)) (h1 : zs.length ≤ 1000) (h2 : xs.length ≤ 1000) (k : ∀ (p : Addr) (H' : Hp), Same H H' → H' p = some (.lst (xs ++ zs)) → Q (.ref p) H') :
    zs.length ≤ sizeLine ∧ ∀ q, H q = none → rCat (.ref l) (.ref q) (upd H q (.lst zs)) Q :=
  ⟨Nat.le_of_lt (small1000 h1), fun q hq => ⟨l, q, xs, zs, rfl, rfl, same_new hq _ _ hl, upd_same, Nat.le_trans (Nat.add_le_add h2 h1) (by decide), fun p hp => k p _ ((same_new hq).trans (same_new hp)) upd_same⟩⟩
theorem Has.new {H : Hp} {l : List (Addr × HO)} {p : Addr} (h : Has H l) (o : HO) (n : H p = none) : Has (upd H p o) ((p, o) :: l) := (h.same (same_new n)).cons upd_same

section
variable {P : Program} {w : World} {K : PySem.W.Frag} {mg : Str → Option Value} {base : Heap} {C0 C1 C2 C3 C4 C5 C6 C7 C8 C9 C10 C11 J f0 f1 f2 f3 f4 f5 f6 f7 f8 f9 : Addr} {fd0 fd1 fd2 fd3 fd4 fd5 fd6 fd7 fd8 fd9 : FuncData}

def spKinds (Cs : List Addr) : Sp := fun vs H Q _ => ∃ (e C : Addr), vs = [.ref e] ∧ C ∈ Cs ∧ ExAt H e C ∧ ∀ (p : Addr) (H' : Hp), Same H H' → H' p = some (.lst (Cs.map fun D => V.bl (decide (D = C)))) → Q (.ref p) H'
abbrev sLkindsof : Stmt := top 18
abbrev NLkindsof : List Str := ["_law_value", "_law_found"]
abbrev PLkindsof : List Str := ["_law_value"]
theorem scLkindsof : FnScope NLkindsof PLkindsof (defScope sLkindsof) := ⟨rfl, rfl, rfl, by decide +kernel, rfl, by decide +kernel, by decide +kernel⟩

theorem ok_kinds {f : Addr} {fd : FuncData} (F : Fun K "_law_kinds_of" "_law_kinds_of" sLkindsof f fd) (T : Txt K mg C0 C1 C2 C3 C4 C5 C6 C7 C8 C9 C10 C11 J f0 f1 f2 f3 f4 f5 f6 f7 f8 f9 fd0 fd1 fd2 fd3 fd4 fd5 fd6 fd7 fd8 fd9) : FnOk P w K mg base CX0 1 f fd ["_law_value"] (spKinds [C0, C1, C2, C3, C4, C5, C6, C7, C8, C9, C10, C11]) := by
  refine F.ok scLkindsof (fun vs H Q E h => ?_) (fun cdv A outer s H vs Q E hr h => ?_)
  · obtain ⟨e, C, rfl, _⟩ := h
    rfl
  · obtain ⟨e, C, rfl, hC, hE, k⟩ := h
    obtain ⟨d, h1, h2⟩ := hE
    have mm : ∀ (H' : Hp), Same H H' → ∀ dd, d = some dd → ∃ fs, H' dd = some (exd dd fs) := fun H' s dd e => by
      obtain ⟨fs, q⟩ := h2 dd e
      exact ⟨fs, s _ _ q⟩
    refine ⟨_, (pss_cons (ps_set (i := 1) scLkindsof.nd rfl (Or.inl rfl) (pe_lst (pa_cons (pe_callB call_isX (by rfl) T.isinstance (by decide +kernel) (pa_cons (pv 0) (pa_cons (pe_gref rfl T.X_BadText.gm) pa_nil))) (pa_cons (pe_callB call_isX (by rfl) T.isinstance (by decide +kernel) (pa_cons (pv 0) (pa_cons (pe_gref rfl T.X_BadProgram.gm) pa_nil))) (pa_cons (pe_callB call_isX (by rfl) T.isinstance (by decide +kernel) (pa_cons (pv 0) (pa_cons (pe_gref rfl T.X_BadValue.gm) pa_nil))) pa_nil)))))
      (pss_cons (ps_set (i := 1) scLkindsof.nd rfl (Or.inl rfl) (pe_op op_cat (pv 1) (pe_lst (pa_cons (pe_callB call_isX (by rfl) T.isinstance (by decide +kernel) (pa_cons (pv 0) (pa_cons (pe_gref rfl T.X_BadName.gm) pa_nil))) (pa_cons (pe_callB call_isX (by rfl) T.isinstance (by decide +kernel) (pa_cons (pv 0) (pa_cons (pe_gref rfl T.X_NoName.gm) pa_nil))) (pa_cons (pe_callB call_isX (by rfl) T.isinstance (by decide +kernel) (pa_cons (pv 0) (pa_cons (pe_gref rfl T.X_TakenName.gm) pa_nil))) pa_nil))))))
      (pss_cons (ps_set (i := 1) scLkindsof.nd rfl (Or.inl rfl) (pe_op op_cat (pv 1) (pe_lst (pa_cons (pe_callB call_isX (by rfl) T.isinstance (by decide +kernel) (pa_cons (pv 0) (pa_cons (pe_gref rfl T.X_BadNumber.gm) pa_nil))) (pa_cons (pe_callB call_isX (by rfl) T.isinstance (by decide +kernel) (pa_cons (pv 0) (pa_cons (pe_gref rfl T.X_TooMany.gm) pa_nil))) (pa_cons (pe_callB call_isX (by rfl) T.isinstance (by decide +kernel) (pa_cons (pv 0) (pa_cons (pe_gref rfl T.X_BadNet.gm) pa_nil))) pa_nil))))))
      (pss_cons (ps_set (i := 1) scLkindsof.nd rfl (Or.inl rfl) (pe_op op_cat (pv 1) (pe_lst (pa_cons (pe_callB call_isX (by rfl) T.isinstance (by decide +kernel) (pa_cons (pv 0) (pa_cons (pe_gref rfl T.X_NotKept.gm) pa_nil))) (pa_cons (pe_callB call_isX (by rfl) T.isinstance (by decide +kernel) (pa_cons (pv 0) (pa_cons (pe_gref rfl T.X_NothingToUndo.gm) pa_nil))) pa_nil)))))
      (pss_one (ps_ret (pe_op op_cat (pv 1) (pe_lst (pa_cons (pe_callB call_isX (by rfl) T.isinstance (by decide +kernel) (pa_cons (pv 0) (pa_cons (pe_gref rfl T.X_NothingToRedo.gm) pa_nil))) pa_nil))))))))), ?_⟩
    have s0 := Same.refl H
    refine ⟨_, rfl, e, C, d, .ref C0, .ref C0, _, rfl, s0 _ _ h1, mm _ s0, .own C0, T.isC C hC, T.kit C hC C0 (by simp), ⟨_, rfl, e, C, d, .ref C1, .ref C1, _, rfl, s0 _ _ h1, mm _ s0, .own C1, T.isC C hC, T.kit C hC C1 (by simp), ⟨_, rfl, e, C, d, .ref C2, .ref C2, _, rfl, s0 _ _ h1, mm _ s0, .own C2, T.isC C hC, T.kit C hC C2 (by simp), ⟨by show 3 ≤ sizeLine; decide, fun q0 n0 => ?_⟩⟩⟩⟩
    have a0 := same_new (o := .lst [V.bl (decide (C0 = C)), V.bl (decide (C1 = C)), V.bl (decide (C2 = C))]) n0
    have b0 := upd_same (H := H) (a := q0) (o := .lst [V.bl (decide (C0 = C)), V.bl (decide (C1 = C)), V.bl (decide (C2 = C))])
    generalize upd H q0 (.lst [V.bl (decide (C0 = C)), V.bl (decide (C1 = C)), V.bl (decide (C2 = C))]) = G0 at a0 b0 ⊢
    have s1 := s0.trans a0
    refine ⟨_, rfl, ⟨_, rfl, e, C, d, .ref C3, .ref C3, _, rfl, s1 _ _ h1, mm _ s1, .own C3, T.isC C hC, T.kit C hC C3 (by simp), ⟨_, rfl, e, C, d, .ref C4, .ref C4, _, rfl, s1 _ _ h1, mm _ s1, .own C4, T.isC C hC, T.kit C hC C4 (by simp), ⟨_, rfl, e, C, d, .ref C5, .ref C5, _, rfl, s1 _ _ h1, mm _ s1, .own C5, T.isC C hC, T.kit C hC C5 (by simp), ⟨by show 3 ≤ sizeLine; decide, fun q1 n1 => ?_⟩⟩⟩⟩⟩
    have a1 := same_new (o := .lst [V.bl (decide (C3 = C)), V.bl (decide (C4 = C)), V.bl (decide (C5 = C))]) n1
    have b1 := upd_same (H := G0) (a := q1) (o := .lst [V.bl (decide (C3 = C)), V.bl (decide (C4 = C)), V.bl (decide (C5 = C))])
    generalize upd G0 q1 (.lst [V.bl (decide (C3 = C)), V.bl (decide (C4 = C)), V.bl (decide (C5 = C))]) = G1 at a1 b1 ⊢
    refine ⟨q0, q1, _, _, rfl, rfl, a1 _ _ b0, b1, (by show 6 ≤ sizeLine; decide), fun r1 m1 => ?_⟩
    have c1 := same_new (o := .lst ([V.bl (decide (C0 = C)), V.bl (decide (C1 = C)), V.bl (decide (C2 = C))] ++ [V.bl (decide (C3 = C)), V.bl (decide (C4 = C)), V.bl (decide (C5 = C))])) m1
    have p1 := upd_same (H := G1) (a := r1) (o := .lst ([V.bl (decide (C0 = C)), V.bl (decide (C1 = C)), V.bl (decide (C2 = C))] ++ [V.bl (decide (C3 = C)), V.bl (decide (C4 = C)), V.bl (decide (C5 = C))]))
    generalize upd G1 r1 (.lst ([V.bl (decide (C0 = C)), V.bl (decide (C1 = C)), V.bl (decide (C2 = C))] ++ [V.bl (decide (C3 = C)), V.bl (decide (C4 = C)), V.bl (decide (C5 = C))])) = H1 at c1 p1 ⊢
    have s2 := (s1.trans a1).trans c1
    refine ⟨_, rfl, ⟨_, rfl, e, C, d, .ref C6, .ref C6, _, rfl, s2 _ _ h1, mm _ s2, .own C6, T.isC C hC, T.kit C hC C6 (by simp), ⟨_, rfl, e, C, d, .ref C7, .ref C7, _, rfl, s2 _ _ h1, mm _ s2, .own C7, T.isC C hC, T.kit C hC C7 (by simp), ⟨_, rfl, e, C, d, .ref C8, .ref C8, _, rfl, s2 _ _ h1, mm _ s2, .own C8, T.isC C hC, T.kit C hC C8 (by simp), ⟨by show 3 ≤ sizeLine; decide, fun q2 n2 => ?_⟩⟩⟩⟩⟩
    have a2 := same_new (o := .lst [V.bl (decide (C6 = C)), V.bl (decide (C7 = C)), V.bl (decide (C8 = C))]) n2
    have b2 := upd_same (H := H1) (a := q2) (o := .lst [V.bl (decide (C6 = C)), V.bl (decide (C7 = C)), V.bl (decide (C8 = C))])
    generalize upd H1 q2 (.lst [V.bl (decide (C6 = C)), V.bl (decide (C7 = C)), V.bl (decide (C8 = C))]) = G2 at a2 b2 ⊢
    refine ⟨r1, q2, _, _, rfl, rfl, a2 _ _ p1, b2, (by show 9 ≤ sizeLine; decide), fun r2 m2 => ?_⟩
    have c2 := same_new (o := .lst (([V.bl (decide (C0 = C)), V.bl (decide (C1 = C)), V.bl (decide (C2 = C))] ++ [V.bl (decide (C3 = C)), V.bl (decide (C4 = C)), V.bl (decide (C5 = C))]) ++ [V.bl (decide (C6 = C)), V.bl (decide (C7 = C)), V.bl (decide (C8 = C))])) m2
    have p2 := upd_same (H := G2) (a := r2) (o := .lst (([V.bl (decide (C0 = C)), V.bl (decide (C1 = C)), V.bl (decide (C2 = C))] ++ [V.bl (decide (C3 = C)), V.bl (decide (C4 = C)), V.bl (decide (C5 = C))]) ++ [V.bl (decide (C6 = C)), V.bl (decide (C7 = C)), V.bl (decide (C8 = C))]))
    generalize upd G2 r2 (.lst (([V.bl (decide (C0 = C)), V.bl (decide (C1 = C)), V.bl (decide (C2 = C))] ++ [V.bl (decide (C3 = C)), V.bl (decide (C4 = C)), V.bl (decide (C5 = C))]) ++ [V.bl (decide (C6 = C)), V.bl (decide (C7 = C)), V.bl (decide (C8 = C))])) = H2 at c2 p2 ⊢
    have s3 := (s2.trans a2).trans c2
    refine ⟨_, rfl, ⟨_, rfl, e, C, d, .ref C9, .ref C9, _, rfl, s3 _ _ h1, mm _ s3, .own C9, T.isC C hC, T.kit C hC C9 (by simp), ⟨_, rfl, e, C, d, .ref C10, .ref C10, _, rfl, s3 _ _ h1, mm _ s3, .own C10, T.isC C hC, T.kit C hC C10 (by simp), ⟨by show 2 ≤ sizeLine; decide, fun q3 n3 => ?_⟩⟩⟩⟩
    have a3 := same_new (o := .lst [V.bl (decide (C9 = C)), V.bl (decide (C10 = C))]) n3
    have b3 := upd_same (H := H2) (a := q3) (o := .lst [V.bl (decide (C9 = C)), V.bl (decide (C10 = C))])
    generalize upd H2 q3 (.lst [V.bl (decide (C9 = C)), V.bl (decide (C10 = C))]) = G3 at a3 b3 ⊢
    refine ⟨r2, q3, _, _, rfl, rfl, a3 _ _ p2, b3, (by show 11 ≤ sizeLine; decide), fun r3 m3 => ?_⟩
    have c3 := same_new (o := .lst ((([V.bl (decide (C0 = C)), V.bl (decide (C1 = C)), V.bl (decide (C2 = C))] ++ [V.bl (decide (C3 = C)), V.bl (decide (C4 = C)), V.bl (decide (C5 = C))]) ++ [V.bl (decide (C6 = C)), V.bl (decide (C7 = C)), V.bl (decide (C8 = C))]) ++ [V.bl (decide (C9 = C)), V.bl (decide (C10 = C))])) m3
    have p3 := upd_same (H := G3) (a := r3) (o := .lst ((([V.bl (decide (C0 = C)), V.bl (decide (C1 = C)), V.bl (decide (C2 = C))] ++ [V.bl (decide (C3 = C)), V.bl (decide (C4 = C)), V.bl (decide (C5 = C))]) ++ [V.bl (decide (C6 = C)), V.bl (decide (C7 = C)), V.bl (decide (C8 = C))]) ++ [V.bl (decide (C9 = C)), V.bl (decide (C10 = C))]))
    generalize upd G3 r3 (.lst ((([V.bl (decide (C0 = C)), V.bl (decide (C1 = C)), V.bl (decide (C2 = C))] ++ [V.bl (decide (C3 = C)), V.bl (decide (C4 = C)), V.bl (decide (C5 = C))]) ++ [V.bl (decide (C6 = C)), V.bl (decide (C7 = C)), V.bl (decide (C8 = C))]) ++ [V.bl (decide (C9 = C)), V.bl (decide (C10 = C))])) = H3 at c3 p3 ⊢
    have s4 := (s3.trans a3).trans c3
    refine ⟨_, rfl, ⟨_, rfl, e, C, d, .ref C11, .ref C11, _, rfl, s4 _ _ h1, mm _ s4, .own C11, T.isC C hC, T.kit C hC C11 (by simp), ⟨by show 1 ≤ sizeLine; decide, fun q4 n4 => ?_⟩⟩⟩
    have a4 := same_new (o := .lst [V.bl (decide (C11 = C))]) n4
    have b4 := upd_same (H := H3) (a := q4) (o := .lst [V.bl (decide (C11 = C))])
    generalize upd H3 q4 (.lst [V.bl (decide (C11 = C))]) = G4 at a4 b4 ⊢
    refine ⟨r3, q4, _, _, rfl, rfl, a4 _ _ p3, b4, (by show 12 ≤ sizeLine; decide), fun r4 m4 => ?_⟩
    have c4 := same_new (o := .lst (((([V.bl (decide (C0 = C)), V.bl (decide (C1 = C)), V.bl (decide (C2 = C))] ++ [V.bl (decide (C3 = C)), V.bl (decide (C4 = C)), V.bl (decide (C5 = C))]) ++ [V.bl (decide (C6 = C)), V.bl (decide (C7 = C)), V.bl (decide (C8 = C))]) ++ [V.bl (decide (C9 = C)), V.bl (decide (C10 = C))]) ++ [V.bl (decide (C11 = C))])) m4
    have p4 := upd_same (H := G4) (a := r4) (o := .lst (((([V.bl (decide (C0 = C)), V.bl (decide (C1 = C)), V.bl (decide (C2 = C))] ++ [V.bl (decide (C3 = C)), V.bl (decide (C4 = C)), V.bl (decide (C5 = C))]) ++ [V.bl (decide (C6 = C)), V.bl (decide (C7 = C)), V.bl (decide (C8 = C))]) ++ [V.bl (decide (C9 = C)), V.bl (decide (C10 = C))]) ++ [V.bl (decide (C11 = C))]))
    generalize upd G4 r4 (.lst (((([V.bl (decide (C0 = C)), V.bl (decide (C1 = C)), V.bl (decide (C2 = C))] ++ [V.bl (decide (C3 = C)), V.bl (decide (C4 = C)), V.bl (decide (C5 = C))]) ++ [V.bl (decide (C6 = C)), V.bl (decide (C7 = C)), V.bl (decide (C8 = C))]) ++ [V.bl (decide (C9 = C)), V.bl (decide (C10 = C))]) ++ [V.bl (decide (C11 = C))])) = H4 at c4 p4 ⊢
    have s5 := (s4.trans a4).trans c4
    exact k _ _ s5 p4
end
end Nm
namespace Nm
open PySem L2
/-- a row of the law's list: an error of the class c.1, the first c.2 of the fields, how many -/
def RowAt (H : Hp) (flds : List V) (c : Addr × Nat) (v : V) : Prop := ∃ (t e l : Addr), v = .ref t ∧ H t = some (.tup [.ref e, .ref l, .int (c.2 : Int)]) ∧ H l = some (.lst (flds.take c.2)) ∧ ExAt H e c.1
def spOne (cs : List (Addr × Nat)) : Sp := fun vs H Q _ => ∃ a b c : V, vs = [a, b, c] ∧ ∀ (p : Addr) (H' : Hp) (rows : List V), Same H H' → H' p = some (.lst rows) → Paired (RowAt H' [a, b, c]) cs rows → Q (.ref p) H'
theorem exAt_of {H : Hp} {a C d : Addr} {fs : List (Str × V)} (h1 : H a = some (exo a C (some d))) (h2 : H d = some (exd d fs)) : ExAt H a C := ExF.at ⟨d, h1, h2⟩
theorem exAt_of0 {H : Hp} {a C : Addr} (h1 : H a = some (exo a C none)) : ExAt H a C := ⟨none, h1, fun dd e => nomatch e⟩
section
variable {P : Program} {w : World} {K : PySem.W.Frag} {mg : Str → Option Value} {base : Heap} {C0 C1 C2 C3 C4 C5 C6 C7 C8 C9 C10 C11 J f0 f1 f2 f3 f4 f5 f6 f7 f8 f9 : Addr} {fd0 fd1 fd2 fd3 fd4 fd5 fd6 fd7 fd8 fd9 : FuncData}

abbrev sLoneofeach : Stmt := top 19
abbrev NLoneofeach : List Str := ["_law_a", "_law_b", "_law_c", "_law_text", "_law_program", "_law_value", "_law_name", "_law_none", "_law_taken", "_law_number", "_law_many", "_law_net", "_law_kept", "_law_rows"]
abbrev PLoneofeach : List Str := ["_law_a", "_law_b", "_law_c"]
theorem scLoneofeach : FnScope NLoneofeach PLoneofeach (defScope sLoneofeach) := ⟨rfl, rfl, rfl, by decide +kernel, rfl, by decide +kernel, by decide +kernel⟩

theorem ok_one {f : Addr} {fd : FuncData} (F : Fun K "_law_one_of_each" "_law_one_of_each" sLoneofeach f fd) (T : Txt K mg C0 C1 C2 C3 C4 C5 C6 C7 C8 C9 C10 C11 J f0 f1 f2 f3 f4 f5 f6 f7 f8 f9 fd0 fd1 fd2 fd3 fd4 fd5 fd6 fd7 fd8 fd9) : FnOk P w K mg base CX0 3 f fd ["_law_a", "_law_b", "_law_c"] (spOne [(C0, 2), (C1, 2), (C2, 2), (C3, 1), (C4, 1), (C5, 1), (C6, 2), (C7, 3), (C8, 1), (C9, 2), (C10, 0), (C11, 0)]) := by
  refine F.ok scLoneofeach (fun vs H Q E h => ?_) (fun cdv A outer s H vs Q E hr h => ?_)
  · obtain ⟨a, b, c, rfl, _⟩ := h
    rfl
  · obtain ⟨a, b, c, rfl, k⟩ := h
    have hr2 : Room 2 _ := hr.mono (by decide)
    refine ⟨_, (pss_cons (ps_asg (pe_tup (pa_cons (pe_excI T.X_BadText.oex T.X_BadText.ini T.X_BadText.tyI (ok_BadTextinit T.F_BadText T.X_BadText) hr2 T.B_BadText rfl T.X_BadText.gm (pa_cons (pv 0) (pa_cons (pv 1) pa_nil))) (pa_cons (pe_excI T.X_BadProgram.oex T.X_BadProgram.ini T.X_BadProgram.tyI (ok_BadPrograminit T.F_BadProgram T.X_BadProgram) hr2 T.B_BadProgram rfl T.X_BadProgram.gm (pa_cons (pv 0) (pa_cons (pv 1) pa_nil))) (pa_cons (pe_excI T.X_BadValue.oex T.X_BadValue.ini T.X_BadValue.tyI (ok_BadValueinit T.F_BadValue T.X_BadValue) hr2 T.B_BadValue rfl T.X_BadValue.gm (pa_cons (pv 0) (pa_cons (pv 1) pa_nil))) (pa_cons (pe_excI T.X_BadName.oex T.X_BadName.ini T.X_BadName.tyI (ok_BadNameinit T.F_BadName T.X_BadName) hr2 T.B_BadName rfl T.X_BadName.gm (pa_cons (pv 0) pa_nil)) pa_nil))))) (pg_tup (by rfl) (pgs_cons (pg_name (i := 3) scLoneofeach.nd rfl (Or.inl rfl)) (pgs_cons (pg_name (i := 4) scLoneofeach.nd rfl (Or.inl rfl)) (pgs_cons (pg_name (i := 5) scLoneofeach.nd rfl (Or.inl rfl)) (pgs_cons (pg_name (i := 6) scLoneofeach.nd rfl (Or.inl rfl)) pgs_nil))))))
      (pss_cons (ps_asg (pe_tup (pa_cons (pe_excI T.X_NoName.oex T.X_NoName.ini T.X_NoName.tyI (ok_NoNameinit T.F_NoName T.X_NoName) hr2 T.B_NoName rfl T.X_NoName.gm (pa_cons (pv 0) pa_nil)) (pa_cons (pe_excI T.X_TakenName.oex T.X_TakenName.ini T.X_TakenName.tyI (ok_TakenNameinit T.F_TakenName T.X_TakenName) hr2 T.B_TakenName rfl T.X_TakenName.gm (pa_cons (pv 0) pa_nil)) (pa_cons (pe_excI T.X_BadNumber.oex T.X_BadNumber.ini T.X_BadNumber.tyI (ok_BadNumberinit T.F_BadNumber T.X_BadNumber) hr2 T.B_BadNumber rfl T.X_BadNumber.gm (pa_cons (pv 0) (pa_cons (pv 1) pa_nil))) (pa_cons (pe_excI T.X_TooMany.oex T.X_TooMany.ini T.X_TooMany.tyI (ok_TooManyinit T.F_TooMany T.X_TooMany) hr2 T.B_TooMany rfl T.X_TooMany.gm (pa_cons (pv 0) (pa_cons (pv 1) (pa_cons (pv 2) pa_nil)))) pa_nil))))) (pg_tup (by rfl) (pgs_cons (pg_name (i := 7) scLoneofeach.nd rfl (Or.inl rfl)) (pgs_cons (pg_name (i := 8) scLoneofeach.nd rfl (Or.inl rfl)) (pgs_cons (pg_name (i := 9) scLoneofeach.nd rfl (Or.inl rfl)) (pgs_cons (pg_name (i := 10) scLoneofeach.nd rfl (Or.inl rfl)) pgs_nil))))))
      (pss_cons (ps_par (i := 11) (j := 12) rfl scLoneofeach.nd rfl rfl (by decide) rfl rfl (pa_cons (pe_excI T.X_BadNet.oex T.X_BadNet.ini T.X_BadNet.tyI (ok_BadNetinit T.F_BadNet T.X_BadNet) hr2 T.B_BadNet rfl T.X_BadNet.gm (pa_cons (pv 0) pa_nil)) (pa_cons (pe_excI T.X_NotKept.oex T.X_NotKept.ini T.X_NotKept.tyI (ok_NotKeptinit T.F_NotKept T.X_NotKept) hr2 T.B_NotKept rfl T.X_NotKept.gm (pa_cons (pv 0) (pa_cons (pv 1) pa_nil))) pa_nil)) (by rfl))
      (pss_cons (ps_set (i := 13) scLoneofeach.nd rfl (Or.inl rfl) (pe_lst (pa_cons (pe_tup (pa_cons (pv 3) (pa_cons (pe_lst (pa_cons (pe_xat (pv 3)) (pa_cons (pe_xat (pv 3)) pa_nil))) (pa_cons pe_int pa_nil)))) (pa_cons (pe_tup (pa_cons (pv 4) (pa_cons (pe_lst (pa_cons (pe_xat (pv 4)) (pa_cons (pe_xat (pv 4)) pa_nil))) (pa_cons pe_int pa_nil)))) pa_nil))))
      (pss_cons (ps_set (i := 13) scLoneofeach.nd rfl (Or.inl rfl) (pe_op op_cat (pv 13) (pe_lst (pa_cons (pe_tup (pa_cons (pv 5) (pa_cons (pe_lst (pa_cons (pe_xat (pv 5)) (pa_cons (pe_xat (pv 5)) pa_nil))) (pa_cons pe_int pa_nil)))) (pa_cons (pe_tup (pa_cons (pv 6) (pa_cons (pe_lst (pa_cons (pe_xat (pv 6)) pa_nil)) (pa_cons pe_int pa_nil)))) (pa_cons (pe_tup (pa_cons (pv 7) (pa_cons (pe_lst (pa_cons (pe_xat (pv 7)) pa_nil)) (pa_cons pe_int pa_nil)))) pa_nil))))))
      (pss_cons (ps_set (i := 13) scLoneofeach.nd rfl (Or.inl rfl) (pe_op op_cat (pv 13) (pe_lst (pa_cons (pe_tup (pa_cons (pv 8) (pa_cons (pe_lst (pa_cons (pe_xat (pv 8)) pa_nil)) (pa_cons pe_int pa_nil)))) (pa_cons (pe_tup (pa_cons (pv 9) (pa_cons (pe_lst (pa_cons (pe_xat (pv 9)) (pa_cons (pe_xat (pv 9)) pa_nil))) (pa_cons pe_int pa_nil)))) pa_nil)))))
      (pss_cons (ps_set (i := 13) scLoneofeach.nd rfl (Or.inl rfl) (pe_op op_cat (pv 13) (pe_lst (pa_cons (pe_tup (pa_cons (pv 10) (pa_cons (pe_lst (pa_cons (pe_xat (pv 10)) (pa_cons (pe_xat (pv 10)) (pa_cons (pe_xat (pv 10)) pa_nil)))) (pa_cons pe_int pa_nil)))) (pa_cons (pe_tup (pa_cons (pv 11) (pa_cons (pe_lst (pa_cons (pe_xat (pv 11)) pa_nil)) (pa_cons pe_int pa_nil)))) pa_nil)))))
      (pss_cons (ps_set (i := 13) scLoneofeach.nd rfl (Or.inl rfl) (pe_op op_cat (pv 13) (pe_lst (pa_cons (pe_tup (pa_cons (pv 12) (pa_cons (pe_lst (pa_cons (pe_xat (pv 12)) (pa_cons (pe_xat (pv 12)) pa_nil))) (pa_cons pe_int pa_nil)))) pa_nil))))
      (pss_one (ps_ret (pe_op op_cat (pv 13) (pe_lst (pa_cons (pe_tup (pa_cons (pe_exc0 PySem.F.excBase_ValueError T.X_NothingToUndo.ex T.X_NothingToUndo.gm T.X_NothingToUndo.kp rfl) (pa_cons (pe_lst pa_nil) (pa_cons pe_int pa_nil)))) (pa_cons (pe_tup (pa_cons (pe_exc0 PySem.F.excBase_ValueError T.X_NothingToRedo.ex T.X_NothingToRedo.gm T.X_NothingToRedo.kp rfl) (pa_cons (pe_lst pa_nil) (pa_cons pe_int pa_nil)))) pa_nil)))))))))))))), ?_⟩
    have S := Same.refl H
    have L : Has H [] := Has.nil
    refine ⟨a, (by kernel_rfl), b, (by kernel_rfl), (by show 2 ≤ 1000; decide), fun x0 an => ⟨x0, _, rfl, rfl, upd_same, fun d0 H1 ea ed nd oth => ⟨rfl, ?_⟩⟩⟩
    have ss := (made an ea ed nd oth).1
    replace L := ((L.same ss).cons ed).cons ea
    replace S := S.trans ss
    clear ss an ea ed nd oth
    refine ⟨a, (by kernel_rfl), b, (by kernel_rfl), (by show 2 ≤ 1000; decide), fun x1 an => ⟨x1, _, rfl, rfl, upd_same, fun d1 H2 ea ed nd oth => ⟨rfl, ?_⟩⟩⟩
    have ss := (made an ea ed nd oth).1
    replace L := ((L.same ss).cons ed).cons ea
    replace S := S.trans ss
    clear ss an ea ed nd oth
    refine ⟨a, (by kernel_rfl), b, (by kernel_rfl), (by show 2 ≤ 1000; decide), fun x2 an => ⟨x2, _, rfl, rfl, upd_same, fun d2 H3 ea ed nd oth => ⟨rfl, ?_⟩⟩⟩
    have ss := (made an ea ed nd oth).1
    replace L := ((L.same ss).cons ed).cons ea
    replace S := S.trans ss
    clear ss an ea ed nd oth
    refine ⟨a, (by kernel_rfl), (by show 1 ≤ 1000; decide), fun x3 an => ⟨x3, _, rfl, rfl, upd_same, fun d3 H4 ea ed nd oth => ⟨rfl, ?_⟩⟩⟩
    have ss := (made an ea ed nd oth).1
    replace L := ((L.same ss).cons ed).cons ea
    replace S := S.trans ss
    clear ss an ea ed nd oth
    refine ⟨by show 4 ≤ sizeLine; decide, fun u1 un => ?_⟩
    have ss := same_new (o := .tup [.ref x0, .ref x1, .ref x2, .ref x3]) un
    replace L := L.new (.tup [.ref x0, .ref x1, .ref x2, .ref x3]) un
    generalize upd H4 u1 (.tup [.ref x0, .ref x1, .ref x2, .ref x3]) = H5 at ss L ⊢
    replace S := S.trans ss
    clear ss un
    refine ⟨u1, _, rfl, SqT.of (L.get 0 rfl), rfl, _, _, rfl, _, _, rfl, _, _, rfl, _, _, rfl, rfl, ?_⟩
    refine ⟨a, (by kernel_rfl), (by show 1 ≤ 1000; decide), fun x4 an => ⟨x4, _, rfl, rfl, upd_same, fun d4 H6 ea ed nd oth => ⟨rfl, ?_⟩⟩⟩
    have ss := (made an ea ed nd oth).1
    replace L := ((L.same ss).cons ed).cons ea
    replace S := S.trans ss
    clear ss an ea ed nd oth
    refine ⟨a, (by kernel_rfl), (by show 1 ≤ 1000; decide), fun x5 an => ⟨x5, _, rfl, rfl, upd_same, fun d5 H7 ea ed nd oth => ⟨rfl, ?_⟩⟩⟩
    have ss := (made an ea ed nd oth).1
    replace L := ((L.same ss).cons ed).cons ea
    replace S := S.trans ss
    clear ss an ea ed nd oth
    refine ⟨a, (by kernel_rfl), b, (by kernel_rfl), (by show 2 ≤ 1000; decide), fun x6 an => ⟨x6, _, rfl, rfl, upd_same, fun d6 H8 ea ed nd oth => ⟨rfl, ?_⟩⟩⟩
    have ss := (made an ea ed nd oth).1
    replace L := ((L.same ss).cons ed).cons ea
    replace S := S.trans ss
    clear ss an ea ed nd oth
    refine ⟨a, (by kernel_rfl), b, (by kernel_rfl), c, (by kernel_rfl), (by show 3 ≤ 1000; decide), fun x7 an => ⟨x7, _, rfl, rfl, upd_same, fun d7 H9 ea ed nd oth => ⟨rfl, ?_⟩⟩⟩
    have ss := (made an ea ed nd oth).1
    replace L := ((L.same ss).cons ed).cons ea
    replace S := S.trans ss
    clear ss an ea ed nd oth
    refine ⟨by show 4 ≤ sizeLine; decide, fun u2 un => ?_⟩
    have ss := same_new (o := .tup [.ref x4, .ref x5, .ref x6, .ref x7]) un
    replace L := L.new (.tup [.ref x4, .ref x5, .ref x6, .ref x7]) un
    generalize upd H9 u2 (.tup [.ref x4, .ref x5, .ref x6, .ref x7]) = H10 at ss L ⊢
    replace S := S.trans ss
    clear ss un
    refine ⟨u2, _, rfl, SqT.of (L.get 0 rfl), rfl, _, _, rfl, _, _, rfl, _, _, rfl, _, _, rfl, rfl, ?_⟩
    refine ⟨a, (by kernel_rfl), (by show 1 ≤ 1000; decide), fun x8 an => ⟨x8, _, rfl, rfl, upd_same, fun d8 H11 ea ed nd oth => ⟨rfl, ?_⟩⟩⟩
    have ss := (made an ea ed nd oth).1
    replace L := ((L.same ss).cons ed).cons ea
    replace S := S.trans ss
    clear ss an ea ed nd oth
    refine ⟨a, (by kernel_rfl), b, (by kernel_rfl), (by show 2 ≤ 1000; decide), fun x9 an => ⟨x9, _, rfl, rfl, upd_same, fun d9 H12 ea ed nd oth => ⟨rfl, ?_⟩⟩⟩
    have ss := (made an ea ed nd oth).1
    replace L := ((L.same ss).cons ed).cons ea
    replace S := S.trans ss
    clear ss an ea ed nd oth
    refine ⟨_, _, rfl, ?_⟩
    refine ⟨.ref x0, (by kernel_rfl), ?_⟩
    refine ⟨.ref x0, (by kernel_rfl), x0, d0, C0, _, a, rfl, L.get 20 rfl, L.get 21 rfl, (by kernel_rfl), T.X_BadText.xf, T.X_BadText.no _ (by simp), ?_⟩
    refine ⟨.ref x0, (by kernel_rfl), x0, d0, C0, _, b, rfl, L.get 20 rfl, L.get 21 rfl, (by kernel_rfl), T.X_BadText.xf, T.X_BadText.no _ (by simp), ?_⟩
    refine ⟨by show 2 ≤ sizeLine; decide, fun l0 ln => ?_⟩
    have ss := same_new (o := .lst [a, b]) ln
    replace L := L.new (.lst [a, b]) ln
    generalize upd H12 l0 (.lst [a, b]) = H13 at ss L ⊢
    replace S := S.trans ss
    clear ss ln
    refine ⟨by show 3 ≤ sizeLine; decide, fun t0 tn => ?_⟩
    have ss := same_new (o := .tup [.ref x0, .ref l0, .int 2]) tn
    replace L := L.new (.tup [.ref x0, .ref l0, .int 2]) tn
    generalize upd H13 t0 (.tup [.ref x0, .ref l0, .int 2]) = H14 at ss L ⊢
    replace S := S.trans ss
    clear ss tn
    refine ⟨.ref x1, (by kernel_rfl), ?_⟩
    refine ⟨.ref x1, (by kernel_rfl), x1, d1, C1, _, a, rfl, L.get 20 rfl, L.get 21 rfl, (by kernel_rfl), T.X_BadProgram.xf, T.X_BadProgram.no _ (by simp), ?_⟩
    refine ⟨.ref x1, (by kernel_rfl), x1, d1, C1, _, b, rfl, L.get 20 rfl, L.get 21 rfl, (by kernel_rfl), T.X_BadProgram.xf, T.X_BadProgram.no _ (by simp), ?_⟩
    refine ⟨by show 2 ≤ sizeLine; decide, fun l1 ln => ?_⟩
    have ss := same_new (o := .lst [a, b]) ln
    replace L := L.new (.lst [a, b]) ln
    generalize upd H14 l1 (.lst [a, b]) = H15 at ss L ⊢
    replace S := S.trans ss
    clear ss ln
    refine ⟨by show 3 ≤ sizeLine; decide, fun t1 tn => ?_⟩
    have ss := same_new (o := .tup [.ref x1, .ref l1, .int 2]) tn
    replace L := L.new (.tup [.ref x1, .ref l1, .int 2]) tn
    generalize upd H15 t1 (.tup [.ref x1, .ref l1, .int 2]) = H16 at ss L ⊢
    replace S := S.trans ss
    clear ss tn
    refine ⟨by show 2 ≤ sizeLine; decide, fun q0 qn => ?_⟩
    have ss := same_new (o := .lst [.ref t0, .ref t1]) qn
    replace L := L.new (.lst [.ref t0, .ref t1]) qn
    generalize upd H16 q0 (.lst [.ref t0, .ref t1]) = H17 at ss L ⊢
    replace S := S.trans ss
    clear ss qn
    refine ⟨.ref q0, (by kernel_rfl), ?_⟩
    refine ⟨.ref x2, (by kernel_rfl), ?_⟩
    refine ⟨.ref x2, (by kernel_rfl), x2, d2, C2, _, a, rfl, L.get 21 rfl, L.get 22 rfl, (by kernel_rfl), T.X_BadValue.xf, T.X_BadValue.no _ (by simp), ?_⟩
    refine ⟨.ref x2, (by kernel_rfl), x2, d2, C2, _, b, rfl, L.get 21 rfl, L.get 22 rfl, (by kernel_rfl), T.X_BadValue.xf, T.X_BadValue.no _ (by simp), ?_⟩
    refine ⟨by show 2 ≤ sizeLine; decide, fun l2 ln => ?_⟩
    have ss := same_new (o := .lst [a, b]) ln
    replace L := L.new (.lst [a, b]) ln
    generalize upd H17 l2 (.lst [a, b]) = H18 at ss L ⊢
    replace S := S.trans ss
    clear ss ln
    refine ⟨by show 3 ≤ sizeLine; decide, fun t2 tn => ?_⟩
    have ss := same_new (o := .tup [.ref x2, .ref l2, .int 2]) tn
    replace L := L.new (.tup [.ref x2, .ref l2, .int 2]) tn
    generalize upd H18 t2 (.tup [.ref x2, .ref l2, .int 2]) = H19 at ss L ⊢
    replace S := S.trans ss
    clear ss tn
    refine ⟨.ref x3, (by kernel_rfl), ?_⟩
    refine ⟨.ref x3, (by kernel_rfl), x3, d3, C3, _, a, rfl, L.get 21 rfl, L.get 22 rfl, (by kernel_rfl), T.X_BadName.xf, T.X_BadName.no _ (by simp), ?_⟩
    refine ⟨by show 1 ≤ sizeLine; decide, fun l3 ln => ?_⟩
    have ss := same_new (o := .lst [a]) ln
    replace L := L.new (.lst [a]) ln
    generalize upd H19 l3 (.lst [a]) = H20 at ss L ⊢
    replace S := S.trans ss
    clear ss ln
    refine ⟨by show 3 ≤ sizeLine; decide, fun t3 tn => ?_⟩
    have ss := same_new (o := .tup [.ref x3, .ref l3, .int 1]) tn
    replace L := L.new (.tup [.ref x3, .ref l3, .int 1]) tn
    generalize upd H20 t3 (.tup [.ref x3, .ref l3, .int 1]) = H21 at ss L ⊢
    replace S := S.trans ss
    clear ss tn
    refine ⟨.ref x4, (by kernel_rfl), ?_⟩
    refine ⟨.ref x4, (by kernel_rfl), x4, d4, C4, _, a, rfl, L.get 20 rfl, L.get 21 rfl, (by kernel_rfl), T.X_NoName.xf, T.X_NoName.no _ (by simp), ?_⟩
    refine ⟨by show 1 ≤ sizeLine; decide, fun l4 ln => ?_⟩
    have ss := same_new (o := .lst [a]) ln
    replace L := L.new (.lst [a]) ln
    generalize upd H21 l4 (.lst [a]) = H22 at ss L ⊢
    replace S := S.trans ss
    clear ss ln
    refine ⟨by show 3 ≤ sizeLine; decide, fun t4 tn => ?_⟩
    have ss := same_new (o := .tup [.ref x4, .ref l4, .int 1]) tn
    replace L := L.new (.tup [.ref x4, .ref l4, .int 1]) tn
    generalize upd H22 t4 (.tup [.ref x4, .ref l4, .int 1]) = H23 at ss L ⊢
    replace S := S.trans ss
    clear ss tn
    refine ⟨by show 3 ≤ sizeLine; decide, fun q1 qn => ?_⟩
    have ss := same_new (o := .lst [.ref t2, .ref t3, .ref t4]) qn
    replace L := L.new (.lst [.ref t2, .ref t3, .ref t4]) qn
    generalize upd H23 q1 (.lst [.ref t2, .ref t3, .ref t4]) = H24 at ss L ⊢
    replace S := S.trans ss
    clear ss qn
    refine ⟨q0, q1, _, _, rfl, rfl, L.get 7 rfl, L.get 0 rfl, (by show 5 ≤ sizeLine; decide), fun r1 rn => ?_⟩
    have ss := same_new (o := .lst (([.ref t0, .ref t1] : List V) ++ [.ref t2, .ref t3, .ref t4])) rn
    replace L := L.new (.lst (([.ref t0, .ref t1] : List V) ++ [.ref t2, .ref t3, .ref t4])) rn
    generalize upd H24 r1 (.lst (([.ref t0, .ref t1] : List V) ++ [.ref t2, .ref t3, .ref t4])) = H25 at ss L ⊢
    replace S := S.trans ss
    clear ss rn
    refine ⟨.ref r1, (by kernel_rfl), ?_⟩
    refine ⟨.ref x5, (by kernel_rfl), ?_⟩
    refine ⟨.ref x5, (by kernel_rfl), x5, d5, C5, _, a, rfl, L.get 22 rfl, L.get 23 rfl, (by kernel_rfl), T.X_TakenName.xf, T.X_TakenName.no _ (by simp), ?_⟩
    refine ⟨by show 1 ≤ sizeLine; decide, fun l5 ln => ?_⟩
    have ss := same_new (o := .lst [a]) ln
    replace L := L.new (.lst [a]) ln
    generalize upd H25 l5 (.lst [a]) = H26 at ss L ⊢
    replace S := S.trans ss
    clear ss ln
    refine ⟨by show 3 ≤ sizeLine; decide, fun t5 tn => ?_⟩
    have ss := same_new (o := .tup [.ref x5, .ref l5, .int 1]) tn
    replace L := L.new (.tup [.ref x5, .ref l5, .int 1]) tn
    generalize upd H26 t5 (.tup [.ref x5, .ref l5, .int 1]) = H27 at ss L ⊢
    replace S := S.trans ss
    clear ss tn
    refine ⟨.ref x6, (by kernel_rfl), ?_⟩
    refine ⟨.ref x6, (by kernel_rfl), x6, d6, C6, _, a, rfl, L.get 22 rfl, L.get 23 rfl, (by kernel_rfl), T.X_BadNumber.xf, T.X_BadNumber.no _ (by simp), ?_⟩
    refine ⟨.ref x6, (by kernel_rfl), x6, d6, C6, _, b, rfl, L.get 22 rfl, L.get 23 rfl, (by kernel_rfl), T.X_BadNumber.xf, T.X_BadNumber.no _ (by simp), ?_⟩
    refine ⟨by show 2 ≤ sizeLine; decide, fun l6 ln => ?_⟩
    have ss := same_new (o := .lst [a, b]) ln
    replace L := L.new (.lst [a, b]) ln
    generalize upd H27 l6 (.lst [a, b]) = H28 at ss L ⊢
    replace S := S.trans ss
    clear ss ln
    refine ⟨by show 3 ≤ sizeLine; decide, fun t6 tn => ?_⟩
    have ss := same_new (o := .tup [.ref x6, .ref l6, .int 2]) tn
    replace L := L.new (.tup [.ref x6, .ref l6, .int 2]) tn
    generalize upd H28 t6 (.tup [.ref x6, .ref l6, .int 2]) = H29 at ss L ⊢
    replace S := S.trans ss
    clear ss tn
    refine ⟨by show 2 ≤ sizeLine; decide, fun q2 qn => ?_⟩
    have ss := same_new (o := .lst [.ref t5, .ref t6]) qn
    replace L := L.new (.lst [.ref t5, .ref t6]) qn
    generalize upd H29 q2 (.lst [.ref t5, .ref t6]) = H30 at ss L ⊢
    replace S := S.trans ss
    clear ss qn
    refine ⟨r1, q2, _, _, rfl, rfl, L.get 5 rfl, L.get 0 rfl, (by show 7 ≤ sizeLine; decide), fun r2 rn => ?_⟩
    have ss := same_new (o := .lst ((([.ref t0, .ref t1] : List V) ++ [.ref t2, .ref t3, .ref t4]) ++ [.ref t5, .ref t6])) rn
    replace L := L.new (.lst ((([.ref t0, .ref t1] : List V) ++ [.ref t2, .ref t3, .ref t4]) ++ [.ref t5, .ref t6])) rn
    generalize upd H30 r2 (.lst ((([.ref t0, .ref t1] : List V) ++ [.ref t2, .ref t3, .ref t4]) ++ [.ref t5, .ref t6])) = H31 at ss L ⊢
    replace S := S.trans ss
    clear ss rn
    refine ⟨.ref r2, (by kernel_rfl), ?_⟩
    refine ⟨.ref x7, (by kernel_rfl), ?_⟩
    refine ⟨.ref x7, (by kernel_rfl), x7, d7, C7, _, a, rfl, L.get 24 rfl, L.get 25 rfl, (by kernel_rfl), T.X_TooMany.xf, T.X_TooMany.no _ (by simp), ?_⟩
    refine ⟨.ref x7, (by kernel_rfl), x7, d7, C7, _, b, rfl, L.get 24 rfl, L.get 25 rfl, (by kernel_rfl), T.X_TooMany.xf, T.X_TooMany.no _ (by simp), ?_⟩
    refine ⟨.ref x7, (by kernel_rfl), x7, d7, C7, _, c, rfl, L.get 24 rfl, L.get 25 rfl, (by kernel_rfl), T.X_TooMany.xf, T.X_TooMany.no _ (by simp), ?_⟩
    refine ⟨by show 3 ≤ sizeLine; decide, fun l7 ln => ?_⟩
    have ss := same_new (o := .lst [a, b, c]) ln
    replace L := L.new (.lst [a, b, c]) ln
    generalize upd H31 l7 (.lst [a, b, c]) = H32 at ss L ⊢
    replace S := S.trans ss
    clear ss ln
    refine ⟨by show 3 ≤ sizeLine; decide, fun t7 tn => ?_⟩
    have ss := same_new (o := .tup [.ref x7, .ref l7, .int 3]) tn
    replace L := L.new (.tup [.ref x7, .ref l7, .int 3]) tn
    generalize upd H32 t7 (.tup [.ref x7, .ref l7, .int 3]) = H33 at ss L ⊢
    replace S := S.trans ss
    clear ss tn
    refine ⟨.ref x8, (by kernel_rfl), ?_⟩
    refine ⟨.ref x8, (by kernel_rfl), x8, d8, C8, _, a, rfl, L.get 23 rfl, L.get 24 rfl, (by kernel_rfl), T.X_BadNet.xf, T.X_BadNet.no _ (by simp), ?_⟩
    refine ⟨by show 1 ≤ sizeLine; decide, fun l8 ln => ?_⟩
    have ss := same_new (o := .lst [a]) ln
    replace L := L.new (.lst [a]) ln
    generalize upd H33 l8 (.lst [a]) = H34 at ss L ⊢
    replace S := S.trans ss
    clear ss ln
    refine ⟨by show 3 ≤ sizeLine; decide, fun t8 tn => ?_⟩
    have ss := same_new (o := .tup [.ref x8, .ref l8, .int 1]) tn
    replace L := L.new (.tup [.ref x8, .ref l8, .int 1]) tn
    generalize upd H34 t8 (.tup [.ref x8, .ref l8, .int 1]) = H35 at ss L ⊢
    replace S := S.trans ss
    clear ss tn
    refine ⟨by show 2 ≤ sizeLine; decide, fun q3 qn => ?_⟩
    have ss := same_new (o := .lst [.ref t7, .ref t8]) qn
    replace L := L.new (.lst [.ref t7, .ref t8]) qn
    generalize upd H35 q3 (.lst [.ref t7, .ref t8]) = H36 at ss L ⊢
    replace S := S.trans ss
    clear ss qn
    refine ⟨r2, q3, _, _, rfl, rfl, L.get 5 rfl, L.get 0 rfl, (by show 9 ≤ sizeLine; decide), fun r3 rn => ?_⟩
    have ss := same_new (o := .lst (((([.ref t0, .ref t1] : List V) ++ [.ref t2, .ref t3, .ref t4]) ++ [.ref t5, .ref t6]) ++ [.ref t7, .ref t8])) rn
    replace L := L.new (.lst (((([.ref t0, .ref t1] : List V) ++ [.ref t2, .ref t3, .ref t4]) ++ [.ref t5, .ref t6]) ++ [.ref t7, .ref t8])) rn
    generalize upd H36 r3 (.lst (((([.ref t0, .ref t1] : List V) ++ [.ref t2, .ref t3, .ref t4]) ++ [.ref t5, .ref t6]) ++ [.ref t7, .ref t8])) = H37 at ss L ⊢
    replace S := S.trans ss
    clear ss rn
    refine ⟨.ref r3, (by kernel_rfl), ?_⟩
    refine ⟨.ref x9, (by kernel_rfl), ?_⟩
    refine ⟨.ref x9, (by kernel_rfl), x9, d9, C9, _, a, rfl, L.get 25 rfl, L.get 26 rfl, (by kernel_rfl), T.X_NotKept.xf, T.X_NotKept.no _ (by simp), ?_⟩
    refine ⟨.ref x9, (by kernel_rfl), x9, d9, C9, _, b, rfl, L.get 25 rfl, L.get 26 rfl, (by kernel_rfl), T.X_NotKept.xf, T.X_NotKept.no _ (by simp), ?_⟩
    refine ⟨by show 2 ≤ sizeLine; decide, fun l9 ln => ?_⟩
    have ss := same_new (o := .lst [a, b]) ln
    replace L := L.new (.lst [a, b]) ln
    generalize upd H37 l9 (.lst [a, b]) = H38 at ss L ⊢
    replace S := S.trans ss
    clear ss ln
    refine ⟨by show 3 ≤ sizeLine; decide, fun t9 tn => ?_⟩
    have ss := same_new (o := .tup [.ref x9, .ref l9, .int 2]) tn
    replace L := L.new (.tup [.ref x9, .ref l9, .int 2]) tn
    generalize upd H38 t9 (.tup [.ref x9, .ref l9, .int 2]) = H39 at ss L ⊢
    replace S := S.trans ss
    clear ss tn
    refine ⟨by show 1 ≤ sizeLine; decide, fun q4 qn => ?_⟩
    have ss := same_new (o := .lst [.ref t9]) qn
    replace L := L.new (.lst [.ref t9]) qn
    generalize upd H39 q4 (.lst [.ref t9]) = H40 at ss L ⊢
    replace S := S.trans ss
    clear ss qn
    refine ⟨r3, q4, _, _, rfl, rfl, L.get 3 rfl, L.get 0 rfl, (by show 10 ≤ sizeLine; decide), fun r4 rn => ?_⟩
    have ss := same_new (o := .lst ((((([.ref t0, .ref t1] : List V) ++ [.ref t2, .ref t3, .ref t4]) ++ [.ref t5, .ref t6]) ++ [.ref t7, .ref t8]) ++ [.ref t9])) rn
    replace L := L.new (.lst ((((([.ref t0, .ref t1] : List V) ++ [.ref t2, .ref t3, .ref t4]) ++ [.ref t5, .ref t6]) ++ [.ref t7, .ref t8]) ++ [.ref t9])) rn
    generalize upd H40 r4 (.lst ((((([.ref t0, .ref t1] : List V) ++ [.ref t2, .ref t3, .ref t4]) ++ [.ref t5, .ref t6]) ++ [.ref t7, .ref t8]) ++ [.ref t9])) = H41 at ss L ⊢
    replace S := S.trans ss
    clear ss rn
    refine ⟨.ref r4, (by kernel_rfl), ?_⟩
    refine fun x10 xn => ?_
    have ss := same_new (o := exo x10 C10 none) xn
    replace L := L.new (exo x10 C10 none) xn
    generalize upd H41 x10 (exo x10 C10 none) = H42 at ss L ⊢
    replace S := S.trans ss
    clear ss xn
    refine ⟨by show 0 ≤ sizeLine; decide, fun l10 ln => ?_⟩
    have ss := same_new (o := .lst []) ln
    replace L := L.new (.lst []) ln
    generalize upd H42 l10 (.lst []) = H43 at ss L ⊢
    replace S := S.trans ss
    clear ss ln
    refine ⟨by show 3 ≤ sizeLine; decide, fun t10 tn => ?_⟩
    have ss := same_new (o := .tup [.ref x10, .ref l10, .int 0]) tn
    replace L := L.new (.tup [.ref x10, .ref l10, .int 0]) tn
    generalize upd H43 t10 (.tup [.ref x10, .ref l10, .int 0]) = H44 at ss L ⊢
    replace S := S.trans ss
    clear ss tn
    refine fun x11 xn => ?_
    have ss := same_new (o := exo x11 C11 none) xn
    replace L := L.new (exo x11 C11 none) xn
    generalize upd H44 x11 (exo x11 C11 none) = H45 at ss L ⊢
    replace S := S.trans ss
    clear ss xn
    refine ⟨by show 0 ≤ sizeLine; decide, fun l11 ln => ?_⟩
    have ss := same_new (o := .lst []) ln
    replace L := L.new (.lst []) ln
    generalize upd H45 l11 (.lst []) = H46 at ss L ⊢
    replace S := S.trans ss
    clear ss ln
    refine ⟨by show 3 ≤ sizeLine; decide, fun t11 tn => ?_⟩
    have ss := same_new (o := .tup [.ref x11, .ref l11, .int 0]) tn
    replace L := L.new (.tup [.ref x11, .ref l11, .int 0]) tn
    generalize upd H46 t11 (.tup [.ref x11, .ref l11, .int 0]) = H47 at ss L ⊢
    replace S := S.trans ss
    clear ss tn
    refine ⟨by show 2 ≤ sizeLine; decide, fun q5 qn => ?_⟩
    have ss := same_new (o := .lst [.ref t10, .ref t11]) qn
    replace L := L.new (.lst [.ref t10, .ref t11]) qn
    generalize upd H47 q5 (.lst [.ref t10, .ref t11]) = H48 at ss L ⊢
    replace S := S.trans ss
    clear ss qn
    refine ⟨r4, q5, _, _, rfl, rfl, L.get 7 rfl, L.get 0 rfl, (by show 12 ≤ sizeLine; decide), fun r5 rn => ?_⟩
    have ss := same_new (o := .lst (((((([.ref t0, .ref t1] : List V) ++ [.ref t2, .ref t3, .ref t4]) ++ [.ref t5, .ref t6]) ++ [.ref t7, .ref t8]) ++ [.ref t9]) ++ [.ref t10, .ref t11])) rn
    replace L := L.new (.lst (((((([.ref t0, .ref t1] : List V) ++ [.ref t2, .ref t3, .ref t4]) ++ [.ref t5, .ref t6]) ++ [.ref t7, .ref t8]) ++ [.ref t9]) ++ [.ref t10, .ref t11])) rn
    generalize upd H48 r5 (.lst (((((([.ref t0, .ref t1] : List V) ++ [.ref t2, .ref t3, .ref t4]) ++ [.ref t5, .ref t6]) ++ [.ref t7, .ref t8]) ++ [.ref t9]) ++ [.ref t10, .ref t11])) = H49 at ss L ⊢
    replace S := S.trans ss
    clear ss rn
    have w0 : RowAt H49 [a, b, c] (C0, 2) (.ref t0) := ⟨t0, x0, l0, rfl, L.get 35 rfl, L.get 36 rfl, exAt_of (L.get 57 rfl) (L.get 58 rfl)⟩
    have w1 : RowAt H49 [a, b, c] (C1, 2) (.ref t1) := ⟨t1, x1, l1, rfl, L.get 33 rfl, L.get 34 rfl, exAt_of (L.get 55 rfl) (L.get 56 rfl)⟩
    have w2 : RowAt H49 [a, b, c] (C2, 2) (.ref t2) := ⟨t2, x2, l2, rfl, L.get 30 rfl, L.get 31 rfl, exAt_of (L.get 53 rfl) (L.get 54 rfl)⟩
    have w3 : RowAt H49 [a, b, c] (C3, 1) (.ref t3) := ⟨t3, x3, l3, rfl, L.get 28 rfl, L.get 29 rfl, exAt_of (L.get 51 rfl) (L.get 52 rfl)⟩
    have w4 : RowAt H49 [a, b, c] (C4, 1) (.ref t4) := ⟨t4, x4, l4, rfl, L.get 26 rfl, L.get 27 rfl, exAt_of (L.get 48 rfl) (L.get 49 rfl)⟩
    have w5 : RowAt H49 [a, b, c] (C5, 1) (.ref t5) := ⟨t5, x5, l5, rfl, L.get 22 rfl, L.get 23 rfl, exAt_of (L.get 46 rfl) (L.get 47 rfl)⟩
    have w6 : RowAt H49 [a, b, c] (C6, 2) (.ref t6) := ⟨t6, x6, l6, rfl, L.get 20 rfl, L.get 21 rfl, exAt_of (L.get 44 rfl) (L.get 45 rfl)⟩
    have w7 : RowAt H49 [a, b, c] (C7, 3) (.ref t7) := ⟨t7, x7, l7, rfl, L.get 16 rfl, L.get 17 rfl, exAt_of (L.get 42 rfl) (L.get 43 rfl)⟩
    have w8 : RowAt H49 [a, b, c] (C8, 1) (.ref t8) := ⟨t8, x8, l8, rfl, L.get 14 rfl, L.get 15 rfl, exAt_of (L.get 39 rfl) (L.get 40 rfl)⟩
    have w9 : RowAt H49 [a, b, c] (C9, 2) (.ref t9) := ⟨t9, x9, l9, rfl, L.get 10 rfl, L.get 11 rfl, exAt_of (L.get 37 rfl) (L.get 38 rfl)⟩
    have w10 : RowAt H49 [a, b, c] (C10, 0) (.ref t10) := ⟨t10, x10, l10, rfl, L.get 5 rfl, L.get 6 rfl, exAt_of0 (L.get 7 rfl)⟩
    have w11 : RowAt H49 [a, b, c] (C11, 0) (.ref t11) := ⟨t11, x11, l11, rfl, L.get 2 rfl, L.get 3 rfl, exAt_of0 (L.get 4 rfl)⟩
    have wr : H49 r5 = some (.lst [.ref t0, .ref t1, .ref t2, .ref t3, .ref t4, .ref t5, .ref t6, .ref t7, .ref t8, .ref t9, .ref t10, .ref t11]) := L.get 0 rfl
    exact k r5 _ _ S wr (.cons w0 (.cons w1 (.cons w2 (.cons w3 (.cons w4 (.cons w5 (.cons w6 (.cons w7 (.cons w8 (.cons w9 (.cons w10 (.cons w11 (.nil)))))))))))))
end
end Nm
namespace Nm
open PySem L2
/-! ### the law -/
/-- the menu of fields, and what each is as data -/
def M (t0 t1 : Addr) : List V := [.non, .int 0, .int (-7), .int (10 ^ (30 : Int).toNat), .str "", .str "a b", .ref t0, .ref t1, .bl true, .str "cells"]
def D (t0 : Addr) : V → PyData
  | .non => .none
  | .int i => .int i
  | .str x => .str x
  | .bl b => .bool b
  | .ref a => if a = t0 then .tuple [] else .tuple [.int 1, .tuple [.int 2, .str "x"]]
  | _ => .none
structure Shw (K : PySem.W.Frag) (H : Hp) (v : V) (d : PyData) : Prop where
  dp : Dp K H v d
  sh : d.showable = true
  nd : d.hasDict = false
  de : d.depth ≤ 8
  le : d.shown.length ≤ sizeLine
  it : ∀ i, d = .int i → i.natAbs.log2 < 1920
  ok : PyData.strOk d.shown = true
theorem D0 (t0 : Addr) : D t0 (.ref t0) = .tuple [] := if_pos rfl
theorem D1 {t0 t1 : Addr} (n : t1 ≠ t0) : D t0 (.ref t1) = .tuple [.int 1, .tuple [.int 2, .str "x"]] := if_neg n
theorem shw_all {K : PySem.W.Frag} {H : Hp} {t0 t1 t2 : Addr} (h0 : H t0 = some (.tup [])) (h1 : H t1 = some (.tup [.int 1, .ref t2])) (h2 : H t2 = some (.tup [.int 2, .str "x"])) : ∀ v ∈ M t0 t1, Shw K H v (D t0 v) := by
  have n10 : t1 ≠ t0 := ne_of h1 h0 (by intro q; cases q)
  intro v hv
  unfold M at hv
  simp only [List.mem_cons, List.not_mem_nil, or_false] at hv
  rcases hv with rfl | rfl | rfl | rfl | rfl | rfl | rfl | rfl | rfl | rfl
  · show Shw K H .non .none
    exact ⟨.non, by decide +kernel, by decide +kernel, by decide +kernel, by decide +kernel, fun i e => (by cases e), by decide +kernel⟩
  · show Shw K H (.int 0) (.int 0)
    exact ⟨.int _, by decide +kernel, by decide +kernel, by decide +kernel, by decide +kernel, fun i e => (by cases e; decide +kernel), by decide +kernel⟩
  · show Shw K H (.int (-7)) (.int (-7))
    exact ⟨.int _, by decide +kernel, by decide +kernel, by decide +kernel, by decide +kernel, fun i e => (by cases e; decide +kernel), by decide +kernel⟩
  · show Shw K H (.int (10 ^ (30 : Int).toNat)) (.int (10 ^ (30 : Int).toNat))
    exact ⟨.int _, by decide +kernel, by decide +kernel, by decide +kernel, by decide +kernel, fun i e => (by cases e; decide +kernel), by decide +kernel⟩
  · show Shw K H (.str "") (.str "")
    exact ⟨.str _, by decide +kernel, by decide +kernel, by decide +kernel, by decide +kernel, fun i e => (by cases e), by decide +kernel⟩
  · show Shw K H (.str "a b") (.str "a b")
    exact ⟨.str _, by decide +kernel, by decide +kernel, by decide +kernel, by decide +kernel, fun i e => (by cases e), by decide +kernel⟩
  · rw [D0]
    exact ⟨.tup (SqT.of h0) .nil, by decide +kernel, by decide +kernel, by decide +kernel, by decide +kernel, fun i e => (by cases e), by decide +kernel⟩
  · rw [D1 n10]
    exact ⟨.tup (SqT.of h1) (.cons (.int _) (.cons (.tup (SqT.of h2) (.cons (.int _) (.cons (.str _) .nil))) .nil)), by decide +kernel, by decide +kernel, by decide +kernel, by decide +kernel, fun i e => (by cases e), by decide +kernel⟩
  · show Shw K H (.bl true) (.bool true)
    exact ⟨.bl _, by decide +kernel, by decide +kernel, by decide +kernel, by decide +kernel, fun i e => (by cases e), by decide +kernel⟩
  · show Shw K H (.str "cells") (.str "cells")
    exact ⟨.str _, by decide +kernel, by decide +kernel, by decide +kernel, by decide +kernel, fun i e => (by cases e), by decide +kernel⟩
theorem dpAll_strs {K : PySem.W.Frag} {H : Hp} : ∀ xs : List Str, DpAll K H (xs.map V.str) (xs.map PyData.str)
  | [] => .nil
  | x :: r => .cons (.str x) (dpAll_strs r)
theorem dpAll_bls {K : PySem.W.Frag} {H : Hp} : ∀ xs : List Bool, DpAll K H (xs.map V.bl) (xs.map PyData.bool)
  | [] => .nil
  | x :: r => .cons (.bl x) (dpAll_bls r)
theorem canLay_strs : ∀ xs : List Str, (∀ x ∈ xs, PyData.strOk x = true) → PyData.canLayAll0 (xs.map PyData.str) = true ∧ PyData.depthAll (xs.map PyData.str) = 0
  | [], _ => ⟨rfl, rfl⟩
  | x :: r, h => by
    obtain ⟨h1, h2⟩ := canLay_strs r fun y m => h y (List.mem_cons_of_mem _ m)
    have h0 := h x List.mem_cons_self
    exact ⟨by simp [PyData.canLayAll0, PyData.canLay0, h0, h1], by simp [PyData.depthAll, PyData.depth, h2]⟩
theorem canLay_bls : ∀ xs : List Bool, PyData.canLayAll0 (xs.map PyData.bool) = true ∧ PyData.depthAll (xs.map PyData.bool) = 0
  | [] => ⟨rfl, rfl⟩
  | x :: r => by
    obtain ⟨h1, h2⟩ := canLay_bls r
    exact ⟨by simp [PyData.canLayAll0, PyData.canLay0, h1], by simp [PyData.depthAll, PyData.depth, h2]⟩
theorem shaped_strs {xs : List Str} (h : ∀ x ∈ xs, PyData.strOk x = true) : SeqAt.shaped (.list (xs.map PyData.str)) = true := by
  obtain ⟨h1, h2⟩ := canLay_strs xs h
  simp [SeqAt.shaped, PyData.canLay0, PyData.depth, h1, h2]
theorem shaped_bls (xs : List Bool) : SeqAt.shaped (.list (xs.map PyData.bool)) = true := by
  obtain ⟨h1, h2⟩ := canLay_bls xs
  simp [SeqAt.shaped, PyData.canLay0, PyData.depth, h1, h2]
theorem eqv_shaped {d : PyData} (h : SeqAt.shaped d = true) : PyData.eqv d d = true := SeqAt.eqv_refl d (SeqAt.canLay_of_shaped h)
theorem ite_no {c : Bool} {A B : Prop} (h : c = false) (k : B) : if c = true then A else B := by
  rw [h]
  exact iteF k
theorem Has.put {H : Hp} {l : List (Addr × HO)} {p : Addr} {kvs kvs' : List (Key × V)} (h : Has H l) (hp : H p = some (.dK kvs)) (n : ∀ x ∈ l, ∀ k, x.2 ≠ .dK k) : Has (upd H p (.dK kvs')) l := fun x m => by
  have q := h x m
  rw [upd_ne (ne_of q hp (n x m kvs))]
  exact q
theorem Paired.at {α β : Type} {F : α → β → Prop} : ∀ {xs : List α} {ys : List β} {i : Nat} {y : β}, Paired F xs ys → ys[i]? = some y → ∃ x, xs[i]? = some x ∧ F x y
  | _, _, _, _, .nil, e => by simp at e
  | _, _, 0, _, .cons r _, e => by
    simp at e
    subst e
    exact ⟨_, rfl, r⟩
  | _, _, i + 1, y, .cons _ t, e => by
    obtain ⟨x, h1, h2⟩ := Paired.at (i := i) (y := y) t (by simpa using e)
    exact ⟨x, by simpa using h1, h2⟩
/-- for .. in enumerate(xs): an invariant over the turn, the slots, the heap -/
theorem for_enumL {K : PySem.W.Frag} {a : Addr} {xs : List V} {g : TG} {tb : TS} {D : Ends} {σ : St} {H : Hp} (Pv : Nat → St → Hp → Prop) (h0 : Pv 0 σ H) (hl : ∀ i σ H, i ≤ xs.length → Pv i σ H → SqL K H a xs)
    (hs : ∀ i x T σ H, xs[i]? = some x → Pv i σ H → H T = none → g (.ref T) σ (upd H T (.tup [.int (i : Nat), x])) fun σ2 H2 => tb { D with nx := Pv (i + 1), ct := Pv (i + 1), bk := D.nx } σ2 H2) (hd : ∀ σ H, Pv xs.length σ H → D.nx σ H) :
    ∃ W : Nat → Nat → St → Hp → Prop, (∃ m, W 0 m σ H) ∧ ∀ i m σ H, W i m σ H →
      ((Ite K a).stop i H ∧ D.nx σ H) ∨ ((Ite K a).go i H ∧ ∃ N : St → Hp → Prop, (∀ σ' H', N σ' H' → ∃ m', m' < m ∧ W (i + 1) m' σ' H') ∧ ∀ x H', (Ite K a).yld i H x H' → g x σ H' fun σ2 H2 => tb { D with nx := N, ct := N, bk := D.nx } σ2 H2) := by
  refine ⟨fun i m σ H => m + i = xs.length ∧ Pv i σ H, ⟨xs.length, rfl, h0⟩, ?_⟩
  rintro i m σ H ⟨hm, p⟩
  have q := hl i σ H (by omega) p
  cases m with
  | zero =>
    have e : i = xs.length := by omega
    subst e
    exact .inl ⟨⟨xs, q, Nat.le_refl _⟩, hd σ H p⟩
  | succ m =>
    have lt : i < xs.length := by omega
    refine .inr ⟨⟨xs, xs[i], q, by simp [lt]⟩, Pv (i + 1), fun σ' H' p' => ⟨m, Nat.lt_succ_self m, by omega, p'⟩, ?_⟩
    rintro v H' ⟨T, x, rfl, nT, rfl, hx⟩
    exact hs i x T σ H (hx xs q) p nT

abbrev slaw : Stmt := top 20
abbrev Nlaw : List Str := ["_law_script", "_law_pen_here", "_law_some", "_law_fields", "_law_rows", "_law_at", "_law_error", "_law_told", "_law_many", "_law_one", "_law_k"]
abbrev Plaw : List Str := ["_law_script"]
theorem sclaw : FnScope Nlaw Plaw (defScope slaw) := ⟨rfl, rfl, rfl, by decide +kernel, rfl, by decide +kernel, by decide +kernel⟩

section
variable {P : Program} {w : World} {K : PySem.W.Frag} {mg : Str → Option Value} {C0 C1 C2 C3 C4 C5 C6 C7 C8 C9 C10 C11 J f0 f1 f2 f3 f4 f5 f6 f7 f8 f9 : Addr} {fd0 fd1 fd2 fd3 fd4 fd5 fd6 fd7 fd8 fd9 : FuncData} {fP fD fK fQ fO : Addr} {fdP fdD fdK fdQ fdO : FuncData}
/-- [repr(x) for x in l] -/
theorem rd_reprs {K : PySem.W.Frag} {H0 : Hp} {σ : St} {a : Addr} {xs : List V} {g : V → PyData} {Qd : Addr → Hp → Prop} {te : TE} (hl : H0 a = some (.lst xs)) (hg : ∀ (H : Hp), Same H0 H → ∀ v ∈ xs, Shw K H v (g v)) (hz : xs.length ≤ 1000)
    (hte : ∀ (H : Hp) (v : V) (Q : VK), Shw K H v (g v) → Q (.str (g v).shown) H → te ((wipe σ [9]).set 9 (some v)) H Q)
    (hw : ∀ v, wipe ((wipe σ [9]).set 9 (some v)) [9] = wipe σ [9])
    (hd : ∀ (Dd : Addr) (H : Hp), Same H0 H → H Dd = some (.lst ((xs.map fun v => (g v).shown).map V.str)) → Qd Dd H) :
    ∀ Dd, H0 Dd = none → ∃ W : Nat → Nat → Hp → Prop, (∃ m, W 0 m (upd H0 Dd (.lst []))) ∧ ∀ i m H, W i m H →
      ((Itl K a).stop i H ∧ Qd Dd H) ∨ ((Itl K a).go i H ∧ ∃ Nx : Hp → Prop, (∀ H', Nx H' → ∃ m', m' < m ∧ W (i + 1) m' H') ∧ ∀ x H', (Itl K a).yld i H x H' → gName 9 x (wipe σ [9]) H' fun σ2 H2 => wipe σ2 [9] = wipe σ [9] ∧ tYes σ2 H2 fun b H3 =>
        if b = true then te σ2 H3 fun y H4 => ∃ acc, H4 Dd = some (.lst acc) ∧ acc.length < sizeLine ∧ Nx (upd H4 Dd (.lst (acc ++ [y]))) else Nx H3) := by
  intro Dd nD
  have s0 : ∀ o, Same H0 (upd H0 Dd o) := fun o => same_new nD
  refine lc_list (K := K) (a := a) (xs := xs) (Qd := Qd Dd) (te := te) (g := gName 9) (tt := tYes) (fun i H => Same H0 H ∧ H Dd = some (.lst (((xs.take i).map fun v => (g v).shown).map V.str))) ⟨s0 _, upd_same⟩ (fun i H _ p => SqL.of (p.1 _ _ hl)) ?_ ?_
  · rintro i x H hx ⟨s, hD⟩
    have hm : x ∈ xs := List.mem_of_getElem? hx
    have li : i < xs.length := (List.getElem?_eq_some_iff.mp hx).1
    refine ⟨hw x, ?_⟩
    show te _ H _
    refine hte H x _ (hg H s x hm) ?_
    refine ⟨_, hD, ?_, ?_, ?_⟩
    · rw [List.length_map, List.length_map, List.length_take]
      exact Nat.lt_of_le_of_lt (Nat.min_le_right _ _) (small1000 hz)
    · intro b o e
      rw [upd_ne (ne_of_none e nD)]
      exact s b o e
    · rw [upd_same, List.take_add_one, hx]
      simp
  · rintro H ⟨s, hD⟩
    rw [List.take_length] at hD
    exact hd Dd H s hD
end
end Nm
namespace Nm
open PySem PyProof.Rows L2
section
variable {P : Program} {w : World} {K : PySem.W.Frag} {mg : Str → Option Value} {C0 C1 C2 C3 C4 C5 C6 C7 C8 C9 C10 C11 J f0 f1 f2 f3 f4 f5 f6 f7 f8 f9 : Addr} {fd0 fd1 fd2 fd3 fd4 fd5 fd6 fd7 fd8 fd9 : FuncData} {fP fD fQ fK fO fa : Addr} {fdP fdD fdQ fdK fdO : FuncData}
theorem cut_take {xs : List V} (n : Nat) : cutV xs none (some (n : Int)) = xs.take n := by
  unfold cutV
  rw [show HT.sIx xs.length 0 none = 0 from rfl, HT.sIx_nat]
  simp only [List.drop_zero, Nat.sub_zero]
  exact (List.take_eq_take_min (i := n) (l := xs)).symm
theorem pos_eq {α : Type} [DecidableEq α] (xs : List α) (nd : xs.Nodup) (i : Nat) {c : α} (hi : xs[i]? = some c) : xs.map (fun D => decide (D = c)) = (List.range xs.length).map fun (k : Nat) => decide (V.int (0 + (k : Int)) = V.int (i : Int)) := by
  obtain ⟨li, rfl⟩ := List.getElem?_eq_some_iff.mp hi
  refine List.ext_getElem (by simp) fun k h1 h2 => ?_
  rw [List.length_map] at h1
  rw [List.getElem_map, List.getElem_map, List.getElem_range]
  have e : (xs[k] = xs[i]) ↔ (V.int (0 + (k : Int)) = V.int (i : Int)) := by
    rw [List.getElem_inj nd]
    constructor
    · intro q
      rw [q, Int.zero_add]
    · intro q
      have q2 := V.int.inj q
      omega
  by_cases q : xs[k] = xs[i]
  · rw [decide_eq_true q, decide_eq_true (e.mp q)]
  · rw [decide_eq_false q, decide_eq_false fun z => q (e.mpr z)]
theorem rd_law (T : Txt K mg C0 C1 C2 C3 C4 C5 C6 C7 C8 C9 C10 C11 J f0 f1 f2 f3 f4 f5 f6 f7 f8 f9 fd0 fd1 fd2 fd3 fd4 fd5 fd6 fd7 fd8 fd9) (PT : PenTxt mg)
    (F_law_pen : Fun K "_law_pen" "_law_pen" sPen fP fdP) (b_law_pen : Binds K fdP ["_law_script"] []) (g_law_pen : mg "_law_pen" = some (.ref fP))
    (F_law_draw : Fun K "_law_draw" "_law_draw" sDraw fD fdD) (b_law_draw : Binds K fdD ["_law_pen_here", "_law_many"] []) (g_law_draw : mg "_law_draw" = some (.ref fD))
    (F_law_pick : Fun K "_law_pick" "_law_pick" sPick fQ fdQ) (b_law_pick : Binds K fdQ ["_law_pen_here", "_law_some"] []) (g_law_pick : mg "_law_pick" = some (.ref fQ))
    (F_law_kinds_of : Fun K "_law_kinds_of" "_law_kinds_of" sLkindsof fK fdK) (b_law_kinds_of : Binds K fdK ["_law_value"] []) (g_law_kinds_of : mg "_law_kinds_of" = some (.ref fK))
    (F_law_one_of_each : Fun K "_law_one_of_each" "_law_one_of_each" sLoneofeach fO fdO) (b_law_one_of_each : Binds K fdO ["_law_a", "_law_b", "_law_c"] []) (g_law_one_of_each : mg "_law_one_of_each" = some (.ref fO))
    (base : Heap) (cdv : Value) (s : Shared) (H : Hp) (a : Addr) (ns : List Int) (hlen : ns.length ≤ 63) (hS : SqL K H a (ns.map V.int)) :
    ∃ t, PSs (cxOf CX0 P w K mg base Nlaw "law" (defScope slaw) fa cdv callerA [] s H E0).nox (defBody slaw) t ∧ t { nx := fun _ _ => False, rt := fun v _ => v = .bl true } (start Nlaw [.ref a]) H := by
  have hr : Room 3 (callerA.deeper (envOfC "law" (defScope slaw) s.heap.objs.size fa cdv)) := Room.deeper ⟨rfl, by decide, by decide⟩ _
  have hr1 := hr
  have G_law_pen : FnOk P w K mg base CX0 3 fP fdP ["_law_script"] (spPen K) := (ok_pen F_law_pen PT).mono (by decide)
  have G_law_pick : FnOk P w K mg base CX0 3 fQ fdQ ["_law_pen_here", "_law_some"] (spPick K) := (ok_pick F_law_pick PT F_law_draw b_law_draw g_law_draw).mono (by decide)
  have G_law_kinds_of : FnOk P w K mg base CX0 3 fK fdK ["_law_value"] (spKinds [C0, C1, C2, C3, C4, C5, C6, C7, C8, C9, C10, C11]) := (ok_kinds F_law_kinds_of T).mono (by decide)
  have G_law_one_of_each : FnOk P w K mg base CX0 3 fO fdO ["_law_a", "_law_b", "_law_c"] (spOne [(C0, 2), (C1, 2), (C2, 2), (C3, 1), (C4, 1), (C5, 1), (C6, 2), (C7, 3), (C8, 1), (C9, 2), (C10, 0), (C11, 0)]) := ok_one F_law_one_of_each T
  refine ⟨_, (pss_cons (ps_set (i := 1) sclaw.nd rfl (Or.inl rfl) (pe_call G_law_pen hr1 rfl g_law_pen F_law_pen.kp b_law_pen .nil pass0 (pa_cons (pv 0) pa_nil)))
      (pss_cons (ps_set (i := 2) sclaw.nd rfl (Or.inl rfl) (pe_lst (pa_cons pe_non (pa_cons pe_int (pa_cons (pe_un un_neg pe_int) (pa_cons (pe_op op_pow pe_int pe_int) (pa_cons pe_str (pa_cons pe_str (pa_cons (pe_tup pa_nil) (pa_cons (pe_tup (pa_cons pe_int (pa_cons (pe_tup (pa_cons pe_int (pa_cons pe_str pa_nil))) pa_nil))) (pa_cons pe_bl (pa_cons pe_str pa_nil))))))))))))
      (pss_cons (ps_set (i := 3) sclaw.nd rfl (Or.inl rfl) (pe_lst (pa_cons (pe_call G_law_pick hr1 rfl g_law_pick F_law_pick.kp b_law_pick .nil pass0 (pa_cons (pv 1) (pa_cons (pv 2) pa_nil))) (pa_cons (pe_call G_law_pick hr1 rfl g_law_pick F_law_pick.kp b_law_pick .nil pass0 (pa_cons (pv 1) (pa_cons (pv 2) pa_nil))) (pa_cons (pe_call G_law_pick hr1 rfl g_law_pick F_law_pick.kp b_law_pick .nil pass0 (pa_cons (pv 1) (pa_cons (pv 2) pa_nil))) pa_nil)))))
      (pss_cons (ps_set (i := 4) sclaw.nd rfl (Or.inl rfl) (pe_call G_law_one_of_each hr1 rfl g_law_one_of_each F_law_one_of_each.kp b_law_one_of_each .nil pass0 (pa_cons (pe_ix ix_list (pv 3) pe_int (fun _ _ => rfl)) (pa_cons (pe_ix ix_list (pv 3) pe_int (fun _ _ => rfl)) (pa_cons (pe_ix ix_list (pv 3) pe_int (fun _ _ => rfl)) pa_nil)))))
      (pss_cons (ps_for PassesOwn.never rfl (pi_enum (by rfl) T.enumerate (pa_cons (pv 4) pa_nil)) (pg_tup (by rfl) (pgs_cons (pg_name (i := 5) sclaw.nd rfl (Or.inr rfl)) (pgs_cons (pg_tup (by rfl) (pgs_cons (pg_name (i := 6) sclaw.nd rfl (Or.inl rfl)) (pgs_cons (pg_name (i := 7) sclaw.nd rfl (Or.inl rfl)) (pgs_cons (pg_name (i := 8) sclaw.nd rfl (Or.inl rfl)) pgs_nil)))) pgs_nil)))
      (pss_cons (ps_if (pt_cmpR (op_neD hr.units) (pe_lc (own := [("_law_one", 9)]) (g := (gName 9)) rfl sclaw.nd (pi_list (pv 7)) (blkOk_by (own := [("_law_one", 9)]) (N := Nlaw) (sc := defScope slaw) (by decide +kernel)) (fun _ _ _ _ _ => (pg_name (i := 9) sclaw.nd rfl (Or.inl rfl))) (fun _ _ _ _ _ => pts_nil) (fun _ _ _ _ _ => (pe_repr (K := K) rfl (by rfl) (by exact hr.units) (by rfl) T.repr (pv 9)))) (pe_lc (own := [("_law_one", 9)]) (g := (gName 9)) rfl sclaw.nd (pi_list (pe_slice sl_list (pv 3) po_none (po_some (pv 8)))) (blkOk_by (own := [("_law_one", 9)]) (N := Nlaw) (sc := defScope slaw) (by decide +kernel)) (fun _ _ _ _ _ => (pg_name (i := 9) sclaw.nd rfl (Or.inl rfl))) (fun _ _ _ _ _ => pts_nil) (fun _ _ _ _ _ => (pe_repr (K := K) rfl (by rfl) (by exact hr.units) (by rfl) T.repr (pv 9)))) (nomark _))
      (pss_one (ps_ret pe_bl))
      pss_nil)
      (pss_cons (ps_if (PW.pt (pw_or (pt_not (pt_val (pe_callB call_isX (by rfl) T.isinstance (by decide +kernel) (pa_cons (pv 6) (pa_cons (pe_gref rfl T.gJ) pa_nil))))) (pw_or1 (pt_not (pt_val (pe_callB call_isX (by rfl) T.isinstance (by decide +kernel) (pa_cons (pv 6) (pa_cons (pe_bltn (v := .ty "ValueError") (by rfl) T.VE PyProof.Rows.Boot.«ValueError» rfl) pa_nil))))))))
      (pss_one (ps_ret pe_bl))
      pss_nil)
      (pss_one (ps_if (pt_cmpR (op_neD hr.units) (pe_call G_law_kinds_of hr1 rfl g_law_kinds_of F_law_kinds_of.kp b_law_kinds_of .nil pass0 (pa_cons (pv 6) pa_nil)) (pe_lc (own := [("_law_k", 10)]) (g := (gName 10)) rfl sclaw.nd (pi_range1 rfl T.range (pa_cons (pe_callB call_len_seq (by rfl) T.len PySem.boot_len (pa_cons (pv 4) pa_nil)) pa_nil)) (blkOk_by (own := [("_law_k", 10)]) (N := Nlaw) (sc := defScope slaw) (by decide +kernel)) (fun _ _ _ _ _ => (pg_name (i := 10) sclaw.nd rfl (Or.inl rfl))) (fun _ _ _ _ _ => pts_nil) (fun _ _ _ _ _ => (pe_cmpR op_eq (pv 10) (pv 5) (nomark _)))) (nomark _))
      (pss_one (ps_ret pe_bl))
      pss_nil)))))
      (pss_one (ps_ret pe_bl))))))), ?_⟩
  -- the pen
  refine ⟨.ref a, (by kernel_rfl), a, ns, rfl, hS, hlen, fun p z H1 s1 pn zc Z => ?_⟩
  -- the menu
  refine ⟨_, rfl, _, _, rfl, rfl, ⟨by decide, by decide, by decide⟩, by show 0 ≤ sizeLine; decide, fun t0 n0 => ?_⟩
  have L : Has H1 [] := Has.nil
  have ss := same_new (o := .tup []) n0
  replace L := L.new (.tup []) n0
  replace Z := Z.same ss
  generalize upd H1 t0 (.tup []) = H2 at ss L Z ⊢
  clear ss n0
  refine ⟨by show 2 ≤ sizeLine; decide, fun t2 n2 => ?_⟩
  have ss := same_new (o := .tup [.int 2, .str "x"]) n2
  replace L := L.new (.tup [.int 2, .str "x"]) n2
  replace Z := Z.same ss
  generalize upd H2 t2 (.tup [.int 2, .str "x"]) = H3 at ss L Z ⊢
  clear ss n2
  refine ⟨by show 2 ≤ sizeLine; decide, fun t1 n1 => ?_⟩
  have ss := same_new (o := .tup [.int 1, .ref t2]) n1
  replace L := L.new (.tup [.int 1, .ref t2]) n1
  replace Z := Z.same ss
  generalize upd H3 t1 (.tup [.int 1, .ref t2]) = H4 at ss L Z ⊢
  clear ss n1
  refine ⟨by show 10 ≤ sizeLine; decide, fun q nq => ?_⟩
  have ss := same_new (o := .lst [V.non, V.int 0, (fun i => V.int (-i)) 7, (fun (i j : Int) => V.int (i ^ j.toNat)) 10 30, V.str "", V.str "a b", V.ref t0, V.ref t1, V.bl true, V.str "cells"]) nq
  replace L := L.new (.lst [V.non, V.int 0, (fun i => V.int (-i)) 7, (fun (i j : Int) => V.int (i ^ j.toNat)) 10 30, V.str "", V.str "a b", V.ref t0, V.ref t1, V.bl true, V.str "cells"]) nq
  replace Z := Z.same ss
  generalize upd H4 q (.lst [V.non, V.int 0, (fun i => V.int (-i)) 7, (fun (i j : Int) => V.int (i ^ j.toNat)) 10 30, V.str "", V.str "a b", V.ref t0, V.ref t1, V.bl true, V.str "cells"]) = H5 at ss L Z ⊢
  clear ss nq
  replace L : Has H5 [((q : Addr), HO.lst (M t0 t1)), (t1, .tup [.int 1, .ref t2]), (t2, .tup [.int 2, .str "x"]), (t0, .tup [])] := L
  have nk : ∀ x ∈ [((q : Addr), HO.lst (M t0 t1)), (t1, .tup [.int 1, .ref t2]), (t2, .tup [.int 2, .str "x"]), (t0, .tup [])], ∀ k, x.2 ≠ .dK k := by
    intro x hx k e
    simp only [List.mem_cons, List.not_mem_nil, or_false] at hx
    rcases hx with rfl | rfl | rfl | rfl <;> cases e
  -- three fields
  have hM : (M t0 t1).length = 10 := rfl
  refine ⟨.ref p, (by kernel_rfl), .ref q, (by kernel_rfl), p, q, z, _, rfl, Z, L.get 0 rfl, (by rw [hM]; decide), (by rw [hM]; decide), (by omega), fun v0 z1 m0 g1 => ?_⟩
  replace L := L.put (kvs' := z1.kvs) Z.at_ nk
  replace Z := Z.put g1.l g1.ns g1.ok
  have c1 := g1.c
  generalize upd H5 p (.dK z1.kvs) = H6 at L Z ⊢
  refine ⟨.ref p, (by kernel_rfl), .ref q, (by kernel_rfl), p, q, z1, _, rfl, Z, L.get 0 rfl, (by rw [hM]; decide), (by rw [hM]; decide), (by omega), fun v1 z2 m1 g2 => ?_⟩
  replace L := L.put (kvs' := z2.kvs) Z.at_ nk
  replace Z := Z.put g2.l g2.ns g2.ok
  have c2 := g2.c
  generalize upd H6 p (.dK z2.kvs) = H7 at L Z ⊢
  refine ⟨.ref p, (by kernel_rfl), .ref q, (by kernel_rfl), p, q, z2, _, rfl, Z, L.get 0 rfl, (by rw [hM]; decide), (by rw [hM]; decide), (by omega), fun v2 z3 m2 g3 => ?_⟩
  replace L := L.put (kvs' := z3.kvs) Z.at_ nk
  clear nk
  generalize upd H7 p (.dK z3.kvs) = H8 at L ⊢
  refine ⟨by show 3 ≤ sizeLine; decide, fun r nr => ?_⟩
  have ss := same_new (o := .lst [v0, v1, v2]) nr
  replace L := L.new (.lst [v0, v1, v2]) nr
  generalize upd H8 r (.lst [v0, v1, v2]) = H9 at ss L ⊢
  clear ss nr
  -- one of each
  refine ⟨.ref r, (by kernel_rfl), r, _, 0, v0, rfl, rfl, SqL.of (L.get 0 rfl), rfl, ?_⟩
  refine ⟨.ref r, (by kernel_rfl), r, _, 1, v1, rfl, rfl, SqL.of (L.get 0 rfl), rfl, ?_⟩
  refine ⟨.ref r, (by kernel_rfl), r, _, 2, v2, rfl, rfl, SqL.of (L.get 0 rfl), rfl, ?_⟩
  refine ⟨v0, v1, v2, rfl, fun pr H10 rows S hp PR => ?_⟩
  replace L := (L.same S).cons hp
  have hf : ∀ v ∈ [v0, v1, v2], v ∈ M t0 t1 := by
    intro v hv
    simp only [List.mem_cons, List.not_mem_nil, or_false] at hv
    rcases hv with rfl | rfl | rfl <;> assumption
  have lenR : rows.length = 12 := (Paired.length PR).symm
  clear S hp
  -- the rows, one by one
  refine ⟨.ref pr, (by kernel_rfl), pr, rows, rfl, SqL.of (L.get 0 rfl), ?_⟩
  refine for_enumL (K := K) (a := pr) (xs := rows) (fun i σ H' => Same H10 H' ∧ ∃ w5 w6 w7 w8 w9 w10 : Option V, σ = [some (.ref a), some (.ref p), some (.ref q), some (.ref r), some (.ref pr), w5, w6, w7, w8, w9, w10])
    ⟨Same.refl _, none, none, none, none, none, none, (by kernel_rfl)⟩ (fun i σ H' _ h => SqL.of (h.1 _ _ (L.get 0 rfl))) ?_ ?_
  · rintro i x Tn σ H' hx ⟨S', w5, w6, w7, w8, w9, w10, rfl⟩ nT
    obtain ⟨⟨C, n⟩, hc, t, e, l, rfl, ht, hl, hE⟩ := Paired.at PR hx
    have il : i < 12 := lenR ▸ (List.getElem?_eq_some_iff.mp hx).1
    have ss := same_new (o := .tup [.int (i : Nat), .ref t]) nT
    have hT := upd_same (H := H') (a := Tn) (o := .tup [.int (i : Nat), .ref t])
    generalize upd H' Tn (.tup [.int (i : Nat), .ref t]) = H11 at ss hT ⊢
    have S2 := S'.trans ss
    clear ss nT S'
    refine ⟨Tn, _, rfl, SqT.of hT, rfl, _, _, rfl, _, _, rfl, t, _, rfl, SqT.of (S2 _ _ ht), rfl, _, _, rfl, _, _, rfl, _, _, rfl, rfl, rfl, ?_⟩
    have hin : (C, n) ∈ [(C0, 2), (C1, 2), (C2, 2), (C3, 1), (C4, 1), (C5, 1), (C6, 2), (C7, 3), (C8, 1), (C9, 2), (C10, 0), (C11, 0)] := List.mem_of_getElem? hc
    have hn : n ≤ 3 := by
      simp only [List.mem_cons, List.not_mem_nil, or_false, Prod.mk.injEq] at hin
      omega
    have hcs : ([C0, C1, C2, C3, C4, C5, C6, C7, C8, C9, C10, C11] : List Addr)[i]? = some C := by
      have q := congrArg (Option.map (·.1)) hc
      rw [← List.getElem?_map] at q
      exact q
    have hC : C ∈ [C0, C1, C2, C3, C4, C5, C6, C7, C8, C9, C10, C11] := List.mem_of_getElem? hcs
    obtain ⟨dd, e1, e2⟩ := hE.same S2
    have hg : ∀ (H : Hp), Same H11 H → ∀ v ∈ [v0, v1, v2].take n, Shw K H v (D t0 v) := fun H s v hv =>
      shw_all ((S2.trans s) _ _ (L.get 5 rfl)) ((S2.trans s) _ _ (L.get 3 rfl)) ((S2.trans s) _ _ (L.get 4 rfl)) v (hf v (List.mem_of_mem_take hv))
    have hz : ([v0, v1, v2].take n).length ≤ 1000 := Nat.le_trans (List.length_take_le _ _) (by omega)
    have okS : ∀ x ∈ ([v0, v1, v2].take n).map fun v => (D t0 v).shown, PyData.strOk x = true := fun x hx => by
      obtain ⟨v, hv, rfl⟩ := List.mem_map.mp hx
      exact (hg H11 (Same.refl _) v hv).ok
    refine ⟨.ref l, (by kernel_rfl), l, rfl, ⟨_, SqL.of (S2 _ _ hl)⟩, ?_⟩
    refine rd_reprs (te := tCB (rRepr K) (tCons (tVar 9) tNil)) (g := D t0) (xs := [v0, v1, v2].take n) (S2 _ _ hl) hg hz (fun H v Q h q => ⟨v, (by kernel_rfl), v, D t0 v, rfl, h.dp, h.sh, h.nd, h.de, h.le, h.it, q⟩) (fun v => by kernel_rfl) (fun A1 H12 s12 hA1 => ?_)
    refine ⟨.ref r, (by kernel_rfl), .int (n : Int), (by kernel_rfl), (n : Int), rfl, r, [v0, v1, v2], rfl, SqL.of ((S2.trans s12) _ _ (L.get 1 rfl)), fun pS nS => ?_⟩
    rw [cut_take]
    have ss := same_new (o := .lst ([v0, v1, v2].take n)) nS
    have hpS := upd_same (H := H12) (a := pS) (o := .lst ([v0, v1, v2].take n))
    generalize upd H12 pS (.lst ([v0, v1, v2].take n)) = H13 at ss hpS ⊢
    have s13 := s12.trans ss
    refine ⟨pS, rfl, ⟨_, SqL.of hpS⟩, ?_⟩
    refine rd_reprs (te := tCB (rRepr K) (tCons (tVar 9) tNil)) (g := D t0) (xs := [v0, v1, v2].take n) hpS (fun H s => hg H (s13.trans s)) hz (fun H v Q h q => ⟨v, (by kernel_rfl), v, D t0 v, rfl, h.dp, h.sh, h.nd, h.de, h.le, h.it, q⟩) (fun v => by kernel_rfl) (fun A2 H14 s14 hA2 => ?_)
    have sA := ss.trans s14
    refine ⟨_, _, .lst (SqL.of (sA _ _ hA1)) (dpAll_strs _), .lst (SqL.of hA2) (dpAll_strs _), shaped_strs okS, shaped_strs okS, _, rfl, ite_no (by rw [eqv_shaped (shaped_strs okS)]; rfl) ?_⟩
    have S4 := s13.trans s14
    clear hA1 hA2 sA ss hpS s12 s13 s14
    -- isinstance
    have ex := fun z q => (show ∃ fs, H14 z = some (exd z fs) from let ⟨fs, y⟩ := e2 z q; ⟨fs, S4 _ _ y⟩)
    refine ⟨.ref e, (by kernel_rfl), e, C, dd, .ref J, .ref J, true, rfl, S4 _ _ e1, ex, .own J, T.isC C hC, T.kitJ C hC, _, rfl, ?_⟩
    refine ite_no rfl ?_
    refine ⟨.ref e, (by kernel_rfl), e, C, dd, .ty "ValueError", .type "ValueError", true, rfl, S4 _ _ e1, ex, .ty _, T.isC C hC, T.kitV C hC, _, rfl, ?_⟩
    refine ite_no rfl ?_
    -- its kinds
    refine ⟨.ref e, (by kernel_rfl), e, C, rfl, hC, ⟨dd, S4 _ _ e1, ex⟩, fun pK H15 sK hK => ?_⟩
    have S5 := (S2.trans S4).trans sK
    refine ⟨.ref pr, (by kernel_rfl), pr, rows, rfl, .inl (SqL.of (S5 _ _ (L.get 0 rfl))), ((rows.length : Nat) : Int), rfl, by omega, by omega, fun A3 nA => ?_⟩
    refine lc_range (lo := 0) (n := ((rows.length : Nat) : Int).toNat) (te := tOp rEq (tVar 10) (tVar 5)) (g := gName 10) (tt := tYes) (fun k H => Same H15 H ∧ H A3 = some (.lst (((List.range k).map fun (k : Nat) => decide (V.int (0 + (k : Int)) = V.int (i : Int))).map V.bl)))
      ⟨same_new nA, upd_same⟩ ?_ ?_
    · rintro k H hk ⟨s, hA⟩
      refine ⟨(by kernel_rfl), ?_⟩
      show tOp rEq (tVar 10) (tVar 5) _ H _
      refine ⟨.int (0 + (k : Int)), (by kernel_rfl), .int (i : Int), (by kernel_rfl), rfl, ?_⟩
      refine ⟨_, hA, ?_, ?_, ?_⟩
      · rw [List.length_map, List.length_map, List.length_range]
        exact small1000 (by omega)
      · intro b o z
        rw [upd_ne (ne_of_none z nA)]
        exact s b o z
      · rw [upd_same, List.range_succ]
        simp
    · rintro H16 ⟨s16, hA⟩
      have eb : (([C0, C1, C2, C3, C4, C5, C6, C7, C8, C9, C10, C11] : List Addr).map fun D => decide (D = C)) = (List.range ((rows.length : Nat) : Int).toNat).map fun (k : Nat) => decide (V.int (0 + (k : Int)) = V.int (i : Int)) := by
        rw [Int.toNat_natCast, lenR]
        exact pos_eq _ T.nd i hcs
      rw [← eb] at hA
      refine ⟨_, _, .lst (SqL.of (s16 _ _ hK)) (dpAll_bls (([C0, C1, C2, C3, C4, C5, C6, C7, C8, C9, C10, C11] : List Addr).map fun D => decide (D = C))), .lst (SqL.of hA) (dpAll_bls _), shaped_bls _, shaped_bls _, _, rfl, ite_no (by rw [eqv_shaped (shaped_bls _)]; rfl) ?_⟩
      exact ⟨S5.trans s16, some (.int (i : Int)), some (.ref e), some (.ref l), some (.int (n : Int)), w9, w10, (by kernel_rfl)⟩
  · rintro σ H' ⟨_, w5, w6, w7, w8, w9, w10, rfl⟩
    rfl
end
end Nm
namespace Nm
open PySem PyProof.Rows L2
/-! ### the end: what the top has written -/
structure XRaw (K : PySem.W.Frag) (x : Str) (C J : Addr) : Prop where
  ns : PySem.W.nsIn K mainGlobals x = some (some (.ref C))
  cls : ∃ nm q N bs sn sub ab col dd m0 m1 m2 m3 m5, K.lookup C = some (excClassObj nm q C N bs [.ref J, .type "ValueError", .type "Exception", .type "BaseException", .type "object"] true sn sub ab col dd m0 m1 m2 m3 m5 "ValueError.__new__")
  sa : PySem.W.findIn K (.ref C) "__setattr__" = some (some (.builtin "object.__setattr__"))
  ga : PySem.W.findIn K (.ref C) "__getattribute__" = some (some (.builtin "BaseException.__getattribute__"))
  gg : PySem.W.findIn K (.ref C) "__getattr__" = some none
  sb : PySem.W.subIn K (.ref C) (.type "BaseException") = some true
  ty : PySem.W.typeIn K (.ref C) = some (.type "type")
  kp : PySem.W.keepIn K (.ref C) = true
  ca : PySem.W.findIn K (.ref C) "__class__" = some (some (.builtin "object.__class__"))
  mo : PySem.W.mroIn K C (.type "object") = some true
  hd : PySem.W.hasDictIn K C = true
theorem xraw_mk {K : PySem.W.Frag} {x : Str} {C J : Addr} {nm q : Str} {N : Addr} {bs : List Value} {sn : List Str} {sub : List Value} {ab : Bool} {col : Option Bool} {dd : Option Addr} {m0 m1 m2 m3 m5 : Option Value}
    (ns : PySem.W.nsIn K mainGlobals x = some (some (.ref C)))
    (cls : K.lookup C = some (excClassObj nm q C N bs [.ref J, .type "ValueError", .type "Exception", .type "BaseException", .type "object"] true sn sub ab col dd m0 m1 m2 m3 m5 "ValueError.__new__"))
    (sa : PySem.W.findIn K (.ref C) "__setattr__" = some (some (.builtin "object.__setattr__")))
    (ga : PySem.W.findIn K (.ref C) "__getattribute__" = some (some (.builtin "BaseException.__getattribute__")))
    (gg : PySem.W.findIn K (.ref C) "__getattr__" = some none)
    (sb : PySem.W.subIn K (.ref C) (.type "BaseException") = some true)
    (ty : PySem.W.typeIn K (.ref C) = some (.type "type"))
    (kp : PySem.W.keepIn K (.ref C) = true)
    (ca : PySem.W.findIn K (.ref C) "__class__" = some (some (.builtin "object.__class__")))
    (mo : PySem.W.mroIn K C (.type "object") = some true)
    (hd : PySem.W.hasDictIn K C = true) : XRaw K x C J := ⟨ns, ⟨nm, q, N, bs, sn, sub, ab, col, dd, m0, m1, m2, m3, m5, cls⟩, sa, ga, gg, sb, ty, kp, ca, mo, hd⟩
theorem XRaw.oex {K : PySem.W.Frag} {x : Str} {C J : Addr} (r : XRaw K x C J) : OexC K C := by
  obtain ⟨nm, q, N, bs, sn, sub, ab, col, dd, m0, m1, m2, m3, m5, e⟩ := r.cls
  refine ⟨⟨nm, q, N, bs, _, sn, sub, ab, col, dd, m0, m1, m2, m3, m5, e, ?_⟩, r.sa, r.sb, r.ty, r.kp⟩
  show PySem.HandSPX.refsVE [.type "ValueError", .type "Exception", .type "BaseException", .type "object"] = true
  decide +kernel
theorem XRaw.cd {K : PySem.W.Frag} {x : Str} {C J : Addr} (r : XRaw K x C J) : ∃ cd, PySem.W.clsIn K C = some cd ∧ cd.mro = [.ref C, .ref J, .type "ValueError", .type "Exception", .type "BaseException", .type "object"] := by
  obtain ⟨nm, q, N, bs, sn, sub, ab, col, dd, m0, m1, m2, m3, m5, e⟩ := r.cls
  exact ⟨_, by (unfold PySem.W.clsIn; rw [e]; first | done | rfl), rfl⟩
theorem XRaw.isC {K : PySem.W.Frag} {x : Str} {C J : Addr} (r : XRaw K x C J) (gt : PySem.W.specialIn K (.builtin "object.__class__") "__get__" = some (some (.builtin "getset_descriptor.__get__"))) (tk : PySem.W.takesIn K (.builtin "object.__class__") = some true) : IsC K C := by
  obtain ⟨cd, e, _⟩ := r.cd
  exact ⟨by rw [e]; rfl, r.ga, r.gg, r.sb, r.ca, gt, tk, r.mo⟩
theorem XRaw.mro {K : PySem.W.Frag} {x : Str} {C J : Addr} (r : XRaw K x C J) (u : Value) : PySem.W.mroIn K C u = some ([Value.ref C, .ref J, .type "ValueError", .type "Exception", .type "BaseException", .type "object"].contains u) := by
  obtain ⟨cd, e, m⟩ := r.cd
  unfold PySem.W.mroIn
  rw [e, Option.bind_some, m]
  first | done | rfl
theorem XRaw.kit {K : PySem.W.Frag} {x y : Str} {C D J J' : Addr} (r : XRaw K x C J) (t : XRaw K y D J') (dj : D ≠ J) : PySem.W.kitOne K (.ref C) (.ref D) = some (decide (D = C)) := by
  unfold PySem.W.kitOne
  by_cases h : D = C
  · subst h
    rw [if_pos (by simp), decide_eq_true rfl]
  · have n1 : ¬ (Value.ref C == Value.ref D) = true := fun z => h (Value.ref.inj (beq_iff_eq.mp z)).symm
    rw [if_neg n1, decide_eq_false h]
    obtain ⟨cd, e, _⟩ := t.cd
    show (if ((PySem.W.clsIn K D).isSome && PySem.W.typeIn K (.ref D) == some (.type "type")) = true then PySem.W.mroIn K C (.ref D) else none) = some false
    rw [e, t.ty, if_pos (by rfl), r.mro]
    have n2 : ¬ Value.ref D = Value.ref C := fun z => h (Value.ref.inj z)
    have n3 : ¬ Value.ref D = Value.ref J := fun z => dj (Value.ref.inj z)
    simp [n2, n3]
theorem XRaw.kitJ {K : PySem.W.Frag} {x : Str} {C J : Addr} (r : XRaw K x C J) (cj : (PySem.W.clsIn K J).isSome = true) (tj : PySem.W.typeIn K (.ref J) = some (.type "type")) : PySem.W.kitOne K (.ref C) (.ref J) = some true := by
  unfold PySem.W.kitOne
  by_cases h : (Value.ref C == Value.ref J) = true
  · rw [if_pos h]
  · rw [if_neg h]
    show (if ((PySem.W.clsIn K J).isSome && PySem.W.typeIn K (.ref J) == some (.type "type")) = true then PySem.W.mroIn K C (.ref J) else none) = some true
    rw [cj, tj, if_pos (by rfl), r.mro]
    simp
theorem XRaw.kitV {K : PySem.W.Frag} {x : Str} {C J : Addr} (r : XRaw K x C J) : PySem.W.kitOne K (.ref C) (.type "ValueError") = some true := by
  show (if (Value.ref C == Value.type "ValueError") = true then some true else if PySem.W.kitMeta "ValueError" = true then PySem.W.mroIn K C (.type "ValueError") else none) = some true
  rw [if_neg (by simp), if_pos (by decide +kernel), r.mro]
  simp
/-- a def or method of the text, raw -/
structure FRaw (K : PySem.W.Frag) (x qual : Str) (st : Stmt) (f : Addr) : Prop where
  ex : ∃ (oc : Value) (od : Option Addr) (kV doc pm : Value) (an : Option Addr) (cdv ct : Value) (osl : Array (Option Value)),
    K.lookup f = some ⟨oc, od, .func (PySem.W.fnOf x qual (defArgs st) (defBody st) (defScope st) .none kV doc pm an cdv ct), osl⟩ ∧ PySem.W.codeIn K cdv qual = true
  kp : PySem.W.keepIn K (.ref f) = true
theorem fraw_mk {K : PySem.W.Frag} {x qual : Str} {st : Stmt} {f : Addr} {oc : Value} {od an : Option Addr} {osl : Array (Option Value)} {kV doc pm cdv ct : Value} (l : K.lookup f = some ⟨oc, od, .func (PySem.W.fnOf x qual (defArgs st) (defBody st) (defScope st) .none kV doc pm an cdv ct), osl⟩)
    (c : PySem.W.codeIn K cdv qual = true) (k : PySem.W.keepIn K (.ref f) = true) : FRaw K x qual st f := ⟨⟨oc, od, kV, doc, pm, an, cdv, ct, osl, l, c⟩, k⟩

theorem fin {P : Program} {w : World} {K : PySem.W.Frag} {h : Heap} {mg : Str → Option Value} {fa C0 C1 C2 C3 C4 C5 C6 C7 C8 C9 C10 C11 J f0 f1 f2 f3 f4 f5 f6 f7 f8 f9 fP fD fQ fK fO fL : Addr} (X : K.In h) (G : h.Ns mainGlobals mg) (hfa : mg "law" = some (.ref fa))
    (x0 : XRaw K "BadText" C0 J)
    (x1 : XRaw K "BadProgram" C1 J)
    (x2 : XRaw K "BadValue" C2 J)
    (x3 : XRaw K "BadName" C3 J)
    (x4 : XRaw K "NoName" C4 J)
    (x5 : XRaw K "TakenName" C5 J)
    (x6 : XRaw K "BadNumber" C6 J)
    (x7 : XRaw K "TooMany" C7 J)
    (x8 : XRaw K "BadNet" C8 J)
    (x9 : XRaw K "NotKept" C9 J)
    (x10 : XRaw K "NothingToUndo" C10 J)
    (x11 : XRaw K "NothingToRedo" C11 J)
    (i0 : PySem.W.findIn K (.ref C0) "__init__" = some (some (.ref f0)))
    (t0 : PySem.W.typeIn K (.ref f0) = some (.type "function"))
    (l0 : FRaw K "__init__" "BadText.__init__" sBadTextinit f0)
    (n0_0 : PySem.W.findIn K (.ref C0) "line" = some none)
    (n0_1 : PySem.W.findIn K (.ref C0) "column" = some none)
    (i1 : PySem.W.findIn K (.ref C1) "__init__" = some (some (.ref f1)))
    (t1 : PySem.W.typeIn K (.ref f1) = some (.type "function"))
    (l1 : FRaw K "__init__" "BadProgram.__init__" sBadPrograminit f1)
    (n1_0 : PySem.W.findIn K (.ref C1) "line" = some none)
    (n1_1 : PySem.W.findIn K (.ref C1) "what" = some none)
    (i2 : PySem.W.findIn K (.ref C2) "__init__" = some (some (.ref f2)))
    (t2 : PySem.W.typeIn K (.ref f2) = some (.type "function"))
    (l2 : FRaw K "__init__" "BadValue.__init__" sBadValueinit f2)
    (n2_0 : PySem.W.findIn K (.ref C2) "value" = some none)
    (n2_1 : PySem.W.findIn K (.ref C2) "why" = some none)
    (i3 : PySem.W.findIn K (.ref C3) "__init__" = some (some (.ref f3)))
    (t3 : PySem.W.typeIn K (.ref f3) = some (.type "function"))
    (l3 : FRaw K "__init__" "BadName.__init__" sBadNameinit f3)
    (n3_0 : PySem.W.findIn K (.ref C3) "name" = some none)
    (i4 : PySem.W.findIn K (.ref C4) "__init__" = some (some (.ref f4)))
    (t4 : PySem.W.typeIn K (.ref f4) = some (.type "function"))
    (l4 : FRaw K "__init__" "NoName.__init__" sNoNameinit f4)
    (n4_0 : PySem.W.findIn K (.ref C4) "name" = some none)
    (i5 : PySem.W.findIn K (.ref C5) "__init__" = some (some (.ref f5)))
    (t5 : PySem.W.typeIn K (.ref f5) = some (.type "function"))
    (l5 : FRaw K "__init__" "TakenName.__init__" sTakenNameinit f5)
    (n5_0 : PySem.W.findIn K (.ref C5) "name" = some none)
    (i6 : PySem.W.findIn K (.ref C6) "__init__" = some (some (.ref f6)))
    (t6 : PySem.W.typeIn K (.ref f6) = some (.type "function"))
    (l6 : FRaw K "__init__" "BadNumber.__init__" sBadNumberinit f6)
    (n6_0 : PySem.W.findIn K (.ref C6) "what" = some none)
    (n6_1 : PySem.W.findIn K (.ref C6) "number" = some none)
    (i7 : PySem.W.findIn K (.ref C7) "__init__" = some (some (.ref f7)))
    (t7 : PySem.W.typeIn K (.ref f7) = some (.type "function"))
    (l7 : FRaw K "__init__" "TooMany.__init__" sTooManyinit f7)
    (n7_0 : PySem.W.findIn K (.ref C7) "what" = some none)
    (n7_1 : PySem.W.findIn K (.ref C7) "many" = some none)
    (n7_2 : PySem.W.findIn K (.ref C7) "limit" = some none)
    (i8 : PySem.W.findIn K (.ref C8) "__init__" = some (some (.ref f8)))
    (t8 : PySem.W.typeIn K (.ref f8) = some (.type "function"))
    (l8 : FRaw K "__init__" "BadNet.__init__" sBadNetinit f8)
    (n8_0 : PySem.W.findIn K (.ref C8) "what" = some none)
    (i9 : PySem.W.findIn K (.ref C9) "__init__" = some (some (.ref f9)))
    (t9 : PySem.W.typeIn K (.ref f9) = some (.type "function"))
    (l9 : FRaw K "__init__" "NotKept.__init__" sNotKeptinit f9)
    (n9_0 : PySem.W.findIn K (.ref C9) "promise" = some none)
    (n9_1 : PySem.W.findIn K (.ref C9) "witness" = some none)
    (e10 : PySem.W.excIn K C10 [.type "ValueError", .type "Exception", .type "BaseException", .type "object"] "ValueError.__new__" = true)
    (e11 : PySem.W.excIn K C11 [.type "ValueError", .type "Exception", .type "BaseException", .type "object"] "ValueError.__new__" = true)
    (jn : PySem.W.nsIn K mainGlobals "JoinError" = some (some (.ref J)))
    (jc : PySem.W.isClsIn K J = true)
    (jt : PySem.W.typeIn K (.ref J) = some (.type "type"))
    (gt : PySem.W.specialIn K (.builtin "object.__class__") "__get__" = some (some (.builtin "getset_descriptor.__get__")))
    (tk : PySem.W.takesIn K (.builtin "object.__class__") = some true)
    (nd : [C0, C1, C2, C3, C4, C5, C6, C7, C8, C9, C10, C11].Nodup)
    (nj : ¬ J ∈ [C0, C1, C2, C3, C4, C5, C6, C7, C8, C9, C10, C11])
    (z_isinstance : PySem.W.nsIn K mainGlobals "isinstance" = some none)
    (z_ValueError : PySem.W.nsIn K mainGlobals "ValueError" = some none)
    (z_enumerate : PySem.W.nsIn K mainGlobals "enumerate" = some none)
    (z_range : PySem.W.nsIn K mainGlobals "range" = some none)
    (z_len : PySem.W.nsIn K mainGlobals "len" = some none)
    (z_repr : PySem.W.nsIn K mainGlobals "repr" = some none)
    (z_int : PySem.W.nsIn K mainGlobals "int" = some none)
    (z_list : PySem.W.nsIn K mainGlobals "list" = some none)
    (g_law_pen : PySem.W.nsIn K mainGlobals "_law_pen" = some (some (.ref fP)))
    (d_law_pen : FRaw K "_law_pen" "_law_pen" sPen fP)
    (g_law_draw : PySem.W.nsIn K mainGlobals "_law_draw" = some (some (.ref fD)))
    (d_law_draw : FRaw K "_law_draw" "_law_draw" sDraw fD)
    (g_law_pick : PySem.W.nsIn K mainGlobals "_law_pick" = some (some (.ref fQ)))
    (d_law_pick : FRaw K "_law_pick" "_law_pick" sPick fQ)
    (g_law_kinds_of : PySem.W.nsIn K mainGlobals "_law_kinds_of" = some (some (.ref fK)))
    (d_law_kinds_of : FRaw K "_law_kinds_of" "_law_kinds_of" sLkindsof fK)
    (g_law_one_of_each : PySem.W.nsIn K mainGlobals "_law_one_of_each" = some (some (.ref fO)))
    (d_law_one_of_each : FRaw K "_law_one_of_each" "_law_one_of_each" sLoneofeach fO)
    (g_law : PySem.W.nsIn K mainGlobals "law" = some (some (.ref fL)))
    (d_law : FRaw K "law" "law" slaw fL)
    : ∃ fd : FuncData, Fun K "law" "law" slaw fa fd ∧ (∀ (s : Shared) (u : Value), BindsTo s fd ⟨[u], []⟩ [("_law_script", u)]) ∧
        ∀ (base : Heap) (cdv : Value) (s : Shared) (H : Hp) (a : Addr) (ns : List Int), K.In base → base.Ns mainGlobals mg → ns.length ≤ 63 → SqL K H a (ns.map V.int) →
          ∃ t, PSs (cxOf CX0 P w K mg base Nlaw "law" (defScope slaw) fa cdv callerA [] s H E0).nox (defBody slaw) t ∧ t { nx := fun _ _ => False, rt := fun v _ => v = .bl true } (start Nlaw [.ref a]) H := by
  have e := hfa.symm.trans (PySem.W.mg_of X G g_law)
  cases e
  obtain ⟨oc, od, kV, doc, pm, an, cdv, ct, osl, lk, cc⟩ := l0.ex
  have F0 := fun_mk (st := sBadTextinit) lk cc l0.kp
  have B0 := F0.binds (ps := ["self", "line", "column"]) fun _ _ _ _ _ _ us hl => match us, hl with | [_, _, _], _ => rfl
  generalize PySem.W.fnOf _ _ _ _ _ _ kV doc pm an cdv ct = fd0 at F0 B0
  clear lk cc
  obtain ⟨oc, od, kV, doc, pm, an, cdv, ct, osl, lk, cc⟩ := l1.ex
  have F1 := fun_mk (st := sBadPrograminit) lk cc l1.kp
  have B1 := F1.binds (ps := ["self", "line", "what"]) fun _ _ _ _ _ _ us hl => match us, hl with | [_, _, _], _ => rfl
  generalize PySem.W.fnOf _ _ _ _ _ _ kV doc pm an cdv ct = fd1 at F1 B1
  clear lk cc
  obtain ⟨oc, od, kV, doc, pm, an, cdv, ct, osl, lk, cc⟩ := l2.ex
  have F2 := fun_mk (st := sBadValueinit) lk cc l2.kp
  have B2 := F2.binds (ps := ["self", "value", "why"]) fun _ _ _ _ _ _ us hl => match us, hl with | [_, _, _], _ => rfl
  generalize PySem.W.fnOf _ _ _ _ _ _ kV doc pm an cdv ct = fd2 at F2 B2
  clear lk cc
  obtain ⟨oc, od, kV, doc, pm, an, cdv, ct, osl, lk, cc⟩ := l3.ex
  have F3 := fun_mk (st := sBadNameinit) lk cc l3.kp
  have B3 := F3.binds (ps := ["self", "name"]) fun _ _ _ _ _ _ us hl => match us, hl with | [_, _], _ => rfl
  generalize PySem.W.fnOf _ _ _ _ _ _ kV doc pm an cdv ct = fd3 at F3 B3
  clear lk cc
  obtain ⟨oc, od, kV, doc, pm, an, cdv, ct, osl, lk, cc⟩ := l4.ex
  have F4 := fun_mk (st := sNoNameinit) lk cc l4.kp
  have B4 := F4.binds (ps := ["self", "name"]) fun _ _ _ _ _ _ us hl => match us, hl with | [_, _], _ => rfl
  generalize PySem.W.fnOf _ _ _ _ _ _ kV doc pm an cdv ct = fd4 at F4 B4
  clear lk cc
  obtain ⟨oc, od, kV, doc, pm, an, cdv, ct, osl, lk, cc⟩ := l5.ex
  have F5 := fun_mk (st := sTakenNameinit) lk cc l5.kp
  have B5 := F5.binds (ps := ["self", "name"]) fun _ _ _ _ _ _ us hl => match us, hl with | [_, _], _ => rfl
  generalize PySem.W.fnOf _ _ _ _ _ _ kV doc pm an cdv ct = fd5 at F5 B5
  clear lk cc
  obtain ⟨oc, od, kV, doc, pm, an, cdv, ct, osl, lk, cc⟩ := l6.ex
  have F6 := fun_mk (st := sBadNumberinit) lk cc l6.kp
  have B6 := F6.binds (ps := ["self", "what", "number"]) fun _ _ _ _ _ _ us hl => match us, hl with | [_, _, _], _ => rfl
  generalize PySem.W.fnOf _ _ _ _ _ _ kV doc pm an cdv ct = fd6 at F6 B6
  clear lk cc
  obtain ⟨oc, od, kV, doc, pm, an, cdv, ct, osl, lk, cc⟩ := l7.ex
  have F7 := fun_mk (st := sTooManyinit) lk cc l7.kp
  have B7 := F7.binds (ps := ["self", "what", "many", "limit"]) fun _ _ _ _ _ _ us hl => match us, hl with | [_, _, _, _], _ => rfl
  generalize PySem.W.fnOf _ _ _ _ _ _ kV doc pm an cdv ct = fd7 at F7 B7
  clear lk cc
  obtain ⟨oc, od, kV, doc, pm, an, cdv, ct, osl, lk, cc⟩ := l8.ex
  have F8 := fun_mk (st := sBadNetinit) lk cc l8.kp
  have B8 := F8.binds (ps := ["self", "what"]) fun _ _ _ _ _ _ us hl => match us, hl with | [_, _], _ => rfl
  generalize PySem.W.fnOf _ _ _ _ _ _ kV doc pm an cdv ct = fd8 at F8 B8
  clear lk cc
  obtain ⟨oc, od, kV, doc, pm, an, cdv, ct, osl, lk, cc⟩ := l9.ex
  have F9 := fun_mk (st := sNotKeptinit) lk cc l9.kp
  have B9 := F9.binds (ps := ["self", "promise", "witness"]) fun _ _ _ _ _ _ us hl => match us, hl with | [_, _, _], _ => rfl
  generalize PySem.W.fnOf _ _ _ _ _ _ kV doc pm an cdv ct = fd9 at F9 B9
  clear lk cc
  obtain ⟨oc, od, kV, doc, pm, an, cdv, ct, osl, lk, cc⟩ := d_law_pen.ex
  have F_law_pen := fun_mk (st := sPen) lk cc d_law_pen.kp
  have B_law_pen := F_law_pen.binds (ps := ["_law_script"]) fun _ _ _ _ _ _ us hl => match us, hl with | [_], _ => rfl
  generalize PySem.W.fnOf _ _ _ _ _ _ kV doc pm an cdv ct = fd_law_pen at F_law_pen B_law_pen
  clear lk cc
  obtain ⟨oc, od, kV, doc, pm, an, cdv, ct, osl, lk, cc⟩ := d_law_draw.ex
  have F_law_draw := fun_mk (st := sDraw) lk cc d_law_draw.kp
  have B_law_draw := F_law_draw.binds (ps := ["_law_pen_here", "_law_many"]) fun _ _ _ _ _ _ us hl => match us, hl with | [_, _], _ => rfl
  generalize PySem.W.fnOf _ _ _ _ _ _ kV doc pm an cdv ct = fd_law_draw at F_law_draw B_law_draw
  clear lk cc
  obtain ⟨oc, od, kV, doc, pm, an, cdv, ct, osl, lk, cc⟩ := d_law_pick.ex
  have F_law_pick := fun_mk (st := sPick) lk cc d_law_pick.kp
  have B_law_pick := F_law_pick.binds (ps := ["_law_pen_here", "_law_some"]) fun _ _ _ _ _ _ us hl => match us, hl with | [_, _], _ => rfl
  generalize PySem.W.fnOf _ _ _ _ _ _ kV doc pm an cdv ct = fd_law_pick at F_law_pick B_law_pick
  clear lk cc
  obtain ⟨oc, od, kV, doc, pm, an, cdv, ct, osl, lk, cc⟩ := d_law_kinds_of.ex
  have F_law_kinds_of := fun_mk (st := sLkindsof) lk cc d_law_kinds_of.kp
  have B_law_kinds_of := F_law_kinds_of.binds (ps := ["_law_value"]) fun _ _ _ _ _ _ us hl => match us, hl with | [_], _ => rfl
  generalize PySem.W.fnOf _ _ _ _ _ _ kV doc pm an cdv ct = fd_law_kinds_of at F_law_kinds_of B_law_kinds_of
  clear lk cc
  obtain ⟨oc, od, kV, doc, pm, an, cdv, ct, osl, lk, cc⟩ := d_law_one_of_each.ex
  have F_law_one_of_each := fun_mk (st := sLoneofeach) lk cc d_law_one_of_each.kp
  have B_law_one_of_each := F_law_one_of_each.binds (ps := ["_law_a", "_law_b", "_law_c"]) fun _ _ _ _ _ _ us hl => match us, hl with | [_, _, _], _ => rfl
  generalize PySem.W.fnOf _ _ _ _ _ _ kV doc pm an cdv ct = fd_law_one_of_each at F_law_one_of_each B_law_one_of_each
  clear lk cc
  have PT : PenTxt mg := ⟨PySem.W.mg_none_of X G z_int, PySem.W.mg_none_of X G z_list, PySem.W.mg_none_of X G z_len⟩
  have dj : ∀ D ∈ [C0, C1, C2, C3, C4, C5, C6, C7, C8, C9, C10, C11], D ≠ J := fun D m q => nj (q ▸ m)
  have jcl : (PySem.W.clsIn K J).isSome = true := jc
  have T : Txt K mg C0 C1 C2 C3 C4 C5 C6 C7 C8 C9 C10 C11 J f0 f1 f2 f3 f4 f5 f6 f7 f8 f9 fd0 fd1 fd2 fd3 fd4 fd5 fd6 fd7 fd8 fd9 := {
    X_BadText := ⟨PySem.W.mg_of X G x0.ns, x0.oex, i0, t0, x0.isC gt tk, ⟨x0.ga, x0.gg, x0.sb, x0.hd⟩, fun f hf => by simp only [List.mem_cons, List.not_mem_nil, or_false] at hf; rcases hf with rfl | rfl <;> assumption⟩
    F_BadText := F0
    B_BadText := B0
    X_BadProgram := ⟨PySem.W.mg_of X G x1.ns, x1.oex, i1, t1, x1.isC gt tk, ⟨x1.ga, x1.gg, x1.sb, x1.hd⟩, fun f hf => by simp only [List.mem_cons, List.not_mem_nil, or_false] at hf; rcases hf with rfl | rfl <;> assumption⟩
    F_BadProgram := F1
    B_BadProgram := B1
    X_BadValue := ⟨PySem.W.mg_of X G x2.ns, x2.oex, i2, t2, x2.isC gt tk, ⟨x2.ga, x2.gg, x2.sb, x2.hd⟩, fun f hf => by simp only [List.mem_cons, List.not_mem_nil, or_false] at hf; rcases hf with rfl | rfl <;> assumption⟩
    F_BadValue := F2
    B_BadValue := B2
    X_BadName := ⟨PySem.W.mg_of X G x3.ns, x3.oex, i3, t3, x3.isC gt tk, ⟨x3.ga, x3.gg, x3.sb, x3.hd⟩, fun f hf => by simp only [List.mem_cons, List.not_mem_nil, or_false] at hf; rcases hf with rfl <;> assumption⟩
    F_BadName := F3
    B_BadName := B3
    X_NoName := ⟨PySem.W.mg_of X G x4.ns, x4.oex, i4, t4, x4.isC gt tk, ⟨x4.ga, x4.gg, x4.sb, x4.hd⟩, fun f hf => by simp only [List.mem_cons, List.not_mem_nil, or_false] at hf; rcases hf with rfl <;> assumption⟩
    F_NoName := F4
    B_NoName := B4
    X_TakenName := ⟨PySem.W.mg_of X G x5.ns, x5.oex, i5, t5, x5.isC gt tk, ⟨x5.ga, x5.gg, x5.sb, x5.hd⟩, fun f hf => by simp only [List.mem_cons, List.not_mem_nil, or_false] at hf; rcases hf with rfl <;> assumption⟩
    F_TakenName := F5
    B_TakenName := B5
    X_BadNumber := ⟨PySem.W.mg_of X G x6.ns, x6.oex, i6, t6, x6.isC gt tk, ⟨x6.ga, x6.gg, x6.sb, x6.hd⟩, fun f hf => by simp only [List.mem_cons, List.not_mem_nil, or_false] at hf; rcases hf with rfl | rfl <;> assumption⟩
    F_BadNumber := F6
    B_BadNumber := B6
    X_TooMany := ⟨PySem.W.mg_of X G x7.ns, x7.oex, i7, t7, x7.isC gt tk, ⟨x7.ga, x7.gg, x7.sb, x7.hd⟩, fun f hf => by simp only [List.mem_cons, List.not_mem_nil, or_false] at hf; rcases hf with rfl | rfl | rfl <;> assumption⟩
    F_TooMany := F7
    B_TooMany := B7
    X_BadNet := ⟨PySem.W.mg_of X G x8.ns, x8.oex, i8, t8, x8.isC gt tk, ⟨x8.ga, x8.gg, x8.sb, x8.hd⟩, fun f hf => by simp only [List.mem_cons, List.not_mem_nil, or_false] at hf; rcases hf with rfl <;> assumption⟩
    F_BadNet := F8
    B_BadNet := B8
    X_NotKept := ⟨PySem.W.mg_of X G x9.ns, x9.oex, i9, t9, x9.isC gt tk, ⟨x9.ga, x9.gg, x9.sb, x9.hd⟩, fun f hf => by simp only [List.mem_cons, List.not_mem_nil, or_false] at hf; rcases hf with rfl | rfl <;> assumption⟩
    F_NotKept := F9
    B_NotKept := B9
    X_NothingToUndo := ⟨PySem.W.mg_of X G x10.ns, e10, x10.kp, x10.isC gt tk⟩
    X_NothingToRedo := ⟨PySem.W.mg_of X G x11.ns, e11, x11.kp, x11.isC gt tk⟩
    gJ := PySem.W.mg_of X G jn
    isC := fun C hC => by
      simp only [List.mem_cons, List.not_mem_nil, or_false] at hC
      rcases hC with rfl | rfl | rfl | rfl | rfl | rfl | rfl | rfl | rfl | rfl | rfl | rfl <;> (first | exact x0.isC gt tk | exact x1.isC gt tk | exact x2.isC gt tk | exact x3.isC gt tk | exact x4.isC gt tk | exact x5.isC gt tk | exact x6.isC gt tk | exact x7.isC gt tk | exact x8.isC gt tk | exact x9.isC gt tk | exact x10.isC gt tk | exact x11.isC gt tk)
    kit := fun C hC D hD => by
      have dD := dj D hD
      obtain ⟨y, J', hy⟩ : ∃ y J', XRaw K y D J' := by
        simp only [List.mem_cons, List.not_mem_nil, or_false] at hD
        rcases hD with rfl | rfl | rfl | rfl | rfl | rfl | rfl | rfl | rfl | rfl | rfl | rfl <;> (first | exact ⟨_, _, x0⟩ | exact ⟨_, _, x1⟩ | exact ⟨_, _, x2⟩ | exact ⟨_, _, x3⟩ | exact ⟨_, _, x4⟩ | exact ⟨_, _, x5⟩ | exact ⟨_, _, x6⟩ | exact ⟨_, _, x7⟩ | exact ⟨_, _, x8⟩ | exact ⟨_, _, x9⟩ | exact ⟨_, _, x10⟩ | exact ⟨_, _, x11⟩)
      simp only [List.mem_cons, List.not_mem_nil, or_false] at hC
      rcases hC with rfl | rfl | rfl | rfl | rfl | rfl | rfl | rfl | rfl | rfl | rfl | rfl <;> (first | exact x0.kit hy dD | exact x1.kit hy dD | exact x2.kit hy dD | exact x3.kit hy dD | exact x4.kit hy dD | exact x5.kit hy dD | exact x6.kit hy dD | exact x7.kit hy dD | exact x8.kit hy dD | exact x9.kit hy dD | exact x10.kit hy dD | exact x11.kit hy dD)
    kitJ := fun C hC => by
      simp only [List.mem_cons, List.not_mem_nil, or_false] at hC
      rcases hC with rfl | rfl | rfl | rfl | rfl | rfl | rfl | rfl | rfl | rfl | rfl | rfl <;> (first | exact x0.kitJ jcl jt | exact x1.kitJ jcl jt | exact x2.kitJ jcl jt | exact x3.kitJ jcl jt | exact x4.kitJ jcl jt | exact x5.kitJ jcl jt | exact x6.kitJ jcl jt | exact x7.kitJ jcl jt | exact x8.kitJ jcl jt | exact x9.kitJ jcl jt | exact x10.kitJ jcl jt | exact x11.kitJ jcl jt)
    kitV := fun C hC => by
      simp only [List.mem_cons, List.not_mem_nil, or_false] at hC
      rcases hC with rfl | rfl | rfl | rfl | rfl | rfl | rfl | rfl | rfl | rfl | rfl | rfl <;> (first | exact x0.kitV | exact x1.kitV | exact x2.kitV | exact x3.kitV | exact x4.kitV | exact x5.kitV | exact x6.kitV | exact x7.kitV | exact x8.kitV | exact x9.kitV | exact x10.kitV | exact x11.kitV)
    nd := nd
    isinstance := PySem.W.mg_none_of X G z_isinstance
    VE := PySem.W.mg_none_of X G z_ValueError
    enumerate := PySem.W.mg_none_of X G z_enumerate
    range := PySem.W.mg_none_of X G z_range
    len := PySem.W.mg_none_of X G z_len
    repr := PySem.W.mg_none_of X G z_repr
  }
  obtain ⟨oc, od, kV, doc, pm, an, cdv, ct, osl, lk, cc⟩ := d_law.ex
  refine ⟨_, fun_mk (st := slaw) lk cc d_law.kp, fun s v => .of_eq rfl, fun base cdv s H a ns _ _ hlen hS => ?_⟩
  exact rd_law T PT F_law_pen B_law_pen (PySem.W.mg_of X G g_law_pen) F_law_draw B_law_draw (PySem.W.mg_of X G g_law_draw) F_law_pick B_law_pick (PySem.W.mg_of X G g_law_pick) F_law_kinds_of B_law_kinds_of (PySem.W.mg_of X G g_law_kinds_of) F_law_one_of_each B_law_one_of_each (PySem.W.mg_of X G g_law_one_of_each) base cdv s H a ns hlen hS
end Nm
open PySem PySem.W PyProof.Rows in
set_option maxRecDepth 100000 in
set_option maxHeartbeats 0 in
theorem PySem.Challenge.cw_namedmeets_k00_errors_holds : PySem.Challenge.rw_namedmeets_k00_errors.Holds := by
  w_on; o_law; k_head; (case hw => w_witness2)
  k_fill
  refine Nm.walk_g (l := PySem.Challenge.rw_namedmeets_k00_errors) (k := 3) (x := "_law_script") (st := Nm.slaw) (qual := "law") (N := Nm.Nlaw) rfl rfl ⟨rfl, by decide, by decide⟩ Nm.sclaw (fun w h Y => PySem.W.kIn_of Y) ?F
  intro w mg fa h KX G hmg
  refine' Nm.fin KX G hmg ?x0 ?x1 ?x2 ?x3 ?x4 ?x5 ?x6 ?x7 ?x8 ?x9 ?x10 ?x11 ?i0 ?t0 ?l0 ?n0_0 ?n0_1 ?i1 ?t1 ?l1 ?n1_0 ?n1_1 ?i2 ?t2 ?l2 ?n2_0 ?n2_1 ?i3 ?t3 ?l3 ?n3_0 ?i4 ?t4 ?l4 ?n4_0 ?i5 ?t5 ?l5 ?n5_0 ?i6 ?t6 ?l6 ?n6_0 ?n6_1 ?i7 ?t7 ?l7 ?n7_0 ?n7_1 ?n7_2 ?i8 ?t8 ?l8 ?n8_0 ?i9 ?t9 ?l9 ?n9_0 ?n9_1 ?e10 ?e11 ?jn ?jc ?jt ?gt ?tk ?nd ?nj ?z_isinstance ?z_ValueError ?z_enumerate ?z_range ?z_len ?z_repr ?z_int ?z_list ?g_law_pen ?d_law_pen ?g_law_draw ?d_law_draw ?g_law_pick ?d_law_pick ?g_law_kinds_of ?d_law_kinds_of ?g_law_one_of_each ?d_law_one_of_each ?g_law ?d_law
  (case jn => k_is)
  (case x0 => refine' Nm.xraw_mk ?a ?b ?c ?d ?e ?f ?g ?h ?i ?j ?k; (case a => k_is); (case b => k_is); (case c => k_is); (case d => k_is); (case e => k_is); (case f => k_is); (case g => k_is); (case h => k_is); (case i => k_is); (case j => k_is); (case k => k_is))
  (case x1 => refine' Nm.xraw_mk ?a ?b ?c ?d ?e ?f ?g ?h ?i ?j ?k; (case a => k_is); (case b => k_is); (case c => k_is); (case d => k_is); (case e => k_is); (case f => k_is); (case g => k_is); (case h => k_is); (case i => k_is); (case j => k_is); (case k => k_is))
  (case x2 => refine' Nm.xraw_mk ?a ?b ?c ?d ?e ?f ?g ?h ?i ?j ?k; (case a => k_is); (case b => k_is); (case c => k_is); (case d => k_is); (case e => k_is); (case f => k_is); (case g => k_is); (case h => k_is); (case i => k_is); (case j => k_is); (case k => k_is))
  (case x3 => refine' Nm.xraw_mk ?a ?b ?c ?d ?e ?f ?g ?h ?i ?j ?k; (case a => k_is); (case b => k_is); (case c => k_is); (case d => k_is); (case e => k_is); (case f => k_is); (case g => k_is); (case h => k_is); (case i => k_is); (case j => k_is); (case k => k_is))
  (case x4 => refine' Nm.xraw_mk ?a ?b ?c ?d ?e ?f ?g ?h ?i ?j ?k; (case a => k_is); (case b => k_is); (case c => k_is); (case d => k_is); (case e => k_is); (case f => k_is); (case g => k_is); (case h => k_is); (case i => k_is); (case j => k_is); (case k => k_is))
  (case x5 => refine' Nm.xraw_mk ?a ?b ?c ?d ?e ?f ?g ?h ?i ?j ?k; (case a => k_is); (case b => k_is); (case c => k_is); (case d => k_is); (case e => k_is); (case f => k_is); (case g => k_is); (case h => k_is); (case i => k_is); (case j => k_is); (case k => k_is))
  (case x6 => refine' Nm.xraw_mk ?a ?b ?c ?d ?e ?f ?g ?h ?i ?j ?k; (case a => k_is); (case b => k_is); (case c => k_is); (case d => k_is); (case e => k_is); (case f => k_is); (case g => k_is); (case h => k_is); (case i => k_is); (case j => k_is); (case k => k_is))
  (case x7 => refine' Nm.xraw_mk ?a ?b ?c ?d ?e ?f ?g ?h ?i ?j ?k; (case a => k_is); (case b => k_is); (case c => k_is); (case d => k_is); (case e => k_is); (case f => k_is); (case g => k_is); (case h => k_is); (case i => k_is); (case j => k_is); (case k => k_is))
  (case x8 => refine' Nm.xraw_mk ?a ?b ?c ?d ?e ?f ?g ?h ?i ?j ?k; (case a => k_is); (case b => k_is); (case c => k_is); (case d => k_is); (case e => k_is); (case f => k_is); (case g => k_is); (case h => k_is); (case i => k_is); (case j => k_is); (case k => k_is))
  (case x9 => refine' Nm.xraw_mk ?a ?b ?c ?d ?e ?f ?g ?h ?i ?j ?k; (case a => k_is); (case b => k_is); (case c => k_is); (case d => k_is); (case e => k_is); (case f => k_is); (case g => k_is); (case h => k_is); (case i => k_is); (case j => k_is); (case k => k_is))
  (case x10 => refine' Nm.xraw_mk ?a ?b ?c ?d ?e ?f ?g ?h ?i ?j ?k; (case a => k_is); (case b => k_is); (case c => k_is); (case d => k_is); (case e => k_is); (case f => k_is); (case g => k_is); (case h => k_is); (case i => k_is); (case j => k_is); (case k => k_is))
  (case x11 => refine' Nm.xraw_mk ?a ?b ?c ?d ?e ?f ?g ?h ?i ?j ?k; (case a => k_is); (case b => k_is); (case c => k_is); (case d => k_is); (case e => k_is); (case f => k_is); (case g => k_is); (case h => k_is); (case i => k_is); (case j => k_is); (case k => k_is))
  (case i0 => k_is)
  (case t0 => k_is)
  (case l0 => refine' Nm.fraw_mk ?a ?b ?c; (case a => k_is); (case b => k_is); (case c => k_is))
  (case n0_0 => k_is)
  (case n0_1 => k_is)
  (case i1 => k_is)
  (case t1 => k_is)
  (case l1 => refine' Nm.fraw_mk ?a ?b ?c; (case a => k_is); (case b => k_is); (case c => k_is))
  (case n1_0 => k_is)
  (case n1_1 => k_is)
  (case i2 => k_is)
  (case t2 => k_is)
  (case l2 => refine' Nm.fraw_mk ?a ?b ?c; (case a => k_is); (case b => k_is); (case c => k_is))
  (case n2_0 => k_is)
  (case n2_1 => k_is)
  (case i3 => k_is)
  (case t3 => k_is)
  (case l3 => refine' Nm.fraw_mk ?a ?b ?c; (case a => k_is); (case b => k_is); (case c => k_is))
  (case n3_0 => k_is)
  (case i4 => k_is)
  (case t4 => k_is)
  (case l4 => refine' Nm.fraw_mk ?a ?b ?c; (case a => k_is); (case b => k_is); (case c => k_is))
  (case n4_0 => k_is)
  (case i5 => k_is)
  (case t5 => k_is)
  (case l5 => refine' Nm.fraw_mk ?a ?b ?c; (case a => k_is); (case b => k_is); (case c => k_is))
  (case n5_0 => k_is)
  (case i6 => k_is)
  (case t6 => k_is)
  (case l6 => refine' Nm.fraw_mk ?a ?b ?c; (case a => k_is); (case b => k_is); (case c => k_is))
  (case n6_0 => k_is)
  (case n6_1 => k_is)
  (case i7 => k_is)
  (case t7 => k_is)
  (case l7 => refine' Nm.fraw_mk ?a ?b ?c; (case a => k_is); (case b => k_is); (case c => k_is))
  (case n7_0 => k_is)
  (case n7_1 => k_is)
  (case n7_2 => k_is)
  (case i8 => k_is)
  (case t8 => k_is)
  (case l8 => refine' Nm.fraw_mk ?a ?b ?c; (case a => k_is); (case b => k_is); (case c => k_is))
  (case n8_0 => k_is)
  (case i9 => k_is)
  (case t9 => k_is)
  (case l9 => refine' Nm.fraw_mk ?a ?b ?c; (case a => k_is); (case b => k_is); (case c => k_is))
  (case n9_0 => k_is)
  (case n9_1 => k_is)
  (case e10 => k_exc)
  (case e11 => k_exc)
  (case jc => k_is)
  (case jt => k_is)
  (case gt => k_is)
  (case tk => k_is)
  (case z_isinstance => k_is)
  (case z_ValueError => k_is)
  (case z_enumerate => k_is)
  (case z_range => k_is)
  (case z_len => k_is)
  (case z_repr => k_is)
  (case z_int => k_is)
  (case z_list => k_is)
  (case g_law_pen => k_is)
  (case d_law_pen => refine' Nm.fraw_mk ?a ?b ?c; (case a => k_is); (case b => k_is); (case c => k_is))
  (case g_law_draw => k_is)
  (case d_law_draw => refine' Nm.fraw_mk ?a ?b ?c; (case a => k_is); (case b => k_is); (case c => k_is))
  (case g_law_pick => k_is)
  (case d_law_pick => refine' Nm.fraw_mk ?a ?b ?c; (case a => k_is); (case b => k_is); (case c => k_is))
  (case g_law_kinds_of => k_is)
  (case d_law_kinds_of => refine' Nm.fraw_mk ?a ?b ?c; (case a => k_is); (case b => k_is); (case c => k_is))
  (case g_law_one_of_each => k_is)
  (case d_law_one_of_each => refine' Nm.fraw_mk ?a ?b ?c; (case a => k_is); (case b => k_is); (case c => k_is))
  (case g_law => k_is)
  (case d_law => refine' Nm.fraw_mk ?a ?b ?c; (case a => k_is); (case b => k_is); (case c => k_is))
  (case nd => decide +kernel)
  (case nj => decide +kernel)
