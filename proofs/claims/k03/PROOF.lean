import PyProof.Rows.All
import Wide.All
import OpenK.AllK
import Wide.FinOn
import HandS.ForMost
import HandS.Walk
import KE.GoesEnum
import KE.GoesMore
import HandS.IsInst
import HandS.StrMore
import PyProof.Rows.StrCut
import PySem.Challenge.RW_namedmeets_k03_words_of_lines
set_option Elab.async false
set_option maxRecDepth 100000
set_option maxHeartbeats 4000000
namespace Nm
open PySem L2
def top (i : Nat) : Stmt := PySem.Challenge.pw_namedmeets_k03_words_of_lines.main.body.getD i (.Pass ⟨0, 0, 0, 0⟩)
abbrev sPen : Stmt := top 16
abbrev sDraw : Stmt := top 17
abbrev sPick : Stmt := top 18
/-! ### the pen: the script's ints, the place, the digits left, the count, the fold -/
structure Pen where
  l : Addr
  ns : List Int
  i : Int
  d : Int
  c : Int
  f : Int
def kCe : Key := .inr "cells"
def kAt : Key := .inr "at"
def kDi : Key := .inr "digits"
def kCo : Key := .inr "count"
def kFo : Key := .inr "fold"
theorem ce_at : ¬ kCe = kAt := by decide +kernel
theorem ce_di : ¬ kCe = kDi := by decide +kernel
theorem ce_co : ¬ kCe = kCo := by decide +kernel
theorem ce_fo : ¬ kCe = kFo := by decide +kernel
theorem at_di : ¬ kAt = kDi := by decide +kernel
theorem at_co : ¬ kAt = kCo := by decide +kernel
theorem at_fo : ¬ kAt = kFo := by decide +kernel
theorem di_co : ¬ kDi = kCo := by decide +kernel
theorem di_fo : ¬ kDi = kFo := by decide +kernel
theorem co_fo : ¬ kCo = kFo := by decide +kernel
def Pen.kvs (z : Pen) : List (Key × V) := [(kCe, .ref z.l), (kAt, .int z.i), (kDi, .int z.d), (kCo, .int z.c), (kFo, .int z.f)]
structure Pen.Ok (z : Pen) : Prop where
  i0 : 0 ≤ z.i
  i1 : z.i ≤ (z.ns.length : Int)
  d0 : 0 ≤ z.d
  c0 : 0 ≤ z.c
  f0 : 0 ≤ z.f
  f1 : z.f < 2147483587
theorem pen_ce (z : Pen) : valV z.kvs kCe = some (.ref z.l) := by unfold Pen.kvs; rw [valV_pos rfl]
theorem pen_at (z : Pen) : valV z.kvs kAt = some (.int z.i) := by unfold Pen.kvs; rw [valV_neg ce_at, valV_pos rfl]
theorem pen_di (z : Pen) : valV z.kvs kDi = some (.int z.d) := by unfold Pen.kvs; rw [valV_neg ce_di, valV_neg at_di, valV_pos rfl]
theorem pen_co (z : Pen) : valV z.kvs kCo = some (.int z.c) := by unfold Pen.kvs; rw [valV_neg ce_co, valV_neg at_co, valV_neg di_co, valV_pos rfl]
theorem pen_fo (z : Pen) : valV z.kvs kFo = some (.int z.f) := by unfold Pen.kvs; rw [valV_neg ce_fo, valV_neg at_fo, valV_neg di_fo, valV_neg co_fo, valV_pos rfl]
section
variable {κ : Type} [DecidableEq κ]
theorem putK_old {kvs : List (κ × V)} {k : κ} {u : V} (v : V) (h : valV kvs k = some u) : putK kvs k v = kvs.map fun kv => if kv.1 = k then (kv.1, v) else kv := by
  unfold putK
  rw [valV_any, h]
  rfl
end
theorem put_at (z : Pen) (v : Int) : putK z.kvs kAt (.int v) = ({ z with i := v } : Pen).kvs := by
  rw [putK_old _ (pen_at z)]
  unfold Pen.kvs
  simp only [List.map_cons, List.map_nil, if_neg ce_at, if_neg (Ne.symm at_di), if_neg (Ne.symm at_co), if_neg (Ne.symm at_fo), if_true]
theorem put_di (z : Pen) (v : Int) : putK z.kvs kDi (.int v) = ({ z with d := v } : Pen).kvs := by
  rw [putK_old _ (pen_di z)]
  unfold Pen.kvs
  simp only [List.map_cons, List.map_nil, if_neg ce_di, if_neg at_di, if_neg (Ne.symm di_co), if_neg (Ne.symm di_fo), if_true]
theorem put_co (z : Pen) (v : Int) : putK z.kvs kCo (.int v) = ({ z with c := v } : Pen).kvs := by
  rw [putK_old _ (pen_co z)]
  unfold Pen.kvs
  simp only [List.map_cons, List.map_nil, if_neg ce_co, if_neg at_co, if_neg di_co, if_neg (Ne.symm co_fo), if_true]
theorem put_fo (z : Pen) (v : Int) : putK z.kvs kFo (.int v) = ({ z with f := v } : Pen).kvs := by
  rw [putK_old _ (pen_fo z)]
  unfold Pen.kvs
  simp only [List.map_cons, List.map_nil, if_neg ce_fo, if_neg at_fo, if_neg di_fo, if_neg co_fo, if_true]
theorem dget {H : Hp} {a : Addr} {kvs : List (Key × V)} {k : Key} {v : V} (e : H a = some (.dK kvs)) (h : valV kvs k = some v) : DGet H a (kV k) (some v) := by
  rw [← h]
  exact DGet.k e
theorem dput {H : Hp} {a : Addr} {kvs kvs' : List (Key × V)} {k : Key} {v : V} (e : H a = some (.dK kvs)) (hl : kvs.length < sizeLine) (h : putK kvs k v = kvs') : DPut H a (kV k) v (upd H a (.dK kvs')) := by
  rw [← h]
  exact DPut.k e hl
theorem pen_len (z : Pen) : z.kvs.length < sizeLine := by
  show 5 < sizeLine
  decide
/-- a pen stands at p -/
structure PenAt (H : Hp) (p : Addr) (z : Pen) : Prop where
  at_ : H p = some (.dK z.kvs)
  cells : H z.l = some (.lst (z.ns.map V.int))
  ok : z.Ok
theorem PenAt.ne {H : Hp} {p : Addr} {z : Pen} (h : PenAt H p z) : z.l ≠ p := ne_of h.cells h.at_ (by intro q; cases q)
theorem PenAt.put {H : Hp} {p : Addr} {z z' : Pen} (h : PenAt H p z) (el : z'.l = z.l) (en : z'.ns = z.ns) (ok : z'.Ok) : PenAt (upd H p (.dK z'.kvs)) p z' :=
  ⟨upd_same, by rw [el, en, upd_ne h.ne]; exact h.cells, ok⟩
/-- a pen through a heap that keeps what was tracked -/
theorem PenAt.same {H H' : Hp} {p : Addr} {z : Pen} (h : PenAt H p z) (s : Same H H') : PenAt H' p z := ⟨s _ _ h.at_, s _ _ h.cells, h.ok⟩
/-- z' is z behind n draws -/
structure Pen.Go (n : Int) (z z' : Pen) : Prop where
  l : z'.l = z.l
  ns : z'.ns = z.ns
  c : z'.c = z.c + n
  ok : z'.Ok
theorem q_back {Q : V → Hp → Prop} {v : V} {H : Hp} {p : Addr} {zz : Pen} (e : H p = some (.dK zz.kvs)) (q : Q v (upd H p (.dK zz.kvs))) : Q v H := by
  have x : upd H p (.dK zz.kvs) = H := by
    funext b
    by_cases h : b = p
    · rw [h, upd_same, e]
    · rw [upd_ne h]
  rw [x] at q
  exact q
theorem atI_nat' {xs : List V} {i : Int} {v : V} (h0 : 0 ≤ i) (h : xs[i.toNat]? = some v) : atI xs i = some v := by
  obtain ⟨n, rfl⟩ := Int.eq_ofNat_of_zero_le h0
  exact atI_nat h

/-! ### the promises -/
def spPen (K : PySem.W.Frag) : Sp := fun vs H Q _ => ∃ (a : Addr) (ns : List Int), vs = [.ref a] ∧ SqL K H a (ns.map V.int) ∧ ns.length ≤ 63 ∧
  ∀ (p : Addr) (z : Pen) (H' : Hp), Same H H' → H p = none → z.c = 0 → PenAt H' p z → Q (.ref p) H'
def spDraw : Sp := fun vs H Q _ => ∃ (p : Addr) (z : Pen) (m : Int), vs = [.ref p, .int m] ∧ PenAt H p z ∧ 0 < m ∧ m < 1073741824 ∧ z.c < 1000000000000 ∧
  ∀ (r : Int) (z' : Pen), 0 ≤ r → r < m → Pen.Go 1 z z' → Q (.int r) (upd H p (.dK z'.kvs))
def spPick (K : PySem.W.Frag) : Sp := fun vs H Q _ => ∃ (p q : Addr) (z : Pen) (xs : List V), vs = [.ref p, .ref q] ∧ PenAt H p z ∧ H q = some (.lst xs) ∧ 0 < xs.length ∧ xs.length < 1073741824 ∧ z.c < 1000000000000 ∧
  ∀ (v : V) (z' : Pen), v ∈ xs → Pen.Go 1 z z' → Q v (upd H p (.dK z'.kvs))
structure PenTxt (mg : Str → Option Value) : Prop where
  int : mg "int" = none
  list : mg "list" = none
  len : mg "len" = none

section
variable {P : Program} {w : World} {K : PySem.W.Frag} {mg : Str → Option Value} {base : Heap}
theorem scPen : FnScope ["_law_script", "_law_fold", "_law_cell"] ["_law_script"] (defScope sPen) := ⟨rfl, rfl, rfl, by decide +kernel, rfl, by decide +kernel, by decide +kernel⟩
theorem int_of {ns : List Int} {i : Nat} {y : V} (hi : (ns.map V.int)[i]? = some y) : ∃ u, ns[i]? = some u ∧ y = V.int u := by
  rw [List.getElem?_map] at hi
  cases e : ns[i]? with
  | none =>
    rw [e] at hi
    cases hi
  | some u =>
    rw [e] at hi
    exact ⟨u, rfl, (Option.some.inj hi).symm⟩
theorem kV_ce : kV kCe = V.str "cells" := rfl
theorem ok_pen {f : Addr} {fd : FuncData} (F : Fun K "_law_pen" "_law_pen" sPen f fd) (T : PenTxt mg) : FnOk P w K mg base CX0 1 f fd ["_law_script"] (spPen K) := by
  refine F.ok scPen (fun vs H Q E h => ?_) (fun cdv A outer s H vs Q E hr h => ?_)
  · obtain ⟨a, ns, rfl, _⟩ := h
    rfl
  · obtain ⟨a, ns, rfl, hS, hlen, k⟩ := h
    have hu := hu_of hr
    refine ⟨_, pss_cons (ps_set (i := 1) scPen.nd rfl (Or.inl rfl) pe_int)
      (pss_cons (ps_for PassesOwn.never rfl (pi_list (pv 0)) (pg_name (i := 2) scPen.nd rfl (Or.inl rfl))
        (pss_one (ps_set (i := 1) scPen.nd rfl (Or.inl rfl) (pe_op op_mod (pe_callTy call_int1 (by rfl) T.int (by decide +kernel) (pa_cons (pe_op op_add (pe_op op_mul (pv 1) pe_int) (pv 2)) pa_nil)) pe_int))))
      (pss_one (ps_ret (pe_disp (pps_cons pe_str (pe_callTy call_list_of (by rfl) T.list (by decide +kernel) (pa_cons (pv 0) pa_nil)) (pps_cons pe_str pe_int (pps_cons pe_str pe_int (pps_cons pe_str pe_int (pps_cons pe_str (pv 1) pps_nil))))) (by rfl) (by rfl) (fun z => by cases z) (by decide))))), ?_⟩
    refine ⟨_, rfl, a, rfl, ⟨_, hS⟩, for_list (K := K) (a := a) (xs := ns.map V.int) (fun i σ H' => ∃ (g : Int) (v : Option V), σ = [some (.ref a), some (.int g), v] ∧ H' = H ∧ 0 ≤ g ∧ g < 1000000007)
      ⟨0, none, rfl, rfl, by decide, by decide⟩ (fun i σ H' _ ⟨_, _, _, e, _⟩ => by rw [e]; exact hS) ?_ ?_⟩
    · rintro i y σ H' hi ⟨g, v, rfl, rfl, g0, g1⟩
      obtain ⟨u, _, rfl⟩ := int_of hi
      refine ⟨_, rfl, _, _, rfl, rfl, .inl ⟨by omega, by omega⟩, _, rfl, _, _, rfl, rfl, .inl ⟨_, rfl, _, _, rfl, rfl, (by show (0 : Int) < 1000000007; decide), ?_⟩⟩
      exact ⟨_, _, rfl, rfl, Int.emod_nonneg _ (by decide), Int.emod_lt_of_pos _ (by decide)⟩
    · rintro σ H' ⟨g, v, rfl, rfl, g0, g1⟩
      intro p hp
      refine ⟨_, rfl, a, _, rfl, .inl ((Same.seq (H := H') (H' := upd H' p (.dK [])) (fun b o e => by rw [upd_ne (ne_of_none e hp)]; exact e)) hS), fun l hl => ?_⟩
      have lp : l ≠ p := fun q => by
        rw [q, upd_same] at hl
        cases hl
      have hl0 : H' l = none := by
        rw [upd_ne lp] at hl
        exact hl
      refine ⟨_, rfl, by rw [upd_ne lp.symm, upd_same], [(kCe, .ref l), (kAt, .int 0), (kDi, .int 0), (kCo, .int 0), (kFo, .int g)], rfl, (by show 5 ≤ 15; decide), ?_⟩
      let z : Pen := ⟨l, ns, 0, 0, 0, g⟩
      have em : mergeK [] [(kCe, V.ref l), (kAt, .int 0), (kDi, .int 0), (kCo, .int 0), (kFo, .int g)] = z.kvs := by
        simp [mergeK, putK, z, Pen.kvs, ce_at, ce_di, ce_co, ce_fo, at_di, at_co, at_fo, di_co, di_fo, co_fo]
      rw [em]
      refine k p z _ (fun b o e => ?_) hp rfl ⟨upd_same, ?_, ⟨Int.le_refl 0, by show (0 : Int) ≤ (ns.length : Int); omega, Int.le_refl 0, Int.le_refl 0, g0, by show g < 2147483587; omega⟩⟩
      · rw [upd_ne (ne_of_none e hp), upd_ne (ne_of_none e hl0), upd_ne (ne_of_none e hp)]
        exact e
      · show upd _ p _ l = _
        rw [upd_ne lp, upd_same]

theorem scDraw : FnScope ["_law_pen_here", "_law_many", "_law_cell", "_law_digit", "_law_mixed"] ["_law_pen_here", "_law_many"] (defScope sDraw) := ⟨rfl, rfl, rfl, by decide +kernel, rfl, by decide +kernel, by decide +kernel⟩
theorem fmod_in {x m : Int} (h : 0 < m) : 0 ≤ x.fmod m ∧ x.fmod m < m := ⟨by rw [Int.fmod_eq_emod_of_nonneg _ (Int.le_of_lt h)]; exact Int.emod_nonneg _ (Int.ne_of_gt h), Int.fmod_lt_of_pos x h⟩
theorem fdiv_nn {x m : Int} (h : 0 ≤ x) (hm : 0 < m) : 0 ≤ x.fdiv m := by
  rw [Int.fdiv_eq_ediv_of_nonneg _ (Int.le_of_lt hm)]
  exact Int.ediv_nonneg h (Int.le_of_lt hm)
theorem ok_draw {f : Addr} {fd : FuncData} (F : Fun K "_law_draw" "_law_draw" sDraw f fd) (T : PenTxt mg) : FnOk P w K mg base CX0 1 f fd ["_law_pen_here", "_law_many"] spDraw := by
  refine F.ok scDraw (fun vs H Q E h => ?_) (fun cdv A outer s H vs Q E hr h => ?_)
  · obtain ⟨p, z, m, rfl, _⟩ := h
    rfl
  · obtain ⟨p, z, m, rfl, Z, m0, m1, hc, k⟩ := h
    have hu := hu_of hr
    refine ⟨_, pss_cons (ps_dput hu (pv 0) pe_str (pe_op op_add (pe_dget hu (pv 0) pe_str (fun _ _ => rfl)) pe_int) rfl)
      (pss_cons (ps_if (PW.pt (pw_and (pt_cmpR op_eq (pe_dget hu (pv 0) pe_str (fun _ _ => rfl)) pe_int (nomark _)) (pw_and1 (pt_cmpR op_lt (pe_dget hu (pv 0) pe_str (fun _ _ => rfl)) (pe_callB call_len_seq (by rfl) T.len PySem.boot_len (pa_cons (pe_dget hu (pv 0) pe_str (fun _ _ => rfl)) pa_nil)) (nomark _)))))
        (pss_cons (ps_set (i := 2) scDraw.nd rfl (Or.inl rfl) (pe_ix ix_list (pe_dget hu (pv 0) pe_str (fun _ _ => rfl)) (pe_dget hu (pv 0) pe_str (fun _ _ => rfl)) (fun _ _ => rfl)))
        (pss_cons (ps_dput hu (pv 0) pe_str (pe_op op_add (pe_dget hu (pv 0) pe_str (fun _ _ => rfl)) pe_int) rfl)
        (pss_one (ps_if (pt_cmpR op_ge (pv 2) (pe_op op_pow pe_int pe_int) (nomark _))
          (pss_one (ps_dput hu (pv 0) pe_str (pe_op op_sub (pv 2) (pe_op op_pow pe_int pe_int)) rfl))
          (pss_one (ps_dput hu (pv 0) pe_str (pe_op op_mod (pe_callTy call_int1 (by rfl) T.int (by decide +kernel) (pa_cons (pe_op op_add (pe_op op_mul (pe_dget hu (pv 0) pe_str (fun _ _ => rfl)) pe_int) (pv 2)) pa_nil)) pe_int) rfl))))))
        pss_nil)
      (pss_cons (ps_if (pt_cmpR op_gt (pe_dget hu (pv 0) pe_str (fun _ _ => rfl)) pe_int (nomark _))
        (pss_cons (ps_set (i := 3) scDraw.nd rfl (Or.inl rfl) (pe_op op_modN (pe_callTy call_int1 (by rfl) T.int (by decide +kernel) (pa_cons (pe_dget hu (pv 0) pe_str (fun _ _ => rfl)) pa_nil)) (pv 1)))
        (pss_cons (ps_dput hu (pv 0) pe_str (pe_op op_fdivN (pe_dget hu (pv 0) pe_str (fun _ _ => rfl)) (pv 1)) rfl)
        (pss_one (ps_ret (pv 3)))))
        pss_nil)
      (pss_cons (ps_set (i := 4) scDraw.nd rfl (Or.inl rfl) (pe_op op_add (pe_op op_add (pe_dget hu (pv 0) pe_str (fun _ _ => rfl)) (pe_op op_mul (pe_dget hu (pv 0) pe_str (fun _ _ => rfl)) pe_int)) pe_int))
      (pss_one (ps_ret (pe_op op_modN (pe_op op_fdiv (pe_callTy call_int1 (by rfl) T.int (by decide +kernel) (pa_cons (pe_op op_mod (pe_op op_pow (pv 4) pe_int) pe_int) pa_nil)) pe_int) (pv 1))))))), ?_⟩
    -- count + 1
    refine ⟨_, rfl, p, _, rfl, dget Z.at_ (pen_co z), _, _, rfl, rfl, _, rfl, p, _, rfl, dput Z.at_ (pen_len z) (put_co z (z.c + 1)), ?_⟩
    have Z1 : PenAt (upd H p (.dK ({ z with c := z.c + 1 } : Pen).kvs)) p { z with c := z.c + 1 } := Z.put rfl rfl ⟨Z.ok.i0, Z.ok.i1, Z.ok.d0, by show (0 : Int) ≤ z.c + 1; have := Z.ok.c0; omega, Z.ok.f0, Z.ok.f1⟩
    have k1 : ∀ (r : Int) (z' : Pen), 0 ≤ r → r < m → Pen.Go 0 { z with c := z.c + 1 } z' → Q (.int r) (upd (upd H p (.dK ({ z with c := z.c + 1 } : Pen).kvs)) p (.dK z'.kvs)) := fun r z' r0 r1 g => by
      rw [upd_upd]
      exact k r z' r0 r1 ⟨g.l, g.ns, by have e : z'.c = (z.c + 1) + 0 := g.c; omega, g.ok⟩
    have hc1 : ({ z with c := z.c + 1 } : Pen).c ≤ 1000000000000 := by show z.c + 1 ≤ _; omega
    generalize ({ z with c := z.c + 1 } : Pen) = z1 at Z1 k1 hc1
    generalize upd H p (.dK z1.kvs) = H1 at Z1 k1
    have step : ∀ (Ha : Hp) (za zb : Pen), PenAt Ha p za → (∀ (r : Int) (z' : Pen), 0 ≤ r → r < m → Pen.Go 0 za z' → Q (.int r) (upd Ha p (.dK z'.kvs))) → za.c ≤ 1000000000000 →
        zb.l = za.l → zb.ns = za.ns → zb.c = za.c → zb.Ok →
        PenAt (upd Ha p (.dK zb.kvs)) p zb ∧ (∀ (r : Int) (z' : Pen), 0 ≤ r → r < m → Pen.Go 0 zb z' → Q (.int r) (upd (upd Ha p (.dK zb.kvs)) p (.dK z'.kvs))) ∧ zb.c ≤ 1000000000000 := fun Ha za zb Za ka ca el en ec ok =>
      ⟨Za.put el en ok, fun r z' r0 r1 g => by
        rw [upd_upd]
        exact ka r z' r0 r1 ⟨g.l.trans el, g.ns.trans en, by rw [g.c, ec], g.ok⟩, by rw [ec]; exact ca⟩
    -- if digits == 0 and at < len(cells)
    refine ⟨_, rfl, p, _, rfl, dget Z1.at_ (pen_di z1), rfl, _, rfl, ?_⟩
    refine ite2 (fun _ => ?_) (fun _ => ?_)
    · refine ⟨_, rfl, p, _, rfl, dget Z1.at_ (pen_at z1), _, rfl, p, _, rfl, dget Z1.at_ (pen_ce z1), z1.l, _, rfl, .inl (SqL.of Z1.cells), _, _, rfl, rfl, _, rfl, ?_⟩
      refine ite2 (fun lt => ?_) (fun _ => ?_)
      · have lt' : z1.i < (z1.ns.length : Int) := by
          have q := of_decide_eq_true lt
          rw [List.length_map] at q
          exact q
        have i0 := Z1.ok.i0
        have hn : z1.i.toNat < z1.ns.length := by omega
        refine ⟨_, rfl, p, _, rfl, dget Z1.at_ (pen_ce z1), _, rfl, p, _, rfl, dget Z1.at_ (pen_at z1), z1.l, _, _, V.int (z1.ns[z1.i.toNat]), rfl, rfl, SqL.of Z1.cells, atI_nat' i0 (by simp [hn]), ?_⟩
        generalize z1.ns[z1.i.toNat] = cell
        refine ⟨_, rfl, p, _, rfl, dget Z1.at_ (pen_at z1), _, _, rfl, rfl, _, rfl, p, _, rfl, dput Z1.at_ (pen_len z1) (put_at z1 (z1.i + 1)), ?_⟩
        obtain ⟨Z2, k2, hc2⟩ := step H1 z1 { z1 with i := z1.i + 1 } Z1 k1 hc1 rfl rfl rfl ⟨by show (0 : Int) ≤ z1.i + 1; omega, by show z1.i + 1 ≤ (z1.ns.length : Int); omega, Z1.ok.d0, Z1.ok.c0, Z1.ok.f0, Z1.ok.f1⟩
        generalize ({ z1 with i := z1.i + 1 } : Pen) = z2 at Z2 k2 hc2
        generalize upd H1 p (.dK z2.kvs) = H2 at Z2 k2
        refine ⟨_, rfl, _, _, rfl, rfl, ⟨by decide, by decide, by decide⟩, _, _, rfl, rfl, _, rfl, ?_⟩
        refine ite2 (fun ge => ?_) (fun _ => ?_)
        · have ge' := of_decide_eq_true ge
          refine ⟨_, rfl, _, _, rfl, rfl, ⟨by decide, by decide, by decide⟩, _, _, rfl, rfl, _, rfl, p, _, rfl, dput Z2.at_ (pen_len z2) (put_di z2 _), ?_⟩
          obtain ⟨Z3, k3, hc3⟩ := step H2 z2 { z2 with d := cell - 10 ^ (18 : Int).toNat } Z2 k2 hc2 rfl rfl rfl ⟨Z2.ok.i0, Z2.ok.i1, Int.sub_nonneg.mpr ge', Z2.ok.c0, Z2.ok.f0, Z2.ok.f1⟩
          generalize ({ z2 with d := cell - 10 ^ (18 : Int).toNat } : Pen) = z3 at Z3 k3 hc3
          generalize upd H2 p (.dK z3.kvs) = H3 at Z3 k3
          refine ⟨_, rfl, p, _, rfl, dget Z3.at_ (pen_di _), _, _, rfl, rfl, _, rfl, ?_⟩
          refine ite2 (fun dg => ?_) (fun _ => ?_)
          · have dg' := of_decide_eq_true dg
            refine ⟨_, rfl, p, _, rfl, dget Z3.at_ (pen_di _), .inl ⟨_, rfl, _, rfl, _, _, rfl, rfl, (by omega), ?_⟩⟩
            refine ⟨_, rfl, p, _, rfl, dget Z3.at_ (pen_di _), _, rfl, _, _, rfl, rfl, ⟨by omega, by omega⟩, _, rfl, p, _, rfl, dput Z3.at_ (pen_len _) (put_di _ _), ?_⟩
            refine ⟨_, rfl, ?_⟩
            exact k3 _ _ (fmod_in m0).1 (fmod_in m0).2 ⟨rfl, rfl, (Int.add_zero _).symm, ⟨Z3.ok.i0, Z3.ok.i1, fdiv_nn Z3.ok.d0 m0, Z3.ok.c0, Z3.ok.f0, Z3.ok.f1⟩⟩
          · have f0 := Z3.ok.f0
            have f1 := Z3.ok.f1
            have c0 := Z3.ok.c0
            refine ⟨_, rfl, p, _, rfl, dget Z3.at_ (pen_fo _), _, rfl, p, _, rfl, dget Z3.at_ (pen_co _), _, _, rfl, rfl, .inl ⟨by omega, by omega⟩, _, _, rfl, rfl, _, _, rfl, rfl, ?_⟩
            refine ⟨_, rfl, _, _, rfl, rfl, ⟨by decide, by decide, by omega⟩, _, _, rfl, rfl, (by show (0 : Int) < 2305843009213693951; decide), .inl ⟨_, rfl, _, _, rfl, rfl, ⟨by decide, by decide⟩, _, rfl, _, _, rfl, rfl, (by omega), ?_⟩⟩
            exact q_back (Q := Q) Z3.at_ (k3 _ _ (fmod_in m0).1 (fmod_in m0).2 ⟨rfl, rfl, (Int.add_zero _).symm, Z3.ok⟩)
        · have f0 := Z2.ok.f0
          have f1 := Z2.ok.f1
          refine ⟨_, rfl, p, _, rfl, dget Z2.at_ (pen_fo z2), _, _, rfl, rfl, .inl ⟨by omega, by omega⟩, _, rfl, _, _, rfl, rfl, .inl ⟨_, rfl, _, _, rfl, rfl, (by show (0 : Int) < 2147483587; decide), ?_⟩⟩
          refine ⟨_, rfl, p, _, rfl, dput Z2.at_ (pen_len z2) (put_fo z2 _), ?_⟩
          obtain ⟨Z3, k3, hc3⟩ := step H2 z2 { z2 with f := (z2.f * 69069 + cell) % 2147483587 } Z2 k2 hc2 rfl rfl rfl ⟨Z2.ok.i0, Z2.ok.i1, Z2.ok.d0, Z2.ok.c0, Int.emod_nonneg _ (by decide), Int.emod_lt_of_pos _ (by decide)⟩
          generalize ({ z2 with f := (z2.f * 69069 + cell) % 2147483587 } : Pen) = z3 at Z3 k3 hc3
          generalize upd H2 p (.dK z3.kvs) = H3 at Z3 k3
          refine ⟨_, rfl, p, _, rfl, dget Z3.at_ (pen_di _), _, _, rfl, rfl, _, rfl, ?_⟩
          refine ite2 (fun dg => ?_) (fun _ => ?_)
          · have dg' := of_decide_eq_true dg
            refine ⟨_, rfl, p, _, rfl, dget Z3.at_ (pen_di _), .inl ⟨_, rfl, _, rfl, _, _, rfl, rfl, (by omega), ?_⟩⟩
            refine ⟨_, rfl, p, _, rfl, dget Z3.at_ (pen_di _), _, rfl, _, _, rfl, rfl, ⟨by omega, by omega⟩, _, rfl, p, _, rfl, dput Z3.at_ (pen_len _) (put_di _ _), ?_⟩
            refine ⟨_, rfl, ?_⟩
            exact k3 _ _ (fmod_in m0).1 (fmod_in m0).2 ⟨rfl, rfl, (Int.add_zero _).symm, ⟨Z3.ok.i0, Z3.ok.i1, fdiv_nn Z3.ok.d0 m0, Z3.ok.c0, Z3.ok.f0, Z3.ok.f1⟩⟩
          · have f0 := Z3.ok.f0
            have f1 := Z3.ok.f1
            have c0 := Z3.ok.c0
            refine ⟨_, rfl, p, _, rfl, dget Z3.at_ (pen_fo _), _, rfl, p, _, rfl, dget Z3.at_ (pen_co _), _, _, rfl, rfl, .inl ⟨by omega, by omega⟩, _, _, rfl, rfl, _, _, rfl, rfl, ?_⟩
            refine ⟨_, rfl, _, _, rfl, rfl, ⟨by decide, by decide, by omega⟩, _, _, rfl, rfl, (by show (0 : Int) < 2305843009213693951; decide), .inl ⟨_, rfl, _, _, rfl, rfl, ⟨by decide, by decide⟩, _, rfl, _, _, rfl, rfl, (by omega), ?_⟩⟩
            exact q_back (Q := Q) Z3.at_ (k3 _ _ (fmod_in m0).1 (fmod_in m0).2 ⟨rfl, rfl, (Int.add_zero _).symm, Z3.ok⟩)
      · have Z3 := Z1
        have k3 := k1
        have hc3 := hc1
        refine ⟨_, rfl, p, _, rfl, dget Z3.at_ (pen_di _), _, _, rfl, rfl, _, rfl, ?_⟩
        refine ite2 (fun dg => ?_) (fun _ => ?_)
        · have dg' := of_decide_eq_true dg
          refine ⟨_, rfl, p, _, rfl, dget Z3.at_ (pen_di _), .inl ⟨_, rfl, _, rfl, _, _, rfl, rfl, (by omega), ?_⟩⟩
          refine ⟨_, rfl, p, _, rfl, dget Z3.at_ (pen_di _), _, rfl, _, _, rfl, rfl, ⟨by omega, by omega⟩, _, rfl, p, _, rfl, dput Z3.at_ (pen_len _) (put_di _ _), ?_⟩
          refine ⟨_, rfl, ?_⟩
          exact k3 _ _ (fmod_in m0).1 (fmod_in m0).2 ⟨rfl, rfl, (Int.add_zero _).symm, ⟨Z3.ok.i0, Z3.ok.i1, fdiv_nn Z3.ok.d0 m0, Z3.ok.c0, Z3.ok.f0, Z3.ok.f1⟩⟩
        · have f0 := Z3.ok.f0
          have f1 := Z3.ok.f1
          have c0 := Z3.ok.c0
          refine ⟨_, rfl, p, _, rfl, dget Z3.at_ (pen_fo _), _, rfl, p, _, rfl, dget Z3.at_ (pen_co _), _, _, rfl, rfl, .inl ⟨by omega, by omega⟩, _, _, rfl, rfl, _, _, rfl, rfl, ?_⟩
          refine ⟨_, rfl, _, _, rfl, rfl, ⟨by decide, by decide, by omega⟩, _, _, rfl, rfl, (by show (0 : Int) < 2305843009213693951; decide), .inl ⟨_, rfl, _, _, rfl, rfl, ⟨by decide, by decide⟩, _, rfl, _, _, rfl, rfl, (by omega), ?_⟩⟩
          exact q_back (Q := Q) Z3.at_ (k3 _ _ (fmod_in m0).1 (fmod_in m0).2 ⟨rfl, rfl, (Int.add_zero _).symm, Z3.ok⟩)
    · have Z3 := Z1
      have k3 := k1
      have hc3 := hc1
      refine ⟨_, rfl, p, _, rfl, dget Z3.at_ (pen_di _), _, _, rfl, rfl, _, rfl, ?_⟩
      refine ite2 (fun dg => ?_) (fun _ => ?_)
      · have dg' := of_decide_eq_true dg
        refine ⟨_, rfl, p, _, rfl, dget Z3.at_ (pen_di _), .inl ⟨_, rfl, _, rfl, _, _, rfl, rfl, (by omega), ?_⟩⟩
        refine ⟨_, rfl, p, _, rfl, dget Z3.at_ (pen_di _), _, rfl, _, _, rfl, rfl, ⟨by omega, by omega⟩, _, rfl, p, _, rfl, dput Z3.at_ (pen_len _) (put_di _ _), ?_⟩
        refine ⟨_, rfl, ?_⟩
        exact k3 _ _ (fmod_in m0).1 (fmod_in m0).2 ⟨rfl, rfl, (Int.add_zero _).symm, ⟨Z3.ok.i0, Z3.ok.i1, fdiv_nn Z3.ok.d0 m0, Z3.ok.c0, Z3.ok.f0, Z3.ok.f1⟩⟩
      · have f0 := Z3.ok.f0
        have f1 := Z3.ok.f1
        have c0 := Z3.ok.c0
        refine ⟨_, rfl, p, _, rfl, dget Z3.at_ (pen_fo _), _, rfl, p, _, rfl, dget Z3.at_ (pen_co _), _, _, rfl, rfl, .inl ⟨by omega, by omega⟩, _, _, rfl, rfl, _, _, rfl, rfl, ?_⟩
        refine ⟨_, rfl, _, _, rfl, rfl, ⟨by decide, by decide, by omega⟩, _, _, rfl, rfl, (by show (0 : Int) < 2305843009213693951; decide), .inl ⟨_, rfl, _, _, rfl, rfl, ⟨by decide, by decide⟩, _, rfl, _, _, rfl, rfl, (by omega), ?_⟩⟩
        exact q_back (Q := Q) Z3.at_ (k3 _ _ (fmod_in m0).1 (fmod_in m0).2 ⟨rfl, rfl, (Int.add_zero _).symm, Z3.ok⟩)

theorem scPick : FnScope ["_law_pen_here", "_law_some"] ["_law_pen_here", "_law_some"] (defScope sPick) := ⟨rfl, rfl, rfl, by decide +kernel, rfl, by decide +kernel, by decide +kernel⟩
theorem ok_pick {f fD : Addr} {fd fdD : FuncData} (F : Fun K "_law_pick" "_law_pick" sPick f fd) (T : PenTxt mg) (FD : Fun K "_law_draw" "_law_draw" sDraw fD fdD) (bD : Binds K fdD ["_law_pen_here", "_law_many"] []) (gD : mg "_law_draw" = some (.ref fD)) :
    FnOk P w K mg base CX0 2 f fd ["_law_pen_here", "_law_some"] (spPick K) := by
  have GD : FnOk P w K mg base CX0 1 fD fdD ["_law_pen_here", "_law_many"] spDraw := ok_draw FD T
  refine F.ok scPick (fun vs H Q E h => ?_) (fun cdv A outer s H vs Q E hr h => ?_)
  · obtain ⟨p, q, z, xs, rfl, _⟩ := h
    rfl
  · obtain ⟨p, q, z, xs, rfl, Z, hq, h0, h1, hc, k⟩ := h
    refine ⟨_, pss_one (ps_ret (pe_ix ix_list (pv 1) (pe_call GD hr rfl gD FD.kp bD .nil pass0 (pa_cons (pv 0) (pa_cons (pe_callB call_len_seq (by rfl) T.len PySem.boot_len (pa_cons (pv 1) pa_nil)) pa_nil))) (fun _ _ => rfl))), ?_⟩
    refine ⟨_, rfl, _, rfl, _, rfl, q, _, rfl, .inl (SqL.of hq), p, z, _, rfl, Z, by omega, by omega, hc, fun r z' r0 r1 g => ?_⟩
    have qp : q ≠ p := ne_of hq Z.at_ (by intro x; cases x)
    have hn : r.toNat < xs.length := by omega
    refine ⟨q, xs, r, xs[r.toNat], rfl, rfl, SqL.of (by rw [upd_ne qp]; exact hq), atI_nat' r0 (by simp [hn]), ?_⟩
    exact k _ z' (List.getElem_mem hn) g
end
end Nm
namespace Nm
open PySem PySem.Spec PyProof.Rows L2
/-! ### texts: enumerate, list, times -/
/-- enumerate(s), s a text: a new pair of the place and the sign -/
def Itn (x : Str) : It :=
  ⟨fun i _ => i < x.cps.size, fun i H v H' => ∃ T c, v = .ref T ∧ H T = none ∧ H' = upd H T (.tup [.int (i : Nat), .str ⟨#[c]⟩]) ∧ x.cps[i]? = some c, fun i _ => i = x.cps.size⟩
theorem turn_enumS {P : Program} {w : World} {K : PySem.W.Frag} {elts : List Expr} {kk : Nat} {tpos : Pos} (x : Str) (t : Tok) (e it : Addr) :
    Turn P w K (.Tuple elts kk tpos) (Itn x) [e, it] e (fun i h => (∃ old, IsEnum h e it ((i : Nat) : Int) old) ∧ h.IsStrIter it (strIterType x) x t i ∧ e ≠ it) where
  mem := List.mem_cons_self
  obj := by
    rintro i h ⟨⟨old, he⟩, ⟨o, ho, _, hd⟩, _⟩ b hb
    rcases List.mem_cons.mp hb with rfl | hb
    · exact ⟨_, he, fun v q => nomatch q⟩
    · obtain rfl := List.mem_singleton.mp hb
      exact ⟨o, ho, fun v q => by rw [hd] at q; cases q⟩
  keep := by
    rintro i h h' ⟨⟨old, he⟩, ⟨o, ho, r⟩, hne⟩ k
    exact ⟨⟨old, k e List.mem_cons_self _ he⟩, ⟨o, k it (by simp) o ho, r⟩, hne⟩
  item := by
    intro X hP hw hK hc i pins s σ H E I hf st hg
    subst hP hw hK
    obtain ⟨⟨old, he⟩, hit, hne⟩ := st
    have hel := Heap.lt_size he
    have hil : it < s.heap.objs.size := by
      obtain ⟨_, q, _⟩ := hit
      exact Heap.lt_size q
    have hcase : ∀ b ∈ [e, it], b = e ∨ b = it := fun b hb => by simpa using hb
    refine wpAny_pyNext_enum_itemC (Draws.text (A := X.A.in1) (I.ok.hd hc) it x t) he hit hg hne (by simpa using hne) ?_
    rintro y h' tk ⟨c, u, hcx, rfl⟩ ho hit' hT hsz hk
    refine ⟨_, rfl, wpAny_letOwnedTupleGo_enum (s := { s with heap := h', toks := tk + 1 }) ho ?_⟩
    intro h2 he2 sb
    have hT2 : h2.get? s.heap.objs.size = some { cls := .type "tuple", data := .seq #[.int (i : Nat) tk, .str ⟨#[c]⟩ u] } := (sb.2 _ (Nat.ne_of_gt hel)).trans hT
    have new : ObjOk X.prog X.w (upd H s.heap.objs.size (.tup [.int (i : Nat), .str ⟨#[c]⟩])) h2 s.heap.objs.size (.tup [.int (i : Nat), .str ⟨#[c]⟩]) :=
      ⟨by show 2 ≤ sizeLine; decide, [.int (i : Nat) tk, .str ⟨#[c]⟩ u], .cons ⟨_, rfl⟩ (.cons ⟨_, rfl⟩ .nil), ⟨_, hT2, rfl, _, rfl⟩⟩
    have J : Inv X pins σ (upd H s.heap.objs.size (.tup [.int (i : Nat), .str ⟨#[c]⟩])) { s with heap := h2, toks := tk + 1 } := by
      refine I.turnedNew (ch := [e, it]) (fun b o hb q => ?_) hf (Nat.le_refl _) new
      have n1 : b ≠ e := fun z => hb (by simp [z])
      have n2 : b ≠ it := fun z => hb (by simp [z])
      exact (sb.2 b n1).trans (hk b o n1 n2 q)
    refine ⟨.ref s.heap.objs.size, _, J, rfl, ⟨_, c, rfl, I.hok.fresh (Nat.le_refl _), rfl, hcx⟩, ⟨⟨.str ⟨#[c]⟩ u, ?_⟩, ?_, hne⟩, ?_⟩
    · have e1 : ((i + 1 : Nat) : Int) = (i : Int) + 1 := Int.natCast_succ i
      rw [e1]
      exact he2
    · obtain ⟨o, q, r⟩ := hit'
      exact ⟨o, (sb.2 it (Ne.symm hne)).trans q, r⟩
    · intro b hb
      have lt : b < s.heap.objs.size := by
        rcases hcase b hb with rfl | rfl
        · exact hel
        · exact hil
      rw [upd_ne (Nat.ne_of_lt lt)]
      exact (hf b hb).1
  done := by
    intro X hP hw hK hc i pins s σ H E I hf st hg
    subst hP hw hK
    obtain ⟨⟨old, he⟩, hit, hne⟩ := st
    obtain ⟨f0, f1, f2, f3, f4, f5⟩ := hf it (by simp)
    have D := Draws.text (prog := X.prog) (w := X.w) (A := X.A.in1) (I.ok.hd hc) it x t
    obtain rfl : i = x.cps.size := hg
    exact wpAny_pyNext_enum_endD D he hit fun h' hx => ⟨rfl, I.turned (t' := s.toks) (fun b o hb q => hx b o hb q) f0 f1 f3 f4 f5⟩
  self := by
    rintro A i s Q E ⟨⟨old, he⟩, _⟩ h
    exact wpAny_pyIter_enum he h
theorem vals_signs : ∀ (cs : List Nat) (us : List Value), us.length = cs.length → (∀ (j : Nat) (v : Value), us[j]? = some v → ∃ c u, cs[j]? = some c ∧ v = Value.str ⟨#[c]⟩ u) → Vals (cs.map fun c => V.str ⟨#[c]⟩) us
  | [], [], _, _ => .nil
  | c :: cs, v :: us, hl, h => by
    obtain ⟨c', u, e, rfl⟩ := h 0 v rfl
    obtain rfl : c = c' := Option.some.inj e
    exact .cons ⟨u, rfl⟩ (vals_signs cs us (Nat.succ.inj hl) fun j v e => h (j + 1) v e)
  | [], _ :: _, hl, _ => nomatch hl
  | _ :: _, [], hl, _ => nomatch hl
theorem walk_enumS {z : Str} : Walk (Itn z) z.cps.size (fun _ => True) (fun i H v H' => ∃ T c, v = .ref T ∧ H T = none ∧ H' = upd H T (.tup [.int (i : Nat), .str ⟨#[c]⟩]) ∧ z.cps[i]? = some c) :=
  ⟨fun _ _ hi _ => hi, fun _ _ => rfl, fun _ _ _ _ _ _ y => y⟩
def iEnumS (ta : TA) : TI := fun σ H R => ta σ H fun vs H1 => ∃ x, vs = [.str x] ∧ R (Itn x) H1
theorem pi_enumS {X : Cx} {e : Expr} {ta : TA} {p pos tpos : Pos} {elts : List Expr} {kk : Nat} (hg : Gl X "enumerate") (hm : X.mg "enumerate" = none) (ha : PA X [e] ta) (hs : starEach [e] X.env = [(false, eval e X.env)] := by rfl) :
    PI X (.Tuple elts kk tpos) (.Call (.Name "enumerate" p) [e] [] pos) (iEnumS ta) := by
  constructor
  intro pins s σ H R I h
  refine Call_ (ld_blt I hg hm boot_enumerate (PyProof.Rows.callWith_type1 (thn (ha.run pos pins s σ H _ I h) ?_) hs rfl))
  rintro us s1 ⟨vs, H1, I1, r1, x, rfl, q⟩
  obtain ⟨u, rfl, t, rfl⟩ := vals1 r1
  refine call_enumerate_str fun h' he hit hsz hk => wpAny_pyIter_enum he ?_
  have I2 : Inv X pins σ H1 { s1 with heap := h' } := I1.kept (t' := s1.toks) hk
  refine ⟨s1.heap.objs.size + 1, [s1.heap.objs.size + 1, s1.heap.objs.size], _, _, H1, rfl, I2, turn_enumS x t (s1.heap.objs.size + 1) s1.heap.objs.size, ⟨⟨.none, he⟩, hit, Nat.succ_ne_self _⟩, ?_, q⟩
  intro b hb
  have hle : s1.heap.objs.size ≤ b := by
    rcases List.mem_cons.mp hb with rfl | hb
    · exact Nat.le_succ _
    · obtain rfl := List.mem_singleton.mp hb
      exact Nat.le_refl _
  exact I1.fpOk hle (I1.hok.fresh hle)
section
variable {X : Cx}
/-- list(s), s a text: its signs -/
theorem call_list_txt (hc : X.calm = true) : CallR X (.type "list") (fun xs H Q => ∃ z : Str, xs = [.str z] ∧ z.cps.size ≤ sizeLine ∧ ∀ p, H p = none → Q (.ref p) (upd H p (.lst (z.cps.toList.map fun c => V.str ⟨#[c]⟩)))) := by
  intro pins s σ H xs us Q I r h
  obtain ⟨z, rfl, hz, q⟩ := h
  obtain ⟨u, rfl, t, rfl⟩ := vals1 r
  refine call_list_str (hn := hz) (I.ok.hd hc) z t ?_
  intro h' tk acc' c' hk hL hI
  have len : acc'.size = z.cps.size := hI.1
  have vals : Vals (z.cps.toList.map fun c => V.str ⟨#[c]⟩) acc'.toList := vals_signs _ _ (by simpa using len) fun j v e => by
    obtain ⟨c, u, h1, h2⟩ := hI.2 j v (by simpa using e)
    exact ⟨c, u, by simpa using h1, h2⟩
  have new : ObjOk X.prog X.w (upd H s.heap.objs.size (.lst (z.cps.toList.map fun c => V.str ⟨#[c]⟩))) h' s.heap.objs.size (.lst (z.cps.toList.map fun c => V.str ⟨#[c]⟩)) :=
    ⟨by simpa using hz, acc'.toList, c', vals, by simpa using hL⟩
  exact ⟨.ref s.heap.objs.size, _, I.laid (t' := tk) hk (Nat.le_refl _) new, rfl, q _ (I.hok.fresh (Nat.le_refl _))⟩
/-- s * n -/
def timesS (z : Str) (k : Int) : Str := if k < 1 then Str.empty else if (k == 1 || z.length == 0) = true then z else ⟨(List.replicate k.toNat z.cps).foldl (· ++ ·) #[]⟩
theorem op_times : OpR X (binaryOp .Mult) (fun x y H Q => ∃ (z : Str) (k : Int), x = .str z ∧ y = .int k ∧ 0 ≤ k ∧ k ≤ 1000 ∧ z.length ≤ 1000 ∧ Q (.str (timesS z k)) H) := by
  intro pins s σ H x y v u Q I rx ry h
  obtain ⟨z, k, rfl, rfl, h0, h1, hz, q⟩ := h
  obtain ⟨t, rfl⟩ := rx
  obtain ⟨t', rfl⟩ := ry
  have big : ∀ n : Nat, n ≤ 1000000 → n ≤ sizeLine := fun n h => Nat.le_trans h (by decide)
  have hm : z.length * k.toNat ≤ 1000000 := by
    have e : z.length * k.toNat ≤ 1000 * 1000 := Nat.mul_le_mul hz (by omega)
    omega
  refine PySem.P.mul_str ?_ (fun hn _ => ?_) (fun _ _ => ?_) ?_
  · have a1 : ¬ k < -(2 ^ 63 : Int) := by omega
    have a2 : ¬ k ≥ 2 ^ 63 := by omega
    rw [decide_eq_false a1, decide_eq_false a2]
    rfl
  · have p1 : (1000 : Int) ≤ (2 ^ 63 - 1) / k := Int.le_ediv_of_mul_le (by omega) (by omega)
    have p2 : ((z.length : Nat) : Int) ≤ 1000 := by omega
    omega
  · exact decide_eq_false fun z => by
      have := big _ hm
      omega
  · unfold timesS at q
    by_cases c1 : k < 1
    · rw [if_pos c1] at q ⊢
      exact ⟨Nat.zero_le _, .str _, H, I.tok _, ⟨_, rfl⟩, q⟩
    · rw [if_neg c1] at q ⊢
      by_cases c2 : (k == 1 || z.length == 0) = true
      · rw [if_pos c2] at q ⊢
        exact ⟨.str z, H, I, ⟨_, rfl⟩, q⟩
      · rw [if_neg c2] at q ⊢
        refine ⟨?_, .str _, H, I.tok _, ⟨_, rfl⟩, q⟩
        have len : ∀ (n : Nat) (a : Array Nat) (acc : Array Nat), ((List.replicate n a).foldl (· ++ ·) acc).size = acc.size + n * a.size := by
          intro n
          induction n with
          | zero => intro a acc; simp
          | succ n ih =>
            intro a acc
            rw [List.replicate_succ, List.foldl_cons, ih, Array.size_append, Nat.succ_mul]
            omega
        show ((List.replicate k.toNat z.cps).foldl (· ++ ·) #[]).size ≤ sizeLine
        rw [len, Nat.mul_comm]
        have e : (#[] : Array Nat).size = 0 := rfl
        rw [e, Nat.zero_add]
        exact big _ hm
end
end Nm
namespace Nm
open PySem L2
/-! ### the mathematics: words of lines -/
abbrev codes (s : Str) : List Nat := s.cps.toList
def sBIG : Str := "ABCDEFGHIJKLMNOPQRSTUVWXYZ"
def sSMA : Str := "abcdefghijklmnopqrstuvwxyz"
def sDIG : Str := "0123456789"
def sALL : Str := sBIG ++ sSMA ++ sDIG ++ "_"
def kwL : List Str := ["kind", "fun", "let", "in"]
def allIn (t s : Str) : Bool := (codes t).all fun c => decide (c ∈ codes s)
def hd (w : Str) : Nat := (codes w).headD 0
def isName (w f : Str) : Bool := if (decide (w = "") || (decide (w.length > 24) || !decide (hd w ∈ codes f))) = true then false else allIn w sALL
def isBig (w : Str) : Bool := isName w sBIG
def isSmall (w : Str) : Bool := !decide (w ∈ kwL) && isName w sSMA
def digs (w : Str) : Str := if decide (cutS w none (some 1) = "-") = true then cutS w (some 1) none else w
def isNum (w : Str) : Bool :=
  if (decide (digs w = "") || (decide ((digs w).length > 400) || !allIn (digs w) sDIG)) = true then false else if decide (hd (digs w) = 48) = true then decide (w = "0") else true
def digs2 (w : Str) : Str := if decide (hd w = 45) = true then cutS w (some 1) none else w
def lawKind (w : Str) : Str :=
  if decide (w ∈ kwL) = true then w
  else if ((decide (hd w ∈ codes (sBIG ++ sSMA)) && decide (w.length ≤ 24)) && allIn w sALL) = true then (if decide (hd w ∈ codes sBIG) = true then "big" else "small")
  else if ((!decide (digs2 w = "") && (decide ((digs2 w).length ≤ 400) && allIn (digs2 w) sDIG)) && (decide (w = "0") || !decide (hd (digs2 w) = 48))) = true then "number" else "word " ++ w
theorem str_ext {a b : Str} (h : codes a = codes b) : a = b := by
  obtain ⟨⟨x⟩⟩ := a
  obtain ⟨⟨y⟩⟩ := b
  have e : x = y := h
  rw [e]
theorem codes_cons {w : Str} (h : w ≠ "") : ∃ c r, codes w = c :: r := by
  cases e : codes w with
  | nil => exact (h (str_ext (by rw [e]; rfl))).elim
  | cons c r => exact ⟨c, r, rfl⟩
theorem hd_of {w : Str} {c : Nat} {r : List Nat} (e : codes w = c :: r) : hd w = c := by
  unfold hd
  rw [e]
  rfl
theorem len_codes (w : Str) : w.length = (codes w).length := by
  show w.cps.size = w.cps.toList.length
  simp
theorem cut1_of {w : Str} {c : Nat} {r : List Nat} (e : codes w = c :: r) : codes (cutS w none (some 1)) = [c] := by
  have l : w.length = r.length + 1 := by rw [len_codes, e]; rfl
  show ((w.cps.toList.drop (HT.sIx w.length 0 none)).take (HT.sIx w.length w.length (some 1) - HT.sIx w.length 0 none)).toArray.toList = [c]
  rw [show HT.sIx w.length 0 none = 0 from rfl, show (some (1 : Int)) = some ((1 : Nat) : Int) from rfl, HT.sIx_nat, show w.cps.toList = c :: r from e, show min 1 w.length = 1 by omega]
  rfl
theorem cutT_codes (w : Str) : codes (cutS w (some 1) none) = (codes w).drop 1 := by
  show ((w.cps.toList.drop (HT.sIx w.length 0 (some 1))).take (HT.sIx w.length w.length none - HT.sIx w.length 0 (some 1))).toArray.toList = w.cps.toList.drop 1
  rw [show HT.sIx w.length w.length none = w.length from rfl, show (some (1 : Int)) = some ((1 : Nat) : Int) from rfl, HT.sIx_nat]
  have e : w.length = w.cps.toList.length := len_codes w
  rw [e]
  cases w.cps.toList with
  | nil => rfl
  | cons c r => simp
theorem digs_eq {w : Str} (h : w ≠ "") : digs w = digs2 w := by
  obtain ⟨c, r, e⟩ := codes_cons h
  unfold digs digs2
  have q : (cutS w none (some 1) = "-") ↔ (hd w = 45) := by
    rw [hd_of e]
    constructor
    · intro z
      have z2 := congrArg codes z
      rw [cut1_of e] at z2
      have z3 : [c] = [45] := z2
      exact (List.cons.inj z3).1
    · intro z
      exact str_ext (by rw [cut1_of e, z]; rfl)
  by_cases z : hd w = 45
  · rw [decide_eq_true z, decide_eq_true (q.mpr z)]
  · rw [decide_eq_false z, decide_eq_false fun y => z (q.mp y)]
theorem allIn_hd {w s : Str} {c : Nat} {r : List Nat} (e : codes w = c :: r) (h : allIn w s = true) : c ∈ codes s := by
  unfold allIn at h
  rw [e, List.all_cons] at h
  exact of_decide_eq_true (Bool.and_eq_true_iff.mp h).1
theorem kw_facts : ∀ w ∈ kwL, isBig w = false ∧ isNum w = false ∧ w ≠ "big" ∧ w ≠ "small" ∧ w ≠ "number" := by
  intro w h
  unfold kwL at h
  simp only [List.mem_cons, List.not_mem_nil, or_false] at h
  rcases h with rfl | rfl | rfl | rfl <;> decide +kernel
theorem letters_no_digits : ∀ c ∈ codes (sBIG ++ sSMA), c ∉ codes sDIG ∧ c ≠ 45 := by
  have h : (codes (sBIG ++ sSMA)).all (fun c => decide (c ∉ codes sDIG ∧ c ≠ 45)) = true := by decide +kernel
  intro c hc
  exact of_decide_eq_true (List.all_eq_true.mp h c hc)
theorem big_or_small (c : Nat) : c ∈ codes (sBIG ++ sSMA) ↔ c ∈ codes sBIG ∨ c ∈ codes sSMA := by
  have e : codes (sBIG ++ sSMA) = codes sBIG ++ codes sSMA := by decide +kernel
  rw [e, List.mem_append]
theorem big_not_small : ∀ c ∈ codes sBIG, c ∉ codes sSMA := by
  have h : (codes sBIG).all (fun c => decide (c ∉ codes sSMA)) = true := by decide +kernel
  intro c hc
  exact of_decide_eq_true (List.all_eq_true.mp h c hc)
theorem word_ne (w : Str) : ("word " : Str) ++ w ≠ "big" ∧ ("word " : Str) ++ w ≠ "small" ∧ ("word " : Str) ++ w ≠ "number" := by
  have e : codes (("word " : Str) ++ w) = 119 :: 111 :: 114 :: 100 :: 32 :: codes w := by
    show (("word " : Str).cps ++ w.cps).toList = _
    rw [Array.toList_append]
    rfl
  refine ⟨fun h => ?_, fun h => ?_, fun h => ?_⟩
  · have h3 : some 119 = (codes "big").head? := by
      rw [← h, e]
      rfl
    exact absurd h3 (by decide +kernel)
  · have h3 : some 119 = (codes "small").head? := by
      rw [← h, e]
      rfl
    exact absurd h3 (by decide +kernel)
  · have h3 : some 119 = (codes "number").head? := by
      rw [← h, e]
      rfl
    exact absurd h3 (by decide +kernel)
theorem asked_eq {w : Str} (h : w ≠ "") : isBig w = decide (lawKind w = "big") ∧ isSmall w = decide (lawKind w = "small") ∧ isNum w = decide (lawKind w = "number") := by
  obtain ⟨c, r, e⟩ := codes_cons h
  have hc := hd_of e
  unfold lawKind
  by_cases hk : w ∈ kwL
  · obtain ⟨f1, f2, f3, f4, f5⟩ := kw_facts w hk
    rw [if_pos (decide_eq_true hk), f1, f2, decide_eq_false f3, decide_eq_false f4, decide_eq_false f5]
    unfold isSmall
    rw [decide_eq_true hk]
    exact ⟨rfl, rfl, rfl⟩
  rw [if_neg (by rw [decide_eq_false hk]; exact Bool.false_ne_true)]
  have small_eq : isSmall w = isName w sSMA := by unfold isSmall; rw [decide_eq_false hk]; rfl
  have name_eq : ∀ f, isName w f = (decide (c ∈ codes f) && (decide (w.length ≤ 24) && allIn w sALL)) := fun f => by
    unfold isName
    rw [hc, decide_eq_false h]
    by_cases l : w.length ≤ 24
    · have l' : ¬ w.length > 24 := by omega
      by_cases m : c ∈ codes f
      · simp [l, l', m]
      · simp [l, l', m]
    · have l' : w.length > 24 := by omega
      simp [l, l']
  rw [hc]
  by_cases hn : ((decide (c ∈ codes (sBIG ++ sSMA)) && decide (w.length ≤ 24)) && allIn w sALL) = true
  · rw [if_pos hn]
    simp only [Bool.and_eq_true, decide_eq_true_eq] at hn
    obtain ⟨⟨hm, hl⟩, ha⟩ := hn
    obtain ⟨nd, nm⟩ := letters_no_digits c hm
    have num : isNum w = false := by
      have d2 : digs w = w := by
        rw [digs_eq h]
        unfold digs2
        rw [hc, if_neg (by rw [decide_eq_false nm]; exact Bool.false_ne_true)]
      unfold isNum
      rw [d2]
      have na : allIn w sDIG = false := by
        cases q : allIn w sDIG with
        | false => rfl
        | true => exact (nd (allIn_hd e q)).elim
      rw [na]
      simp
    rw [num]
    unfold isBig
    rw [small_eq, name_eq, name_eq, ha, decide_eq_true hl]
    by_cases b : c ∈ codes sBIG
    · rw [if_pos (decide_eq_true b), decide_eq_true b, decide_eq_false (big_not_small c b)]
      decide +kernel
    · have s : c ∈ codes sSMA := ((big_or_small c).mp hm).resolve_left b
      rw [if_neg (by rw [decide_eq_false b]; exact Bool.false_ne_true), decide_eq_false b, decide_eq_true s]
      decide +kernel
  · rw [if_neg hn]
    have big : isBig w = false := by
      unfold isBig
      rw [name_eq]
      cases q : (decide (c ∈ codes sBIG) && (decide (w.length ≤ 24) && allIn w sALL)) with
      | false => rfl
      | true =>
        simp only [Bool.and_eq_true, decide_eq_true_eq] at q
        exact (hn (by rw [decide_eq_true ((big_or_small c).mpr (.inl q.1)), decide_eq_true q.2.1, q.2.2]; rfl)).elim
    have small : isSmall w = false := by
      rw [small_eq, name_eq]
      cases q : (decide (c ∈ codes sSMA) && (decide (w.length ≤ 24) && allIn w sALL)) with
      | false => rfl
      | true =>
        simp only [Bool.and_eq_true, decide_eq_true_eq] at q
        exact (hn (by rw [decide_eq_true ((big_or_small c).mpr (.inr q.1)), decide_eq_true q.2.1, q.2.2]; rfl)).elim
    rw [big, small]
    have num : isNum w = ((!decide (digs2 w = "") && (decide ((digs2 w).length ≤ 400) && allIn (digs2 w) sDIG)) && (decide (w = "0") || !decide (hd (digs2 w) = 48))) := by
      unfold isNum
      rw [digs_eq h]
      by_cases a1 : digs2 w = ""
      · simp [a1]
      · by_cases a2 : (digs2 w).length ≤ 400
        · have a2' : ¬ (digs2 w).length > 400 := by omega
          cases a3 : allIn (digs2 w) sDIG with
          | false => simp [a1, a2, a2']
          | true =>
            by_cases a4 : hd (digs2 w) = 48
            · simp [a1, a2, a2', a4]
            · simp [a1, a2, a2', a4]
        · have a2' : (digs2 w).length > 400 := by omega
          simp [a1, a2, a2']
    rw [num]
    by_cases q : ((!decide (digs2 w = "") && (decide ((digs2 w).length ≤ 400) && allIn (digs2 w) sDIG)) && (decide (w = "0") || !decide (hd (digs2 w) = 48))) = true
    · rw [if_pos q, q]
      decide +kernel
    · rw [if_neg q]
      obtain ⟨w1, w2, w3⟩ := word_ne w
      rw [decide_eq_false w1, decide_eq_false w2, decide_eq_false w3]
      exact ⟨rfl, rfl, Bool.eq_false_iff.mpr q⟩
/-! the words of a line -/
def flush (k : Nat) (w : List Nat) : List (List Nat × Nat) := if w = [] then [] else [(w, k + 1 - w.length)]
def scan : List Nat → Nat → List Nat → List (List Nat × Nat)
  | [], k, w => flush k w
  | c :: r, k, w =>
    if c = 59 then flush k w
    else if c = 32 then flush k w ++ scan r (k + 1) []
    else if c = 40 ∨ c = 41 then flush k w ++ ([c], k + 1) :: scan r (k + 1) []
    else scan r (k + 1) (w ++ [c])
theorem scan_blank : ∀ (l : List Nat) (k : Nat) (w : List Nat), scan (l ++ [32]) k w = scan l k w
  | [], k, w => by
    show (if (32 : Nat) = 59 then flush k w else if (32 : Nat) = 32 then flush k w ++ flush (k + 1) [] else _) = flush k w
    rw [if_neg (by decide), if_pos rfl]
    simp [flush]
  | c :: r, k, w => by
    show (if c = 59 then _ else if c = 32 then _ ++ scan (r ++ [32]) (k + 1) [] else if c = 40 ∨ c = 41 then _ ++ ([c], k + 1) :: scan (r ++ [32]) (k + 1) [] else scan (r ++ [32]) (k + 1) (w ++ [c])) = scan (c :: r) k w
    rw [scan_blank r, scan_blank r]
    rfl
theorem scan_stop : ∀ (l : List Nat) (r : List Nat) (k : Nat) (w : List Nat), 59 ∉ l → scan (l ++ 59 :: r) k w = scan l k w
  | [], r, k, w, _ => by
    show (if (59 : Nat) = 59 then flush k w else _) = flush k w
    rw [if_pos rfl]
  | c :: l, r, k, w, h => by
    have h1 : c ≠ 59 := fun z => h (by simp [z])
    have h2 : 59 ∉ l := fun z => h (by simp [z])
    show (if c = 59 then _ else if c = 32 then _ ++ scan (l ++ 59 :: r) (k + 1) [] else if c = 40 ∨ c = 41 then _ ++ ([c], k + 1) :: scan (l ++ 59 :: r) (k + 1) [] else scan (l ++ 59 :: r) (k + 1) (w ++ [c])) = scan (c :: l) k w
    rw [scan_stop l r _ _ h2, scan_stop l r _ _ h2]
    rfl
/-- ahead of the first ; -/
def told (l : List Nat) : List Nat := l.takeWhile (· != 59)
theorem scan_told (l : List Nat) (k : Nat) (w : List Nat) : scan (told l) k w = scan l k w := by
  have nt : 59 ∉ told l := fun h => by
    have q := List.all_takeWhile (p := (· != 59)) (l := l)
    have := List.all_eq_true.mp q 59 h
    simp at this
  have e := List.takeWhile_append_dropWhile (p := (· != 59)) (l := l)
  cases d : l.dropWhile (· != 59) with
  | nil =>
    rw [d, List.append_nil] at e
    unfold told
    rw [e]
  | cons c r =>
    have hc : c = 59 := by
      have h1 := List.head?_dropWhile_not (p := (· != 59)) (l := l)
      rw [d] at h1
      simpa using h1
    rw [hc] at d
    rw [d] at e
    have e2 : told l ++ 59 :: r = l := e
    conv => rhs; rw [← e2]
    exact (scan_stop (told l) r k w nt).symm
end Nm
namespace Nm
open PySem L2
/-! ### the program's words -/
theorem pe_gref {X : Cx} {x : Str} {C : Addr} {pos : Pos} (hg : Gl X x) (hm : X.mg x = some (.ref C)) (hd : (x == ("__debug__" : Str)) = false := by decide) : PE X (.Name x pos) (tC (.ref C)) := pe_glob hg hm rfl hd
theorem pe_gstr {X : Cx} {x z : Str} {pos : Pos} (hg : Gl X x) (hm : ∃ t, X.mg x = some (.str z t)) (hd : (x == ("__debug__" : Str)) = false := by decide) : PE X (.Name x pos) (tC (.str z)) := by
  obtain ⟨t, e⟩ := hm
  exact pe_glob hg e ⟨t, rfl⟩ hd
theorem pe_gint {X : Cx} {x : Str} {z : Int} {pos : Pos} (hg : Gl X x) (hm : ∃ t, X.mg x = some (.int z t)) (hd : (x == ("__debug__" : Str)) = false := by decide) : PE X (.Name x pos) (tC (.int z)) := by
  obtain ⟨t, e⟩ := hm
  exact pe_glob hg e ⟨t, rfl⟩ hd
theorem ite_no {c : Bool} {A B : Prop} (h : c = false) (k : B) : if c = true then A else B := by
  rw [h]
  exact iteF k
theorem ite_yes {c : Bool} {A B : Prop} (h : c = true) (k : A) : if c = true then A else B := by
  rw [h]
  exact iteT k
theorem dec_str (a b : Str) : decide (V.str a = V.str b) = decide (a = b) := by
  by_cases h : a = b
  · rw [h]
    simp
  · rw [decide_eq_false h, decide_eq_false fun z => h (V.str.inj z)]
structure WTxt (K : PySem.W.Frag) (mg : Str → Option Value) (aK : Addr) : Prop where
  BIG_LETTERS : ∃ t, mg "BIG_LETTERS" = some (.str sBIG t)
  SMALL_LETTERS : ∃ t, mg "SMALL_LETTERS" = some (.str sSMA t)
  DIGITS : ∃ t, mg "DIGITS" = some (.str sDIG t)
  MOST_SIGNS : ∃ t, mg "MOST_SIGNS" = some (.int 24 t)
  MOST_DIGITS : ∃ t, mg "MOST_DIGITS" = some (.int 400 t)
  KEYWORDS : mg "KEYWORDS" = some (.ref aK)
  kw : ∀ H : Hp, SqT K H aK (kwL.map V.str)
  len : mg "len" = none
  enumerate : mg "enumerate" = none
  tuple : mg "tuple" = none
  int : mg "int" = none
  list : mg "list" = none
  isinstance : mg "isinstance" = none
  range : mg "range" = none
theorem eqV_str (a b : Str) : eqV (.str a) (.str b) = decide (a = b) := by
  show _ = _
  first | rfl | simp [eqV]
theorem inV_strs (w : Str) (l : List Str) : inV (.str w) (l.map V.str) = decide (w ∈ l) := by
  unfold inV
  induction l with
  | nil => rfl
  | cons a r ih =>
    rw [List.map_cons, List.any_cons, ih, eqV_str]
    by_cases h : w = a
    · subst h
      simp
    · have h' : ¬ a = w := fun z => h z.symm
      simp [h, h']
def spAll : Sp := fun vs H Q _ => ∃ t s : Str, vs = [.str t, .str s] ∧ Q (.bl (allIn t s)) H
def spName : Sp := fun vs H Q _ => ∃ w f : Str, vs = [.str w, .str f] ∧ w.length ≤ 100000 ∧ Q (.bl (isName w f)) H
def spW (f : Str → Bool) : Sp := fun vs H Q _ => ∃ w : Str, vs = [.str w] ∧ w.length ≤ 100000 ∧ Q (.bl (f w)) H
theorem sz_of {n : Nat} (h : n ≤ 100000) : n ≤ sizeLine := Nat.le_trans h (by decide)
theorem atI0 {α : Type} {c : α} {r l : List α} (e : l = c :: r) : atI l 0 = some c := by
  rw [e]
  exact atI_nat (by rfl)
section
variable {P : Program} {w : World} {K : PySem.W.Frag} {mg : Str → Option Value} {base : Heap} {aK : Addr}

abbrev sallamong : Stmt := top 7
abbrev Nallamong : List Str := ["text", "signs", "sign"]
abbrev Pallamong : List Str := ["text", "signs"]
theorem scallamong : FnScope Nallamong Pallamong (defScope sallamong) := ⟨rfl, rfl, rfl, by decide +kernel, rfl, by decide +kernel, by decide +kernel⟩

theorem ok_all {f : Addr} {fd : FuncData} (F : Fun K "all_among" "all_among" sallamong f fd) : FnOk P w K mg base CX0 1 f fd Pallamong spAll := by
  refine F.ok scallamong (fun vs H Q E h => ?_) (fun cdv A outer s H vs Q E hr h => ?_)
  · obtain ⟨t, z, rfl, _⟩ := h
    rfl
  · obtain ⟨t, z, rfl, k⟩ := h
    refine ⟨_, (pss_cons (ps_for PassesOwn.never rfl (pi_str (pv 0)) (pg_name (i := 2) scallamong.nd rfl (Or.inl rfl))
      (pss_one (ps_if (pt_cmpR op_notIn_sign (pv 2) (pv 1) (by rfl))
      (pss_one (ps_ret pe_bl))
      pss_nil)))
      (pss_one (ps_ret pe_bl))), ?_⟩
    refine ⟨.str t, (by kernel_rfl), t, rfl, ?_⟩
    refine for_it (walk_str (z := t)) (fun i σ H' => H' = H ∧ (∃ v, σ = [some (.str t), some (.str z), v]) ∧ ((codes t).take i).all (fun c => decide (c ∈ codes z)) = true) ⟨rfl, ⟨none, rfl⟩, rfl⟩ (fun _ _ _ _ _ => True.intro) ?_ ?_
    · rintro i x σ H1 H2 hi ⟨rfl, ⟨v, rfl⟩, ha⟩ ⟨rfl, c, hc, rfl⟩
      have hc' : (codes t)[i]? = some c := by simpa using hc
      refine ⟨.str ⟨#[c]⟩, (by kernel_rfl), .str z, (by kernel_rfl), c, z, rfl, rfl, _, rfl, ?_⟩
      by_cases m : c ∈ codes z
      · refine ite_no (by rw [decide_eq_true m]; rfl) ?_
        refine ⟨rfl, ⟨_, rfl⟩, ?_⟩
        rw [List.take_add_one, hc', List.all_append, ha]
        show (true && ((decide (c ∈ codes z)) && true)) = true
        rw [decide_eq_true m]
        rfl
      · refine ite_yes (by rw [decide_eq_false m]; rfl) ?_
        have e : allIn t z = false := by
          unfold allIn
          refine List.all_eq_false.mpr ⟨c, List.mem_of_getElem? hc', ?_⟩
          simp [m]
        rw [e] at k
        exact k
    · rintro σ H1 ⟨rfl, ⟨v, rfl⟩, ha⟩
      have e : allIn t z = true := by
        unfold allIn
        have l : t.cps.size = (codes t).length := by simp
        rw [l, List.take_length] at ha
        exact ha
      rw [e] at k
      exact k

abbrev sisname : Stmt := top 8
abbrev Nisname : List Str := ["word", "first_signs"]
abbrev Pisname : List Str := ["word", "first_signs"]
theorem scisname : FnScope Nisname Pisname (defScope sisname) := ⟨rfl, rfl, rfl, by decide +kernel, rfl, by decide +kernel, by decide +kernel⟩

theorem ok_name {f fA : Addr} {fd fdA : FuncData} (F : Fun K "is_name" "is_name" sisname f fd) (T : WTxt K mg aK) (F_all_among : Fun K "all_among" "all_among" sallamong fA fdA) (b_all_among : Binds K fdA Pallamong []) (g_all_among : mg "all_among" = some (.ref fA)) :
    FnOk P w K mg base CX0 2 f fd Pisname spName := by
  have G_all_among : FnOk P w K mg base CX0 1 fA fdA Pallamong spAll := ok_all F_all_among
  refine F.ok scisname (fun vs H Q E h => ?_) (fun cdv A outer s H vs Q E hr h => ?_)
  · obtain ⟨t, z, rfl, _⟩ := h
    rfl
  · obtain ⟨t, z, rfl, hl, k⟩ := h
    have hr1 := hr
    refine ⟨_, (pss_cons (ps_if (PW.pt (pw_or (pt_cmpR op_eq (pv 0) pe_str (nomark _)) (pw_or (pt_cmpR op_gt (pe_callB call_len_str (by rfl) T.len PySem.boot_len (pa_cons (pv 0) pa_nil)) (pe_gint (by rfl) T.MOST_SIGNS) (nomark _)) (pw_or1 (pt_cmpR op_notIn_sign (pe_ix ix_str (pv 0) pe_int (fun _ _ => rfl)) (pv 1) (by rfl))))))
      (pss_one (ps_ret pe_bl))
      pss_nil)
      (pss_one (ps_ret (pe_call G_all_among hr1 rfl g_all_among F_all_among.kp b_all_among .nil pass0 (pa_cons (pv 0) (pa_cons (pe_op op_add_str (pe_op op_add_str (pe_op op_add_str (pe_gstr (by rfl) T.BIG_LETTERS) (pe_gstr (by rfl) T.SMALL_LETTERS)) (pe_gstr (by rfl) T.DIGITS)) pe_str) pa_nil)))))), ?_⟩
    refine ⟨.str t, (by kernel_rfl), rfl, _, rfl, ?_⟩
    rw [dec_str]
    by_cases h0 : t = ""
    · refine ite_yes (decide_eq_true h0) ?_
      refine ite_yes rfl ?_
      have e : isName t z = false := by unfold isName; rw [decide_eq_true h0]; rfl
      rw [e] at k
      exact k
    refine ite_no (decide_eq_false h0) ?_
    obtain ⟨c, r, ec⟩ := codes_cons h0
    refine ⟨.str t, (by kernel_rfl), t, rfl, sz_of hl, _, _, rfl, rfl, _, rfl, ?_⟩
    by_cases h1 : t.length > 24
    · refine ite_yes (decide_eq_true (by omega)) ?_
      refine ite_yes rfl ?_
      have e : isName t z = false := by unfold isName; rw [decide_eq_false h0, decide_eq_true h1]; rfl
      rw [e] at k
      exact k
    refine ite_no (decide_eq_false (by omega)) ?_
    refine ⟨.str t, (by kernel_rfl), t, 0, c, rfl, rfl, sz_of hl, atI0 ec, .str z, (by kernel_rfl), c, z, rfl, rfl, _, rfl, ?_⟩
    by_cases h2 : c ∈ codes z
    · refine ite_no (by rw [decide_eq_true h2]; rfl) ?_
      refine ⟨.str t, (by kernel_rfl), _, _, rfl, rfl, (by decide +kernel), _, _, rfl, rfl, (by decide +kernel), _, _, rfl, rfl, (by decide +kernel), t, sALL, rfl, ?_⟩
      have e : isName t z = allIn t sALL := by
        unfold isName
        rw [decide_eq_false h0, decide_eq_false h1, hd_of ec, decide_eq_true h2]
        rfl
      rw [e] at k
      exact k
    · refine ite_yes (by rw [decide_eq_false h2]; rfl) ?_
      have e : isName t z = false := by
        unfold isName
        rw [decide_eq_false h0, decide_eq_false h1, hd_of ec, decide_eq_false h2]
        rfl
      rw [e] at k
      exact k

abbrev sisbig : Stmt := top 9
abbrev Nisbig : List Str := ["word"]
abbrev Pisbig : List Str := ["word"]
theorem scisbig : FnScope Nisbig Pisbig (defScope sisbig) := ⟨rfl, rfl, rfl, by decide +kernel, rfl, by decide +kernel, by decide +kernel⟩

theorem ok_big {f fN fA : Addr} {fd fdN fdA : FuncData} (F : Fun K "is_big" "is_big" sisbig f fd) (T : WTxt K mg aK) (F_is_name : Fun K "is_name" "is_name" sisname fN fdN) (b_is_name : Binds K fdN Pisname []) (g_is_name : mg "is_name" = some (.ref fN)) (F_all_among : Fun K "all_among" "all_among" sallamong fA fdA) (b_all_among : Binds K fdA Pallamong []) (g_all_among : mg "all_among" = some (.ref fA)) : FnOk P w K mg base CX0 3 f fd Pisbig (spW isBig) := by
  have G_is_name : FnOk P w K mg base CX0 2 fN fdN Pisname spName := ok_name F_is_name T F_all_among b_all_among g_all_among
  refine F.ok scisbig (fun vs H Q E h => ?_) (fun cdv A outer s H vs Q E hr h => ?_)
  · obtain ⟨t, rfl, _⟩ := h
    rfl
  · obtain ⟨t, rfl, hl, k⟩ := h
    have hr1 := hr
    refine ⟨_, (pss_one (ps_ret (pe_call G_is_name hr1 rfl g_is_name F_is_name.kp b_is_name .nil pass0 (pa_cons (pv 0) (pa_cons (pe_gstr (by rfl) T.BIG_LETTERS) pa_nil))))), ?_⟩
    exact ⟨.str t, (by kernel_rfl), t, sBIG, rfl, hl, k⟩

abbrev sissmall : Stmt := top 10
abbrev Nissmall : List Str := ["word"]
abbrev Pissmall : List Str := ["word"]
theorem scissmall : FnScope Nissmall Pissmall (defScope sissmall) := ⟨rfl, rfl, rfl, by decide +kernel, rfl, by decide +kernel, by decide +kernel⟩

theorem ok_small {f fN fA : Addr} {fd fdN fdA : FuncData} (F : Fun K "is_small" "is_small" sissmall f fd) (T : WTxt K mg aK) (F_is_name : Fun K "is_name" "is_name" sisname fN fdN) (b_is_name : Binds K fdN Pisname []) (g_is_name : mg "is_name" = some (.ref fN)) (F_all_among : Fun K "all_among" "all_among" sallamong fA fdA) (b_all_among : Binds K fdA Pallamong []) (g_all_among : mg "all_among" = some (.ref fA)) : FnOk P w K mg base CX0 3 f fd Pissmall (spW isSmall) := by
  have G_is_name : FnOk P w K mg base CX0 2 fN fdN Pisname spName := ok_name F_is_name T F_all_among b_all_among g_all_among
  refine F.ok scissmall (fun vs H Q E h => ?_) (fun cdv A outer s H vs Q E hr h => ?_)
  · obtain ⟨t, rfl, _⟩ := h
    rfl
  · obtain ⟨t, rfl, hl, k⟩ := h
    have hr1 := hr
    refine ⟨_, (pss_one (ps_ret (pe_and (pe_cmpR op_notIn_seq (pv 0) (pe_gref (by rfl) T.KEYWORDS) (by rfl)) (pe_one (pe_call G_is_name hr1 rfl g_is_name F_is_name.kp b_is_name .nil pass0 (pa_cons (pv 0) (pa_cons (pe_gstr (by rfl) T.SMALL_LETTERS) pa_nil))))))), ?_⟩
    refine ⟨.str t, (by kernel_rfl), aK, _, rfl, .inr (T.kw H), rfl, rfl, _, rfl, ?_⟩
    rw [if_pos rfl, inV_strs]
    by_cases m : t ∈ kwL
    · refine ite_no (by rw [decide_eq_true m]; rfl) ?_
      have e : isSmall t = false := by unfold isSmall; rw [decide_eq_true m]; rfl
      rw [e] at k
      exact k
    · refine ite_yes (by rw [decide_eq_false m]; rfl) ?_
      have e : isSmall t = isName t sSMA := by unfold isSmall; rw [decide_eq_false m]; rfl
      rw [e] at k
      exact ⟨.str t, (by kernel_rfl), t, sSMA, rfl, hl, k⟩

/-! ### integers as they are written -/
theorem sign_is1 (c n : Nat) {z : Str} (hz : codes z = [n]) : decide (V.str ⟨#[c]⟩ = V.str z) = decide (c = n) := by
  rw [dec_str]
  by_cases h : c = n
  · rw [decide_eq_true h, decide_eq_true]
    exact str_ext (by rw [hz, ← h])
  · have q : ¬ (⟨#[c]⟩ : Str) = z := fun y => h (by
      have y2 : [c] = codes z := congrArg codes y
      rw [hz] at y2
      exact (List.cons.inj y2).1)
    rw [decide_eq_false h, decide_eq_false q]
def isCnt (w : Str) : Bool := !decide (w = "") && (allIn w sDIG && (decide (w = "0") || !decide (hd w = 48)))
def isWr (w : Str) : Bool := if decide (cutS w none (some 1) = "-") = true then (isCnt (cutS w (some 1) none) && !decide (w = "-0")) else isCnt w
theorem dig_sign (c : Nat) : (decide (c < 128) && Unicode.isDigit c) = decide (c ∈ codes sDIG) := by
  by_cases h : c < 128
  · have k : ∀ n : _root_.Fin 128, (Unicode.isDigit n.val) = decide (n.val ∈ codes sDIG) := by decide +kernel
    rw [decide_eq_true h, Bool.true_and]
    exact k ⟨c, h⟩
  · have k : (codes sDIG).all (fun c => decide (c < 128)) = true := by decide +kernel
    rw [decide_eq_false h, Bool.false_and]
    exact (decide_eq_false fun m => h (of_decide_eq_true (List.all_eq_true.mp k c m))).symm
theorem all_and2 {p q : Nat → Bool} : ∀ l : List Nat, (l.all p && l.all q) = l.all fun c => p c && q c
  | [] => rfl
  | a :: r => by
    rw [List.all_cons, List.all_cons, List.all_cons, ← all_and2 r]
    cases p a <;> cases q a <;> cases r.all p <;> cases r.all q <;> rfl
theorem ascii_dig (w : Str) : (Txt.isascii w && Txt.isdigit w) = (!decide (w = "") && allIn w sDIG) := by
  have e1 : Txt.isascii w = (codes w).all fun c => decide (c < 128) := by
    unfold Txt.isascii
    rw [← Array.all_toList]
  have e2 : Txt.isdigit w = (!decide (w = "") && (codes w).all Unicode.isDigit) := by
    unfold Txt.isdigit
    rw [← Array.all_toList]
    congr 1
    by_cases h : w = ""
    · rw [decide_eq_true h, h]
      rfl
    · obtain ⟨c, r, e⟩ := codes_cons h
      rw [decide_eq_false h, len_codes, e]
      rfl
  have e3 : allIn w sDIG = ((codes w).all (fun c => decide (c < 128)) && (codes w).all Unicode.isDigit) := by
    rw [all_and2]
    unfold allIn
    congr 1
    funext c
    exact (dig_sign c).symm
  rw [e1, e2, e3]
  cases (codes w).all (fun c => decide (c < 128)) <;> cases decide (w = "") <;> simp
theorem cont_minus (c : Nat) : (("-" : Str).cps.contains c) = decide (c = 45) := by
  by_cases h : c = 45
  · rw [decide_eq_true h, h]
    decide +kernel
  · rw [decide_eq_false h]
    have e : ("-" : Str).cps = #[45] := by decide +kernel
    rw [e]
    simp [h]
theorem sub_len (x : Str) (a b : Nat) : (PySem.Builtin.Str.strSub x a b).length = min b x.length - a := by
  unfold PySem.Builtin.Str.strSub
  simp [Str.length]
open PySem PySem.Spec PyProof PyProof.Rows in
theorem lstrip_len (t : Str) : (Txt.lstripChars t "-").length = t.length - ((codes t).takeWhile fun c => decide (c = 45)).length := by
  unfold Txt.lstripChars
  rw [stripBy_eq]
  have e : stripLo ("-" : Str).cps.contains true t = ((codes t).takeWhile fun c => decide (c = 45)).length := by
    unfold stripLo
    rw [if_pos rfl]
    congr 2
    funext c
    exact cont_minus c
  have e2 : stripHi ("-" : Str).cps.contains false t (stripLo ("-" : Str).cps.contains true t) = t.length := by
    unfold stripHi
    rw [if_neg Bool.false_ne_true]
  rw [e2, e, sub_len, Nat.min_self]
theorem num_eq (t : Str) : isNum t = (isWr t && decide ((((Txt.lstripChars t "-").length : Nat) : Int) ≤ 400)) := by
  have cnt : ∀ {d : Str}, isCnt d = true → ∃ c r, codes d = c :: r ∧ c ≠ 45 ∧ allIn d sDIG = true ∧ d ≠ "" ∧ (d = "0" ∨ c ≠ 48) := fun {d} h => by
    unfold isCnt at h
    simp only [Bool.and_eq_true, Bool.or_eq_true, decide_eq_true_eq, Bool.not_eq_true', decide_eq_false_iff_not] at h
    obtain ⟨h0, h1, h2⟩ := h
    obtain ⟨c, r, e⟩ := codes_cons h0
    refine ⟨c, r, e, fun z => ?_, h1, h0, ?_⟩
    · have := allIn_hd e h1
      rw [z] at this
      exact absurd this (by decide +kernel)
    · rw [hd_of e] at h2
      exact h2
  by_cases hq : cutS t none (some 1) = "-"
  · have ht : t ≠ "" := fun z => by
      rw [z] at hq
      exact absurd hq (by decide +kernel)
    obtain ⟨c, r, ec⟩ := codes_cons ht
    have c45 : c = 45 := by
      have z := congrArg codes hq
      rw [cut1_of ec] at z
      exact (List.cons.inj (show [c] = [45] from z)).1
    subst c45
    have cd : codes (cutS t (some 1) none) = r := by rw [cutT_codes, ec]; rfl
    have de : digs t = cutS t (some 1) none := by unfold digs; rw [decide_eq_true hq, if_pos rfl]
    have we : isWr t = (isCnt (cutS t (some 1) none) && !decide (t = "-0")) := by unfold isWr; rw [decide_eq_true hq, if_pos rfl]
    have t0 : ¬ t = "0" := fun z => by
      rw [z] at ec
      have : (48 : Nat) = 45 := (List.cons.inj (show [48] = 45 :: r from ec)).1
      omega
    have dz : (t = "-0") ↔ (cutS t (some 1) none = "0") := by
      constructor
      · intro z
        refine str_ext ?_
        rw [cd]
        rw [z] at ec
        exact (List.cons.inj (show [45, 48] = 45 :: r from ec)).2.symm
      · intro z
        have z2 := congrArg codes z
        rw [cd] at z2
        exact str_ext (by rw [ec, z2]; rfl)
    have tl : t.length = r.length + 1 := by rw [len_codes, ec]; rfl
    have dl : (cutS t (some 1) none).length = r.length := by rw [len_codes, cd]
    rw [we]
    unfold isNum
    rw [de]
    have lst := lstrip_len t
    rw [ec] at lst
    generalize cutS t (some 1) none = d at cd dz dl ⊢
    cases hc : isCnt d with
    | false =>
      rw [Bool.false_and, Bool.false_and]
      unfold isCnt at hc
      cases h0 : decide (d = "") with
      | true => rfl
      | false =>
        cases h1 : decide (d.length > 400) with
        | true => rfl
        | false =>
          cases h2 : allIn d sDIG with
          | false => rfl
          | true =>
            rw [h0, h2] at hc
            have hc2 : (decide (d = "0") || !decide (hd d = 48)) = false := hc
            rw [Bool.or_eq_false_iff] at hc2
            have h48 : decide (hd d = 48) = true := by simpa using hc2.2
            rw [h48, decide_eq_false t0]
            rfl
    | true =>
      obtain ⟨c, r2, e2, c45, al, ne, or⟩ := cnt hc
      rw [cd] at e2
      subst e2
      have ll : (Txt.lstripChars t "-").length = d.length := by
        rw [lst, tl, dl]
        simp [c45]
      rw [ll, decide_eq_false ne, al, hd_of cd, Bool.true_and]
      by_cases h1 : d.length > 400
      · rw [decide_eq_true h1, decide_eq_false (show ¬ ((d.length : Nat) : Int) ≤ 400 by omega), Bool.and_false]
        rfl
      · rw [decide_eq_false h1, decide_eq_true (show ((d.length : Nat) : Int) ≤ 400 by omega), Bool.and_true]
        by_cases h3 : c = 48
        · rcases or with h | h
          · rw [decide_eq_true h3, decide_eq_true (dz.mpr h), decide_eq_false t0]
            rfl
          · exact absurd h3 h
        · have n0 : ¬ t = "-0" := fun z => h3 (by
            have := congrArg codes (dz.mp z)
            rw [cd] at this
            exact (List.cons.inj (show c :: r2 = [48] from this)).1)
          rw [decide_eq_false h3, decide_eq_false n0]
          rfl
  · have de : digs t = t := by unfold digs; rw [decide_eq_false hq, if_neg Bool.false_ne_true]
    have we : isWr t = isCnt t := by unfold isWr; rw [decide_eq_false hq, if_neg Bool.false_ne_true]
    rw [we]
    unfold isNum
    rw [de]
    have lst := lstrip_len t
    cases hc : isCnt t with
    | false =>
      rw [Bool.false_and]
      unfold isCnt at hc
      cases h0 : decide (t = "") with
      | true => rfl
      | false =>
        cases h1 : decide (t.length > 400) with
        | true => rfl
        | false =>
          cases h2 : allIn t sDIG with
          | false => rfl
          | true =>
            rw [h0, h2] at hc
            have hc2 : (decide (t = "0") || !decide (hd t = 48)) = false := hc
            rw [Bool.or_eq_false_iff] at hc2
            have h48 : decide (hd t = 48) = true := by simpa using hc2.2
            rw [h48, hc2.1]
            rfl
    | true =>
      obtain ⟨c, r2, e2, c45, al, ne, or⟩ := cnt hc
      have ll : (Txt.lstripChars t "-").length = t.length := by
        rw [lst, e2]
        simp [c45]
      rw [ll, decide_eq_false ne, al, hd_of e2, Bool.true_and]
      by_cases h1 : t.length > 400
      · rw [decide_eq_true h1, decide_eq_false (show ¬ ((t.length : Nat) : Int) ≤ 400 by omega)]
        rfl
      · rw [decide_eq_false h1, decide_eq_true (show ((t.length : Nat) : Int) ≤ 400 by omega)]
        by_cases h3 : c = 48
        · rcases or with h | h
          · rw [decide_eq_true h3, decide_eq_true h]
            rfl
          · exact absurd h3 h
        · rw [decide_eq_false h3]
          rfl
abbrev sisnatural : Stmt := top 11
abbrev Nisnatural : List Str := ["word"]
abbrev Pisnatural : List Str := ["word"]
theorem scisnatural : FnScope Nisnatural Pisnatural (defScope sisnatural) := ⟨rfl, rfl, rfl, by decide +kernel, rfl, by decide +kernel, by decide +kernel⟩

theorem ok_nat {f : Addr} {fd : FuncData} (F : Fun K "is_natural" "is_natural" sisnatural f fd) : FnOk P w K mg base CX0 1 f fd Pisnatural (spW isCnt) := by
  refine F.ok scisnatural (fun vs H Q E h => ?_) (fun cdv A outer s H vs Q E hr h => ?_)
  · obtain ⟨t, rfl, _⟩ := h
    rfl
  · obtain ⟨t, rfl, hl, k⟩ := h
    refine ⟨_, (pss_one (ps_ret (pe_and (pe_m0 PySem.F.slot_str_isascii PySem.F.type_str_isascii mt_isascii (pv 0)) (pe_and (pe_m0 PySem.F.slot_str_isdigit PySem.F.type_str_isdigit mt_isdigit (pv 0)) (pe_one (pe_or (pe_cmpR op_ne (pe_ix ix_str (pv 0) pe_int (fun _ _ => rfl)) pe_str (nomark _)) (pe_one (pe_cmpR op_eq (pv 0) pe_str (nomark _))))))))), ?_⟩
    have ad := ascii_dig t
    refine ⟨.str t, (by kernel_rfl), ⟨_, rfl⟩, t, rfl, rfl, trivial, ?_⟩
    cases ha : Txt.isascii t with
    | false =>
      rw [ha, Bool.false_and] at ad
      have e : isCnt t = false := by
        unfold isCnt
        rw [← Bool.and_assoc, ← ad, Bool.false_and]
      rw [e] at k
      exact ⟨_, rfl, ite_no rfl k⟩
    | true =>
      rw [ha, Bool.true_and] at ad
      refine ⟨_, rfl, ite_yes rfl ?_⟩
      refine ⟨.str t, (by kernel_rfl), ⟨_, rfl⟩, t, rfl, rfl, trivial, ?_⟩
      have e : isCnt t = (Txt.isdigit t && (decide (t = "0") || !decide (hd t = 48))) := by
        unfold isCnt
        rw [← Bool.and_assoc, ← ad]
      rw [e] at k
      cases hd2 : Txt.isdigit t with
      | false =>
        rw [hd2, Bool.false_and] at k
        exact ⟨_, rfl, ite_no rfl k⟩
      | true =>
        rw [hd2, Bool.true_and] at k
        rw [hd2] at ad
        have h0 : t ≠ "" := fun z => by
          rw [decide_eq_true z] at ad
          cases ad
        obtain ⟨c, r, ec⟩ := codes_cons h0
        rw [hd_of ec] at k
        refine ⟨_, rfl, ite_yes rfl ?_⟩
        refine ⟨.str t, (by kernel_rfl), t, 0, c, rfl, rfl, sz_of (by omega), atI0 ec, rfl, ?_⟩
        rw [sign_is1 c 48 (by decide +kernel)]
        by_cases h1 : c = 48
        · refine ⟨_, rfl, ite_no (by rw [decide_eq_true h1]; rfl) ?_⟩
          refine ⟨.str t, (by kernel_rfl), rfl, ?_⟩
          rw [dec_str]
          rw [decide_eq_true h1, Bool.not_true, Bool.or_false] at k
          exact k
        · refine ⟨_, rfl, ite_yes (by rw [decide_eq_false h1]; rfl) ?_⟩
          rw [decide_eq_false h1, Bool.not_false, Bool.or_true] at k
          exact k

abbrev siswritten : Stmt := top 12
abbrev Niswritten : List Str := ["word"]
abbrev Piswritten : List Str := ["word"]
theorem sciswritten : FnScope Niswritten Piswritten (defScope siswritten) := ⟨rfl, rfl, rfl, by decide +kernel, rfl, by decide +kernel, by decide +kernel⟩

theorem ok_wri {f fN : Addr} {fd fdN : FuncData} (F : Fun K "is_written" "is_written" siswritten f fd) (F_is_natural : Fun K "is_natural" "is_natural" sisnatural fN fdN) (b_is_natural : Binds K fdN Pisnatural []) (g_is_natural : mg "is_natural" = some (.ref fN)) : FnOk P w K mg base CX0 2 f fd Piswritten (spW isWr) := by
  have G_is_natural : FnOk P w K mg base CX0 1 fN fdN Pisnatural (spW isCnt) := ok_nat F_is_natural
  refine F.ok sciswritten (fun vs H Q E h => ?_) (fun cdv A outer s H vs Q E hr h => ?_)
  · obtain ⟨t, rfl, _⟩ := h
    rfl
  · obtain ⟨t, rfl, hl, k⟩ := h
    have hr1 := hr
    refine ⟨_, (pss_cons (ps_if (pt_cmpR op_eq (pe_slice sl_str (pv 0) po_none (po_some pe_int)) pe_str (nomark _))
      (pss_one (ps_ret (pe_and (pe_call G_is_natural hr1 rfl g_is_natural F_is_natural.kp b_is_natural .nil pass0 (pa_cons (pe_slice sl_str (pv 0) (po_some pe_int) po_none) pa_nil)) (pe_one (pe_cmpR op_ne (pv 0) pe_str (nomark _))))))
      pss_nil)
      (pss_one (ps_ret (pe_call G_is_natural hr1 rfl g_is_natural F_is_natural.kp b_is_natural .nil pass0 (pa_cons (pv 0) pa_nil))))), ?_⟩
    refine ⟨.str t, (by kernel_rfl), 1, rfl, t, rfl, sz_of (by omega), ?_⟩
    refine ⟨rfl, _, rfl, ?_⟩
    rw [dec_str]
    have dl : (cutS t (some 1) none).length ≤ t.length := by
      rw [len_codes, cutT_codes, List.length_drop, len_codes]
      omega
    replace dl := Nat.le_trans dl hl
    unfold isWr at k
    by_cases hq : cutS t none (some 1) = "-"
    · refine ite_yes (decide_eq_true hq) ?_
      rw [decide_eq_true hq, if_pos rfl] at k
      refine ⟨.str t, (by kernel_rfl), 1, rfl, t, rfl, sz_of (by omega), ?_⟩
      refine ⟨_, rfl, dl, ?_⟩
      cases hc : isCnt (cutS t (some 1) none) with
      | false =>
        rw [hc, Bool.false_and] at k
        exact ⟨_, rfl, ite_no rfl k⟩
      | true =>
        rw [hc, Bool.true_and] at k
        refine ⟨_, rfl, ite_yes rfl ?_⟩
        refine ⟨.str t, (by kernel_rfl), rfl, ?_⟩
        rw [dec_str]
        exact k
    · refine ite_no (decide_eq_false hq) ?_
      rw [decide_eq_false hq, if_neg Bool.false_ne_true] at k
      exact ⟨.str t, (by kernel_rfl), t, rfl, hl, k⟩

abbrev sisnumber : Stmt := top 13
abbrev Nisnumber : List Str := ["word"]
abbrev Pisnumber : List Str := ["word"]
theorem scisnumber : FnScope Nisnumber Pisnumber (defScope sisnumber) := ⟨rfl, rfl, rfl, by decide +kernel, rfl, by decide +kernel, by decide +kernel⟩

theorem ok_number0 {f fW fN : Addr} {fd fdW fdN : FuncData} (F : Fun K "is_number" "is_number" sisnumber f fd) (T : WTxt K mg aK) (F_is_written : Fun K "is_written" "is_written" siswritten fW fdW) (b_is_written : Binds K fdW Piswritten []) (g_is_written : mg "is_written" = some (.ref fW)) (F_is_natural : Fun K "is_natural" "is_natural" sisnatural fN fdN) (b_is_natural : Binds K fdN Pisnatural []) (g_is_natural : mg "is_natural" = some (.ref fN)) : FnOk P w K mg base CX0 3 f fd Pisnumber (spW isNum) := by
  have G_is_written : FnOk P w K mg base CX0 2 fW fdW Piswritten (spW isWr) := ok_wri F_is_written F_is_natural b_is_natural g_is_natural
  refine F.ok scisnumber (fun vs H Q E h => ?_) (fun cdv A outer s H vs Q E hr h => ?_)
  · obtain ⟨t, rfl, _⟩ := h
    rfl
  · obtain ⟨t, rfl, hl, k⟩ := h
    have hr1 := hr
    refine ⟨_, (pss_one (ps_ret (pe_and (pe_call G_is_written hr1 rfl g_is_written F_is_written.kp b_is_written .nil pass0 (pa_cons (pv 0) pa_nil)) (pe_one (pe_cmpR op_le (pe_callB call_len_str (by rfl) T.len PySem.boot_len (pa_cons (pe_m1 PySem.F.slot_str_lstrip PySem.F.type_str_lstrip mt_lstripChars (pv 0) pe_str) pa_nil)) (pe_gint (by rfl) T.MOST_DIGITS) (nomark _)))))), ?_⟩
    have e := num_eq t
    refine ⟨.str t, (by kernel_rfl), t, rfl, hl, ?_⟩
    cases hw : isWr t with
    | false =>
      rw [hw, Bool.false_and] at e
      rw [e] at k
      exact ⟨_, rfl, ite_no rfl k⟩
    | true =>
      rw [hw, Bool.true_and] at e
      rw [e] at k
      refine ⟨_, rfl, ite_yes rfl ?_⟩
      have ll := lstrip_len t
      refine ⟨.str t, (by kernel_rfl), ⟨_, rfl⟩, t, "-", rfl, rfl, sz_of (by omega), ?_⟩
      refine ⟨_, rfl, sz_of (by omega), ?_⟩
      exact ⟨_, _, rfl, rfl, k⟩
structure NumFun (K : PySem.W.Frag) (mg : Str → Option Value) (f : Addr) (fd : FuncData) : Prop extends Fun K "is_number" "is_number" sisnumber f fd where
  rest : ∃ (fW fO : Addr) (fdW fdO : FuncData), Fun K "is_written" "is_written" siswritten fW fdW ∧ Binds K fdW Piswritten [] ∧ mg "is_written" = some (.ref fW) ∧ Fun K "is_natural" "is_natural" sisnatural fO fdO ∧ Binds K fdO Pisnatural [] ∧ mg "is_natural" = some (.ref fO)
theorem ok_number {f fA : Addr} {fd fdA : FuncData} (F : NumFun K mg f fd) (T : WTxt K mg aK) (_ : Fun K "all_among" "all_among" sallamong fA fdA) (_ : Binds K fdA Pallamong []) (_ : mg "all_among" = some (.ref fA)) : FnOk P w K mg base CX0 3 f fd Pisnumber (spW isNum) := by
  obtain ⟨_, _, _, _, h1, h2, h3, h4, h5, h6⟩ := F.rest
  exact ok_number0 F.toFun T h1 h2 h3 h4 h5 h6

end
end Nm
namespace Nm
open PySem L2
/-! ### the words of a line -/
def WL (H : Hp) : List (List Nat × Nat) → List V → Prop := Paired fun (p : List Nat × Nat) (v : V) => ∃ T : Addr, v = .ref T ∧ H T = some (.tup [.str ⟨p.1.toArray⟩, .int (p.2 : Int)])
theorem Paired.mono' {α β : Type} {F G : α → β → Prop} : ∀ {xs : List α} {ys : List β}, Paired F xs ys → (∀ a b, F a b → G a b) → Paired G xs ys
  | _, _, .nil, _ => .nil
  | _, _, .cons r t, h => .cons (h _ _ r) (Paired.mono' t h)
theorem Paired.snoc {α β : Type} {F : α → β → Prop} {a : α} {b : β} (h : F a b) : ∀ {xs : List α} {ys : List β}, Paired F xs ys → Paired F (xs ++ [a]) (ys ++ [b])
  | _, _, .nil => .cons h .nil
  | _, _, .cons r t => .cons r (Paired.snoc h t)
theorem WL.mono {H H' : Hp} {ws : List (List Nat × Nat)} {xs : List V} (h : WL H ws xs) (k : ∀ T ys, H T = some (.tup ys) → H' T = some (.tup ys)) : WL H' ws xs := Paired.mono' h fun _ _ ⟨T, e, q⟩ => ⟨T, e, k _ _ q⟩
theorem WL.same {H H' : Hp} {ws : List (List Nat × Nat)} {xs : List V} (h : WL H ws xs) (s : Same H H') : WL H' ws xs := h.mono fun T ys q => s _ _ q
theorem WL.len {H : Hp} {ws : List (List Nat × Nat)} {xs : List V} (h : WL H ws xs) : ws.length = xs.length := Paired.length h
theorem same_new {H : Hp} {p : Addr} {o : HO} (h : H p = none) : Same H (upd H p o) := fun b u e => by
  rw [upd_ne (ne_of_none e h)]
  exact e
/-- l stands, and what stood before it was made -/
structure LB (H0 H : Hp) (l : Addr) (ws : List (List Nat × Nat)) (xs : List V) : Prop where
  s : Same H0 H
  n : H0 l = none
  l : H l = some (.lst xs)
  w : WL H ws xs
/-- a tuple is made and appended -/
theorem LB.app {H0 H : Hp} {l t : Addr} {ws : List (List Nat × Nat)} {xs : List V} (L : LB H0 H l ws xs) (nt : H t = none) (w : List Nat) (k : Nat) :
    LB H0 (upd (upd H t (.tup [.str ⟨w.toArray⟩, .int (k : Int)])) l (.lst (xs ++ [.ref t]))) l (ws ++ [(w, k)]) (xs ++ [.ref t]) := by
  have tl : t ≠ l := (ne_of_none L.l nt).symm
  refine ⟨fun b o e => ?_, L.n, upd_same, Paired.snoc ⟨t, rfl, by rw [upd_ne tl, upd_same]⟩ (L.w.mono fun T ys q => ?_)⟩
  · rw [upd_ne (ne_of_none e L.n), upd_ne (ne_of_none (L.s b o e) nt)]
    exact L.s b o e
  · rw [upd_ne (ne_of q L.l (by intro z; cases z)), upd_ne (ne_of_none q nt)]
    exact q
theorem LB.put {H0 H H' : Hp} {l : Addr} {ws : List (List Nat × Nat)} {xs : List V} (L : LB H0 H l ws xs) (s : Same H H') : LB H0 H' l ws xs := ⟨L.s.trans s, L.n, s _ _ L.l, L.w.same s⟩
theorem part_told (z : Str) : codes (Txt.partition z ";").1 = told (codes z) := by
  have ey : codes (";" : Str) = 59 :: [] := by decide +kernel
  have nt : 59 ∉ told (codes z) := fun h => by
    have q := List.all_takeWhile (p := (· != 59)) (l := codes z)
    have := List.all_eq_true.mp q 59 h
    simp at this
  have e := List.takeWhile_append_dropWhile (p := (· != 59)) (l := codes z)
  cases d : (codes z).dropWhile (· != 59) with
  | nil =>
    rw [d, List.append_nil] at e
    have e2 : told (codes z) = codes z := e
    rw [e2]
    rw [e2] at nt
    rw [TL.partition_none ey nt]
  | cons c r =>
    have hc : c = 59 := by
      have h1 := List.head?_dropWhile_not (p := (· != 59)) (l := codes z)
      rw [d] at h1
      simpa using h1
    rw [hc] at d
    rw [d] at e
    have ez : z = (⟨(told (codes z)).toArray⟩ : Str) ++ ";" ++ ⟨r.toArray⟩ := by
      refine str_ext ?_
      show codes z = (((told (codes z)).toArray ++ (";" : Str).cps) ++ r.toArray).toList
      rw [Array.toList_append, Array.toList_append, show (";" : Str).cps.toList = [59] from ey]
      conv => lhs; rw [← e]
      show told (codes z) ++ 59 :: r = _
      simp
    have p := TL.partition_app (a := ⟨(told (codes z)).toArray⟩) (b := ⟨r.toArray⟩) ey (by simpa using nt)
    rw [← ez] at p
    rw [p]
theorem cutS_nat (z : Str) (a b : Nat) (ha : a ≤ b) (hb : b ≤ z.length) : cutS z (some (a : Int)) (some (b : Int)) = ⟨(((codes z).drop a).take (b - a)).toArray⟩ := by
  unfold cutS
  rw [HT.sIx_nat, HT.sIx_nat, Nat.min_eq_left hb, Nat.min_eq_left (Nat.le_trans ha hb)]
def sepL : List Nat := [32, 40, 41]
theorem sep_codes : codes (" ()" : Str) = sepL := by decide +kernel
theorem sign_eq (c : Nat) (k : Nat) (s : Str) (h : codes s = [k]) : decide (V.str ⟨#[c]⟩ = V.str s) = decide (c = k) := by
  rw [dec_str]
  by_cases e : c = k
  · rw [e, decide_eq_true rfl]
    exact decide_eq_true (str_ext (by rw [h]))
  · rw [decide_eq_false e]
    exact decide_eq_false fun z => e (by
      have y := congrArg codes z
      rw [h] at y
      exact (List.cons.inj y).1)
/-- one turn of the scan -/
theorem scan_sep {c : Nat} (r : List Nat) (k : Nat) (w : List Nat) (h : c ∈ sepL) : scan (c :: r) k w = flush k w ++ ((if c = 32 then [] else [([c], k + 1)]) ++ scan r (k + 1) []) := by
  unfold sepL at h
  simp only [List.mem_cons, List.not_mem_nil, or_false] at h
  show (if c = 59 then flush k w else if c = 32 then flush k w ++ scan r (k + 1) [] else if c = 40 ∨ c = 41 then flush k w ++ ([c], k + 1) :: scan r (k + 1) [] else scan r (k + 1) (w ++ [c])) = _
  rcases h with rfl | rfl | rfl <;> simp
theorem scan_sign {c : Nat} (r : List Nat) (k : Nat) (w : List Nat) (h : c ∉ sepL) (h59 : c ≠ 59) : scan (c :: r) k w = scan r (k + 1) (w ++ [c]) := by
  unfold sepL at h
  simp only [List.mem_cons, List.not_mem_nil, or_false, not_or] at h
  show (if c = 59 then flush k w else if c = 32 then flush k w ++ scan r (k + 1) [] else if c = 40 ∨ c = 41 then flush k w ++ ([c], k + 1) :: scan r (k + 1) [] else scan r (k + 1) (w ++ [c])) = _
  rw [if_neg h59, if_neg h.1, if_neg (by omega)]
def spWords : Sp := fun vs H Q _ => ∃ z : Str, vs = [.str z] ∧ z.length ≤ 10000 ∧ ∀ (p : Addr) (H' : Hp) (xs : List V), Same H H' → H' p = some (.tup xs) → WL H' (scan (codes z) 0 []) xs → Q (.ref p) H'
section
variable {P : Program} {w : World} {K : PySem.W.Frag} {mg : Str → Option Value} {base : Heap} {aK : Addr}

abbrev swordsof : Stmt := top 14
abbrev Nwordsof : List Str := ["line", "words", "start", "told", "at", "sign"]
abbrev Pwordsof : List Str := ["line"]
theorem scwordsof : FnScope Nwordsof Pwordsof (defScope swordsof) := ⟨rfl, rfl, rfl, by decide +kernel, rfl, by decide +kernel, by decide +kernel⟩

theorem small_big {n : Nat} (h : n ≤ 100000) : n < sizeLine := Nat.lt_of_le_of_lt h (by decide)
theorem ok_words_of {f : Addr} {fd : FuncData} (F : Fun K "words_of" "words_of" swordsof f fd) (T : WTxt K mg aK) : FnOk P w K mg base CX0 1 f fd Pwordsof spWords := by
  refine F.ok scwordsof (fun vs H Q E h => ?_) (fun cdv A outer s H vs Q E hr h => ?_)
  · obtain ⟨t, rfl, _⟩ := h
    rfl
  · obtain ⟨z, rfl, hl, k⟩ := h
    refine ⟨_, (pss_cons (ps_set (i := 1) scwordsof.nd rfl (Or.inl rfl) (pe_lst pa_nil))
      (pss_cons (ps_set (i := 2) scwordsof.nd rfl (Or.inl rfl) pe_int)
      (pss_cons (ps_set (i := 3) scwordsof.nd rfl (Or.inl rfl) (pe_ix ix_tup (pe_partition (pv 0) pe_str) pe_int (fun _ _ => rfl)))
      (pss_cons (ps_for PassesOwn.never rfl (pi_enumS (by rfl) T.enumerate (pa_cons (pe_op op_add_str (pv 3) pe_str) pa_nil)) (pg_tup (by rfl) (pgs_cons (pg_name (i := 4) scwordsof.nd rfl (Or.inl rfl)) (pgs_cons (pg_name (i := 5) scwordsof.nd rfl (Or.inl rfl)) pgs_nil)))
      (pss_one (ps_if (pt_cmpR op_in_sign (pv 5) pe_str (by rfl))
      (pss_cons (ps_if (pt_cmpR op_lt (pv 2) (pv 4) (nomark _))
      (pss_one (ps_expr (pe_bm PySem.F.plainAttrs_list PySem.F.slot_list_append PySem.F.type_list_append mt_append (pv 1) (pa_cons (pe_tup (pa_cons (pe_slice sl_str (pv 3) (po_some (pv 2)) (po_some (pv 4))) (pa_cons (pe_op op_add (pv 2) pe_int) pa_nil))) pa_nil))))
      pss_nil)
      (pss_cons (ps_if (pt_cmpR op_ne (pv 5) pe_str (nomark _))
      (pss_one (ps_expr (pe_bm PySem.F.plainAttrs_list PySem.F.slot_list_append PySem.F.type_list_append mt_append (pv 1) (pa_cons (pe_tup (pa_cons (pv 5) (pa_cons (pe_op op_add (pv 4) pe_int) pa_nil))) pa_nil))))
      pss_nil)
      (pss_one (ps_set (i := 2) scwordsof.nd rfl (Or.inl rfl) (pe_op op_add (pv 4) pe_int)))))
      pss_nil)))
      (pss_one (ps_ret (pe_callTy call_tuple_of (by rfl) T.tuple (by decide +kernel) (pa_cons (pv 1) pa_nil)))))))), ?_⟩
    refine ⟨Nat.zero_le _, fun l nl => ?_⟩
    have L0 : LB H (upd H l (.lst [])) l [] [] := ⟨same_new nl, nl, upd_same, .nil⟩
    generalize upd H l (.lst []) = H1 at L0 ⊢
    refine ⟨.str z, (by kernel_rfl), ⟨_, rfl⟩, z, ";", rfl, rfl, rfl, sz_of (by omega), fun pp np => ?_⟩
    have hpp := upd_same (H := H1) (a := pp) (o := .tup [.str (Txt.partition z ";").1, .str (Txt.partition z ";").2.1, .str (Txt.partition z ";").2.2])
    have L1 := L0.put (same_new (o := .tup [.str (Txt.partition z ";").1, .str (Txt.partition z ";").2.1, .str (Txt.partition z ";").2.2]) np)
    generalize upd H1 pp (.tup [.str (Txt.partition z ";").1, .str (Txt.partition z ";").2.1, .str (Txt.partition z ";").2.2]) = H2 at hpp L1 ⊢
    refine ⟨pp, _, 0, .str (Txt.partition z ";").1, rfl, rfl, SqT.of hpp, rfl, ?_⟩
    have eT := part_told z
    generalize (Txt.partition z ";").1 = to at eT ⊢
    have lT : to.length ≤ 10000 := by
      rw [len_codes, eT]
      rw [len_codes] at hl
      exact Nat.le_trans (List.takeWhile_sublist _).length_le hl
    have n59 : 59 ∉ codes to := by
      rw [eT]
      intro h
      have q := List.all_takeWhile (p := (· != 59)) (l := codes z)
      have := List.all_eq_true.mp q 59 h
      simp at this
    have eA : codes (to ++ " ") = codes to ++ [32] := by
      show (to.cps ++ (" " : Str).cps).toList = _
      rw [Array.toList_append]
      rfl
    have lA : (to ++ " ").cps.size = (codes to).length + 1 := by
      have : (to ++ " ").cps.size = (codes (to ++ " ")).length := by simp
      rw [this, eA]
      simp
    have lc : to.length = (codes to).length := len_codes to
    refine ⟨.str to, (by kernel_rfl), _, _, rfl, rfl, sz_of (by show to.length + 1 ≤ 100000; omega), _, rfl, ?_⟩
    refine for_it (walk_enumS (z := to ++ " ")) (fun i σ H' => ∃ (st : Nat) (ws : List (List Nat × Nat)) (xs : List V) (v4 v5 : Option V), σ = [some (.str z), some (.ref l), some (.int (st : Int)), some (.str to), v4, v5] ∧ st ≤ i ∧ LB H H' l ws xs ∧ xs.length ≤ 2 * i ∧
        ws ++ scan ((codes to ++ [32]).drop i) i (((codes to ++ [32]).drop st).take (i - st)) = scan (codes to ++ [32]) 0 [] ∧ (i = (codes to).length + 1 → st = i))
      ⟨0, [], [], none, none, (by kernel_rfl), Nat.le_refl _, L1, Nat.le_refl _, rfl, fun q => by omega⟩ (fun _ _ _ _ _ => True.intro) ?_ ?_
    · rintro i x σ H3 H4 hi ⟨st, ws, xs, v4, v5, rfl, hst, L3, hx, hsc, _⟩ ⟨Tn, c, rfl, nT, rfl, hc⟩
      rw [lA] at hi
      have hc' : (codes to ++ [32])[i]? = some c := by
        rw [← eA]
        simpa using hc
      have hdrop : (codes to ++ [32]).drop i = c :: (codes to ++ [32]).drop (i + 1) := by
        obtain ⟨h1, h2⟩ := List.getElem?_eq_some_iff.mp hc'
        rw [List.drop_eq_getElem_cons h1, h2]
      have c59 : c ≠ 59 := fun q => by
        have m := List.mem_of_getElem? hc'
        rw [q] at m
        rcases List.mem_append.mp m with h | h
        · exact n59 h
        · simp at h
      rw [hdrop] at hsc
      have hT := upd_same (H := H3) (a := Tn) (o := .tup [.int (i : Nat), .str ⟨#[c]⟩])
      have L4 := L3.put (same_new (o := .tup [.int (i : Nat), .str ⟨#[c]⟩]) nT)
      generalize upd H3 Tn (.tup [.int (i : Nat), .str ⟨#[c]⟩]) = H4 at hT L4 ⊢
      refine ⟨Tn, _, rfl, SqT.of hT, rfl, _, _, rfl, _, _, rfl, rfl, ?_⟩
      refine ⟨.str ⟨#[c]⟩, (by kernel_rfl), c, " ()", rfl, rfl, _, rfl, ?_⟩
      rw [show (Str.ofString " ()").cps.toList = sepL from sep_codes]
      by_cases hs : c ∈ sepL
      · refine ite_yes (decide_eq_true hs) ?_
        rw [scan_sep _ _ _ hs] at hsc
        have last : i = (codes to).length → c = 32 := fun q => by
          rw [q, List.getElem?_append_right (Nat.le_refl _)] at hc'
          simpa using hc'.symm
        refine ⟨.int (st : Int), (by kernel_rfl), .int (i : Int), (by kernel_rfl), _, _, rfl, rfl, _, rfl, ?_⟩
        by_cases hlt : st < i
        · refine ite_yes (decide_eq_true (by omega)) ?_
          refine ⟨.ref l, (by kernel_rfl), .inl ⟨rfl, _, SqL.of L4.l⟩, .str to, (by kernel_rfl), .int (st : Int), (by kernel_rfl), (st : Int), rfl, .int (i : Int), (by kernel_rfl), (i : Int), rfl, to, rfl, sz_of (by omega), ?_⟩
          refine ⟨.int (st : Int), (by kernel_rfl), _, _, rfl, rfl, by show 2 ≤ sizeLine; decide, fun t1 n1 => ?_⟩
          rw [cutS_nat to st i hst (by omega)]
          have ew : ((codes to).drop st).take (i - st) = ((codes to ++ [32]).drop st).take (i - st) := by
            rw [List.drop_append_of_le_length (by omega), List.take_append_of_le_length (by rw [List.length_drop]; omega)]
          rw [ew]
          have L5 := L4.app n1 (((codes to ++ [32]).drop st).take (i - st)) (st + 1)
          refine ⟨l, _, _, rfl, rfl, (same_new n1) _ _ L4.l, small_big (by omega), ?_⟩
          have wl : (((codes to ++ [32]).drop st).take (i - st)).length = i - st := by
            rw [List.length_take, List.length_drop, List.length_append]
            show min (i - st) ((codes to).length + 1 - st) = i - st
            omega
          have ef : flush i (((codes to ++ [32]).drop st).take (i - st)) = [(((codes to ++ [32]).drop st).take (i - st), st + 1)] := by
            unfold flush
            rw [if_neg (by intro q; rw [q] at wl; simp at wl; omega), wl, show i + 1 - (i - st) = st + 1 by omega]
          rw [ef] at hsc
          have L5' : LB H _ l (ws ++ [(((codes to ++ [32]).drop st).take (i - st), st + 1)]) (xs ++ [.ref t1]) := L5
          have hx5 : (xs ++ [V.ref t1]).length ≤ 2 * i + 1 := by rw [List.length_append]; simp; omega
          refine ⟨.str ⟨#[c]⟩, (by kernel_rfl), rfl, _, rfl, ?_⟩
          by_cases h32 : c = 32
          · refine ite_no (by rw [sign_eq c 32 " " (by decide +kernel), decide_eq_true h32]; rfl) ?_
            refine ⟨.int (i : Int), (by kernel_rfl), _, _, rfl, rfl, ?_⟩
            refine ⟨i + 1, _, _, some (.int (i : Int)), some (.str ⟨#[c]⟩), (by kernel_rfl), Nat.le_refl _, L5', by omega, ?_, fun _ => rfl⟩
            rw [if_pos h32, List.nil_append] at hsc
            rw [Nat.sub_self, List.take_zero, ← hsc]
            try simp only [List.append_assoc]
          · refine ite_yes (by rw [sign_eq c 32 " " (by decide +kernel), decide_eq_false h32]; rfl) ?_
            refine ⟨.ref l, (by kernel_rfl), .inl ⟨rfl, _, SqL.of L5'.l⟩, .str ⟨#[c]⟩, (by kernel_rfl), .int (i : Int), (by kernel_rfl), _, _, rfl, rfl, by show 2 ≤ sizeLine; decide, fun t2 n2 => ?_⟩
            have L6 := L5'.app n2 [c] (i + 1)
            refine ⟨l, _, _, rfl, rfl, (same_new n2) _ _ L5'.l, small_big (by omega), ?_⟩
            refine ⟨.int (i : Int), (by kernel_rfl), _, _, rfl, rfl, ?_⟩
            refine ⟨i + 1, _, _, some (.int (i : Int)), some (.str ⟨#[c]⟩), (by kernel_rfl), Nat.le_refl _, L6, by rw [List.length_append]; simp only [List.length_singleton]; omega, ?_, fun _ => rfl⟩
            rw [if_neg h32] at hsc
            rw [Nat.sub_self, List.take_zero, ← hsc]
            try simp only [List.append_assoc]
        · refine ite_no (decide_eq_false (by omega)) ?_
          have e0 : i - st = 0 := by omega
          rw [e0, List.take_zero] at hsc
          have ef : flush i [] = [] := rfl
          rw [ef, List.nil_append] at hsc
          have L5' : LB H _ l ws xs := L4
          have hx5 : xs.length ≤ 2 * i + 1 := by omega
          refine ⟨.str ⟨#[c]⟩, (by kernel_rfl), rfl, _, rfl, ?_⟩
          by_cases h32 : c = 32
          · refine ite_no (by rw [sign_eq c 32 " " (by decide +kernel), decide_eq_true h32]; rfl) ?_
            refine ⟨.int (i : Int), (by kernel_rfl), _, _, rfl, rfl, ?_⟩
            refine ⟨i + 1, _, _, some (.int (i : Int)), some (.str ⟨#[c]⟩), (by kernel_rfl), Nat.le_refl _, L5', by omega, ?_, fun _ => rfl⟩
            rw [if_pos h32, List.nil_append] at hsc
            rw [Nat.sub_self, List.take_zero, ← hsc]
            try simp only [List.append_assoc]
          · refine ite_yes (by rw [sign_eq c 32 " " (by decide +kernel), decide_eq_false h32]; rfl) ?_
            refine ⟨.ref l, (by kernel_rfl), .inl ⟨rfl, _, SqL.of L5'.l⟩, .str ⟨#[c]⟩, (by kernel_rfl), .int (i : Int), (by kernel_rfl), _, _, rfl, rfl, by show 2 ≤ sizeLine; decide, fun t2 n2 => ?_⟩
            have L6 := L5'.app n2 [c] (i + 1)
            refine ⟨l, _, _, rfl, rfl, (same_new n2) _ _ L5'.l, small_big (by omega), ?_⟩
            refine ⟨.int (i : Int), (by kernel_rfl), _, _, rfl, rfl, ?_⟩
            refine ⟨i + 1, _, _, some (.int (i : Int)), some (.str ⟨#[c]⟩), (by kernel_rfl), Nat.le_refl _, L6, by rw [List.length_append]; simp only [List.length_singleton]; omega, ?_, fun _ => rfl⟩
            rw [if_neg h32] at hsc
            rw [Nat.sub_self, List.take_zero, ← hsc]
            try simp only [List.append_assoc]
      · refine ite_no (decide_eq_false hs) ?_
        rw [scan_sign _ _ _ hs c59] at hsc
        have ni : i ≠ (codes to).length := fun q => by
          rw [q, List.getElem?_append_right (Nat.le_refl _)] at hc'
          have : c = 32 := by simpa using hc'.symm
          exact hs (by rw [this]; decide)
        have et : ((codes to ++ [32]).drop st).take (i + 1 - st) = ((codes to ++ [32]).drop st).take (i - st) ++ [c] := by
          rw [show i + 1 - st = (i - st) + 1 by omega, List.take_add_one, List.getElem?_drop, show st + (i - st) = i by omega, hc']
          rfl
        refine ⟨st, ws, xs, some (.int (i : Int)), some (.str ⟨#[c]⟩), (by kernel_rfl), by omega, L4, by omega, ?_, fun q => by omega⟩
        rw [et]
        exact hsc
    · rintro σ H3 ⟨st, ws, xs, v4, v5, rfl, hst, L3, hx, hsc, hend⟩
      have est := hend lA
      rw [lA] at hsc est
      rw [est, Nat.sub_self, List.take_zero, List.drop_of_length_le (by simp)] at hsc
      have e1 : scan [] ((codes to).length + 1) [] = [] := rfl
      rw [e1, List.append_nil, scan_blank, eT, scan_told] at hsc
      refine ⟨.ref l, (by kernel_rfl), l, xs, rfl, .inl ⟨SqL.of L3.l, fun q nq => ?_⟩⟩
      refine k q _ xs (L3.s.trans (same_new nq)) upd_same ?_
      rw [← hsc]
      exact L3.w.same (same_new nq)
end
end Nm
namespace Nm
open PySem L2
/-! ### the law's own words -/
def sgK : List (Key × V) := [(.inr "big", .str sBIG), (.inr "small", .str sSMA), (.inr "all", .str sALL)]
theorem sg_big : valV sgK (.inr "big") = some (.str sBIG) := by decide +kernel
theorem sg_small : valV sgK (.inr "small") = some (.str sSMA) := by decide +kernel
theorem sg_all : valV sgK (.inr "all") = some (.str sALL) := by decide +kernel
theorem sg_merge : mergeK [] [((.inr "big" : Key), V.str sBIG), (.inr "small", .str sSMA), (.inr "all", .str (sBIG ++ sSMA ++ "0123456789_"))] = sgK := by decide +kernel
def spSigns : Sp := fun vs H Q _ => vs = [] ∧ ∀ (d : Addr) (H' : Hp), Same H H' → H' d = some (.dK sgK) → Q (.ref d) H'
def spLWords : Sp := fun vs H Q _ => ∃ z : Str, vs = [.str z] ∧ z.length ≤ 10000 ∧ ∀ (p : Addr) (H' : Hp) (xs : List V), Same H H' → H' p = some (.lst xs) → WL H' (scan (codes z) 0 []) xs → Q (.ref p) H'
def spKind : Sp := fun vs H Q _ => ∃ z : Str, vs = [.str z] ∧ z ≠ "" ∧ z.length ≤ 10000 ∧ ∀ (H' : Hp), Same H H' → Q (.str (lawKind z)) H'
def spAsked : Sp := fun vs H Q _ => ∃ z : Str, vs = [.str z] ∧ z.length ≤ 10000 ∧ ∀ (p : Addr) (H' : Hp), Same H H' → H' p = some (.lst [.bl (isBig z), .bl (isSmall z), .bl (isNum z)]) → Q (.ref p) H'
/-- the signs of t that are none of s, each a 1 -/
def odd1 (t s : Str) (i : Nat) : List V := (((codes t).take i).filter fun c => !decide (c ∈ codes s)).map fun _ => V.int 1
theorem dpAll_ones {K : PySem.W.Frag} {H : Hp} : ∀ xs : List Nat, DpAll K H (xs.map fun _ => V.int 1) (xs.map fun _ => PyData.int 1)
  | [] => .nil
  | _ :: r => .cons (.int 1) (dpAll_ones r)
theorem canLay_ones : ∀ xs : List Nat, PyData.canLayAll0 (xs.map fun _ => PyData.int 1) = true ∧ PyData.depthAll (xs.map fun _ => PyData.int 1) = 0
  | [] => ⟨rfl, rfl⟩
  | x :: r => by
    obtain ⟨h1, h2⟩ := canLay_ones r
    exact ⟨by simp [PyData.canLayAll0, PyData.canLay0, h1], by simp [PyData.depthAll, PyData.depth, h2]⟩
theorem shaped_ones (xs : List Nat) : SeqAt.shaped (.list (xs.map fun _ => PyData.int 1)) = true := by
  obtain ⟨h1, h2⟩ := canLay_ones xs
  simp [SeqAt.shaped, PyData.canLay0, PyData.depth, h1, h2]
theorem eqv_ones (t s : Str) : PyData.eqv (.list (((codes t).filter fun c => !decide (c ∈ codes s)).map fun _ => PyData.int 1)) (.list []) = allIn t s := by
  unfold allIn
  cases e : (codes t).filter fun c => !decide (c ∈ codes s) with
  | nil =>
    have h : ∀ c ∈ codes t, decide (c ∈ codes s) = true := fun c hc => by
      have := List.filter_eq_nil_iff.mp e c hc
      simpa using this
    rw [List.all_eq_true.mpr h]
    simp [PyData.eqv, PyData.eqvAll]
  | cons c r =>
    have m : c ∈ (codes t).filter fun c => !decide (c ∈ codes s) := by rw [e]; exact List.mem_cons_self
    obtain ⟨m1, m2⟩ := List.mem_filter.mp m
    have h : ((codes t).all fun c => decide (c ∈ codes s)) = false := List.all_eq_false.mpr ⟨c, m1, by simpa using m2⟩
    rw [h]
    simp [PyData.eqv, PyData.eqvAll]
section
variable {P : Program} {w : World} {K : PySem.W.Frag} {mg : Str → Option Value} {base : Heap} {aK : Addr}
/-- [1 for sign in t if sign not in s] -/
theorem rd_odd {H0 : Hp} {σ : L2.St} {t s : Str} {tt : TT} {Qd : Addr → Hp → Prop} (ht : t.length ≤ 10000) (hw : ∀ v, wipe ((wipe σ [3]).set 3 (some v)) [3] = wipe σ [3])
    (htt : ∀ (H : Hp) (c : Nat) (Q : Bool → Hp → Prop), Same H0 H → Q (!decide (c ∈ codes s)) H → tt ((wipe σ [3]).set 3 (some (.str ⟨#[c]⟩))) H Q)
    (hd : ∀ (D : Addr) (H : Hp), Same H0 H → H D = some (.lst (((codes t).filter fun c => !decide (c ∈ codes s)).map fun _ => V.int 1)) → Qd D H) :
    ∀ D, H0 D = none → ∃ W : Nat → Nat → Hp → Prop, (∃ m, W 0 m (upd H0 D (.lst []))) ∧ ∀ i m H, W i m H →
      ((Its t).stop i H ∧ Qd D H) ∨ ((Its t).go i H ∧ ∃ Nx : Hp → Prop, (∀ H', Nx H' → ∃ m', m' < m ∧ W (i + 1) m' H') ∧ ∀ x H', (Its t).yld i H x H' → gName 3 x (wipe σ [3]) H' fun σ2 H2 => wipe σ2 [3] = wipe σ [3] ∧ tt σ2 H2 fun b H3 =>
        if b = true then tC (.int 1) σ2 H3 fun y H4 => ∃ acc, H4 D = some (.lst acc) ∧ acc.length < sizeLine ∧ Nx (upd H4 D (.lst (acc ++ [y]))) else Nx H3) := by
  intro D nD
  refine lc_it (walk_str (z := t)) (te := tC (.int 1)) (g := gName 3) (tt := tt) (Qd := Qd D) (fun i H => Same H0 H ∧ H D = some (.lst (odd1 t s i))) ⟨same_new nD, upd_same⟩ (fun _ _ _ _ => True.intro) ?_ ?_
  · rintro i x H1 H2 hi ⟨s1, hD⟩ ⟨rfl, c, hc, rfl⟩
    have hc' : (codes t)[i]? = some c := by simpa using hc
    refine ⟨hw _, ?_⟩
    refine htt _ c _ s1 ?_
    have st : odd1 t s (i + 1) = if decide (c ∈ codes s) = true then odd1 t s i else odd1 t s i ++ [.int 1] := by
      unfold odd1
      have fc : ((some c).toList.filter fun c => !decide (c ∈ codes s)) = if decide (c ∈ codes s) = true then [] else [c] := by
        show List.filter _ [c] = _
        cases h : decide (c ∈ codes s) <;> simp only [List.filter, h] <;> rfl
      rw [List.take_add_one, hc', List.filter_append, List.map_append, fc]
      cases decide (c ∈ codes s) with
      | true => exact List.append_nil _
      | false => rfl
    by_cases m : c ∈ codes s
    · refine ite_no (by rw [decide_eq_true m]; rfl) ⟨s1, ?_⟩
      rw [st, if_pos (decide_eq_true m)]
      exact hD
    · refine ite_yes (by rw [decide_eq_false m]; rfl) ?_
      refine ⟨_, hD, ?_, ?_, ?_⟩
      · have l : (odd1 t s i).length ≤ (codes t).length := by
          unfold odd1
          rw [List.length_map]
          exact Nat.le_trans (List.length_filter_le _ _) (List.length_take_le' _ _)
        rw [← len_codes] at l
        exact small_big (by omega)
      · intro b o e
        rw [upd_ne (ne_of_none e nD)]
        exact s1 b o e
      · rw [upd_same, st, if_neg (by rw [decide_eq_false m]; exact Bool.false_ne_true)]
  · rintro H1 ⟨s1, hD⟩
    refine hd D H1 s1 ?_
    have l : t.cps.size = (codes t).length := by simp
    rw [l] at hD
    unfold odd1 at hD
    rw [List.take_length] at hD
    exact hD

abbrev sLsigns : Stmt := top 19
abbrev NLsigns : List Str := ["_law_big", "_law_small"]
abbrev PLsigns : List Str := []
theorem scLsigns : FnScope NLsigns PLsigns (defScope sLsigns) := ⟨rfl, rfl, rfl, by decide +kernel, rfl, by decide +kernel, by decide +kernel⟩

theorem ok_signs {f : Addr} {fd : FuncData} (F : Fun K "_law_signs" "_law_signs" sLsigns f fd) : FnOk P w K mg base CX0 1 f fd PLsigns spSigns := by
  refine F.ok scLsigns (fun vs H Q E h => ?_) (fun cdv A outer s H vs Q E hr h => ?_)
  · obtain ⟨rfl, _⟩ := h
    rfl
  · obtain ⟨rfl, k⟩ := h
    refine ⟨_, (pss_cons (ps_asg (pe_tup (pa_cons pe_str (pa_cons pe_str pa_nil))) (pg_tup (by rfl) (pgs_cons (pg_name (i := 0) scLsigns.nd rfl (Or.inl rfl)) (pgs_cons (pg_name (i := 1) scLsigns.nd rfl (Or.inl rfl)) pgs_nil))))
      (pss_one (ps_ret (pe_disp (pps_cons pe_str (pv 0) (pps_cons pe_str (pv 1) (pps_cons pe_str (pe_op op_add_str (pe_op op_add_str (pv 0) (pv 1)) pe_str) pps_nil))) (by rfl) (by rfl) (fun z => by cases z) (by decide))))), ?_⟩
    refine ⟨by show 2 ≤ sizeLine; decide, fun t0 n0 => ?_⟩
    have ht := upd_same (H := H) (a := t0) (o := .tup [.str sBIG, .str sSMA])
    have s0 := same_new (o := .tup [.str sBIG, .str sSMA]) n0
    refine ⟨t0, _, rfl, SqT.of ht, rfl, _, _, rfl, _, _, rfl, rfl, ?_⟩
    intro p hp
    refine ⟨.str sBIG, (by kernel_rfl), .str sSMA, (by kernel_rfl), .str sBIG, (by kernel_rfl), .str sSMA, (by kernel_rfl), _, _, rfl, rfl, (by decide +kernel), _, _, rfl, rfl, (by decide +kernel), upd_same, [(.inr "big", .str sBIG), (.inr "small", .str sSMA), (.inr "all", .str (sBIG ++ sSMA ++ "0123456789_"))], rfl, (by show 3 ≤ 15; decide), ?_⟩
    rw [sg_merge]
    refine k p _ (fun b o e => ?_) upd_same
    have e' := s0 b o e
    rw [upd_ne (ne_of_none e' hp), upd_ne (ne_of_none e' hp)]
    exact e'

abbrev sLwords : Stmt := top 20
abbrev NLwords : List Str := ["_law_line", "_law_found", "_law_word", "_law_k", "_law_sign"]
abbrev PLwords : List Str := ["_law_line"]
theorem scLwords : FnScope NLwords PLwords (defScope sLwords) := ⟨rfl, rfl, rfl, by decide +kernel, rfl, by decide +kernel, by decide +kernel⟩

theorem sep4_codes : codes (" ();" : Str) = [32, 40, 41, 59] := by decide +kernel
theorem par_codes : codes ("()" : Str) = [40, 41] := by decide +kernel
theorem ok_lwords {f : Addr} {fd : FuncData} (F : Fun K "_law_words" "_law_words" sLwords f fd) (T : WTxt K mg aK) : FnOk P w K mg base CX0 1 f fd PLwords spLWords := by
  refine F.ok scLwords (fun vs H Q E h => ?_) (fun cdv A outer s H vs Q E hr h => ?_)
  · obtain ⟨t, rfl, _⟩ := h
    rfl
  · obtain ⟨z, rfl, hl, k⟩ := h
    refine ⟨_, (pss_cons (ps_par (i := 1) (j := 2) rfl scLwords.nd rfl rfl (by decide) rfl rfl (pa_cons (pe_lst pa_nil) (pa_cons pe_str pa_nil)) (by rfl))
      (pss_cons (ps_for PassesOwn.never rfl (pi_enumS (by rfl) T.enumerate (pa_cons (pe_op op_add_str (pv 0) pe_str) pa_nil)) (pg_tup (by rfl) (pgs_cons (pg_name (i := 3) scLwords.nd rfl (Or.inl rfl)) (pgs_cons (pg_name (i := 4) scLwords.nd rfl (Or.inl rfl)) pgs_nil)))
      (pss_cons (ps_if (PW.pt (pw_and (pt_cmpR op_in_sign (pv 4) pe_str (by rfl)) (pw_and1 (pt_cmpR op_ne (pv 2) pe_str (nomark _)))))
      (pss_cons (ps_expr (pe_bm PySem.F.plainAttrs_list PySem.F.slot_list_append PySem.F.type_list_append mt_append (pv 1) (pa_cons (pe_tup (pa_cons (pv 2) (pa_cons (pe_op op_sub (pe_op op_add (pv 3) pe_int) (pe_callB call_len_str (by rfl) T.len PySem.boot_len (pa_cons (pv 2) pa_nil))) pa_nil))) pa_nil)))
      (pss_one (ps_set (i := 2) scLwords.nd rfl (Or.inl rfl) pe_str)))
      pss_nil)
      (pss_cons (ps_if (pt_cmpR op_eq (pv 4) pe_str (nomark _))
      (pss_one (ps_ret (pv 1)))
      pss_nil)
      (pss_one (ps_if (pt_cmpR op_in_sign (pv 4) pe_str (by rfl))
      (pss_one (ps_expr (pe_bm PySem.F.plainAttrs_list PySem.F.slot_list_append PySem.F.type_list_append mt_append (pv 1) (pa_cons (pe_tup (pa_cons (pv 4) (pa_cons (pe_op op_add (pv 3) pe_int) pa_nil))) pa_nil))))
      (pss_one (ps_if (pt_cmpR op_ne (pv 4) pe_str (nomark _))
      (pss_one (ps_set (i := 2) scLwords.nd rfl (Or.inl rfl) (pe_op op_add_str (pv 2) (pv 4))))
      pss_nil)))))))
      (pss_one (ps_ret (pv 1))))), ?_⟩
    refine ⟨Nat.zero_le _, fun l nl => ?_⟩
    have L0 : LB H (upd H l (.lst [])) l [] [] := ⟨same_new nl, nl, upd_same, .nil⟩
    generalize upd H l (.lst []) = H1 at L0 ⊢
    refine ⟨_, _, rfl, ?_⟩
    have eA : codes (z ++ " ") = codes z ++ [32] := by
      show (z.cps ++ (" " : Str).cps).toList = _
      rw [Array.toList_append]
      rfl
    have lA : (z ++ " ").cps.size = (codes z).length + 1 := by
      have : (z ++ " ").cps.size = (codes (z ++ " ")).length := by simp
      rw [this, eA]
      simp
    have lc : z.length = (codes z).length := len_codes z
    refine ⟨.str z, (by kernel_rfl), _, _, rfl, rfl, sz_of (by show z.length + 1 ≤ 100000; omega), _, rfl, ?_⟩
    refine for_it (walk_enumS (z := z ++ " ")) (fun i σ H' => ∃ (ws : List (List Nat × Nat)) (xs : List V) (wd : Str) (v3 v4 : Option V), σ = [some (.str z), some (.ref l), some (.str wd), v3, v4] ∧ wd.length ≤ i ∧ LB H H' l ws xs ∧ xs.length ≤ 2 * i ∧
        ws ++ scan ((codes z ++ [32]).drop i) i (codes wd) = scan (codes z ++ [32]) 0 [] ∧ (i = (codes z).length + 1 → codes wd = []))
      ⟨[], [], "", none, none, (by kernel_rfl), Nat.le_refl _, L0, Nat.le_refl _, rfl, fun q => by omega⟩ (fun _ _ _ _ _ => True.intro) ?_ ?_
    · rintro i x σ H3 H4 hi ⟨ws, xs, wd, v3, v4, rfl, hwl, L3, hx, hsc, _⟩ ⟨Tn, c, rfl, nT, rfl, hc⟩
      rw [lA] at hi
      have hc' : (codes z ++ [32])[i]? = some c := by
        rw [← eA]
        simpa using hc
      have hdrop : (codes z ++ [32]).drop i = c :: (codes z ++ [32]).drop (i + 1) := by
        obtain ⟨h1, h2⟩ := List.getElem?_eq_some_iff.mp hc'
        rw [List.drop_eq_getElem_cons h1, h2]
      have last : i = (codes z).length → c = 32 := fun q => by
        rw [q, List.getElem?_append_right (Nat.le_refl _)] at hc'
        simpa using hc'.symm
      rw [hdrop] at hsc
      have hT := upd_same (H := H3) (a := Tn) (o := .tup [.int (i : Nat), .str ⟨#[c]⟩])
      have L4 := L3.put (same_new (o := .tup [.int (i : Nat), .str ⟨#[c]⟩]) nT)
      generalize upd H3 Tn (.tup [.int (i : Nat), .str ⟨#[c]⟩]) = H4 at hT L4 ⊢
      refine ⟨Tn, _, rfl, SqT.of hT, rfl, _, _, rfl, _, _, rfl, rfl, ?_⟩
      refine ⟨.str ⟨#[c]⟩, (by kernel_rfl), c, " ();", rfl, rfl, _, rfl, ?_⟩
      rw [show (Str.ofString " ();").cps.toList = [32, 40, 41, 59] from sep4_codes]
      by_cases hs : c ∈ ([32, 40, 41, 59] : List Nat)
      · refine ite_yes (decide_eq_true hs) ?_
        refine ⟨.str wd, (by kernel_rfl), rfl, _, rfl, ?_⟩
        rw [dec_str]
        by_cases hwd : wd = ""
        · refine ite_no (by rw [decide_eq_true hwd]; rfl) ?_
          have ew : codes wd = [] := by rw [hwd]; rfl
          rw [ew] at hsc
          have L5 := L4
          have hx5 : xs.length ≤ 2 * i + 1 := by omega
          have hw5 : codes wd = [] := ew
          have hsc5 : ws ++ scan (c :: (codes z ++ [32]).drop (i + 1)) i [] = scan (codes z ++ [32]) 0 [] := hsc
          refine ⟨.str ⟨#[c]⟩, (by kernel_rfl), rfl, _, rfl, ?_⟩
          by_cases h59 : c = 59
          · refine ite_yes (by rw [sign_eq c 59 ";" (by decide +kernel), decide_eq_true h59]) ?_
            refine ⟨.ref l, (by kernel_rfl), ?_⟩
            have e0 : scan (c :: (codes z ++ [32]).drop (i + 1)) i [] = [] := by
              rw [h59]
              show (if (59 : Nat) = 59 then flush i [] else _) = []
              rw [if_pos rfl]
              rfl
            rw [e0, List.append_nil, scan_blank] at hsc5
            exact k l _ _ L5.s L5.l (hsc5 ▸ L5.w)
          refine ite_no (by rw [sign_eq c 59 ";" (by decide +kernel), decide_eq_false h59]) ?_
          have hs3 : c ∈ sepL := by
            simp only [List.mem_cons, List.not_mem_nil, or_false] at hs
            unfold sepL
            simp only [List.mem_cons, List.not_mem_nil, or_false]
            omega
          rw [scan_sep _ _ _ hs3] at hsc5
          have ef0 : flush i [] = [] := rfl
          rw [ef0, List.nil_append] at hsc5
          refine ⟨.str ⟨#[c]⟩, (by kernel_rfl), c, "()", rfl, rfl, _, rfl, ?_⟩
          rw [show (Str.ofString "()").cps.toList = [40, 41] from par_codes]
          by_cases h32 : c = 32
          · refine ite_no (decide_eq_false (by rw [h32]; decide)) ?_
            refine ⟨.str ⟨#[c]⟩, (by kernel_rfl), rfl, _, rfl, ?_⟩
            refine ite_no (by rw [sign_eq c 32 " " (by decide +kernel), decide_eq_true h32]; rfl) ?_
            rw [if_pos h32, List.nil_append] at hsc5
            refine ⟨_, _, wd, some (.int (i : Int)), some (.str ⟨#[c]⟩), (by kernel_rfl), by rw [len_codes, hw5]; exact Nat.zero_le _, L5, by omega, ?_, fun _ => hw5⟩
            rw [hw5]
            exact hsc5
          · have h2 : c ∈ ([40, 41] : List Nat) := by
              unfold sepL at hs3
              simp only [List.mem_cons, List.not_mem_nil, or_false] at hs3 ⊢
              omega
            refine ite_yes (decide_eq_true h2) ?_
            refine ⟨.ref l, (by kernel_rfl), .inl ⟨rfl, _, SqL.of L5.l⟩, .str ⟨#[c]⟩, (by kernel_rfl), .int (i : Int), (by kernel_rfl), _, _, rfl, rfl, by show 2 ≤ sizeLine; decide, fun t2 n2 => ?_⟩
            have L6 := L5.app n2 [c] (i + 1)
            refine ⟨l, _, _, rfl, rfl, (same_new n2) _ _ L5.l, small_big (by omega), ?_⟩
            rw [if_neg h32] at hsc5
            refine ⟨_, _, wd, some (.int (i : Int)), some (.str ⟨#[c]⟩), (by kernel_rfl), by rw [len_codes, hw5]; exact Nat.zero_le _, L6, by rw [List.length_append]; simp only [List.length_singleton]; omega, ?_, fun _ => hw5⟩
            rw [hw5, ← hsc5]
            simp only [List.append_assoc]
        · refine ite_yes (by rw [decide_eq_false hwd]; rfl) ?_
          refine ⟨.ref l, (by kernel_rfl), .inl ⟨rfl, _, SqL.of L4.l⟩, .str wd, (by kernel_rfl), .int (i : Int), (by kernel_rfl), _, _, rfl, rfl, .str wd, (by kernel_rfl), wd, rfl, sz_of (by omega), _, _, rfl, rfl, by show 2 ≤ sizeLine; decide, fun t1 n1 => ?_⟩
          have ek : ((i : Int) + 1 - (wd.length : Int)) = ((i + 1 - wd.length : Nat) : Int) := by omega
          have L5 := L4.app n1 (codes wd) (i + 1 - wd.length)
          rw [show (⟨(codes wd).toArray⟩ : Str) = wd from str_ext (by simp)] at L5
          rw [← ek] at L5
          refine ⟨l, _, _, rfl, rfl, (same_new n1) _ _ L4.l, small_big (by omega), ?_⟩
          have hn : codes wd ≠ [] := fun q => hwd (str_ext (by rw [q]; rfl))
          have ef : flush i (codes wd) = [(codes wd, i + 1 - wd.length)] := by
            unfold flush
            rw [if_neg hn, len_codes]
          have hx5 : (xs ++ [V.ref t1]).length ≤ 2 * i + 1 := by rw [List.length_append]; simp; omega
          have hsc5 : (ws ++ [(codes wd, i + 1 - wd.length)]) ++ scan (c :: (codes z ++ [32]).drop (i + 1)) i [] = scan (codes z ++ [32]) 0 [] := by
            rw [← hsc, List.append_assoc]
            congr 1
            rw [← ef]
            simp only [List.mem_cons, List.not_mem_nil, or_false] at hs
            rcases hs with rfl | rfl | rfl | rfl
            · rw [scan_sep _ _ _ (by decide), scan_sep _ _ _ (by decide)]
              rfl
            · rw [scan_sep _ _ _ (by decide), scan_sep _ _ _ (by decide)]
              rfl
            · rw [scan_sep _ _ _ (by decide), scan_sep _ _ _ (by decide)]
              rfl
            · show flush i (codes wd) ++ flush i [] = flush i (codes wd)
              exact List.append_nil _
          clear hsc
          have hw5 : codes ("" : Str) = [] := rfl
          refine ⟨.str ⟨#[c]⟩, (by kernel_rfl), rfl, _, rfl, ?_⟩
          by_cases h59 : c = 59
          · refine ite_yes (by rw [sign_eq c 59 ";" (by decide +kernel), decide_eq_true h59]) ?_
            refine ⟨.ref l, (by kernel_rfl), ?_⟩
            have e0 : scan (c :: (codes z ++ [32]).drop (i + 1)) i [] = [] := by
              rw [h59]
              show (if (59 : Nat) = 59 then flush i [] else _) = []
              rw [if_pos rfl]
              rfl
            rw [e0, List.append_nil, scan_blank] at hsc5
            exact k l _ _ L5.s L5.l (hsc5 ▸ L5.w)
          refine ite_no (by rw [sign_eq c 59 ";" (by decide +kernel), decide_eq_false h59]) ?_
          have hs3 : c ∈ sepL := by
            simp only [List.mem_cons, List.not_mem_nil, or_false] at hs
            unfold sepL
            simp only [List.mem_cons, List.not_mem_nil, or_false]
            omega
          rw [scan_sep _ _ _ hs3] at hsc5
          have ef0 : flush i [] = [] := rfl
          rw [ef0, List.nil_append] at hsc5
          refine ⟨.str ⟨#[c]⟩, (by kernel_rfl), c, "()", rfl, rfl, _, rfl, ?_⟩
          rw [show (Str.ofString "()").cps.toList = [40, 41] from par_codes]
          by_cases h32 : c = 32
          · refine ite_no (decide_eq_false (by rw [h32]; decide)) ?_
            refine ⟨.str ⟨#[c]⟩, (by kernel_rfl), rfl, _, rfl, ?_⟩
            refine ite_no (by rw [sign_eq c 32 " " (by decide +kernel), decide_eq_true h32]; rfl) ?_
            rw [if_pos h32, List.nil_append] at hsc5
            refine ⟨_, _, (Str.ofString ""), some (.int (i : Int)), some (.str ⟨#[c]⟩), (by kernel_rfl), by rw [len_codes, hw5]; exact Nat.zero_le _, L5, by omega, ?_, fun _ => hw5⟩
            rw [hw5]
            exact hsc5
          · have h2 : c ∈ ([40, 41] : List Nat) := by
              unfold sepL at hs3
              simp only [List.mem_cons, List.not_mem_nil, or_false] at hs3 ⊢
              omega
            refine ite_yes (decide_eq_true h2) ?_
            refine ⟨.ref l, (by kernel_rfl), .inl ⟨rfl, _, SqL.of L5.l⟩, .str ⟨#[c]⟩, (by kernel_rfl), .int (i : Int), (by kernel_rfl), _, _, rfl, rfl, by show 2 ≤ sizeLine; decide, fun t2 n2 => ?_⟩
            have L6 := L5.app n2 [c] (i + 1)
            refine ⟨l, _, _, rfl, rfl, (same_new n2) _ _ L5.l, small_big (by omega), ?_⟩
            rw [if_neg h32] at hsc5
            refine ⟨_, _, (Str.ofString ""), some (.int (i : Int)), some (.str ⟨#[c]⟩), (by kernel_rfl), by rw [len_codes, hw5]; exact Nat.zero_le _, L6, by rw [List.length_append]; simp only [List.length_singleton]; omega, ?_, fun _ => hw5⟩
            rw [hw5, ← hsc5]
            simp only [List.append_assoc]
      · refine ite_no (decide_eq_false hs) ?_
        refine ite_no rfl ?_
        simp only [List.mem_cons, List.not_mem_nil, or_false, not_or] at hs
        obtain ⟨n1, n2, n3, n4⟩ := hs
        refine ⟨.str ⟨#[c]⟩, (by kernel_rfl), rfl, _, rfl, ?_⟩
        refine ite_no (by rw [sign_eq c 59 ";" (by decide +kernel), decide_eq_false n4]) ?_
        refine ⟨.str ⟨#[c]⟩, (by kernel_rfl), c, "()", rfl, rfl, _, rfl, ?_⟩
        rw [show (Str.ofString "()").cps.toList = [40, 41] from par_codes]
        refine ite_no (decide_eq_false (by simp [n2, n3])) ?_
        refine ⟨.str ⟨#[c]⟩, (by kernel_rfl), rfl, _, rfl, ?_⟩
        refine ite_yes (by rw [sign_eq c 32 " " (by decide +kernel), decide_eq_false n1]; rfl) ?_
        refine ⟨.str wd, (by kernel_rfl), .str ⟨#[c]⟩, (by kernel_rfl), _, _, rfl, rfl, sz_of (by show wd.length + 1 ≤ 100000; omega), ?_⟩
        have el : (wd ++ (⟨#[c]⟩ : Str)).length = wd.length + 1 := by
          show (wd.cps ++ #[c]).size = wd.cps.size + 1
          simp
        have ec : codes (wd ++ (⟨#[c]⟩ : Str)) = codes wd ++ [c] := by
          show (wd.cps ++ #[c]).toList = wd.cps.toList ++ [c]
          simp
        refine ⟨ws, xs, wd ++ ⟨#[c]⟩, some (.int (i : Int)), some (.str ⟨#[c]⟩), (by kernel_rfl), by omega, L4, by omega, ?_, fun q => (n1 (last (by omega))).elim⟩
        rw [ec, ← hsc, scan_sign _ _ _ (by unfold sepL; simp [n1, n2, n3]) n4]
    · rintro σ H3 ⟨ws, xs, wd, v3, v4, rfl, hwl, L3, hx, hsc, hend⟩
      have ew := hend lA
      rw [lA, ew, List.drop_of_length_le (by simp)] at hsc
      have e1 : scan [] ((codes z).length + 1) [] = [] := rfl
      rw [e1, List.append_nil, scan_blank] at hsc
      refine ⟨.ref l, (by kernel_rfl), ?_⟩
      exact k l _ xs L3.s L3.l (hsc ▸ L3.w)
end
end Nm
namespace Nm
open PySem L2
/-! ### the law's kind of a word; what is asked -/
theorem lk_kw {z : Str} (h : z ∈ kwL) : lawKind z = z := by unfold lawKind; rw [if_pos (decide_eq_true h)]
theorem lk_name {z : Str} (nk : z ∉ kwL) (h : ((decide (hd z ∈ codes (sBIG ++ sSMA)) && decide (z.length ≤ 24)) && allIn z sALL) = true) : lawKind z = if decide (hd z ∈ codes sBIG) = true then ("big" : Str) else ("small" : Str) := by
  unfold lawKind
  rw [if_neg (by rw [decide_eq_false nk]; exact Bool.false_ne_true), if_pos h]
theorem lk_rest {z : Str} (nk : z ∉ kwL) (h : ((decide (hd z ∈ codes (sBIG ++ sSMA)) && decide (z.length ≤ 24)) && allIn z sALL) = false) :
    lawKind z = if ((!decide (digs2 z = "") && (decide ((digs2 z).length ≤ 400) && allIn (digs2 z) sDIG)) && (decide (z = "0") || !decide (hd (digs2 z) = 48))) = true then ("number" : Str) else ("word " : Str) ++ z := by
  unfold lawKind
  rw [if_neg (by rw [decide_eq_false nk]; exact Bool.false_ne_true), if_neg (by rw [h]; exact Bool.false_ne_true)]
section
variable {P : Program} {w : World} {K : PySem.W.Frag} {mg : Str → Option Value} {base : Heap} {aK : Addr}

abbrev sLwordkind : Stmt := top 21
abbrev NLwordkind : List Str := ["_law_word", "_law_signs_here", "_law_digits", "_law_sign"]
abbrev PLwordkind : List Str := ["_law_word"]
theorem scLwordkind : FnScope NLwordkind PLwordkind (defScope sLwordkind) := ⟨rfl, rfl, rfl, by decide +kernel, rfl, by decide +kernel, by decide +kernel⟩

theorem ok_kind {f fS : Addr} {fd fdS : FuncData} (F : Fun K "_law_word_kind" "_law_word_kind" sLwordkind f fd) (T : WTxt K mg aK) (F_law_signs : Fun K "_law_signs" "_law_signs" sLsigns fS fdS) (b_law_signs : Binds K fdS PLsigns []) (g_law_signs : mg "_law_signs" = some (.ref fS)) :
    FnOk P w K mg base CX0 2 f fd PLwordkind spKind := by
  have G_law_signs : FnOk P w K mg base CX0 1 fS fdS PLsigns spSigns := ok_signs F_law_signs
  refine F.ok scLwordkind (fun vs H Q E h => ?_) (fun cdv A outer s H vs Q E hr h => ?_)
  · obtain ⟨t, rfl, _⟩ := h
    rfl
  · obtain ⟨z, rfl, hz, hl, k⟩ := h
    have hu := hu_of hr
    have hr1 := hr
    obtain ⟨c, r, ec⟩ := codes_cons hz
    refine ⟨_, (pss_cons (ps_set (i := 1) scLwordkind.nd rfl (Or.inr rfl) (pe_call0 G_law_signs hr1 rfl g_law_signs F_law_signs.kp b_law_signs .nil pass0))
      (pss_cons (ps_if (pt_cmpR op_in_seq (pv 0) (pe_lst (pa_cons pe_str (pa_cons pe_str (pa_cons pe_str (pa_cons pe_str pa_nil))))) (by rfl))
      (pss_one (ps_ret (pv 0)))
      pss_nil)
      (pss_cons (ps_if (PW.pt (pw_and (pt_cmpR op_in_sign (pe_ix ix_str (pv 0) pe_int (fun _ _ => rfl)) (pe_op op_add_str (pe_dget hu (pv 1) pe_str (fun _ _ => rfl)) (pe_dget hu (pv 1) pe_str (fun _ _ => rfl))) (by rfl)) (pw_and1 (pt_cmpR op_le (pe_callB call_len_str (by rfl) T.len PySem.boot_len (pa_cons (pv 0) pa_nil)) pe_int (nomark _)))))
      (pss_one (ps_if (pt_cmpR (op_eqD hr.units) (pe_lc (own := [("_law_sign", 3)]) (g := (gName 3)) rfl scLwordkind.nd (pi_str (pv 0)) (blkOk_by (own := [("_law_sign", 3)]) (N := NLwordkind) (sc := defScope sLwordkind) (by decide +kernel)) (fun _ _ _ _ _ => (pg_name (i := 3) scLwordkind.nd rfl (Or.inl rfl))) (fun _ _ _ _ _ => (pts_one (pt_cmpR op_notIn_sign (pv 3) (pe_dget hu (pv 1) pe_str (fun _ _ => rfl)) (by rfl)))) (fun _ _ _ _ _ => pe_int)) (pe_lst pa_nil) (nomark _))
      (pss_one (ps_ret (pe_ifExp (pt_cmpR op_in_sign (pe_ix ix_str (pv 0) pe_int (fun _ _ => rfl)) (pe_dget hu (pv 1) pe_str (fun _ _ => rfl)) (by rfl)) pe_str pe_str)))
      pss_nil))
      pss_nil)
      (pss_cons (ps_set (i := 2) scLwordkind.nd rfl (Or.inl rfl) (pe_ifExp (pt_cmpR op_eq (pe_ix ix_str (pv 0) pe_int (fun _ _ => rfl)) pe_str (nomark _)) (pe_slice sl_str (pv 0) (po_some pe_int) po_none) (pv 0)))
      (pss_cons (ps_if (PW.pt (pw_and (pt_cmpR op_ne (pv 2) pe_str (nomark _)) (pw_and (pt_cmpR op_le (pe_callB call_len_str (by rfl) T.len PySem.boot_len (pa_cons (pv 2) pa_nil)) pe_int (nomark _)) (pw_and1 (pt_cmpR (op_eqD hr.units) (pe_lc (own := [("_law_sign", 3)]) (g := (gName 3)) rfl scLwordkind.nd (pi_str (pv 2)) (blkOk_by (own := [("_law_sign", 3)]) (N := NLwordkind) (sc := defScope sLwordkind) (by decide +kernel)) (fun _ _ _ _ _ => (pg_name (i := 3) scLwordkind.nd rfl (Or.inl rfl))) (fun _ _ _ _ _ => (pts_one (pt_cmpR op_notIn_sign (pv 3) pe_str (by rfl)))) (fun _ _ _ _ _ => pe_int)) (pe_lst pa_nil) (nomark _))))))
      (pss_one (ps_if (PW.pt (pw_or (pt_cmpR op_eq (pv 0) pe_str (nomark _)) (pw_or1 (pt_cmpR op_ne (pe_ix ix_str (pv 2) pe_int (fun _ _ => rfl)) pe_str (nomark _)))))
      (pss_one (ps_ret pe_str))
      pss_nil))
      pss_nil)
      (pss_one (ps_ret (pe_op op_add_str pe_str (pv 0))))))))), ?_⟩
    refine ⟨rfl, fun d H1 s1 hd1 => ?_⟩
    refine ⟨.str z, (by kernel_rfl), by show 4 ≤ sizeLine; decide, fun q nq => ?_⟩
    have hq := upd_same (H := H1) (a := q) (o := .lst [.str "kind", .str "fun", .str "let", .str "in"])
    have sq := same_new (o := .lst [.str "kind", .str "fun", .str "let", .str "in"]) nq
    generalize upd H1 q (.lst [.str "kind", .str "fun", .str "let", .str "in"]) = H2 at hq sq ⊢
    have S2 := s1.trans sq
    have hd2 := sq _ _ hd1
    refine ⟨q, _, rfl, .inl (SqL.of hq), rfl, rfl, _, rfl, ?_⟩
    rw [if_neg Bool.false_ne_true, show inV (V.str z) [.str "kind", .str "fun", .str "let", .str "in"] = decide (z ∈ kwL) from inV_strs z kwL]
    by_cases hk : z ∈ kwL
    · refine ite_yes (decide_eq_true hk) ?_
      refine ⟨.str z, (by kernel_rfl), ?_⟩
      rw [lk_kw hk] at k
      exact k _ S2
    refine ite_no (decide_eq_false hk) ?_
    refine ⟨.str z, (by kernel_rfl), z, 0, c, rfl, rfl, sz_of (by omega), atI0 ec, .ref d, (by kernel_rfl), d, .str sBIG, rfl, dget hd2 sg_big, .ref d, (by kernel_rfl), d, .str sSMA, rfl, dget hd2 sg_small, _, _, rfl, rfl, (by decide +kernel), c, _, rfl, rfl, _, rfl, ?_⟩
    by_cases hm1 : c ∈ codes (sBIG ++ sSMA)
    · refine ite_yes (decide_eq_true hm1) ?_
      refine ⟨.str z, (by kernel_rfl), z, rfl, sz_of (by omega), _, _, rfl, rfl, _, rfl, ?_⟩
      by_cases hl24 : z.length ≤ 24
      · refine ite_yes (decide_eq_true (by omega)) ?_
        refine ⟨.str z, (by kernel_rfl), z, rfl, ?_⟩
        refine rd_odd (t := z) (s := sALL) hl (fun v => by kernel_rfl) (fun H c Q s q => ⟨.str ⟨#[c]⟩, (by kernel_rfl), .ref d, (by kernel_rfl), d, .str sALL, rfl, dget (s _ _ hd2) sg_all, c, sALL, rfl, rfl, _, rfl, q⟩) (fun A1 H3 s3 h3 => ?_)
        refine ⟨Nat.zero_le _, fun e1 ne1 => ?_⟩
        have s4 := same_new (o := .lst []) ne1
        have S4 := (S2.trans s3).trans s4
        refine ⟨_, _, .lst (SqL.of (s4 _ _ h3)) (dpAll_ones _), .lst (SqL.of upd_same) .nil, shaped_ones _, by decide +kernel, _, rfl, ?_⟩
        have hd4 := (s3.trans s4) _ _ hd2
        clear h3 s3
        generalize upd H3 e1 (.lst []) = H4 at s4 S4 hd4 ⊢
        rw [eqv_ones]
        cases ha : allIn z sALL with
        | true =>
          refine ite_yes rfl ?_
          have e := lk_name hk (by rw [hd_of ec, decide_eq_true hm1, decide_eq_true hl24, ha]; rfl)
          rw [e] at k
          refine ⟨.str z, (by kernel_rfl), z, 0, c, rfl, rfl, sz_of (by omega), atI0 ec, .ref d, (by kernel_rfl), d, .str sBIG, rfl, dget hd4 sg_big, c, sBIG, rfl, rfl, _, rfl, ?_⟩
          rw [hd_of ec] at k
          by_cases hb : c ∈ codes sBIG
          · rw [if_pos (decide_eq_true hb)] at k
            exact ite_yes (decide_eq_true hb) (k _ S4)
          · rw [if_neg (by rw [decide_eq_false hb]; exact Bool.false_ne_true)] at k
            exact ite_no (decide_eq_false hb) (k _ S4)
        | false =>
          refine ite_no rfl ?_
          have nb : ((decide (hd z ∈ codes (sBIG ++ sSMA)) && decide (z.length ≤ 24)) && allIn z sALL) = false := by rw [ha]; simp
          have eR := lk_rest hk nb
          refine ⟨.str z, (by kernel_rfl), z, 0, c, rfl, rfl, sz_of (by omega), atI0 ec, rfl, _, rfl, ?_⟩
          rw [sign_eq c 45 "-" (by decide +kernel)]
          by_cases hm : c = 45
          · refine ite_yes (decide_eq_true hm) ?_
            refine ⟨.str z, (by kernel_rfl), 1, rfl, z, rfl, sz_of (by omega), ?_⟩
            have de : digs2 z = cutS z (some 1) none := by unfold digs2; rw [hd_of ec, if_pos (decide_eq_true hm)]
            have dl : (cutS z (some 1) none).length ≤ 10000 := by
              rw [len_codes, cutT_codes, List.length_drop]
              rw [len_codes] at hl
              omega
            generalize cutS z (some 1) none = dg at de dl ⊢
            refine ⟨.str dg, (by kernel_rfl), rfl, _, rfl, ?_⟩
            rw [dec_str]
            by_cases d0 : dg = ""
            · refine ite_no (by rw [decide_eq_true d0]; rfl) ?_
              refine ite_no rfl ?_
              refine ⟨.str z, (by kernel_rfl), _, _, rfl, rfl, sz_of (by show 5 + z.length ≤ 100000; omega), ?_⟩
              rw [show lawKind z = ("word " : Str) ++ z from by rw [eR, if_neg (by rw [de, decide_eq_true d0]; exact Bool.false_ne_true)]] at k
              exact k _ S4
            refine ite_yes (by rw [decide_eq_false d0]; rfl) ?_
            obtain ⟨dc, dr, edc⟩ := codes_cons d0
            refine ⟨.str dg, (by kernel_rfl), dg, rfl, sz_of (by omega), _, _, rfl, rfl, _, rfl, ?_⟩
            by_cases d1 : (dg).length ≤ 400
            · refine ite_yes (decide_eq_true (by omega)) ?_
              refine ⟨.str dg, (by kernel_rfl), dg, rfl, ?_⟩
              refine rd_odd (t := dg) (s := sDIG) (by omega) (fun v => by kernel_rfl) (fun H c Q s q => ⟨.str ⟨#[c]⟩, (by kernel_rfl), c, sDIG, rfl, rfl, _, rfl, q⟩) (fun A2 H6 s6 h6 => ?_)
              refine ⟨Nat.zero_le _, fun e2 ne2 => ?_⟩
              have s7 := same_new (o := .lst []) ne2
              have S7 := (S4.trans s6).trans s7
              refine ⟨_, _, .lst (SqL.of (s7 _ _ h6)) (dpAll_ones _), .lst (SqL.of upd_same) .nil, shaped_ones _, by decide +kernel, _, rfl, ?_⟩
              rw [eqv_ones]
              cases d2 : allIn (dg) sDIG with
              | true =>
                refine ite_yes rfl ?_
                refine ⟨.str z, (by kernel_rfl), rfl, _, rfl, ?_⟩
                rw [dec_str]
                by_cases d3 : z = "0"
                · refine ite_yes (decide_eq_true d3) ?_
                  refine ite_yes rfl ?_
                  rw [show lawKind z = "number" from by rw [eR, if_pos (by rw [de, decide_eq_false d0, decide_eq_true d1, d2, decide_eq_true d3]; rfl)]] at k
                  exact k _ S7
                · refine ite_no (decide_eq_false d3) ?_
                  refine ⟨.str dg, (by kernel_rfl), dg, 0, dc, rfl, rfl, sz_of (by omega), atI0 edc, rfl, _, rfl, ?_⟩
                  rw [sign_eq dc 48 "0" (by decide +kernel)]
                  by_cases d4 : dc = 48
                  · refine ite_no (by rw [decide_eq_true d4]; rfl) ?_
                    refine ⟨.str z, (by kernel_rfl), _, _, rfl, rfl, sz_of (by show 5 + z.length ≤ 100000; omega), ?_⟩
                    rw [show lawKind z = ("word " : Str) ++ z from by rw [eR, if_neg (by rw [de, hd_of edc, decide_eq_false d3, decide_eq_true d4]; simp)]] at k
                    exact k _ S7
                  · refine ite_yes (by rw [decide_eq_false d4]; rfl) ?_
                    rw [show lawKind z = "number" from by rw [eR, if_pos (by rw [de, decide_eq_false d0, decide_eq_true d1, d2, hd_of edc, decide_eq_false d4]; simp)]] at k
                    exact k _ S7
              | false =>
                refine ite_no rfl ?_
                refine ⟨.str z, (by kernel_rfl), _, _, rfl, rfl, sz_of (by show 5 + z.length ≤ 100000; omega), ?_⟩
                rw [show lawKind z = ("word " : Str) ++ z from by rw [eR, if_neg (by rw [de, d2]; simp)]] at k
                exact k _ S7
            · refine ite_no (decide_eq_false (by omega)) ?_
              refine ite_no rfl ?_
              refine ⟨.str z, (by kernel_rfl), _, _, rfl, rfl, sz_of (by show 5 + z.length ≤ 100000; omega), ?_⟩
              rw [show lawKind z = ("word " : Str) ++ z from by rw [eR, if_neg (by rw [de, decide_eq_false d1]; simp)]] at k
              exact k _ S4
          · refine ite_no (decide_eq_false hm) ?_
            refine ⟨.str z, (by kernel_rfl), ?_⟩
            have de : digs2 z = z := by unfold digs2; rw [hd_of ec, if_neg (by rw [decide_eq_false hm]; exact Bool.false_ne_true)]
            refine ⟨.str z, (by kernel_rfl), rfl, _, rfl, ?_⟩
            rw [dec_str]
            by_cases d0 : z = ""
            · refine ite_no (by rw [decide_eq_true d0]; rfl) ?_
              refine ite_no rfl ?_
              refine ⟨.str z, (by kernel_rfl), _, _, rfl, rfl, sz_of (by show 5 + z.length ≤ 100000; omega), ?_⟩
              rw [show lawKind z = ("word " : Str) ++ z from by rw [eR, if_neg (by rw [de, decide_eq_true d0]; exact Bool.false_ne_true)]] at k
              exact k _ S4
            refine ite_yes (by rw [decide_eq_false d0]; rfl) ?_
            obtain ⟨dc, dr, edc⟩ := codes_cons d0
            refine ⟨.str z, (by kernel_rfl), z, rfl, sz_of (by omega), _, _, rfl, rfl, _, rfl, ?_⟩
            by_cases d1 : (z).length ≤ 400
            · refine ite_yes (decide_eq_true (by omega)) ?_
              refine ⟨.str z, (by kernel_rfl), z, rfl, ?_⟩
              refine rd_odd (t := z) (s := sDIG) (by omega) (fun v => by kernel_rfl) (fun H c Q s q => ⟨.str ⟨#[c]⟩, (by kernel_rfl), c, sDIG, rfl, rfl, _, rfl, q⟩) (fun A2 H6 s6 h6 => ?_)
              refine ⟨Nat.zero_le _, fun e2 ne2 => ?_⟩
              have s7 := same_new (o := .lst []) ne2
              have S7 := (S4.trans s6).trans s7
              refine ⟨_, _, .lst (SqL.of (s7 _ _ h6)) (dpAll_ones _), .lst (SqL.of upd_same) .nil, shaped_ones _, by decide +kernel, _, rfl, ?_⟩
              rw [eqv_ones]
              cases d2 : allIn (z) sDIG with
              | true =>
                refine ite_yes rfl ?_
                refine ⟨.str z, (by kernel_rfl), rfl, _, rfl, ?_⟩
                rw [dec_str]
                by_cases d3 : z = "0"
                · refine ite_yes (decide_eq_true d3) ?_
                  refine ite_yes rfl ?_
                  rw [show lawKind z = "number" from by rw [eR, if_pos (by rw [de, decide_eq_false d0, decide_eq_true d1, d2, decide_eq_true d3]; rfl)]] at k
                  exact k _ S7
                · refine ite_no (decide_eq_false d3) ?_
                  refine ⟨.str z, (by kernel_rfl), z, 0, dc, rfl, rfl, sz_of (by omega), atI0 edc, rfl, _, rfl, ?_⟩
                  rw [sign_eq dc 48 "0" (by decide +kernel)]
                  by_cases d4 : dc = 48
                  · refine ite_no (by rw [decide_eq_true d4]; rfl) ?_
                    refine ⟨.str z, (by kernel_rfl), _, _, rfl, rfl, sz_of (by show 5 + z.length ≤ 100000; omega), ?_⟩
                    rw [show lawKind z = ("word " : Str) ++ z from by rw [eR, if_neg (by rw [de, hd_of edc, decide_eq_false d3, decide_eq_true d4]; simp)]] at k
                    exact k _ S7
                  · refine ite_yes (by rw [decide_eq_false d4]; rfl) ?_
                    rw [show lawKind z = "number" from by rw [eR, if_pos (by rw [de, decide_eq_false d0, decide_eq_true d1, d2, hd_of edc, decide_eq_false d4]; simp)]] at k
                    exact k _ S7
              | false =>
                refine ite_no rfl ?_
                refine ⟨.str z, (by kernel_rfl), _, _, rfl, rfl, sz_of (by show 5 + z.length ≤ 100000; omega), ?_⟩
                rw [show lawKind z = ("word " : Str) ++ z from by rw [eR, if_neg (by rw [de, d2]; simp)]] at k
                exact k _ S7
            · refine ite_no (decide_eq_false (by omega)) ?_
              refine ite_no rfl ?_
              refine ⟨.str z, (by kernel_rfl), _, _, rfl, rfl, sz_of (by show 5 + z.length ≤ 100000; omega), ?_⟩
              rw [show lawKind z = ("word " : Str) ++ z from by rw [eR, if_neg (by rw [de, decide_eq_false d1]; simp)]] at k
              exact k _ S4
      · refine ite_no (decide_eq_false (by omega)) ?_
        have nb : ((decide (hd z ∈ codes (sBIG ++ sSMA)) && decide (z.length ≤ 24)) && allIn z sALL) = false := by rw [decide_eq_false hl24]; simp
        have eR := lk_rest hk nb
        refine ⟨.str z, (by kernel_rfl), z, 0, c, rfl, rfl, sz_of (by omega), atI0 ec, rfl, _, rfl, ?_⟩
        rw [sign_eq c 45 "-" (by decide +kernel)]
        by_cases hm : c = 45
        · refine ite_yes (decide_eq_true hm) ?_
          refine ⟨.str z, (by kernel_rfl), 1, rfl, z, rfl, sz_of (by omega), ?_⟩
          have de : digs2 z = cutS z (some 1) none := by unfold digs2; rw [hd_of ec, if_pos (decide_eq_true hm)]
          have dl : (cutS z (some 1) none).length ≤ 10000 := by
            rw [len_codes, cutT_codes, List.length_drop]
            rw [len_codes] at hl
            omega
          generalize cutS z (some 1) none = dg at de dl ⊢
          refine ⟨.str dg, (by kernel_rfl), rfl, _, rfl, ?_⟩
          rw [dec_str]
          by_cases d0 : dg = ""
          · refine ite_no (by rw [decide_eq_true d0]; rfl) ?_
            refine ite_no rfl ?_
            refine ⟨.str z, (by kernel_rfl), _, _, rfl, rfl, sz_of (by show 5 + z.length ≤ 100000; omega), ?_⟩
            rw [show lawKind z = ("word " : Str) ++ z from by rw [eR, if_neg (by rw [de, decide_eq_true d0]; exact Bool.false_ne_true)]] at k
            exact k _ S2
          refine ite_yes (by rw [decide_eq_false d0]; rfl) ?_
          obtain ⟨dc, dr, edc⟩ := codes_cons d0
          refine ⟨.str dg, (by kernel_rfl), dg, rfl, sz_of (by omega), _, _, rfl, rfl, _, rfl, ?_⟩
          by_cases d1 : (dg).length ≤ 400
          · refine ite_yes (decide_eq_true (by omega)) ?_
            refine ⟨.str dg, (by kernel_rfl), dg, rfl, ?_⟩
            refine rd_odd (t := dg) (s := sDIG) (by omega) (fun v => by kernel_rfl) (fun H c Q s q => ⟨.str ⟨#[c]⟩, (by kernel_rfl), c, sDIG, rfl, rfl, _, rfl, q⟩) (fun A2 H6 s6 h6 => ?_)
            refine ⟨Nat.zero_le _, fun e2 ne2 => ?_⟩
            have s7 := same_new (o := .lst []) ne2
            have S7 := (S2.trans s6).trans s7
            refine ⟨_, _, .lst (SqL.of (s7 _ _ h6)) (dpAll_ones _), .lst (SqL.of upd_same) .nil, shaped_ones _, by decide +kernel, _, rfl, ?_⟩
            rw [eqv_ones]
            cases d2 : allIn (dg) sDIG with
            | true =>
              refine ite_yes rfl ?_
              refine ⟨.str z, (by kernel_rfl), rfl, _, rfl, ?_⟩
              rw [dec_str]
              by_cases d3 : z = "0"
              · refine ite_yes (decide_eq_true d3) ?_
                refine ite_yes rfl ?_
                rw [show lawKind z = "number" from by rw [eR, if_pos (by rw [de, decide_eq_false d0, decide_eq_true d1, d2, decide_eq_true d3]; rfl)]] at k
                exact k _ S7
              · refine ite_no (decide_eq_false d3) ?_
                refine ⟨.str dg, (by kernel_rfl), dg, 0, dc, rfl, rfl, sz_of (by omega), atI0 edc, rfl, _, rfl, ?_⟩
                rw [sign_eq dc 48 "0" (by decide +kernel)]
                by_cases d4 : dc = 48
                · refine ite_no (by rw [decide_eq_true d4]; rfl) ?_
                  refine ⟨.str z, (by kernel_rfl), _, _, rfl, rfl, sz_of (by show 5 + z.length ≤ 100000; omega), ?_⟩
                  rw [show lawKind z = ("word " : Str) ++ z from by rw [eR, if_neg (by rw [de, hd_of edc, decide_eq_false d3, decide_eq_true d4]; simp)]] at k
                  exact k _ S7
                · refine ite_yes (by rw [decide_eq_false d4]; rfl) ?_
                  rw [show lawKind z = "number" from by rw [eR, if_pos (by rw [de, decide_eq_false d0, decide_eq_true d1, d2, hd_of edc, decide_eq_false d4]; simp)]] at k
                  exact k _ S7
            | false =>
              refine ite_no rfl ?_
              refine ⟨.str z, (by kernel_rfl), _, _, rfl, rfl, sz_of (by show 5 + z.length ≤ 100000; omega), ?_⟩
              rw [show lawKind z = ("word " : Str) ++ z from by rw [eR, if_neg (by rw [de, d2]; simp)]] at k
              exact k _ S7
          · refine ite_no (decide_eq_false (by omega)) ?_
            refine ite_no rfl ?_
            refine ⟨.str z, (by kernel_rfl), _, _, rfl, rfl, sz_of (by show 5 + z.length ≤ 100000; omega), ?_⟩
            rw [show lawKind z = ("word " : Str) ++ z from by rw [eR, if_neg (by rw [de, decide_eq_false d1]; simp)]] at k
            exact k _ S2
        · refine ite_no (decide_eq_false hm) ?_
          refine ⟨.str z, (by kernel_rfl), ?_⟩
          have de : digs2 z = z := by unfold digs2; rw [hd_of ec, if_neg (by rw [decide_eq_false hm]; exact Bool.false_ne_true)]
          refine ⟨.str z, (by kernel_rfl), rfl, _, rfl, ?_⟩
          rw [dec_str]
          by_cases d0 : z = ""
          · refine ite_no (by rw [decide_eq_true d0]; rfl) ?_
            refine ite_no rfl ?_
            refine ⟨.str z, (by kernel_rfl), _, _, rfl, rfl, sz_of (by show 5 + z.length ≤ 100000; omega), ?_⟩
            rw [show lawKind z = ("word " : Str) ++ z from by rw [eR, if_neg (by rw [de, decide_eq_true d0]; exact Bool.false_ne_true)]] at k
            exact k _ S2
          refine ite_yes (by rw [decide_eq_false d0]; rfl) ?_
          obtain ⟨dc, dr, edc⟩ := codes_cons d0
          refine ⟨.str z, (by kernel_rfl), z, rfl, sz_of (by omega), _, _, rfl, rfl, _, rfl, ?_⟩
          by_cases d1 : (z).length ≤ 400
          · refine ite_yes (decide_eq_true (by omega)) ?_
            refine ⟨.str z, (by kernel_rfl), z, rfl, ?_⟩
            refine rd_odd (t := z) (s := sDIG) (by omega) (fun v => by kernel_rfl) (fun H c Q s q => ⟨.str ⟨#[c]⟩, (by kernel_rfl), c, sDIG, rfl, rfl, _, rfl, q⟩) (fun A2 H6 s6 h6 => ?_)
            refine ⟨Nat.zero_le _, fun e2 ne2 => ?_⟩
            have s7 := same_new (o := .lst []) ne2
            have S7 := (S2.trans s6).trans s7
            refine ⟨_, _, .lst (SqL.of (s7 _ _ h6)) (dpAll_ones _), .lst (SqL.of upd_same) .nil, shaped_ones _, by decide +kernel, _, rfl, ?_⟩
            rw [eqv_ones]
            cases d2 : allIn (z) sDIG with
            | true =>
              refine ite_yes rfl ?_
              refine ⟨.str z, (by kernel_rfl), rfl, _, rfl, ?_⟩
              rw [dec_str]
              by_cases d3 : z = "0"
              · refine ite_yes (decide_eq_true d3) ?_
                refine ite_yes rfl ?_
                rw [show lawKind z = "number" from by rw [eR, if_pos (by rw [de, decide_eq_false d0, decide_eq_true d1, d2, decide_eq_true d3]; rfl)]] at k
                exact k _ S7
              · refine ite_no (decide_eq_false d3) ?_
                refine ⟨.str z, (by kernel_rfl), z, 0, dc, rfl, rfl, sz_of (by omega), atI0 edc, rfl, _, rfl, ?_⟩
                rw [sign_eq dc 48 "0" (by decide +kernel)]
                by_cases d4 : dc = 48
                · refine ite_no (by rw [decide_eq_true d4]; rfl) ?_
                  refine ⟨.str z, (by kernel_rfl), _, _, rfl, rfl, sz_of (by show 5 + z.length ≤ 100000; omega), ?_⟩
                  rw [show lawKind z = ("word " : Str) ++ z from by rw [eR, if_neg (by rw [de, hd_of edc, decide_eq_false d3, decide_eq_true d4]; simp)]] at k
                  exact k _ S7
                · refine ite_yes (by rw [decide_eq_false d4]; rfl) ?_
                  rw [show lawKind z = "number" from by rw [eR, if_pos (by rw [de, decide_eq_false d0, decide_eq_true d1, d2, hd_of edc, decide_eq_false d4]; simp)]] at k
                  exact k _ S7
            | false =>
              refine ite_no rfl ?_
              refine ⟨.str z, (by kernel_rfl), _, _, rfl, rfl, sz_of (by show 5 + z.length ≤ 100000; omega), ?_⟩
              rw [show lawKind z = ("word " : Str) ++ z from by rw [eR, if_neg (by rw [de, d2]; simp)]] at k
              exact k _ S7
          · refine ite_no (decide_eq_false (by omega)) ?_
            refine ite_no rfl ?_
            refine ⟨.str z, (by kernel_rfl), _, _, rfl, rfl, sz_of (by show 5 + z.length ≤ 100000; omega), ?_⟩
            rw [show lawKind z = ("word " : Str) ++ z from by rw [eR, if_neg (by rw [de, decide_eq_false d1]; simp)]] at k
            exact k _ S2
    · refine ite_no (decide_eq_false hm1) ?_
      refine ite_no rfl ?_
      have nb : ((decide (hd z ∈ codes (sBIG ++ sSMA)) && decide (z.length ≤ 24)) && allIn z sALL) = false := by rw [hd_of ec, decide_eq_false hm1]; rfl
      have eR := lk_rest hk nb
      refine ⟨.str z, (by kernel_rfl), z, 0, c, rfl, rfl, sz_of (by omega), atI0 ec, rfl, _, rfl, ?_⟩
      rw [sign_eq c 45 "-" (by decide +kernel)]
      by_cases hm : c = 45
      · refine ite_yes (decide_eq_true hm) ?_
        refine ⟨.str z, (by kernel_rfl), 1, rfl, z, rfl, sz_of (by omega), ?_⟩
        have de : digs2 z = cutS z (some 1) none := by unfold digs2; rw [hd_of ec, if_pos (decide_eq_true hm)]
        have dl : (cutS z (some 1) none).length ≤ 10000 := by
          rw [len_codes, cutT_codes, List.length_drop]
          rw [len_codes] at hl
          omega
        generalize cutS z (some 1) none = dg at de dl ⊢
        refine ⟨.str dg, (by kernel_rfl), rfl, _, rfl, ?_⟩
        rw [dec_str]
        by_cases d0 : dg = ""
        · refine ite_no (by rw [decide_eq_true d0]; rfl) ?_
          refine ite_no rfl ?_
          refine ⟨.str z, (by kernel_rfl), _, _, rfl, rfl, sz_of (by show 5 + z.length ≤ 100000; omega), ?_⟩
          rw [show lawKind z = ("word " : Str) ++ z from by rw [eR, if_neg (by rw [de, decide_eq_true d0]; exact Bool.false_ne_true)]] at k
          exact k _ S2
        refine ite_yes (by rw [decide_eq_false d0]; rfl) ?_
        obtain ⟨dc, dr, edc⟩ := codes_cons d0
        refine ⟨.str dg, (by kernel_rfl), dg, rfl, sz_of (by omega), _, _, rfl, rfl, _, rfl, ?_⟩
        by_cases d1 : (dg).length ≤ 400
        · refine ite_yes (decide_eq_true (by omega)) ?_
          refine ⟨.str dg, (by kernel_rfl), dg, rfl, ?_⟩
          refine rd_odd (t := dg) (s := sDIG) (by omega) (fun v => by kernel_rfl) (fun H c Q s q => ⟨.str ⟨#[c]⟩, (by kernel_rfl), c, sDIG, rfl, rfl, _, rfl, q⟩) (fun A2 H6 s6 h6 => ?_)
          refine ⟨Nat.zero_le _, fun e2 ne2 => ?_⟩
          have s7 := same_new (o := .lst []) ne2
          have S7 := (S2.trans s6).trans s7
          refine ⟨_, _, .lst (SqL.of (s7 _ _ h6)) (dpAll_ones _), .lst (SqL.of upd_same) .nil, shaped_ones _, by decide +kernel, _, rfl, ?_⟩
          rw [eqv_ones]
          cases d2 : allIn (dg) sDIG with
          | true =>
            refine ite_yes rfl ?_
            refine ⟨.str z, (by kernel_rfl), rfl, _, rfl, ?_⟩
            rw [dec_str]
            by_cases d3 : z = "0"
            · refine ite_yes (decide_eq_true d3) ?_
              refine ite_yes rfl ?_
              rw [show lawKind z = "number" from by rw [eR, if_pos (by rw [de, decide_eq_false d0, decide_eq_true d1, d2, decide_eq_true d3]; rfl)]] at k
              exact k _ S7
            · refine ite_no (decide_eq_false d3) ?_
              refine ⟨.str dg, (by kernel_rfl), dg, 0, dc, rfl, rfl, sz_of (by omega), atI0 edc, rfl, _, rfl, ?_⟩
              rw [sign_eq dc 48 "0" (by decide +kernel)]
              by_cases d4 : dc = 48
              · refine ite_no (by rw [decide_eq_true d4]; rfl) ?_
                refine ⟨.str z, (by kernel_rfl), _, _, rfl, rfl, sz_of (by show 5 + z.length ≤ 100000; omega), ?_⟩
                rw [show lawKind z = ("word " : Str) ++ z from by rw [eR, if_neg (by rw [de, hd_of edc, decide_eq_false d3, decide_eq_true d4]; simp)]] at k
                exact k _ S7
              · refine ite_yes (by rw [decide_eq_false d4]; rfl) ?_
                rw [show lawKind z = "number" from by rw [eR, if_pos (by rw [de, decide_eq_false d0, decide_eq_true d1, d2, hd_of edc, decide_eq_false d4]; simp)]] at k
                exact k _ S7
          | false =>
            refine ite_no rfl ?_
            refine ⟨.str z, (by kernel_rfl), _, _, rfl, rfl, sz_of (by show 5 + z.length ≤ 100000; omega), ?_⟩
            rw [show lawKind z = ("word " : Str) ++ z from by rw [eR, if_neg (by rw [de, d2]; simp)]] at k
            exact k _ S7
        · refine ite_no (decide_eq_false (by omega)) ?_
          refine ite_no rfl ?_
          refine ⟨.str z, (by kernel_rfl), _, _, rfl, rfl, sz_of (by show 5 + z.length ≤ 100000; omega), ?_⟩
          rw [show lawKind z = ("word " : Str) ++ z from by rw [eR, if_neg (by rw [de, decide_eq_false d1]; simp)]] at k
          exact k _ S2
      · refine ite_no (decide_eq_false hm) ?_
        refine ⟨.str z, (by kernel_rfl), ?_⟩
        have de : digs2 z = z := by unfold digs2; rw [hd_of ec, if_neg (by rw [decide_eq_false hm]; exact Bool.false_ne_true)]
        refine ⟨.str z, (by kernel_rfl), rfl, _, rfl, ?_⟩
        rw [dec_str]
        by_cases d0 : z = ""
        · refine ite_no (by rw [decide_eq_true d0]; rfl) ?_
          refine ite_no rfl ?_
          refine ⟨.str z, (by kernel_rfl), _, _, rfl, rfl, sz_of (by show 5 + z.length ≤ 100000; omega), ?_⟩
          rw [show lawKind z = ("word " : Str) ++ z from by rw [eR, if_neg (by rw [de, decide_eq_true d0]; exact Bool.false_ne_true)]] at k
          exact k _ S2
        refine ite_yes (by rw [decide_eq_false d0]; rfl) ?_
        obtain ⟨dc, dr, edc⟩ := codes_cons d0
        refine ⟨.str z, (by kernel_rfl), z, rfl, sz_of (by omega), _, _, rfl, rfl, _, rfl, ?_⟩
        by_cases d1 : (z).length ≤ 400
        · refine ite_yes (decide_eq_true (by omega)) ?_
          refine ⟨.str z, (by kernel_rfl), z, rfl, ?_⟩
          refine rd_odd (t := z) (s := sDIG) (by omega) (fun v => by kernel_rfl) (fun H c Q s q => ⟨.str ⟨#[c]⟩, (by kernel_rfl), c, sDIG, rfl, rfl, _, rfl, q⟩) (fun A2 H6 s6 h6 => ?_)
          refine ⟨Nat.zero_le _, fun e2 ne2 => ?_⟩
          have s7 := same_new (o := .lst []) ne2
          have S7 := (S2.trans s6).trans s7
          refine ⟨_, _, .lst (SqL.of (s7 _ _ h6)) (dpAll_ones _), .lst (SqL.of upd_same) .nil, shaped_ones _, by decide +kernel, _, rfl, ?_⟩
          rw [eqv_ones]
          cases d2 : allIn (z) sDIG with
          | true =>
            refine ite_yes rfl ?_
            refine ⟨.str z, (by kernel_rfl), rfl, _, rfl, ?_⟩
            rw [dec_str]
            by_cases d3 : z = "0"
            · refine ite_yes (decide_eq_true d3) ?_
              refine ite_yes rfl ?_
              rw [show lawKind z = "number" from by rw [eR, if_pos (by rw [de, decide_eq_false d0, decide_eq_true d1, d2, decide_eq_true d3]; rfl)]] at k
              exact k _ S7
            · refine ite_no (decide_eq_false d3) ?_
              refine ⟨.str z, (by kernel_rfl), z, 0, dc, rfl, rfl, sz_of (by omega), atI0 edc, rfl, _, rfl, ?_⟩
              rw [sign_eq dc 48 "0" (by decide +kernel)]
              by_cases d4 : dc = 48
              · refine ite_no (by rw [decide_eq_true d4]; rfl) ?_
                refine ⟨.str z, (by kernel_rfl), _, _, rfl, rfl, sz_of (by show 5 + z.length ≤ 100000; omega), ?_⟩
                rw [show lawKind z = ("word " : Str) ++ z from by rw [eR, if_neg (by rw [de, hd_of edc, decide_eq_false d3, decide_eq_true d4]; simp)]] at k
                exact k _ S7
              · refine ite_yes (by rw [decide_eq_false d4]; rfl) ?_
                rw [show lawKind z = "number" from by rw [eR, if_pos (by rw [de, decide_eq_false d0, decide_eq_true d1, d2, hd_of edc, decide_eq_false d4]; simp)]] at k
                exact k _ S7
          | false =>
            refine ite_no rfl ?_
            refine ⟨.str z, (by kernel_rfl), _, _, rfl, rfl, sz_of (by show 5 + z.length ≤ 100000; omega), ?_⟩
            rw [show lawKind z = ("word " : Str) ++ z from by rw [eR, if_neg (by rw [de, d2]; simp)]] at k
            exact k _ S7
        · refine ite_no (decide_eq_false (by omega)) ?_
          refine ite_no rfl ?_
          refine ⟨.str z, (by kernel_rfl), _, _, rfl, rfl, sz_of (by show 5 + z.length ≤ 100000; omega), ?_⟩
          rw [show lawKind z = ("word " : Str) ++ z from by rw [eR, if_neg (by rw [de, decide_eq_false d1]; simp)]] at k
          exact k _ S2

abbrev sLasked : Stmt := top 23
abbrev NLasked : List Str := ["_law_word"]
abbrev PLasked : List Str := ["_law_word"]
theorem scLasked : FnScope NLasked PLasked (defScope sLasked) := ⟨rfl, rfl, rfl, by decide +kernel, rfl, by decide +kernel, by decide +kernel⟩

theorem ok_asked {f fB fS fN fI fA : Addr} {fd fdB fdS fdN fdI fdA : FuncData} (F : Fun K "_law_asked" "_law_asked" sLasked f fd) (T : WTxt K mg aK)
    (F_is_big : Fun K "is_big" "is_big" sisbig fB fdB) (b_is_big : Binds K fdB Pisbig []) (g_is_big : mg "is_big" = some (.ref fB))
    (F_is_small : Fun K "is_small" "is_small" sissmall fS fdS) (b_is_small : Binds K fdS Pissmall []) (g_is_small : mg "is_small" = some (.ref fS))
    (F_is_number : NumFun K mg fI fdI) (b_is_number : Binds K fdI Pisnumber []) (g_is_number : mg "is_number" = some (.ref fI))
    (F_is_name : Fun K "is_name" "is_name" sisname fN fdN) (b_is_name : Binds K fdN Pisname []) (g_is_name : mg "is_name" = some (.ref fN))
    (F_all_among : Fun K "all_among" "all_among" sallamong fA fdA) (b_all_among : Binds K fdA Pallamong []) (g_all_among : mg "all_among" = some (.ref fA)) :
    FnOk P w K mg base CX0 4 f fd PLasked spAsked := by
  have G_is_big : FnOk P w K mg base CX0 3 fB fdB Pisbig (spW isBig) := ok_big F_is_big T F_is_name b_is_name g_is_name F_all_among b_all_among g_all_among
  have G_is_small : FnOk P w K mg base CX0 3 fS fdS Pissmall (spW isSmall) := ok_small F_is_small T F_is_name b_is_name g_is_name F_all_among b_all_among g_all_among
  have G_is_number : FnOk P w K mg base CX0 3 fI fdI Pisnumber (spW isNum) := (ok_number F_is_number T F_all_among b_all_among g_all_among).mono (by decide)
  refine F.ok scLasked (fun vs H Q E h => ?_) (fun cdv A outer s H vs Q E hr h => ?_)
  · obtain ⟨t, rfl, _⟩ := h
    rfl
  · obtain ⟨z, rfl, hl, k⟩ := h
    have hr1 := hr
    refine ⟨_, (pss_one (ps_ret (pe_lst (pa_cons (pe_call G_is_big hr1 rfl g_is_big F_is_big.kp b_is_big .nil pass0 (pa_cons (pv 0) pa_nil)) (pa_cons (pe_call G_is_small hr1 rfl g_is_small F_is_small.kp b_is_small .nil pass0 (pa_cons (pv 0) pa_nil)) (pa_cons (pe_call G_is_number hr1 rfl g_is_number F_is_number.kp b_is_number .nil pass0 (pa_cons (pv 0) pa_nil)) pa_nil)))))), ?_⟩
    exact ⟨.str z, (by kernel_rfl), z, rfl, by omega, .str z, (by kernel_rfl), z, rfl, by omega, .str z, (by kernel_rfl), z, rfl, by omega, by show 3 ≤ sizeLine; decide, fun p np => k p _ (same_new np) upd_same⟩
end
end Nm
namespace Nm
open PySem L2
/-! ### some word -/
theorem strOk_app {a b : Str} (ha : PyData.strOk a = true) (hb : PyData.strOk b = true) : PyData.strOk (a ++ b) = true := by
  show ((a.cps ++ b.cps).all _) = true
  rw [Array.all_append]
  show (PyData.strOk a && PyData.strOk b) = true
  rw [ha, hb]
  rfl
theorem len_app (a b : Str) : (a ++ b).length = a.length + b.length := by
  show (a.cps ++ b.cps).size = _
  rw [Array.size_append]
  rfl
/-- a text of at most n signs -/
structure Wok (n : Nat) (s : Str) : Prop where
  len : s.length ≤ n
  ok : PyData.strOk s = true
theorem Wok.app {n m : Nat} {a b : Str} (x : Wok n a) (y : Wok m b) : Wok (n + m) (a ++ b) := ⟨by rw [len_app]; have := x.len; have := y.len; omega, strOk_app x.ok y.ok⟩
theorem Wok.mono {n m : Nat} {a : Str} (x : Wok n a) (h : n ≤ m) : Wok m a := ⟨Nat.le_trans x.len h, x.ok⟩
theorem pick_str {l : List Str} (n : Nat) (h : l.all (fun s => decide (s.length ≤ n) && PyData.strOk s) = true) {v : V} (hv : v ∈ l.map V.str) : ∃ s, v = .str s ∧ Wok n s := by
  obtain ⟨s, hs, rfl⟩ := List.mem_map.mp hv
  have q := List.all_eq_true.mp h s hs
  simp only [Bool.and_eq_true, decide_eq_true_eq] at q
  exact ⟨s, rfl, q.1, q.2⟩
theorem pick_sign {z : Str} (h : (codes z).all (fun c => decide (c < 0x110000)) = true) {v : V} (hv : v ∈ z.cps.toList.map fun c => V.str ⟨#[c]⟩) : ∃ s, v = .str s ∧ Wok 1 s := by
  obtain ⟨c, hc, rfl⟩ := List.mem_map.mp hv
  have q := of_decide_eq_true (List.all_eq_true.mp h c hc)
  exact ⟨_, rfl, by show (1 : Nat) ≤ 1; decide, by show ((#[c] : Array Nat).all _) = true; simp [q]⟩
/-- the pen's heap: all but the pen stays -/
structure PS (H0 : Hp) (p : Addr) (n : Int) (H : Hp) (z : Pen) : Prop where
  pen : PenAt H p z
  c : z.c ≤ n
  keep : ∀ b o, b ≠ p → H0 b = some o → H b = some o
theorem PS.same {H0 H H' : Hp} {p : Addr} {n : Int} {z : Pen} (h : PS H0 p n H z) (s : Same H H') : PS H0 p n H' z := ⟨h.pen.same s, h.c, fun b o nb e => s _ _ (h.keep b o nb e)⟩
theorem PS.new {H0 H : Hp} {p q : Addr} {n : Int} {z : Pen} {o : HO} (h : PS H0 p n H z) (nq : H q = none) : PS H0 p n (upd H q o) z := h.same (same_new nq)
theorem PS.draw {H0 H : Hp} {p : Addr} {n : Int} {z z' : Pen} (h : PS H0 p n H z) (g : Pen.Go 1 z z') : PS H0 p (n + 1) (upd H p (.dK z'.kvs)) z' :=
  ⟨h.pen.put g.l g.ns g.ok, by have := g.c; have := h.c; omega, fun b o nb e => by rw [upd_ne nb]; exact h.keep b o nb e⟩
theorem PS.le {H0 H : Hp} {p : Addr} {n m : Int} {z : Pen} (h : PS H0 p n H z) (k : n ≤ m) : PS H0 p m H z := ⟨h.pen, Int.le_trans h.c k, h.keep⟩
def spSome : Sp := fun vs H Q _ => ∃ (p : Addr) (z : Pen), vs = [.ref p] ∧ PenAt H p z ∧ z.c < 100000 ∧
  ∀ (w : Str) (H' : Hp) (z' : Pen), Wok 500 w → PS H p (z.c + 20) H' z' → Q (.str w) H'
section
variable {P : Program} {w : World} {K : PySem.W.Frag} {mg : Str → Option Value} {base : Heap} {aK : Addr}

abbrev sLsomeword : Stmt := top 22
abbrev NLsomeword : List Str := ["_law_pen_here", "_law_signs_here", "_law_way", "_law_zeros", "_law_word", "_law_lap"]
abbrev PLsomeword : List Str := ["_law_pen_here"]
theorem scLsomeword : FnScope NLsomeword PLsomeword (defScope sLsomeword) := ⟨rfl, rfl, rfl, by decide +kernel, rfl, by decide +kernel, by decide +kernel⟩

theorem ok_some {f fD fQ fS : Addr} {fd fdD fdQ fdS : FuncData} (F : Fun K "_law_some_word" "_law_some_word" sLsomeword f fd) (T : WTxt K mg aK) (PT : PenTxt mg)
    (F_law_draw : Fun K "_law_draw" "_law_draw" sDraw fD fdD) (b_law_draw : Binds K fdD ["_law_pen_here", "_law_many"] []) (g_law_draw : mg "_law_draw" = some (.ref fD))
    (F_law_pick : Fun K "_law_pick" "_law_pick" sPick fQ fdQ) (b_law_pick : Binds K fdQ ["_law_pen_here", "_law_some"] []) (g_law_pick : mg "_law_pick" = some (.ref fQ))
    (F_law_signs : Fun K "_law_signs" "_law_signs" sLsigns fS fdS) (b_law_signs : Binds K fdS PLsigns []) (g_law_signs : mg "_law_signs" = some (.ref fS)) :
    FnOk P w K mg base CX0 3 f fd PLsomeword spSome := by
  have G_law_draw : FnOk P w K mg base CX0 2 fD fdD ["_law_pen_here", "_law_many"] spDraw := (ok_draw F_law_draw PT).mono (by decide)
  have G_law_pick : FnOk P w K mg base CX0 2 fQ fdQ ["_law_pen_here", "_law_some"] (spPick K) := ok_pick F_law_pick PT F_law_draw b_law_draw g_law_draw
  have G_law_signs : FnOk P w K mg base CX0 2 fS fdS PLsigns spSigns := (ok_signs F_law_signs).mono (by decide)
  refine F.ok scLsomeword (fun vs H Q E h => ?_) (fun cdv A outer s H vs Q E hr h => ?_)
  · obtain ⟨p, z, rfl, _⟩ := h
    rfl
  · obtain ⟨p, z, rfl, Z, zc, k⟩ := h
    have hu := hu_of hr
    have hr1 := hr
    refine ⟨_, (pss_cons (ps_set (i := 1) scLsomeword.nd rfl (Or.inl rfl) (pe_dget hu (pe_call0 G_law_signs hr1 rfl g_law_signs F_law_signs.kp b_law_signs .nil pass0) pe_str (fun _ _ => rfl)))
      (pss_cons (ps_set (i := 2) scLsomeword.nd rfl (Or.inl rfl) (pe_call G_law_draw hr1 rfl g_law_draw F_law_draw.kp b_law_draw .nil pass0 (pa_cons (pv 0) (pa_cons pe_int pa_nil))))
      (pss_cons (ps_if (pt_cmpR op_eq (pv 2) pe_int (nomark _))
      (pss_one (ps_ret (pe_call G_law_pick hr1 rfl g_law_pick F_law_pick.kp b_law_pick .nil pass0 (pa_cons (pv 0) (pa_cons (pe_lst (pa_cons pe_str (pa_cons pe_str (pa_cons pe_str (pa_cons pe_str (pa_cons pe_str (pa_cons pe_str (pa_cons pe_str (pa_cons pe_str (pa_cons pe_str (pa_cons pe_str (pa_cons pe_str (pa_cons pe_str (pa_cons pe_str pa_nil)))))))))))))) pa_nil)))))
      pss_nil)
      (pss_cons (ps_if (pt_cmpR op_eq (pv 2) pe_int (nomark _))
      (pss_cons (ps_set (i := 3) scLsomeword.nd rfl (Or.inl rfl) (pe_call G_law_pick hr1 rfl g_law_pick F_law_pick.kp b_law_pick .nil pass0 (pa_cons (pv 0) (pa_cons (pe_lst (pa_cons pe_str (pa_cons pe_str (pa_cons pe_str (pa_cons pe_str (pa_cons pe_str pa_nil)))))) pa_nil))))
      (pss_one (ps_ret (pe_op op_add_str (pv 3) (pe_call G_law_pick hr1 rfl g_law_pick F_law_pick.kp b_law_pick .nil pass0 (pa_cons (pv 0) (pa_cons (pe_lst (pa_cons pe_str (pa_cons pe_str (pa_cons pe_str (pa_cons (pe_op op_times pe_str pe_int) (pa_cons (pe_op op_add_str pe_str (pe_op op_times pe_str pe_int)) (pa_cons (pe_op op_times pe_str pe_int) (pa_cons pe_str (pa_cons pe_str pa_nil))))))))) pa_nil)))))))
      pss_nil)
      (pss_cons (ps_if (pt_cmpR op_eq (pv 2) pe_int (nomark _))
      (pss_one (ps_ret (pe_op op_add_str (pe_call G_law_pick hr1 rfl g_law_pick F_law_pick.kp b_law_pick .nil pass0 (pa_cons (pv 0) (pa_cons (pe_lst (pa_cons pe_str (pa_cons pe_str (pa_cons pe_str (pa_cons pe_str pa_nil))))) pa_nil))) (pe_op op_times pe_str (pe_call G_law_pick hr1 rfl g_law_pick F_law_pick.kp b_law_pick .nil pass0 (pa_cons (pv 0) (pa_cons (pe_lst (pa_cons pe_int (pa_cons pe_int (pa_cons pe_int (pa_cons pe_int (pa_cons pe_int pa_nil)))))) pa_nil)))))))
      pss_nil)
      (pss_cons (ps_set (i := 4) scLsomeword.nd rfl (Or.inl rfl) (pe_call G_law_pick hr1 rfl g_law_pick F_law_pick.kp b_law_pick .nil pass0 (pa_cons (pv 0) (pa_cons (pe_callTy (call_list_txt rfl) (by rfl) T.list (by decide +kernel) (pa_cons (pe_op op_add_str (pv 1) pe_str) pa_nil)) pa_nil))))
      (pss_cons (ps_for PassesOwn.never rfl (pi_range1 rfl T.range (pa_cons (pe_call G_law_draw hr1 rfl g_law_draw F_law_draw.kp b_law_draw .nil pass0 (pa_cons (pv 0) (pa_cons pe_int pa_nil))) pa_nil)) (pg_name (i := 5) scLsomeword.nd rfl (Or.inl rfl))
      (pss_one (ps_set (i := 4) scLsomeword.nd rfl (Or.inl rfl) (pe_op op_add_str (pv 4) (pe_call G_law_pick hr1 rfl g_law_pick F_law_pick.kp b_law_pick .nil pass0 (pa_cons (pv 0) (pa_cons (pe_callTy (call_list_txt rfl) (by rfl) T.list (by decide +kernel) (pa_cons (pe_op op_add_str (pe_op op_add_str (pv 1) (pv 1)) pe_str) pa_nil)) pa_nil)))))))
      (pss_one (ps_ret (pv 4)))))))))), ?_⟩
    refine ⟨rfl, fun d H1 s1 hd1 => ⟨d, .str sALL, rfl, dget hd1 sg_all, ?_⟩⟩
    have S1 : PS H p z.c H1 z := ⟨Z.same s1, Int.le_refl _, fun b o _ e => s1 b o e⟩
    clear hd1 s1
    refine ⟨.ref p, (by kernel_rfl), p, z, 6, rfl, S1.pen, by decide, by decide, by omega, fun way z2 _ _ g2 => ?_⟩
    have S2 := S1.draw g2
    generalize upd H1 p (.dK z2.kvs) = H2 at S2 ⊢
    clear S1 g2
    -- way 0
    refine ⟨.int way, (by kernel_rfl), rfl, _, rfl, ?_⟩
    refine ite2 (fun _ => ?_) (fun _ => ?_)
    · refine ⟨.ref p, (by kernel_rfl), by show 13 ≤ sizeLine; decide, fun q nq => ?_⟩
      have S3 := S2.new (o := .lst ((["kind", "fun", "let", "in", "kinds", "Kind", "i", "In", "_a", "A_", "-", "--1", "-A"] : List Str).map V.str)) nq
      refine ⟨p, q, z2, (["kind", "fun", "let", "in", "kinds", "Kind", "i", "In", "_a", "A_", "-", "--1", "-A"] : List Str).map V.str, rfl, S3.pen, upd_same, by decide, by decide, (by have := S3.c; omega), fun v z3 hv g3 => ?_⟩
      obtain ⟨s, rfl, ws⟩ := pick_str 500 (by decide +kernel) hv
      exact k s _ z3 ws ((S3.draw g3).le (by omega))
    -- way 1
    refine ⟨.int way, (by kernel_rfl), rfl, _, rfl, ?_⟩
    refine ite2 (fun _ => ?_) (fun _ => ?_)
    · refine ⟨.ref p, (by kernel_rfl), by show 5 ≤ sizeLine; decide, fun q nq => ?_⟩
      have S3 := S2.new (o := .lst ((["", "0", "-", "-0", "00"] : List Str).map V.str)) nq
      refine ⟨p, q, z2, (["", "0", "-", "-0", "00"] : List Str).map V.str, rfl, S3.pen, upd_same, by decide, by decide, (by have := S3.c; omega), fun v z3 hv g3 => ?_⟩
      obtain ⟨a, rfl, wa⟩ := pick_str 10 (by decide +kernel) hv
      have S4 := S3.draw g3
      replace S4 : PS H p (z.c + 1 + 1) (upd (upd H2 q (.lst [V.str "", V.str "0", V.str "-", V.str "-0", V.str "00"])) p (.dK z3.kvs)) z3 := S4
      generalize upd (upd H2 q (.lst [V.str "", V.str "0", V.str "-", V.str "-0", V.str "00"])) p (.dK z3.kvs) = H4 at S4 ⊢
      clear S3 g3 hv
      refine ⟨.str a, (by kernel_rfl), .ref p, (by kernel_rfl), ?_⟩
      refine ⟨_, _, rfl, rfl, by decide, by decide, by decide, ?_⟩
      refine ⟨_, _, rfl, rfl, by decide, by decide, by decide, _, _, rfl, rfl, (by decide +kernel), ?_⟩
      refine ⟨_, _, rfl, rfl, by decide, by decide, by decide, ?_⟩
      refine ⟨by show 8 ≤ sizeLine; decide, fun q nq => ?_⟩
      have S5 := S4.new (o := .lst ((["", "1", "90", timesS "7" 399, "1" ++ timesS "0" 399, timesS "8" 401, "1a", "1_0"] : List Str).map V.str)) nq
      refine ⟨p, q, z3, (["", "1", "90", timesS "7" 399, "1" ++ timesS "0" 399, timesS "8" 401, "1a", "1_0"] : List Str).map V.str, rfl, S5.pen, upd_same, by decide, by decide, (by have := S5.c; omega), fun v z4 hv g4 => ?_⟩
      obtain ⟨b, rfl, wb⟩ := pick_str 401 (by decide +kernel) hv
      have S6 := S5.draw g4
      refine ⟨a, b, rfl, rfl, sz_of (by have := wa.len; have := wb.len; omega), ?_⟩
      exact k _ _ z4 ((wa.app wb).mono (by decide)) (S6.le (by omega))
    -- way 2
    refine ⟨.int way, (by kernel_rfl), rfl, _, rfl, ?_⟩
    refine ite2 (fun _ => ?_) (fun _ => ?_)
    · refine ⟨.ref p, (by kernel_rfl), by show 4 ≤ sizeLine; decide, fun q nq => ?_⟩
      have S3 := S2.new (o := .lst ((["a", "Z", "9", "_"] : List Str).map V.str)) nq
      refine ⟨p, q, z2, (["a", "Z", "9", "_"] : List Str).map V.str, rfl, S3.pen, upd_same, by decide, by decide, (by have := S3.c; omega), fun v z3 hv g3 => ?_⟩
      obtain ⟨a, rfl, wa⟩ := pick_str 10 (by decide +kernel) hv
      have S4 := S3.draw g3
      replace S4 : PS H p (z.c + 1 + 1) (upd (upd H2 q (.lst [V.str "a", V.str "Z", V.str "9", V.str "_"])) p (.dK z3.kvs)) z3 := S4
      generalize upd (upd H2 q (.lst [V.str "a", V.str "Z", V.str "9", V.str "_"])) p (.dK z3.kvs) = H4 at S4 ⊢
      clear S3 g3 hv
      refine ⟨.ref p, (by kernel_rfl), by show 5 ≤ sizeLine; decide, fun q nq => ?_⟩
      have S5 := S4.new (o := .lst (([0, 1, 22, 23, 24] : List Int).map V.int)) nq
      refine ⟨p, q, z3, ([0, 1, 22, 23, 24] : List Int).map V.int, rfl, S5.pen, upd_same, by decide, by decide, (by have := S5.c; omega), fun v z4 hv g4 => ?_⟩
      obtain ⟨n, hn, rfl⟩ := List.mem_map.mp hv
      have S6 := S5.draw g4
      have wn : 0 ≤ n ∧ n ≤ 1000 ∧ Wok 30 (timesS "b" n) := by
        simp only [List.mem_cons, List.not_mem_nil, or_false] at hn
        rcases hn with rfl | rfl | rfl | rfl | rfl <;> exact ⟨by decide, by decide, by decide +kernel, by decide +kernel⟩
      refine ⟨_, n, rfl, rfl, wn.1, wn.2.1, by decide, ?_⟩
      refine ⟨a, _, rfl, rfl, sz_of (by have := wa.len; have := wn.2.2.len; omega), ?_⟩
      exact k _ _ z4 ((wa.app wn.2.2).mono (by decide)) (S6.le (by omega))
    -- other ways
    refine ⟨.ref p, (by kernel_rfl), .str sALL, (by kernel_rfl), _, _, rfl, rfl, (by decide +kernel), _, rfl, (by decide +kernel), fun q nq => ?_⟩
    have S3 := S2.new (o := .lst ((sALL ++ "<=*+|.,:'#$&@!?/{}[]~^" : Str).cps.toList.map fun c => V.str ⟨#[c]⟩)) nq
    refine ⟨p, q, z2, (sALL ++ "<=*+|.,:'#$&@!?/{}[]~^" : Str).cps.toList.map fun c => V.str ⟨#[c]⟩, rfl, S3.pen, upd_same, (by decide +kernel), (by decide +kernel), (by have := S3.c; omega), fun v z3 hv g3 => ?_⟩
    obtain ⟨a, rfl, wa⟩ := pick_sign (by decide +kernel) hv
    have S4 := S3.draw g3
    generalize upd (upd H2 q (.lst ((sALL ++ "<=*+|.,:'#$&@!?/{}[]~^" : Str).cps.toList.map fun c => V.str ⟨#[c]⟩))) p (.dK z3.kvs) = H4 at S4 ⊢
    clear S3 g3 hv
    refine ⟨.ref p, (by kernel_rfl), p, z3, 7, rfl, S4.pen, by decide, by decide, (by have := S4.c; omega), fun n z4 n0 n7 g4 => ?_⟩
    have S5 := S4.draw g4
    generalize upd H4 p (.dK z4.kvs) = H5 at S5 ⊢
    clear S4 g4
    refine ⟨n, rfl, by omega, by omega, ?_⟩
    refine for_range (fun i σ H' => ∃ (u : Str) (v : Option V) (z' : Pen), σ = [some (.ref p), some (.str sALL), some (.int way), none, some (.str u), v] ∧ Wok (1 + i) u ∧ PS H p (z.c + 1 + 1 + 1 + i) H' z') ⟨a, none, z4, rfl, wa, S5.le (by omega)⟩ ?_ ?_
    · rintro i σ H6 hi ⟨u, v, z5, rfl, wu, S6⟩
      refine ⟨.str u, (by kernel_rfl), .ref p, (by kernel_rfl), .str sALL, (by kernel_rfl), .str sALL, (by kernel_rfl), _, _, rfl, rfl, (by decide +kernel), _, _, rfl, rfl, (by decide +kernel), _, rfl, (by decide +kernel), fun q nq => ?_⟩
      have S7 := S6.new (o := .lst ((sALL ++ sALL ++ "<=*+|.-" : Str).cps.toList.map fun c => V.str ⟨#[c]⟩)) nq
      refine ⟨p, q, z5, (sALL ++ sALL ++ "<=*+|.-" : Str).cps.toList.map fun c => V.str ⟨#[c]⟩, rfl, S7.pen, upd_same, (by decide +kernel), (by decide +kernel), (by have := S7.c; omega), fun v z6 hv g6 => ?_⟩
      obtain ⟨b, rfl, wb⟩ := pick_sign (by decide +kernel) hv
      have S8 := S7.draw g6
      refine ⟨u, b, rfl, rfl, sz_of (by have := wu.len; have := wb.len; omega), ?_⟩
      exact ⟨_, _, z6, rfl, (wu.app wb).mono (by omega), S8.le (by omega)⟩
    · rintro σ H6 ⟨u, v, z5, rfl, wu, S6⟩
      refine ⟨.str u, (by kernel_rfl), ?_⟩
      exact k u _ z5 (wu.mono (by omega)) (S6.le (by omega))
end
end Nm
namespace Nm
open PySem PyProof.Rows L2
/-! ### the law of words -/
theorem dpAll_bls {K : PySem.W.Frag} {H : Hp} : ∀ xs : List Bool, DpAll K H (xs.map V.bl) (xs.map PyData.bool)
  | [] => .nil
  | x :: r => .cons (.bl x) (dpAll_bls r)
theorem canLay_bls : ∀ xs : List Bool, PyData.canLayAll0 (xs.map PyData.bool) = true ∧ PyData.depthAll (xs.map PyData.bool) = 0
  | [] => ⟨rfl, rfl⟩
  | x :: r => by
    obtain ⟨h1, h2⟩ := canLay_bls r
    exact ⟨by simp [PyData.canLayAll0, PyData.canLay0, h1], by simp [PyData.depthAll, PyData.depth, h2]⟩
theorem shaped_bls (xs : List Bool) : SeqAt.shaped (.list (xs.map PyData.bool)) = true := by
  obtain ⟨h1, h2⟩ := canLay_bls xs
  simp [SeqAt.shaped, PyData.canLay0, PyData.depth, h1, h2]
theorem eqv_shaped {d : PyData} (h : SeqAt.shaped d = true) : PyData.eqv d d = true := SeqAt.eqv_refl d (SeqAt.canLay_of_shaped h)
/-- a word with its place, as data -/
def dW (p : List Nat × Nat) : PyData := .tuple [.str ⟨p.1.toArray⟩, .int (p.2 : Int)]
theorem dp_WL {K : PySem.W.Frag} {H : Hp} : ∀ {ws : List (List Nat × Nat)} {xs : List V}, WL H ws xs → DpAll K H xs (ws.map dW)
  | _, _, .nil => .nil
  | _, _, .cons ⟨T, e, q⟩ t => by
    subst e
    exact .cons (.tup (SqT.of q) (.cons (.str _) (.cons (.int _) .nil))) (dp_WL t)
theorem canLay_dW : ∀ ws : List (List Nat × Nat), (∀ p ∈ ws, ∀ c ∈ p.1, c < 0x110000) → PyData.canLayAll0 (ws.map dW) = true ∧ PyData.depthAll (ws.map dW) ≤ 1
  | [], _ => ⟨rfl, by decide⟩
  | p :: r, h => by
    obtain ⟨h1, h2⟩ := canLay_dW r fun q m => h q (List.mem_cons_of_mem _ m)
    have h0 : PyData.strOk ⟨p.1.toArray⟩ = true := by
      show (p.1.toArray.all _) = true
      rw [List.all_toArray]
      exact List.all_eq_true.mpr fun c m => decide_eq_true (h p List.mem_cons_self c m)
    refine ⟨?_, ?_⟩
    · simp [PyData.canLayAll0, PyData.canLay0, dW, h0, h1]
    · simp [PyData.depthAll, PyData.depth, dW]
      omega
theorem shaped_dW {ws : List (List Nat × Nat)} (h : ∀ p ∈ ws, ∀ c ∈ p.1, c < 0x110000) : SeqAt.shaped (.list (ws.map dW)) = true := by
  obtain ⟨h1, h2⟩ := canLay_dW ws h
  have h3 : PyData.depthAll (ws.map dW) + 1 ≤ 64 := by omega
  simp [SeqAt.shaped, PyData.canLay0, PyData.depth, h1]
  omega
theorem flush_in (m : Nat) (k : Nat) (w : List Nat) (hw : ∀ c ∈ w, c < m) : ∀ p ∈ flush k w, ∀ c ∈ p.1, c < m := by
  intro p hp
  unfold flush at hp
  by_cases e : w = []
  · rw [if_pos e] at hp
    cases hp
  · rw [if_neg e] at hp
    obtain rfl := List.mem_singleton.mp hp
    exact hw
theorem scan_in (m : Nat) : ∀ (l : List Nat) (k : Nat) (w : List Nat), (∀ c ∈ l, c < m) → (∀ c ∈ w, c < m) → ∀ p ∈ scan l k w, ∀ c ∈ p.1, c < m
  | [], k, w, _, hw => flush_in m k w hw
  | a :: r, k, w, hl, hw => by
    have ha := hl a List.mem_cons_self
    have hr : ∀ c ∈ r, c < m := fun c h => hl c (List.mem_cons_of_mem _ h)
    have hn : ∀ c ∈ ([] : List Nat), c < m := fun c h => nomatch h
    unfold scan
    split
    · exact flush_in m k w hw
    split
    · intro p hp
      rcases List.mem_append.mp hp with h | h
      · exact flush_in m k w hw p h
      · exact scan_in m r (k + 1) [] hr hn p h
    split
    · intro p hp
      rcases List.mem_append.mp hp with h | h
      · exact flush_in m k w hw p h
      · rcases List.mem_cons.mp h with rfl | h
        · intro c hc
          obtain rfl := List.mem_singleton.mp hc
          exact ha
        · exact scan_in m r (k + 1) [] hr hn p h
    · refine scan_in m r (k + 1) (w ++ [a]) hr fun c hc => ?_
      rcases List.mem_append.mp hc with h | h
      · exact hw c h
      · obtain rfl := List.mem_singleton.mp h
        exact ha
theorem codes_ok {s : Str} (h : PyData.strOk s = true) : ∀ c ∈ codes s, c < 0x110000 := by
  intro c hc
  have h' : (s.cps.all (· < 0x110000)) = true := h
  rw [← Array.all_toList] at h'
  exact of_decide_eq_true (List.all_eq_true.mp h' c hc)
def odds : List Str := ["", "(", ")", "=", " ", "a b", "1 ", "A)", "-0", "00", "-", "fun", "_", timesS "1" 401, timesS "a" 25]
theorem odds_no : ∀ s ∈ odds, isBig s = false ∧ isSmall s = false ∧ isNum s = false ∧ s.length ≤ 500 := by
  have h : odds.all (fun s => !isBig s && (!isSmall s && (!isNum s && decide (s.length ≤ 500)))) = true := by decide +kernel
  intro s hs
  have q := List.all_eq_true.mp h s hs
  simp only [Bool.and_eq_true, Bool.not_eq_true', decide_eq_true_eq] at q
  exact ⟨q.1, q.2.1, q.2.2.1, q.2.2.2⟩
def ends : List Str := [" ", "", "(", ")", "  ", " ( ", ") ", " ; ", ";"]
theorem ends_cut (b : Bool) : ∃ l : List Str, cutV (ends.map V.str) none (some (7 + 2 * (if b = true then 1 else 0))) = l.map V.str ∧ 0 < l.length ∧ l.length < 1073741824 ∧ l.all (fun s => decide (s.length ≤ 5) && PyData.strOk s) = true := by
  cases b
  · exact ⟨ends.take 7, by kernel_rfl, by decide, by decide, by decide +kernel⟩
  · exact ⟨ends, by kernel_rfl, by decide, by decide, by decide +kernel⟩
theorem PS.step {H0 H H' : Hp} {p : Addr} {n m : Int} {z z' : Pen} (h : PS H0 p n H z) (k : PS H p m H' z') : PS H0 p m H' z' := ⟨k.pen, k.c, fun b o nb e => k.keep b o nb (h.keep b o nb e)⟩
theorem kind_none : isBig "" = decide (("" : Str) = "big") ∧ isSmall "" = decide (("" : Str) = "small") ∧ isNum "" = decide (("" : Str) = "number") := by decide +kernel
section
variable {P : Program} {w : World} {K : PySem.W.Frag} {mg : Str → Option Value} {aK : Addr} {f0 f1 f2 f3 f4 f5 fP fD fQ fS fW fT fM fA fa : Addr} {fd0 fd1 fd2 fd3 fd4 fd5 fdP fdD fdQ fdS fdW fdT fdM fdA : FuncData}

abbrev slaw : Stmt := top 24
abbrev Nlaw : List Str := ["_law_script", "_law_pen_here", "_law_line", "_law_lap", "_law_word", "_law_due", "_law_told", "_law_odd"]
abbrev Plaw : List Str := ["_law_script"]
theorem sclaw : FnScope Nlaw Plaw (defScope slaw) := ⟨rfl, rfl, rfl, by decide +kernel, rfl, by decide +kernel, by decide +kernel⟩

theorem rd_law (T : WTxt K mg aK) (PT : PenTxt mg) (kt : PySem.W.kitOne K (.type "tuple") (.type "tuple") = some true)
    (F_all_among : Fun K "all_among" "all_among" sallamong f0 fd0) (b_all_among : Binds K fd0 Pallamong []) (g_all_among : mg "all_among" = some (.ref f0))
    (F_is_name : Fun K "is_name" "is_name" sisname f1 fd1) (b_is_name : Binds K fd1 Pisname []) (g_is_name : mg "is_name" = some (.ref f1))
    (F_is_big : Fun K "is_big" "is_big" sisbig f2 fd2) (b_is_big : Binds K fd2 Pisbig []) (g_is_big : mg "is_big" = some (.ref f2))
    (F_is_small : Fun K "is_small" "is_small" sissmall f3 fd3) (b_is_small : Binds K fd3 Pissmall []) (g_is_small : mg "is_small" = some (.ref f3))
    (F_is_number : NumFun K mg f4 fd4) (b_is_number : Binds K fd4 Pisnumber []) (g_is_number : mg "is_number" = some (.ref f4))
    (F_words_of : Fun K "words_of" "words_of" swordsof f5 fd5) (b_words_of : Binds K fd5 Pwordsof []) (g_words_of : mg "words_of" = some (.ref f5))
    (F_law_pen : Fun K "_law_pen" "_law_pen" sPen fP fdP) (b_law_pen : Binds K fdP ["_law_script"] []) (g_law_pen : mg "_law_pen" = some (.ref fP))
    (F_law_draw : Fun K "_law_draw" "_law_draw" sDraw fD fdD) (b_law_draw : Binds K fdD ["_law_pen_here", "_law_many"] []) (g_law_draw : mg "_law_draw" = some (.ref fD))
    (F_law_pick : Fun K "_law_pick" "_law_pick" sPick fQ fdQ) (b_law_pick : Binds K fdQ ["_law_pen_here", "_law_some"] []) (g_law_pick : mg "_law_pick" = some (.ref fQ))
    (F_law_signs : Fun K "_law_signs" "_law_signs" sLsigns fS fdS) (b_law_signs : Binds K fdS PLsigns []) (g_law_signs : mg "_law_signs" = some (.ref fS))
    (F_law_words : Fun K "_law_words" "_law_words" sLwords fW fdW) (b_law_words : Binds K fdW PLwords []) (g_law_words : mg "_law_words" = some (.ref fW))
    (F_law_word_kind : Fun K "_law_word_kind" "_law_word_kind" sLwordkind fT fdT) (b_law_word_kind : Binds K fdT PLwordkind []) (g_law_word_kind : mg "_law_word_kind" = some (.ref fT))
    (F_law_some_word : Fun K "_law_some_word" "_law_some_word" sLsomeword fM fdM) (b_law_some_word : Binds K fdM PLsomeword []) (g_law_some_word : mg "_law_some_word" = some (.ref fM))
    (F_law_asked : Fun K "_law_asked" "_law_asked" sLasked fA fdA) (b_law_asked : Binds K fdA PLasked []) (g_law_asked : mg "_law_asked" = some (.ref fA))
    (base : Heap) (cdv : Value) (s : Shared) (H : Hp) (a : Addr) (ns : List Int) (hlen : ns.length ≤ 63) (hS : SqL K H a (ns.map V.int)) :
    ∃ t, PSs (cxOf CX0 P w K mg base Nlaw "law" (defScope slaw) fa cdv callerA [] s H E0).nox (defBody slaw) t ∧ t { nx := fun _ _ => False, rt := fun v _ => v = .bl true } (start Nlaw [.ref a]) H := by
  have hr : Room 4 (callerA.deeper (envOfC "law" (defScope slaw) s.heap.objs.size fa cdv)) := Room.deeper ⟨rfl, by decide, by decide⟩ _
  have hr1 := hr
  have G_law_pen : FnOk P w K mg base CX0 4 fP fdP ["_law_script"] (spPen K) := (ok_pen F_law_pen PT).mono (by decide)
  have G_law_pick : FnOk P w K mg base CX0 4 fQ fdQ ["_law_pen_here", "_law_some"] (spPick K) := (ok_pick F_law_pick PT F_law_draw b_law_draw g_law_draw).mono (by decide)
  have G_law_some_word : FnOk P w K mg base CX0 4 fM fdM PLsomeword spSome := (ok_some F_law_some_word T PT F_law_draw b_law_draw g_law_draw F_law_pick b_law_pick g_law_pick F_law_signs b_law_signs g_law_signs).mono (by decide)
  have G_law_word_kind : FnOk P w K mg base CX0 4 fT fdT PLwordkind spKind := (ok_kind F_law_word_kind T F_law_signs b_law_signs g_law_signs).mono (by decide)
  have G_law_asked : FnOk P w K mg base CX0 4 fA fdA PLasked spAsked := ok_asked F_law_asked T F_is_big b_is_big g_is_big F_is_small b_is_small g_is_small F_is_number b_is_number g_is_number F_is_name b_is_name g_is_name F_all_among b_all_among g_all_among
  have G_words_of : FnOk P w K mg base CX0 4 f5 fd5 Pwordsof spWords := (ok_words_of F_words_of T).mono (by decide)
  have G_law_words : FnOk P w K mg base CX0 4 fW fdW PLwords spLWords := (ok_lwords F_law_words T).mono (by decide)
  refine ⟨_, (pss_cons (ps_set (i := 1) sclaw.nd rfl (Or.inl rfl) (pe_call G_law_pen hr1 rfl g_law_pen F_law_pen.kp b_law_pen .nil pass0 (pa_cons (pv 0) pa_nil)))
      (pss_cons (ps_set (i := 2) sclaw.nd rfl (Or.inl rfl) pe_str)
      (pss_cons (ps_for PassesOwn.never rfl (pi_range1 rfl T.range (pa_cons pe_int pa_nil)) (pg_name (i := 3) sclaw.nd rfl (Or.inl rfl))
      (pss_cons (ps_set (i := 4) sclaw.nd rfl (Or.inl rfl) (pe_call G_law_some_word hr1 rfl g_law_some_word F_law_some_word.kp b_law_some_word .nil pass0 (pa_cons (pv 1) pa_nil)))
      (pss_cons (ps_set (i := 5) sclaw.nd rfl (Or.inl rfl) (pe_ifExp (pt_cmpR op_eq (pv 4) pe_str (nomark _)) pe_str (pe_call G_law_word_kind hr1 rfl g_law_word_kind F_law_word_kind.kp b_law_word_kind .nil pass0 (pa_cons (pv 4) pa_nil))))
      (pss_cons (ps_if (pt_cmpR (op_neD hr.units) (pe_call G_law_asked hr1 rfl g_law_asked F_law_asked.kp b_law_asked .nil pass0 (pa_cons (pv 4) pa_nil)) (pe_lst (pa_cons (pe_cmpR op_eq (pv 5) pe_str (nomark _)) (pa_cons (pe_cmpR op_eq (pv 5) pe_str (nomark _)) (pa_cons (pe_cmpR op_eq (pv 5) pe_str (nomark _)) pa_nil)))) (nomark _))
      (pss_one (ps_ret pe_bl))
      pss_nil)
      (pss_one (ps_set (i := 2) sclaw.nd rfl (Or.inl rfl) (pe_op op_add_str (pe_op op_add_str (pv 2) (pv 4)) (pe_call G_law_pick hr1 rfl g_law_pick F_law_pick.kp b_law_pick .nil pass0 (pa_cons (pv 1) (pa_cons (pe_slice sl_list (pe_lst (pa_cons pe_str (pa_cons pe_str (pa_cons pe_str (pa_cons pe_str (pa_cons pe_str (pa_cons pe_str (pa_cons pe_str (pa_cons pe_str (pa_cons pe_str pa_nil)))))))))) po_none (po_some (pe_op op_add pe_int (pe_op op_mul pe_int (pe_callTy call_int1 (by rfl) T.int (by decide +kernel) (pa_cons (pe_cmpR op_gt (pv 3) pe_int (nomark _)) pa_nil)))))) pa_nil))))))))))
      (pss_cons (ps_set (i := 6) sclaw.nd rfl (Or.inl rfl) (pe_call G_words_of hr1 rfl g_words_of F_words_of.kp b_words_of .nil pass0 (pa_cons (pv 2) pa_nil)))
      (pss_cons (ps_if (PW.pt (pw_or (pt_not (pt_val (pe_callB call_isi (by rfl) T.isinstance (by decide +kernel) (pa_cons (pv 6) (pa_cons (pe_bltn (v := .ty "tuple") (by rfl) T.tuple (by decide +kernel) rfl) pa_nil))))) (pw_or1 (pt_cmpR (op_neD hr.units) (pe_callTy call_list_of (by rfl) T.list (by decide +kernel) (pa_cons (pv 6) pa_nil)) (pe_call G_law_words hr1 rfl g_law_words F_law_words.kp b_law_words .nil pass0 (pa_cons (pv 2) pa_nil)) (nomark _)))))
      (pss_one (ps_ret pe_bl))
      pss_nil)
      (pss_cons (ps_for PassesOwn.never rfl (pi_list (pe_lst (pa_cons pe_str (pa_cons pe_str (pa_cons pe_str (pa_cons pe_str (pa_cons pe_str (pa_cons pe_str (pa_cons pe_str (pa_cons pe_str (pa_cons pe_str (pa_cons pe_str (pa_cons pe_str (pa_cons pe_str (pa_cons pe_str (pa_cons (pe_op op_times pe_str pe_int) (pa_cons (pe_op op_times pe_str pe_int) pa_nil))))))))))))))))) (pg_name (i := 7) sclaw.nd rfl (Or.inl rfl))
      (pss_one (ps_if (pt_cmpR (op_neD hr.units) (pe_call G_law_asked hr1 rfl g_law_asked F_law_asked.kp b_law_asked .nil pass0 (pa_cons (pv 7) pa_nil)) (pe_lst (pa_cons pe_bl (pa_cons pe_bl (pa_cons pe_bl pa_nil)))) (nomark _))
      (pss_one (ps_ret pe_bl))
      pss_nil)))
      (pss_one (ps_ret (pe_and (pe_cmpR (op_eqD hr.units) (pe_call G_words_of hr1 rfl g_words_of F_words_of.kp b_words_of .nil pass0 (pa_cons pe_str pa_nil)) (pe_tup pa_nil) (nomark _)) (pe_and (pe_cmpR (op_eqD hr.units) (pe_call G_words_of hr1 rfl g_words_of F_words_of.kp b_words_of .nil pass0 (pa_cons pe_str pa_nil)) (pe_tup pa_nil) (nomark _)) (pe_one (pe_cmpR (op_eqD hr.units) (pe_call G_words_of hr1 rfl g_words_of F_words_of.kp b_words_of .nil pass0 (pa_cons pe_str pa_nil)) (pe_tup (pa_cons (pe_tup (pa_cons pe_str (pa_cons pe_int pa_nil))) (pa_cons (pe_tup (pa_cons pe_str (pa_cons pe_int pa_nil))) pa_nil))) (nomark _))))))))))))), ?_⟩
  -- the pen
  refine ⟨.ref a, (by kernel_rfl), a, ns, rfl, hS, hlen, fun p z H1 s1 pn zc Z => ?_⟩
  have S1 : PS H1 p 0 H1 z := ⟨Z, by omega, fun b o _ e => e⟩
  clear s1 pn zc Z hS
  generalize eH0 : H1 = H0 at S1
  rw [← eH0]
  rw [← eH0] at S1
  clear eH0 H0
  -- twelve laps
  refine ⟨12, rfl, by decide, by decide, ?_⟩
  refine for_range (fun i σ H' => ∃ (u : Str) (v3 v4 v5 : Option V) (z' : Pen), σ = [some (.ref a), some (.ref p), some (.str u), v3, v4, v5, none, none] ∧ Wok (510 * i) u ∧ PS H1 p (22 * i) H' z') ⟨"", none, none, none, z, rfl, ⟨by decide, by decide +kernel⟩, S1.le (by omega)⟩ ?_ ?_
  · rintro i σ H2 hi ⟨u, v3, v4, v5, z2, rfl, wu, S2⟩
    have lu := wu.len
    have hi12 : i < 12 := hi
    refine ⟨.ref p, (by kernel_rfl), p, z2, rfl, S2.pen, (by have := S2.c; omega), fun wd H3 z3 ww S3' => ?_⟩
    have S3 : PS H1 p (22 * i + 20) H3 z3 := (S2.step S3').le (by have := S2.c; omega)
    clear S3' S2
    have lw := ww.len
    refine ⟨.str wd, (by kernel_rfl), rfl, _, rfl, ?_⟩
    rw [dec_str]
    by_cases e0 : wd = ""
    · refine ite_yes (decide_eq_true e0) ?_
      have fb : isBig wd = decide (("" : Str) = "big") := by rw [e0]; exact kind_none.1
      have fs : isSmall wd = decide (("" : Str) = "small") := by rw [e0]; exact kind_none.2.1
      have fn : isNum wd = decide (("" : Str) = "number") := by rw [e0]; exact kind_none.2.2
      -- what is asked
      refine ⟨.str wd, (by kernel_rfl), wd, rfl, (by omega), fun qa H5 s5 hqa => ?_⟩
      refine ⟨.str "", (by kernel_rfl), rfl, .str "", (by kernel_rfl), rfl, .str "", (by kernel_rfl), rfl, ?_⟩
      rw [dec_str, dec_str, dec_str, ← fb, ← fs, ← fn]
      refine ⟨by show 3 ≤ sizeLine; decide, fun qb nqb => ?_⟩
      have S5 := (S3.same s5).new (o := .lst [.bl (isBig wd), .bl (isSmall wd), .bl (isNum wd)]) nqb
      refine ⟨_, _, .lst (SqL.of (same_new nqb _ _ hqa)) (dpAll_bls [isBig wd, isSmall wd, isNum wd]), .lst (SqL.of upd_same) (dpAll_bls [isBig wd, isSmall wd, isNum wd]), shaped_bls _, shaped_bls _, _, rfl, ?_⟩
      refine ite_no (by rw [eqv_shaped (shaped_bls _)]; rfl) ?_
      generalize upd H5 qb (.lst [.bl (isBig wd), .bl (isSmall wd), .bl (isNum wd)]) = H6 at S5 ⊢
      clear s5 hqa nqb
      refine ⟨.str u, (by kernel_rfl), .str wd, (by kernel_rfl), u, wd, rfl, rfl, sz_of (by omega), ?_⟩
      refine ⟨.ref p, (by kernel_rfl), by show 9 ≤ sizeLine; decide, fun q nq => ?_⟩
      have S6 := S5.new (o := .lst (ends.map V.str)) nq
      refine ⟨.int (0 + (i : Int)), (by kernel_rfl), _, _, rfl, rfl, .inr ⟨_, rfl, ?_⟩⟩
      refine ⟨_, _, rfl, rfl, .inl ⟨by decide, by decide⟩, _, _, rfl, rfl, _, rfl, q, ends.map V.str, rfl, SqL.of upd_same, fun q2 nq2 => ?_⟩
      obtain ⟨l, el, l0, l1, la⟩ := ends_cut (decide (0 + (i : Int) > 6))
      have S7 := S6.new (o := .lst (l.map V.str)) nq2
      rw [el]
      refine ⟨p, q2, z3, l.map V.str, rfl, S7.pen, upd_same, (by rw [List.length_map]; exact l0), (by rw [List.length_map]; exact l1), (by have := S7.c; omega), fun v z4 hv g4 => ?_⟩
      obtain ⟨e, rfl, we⟩ := pick_str 5 la hv
      have le := we.len
      refine ⟨u ++ wd, e, rfl, rfl, sz_of (by rw [len_app]; omega), ?_⟩
      exact ⟨_, _, _, _, z4, rfl, ((wu.app ww).app we).mono (by omega), (S7.draw g4).le (by omega)⟩
    · refine ite_no (decide_eq_false e0) ?_
      refine ⟨.str wd, (by kernel_rfl), wd, rfl, e0, (by omega), fun H4 s4 => ?_⟩
      obtain ⟨fb, fs, fn⟩ := asked_eq e0
      have S4 := S3.same s4
      generalize lawKind wd = D at fb fs fn ⊢
      -- what is asked
      refine ⟨.str wd, (by kernel_rfl), wd, rfl, (by omega), fun qa H5 s5 hqa => ?_⟩
      refine ⟨.str D, (by kernel_rfl), rfl, .str D, (by kernel_rfl), rfl, .str D, (by kernel_rfl), rfl, ?_⟩
      rw [dec_str, dec_str, dec_str, ← fb, ← fs, ← fn]
      refine ⟨by show 3 ≤ sizeLine; decide, fun qb nqb => ?_⟩
      have S5 := (S4.same s5).new (o := .lst [.bl (isBig wd), .bl (isSmall wd), .bl (isNum wd)]) nqb
      refine ⟨_, _, .lst (SqL.of (same_new nqb _ _ hqa)) (dpAll_bls [isBig wd, isSmall wd, isNum wd]), .lst (SqL.of upd_same) (dpAll_bls [isBig wd, isSmall wd, isNum wd]), shaped_bls _, shaped_bls _, _, rfl, ?_⟩
      refine ite_no (by rw [eqv_shaped (shaped_bls _)]; rfl) ?_
      generalize upd H5 qb (.lst [.bl (isBig wd), .bl (isSmall wd), .bl (isNum wd)]) = H6 at S5 ⊢
      clear s5 hqa nqb
      refine ⟨.str u, (by kernel_rfl), .str wd, (by kernel_rfl), u, wd, rfl, rfl, sz_of (by omega), ?_⟩
      refine ⟨.ref p, (by kernel_rfl), by show 9 ≤ sizeLine; decide, fun q nq => ?_⟩
      have S6 := S5.new (o := .lst (ends.map V.str)) nq
      refine ⟨.int (0 + (i : Int)), (by kernel_rfl), _, _, rfl, rfl, .inr ⟨_, rfl, ?_⟩⟩
      refine ⟨_, _, rfl, rfl, .inl ⟨by decide, by decide⟩, _, _, rfl, rfl, _, rfl, q, ends.map V.str, rfl, SqL.of upd_same, fun q2 nq2 => ?_⟩
      obtain ⟨l, el, l0, l1, la⟩ := ends_cut (decide (0 + (i : Int) > 6))
      have S7 := S6.new (o := .lst (l.map V.str)) nq2
      rw [el]
      refine ⟨p, q2, z3, l.map V.str, rfl, S7.pen, upd_same, (by rw [List.length_map]; exact l0), (by rw [List.length_map]; exact l1), (by have := S7.c; omega), fun v z4 hv g4 => ?_⟩
      obtain ⟨e, rfl, we⟩ := pick_str 5 la hv
      have le := we.len
      refine ⟨u ++ wd, e, rfl, rfl, sz_of (by rw [len_app]; omega), ?_⟩
      exact ⟨_, _, _, _, z4, rfl, ((wu.app ww).app we).mono (by omega), (S7.draw g4).le (by omega)⟩
  · rintro σ H2 ⟨u, v3, v4, v5, z2, rfl, wu, S2⟩
    have lu := wu.len
    clear S2 z2
    -- the words of the line
    refine ⟨.str u, (by kernel_rfl), u, rfl, (by omega), fun pt H3 xs s3 hpt wl => ?_⟩
    refine ⟨.ref pt, (by kernel_rfl), ?_⟩
    refine ⟨_, _, _, _, true, rfl, .ty "tuple", .base (.tup hpt), kt, _, rfl, ?_⟩
    refine ite_no rfl ?_
    refine ⟨.ref pt, (by kernel_rfl), pt, xs, rfl, .inr (SqT.of hpt), fun l nl => ?_⟩
    have s4 := same_new (o := .lst xs) nl
    refine ⟨.str u, (by kernel_rfl), u, rfl, (by omega), fun pw H5 ys s5 hpw wl2 => ?_⟩
    have sh := shaped_dW (scan_in 0x110000 (codes u) 0 [] (codes_ok wu.ok) (fun c h => nomatch h))
    refine ⟨_, _, .lst (SqL.of (s5 _ _ upd_same)) (dp_WL (wl.same (s4.trans s5))), .lst (SqL.of hpw) (dp_WL wl2), sh, sh, _, rfl, ?_⟩
    refine ite_no (by rw [eqv_shaped sh]; rfl) ?_
    clear s4 s5 hpw wl2 wl sh nl hpt s3
    -- odd words
    refine ⟨_, _, rfl, rfl, by decide, by decide, by decide, _, _, rfl, rfl, by decide, by decide, by decide, ?_⟩
    refine ⟨by show 15 ≤ sizeLine; decide, fun qo nqo => ?_⟩
    have ho := upd_same (H := H5) (a := qo) (o := .lst (odds.map V.str))
    refine ⟨qo, rfl, ⟨_, SqL.of ho⟩, ?_⟩
    refine for_list (K := K) (a := qo) (xs := odds.map V.str) (fun i σ H' => (∃ v7, σ = [some (.ref a), some (.ref p), some (.str u), v3, v4, v5, some (.ref pt), v7]) ∧ H' qo = some (.lst (odds.map V.str))) ⟨⟨_, rfl⟩, ho⟩ (fun i σ H' _ q => SqL.of q.2) ?_ ?_
    · rintro i x σ H6 hi ⟨⟨v7, rfl⟩, h6⟩
      obtain ⟨o, hom, rfl⟩ := List.mem_map.mp (List.mem_of_getElem? hi)
      obtain ⟨b1, b2, b3, ol⟩ := odds_no o hom
      refine ⟨.str o, (by kernel_rfl), o, rfl, (by omega), fun qa H7 s7 hqa => ?_⟩
      rw [b1, b2, b3] at hqa
      refine ⟨by show 3 ≤ sizeLine; decide, fun qb nqb => ?_⟩
      refine ⟨_, _, .lst (SqL.of (same_new nqb _ _ hqa)) (dpAll_bls [false, false, false]), .lst (SqL.of upd_same) (dpAll_bls [false, false, false]), shaped_bls _, shaped_bls _, _, rfl, ?_⟩
      refine ite_no (by rw [eqv_shaped (shaped_bls _)]; rfl) ?_
      exact ⟨⟨_, rfl⟩, (s7.trans (same_new nqb)) _ _ h6⟩
    · rintro σ H6 ⟨⟨v7, rfl⟩, _⟩
      refine ⟨_, rfl, by decide, fun p1 H7 x1 s1 h1 w1 => ?_⟩
      refine ⟨by show 0 ≤ sizeLine; decide, fun t1 n1 => ?_⟩
      refine ⟨.tuple ((scan (codes "") 0 []).map dW), .tuple [], .tup (SqT.of (same_new n1 _ _ h1)) (dp_WL (w1.same (same_new n1))), .tup (SqT.of upd_same) .nil, by decide +kernel, by decide +kernel, _, rfl, ?_⟩
      refine ite_yes (by decide +kernel) ?_
      refine ⟨_, rfl, by decide, fun p2 H8 x2 s2 h2 w2 => ?_⟩
      refine ⟨by show 0 ≤ sizeLine; decide, fun t2 n2 => ?_⟩
      refine ⟨.tuple ((scan (codes "  ; a") 0 []).map dW), .tuple [], .tup (SqT.of (same_new n2 _ _ h2)) (dp_WL (w2.same (same_new n2))), .tup (SqT.of upd_same) .nil, by decide +kernel, by decide +kernel, _, rfl, ?_⟩
      refine ite_yes (by decide +kernel) ?_
      refine ⟨_, rfl, by decide, fun p3 H9 x3 s3 h3 w3 => ?_⟩
      refine ⟨by show 2 ≤ sizeLine; decide, fun ta na => ?_⟩
      refine ⟨by show 2 ≤ sizeLine; decide, fun tb nb => ?_⟩
      refine ⟨by show 2 ≤ sizeLine; decide, fun tc nc => ?_⟩
      have sa := same_new (o := .tup [.str ")", .int 1]) na
      have sb := same_new (o := .tup [.str ")", .int 2]) nb
      have sc := same_new (o := .tup [.ref ta, .ref tb]) nc
      refine ⟨.tuple ((scan (codes "))") 0 []).map dW), .tuple [.tuple [.str ")", .int 1], .tuple [.str ")", .int 2]], .tup (SqT.of (((sa.trans sb).trans sc) _ _ h3)) (dp_WL (w3.same ((sa.trans sb).trans sc))), .tup (SqT.of upd_same) (.cons (.tup (SqT.of ((sb.trans sc) _ _ upd_same)) (.cons (.str _) (.cons (.int _) .nil))) (.cons (.tup (SqT.of (sc _ _ upd_same)) (.cons (.str _) (.cons (.int _) .nil))) .nil)), by decide +kernel, by decide +kernel, ?_⟩
      rw [show PyData.eqv _ _ = true from by decide +kernel]
end
end Nm
namespace Nm
open PySem PySem.Spec PyProof.Rows L2
/-! ### the end, where the law's own body asks what guards run: none, at the caller -/
theorem entry {P : Program} {w : World} {K : PySem.W.Frag} {h : Heap} {a : Addr} {vs : List Value} {ns : List Int} (KX : K.In h) (ha : h.get? a = some { cls := .type "list", data := .seq vs.toArray }) (hi : IntsAre vs ns) (hl : ns.length ≤ sizeLine) :
    ∃ H : Hp, SqL K H a (ns.map V.int) ∧ HOk P w H h ∧ ∀ b u, H b = some u → b = a ∧ K.lookup a = none ∧ u = .frz { cls := .type "list", data := .seq vs.toArray } (.lst (ns.map V.int)) := by
  have rv := vals_ints hi
  have lenV := hi.length
  cases hk : K.lookup a with
  | some o =>
    have e := (KX a o hk).symm.trans ha
    cases e
    exact ⟨fun _ => none, .inr ⟨_, vs.toArray, _, hk, rfl, rfl, rfl, by rw [List.size_toArray, lenV]; exact hl, by simpa using rv⟩, (fun b u z => nomatch (show (none : Option HO) = some u from z)), fun b u z => nomatch (show (none : Option HO) = some u from z)⟩
  | none =>
    let o : Obj := { cls := .type "list", data := .seq vs.toArray }
    have at_ : ∀ b u, (if b = a then some (HO.frz o (.lst (ns.map V.int))) else none) = some u → b = a ∧ u = .frz o (.lst (ns.map V.int)) := fun b u z => by
      by_cases q : b = a
      · rw [if_pos q] at z
        exact ⟨q, (Option.some.inj z).symm⟩
      · rw [if_neg q] at z
        cases z
    refine ⟨fun b => if b = a then some (.frz o (.lst (ns.map V.int))) else none, .inl (.inr ⟨o, if_pos rfl⟩), fun b u z => ?_, fun b u z => ⟨(at_ b u z).1, rfl, (at_ b u z).2⟩⟩
    obtain ⟨rfl, rfl⟩ := at_ b u z
    exact ⟨ha, by rw [List.length_map]; exact hl, vs, _, rv, ha⟩
/-- a law's body, at the caller, from its term of rules and its reading -/
theorem walk_g {l : PySem.W.OpenLaw} {k : Nat} {q : Program} {loose : List Str} {XP : (Str → Option Value) → Heap → Prop} {YP : World → Heap → Prop} {d : DefRec} {K : Params → PySem.W.Frag} {x : Str} {N : List Str} {st : Stmt} {qual : Str}
    (hn : l.most = some 63) (hdf : d.params.defaults = []) (hr : Room (k + 1) callerA) (S : FnScope N [x] (defScope st)) (hY : ∀ (w : World) (h : Heap), YP w h → (K w.params).In h)
    (F : ∀ (w : World) (mg : Str → Option Value) (fa : Addr) (h : Heap), (K w.params).In h → h.Ns mainGlobals mg → mg d.name = some (.ref fa) →
      ∃ fd : FuncData, Fun (K w.params) qual qual st fa fd ∧ (∀ (s : Shared) (u : Value), BindsTo s fd ⟨[u], []⟩ [(x, u)]) ∧
        ∀ (base : Heap) (cdv : Value) (s : Shared) (H : Hp) (a : Addr) (ns : List Int), (K w.params).In base → base.Ns mainGlobals mg → ns.length ≤ 63 → SqL (K w.params) H a (ns.map V.int) →
          ∃ t, PSs (cxOf CX0 l.prog w (K w.params) mg base N qual (defScope st) fa cdv callerA [] s H E0).nox (defBody st) t ∧ t { nx := fun _ _ => False, rt := fun v _ => v = .bl true } (start N [.ref a]) H) :
    PySem.W.WalkO q loose XP YP l.row.toRowW d [] (fun f vs => PySem.call f vs) := by
  refine Att.attach_call hn hdf ?_
  intro w s₀ s₁ mg mb fa o pm cd doc a vs ns G Y ho hd hcd hmg hobj hints hlen hg
  have KX := hY w _ Y
  obtain ⟨fd, FF, hb, body⟩ := F w mg fa _ KX G.T.g hmg
  obtain ⟨H, hS, hok, only⟩ := entry (P := l.prog) (w := w) KX hobj hints (Nat.le_trans hlen (by decide))
  -- what the base keeps: all but the script
  have keepB : ∀ b o, s₁.heap.get? b = some o → (b = a → (K w.params).lookup a = none → False) → (hidT s₁.heap H).get? b = some o := fun b o e n => hidT_get e (by
    cases z : H b with
    | none => rfl
    | some u => exact (n (only b u z).1 (only b u z).2.1).elim)
  have KB : (K w.params).In (hidT s₁.heap H) := fun b o e => keepB b o (KX b o e) fun q z => by
    rw [q, z] at e
    cases e
  have nsB : ∀ {b : Addr} {m : Str → Option Value}, s₁.heap.Ns b m → (hidT s₁.heap H).Ns b m := fun {b m} n => by
    obtain ⟨o, es, ep, e, hdat, r⟩ := n
    refine ⟨o, es, ep, keepB b o e fun q _ => ?_, hdat, r⟩
    rw [q, hobj] at e
    cases e
    cases hdat
  have limB : (hidT s₁.heap H).NoLimit := by
    obtain ⟨mc, h1, h2⟩ := G.T.nolimit
    exact ⟨mc, nsB h1, h2⟩
  have e0 : Env0 l.prog w (K w.params) mg (hidT s₁.heap H) callerA [] s₁ H :=
    { frames := rfl, mod := ⟨KB, nsB G.T.g, ⟨mb, nsB G.T.b, G.T.builtins⟩, limB⟩, bs := fun b o e => of_hidT e, bsz := Nat.le_of_eq (hidT_size _ _), funs := trivial, frf := (fun b z => by cases z), hok := hok, bare := .of_eq hg }
  obtain ⟨oc, od, kV, dc, pmv, an, cdv, ct, osl, rfl, lk, hcode⟩ := FF.ex
  have hpar : (defScope st).names.lookup x = some .local ∨ (defScope st).names.lookup x = some .cell := S.par x (List.mem_singleton.mpr rfl)
  refine Att.call_fn KX G.T.nolimit lk hcode hr.depth (hb s₁ (.ref a)) ?_ (fun s2 ic => ?_) S.co S.gen S.kind
  · rcases hpar with z | z <;> simp [z]
  obtain ⟨t, ht, hq⟩ := body _ cdv s₁ H a ns KB (nsB G.T.g) hlen hS
  have I : Inv (cxOf CX0 l.prog w (K w.params) mg (hidT s₁.heap H) N qual (defScope st) fa cdv callerA [] s₁ H E0) [] (start N [.ref a]) H s2 := inv_start S hr.hd e0 rfl (.cons rfl .nil) ic
  have old : ∀ (s' : Shared) (σ' : L2.St) (H' : Hp), Inv (cxOf CX0 l.prog w (K w.params) mg (hidT s₁.heap H) N qual (defScope st) fa cdv callerA [] s₁ H E0) [] σ' H' s' → OldK s₁.heap s'.heap := fun s' σ' H' J => by
    refine OldK.of_keep fun b o e => ?_
    cases z : H b with
    | none => exact J.base.keep b o e z (by intro y; cases y) (by intro y; cases y)
    | some u =>
      obtain ⟨_, _, rfl⟩ := only b u z
      have p1 := (hok b _ z).1
      have p2 := (J.hok b _ (J.base.frzs b _ _ z)).1
      rw [e] at p1
      cases p1
      exact p2
  refine wpAny_mono (ht.nox.run [] s2 _ H _ I hq) ?_ ?_
  · intro fl s' hs
    cases fl with
    | ret u =>
      obtain ⟨v, σ', H', J, rv, q⟩ := hs
      have q' : v = V.bl true := q
      subst q'
      have ru : u = Value.bool true := rv
      subst ru
      exact ⟨rfl, old _ _ _ J, J.os, J.bare⟩
    | next =>
      obtain ⟨_, _, _, q⟩ := hs
      exact False.elim q
    | brk =>
      obtain ⟨_, _, _, q⟩ := hs
      exact False.elim q
    | cont =>
      obtain ⟨_, _, _, q⟩ := hs
      exact False.elim q
  · intro e s' hs
    exact wpAny_mono hs (fun _ _ z => False.elim z) fun _ _ z => False.elim z
end Nm
namespace Nm
open PySem PyProof.Rows L2
/-! ### the end: what the top has written -/
/-- a def of the text, raw -/
structure FRaw (K : PySem.W.Frag) (x qual : Str) (st : Stmt) (f : Addr) : Prop where
  ex : ∃ (oc : Value) (od : Option Addr) (kV doc pm : Value) (an : Option Addr) (cdv ct : Value) (osl : Array (Option Value)),
    K.lookup f = some ⟨oc, od, .func (PySem.W.fnOf x qual (defArgs st) (defBody st) (defScope st) .none kV doc pm an cdv ct), osl⟩ ∧ PySem.W.codeIn K cdv qual = true
  kp : PySem.W.keepIn K (.ref f) = true
theorem fraw_mk {K : PySem.W.Frag} {x qual : Str} {st : Stmt} {f : Addr} {oc : Value} {od an : Option Addr} {osl : Array (Option Value)} {kV doc pm cdv ct : Value} (l : K.lookup f = some ⟨oc, od, .func (PySem.W.fnOf x qual (defArgs st) (defBody st) (defScope st) .none kV doc pm an cdv ct), osl⟩)
    (c : PySem.W.codeIn K cdv qual = true) (k : PySem.W.keepIn K (.ref f) = true) : FRaw K x qual st f := ⟨⟨oc, od, kV, doc, pm, an, cdv, ct, osl, l, c⟩, k⟩
/-- a tuple of texts of the written part -/
structure TRaw (K : PySem.W.Frag) (a : Addr) (xs : List V) : Prop where
  ex : ∃ (od : Option Addr) (us : Array Value) (n : Nat) (sl : Array (Option Value)), K.lookup a = some ⟨.type "tuple", od, .seq us n, sl⟩ ∧ us.toList.map absV = xs.map some ∧ xs.length ≤ 1000
theorem traw_mk {K : PySem.W.Frag} {a : Addr} {xs : List V} {od : Option Addr} {us : Array Value} {n : Nat} {sl : Array (Option Value)} (l : K.lookup a = some ⟨.type "tuple", od, .seq us n, sl⟩) (e : us.toList.map absV = xs.map some) (z : xs.length ≤ 1000) : TRaw K a xs := ⟨od, us, n, sl, l, e, z⟩
theorem absV_rel {v : Value} {x : V} (e : absV v = some x) : RelV x v := by
  cases v <;> first | (cases e; first | exact rfl | exact ⟨_, rfl⟩) | (cases e)
theorem vals_abs : ∀ {us : List Value} {xs : List V}, us.map absV = xs.map some → Vals xs us
  | [], [], _ => .nil
  | v :: us, x :: xs, e => by
    simp only [List.map_cons, List.cons.injEq] at e
    exact .cons (absV_rel e.1) (vals_abs e.2)
  | [], _ :: _, e => by simp at e
  | _ :: _, [], e => by simp at e
theorem TRaw.sq {K : PySem.W.Frag} {a : Addr} {xs : List V} (r : TRaw K a xs) (H : Hp) : SqT K H a xs := by
  obtain ⟨od, us, n, sl, l, e, z⟩ := r.ex
  have hl : us.size = xs.length := by
    have q := congrArg List.length e
    simpa using q
  exact .inr ⟨_, us, n, l, rfl, rfl, by rw [hl]; exact Nat.le_trans z (by decide), vals_abs e⟩

theorem fin {P : Program} {w : World} {K : PySem.W.Frag} {h : Heap} {mg : Str → Option Value} {fa fNa0 fWr0 aK f0 f1 f2 f3 f4 f5 fP fD fQ fS fW fT fM fA fL : Addr} {t_BIG_LETTERS t_SMALL_LETTERS t_DIGITS t_MOST_SIGNS t_MOST_DIGITS : Tok} (X : K.In h) (G : h.Ns mainGlobals mg) (hfa : mg "law" = some (.ref fa))
    (z_isinstance : PySem.W.nsIn K mainGlobals "isinstance" = some none)
    (z_enumerate : PySem.W.nsIn K mainGlobals "enumerate" = some none)
    (z_range : PySem.W.nsIn K mainGlobals "range" = some none)
    (z_len : PySem.W.nsIn K mainGlobals "len" = some none)
    (z_int : PySem.W.nsIn K mainGlobals "int" = some none)
    (z_list : PySem.W.nsIn K mainGlobals "list" = some none)
    (z_tuple : PySem.W.nsIn K mainGlobals "tuple" = some none)
    (v_BIG_LETTERS : PySem.W.nsIn K mainGlobals "BIG_LETTERS" = some (some (.str "ABCDEFGHIJKLMNOPQRSTUVWXYZ" t_BIG_LETTERS)))
    (v_SMALL_LETTERS : PySem.W.nsIn K mainGlobals "SMALL_LETTERS" = some (some (.str "abcdefghijklmnopqrstuvwxyz" t_SMALL_LETTERS)))
    (v_DIGITS : PySem.W.nsIn K mainGlobals "DIGITS" = some (some (.str "0123456789" t_DIGITS)))
    (v_MOST_SIGNS : PySem.W.nsIn K mainGlobals "MOST_SIGNS" = some (some (.int 24 t_MOST_SIGNS)))
    (v_MOST_DIGITS : PySem.W.nsIn K mainGlobals "MOST_DIGITS" = some (some (.int 400 t_MOST_DIGITS)))
    (v_KEYWORDS : PySem.W.nsIn K mainGlobals "KEYWORDS" = some (some (.ref aK)))
    (d_KEYWORDS : TRaw K aK (kwL.map V.str))
    (g_all_among : PySem.W.nsIn K mainGlobals "all_among" = some (some (.ref f0)))
    (d_all_among : FRaw K "all_among" "all_among" sallamong f0)
    (g_is_name : PySem.W.nsIn K mainGlobals "is_name" = some (some (.ref f1)))
    (d_is_name : FRaw K "is_name" "is_name" sisname f1)
    (g_is_big : PySem.W.nsIn K mainGlobals "is_big" = some (some (.ref f2)))
    (d_is_big : FRaw K "is_big" "is_big" sisbig f2)
    (g_is_small : PySem.W.nsIn K mainGlobals "is_small" = some (some (.ref f3)))
    (d_is_small : FRaw K "is_small" "is_small" sissmall f3)
    (g_is_natural : PySem.W.nsIn K mainGlobals "is_natural" = some (some (.ref fNa0)))
    (d_is_natural : FRaw K "is_natural" "is_natural" sisnatural fNa0)
    (g_is_written : PySem.W.nsIn K mainGlobals "is_written" = some (some (.ref fWr0)))
    (d_is_written : FRaw K "is_written" "is_written" siswritten fWr0)
    (g_is_number : PySem.W.nsIn K mainGlobals "is_number" = some (some (.ref f4)))
    (d_is_number : FRaw K "is_number" "is_number" sisnumber f4)
    (g_words_of : PySem.W.nsIn K mainGlobals "words_of" = some (some (.ref f5)))
    (d_words_of : FRaw K "words_of" "words_of" swordsof f5)
    (g_law_pen : PySem.W.nsIn K mainGlobals "_law_pen" = some (some (.ref fP)))
    (d_law_pen : FRaw K "_law_pen" "_law_pen" sPen fP)
    (g_law_draw : PySem.W.nsIn K mainGlobals "_law_draw" = some (some (.ref fD)))
    (d_law_draw : FRaw K "_law_draw" "_law_draw" sDraw fD)
    (g_law_pick : PySem.W.nsIn K mainGlobals "_law_pick" = some (some (.ref fQ)))
    (d_law_pick : FRaw K "_law_pick" "_law_pick" sPick fQ)
    (g_law_signs : PySem.W.nsIn K mainGlobals "_law_signs" = some (some (.ref fS)))
    (d_law_signs : FRaw K "_law_signs" "_law_signs" sLsigns fS)
    (g_law_words : PySem.W.nsIn K mainGlobals "_law_words" = some (some (.ref fW)))
    (d_law_words : FRaw K "_law_words" "_law_words" sLwords fW)
    (g_law_word_kind : PySem.W.nsIn K mainGlobals "_law_word_kind" = some (some (.ref fT)))
    (d_law_word_kind : FRaw K "_law_word_kind" "_law_word_kind" sLwordkind fT)
    (g_law_some_word : PySem.W.nsIn K mainGlobals "_law_some_word" = some (some (.ref fM)))
    (d_law_some_word : FRaw K "_law_some_word" "_law_some_word" sLsomeword fM)
    (g_law_asked : PySem.W.nsIn K mainGlobals "_law_asked" = some (some (.ref fA)))
    (d_law_asked : FRaw K "_law_asked" "_law_asked" sLasked fA)
    (g_law : PySem.W.nsIn K mainGlobals "law" = some (some (.ref fL)))
    (d_law : FRaw K "law" "law" slaw fL)
    : ∃ fd : FuncData, Fun K "law" "law" slaw fa fd ∧ (∀ (s : Shared) (u : Value), BindsTo s fd ⟨[u], []⟩ [("_law_script", u)]) ∧
        ∀ (base : Heap) (cdv : Value) (s : Shared) (H : Hp) (a : Addr) (ns : List Int), K.In base → base.Ns mainGlobals mg → ns.length ≤ 63 → SqL K H a (ns.map V.int) →
          ∃ t, PSs (cxOf CX0 P w K mg base Nlaw "law" (defScope slaw) fa cdv callerA [] s H E0).nox (defBody slaw) t ∧ t { nx := fun _ _ => False, rt := fun v _ => v = .bl true } (start Nlaw [.ref a]) H := by
  have e := hfa.symm.trans (PySem.W.mg_of X G g_law)
  cases e
  obtain ⟨oc, od, kV, doc, pm, an, cdv, ct, osl, lk, cc⟩ := d_all_among.ex
  have F_all_among := fun_mk (st := sallamong) lk cc d_all_among.kp
  have B_all_among := F_all_among.binds (ps := ["text", "signs"]) fun _ _ _ _ _ _ us hl => match us, hl with | [_, _], _ => rfl
  generalize PySem.W.fnOf _ _ _ _ _ _ kV doc pm an cdv ct = fd_all_among at F_all_among B_all_among
  clear lk cc
  obtain ⟨oc, od, kV, doc, pm, an, cdv, ct, osl, lk, cc⟩ := d_is_name.ex
  have F_is_name := fun_mk (st := sisname) lk cc d_is_name.kp
  have B_is_name := F_is_name.binds (ps := ["word", "first_signs"]) fun _ _ _ _ _ _ us hl => match us, hl with | [_, _], _ => rfl
  generalize PySem.W.fnOf _ _ _ _ _ _ kV doc pm an cdv ct = fd_is_name at F_is_name B_is_name
  clear lk cc
  obtain ⟨oc, od, kV, doc, pm, an, cdv, ct, osl, lk, cc⟩ := d_is_big.ex
  have F_is_big := fun_mk (st := sisbig) lk cc d_is_big.kp
  have B_is_big := F_is_big.binds (ps := ["word"]) fun _ _ _ _ _ _ us hl => match us, hl with | [_], _ => rfl
  generalize PySem.W.fnOf _ _ _ _ _ _ kV doc pm an cdv ct = fd_is_big at F_is_big B_is_big
  clear lk cc
  obtain ⟨oc, od, kV, doc, pm, an, cdv, ct, osl, lk, cc⟩ := d_is_small.ex
  have F_is_small := fun_mk (st := sissmall) lk cc d_is_small.kp
  have B_is_small := F_is_small.binds (ps := ["word"]) fun _ _ _ _ _ _ us hl => match us, hl with | [_], _ => rfl
  generalize PySem.W.fnOf _ _ _ _ _ _ kV doc pm an cdv ct = fd_is_small at F_is_small B_is_small
  clear lk cc
  obtain ⟨oc, od, kV, doc, pm, an, cdv, ct, osl, lk, cc⟩ := d_is_natural.ex
  have F_is_natural := fun_mk (st := sisnatural) lk cc d_is_natural.kp
  have B_is_natural := F_is_natural.binds (ps := ["word"]) fun _ _ _ _ _ _ us hl => match us, hl with | [_], _ => rfl
  generalize PySem.W.fnOf _ _ _ _ _ _ kV doc pm an cdv ct = fd_is_natural at F_is_natural B_is_natural
  clear lk cc
  obtain ⟨oc, od, kV, doc, pm, an, cdv, ct, osl, lk, cc⟩ := d_is_written.ex
  have F_is_written := fun_mk (st := siswritten) lk cc d_is_written.kp
  have B_is_written := F_is_written.binds (ps := ["word"]) fun _ _ _ _ _ _ us hl => match us, hl with | [_], _ => rfl
  generalize PySem.W.fnOf _ _ _ _ _ _ kV doc pm an cdv ct = fd_is_written at F_is_written B_is_written
  clear lk cc
  obtain ⟨oc, od, kV, doc, pm, an, cdv, ct, osl, lk, cc⟩ := d_is_number.ex
  have F_is_number := fun_mk (st := sisnumber) lk cc d_is_number.kp
  have B_is_number := F_is_number.binds (ps := ["word"]) fun _ _ _ _ _ _ us hl => match us, hl with | [_], _ => rfl
  generalize PySem.W.fnOf _ _ _ _ _ _ kV doc pm an cdv ct = fd_is_number at F_is_number B_is_number
  clear lk cc
  replace F_is_number : NumFun K mg _ fd_is_number := ⟨F_is_number, _, _, _, _, F_is_written, B_is_written, PySem.W.mg_of X G g_is_written, F_is_natural, B_is_natural, PySem.W.mg_of X G g_is_natural⟩
  obtain ⟨oc, od, kV, doc, pm, an, cdv, ct, osl, lk, cc⟩ := d_words_of.ex
  have F_words_of := fun_mk (st := swordsof) lk cc d_words_of.kp
  have B_words_of := F_words_of.binds (ps := ["line"]) fun _ _ _ _ _ _ us hl => match us, hl with | [_], _ => rfl
  generalize PySem.W.fnOf _ _ _ _ _ _ kV doc pm an cdv ct = fd_words_of at F_words_of B_words_of
  clear lk cc
  obtain ⟨oc, od, kV, doc, pm, an, cdv, ct, osl, lk, cc⟩ := d_law_pen.ex
  have F_law_pen := fun_mk (st := sPen) lk cc d_law_pen.kp
  have B_law_pen := F_law_pen.binds (ps := ["_law_script"]) fun _ _ _ _ _ _ us hl => match us, hl with | [_], _ => rfl
  generalize PySem.W.fnOf _ _ _ _ _ _ kV doc pm an cdv ct = fd_law_pen at F_law_pen B_law_pen
  clear lk cc
  obtain ⟨oc, od, kV, doc, pm, an, cdv, ct, osl, lk, cc⟩ := d_law_draw.ex
  have F_law_draw := fun_mk (st := sDraw) lk cc d_law_draw.kp
  have B_law_draw := F_law_draw.binds (ps := ["_law_pen_here", "_law_many"]) fun _ _ _ _ _ _ us hl => match us, hl with | [_, _], _ => rfl
  generalize PySem.W.fnOf _ _ _ _ _ _ kV doc pm an cdv ct = fd_law_draw at F_law_draw B_law_draw
  clear lk cc
  obtain ⟨oc, od, kV, doc, pm, an, cdv, ct, osl, lk, cc⟩ := d_law_pick.ex
  have F_law_pick := fun_mk (st := sPick) lk cc d_law_pick.kp
  have B_law_pick := F_law_pick.binds (ps := ["_law_pen_here", "_law_some"]) fun _ _ _ _ _ _ us hl => match us, hl with | [_, _], _ => rfl
  generalize PySem.W.fnOf _ _ _ _ _ _ kV doc pm an cdv ct = fd_law_pick at F_law_pick B_law_pick
  clear lk cc
  obtain ⟨oc, od, kV, doc, pm, an, cdv, ct, osl, lk, cc⟩ := d_law_signs.ex
  have F_law_signs := fun_mk (st := sLsigns) lk cc d_law_signs.kp
  have B_law_signs := F_law_signs.binds (ps := []) fun _ _ _ _ _ _ us hl => match us, hl with | [], _ => rfl
  generalize PySem.W.fnOf _ _ _ _ _ _ kV doc pm an cdv ct = fd_law_signs at F_law_signs B_law_signs
  clear lk cc
  obtain ⟨oc, od, kV, doc, pm, an, cdv, ct, osl, lk, cc⟩ := d_law_words.ex
  have F_law_words := fun_mk (st := sLwords) lk cc d_law_words.kp
  have B_law_words := F_law_words.binds (ps := ["_law_line"]) fun _ _ _ _ _ _ us hl => match us, hl with | [_], _ => rfl
  generalize PySem.W.fnOf _ _ _ _ _ _ kV doc pm an cdv ct = fd_law_words at F_law_words B_law_words
  clear lk cc
  obtain ⟨oc, od, kV, doc, pm, an, cdv, ct, osl, lk, cc⟩ := d_law_word_kind.ex
  have F_law_word_kind := fun_mk (st := sLwordkind) lk cc d_law_word_kind.kp
  have B_law_word_kind := F_law_word_kind.binds (ps := ["_law_word"]) fun _ _ _ _ _ _ us hl => match us, hl with | [_], _ => rfl
  generalize PySem.W.fnOf _ _ _ _ _ _ kV doc pm an cdv ct = fd_law_word_kind at F_law_word_kind B_law_word_kind
  clear lk cc
  obtain ⟨oc, od, kV, doc, pm, an, cdv, ct, osl, lk, cc⟩ := d_law_some_word.ex
  have F_law_some_word := fun_mk (st := sLsomeword) lk cc d_law_some_word.kp
  have B_law_some_word := F_law_some_word.binds (ps := ["_law_pen_here"]) fun _ _ _ _ _ _ us hl => match us, hl with | [_], _ => rfl
  generalize PySem.W.fnOf _ _ _ _ _ _ kV doc pm an cdv ct = fd_law_some_word at F_law_some_word B_law_some_word
  clear lk cc
  obtain ⟨oc, od, kV, doc, pm, an, cdv, ct, osl, lk, cc⟩ := d_law_asked.ex
  have F_law_asked := fun_mk (st := sLasked) lk cc d_law_asked.kp
  have B_law_asked := F_law_asked.binds (ps := ["_law_word"]) fun _ _ _ _ _ _ us hl => match us, hl with | [_], _ => rfl
  generalize PySem.W.fnOf _ _ _ _ _ _ kV doc pm an cdv ct = fd_law_asked at F_law_asked B_law_asked
  clear lk cc
  have PT : PenTxt mg := ⟨PySem.W.mg_none_of X G z_int, PySem.W.mg_none_of X G z_list, PySem.W.mg_none_of X G z_len⟩
  have T : WTxt K mg aK := {
    BIG_LETTERS := ⟨_, PySem.W.mg_of X G v_BIG_LETTERS⟩
    SMALL_LETTERS := ⟨_, PySem.W.mg_of X G v_SMALL_LETTERS⟩
    DIGITS := ⟨_, PySem.W.mg_of X G v_DIGITS⟩
    MOST_SIGNS := ⟨_, PySem.W.mg_of X G v_MOST_SIGNS⟩
    MOST_DIGITS := ⟨_, PySem.W.mg_of X G v_MOST_DIGITS⟩
    KEYWORDS := PySem.W.mg_of X G v_KEYWORDS
    kw := d_KEYWORDS.sq
    isinstance := PySem.W.mg_none_of X G z_isinstance
    enumerate := PySem.W.mg_none_of X G z_enumerate
    range := PySem.W.mg_none_of X G z_range
    len := PySem.W.mg_none_of X G z_len
    int := PySem.W.mg_none_of X G z_int
    list := PySem.W.mg_none_of X G z_list
    tuple := PySem.W.mg_none_of X G z_tuple
  }
  have kt : PySem.W.kitOne K (.type "tuple") (.type "tuple") = some true := by
    unfold PySem.W.kitOne
    rw [if_pos (by decide +kernel)]
  obtain ⟨oc, od, kV, doc, pm, an, cdv, ct, osl, lk, cc⟩ := d_law.ex
  refine ⟨_, fun_mk (st := slaw) lk cc d_law.kp, fun s v => .of_eq rfl, fun base cdv s H a ns _ _ hlen hS => ?_⟩
  exact rd_law T PT kt F_all_among B_all_among (PySem.W.mg_of X G g_all_among) F_is_name B_is_name (PySem.W.mg_of X G g_is_name) F_is_big B_is_big (PySem.W.mg_of X G g_is_big) F_is_small B_is_small (PySem.W.mg_of X G g_is_small) F_is_number B_is_number (PySem.W.mg_of X G g_is_number) F_words_of B_words_of (PySem.W.mg_of X G g_words_of) F_law_pen B_law_pen (PySem.W.mg_of X G g_law_pen) F_law_draw B_law_draw (PySem.W.mg_of X G g_law_draw) F_law_pick B_law_pick (PySem.W.mg_of X G g_law_pick) F_law_signs B_law_signs (PySem.W.mg_of X G g_law_signs) F_law_words B_law_words (PySem.W.mg_of X G g_law_words) F_law_word_kind B_law_word_kind (PySem.W.mg_of X G g_law_word_kind) F_law_some_word B_law_some_word (PySem.W.mg_of X G g_law_some_word) F_law_asked B_law_asked (PySem.W.mg_of X G g_law_asked) base cdv s H a ns hlen hS
end Nm
open PySem PySem.W PyProof.Rows in
set_option maxRecDepth 100000 in
set_option maxHeartbeats 0 in
theorem PySem.Challenge.cw_namedmeets_k03_words_of_lines_holds : PySem.Challenge.rw_namedmeets_k03_words_of_lines.Holds := by
  w_on; o_law; k_head; (case hw => w_witness2)
  k_fill
  refine Nm.walk_g (l := PySem.Challenge.rw_namedmeets_k03_words_of_lines) (k := 4) (x := "_law_script") (st := Nm.slaw) (qual := "law") (N := Nm.Nlaw) rfl rfl ⟨rfl, by decide, by decide⟩ Nm.sclaw (fun w h Y => PySem.W.kIn_of Y) ?F
  intro w mg fa h KX G hmg
  refine' Nm.fin KX G hmg ?z_isinstance ?z_enumerate ?z_range ?z_len ?z_int ?z_list ?z_tuple ?v_BIG_LETTERS ?v_SMALL_LETTERS ?v_DIGITS ?v_MOST_SIGNS ?v_MOST_DIGITS ?v_KEYWORDS ?d_KEYWORDS ?g_all_among ?d_all_among ?g_is_name ?d_is_name ?g_is_big ?d_is_big ?g_is_small ?d_is_small ?g_is_natural ?d_is_natural ?g_is_written ?d_is_written ?g_is_number ?d_is_number ?g_words_of ?d_words_of ?g_law_pen ?d_law_pen ?g_law_draw ?d_law_draw ?g_law_pick ?d_law_pick ?g_law_signs ?d_law_signs ?g_law_words ?d_law_words ?g_law_word_kind ?d_law_word_kind ?g_law_some_word ?d_law_some_word ?g_law_asked ?d_law_asked ?g_law ?d_law
  (case z_isinstance => k_is)
  (case z_enumerate => k_is)
  (case z_range => k_is)
  (case z_len => k_is)
  (case z_int => k_is)
  (case z_list => k_is)
  (case z_tuple => k_is)
  (case v_BIG_LETTERS => k_is)
  (case v_SMALL_LETTERS => k_is)
  (case v_DIGITS => k_is)
  (case v_MOST_SIGNS => k_is)
  (case v_MOST_DIGITS => k_is)
  (case v_KEYWORDS => k_is)
  (case d_KEYWORDS => refine' Nm.traw_mk ?a ?b ?c; (case a => k_is); (case b => decide +kernel); (case c => decide))
  (case g_all_among => k_is)
  (case d_all_among => refine' Nm.fraw_mk ?a ?b ?c; (case a => k_is); (case b => k_is); (case c => k_is))
  (case g_is_name => k_is)
  (case d_is_name => refine' Nm.fraw_mk ?a ?b ?c; (case a => k_is); (case b => k_is); (case c => k_is))
  (case g_is_big => k_is)
  (case d_is_big => refine' Nm.fraw_mk ?a ?b ?c; (case a => k_is); (case b => k_is); (case c => k_is))
  (case g_is_small => k_is)
  (case d_is_small => refine' Nm.fraw_mk ?a ?b ?c; (case a => k_is); (case b => k_is); (case c => k_is))
  (case g_is_natural => k_is)
  (case d_is_natural => refine' Nm.fraw_mk ?a ?b ?c; (case a => k_is); (case b => k_is); (case c => k_is))
  (case g_is_written => k_is)
  (case d_is_written => refine' Nm.fraw_mk ?a ?b ?c; (case a => k_is); (case b => k_is); (case c => k_is))
  (case g_is_number => k_is)
  (case d_is_number => refine' Nm.fraw_mk ?a ?b ?c; (case a => k_is); (case b => k_is); (case c => k_is))
  (case g_words_of => k_is)
  (case d_words_of => refine' Nm.fraw_mk ?a ?b ?c; (case a => k_is); (case b => k_is); (case c => k_is))
  (case g_law_pen => k_is)
  (case d_law_pen => refine' Nm.fraw_mk ?a ?b ?c; (case a => k_is); (case b => k_is); (case c => k_is))
  (case g_law_draw => k_is)
  (case d_law_draw => refine' Nm.fraw_mk ?a ?b ?c; (case a => k_is); (case b => k_is); (case c => k_is))
  (case g_law_pick => k_is)
  (case d_law_pick => refine' Nm.fraw_mk ?a ?b ?c; (case a => k_is); (case b => k_is); (case c => k_is))
  (case g_law_signs => k_is)
  (case d_law_signs => refine' Nm.fraw_mk ?a ?b ?c; (case a => k_is); (case b => k_is); (case c => k_is))
  (case g_law_words => k_is)
  (case d_law_words => refine' Nm.fraw_mk ?a ?b ?c; (case a => k_is); (case b => k_is); (case c => k_is))
  (case g_law_word_kind => k_is)
  (case d_law_word_kind => refine' Nm.fraw_mk ?a ?b ?c; (case a => k_is); (case b => k_is); (case c => k_is))
  (case g_law_some_word => k_is)
  (case d_law_some_word => refine' Nm.fraw_mk ?a ?b ?c; (case a => k_is); (case b => k_is); (case c => k_is))
  (case g_law_asked => k_is)
  (case d_law_asked => refine' Nm.fraw_mk ?a ?b ?c; (case a => k_is); (case b => k_is); (case c => k_is))
  (case g_law => k_is)
  (case d_law => refine' Nm.fraw_mk ?a ?b ?c; (case a => k_is); (case b => k_is); (case c => k_is))
