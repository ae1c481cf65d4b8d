import PyProof.Rows.All
import Wide.All
import OpenK.AllK
import Wide.FinOn
import HandS.ForMost
import HandS.Walk
import KE.GoesEnum
import KE.GoesMore
import HandS.IsInst
import PySem.Challenge.RW_namedmeets_k40_lines_and_logs
import KE.IntTextLaws
import HandS.Conv
import HandS.Wide
import HandS.Style
import HandS.ForExc
import HandS.ExcInit
import HandS.ExcField
import HandS.StrMore
import HandS.Star
import HandS.DictComp
set_option Elab.async false
set_option maxRecDepth 100000
set_option maxHeartbeats 4000000
namespace Nm
open PySem PySem.Spec PyProof.Rows L2
/-! ### texts: enumerate, list, times -/
/-- enumerate(s), s a text: a new pair of the place and the sign -/
def Itn (x : Str) : It :=
  ⟨fun i _ => i < x.cps.size, fun i H v H' => ∃ T c, v = .ref T ∧ H T = none ∧ H' = upd H T (.tup [.int (i : Nat), .str ⟨#[c]⟩]) ∧ x.cps[i]? = some c, fun i _ => i = x.cps.size⟩
theorem turn_enumS {P : Program} {w : World} {K : PySem.W.Frag} {elts : List Expr} {kk : Nat} {tpos : Pos} (x : Str) (t : Tok) (e it : Addr) :
    Turn P w K (.Tuple elts kk tpos) (Itn x) [e, it] e (fun i h => (∃ old, IsEnum h e it ((i : Nat) : Int) old) ∧ h.IsStrIter it (strIterType x) x t i ∧ e ≠ it) where
  mem := List.mem_cons_self
  obj := by
    rintro i h ⟨⟨old, he⟩, ⟨o, ho, _, hd⟩, _⟩ b hb
    rcases List.mem_cons.mp hb with rfl | hb
    · exact ⟨_, he, fun v q => nomatch q⟩
    · obtain rfl := List.mem_singleton.mp hb
      exact ⟨o, ho, fun v q => by rw [hd] at q; cases q⟩
  keep := by
    rintro i h h' ⟨⟨old, he⟩, ⟨o, ho, r⟩, hne⟩ k
    exact ⟨⟨old, k e List.mem_cons_self _ he⟩, ⟨o, k it (by simp) o ho, r⟩, hne⟩
  item := by
    intro X hP hw hK hc i pins s σ H E I hf st hg
    subst hP hw hK
    obtain ⟨⟨old, he⟩, hit, hne⟩ := st
    have hel := Heap.lt_size he
    have hil : it < s.heap.objs.size := by
      obtain ⟨_, q, _⟩ := hit
      exact Heap.lt_size q
    have hcase : ∀ b ∈ [e, it], b = e ∨ b = it := fun b hb => by simpa using hb
    refine wpAny_pyNext_enum_itemC (Draws.text (A := X.A.in1) (I.ok.hd hc) it x t) he hit hg hne (by simpa using hne) ?_
    rintro y h' tk ⟨c, u, hcx, rfl⟩ ho hit' hT hsz hk
    refine ⟨_, rfl, wpAny_letOwnedTupleGo_enum (s := { s with heap := h', toks := tk + 1 }) ho ?_⟩
    intro h2 he2 sb
    have hT2 : h2.get? s.heap.objs.size = some { cls := .type "tuple", data := .seq #[.int (i : Nat) tk, .str ⟨#[c]⟩ u] } := (sb.2 _ (Nat.ne_of_gt hel)).trans hT
    have new : ObjOk X.prog X.w (upd H s.heap.objs.size (.tup [.int (i : Nat), .str ⟨#[c]⟩])) h2 s.heap.objs.size (.tup [.int (i : Nat), .str ⟨#[c]⟩]) :=
      ⟨by show 2 ≤ sizeLine; decide, [.int (i : Nat) tk, .str ⟨#[c]⟩ u], .cons ⟨_, rfl⟩ (.cons ⟨_, rfl⟩ .nil), ⟨_, hT2, rfl, _, rfl⟩⟩
    have J : Inv X pins σ (upd H s.heap.objs.size (.tup [.int (i : Nat), .str ⟨#[c]⟩])) { s with heap := h2, toks := tk + 1 } := by
      refine I.turnedNew (ch := [e, it]) (fun b o hb q => ?_) hf (Nat.le_refl _) new
      have n1 : b ≠ e := fun z => hb (by simp [z])
      have n2 : b ≠ it := fun z => hb (by simp [z])
      exact (sb.2 b n1).trans (hk b o n1 n2 q)
    refine ⟨.ref s.heap.objs.size, _, J, rfl, ⟨_, c, rfl, I.hok.fresh (Nat.le_refl _), rfl, hcx⟩, ⟨⟨.str ⟨#[c]⟩ u, ?_⟩, ?_, hne⟩, ?_⟩
    · have e1 : ((i + 1 : Nat) : Int) = (i : Int) + 1 := Int.natCast_succ i
      rw [e1]
      exact he2
    · obtain ⟨o, q, r⟩ := hit'
      exact ⟨o, (sb.2 it (Ne.symm hne)).trans q, r⟩
    · intro b hb
      have lt : b < s.heap.objs.size := by
        rcases hcase b hb with rfl | rfl
        · exact hel
        · exact hil
      rw [upd_ne (Nat.ne_of_lt lt)]
      exact (hf b hb).1
  done := by
    intro X hP hw hK hc i pins s σ H E I hf st hg
    subst hP hw hK
    obtain ⟨⟨old, he⟩, hit, hne⟩ := st
    obtain ⟨f0, f1, f2, f3, f4, f5⟩ := hf it (by simp)
    have D := Draws.text (prog := X.prog) (w := X.w) (A := X.A.in1) (I.ok.hd hc) it x t
    obtain rfl : i = x.cps.size := hg
    exact wpAny_pyNext_enum_endD D he hit fun h' hx => ⟨rfl, I.turned (t' := s.toks) (fun b o hb q => hx b o hb q) f0 f1 f3 f4 f5⟩
  self := by
    rintro A i s Q E ⟨⟨old, he⟩, _⟩ h
    exact wpAny_pyIter_enum he h
theorem vals_signs : ∀ (cs : List Nat) (us : List Value), us.length = cs.length → (∀ (j : Nat) (v : Value), us[j]? = some v → ∃ c u, cs[j]? = some c ∧ v = Value.str ⟨#[c]⟩ u) → Vals (cs.map fun c => V.str ⟨#[c]⟩) us
  | [], [], _, _ => .nil
  | c :: cs, v :: us, hl, h => by
    obtain ⟨c', u, e, rfl⟩ := h 0 v rfl
    obtain rfl : c = c' := Option.some.inj e
    exact .cons ⟨u, rfl⟩ (vals_signs cs us (Nat.succ.inj hl) fun j v e => h (j + 1) v e)
  | [], _ :: _, hl, _ => nomatch hl
  | _ :: _, [], hl, _ => nomatch hl
theorem walk_enumS {z : Str} : Walk (Itn z) z.cps.size (fun _ => True) (fun i H v H' => ∃ T c, v = .ref T ∧ H T = none ∧ H' = upd H T (.tup [.int (i : Nat), .str ⟨#[c]⟩]) ∧ z.cps[i]? = some c) :=
  ⟨fun _ _ hi _ => hi, fun _ _ => rfl, fun _ _ _ _ _ _ y => y⟩
def iEnumS (ta : TA) : TI := fun σ H R => ta σ H fun vs H1 => ∃ x, vs = [.str x] ∧ R (Itn x) H1
theorem pi_enumS {X : Cx} {e : Expr} {ta : TA} {p pos tpos : Pos} {elts : List Expr} {kk : Nat} (hg : Gl X "enumerate") (hm : X.mg "enumerate" = none) (ha : PA X [e] ta) (hs : starEach [e] X.env = [(false, eval e X.env)] := by rfl) :
    PI X (.Tuple elts kk tpos) (.Call (.Name "enumerate" p) [e] [] pos) (iEnumS ta) := by
  constructor
  intro pins s σ H R I h
  refine Call_ (ld_blt I hg hm boot_enumerate (PyProof.Rows.callWith_type1 (thn (ha.run pos pins s σ H _ I h) ?_) hs rfl))
  rintro us s1 ⟨vs, H1, I1, r1, x, rfl, q⟩
  obtain ⟨u, rfl, t, rfl⟩ := vals1 r1
  refine call_enumerate_str fun h' he hit hsz hk => wpAny_pyIter_enum he ?_
  have I2 : Inv X pins σ H1 { s1 with heap := h' } := I1.kept (t' := s1.toks) hk
  refine ⟨s1.heap.objs.size + 1, [s1.heap.objs.size + 1, s1.heap.objs.size], _, _, H1, rfl, I2, turn_enumS x t (s1.heap.objs.size + 1) s1.heap.objs.size, ⟨⟨.none, he⟩, hit, Nat.succ_ne_self _⟩, ?_, q⟩
  intro b hb
  have hle : s1.heap.objs.size ≤ b := by
    rcases List.mem_cons.mp hb with rfl | hb
    · exact Nat.le_succ _
    · obtain rfl := List.mem_singleton.mp hb
      exact Nat.le_refl _
  exact I1.fpOk hle (I1.hok.fresh hle)
section
variable {X : Cx}
/-- list(s), s a text: its signs -/
theorem call_list_txt (hc : X.calm = true) : CallR X (.type "list") (fun xs H Q => ∃ z : Str, xs = [.str z] ∧ z.cps.size ≤ sizeLine ∧ ∀ p, H p = none → Q (.ref p) (upd H p (.lst (z.cps.toList.map fun c => V.str ⟨#[c]⟩)))) := by
  intro pins s σ H xs us Q I r h
  obtain ⟨z, rfl, hz, q⟩ := h
  obtain ⟨u, rfl, t, rfl⟩ := vals1 r
  refine call_list_str (hn := hz) (I.ok.hd hc) z t ?_
  intro h' tk acc' c' hk hL hI
  have len : acc'.size = z.cps.size := hI.1
  have vals : Vals (z.cps.toList.map fun c => V.str ⟨#[c]⟩) acc'.toList := vals_signs _ _ (by simpa using len) fun j v e => by
    obtain ⟨c, u, h1, h2⟩ := hI.2 j v (by simpa using e)
    exact ⟨c, u, by simpa using h1, h2⟩
  have new : ObjOk X.prog X.w (upd H s.heap.objs.size (.lst (z.cps.toList.map fun c => V.str ⟨#[c]⟩))) h' s.heap.objs.size (.lst (z.cps.toList.map fun c => V.str ⟨#[c]⟩)) :=
    ⟨by simpa using hz, acc'.toList, c', vals, by simpa using hL⟩
  exact ⟨.ref s.heap.objs.size, _, I.laid (t' := tk) hk (Nat.le_refl _) new, rfl, q _ (I.hok.fresh (Nat.le_refl _))⟩
/-- s * n -/
def timesS (z : Str) (k : Int) : Str := if k < 1 then Str.empty else if (k == 1 || z.length == 0) = true then z else ⟨(List.replicate k.toNat z.cps).foldl (· ++ ·) #[]⟩
theorem op_times : OpR X (binaryOp .Mult) (fun x y H Q => ∃ (z : Str) (k : Int), x = .str z ∧ y = .int k ∧ 0 ≤ k ∧ k ≤ 1000 ∧ z.length ≤ 1000 ∧ Q (.str (timesS z k)) H) := by
  intro pins s σ H x y v u Q I rx ry h
  obtain ⟨z, k, rfl, rfl, h0, h1, hz, q⟩ := h
  obtain ⟨t, rfl⟩ := rx
  obtain ⟨t', rfl⟩ := ry
  have big : ∀ n : Nat, n ≤ 1000000 → n ≤ sizeLine := fun n h => Nat.le_trans h (by decide)
  have hm : z.length * k.toNat ≤ 1000000 := by
    have e : z.length * k.toNat ≤ 1000 * 1000 := Nat.mul_le_mul hz (by omega)
    omega
  refine PySem.P.mul_str ?_ (fun hn _ => ?_) (fun _ _ => ?_) ?_
  · have a1 : ¬ k < -(2 ^ 63 : Int) := by omega
    have a2 : ¬ k ≥ 2 ^ 63 := by omega
    rw [decide_eq_false a1, decide_eq_false a2]
    rfl
  · have p1 : (1000 : Int) ≤ (2 ^ 63 - 1) / k := Int.le_ediv_of_mul_le (by omega) (by omega)
    have p2 : ((z.length : Nat) : Int) ≤ 1000 := by omega
    omega
  · exact decide_eq_false fun z => by
      have := big _ hm
      omega
  · unfold timesS at q
    by_cases c1 : k < 1
    · rw [if_pos c1] at q ⊢
      exact ⟨Nat.zero_le _, .str _, H, I.tok _, ⟨_, rfl⟩, q⟩
    · rw [if_neg c1] at q ⊢
      by_cases c2 : (k == 1 || z.length == 0) = true
      · rw [if_pos c2] at q ⊢
        exact ⟨.str z, H, I, ⟨_, rfl⟩, q⟩
      · rw [if_neg c2] at q ⊢
        refine ⟨?_, .str _, H, I.tok _, ⟨_, rfl⟩, q⟩
        have len : ∀ (n : Nat) (a : Array Nat) (acc : Array Nat), ((List.replicate n a).foldl (· ++ ·) acc).size = acc.size + n * a.size := by
          intro n
          induction n with
          | zero => intro a acc; simp
          | succ n ih =>
            intro a acc
            rw [List.replicate_succ, List.foldl_cons, ih, Array.size_append, Nat.succ_mul]
            omega
        show ((List.replicate k.toNat z.cps).foldl (· ++ ·) #[]).size ≤ sizeLine
        rw [len, Nat.mul_comm]
        have e : (#[] : Array Nat).size = 0 := rfl
        rw [e, Nat.zero_add]
        exact big _ hm
end
/-! ### the mathematics: words of lines -/
abbrev codes (s : Str) : List Nat := s.cps.toList
def sBIG : Str := "ABCDEFGHIJKLMNOPQRSTUVWXYZ"
def sSMA : Str := "abcdefghijklmnopqrstuvwxyz"
def sDIG : Str := "0123456789"
def sALL : Str := sBIG ++ sSMA ++ sDIG ++ "_"
def kwL : List Str := ["kind", "fun", "let", "in"]
def allIn (t s : Str) : Bool := (codes t).all fun c => decide (c ∈ codes s)
def hd (w : Str) : Nat := (codes w).headD 0
def isName (w f : Str) : Bool := if (decide (w = "") || (decide (w.length > 24) || !decide (hd w ∈ codes f))) = true then false else allIn w sALL
def isBig (w : Str) : Bool := isName w sBIG
def isSmall (w : Str) : Bool := !decide (w ∈ kwL) && isName w sSMA
def digs (w : Str) : Str := if decide (cutS w none (some 1) = "-") = true then cutS w (some 1) none else w
def isNum (w : Str) : Bool :=
  if (decide (digs w = "") || (decide ((digs w).length > 400) || !allIn (digs w) sDIG)) = true then false else if decide (hd (digs w) = 48) = true then decide (w = "0") else true
def digs2 (w : Str) : Str := if decide (hd w = 45) = true then cutS w (some 1) none else w
def lawKind (w : Str) : Str :=
  if decide (w ∈ kwL) = true then w
  else if ((decide (hd w ∈ codes (sBIG ++ sSMA)) && decide (w.length ≤ 24)) && allIn w sALL) = true then (if decide (hd w ∈ codes sBIG) = true then "big" else "small")
  else if ((!decide (digs2 w = "") && (decide ((digs2 w).length ≤ 400) && allIn (digs2 w) sDIG)) && (decide (w = "0") || !decide (hd (digs2 w) = 48))) = true then "number" else "word " ++ w
theorem str_ext {a b : Str} (h : codes a = codes b) : a = b := by
  obtain ⟨⟨x⟩⟩ := a
  obtain ⟨⟨y⟩⟩ := b
  have e : x = y := h
  rw [e]
theorem codes_cons {w : Str} (h : w ≠ "") : ∃ c r, codes w = c :: r := by
  cases e : codes w with
  | nil => exact (h (str_ext (by rw [e]; rfl))).elim
  | cons c r => exact ⟨c, r, rfl⟩
theorem hd_of {w : Str} {c : Nat} {r : List Nat} (e : codes w = c :: r) : hd w = c := by
  unfold hd
  rw [e]
  rfl
theorem len_codes (w : Str) : w.length = (codes w).length := by
  show w.cps.size = w.cps.toList.length
  simp
theorem cut1_of {w : Str} {c : Nat} {r : List Nat} (e : codes w = c :: r) : codes (cutS w none (some 1)) = [c] := by
  have l : w.length = r.length + 1 := by rw [len_codes, e]; rfl
  show ((w.cps.toList.drop (HT.sIx w.length 0 none)).take (HT.sIx w.length w.length (some 1) - HT.sIx w.length 0 none)).toArray.toList = [c]
  rw [show HT.sIx w.length 0 none = 0 from rfl, show (some (1 : Int)) = some ((1 : Nat) : Int) from rfl, HT.sIx_nat, show w.cps.toList = c :: r from e, show min 1 w.length = 1 by omega]
  rfl
theorem cutT_codes (w : Str) : codes (cutS w (some 1) none) = (codes w).drop 1 := by
  show ((w.cps.toList.drop (HT.sIx w.length 0 (some 1))).take (HT.sIx w.length w.length none - HT.sIx w.length 0 (some 1))).toArray.toList = w.cps.toList.drop 1
  rw [show HT.sIx w.length w.length none = w.length from rfl, show (some (1 : Int)) = some ((1 : Nat) : Int) from rfl, HT.sIx_nat]
  have e : w.length = w.cps.toList.length := len_codes w
  rw [e]
  cases w.cps.toList with
  | nil => rfl
  | cons c r => simp
theorem digs_eq {w : Str} (h : w ≠ "") : digs w = digs2 w := by
  obtain ⟨c, r, e⟩ := codes_cons h
  unfold digs digs2
  have q : (cutS w none (some 1) = "-") ↔ (hd w = 45) := by
    rw [hd_of e]
    constructor
    · intro z
      have z2 := congrArg codes z
      rw [cut1_of e] at z2
      have z3 : [c] = [45] := z2
      exact (List.cons.inj z3).1
    · intro z
      exact str_ext (by rw [cut1_of e, z]; rfl)
  by_cases z : hd w = 45
  · rw [decide_eq_true z, decide_eq_true (q.mpr z)]
  · rw [decide_eq_false z, decide_eq_false fun y => z (q.mp y)]
theorem allIn_hd {w s : Str} {c : Nat} {r : List Nat} (e : codes w = c :: r) (h : allIn w s = true) : c ∈ codes s := by
  unfold allIn at h
  rw [e, List.all_cons] at h
  exact of_decide_eq_true (Bool.and_eq_true_iff.mp h).1
theorem kw_facts : ∀ w ∈ kwL, isBig w = false ∧ isNum w = false ∧ w ≠ "big" ∧ w ≠ "small" ∧ w ≠ "number" := by
  intro w h
  unfold kwL at h
  simp only [List.mem_cons, List.not_mem_nil, or_false] at h
  rcases h with rfl | rfl | rfl | rfl <;> decide +kernel
theorem letters_no_digits : ∀ c ∈ codes (sBIG ++ sSMA), c ∉ codes sDIG ∧ c ≠ 45 := by
  have h : (codes (sBIG ++ sSMA)).all (fun c => decide (c ∉ codes sDIG ∧ c ≠ 45)) = true := by decide +kernel
  intro c hc
  exact of_decide_eq_true (List.all_eq_true.mp h c hc)
theorem big_or_small (c : Nat) : c ∈ codes (sBIG ++ sSMA) ↔ c ∈ codes sBIG ∨ c ∈ codes sSMA := by
  have e : codes (sBIG ++ sSMA) = codes sBIG ++ codes sSMA := by decide +kernel
  rw [e, List.mem_append]
theorem big_not_small : ∀ c ∈ codes sBIG, c ∉ codes sSMA := by
  have h : (codes sBIG).all (fun c => decide (c ∉ codes sSMA)) = true := by decide +kernel
  intro c hc
  exact of_decide_eq_true (List.all_eq_true.mp h c hc)
theorem word_ne (w : Str) : ("word " : Str) ++ w ≠ "big" ∧ ("word " : Str) ++ w ≠ "small" ∧ ("word " : Str) ++ w ≠ "number" := by
  have e : codes (("word " : Str) ++ w) = 119 :: 111 :: 114 :: 100 :: 32 :: codes w := by
    show (("word " : Str).cps ++ w.cps).toList = _
    rw [Array.toList_append]
    rfl
  refine ⟨fun h => ?_, fun h => ?_, fun h => ?_⟩
  · have h3 : some 119 = (codes "big").head? := by
      rw [← h, e]
      rfl
    exact absurd h3 (by decide +kernel)
  · have h3 : some 119 = (codes "small").head? := by
      rw [← h, e]
      rfl
    exact absurd h3 (by decide +kernel)
  · have h3 : some 119 = (codes "number").head? := by
      rw [← h, e]
      rfl
    exact absurd h3 (by decide +kernel)
theorem asked_eq {w : Str} (h : w ≠ "") : isBig w = decide (lawKind w = "big") ∧ isSmall w = decide (lawKind w = "small") ∧ isNum w = decide (lawKind w = "number") := by
  obtain ⟨c, r, e⟩ := codes_cons h
  have hc := hd_of e
  unfold lawKind
  by_cases hk : w ∈ kwL
  · obtain ⟨f1, f2, f3, f4, f5⟩ := kw_facts w hk
    rw [if_pos (decide_eq_true hk), f1, f2, decide_eq_false f3, decide_eq_false f4, decide_eq_false f5]
    unfold isSmall
    rw [decide_eq_true hk]
    exact ⟨rfl, rfl, rfl⟩
  rw [if_neg (by rw [decide_eq_false hk]; exact Bool.false_ne_true)]
  have small_eq : isSmall w = isName w sSMA := by unfold isSmall; rw [decide_eq_false hk]; rfl
  have name_eq : ∀ f, isName w f = (decide (c ∈ codes f) && (decide (w.length ≤ 24) && allIn w sALL)) := fun f => by
    unfold isName
    rw [hc, decide_eq_false h]
    by_cases l : w.length ≤ 24
    · have l' : ¬ w.length > 24 := by omega
      by_cases m : c ∈ codes f
      · simp [l, l', m]
      · simp [l, l', m]
    · have l' : w.length > 24 := by omega
      simp [l, l']
  rw [hc]
  by_cases hn : ((decide (c ∈ codes (sBIG ++ sSMA)) && decide (w.length ≤ 24)) && allIn w sALL) = true
  · rw [if_pos hn]
    simp only [Bool.and_eq_true, decide_eq_true_eq] at hn
    obtain ⟨⟨hm, hl⟩, ha⟩ := hn
    obtain ⟨nd, nm⟩ := letters_no_digits c hm
    have num : isNum w = false := by
      have d2 : digs w = w := by
        rw [digs_eq h]
        unfold digs2
        rw [hc, if_neg (by rw [decide_eq_false nm]; exact Bool.false_ne_true)]
      unfold isNum
      rw [d2]
      have na : allIn w sDIG = false := by
        cases q : allIn w sDIG with
        | false => rfl
        | true => exact (nd (allIn_hd e q)).elim
      rw [na]
      simp
    rw [num]
    unfold isBig
    rw [small_eq, name_eq, name_eq, ha, decide_eq_true hl]
    by_cases b : c ∈ codes sBIG
    · rw [if_pos (decide_eq_true b), decide_eq_true b, decide_eq_false (big_not_small c b)]
      decide +kernel
    · have s : c ∈ codes sSMA := ((big_or_small c).mp hm).resolve_left b
      rw [if_neg (by rw [decide_eq_false b]; exact Bool.false_ne_true), decide_eq_false b, decide_eq_true s]
      decide +kernel
  · rw [if_neg hn]
    have big : isBig w = false := by
      unfold isBig
      rw [name_eq]
      cases q : (decide (c ∈ codes sBIG) && (decide (w.length ≤ 24) && allIn w sALL)) with
      | false => rfl
      | true =>
        simp only [Bool.and_eq_true, decide_eq_true_eq] at q
        exact (hn (by rw [decide_eq_true ((big_or_small c).mpr (.inl q.1)), decide_eq_true q.2.1, q.2.2]; rfl)).elim
    have small : isSmall w = false := by
      rw [small_eq, name_eq]
      cases q : (decide (c ∈ codes sSMA) && (decide (w.length ≤ 24) && allIn w sALL)) with
      | false => rfl
      | true =>
        simp only [Bool.and_eq_true, decide_eq_true_eq] at q
        exact (hn (by rw [decide_eq_true ((big_or_small c).mpr (.inr q.1)), decide_eq_true q.2.1, q.2.2]; rfl)).elim
    rw [big, small]
    have num : isNum w = ((!decide (digs2 w = "") && (decide ((digs2 w).length ≤ 400) && allIn (digs2 w) sDIG)) && (decide (w = "0") || !decide (hd (digs2 w) = 48))) := by
      unfold isNum
      rw [digs_eq h]
      by_cases a1 : digs2 w = ""
      · simp [a1]
      · by_cases a2 : (digs2 w).length ≤ 400
        · have a2' : ¬ (digs2 w).length > 400 := by omega
          cases a3 : allIn (digs2 w) sDIG with
          | false => simp [a1, a2, a2']
          | true =>
            by_cases a4 : hd (digs2 w) = 48
            · simp [a1, a2, a2', a4]
            · simp [a1, a2, a2', a4]
        · have a2' : (digs2 w).length > 400 := by omega
          simp [a1, a2, a2']
    rw [num]
    by_cases q : ((!decide (digs2 w = "") && (decide ((digs2 w).length ≤ 400) && allIn (digs2 w) sDIG)) && (decide (w = "0") || !decide (hd (digs2 w) = 48))) = true
    · rw [if_pos q, q]
      decide +kernel
    · rw [if_neg q]
      obtain ⟨w1, w2, w3⟩ := word_ne w
      rw [decide_eq_false w1, decide_eq_false w2, decide_eq_false w3]
      exact ⟨rfl, rfl, Bool.eq_false_iff.mpr q⟩
/-! the words of a line -/
def flush (k : Nat) (w : List Nat) : List (List Nat × Nat) := if w = [] then [] else [(w, k + 1 - w.length)]
def scan : List Nat → Nat → List Nat → List (List Nat × Nat)
  | [], k, w => flush k w
  | c :: r, k, w =>
    if c = 59 then flush k w
    else if c = 32 then flush k w ++ scan r (k + 1) []
    else if c = 40 ∨ c = 41 then flush k w ++ ([c], k + 1) :: scan r (k + 1) []
    else scan r (k + 1) (w ++ [c])
theorem scan_blank : ∀ (l : List Nat) (k : Nat) (w : List Nat), scan (l ++ [32]) k w = scan l k w
  | [], k, w => by
    show (if (32 : Nat) = 59 then flush k w else if (32 : Nat) = 32 then flush k w ++ flush (k + 1) [] else _) = flush k w
    rw [if_neg (by decide), if_pos rfl]
    simp [flush]
  | c :: r, k, w => by
    show (if c = 59 then _ else if c = 32 then _ ++ scan (r ++ [32]) (k + 1) [] else if c = 40 ∨ c = 41 then _ ++ ([c], k + 1) :: scan (r ++ [32]) (k + 1) [] else scan (r ++ [32]) (k + 1) (w ++ [c])) = scan (c :: r) k w
    rw [scan_blank r, scan_blank r]
    rfl
theorem scan_stop : ∀ (l : List Nat) (r : List Nat) (k : Nat) (w : List Nat), 59 ∉ l → scan (l ++ 59 :: r) k w = scan l k w
  | [], r, k, w, _ => by
    show (if (59 : Nat) = 59 then flush k w else _) = flush k w
    rw [if_pos rfl]
  | c :: l, r, k, w, h => by
    have h1 : c ≠ 59 := fun z => h (by simp [z])
    have h2 : 59 ∉ l := fun z => h (by simp [z])
    show (if c = 59 then _ else if c = 32 then _ ++ scan (l ++ 59 :: r) (k + 1) [] else if c = 40 ∨ c = 41 then _ ++ ([c], k + 1) :: scan (l ++ 59 :: r) (k + 1) [] else scan (l ++ 59 :: r) (k + 1) (w ++ [c])) = scan (c :: l) k w
    rw [scan_stop l r _ _ h2, scan_stop l r _ _ h2]
    rfl
/-- ahead of the first ; -/
def told (l : List Nat) : List Nat := l.takeWhile (· != 59)
theorem scan_told (l : List Nat) (k : Nat) (w : List Nat) : scan (told l) k w = scan l k w := by
  have nt : 59 ∉ told l := fun h => by
    have q := List.all_takeWhile (p := (· != 59)) (l := l)
    have := List.all_eq_true.mp q 59 h
    simp at this
  have e := List.takeWhile_append_dropWhile (p := (· != 59)) (l := l)
  cases d : l.dropWhile (· != 59) with
  | nil =>
    rw [d, List.append_nil] at e
    unfold told
    rw [e]
  | cons c r =>
    have hc : c = 59 := by
      have h1 := List.head?_dropWhile_not (p := (· != 59)) (l := l)
      rw [d] at h1
      simpa using h1
    rw [hc] at d
    rw [d] at e
    have e2 : told l ++ 59 :: r = l := e
    conv => rhs; rw [← e2]
    exact (scan_stop (told l) r k w nt).symm
def top (i : Nat) : Stmt := PySem.Challenge.pw_namedmeets_k40_lines_and_logs.main.body.getD i (.Pass ⟨0, 0, 0, 0⟩)
theorem ite_no {c : Bool} {A B : Prop} (h : c = false) (k : B) : if c = true then A else B := by
  rw [h]
  exact iteF k
theorem ite_yes {c : Bool} {A B : Prop} (h : c = true) (k : A) : if c = true then A else B := by
  rw [h]
  exact iteT k
theorem pe_gref {X : Cx} {x : Str} {C : Addr} {pos : Pos} (hg : Gl X x) (hm : X.mg x = some (.ref C)) (hd : (x == ("__debug__" : Str)) = false := by decide) : PE X (.Name x pos) (tC (.ref C)) := pe_glob hg hm rfl hd
theorem same_new {H : Hp} {p : Addr} {o : HO} (h : H p = none) : Same H (upd H p o) := fun b u e => by
  rw [upd_ne (ne_of_none e h)]
  exact e
theorem sz_of {n : Nat} (h : n ≤ 2000000) : n ≤ sizeLine := Nat.le_trans h (by decide)
theorem same_put {H H1 : Hp} {l : Addr} {o : HO} (s : Same H H1) (n : H l = none) : Same H (upd H1 l o) := fun b u e => by
  rw [upd_ne (ne_of_none e n)]
  exact s _ _ e
theorem codes_app (a b : Str) : codes (a ++ b) = codes a ++ codes b := by
  show (a.cps ++ b.cps).toList = _
  rw [Array.toList_append]
theorem len_app (a b : Str) : (a ++ b).length = a.length + b.length := by
  show (a.cps ++ b.cps).size = _
  rw [Array.size_append]
  rfl
theorem dec_str (a b : Str) : decide (V.str a = V.str b) = decide (a = b) := by
  by_cases h : a = b
  · rw [h]
    simp
  · rw [decide_eq_false h, decide_eq_false fun z => h (V.str.inj z)]
theorem eqV_str (a b : Str) : eqV (.str a) (.str b) = decide (a = b) := by
  show _ = _
  first | rfl | simp [eqV]
theorem inV_strs (w : Str) (l : List Str) : inV (.str w) (l.map V.str) = decide (w ∈ l) := by
  unfold inV
  induction l with
  | nil => rfl
  | cons a r ih =>
    rw [List.map_cons, List.any_cons, ih, eqV_str]
    by_cases h : w = a
    · subst h
      simp
    · have h' : ¬ a = w := fun z => h z.symm
      simp [h, h']
theorem op_timesB {X : Cx} : OpR X (binaryOp .Mult) (fun x y H Q => ∃ (z : Str) (k : Int), x = .str z ∧ y = .int k ∧ 0 ≤ k ∧ k ≤ 1000000 ∧ z.length ≤ 1000000 ∧ z.length * k.toNat ≤ 1000000 ∧ Q (.str (timesS z k)) H) := by
  intro pins s σ H x y v u Q I rx ry h
  obtain ⟨z, k, rfl, rfl, h0, h1, hz, hm, q⟩ := h
  obtain ⟨t, rfl⟩ := rx
  obtain ⟨t', rfl⟩ := ry
  have big : ∀ n : Nat, n ≤ 1000000 → n ≤ sizeLine := fun n h => Nat.le_trans h (by decide)
  refine PySem.P.mul_str ?_ (fun hn _ => ?_) (fun _ _ => ?_) ?_
  · have a1 : ¬ k < -(2 ^ 63 : Int) := by omega
    have a2 : ¬ k ≥ 2 ^ 63 := by omega
    rw [decide_eq_false a1, decide_eq_false a2]
    rfl
  · have p1 : (1000000 : Int) ≤ (2 ^ 63 - 1) / k := Int.le_ediv_of_mul_le (by omega) (by omega)
    have p2 : ((z.length : Nat) : Int) ≤ 1000000 := by omega
    omega
  · exact decide_eq_false fun z => by
      have := big _ hm
      omega
  · unfold timesS at q
    by_cases c1 : k < 1
    · rw [if_pos c1] at q ⊢
      exact ⟨Nat.zero_le _, .str _, H, I.tok _, ⟨_, rfl⟩, q⟩
    · rw [if_neg c1] at q ⊢
      by_cases c2 : (k == 1 || z.length == 0) = true
      · rw [if_pos c2] at q ⊢
        exact ⟨.str z, H, I, ⟨_, rfl⟩, q⟩
      · rw [if_neg c2] at q ⊢
        refine ⟨?_, .str _, H, I.tok _, ⟨_, rfl⟩, q⟩
        have len : ∀ (n : Nat) (a : Array Nat) (acc : Array Nat), ((List.replicate n a).foldl (· ++ ·) acc).size = acc.size + n * a.size := by
          intro n
          induction n with
          | zero => intro a acc; simp
          | succ n ih =>
            intro a acc
            rw [List.replicate_succ, List.foldl_cons, ih, Array.size_append, Nat.succ_mul]
            omega
        show ((List.replicate k.toNat z.cps).foldl (· ++ ·) #[]).size ≤ sizeLine
        rw [len, Nat.mul_comm]
        have e : (#[] : Array Nat).size = 0 := rfl
        rw [e, Nat.zero_add]
        exact big _ hm
theorem codes_timesS (z : Str) (k : Nat) : codes (timesS z (k : Int)) = (List.replicate k (codes z)).flatten := by
  unfold timesS
  by_cases c1 : (k : Int) < 1
  · rw [if_pos c1]
    obtain rfl : k = 0 := by omega
    rfl
  · rw [if_neg c1]
    by_cases c2 : ((k : Int) == 1 || z.length == 0) = true
    · rw [if_pos c2]
      simp only [Bool.or_eq_true, beq_iff_eq] at c2
      rcases c2 with c2 | c2
      · obtain rfl : k = 1 := by omega
        simp
      · have e : codes z = [] := by
          rw [len_codes] at c2
          exact List.length_eq_zero_iff.mp c2
        rw [e]
        simp
    · rw [if_neg c2, Int.toNat_natCast]
      have f : ∀ (n : Nat) (a acc : Array Nat), ((List.replicate n a).foldl (· ++ ·) acc).toList = acc.toList ++ (List.replicate n a.toList).flatten := by
        intro n
        induction n with
        | zero => intro a acc; simp
        | succ n ih =>
          intro a acc
          rw [List.replicate_succ, List.foldl_cons, ih, Array.toList_append, List.replicate_succ, List.flatten_cons, List.append_assoc]
      show ((List.replicate k z.cps).foldl (· ++ ·) #[]).toList = _
      rw [f]
      simp

end Nm
namespace Nm
open PySem PySem.Spec PyProof.Rows L2
/-! ### whole division by numbers that are not small -/
def CDivL (_ j : Int) : Prop := j ≠ 0 ∧ j.natAbs.log2 < 9000
theorem op_fdivL {X : Cx} : OpR X (binaryOp .FloorDiv) (rI CDivL fun i j => .int (i.fdiv j)) := opI fun _ _ _ _ _ _ _ hc q => floordiv_int hc.1 q (.inl (PyProof.noPylong_of_log2 hc.2))
theorem lg_ok {m : Int} (h0 : 0 < m) (h1 : m < 1125899906842624) : m.natAbs.log2 < 9000 := by
  have a : m.natAbs ≠ 0 := by omega
  have b : m.natAbs < 2 ^ 50 := by
    have : (2 : Nat) ^ 50 = 1125899906842624 := by decide
    omega
  have := (Nat.log2_lt a).mpr b
  omega
abbrev sPen : Stmt := top 24
abbrev sDraw : Stmt := top 25
abbrev sPick : Stmt := top 26
/-! ### the pen: the script's ints, the place, the digits left, the count, the fold -/
structure Pen where
  l : Addr
  ns : List Int
  i : Int
  d : Int
  c : Int
  f : Int
def kCe : Key := .inr "cells"
def kAt : Key := .inr "at"
def kDi : Key := .inr "digits"
def kCo : Key := .inr "count"
def kFo : Key := .inr "fold"
theorem ce_at : ¬ kCe = kAt := by decide +kernel
theorem ce_di : ¬ kCe = kDi := by decide +kernel
theorem ce_co : ¬ kCe = kCo := by decide +kernel
theorem ce_fo : ¬ kCe = kFo := by decide +kernel
theorem at_di : ¬ kAt = kDi := by decide +kernel
theorem at_co : ¬ kAt = kCo := by decide +kernel
theorem at_fo : ¬ kAt = kFo := by decide +kernel
theorem di_co : ¬ kDi = kCo := by decide +kernel
theorem di_fo : ¬ kDi = kFo := by decide +kernel
theorem co_fo : ¬ kCo = kFo := by decide +kernel
def Pen.kvs (z : Pen) : List (Key × V) := [(kCe, .ref z.l), (kAt, .int z.i), (kDi, .int z.d), (kCo, .int z.c), (kFo, .int z.f)]
structure Pen.Ok (z : Pen) : Prop where
  i0 : 0 ≤ z.i
  i1 : z.i ≤ (z.ns.length : Int)
  d0 : 0 ≤ z.d
  c0 : 0 ≤ z.c
  f0 : 0 ≤ z.f
  f1 : z.f < 2147483587
theorem pen_ce (z : Pen) : valV z.kvs kCe = some (.ref z.l) := by unfold Pen.kvs; rw [valV_pos rfl]
theorem pen_at (z : Pen) : valV z.kvs kAt = some (.int z.i) := by unfold Pen.kvs; rw [valV_neg ce_at, valV_pos rfl]
theorem pen_di (z : Pen) : valV z.kvs kDi = some (.int z.d) := by unfold Pen.kvs; rw [valV_neg ce_di, valV_neg at_di, valV_pos rfl]
theorem pen_co (z : Pen) : valV z.kvs kCo = some (.int z.c) := by unfold Pen.kvs; rw [valV_neg ce_co, valV_neg at_co, valV_neg di_co, valV_pos rfl]
theorem pen_fo (z : Pen) : valV z.kvs kFo = some (.int z.f) := by unfold Pen.kvs; rw [valV_neg ce_fo, valV_neg at_fo, valV_neg di_fo, valV_neg co_fo, valV_pos rfl]
section
variable {κ : Type} [DecidableEq κ]
theorem putK_old {kvs : List (κ × V)} {k : κ} {u : V} (v : V) (h : valV kvs k = some u) : putK kvs k v = kvs.map fun kv => if kv.1 = k then (kv.1, v) else kv := by
  unfold putK
  rw [valV_any, h]
  rfl
end
theorem put_at (z : Pen) (v : Int) : putK z.kvs kAt (.int v) = ({ z with i := v } : Pen).kvs := by
  rw [putK_old _ (pen_at z)]
  unfold Pen.kvs
  simp only [List.map_cons, List.map_nil, if_neg ce_at, if_neg (Ne.symm at_di), if_neg (Ne.symm at_co), if_neg (Ne.symm at_fo), if_true]
theorem put_di (z : Pen) (v : Int) : putK z.kvs kDi (.int v) = ({ z with d := v } : Pen).kvs := by
  rw [putK_old _ (pen_di z)]
  unfold Pen.kvs
  simp only [List.map_cons, List.map_nil, if_neg ce_di, if_neg at_di, if_neg (Ne.symm di_co), if_neg (Ne.symm di_fo), if_true]
theorem put_co (z : Pen) (v : Int) : putK z.kvs kCo (.int v) = ({ z with c := v } : Pen).kvs := by
  rw [putK_old _ (pen_co z)]
  unfold Pen.kvs
  simp only [List.map_cons, List.map_nil, if_neg ce_co, if_neg at_co, if_neg di_co, if_neg (Ne.symm co_fo), if_true]
theorem put_fo (z : Pen) (v : Int) : putK z.kvs kFo (.int v) = ({ z with f := v } : Pen).kvs := by
  rw [putK_old _ (pen_fo z)]
  unfold Pen.kvs
  simp only [List.map_cons, List.map_nil, if_neg ce_fo, if_neg at_fo, if_neg di_fo, if_neg co_fo, if_true]
theorem dget {H : Hp} {a : Addr} {kvs : List (Key × V)} {k : Key} {v : V} (e : H a = some (.dK kvs)) (h : valV kvs k = some v) : DGet H a (kV k) (some v) := by
  rw [← h]
  exact DGet.k e
theorem dput {H : Hp} {a : Addr} {kvs kvs' : List (Key × V)} {k : Key} {v : V} (e : H a = some (.dK kvs)) (hl : kvs.length < sizeLine) (h : putK kvs k v = kvs') : DPut H a (kV k) v (upd H a (.dK kvs')) := by
  rw [← h]
  exact DPut.k e hl
theorem pen_len (z : Pen) : z.kvs.length < sizeLine := by
  show 5 < sizeLine
  decide
/-- a pen stands at p -/
structure PenAt (H : Hp) (p : Addr) (z : Pen) : Prop where
  at_ : H p = some (.dK z.kvs)
  cells : H z.l = some (.lst (z.ns.map V.int))
  ok : z.Ok
theorem PenAt.ne {H : Hp} {p : Addr} {z : Pen} (h : PenAt H p z) : z.l ≠ p := ne_of h.cells h.at_ (by intro q; cases q)
theorem PenAt.put {H : Hp} {p : Addr} {z z' : Pen} (h : PenAt H p z) (el : z'.l = z.l) (en : z'.ns = z.ns) (ok : z'.Ok) : PenAt (upd H p (.dK z'.kvs)) p z' :=
  ⟨upd_same, by rw [el, en, upd_ne h.ne]; exact h.cells, ok⟩
/-- a pen through a heap that keeps what was tracked -/
theorem PenAt.same {H H' : Hp} {p : Addr} {z : Pen} (h : PenAt H p z) (s : Same H H') : PenAt H' p z := ⟨s _ _ h.at_, s _ _ h.cells, h.ok⟩
/-- z' is z behind n draws -/
structure Pen.Go (n : Int) (z z' : Pen) : Prop where
  l : z'.l = z.l
  ns : z'.ns = z.ns
  c : z'.c = z.c + n
  ok : z'.Ok
theorem q_back {Q : V → Hp → Prop} {v : V} {H : Hp} {p : Addr} {zz : Pen} (e : H p = some (.dK zz.kvs)) (q : Q v (upd H p (.dK zz.kvs))) : Q v H := by
  have x : upd H p (.dK zz.kvs) = H := by
    funext b
    by_cases h : b = p
    · rw [h, upd_same, e]
    · rw [upd_ne h]
  rw [x] at q
  exact q
theorem atI_nat' {xs : List V} {i : Int} {v : V} (h0 : 0 ≤ i) (h : xs[i.toNat]? = some v) : atI xs i = some v := by
  obtain ⟨n, rfl⟩ := Int.eq_ofNat_of_zero_le h0
  exact atI_nat h

/-! ### the promises -/
def spPen (K : PySem.W.Frag) : Sp := fun vs H Q _ => ∃ (a : Addr) (ns : List Int), vs = [.ref a] ∧ SqL K H a (ns.map V.int) ∧ ns.length ≤ 63 ∧
  ∀ (p : Addr) (z : Pen) (H' : Hp), Same H H' → H p = none → z.c = 0 → PenAt H' p z → Q (.ref p) H'
def spDraw : Sp := fun vs H Q _ => ∃ (p : Addr) (z : Pen) (m : Int), vs = [.ref p, .int m] ∧ PenAt H p z ∧ 0 < m ∧ m < 1125899906842624 ∧ z.c < 1000000000000 ∧
  ∀ (r : Int) (z' : Pen), 0 ≤ r → r < m → Pen.Go 1 z z' → Q (.int r) (upd H p (.dK z'.kvs))
def spPick (K : PySem.W.Frag) : Sp := fun vs H Q _ => ∃ (p q : Addr) (z : Pen) (xs : List V), vs = [.ref p, .ref q] ∧ PenAt H p z ∧ H q = some (.lst xs) ∧ 0 < xs.length ∧ xs.length < 1073741824 ∧ z.c < 1000000000000 ∧
  ∀ (v : V) (z' : Pen), v ∈ xs → Pen.Go 1 z z' → Q v (upd H p (.dK z'.kvs))
structure PenTxt (mg : Str → Option Value) : Prop where
  int : mg "int" = none
  list : mg "list" = none
  len : mg "len" = none

section
variable {P : Program} {w : World} {K : PySem.W.Frag} {mg : Str → Option Value} {base : Heap}
theorem scPen : FnScope ["_law_script", "_law_fold", "_law_cell"] ["_law_script"] (defScope sPen) := ⟨rfl, rfl, rfl, by decide +kernel, rfl, by decide +kernel, by decide +kernel⟩
theorem int_of {ns : List Int} {i : Nat} {y : V} (hi : (ns.map V.int)[i]? = some y) : ∃ u, ns[i]? = some u ∧ y = V.int u := by
  rw [List.getElem?_map] at hi
  cases e : ns[i]? with
  | none =>
    rw [e] at hi
    cases hi
  | some u =>
    rw [e] at hi
    exact ⟨u, rfl, (Option.some.inj hi).symm⟩
theorem kV_ce : kV kCe = V.str "cells" := rfl
theorem ok_pen {f : Addr} {fd : FuncData} (F : Fun K "_law_pen" "_law_pen" sPen f fd) (T : PenTxt mg) : FnOk P w K mg base CX0 1 f fd ["_law_script"] (spPen K) := by
  refine F.ok scPen (fun vs H Q E h => ?_) (fun cdv A outer s H vs Q E hr h => ?_)
  · obtain ⟨a, ns, rfl, _⟩ := h
    rfl
  · obtain ⟨a, ns, rfl, hS, hlen, k⟩ := h
    have hu := hu_of hr
    refine ⟨_, pss_cons (ps_set (i := 1) scPen.nd rfl (Or.inl rfl) pe_int)
      (pss_cons (ps_for PassesOwn.never rfl (pi_list (pv 0)) (pg_name (i := 2) scPen.nd rfl (Or.inl rfl))
        (pss_one (ps_set (i := 1) scPen.nd rfl (Or.inl rfl) (pe_op op_mod (pe_callTy call_int1 (by rfl) T.int (by decide +kernel) (pa_cons (pe_op op_add (pe_op op_mul (pv 1) pe_int) (pv 2)) pa_nil)) pe_int))))
      (pss_one (ps_ret (pe_disp (pps_cons pe_str (pe_callTy call_list_of (by rfl) T.list (by decide +kernel) (pa_cons (pv 0) pa_nil)) (pps_cons pe_str pe_int (pps_cons pe_str pe_int (pps_cons pe_str pe_int (pps_cons pe_str (pv 1) pps_nil))))) (by rfl) (by rfl) (fun z => by cases z) (by decide))))), ?_⟩
    refine ⟨_, rfl, a, rfl, ⟨_, hS⟩, for_list (K := K) (a := a) (xs := ns.map V.int) (fun i σ H' => ∃ (g : Int) (v : Option V), σ = [some (.ref a), some (.int g), v] ∧ H' = H ∧ 0 ≤ g ∧ g < 1000000007)
      ⟨0, none, rfl, rfl, by decide, by decide⟩ (fun i σ H' _ ⟨_, _, _, e, _⟩ => by rw [e]; exact hS) ?_ ?_⟩
    · rintro i y σ H' hi ⟨g, v, rfl, rfl, g0, g1⟩
      obtain ⟨u, _, rfl⟩ := int_of hi
      refine ⟨_, rfl, _, _, rfl, rfl, .inl ⟨by omega, by omega⟩, _, rfl, _, _, rfl, rfl, .inl ⟨_, rfl, _, _, rfl, rfl, (by show (0 : Int) < 1000000007; decide), ?_⟩⟩
      exact ⟨_, _, rfl, rfl, Int.emod_nonneg _ (by decide), Int.emod_lt_of_pos _ (by decide)⟩
    · rintro σ H' ⟨g, v, rfl, rfl, g0, g1⟩
      intro p hp
      refine ⟨_, rfl, a, _, rfl, .inl ((Same.seq (H := H') (H' := upd H' p (.dK [])) (fun b o e => by rw [upd_ne (ne_of_none e hp)]; exact e)) hS), fun l hl => ?_⟩
      have lp : l ≠ p := fun q => by
        rw [q, upd_same] at hl
        cases hl
      have hl0 : H' l = none := by
        rw [upd_ne lp] at hl
        exact hl
      refine ⟨_, rfl, by rw [upd_ne lp.symm, upd_same], [(kCe, .ref l), (kAt, .int 0), (kDi, .int 0), (kCo, .int 0), (kFo, .int g)], rfl, (by show 5 ≤ 15; decide), ?_⟩
      let z : Pen := ⟨l, ns, 0, 0, 0, g⟩
      have em : mergeK [] [(kCe, V.ref l), (kAt, .int 0), (kDi, .int 0), (kCo, .int 0), (kFo, .int g)] = z.kvs := by
        simp [mergeK, putK, z, Pen.kvs, ce_at, ce_di, ce_co, ce_fo, at_di, at_co, at_fo, di_co, di_fo, co_fo]
      rw [em]
      refine k p z _ (fun b o e => ?_) hp rfl ⟨upd_same, ?_, ⟨Int.le_refl 0, by show (0 : Int) ≤ (ns.length : Int); omega, Int.le_refl 0, Int.le_refl 0, g0, by show g < 2147483587; omega⟩⟩
      · rw [upd_ne (ne_of_none e hp), upd_ne (ne_of_none e hl0), upd_ne (ne_of_none e hp)]
        exact e
      · show upd _ p _ l = _
        rw [upd_ne lp, upd_same]

theorem scDraw : FnScope ["_law_pen_here", "_law_many", "_law_cell", "_law_digit", "_law_mixed"] ["_law_pen_here", "_law_many"] (defScope sDraw) := ⟨rfl, rfl, rfl, by decide +kernel, rfl, by decide +kernel, by decide +kernel⟩
theorem fmod_in {x m : Int} (h : 0 < m) : 0 ≤ x.fmod m ∧ x.fmod m < m := ⟨by rw [Int.fmod_eq_emod_of_nonneg _ (Int.le_of_lt h)]; exact Int.emod_nonneg _ (Int.ne_of_gt h), Int.fmod_lt_of_pos x h⟩
theorem fdiv_nn {x m : Int} (h : 0 ≤ x) (hm : 0 < m) : 0 ≤ x.fdiv m := by
  rw [Int.fdiv_eq_ediv_of_nonneg _ (Int.le_of_lt hm)]
  exact Int.ediv_nonneg h (Int.le_of_lt hm)
theorem ok_draw {f : Addr} {fd : FuncData} (F : Fun K "_law_draw" "_law_draw" sDraw f fd) (T : PenTxt mg) : FnOk P w K mg base CX0 1 f fd ["_law_pen_here", "_law_many"] spDraw := by
  refine F.ok scDraw (fun vs H Q E h => ?_) (fun cdv A outer s H vs Q E hr h => ?_)
  · obtain ⟨p, z, m, rfl, _⟩ := h
    rfl
  · obtain ⟨p, z, m, rfl, Z, m0, m1, hc, k⟩ := h
    have hu := hu_of hr
    refine ⟨_, pss_cons (ps_dput hu (pv 0) pe_str (pe_op op_add (pe_dget hu (pv 0) pe_str (fun _ _ => rfl)) pe_int) rfl)
      (pss_cons (ps_if (PW.pt (pw_and (pt_cmpR op_eq (pe_dget hu (pv 0) pe_str (fun _ _ => rfl)) pe_int (nomark _)) (pw_and1 (pt_cmpR op_lt (pe_dget hu (pv 0) pe_str (fun _ _ => rfl)) (pe_callB call_len_seq (by rfl) T.len PySem.boot_len (pa_cons (pe_dget hu (pv 0) pe_str (fun _ _ => rfl)) pa_nil)) (nomark _)))))
        (pss_cons (ps_set (i := 2) scDraw.nd rfl (Or.inl rfl) (pe_ix ix_list (pe_dget hu (pv 0) pe_str (fun _ _ => rfl)) (pe_dget hu (pv 0) pe_str (fun _ _ => rfl)) (fun _ _ => rfl)))
        (pss_cons (ps_dput hu (pv 0) pe_str (pe_op op_add (pe_dget hu (pv 0) pe_str (fun _ _ => rfl)) pe_int) rfl)
        (pss_one (ps_if (pt_cmpR op_ge (pv 2) (pe_op op_pow pe_int pe_int) (nomark _))
          (pss_one (ps_dput hu (pv 0) pe_str (pe_op op_sub (pv 2) (pe_op op_pow pe_int pe_int)) rfl))
          (pss_one (ps_dput hu (pv 0) pe_str (pe_op op_mod (pe_callTy call_int1 (by rfl) T.int (by decide +kernel) (pa_cons (pe_op op_add (pe_op op_mul (pe_dget hu (pv 0) pe_str (fun _ _ => rfl)) pe_int) (pv 2)) pa_nil)) pe_int) rfl))))))
        pss_nil)
      (pss_cons (ps_if (pt_cmpR op_gt (pe_dget hu (pv 0) pe_str (fun _ _ => rfl)) pe_int (nomark _))
        (pss_cons (ps_set (i := 3) scDraw.nd rfl (Or.inl rfl) (pe_op op_modN (pe_callTy call_int1 (by rfl) T.int (by decide +kernel) (pa_cons (pe_dget hu (pv 0) pe_str (fun _ _ => rfl)) pa_nil)) (pv 1)))
        (pss_cons (ps_dput hu (pv 0) pe_str (pe_op op_fdivL (pe_dget hu (pv 0) pe_str (fun _ _ => rfl)) (pv 1)) rfl)
        (pss_one (ps_ret (pv 3)))))
        pss_nil)
      (pss_cons (ps_set (i := 4) scDraw.nd rfl (Or.inl rfl) (pe_op op_add (pe_op op_add (pe_dget hu (pv 0) pe_str (fun _ _ => rfl)) (pe_op op_mul (pe_dget hu (pv 0) pe_str (fun _ _ => rfl)) pe_int)) pe_int))
      (pss_one (ps_ret (pe_op op_modN (pe_op op_fdiv (pe_callTy call_int1 (by rfl) T.int (by decide +kernel) (pa_cons (pe_op op_mod (pe_op op_pow (pv 4) pe_int) pe_int) pa_nil)) pe_int) (pv 1))))))), ?_⟩
    -- count + 1
    refine ⟨_, rfl, p, _, rfl, dget Z.at_ (pen_co z), _, _, rfl, rfl, _, rfl, p, _, rfl, dput Z.at_ (pen_len z) (put_co z (z.c + 1)), ?_⟩
    have Z1 : PenAt (upd H p (.dK ({ z with c := z.c + 1 } : Pen).kvs)) p { z with c := z.c + 1 } := Z.put rfl rfl ⟨Z.ok.i0, Z.ok.i1, Z.ok.d0, by show (0 : Int) ≤ z.c + 1; have := Z.ok.c0; omega, Z.ok.f0, Z.ok.f1⟩
    have k1 : ∀ (r : Int) (z' : Pen), 0 ≤ r → r < m → Pen.Go 0 { z with c := z.c + 1 } z' → Q (.int r) (upd (upd H p (.dK ({ z with c := z.c + 1 } : Pen).kvs)) p (.dK z'.kvs)) := fun r z' r0 r1 g => by
      rw [upd_upd]
      exact k r z' r0 r1 ⟨g.l, g.ns, by have e : z'.c = (z.c + 1) + 0 := g.c; omega, g.ok⟩
    have hc1 : ({ z with c := z.c + 1 } : Pen).c ≤ 1000000000000 := by show z.c + 1 ≤ _; omega
    generalize ({ z with c := z.c + 1 } : Pen) = z1 at Z1 k1 hc1
    generalize upd H p (.dK z1.kvs) = H1 at Z1 k1
    have step : ∀ (Ha : Hp) (za zb : Pen), PenAt Ha p za → (∀ (r : Int) (z' : Pen), 0 ≤ r → r < m → Pen.Go 0 za z' → Q (.int r) (upd Ha p (.dK z'.kvs))) → za.c ≤ 1000000000000 →
        zb.l = za.l → zb.ns = za.ns → zb.c = za.c → zb.Ok →
        PenAt (upd Ha p (.dK zb.kvs)) p zb ∧ (∀ (r : Int) (z' : Pen), 0 ≤ r → r < m → Pen.Go 0 zb z' → Q (.int r) (upd (upd Ha p (.dK zb.kvs)) p (.dK z'.kvs))) ∧ zb.c ≤ 1000000000000 := fun Ha za zb Za ka ca el en ec ok =>
      ⟨Za.put el en ok, fun r z' r0 r1 g => by
        rw [upd_upd]
        exact ka r z' r0 r1 ⟨g.l.trans el, g.ns.trans en, by rw [g.c, ec], g.ok⟩, by rw [ec]; exact ca⟩
    -- if digits == 0 and at < len(cells)
    refine ⟨_, rfl, p, _, rfl, dget Z1.at_ (pen_di z1), rfl, _, rfl, ?_⟩
    refine ite2 (fun _ => ?_) (fun _ => ?_)
    · refine ⟨_, rfl, p, _, rfl, dget Z1.at_ (pen_at z1), _, rfl, p, _, rfl, dget Z1.at_ (pen_ce z1), z1.l, _, rfl, .inl (SqL.of Z1.cells), _, _, rfl, rfl, _, rfl, ?_⟩
      refine ite2 (fun lt => ?_) (fun _ => ?_)
      · have lt' : z1.i < (z1.ns.length : Int) := by
          have q := of_decide_eq_true lt
          rw [List.length_map] at q
          exact q
        have i0 := Z1.ok.i0
        have hn : z1.i.toNat < z1.ns.length := by omega
        refine ⟨_, rfl, p, _, rfl, dget Z1.at_ (pen_ce z1), _, rfl, p, _, rfl, dget Z1.at_ (pen_at z1), z1.l, _, _, V.int (z1.ns[z1.i.toNat]), rfl, rfl, SqL.of Z1.cells, atI_nat' i0 (by simp [hn]), ?_⟩
        generalize z1.ns[z1.i.toNat] = cell
        refine ⟨_, rfl, p, _, rfl, dget Z1.at_ (pen_at z1), _, _, rfl, rfl, _, rfl, p, _, rfl, dput Z1.at_ (pen_len z1) (put_at z1 (z1.i + 1)), ?_⟩
        obtain ⟨Z2, k2, hc2⟩ := step H1 z1 { z1 with i := z1.i + 1 } Z1 k1 hc1 rfl rfl rfl ⟨by show (0 : Int) ≤ z1.i + 1; omega, by show z1.i + 1 ≤ (z1.ns.length : Int); omega, Z1.ok.d0, Z1.ok.c0, Z1.ok.f0, Z1.ok.f1⟩
        generalize ({ z1 with i := z1.i + 1 } : Pen) = z2 at Z2 k2 hc2
        generalize upd H1 p (.dK z2.kvs) = H2 at Z2 k2
        refine ⟨_, rfl, _, _, rfl, rfl, ⟨by decide, by decide, by decide⟩, _, _, rfl, rfl, _, rfl, ?_⟩
        refine ite2 (fun ge => ?_) (fun _ => ?_)
        · have ge' := of_decide_eq_true ge
          refine ⟨_, rfl, _, _, rfl, rfl, ⟨by decide, by decide, by decide⟩, _, _, rfl, rfl, _, rfl, p, _, rfl, dput Z2.at_ (pen_len z2) (put_di z2 _), ?_⟩
          obtain ⟨Z3, k3, hc3⟩ := step H2 z2 { z2 with d := cell - 10 ^ (18 : Int).toNat } Z2 k2 hc2 rfl rfl rfl ⟨Z2.ok.i0, Z2.ok.i1, Int.sub_nonneg.mpr ge', Z2.ok.c0, Z2.ok.f0, Z2.ok.f1⟩
          generalize ({ z2 with d := cell - 10 ^ (18 : Int).toNat } : Pen) = z3 at Z3 k3 hc3
          generalize upd H2 p (.dK z3.kvs) = H3 at Z3 k3
          refine ⟨_, rfl, p, _, rfl, dget Z3.at_ (pen_di _), _, _, rfl, rfl, _, rfl, ?_⟩
          refine ite2 (fun dg => ?_) (fun _ => ?_)
          · have dg' := of_decide_eq_true dg
            refine ⟨_, rfl, p, _, rfl, dget Z3.at_ (pen_di _), .inl ⟨_, rfl, _, rfl, _, _, rfl, rfl, (by omega), ?_⟩⟩
            refine ⟨_, rfl, p, _, rfl, dget Z3.at_ (pen_di _), _, rfl, _, _, rfl, rfl, ⟨by omega, lg_ok m0 m1⟩, _, rfl, p, _, rfl, dput Z3.at_ (pen_len _) (put_di _ _), ?_⟩
            refine ⟨_, rfl, ?_⟩
            exact k3 _ _ (fmod_in m0).1 (fmod_in m0).2 ⟨rfl, rfl, (Int.add_zero _).symm, ⟨Z3.ok.i0, Z3.ok.i1, fdiv_nn Z3.ok.d0 m0, Z3.ok.c0, Z3.ok.f0, Z3.ok.f1⟩⟩
          · have f0 := Z3.ok.f0
            have f1 := Z3.ok.f1
            have c0 := Z3.ok.c0
            refine ⟨_, rfl, p, _, rfl, dget Z3.at_ (pen_fo _), _, rfl, p, _, rfl, dget Z3.at_ (pen_co _), _, _, rfl, rfl, .inl ⟨by omega, by omega⟩, _, _, rfl, rfl, _, _, rfl, rfl, ?_⟩
            refine ⟨_, rfl, _, _, rfl, rfl, ⟨by decide, by decide, by omega⟩, _, _, rfl, rfl, (by show (0 : Int) < 2305843009213693951; decide), .inl ⟨_, rfl, _, _, rfl, rfl, ⟨by decide, by decide⟩, _, rfl, _, _, rfl, rfl, (by omega), ?_⟩⟩
            exact q_back (Q := Q) Z3.at_ (k3 _ _ (fmod_in m0).1 (fmod_in m0).2 ⟨rfl, rfl, (Int.add_zero _).symm, Z3.ok⟩)
        · have f0 := Z2.ok.f0
          have f1 := Z2.ok.f1
          refine ⟨_, rfl, p, _, rfl, dget Z2.at_ (pen_fo z2), _, _, rfl, rfl, .inl ⟨by omega, by omega⟩, _, rfl, _, _, rfl, rfl, .inl ⟨_, rfl, _, _, rfl, rfl, (by show (0 : Int) < 2147483587; decide), ?_⟩⟩
          refine ⟨_, rfl, p, _, rfl, dput Z2.at_ (pen_len z2) (put_fo z2 _), ?_⟩
          obtain ⟨Z3, k3, hc3⟩ := step H2 z2 { z2 with f := (z2.f * 69069 + cell) % 2147483587 } Z2 k2 hc2 rfl rfl rfl ⟨Z2.ok.i0, Z2.ok.i1, Z2.ok.d0, Z2.ok.c0, Int.emod_nonneg _ (by decide), Int.emod_lt_of_pos _ (by decide)⟩
          generalize ({ z2 with f := (z2.f * 69069 + cell) % 2147483587 } : Pen) = z3 at Z3 k3 hc3
          generalize upd H2 p (.dK z3.kvs) = H3 at Z3 k3
          refine ⟨_, rfl, p, _, rfl, dget Z3.at_ (pen_di _), _, _, rfl, rfl, _, rfl, ?_⟩
          refine ite2 (fun dg => ?_) (fun _ => ?_)
          · have dg' := of_decide_eq_true dg
            refine ⟨_, rfl, p, _, rfl, dget Z3.at_ (pen_di _), .inl ⟨_, rfl, _, rfl, _, _, rfl, rfl, (by omega), ?_⟩⟩
            refine ⟨_, rfl, p, _, rfl, dget Z3.at_ (pen_di _), _, rfl, _, _, rfl, rfl, ⟨by omega, lg_ok m0 m1⟩, _, rfl, p, _, rfl, dput Z3.at_ (pen_len _) (put_di _ _), ?_⟩
            refine ⟨_, rfl, ?_⟩
            exact k3 _ _ (fmod_in m0).1 (fmod_in m0).2 ⟨rfl, rfl, (Int.add_zero _).symm, ⟨Z3.ok.i0, Z3.ok.i1, fdiv_nn Z3.ok.d0 m0, Z3.ok.c0, Z3.ok.f0, Z3.ok.f1⟩⟩
          · have f0 := Z3.ok.f0
            have f1 := Z3.ok.f1
            have c0 := Z3.ok.c0
            refine ⟨_, rfl, p, _, rfl, dget Z3.at_ (pen_fo _), _, rfl, p, _, rfl, dget Z3.at_ (pen_co _), _, _, rfl, rfl, .inl ⟨by omega, by omega⟩, _, _, rfl, rfl, _, _, rfl, rfl, ?_⟩
            refine ⟨_, rfl, _, _, rfl, rfl, ⟨by decide, by decide, by omega⟩, _, _, rfl, rfl, (by show (0 : Int) < 2305843009213693951; decide), .inl ⟨_, rfl, _, _, rfl, rfl, ⟨by decide, by decide⟩, _, rfl, _, _, rfl, rfl, (by omega), ?_⟩⟩
            exact q_back (Q := Q) Z3.at_ (k3 _ _ (fmod_in m0).1 (fmod_in m0).2 ⟨rfl, rfl, (Int.add_zero _).symm, Z3.ok⟩)
      · have Z3 := Z1
        have k3 := k1
        have hc3 := hc1
        refine ⟨_, rfl, p, _, rfl, dget Z3.at_ (pen_di _), _, _, rfl, rfl, _, rfl, ?_⟩
        refine ite2 (fun dg => ?_) (fun _ => ?_)
        · have dg' := of_decide_eq_true dg
          refine ⟨_, rfl, p, _, rfl, dget Z3.at_ (pen_di _), .inl ⟨_, rfl, _, rfl, _, _, rfl, rfl, (by omega), ?_⟩⟩
          refine ⟨_, rfl, p, _, rfl, dget Z3.at_ (pen_di _), _, rfl, _, _, rfl, rfl, ⟨by omega, lg_ok m0 m1⟩, _, rfl, p, _, rfl, dput Z3.at_ (pen_len _) (put_di _ _), ?_⟩
          refine ⟨_, rfl, ?_⟩
          exact k3 _ _ (fmod_in m0).1 (fmod_in m0).2 ⟨rfl, rfl, (Int.add_zero _).symm, ⟨Z3.ok.i0, Z3.ok.i1, fdiv_nn Z3.ok.d0 m0, Z3.ok.c0, Z3.ok.f0, Z3.ok.f1⟩⟩
        · have f0 := Z3.ok.f0
          have f1 := Z3.ok.f1
          have c0 := Z3.ok.c0
          refine ⟨_, rfl, p, _, rfl, dget Z3.at_ (pen_fo _), _, rfl, p, _, rfl, dget Z3.at_ (pen_co _), _, _, rfl, rfl, .inl ⟨by omega, by omega⟩, _, _, rfl, rfl, _, _, rfl, rfl, ?_⟩
          refine ⟨_, rfl, _, _, rfl, rfl, ⟨by decide, by decide, by omega⟩, _, _, rfl, rfl, (by show (0 : Int) < 2305843009213693951; decide), .inl ⟨_, rfl, _, _, rfl, rfl, ⟨by decide, by decide⟩, _, rfl, _, _, rfl, rfl, (by omega), ?_⟩⟩
          exact q_back (Q := Q) Z3.at_ (k3 _ _ (fmod_in m0).1 (fmod_in m0).2 ⟨rfl, rfl, (Int.add_zero _).symm, Z3.ok⟩)
    · have Z3 := Z1
      have k3 := k1
      have hc3 := hc1
      refine ⟨_, rfl, p, _, rfl, dget Z3.at_ (pen_di _), _, _, rfl, rfl, _, rfl, ?_⟩
      refine ite2 (fun dg => ?_) (fun _ => ?_)
      · have dg' := of_decide_eq_true dg
        refine ⟨_, rfl, p, _, rfl, dget Z3.at_ (pen_di _), .inl ⟨_, rfl, _, rfl, _, _, rfl, rfl, (by omega), ?_⟩⟩
        refine ⟨_, rfl, p, _, rfl, dget Z3.at_ (pen_di _), _, rfl, _, _, rfl, rfl, ⟨by omega, lg_ok m0 m1⟩, _, rfl, p, _, rfl, dput Z3.at_ (pen_len _) (put_di _ _), ?_⟩
        refine ⟨_, rfl, ?_⟩
        exact k3 _ _ (fmod_in m0).1 (fmod_in m0).2 ⟨rfl, rfl, (Int.add_zero _).symm, ⟨Z3.ok.i0, Z3.ok.i1, fdiv_nn Z3.ok.d0 m0, Z3.ok.c0, Z3.ok.f0, Z3.ok.f1⟩⟩
      · have f0 := Z3.ok.f0
        have f1 := Z3.ok.f1
        have c0 := Z3.ok.c0
        refine ⟨_, rfl, p, _, rfl, dget Z3.at_ (pen_fo _), _, rfl, p, _, rfl, dget Z3.at_ (pen_co _), _, _, rfl, rfl, .inl ⟨by omega, by omega⟩, _, _, rfl, rfl, _, _, rfl, rfl, ?_⟩
        refine ⟨_, rfl, _, _, rfl, rfl, ⟨by decide, by decide, by omega⟩, _, _, rfl, rfl, (by show (0 : Int) < 2305843009213693951; decide), .inl ⟨_, rfl, _, _, rfl, rfl, ⟨by decide, by decide⟩, _, rfl, _, _, rfl, rfl, (by omega), ?_⟩⟩
        exact q_back (Q := Q) Z3.at_ (k3 _ _ (fmod_in m0).1 (fmod_in m0).2 ⟨rfl, rfl, (Int.add_zero _).symm, Z3.ok⟩)

theorem scPick : FnScope ["_law_pen_here", "_law_some"] ["_law_pen_here", "_law_some"] (defScope sPick) := ⟨rfl, rfl, rfl, by decide +kernel, rfl, by decide +kernel, by decide +kernel⟩
theorem ok_pick {f fD : Addr} {fd fdD : FuncData} (F : Fun K "_law_pick" "_law_pick" sPick f fd) (T : PenTxt mg) (FD : Fun K "_law_draw" "_law_draw" sDraw fD fdD) (bD : Binds K fdD ["_law_pen_here", "_law_many"] []) (gD : mg "_law_draw" = some (.ref fD)) :
    FnOk P w K mg base CX0 2 f fd ["_law_pen_here", "_law_some"] (spPick K) := by
  have GD : FnOk P w K mg base CX0 1 fD fdD ["_law_pen_here", "_law_many"] spDraw := ok_draw FD T
  refine F.ok scPick (fun vs H Q E h => ?_) (fun cdv A outer s H vs Q E hr h => ?_)
  · obtain ⟨p, q, z, xs, rfl, _⟩ := h
    rfl
  · obtain ⟨p, q, z, xs, rfl, Z, hq, h0, h1, hc, k⟩ := h
    refine ⟨_, pss_one (ps_ret (pe_ix ix_list (pv 1) (pe_call GD hr rfl gD FD.kp bD .nil pass0 (pa_cons (pv 0) (pa_cons (pe_callB call_len_seq (by rfl) T.len PySem.boot_len (pa_cons (pv 1) pa_nil)) pa_nil))) (fun _ _ => rfl))), ?_⟩
    refine ⟨_, rfl, _, rfl, _, rfl, q, _, rfl, .inl (SqL.of hq), p, z, _, rfl, Z, by omega, by omega, hc, fun r z' r0 r1 g => ?_⟩
    have qp : q ≠ p := ne_of hq Z.at_ (by intro x; cases x)
    have hn : r.toNat < xs.length := by omega
    refine ⟨q, xs, r, xs[r.toNat], rfl, rfl, SqL.of (by rw [upd_ne qp]; exact hq), atI_nat' r0 (by simp [hn]), ?_⟩
    exact k _ z' (List.getElem_mem hn) g
end
/-! ### the pen, and the heap but for it -/
def CPowW (i j : Int) : Prop := 0 ≤ j ∧ (Builtin.Int.intBits i : Int) * j ≤ 2 ^ 27
theorem op_powW {X : Cx} : OpR X (binaryOp .Pow) (rI CPowW fun i j => .int (i ^ j.toNat)) := opI fun _ _ _ _ _ _ _ hc q => pow_int hc.1 hc.2 q
/-- the pen's heap: all but the pen stays -/
structure PS (H0 : Hp) (p : Addr) (n : Int) (H : Hp) (z : Pen) : Prop where
  pen : PenAt H p z
  c : z.c ≤ n
  keep : ∀ b o, b ≠ p → H0 b = some o → H b = some o
  l : ∀ y, PenAt H0 p y → z.l = y.l
theorem PenAt.one {H : Hp} {p : Addr} {y z : Pen} (a : PenAt H p y) (b : PenAt H p z) : y.l = z.l := by
  have e := a.at_.symm.trans b.at_
  have e2 : y.kvs = z.kvs := by
    have q := Option.some.inj e
    exact HO.dK.inj q
  have e3 := (pen_ce y).symm.trans (e2 ▸ pen_ce z)
  exact V.ref.inj (Option.some.inj e3)
theorem PS.start {H : Hp} {p : Addr} {z : Pen} (h : PenAt H p z) : PS H p z.c H z := ⟨h, Int.le_refl _, fun _ _ _ e => e, fun _ k => h.one k⟩
theorem PS.same {H0 H H' : Hp} {p : Addr} {n : Int} {z : Pen} (h : PS H0 p n H z) (s : Same H H') : PS H0 p n H' z := ⟨h.pen.same s, h.c, fun b o nb e => s _ _ (h.keep b o nb e), h.l⟩
theorem PS.new {H0 H : Hp} {p q : Addr} {n : Int} {z : Pen} {o : HO} (h : PS H0 p n H z) (nq : H q = none) : PS H0 p n (upd H q o) z := h.same (same_new nq)
theorem PS.draw {H0 H : Hp} {p : Addr} {n : Int} {z z' : Pen} (h : PS H0 p n H z) (g : Pen.Go 1 z z') : PS H0 p (n + 1) (upd H p (.dK z'.kvs)) z' :=
  ⟨h.pen.put g.l g.ns g.ok, by have := g.c; have := h.c; omega, fun b o nb e => by rw [upd_ne nb]; exact h.keep b o nb e, fun y k => g.l.trans (h.l y k)⟩
theorem PS.le {H0 H : Hp} {p : Addr} {n m : Int} {z : Pen} (h : PS H0 p n H z) (k : n ≤ m) : PS H0 p m H z := ⟨h.pen, Int.le_trans h.c k, h.keep, h.l⟩
theorem PS.step {H0 H H' : Hp} {p : Addr} {n m : Int} {z z' : Pen} (h : PS H0 p n H z) (k : PS H p m H' z') : PS H0 p m H' z' := ⟨k.pen, k.c, fun b o nb e => k.keep b o nb (h.keep b o nb e), fun y q => (k.l z h.pen).trans (h.l y q)⟩
theorem PS.none {H0 H : Hp} {p a : Addr} {n : Int} {z : Pen} (h : PS H0 p n H z) (hp : H0 p ≠ none) (e : H a = Option.none) : H0 a = Option.none := by
  cases q : H0 a with
  | none => rfl
  | some o =>
    by_cases ap : a = p
    · rw [ap, h.pen.at_] at e
      cases e
    · rw [h.keep a o ap q] at e
      cases e
end Nm
namespace Nm
open PySem PySem.Spec PyProof.Rows L2
/-! ### the law's words -/
/-- the signs of t that are none of s, each a 1 -/
def odd1 (t s : Str) (i : Nat) : List V := (((codes t).take i).filter fun c => !decide (c ∈ codes s)).map fun _ => V.int 1
theorem dpAll_ones {K : PySem.W.Frag} {H : Hp} : ∀ xs : List Nat, DpAll K H (xs.map fun _ => V.int 1) (xs.map fun _ => PyData.int 1)
  | [] => .nil
  | _ :: r => .cons (.int 1) (dpAll_ones r)
theorem canLay_ones : ∀ xs : List Nat, PyData.canLayAll0 (xs.map fun _ => PyData.int 1) = true ∧ PyData.depthAll (xs.map fun _ => PyData.int 1) = 0
  | [] => ⟨rfl, rfl⟩
  | x :: r => by
    obtain ⟨h1, h2⟩ := canLay_ones r
    exact ⟨by simp [PyData.canLayAll0, PyData.canLay0, h1], by simp [PyData.depthAll, PyData.depth, h2]⟩
theorem shaped_ones (xs : List Nat) : SeqAt.shaped (.list (xs.map fun _ => PyData.int 1)) = true := by
  obtain ⟨h1, h2⟩ := canLay_ones xs
  simp [SeqAt.shaped, PyData.canLay0, PyData.depth, h1, h2]
theorem eqv_ones (t s : Str) : PyData.eqv (.list (((codes t).filter fun c => !decide (c ∈ codes s)).map fun _ => PyData.int 1)) (.list []) = allIn t s := by
  unfold allIn
  cases e : (codes t).filter fun c => !decide (c ∈ codes s) with
  | nil =>
    have h : ∀ c ∈ codes t, decide (c ∈ codes s) = true := fun c hc => by
      have := List.filter_eq_nil_iff.mp e c hc
      simpa using this
    rw [List.all_eq_true.mpr h]
    simp [PyData.eqv, PyData.eqvAll]
  | cons c r =>
    have m : c ∈ (codes t).filter fun c => !decide (c ∈ codes s) := by rw [e]; exact List.mem_cons_self
    obtain ⟨m1, m2⟩ := List.mem_filter.mp m
    have h : ((codes t).all fun c => decide (c ∈ codes s)) = false := List.all_eq_false.mpr ⟨c, m1, by simpa using m2⟩
    rw [h]
    simp [PyData.eqv, PyData.eqvAll]

theorem small_big {n : Nat} (h : n ≤ 1000000) : n < sizeLine := Nat.lt_of_le_of_lt h (by decide)
theorem atI0 {α : Type} {c : α} {r l : List α} (e : l = c :: r) : atI l 0 = some c := by
  rw [e]
  exact atI_nat (by rfl)
section
variable {P : Program} {w : World} {K : PySem.W.Frag} {mg : Str → Option Value} {base : Heap}
/-- [1 for sign in t if sign not in s] -/
theorem rd_odd {n : Nat} {H0 : Hp} {σ : L2.St} {t s : Str} {tt : TT} {Qd : Addr → Hp → Prop} (ht : t.length ≤ 900000) (hw : ∀ v, wipe ((wipe σ [n]).set n (some v)) [n] = wipe σ [n])
    (htt : ∀ (H : Hp) (c : Nat) (Q : Bool → Hp → Prop), Same H0 H → Q (!decide (c ∈ codes s)) H → tt ((wipe σ [n]).set n (some (.str ⟨#[c]⟩))) H Q)
    (hd : ∀ (D : Addr) (H : Hp), Same H0 H → H D = some (.lst (((codes t).filter fun c => !decide (c ∈ codes s)).map fun _ => V.int 1)) → Qd D H) :
    ∀ D, H0 D = none → ∃ W : Nat → Nat → Hp → Prop, (∃ m, W 0 m (upd H0 D (.lst []))) ∧ ∀ i m H, W i m H →
      ((Its t).stop i H ∧ Qd D H) ∨ ((Its t).go i H ∧ ∃ Nx : Hp → Prop, (∀ H', Nx H' → ∃ m', m' < m ∧ W (i + 1) m' H') ∧ ∀ x H', (Its t).yld i H x H' → gName n x (wipe σ [n]) H' fun σ2 H2 => wipe σ2 [n] = wipe σ [n] ∧ tt σ2 H2 fun b H3 =>
        if b = true then tC (.int 1) σ2 H3 fun y H4 => ∃ acc, H4 D = some (.lst acc) ∧ acc.length < sizeLine ∧ Nx (upd H4 D (.lst (acc ++ [y]))) else Nx H3) := by
  intro D nD
  refine lc_it (walk_str (z := t)) (te := tC (.int 1)) (g := gName n) (tt := tt) (Qd := Qd D) (fun i H => Same H0 H ∧ H D = some (.lst (odd1 t s i))) ⟨same_new nD, upd_same⟩ (fun _ _ _ _ => True.intro) ?_ ?_
  · rintro i x H1 H2 hi ⟨s1, hD⟩ ⟨rfl, c, hc, rfl⟩
    have hc' : (codes t)[i]? = some c := by simpa using hc
    refine ⟨hw _, ?_⟩
    refine htt _ c _ s1 ?_
    have st : odd1 t s (i + 1) = if decide (c ∈ codes s) = true then odd1 t s i else odd1 t s i ++ [.int 1] := by
      unfold odd1
      have fc : ((some c).toList.filter fun c => !decide (c ∈ codes s)) = if decide (c ∈ codes s) = true then [] else [c] := by
        show List.filter _ [c] = _
        cases h : decide (c ∈ codes s) <;> simp only [List.filter, h] <;> rfl
      rw [List.take_add_one, hc', List.filter_append, List.map_append, fc]
      cases decide (c ∈ codes s) with
      | true => exact List.append_nil _
      | false => rfl
    by_cases m : c ∈ codes s
    · refine ite_no (by rw [decide_eq_true m]; rfl) ⟨s1, ?_⟩
      rw [st, if_pos (decide_eq_true m)]
      exact hD
    · refine ite_yes (by rw [decide_eq_false m]; rfl) ?_
      refine ⟨_, hD, ?_, ?_, ?_⟩
      · have l : (odd1 t s i).length ≤ (codes t).length := by
          unfold odd1
          rw [List.length_map]
          exact Nat.le_trans (List.length_filter_le _ _) (List.length_take_le' _ _)
        rw [← len_codes] at l
        exact small_big (by omega)
      · intro b o e
        rw [upd_ne (ne_of_none e nD)]
        exact s1 b o e
      · rw [upd_same, st, if_neg (by rw [decide_eq_false m]; exact Bool.false_ne_true)]
  · rintro H1 ⟨s1, hD⟩
    refine hd D H1 s1 ?_
    have l : t.cps.size = (codes t).length := by simp
    rw [l] at hD
    unfold odd1 at hD
    rw [List.take_length] at hD
    exact hD


def sLET : Str := "abcdefghijklmnopqrstuvwxyzABCDEFGHIJKLMNOPQRSTUVWXYZ0123456789_"
theorem let_all : ∀ c, c ∈ codes sLET ↔ c ∈ codes sALL := by
  have h1 : (codes sLET).all (fun c => decide (c ∈ codes sALL)) = true := by decide +kernel
  have h2 : (codes sALL).all (fun c => decide (c ∈ codes sLET)) = true := by decide +kernel
  exact fun c => ⟨fun h => of_decide_eq_true (List.all_eq_true.mp h1 c h), fun h => of_decide_eq_true (List.all_eq_true.mp h2 c h)⟩
theorem allIn_let (w : Str) : allIn w sLET = allIn w sALL := by
  unfold allIn
  congr 1
  funext c
  by_cases h : c ∈ codes sALL
  · rw [decide_eq_true h, decide_eq_true ((let_all c).mpr h)]
  · rw [decide_eq_false h, decide_eq_false fun z => h ((let_all c).mp z)]
theorem sign_is (c n : Nat) {z : Str} (hz : codes z = [n]) : decide (V.str ⟨#[c]⟩ = V.str z) = decide (c = n) := by
  rw [dec_str]
  by_cases h : c = n
  · rw [decide_eq_true h, decide_eq_true]
    exact str_ext (by rw [hz, ← h])
  · have q : ¬ (⟨#[c]⟩ : Str) = z := fun y => h (by
      have y2 : [c] = codes z := congrArg codes y
      rw [hz] at y2
      exact (List.cons.inj y2).1)
    rw [decide_eq_false h, decide_eq_false q]
structure LTxt (mg : Str → Option Value) : Prop where
  len : mg "len" = none
  range : mg "range" = none
  isinstance : mg "isinstance" = none
  str : mg "str" = none
  int : mg "int" = none
  bool : mg "bool" = none
  tuple : mg "tuple" = none
  list : mg "list" = none
/-- an integer from 0 on as it is written -/
def isCnt (w : Str) : Bool := !decide (w = "") && (allIn w sDIG && (decide (w = "0") || !decide (hd w = 48)))
/-- a big name, or # and an integer -/
def isMet (w : Str) : Bool := if decide (cutS w none (some 1) = "#") = true then (isCnt (cutS w (some 1) none) || (decide (cutS w (some 1) (some 2) = "-") && (!decide (cutS w (some 2) (some 3) = "0") && isCnt (cutS w (some 2) none)))) else isName w sBIG
def isPart (k : Nat) (p : Str) : Bool := if k % 2 = 0 then isCnt p else isMet p
def okParts : Nat → List Str → Bool
  | _, [] => true
  | k, p :: r => isPart k p && okParts (k + 1) r
/-- a LINE -/
def isLin (w : Str) : Bool := decide (cutS w none (some 2) = "m:") && (!decide ((Txt.split (cutS w (some 2) none) ".").length % 2 = 1) && okParts 0 (Txt.split (cutS w (some 2) none) "."))
def spB (f : Str → Bool) : Sp := fun vs H Q _ => ∃ w : Str, vs = [.str w] ∧ w.length ≤ 900000 ∧ ∀ H', Same H H' → Q (.bl (f w)) H'
def spNm : Sp := fun vs H Q _ => ∃ w f : Str, vs = [.str w, .str f] ∧ w.length ≤ 900000 ∧ ∀ H', Same H H' → Q (.bl (isName w f)) H'
theorem cut_len (w : Str) (i j : Option Int) : (cutS w i j).length ≤ w.length := by
  rw [len_codes, len_codes w]
  show ((w.cps.toList.drop _).take _).toArray.toList.length ≤ w.cps.toList.length
  simp only [List.length_take, List.length_drop]
  omega
theorem okParts_snoc : ∀ (ps : List Str) (k : Nat), okParts k ps = true ↔ ∀ (i : Nat) (p : Str), ps[i]? = some p → isPart (k + i) p = true
  | [], k => ⟨fun _ i p e => (by cases e), fun _ => rfl⟩
  | q :: r, k => by
    unfold okParts
    rw [Bool.and_eq_true_iff, okParts_snoc r (k + 1)]
    constructor
    · rintro ⟨h1, h2⟩ i p e
      cases i with
      | zero =>
        cases e
        exact h1
      | succ i =>
        have := h2 i p e
        rwa [show k + 1 + i = k + (i + 1) by omega] at this
    · intro h
      refine ⟨h 0 q rfl, fun i p e => ?_⟩
      have := h (i + 1) p e
      rwa [show k + 1 + i = k + (i + 1) by omega]

abbrev sLcounts : Stmt := top 27
abbrev NLcounts : List Str := ["_law_word", "_law_sign"]
abbrev PLcounts : List Str := ["_law_word"]
theorem scLcounts : FnScope NLcounts PLcounts (defScope sLcounts) := ⟨rfl, rfl, rfl, by decide +kernel, rfl, by decide +kernel, by decide +kernel⟩

theorem ok_cnt {f : Addr} {fd : FuncData} (F : Fun K "_law_counts" "_law_counts" sLcounts f fd) : FnOk P w K mg base CX0 1 f fd PLcounts (spB isCnt) := by
  refine F.ok scLcounts (fun vs H Q E h => ?_) (fun cdv A outer s H vs Q E hr h => ?_)
  · obtain ⟨t, rfl, _⟩ := h
    rfl
  · obtain ⟨z, rfl, hl, k⟩ := h
    refine ⟨_, (pss_cons (ps_if (PW.pt (pw_or (pt_cmpR op_eq (pv 0) pe_str (nomark _)) (pw_or1 (pt_cmpR (op_neD hr.units) (pe_lc (own := [("_law_sign", 1)]) (g := (gName 1)) rfl scLcounts.nd (pi_str (pv 0)) (blkOk_by (own := [("_law_sign", 1)]) (N := NLcounts) (sc := defScope sLcounts) (by decide +kernel)) (fun _ _ _ _ _ => (pg_name (i := 1) scLcounts.nd rfl (Or.inl rfl))) (fun _ _ _ _ _ => (pts_one (pt_cmpR op_notIn_sign (pv 1) pe_str (by rfl)))) (fun _ _ _ _ _ => pe_int)) (pe_lst pa_nil) (nomark _)))))
      (pss_one (ps_ret pe_bl))
      pss_nil)
      (pss_one (ps_ret (pe_or (pe_cmpR op_eq (pv 0) pe_str (nomark _)) (pe_one (pe_cmpR op_ne (pe_ix ix_str (pv 0) pe_int (fun _ _ => rfl)) pe_str (nomark _))))))), ?_⟩
    refine ⟨.str z, (by kernel_rfl), rfl, _, rfl, ?_⟩
    rw [dec_str]
    by_cases h0 : z = ""
    · refine ite_yes (decide_eq_true h0) ?_
      try refine ite_yes rfl ?_
      have e : isCnt z = false := by unfold isCnt; rw [decide_eq_true h0]; rfl
      rw [e] at k
      exact k _ (fun _ _ e => e)
    refine ite_no (decide_eq_false h0) ?_
    obtain ⟨c, r, ec⟩ := codes_cons h0
    refine ⟨.str z, (by kernel_rfl), z, rfl, ?_⟩
    refine rd_odd (n := 1) (t := z) (s := sDIG) hl (fun v => by kernel_rfl) (fun H c Q s q => ⟨.str ⟨#[c]⟩, (by kernel_rfl), c, sDIG, rfl, rfl, _, rfl, q⟩) (fun A1 H3 s3 h3 => ?_)
    refine ⟨Nat.zero_le _, fun e1 ne1 => ?_⟩
    have s4 := same_new (o := .lst []) ne1
    have S4 := s3.trans s4
    refine ⟨_, _, .lst (SqL.of (s4 _ _ h3)) (dpAll_ones _), .lst (SqL.of upd_same) .nil, shaped_ones _, by decide +kernel, _, rfl, ?_⟩
    generalize upd H3 e1 (.lst []) = H4 at S4 ⊢
    rw [eqv_ones]
    cases ha : allIn z sDIG with
    | false =>
      refine ite_yes rfl ?_
      try refine ite_yes rfl ?_
      have e : isCnt z = false := by unfold isCnt; rw [ha]; simp
      rw [e] at k
      exact k _ S4
    | true =>
      refine ite_no rfl ?_
      try refine ite_no rfl ?_
      have e : isCnt z = (decide (z = "0") || !decide (c = 48)) := by unfold isCnt; rw [ha, hd_of ec, decide_eq_false h0]; rfl
      rw [e] at k
      refine ⟨.str z, (by kernel_rfl), rfl, ?_⟩
      rw [dec_str]
      by_cases h1 : z = "0"
      · refine ⟨_, rfl, ite_yes (decide_eq_true h1) ?_⟩
        rw [decide_eq_true h1] at k
        exact k _ S4
      · refine ⟨_, rfl, ite_no (decide_eq_false h1) ?_⟩
        rw [decide_eq_false h1] at k
        refine ⟨.str z, (by kernel_rfl), z, 0, c, rfl, rfl, sz_of (by omega), atI0 ec, rfl, ?_⟩
        rw [sign_is c 48 (by decide +kernel)]
        exact k _ S4

abbrev sLnamed : Stmt := top 28
abbrev NLnamed : List Str := ["_law_word", "_law_first", "_law_letters", "_law_sign"]
abbrev PLnamed : List Str := ["_law_word", "_law_first"]
theorem scLnamed : FnScope NLnamed PLnamed (defScope sLnamed) := ⟨rfl, rfl, rfl, by decide +kernel, rfl, by decide +kernel, by decide +kernel⟩

theorem ok_named {f : Addr} {fd : FuncData} (F : Fun K "_law_named" "_law_named" sLnamed f fd) (T : LTxt mg) : FnOk P w K mg base CX0 1 f fd PLnamed spNm := by
  refine F.ok scLnamed (fun vs H Q E h => ?_) (fun cdv A outer s H vs Q E hr h => ?_)
  · obtain ⟨t, z, rfl, _⟩ := h
    rfl
  · obtain ⟨z, f, rfl, hl, k⟩ := h
    refine ⟨_, (pss_cons (ps_set (i := 2) scLnamed.nd rfl (Or.inr rfl) pe_str)
      (pss_cons (ps_if (PW.pt (pw_or (pt_cmpR op_eq (pv 0) pe_str (nomark _)) (pw_or (pt_cmpR op_gt (pe_callB call_len_str (by rfl) T.len PySem.boot_len (pa_cons (pv 0) pa_nil)) pe_int (nomark _)) (pw_or1 (pt_cmpR op_notIn_sign (pe_ix ix_str (pv 0) pe_int (fun _ _ => rfl)) (pv 1) (by rfl))))))
      (pss_one (ps_ret pe_bl))
      pss_nil)
      (pss_one (ps_ret (pe_cmpR (op_eqD hr.units) (pe_lc (own := [("_law_sign", 3)]) (g := (gName 3)) rfl scLnamed.nd (pi_str (pv 0)) (blkOk_by (own := [("_law_sign", 3)]) (N := NLnamed) (sc := defScope sLnamed) (by decide +kernel)) (fun _ _ _ _ _ => (pg_name (i := 3) scLnamed.nd rfl (Or.inl rfl))) (fun _ _ _ _ _ => (pts_one (pt_cmpR op_notIn_sign (pv 3) (pv 2) (by rfl)))) (fun _ _ _ _ _ => pe_int)) (pe_lst pa_nil) (nomark _)))))), ?_⟩
    refine ⟨.str z, (by kernel_rfl), rfl, _, rfl, ?_⟩
    rw [dec_str]
    by_cases h0 : z = ""
    · refine ite_yes (decide_eq_true h0) ?_
      try refine ite_yes rfl ?_
      have e : isName z f = false := by unfold isName; rw [decide_eq_true h0]; rfl
      rw [e] at k
      exact k _ (fun _ _ e => e)
    refine ite_no (decide_eq_false h0) ?_
    obtain ⟨c, r, ec⟩ := codes_cons h0
    refine ⟨.str z, (by kernel_rfl), z, rfl, sz_of (by omega), _, _, rfl, rfl, _, rfl, ?_⟩
    by_cases h1 : z.length > 24
    · refine ite_yes (decide_eq_true (by omega)) ?_
      try refine ite_yes rfl ?_
      have e : isName z f = false := by unfold isName; rw [decide_eq_false h0, decide_eq_true h1]; rfl
      rw [e] at k
      exact k _ (fun _ _ e => e)
    refine ite_no (decide_eq_false (by omega)) ?_
    refine ⟨.str z, (by kernel_rfl), z, 0, c, rfl, rfl, sz_of (by omega), atI0 ec, .str f, (by kernel_rfl), c, f, rfl, rfl, _, rfl, ?_⟩
    by_cases h2 : c ∈ codes f
    · refine ite_no (by rw [decide_eq_true h2]; rfl) ?_
      try refine ite_no rfl ?_
      have e : isName z f = allIn z sALL := by
        unfold isName
        rw [decide_eq_false h0, decide_eq_false h1, hd_of ec, decide_eq_true h2]
        rfl
      rw [e, ← allIn_let] at k
      refine ⟨.str z, (by kernel_rfl), z, rfl, ?_⟩
      refine rd_odd (n := 3) (t := z) (s := sLET) hl (fun v => by kernel_rfl) (fun H c Q s q => ⟨.str ⟨#[c]⟩, (by kernel_rfl), .str sLET, (by kernel_rfl), c, sLET, rfl, rfl, _, rfl, q⟩) (fun A1 H3 s3 h3 => ?_)
      refine ⟨Nat.zero_le _, fun e1 ne1 => ?_⟩
      have s4 := same_new (o := .lst []) ne1
      refine ⟨_, _, .lst (SqL.of (s4 _ _ h3)) (dpAll_ones _), .lst (SqL.of upd_same) .nil, shaped_ones _, by decide +kernel, ?_⟩
      rw [eqv_ones]
      exact k _ (s3.trans s4)
    · refine ite_yes (by rw [decide_eq_false h2]; rfl) ?_
      try refine ite_yes rfl ?_
      have e : isName z f = false := by
        unfold isName
        rw [decide_eq_false h0, decide_eq_false h1, hd_of ec, decide_eq_false h2]
        rfl
      rw [e] at k
      exact k _ (fun _ _ e => e)

abbrev sLmetword : Stmt := top 29
abbrev NLmetword : List Str := ["_law_word"]
abbrev PLmetword : List Str := ["_law_word"]
theorem scLmetword : FnScope NLmetword PLmetword (defScope sLmetword) := ⟨rfl, rfl, rfl, by decide +kernel, rfl, by decide +kernel, by decide +kernel⟩

theorem ok_met {f fC fN : Addr} {fd fdC fdN : FuncData} (F : Fun K "_law_met_word" "_law_met_word" sLmetword f fd) (T : LTxt mg) (F_law_counts : Fun K "_law_counts" "_law_counts" sLcounts fC fdC) (b_law_counts : Binds K fdC PLcounts []) (g_law_counts : mg "_law_counts" = some (.ref fC))
    (F_law_named : Fun K "_law_named" "_law_named" sLnamed fN fdN) (b_law_named : Binds K fdN PLnamed []) (g_law_named : mg "_law_named" = some (.ref fN)) : FnOk P w K mg base CX0 2 f fd PLmetword (spB isMet) := by
  have G_law_counts : FnOk P w K mg base CX0 1 fC fdC PLcounts (spB isCnt) := ok_cnt F_law_counts
  have G_law_named : FnOk P w K mg base CX0 1 fN fdN PLnamed spNm := ok_named F_law_named T
  refine F.ok scLmetword (fun vs H Q E h => ?_) (fun cdv A outer s H vs Q E hr h => ?_)
  · obtain ⟨t, rfl, _⟩ := h
    rfl
  · obtain ⟨z, rfl, hl, k⟩ := h
    have hr1 := hr
    refine ⟨_, (pss_cons (ps_if (pt_cmpR op_ne (pe_slice sl_str (pv 0) po_none (po_some pe_int)) pe_str (nomark _))
      (pss_one (ps_ret (pe_call G_law_named hr1 rfl g_law_named F_law_named.kp b_law_named .nil pass0 (pa_cons (pv 0) (pa_cons pe_str pa_nil)))))
      pss_nil)
      (pss_one (ps_ret (pe_or (pe_call G_law_counts hr1 rfl g_law_counts F_law_counts.kp b_law_counts .nil pass0 (pa_cons (pe_slice sl_str (pv 0) (po_some pe_int) po_none) pa_nil)) (pe_one (pe_and (pe_cmpR op_eq (pe_slice sl_str (pv 0) (po_some pe_int) (po_some pe_int)) pe_str (nomark _)) (pe_and (pe_cmpR op_ne (pe_slice sl_str (pv 0) (po_some pe_int) (po_some pe_int)) pe_str (nomark _)) (pe_one (pe_call G_law_counts hr1 rfl g_law_counts F_law_counts.kp b_law_counts .nil pass0 (pa_cons (pe_slice sl_str (pv 0) (po_some pe_int) po_none) pa_nil)))))))))), ?_⟩
    have lc : ∀ i j, (cutS z i j).length ≤ 900000 := fun i j => Nat.le_trans (cut_len z i j) hl
    refine ⟨.str z, (by kernel_rfl), 1, rfl, z, rfl, sz_of (by omega), ?_⟩
    refine ⟨rfl, _, rfl, ?_⟩
    rw [dec_str]
    by_cases h0 : cutS z none (some 1) = "#"
    · refine ite_no (by rw [decide_eq_true h0]; rfl) ?_
      have e : isMet z = (isCnt (cutS z (some 1) none) || (decide (cutS z (some 1) (some 2) = "-") && (!decide (cutS z (some 2) (some 3) = "0") && isCnt (cutS z (some 2) none)))) := by unfold isMet; rw [if_pos (decide_eq_true h0)]
      rw [e] at k
      refine ⟨.str z, (by kernel_rfl), 1, rfl, z, rfl, sz_of (by omega), ?_⟩
      refine ⟨_, rfl, lc _ _, fun H1 s1 => ?_⟩
      cases h1 : isCnt (cutS z (some 1) none) with
      | true =>
        refine ⟨_, rfl, ite_yes rfl ?_⟩
        rw [h1] at k
        exact k _ s1
      | false =>
        refine ⟨_, rfl, ite_no rfl ?_⟩
        rw [h1] at k
        refine ⟨.str z, (by kernel_rfl), 1, rfl, 2, rfl, z, rfl, sz_of (by omega), rfl, ?_⟩
        rw [dec_str]
        by_cases h2 : cutS z (some 1) (some 2) = "-"
        · refine ⟨_, rfl, ite_yes (decide_eq_true h2) ?_⟩
          rw [decide_eq_true h2] at k
          refine ⟨.str z, (by kernel_rfl), 2, rfl, 3, rfl, z, rfl, sz_of (by omega), rfl, ?_⟩
          rw [dec_str]
          by_cases h3 : cutS z (some 2) (some 3) = "0"
          · refine ⟨_, rfl, ite_no (by rw [decide_eq_true h3]; rfl) ?_⟩
            rw [decide_eq_true h3] at k
            exact k _ s1
          · refine ⟨_, rfl, ite_yes (by rw [decide_eq_false h3]; rfl) ?_⟩
            rw [decide_eq_false h3] at k
            refine ⟨.str z, (by kernel_rfl), 2, rfl, z, rfl, sz_of (by omega), ?_⟩
            exact ⟨_, rfl, lc _ _, fun H2 s2 => k _ (s1.trans s2)⟩
        · refine ⟨_, rfl, ite_no (decide_eq_false h2) ?_⟩
          rw [decide_eq_false h2] at k
          exact k _ s1
    · refine ite_yes (by rw [decide_eq_false h0]; rfl) ?_
      have e : isMet z = isName z sBIG := by unfold isMet; rw [if_neg (by rw [decide_eq_false h0]; exact Bool.false_ne_true)]
      rw [e] at k
      exact ⟨.str z, (by kernel_rfl), z, sBIG, rfl, hl, k⟩
end

end Nm
namespace Nm
open PySem PySem.Spec PyProof.Rows L2
/-! ### the law's lines and logs -/
open TL (spl spl_nil spl_hit spl_miss pre split_spl kind_ok)
def tIfT (tc ta tb : TT) : TT := fun σ H Q => tc σ H fun c H1 => if c = true then ta σ H1 Q else tb σ H1 Q
theorem pt_ifE {X : Cx} {c a b : Expr} {tc ta tb : TT} {pos : Pos} (hc : PT X c tc) (ha : PT X a ta) (hb : PT X b tb) : PT X (.IfExp c a b pos) (tIfT tc ta tb) := by
  refine ⟨fun pins s σ H Q I h => ?_⟩
  refine isTrue_IfExp (thn (hc.run pins s σ H _ I h) fun d s1 ⟨H1, I1, q1⟩ => ?_)
  cases d with
  | true => exact iteT (ha.run pins s1 σ H1 Q I1 q1)
  | false => exact iteF (hb.run pins s1 σ H1 Q I1 q1)
theorem spl_len (S : List Nat) : ∀ (l : List Nat) (k : Nat) (acc : List Nat), ∀ p ∈ spl S k acc l, p.length ≤ acc.length + l.length
  | [], k, acc, p, m => by
    rw [spl_nil] at m
    obtain rfl := List.mem_singleton.mp m
    omega
  | c :: r, 0, acc, p, m => by
    by_cases h : pre S (c :: r) = true
    · rw [spl_hit h] at m
      rcases List.mem_cons.mp m with rfl | m
      · omega
      · have := spl_len S r _ [] p m
        simp only [List.length_nil, List.length_cons] at this ⊢
        omega
    · rw [spl_miss (by simpa using h)] at m
      have := spl_len S r 0 (acc ++ [c]) p m
      simp only [List.length_append, List.length_cons, List.length_nil] at this ⊢
      omega
  | c :: r, k + 1, acc, p, m => by
    have m' : p ∈ spl S k acc r := m
    have := spl_len S r k acc p m'
    simp only [List.length_cons]
    omega
theorem split_each {x y p : Str} (hy : codes y ≠ []) (hk : y.cps.all (· < 256) = true) (m : p ∈ Txt.split x y) : p.length ≤ x.length := by
  have e := split_spl x y hy (kind_ok hk)
  have m2 : codes p ∈ spl (codes y) 0 [] (codes x) := by
    have : codes p ∈ (Txt.split x y).map codes := List.mem_map_of_mem m
    rwa [show (Txt.split x y).map codes = spl (codes y) 0 [] (codes x) from e] at this
  have q := spl_len _ _ _ _ _ m2
  rw [len_codes, len_codes x]
  simpa using q
theorem split_few (x y : Str) : (Txt.split x y).length ≤ x.length + 2 := PyProof.Rows.split_le x y
/-- the lines in a log -/
def addLine (found : List Str) (p : Str) : List Str := if (isLin p && !decide (p ∈ found)) = true then found ++ [p] else found
def linesIn (t : Str) : List Str := ((Txt.split t "\n").dropLast).foldl addLine []
def spLines : Sp := fun vs H Q _ => ∃ t : Str, vs = [.str t] ∧ t.length ≤ 900000 ∧ ∀ (p : Addr) (H' : Hp), Same H H' → H' p = some (.lst ((linesIn t).map V.str)) → Q (.ref p) H'
def nlT (l : Str) : Str := l ++ ("\n" : Str)
def logOf (ls : List Str) : Str := Txt.join "" (ls.map nlT)
section
variable {P : Program} {w : World} {K : PySem.W.Frag} {mg : Str → Option Value} {base : Heap}

abbrev sLisline : Stmt := top 30
abbrev NLisline : List Str := ["_law_word", "_law_parts", "_law_k"]
abbrev PLisline : List Str := ["_law_word"]
theorem scLisline : FnScope NLisline PLisline (defScope sLisline) := ⟨rfl, rfl, rfl, by decide +kernel, rfl, by decide +kernel, by decide +kernel⟩

theorem ok_lline {f fC fN fM : Addr} {fd fdC fdN fdM : FuncData} (F : Fun K "_law_is_line" "_law_is_line" sLisline f fd) (T : LTxt mg) (F_law_counts : Fun K "_law_counts" "_law_counts" sLcounts fC fdC) (b_law_counts : Binds K fdC PLcounts []) (g_law_counts : mg "_law_counts" = some (.ref fC))
    (F_law_named : Fun K "_law_named" "_law_named" sLnamed fN fdN) (b_law_named : Binds K fdN PLnamed []) (g_law_named : mg "_law_named" = some (.ref fN))
    (F_law_met_word : Fun K "_law_met_word" "_law_met_word" sLmetword fM fdM) (b_law_met_word : Binds K fdM PLmetword []) (g_law_met_word : mg "_law_met_word" = some (.ref fM)) : FnOk P w K mg base CX0 3 f fd PLisline (spB isLin) := by
  have G_law_counts : FnOk P w K mg base CX0 2 fC fdC PLcounts (spB isCnt) := (ok_cnt F_law_counts).mono (by decide)
  have G_law_met_word : FnOk P w K mg base CX0 2 fM fdM PLmetword (spB isMet) := ok_met F_law_met_word T F_law_counts b_law_counts g_law_counts F_law_named b_law_named g_law_named
  refine F.ok scLisline (fun vs H Q E h => ?_) (fun cdv A outer s H vs Q E hr h => ?_)
  · obtain ⟨t, rfl, _⟩ := h
    rfl
  · obtain ⟨z, rfl, hl, k⟩ := h
    have hr1 := hr
    refine ⟨_, (pss_cons (ps_if (pt_cmpR op_ne (pe_slice sl_str (pv 0) po_none (po_some pe_int)) pe_str (nomark _))
      (pss_one (ps_ret pe_bl))
      pss_nil)
      (pss_cons (ps_set (i := 1) scLisline.nd rfl (Or.inl rfl) (pe_split (pe_slice sl_str (pv 0) (po_some pe_int) po_none) pe_str))
      (pss_cons (ps_if (pt_cmpR op_eq (pe_op op_mod (pe_callB call_len_seq (by rfl) T.len PySem.boot_len (pa_cons (pv 1) pa_nil)) pe_int) pe_int (nomark _))
      (pss_one (ps_ret pe_bl))
      pss_nil)
      (pss_cons (ps_for PassesOwn.never rfl (pi_range1 rfl T.range (pa_cons (pe_callB call_len_seq (by rfl) T.len PySem.boot_len (pa_cons (pv 1) pa_nil)) pa_nil)) (pg_name (i := 2) scLisline.nd rfl (Or.inl rfl))
      (pss_one (ps_if (pt_not (pt_ifE (pt_cmpR op_eq (pe_op op_mod (pv 2) pe_int) pe_int (nomark _)) (pt_val (pe_call G_law_counts hr1 rfl g_law_counts F_law_counts.kp b_law_counts .nil pass0 (pa_cons (pe_ix ix_list (pv 1) (pv 2) (fun _ _ => rfl)) pa_nil))) (pt_val (pe_call G_law_met_word hr1 rfl g_law_met_word F_law_met_word.kp b_law_met_word .nil pass0 (pa_cons (pe_ix ix_list (pv 1) (pv 2) (fun _ _ => rfl)) pa_nil)))))
      (pss_one (ps_ret pe_bl))
      pss_nil)))
      (pss_one (ps_ret pe_bl)))))), ?_⟩
    refine ⟨.str z, (by kernel_rfl), 2, rfl, z, rfl, sz_of (by omega), ?_⟩
    refine ⟨rfl, _, rfl, ?_⟩
    rw [dec_str]
    by_cases h0 : cutS z none (some 2) = "m:"
    · refine ite_no (by rw [decide_eq_true h0]; rfl) ?_
      have lz := cut_len z (some 2) none
      have ez : isLin z = (!decide ((Txt.split (cutS z (some 2) none) ".").length % 2 = 1) && okParts 0 (Txt.split (cutS z (some 2) none) ".")) := by unfold isLin; rw [decide_eq_true h0]; rfl
      rw [ez] at k
      refine ⟨.str z, (by kernel_rfl), 2, rfl, z, rfl, sz_of (by omega), ?_⟩
      refine ⟨⟨_, rfl⟩, _, ".", rfl, rfl, rfl, sz_of (by omega), fun p np => ?_⟩
      have each : ∀ q ∈ Txt.split (cutS z (some 2) none) ".", q.length ≤ 900000 := fun q m => by
        have := split_each (y := ".") (by decide +kernel) (by decide +kernel) m
        omega
      have few := split_few (cutS z (some 2) none) "."
      generalize cutS z (some 2) none = d at few k each lz ⊢
      generalize Txt.split d "." = ps at few k each ⊢
      have hp := upd_same (H := H) (a := p) (o := .lst (ps.map V.str))
      have s1 := same_new (o := .lst (ps.map V.str)) np
      generalize upd H p (.lst (ps.map V.str)) = H1 at hp s1 ⊢
      refine ⟨.ref p, (by kernel_rfl), p, _, rfl, .inl (SqL.of hp), ?_⟩
      rw [List.length_map]
      refine ⟨_, _, rfl, rfl, (by show (0 : Int) < 2; decide), rfl, _, rfl, ?_⟩
      by_cases hm : ps.length % 2 = 1
      · refine ite_yes (decide_eq_true (congrArg V.int (by omega))) ?_
        rw [decide_eq_true hm] at k
        exact k _ s1
      refine ite_no (decide_eq_false fun q => by have := V.int.inj q; omega) ?_
      rw [decide_eq_false hm] at k
      refine ⟨.ref p, (by kernel_rfl), p, _, rfl, .inl (SqL.of hp), ?_⟩
      rw [List.length_map]
      refine ⟨_, rfl, by omega, by omega, ?_⟩
      refine for_range (lo := 0) (n := ps.length) (fun i σ H' => Same H1 H' ∧ (∃ v2 : Option V, σ = [some (.str z), some (.ref p), v2]) ∧ ∀ (j : Nat) (q : Str), j < i → ps[j]? = some q → isPart j q = true) ⟨fun _ _ e => e, ⟨none, rfl⟩, fun j q hj => absurd hj (Nat.not_lt_zero _)⟩ ?_ ?_
      · rintro i σ H2 hi ⟨S, ⟨v2, rfl⟩, ok⟩
        have hpi : (ps.map V.str)[i]? = some (.str ps[i]) := by rw [List.getElem?_map, List.getElem?_eq_getElem hi]; rfl
        have lq : (ps[i]).length ≤ 900000 := each _ (List.getElem_mem hi)
        have ei : (0 : Int) + (i : Int) = (i : Int) := by omega
        have go : ∀ (b : Bool) (H3 : Hp), Same H1 H3 → isPart i ps[i] = b → (if b = true then (fun σ H' => Same H1 H' ∧ (∃ v2 : Option V, σ = [some (.str z), some (.ref p), v2]) ∧ ∀ (j : Nat) (q : Str), j < i + 1 → ps[j]? = some q → isPart j q = true) [some (.str z), some (.ref p), some (.int (0 + (i : Int)))] H3 else Q (.bl false) H3) := fun b H3 S3 eb => by
          cases b with
          | true =>
            refine iteT ⟨S3, ⟨_, rfl⟩, fun j q hj e => ?_⟩
            by_cases h : j = i
            · subst h
              rw [List.getElem?_eq_getElem hi] at e
              rw [← Option.some.inj e]
              exact eb
            · exact ok j q (by omega) e
          | false =>
            refine iteF ?_
            have e : okParts 0 ps = false := by
              cases q : okParts 0 ps with
              | false => rfl
              | true =>
                have := (okParts_snoc ps 0).mp q i ps[i] (List.getElem?_eq_getElem hi)
                rw [Nat.zero_add, eb] at this
                cases this
            rw [e] at k
            exact k _ (s1.trans S3)
        refine ⟨.int (0 + (i : Int)), (by kernel_rfl), _, _, rfl, rfl, (by show (0 : Int) < 2; decide), rfl, _, rfl, ?_⟩
        rw [ei] at go ⊢
        by_cases h2 : i % 2 = 0
        · refine ite_yes (decide_eq_true (congrArg V.int (by omega))) ?_
          refine ⟨.ref p, (by kernel_rfl), .int (i : Int), (by kernel_rfl), p, _, (i : Int), _, rfl, rfl, SqL.of (S _ _ hp), atI_nat hpi, _, rfl, lq, fun H3 S3 => ?_⟩
          have q := go (isCnt ps[i]) H3 (S.trans S3) (by unfold isPart; rw [if_pos h2])
          cases hc : isCnt ps[i] with
          | true =>
            rw [hc] at q
            exact ⟨_, rfl, ite_no rfl q⟩
          | false =>
            rw [hc] at q
            exact ⟨_, rfl, ite_yes rfl q⟩
        · refine ite_no (decide_eq_false fun q => by have := V.int.inj q; omega) ?_
          refine ⟨.ref p, (by kernel_rfl), .int (i : Int), (by kernel_rfl), p, _, (i : Int), _, rfl, rfl, SqL.of (S _ _ hp), atI_nat hpi, _, rfl, lq, fun H3 S3 => ?_⟩
          have q := go (isMet ps[i]) H3 (S.trans S3) (by unfold isPart; rw [if_neg h2])
          cases hc : isMet ps[i] with
          | true =>
            rw [hc] at q
            exact ⟨_, rfl, ite_no rfl q⟩
          | false =>
            rw [hc] at q
            exact ⟨_, rfl, ite_yes rfl q⟩
      · rintro σ H2 ⟨S, ⟨v2, rfl⟩, ok⟩
        have e : okParts 0 ps = true := (okParts_snoc ps 0).mpr fun i q e => by
          rw [Nat.zero_add]
          exact ok i q (List.getElem?_eq_some_iff.mp e).1 e
        rw [e] at k
        exact k _ (s1.trans S)
    · refine ite_yes (by rw [decide_eq_false h0]; rfl) ?_
      have e : isLin z = false := by unfold isLin; rw [decide_eq_false h0]; rfl
      rw [e] at k
      exact k _ (fun _ _ e => e)
end

end Nm
namespace Nm
open PySem PySem.Spec PyProof.Rows L2
/-! ### the law's logs -/
theorem cutV_last (xs : List V) : cutV xs none (some (-1)) = xs.dropLast := by
  show ((xs.drop (HT.sIx xs.length 0 none)).take (HT.sIx xs.length xs.length (some (-1)) - HT.sIx xs.length 0 none)) = _
  rw [show HT.sIx xs.length 0 none = 0 from rfl, show HT.sIx xs.length xs.length (some (-1)) = ((-1 : Int) + (xs.length : Int)).toNat from rfl, List.dropLast_eq_take, List.drop_zero]
  congr 1
  omega
theorem flat_strs : ∀ l : List Str, (l.map V.str).all flatV = true
  | [] => rfl
  | _ :: r => by
    rw [List.map_cons, List.all_cons, flat_strs r]
    rfl
theorem addLine_len (l : List Str) (p : Str) : (addLine l p).length ≤ l.length + 1 := by
  unfold addLine
  by_cases h : (isLin p && !decide (p ∈ l)) = true
  · rw [if_pos h]; simp
  · rw [if_neg h]; omega
theorem fold_len : ∀ (xs acc : List Str), (xs.foldl addLine acc).length ≤ acc.length + xs.length
  | [], acc => Nat.le_refl _
  | x :: r, acc => by
    have h1 := fold_len r (addLine acc x)
    have h2 := addLine_len acc x
    simp only [List.foldl_cons, List.length_cons]
    omega
theorem atI_last {α : Type} : ∀ {l : List α}, l ≠ [] → ∃ c, atI l (-1) = some c := by
  intro l h
  refine ⟨l.getLast h, ?_⟩
  have q : 0 < l.length := List.length_pos_iff.mpr h
  unfold atI
  have e : ixN l.length (-1) = some (l.length - 1) := by
    unfold ixN
    rw [if_neg (by decide)]
    first
    | (rw [if_pos (by omega)]; congr 1; omega)
    | (simp; omega)
  rw [e, List.getLast_eq_getElem]
  exact List.getElem?_eq_getElem (by omega)
def glueT (t : Str) : Str := match atI (codes t) (-1) with
  | some c => if c = 10 then "" else "\n"
  | none => ""
def appT (t : Str) (ls : List Str) : Str := t ++ glueT t ++ logOf ls
theorem glue_len (t : Str) : (glueT t).length ≤ 1 := by
  unfold glueT
  cases atI (codes t) (-1) with
  | none => exact Nat.zero_le _
  | some c =>
    show (if c = 10 then ("" : Str) else "\n").length ≤ 1
    by_cases h : c = 10
    · rw [if_pos h]; decide
    · rw [if_neg h]; decide
theorem sum_log : ∀ (ls : List Str) (n : Nat), (∀ l ∈ ls, l.length ≤ n) → ((ls.map nlT).map (·.length)).sum ≤ ls.length * (n + 1)
  | [], n, _ => Nat.zero_le _
  | l :: r, n, h => by
    have h1 := h l (List.mem_cons_self ..)
    have h2 := sum_log r n fun x m => h x (List.mem_cons_of_mem _ m)
    have e : (nlT l).length = l.length + 1 := by unfold nlT; rw [len_app]; rfl
    simp only [List.map_cons, List.sum_cons, List.length_cons, e]
    have e2 : (r.length + 1) * (n + 1) = r.length * (n + 1) + (n + 1) := Nat.succ_mul _ _
    omega
theorem log_len {ls : List Str} {n : Nat} (h : ∀ l ∈ ls, l.length ≤ n) : (logOf ls).length ≤ ls.length * (n + 1) := by
  have q := sum_log ls n h
  have e : codes (logOf ls) = TL.joinL (codes "") ((ls.map nlT).map codes) := by
    unfold logOf
    rw [TL.join_eq]
    exact TL.tl_join _ _
  have j : ∀ ps : List (List Nat), (TL.joinL [] ps).length ≤ (ps.map List.length).sum := fun ps => by
    induction ps with
    | nil => exact Nat.zero_le _
    | cons p r ih =>
      cases r with
      | nil => simp [TL.joinL]
      | cons p2 r2 =>
        have e : TL.joinL [] (p :: p2 :: r2) = p ++ ([] ++ TL.joinL [] (p2 :: r2)) := by simp [TL.joinL]
        rw [e, List.length_append, List.nil_append, List.map_cons, List.sum_cons]
        omega
  have m : ((ls.map nlT).map codes).map List.length = (ls.map nlT).map (·.length) := by
    rw [List.map_map]
    exact List.map_congr_left fun x _ => (len_codes x).symm
  rw [len_codes, e]
  have := j ((ls.map nlT).map codes)
  rw [m] at this
  exact Nat.le_trans this q
def spLog2 : Sp := fun vs H Q _ => ∃ (p : Addr) (ls : List Str), vs = [.ref p] ∧ H p = some (.lst (ls.map V.str)) ∧ ls.length ≤ 100 ∧ (∀ l ∈ ls, l.length ≤ 5000) ∧ ∀ H', Same H H' → Q (.str (logOf ls)) H'
def spApp : Sp := fun vs H Q _ => ∃ (t : Str) (p : Addr) (ls : List Str), vs = [.str t, .ref p] ∧ t.length ≤ 500000 ∧ H p = some (.lst (ls.map V.str)) ∧ ls.length ≤ 100 ∧ (∀ l ∈ ls, l.length ≤ 5000) ∧ ∀ H', Same H H' → Q (.str (appT t ls)) H'
section
variable {P : Program} {w : World} {K : PySem.W.Frag} {mg : Str → Option Value} {base : Heap}

abbrev sLlinesin : Stmt := top 31
abbrev NLlinesin : List Str := ["_law_text", "_law_found", "_law_piece"]
abbrev PLlinesin : List Str := ["_law_text"]
theorem scLlinesin : FnScope NLlinesin PLlinesin (defScope sLlinesin) := ⟨rfl, rfl, rfl, by decide +kernel, rfl, by decide +kernel, by decide +kernel⟩

theorem ok_llines {f fC fN fM fL : Addr} {fd fdC fdN fdM fdL : FuncData} (F : Fun K "_law_lines_in" "_law_lines_in" sLlinesin f fd) (T : LTxt mg) (F_law_counts : Fun K "_law_counts" "_law_counts" sLcounts fC fdC) (b_law_counts : Binds K fdC PLcounts []) (g_law_counts : mg "_law_counts" = some (.ref fC))
    (F_law_named : Fun K "_law_named" "_law_named" sLnamed fN fdN) (b_law_named : Binds K fdN PLnamed []) (g_law_named : mg "_law_named" = some (.ref fN))
    (F_law_met_word : Fun K "_law_met_word" "_law_met_word" sLmetword fM fdM) (b_law_met_word : Binds K fdM PLmetword []) (g_law_met_word : mg "_law_met_word" = some (.ref fM))
    (F_law_is_line : Fun K "_law_is_line" "_law_is_line" sLisline fL fdL) (b_law_is_line : Binds K fdL PLisline []) (g_law_is_line : mg "_law_is_line" = some (.ref fL)) : FnOk P w K mg base CX0 4 f fd PLlinesin spLines := by
  have G_law_is_line : FnOk P w K mg base CX0 3 fL fdL PLisline (spB isLin) := ok_lline F_law_is_line T F_law_counts b_law_counts g_law_counts F_law_named b_law_named g_law_named F_law_met_word b_law_met_word g_law_met_word
  refine F.ok scLlinesin (fun vs H Q E h => ?_) (fun cdv A outer s H vs Q E hr h => ?_)
  · obtain ⟨t, rfl, _⟩ := h
    rfl
  · obtain ⟨t, rfl, hl, k⟩ := h
    have hr1 := hr
    refine ⟨_, (pss_cons (ps_set (i := 1) scLlinesin.nd rfl (Or.inl rfl) (pe_lst pa_nil))
      (pss_cons (ps_for PassesOwn.never rfl (pi_list (pe_slice sl_list (pe_split (pv 0) pe_str) po_none (po_some (pe_un un_neg pe_int)))) (pg_name (i := 2) scLlinesin.nd rfl (Or.inl rfl))
      (pss_one (ps_if (PW.pt (pw_and (pt_val (pe_call G_law_is_line hr1 rfl g_law_is_line F_law_is_line.kp b_law_is_line .nil pass0 (pa_cons (pv 2) pa_nil))) (pw_and1 (pt_cmpR op_notIn_seq (pv 2) (pv 1) (by rfl)))))
      (pss_one (ps_expr (pe_bm PySem.F.plainAttrs_list PySem.F.slot_list_append PySem.F.type_list_append mt_append (pv 1) (pa_cons (pv 2) pa_nil))))
      pss_nil)))
      (pss_one (ps_ret (pv 1))))), ?_⟩
    refine ⟨by show 0 ≤ sizeLine; decide, fun l nl => ?_⟩
    have el := upd_same (H := H) (a := l) (o := .lst [])
    have s1 := same_new (o := .lst []) nl
    generalize upd H l (.lst []) = H1 at el s1 ⊢
    refine ⟨.str t, (by kernel_rfl), ⟨_, rfl⟩, t, "\n", rfl, rfl, rfl, sz_of (by omega), fun p np => ?_⟩
    have each : ∀ q ∈ Txt.split t "\n", q.length ≤ 900000 := fun q m => by
      have := split_each (y := "\n") (by decide +kernel) (by decide +kernel) m
      omega
    have few := split_few t "\n"
    replace k : ∀ (p : Addr) (H' : Hp), Same H H' → H' p = some (.lst ((((Txt.split t "\n").dropLast).foldl addLine []).map V.str)) → Q (.ref p) H' := k
    generalize Txt.split t "\n" = ps at few k each ⊢
    have hp := upd_same (H := H1) (a := p) (o := .lst (ps.map V.str))
    have s2 := same_new (o := .lst (ps.map V.str)) np
    have el2 := s2 _ _ el
    generalize upd H1 p (.lst (ps.map V.str)) = H2 at hp s2 el2 ⊢
    refine ⟨1, rfl, -1, rfl, p, _, rfl, SqL.of hp, fun a na => ?_⟩
    rw [cutV_last, ← List.map_dropLast]
    have each' : ∀ q ∈ ps.dropLast, q.length ≤ 900000 := fun q m => each q (List.dropLast_subset _ m)
    have few' : ps.dropLast.length ≤ t.length + 2 := by rw [List.length_dropLast]; omega
    generalize ps.dropLast = ys at each' few' k ⊢
    have ha := upd_same (H := H2) (a := a) (o := .lst (ys.map V.str))
    have s3 := same_new (o := .lst (ys.map V.str)) na
    have el3 := s3 _ _ el2
    have S3 := (s1.trans s2).trans s3
    have nal : a ≠ l := fun z => by rw [z, el2] at na; cases na
    clear hp el el2 s1 s2 s3 each few na np
    generalize upd H2 a (.lst (ys.map V.str)) = H3 at ha el3 S3 ⊢
    refine ⟨a, rfl, ⟨_, SqL.of ha⟩, ?_⟩
    refine for_list (K := K) (a := a) (xs := ys.map V.str) (fun j σ H' => (∃ v2 : Option V, σ = [some (.str t), some (.ref l), v2]) ∧ H' l = some (.lst (((ys.take j).foldl addLine []).map V.str)) ∧ H' a = some (.lst (ys.map V.str)) ∧ Same H H') ⟨⟨none, rfl⟩, el3, ha, S3⟩ (fun j σ H' _ ⟨_, _, h, _⟩ => SqL.of h) ?_ ?_
    · rintro j x σ H4 hj ⟨⟨v2, rfl⟩, hl4, ha4, S4⟩
      rw [List.getElem?_map] at hj
      obtain ⟨y, hy, rfl⟩ := Option.map_eq_some_iff.mp hj
      have my : y ∈ ys := List.mem_of_getElem? hy
      have lj := (List.getElem?_eq_some_iff.mp hy).1
      have st : (ys.take (j + 1)).foldl addLine [] = addLine ((ys.take j).foldl addLine []) y := by
        rw [List.take_add_one, hy, List.foldl_append]
        rfl
      have lf := fold_len (ys.take j) []
      rw [List.length_take] at lf
      simp only [List.length_nil] at lf
      rw [st]
      generalize (ys.take j).foldl addLine [] = fd0 at hl4 lf ⊢
      refine ⟨.str y, (by kernel_rfl), y, rfl, each' y my, fun H5 S5 => ?_⟩
      have hl5 := S5 _ _ hl4
      have ha5 := S5 _ _ ha4
      have SS := S4.trans S5
      refine ⟨_, rfl, ?_⟩
      cases hi : isLin y with
      | false =>
        refine ite_no rfl ?_
        try refine ite_no rfl ?_
        have e : addLine fd0 y = fd0 := by unfold addLine; rw [hi, if_neg (by simp)]
        rw [e]
        exact ⟨⟨_, rfl⟩, hl5, ha5, SS⟩
      | true =>
        refine ite_yes rfl ?_
        refine ⟨.str y, (by kernel_rfl), .ref l, (by kernel_rfl), l, _, rfl, .inl (SqL.of hl5), rfl, flat_strs _, _, rfl, ?_⟩
        rw [if_pos rfl, inV_strs]
        by_cases hm : y ∈ fd0
        · refine ite_no (by rw [decide_eq_true hm]; rfl) ?_
          have e : addLine fd0 y = fd0 := by unfold addLine; rw [hi, decide_eq_true hm, if_neg (by simp)]
          rw [e]
          exact ⟨⟨_, rfl⟩, hl5, ha5, SS⟩
        · refine ite_yes (by rw [decide_eq_false hm]; rfl) ?_
          have e : addLine fd0 y = fd0 ++ [y] := by unfold addLine; rw [hi, decide_eq_false hm, if_pos (by rfl)]
          rw [e]
          refine ⟨.ref l, (by kernel_rfl), .inl ⟨rfl, _, SqL.of hl5⟩, .str y, (by kernel_rfl), l, fd0.map V.str, _, rfl, rfl, hl5, small_big (by rw [List.length_map]; omega), ?_⟩
          refine ⟨⟨_, rfl⟩, by rw [upd_same, List.map_append]; rfl, by rw [upd_ne nal]; exact ha5, same_put SS nl⟩
    · rintro σ H4 ⟨⟨v2, rfl⟩, hl4, ha4, S4⟩
      rw [List.length_map, List.take_length] at hl4
      exact ⟨.ref l, (by kernel_rfl), k l _ S4 hl4⟩

abbrev sLlogtext : Stmt := top 32
abbrev NLlogtext : List Str := ["_law_lines", "_law_line"]
abbrev PLlogtext : List Str := ["_law_lines"]
theorem scLlogtext : FnScope NLlogtext PLlogtext (defScope sLlogtext) := ⟨rfl, rfl, rfl, by decide +kernel, rfl, by decide +kernel, by decide +kernel⟩

theorem ok_llog {f : Addr} {fd : FuncData} (F : Fun K "_law_log_text" "_law_log_text" sLlogtext f fd) : FnOk P w K mg base CX0 1 f fd PLlogtext spLog2 := by
  refine F.ok scLlogtext (fun vs H Q E h => ?_) (fun cdv A outer s H vs Q E hr h => ?_)
  · obtain ⟨p, ls, rfl, _⟩ := h
    rfl
  · obtain ⟨p, ls, rfl, hp, hn, each, k⟩ := h
    refine ⟨_, (pss_one (ps_ret (pe_join pe_str (pe_lc (own := [("_law_line", 1)]) (g := (gName 1)) rfl scLlogtext.nd (pi_list (pv 0)) (blkOk_by (own := [("_law_line", 1)]) (N := NLlogtext) (sc := defScope sLlogtext) (by decide +kernel)) (fun _ _ _ _ _ => (pg_name (i := 1) scLlogtext.nd rfl (Or.inl rfl))) (fun _ _ _ _ _ => pts_nil) (fun _ _ _ _ _ => (pe_op op_add_str (pv 1) pe_str)))))), ?_⟩
    refine ⟨⟨_, rfl⟩, .ref p, (by kernel_rfl), p, rfl, ⟨_, SqL.of hp⟩, ?_⟩
    intro D nD
    refine lc_list (K := K) (a := p) (xs := ls.map V.str) (fun i H' => H' D = some (.lst (((ls.take i).map nlT).map V.str)) ∧ Same H H') ⟨upd_same, same_new nD⟩ (fun i H' _ ⟨_, S⟩ => SqL.of (S _ _ hp)) ?_ ?_
    · rintro i x H2 hi ⟨hD, S⟩
      rw [List.getElem?_map] at hi
      obtain ⟨y, hy, rfl⟩ := Option.map_eq_some_iff.mp hi
      have ly := each y (List.mem_of_getElem? hy)
      have lj := (List.getElem?_eq_some_iff.mp hy).1
      refine ⟨rfl, ?_⟩
      have l1 : ("\n" : Str).length = 1 := rfl
      refine ⟨.str y, (by kernel_rfl), y, "\n", rfl, rfl, sz_of (by rw [l1]; omega), ?_⟩
      refine ⟨_, hD, small_big (by rw [List.length_map, List.length_map, List.length_take]; omega), ?_, same_put S nD⟩
      rw [upd_same, List.take_add_one, hy]
      simp [nlT]
    · rintro H2 ⟨hD, S⟩
      rw [List.length_map, List.take_length] at hD
      refine ⟨"", D, _, rfl, rfl, .inl (SqL.of hD), ?_, k _ S⟩
      have q := sum_log ls 5000 each
      have q2 : ls.length * (5000 + 1) ≤ 100 * 5001 := Nat.mul_le_mul_right _ hn
      have l0 : ("" : Str).length = 0 := rfl
      rw [l0, Nat.mul_zero]
      omega

abbrev sLappended : Stmt := top 33
abbrev NLappended : List Str := ["_law_text", "_law_lines"]
abbrev PLappended : List Str := ["_law_text", "_law_lines"]
theorem scLappended : FnScope NLappended PLappended (defScope sLappended) := ⟨rfl, rfl, rfl, by decide +kernel, rfl, by decide +kernel, by decide +kernel⟩

theorem ok_lapp {f fG : Addr} {fd fdG : FuncData} (F : Fun K "_law_appended" "_law_appended" sLappended f fd) (F_law_log_text : Fun K "_law_log_text" "_law_log_text" sLlogtext fG fdG) (b_law_log_text : Binds K fdG PLlogtext []) (g_law_log_text : mg "_law_log_text" = some (.ref fG)) :
    FnOk P w K mg base CX0 2 f fd PLappended spApp := by
  have G_law_log_text : FnOk P w K mg base CX0 1 fG fdG PLlogtext spLog2 := ok_llog F_law_log_text
  refine F.ok scLappended (fun vs H Q E h => ?_) (fun cdv A outer s H vs Q E hr h => ?_)
  · obtain ⟨t, p, ls, rfl, _⟩ := h
    rfl
  · obtain ⟨t, p, ls, rfl, ht, hp, hn, each, k⟩ := h
    have hr1 := hr
    refine ⟨_, (pss_one (ps_ret (pe_op op_add_str (pe_op op_add_str (pv 0) (pe_ifExp (PW.pt (pw_and (pt_cmpR op_ne (pv 0) pe_str (nomark _)) (pw_and1 (pt_cmpR op_ne (pe_ix ix_str (pv 0) (pe_un un_neg pe_int) (fun _ _ => rfl)) pe_str (nomark _))))) pe_str pe_str)) (pe_call G_law_log_text hr1 rfl g_law_log_text F_law_log_text.kp b_law_log_text .nil pass0 (pa_cons (pv 1) pa_nil))))), ?_⟩
    have ll := log_len each
    have q2 : ls.length * (5000 + 1) ≤ 100 * 5001 := Nat.mul_le_mul_right _ hn
    have go : ∀ b : Str, b.length ≤ 1 → glueT t = b → ∃ i j, V.str t = .str i ∧ V.str b = .str j ∧ i.length + j.length ≤ sizeLine ∧ ((∃ (p' : Addr) (ls' : List Str), V.ref p = .ref p' ∧ True) ∧ True) := fun b hb e => ⟨t, b, rfl, rfl, sz_of (by omega), ⟨p, ls, rfl, trivial⟩, trivial⟩
    clear go
    refine ⟨.str t, (by kernel_rfl), .str t, (by kernel_rfl), rfl, _, rfl, ?_⟩
    rw [dec_str]
    by_cases h0 : t = ""
    · refine ite_no (by rw [decide_eq_true h0]; rfl) ?_
      try refine ite_no rfl ?_
      have e : glueT t = "" := by rw [h0]; rfl
      have l0 : ("" : Str).length = 0 := rfl
      refine ⟨t, "", rfl, rfl, sz_of (by rw [l0]; omega), .ref p, (by kernel_rfl), p, ls, rfl, hp, hn, each, fun H1 S1 => ?_⟩
      refine ⟨_, _, rfl, rfl, sz_of (by rw [len_app, l0]; omega), ?_⟩
      have := k H1 S1
      unfold appT at this
      rwa [e] at this
    refine ite_yes (by rw [decide_eq_false h0]; rfl) ?_
    obtain ⟨c, hc⟩ := atI_last (l := codes t) (fun z => h0 (str_ext (by rw [z]; rfl)))
    refine ⟨.str t, (by kernel_rfl), 1, rfl, t, -1, c, rfl, rfl, sz_of (by omega), hc, rfl, _, rfl, ?_⟩
    rw [sign_is c 10 (by decide +kernel)]
    by_cases h1 : c = 10
    · refine ite_no (by rw [decide_eq_true h1]; rfl) ?_
      try refine ite_no rfl ?_
      have e : glueT t = "" := by unfold glueT; rw [hc]; exact if_pos h1
      have l0 : ("" : Str).length = 0 := rfl
      refine ⟨t, "", rfl, rfl, sz_of (by rw [l0]; omega), .ref p, (by kernel_rfl), p, ls, rfl, hp, hn, each, fun H1 S1 => ?_⟩
      refine ⟨_, _, rfl, rfl, sz_of (by rw [len_app, l0]; omega), ?_⟩
      have := k H1 S1
      unfold appT at this
      rwa [e] at this
    · refine ite_yes (by rw [decide_eq_false h1]; rfl) ?_
      try refine ite_yes rfl ?_
      have e : glueT t = "\n" := by unfold glueT; rw [hc]; exact if_neg h1
      have l0 : ("\n" : Str).length = 1 := rfl
      refine ⟨t, "\n", rfl, rfl, sz_of (by rw [l0]; omega), .ref p, (by kernel_rfl), p, ls, rfl, hp, hn, each, fun H1 S1 => ?_⟩
      refine ⟨_, _, rfl, rfl, sz_of (by rw [len_app, l0]; omega), ?_⟩
      have := k H1 S1
      unfold appT at this
      rwa [e] at this
end

end Nm
namespace Nm
open PySem PySem.Spec PyProof.Rows L2
/-! ### drawn lines -/
open TL (numL tl_num numL_len numL_digits numL_ne numL_val numL_lt numL_step)
def numC (i : Int) : List Nat := codes (Str.ofString (toString i))
theorem numC_nat (n : Nat) : numC (n : Int) = numL n := tl_num n
theorem numC_neg (n : Nat) : numC (Int.negSucc n) = 45 :: numL (n + 1) := by
  have e : toString (Int.negSucc n) = "-" ++ toString (n + 1) := rfl
  unfold numC
  rw [e]
  have h2 : numL (n + 1) = codes (Str.ofString (toString ((n + 1 : Nat) : Int))) := (numC_nat (n + 1)).symm
  rw [h2]
  show (Str.ofString ("-" ++ toString (n + 1))).cps.toList = _
  rw [PyProof.Rows.signs_ofString]
  show _ = 45 :: (Str.ofString (toString (n + 1))).cps.toList
  rw [PyProof.Rows.signs_ofString, String.toList_append, List.map_append]
  rfl
theorem numC_cases (i : Int) : (0 ≤ i ∧ numC i = numL i.natAbs) ∨ (i < 0 ∧ numC i = 45 :: numL i.natAbs) := by
  cases i with
  | ofNat n => exact .inl ⟨Int.natCast_nonneg n, numC_nat n⟩
  | negSucc n => exact .inr ⟨Int.negSucc_lt_zero n, numC_neg n⟩
theorem numC_len {i : Int} (h : i.natAbs < 10 ^ 400) : (numC i).length ≤ 401 := by
  have l := numL_len (k := 400) (by decide) h
  rcases numC_cases i with ⟨_, e⟩ | ⟨_, e⟩ <;> rw [e]
  · omega
  · simp only [List.length_cons]; omega
theorem numC_free {i : Int} {c : Nat} (h : c ∈ numC i) : c = 45 ∨ (48 ≤ c ∧ c ≤ 57) := by
  rcases numC_cases i with ⟨_, e⟩ | ⟨_, e⟩ <;> rw [e] at h
  · exact .inr (numL_digits _ c h)
  · rcases List.mem_cons.mp h with h | h
    · exact .inl h
    · exact .inr (numL_digits _ c h)
theorem numC_ne (i : Int) : numC i ≠ [] := by
  rcases numC_cases i with ⟨_, e⟩ | ⟨_, e⟩ <;> rw [e]
  · exact numL_ne _
  · exact fun z => nomatch z
theorem num_log {i : Int} (h : i.natAbs < 10 ^ 400) : i.natAbs.log2 < 1920 := by
  by_cases z : i.natAbs = 0
  · rw [z]; decide
  · rw [Nat.log2_lt z]
    exact Nat.lt_trans h (by decide +kernel)

def numS (i : Int) : Str := Str.ofString (toString i)
theorem numS_codes (i : Int) : codes (numS i) = numC i := rfl
/-- a short text of signs that may stand in a text -/
structure LOk (w : Str) (n : Nat) : Prop where
  len : w.length ≤ n
  ok : ∀ c ∈ codes w, c < 0x110000
theorem LOk.mono {w : Str} {n m : Nat} (h : LOk w n) (k : n ≤ m) : LOk w m := ⟨Nat.le_trans h.len k, h.ok⟩
theorem LOk.app {a b : Str} {n m : Nat} (h : LOk a n) (k : LOk b m) : LOk (a ++ b) (n + m) := ⟨by have := h.len; have := k.len; rw [len_app]; omega, fun c hc => by
  rw [codes_app] at hc
  rcases List.mem_append.mp hc with q | q
  · exact h.ok c q
  · exact k.ok c q⟩
theorem LOk.cut {w : Str} {n : Nat} (h : LOk w n) (i j : Option Int) : LOk (cutS w i j) n := ⟨Nat.le_trans (cut_len w i j) h.len, fun c hc => by
  have q2 : c ∈ (w.cps.toList.drop (HT.sIx w.length 0 i)).take (HT.sIx w.length w.length j - HT.sIx w.length 0 i) := hc
  exact h.ok c (List.mem_of_mem_drop (List.mem_of_mem_take q2))⟩
theorem LOk.lit {w : Str} {n : Nat} (h : (decide (w.length ≤ n) && (codes w).all fun c => decide (c < 0x110000)) = true) : LOk w n := by
  obtain ⟨h1, h2⟩ := Bool.and_eq_true_iff.mp h
  exact ⟨of_decide_eq_true h1, fun c hc => of_decide_eq_true (List.all_eq_true.mp h2 c hc)⟩
theorem LOk.num {i : Int} {k : Nat} (h0 : 0 < k) (h : i.natAbs < 10 ^ k) : LOk (numS i) (k + 1) := by
  constructor
  · rw [len_codes, numS_codes]
    have := numL_len h0 h
    rcases numC_cases i with ⟨_, q⟩ | ⟨_, q⟩ <;> rw [q] <;> first | omega | (simp only [List.length_cons]; omega)
  · intro c hc
    rw [numS_codes] at hc
    rcases numC_free hc with q | q <;> omega
theorem LOk.one {w : Str} {i : Int} {c : Nat} (h : ∀ c ∈ codes w, c < 0x110000) (e : atI (codes w) i = some c) : LOk ⟨#[c]⟩ 1 := ⟨Nat.le_refl _, fun d hd => by
  have : d = c := List.mem_singleton.mp hd
  subst this
  unfold atI at e
  obtain ⟨j, _, ej⟩ := Option.bind_eq_some_iff.mp e
  exact h d (List.mem_of_getElem? ej)⟩
theorem joinL_nil : ∀ ps : List (List Nat), TL.joinL [] ps = ps.flatten
  | [] => rfl
  | [p] => by simp [TL.joinL]
  | p :: q :: r => by
    have ih := joinL_nil (q :: r)
    have e : TL.joinL [] (p :: q :: r) = p ++ ([] ++ TL.joinL [] (q :: r)) := by simp [TL.joinL]
    rw [e, ih]
    rfl
theorem join_codes (ys : List Str) : codes (Txt.join "" ys) = (ys.map codes).flatten := by
  rw [TL.join_eq]
  exact (TL.tl_join _ _).trans (joinL_nil _)
theorem join_ok {n : Nat} : ∀ {ys : List Str}, (∀ y ∈ ys, LOk y n) → LOk (Txt.join "" ys) (ys.length * n) := by
  intro ys h
  constructor
  · rw [len_codes, join_codes]
    induction ys with
    | nil => exact Nat.zero_le _
    | cons y r ih =>
      have h1 := (h y (List.mem_cons_self ..)).len
      rw [len_codes] at h1
      have h2 := ih fun x m => h x (List.mem_cons_of_mem _ m)
      rw [List.map_cons, List.flatten_cons, List.length_append, List.length_cons, Nat.succ_mul]
      omega
  · intro c hc
    rw [join_codes] at hc
    obtain ⟨l, hl, hc⟩ := List.mem_flatten.mp hc
    obtain ⟨y, hy, rfl⟩ := List.mem_map.mp hl
    exact (h y hy).ok c hc
theorem sum_ok {n : Nat} : ∀ {ys : List Str}, (∀ y ∈ ys, LOk y n) → (ys.map (·.length)).sum ≤ ys.length * n
  | [], _ => Nat.zero_le _
  | y :: r, h => by
    have h1 := (h y (List.mem_cons_self ..)).len
    have h2 := sum_ok fun x m => h x (List.mem_cons_of_mem y m)
    simp only [List.map_cons, List.sum_cons, List.length_cons, Nat.succ_mul]
    omega
theorem let_ok : LOk sLET 63 := .lit (by decide +kernel)
theorem let_at {i : Int} (h0 : 0 ≤ i) (h1 : i < 63) : ∃ c, atI (codes sLET) i = some c := by
  obtain ⟨k, rfl⟩ := Int.eq_ofNat_of_zero_le h0
  have l : (codes sLET).length = 63 := by decide +kernel
  have hk : k < (codes sLET).length := by omega
  exact ⟨(codes sLET)[k], atI_nat (List.getElem?_eq_getElem hk)⟩
def spSomeL : Sp := fun vs H Q _ => ∃ (p : Addr) (z : Pen), vs = [.ref p] ∧ PenAt H p z ∧ z.c ≤ 900000 ∧ ∀ (w : Str) (H' : Hp) (z' : Pen), PS H p (z.c + 60) H' z' → LOk w 400 → 0 < w.length → Q (.str w) H'
def spSpoil : Sp := fun vs H Q _ => ∃ (p : Addr) (z : Pen) (w : Str) (n : Nat), vs = [.ref p, .str w] ∧ PenAt H p z ∧ z.c ≤ 900000 ∧ LOk w n ∧ n ≤ 1000 ∧ 0 < w.length ∧ ∀ (w' : Str) (H' : Hp) (z' : Pen), PS H p (z.c + 3) H' z' → LOk w' (n + n + 1) → Q (.str w') H'
def spBend : Sp := fun vs H Q _ => ∃ (p : Addr) (z : Pen) (w : Str) (n : Nat), vs = [.ref p, .str w] ∧ PenAt H p z ∧ z.c ≤ 900000 ∧ LOk w n ∧ n ≤ 1000 ∧ ∀ (w' : Str) (H' : Hp) (z' : Pen), PS H p (z.c + 3) H' z' → LOk w' (n + n + 40) → Q (.str w') H'
section
variable {P : Program} {w : World} {K : PySem.W.Frag} {mg : Str → Option Value} {base : Heap}

abbrev sLspoilt : Stmt := top 36
abbrev NLspoilt : List Str := ["_law_pen_here", "_law_line", "_law_signs", "_law_place", "_law_sign", "_law_way"]
abbrev PLspoilt : List Str := ["_law_pen_here", "_law_line"]
theorem scLspoilt : FnScope NLspoilt PLspoilt (defScope sLspoilt) := ⟨rfl, rfl, rfl, by decide +kernel, rfl, by decide +kernel, by decide +kernel⟩

theorem signs_ok {v : V} (h : v ∈ ([.str "0", .str "1", .str ".", .str "#", .str "-", .str "m", .str ":", .str "A", .str "z", .str "_", .str " ", .str "'"] : List V)) : ∃ s : Str, v = .str s ∧ LOk s 1 := by
  simp only [List.mem_cons, List.not_mem_nil, or_false] at h
  rcases h with rfl | rfl | rfl | rfl | rfl | rfl | rfl | rfl | rfl | rfl | rfl | rfl <;> exact ⟨_, rfl, .lit (by decide +kernel)⟩
theorem ok_spoil {f fD fQ : Addr} {fd fdD fdQ : FuncData} (F : Fun K "_law_spoilt" "_law_spoilt" sLspoilt f fd) (T : LTxt mg) (PT : PenTxt mg) (F_law_draw : Fun K "_law_draw" "_law_draw" sDraw fD fdD) (b_law_draw : Binds K fdD ["_law_pen_here", "_law_many"] []) (g_law_draw : mg "_law_draw" = some (.ref fD))
    (F_law_pick : Fun K "_law_pick" "_law_pick" sPick fQ fdQ) (b_law_pick : Binds K fdQ ["_law_pen_here", "_law_some"] []) (g_law_pick : mg "_law_pick" = some (.ref fQ)) : FnOk P w K mg base CX0 3 f fd PLspoilt spSpoil := by
  have G_law_draw : FnOk P w K mg base CX0 2 fD fdD ["_law_pen_here", "_law_many"] spDraw := (ok_draw F_law_draw PT).mono (by decide)
  have G_law_pick : FnOk P w K mg base CX0 2 fQ fdQ ["_law_pen_here", "_law_some"] (spPick K) := ok_pick F_law_pick PT F_law_draw b_law_draw g_law_draw
  refine F.ok scLspoilt (fun vs H Q E h => ?_) (fun cdv A outer s H vs Q E hr h => ?_)
  · obtain ⟨p, z, w, n, rfl, _⟩ := h
    rfl
  · obtain ⟨p, z, w, n, rfl, Z, hc, ok, hn, h0, k⟩ := h
    have hr1 := hr
    have lw := ok.len
    refine ⟨_, (pss_cons (ps_set (i := 2) scLspoilt.nd rfl (Or.inl rfl) (pe_lst (pa_cons pe_str (pa_cons pe_str (pa_cons pe_str (pa_cons pe_str (pa_cons pe_str (pa_cons pe_str (pa_cons pe_str (pa_cons pe_str (pa_cons pe_str (pa_cons pe_str (pa_cons pe_str (pa_cons pe_str pa_nil))))))))))))))
      (pss_cons (ps_par3 (i := 3) (j := 4) (l := 5) rfl scLspoilt.nd rfl rfl rfl (by decide) (by decide) (by decide) rfl rfl rfl (pa_cons (pe_call G_law_draw hr1 rfl g_law_draw F_law_draw.kp b_law_draw .nil pass0 (pa_cons (pv 0) (pa_cons (pe_callB call_len_str (by rfl) T.len PySem.boot_len (pa_cons (pv 1) pa_nil)) pa_nil))) (pa_cons (pe_call G_law_pick hr1 rfl g_law_pick F_law_pick.kp b_law_pick .nil pass0 (pa_cons (pv 0) (pa_cons (pv 2) pa_nil))) (pa_cons (pe_call G_law_draw hr1 rfl g_law_draw F_law_draw.kp b_law_draw .nil pass0 (pa_cons (pv 0) (pa_cons pe_int pa_nil))) pa_nil))) (by rfl))
      (pss_one (ps_ret (pe_op op_add_str (pe_op op_add_str (pe_slice sl_str (pv 1) po_none (po_some (pv 3))) (pe_ifExp (pt_cmpR op_gt (pv 5) pe_int (nomark _)) (pv 4) pe_str)) (pe_slice sl_str (pv 1) (po_some (pe_op op_add (pv 3) (pe_callTy call_int1 (by rfl) T.int (by decide +kernel) (pa_cons (pe_cmpR op_lt (pv 5) pe_int (nomark _)) pa_nil)))) po_none)))))), ?_⟩
    refine ⟨by show 12 ≤ sizeLine; decide, fun q nq => ?_⟩
    have S1 := (PS.start Z).new (o := .lst [.str "0", .str "1", .str ".", .str "#", .str "-", .str "m", .str ":", .str "A", .str "z", .str "_", .str " ", .str "'"]) nq
    have hq := upd_same (H := H) (a := q) (o := .lst [.str "0", .str "1", .str ".", .str "#", .str "-", .str "m", .str ":", .str "A", .str "z", .str "_", .str " ", .str "'"])
    generalize upd H q (.lst [.str "0", .str "1", .str ".", .str "#", .str "-", .str "m", .str ":", .str "A", .str "z", .str "_", .str " ", .str "'"]) = H1 at S1 hq ⊢
    refine ⟨.ref p, (by kernel_rfl), .str w, (by kernel_rfl), w, rfl, sz_of (by omega), p, z, _, rfl, S1.pen, by omega, by omega, by omega, fun pl z2 p0 p1 g2 => ?_⟩
    have S2 := S1.draw g2
    have hq2 := (PS.start S1.pen).draw g2 |>.keep _ _ (ne_of hq S1.pen.at_ (by intro z; cases z)) hq
    generalize upd H1 p (.dK z2.kvs) = H2 at S2 hq2 ⊢
    have c2 := S2.c
    refine ⟨.ref p, (by kernel_rfl), .ref q, (by kernel_rfl), p, q, z2, _, rfl, S2.pen, hq2, by decide, by decide, by omega, fun v z3 hv g3 => ?_⟩
    obtain ⟨sg, rfl, oks⟩ := signs_ok hv
    have S3 := S2.draw g3
    generalize upd H2 p (.dK z3.kvs) = H3 at S3 ⊢
    have c3 := S3.c
    refine ⟨.ref p, (by kernel_rfl), p, z3, 3, rfl, S3.pen, by decide, by decide, by omega, fun wy z4 w0 w1 g4 => ?_⟩
    have S4 := S3.draw g4
    generalize upd H3 p (.dK z4.kvs) = H4 at S4 ⊢
    refine ⟨_, _, _, rfl, ?_⟩
    refine ⟨.str w, (by kernel_rfl), .int pl, (by kernel_rfl), pl, rfl, w, rfl, sz_of (by omega), ?_⟩
    have o1 := ok.cut none (some pl)
    generalize cutS w none (some pl) = cu at o1 ⊢
    have l1 := o1.len
    have l2 := oks.len
    have key : ∀ (x : Int) (a : Str), LOk a (n + 1) → ∃ i j, V.str a = .str i ∧ V.str (cutS w (some x) none) = .str j ∧ i.length + j.length ≤ sizeLine ∧ Q (.str (i ++ j)) H4 := fun x a ha => by
      have h1 := ha.len
      have h2 := (ok.cut (some x) none).len
      exact ⟨a, _, rfl, rfl, sz_of (by omega), k _ _ _ (S4.le (by omega)) ((ha.app (ok.cut (some x) none)).mono (by omega))⟩
    refine ⟨.int wy, (by kernel_rfl), _, _, rfl, rfl, _, rfl, ?_⟩
    refine ite2 (fun _ => ?_) (fun _ => ?_)
    · refine ⟨.str sg, (by kernel_rfl), _, _, rfl, rfl, sz_of (by omega), ?_⟩
      refine ⟨.str w, (by kernel_rfl), .int pl, (by kernel_rfl), .int wy, (by kernel_rfl), _, _, rfl, rfl, .inr ⟨_, rfl, _, _, rfl, rfl, _, rfl, w, rfl, sz_of (by omega), ?_⟩⟩
      exact key _ _ (o1.app oks)
    · refine ⟨_, _, rfl, rfl, sz_of (by show cu.length + 0 ≤ _; omega), ?_⟩
      refine ⟨.str w, (by kernel_rfl), .int pl, (by kernel_rfl), .int wy, (by kernel_rfl), _, _, rfl, rfl, .inr ⟨_, rfl, _, _, rfl, rfl, _, rfl, w, rfl, sz_of (by omega), ?_⟩⟩
      exact key _ _ (o1.app (b := "") (m := 1) (.lit (by decide +kernel)))

abbrev sLbent : Stmt := top 34
abbrev NLbent : List Str := ["_law_pen_here", "_law_line", "_law_cut", "_law_some"]
abbrev PLbent : List Str := ["_law_pen_here", "_law_line"]
theorem scLbent : FnScope NLbent PLbent (defScope sLbent) := ⟨rfl, rfl, rfl, by decide +kernel, rfl, by decide +kernel, by decide +kernel⟩

def okV (m : Nat) (v : V) : Prop := ∃ s : Str, v = .str s ∧ LOk s m
theorem bend1 {w cu : Str} {n : Nat} (ok : LOk w n) (oc : LOk cu n) : ∀ v ∈ ([.str (cutS w none (some (-1))), .str (w ++ ".0.Cons"), .str (w ++ ".1.Nil"), .str (w ++ "."), .str cu, .str cu, .str "m:0", .str "m:0.", .str ("x" ++ w), .str (cutS w (some 1) none)] : List V), okV (n + n + 40) v := by
  intro v h
  simp only [List.mem_cons, List.not_mem_nil, or_false] at h
  rcases h with rfl | rfl | rfl | rfl | rfl | rfl | rfl | rfl | rfl | rfl
  · exact ⟨_, rfl, (ok.cut _ _).mono (by omega)⟩
  · exact ⟨_, rfl, (ok.app (m := 40) (.lit (by decide +kernel))).mono (by omega)⟩
  · exact ⟨_, rfl, (ok.app (m := 40) (.lit (by decide +kernel))).mono (by omega)⟩
  · exact ⟨_, rfl, (ok.app (m := 40) (.lit (by decide +kernel))).mono (by omega)⟩
  · exact ⟨_, rfl, oc.mono (by omega)⟩
  · exact ⟨_, rfl, oc.mono (by omega)⟩
  · exact ⟨_, rfl, (LOk.lit (n := 40) (by decide +kernel)).mono (by omega)⟩
  · exact ⟨_, rfl, (LOk.lit (n := 40) (by decide +kernel)).mono (by omega)⟩
  · exact ⟨_, rfl, ((LOk.lit (w := "x") (n := 40) (by decide +kernel)).app ok).mono (by omega)⟩
  · exact ⟨_, rfl, (ok.cut _ _).mono (by omega)⟩
theorem bend2 {w : Str} {n : Nat} (ok : LOk w n) : ∀ v ∈ ([.str "m:00.Cons", .str "m:0.Cons.01.Nil", .str "m:0.#-0", .str "m:0.#-7", .str "m:0.cons", .str "m:.Cons", .str "m:0.C-1", .str (w ++ w)] : List V), okV (n + n + 40) v := by
  intro v h
  simp only [List.mem_cons, List.not_mem_nil, or_false] at h
  rcases h with rfl | rfl | rfl | rfl | rfl | rfl | rfl | rfl
  · exact ⟨_, rfl, (LOk.lit (n := 40) (by decide +kernel)).mono (by omega)⟩
  · exact ⟨_, rfl, (LOk.lit (n := 40) (by decide +kernel)).mono (by omega)⟩
  · exact ⟨_, rfl, (LOk.lit (n := 40) (by decide +kernel)).mono (by omega)⟩
  · exact ⟨_, rfl, (LOk.lit (n := 40) (by decide +kernel)).mono (by omega)⟩
  · exact ⟨_, rfl, (LOk.lit (n := 40) (by decide +kernel)).mono (by omega)⟩
  · exact ⟨_, rfl, (LOk.lit (n := 40) (by decide +kernel)).mono (by omega)⟩
  · exact ⟨_, rfl, (LOk.lit (n := 40) (by decide +kernel)).mono (by omega)⟩
  · exact ⟨_, rfl, (ok.app ok).mono (by omega)⟩
theorem bend3 {r2 : Int} {n : Nat} (h0 : 0 ≤ r2) (h1 : r2 < 2) : ∀ v ∈ ([.str ("m:0." ++ timesS "B" (24 + r2)), .str ";", .str "(m:0.Cons)", .str "#5", .str "m:1.Cons", .str "M:0.Cons"] : List V), okV (n + n + 40) v := by
  intro v h
  simp only [List.mem_cons, List.not_mem_nil, or_false] at h
  rcases h with rfl | rfl | rfl | rfl | rfl | rfl
  · obtain rfl | rfl : r2 = 0 ∨ r2 = 1 := by omega
    · exact ⟨_, rfl, (LOk.lit (n := 40) (by decide +kernel)).mono (by omega)⟩
    · exact ⟨_, rfl, (LOk.lit (n := 40) (by decide +kernel)).mono (by omega)⟩
  · exact ⟨_, rfl, (LOk.lit (n := 40) (by decide +kernel)).mono (by omega)⟩
  · exact ⟨_, rfl, (LOk.lit (n := 40) (by decide +kernel)).mono (by omega)⟩
  · exact ⟨_, rfl, (LOk.lit (n := 40) (by decide +kernel)).mono (by omega)⟩
  · exact ⟨_, rfl, (LOk.lit (n := 40) (by decide +kernel)).mono (by omega)⟩
  · exact ⟨_, rfl, (LOk.lit (n := 40) (by decide +kernel)).mono (by omega)⟩
theorem ok_bend {f fD fQ : Addr} {fd fdD fdQ : FuncData} (F : Fun K "_law_bent" "_law_bent" sLbent f fd) (T : LTxt mg) (PT : PenTxt mg) (F_law_draw : Fun K "_law_draw" "_law_draw" sDraw fD fdD) (b_law_draw : Binds K fdD ["_law_pen_here", "_law_many"] []) (g_law_draw : mg "_law_draw" = some (.ref fD))
    (F_law_pick : Fun K "_law_pick" "_law_pick" sPick fQ fdQ) (b_law_pick : Binds K fdQ ["_law_pen_here", "_law_some"] []) (g_law_pick : mg "_law_pick" = some (.ref fQ)) : FnOk P w K mg base CX0 3 f fd PLbent spBend := by
  have G_law_draw : FnOk P w K mg base CX0 2 fD fdD ["_law_pen_here", "_law_many"] spDraw := (ok_draw F_law_draw PT).mono (by decide)
  have G_law_pick : FnOk P w K mg base CX0 2 fQ fdQ ["_law_pen_here", "_law_some"] (spPick K) := ok_pick F_law_pick PT F_law_draw b_law_draw g_law_draw
  refine F.ok scLbent (fun vs H Q E h => ?_) (fun cdv A outer s H vs Q E hr h => ?_)
  · obtain ⟨p, z, w, n, rfl, _⟩ := h
    rfl
  · obtain ⟨p, z, w, n, rfl, Z, hc, ok, hn, k⟩ := h
    have hr1 := hr
    have lw := ok.len
    refine ⟨_, (pss_cons (ps_set (i := 2) scLbent.nd rfl (Or.inl rfl) (pe_slice sl_str (pv 1) po_none (po_some (pe_call G_law_draw hr1 rfl g_law_draw F_law_draw.kp b_law_draw .nil pass0 (pa_cons (pv 0) (pa_cons (pe_op op_add (pe_callB call_len_str (by rfl) T.len PySem.boot_len (pa_cons (pv 1) pa_nil)) pe_int) pa_nil))))))
      (pss_cons (ps_set (i := 3) scLbent.nd rfl (Or.inl rfl) (pe_lst (pa_cons (pe_slice sl_str (pv 1) po_none (po_some (pe_un un_neg pe_int))) (pa_cons (pe_op op_add_str (pv 1) pe_str) (pa_cons (pe_op op_add_str (pv 1) pe_str) (pa_cons (pe_op op_add_str (pv 1) pe_str) (pa_cons (pv 2) (pa_cons (pv 2) (pa_cons pe_str (pa_cons pe_str (pa_cons (pe_op op_add_str pe_str (pv 1)) (pa_cons (pe_slice sl_str (pv 1) (po_some pe_int) po_none) pa_nil))))))))))))
      (pss_cons (ps_set (i := 3) scLbent.nd rfl (Or.inl rfl) (pe_op op_cat (pv 3) (pe_lst (pa_cons pe_str (pa_cons pe_str (pa_cons pe_str (pa_cons pe_str (pa_cons pe_str (pa_cons pe_str (pa_cons pe_str (pa_cons (pe_op op_add_str (pv 1) (pv 1)) pa_nil)))))))))))
      (pss_cons (ps_set (i := 3) scLbent.nd rfl (Or.inl rfl) (pe_op op_cat (pv 3) (pe_lst (pa_cons (pe_op op_add_str pe_str (pe_op op_timesB pe_str (pe_op op_add pe_int (pe_call G_law_draw hr1 rfl g_law_draw F_law_draw.kp b_law_draw .nil pass0 (pa_cons (pv 0) (pa_cons pe_int pa_nil)))))) (pa_cons pe_str (pa_cons pe_str (pa_cons pe_str (pa_cons pe_str (pa_cons pe_str pa_nil)))))))))
      (pss_one (ps_ret (pe_call G_law_pick hr1 rfl g_law_pick F_law_pick.kp b_law_pick .nil pass0 (pa_cons (pv 0) (pa_cons (pe_op op_cat (pv 3) (pe_lst (pa_cons pe_str pa_nil))) pa_nil))))))))), ?_⟩
    refine ⟨.str w, (by kernel_rfl), .ref p, (by kernel_rfl), .str w, (by kernel_rfl), w, rfl, sz_of (by omega), _, _, rfl, rfl, p, z, _, rfl, Z, by omega, by omega, by omega, fun r1 z1 a0 a1 g1 => ?_⟩
    have S1 := (PS.start Z).draw g1
    generalize upd H p (.dK z1.kvs) = H1 at S1 ⊢
    have c1 := S1.c
    refine ⟨r1, rfl, w, rfl, sz_of (by omega), ?_⟩
    have oc := ok.cut none (some r1)
    generalize cutS w none (some r1) = cu at oc ⊢
    have lc := oc.len
    have le1 : (".0.Cons" : Str).length = 7 := rfl
    have le2 : (".1.Nil" : Str).length = 6 := rfl
    have le3 : ("." : Str).length = 1 := rfl
    have le4 : ("x" : Str).length = 1 := rfl
    refine ⟨.str w, (by kernel_rfl), 1, rfl, -1, rfl, w, rfl, sz_of (by omega), .str w, (by kernel_rfl), _, _, rfl, rfl, sz_of (by rw [le1]; omega), .str w, (by kernel_rfl), _, _, rfl, rfl, sz_of (by rw [le2]; omega), .str w, (by kernel_rfl), _, _, rfl, rfl, sz_of (by rw [le3]; omega), .str cu, (by kernel_rfl), .str cu, (by kernel_rfl), .str w, (by kernel_rfl), _, _, rfl, rfl, sz_of (by rw [le4]; omega), .str w, (by kernel_rfl), 1, rfl, w, rfl, sz_of (by omega), by show 10 ≤ sizeLine; decide, fun q1 n1 => ?_⟩
    have b1 := bend1 (n := n) ok oc
    have S2 := S1.new (o := .lst [.str (cutS w none (some (-1))), .str (w ++ ".0.Cons"), .str (w ++ ".1.Nil"), .str (w ++ "."), .str cu, .str cu, .str "m:0", .str "m:0.", .str ("x" ++ w), .str (cutS w (some 1) none)]) n1
    have h1 := upd_same (H := H1) (a := q1) (o := .lst [.str (cutS w none (some (-1))), .str (w ++ ".0.Cons"), .str (w ++ ".1.Nil"), .str (w ++ "."), .str cu, .str cu, .str "m:0", .str "m:0.", .str ("x" ++ w), .str (cutS w (some 1) none)])
    have e1 : ([.str (cutS w none (some (-1))), .str (w ++ ".0.Cons"), .str (w ++ ".1.Nil"), .str (w ++ "."), .str cu, .str cu, .str "m:0", .str "m:0.", .str ("x" ++ w), .str (cutS w (some 1) none)] : List V).length = 10 := rfl
    generalize upd H1 q1 (.lst [.str (cutS w none (some (-1))), .str (w ++ ".0.Cons"), .str (w ++ ".1.Nil"), .str (w ++ "."), .str cu, .str cu, .str "m:0", .str "m:0.", .str ("x" ++ w), .str (cutS w (some 1) none)]) = H2 at S2 h1 ⊢
    generalize ([.str (cutS w none (some (-1))), .str (w ++ ".0.Cons"), .str (w ++ ".1.Nil"), .str (w ++ "."), .str cu, .str cu, .str "m:0", .str "m:0.", .str ("x" ++ w), .str (cutS w (some 1) none)] : List V) = x1 at h1 b1 e1
    refine ⟨.ref q1, (by kernel_rfl), .str w, (by kernel_rfl), .str w, (by kernel_rfl), _, _, rfl, rfl, sz_of (by omega), by show 8 ≤ sizeLine; decide, fun q2 n2 => ?_⟩
    have b2 := bend2 ok
    have S3 := S2.new (o := .lst [.str "m:00.Cons", .str "m:0.Cons.01.Nil", .str "m:0.#-0", .str "m:0.#-7", .str "m:0.cons", .str "m:.Cons", .str "m:0.C-1", .str (w ++ w)]) n2
    have h2 := upd_same (H := H2) (a := q2) (o := .lst [.str "m:00.Cons", .str "m:0.Cons.01.Nil", .str "m:0.#-0", .str "m:0.#-7", .str "m:0.cons", .str "m:.Cons", .str "m:0.C-1", .str (w ++ w)])
    have h1' := (same_new (o := .lst [.str "m:00.Cons", .str "m:0.Cons.01.Nil", .str "m:0.#-0", .str "m:0.#-7", .str "m:0.cons", .str "m:.Cons", .str "m:0.C-1", .str (w ++ w)]) n2) _ _ h1
    have e2 : ([.str "m:00.Cons", .str "m:0.Cons.01.Nil", .str "m:0.#-0", .str "m:0.#-7", .str "m:0.cons", .str "m:.Cons", .str "m:0.C-1", .str (w ++ w)] : List V).length = 8 := rfl
    generalize upd H2 q2 (.lst [.str "m:00.Cons", .str "m:0.Cons.01.Nil", .str "m:0.#-0", .str "m:0.#-7", .str "m:0.cons", .str "m:.Cons", .str "m:0.C-1", .str (w ++ w)]) = H3 at S3 h2 h1' ⊢
    generalize ([.str "m:00.Cons", .str "m:0.Cons.01.Nil", .str "m:0.#-0", .str "m:0.#-7", .str "m:0.cons", .str "m:.Cons", .str "m:0.C-1", .str (w ++ w)] : List V) = x2 at h2 b2 e2
    refine ⟨q1, q2, _, _, rfl, rfl, h1', h2, sz_of (by omega), fun q3 n3 => ?_⟩
    have S4 := S3.new (o := .lst (x1 ++ x2)) n3
    have h3 := upd_same (H := H3) (a := q3) (o := .lst (x1 ++ x2))
    clear h1 h1' h2
    generalize upd H3 q3 (.lst (x1 ++ x2)) = H4 at S4 h3 ⊢
    have c4 := S4.c
    refine ⟨.ref q3, (by kernel_rfl), .ref p, (by kernel_rfl), p, z1, 2, rfl, S4.pen, by decide, by decide, by omega, fun r2 z5 d0 d1 g5 => ?_⟩
    have S5 := S4.draw g5
    have h3' := (PS.start S4.pen).draw g5 |>.keep _ _ (ne_of h3 S4.pen.at_ (by intro z; cases z)) h3
    generalize upd H4 p (.dK z5.kvs) = H5 at S5 h3' ⊢
    have lB : ("B" : Str).length = 1 := rfl
    have l4 : ("m:0." : Str).length = 4 := rfl
    have lt : (timesS "B" (24 + r2)).length ≤ 30 := by
      obtain rfl | rfl : r2 = 0 ∨ r2 = 1 := by omega
      · decide +kernel
      · decide +kernel
    refine ⟨_, _, rfl, rfl, "B", 24 + r2, rfl, rfl, by omega, by omega, by decide, by rw [lB]; omega, _, _, rfl, rfl, sz_of (by rw [l4]; omega), by show 6 ≤ sizeLine; decide, fun q4 n4 => ?_⟩
    have b3 := bend3 (n := n) d0 d1
    have S6 := S5.new (o := .lst [.str ("m:0." ++ timesS "B" (24 + r2)), .str ";", .str "(m:0.Cons)", .str "#5", .str "m:1.Cons", .str "M:0.Cons"]) n4
    have h4 := upd_same (H := H5) (a := q4) (o := .lst [.str ("m:0." ++ timesS "B" (24 + r2)), .str ";", .str "(m:0.Cons)", .str "#5", .str "m:1.Cons", .str "M:0.Cons"])
    have h3'' := (same_new (o := .lst [.str ("m:0." ++ timesS "B" (24 + r2)), .str ";", .str "(m:0.Cons)", .str "#5", .str "m:1.Cons", .str "M:0.Cons"]) n4) _ _ h3'
    have e3 : ([.str ("m:0." ++ timesS "B" (24 + r2)), .str ";", .str "(m:0.Cons)", .str "#5", .str "m:1.Cons", .str "M:0.Cons"] : List V).length = 6 := rfl
    generalize upd H5 q4 (.lst [.str ("m:0." ++ timesS "B" (24 + r2)), .str ";", .str "(m:0.Cons)", .str "#5", .str "m:1.Cons", .str "M:0.Cons"]) = H6 at S6 h4 h3'' ⊢
    generalize ([.str ("m:0." ++ timesS "B" (24 + r2)), .str ";", .str "(m:0.Cons)", .str "#5", .str "m:1.Cons", .str "M:0.Cons"] : List V) = x3 at h4 b3 e3
    refine ⟨q3, q4, _, _, rfl, rfl, h3'', h4, sz_of (by simp only [List.length_append]; omega), fun q5 n5 => ?_⟩
    have S7 := S6.new (o := .lst (x1 ++ x2 ++ x3)) n5
    have h5 := upd_same (H := H6) (a := q5) (o := .lst (x1 ++ x2 ++ x3))
    generalize upd H6 q5 (.lst (x1 ++ x2 ++ x3)) = H7 at S7 h5 ⊢
    refine ⟨.ref p, (by kernel_rfl), .ref q5, (by kernel_rfl), by show 1 ≤ sizeLine; decide, fun q6 n6 => ?_⟩
    have S8 := S7.new (o := .lst [.str "m:0..Cons"]) n6
    have h6 := upd_same (H := H7) (a := q6) (o := .lst [.str "m:0..Cons"])
    have h5' := (same_new (o := .lst [.str "m:0..Cons"]) n6) _ _ h5
    generalize upd H7 q6 (.lst [.str "m:0..Cons"]) = H8 at S8 h6 h5' ⊢
    refine ⟨q5, q6, _, _, rfl, rfl, h5', h6, sz_of (by simp only [List.length_append]; show _ + 1 ≤ _; omega), fun q7 n7 => ?_⟩
    have S9 := S8.new (o := .lst (x1 ++ x2 ++ x3 ++ [.str "m:0..Cons"])) n7
    have c9 := S9.c
    refine ⟨p, q7, z5, _, rfl, S9.pen, upd_same, by simp only [List.length_append, List.length_singleton]; omega, by simp only [List.length_append, List.length_singleton]; omega, by omega, fun v z10 hv g10 => ?_⟩
    have S10 := S9.draw g10
    have vo : okV (n + n + 40) v := by
      rcases List.mem_append.mp hv with hv | hv
      · rcases List.mem_append.mp hv with hv | hv
        · rcases List.mem_append.mp hv with hv | hv
          · exact b1 v hv
          · exact b2 v hv
        · exact b3 v hv
      · rw [List.mem_singleton.mp hv]
        exact ⟨_, rfl, (LOk.lit (n := 40) (by decide +kernel)).mono (by omega)⟩
    obtain ⟨s', rfl, os⟩ := vo
    exact k s' _ _ (S10.le (by omega)) os
end

end Nm
namespace Nm
open PySem PySem.Spec PyProof.Rows L2
/-! ### a drawn line -/
theorem PS.putD {H0 H : Hp} {p D : Addr} {n : Int} {z : Pen} {o : HO} (S : PS H0 p n H z) (Dp : D ≠ p) (nD : H0 D = Option.none) (nl : z.l ≠ D) : PS H0 p n (upd H D o) z :=
  ⟨⟨by rw [upd_ne (Ne.symm Dp)]; exact S.pen.at_, by rw [upd_ne nl]; exact S.pen.cells, S.pen.ok⟩, S.c, fun b o nb e => by rw [upd_ne (ne_of_none e nD)]; exact S.keep b o nb e, S.l⟩
section
variable {P : Program} {w : World} {K : PySem.W.Frag} {mg : Str → Option Value} {base : Heap}

abbrev sLsomeline : Stmt := top 35
abbrev NLsomeline : List Str := ["_law_pen_here", "_law_letters", "_law_line", "_law_lap", "_law_word", "_law_number", "_law_k"]
abbrev PLsomeline : List Str := ["_law_pen_here"]
theorem scLsomeline : FnScope NLsomeline PLsomeline (defScope sLsomeline) := ⟨rfl, rfl, rfl, by decide +kernel, rfl, by decide +kernel, by decide +kernel⟩

theorem num_pick {r8 r9 : Int} {v : V} (a8 : 0 ≤ r8) (b8 : r8 < 10 ^ (12 : Int).toNat) (a9 : 0 ≤ r9) (b9 : r9 < 99) (hv : v ∈ ([.int 0, .int 5, .int (-1), .int (r8 - 10 ^ (11 : Int).toNat), .int (10 ^ (60 : Int).toNat + r9)] : List V)) : ∃ i0 : Int, v = .int i0 ∧ i0.natAbs < 10 ^ 62 := by
  have e12 : (10 : Int) ^ (12 : Int).toNat = 1000000000000 := by decide +kernel
  have e11 : (10 : Int) ^ (11 : Int).toNat = 100000000000 := by decide +kernel
  have e60 : (10 : Int) ^ (60 : Int).toNat = 1000000000000000000000000000000000000000000000000000000000000 := by decide +kernel
  have e62 : (10 : Nat) ^ 62 = 100000000000000000000000000000000000000000000000000000000000000 := by decide +kernel
  rw [e12] at b8
  rw [e11, e60] at hv
  rw [e62]
  simp only [List.mem_cons, List.not_mem_nil, or_false] at hv
  rcases hv with rfl | rfl | rfl | rfl | rfl <;> exact ⟨_, rfl, by omega⟩

theorem ok_someL {f fD fQ : Addr} {fd fdD fdQ : FuncData} (F : Fun K "_law_some_line" "_law_some_line" sLsomeline f fd) (T : LTxt mg) (PT : PenTxt mg) (F_law_draw : Fun K "_law_draw" "_law_draw" sDraw fD fdD) (b_law_draw : Binds K fdD ["_law_pen_here", "_law_many"] []) (g_law_draw : mg "_law_draw" = some (.ref fD))
    (F_law_pick : Fun K "_law_pick" "_law_pick" sPick fQ fdQ) (b_law_pick : Binds K fdQ ["_law_pen_here", "_law_some"] []) (g_law_pick : mg "_law_pick" = some (.ref fQ)) : FnOk P w K mg base CX0 3 f fd PLsomeline spSomeL := by
  have G_law_draw : FnOk P w K mg base CX0 2 fD fdD ["_law_pen_here", "_law_many"] spDraw := (ok_draw F_law_draw PT).mono (by decide)
  have G_law_pick : FnOk P w K mg base CX0 2 fQ fdQ ["_law_pen_here", "_law_some"] (spPick K) := ok_pick F_law_pick PT F_law_draw b_law_draw g_law_draw
  refine F.ok scLsomeline (fun vs H Q E h => ?_) (fun cdv A outer s H vs Q E hr h => ?_)
  · obtain ⟨p, z, rfl, _⟩ := h
    rfl
  · obtain ⟨p, z, rfl, Z, hc, k⟩ := h
    have hr1 := hr
    have hp : H p ≠ none := by rw [Z.at_]; exact fun z => nomatch z
    refine ⟨_, (pss_cons (ps_set (i := 1) scLsomeline.nd rfl (Or.inr rfl) pe_str)
      (pss_cons (ps_set (i := 2) scLsomeline.nd rfl (Or.inl rfl) (pe_op op_add_str pe_str (pe_callTy call_str_int (by rfl) T.str (by decide +kernel) (pa_cons (pe_call G_law_pick hr1 rfl g_law_pick F_law_pick.kp b_law_pick .nil pass0 (pa_cons (pv 0) (pa_cons (pe_lst (pa_cons pe_int (pa_cons pe_int (pa_cons pe_int (pa_cons pe_int (pa_cons (pe_call G_law_draw hr1 rfl g_law_draw F_law_draw.kp b_law_draw .nil pass0 (pa_cons (pv 0) (pa_cons pe_int pa_nil))) pa_nil)))))) pa_nil))) pa_nil))))
      (pss_cons (ps_for PassesOwn.never rfl (pi_range1 rfl T.range (pa_cons (pe_op op_add pe_int (pe_call G_law_draw hr1 rfl g_law_draw F_law_draw.kp b_law_draw .nil pass0 (pa_cons (pv 0) (pa_cons pe_int pa_nil)))) pa_nil)) (pg_name (i := 3) scLsomeline.nd rfl (Or.inl rfl))
      (pss_cons (ps_if (pt_cmpR op_gt (pv 3) pe_int (nomark _))
      (pss_one (ps_set (i := 2) scLsomeline.nd rfl (Or.inl rfl) (pe_op op_add_str (pe_op op_add_str (pv 2) pe_str) (pe_callTy call_str_int (by rfl) T.str (by decide +kernel) (pa_cons (pe_call G_law_draw hr1 rfl g_law_draw F_law_draw.kp b_law_draw .nil pass0 (pa_cons (pv 0) (pa_cons pe_int pa_nil))) pa_nil)))))
      pss_nil)
      (pss_cons (ps_set (i := 4) scLsomeline.nd rfl (Or.inl rfl) (pe_join pe_str (pe_lc (own := [("_law_k", 6)]) (g := (gName 6)) rfl scLsomeline.nd (pi_range1 rfl T.range (pa_cons (pe_call G_law_draw hr1 rfl g_law_draw F_law_draw.kp b_law_draw .nil pass0 (pa_cons (pv 0) (pa_cons pe_int pa_nil))) pa_nil)) (blkOk_by (own := [("_law_k", 6)]) (N := NLsomeline) (sc := defScope sLsomeline) (by decide +kernel)) (fun _ _ _ _ _ => (pg_name (i := 6) scLsomeline.nd rfl (Or.inl rfl))) (fun _ _ _ _ _ => pts_nil) (fun _ _ _ _ _ => (pe_ix ix_str (pv 1) (pe_call G_law_draw hr1 rfl g_law_draw F_law_draw.kp b_law_draw .nil pass0 (pa_cons (pv 0) (pa_cons pe_int pa_nil))) (fun _ _ => rfl))))))
      (pss_cons (ps_set (i := 4) scLsomeline.nd rfl (Or.inl rfl) (pe_op op_add_str (pe_ix ix_str (pv 1) (pe_op op_add pe_int (pe_call G_law_draw hr1 rfl g_law_draw F_law_draw.kp b_law_draw .nil pass0 (pa_cons (pv 0) (pa_cons pe_int pa_nil)))) (fun _ _ => rfl)) (pv 4)))
      (pss_cons (ps_set (i := 5) scLsomeline.nd rfl (Or.inl rfl) (pe_call G_law_pick hr1 rfl g_law_pick F_law_pick.kp b_law_pick .nil pass0 (pa_cons (pv 0) (pa_cons (pe_lst (pa_cons pe_int (pa_cons pe_int (pa_cons (pe_un un_neg pe_int) (pa_cons (pe_op op_sub (pe_call G_law_draw hr1 rfl g_law_draw F_law_draw.kp b_law_draw .nil pass0 (pa_cons (pv 0) (pa_cons (pe_op op_powW pe_int pe_int) pa_nil))) (pe_op op_powW pe_int pe_int)) (pa_cons (pe_op op_add (pe_op op_powW pe_int pe_int) (pe_call G_law_draw hr1 rfl g_law_draw F_law_draw.kp b_law_draw .nil pass0 (pa_cons (pv 0) (pa_cons pe_int pa_nil)))) pa_nil)))))) pa_nil))))
      (pss_one (ps_set (i := 2) scLsomeline.nd rfl (Or.inl rfl) (pe_op op_add_str (pe_op op_add_str (pv 2) pe_str) (pe_call G_law_pick hr1 rfl g_law_pick F_law_pick.kp b_law_pick .nil pass0 (pa_cons (pv 0) (pa_cons (pe_lst (pa_cons (pv 4) (pa_cons (pv 4) (pa_cons (pe_op op_add_str pe_str (pe_callTy call_str_int (by rfl) T.str (by decide +kernel) (pa_cons (pv 5) pa_nil))) (pa_cons pe_str (pa_cons pe_str pa_nil)))))) pa_nil)))))))))))
      (pss_one (ps_ret (pv 2)))))), ?_⟩
    refine ⟨.ref p, (by kernel_rfl), .ref p, (by kernel_rfl), p, z, 1000, rfl, Z, by decide, by decide, by omega, fun r1 z1 a1 b1 g1 => ?_⟩
    have S1 := (PS.start Z).draw g1
    generalize upd H p (.dK z1.kvs) = H1 at S1 ⊢
    have c1 := S1.c
    refine ⟨by show 5 ≤ sizeLine; decide, fun q nq => ?_⟩
    have S2 := S1.new (o := .lst [.int 0, .int 1, .int 7, .int 10, .int r1]) nq
    refine ⟨p, q, z1, _, rfl, S2.pen, upd_same, by show 0 < 5; decide, by show 5 < 1073741824; decide, by omega, fun v z2 hv g2 => ?_⟩
    have S3 := S2.draw g2
    generalize upd (upd H1 q (.lst [.int 0, .int 1, .int 7, .int 10, .int r1])) p (.dK z2.kvs) = H3 at S3 ⊢
    obtain ⟨i0, rfl, i0b⟩ : ∃ i0 : Int, v = .int i0 ∧ i0.natAbs < 10 ^ 4 := by
      simp only [List.mem_cons, List.not_mem_nil, or_false] at hv
      rcases hv with rfl | rfl | rfl | rfl | rfl
      · exact ⟨_, rfl, by decide⟩
      · exact ⟨_, rfl, by decide⟩
      · exact ⟨_, rfl, by decide⟩
      · exact ⟨_, rfl, by decide⟩
      · exact ⟨_, rfl, by omega⟩
    clear hv S2 nq
    have c3 := S3.c
    refine ⟨i0, rfl, num_log (Nat.lt_of_lt_of_le i0b (by decide +kernel)), ?_⟩
    have o1 := (LOk.lit (w := "m:") (n := 2) (by decide +kernel)).app (LOk.num (k := 4) (by decide) i0b)
    have l1 : ("m:" : Str).length = 2 := rfl
    have l2 := (LOk.num (k := 4) (by decide) i0b).len
    refine ⟨"m:", _, rfl, rfl, sz_of (by show 2 + (numS i0).length ≤ _; omega), ?_⟩
    show _
    have p1 : 0 < (("m:" : Str) ++ numS i0).length := by rw [len_app, l1]; omega
    change LOk (("m:" : Str) ++ Str.ofString (toString i0)) _ at o1
    change 0 < (("m:" : Str) ++ Str.ofString (toString i0)).length at p1
    generalize ("m:" : Str) ++ Str.ofString (toString i0) = w0 at o1 p1 ⊢
    refine ⟨.ref p, (by kernel_rfl), p, z2, 4, rfl, S3.pen, by decide, by decide, by omega, fun rn zn an bn gn => ?_⟩
    have Sn := S3.draw gn
    generalize upd H3 p (.dK zn.kvs) = Hn at Sn ⊢
    have cn := Sn.c
    obtain ⟨kn, ek⟩ : ∃ kn : Nat, 1 + rn = (kn : Int) := ⟨(1 + rn).toNat, by omega⟩
    refine ⟨_, _, rfl, rfl, _, rfl, by omega, by omega, ?_⟩
    rw [ek, show ((kn : Int)).toNat = kn from Int.toNat_natCast kn]
    refine for_range (lo := 0) (n := kn) (fun j σ H' => ∃ (zz : Pen) (W : Str) (v3 v4 v5 v6 : Option V), σ = [some (.ref p), some (.str sLET), some (.str W), v3, v4, v5, v6] ∧ PS H p (z.c + 3 + 12 * (j : Int)) H' zz ∧ LOk W (7 + 75 * j) ∧ 0 < W.length)
      ⟨zn, w0, _, _, _, _, rfl, Sn.le (by omega), o1.mono (by omega), p1⟩ ?_ ?_
    · rintro j σ Hj hj ⟨zj, W, v3, v4, v5, v6, rfl, Sj, oj, pj⟩
      have cj := Sj.c
      have lj0 := oj.len
      refine ⟨.int (0 + (j : Int)), (by kernel_rfl), _, _, rfl, rfl, _, rfl, ?_⟩
      refine ite2 (fun _ => ?_) (fun _ => ?_)
      · have ldd : ("." : Str).length = 1 := rfl
        refine ⟨.str W, (by kernel_rfl), W, ".", rfl, rfl, sz_of (by rw [ldd]; omega), .ref p, (by kernel_rfl), p, zj, 30, rfl, Sj.pen, by decide, by decide, by omega, fun rr zr ar br gr => ?_⟩
        have Sr := Sj.draw gr
        generalize upd Hj p (.dK zr.kvs) = Hr at Sr ⊢
        have cr := Sr.c
        have rb : rr.natAbs < 10 ^ 2 := by omega
        have orr := LOk.num (k := 2) (by decide) rb
        have lrr := orr.len
        refine ⟨rr, rfl, num_log (Nat.lt_of_lt_of_le rb (by decide +kernel)), _, numS rr, rfl, rfl, sz_of (by rw [len_app, ldd]; omega), ?_⟩
        have OW := (oj.app (LOk.lit (w := ".") (n := 1) (by decide +kernel))).app orr
        have pW : 0 < (W ++ "." ++ numS rr).length := by rw [len_app, len_app]; omega
        generalize W ++ "." ++ numS rr = W2 at OW pW ⊢
        refine ⟨⟨_, rfl⟩, .ref p, (by kernel_rfl), p, zr, 5, rfl, Sr.pen, by decide, by decide, by omega, fun r4 z4 a4 b4 g4 => ?_⟩
        have S4 := Sr.draw g4
        generalize upd Hr p (.dK z4.kvs) = H4 at S4 ⊢
        have c4 := S4.c
        obtain ⟨k4, rfl⟩ := Int.eq_ofNat_of_zero_le a4
        refine ⟨(k4 : Int), rfl, by omega, by omega, ?_⟩
        intro D nD
        have hp4 : H4 p ≠ none := by rw [S4.pen.at_]; exact fun z => nomatch z
        have Dp : D ≠ p := fun q => hp4 (q ▸ nD)
        have nDH : H D = none := S4.none hp nD
        refine lc_range (lo := 0) (n := k4) (fun m H' => ∃ (z' : Pen) (ys : List Str), PS H p (z.c + 3 + 12 * (j : Int) + 1 + 1 + (m : Int)) H' z' ∧ H' D = some (.lst (ys.map V.str)) ∧ ys.length = m ∧ ∀ y ∈ ys, LOk y 1) ⟨z4, [], (S4.new nD).le (by omega), upd_same, rfl, fun y m => by cases m⟩ ?_ ?_
        · rintro m H5 hm ⟨z5, ys, S5, hD, ly, oy⟩
          have c5 := S5.c
          refine ⟨rfl, ?_⟩
          refine ⟨.str sLET, (by kernel_rfl), .ref p, (by kernel_rfl), p, z5, 63, rfl, S5.pen, by decide, by decide, by omega, fun r6 z6 a6 b6 g6 => ?_⟩
          obtain ⟨c, hc⟩ := let_at a6 b6
          have S6 := S5.draw g6
          have hD6 : upd H5 p (.dK z6.kvs) D = some (.lst (ys.map V.str)) := by rw [upd_ne Dp]; exact hD
          have lcell : z6.l ≠ D := fun q => by
            have e := S6.l _ Z
            rw [← q, e, Z.cells] at nDH
            cases nDH
          refine ⟨sLET, r6, c, rfl, rfl, sz_of (by decide +kernel), hc, ?_⟩
          refine ⟨_, hD6, small_big (by rw [List.length_map]; omega), z6, ys ++ [⟨#[c]⟩], (S6.putD Dp nDH lcell).le (by omega), by rw [upd_same]; simp, by simp [ly], fun y m => ?_⟩
          rcases List.mem_append.mp m with m | m
          · exact oy y m
          · rw [List.mem_singleton.mp m]
            exact LOk.one let_ok.ok hc
        · rintro H5 ⟨z5, ys, S5, hD, ly, oy⟩
          have c5 := S5.c
          have jo := join_ok oy
          have sm := sum_ok oy
          have l0 : ("" : Str).length = 0 := rfl
          refine ⟨"", D, ys, rfl, rfl, .inl (SqL.of hD), by rw [l0]; omega, ?_⟩
          generalize Txt.join "" ys = wo at jo ⊢
          replace jo : LOk wo 4 := jo.mono (by omega)
          refine ⟨.str sLET, (by kernel_rfl), .ref p, (by kernel_rfl), p, z5, 26, rfl, S5.pen, by decide, by decide, by omega, fun r7 z7 a7 b7 g7 => ?_⟩
          have S7 := S5.draw g7
          generalize upd H5 p (.dK z7.kvs) = H7 at S7 ⊢
          obtain ⟨c, hc⟩ := let_at (i := 26 + r7) (by omega) (by omega)
          have lj := jo.len
          have l1 : (⟨#[c]⟩ : Str).length = 1 := rfl
          refine ⟨_, _, rfl, rfl, sLET, 26 + r7, c, rfl, rfl, sz_of (by decide +kernel), hc, .str wo, (by kernel_rfl), ⟨#[c]⟩, wo, rfl, rfl, sz_of (by rw [l1]; omega), ?_⟩
          have ow := (LOk.one let_ok.ok hc).app jo
          generalize (⟨#[c]⟩ : Str) ++ wo = wd at ow ⊢
          have lwd := ow.len
          have c7 := S7.c
          refine ⟨.ref p, (by kernel_rfl), 1, rfl, .ref p, (by kernel_rfl), _, _, rfl, rfl, ⟨by decide, by decide +kernel⟩, p, z7, _, rfl, S7.pen, by decide +kernel, by decide +kernel, by omega, fun r8 z8 a8 b8 g8 => ?_⟩
          have S8 := S7.draw g8
          generalize upd H7 p (.dK z8.kvs) = H8 at S8 ⊢
          have c8 := S8.c
          refine ⟨_, _, rfl, rfl, ⟨by decide, by decide +kernel⟩, _, _, rfl, rfl, _, _, rfl, rfl, ⟨by decide, by decide +kernel⟩, .ref p, (by kernel_rfl), p, z8, 99, rfl, S8.pen, by decide, by decide, by omega, fun r9 z9 a9 b9 g9 => ?_⟩
          have S9 := S8.draw g9
          generalize upd H8 p (.dK z9.kvs) = H9 at S9 ⊢
          have c9 := S9.c
          refine ⟨_, _, rfl, rfl, by show 5 ≤ sizeLine; decide, fun q nq => ?_⟩
          have S10 := S9.new (o := .lst [.int 0, .int 5, .int (-1), .int (r8 - 10 ^ (11 : Int).toNat), .int (10 ^ (60 : Int).toNat + r9)]) nq
          refine ⟨p, q, z9, _, rfl, S10.pen, upd_same, by show 0 < 5; decide, by show 5 < 1073741824; decide, by omega, fun v z11 hv g11 => ?_⟩
          have S11 := S10.draw g11
          obtain ⟨nu, rfl, nb⟩ : ∃ i0 : Int, v = .int i0 ∧ i0.natAbs < 10 ^ 62 := num_pick a8 b8 a9 b9 hv
          generalize upd (upd H9 q (.lst [.int 0, .int 5, .int (-1), .int (r8 - 10 ^ (11 : Int).toNat), .int (10 ^ (60 : Int).toNat + r9)])) p (.dK z11.kvs) = H11 at S11 ⊢
          clear hv S10 nq a8 b8 a9 b9
          have c11 := S11.c
          have on := LOk.num (k := 62) (by decide) nb
          have ln := on.len
          have lW := OW.len
          have ld : ("." : Str).length = 1 := rfl
          have lh : ("#" : Str).length = 1 := rfl
          refine ⟨.str W2, (by kernel_rfl), W2, ".", rfl, rfl, sz_of (by rw [ld]; omega), .ref p, (by kernel_rfl), .str wd, (by kernel_rfl), .str wd, (by kernel_rfl), .int nu, (by kernel_rfl), nu, rfl, num_log (Nat.lt_of_lt_of_le nb (by decide +kernel)), "#", numS nu, rfl, rfl, sz_of (by rw [lh]; omega), by show 5 ≤ sizeLine; decide, fun q2 nq2 => ?_⟩
          have S12 := S11.new (o := .lst [.str wd, .str wd, .str ("#" ++ numS nu), .str "Nil", .str "Cons"]) nq2
          refine ⟨p, q2, z11, _, rfl, S12.pen, upd_same, by show 0 < 5; decide, by show 5 < 1073741824; decide, by omega, fun v z13 hv g13 => ?_⟩
          have S13 := S12.draw g13
          obtain ⟨ws, rfl, os⟩ : ∃ s : Str, v = .str s ∧ LOk s 66 := by
            simp only [List.mem_cons, List.not_mem_nil, or_false] at hv
            rcases hv with rfl | rfl | rfl | rfl | rfl
            · exact ⟨_, rfl, ow.mono (by omega)⟩
            · exact ⟨_, rfl, ow.mono (by omega)⟩
            · exact ⟨_, rfl, ((LOk.lit (w := "#") (n := 1) (by decide +kernel)).app on).mono (by omega)⟩
            · exact ⟨_, rfl, .lit (by decide +kernel)⟩
            · exact ⟨_, rfl, .lit (by decide +kernel)⟩
          have ls := os.len
          have of' := (OW.app (LOk.lit (w := ".") (n := 1) (by decide +kernel))).app os
          refine ⟨_, ws, rfl, rfl, sz_of (by rw [len_app, ld]; omega), ?_⟩
          exact ⟨z13, _, _, _, _, _, rfl, S13.le (by omega), of'.mono (by omega), by rw [len_app, len_app, ld]; omega⟩
      · have OW := oj
        refine ⟨⟨_, rfl⟩, .ref p, (by kernel_rfl), p, zj, 5, rfl, Sj.pen, by decide, by decide, by omega, fun r4 z4 a4 b4 g4 => ?_⟩
        have S4 := Sj.draw g4
        generalize upd Hj p (.dK z4.kvs) = H4 at S4 ⊢
        have c4 := S4.c
        obtain ⟨k4, rfl⟩ := Int.eq_ofNat_of_zero_le a4
        refine ⟨(k4 : Int), rfl, by omega, by omega, ?_⟩
        intro D nD
        have hp4 : H4 p ≠ none := by rw [S4.pen.at_]; exact fun z => nomatch z
        have Dp : D ≠ p := fun q => hp4 (q ▸ nD)
        have nDH : H D = none := S4.none hp nD
        refine lc_range (lo := 0) (n := k4) (fun m H' => ∃ (z' : Pen) (ys : List Str), PS H p (z.c + 3 + 12 * (j : Int) + 1 + (m : Int)) H' z' ∧ H' D = some (.lst (ys.map V.str)) ∧ ys.length = m ∧ ∀ y ∈ ys, LOk y 1) ⟨z4, [], (S4.new nD).le (by omega), upd_same, rfl, fun y m => by cases m⟩ ?_ ?_
        · rintro m H5 hm ⟨z5, ys, S5, hD, ly, oy⟩
          have c5 := S5.c
          refine ⟨rfl, ?_⟩
          refine ⟨.str sLET, (by kernel_rfl), .ref p, (by kernel_rfl), p, z5, 63, rfl, S5.pen, by decide, by decide, by omega, fun r6 z6 a6 b6 g6 => ?_⟩
          obtain ⟨c, hc⟩ := let_at a6 b6
          have S6 := S5.draw g6
          have hD6 : upd H5 p (.dK z6.kvs) D = some (.lst (ys.map V.str)) := by rw [upd_ne Dp]; exact hD
          have lcell : z6.l ≠ D := fun q => by
            have e := S6.l _ Z
            rw [← q, e, Z.cells] at nDH
            cases nDH
          refine ⟨sLET, r6, c, rfl, rfl, sz_of (by decide +kernel), hc, ?_⟩
          refine ⟨_, hD6, small_big (by rw [List.length_map]; omega), z6, ys ++ [⟨#[c]⟩], (S6.putD Dp nDH lcell).le (by omega), by rw [upd_same]; simp, by simp [ly], fun y m => ?_⟩
          rcases List.mem_append.mp m with m | m
          · exact oy y m
          · rw [List.mem_singleton.mp m]
            exact LOk.one let_ok.ok hc
        · rintro H5 ⟨z5, ys, S5, hD, ly, oy⟩
          have c5 := S5.c
          have jo := join_ok oy
          have sm := sum_ok oy
          have l0 : ("" : Str).length = 0 := rfl
          refine ⟨"", D, ys, rfl, rfl, .inl (SqL.of hD), by rw [l0]; omega, ?_⟩
          generalize Txt.join "" ys = wo at jo ⊢
          replace jo : LOk wo 4 := jo.mono (by omega)
          refine ⟨.str sLET, (by kernel_rfl), .ref p, (by kernel_rfl), p, z5, 26, rfl, S5.pen, by decide, by decide, by omega, fun r7 z7 a7 b7 g7 => ?_⟩
          have S7 := S5.draw g7
          generalize upd H5 p (.dK z7.kvs) = H7 at S7 ⊢
          obtain ⟨c, hc⟩ := let_at (i := 26 + r7) (by omega) (by omega)
          have lj := jo.len
          have l1 : (⟨#[c]⟩ : Str).length = 1 := rfl
          refine ⟨_, _, rfl, rfl, sLET, 26 + r7, c, rfl, rfl, sz_of (by decide +kernel), hc, .str wo, (by kernel_rfl), ⟨#[c]⟩, wo, rfl, rfl, sz_of (by rw [l1]; omega), ?_⟩
          have ow := (LOk.one let_ok.ok hc).app jo
          generalize (⟨#[c]⟩ : Str) ++ wo = wd at ow ⊢
          have lwd := ow.len
          have c7 := S7.c
          refine ⟨.ref p, (by kernel_rfl), 1, rfl, .ref p, (by kernel_rfl), _, _, rfl, rfl, ⟨by decide, by decide +kernel⟩, p, z7, _, rfl, S7.pen, by decide +kernel, by decide +kernel, by omega, fun r8 z8 a8 b8 g8 => ?_⟩
          have S8 := S7.draw g8
          generalize upd H7 p (.dK z8.kvs) = H8 at S8 ⊢
          have c8 := S8.c
          refine ⟨_, _, rfl, rfl, ⟨by decide, by decide +kernel⟩, _, _, rfl, rfl, _, _, rfl, rfl, ⟨by decide, by decide +kernel⟩, .ref p, (by kernel_rfl), p, z8, 99, rfl, S8.pen, by decide, by decide, by omega, fun r9 z9 a9 b9 g9 => ?_⟩
          have S9 := S8.draw g9
          generalize upd H8 p (.dK z9.kvs) = H9 at S9 ⊢
          have c9 := S9.c
          refine ⟨_, _, rfl, rfl, by show 5 ≤ sizeLine; decide, fun q nq => ?_⟩
          have S10 := S9.new (o := .lst [.int 0, .int 5, .int (-1), .int (r8 - 10 ^ (11 : Int).toNat), .int (10 ^ (60 : Int).toNat + r9)]) nq
          refine ⟨p, q, z9, _, rfl, S10.pen, upd_same, by show 0 < 5; decide, by show 5 < 1073741824; decide, by omega, fun v z11 hv g11 => ?_⟩
          have S11 := S10.draw g11
          obtain ⟨nu, rfl, nb⟩ : ∃ i0 : Int, v = .int i0 ∧ i0.natAbs < 10 ^ 62 := num_pick a8 b8 a9 b9 hv
          generalize upd (upd H9 q (.lst [.int 0, .int 5, .int (-1), .int (r8 - 10 ^ (11 : Int).toNat), .int (10 ^ (60 : Int).toNat + r9)])) p (.dK z11.kvs) = H11 at S11 ⊢
          clear hv S10 nq a8 b8 a9 b9
          have c11 := S11.c
          have on := LOk.num (k := 62) (by decide) nb
          have ln := on.len
          have lW := OW.len
          have ld : ("." : Str).length = 1 := rfl
          have lh : ("#" : Str).length = 1 := rfl
          refine ⟨.str W, (by kernel_rfl), W, ".", rfl, rfl, sz_of (by rw [ld]; omega), .ref p, (by kernel_rfl), .str wd, (by kernel_rfl), .str wd, (by kernel_rfl), .int nu, (by kernel_rfl), nu, rfl, num_log (Nat.lt_of_lt_of_le nb (by decide +kernel)), "#", numS nu, rfl, rfl, sz_of (by rw [lh]; omega), by show 5 ≤ sizeLine; decide, fun q2 nq2 => ?_⟩
          have S12 := S11.new (o := .lst [.str wd, .str wd, .str ("#" ++ numS nu), .str "Nil", .str "Cons"]) nq2
          refine ⟨p, q2, z11, _, rfl, S12.pen, upd_same, by show 0 < 5; decide, by show 5 < 1073741824; decide, by omega, fun v z13 hv g13 => ?_⟩
          have S13 := S12.draw g13
          obtain ⟨ws, rfl, os⟩ : ∃ s : Str, v = .str s ∧ LOk s 66 := by
            simp only [List.mem_cons, List.not_mem_nil, or_false] at hv
            rcases hv with rfl | rfl | rfl | rfl | rfl
            · exact ⟨_, rfl, ow.mono (by omega)⟩
            · exact ⟨_, rfl, ow.mono (by omega)⟩
            · exact ⟨_, rfl, ((LOk.lit (w := "#") (n := 1) (by decide +kernel)).app on).mono (by omega)⟩
            · exact ⟨_, rfl, .lit (by decide +kernel)⟩
            · exact ⟨_, rfl, .lit (by decide +kernel)⟩
          have ls := os.len
          have of' := (OW.app (LOk.lit (w := ".") (n := 1) (by decide +kernel))).app os
          refine ⟨_, ws, rfl, rfl, sz_of (by rw [len_app, ld]; omega), ?_⟩
          exact ⟨z13, _, _, _, _, _, rfl, S13.le (by omega), of'.mono (by omega), by rw [len_app, len_app, ld]; omega⟩
    · rintro σ Hj ⟨zj, W, v3, v4, v5, v6, rfl, Sj, oj, pj⟩
      exact ⟨.str W, (by kernel_rfl), k W _ _ (Sj.le (by omega)) (oj.mono (by omega)) pj⟩
end

end Nm
namespace Nm
open PySem PySem.Spec PyProof.Rows L2
/-! ### several clauses, each with its own name for what it takes -/
inductive HsAs (X : Cx) : List ExceptHandler → List (Value × Nat × (Addr → Value → Option Addr → TS)) → Prop
  | nil : HsAs X [] []
  | cons {x n : Str} {c : Value} {i : Nat} {ts : Addr → Value → Option Addr → TS} {s0 : Stmt} {rest : List Stmt} {p1 p2 : Pos} {more : List ExceptHandler} {lm : List (Value × Nat × (Addr → Value → Option Addr → TS))}
      (names : Names X x c) (slot : X.N[i]? = some n) (isl : X.env.kindOf n = some .local)
      (does : ∀ (a : Addr) (oe : Obj) (cls : Value) (d : Option Addr) (pn : List (Addr × Obj)), Zc cls d oe → (∃ vs, oe.data = .fields vs) → PSs (X.suite a ((a, oe) :: pn)) (s0 :: rest) (ts a cls d)) (tail : HsAs X more lm) :
      HsAs X (.ExceptHandler (some (.Name x p1)) (some n) (s0 :: rest) p2 :: more) ((c, i, ts) :: lm)
def endsAs (i : Nat) (D : Ends) : Ends := { nx := fun u G => D.nx (u.set i none) G, rt := D.rt, bk := fun u G => D.bk (u.set i none) G, ct := fun u G => D.ct (u.set i none) G }
def wAsL (K : PySem.W.Frag) (Wout : WX) (D : Ends) : List (Value × Nat × (Addr → Value → Option Addr → TS)) → WX
  | [] => Wout
  | (c, i, ts) :: lm => fun cls d u G => ∃ b, PySem.W.exmOne K cls c = some b ∧ (b = true → ∀ a, G a = none → ts a cls d (endsAs i D) (u.set i (some (.ref a))) G) ∧ (b = false → wAsL K Wout D lm cls d u G)
section
variable {X : Cx} {body : List Stmt} {k0 : ExceptHandler} {ks : List ExceptHandler} {l : List (Value × Nat × (Addr → Value → Option Addr → TS))} {pos : Pos} {tb : WX → TS} {Wout : WX}
theorem ps_try_asL (st : X.stack = X.env :: X.outer) (fr : X.env.frame = some X.env.locals) (nd : X.N.Nodup) (tk : Takes X Wout)
    (inner : ∀ (W : WX) (pn : List (Addr × Obj)) (xe : Value → Shared → Prop), Takes (X.tr pn xe) W → PassesOwn (model X.prog X.w) X.A X.env xe → PSs (X.tr pn xe) body (tb W))
    (hh : HsAs X (k0 :: ks) l) : L2.PS X (.Try body (k0 :: ks) [] [] pos) (fun D u G => tb (wAsL X.K Wout D l) D u G) := by
  constructor; intro pins s σ H D I h
  have ok := I.ok; have frs' : X.A.frames = some (X.env :: X.outer) := by rw [ok.frames, st]
  apply wpAny_Try_except
  have caught : Takes (X.tr (X.pn ++ pins) (fun e s₁ => wpAny (model X.prog X.w) X.A (noteFrame e X.env) (fun _ s₂ => wpAny (model X.prog X.w) X.A (setFlight e none) (fun _ s₃ => wpAny (model X.prog X.w) X.A (handleBy e X.env (k0 :: ks)) (SP X pins D) X.xe s₃) X.xe s₂) X.xe s₁)) (wAsL X.K Wout D l) := by
    intro u s' raised
    obtain ⟨a, B, sI, pins', σ', H', cls, d, rfl, J', nb, up, sky, na, os, ag, w⟩ := raised
    have J := J'.ofTry ok; have sky2 : Sky B (X.env :: X.outer) a (Zc cls d) X.env.locals s'.heap := st ▸ sky
    change wpAny (model X.prog X.w) X.A (noteFrame (.ref a) X.env) _ _ _
    apply Sky.land Zc.steady frs' fr sky2; intro h3 fl up3
    have J3 : Inv X pins σ' H' { s' with heap := h3 } := J.landed nb fl.1 (up.trans up3) os ag
    obtain ⟨oe, fv, he, hz, hd⟩ := fl.there
    have off : a ∉ frs (X.env :: X.outer) := by
      intro m; obtain ⟨_, o2, e2, nf⟩ := fl.2.2.1.mem m
      have : o2 = oe := Option.some.inj (e2.symm.trans he); subst this
      exact nf _ hd
    have aL : a ≠ X.env.locals := by
      intro z; apply off; rw [z]; exact List.mem_filterMap.mpr ⟨X.env, .head _, fr⟩
    have aF : a ∉ X.fs := by
      intro m; obtain ⟨e, me, q⟩ := List.mem_filterMap.mp m
      exact off (List.mem_filterMap.mpr ⟨e, .tail _ me, q⟩)
    have Sx := J3.suite he hd na aL aF
    have go : ∀ {hs2 : List ExceptHandler} {l2 : List (Value × Nat × (Addr → Value → Option Addr → TS))}, HsAs X hs2 l2 → wAsL X.K Wout D l2 cls d σ' H' → wpAny (model X.prog X.w) X.A (handleBy (.ref a) X.env hs2) (SP X pins D) X.xe { s' with heap := h3 } := by
      intro hs2 l2 hk; induction hk with
      | nil =>
        intro w; apply wpAny_handleBy_nil
        obtain ⟨k1, k2, k3, oe', vs', T, oT, ts', he', hz', hd', hT, hr⟩ := id fl
        unfold PySem.passOn; refine wpAny_bind (wpAny_field he' hd' hT ?_)
        rw [if_neg (by simp : ¬ ((Value.ref T == Value.none) = true))]
        have out : wpAny (model X.prog X.w) X.A (setFlight (.ref a) X.env.frame) (fun _ s4 => wpAny (model X.prog X.w) X.A (throw (.ref a) : Sem Flow) (SP X pins D) X.xe s4) X.xe { s' with heap := h3 } := by
          rw [fr]; apply HandSPX.setFlight_upZ fl; intro h4 hh4 up4; apply wpAny_throw; apply tk
          exact ⟨a, B, sI, pins, σ', H', cls, d, rfl, J, nb, (up.trans up3).trans up4, .inr (.inr (st ▸ hh4)), na, os, ag, w⟩
        first | exact wpAny_bind (wpAny_pure (wpAny_bind out)) | exact wpAny_bind out
      | @cons x n c i ts s0 rest p1 p2 more lm names slot isl does tail ih =>
        rintro ⟨b, hb, hy, hn⟩
        apply wpAny_handleBy_cons (codeAny_handlers_test _) (by intro q; cases q)
        have look : PySem.W.Looks (model X.prog X.w) h3 (typeOf (.ref a)) cls := by
          intro A Q E s k q; exact wpAny_typeOf_ref (k _ _ he) (hz.1 ▸ q)
        have tst : ∀ {Q : Value → Shared → Prop} {E : Value → Shared → Prop}, Q c { s' with heap := h3 } → wpAny (model X.prog X.w) (X.A.mark (some (.ref a))) (eval (.Name x p1) X.env) Q E { s' with heap := h3 } := by
          intro Q E q; obtain ⟨g1, g2, m | ⟨m, v1, v2⟩⟩ := names
          · exact ld_glob (X := X.suite a ((a, oe) :: (X.pn ++ pins))) Sx g1 m q g2
          · exact ld_blt (X := X.suite a ((a, oe) :: (X.pn ++ pins))) Sx g1 m v1 q v2 g2
        refine tst ((PySem.W.exm_one (M := model X.prog X.w) J3.kIn look hb).here ?_)
        cases b with
        | false => exact ih (hn rfl)
        | true =>
          apply codeAny_handlers_suite_as; apply HandSPX.lands_againZ fl; intro h4 fl4 up4
          have again : Inv X pins σ' H' { s' with heap := h4 } := J.landed nb fl4.1 ((up.trans up3).trans up4) os ag
          obtain ⟨oe4, fv4, he4, hz4, hd4⟩ := fl4.there
          refine store_ok (X := X.suite a ((a, oe4) :: (X.pn ++ pins))) (v := .ref a) (again.suite he4 hd4 na aL aF) nd slot (.inl isl) rfl (fun s5 S5 => ?_) (.inr isl)
          refine wpAny_mono ((does a oe4 cls d (X.pn ++ pins) hz4 ⟨_, hd4⟩).run [] s5 _ H' (endsAs i D) S5 (hy rfl a na)) (fun f s6 q6 => ?_) (fun _ _ z => z.elim)
          have fin : ∀ {σ6 : L2.St} {H6 : Hp} {Q : Shared → Prop}, Inv (X.suite a ((a, oe4) :: (X.pn ++ pins))) [] σ6 H6 s6 → (∀ s7, Inv X pins (σ6.set i none) H6 s7 → Q s7) → wpAny (model X.prog X.w) X.A (do bindName X.env n .none; unbindBehindTheSuite X.env n p2) (fun _ s7 => Q s7) X.xe s6 := by
            intro σ6 H6 Q S6 hq; exact gone_ok (S6.unsuite ok) nd slot isl hq
          cases f with
          | ret u => obtain ⟨v6, σ6, H6, S6, r6, e6⟩ := q6; exact fin S6 fun s7 J7 => ⟨_, _, _, J7, r6, e6⟩
          | next => obtain ⟨σ6, H6, S6, e6⟩ := q6; exact fin S6 fun s7 J7 => ⟨_, _, J7, e6⟩
          | brk => obtain ⟨σ6, H6, S6, e6⟩ := q6; exact fin S6 fun s7 J7 => ⟨_, _, J7, e6⟩
          | cont => obtain ⟨σ6, H6, S6, e6⟩ := q6; exact fin S6 fun s7 J7 => ⟨_, _, J7, e6⟩
    exact go hh w
  refine wpAny_mono ((inner (wAsL X.K Wout D l) (X.pn ++ pins) _ caught PassesOwn.looking).run [] s σ H D (I.toTry _) h) (fun f s1 q => ?_) (fun e s1 he => he)
  cases f with
  | ret u => obtain ⟨v, σ', H', J', r, e⟩ := q; exact ⟨v, σ', H', J'.ofTry ok, r, e⟩
  | next => obtain ⟨σ', H', J', e⟩ := q; exact wpAny_execs_nil ⟨σ', H', J'.ofTry ok, e⟩
  | brk => obtain ⟨σ', H', J', e⟩ := q; exact ⟨σ', H', J'.ofTry ok, e⟩
  | cont => obtain ⟨σ', H', J', e⟩ := q; exact ⟨σ', H', J'.ofTry ok, e⟩
end
end Nm
namespace Nm
open PySem PySem.Spec PyProof.Rows L2
/-! ### what a call complains of -/
structure XCls (K : PySem.W.Frag) (mg : Str → Option Value) (x : Str) (C fI : Addr) (names : List Str) : Prop where
  gm : mg x = some (.ref C)
  oex : OexC K C
  ini : PySem.W.findIn K (.ref C) "__init__" = some (some (.ref fI))
  tyI : PySem.W.typeIn K (.ref fI) = some (.type "function")
  xf : XfC K C
  no : ∀ f ∈ names, PySem.W.findIn K (.ref C) f = some none
  te : PySem.W.exmOne K (.ref C) (.ref C) = some true

def xdBT (ln cl : Int) : List (Str × V) := [("column", .int cl), ("line", .int ln)]
/-- f(e, ..), f a local name that holds a def which may raise -/
def tCallVS (i : Nat) (f : Addr) (sp : Sp) (E : L2.St → XK) (t : TA) : TE := fun u G Q => u[i]? = some (some (.ref f)) ∧ t u G fun vs G1 => sp vs G1 Q (E u)
section
variable {X : Cx} {CX : CXT} {k i : Nat} {f : Addr} {fd : FuncData} {ps : List Str} {sp : Sp} {E : L2.St → XK} {x : Str} {e : Expr} {es : List Expr} {t : TA} {p pos : Pos}
theorem pe_callVS (F : FnOk X.prog X.w X.K X.mg X.base CX k f fd ps sp) (room : Room k X.A) (kp : PySem.W.keepIn X.K (.ref f) = true) (bi : Binds X.K fd ps []) (pas : ∀ u, PassesAt CX X u (E u)) (slot : X.N[i]? = some x) (vis : Vis X.env.scope x) (args : PA X (e :: es) t)
    (n1 : (x == ("__debug__" : Str)) = false := by decide) (n2 : (x == ("__classdict__" : Str)) = false := by decide) (n3 : starEach (e :: es) X.env = (false, eval e X.env) :: starEach es X.env := by rfl) (n4 : (backTo pos (starEach es X.env)).any (·.1) = false := by rfl) :
    PE X (.Call (.Name x p) (e :: es) [] pos) (tCallVS i f sp E t) := by
  constructor; rintro pins s u G Q I ⟨at_, h⟩
  have nm := (pe_var (X := X) (pos := p) (i := i) slot vis n1 n2).run pins s u G (fun v G1 => v = .ref f ∧ G1 = G) I ⟨.ref f, at_, rfl, rfl⟩
  refine wpAny_Call_Name_kw (thn nm fun w s1 ⟨v, G1, I1, r1, ev, eG⟩ => ?_)
  subst ev eG; cases r1
  exact PySem.W.callWith_K (h₀ := X.base) I1.ok.mod.kin kp (thn (args.run pos pins s1 u _ _ I1 h) fun us s2 ⟨vs, G2, I2, rv, q⟩ => ⟨I2.kIn, run_fnS F room bi (pas u) I2 rv q⟩) n3 n4
end
def Odd (H : Hp) (v : V) : Prop := ∃ u : Value, (∀ K : PySem.W.Frag, TyX K H v u) ∧ ∀ K : PySem.W.Frag, PySem.W.kitOne K u (.type "str") = some false
def NoLine (H : Hp) (v : V) : Prop := (∃ w : Str, v = .str w ∧ w.length ≤ 900000 ∧ isLin w = false) ∨ Odd H v
/-- parent_of of what is no line; lines_in of what is no text -/
def spBadN (CN : Addr) : Sp := fun vs H _ E => ∃ v : V, vs = [v] ∧ NoLine H v ∧ ∀ (d : Addr) (H' : Hp), Same H H' → H' d = some (.xd [("name", v)]) → E (.ref CN) (some d) H'
def spBadT (CT : Addr) : Sp := fun vs H _ E => ∃ v : V, vs = [v] ∧ Odd H v ∧ ∀ (d : Addr) (H' : Hp), Same H H' → H' d = some (.xd (xdBT 0 0)) → E (.ref CT) (some d) H'
def spRefN (fP : Addr) : Sp := fun vs H Q _ => ∃ v : V, vs = [.ref fP, v] ∧ NoLine H v ∧ ∀ (q : Addr) (H' : Hp), Same H H' → H' q = some (.tup [.str "name", v]) → Q (.ref q) H'
def spRefT (fL : Addr) : Sp := fun vs H Q _ => ∃ v : V, vs = [.ref fL, v] ∧ Odd H v ∧ ∀ (q : Addr) (H' : Hp), Same H H' → H' q = some (.tup [.str "text", .int 0, .int 0]) → Q (.ref q) H'
def tb_ref (f : Addr) (sp : Sp) (W : WX) : TS := tDrop (tCallVS 0 f sp (WE W) (tCons (tVar 1) tNil))
section
variable {P : Program} {w : World} {K : PySem.W.Frag} {mg : Str → Option Value} {base : Heap}

abbrev sLrefusal : Stmt := top 37
abbrev NLrefusal : List Str := ["_law_call", "_law_odd", "e"]
abbrev PLrefusal : List Str := ["_law_call", "_law_odd"]
theorem scLrefusal : FnScope NLrefusal PLrefusal (defScope sLrefusal) := ⟨rfl, rfl, rfl, by decide +kernel, rfl, by decide +kernel, by decide +kernel⟩

theorem ok_refN {f fP CN CT fn ft : Addr} {fd fdP : FuncData} {pP : List Str} (F : Fun K "_law_refusal" "_law_refusal" sLrefusal f fd) (G : FnOk P w K mg base (L2.CX P w) 9 fP fdP pP (spBadN CN)) (kp : PySem.W.keepIn K (.ref fP) = true) (bi : Binds K fdP pP [])
    (XN : XCls K mg "BadName" CN fn ["name"]) (XT : XCls K mg "BadText" CT ft ["line", "column"]) : FnOk P w K mg base CX0 10 f fd PLrefusal (spRefN fP) := by
  refine F.ok scLrefusal (fun vs H Q E h => ?_) (fun cdv A outer s H vs Q E hr h => ?_)
  · obtain ⟨v, rfl, _⟩ := h
    rfl
  · obtain ⟨v, rfl, no, k⟩ := h
    have hr1 := hr
    refine ⟨_, pss_cons (ps_try_asL (tb := tb_ref fP (spBadN CN)) (Wout := fun _ _ _ _ => False) rfl rfl scLrefusal.nd takes0
        (fun W pn xe tk _ => pss_one (ps_expr (by exact (pe_callVS G hr1 kp bi (fun u => passAt tk u) (i := 0) (by rfl) (Or.inl rfl) (by exact (pa_cons (pv 1) pa_nil))))))
        (.cons (i := 2) ⟨rfl, by decide, Or.inl XN.gm⟩ rfl rfl (fun a oe cls d pn hz hf => pss_one (ps_ret (pe_tup (pa_cons pe_str (pa_cons (pe_xf XN.xf (XN.no _ (by simp)) hz hf (pv 2)) pa_nil)))))
          (.cons (i := 2) ⟨rfl, by decide, Or.inl XT.gm⟩ rfl rfl (fun a oe cls d pn hz hf => pss_one (ps_ret (pe_tup (pa_cons pe_str (pa_cons (pe_xf XT.xf (XT.no _ (by simp)) hz hf (pv 2)) (pa_cons (pe_xf XT.xf (XT.no _ (by simp)) hz hf (pv 2)) pa_nil)))))) .nil))) (pss_one (ps_ret pe_non)), ?_⟩
    refine ⟨by kernel_rfl, v, (by kernel_rfl), v, rfl, no, fun d H1 S1 hd => ?_⟩
    refine ⟨true, XN.te, fun _ a0 _ => ?_, fun q => Bool.noConfusion q⟩
    refine ⟨.ref a0, (by kernel_rfl), rfl, rfl, d, _, v, rfl, hd, rfl, by show 2 ≤ sizeLine; decide, fun q nq => ?_⟩
    exact k q _ (S1.trans (same_new nq)) upd_same
theorem ok_refT {f fL CN CT fn ft : Addr} {fd fdL : FuncData} {pL : List Str} (F : Fun K "_law_refusal" "_law_refusal" sLrefusal f fd) (G : FnOk P w K mg base (L2.CX P w) 9 fL fdL pL (spBadT CT)) (kp : PySem.W.keepIn K (.ref fL) = true) (bi : Binds K fdL pL [])
    (XN : XCls K mg "BadName" CN fn ["name"]) (XT : XCls K mg "BadText" CT ft ["line", "column"]) (xx : PySem.W.exmOne K (.ref CT) (.ref CN) = some false) : FnOk P w K mg base CX0 10 f fd PLrefusal (spRefT fL) := by
  refine F.ok scLrefusal (fun vs H Q E h => ?_) (fun cdv A outer s H vs Q E hr h => ?_)
  · obtain ⟨v, rfl, _⟩ := h
    rfl
  · obtain ⟨v, rfl, no, k⟩ := h
    have hr1 := hr
    refine ⟨_, pss_cons (ps_try_asL (tb := tb_ref fL (spBadT CT)) (Wout := fun _ _ _ _ => False) rfl rfl scLrefusal.nd takes0
        (fun W pn xe tk _ => pss_one (ps_expr (by exact (pe_callVS G hr1 kp bi (fun u => passAt tk u) (i := 0) (by rfl) (Or.inl rfl) (by exact (pa_cons (pv 1) pa_nil))))))
        (.cons (i := 2) ⟨rfl, by decide, Or.inl XN.gm⟩ rfl rfl (fun a oe cls d pn hz hf => pss_one (ps_ret (pe_tup (pa_cons pe_str (pa_cons (pe_xf XN.xf (XN.no _ (by simp)) hz hf (pv 2)) pa_nil)))))
          (.cons (i := 2) ⟨rfl, by decide, Or.inl XT.gm⟩ rfl rfl (fun a oe cls d pn hz hf => pss_one (ps_ret (pe_tup (pa_cons pe_str (pa_cons (pe_xf XT.xf (XT.no _ (by simp)) hz hf (pv 2)) (pa_cons (pe_xf XT.xf (XT.no _ (by simp)) hz hf (pv 2)) pa_nil)))))) .nil))) (pss_one (ps_ret pe_non)), ?_⟩
    refine ⟨by kernel_rfl, v, (by kernel_rfl), v, rfl, no, fun d H1 S1 hd => ?_⟩
    refine ⟨false, xx, fun q => Bool.noConfusion q, fun _ => ?_⟩
    refine ⟨true, XT.te, fun _ a0 _ => ?_, fun q => Bool.noConfusion q⟩
    refine ⟨.ref a0, (by kernel_rfl), rfl, rfl, d, _, .int 0, rfl, hd, rfl, .ref a0, (by kernel_rfl), rfl, rfl, d, _, .int 0, rfl, hd, rfl, by show 3 ≤ sizeLine; decide, fun q nq => ?_⟩
    exact k q _ (S1.trans (same_new nq)) upd_same
end

end Nm
namespace Nm
open PySem PySem.Spec PyProof.Rows L2
/-! ### the words of the law are told rightly -/
theorem strOk_iff (s : Str) : PyData.strOk s = true ↔ ∀ c ∈ codes s, c < 0x110000 := by
  unfold PyData.strOk
  rw [← Array.all_toList, List.all_eq_true]
  exact ⟨fun h c m => of_decide_eq_true (h c m), fun h c m => decide_eq_true (h c m)⟩

theorem LOk.str {w : Str} {n : Nat} (h : LOk w n) : PyData.strOk w = true := (strOk_iff w).mpr h.ok
def cutL (xs : List Str) (lo hi : Option Int) : List Str := (xs.drop (HT.sIx xs.length 0 lo)).take (HT.sIx xs.length xs.length hi - HT.sIx xs.length 0 lo)
theorem cutV_map (xs : List Str) (lo hi : Option Int) : cutV (xs.map V.str) lo hi = (cutL xs lo hi).map V.str := by
  unfold cutV cutL
  rw [List.length_map, List.map_take, List.map_drop]
def parV (w : Str) : V := if (Txt.split w ".").length = 2 then .non else .str (Txt.join "." (cutL (Txt.split w ".") none (some (((Txt.split w ".").length : Int) - 2))))
/-- parent_of of a line -/
def spPar : Sp := fun vs H Q _ => ∃ w : Str, vs = [.str w] ∧ w.length ≤ 4000 ∧ isLin w = true ∧ ∀ H', Same H H' → Q (parV w) H'
def spAll1 : Sp := fun vs H Q _ => ∃ (p : Addr) (ws : List Str), vs = [.ref p] ∧ H p = some (.lst (ws.map V.str)) ∧ (∀ w ∈ ws, LOk w 2000) ∧ ∀ H', Same H H' → Q (.bl true) H'
theorem two_shaped {v : V} {x : PyData} (s : Str) (hs : PyData.strOk s = true) (hx : x.canLay0 = true) (hd : x.depth ≤ 8) : SeqAt.shaped (.tuple [.str s, x]) = true := by
  have c : (PyData.tuple [.str s, x]).canLay0 = true := by simp [PyData.canLay0, PyData.canLayAll0, hs, hx]
  have d : (PyData.tuple [.str s, x]).depth ≤ 64 := by
    simp only [PyData.depth, PyData.depthAll]
    omega
  unfold SeqAt.shaped
  rw [c, decide_eq_true d]
  rfl
theorem sum_le1 {n : Nat} : ∀ {ys : List Str}, (∀ y ∈ ys, y.length ≤ n) → (ys.map (·.length)).sum ≤ ys.length * n
  | [], _ => Nat.zero_le _
  | y :: r, h => by
    have h1 := h y (List.mem_cons_self ..)
    have h2 := sum_le1 fun x m => h x (List.mem_cons_of_mem y m)
    simp only [List.map_cons, List.sum_cons, List.length_cons, Nat.succ_mul]
    omega
section
variable {P : Program} {w : World} {K : PySem.W.Frag} {mg : Str → Option Value} {base : Heap}

abbrev sLwordsright : Stmt := top 38
abbrev NLwordsright : List Str := ["_law_words", "_law_word", "_law_due", "_law_parts"]
abbrev PLwordsright : List Str := ["_law_words"]
theorem scLwordsright : FnScope NLwordsright PLwordsright (defScope sLwordsright) := ⟨rfl, rfl, rfl, by decide +kernel, rfl, by decide +kernel, by decide +kernel⟩

theorem ok_right {f fC fN fM fL fR fI fP CN CT fn ft : Addr} {fd fdC fdN fdM fdL fdR fdI fdP : FuncData} {pI pP : List Str} (F : Fun K "_law_words_right" "_law_words_right" sLwordsright f fd) (T : LTxt mg) (F_law_counts : Fun K "_law_counts" "_law_counts" sLcounts fC fdC) (b_law_counts : Binds K fdC PLcounts []) (g_law_counts : mg "_law_counts" = some (.ref fC))
    (F_law_named : Fun K "_law_named" "_law_named" sLnamed fN fdN) (b_law_named : Binds K fdN PLnamed []) (g_law_named : mg "_law_named" = some (.ref fN))
    (F_law_met_word : Fun K "_law_met_word" "_law_met_word" sLmetword fM fdM) (b_law_met_word : Binds K fdM PLmetword []) (g_law_met_word : mg "_law_met_word" = some (.ref fM))
    (F_law_is_line : Fun K "_law_is_line" "_law_is_line" sLisline fL fdL) (b_law_is_line : Binds K fdL PLisline []) (g_law_is_line : mg "_law_is_line" = some (.ref fL))
    (F_law_refusal : Fun K "_law_refusal" "_law_refusal" sLrefusal fR fdR) (b_law_refusal : Binds K fdR PLrefusal []) (g_law_refusal : mg "_law_refusal" = some (.ref fR))
    (G_is_line : FnOk P w K mg base CX0 9 fI fdI pI (spB isLin)) (kp_is_line : PySem.W.keepIn K (.ref fI) = true) (b_is_line : Binds K fdI pI []) (g_is_line : mg "is_line" = some (.ref fI))
    (G_parent_of : FnOk P w K mg base CX0 9 fP fdP pP spPar) (G_parent_bad : FnOk P w K mg base (L2.CX P w) 9 fP fdP pP (spBadN CN)) (kp_parent_of : PySem.W.keepIn K (.ref fP) = true) (b_parent_of : Binds K fdP pP []) (g_parent_of : mg "parent_of" = some (.ref fP))
    (XN : XCls K mg "BadName" CN fn ["name"]) (XT : XCls K mg "BadText" CT ft ["line", "column"]) : FnOk P w K mg base CX0 11 f fd PLwordsright spAll1 := by
  have G_law_is_line : FnOk P w K mg base CX0 10 fL fdL PLisline (spB isLin) := (ok_lline F_law_is_line T F_law_counts b_law_counts g_law_counts F_law_named b_law_named g_law_named F_law_met_word b_law_met_word g_law_met_word).mono (by decide)
  have G_refN : FnOk P w K mg base CX0 10 fR fdR PLrefusal (spRefN fP) := ok_refN F_law_refusal G_parent_bad kp_parent_of b_parent_of XN XT
  replace G_is_line := G_is_line.mono (show 9 ≤ 10 by decide)
  replace G_parent_of := G_parent_of.mono (show 9 ≤ 10 by decide)
  refine F.ok scLwordsright (fun vs H Q E h => ?_) (fun cdv A outer s H vs Q E hr h => ?_)
  · obtain ⟨p, ws, rfl, _⟩ := h
    rfl
  · obtain ⟨p, ws, rfl, hp, ok, k⟩ := h
    have hr1 := hr
    refine ⟨_, (pss_cons (ps_for PassesOwn.never rfl (pi_list (pv 0)) (pg_name (i := 1) scLwordsright.nd rfl (Or.inl rfl))
      (pss_cons (ps_set (i := 2) scLwordsright.nd rfl (Or.inl rfl) (pe_call G_law_is_line hr1 rfl g_law_is_line F_law_is_line.kp b_law_is_line .nil pass0 (pa_cons (pv 1) pa_nil)))
      (pss_cons (ps_if (PW.pt (pw_or (pt_not (pt_val (pe_callB call_isi (by rfl) T.isinstance (by decide +kernel) (pa_cons (pe_call G_is_line hr1 rfl g_is_line kp_is_line b_is_line .nil pass0 (pa_cons (pv 1) pa_nil)) (pa_cons (pe_bltn (v := .ty "bool") (by rfl) T.bool (by decide +kernel) rfl) pa_nil))))) (pw_or1 (pt_cmpR op_ne (pe_call G_is_line hr1 rfl g_is_line kp_is_line b_is_line .nil pass0 (pa_cons (pv 1) pa_nil)) (pv 2) (nomark _)))))
      (pss_one (ps_ret pe_bl))
      pss_nil)
      (pss_one (ps_if (pt_not (pt_val (pv 2)))
      (pss_one (ps_if (pt_cmpR (op_neD hr.units) (pe_call G_refN hr1 rfl g_law_refusal F_law_refusal.kp b_law_refusal .nil pass0 (pa_cons (pe_gref (by rfl) g_parent_of) (pa_cons (pv 1) pa_nil))) (pe_tup (pa_cons pe_str (pa_cons (pv 1) pa_nil))) (nomark _))
      (pss_one (ps_ret pe_bl))
      pss_nil))
      (pss_cons (ps_set (i := 3) scLwordsright.nd rfl (Or.inl rfl) (pe_split (pv 1) pe_str))
      (pss_one (ps_if (pt_cmpR op_ne (pe_call G_parent_of hr1 rfl g_parent_of kp_parent_of b_parent_of .nil pass0 (pa_cons (pv 1) pa_nil)) (pe_ifExp (pt_cmpR op_eq (pe_callB call_len_seq (by rfl) T.len PySem.boot_len (pa_cons (pv 3) pa_nil)) pe_int (nomark _)) pe_non (pe_join pe_str (pe_slice sl_list (pv 3) po_none (po_some (pe_op op_sub (pe_callB call_len_seq (by rfl) T.len PySem.boot_len (pa_cons (pv 3) pa_nil)) pe_int))))) (nomark _))
      (pss_one (ps_ret pe_bl))
      pss_nil))))))))
      (pss_one (ps_ret pe_bl))), ?_⟩
    refine ⟨.ref p, (by kernel_rfl), p, rfl, ⟨_, SqL.of hp⟩, ?_⟩
    refine for_list (K := K) (a := p) (xs := ws.map V.str) (fun j σ H' => (∃ v1 v2 v3 : Option V, σ = [some (.ref p), v1, v2, v3]) ∧ Same H H') ⟨⟨none, none, none, rfl⟩, fun _ _ e => e⟩ (fun j σ H' _ ⟨_, S⟩ => SqL.of (S _ _ hp)) ?_ ?_
    · rintro j x σ H1 hj ⟨⟨v1, v2, v3, rfl⟩, S1⟩
      rw [List.getElem?_map] at hj
      obtain ⟨y, hy, rfl⟩ := Option.map_eq_some_iff.mp hj
      have oy := ok y (List.mem_of_getElem? hy)
      have ly := oy.len
      refine ⟨.str y, (by kernel_rfl), y, rfl, by omega, fun H2 S2 => ?_⟩
      refine ⟨.str y, (by kernel_rfl), y, rfl, by omega, fun H3 S3 => ?_⟩
      refine ⟨_, _, _, _, true, rfl, .ty "bool", .base (.bl _), kit_ty (by decide +kernel), _, rfl, ?_⟩
      refine ite_no rfl ?_
      refine ⟨.str y, (by kernel_rfl), y, rfl, by omega, fun H4 S4 => ?_⟩
      refine ⟨.bl (isLin y), (by kernel_rfl), rfl, _, rfl, ?_⟩
      refine ite_no (by rw [decide_eq_true rfl]; rfl) ?_
      have SS := ((S1.trans S2).trans S3).trans S4
      refine ⟨.bl (isLin y), (by kernel_rfl), _, rfl, ?_⟩
      cases hl : isLin y with
      | false =>
        refine ite_yes rfl ?_
        refine ⟨.str y, (by kernel_rfl), .str y, rfl, .inl ⟨y, rfl, by omega, hl⟩, fun q H5 S5 hq => ?_⟩
        refine ⟨.str y, (by kernel_rfl), by show 2 ≤ sizeLine; decide, fun q2 nq2 => ?_⟩
        have s6 := same_new (o := .tup [.str "name", .str y]) nq2
        have sh : SeqAt.shaped (.tuple [.str "name", .str y]) = true := two_shaped (v := .non) _ (by decide +kernel) oy.str (by simp [PyData.depth])
        refine ⟨.tuple [.str "name", .str y], .tuple [.str "name", .str y], .tup (SqT.of (s6 _ _ hq)) (.cons (.str _) (.cons (.str _) .nil)), .tup (SqT.of upd_same) (.cons (.str _) (.cons (.str _) .nil)), sh, sh, _, rfl, ?_⟩
        refine ite_no (by rw [SeqAt.eqv_refl _ (SeqAt.canLay_of_shaped sh)]; rfl) ?_
        exact ⟨⟨_, _, _, rfl⟩, (SS.trans S5).trans s6⟩
      | true =>
        refine ite_no rfl ?_
        refine ⟨.str y, (by kernel_rfl), ⟨_, rfl⟩, y, ".", rfl, rfl, rfl, sz_of (by omega), fun l nl => ?_⟩
        have each : ∀ q ∈ Txt.split y ".", q.length ≤ 2000 := fun q m => by
          have := split_each (y := ".") (by decide +kernel) (by decide +kernel) m
          omega
        have few := split_few y "."
        have s5 := same_new (o := .lst ((Txt.split y ".").map V.str)) nl
        have hl5 := upd_same (H := H4) (a := l) (o := .lst ((Txt.split y ".").map V.str))
        generalize upd H4 l (.lst ((Txt.split y ".").map V.str)) = H5 at s5 hl5 ⊢
        refine ⟨.str y, (by kernel_rfl), y, rfl, by omega, hl, fun H6 S6 => ?_⟩
        have hl6 := S6 _ _ hl5
        have S7 := (SS.trans s5).trans S6
        refine ⟨.ref l, (by kernel_rfl), l, _, rfl, .inl (SqL.of hl6), rfl, _, rfl, ?_⟩
        rw [List.length_map]
        unfold parV
        generalize Txt.split y "." = ps at each few hl5 hl6 ⊢
        by_cases h2 : ps.length = 2
        · refine ite_yes (decide_eq_true (congrArg V.int (by omega))) ?_
          rw [if_pos h2]
          refine ⟨rfl, _, rfl, ?_⟩
          refine ite_no (by rw [decide_eq_true rfl]; rfl) ?_
          exact ⟨⟨_, _, _, rfl⟩, S7⟩
        · refine ite_no (decide_eq_false fun q => by have := V.int.inj q; omega) ?_
          rw [if_neg h2]
          refine ⟨⟨_, rfl⟩, .ref l, (by kernel_rfl), .ref l, (by kernel_rfl), l, _, rfl, .inl (SqL.of hl6), ?_⟩
          rw [List.length_map]
          refine ⟨_, _, rfl, rfl, _, rfl, l, _, rfl, SqL.of hl6, fun m nm => ?_⟩
          rw [cutV_map]
          have s8 := same_new (o := .lst ((cutL ps none (some ((ps.length : Int) - 2))).map V.str)) nm
          have cl : (cutL ps none (some ((ps.length : Int) - 2))).length ≤ ps.length := by
            unfold cutL
            simp only [List.length_take, List.length_drop]
            omega
          have ce : ∀ q ∈ cutL ps none (some ((ps.length : Int) - 2)), q.length ≤ 2000 := fun q m => each q (List.mem_of_mem_drop (List.mem_of_mem_take m))
          have sm := sum_le1 ce
          have l1 : ("." : Str).length = 1 := rfl
          have mul : (cutL ps none (some ((ps.length : Int) - 2))).length * 2000 ≤ 2002 * 2000 := Nat.mul_le_mul_right _ (by omega)
          refine ⟨".", m, _, rfl, rfl, .inl (SqL.of upd_same), by rw [l1]; omega, ?_⟩
          refine ⟨rfl, _, rfl, ?_⟩
          refine ite_no (by rw [decide_eq_true rfl]; rfl) ?_
          exact ⟨⟨_, _, _, rfl⟩, S7.trans s8⟩
    · rintro σ H1 ⟨_, S1⟩
      exact k _ S1
end

end Nm
namespace Nm
open PySem PySem.Spec PyProof.Rows L2
/-! ### what is no text -/
def spOddB : Sp := fun vs H Q _ => ∃ v : V, vs = [v] ∧ Odd H v ∧ ∀ H', Same H H' → Q (.bl false) H'
def spOddR : Sp := fun vs H Q _ => ∃ (p : Addr) (z : Pen), vs = [.ref p] ∧ PenAt H p z ∧ z.c ≤ 900000 ∧ ∀ (H' : Hp) (z' : Pen), PS H p (z.c + 1) H' z' → Q (.bl true) H'
/-- one of the five: what it is, as data too -/
structure Five (H : Hp) (v : V) : Prop where
  odd : ∀ H', Same H H' → Odd H' v
  data : ∃ d : PyData, d.canLay0 = true ∧ d.depth ≤ 8 ∧ ∀ (K : PySem.W.Frag) (H' : Hp), Same H H' → Dp K H' v d
theorem five_of {H : Hp} {l t : Addr} {v : V} (hl : H l = some (.lst [.str "m:0.Nil"])) (ht : H t = some (.tup [.str "m:0.Nil"])) (h : v ∈ ([.non, .int 7, .bl true, .ref t, .ref l] : List V)) : Five H v := by
  simp only [List.mem_cons, List.not_mem_nil, or_false] at h
  rcases h with rfl | rfl | rfl | rfl | rfl
  · exact ⟨fun _ _ => ⟨_, fun _ => .base .non, fun _ => kit_ty (by decide +kernel)⟩, .none, by decide +kernel, by decide +kernel, fun _ _ _ => .non⟩
  · exact ⟨fun _ _ => ⟨_, fun _ => .base (.int _), fun _ => kit_ty (by decide +kernel)⟩, .int 7, by decide +kernel, by decide +kernel, fun _ _ _ => .int 7⟩
  · exact ⟨fun _ _ => ⟨_, fun _ => .base (.bl _), fun _ => kit_ty (by decide +kernel)⟩, .bool true, by decide +kernel, by decide +kernel, fun _ _ _ => .bl true⟩
  · exact ⟨fun _ S => ⟨_, fun _ => .base (.tup (S _ _ ht)), fun _ => kit_ty (by decide +kernel)⟩, .tuple [.str "m:0.Nil"], by decide +kernel, by decide +kernel, fun _ _ S => .tup (SqT.of (S _ _ ht)) (.cons (.str _) .nil)⟩
  · exact ⟨fun _ S => ⟨_, fun _ => .base (.lst (S _ _ hl)), fun _ => kit_ty (by decide +kernel)⟩, .list [.str "m:0.Nil"], by decide +kernel, by decide +kernel, fun _ _ S => .lst (SqL.of (S _ _ hl)) (.cons (.str _) .nil)⟩
section
variable {P : Program} {w : World} {K : PySem.W.Frag} {mg : Str → Option Value} {base : Heap}

abbrev sLoddright : Stmt := top 39
abbrev NLoddright : List Str := ["_law_pen_here", "_law_odd"]
abbrev PLoddright : List Str := ["_law_pen_here"]
theorem scLoddright : FnScope NLoddright PLoddright (defScope sLoddright) := ⟨rfl, rfl, rfl, by decide +kernel, rfl, by decide +kernel, by decide +kernel⟩

theorem ok_odd {f fD fQ fR fI fP fT CN CT fn ft : Addr} {fd fdD fdQ fdR fdI fdP fdT : FuncData} {pI pP pT : List Str} (F : Fun K "_law_odd_right" "_law_odd_right" sLoddright f fd) (T : LTxt mg) (PT : PenTxt mg)
    (F_law_draw : Fun K "_law_draw" "_law_draw" sDraw fD fdD) (b_law_draw : Binds K fdD ["_law_pen_here", "_law_many"] []) (g_law_draw : mg "_law_draw" = some (.ref fD))
    (F_law_pick : Fun K "_law_pick" "_law_pick" sPick fQ fdQ) (b_law_pick : Binds K fdQ ["_law_pen_here", "_law_some"] []) (g_law_pick : mg "_law_pick" = some (.ref fQ))
    (F_law_refusal : Fun K "_law_refusal" "_law_refusal" sLrefusal fR fdR) (b_law_refusal : Binds K fdR PLrefusal []) (g_law_refusal : mg "_law_refusal" = some (.ref fR))
    (G_is_lineO : FnOk P w K mg base CX0 9 fI fdI pI spOddB) (kp_is_line : PySem.W.keepIn K (.ref fI) = true) (b_is_line : Binds K fdI pI []) (g_is_line : mg "is_line" = some (.ref fI))
    (G_parent_bad : FnOk P w K mg base (L2.CX P w) 9 fP fdP pP (spBadN CN)) (kp_parent_of : PySem.W.keepIn K (.ref fP) = true) (b_parent_of : Binds K fdP pP []) (g_parent_of : mg "parent_of" = some (.ref fP))
    (G_lines_bad : FnOk P w K mg base (L2.CX P w) 9 fT fdT pT (spBadT CT)) (kp_lines_in : PySem.W.keepIn K (.ref fT) = true) (b_lines_in : Binds K fdT pT []) (g_lines_in : mg "lines_in" = some (.ref fT))
    (XN : XCls K mg "BadName" CN fn ["name"]) (XT : XCls K mg "BadText" CT ft ["line", "column"]) (xx : PySem.W.exmOne K (.ref CT) (.ref CN) = some false) : FnOk P w K mg base CX0 11 f fd PLoddright spOddR := by
  have G_law_pick : FnOk P w K mg base CX0 10 fQ fdQ ["_law_pen_here", "_law_some"] (spPick K) := (ok_pick F_law_pick PT F_law_draw b_law_draw g_law_draw).mono (by decide)
  have G_refN : FnOk P w K mg base CX0 10 fR fdR PLrefusal (spRefN fP) := ok_refN F_law_refusal G_parent_bad kp_parent_of b_parent_of XN XT
  have G_refT : FnOk P w K mg base CX0 10 fR fdR PLrefusal (spRefT fT) := ok_refT F_law_refusal G_lines_bad kp_lines_in b_lines_in XN XT xx
  replace G_is_lineO := G_is_lineO.mono (show 9 ≤ 10 by decide)
  refine F.ok scLoddright (fun vs H Q E h => ?_) (fun cdv A outer s H vs Q E hr h => ?_)
  · obtain ⟨p, z, rfl, _⟩ := h
    rfl
  · obtain ⟨p, z, rfl, Z, hc, k⟩ := h
    have hr1 := hr
    refine ⟨_, (pss_cons (ps_set (i := 1) scLoddright.nd rfl (Or.inl rfl) (pe_call G_law_pick hr1 rfl g_law_pick F_law_pick.kp b_law_pick .nil pass0 (pa_cons (pv 0) (pa_cons (pe_lst (pa_cons pe_non (pa_cons pe_int (pa_cons pe_bl (pa_cons (pe_tup (pa_cons pe_str pa_nil)) (pa_cons (pe_lst (pa_cons pe_str pa_nil)) pa_nil)))))) pa_nil))))
      (pss_cons (ps_if (PW.pt (pw_or (pt_cmpR op_notBl (pe_call G_is_lineO hr1 rfl g_is_line kp_is_line b_is_line .nil pass0 (pa_cons (pv 1) pa_nil)) pe_bl (nomark _)) (pw_or1 (pt_cmpR (op_neD hr.units) (pe_call G_refN hr1 rfl g_law_refusal F_law_refusal.kp b_law_refusal .nil pass0 (pa_cons (pe_gref (by rfl) g_parent_of) (pa_cons (pv 1) pa_nil))) (pe_tup (pa_cons pe_str (pa_cons (pv 1) pa_nil))) (nomark _)))))
      (pss_one (ps_ret pe_bl))
      pss_nil)
      (pss_one (ps_ret (pe_cmpR (op_eqD hr.units) (pe_call G_refT hr1 rfl g_law_refusal F_law_refusal.kp b_law_refusal .nil pass0 (pa_cons (pe_gref (by rfl) g_lines_in) (pa_cons (pv 1) pa_nil))) (pe_tup (pa_cons pe_str (pa_cons pe_int (pa_cons pe_int pa_nil)))) (nomark _)))))), ?_⟩
    refine ⟨.ref p, (by kernel_rfl), by show 1 ≤ sizeLine; decide, fun t nt => ?_⟩
    have S1 := (PS.start Z).new (o := .tup [.str "m:0.Nil"]) nt
    have ht := upd_same (H := H) (a := t) (o := .tup [.str "m:0.Nil"])
    generalize upd H t (.tup [.str "m:0.Nil"]) = H1 at S1 ht ⊢
    refine ⟨by show 1 ≤ sizeLine; decide, fun l nl => ?_⟩
    have S2 := S1.new (o := .lst [.str "m:0.Nil"]) nl
    have hl := upd_same (H := H1) (a := l) (o := .lst [.str "m:0.Nil"])
    replace ht := (same_new (o := .lst [.str "m:0.Nil"]) nl) _ _ ht
    generalize upd H1 l (.lst [.str "m:0.Nil"]) = H2 at S2 hl ht ⊢
    refine ⟨by show 5 ≤ sizeLine; decide, fun q nq => ?_⟩
    have S3 := S2.new (o := .lst [.non, .int 7, .bl true, .ref t, .ref l]) nq
    replace ht := (same_new (o := .lst [.non, .int 7, .bl true, .ref t, .ref l]) nq) _ _ ht
    replace hl := (same_new (o := .lst [.non, .int 7, .bl true, .ref t, .ref l]) nq) _ _ hl
    refine ⟨p, q, z, _, rfl, S3.pen, upd_same, by show 0 < 5; decide, by show 5 < 1073741824; decide, by omega, fun v z4 hv g4 => ?_⟩
    have S4 := S3.draw g4
    have pp := S3.pen.at_
    generalize upd H2 q (.lst [.non, .int 7, .bl true, .ref t, .ref l]) = H3 at S3 S4 hl ht pp ⊢
    have lp : l ≠ p := ne_of hl pp (by intro z; cases z)
    have tp : t ≠ p := ne_of ht pp (by intro z; cases z)
    have five : Five (upd H3 p (.dK z4.kvs)) v := five_of (by rw [upd_ne lp]; exact hl) (by rw [upd_ne tp]; exact ht) hv
    generalize upd H3 p (.dK z4.kvs) = H4 at S4 five ⊢
    obtain ⟨d, dc, dd, dp⟩ := five.data
    have sh : SeqAt.shaped (.tuple [.str "name", d]) = true := two_shaped (v := .non) _ (by decide +kernel) dc dd
    refine ⟨v, (by kernel_rfl), v, rfl, five.odd _ (fun _ _ e => e), fun H5 S5 => ?_⟩
    refine ⟨false, false, rfl, rfl, _, rfl, ite_no (by rfl) ?_⟩
    refine ⟨v, (by kernel_rfl), v, rfl, .inr (five.odd _ S5), fun q6 H6 S6 hq6 => ?_⟩
    refine ⟨v, (by kernel_rfl), by show 2 ≤ sizeLine; decide, fun q7 n7 => ?_⟩
    have s7 := same_new (o := .tup [.str "name", v]) n7
    have SS := (S5.trans S6).trans s7
    refine ⟨.tuple [.str "name", d], .tuple [.str "name", d], .tup (SqT.of (s7 _ _ hq6)) (.cons (.str _) (.cons (dp _ _ SS) .nil)), .tup (SqT.of upd_same) (.cons (.str _) (.cons (dp _ _ SS) .nil)), sh, sh, _, rfl, ?_⟩
    generalize upd H6 q7 (.tup [.str "name", v]) = H7 at SS ⊢
    refine ite_no (by rw [SeqAt.eqv_refl _ (SeqAt.canLay_of_shaped sh)]; rfl) ?_
    refine ⟨v, (by kernel_rfl), v, rfl, five.odd _ SS, fun q8 H8 S8 hq8 => ?_⟩
    refine ⟨by show 3 ≤ sizeLine; decide, fun q9 n9 => ?_⟩
    have s9 := same_new (o := .tup [.str "text", .int 0, .int 0]) n9
    refine ⟨.tuple [.str "text", .int 0, .int 0], .tuple [.str "text", .int 0, .int 0], .tup (SqT.of (s9 _ _ hq8)) (.cons (.str _) (.cons (.int 0) (.cons (.int 0) .nil))), .tup (SqT.of upd_same) (.cons (.str _) (.cons (.int 0) (.cons (.int 0) .nil))), by decide +kernel, by decide +kernel, ?_⟩
    have := k _ _ (S4.same ((SS.trans S8).trans s9))
    exact this
end

end Nm
namespace Nm
open PySem PySem.Spec PyProof.Rows L2
/-! ### the law -/
open TL (spl spl_nil spl_hit spl_miss pre split_spl kind_ok)
theorem spl_all (S : List Nat) : ∀ (l : List Nat) (k : Nat) (acc : List Nat), ∀ p ∈ spl S k acc l, ∀ c ∈ p, c ∈ acc ∨ c ∈ l
  | [], k, acc, p, m, c, hc => by
    rw [spl_nil] at m
    obtain rfl := List.mem_singleton.mp m
    exact .inl hc
  | d :: r, 0, acc, p, m, c, hc => by
    by_cases h : pre S (d :: r) = true
    · rw [spl_hit h] at m
      rcases List.mem_cons.mp m with rfl | m
      · exact .inl hc
      · rcases spl_all S r _ [] p m c hc with q | q
        · cases q
        · exact .inr (List.mem_cons_of_mem _ q)
    · rw [spl_miss (by simpa using h)] at m
      rcases spl_all S r 0 (acc ++ [d]) p m c hc with q | q
      · rcases List.mem_append.mp q with q | q
        · exact .inl q
        · rw [List.mem_singleton.mp q]
          exact .inr (List.mem_cons_self ..)
      · exact .inr (List.mem_cons_of_mem _ q)
  | d :: r, k + 1, acc, p, m, c, hc => by
    have m' : p ∈ spl S k acc r := m
    rcases spl_all S r k acc p m' c hc with q | q
    · exact .inl q
    · exact .inr (List.mem_cons_of_mem _ q)
theorem split_ok {x y p : Str} {n : Nat} (hy : codes y ≠ []) (hk : y.cps.all (· < 256) = true) (o : LOk x n) (m : p ∈ Txt.split x y) : LOk p n := by
  refine ⟨Nat.le_trans (split_each hy hk m) o.len, fun c hc => ?_⟩
  have e := split_spl x y hy (kind_ok hk)
  have m2 : codes p ∈ spl (codes y) 0 [] (codes x) := by
    have : codes p ∈ (Txt.split x y).map codes := List.mem_map_of_mem m
    rwa [show (Txt.split x y).map codes = spl (codes y) 0 [] (codes x) from e] at this
  rcases spl_all _ _ _ _ _ m2 c hc with q | q
  · cases q
  · exact o.ok c q
theorem fold_mem : ∀ (xs acc : List Str) (p : Str), p ∈ xs.foldl addLine acc → p ∈ acc ∨ p ∈ xs
  | [], acc, p, h => .inl h
  | x :: r, acc, p, h => by
    rcases fold_mem r (addLine acc x) p h with q | q
    · unfold addLine at q
      by_cases c : (isLin x && !decide (x ∈ acc)) = true
      · rw [if_pos c] at q
        rcases List.mem_append.mp q with q | q
        · exact .inl q
        · rw [List.mem_singleton.mp q]
          exact .inr (List.mem_cons_self ..)
      · rw [if_neg c] at q
        exact .inl q
    · exact .inr (List.mem_cons_of_mem _ q)
theorem lines_ok {t : Str} {n : Nat} (o : LOk t n) : ∀ p ∈ linesIn t, LOk p n := fun p m => by
  rcases fold_mem _ _ _ m with q | q
  · cases q
  · exact split_ok (y := "\n") (by decide +kernel) (by decide +kernel) o (List.dropLast_subset _ q)
theorem canLay_strs {n : Nat} : ∀ {ls : List Str}, (∀ l ∈ ls, LOk l n) → PyData.canLayAll0 (ls.map PyData.str) = true ∧ PyData.depthAll (ls.map PyData.str) = 0
  | [], _ => ⟨rfl, rfl⟩
  | l :: r, h => by
    obtain ⟨h1, h2⟩ := canLay_strs fun x m => h x (List.mem_cons_of_mem l m)
    have h0 := (h l (List.mem_cons_self ..)).str
    exact ⟨by simp [PyData.canLayAll0, PyData.canLay0, h0, h1], by simp [PyData.depthAll, PyData.depth, h2]⟩
theorem shaped_strs {n : Nat} {ls : List Str} (h : ∀ l ∈ ls, LOk l n) : SeqAt.shaped (.tuple (ls.map PyData.str)) = true := by
  obtain ⟨h1, h2⟩ := canLay_strs h
  simp [SeqAt.shaped, PyData.canLay0, PyData.depth, h1, h2]
theorem dpAll_strs {K : PySem.W.Frag} {H : Hp} : ∀ ls : List Str, DpAll K H (ls.map V.str) (ls.map PyData.str)
  | [] => .nil
  | _ :: r => .cons (.str _) (dpAll_strs r)
theorem log_ok {n : Nat} {ls : List Str} (h : ∀ l ∈ ls, LOk l n) : LOk (logOf ls) (ls.length * (n + 1)) := by
  unfold logOf
  have q := join_ok (n := n + 1) (ys := ls.map nlT) (by
    intro y m
    obtain ⟨x, hx, rfl⟩ := List.mem_map.mp m
    exact (h x hx).app (.lit (w := "\n") (n := 1) (by decide +kernel)))
  rwa [List.length_map] at q
theorem glue_ok (t : Str) : LOk (glueT t) 1 := by
  unfold glueT
  cases atI (codes t) (-1) with
  | none => exact .lit (by decide +kernel)
  | some c =>
    show LOk (if c = 10 then ("" : Str) else "\n") 1
    by_cases h : c = 10
    · rw [if_pos h]; exact .lit (by decide +kernel)
    · rw [if_neg h]; exact .lit (by decide +kernel)
theorem PS.cell {HB H : Hp} {p L : Addr} {n : Int} {z z0 : Pen} (S : PS HB p n H z) (Z : PenAt HB p z0) (nL : HB L = Option.none) : z.l ≠ L := fun q => by
  have e := S.l _ Z
  rw [← q, e, Z.cells] at nL
  cases nL
theorem ix_listK {X : Cx} {K : PySem.W.Frag} (h : X.K = K) : IxR X (rIxL K) := by
  subst h
  exact ix_list
def six : List Str := ["", "m", "m:", "m:0", "m:0.", "."]
/-- lines_in of a text -/
def spLinesT : Sp := fun vs H Q _ => ∃ t : Str, vs = [.str t] ∧ t.length ≤ 900000 ∧ ∀ (p : Addr) (H' : Hp), Same H H' → H' p = some (.tup ((linesIn t).map V.str)) → Q (.ref p) H'
section
variable {P : Program} {w : World} {K : PySem.W.Frag} {mg : Str → Option Value}

abbrev slaw : Stmt := top 40
abbrev Nlaw : List Str := ["_law_script", "_law_pen_here", "_law_lines", "_law_words", "_law_some", "_law_text", "_law_more", "_law_longer", "_law_k", "_law_word"]
abbrev Plaw : List Str := ["_law_script"]
theorem sclaw : FnScope Nlaw Plaw (defScope slaw) := ⟨rfl, rfl, rfl, by decide +kernel, rfl, by decide +kernel, by decide +kernel⟩

variable {fa f1 fD fQ fC fN fM fL fR fI fP fT fLL fLG fLA fS5 fS6 fS7 fWR fOR fG fA CN CT fn ft : Addr} {fd1 fdD fdQ fdC fdN fdM fdL fdR fdI fdP fdT fdLL fdLG fdLA fdS5 fdS6 fdS7 fdWR fdOR fdG fdA : FuncData} {pI pP pT pG pA : List Str}
theorem rd_law (base : Heap) (T : LTxt mg) (PT : PenTxt mg) (F_law_draw : Fun K "_law_draw" "_law_draw" sDraw fD fdD) (b_law_draw : Binds K fdD ["_law_pen_here", "_law_many"] []) (g_law_draw : mg "_law_draw" = some (.ref fD))
    (F_law_pick : Fun K "_law_pick" "_law_pick" sPick fQ fdQ) (b_law_pick : Binds K fdQ ["_law_pen_here", "_law_some"] []) (g_law_pick : mg "_law_pick" = some (.ref fQ)) (F_law_counts : Fun K "_law_counts" "_law_counts" sLcounts fC fdC) (b_law_counts : Binds K fdC PLcounts []) (g_law_counts : mg "_law_counts" = some (.ref fC))
    (F_law_named : Fun K "_law_named" "_law_named" sLnamed fN fdN) (b_law_named : Binds K fdN PLnamed []) (g_law_named : mg "_law_named" = some (.ref fN))
    (F_law_met_word : Fun K "_law_met_word" "_law_met_word" sLmetword fM fdM) (b_law_met_word : Binds K fdM PLmetword []) (g_law_met_word : mg "_law_met_word" = some (.ref fM))
    (F_law_is_line : Fun K "_law_is_line" "_law_is_line" sLisline fL fdL) (b_law_is_line : Binds K fdL PLisline []) (g_law_is_line : mg "_law_is_line" = some (.ref fL))
    (F_law_refusal : Fun K "_law_refusal" "_law_refusal" sLrefusal fR fdR) (b_law_refusal : Binds K fdR PLrefusal []) (g_law_refusal : mg "_law_refusal" = some (.ref fR))
    (G_is_line : FnOk P w K mg base CX0 9 fI fdI pI (spB isLin)) (kp_is_line : PySem.W.keepIn K (.ref fI) = true) (b_is_line : Binds K fdI pI []) (g_is_line : mg "is_line" = some (.ref fI))
    (G_parent_of : FnOk P w K mg base CX0 9 fP fdP pP spPar) (G_parent_bad : FnOk P w K mg base (L2.CX P w) 9 fP fdP pP (spBadN CN)) (kp_parent_of : PySem.W.keepIn K (.ref fP) = true) (b_parent_of : Binds K fdP pP []) (g_parent_of : mg "parent_of" = some (.ref fP))
    (XN : XCls K mg "BadName" CN fn ["name"]) (XT : XCls K mg "BadText" CT ft ["line", "column"])
    (F_law_pen : Fun K "_law_pen" "_law_pen" sPen f1 fd1) (b_law_pen : Binds K fd1 ["_law_script"] []) (g_law_pen : mg "_law_pen" = some (.ref f1))
    (F_law_lines_in : Fun K "_law_lines_in" "_law_lines_in" sLlinesin fLL fdLL) (b_law_lines_in : Binds K fdLL PLlinesin []) (g_law_lines_in : mg "_law_lines_in" = some (.ref fLL))
    (F_law_log_text : Fun K "_law_log_text" "_law_log_text" sLlogtext fLG fdLG) (b_law_log_text : Binds K fdLG PLlogtext []) (g_law_log_text : mg "_law_log_text" = some (.ref fLG))
    (F_law_appended : Fun K "_law_appended" "_law_appended" sLappended fLA fdLA) (b_law_appended : Binds K fdLA PLappended []) (g_law_appended : mg "_law_appended" = some (.ref fLA))
    (F_law_bent : Fun K "_law_bent" "_law_bent" sLbent fS5 fdS5) (b_law_bent : Binds K fdS5 PLbent []) (g_law_bent : mg "_law_bent" = some (.ref fS5))
    (F_law_some_line : Fun K "_law_some_line" "_law_some_line" sLsomeline fS6 fdS6) (b_law_some_line : Binds K fdS6 PLsomeline []) (g_law_some_line : mg "_law_some_line" = some (.ref fS6))
    (F_law_spoilt : Fun K "_law_spoilt" "_law_spoilt" sLspoilt fS7 fdS7) (b_law_spoilt : Binds K fdS7 PLspoilt []) (g_law_spoilt : mg "_law_spoilt" = some (.ref fS7))
    (F_law_words_right : Fun K "_law_words_right" "_law_words_right" sLwordsright fWR fdWR) (b_law_words_right : Binds K fdWR PLwordsright []) (g_law_words_right : mg "_law_words_right" = some (.ref fWR))
    (F_law_odd_right : Fun K "_law_odd_right" "_law_odd_right" sLoddright fOR fdOR) (b_law_odd_right : Binds K fdOR PLoddright []) (g_law_odd_right : mg "_law_odd_right" = some (.ref fOR))
    (G_is_lineO : FnOk P w K mg base CX0 9 fI fdI pI spOddB)
    (G_lines_in : FnOk P w K mg base CX0 9 fT fdT pT spLinesT) (G_lines_bad : FnOk P w K mg base (L2.CX P w) 9 fT fdT pT (spBadT CT)) (kp_lines_in : PySem.W.keepIn K (.ref fT) = true) (b_lines_in : Binds K fdT pT []) (g_lines_in : mg "lines_in" = some (.ref fT))
    (G_log_text : FnOk P w K mg base CX0 9 fG fdG pG spLog2) (kp_log_text : PySem.W.keepIn K (.ref fG) = true) (b_log_text : Binds K fdG pG []) (g_log_text : mg "log_text" = some (.ref fG))
    (G_appended : FnOk P w K mg base CX0 9 fA fdA pA spApp) (kp_appended : PySem.W.keepIn K (.ref fA) = true) (b_appended : Binds K fdA pA []) (g_appended : mg "appended" = some (.ref fA))
    (xx : PySem.W.exmOne K (.ref CT) (.ref CN) = some false)
    (cdv : Value) (s : Shared) (H : Hp) (a : Addr) (ns : List Int) (hlen : ns.length ≤ 63) (hS : SqL K H a (ns.map V.int)) :
    ∃ t, PSs (cxOf CX0 P w K mg base Nlaw "law" (defScope slaw) fa cdv callerA [] s H E0).nox (defBody slaw) t ∧ t { nx := fun _ _ => False, rt := fun v _ => v = .bl true } (start Nlaw [.ref a]) H := by
  have hr : Room 12 (callerA.deeper (envOfC "law" (defScope slaw) s.heap.objs.size fa cdv)) := Room.deeper ⟨rfl, by decide, by decide⟩ _
  have hr1 := hr
  have G_law_pen : FnOk P w K mg base CX0 12 f1 fd1 ["_law_script"] (spPen K) := (ok_pen F_law_pen PT).mono (by decide)
  have G_law_draw : FnOk P w K mg base CX0 12 fD fdD ["_law_pen_here", "_law_many"] spDraw := (ok_draw F_law_draw PT).mono (by decide)
  have G_law_pick : FnOk P w K mg base CX0 12 fQ fdQ ["_law_pen_here", "_law_some"] (spPick K) := (ok_pick F_law_pick PT F_law_draw b_law_draw g_law_draw).mono (by decide)
  have G_law_some_line : FnOk P w K mg base CX0 12 fS6 fdS6 PLsomeline spSomeL := (ok_someL F_law_some_line T PT F_law_draw b_law_draw g_law_draw F_law_pick b_law_pick g_law_pick).mono (by decide)
  have G_law_spoilt : FnOk P w K mg base CX0 12 fS7 fdS7 PLspoilt spSpoil := (ok_spoil F_law_spoilt T PT F_law_draw b_law_draw g_law_draw F_law_pick b_law_pick g_law_pick).mono (by decide)
  have G_law_bent : FnOk P w K mg base CX0 12 fS5 fdS5 PLbent spBend := (ok_bend F_law_bent T PT F_law_draw b_law_draw g_law_draw F_law_pick b_law_pick g_law_pick).mono (by decide)
  have G_law_words_right : FnOk P w K mg base CX0 12 fWR fdWR PLwordsright spAll1 := (ok_right F_law_words_right T F_law_counts b_law_counts g_law_counts F_law_named b_law_named g_law_named F_law_met_word b_law_met_word g_law_met_word F_law_is_line b_law_is_line g_law_is_line F_law_refusal b_law_refusal g_law_refusal G_is_line kp_is_line b_is_line g_is_line G_parent_of G_parent_bad kp_parent_of b_parent_of g_parent_of XN XT).mono (by decide)
  have G_law_odd_right : FnOk P w K mg base CX0 12 fOR fdOR PLoddright spOddR := (ok_odd F_law_odd_right T PT F_law_draw b_law_draw g_law_draw F_law_pick b_law_pick g_law_pick F_law_refusal b_law_refusal g_law_refusal G_is_lineO kp_is_line b_is_line g_is_line G_parent_bad kp_parent_of b_parent_of g_parent_of G_lines_bad kp_lines_in b_lines_in g_lines_in XN XT xx).mono (by decide)
  have G_law_lines_in : FnOk P w K mg base CX0 12 fLL fdLL PLlinesin spLines := (ok_llines F_law_lines_in T F_law_counts b_law_counts g_law_counts F_law_named b_law_named g_law_named F_law_met_word b_law_met_word g_law_met_word F_law_is_line b_law_is_line g_law_is_line).mono (by decide)
  have G_law_appended : FnOk P w K mg base CX0 12 fLA fdLA PLappended spApp := (ok_lapp F_law_appended F_law_log_text b_law_log_text g_law_log_text).mono (by decide)
  replace G_lines_in := G_lines_in.mono (show 9 ≤ 12 by decide)
  replace G_log_text := G_log_text.mono (show 9 ≤ 12 by decide)
  replace G_appended := G_appended.mono (show 9 ≤ 12 by decide)
  refine ⟨_, (pss_cons (ps_set (i := 1) sclaw.nd rfl (Or.inr rfl) (pe_call G_law_pen hr1 rfl g_law_pen F_law_pen.kp b_law_pen .nil pass0 (pa_cons (pv 0) pa_nil)))
      (pss_cons (ps_set (i := 2) sclaw.nd rfl (Or.inr rfl) (pe_lc (own := [("_law_k", 8)]) (g := (gName 8)) rfl sclaw.nd (pi_range1 rfl T.range (pa_cons (pe_op op_add pe_int (pe_call G_law_draw hr1 rfl g_law_draw F_law_draw.kp b_law_draw .nil pass0 (pa_cons (pv 1) (pa_cons pe_int pa_nil)))) pa_nil)) (blkOk_by (own := [("_law_k", 8)]) (N := Nlaw) (sc := defScope slaw) (by decide +kernel)) (fun _ _ _ _ _ => (pg_name (i := 8) sclaw.nd rfl (Or.inl rfl))) (fun _ _ _ _ _ => pts_nil) (fun _ _ _ _ _ => (pe_call G_law_some_line hr1 rfl g_law_some_line F_law_some_line.kp b_law_some_line .nil pass0 (pa_cons (pv 1) pa_nil)))))
      (pss_cons (ps_set (i := 3) sclaw.nd rfl (Or.inr rfl) (pe_op op_cat (pv 2) (pe_lc (own := [("_law_k", 8)]) (g := (gName 8)) rfl sclaw.nd (pi_range1 rfl T.range (pa_cons pe_int pa_nil)) (blkOk_by (own := [("_law_k", 8)]) (N := Nlaw) (sc := defScope slaw) (by decide +kernel)) (fun _ _ _ _ _ => (pg_name (i := 8) sclaw.nd rfl (Or.inl rfl))) (fun _ _ _ _ _ => pts_nil) (fun _ _ _ _ _ => (pe_call G_law_spoilt hr1 rfl g_law_spoilt F_law_spoilt.kp b_law_spoilt .nil pass0 (pa_cons (pv 1) (pa_cons (pe_call G_law_pick hr1 rfl g_law_pick F_law_pick.kp b_law_pick .nil pass0 (pa_cons (pv 1) (pa_cons (pv 2) pa_nil))) pa_nil)))))))
      (pss_cons (ps_set (i := 3) sclaw.nd rfl (Or.inr rfl) (pe_op op_cat (pv 3) (pe_lc (own := [("_law_k", 8)]) (g := (gName 8)) rfl sclaw.nd (pi_range1 rfl T.range (pa_cons pe_int pa_nil)) (blkOk_by (own := [("_law_k", 8)]) (N := Nlaw) (sc := defScope slaw) (by decide +kernel)) (fun _ _ _ _ _ => (pg_name (i := 8) sclaw.nd rfl (Or.inl rfl))) (fun _ _ _ _ _ => pts_nil) (fun _ _ _ _ _ => (pe_call G_law_bent hr1 rfl g_law_bent F_law_bent.kp b_law_bent .nil pass0 (pa_cons (pv 1) (pa_cons (pe_ix (ix_listK (K := K) rfl) (pv 2) pe_int (fun _ _ => rfl)) pa_nil)))))))
      (pss_cons (ps_if (PW.pt (pw_or (pt_not (pt_val (pe_call G_law_words_right hr1 rfl g_law_words_right F_law_words_right.kp b_law_words_right .nil pass0 (pa_cons (pe_op op_cat (pv 3) (pe_lst (pa_cons pe_str (pa_cons pe_str (pa_cons pe_str (pa_cons pe_str (pa_cons pe_str (pa_cons pe_str pa_nil)))))))) pa_nil)))) (pw_or1 (pt_not (pt_val (pe_call G_law_odd_right hr1 rfl g_law_odd_right F_law_odd_right.kp b_law_odd_right .nil pass0 (pa_cons (pv 1) pa_nil)))))))
      (pss_one (ps_ret pe_bl))
      pss_nil)
      (pss_cons (ps_setLc (i := 4) (own := [("_law_k", 8)]) (g := (gName 8)) rfl sclaw.nd rfl rfl (sw_true rfl rfl rfl (by decide +kernel)) (pi_range1 rfl T.range (pa_cons (pe_call G_law_draw hr1 rfl g_law_draw F_law_draw.kp b_law_draw .nil pass0 (pa_cons (pv 1) (pa_cons pe_int pa_nil))) pa_nil)) (blkOk_by (own := [("_law_k", 8)]) (N := Nlaw) (sc := defScope slaw) (by decide +kernel)) (fun _ _ _ _ _ => (pg_name (i := 8) sclaw.nd rfl (Or.inl rfl))) (fun _ _ _ _ _ => pts_nil) (fun _ _ _ _ _ => (pe_call G_law_pick hr1 rfl g_law_pick F_law_pick.kp b_law_pick .nil pass0 (pa_cons (pv 1) (pa_cons (pe_op op_cat (pe_op op_cat (pv 3) (pv 2)) (pe_lst (pa_cons pe_str pa_nil))) pa_nil)))))
      (pss_cons (ps_set (i := 5) sclaw.nd rfl (Or.inl rfl) (pe_join pe_str (pe_lc (own := [("_law_word", 9)]) (g := (gName 9)) rfl sclaw.nd (pi_list (pv 4)) (blkOk_by (own := [("_law_word", 9)]) (N := Nlaw) (sc := defScope slaw) (by decide +kernel)) (fun _ _ _ _ _ => (pg_name (i := 9) sclaw.nd rfl (Or.inl rfl))) (fun _ _ _ _ _ => pts_nil) (fun _ _ _ _ _ => (pe_op op_add_str (pv 9) pe_str)))))
      (pss_cons (ps_if (pt_cmpR op_ne (pe_call G_log_text hr1 rfl g_log_text kp_log_text b_log_text .nil pass0 (pa_cons (pv 4) pa_nil)) (pv 5) (nomark _))
      (pss_one (ps_ret pe_bl))
      pss_nil)
      (pss_cons (ps_set (i := 5) sclaw.nd rfl (Or.inl rfl) (pe_slice sl_str (pv 5) po_none (po_some (pe_op op_sub (pe_callB call_len_str (by rfl) T.len PySem.boot_len (pa_cons (pv 5) pa_nil)) (pe_op op_mul (pe_call G_law_draw hr1 rfl g_law_draw F_law_draw.kp b_law_draw .nil pass0 (pa_cons (pv 1) (pa_cons pe_int pa_nil))) (pe_call G_law_draw hr1 rfl g_law_draw F_law_draw.kp b_law_draw .nil pass0 (pa_cons (pv 1) (pa_cons (pe_op op_add (pe_callB call_len_str (by rfl) T.len PySem.boot_len (pa_cons (pv 5) pa_nil)) pe_int) pa_nil))))))))
      (pss_cons (ps_if (pt_cmpR (op_neD hr.units) (pe_call G_lines_in hr1 rfl g_lines_in kp_lines_in b_lines_in .nil pass0 (pa_cons (pv 5) pa_nil)) (pe_callTy call_tuple_of (by rfl) T.tuple (by decide +kernel) (pa_cons (pe_call G_law_lines_in hr1 rfl g_law_lines_in F_law_lines_in.kp b_law_lines_in .nil pass0 (pa_cons (pv 5) pa_nil)) pa_nil)) (nomark _))
      (pss_one (ps_ret pe_bl))
      pss_nil)
      (pss_cons (ps_setLc (i := 6) (own := [("_law_k", 8)]) (g := (gName 8)) rfl sclaw.nd rfl rfl (sw_true rfl rfl rfl (by decide +kernel)) (pi_range1 rfl T.range (pa_cons (pe_call G_law_draw hr1 rfl g_law_draw F_law_draw.kp b_law_draw .nil pass0 (pa_cons (pv 1) (pa_cons pe_int pa_nil))) pa_nil)) (blkOk_by (own := [("_law_k", 8)]) (N := Nlaw) (sc := defScope slaw) (by decide +kernel)) (fun _ _ _ _ _ => (pg_name (i := 8) sclaw.nd rfl (Or.inl rfl))) (fun _ _ _ _ _ => pts_nil) (fun _ _ _ _ _ => (pe_call G_law_pick hr1 rfl g_law_pick F_law_pick.kp b_law_pick .nil pass0 (pa_cons (pv 1) (pa_cons (pv 2) pa_nil)))))
      (pss_cons (ps_set (i := 7) sclaw.nd rfl (Or.inl rfl) (pe_call G_appended hr1 rfl g_appended kp_appended b_appended .nil pass0 (pa_cons (pv 5) (pa_cons (pv 6) pa_nil))))
      (pss_cons (ps_if (pt_cmpR op_ne (pv 7) (pe_call G_law_appended hr1 rfl g_law_appended F_law_appended.kp b_law_appended .nil pass0 (pa_cons (pv 5) (pa_cons (pv 6) pa_nil))) (nomark _))
      (pss_one (ps_ret pe_bl))
      pss_nil)
      (pss_one (ps_ret (pe_cmpR (op_eqD hr.units) (pe_call G_lines_in hr1 rfl g_lines_in kp_lines_in b_lines_in .nil pass0 (pa_cons (pv 7) pa_nil)) (pe_callTy call_tuple_of (by rfl) T.tuple (by decide +kernel) (pa_cons (pe_call G_law_lines_in hr1 rfl g_law_lines_in F_law_lines_in.kp b_law_lines_in .nil pass0 (pa_cons (pv 7) pa_nil)) pa_nil)) (nomark _))))))))))))))))), ?_⟩
  refine ⟨.ref a, (by kernel_rfl), a, ns, rfl, hS, hlen, fun p z0 HB s1 pn zc Z => ?_⟩
  have hp : HB p ≠ none := by rw [Z.at_]; exact fun z => nomatch z
  -- the lines
  refine ⟨.ref p, (by kernel_rfl), p, z0, 3, rfl, Z, by decide, by decide, by omega, fun r z1 r0 r1 g1 => ?_⟩
  have S1 := ((PS.start Z).draw g1).le (show z0.c + 1 ≤ 1 by omega)
  generalize upd HB p (.dK z1.kvs) = H1 at S1 ⊢
  obtain ⟨kn, ek⟩ : ∃ kn : Nat, 2 + r = (kn : Int) := ⟨(2 + r).toNat, by omega⟩
  refine ⟨_, _, rfl, rfl, _, rfl, by omega, by omega, ?_⟩
  rw [ek, show ((kn : Int)).toNat = kn from Int.toNat_natCast kn]
  intro L nL
  have nLB : HB L = none := S1.none hp nL
  have Lp : L ≠ p := fun q => hp (q ▸ nLB)
  refine lc_range (lo := 0) (n := kn) (fun j H' => ∃ (z : Pen) (ls : List Str), PS HB p (1 + 60 * (j : Int)) H' z ∧ H' L = some (.lst (ls.map V.str)) ∧ ls.length = j ∧ ∀ l ∈ ls, LOk l 400 ∧ 0 < l.length) ⟨z1, [], (S1.new nL).le (by omega), upd_same, rfl, fun l m => by cases m⟩ ?_ ?_
  · rintro j H2 hj ⟨z2, ls, S2, hL, ll, ol⟩
    have c2 := S2.c
    refine ⟨rfl, ?_⟩
    refine ⟨.ref p, (by kernel_rfl), p, z2, rfl, S2.pen, by omega, fun w3 H3 z3 S3 ok3 pos3 => ?_⟩
    have hL3 := S3.keep _ _ Lp hL
    have T3 := S2.step S3
    refine ⟨_, hL3, small_big (by rw [List.length_map]; omega), z3, ls ++ [w3], (T3.putD Lp nLB (T3.cell Z nLB)).le (by omega), by rw [upd_same]; simp, by simp [ll], fun l m => ?_⟩
    rcases List.mem_append.mp m with m | m
    · exact ol l m
    · rw [List.mem_singleton.mp m]
      exact ⟨ok3, pos3⟩
  rintro H2 ⟨z2, ls, S2, hL, ll, ol⟩
  replace S2 := S2.le (show 1 + 60 * (kn : Int) ≤ 300 by omega)
  have c2 := S2.c
  have lL : (ls.map V.str).length = ls.length := List.length_map ..
  clear S1 nL
  -- spoilt
  refine ⟨.ref L, (by kernel_rfl), 6, rfl, by decide, by decide, ?_⟩
  intro D nD
  have nDB : HB D = none := S2.none hp nD
  have Dp : D ≠ p := fun q => hp (q ▸ nDB)
  have DL : L ≠ D := fun q => by rw [← q, hL] at nD; cases nD
  refine lc_range (lo := 0) (n := 6) (fun j H' => ∃ (z : Pen) (ds : List Str), PS HB p (300 + 4 * (j : Int)) H' z ∧ H' D = some (.lst (ds.map V.str)) ∧ ds.length = j ∧ H' L = some (.lst (ls.map V.str)) ∧ ∀ l ∈ ds, LOk l 900) ⟨z2, [], (S2.new nD).le (by omega), upd_same, rfl, by rw [upd_ne DL]; exact hL, fun l m => by cases m⟩ ?_ ?_
  · rintro j H3 hj ⟨z3, ds, S3, hD, ld, hL3, od⟩
    have c3 := S3.c
    refine ⟨rfl, ?_⟩
    refine ⟨.ref p, (by kernel_rfl), .ref p, (by kernel_rfl), .ref L, (by kernel_rfl), p, L, z3, _, rfl, S3.pen, hL3, by omega, by omega, by omega, fun v z4 hv g4 => ?_⟩
    obtain ⟨l, ml, rfl⟩ := List.mem_map.mp hv
    have S4 := S3.draw g4
    have hD4 := (PS.start S3.pen).draw g4 |>.keep _ _ Dp hD
    have hL4 := (PS.start S3.pen).draw g4 |>.keep _ _ Lp hL3
    generalize upd H3 p (.dK z4.kvs) = H4 at S4 hD4 hL4 ⊢
    have c4 := S4.c
    refine ⟨p, z4, l, 400, rfl, S4.pen, by omega, (ol l ml).1, by decide, (ol l ml).2, fun w5 H5 z5 S5 ok5 => ?_⟩
    have T5 := S4.step S5
    refine ⟨_, S5.keep _ _ Dp hD4, small_big (by rw [List.length_map]; omega), z5, ds ++ [w5], (T5.putD Dp nDB (T5.cell Z nDB)).le (by omega), by rw [upd_same]; simp, by simp [ld], by rw [upd_ne DL]; exact S5.keep _ _ Lp hL4, fun l m => ?_⟩
    rcases List.mem_append.mp m with m | m
    · exact od l m
    · rw [List.mem_singleton.mp m]
      exact ok5.mono (by omega)
  rintro H3 ⟨z3, ds, S3, hD, ld, hL3, od⟩
  have lD : (ds.map V.str).length = ds.length := List.length_map ..
  refine ⟨L, D, _, _, rfl, rfl, hL3, hD, sz_of (by omega), fun W nW => ?_⟩
  have S4 := S3.new (o := .lst (ls.map V.str ++ ds.map V.str)) nW
  have hW : upd H3 W (.lst (ls.map V.str ++ ds.map V.str)) W = some (.lst ((ls ++ ds).map V.str)) := by rw [upd_same, List.map_append]
  have hL4 := (same_new (o := .lst (ls.map V.str ++ ds.map V.str)) nW) _ _ hL3
  have Wp : W ≠ p := fun q => by rw [q, S3.pen.at_] at nW; cases nW
  have oW : ∀ l ∈ ls ++ ds, LOk l 900 := fun l m => by
    rcases List.mem_append.mp m with m | m
    · exact (ol l m).1.mono (by omega)
    · exact od l m
  have lW : (ls ++ ds).length = kn + 6 := by rw [List.length_append]; omega
  clear hD nW hL3 S3 nD DL
  generalize upd H3 W (.lst (ls.map V.str ++ ds.map V.str)) = H4 at S4 hW hL4 ⊢
  generalize ls ++ ds = ws at hW oW lW
  -- bent
  refine ⟨.ref W, (by kernel_rfl), 6, rfl, by decide, by decide, ?_⟩
  intro D2 nD2
  have nDB2 : HB D2 = none := S4.none hp nD2
  have Dp2 : D2 ≠ p := fun q => hp (q ▸ nDB2)
  have DL2 : L ≠ D2 := fun q => by rw [← q, hL4] at nD2; cases nD2
  have DW2 : W ≠ D2 := fun q => by rw [← q, hW] at nD2; cases nD2
  obtain ⟨l0, lr, els⟩ : ∃ l0 lr, ls = l0 :: lr := by
    cases ls with
    | nil => simp at ll; omega
    | cons x y => exact ⟨x, y, rfl⟩
  have ol0 := (ol l0 (by rw [els]; exact List.mem_cons_self ..)).1
  refine lc_range (lo := 0) (n := 6) (fun j H' => ∃ (z : Pen) (ds : List Str), PS HB p (400 + 4 * (j : Int)) H' z ∧ H' D2 = some (.lst (ds.map V.str)) ∧ ds.length = j ∧ H' L = some (.lst (ls.map V.str)) ∧ H' W = some (.lst (ws.map V.str)) ∧ ∀ l ∈ ds, LOk l 900) ⟨z3, [], (S4.new nD2).le (by omega), upd_same, rfl, by rw [upd_ne DL2]; exact hL4, by rw [upd_ne DW2]; exact hW, fun l m => by cases m⟩ ?_ ?_
  · rintro j H5 hj ⟨z5, es, S5, hE, le, hL5, hW5, oe⟩
    have c5 := S5.c
    refine ⟨rfl, ?_⟩
    refine ⟨.ref p, (by kernel_rfl), .ref L, (by kernel_rfl), L, _, 0, .str l0, rfl, rfl, SqL.of hL5, atI0 (by rw [els]; rfl), p, z5, l0, 400, rfl, S5.pen, by omega, ol0, by decide, fun w6 H6 z6 S6 ok6 => ?_⟩
    have T6 := S5.step S6
    refine ⟨_, S6.keep _ _ Dp2 hE, small_big (by rw [List.length_map]; omega), z6, es ++ [w6], (T6.putD Dp2 nDB2 (T6.cell Z nDB2)).le (by omega), by rw [upd_same]; simp, by simp [le], by rw [upd_ne DL2]; exact S6.keep _ _ Lp hL5, by rw [upd_ne DW2]; exact S6.keep _ _ Wp hW5, fun l m => ?_⟩
    rcases List.mem_append.mp m with m | m
    · exact oe l m
    · rw [List.mem_singleton.mp m]
      exact ok6.mono (by omega)
  rintro H5 ⟨z5, es, S5, hE, le, hL5, hW5, oe⟩
  have lE : (es.map V.str).length = es.length := List.length_map ..
  have lWs : (ws.map V.str).length = ws.length := List.length_map ..
  refine ⟨W, D2, _, _, rfl, rfl, hW5, hE, sz_of (by omega), fun U nU => ?_⟩
  have S6 := S5.new (o := .lst (ws.map V.str ++ es.map V.str)) nU
  have hU : upd H5 U (.lst (ws.map V.str ++ es.map V.str)) U = some (.lst ((ws ++ es).map V.str)) := by rw [upd_same, List.map_append]
  have hL6 := (same_new (o := .lst (ws.map V.str ++ es.map V.str)) nU) _ _ hL5
  have Up : U ≠ p := fun q => by rw [q, S5.pen.at_] at nU; cases nU
  have oU : ∀ l ∈ ws ++ es, LOk l 900 := fun l m => by
    rcases List.mem_append.mp m with m | m
    · exact oW l m
    · exact oe l m
  have lU : (ws ++ es).length = kn + 12 := by rw [List.length_append]; omega
  clear hE nU hL5 S5 nD2 DL2 DW2 hW5 hL4 hW
  generalize upd H5 U (.lst (ws.map V.str ++ es.map V.str)) = H6 at S6 hU hL6 ⊢
  generalize ws ++ es = us at hU oU lU
  have lUs : (us.map V.str).length = us.length := List.length_map ..
  have c6 := S6.c
  -- the words told rightly
  refine ⟨.ref U, (by kernel_rfl), by show 6 ≤ sizeLine; decide, fun q nq => ?_⟩
  have S7 := S6.new (o := .lst [.str "", .str "m", .str "m:", .str "m:0", .str "m:0.", .str "."]) nq
  have hq := upd_same (H := H6) (a := q) (o := .lst [.str "", .str "m", .str "m:", .str "m:0", .str "m:0.", .str "."])
  have hU7 := (same_new (o := .lst [.str "", .str "m", .str "m:", .str "m:0", .str "m:0.", .str "."]) nq) _ _ hU
  have hL7 := (same_new (o := .lst [.str "", .str "m", .str "m:", .str "m:0", .str "m:0.", .str "."]) nq) _ _ hL6
  generalize upd H6 q (.lst [.str "", .str "m", .str "m:", .str "m:0", .str "m:0.", .str "."]) = H7 at S7 hq hU7 hL7 ⊢
  replace hq : H7 q = some (.lst (six.map V.str)) := hq
  clear hU hL6 S6 nq
  refine ⟨U, q, us.map V.str, six.map V.str, rfl, rfl, hU7, hq, sz_of (by rw [lUs, List.length_map]; show _ + 6 ≤ _; omega), fun A nA => ?_⟩
  have S8 := S7.new (o := .lst (us.map V.str ++ six.map V.str)) nA
  have hA : upd H7 A (.lst (us.map V.str ++ six.map V.str)) A = some (.lst ((us ++ six).map V.str)) := by rw [upd_same, List.map_append]
  have hU8 := (same_new (o := .lst (us.map V.str ++ six.map V.str)) nA) _ _ hU7
  have hL8 := (same_new (o := .lst (us.map V.str ++ six.map V.str)) nA) _ _ hL7
  generalize upd H7 A (.lst (us.map V.str ++ six.map V.str)) = H8 at S8 hA hU8 hL8 ⊢
  clear hU7 hL7 S7 nA hq
  have oA : ∀ l ∈ us ++ six, LOk l 2000 := fun l m => by
    rcases List.mem_append.mp m with m | m
    · exact (oU l m).mono (by omega)
    · have : ∀ l ∈ six, LOk l 2000 := by
        intro l m
        unfold six at m
        simp only [List.mem_cons, List.not_mem_nil, or_false] at m
        rcases m with rfl | rfl | rfl | rfl | rfl | rfl <;> exact .lit (by decide +kernel)
      exact this l m
  refine ⟨A, us ++ six, rfl, hA, oA, fun H9 S9 => ?_⟩
  refine ⟨_, rfl, ?_⟩
  refine ite_no rfl ?_
  have T9 := S8.same S9
  have hU9 := S9 _ _ hU8
  have hL9 := S9 _ _ hL8
  clear hA oA hU8 hL8 S8 S9
  have c9 := T9.c
  refine ⟨.ref p, (by kernel_rfl), p, z5, rfl, T9.pen, by omega, fun H10 z10 S10 => ?_⟩
  refine ⟨_, rfl, ?_⟩
  refine ite_no rfl ?_
  try refine ite_no rfl ?_
  have T10 := (T9.step S10).le (show z5.c + 1 ≤ 500 by omega)
  have hU10 := S10.keep _ _ Up hU9
  have hL10 := S10.keep _ _ Lp hL9
  clear T9 S10 hU9 hL9
  -- some of them
  refine ⟨.ref p, (by kernel_rfl), p, z10, 12, rfl, T10.pen, by decide, by decide, by have := T10.c; omega, fun r11 z11 a11 b11 g11 => ?_⟩
  have S11 := (T10.draw g11).le (show (500 : Int) + 1 ≤ 501 by omega)
  have hU11 := (PS.start T10.pen).draw g11 |>.keep _ _ Up hU10
  have hL11 := (PS.start T10.pen).draw g11 |>.keep _ _ Lp hL10
  generalize upd H10 p (.dK z11.kvs) = H11 at S11 hU11 hL11 ⊢
  obtain ⟨k11, rfl⟩ := Int.eq_ofNat_of_zero_le a11
  refine ⟨(k11 : Int), rfl, by omega, by omega, ?_⟩
  clear hU10 hL10 T10 g11
  intro M nM
  have nMB : HB M = none := S11.none hp nM
  have Mp : M ≠ p := fun q => hp (q ▸ nMB)
  have ML : L ≠ M := fun q => by rw [← q, hL11] at nM; cases nM
  have MU : U ≠ M := fun q => by rw [← q, hU11] at nM; cases nM
  refine lc_range (lo := 0) (n := k11) (fun j H' => ∃ (z : Pen) (ms : List Str), PS HB p (501 + (j : Int)) H' z ∧ H' M = some (.lst (ms.map V.str)) ∧ ms.length = j ∧ H' L = some (.lst (ls.map V.str)) ∧ H' U = some (.lst (us.map V.str)) ∧ ∀ l ∈ ms, LOk l 900) ⟨z11, [], (S11.new nM).le (by omega), upd_same, rfl, by rw [upd_ne ML]; exact hL11, by rw [upd_ne MU]; exact hU11, fun l m => by cases m⟩ ?_ ?_
  · rintro j H12 hj ⟨z12, ms, S12, hM, lm, hL12, hU12, om⟩
    have c12 := S12.c
    refine ⟨rfl, ?_⟩
    refine ⟨.ref p, (by kernel_rfl), .ref U, (by kernel_rfl), .ref L, (by kernel_rfl), U, L, _, _, rfl, rfl, hU12, hL12, sz_of (by omega), fun x nx => ?_⟩
    have s13 := same_new (o := .lst (us.map V.str ++ ls.map V.str)) nx
    have hx := upd_same (H := H12) (a := x) (o := .lst (us.map V.str ++ ls.map V.str))
    generalize upd H12 x (.lst (us.map V.str ++ ls.map V.str)) = H13 at s13 hx ⊢
    refine ⟨by show 1 ≤ sizeLine; decide, fun y ny => ?_⟩
    have s14 := same_new (o := .lst [.str ""]) ny
    have hy := upd_same (H := H13) (a := y) (o := .lst [.str ""])
    have hx14 := s14 _ _ hx
    generalize upd H13 y (.lst [.str ""]) = H14 at s14 hy hx14 ⊢
    refine ⟨x, y, _, _, rfl, rfl, hx14, hy, sz_of (by rw [List.length_append]; show _ + 1 ≤ _; omega), fun c nc => ?_⟩
    have s15 := same_new (o := .lst (us.map V.str ++ ls.map V.str ++ [.str ""])) nc
    have S15 := ((S12.same s13).same s14).same s15
    have T15 := (s13.trans s14).trans s15
    refine ⟨p, c, z12, _, rfl, S15.pen, upd_same, by simp only [List.length_append, List.length_singleton]; omega, by simp only [List.length_append, List.length_singleton]; omega, by omega, fun v z16 hv g16 => ?_⟩
    have S16 := S15.draw g16
    have hM16 := (PS.start S15.pen).draw g16 |>.keep _ _ Mp (T15 _ _ hM)
    have hL16 := (PS.start S15.pen).draw g16 |>.keep _ _ Lp (T15 _ _ hL12)
    have hU16 := (PS.start S15.pen).draw g16 |>.keep _ _ Up (T15 _ _ hU12)
    obtain ⟨l, rfl, okl⟩ : ∃ l : Str, v = .str l ∧ LOk l 900 := by
      rcases List.mem_append.mp hv with m | m
      · rcases List.mem_append.mp m with m | m
        · obtain ⟨l, ml, rfl⟩ := List.mem_map.mp m
          exact ⟨l, rfl, oU l ml⟩
        · obtain ⟨l, ml, rfl⟩ := List.mem_map.mp m
          exact ⟨l, rfl, (ol l ml).1.mono (by omega)⟩
      · rw [List.mem_singleton.mp m]
        exact ⟨_, rfl, .lit (by decide +kernel)⟩
    refine ⟨_, hM16, small_big (by rw [List.length_map]; omega), z16, ms ++ [l], (S16.putD Mp nMB (S16.cell Z nMB)).le (by omega), by rw [upd_same]; simp, by simp [lm], by rw [upd_ne ML]; exact hL16, by rw [upd_ne MU]; exact hU16, fun l' m => ?_⟩
    rcases List.mem_append.mp m with m | m
    · exact om l' m
    · rw [List.mem_singleton.mp m]
      exact okl
  rintro H12 ⟨z12, ms, S12, hM, lm, hL12, hU12, om⟩
  have c12 := S12.c
  clear hU11 hL11 S11 nM ML MU
  -- the text
  refine ⟨⟨_, rfl⟩, .ref M, (by kernel_rfl), M, rfl, ⟨_, SqL.of hM⟩, ?_⟩
  intro D4 nD4
  refine lc_list (K := K) (a := M) (xs := ms.map V.str) (fun i H' => H' D4 = some (.lst (((ms.take i).map nlT).map V.str)) ∧ Same H12 H') ⟨upd_same, same_new nD4⟩ (fun i H' _ ⟨_, S⟩ => SqL.of (S _ _ hM)) ?_ ?_
  · rintro i x H13 hi ⟨hD, S⟩
    rw [List.getElem?_map] at hi
    obtain ⟨y, hy, rfl⟩ := Option.map_eq_some_iff.mp hi
    have ly := (om y (List.mem_of_getElem? hy)).len
    have lj := (List.getElem?_eq_some_iff.mp hy).1
    refine ⟨rfl, ?_⟩
    have l1 : ("
" : Str).length = 1 := rfl
    refine ⟨.str y, (by kernel_rfl), y, "
", rfl, rfl, sz_of (by rw [l1]; omega), ?_⟩
    refine ⟨_, hD, small_big (by rw [List.length_map, List.length_map, List.length_take]; omega), ?_, same_put S nD4⟩
    rw [upd_same, List.take_add_one, hy]
    simp [nlT]
  rintro H13 ⟨hD4, s13⟩
  rw [List.length_map, List.take_length] at hD4
  have sml := sum_log ms 900 fun l m => (om l m).len
  have mul1 : ms.length * (900 + 1) ≤ 11 * 901 := Nat.mul_le_mul_right _ (by omega)
  have l0 : ("" : Str).length = 0 := rfl
  refine ⟨"", D4, _, rfl, rfl, .inl (SqL.of hD4), by rw [l0, Nat.mul_zero]; omega, ?_⟩
  rw [show Txt.join "" (ms.map nlT) = logOf ms from rfl]
  have okt := log_ok om
  have lt := okt.len
  have S13 := S12.same s13
  have hM13 := s13 _ _ hM
  have hL13 := s13 _ _ hL12
  clear hD4 nD4 s13 S12 hM hL12 hU12
  refine ⟨.ref M, (by kernel_rfl), M, ms, rfl, hM13, by omega, fun l m => Nat.le_trans (om l m).len (by omega), fun H14 s14 => ?_⟩
  refine ⟨.str (logOf ms), (by kernel_rfl), rfl, _, rfl, ?_⟩
  refine ite_no (by rw [decide_eq_true rfl]; rfl) ?_
  have S14 := S13.same s14
  have hL14 := s14 _ _ hL13
  clear hM13 hL13 S13 s14
  generalize logOf ms = tx at okt lt ⊢
  have c14 := S14.c
  -- cut
  refine ⟨.str tx, (by kernel_rfl), .str tx, (by kernel_rfl), tx, rfl, sz_of (by omega), .ref p, (by kernel_rfl), p, z12, 2, rfl, S14.pen, by decide, by decide, by omega, fun r15 z15 a15 b15 g15 => ?_⟩
  have S15 := S14.draw g15
  have hL15 := (PS.start S14.pen).draw g15 |>.keep _ _ Lp hL14
  generalize upd H14 p (.dK z15.kvs) = H15 at S15 hL15 ⊢
  have c15 := S15.c
  refine ⟨.ref p, (by kernel_rfl), .str tx, (by kernel_rfl), tx, rfl, sz_of (by omega), _, _, rfl, rfl, p, z15, _, rfl, S15.pen, by omega, by omega, by omega, fun r16 z16 a16 b16 g16 => ?_⟩
  have S16 := S15.draw g16
  have hL16 := (PS.start S15.pen).draw g16 |>.keep _ _ Lp hL15
  generalize upd H15 p (.dK z16.kvs) = H16 at S16 hL16 ⊢
  have c16 := S16.c
  refine ⟨_, _, rfl, rfl, .inl ⟨by omega, by omega⟩, _, _, rfl, rfl, _, rfl, tx, rfl, sz_of (by omega), ?_⟩
  have okc := okt.cut none (some ((tx.length : Int) - r15 * r16))
  generalize cutS tx none (some ((tx.length : Int) - r15 * r16)) = tc at okc ⊢
  have lc := okc.len
  -- the lines in it
  refine ⟨.str tc, (by kernel_rfl), tc, rfl, by omega, fun pl H17 s17 hpl => ?_⟩
  refine ⟨.str tc, (by kernel_rfl), tc, rfl, by omega, fun ql H18 s18 hql => ?_⟩
  refine ⟨ql, _, rfl, .inl ⟨SqL.of hql, fun tl ntl => ?_⟩⟩
  have s19 := same_new (o := .tup ((linesIn tc).map V.str)) ntl
  have sh1 := shaped_strs (lines_ok okc)
  refine ⟨.tuple ((linesIn tc).map PyData.str), .tuple ((linesIn tc).map PyData.str), .tup (SqT.of (s19 _ _ (s18 _ _ hpl))) (dpAll_strs _), .tup (SqT.of upd_same) (dpAll_strs _), sh1, sh1, _, rfl, ?_⟩
  refine ite_no (by rw [SeqAt.eqv_refl _ (SeqAt.canLay_of_shaped sh1)]; rfl) ?_
  have s20 := (s17.trans s18).trans s19
  have S20 := S16.same s20
  have hL20 := s20 _ _ hL16
  clear hpl hql ntl s17 s18 s19 s20 hL16 S16 hL15 hL14 S14 S15 sh1
  generalize upd H18 tl (.tup ((linesIn tc).map V.str)) = H20 at S20 hL20 ⊢
  -- more
  refine ⟨.ref p, (by kernel_rfl), p, z16, 4, rfl, S20.pen, by decide, by decide, by omega, fun r21 z21 a21 b21 g21 => ?_⟩
  have S21 := (S20.draw g21).le (show _ ≤ (600 : Int) by omega)
  have hL21 := (PS.start S20.pen).draw g21 |>.keep _ _ Lp hL20
  generalize upd H20 p (.dK z21.kvs) = H21 at S21 hL21 ⊢
  obtain ⟨k21, rfl⟩ := Int.eq_ofNat_of_zero_le a21
  refine ⟨(k21 : Int), rfl, by omega, by omega, ?_⟩
  intro Y nY
  have nYB : HB Y = none := S21.none hp nY
  have Yp : Y ≠ p := fun q => hp (q ▸ nYB)
  have YL : L ≠ Y := fun q => by rw [← q, hL21] at nY; cases nY
  refine lc_range (lo := 0) (n := k21) (fun j H' => ∃ (z : Pen) (ys : List Str), PS HB p (600 + (j : Int)) H' z ∧ H' Y = some (.lst (ys.map V.str)) ∧ ys.length = j ∧ H' L = some (.lst (ls.map V.str)) ∧ ∀ l ∈ ys, LOk l 400) ⟨z21, [], (S21.new nY).le (by omega), upd_same, rfl, by rw [upd_ne YL]; exact hL21, fun l m => by cases m⟩ ?_ ?_
  · rintro j H22 hj ⟨z22, ys, S22, hY, ly, hL22, oy⟩
    have c22 := S22.c
    refine ⟨rfl, ?_⟩
    refine ⟨.ref p, (by kernel_rfl), .ref L, (by kernel_rfl), p, L, z22, _, rfl, S22.pen, hL22, by omega, by omega, by omega, fun v z23 hv g23 => ?_⟩
    obtain ⟨l, ml, rfl⟩ := List.mem_map.mp hv
    have S23 := S22.draw g23
    have hY23 := (PS.start S22.pen).draw g23 |>.keep _ _ Yp hY
    have hL23 := (PS.start S22.pen).draw g23 |>.keep _ _ Lp hL22
    refine ⟨_, hY23, small_big (by rw [List.length_map]; omega), z23, ys ++ [l], (S23.putD Yp nYB (S23.cell Z nYB)).le (by omega), by rw [upd_same]; simp, by simp [ly], by rw [upd_ne YL]; exact hL23, fun l' m => ?_⟩
    rcases List.mem_append.mp m with m | m
    · exact oy l' m
    · rw [List.mem_singleton.mp m]
      exact (ol l ml).1
  rintro H22 ⟨z22, ys, S22, hY, ly, hL22, oy⟩
  have oky := log_ok oy
  have mul2 : ys.length * (400 + 1) ≤ 3 * 401 := Nat.mul_le_mul_right _ (by omega)
  refine ⟨.str tc, (by kernel_rfl), .ref Y, (by kernel_rfl), tc, Y, ys, rfl, by omega, hY, by omega, fun l m => Nat.le_trans (oy l m).len (by omega), fun H23 s23 => ?_⟩
  refine ⟨.str (appT tc ys), (by kernel_rfl), .str tc, (by kernel_rfl), .ref Y, (by kernel_rfl), tc, Y, ys, rfl, by omega, s23 _ _ hY, by omega, fun l m => Nat.le_trans (oy l m).len (by omega), fun H24 s24 => ?_⟩
  refine ⟨rfl, _, rfl, ?_⟩
  refine ite_no (by rw [decide_eq_true rfl]; rfl) ?_
  have oka : LOk (appT tc ys) 900000 := by
    unfold appT
    exact ((okc.app (glue_ok tc)).app oky).mono (by omega)
  generalize appT tc ys = ta at oka ⊢
  refine ⟨.str ta, (by kernel_rfl), ta, rfl, oka.len, fun pl H25 s25 hpl => ?_⟩
  refine ⟨.str ta, (by kernel_rfl), ta, rfl, oka.len, fun ql H26 s26 hql => ?_⟩
  refine ⟨ql, _, rfl, .inl ⟨SqL.of hql, fun tl ntl => ?_⟩⟩
  have s27 := same_new (o := .tup ((linesIn ta).map V.str)) ntl
  have sh2 := shaped_strs (lines_ok oka)
  refine ⟨.tuple ((linesIn ta).map PyData.str), .tuple ((linesIn ta).map PyData.str), .tup (SqT.of (s27 _ _ (s26 _ _ hpl))) (dpAll_strs _), .tup (SqT.of upd_same) (dpAll_strs _), sh2, sh2, ?_⟩
  show V.bl _ = .bl true
  rw [SeqAt.eqv_refl _ (SeqAt.canLay_of_shaped sh2)]
end

end Nm
namespace Nm
open PySem PySem.Spec PyProof.Rows L2
/-! ### the program's words -/
theorem pe_gstr {X : Cx} {x z : Str} {pos : Pos} (hg : Gl X x) (hm : ∃ t, X.mg x = some (.str z t)) (hd : (x == ("__debug__" : Str)) = false := by decide) : PE X (.Name x pos) (tC (.str z)) := by
  obtain ⟨t, e⟩ := hm
  exact pe_glob hg e ⟨t, rfl⟩ hd
theorem pe_gint {X : Cx} {x : Str} {z : Int} {pos : Pos} (hg : Gl X x) (hm : ∃ t, X.mg x = some (.int z t)) (hd : (x == ("__debug__" : Str)) = false := by decide) : PE X (.Name x pos) (tC (.int z)) := by
  obtain ⟨t, e⟩ := hm
  exact pe_glob hg e ⟨t, rfl⟩ hd
structure WTxt (mg : Str → Option Value) : Prop where
  BIG_LETTERS : ∃ t, mg "BIG_LETTERS" = some (.str sBIG t)
  SMALL_LETTERS : ∃ t, mg "SMALL_LETTERS" = some (.str sSMA t)
  DIGITS : ∃ t, mg "DIGITS" = some (.str sDIG t)
  MOST_SIGNS : ∃ t, mg "MOST_SIGNS" = some (.int 24 t)
  len : mg "len" = none
  enumerate : mg "enumerate" = none
  tuple : mg "tuple" = none
  int : mg "int" = none
  list : mg "list" = none
  isinstance : mg "isinstance" = none
  range : mg "range" = none
def spAll : Sp := fun vs H Q _ => ∃ t s : Str, vs = [.str t, .str s] ∧ Q (.bl (allIn t s)) H
def spName : Sp := fun vs H Q _ => ∃ w f : Str, vs = [.str w, .str f] ∧ w.length ≤ 900000 ∧ Q (.bl (isName w f)) H
def spW (f : Str → Bool) : Sp := fun vs H Q _ => ∃ w : Str, vs = [.str w] ∧ w.length ≤ 900000 ∧ Q (.bl (f w)) H
section
variable {P : Program} {w : World} {K : PySem.W.Frag} {mg : Str → Option Value} {base : Heap}

abbrev sallamong : Stmt := top 9
abbrev Nallamong : List Str := ["text", "signs", "sign"]
abbrev Pallamong : List Str := ["text", "signs"]
theorem scallamong : FnScope Nallamong Pallamong (defScope sallamong) := ⟨rfl, rfl, rfl, by decide +kernel, rfl, by decide +kernel, by decide +kernel⟩

theorem ok_all {f : Addr} {fd : FuncData} (F : Fun K "all_among" "all_among" sallamong f fd) : FnOk P w K mg base CX0 1 f fd Pallamong spAll := by
  refine F.ok scallamong (fun vs H Q E h => ?_) (fun cdv A outer s H vs Q E hr h => ?_)
  · obtain ⟨t, z, rfl, _⟩ := h
    rfl
  · obtain ⟨t, z, rfl, k⟩ := h
    refine ⟨_, (pss_cons (ps_for PassesOwn.never rfl (pi_str (pv 0)) (pg_name (i := 2) scallamong.nd rfl (Or.inl rfl))
      (pss_one (ps_if (pt_cmpR op_notIn_sign (pv 2) (pv 1) (by rfl))
      (pss_one (ps_ret pe_bl))
      pss_nil)))
      (pss_one (ps_ret pe_bl))), ?_⟩
    refine ⟨.str t, (by kernel_rfl), t, rfl, ?_⟩
    refine for_it (walk_str (z := t)) (fun i σ H' => H' = H ∧ (∃ v, σ = [some (.str t), some (.str z), v]) ∧ ((codes t).take i).all (fun c => decide (c ∈ codes z)) = true) ⟨rfl, ⟨none, rfl⟩, rfl⟩ (fun _ _ _ _ _ => True.intro) ?_ ?_
    · rintro i x σ H1 H2 hi ⟨rfl, ⟨v, rfl⟩, ha⟩ ⟨rfl, c, hc, rfl⟩
      have hc' : (codes t)[i]? = some c := by simpa using hc
      refine ⟨.str ⟨#[c]⟩, (by kernel_rfl), .str z, (by kernel_rfl), c, z, rfl, rfl, _, rfl, ?_⟩
      by_cases m : c ∈ codes z
      · refine ite_no (by rw [decide_eq_true m]; rfl) ?_
        refine ⟨rfl, ⟨_, rfl⟩, ?_⟩
        rw [List.take_add_one, hc', List.all_append, ha]
        show (true && ((decide (c ∈ codes z)) && true)) = true
        rw [decide_eq_true m]
        rfl
      · refine ite_yes (by rw [decide_eq_false m]; rfl) ?_
        have e : allIn t z = false := by
          unfold allIn
          refine List.all_eq_false.mpr ⟨c, List.mem_of_getElem? hc', ?_⟩
          simp [m]
        rw [e] at k
        exact k
    · rintro σ H1 ⟨rfl, ⟨v, rfl⟩, ha⟩
      have e : allIn t z = true := by
        unfold allIn
        have l : t.cps.size = (codes t).length := by simp
        rw [l, List.take_length] at ha
        exact ha
      rw [e] at k
      exact k

abbrev sisname : Stmt := top 10
abbrev Nisname : List Str := ["word", "first_signs"]
abbrev Pisname : List Str := ["word", "first_signs"]
theorem scisname : FnScope Nisname Pisname (defScope sisname) := ⟨rfl, rfl, rfl, by decide +kernel, rfl, by decide +kernel, by decide +kernel⟩

theorem ok_name {f fA : Addr} {fd fdA : FuncData} (F : Fun K "is_name" "is_name" sisname f fd) (T : WTxt mg) (F_all_among : Fun K "all_among" "all_among" sallamong fA fdA) (b_all_among : Binds K fdA Pallamong []) (g_all_among : mg "all_among" = some (.ref fA)) :
    FnOk P w K mg base CX0 2 f fd Pisname spName := by
  have G_all_among : FnOk P w K mg base CX0 1 fA fdA Pallamong spAll := ok_all F_all_among
  refine F.ok scisname (fun vs H Q E h => ?_) (fun cdv A outer s H vs Q E hr h => ?_)
  · obtain ⟨t, z, rfl, _⟩ := h
    rfl
  · obtain ⟨t, z, rfl, hl, k⟩ := h
    have hr1 := hr
    refine ⟨_, (pss_cons (ps_if (PW.pt (pw_or (pt_cmpR op_eq (pv 0) pe_str (nomark _)) (pw_or (pt_cmpR op_gt (pe_callB call_len_str (by rfl) T.len PySem.boot_len (pa_cons (pv 0) pa_nil)) (pe_gint (by rfl) T.MOST_SIGNS) (nomark _)) (pw_or1 (pt_cmpR op_notIn_sign (pe_ix ix_str (pv 0) pe_int (fun _ _ => rfl)) (pv 1) (by rfl))))))
      (pss_one (ps_ret pe_bl))
      pss_nil)
      (pss_one (ps_ret (pe_call G_all_among hr1 rfl g_all_among F_all_among.kp b_all_among .nil pass0 (pa_cons (pv 0) (pa_cons (pe_op op_add_str (pe_op op_add_str (pe_op op_add_str (pe_gstr (by rfl) T.BIG_LETTERS) (pe_gstr (by rfl) T.SMALL_LETTERS)) (pe_gstr (by rfl) T.DIGITS)) pe_str) pa_nil)))))), ?_⟩
    refine ⟨.str t, (by kernel_rfl), rfl, _, rfl, ?_⟩
    rw [dec_str]
    by_cases h0 : t = ""
    · refine ite_yes (decide_eq_true h0) ?_
      refine ite_yes rfl ?_
      have e : isName t z = false := by unfold isName; rw [decide_eq_true h0]; rfl
      rw [e] at k
      exact k
    refine ite_no (decide_eq_false h0) ?_
    obtain ⟨c, r, ec⟩ := codes_cons h0
    refine ⟨.str t, (by kernel_rfl), t, rfl, sz_of (by omega), _, _, rfl, rfl, _, rfl, ?_⟩
    by_cases h1 : t.length > 24
    · refine ite_yes (decide_eq_true (by omega)) ?_
      refine ite_yes rfl ?_
      have e : isName t z = false := by unfold isName; rw [decide_eq_false h0, decide_eq_true h1]; rfl
      rw [e] at k
      exact k
    refine ite_no (decide_eq_false (by omega)) ?_
    refine ⟨.str t, (by kernel_rfl), t, 0, c, rfl, rfl, sz_of (by omega), atI0 ec, .str z, (by kernel_rfl), c, z, rfl, rfl, _, rfl, ?_⟩
    by_cases h2 : c ∈ codes z
    · refine ite_no (by rw [decide_eq_true h2]; rfl) ?_
      refine ⟨.str t, (by kernel_rfl), _, _, rfl, rfl, (by decide +kernel), _, _, rfl, rfl, (by decide +kernel), _, _, rfl, rfl, (by decide +kernel), t, sALL, rfl, ?_⟩
      have e : isName t z = allIn t sALL := by
        unfold isName
        rw [decide_eq_false h0, decide_eq_false h1, hd_of ec, decide_eq_true h2]
        rfl
      rw [e] at k
      exact k
    · refine ite_yes (by rw [decide_eq_false h2]; rfl) ?_
      have e : isName t z = false := by
        unfold isName
        rw [decide_eq_false h0, decide_eq_false h1, hd_of ec, decide_eq_false h2]
        rfl
      rw [e] at k
      exact k

abbrev sisbig : Stmt := top 11
abbrev Nisbig : List Str := ["word"]
abbrev Pisbig : List Str := ["word"]
theorem scisbig : FnScope Nisbig Pisbig (defScope sisbig) := ⟨rfl, rfl, rfl, by decide +kernel, rfl, by decide +kernel, by decide +kernel⟩

theorem ok_big {f fN fA : Addr} {fd fdN fdA : FuncData} (F : Fun K "is_big" "is_big" sisbig f fd) (T : WTxt mg) (F_is_name : Fun K "is_name" "is_name" sisname fN fdN) (b_is_name : Binds K fdN Pisname []) (g_is_name : mg "is_name" = some (.ref fN)) (F_all_among : Fun K "all_among" "all_among" sallamong fA fdA) (b_all_among : Binds K fdA Pallamong []) (g_all_among : mg "all_among" = some (.ref fA)) : FnOk P w K mg base CX0 3 f fd Pisbig (spW isBig) := by
  have G_is_name : FnOk P w K mg base CX0 2 fN fdN Pisname spName := ok_name F_is_name T F_all_among b_all_among g_all_among
  refine F.ok scisbig (fun vs H Q E h => ?_) (fun cdv A outer s H vs Q E hr h => ?_)
  · obtain ⟨t, rfl, _⟩ := h
    rfl
  · obtain ⟨t, rfl, hl, k⟩ := h
    have hr1 := hr
    refine ⟨_, (pss_one (ps_ret (pe_call G_is_name hr1 rfl g_is_name F_is_name.kp b_is_name .nil pass0 (pa_cons (pv 0) (pa_cons (pe_gstr (by rfl) T.BIG_LETTERS) pa_nil))))), ?_⟩
    exact ⟨.str t, (by kernel_rfl), t, sBIG, rfl, hl, k⟩

end
end Nm
namespace Nm
open PySem PySem.Spec PyProof.Rows L2
/-! ### integers as they are written -/
def isWr (w : Str) : Bool := if decide (cutS w none (some 1) = "-") = true then (isCnt (cutS w (some 1) none) && !decide (w = "-0")) else isCnt w
theorem dig_sign (c : Nat) : (decide (c < 128) && Unicode.isDigit c) = decide (c ∈ codes sDIG) := by
  by_cases h : c < 128
  · have k : ∀ n : _root_.Fin 128, (Unicode.isDigit n.val) = decide (n.val ∈ codes sDIG) := by decide +kernel
    rw [decide_eq_true h, Bool.true_and]
    exact k ⟨c, h⟩
  · have k : (codes sDIG).all (fun c => decide (c < 128)) = true := by decide +kernel
    rw [decide_eq_false h, Bool.false_and]
    exact (decide_eq_false fun m => h (of_decide_eq_true (List.all_eq_true.mp k c m))).symm
theorem all_and2 {p q : Nat → Bool} : ∀ l : List Nat, (l.all p && l.all q) = l.all fun c => p c && q c
  | [] => rfl
  | a :: r => by
    rw [List.all_cons, List.all_cons, List.all_cons, ← all_and2 r]
    cases p a <;> cases q a <;> cases r.all p <;> cases r.all q <;> rfl
theorem ascii_dig (w : Str) : (Txt.isascii w && Txt.isdigit w) = (!decide (w = "") && allIn w sDIG) := by
  have e1 : Txt.isascii w = (codes w).all fun c => decide (c < 128) := by
    unfold Txt.isascii
    rw [← Array.all_toList]
  have e2 : Txt.isdigit w = (!decide (w = "") && (codes w).all Unicode.isDigit) := by
    unfold Txt.isdigit
    rw [← Array.all_toList]
    congr 1
    by_cases h : w = ""
    · rw [decide_eq_true h, h]
      rfl
    · obtain ⟨c, r, e⟩ := codes_cons h
      rw [decide_eq_false h, len_codes, e]
      rfl
  have e3 : allIn w sDIG = ((codes w).all (fun c => decide (c < 128)) && (codes w).all Unicode.isDigit) := by
    rw [all_and2]
    unfold allIn
    congr 1
    funext c
    exact (dig_sign c).symm
  rw [e1, e2, e3]
  cases (codes w).all (fun c => decide (c < 128)) <;> cases decide (w = "") <;> simp
/-! ### the program's lines -/
theorem cut1 (w : Str) (i : Nat) : codes (cutS w (some (i : Int)) (some ((i + 1 : Nat) : Int))) = ((codes w).drop i).take 1 := by
  show ((w.cps.toList.drop (HT.sIx w.length 0 (some (i : Int)))).take (HT.sIx w.length w.length (some ((i + 1 : Nat) : Int)) - HT.sIx w.length 0 (some (i : Int)))) = _
  rw [HT.sIx_nat, HT.sIx_nat, len_codes]
  by_cases h : i < (codes w).length
  · rw [Nat.min_eq_left (by omega), Nat.min_eq_left (by omega), show i + 1 - i = 1 by omega]
  · have e1 : (codes w).drop i = [] := List.drop_of_length_le (by omega)
    have e2 : w.cps.toList.drop (codes w).length = [] := List.drop_of_length_le (Nat.le_refl _)
    rw [Nat.min_eq_right (by omega), Nat.min_eq_right (by omega), e1, e2]
    simp
theorem cutD (w : Str) (i : Nat) : codes (cutS w (some (i : Int)) none) = (codes w).drop i := by
  show ((w.cps.toList.drop (HT.sIx w.length 0 (some (i : Int)))).take (w.length - HT.sIx w.length 0 (some (i : Int)))) = _
  rw [HT.sIx_nat, len_codes]
  by_cases h : i < (codes w).length
  · rw [Nat.min_eq_left (by omega)]
    exact List.take_of_length_le (by rw [List.length_drop]; exact Nat.le_refl _)
  · have e1 : (codes w).drop i = [] := List.drop_of_length_le (by omega)
    have e2 : w.cps.toList.drop (codes w).length = [] := List.drop_of_length_le (Nat.le_refl _)
    rw [Nat.min_eq_right (by omega), e1, e2]
    simp
theorem take1_iff {l : List Nat} {c : Nat} : l.take 1 = [c] ↔ ∃ r, l = c :: r := by
  cases l with
  | nil => simp
  | cons d r => simp
theorem str_iff {a b : Str} : a = b ↔ codes a = codes b := ⟨fun h => by rw [h], str_ext⟩
theorem cnt_minus {x : Str} {r : List Nat} (e : codes x = 45 :: r) : isCnt x = false := by
  have h : allIn x sDIG = false := by
    unfold allIn
    rw [e]
    exact List.all_eq_false.mpr ⟨45, List.mem_cons_self .., by decide +kernel⟩
  unfold isCnt
  rw [h]
  simp
/-- is_met as the program says it -/
def isMetP (w : Str) : Bool := if decide (cutS w none (some 1) = "#") = true then (if decide (cutS w (some 1) (some 2) = "-") = true then (!decide (cutS w (some 2) none = "0") && isCnt (cutS w (some 2) none)) else isCnt (cutS w (some 1) none)) else isName w sBIG
theorem metP_eq (w : Str) : isMetP w = isMet w := by
  unfold isMetP isMet
  by_cases h0 : decide (cutS w none (some 1) = "#") = true
  · rw [if_pos h0, if_pos h0]
    have c12 : codes (cutS w (some 1) (some 2)) = ((codes w).drop 1).take 1 := cut1 w 1
    have c23 : codes (cutS w (some 2) (some 3)) = ((codes w).drop 2).take 1 := cut1 w 2
    have d1 : codes (cutS w (some 1) none) = (codes w).drop 1 := cutD w 1
    have d2 : codes (cutS w (some 2) none) = (codes w).drop 2 := cutD w 2
    by_cases h1 : cutS w (some 1) (some 2) = "-"
    · rw [if_pos (decide_eq_true h1), decide_eq_true h1]
      have q := congrArg codes h1
      rw [c12] at q
      obtain ⟨r, er⟩ := take1_iff.mp (show ((codes w).drop 1).take 1 = [45] from q)
      rw [cnt_minus (d1.trans er), Bool.false_or, Bool.true_and]
      cases hc : isCnt (cutS w (some 2) none) with
      | false => rw [Bool.and_false, Bool.and_false]
      | true =>
        rw [Bool.and_true, Bool.and_true]
        congr 1
        have key : (cutS w (some 2) none = "0") ↔ (cutS w (some 2) (some 3) = "0") := by
          constructor
          · intro z
            have z2 := congrArg codes z
            rw [d2] at z2
            exact str_ext (by rw [c23, z2]; rfl)
          · intro z
            have z2 := congrArg codes z
            rw [c23] at z2
            obtain ⟨r2, e2⟩ := take1_iff.mp (show ((codes w).drop 2).take 1 = [48] from z2)
            unfold isCnt at hc
            rw [hd_of (d2.trans e2)] at hc
            simp only [Bool.and_eq_true, Bool.or_eq_true, decide_eq_true_eq, Bool.not_eq_true', decide_eq_false_iff_not] at hc
            rcases hc.2.2 with h | h
            · exact h
            · exact absurd trivial h
        by_cases z : cutS w (some 2) none = "0"
        · rw [decide_eq_true z, decide_eq_true (key.mp z)]
        · rw [decide_eq_false z, decide_eq_false fun y => z (key.mpr y)]
    · rw [if_neg (by rw [decide_eq_false h1]; exact Bool.false_ne_true), decide_eq_false h1]
      simp
  · rw [if_neg h0, if_neg h0]
section
variable {P : Program} {w : World} {K : PySem.W.Frag} {mg : Str → Option Value} {base : Heap}
abbrev sisnatural : Stmt := top 12
abbrev Nisnatural : List Str := ["word"]
abbrev Pisnatural : List Str := ["word"]
theorem scisnatural : FnScope Nisnatural Pisnatural (defScope sisnatural) := ⟨rfl, rfl, rfl, by decide +kernel, rfl, by decide +kernel, by decide +kernel⟩

theorem ok_nat {f : Addr} {fd : FuncData} (F : Fun K "is_natural" "is_natural" sisnatural f fd) : FnOk P w K mg base CX0 1 f fd Pisnatural (spW isCnt) := by
  refine F.ok scisnatural (fun vs H Q E h => ?_) (fun cdv A outer s H vs Q E hr h => ?_)
  · obtain ⟨t, rfl, _⟩ := h
    rfl
  · obtain ⟨t, rfl, hl, k⟩ := h
    refine ⟨_, (pss_one (ps_ret (pe_and (pe_m0 PySem.F.slot_str_isascii PySem.F.type_str_isascii mt_isascii (pv 0)) (pe_and (pe_m0 PySem.F.slot_str_isdigit PySem.F.type_str_isdigit mt_isdigit (pv 0)) (pe_one (pe_or (pe_cmpR op_ne (pe_ix ix_str (pv 0) pe_int (fun _ _ => rfl)) pe_str (nomark _)) (pe_one (pe_cmpR op_eq (pv 0) pe_str (nomark _))))))))), ?_⟩
    have ad := ascii_dig t
    refine ⟨.str t, (by kernel_rfl), ⟨_, rfl⟩, t, rfl, rfl, trivial, ?_⟩
    cases ha : Txt.isascii t with
    | false =>
      rw [ha, Bool.false_and] at ad
      have e : isCnt t = false := by
        unfold isCnt
        rw [← Bool.and_assoc, ← ad, Bool.false_and]
      rw [e] at k
      exact ⟨_, rfl, ite_no rfl k⟩
    | true =>
      rw [ha, Bool.true_and] at ad
      refine ⟨_, rfl, ite_yes rfl ?_⟩
      refine ⟨.str t, (by kernel_rfl), ⟨_, rfl⟩, t, rfl, rfl, trivial, ?_⟩
      have e : isCnt t = (Txt.isdigit t && (decide (t = "0") || !decide (hd t = 48))) := by
        unfold isCnt
        rw [← Bool.and_assoc, ← ad]
      rw [e] at k
      cases hd2 : Txt.isdigit t with
      | false =>
        rw [hd2, Bool.false_and] at k
        exact ⟨_, rfl, ite_no rfl k⟩
      | true =>
        rw [hd2, Bool.true_and] at k
        rw [hd2] at ad
        have h0 : t ≠ "" := fun z => by
          rw [decide_eq_true z] at ad
          cases ad
        obtain ⟨c, r, ec⟩ := codes_cons h0
        rw [hd_of ec] at k
        refine ⟨_, rfl, ite_yes rfl ?_⟩
        refine ⟨.str t, (by kernel_rfl), t, 0, c, rfl, rfl, sz_of (by omega), atI0 ec, rfl, ?_⟩
        rw [sign_is c 48 (by decide +kernel)]
        by_cases h1 : c = 48
        · refine ⟨_, rfl, ite_no (by rw [decide_eq_true h1]; rfl) ?_⟩
          refine ⟨.str t, (by kernel_rfl), rfl, ?_⟩
          rw [dec_str]
          rw [decide_eq_true h1, Bool.not_true, Bool.or_false] at k
          exact k
        · refine ⟨_, rfl, ite_yes (by rw [decide_eq_false h1]; rfl) ?_⟩
          rw [decide_eq_false h1, Bool.not_false, Bool.or_true] at k
          exact k

abbrev siswritten : Stmt := top 13
abbrev Niswritten : List Str := ["word"]
abbrev Piswritten : List Str := ["word"]
theorem sciswritten : FnScope Niswritten Piswritten (defScope siswritten) := ⟨rfl, rfl, rfl, by decide +kernel, rfl, by decide +kernel, by decide +kernel⟩

theorem ok_wri {f fN : Addr} {fd fdN : FuncData} (F : Fun K "is_written" "is_written" siswritten f fd) (F_is_natural : Fun K "is_natural" "is_natural" sisnatural fN fdN) (b_is_natural : Binds K fdN Pisnatural []) (g_is_natural : mg "is_natural" = some (.ref fN)) : FnOk P w K mg base CX0 2 f fd Piswritten (spW isWr) := by
  have G_is_natural : FnOk P w K mg base CX0 1 fN fdN Pisnatural (spW isCnt) := ok_nat F_is_natural
  refine F.ok sciswritten (fun vs H Q E h => ?_) (fun cdv A outer s H vs Q E hr h => ?_)
  · obtain ⟨t, rfl, _⟩ := h
    rfl
  · obtain ⟨t, rfl, hl, k⟩ := h
    have hr1 := hr
    refine ⟨_, (pss_cons (ps_if (pt_cmpR op_eq (pe_slice sl_str (pv 0) po_none (po_some pe_int)) pe_str (nomark _))
      (pss_one (ps_ret (pe_and (pe_call G_is_natural hr1 rfl g_is_natural F_is_natural.kp b_is_natural .nil pass0 (pa_cons (pe_slice sl_str (pv 0) (po_some pe_int) po_none) pa_nil)) (pe_one (pe_cmpR op_ne (pv 0) pe_str (nomark _))))))
      pss_nil)
      (pss_one (ps_ret (pe_call G_is_natural hr1 rfl g_is_natural F_is_natural.kp b_is_natural .nil pass0 (pa_cons (pv 0) pa_nil))))), ?_⟩
    refine ⟨.str t, (by kernel_rfl), 1, rfl, t, rfl, sz_of (by omega), ?_⟩
    refine ⟨rfl, _, rfl, ?_⟩
    rw [dec_str]
    have dl : (cutS t (some 1) none).length ≤ 900000 := by
      rw [len_codes, cutT_codes, List.length_drop]
      rw [len_codes] at hl
      omega
    unfold isWr at k
    by_cases hq : cutS t none (some 1) = "-"
    · refine ite_yes (decide_eq_true hq) ?_
      rw [decide_eq_true hq, if_pos rfl] at k
      refine ⟨.str t, (by kernel_rfl), 1, rfl, t, rfl, sz_of (by omega), ?_⟩
      refine ⟨_, rfl, dl, ?_⟩
      cases hc : isCnt (cutS t (some 1) none) with
      | false =>
        rw [hc, Bool.false_and] at k
        exact ⟨_, rfl, ite_no rfl k⟩
      | true =>
        rw [hc, Bool.true_and] at k
        refine ⟨_, rfl, ite_yes rfl ?_⟩
        refine ⟨.str t, (by kernel_rfl), rfl, ?_⟩
        rw [dec_str]
        exact k
    · refine ite_no (decide_eq_false hq) ?_
      rw [decide_eq_false hq, if_neg Bool.false_ne_true] at k
      exact ⟨.str t, (by kernel_rfl), t, rfl, hl, k⟩
end
end Nm
namespace Nm
open PySem PySem.Spec PyProof.Rows L2
/-! ### xs[a::b] -/
def stepL {α : Type} (xs : List α) (lo st : Int) : List α := (sliceRange (sliceBounds (some lo) none (some st) xs.length).1 (sliceBounds (some lo) none (some st) xs.length).2.1 (sliceBounds (some lo) none (some st) xs.length).2.2).filterMap (xs[·]?)
theorem vals_pick {xs : List V} {us : List Value} (r : Vals xs us) : ∀ l : List Nat, Vals (l.filterMap (xs[·]?)) (l.filterMap (us.toArray[·]?))
  | [] => .nil
  | i :: l => by
    have ih := vals_pick r l
    cases hx : xs[i]? with
    | none =>
      have hu := r.none_of hx
      rw [List.filterMap_cons_none hx, List.filterMap_cons_none (by simpa using hu)]
      exact ih
    | some x =>
      obtain ⟨u, hu, ru⟩ := r.get hx
      rw [List.filterMap_cons_some hx, List.filterMap_cons_some (by simpa using hu)]
      exact .cons ru ih
theorem step_len {α : Type} (xs : List α) (a : Nat) : (stepL xs (a : Int) 2).length ≤ xs.length := by
  unfold stepL
  refine Nat.le_trans (List.length_filterMap_le _ _) ?_
  unfold sliceRange
  rw [List.length_map, List.length_range]
  simp only [sliceBounds]
  have h : ¬ ((a : Int) < 0) := by omega
  simp only [Option.getD_some, h, if_false, show ((2 : Int) > 0) from by decide, if_true]
  split <;> omega
theorem step_mem {α : Type} (xs : List α) (a : Nat) (q : α) : q ∈ stepL xs (a : Int) 2 ↔ ∃ k, xs[a + 2 * k]? = some q := by
  unfold stepL
  rw [List.mem_filterMap]
  unfold sliceRange
  simp only [sliceBounds]
  have h : ¬ ((a : Int) < 0) := by omega
  simp only [Option.getD_some, h, if_false, show ((2 : Int) > 0) from by decide, if_true, List.mem_map, List.mem_range]
  constructor
  · rintro ⟨i, ⟨k, hk, rfl⟩, e⟩
    have lt := (List.getElem?_eq_some_iff.mp e).1
    refine ⟨k, ?_⟩
    have e2 : (max 0 (min (a : Int) (xs.length : Int)) + 2 * (k : Int)).toNat = a + 2 * k := by
      by_cases g : a ≤ xs.length
      · omega
      · exfalso
        rw [if_neg (by omega)] at hk
        omega
    rw [← e2]
    exact e
  · rintro ⟨k, e⟩
    have lt := (List.getElem?_eq_some_iff.mp e).1
    refine ⟨a + 2 * k, ⟨k, ?_, by omega⟩, e⟩
    rw [if_pos (by omega)]
    omega
theorem step_map {α β : Type} (f : α → β) (xs : List α) (lo st : Int) : stepL (xs.map f) lo st = (stepL xs lo st).map f := by
  unfold stepL
  rw [List.length_map, List.map_filterMap]
  congr 1
  funext i
  exact List.getElem?_map
def stepL2 (its : List Value) (n : Nat) (lo st : Int) : List Value := (sliceRange (sliceBounds (some lo) none (some st) n).1 (sliceBounds (some lo) none (some st) n).2.1 (sliceBounds (some lo) none (some st) n).2.2).filterMap (its.toArray[·]?)
def tStepL (K : PySem.W.Frag) (lo st : Int) (te : TE) : TE := fun σ H Q => te σ H fun x H1 => ∃ a xs, x = .ref a ∧ SqL K H1 a xs ∧ ∀ p, H1 p = none → Q (.ref p) (upd H1 p (.lst (stepL xs lo st)))
theorem pe_stepL {X : Cx} {e : Expr} {te : TE} {lo st : Int} {k k2 : Nat} {p1 p2 p3 pos : Pos} (he : PE X e te) (h0 : st ≠ 0 := by decide) : PE X (.Subscript e (.Slice (some (.Constant (.int lo) k p1)) none (some (.Constant (.int st) k2 p2)) p3) pos) (tStepL X.K lo st te) := by
  refine ⟨fun pins s σ H Q I h => ?_⟩
  refine Subscript_ (thn (he.run pins s σ H _ I h) fun v s1 ⟨x, H1, I1, r1, q1⟩ => ?_)
  obtain ⟨a, xs, ex, hx, q⟩ := q1
  subst ex
  cases r1
  have hlo : PO X (some (.Constant (.int lo) k p1)) (tPart (tC (.int lo))) := po_some pe_int
  have hst : PO X (some (.Constant (.int st) k2 p2)) (tPart (tC (.int st))) := po_some pe_int
  refine wpAny_Slice (thn (hlo.run pins s1 σ H1 (fun o H2 => o = some lo ∧ H2 = H1) I1 ⟨lo, rfl, rfl, rfl⟩) fun vl s2 ⟨l, H2, I2, pl, el, e2⟩ => ?_)
  subst el e2
  refine thn (po_none.run pins s2 σ H2 (fun o H3 => o = none ∧ H3 = H2) I2 ⟨rfl, rfl⟩) fun vu s3 ⟨u, H3, I3, pu, eu, e3⟩ => ?_
  subst eu e3
  refine thn (hst.run pins s3 σ H3 (fun o H4 => o = some st ∧ H4 = H3) I3 ⟨st, rfl, rfl, rfl⟩) fun vs s4 ⟨o, H4, I4, ps, eo, e4⟩ => ?_
  subst eo e4
  have I5 : Inv X pins σ H4 { s4 with heap := s4.heap.push { cls := .type "slice", data := .fields #[vl, vu, vs] } } := I4.kept (t' := s4.toks) fun b ob q => Heap.get?_push_of_some _ q
  obtain ⟨its, r, ht, hz⟩ := I5.list hx
  have hlen := r.length
  show wpAny (model X.prog X.w) X.A (subscriptTail e (.Slice (some (.Constant (.int lo) k p1)) none (some (.Constant (.int st) k2 p2)) p3) (.ref a) (.ref s4.heap.objs.size)) (EP X pins σ Q) X.xe { s4 with heap := s4.heap.push { cls := .type "slice", data := .fields #[vl, vu, vs] } }
  refine tail_any (ops := [.ref a, .ref s4.heap.objs.size]) ht.isList.typeIs (PySem.slot_list_getitem.lookup) ?_ (by with_unfolding_all rfl)
  have pick : slicePick its.toArray (some lo) none (some st) = (stepL2 its xs.length lo st).toArray := by
    unfold slicePick stepL2
    rw [List.size_toArray, hlen]
  refine wpAny_getItem_list_slice ht.isList (Heap.IsSliceOf.new _ vl vu vs) pl pu ps (fun z => h0 (Option.some.inj z)) ?_ (by rw [List.size_toArray]; omega)
  rw [pick]
  have few : (stepL xs lo st).length ≤ xs.length := by
    have q1 := slicePick_size_le its.toArray (some lo) none (some st)
    rw [pick, List.size_toArray, List.size_toArray] at q1
    have q2 := (vals_pick r (sliceRange (sliceBounds (some lo) none (some st) xs.length).1 (sliceBounds (some lo) none (some st) xs.length).2.1 (sliceBounds (some lo) none (some st) xs.length).2.2)).length
    unfold stepL
    unfold stepL2 at q1
    omega
  refine ⟨.ref _, _, I5.laid (t' := s4.toks) (o := .lst (stepL xs lo st)) (fun b ob q => Heap.get?_push_of_some _ q) (Nat.le_refl _) ?_, rfl, q _ (I5.hok.fresh (Nat.le_refl _))⟩
  exact ⟨Nat.le_trans few hz, _, 0, vals_pick r _, Heap.get?_push_size _ rfl⟩
end Nm
namespace Nm
open PySem PySem.Spec PyProof.Rows L2
/-! ### words of a line, by the whole line's points -/
open TL (spl spl_nil spl_hit spl_miss pre split_spl kind_ok)
theorem cutTk (w : Str) (i : Nat) : codes (cutS w none (some (i : Int))) = (codes w).take i := by
  show ((w.cps.toList.drop (HT.sIx w.length 0 none)).take (HT.sIx w.length w.length (some (i : Int)) - HT.sIx w.length 0 none)) = _
  rw [show HT.sIx w.length 0 none = 0 from rfl, HT.sIx_nat, List.drop_zero, Nat.sub_zero, len_codes]
  by_cases h : i ≤ (codes w).length
  · rw [Nat.min_eq_left h]
  · rw [Nat.min_eq_right (by omega), List.take_of_length_le (show w.cps.toList.length ≤ (codes w).length from Nat.le_refl _), List.take_of_length_le (by omega)]
def isMetN (w : Str) : Bool := if decide (cutS w none (some 1) = "#") = true then isWr (cutS w (some 1) none) else isName w sBIG
theorem metN_eq (w : Str) : isMetN w = isMet w := by
  rw [← metP_eq]
  unfold isMetN isMetP isWr
  have d1 : codes (cutS w (some 1) none) = (codes w).drop 1 := cutD w 1
  have d2 : codes (cutS w (some 2) none) = (codes w).drop 2 := cutD w 2
  have c12 : codes (cutS w (some 1) (some 2)) = ((codes w).drop 1).take 1 := cut1 w 1
  have e1 : cutS (cutS w (some 1) none) none (some 1) = cutS w (some 1) (some 2) := str_ext (by rw [show codes (cutS (cutS w (some 1) none) none (some 1)) = (codes (cutS w (some 1) none)).take 1 from cutTk _ 1, d1, c12])
  have e2 : cutS (cutS w (some 1) none) (some 1) none = cutS w (some 2) none := str_ext (by rw [show codes (cutS (cutS w (some 1) none) (some 1) none) = (codes (cutS w (some 1) none)).drop 1 from cutD _ 1, d1, d2, List.drop_drop])
  rw [e1, e2]
  by_cases h1 : cutS w (some 1) (some 2) = "-"
  · have q := congrArg codes h1
    rw [c12] at q
    obtain ⟨r, er⟩ := take1_iff.mp (show ((codes w).drop 1).take 1 = [45] from q)
    have e3 : (cutS w (some 1) none = "-0") ↔ (cutS w (some 2) none = "0") := by
      have dr : (codes w).drop 2 = r := by
        rw [show (codes w).drop 2 = ((codes w).drop 1).drop 1 from by rw [List.drop_drop], er]
        rfl
      rw [str_iff, str_iff, d1, er, d2, dr]
      constructor
      · intro z
        exact (List.cons.inj (show 45 :: r = [45, 48] from z)).2
      · intro z
        show 45 :: r = [45, 48]
        rw [show r = [48] from z]
    rw [if_pos (decide_eq_true h1), if_pos (decide_eq_true h1)]
    by_cases h2 : cutS w (some 2) none = "0"
    · rw [decide_eq_true h2, decide_eq_true (e3.mpr h2), Bool.not_true, Bool.and_false, Bool.false_and]
    · rw [decide_eq_false h2, decide_eq_false fun z => h2 (e3.mp z), Bool.not_false, Bool.and_true, Bool.true_and]
  · have n1 : ¬ (decide (cutS w (some 1) (some 2) = "-") = true) := by rw [decide_eq_false h1]; exact Bool.false_ne_true
    rw [if_neg n1, if_neg n1]
def arePs (ps : List Str) : Bool := !decide (ps.length % 2 = 1) && (decide (cutS (ps.headD "") none (some 2) = "m:") && okParts 0 (cutS (ps.headD "") (some 2) none :: ps.tail))
theorem parts_eq (h d : Str) (tl : List Str) : okParts 0 (d :: tl) = ((d :: stepL (h :: tl) 2 2).all isCnt && (stepL (h :: tl) 1 2).all isMet) := by
  have m2 : ∀ q, q ∈ stepL (h :: tl) 2 2 ↔ ∃ k, (h :: tl)[2 + 2 * k]? = some q := step_mem (h :: tl) 2
  have m1 : ∀ q, q ∈ stepL (h :: tl) 1 2 ↔ ∃ k, (h :: tl)[1 + 2 * k]? = some q := step_mem (h :: tl) 1
  rw [Bool.eq_iff_iff, okParts_snoc, Bool.and_eq_true_iff, List.all_eq_true, List.all_eq_true]
  constructor
  · intro ok
    constructor
    · intro q hq
      rcases List.mem_cons.mp hq with rfl | hq
      · have := ok 0 q rfl
        unfold isPart at this
        simpa using this
      · obtain ⟨k, e⟩ := (m2 q).mp hq
        have := ok (2 + 2 * k) q (by
          rw [show 2 + 2 * k = (1 + 2 * k) + 1 by omega, List.getElem?_cons_succ] at e ⊢
          exact e)
        unfold isPart at this
        rwa [if_pos (by omega)] at this
    · intro q hq
      obtain ⟨k, e⟩ := (m1 q).mp hq
      have := ok (1 + 2 * k) q (by
        rw [show 1 + 2 * k = (2 * k) + 1 by omega, List.getElem?_cons_succ] at e ⊢
        exact e)
      unfold isPart at this
      rwa [if_neg (by omega)] at this
  · rintro ⟨h1, h2⟩ i q e
    unfold isPart
    by_cases hi : i % 2 = 0
    · rw [if_pos (by omega)]
      by_cases h0 : i = 0
      · subst h0
        cases e
        exact h1 _ (List.mem_cons_self ..)
      · refine h1 q (List.mem_cons_of_mem _ ((m2 q).mpr ⟨i / 2 - 1, ?_⟩))
        rw [show 2 + 2 * (i / 2 - 1) = (i - 1) + 1 by omega, List.getElem?_cons_succ]
        rw [show i = (i - 1) + 1 by omega, List.getElem?_cons_succ] at e
        exact e
    · rw [if_neg (by omega)]
      refine h2 q ((m1 q).mpr ⟨i / 2, ?_⟩)
      rw [show 1 + 2 * (i / 2) = (i - 1) + 1 by omega, List.getElem?_cons_succ]
      rw [show i = (i - 1) + 1 by omega, List.getElem?_cons_succ] at e
      exact e
theorem spl_head : ∀ l : List Nat, ∃ (h : List Nat) (t : List (List Nat)) (rest : List Nat), l = h ++ rest ∧ ∀ acc, spl [46] 0 acc l = (acc ++ h) :: t
  | [] => ⟨[], [], [], rfl, fun acc => by rw [spl_nil, List.append_nil]⟩
  | c :: r => by
    cases hp : pre [46] (c :: r) with
    | true => exact ⟨[], _, c :: r, rfl, fun acc => by rw [spl_hit hp, List.append_nil]⟩
    | false =>
      obtain ⟨h, t, rest, e, k⟩ := spl_head r
      exact ⟨c :: h, t, rest, by rw [e]; rfl, fun acc => by rw [spl_miss hp, k, List.append_assoc]; rfl⟩
theorem split_dot (x : Str) : (Txt.split x ".").map codes = spl [46] 0 [] (codes x) := split_spl x "." (by decide +kernel) (kind_ok (by decide +kernel))
theorem codes_inj {a b : List Str} (h : a.map codes = b.map codes) : a = b := by
  induction a generalizing b with
  | nil =>
    cases b with
    | nil => rfl
    | cons y b => cases h
  | cons x a ih =>
    cases b with
    | nil => cases h
    | cons y b =>
      have q := List.cons.inj (show codes x :: a.map codes = codes y :: b.map codes from h)
      rw [str_ext q.1, ih q.2]
theorem lin_eq (w : Str) : arePs (Txt.split w ".") = isLin w := by
  have dw : codes (cutS w (some 2) none) = (codes w).drop 2 := cutD w 2
  have tw : codes (cutS w none (some 2)) = (codes w).take 2 := cutTk w 2
  have sw := split_dot w
  have sd := split_dot (cutS w (some 2) none)
  obtain ⟨h, t, rest, e, k⟩ := spl_head (codes w)
  rw [k, List.nil_append] at sw
  cases ew : Txt.split w "." with
  | nil =>
    rw [ew] at sw
    cases sw
  | cons A T =>
    rw [ew] at sw
    have sw2 := List.cons.inj (show codes A :: T.map codes = h :: t from sw)
    have dA : codes (cutS A (some 2) none) = (codes A).drop 2 := cutD A 2
    have tA : codes (cutS A none (some 2)) = (codes A).take 2 := cutTk A 2
    unfold arePs isLin
    rw [List.headD_cons, List.tail_cons, List.length_cons]
    by_cases hm : cutS w none (some 2) = "m:"
    · have q := congrArg codes hm
      rw [tw] at q
      replace q : (codes w).take 2 = [109, 58] := q
      have cw : codes w = 109 :: 58 :: (codes w).drop 2 := by
        have := List.take_append_drop 2 (codes w)
        rw [q] at this
        exact this.symm
      obtain ⟨h2, t2, rest2, e2, k2⟩ := spl_head ((codes w).drop 2)
      rw [dw, k2, List.nil_append] at sd
      have kk := k []
      rw [cw, spl_miss (by rfl), spl_miss (by rfl), k2] at kk
      have kk2 := List.cons.inj kk
      cases ed : Txt.split (cutS w (some 2) none) "." with
      | nil =>
        rw [ed] at sd
        cases sd
      | cons B S =>
        rw [ed] at sd
        have sd2 := List.cons.inj (show codes B :: S.map codes = h2 :: t2 from sd)
        have hA : codes A = 109 :: 58 :: h2 := by
          rw [sw2.1]
          have := kk2.1
          rw [List.nil_append] at this
          exact this.symm
        have eT : T = S := codes_inj (by rw [sw2.2, sd2.2]; exact kk2.2.symm)
        have eB : cutS A (some 2) none = B := str_ext (by rw [dA, hA, sd2.1]; rfl)
        have em : cutS A none (some 2) = "m:" := str_ext (by rw [tA, hA]; rfl)
        rw [eT, eB, decide_eq_true em, decide_eq_true hm, List.length_cons, Bool.true_and, Bool.true_and]
    · have na : ¬ cutS A none (some 2) = "m:" := fun z => hm (by
        have q := congrArg codes z
        rw [tA, sw2.1] at q
        replace q : h.take 2 = [109, 58] := q
        refine str_ext ?_
        rw [tw, e]
        have hl : 2 ≤ h.length := by
          have := congrArg List.length q
          rw [List.length_take] at this
          simp at this
          omega
        rw [List.take_append_of_le_length hl, q]
        rfl)
      rw [decide_eq_false na, decide_eq_false hm, Bool.false_and, Bool.false_and, Bool.and_false]
theorem lin_len {w : Str} (h : isLin w = true) : 2 ≤ (Txt.split w ".").length := by
  rw [← lin_eq] at h
  unfold arePs at h
  simp only [Bool.and_eq_true, Bool.not_eq_true', decide_eq_false_iff_not, decide_eq_true_eq] at h
  obtain ⟨h1, h2, _⟩ := h
  cases e : Txt.split w "." with
  | nil =>
    rw [e] at h2
    exact absurd h2 (by decide +kernel)
  | cons a r =>
    rw [e] at h1
    simp only [List.length_cons] at h1 ⊢
    omega
theorem cutL_two (ps : List Str) (h : 2 ≤ ps.length) : cutL ps none (some (-2)) = cutL ps none (some ((ps.length : Int) - 2)) := by
  unfold cutL
  congr 1
  have a : HT.sIx ps.length ps.length (some (-2)) = ps.length - 2 := by
    show (if (-2 : Int) < 0 then ((-2 : Int) + (ps.length : Int)).toNat else min (-2 : Int).toNat ps.length) = _
    rw [if_pos (by decide)]
    omega
  have b : HT.sIx ps.length ps.length (some ((ps.length : Int) - 2)) = ps.length - 2 := by
    rw [show ((ps.length : Int) - 2) = ((ps.length - 2 : Nat) : Int) by omega, HT.sIx_nat]
    omega
  rw [a, b]
end Nm
namespace Nm
open PySem PySem.Spec PyProof.Rows L2
def spParts : Sp := fun vs H Q _ => ∃ (p : Addr) (h : Str) (tl : List Str), vs = [.ref p] ∧ H p = some (.lst ((h :: tl).map V.str)) ∧ tl.length ≤ 900100 ∧ (∀ q ∈ h :: tl, q.length ≤ 900000) ∧ ∀ H', Same H H' → Q (.bl (arePs (h :: tl))) H'
theorem all_bl (f : Str → Bool) (xs : List Str) : (xs.map f).all id = xs.all f := by
  rw [List.all_map]
  rfl
section
variable {P : Program} {w : World} {K : PySem.W.Frag} {mg : Str → Option Value} {base : Heap} {CN CT : Addr}

abbrev sisword : Stmt := top 15
abbrev Nisword : List Str := ["part"]
abbrev Pisword : List Str := ["part"]
theorem scisword : FnScope Nisword Pisword (defScope sisword) := ⟨rfl, rfl, rfl, by decide +kernel, rfl, by decide +kernel, by decide +kernel⟩

theorem ok_word {f fW fN fB fM fA : Addr} {fd fdW fdN fdB fdM fdA : FuncData} (F : Fun K "is_word" "is_word" sisword f fd) (WT : WTxt mg)
    (F_is_written : Fun K "is_written" "is_written" siswritten fW fdW) (b_is_written : Binds K fdW Piswritten []) (g_is_written : mg "is_written" = some (.ref fW)) (F_is_natural : Fun K "is_natural" "is_natural" sisnatural fN fdN) (b_is_natural : Binds K fdN Pisnatural []) (g_is_natural : mg "is_natural" = some (.ref fN))
    (F_is_big : Fun K "is_big" "is_big" sisbig fB fdB) (b_is_big : Binds K fdB Pisbig []) (g_is_big : mg "is_big" = some (.ref fB)) (F_is_name : Fun K "is_name" "is_name" sisname fM fdM) (b_is_name : Binds K fdM Pisname []) (g_is_name : mg "is_name" = some (.ref fM)) (F_all_among : Fun K "all_among" "all_among" sallamong fA fdA) (b_all_among : Binds K fdA Pallamong []) (g_all_among : mg "all_among" = some (.ref fA)) : FnOk P w K mg base CX0 4 f fd Pisword (spW isMet) := by
  have G_is_written : FnOk P w K mg base CX0 3 fW fdW Piswritten (spW isWr) := (ok_wri F_is_written F_is_natural b_is_natural g_is_natural).mono (by decide)
  have G_is_big : FnOk P w K mg base CX0 3 fB fdB Pisbig (spW isBig) := ok_big F_is_big WT F_is_name b_is_name g_is_name F_all_among b_all_among g_all_among
  refine F.ok scisword (fun vs H Q E h => ?_) (fun cdv A outer s H vs Q E hr h => ?_)
  · obtain ⟨t, rfl, _⟩ := h
    rfl
  · obtain ⟨t, rfl, hl, k⟩ := h
    have hr1 := hr
    rw [← metN_eq] at k
    unfold isMetN at k
    refine ⟨_, (pss_one (ps_ret (pe_ifExp (pt_cmpR op_eq (pe_slice sl_str (pv 0) po_none (po_some pe_int)) pe_str (nomark _)) (pe_call G_is_written hr1 rfl g_is_written F_is_written.kp b_is_written .nil pass0 (pa_cons (pe_slice sl_str (pv 0) (po_some pe_int) po_none) pa_nil)) (pe_call G_is_big hr1 rfl g_is_big F_is_big.kp b_is_big .nil pass0 (pa_cons (pv 0) pa_nil))))), ?_⟩
    refine ⟨.str t, (by kernel_rfl), 1, rfl, t, rfl, sz_of (by omega), ?_⟩
    refine ⟨rfl, _, rfl, ?_⟩
    rw [dec_str]
    by_cases h0 : cutS t none (some 1) = "#"
    · refine ite_yes (decide_eq_true h0) ?_
      rw [decide_eq_true h0, if_pos rfl] at k
      exact ⟨.str t, (by kernel_rfl), 1, rfl, t, rfl, sz_of (by omega), _, rfl, Nat.le_trans (cut_len t _ _) hl, k⟩
    · refine ite_no (decide_eq_false h0) ?_
      rw [decide_eq_false h0, if_neg Bool.false_ne_true] at k
      exact ⟨.str t, (by kernel_rfl), t, rfl, hl, k⟩

abbrev sareparts : Stmt := top 16
abbrev Nareparts : List Str := ["parts", "numbers", "part"]
abbrev Pareparts : List Str := ["parts"]
theorem scareparts : FnScope Nareparts Pareparts (defScope sareparts) := ⟨rfl, rfl, rfl, by decide +kernel, rfl, by decide +kernel, by decide +kernel⟩

theorem ok_parts {f fN fV : Addr} {fd fdN fdV : FuncData} (F : Fun K "are_parts" "are_parts" sareparts f fd) (T : LTxt mg) (m_all : mg "all" = none)
    (G_is_natural0 : FnOk P w K mg base CX0 4 fN fdN Pisnatural (spW isCnt)) (kp_is_natural : PySem.W.keepIn K (.ref fN) = true) (b_is_natural : Binds K fdN Pisnatural []) (g_is_natural : mg "is_natural" = some (.ref fN))
    (G_is_word0 : FnOk P w K mg base CX0 4 fV fdV Pisword (spW isMet)) (kp_is_word : PySem.W.keepIn K (.ref fV) = true) (b_is_word : Binds K fdV Pisword []) (g_is_word : mg "is_word" = some (.ref fV)) : FnOk P w K mg base CX0 5 f fd Pareparts spParts := by
  have G_is_natural := G_is_natural0
  have G_is_word := G_is_word0
  refine F.ok scareparts (fun vs H Q E h => ?_) (fun cdv A outer s H vs Q E hr h => ?_)
  · obtain ⟨p, h, tl, rfl, _⟩ := h
    rfl
  · obtain ⟨p, h, tl, rfl, hp, few, each, k⟩ := h
    have hr1 := hr
    refine ⟨_, (pss_cons (ps_if (PW.pt (pw_or (pt_cmpR op_eq (pe_op op_mod (pe_callB call_len_seq (by rfl) T.len PySem.boot_len (pa_cons (pv 0) pa_nil)) pe_int) pe_int (nomark _)) (pw_or1 (pt_cmpR op_ne (pe_slice sl_str (pe_ix ix_list (pv 0) pe_int (fun _ _ => rfl)) po_none (po_some pe_int)) pe_str (nomark _)))))
      (pss_one (ps_ret pe_bl))
      pss_nil)
      (pss_cons (ps_set (i := 1) scareparts.nd rfl (Or.inl rfl) (pe_lst (pa_cons (pe_slice sl_str (pe_ix ix_list (pv 0) pe_int (fun _ _ => rfl)) (po_some pe_int) po_none) (StX.pa_star (pe_stepL (pv 0)) pa_nil))))
      (pss_one (ps_ret (pe_and
        (pe_callB (cr_all rfl) (by rfl) m_all (by decide +kernel) (pa_cons (pe_lc (own := [("part", 2)]) (g := (gName 2)) rfl scareparts.nd (pi_list (pv 1)) (blkOk_by (own := [("part", 2)]) (N := Nareparts) (sc := defScope sareparts) (by decide +kernel)) (fun _ _ _ _ _ => (pg_name (i := 2) scareparts.nd rfl (Or.inl rfl))) (fun _ _ _ _ _ => pts_nil) (fun _ _ _ _ _ => (pe_call G_is_natural hr1 rfl g_is_natural kp_is_natural b_is_natural .nil pass0 (pa_cons (pv 2) pa_nil)))) pa_nil))
        (pe_one (pe_callB (cr_all rfl) (by rfl) m_all (by decide +kernel) (pa_cons (pe_lc (own := [("part", 2)]) (g := (gName 2)) rfl scareparts.nd (pi_list (pe_stepL (pv 0))) (blkOk_by (own := [("part", 2)]) (N := Nareparts) (sc := defScope sareparts) (by decide +kernel)) (fun _ _ _ _ _ => (pg_name (i := 2) scareparts.nd rfl (Or.inl rfl))) (fun _ _ _ _ _ => pts_nil) (fun _ _ _ _ _ => (pe_call G_is_word hr1 rfl g_is_word kp_is_word b_is_word .nil pass0 (pa_cons (pv 2) pa_nil)))) pa_nil)))))))), ?_⟩
    refine ⟨.ref p, (by kernel_rfl), p, _, rfl, .inl (SqL.of hp), ?_⟩
    rw [List.length_map]
    refine ⟨_, _, rfl, rfl, (by show (0 : Int) < 2; decide), rfl, _, rfl, ?_⟩
    have ea : arePs (h :: tl) = (!decide ((h :: tl).length % 2 = 1) && (decide (cutS h none (some 2) = "m:") && okParts 0 (cutS h (some 2) none :: tl))) := rfl
    by_cases hm : (h :: tl).length % 2 = 1
    · refine ite_yes (decide_eq_true (congrArg V.int (by omega))) ?_
      try refine ite_yes rfl ?_
      rw [ea, decide_eq_true hm] at k
      exact k _ (fun _ _ e => e)
    refine ite_no (decide_eq_false fun q => by have := V.int.inj q; omega) ?_
    rw [ea, decide_eq_false hm] at k
    have lh : h.length ≤ 900000 := each h (List.mem_cons_self ..)
    refine ⟨.ref p, (by kernel_rfl), p, _, 0, .str h, rfl, rfl, SqL.of hp, atI0 rfl, 2, rfl, h, rfl, sz_of (by omega), ?_⟩
    refine ⟨rfl, _, rfl, ?_⟩
    rw [dec_str]
    by_cases h0 : cutS h none (some 2) = "m:"
    · refine ite_no (by rw [decide_eq_true h0]; rfl) ?_
      try refine ite_no rfl ?_
      rw [decide_eq_true h0, parts_eq h] at k
      refine ⟨.ref p, (by kernel_rfl), p, _, 0, .str h, rfl, rfl, SqL.of hp, atI0 rfl, 2, rfl, h, rfl, sz_of (by omega), ?_⟩
      refine ⟨.ref p, (by kernel_rfl), p, _, rfl, SqL.of hp, fun a na => ?_⟩
      rw [step_map]
      have s1 := same_new (o := .lst ((stepL (h :: tl) 2 2).map V.str)) na
      have ha := upd_same (H := H) (a := a) (o := .lst ((stepL (h :: tl) 2 2).map V.str))
      have hp1 := s1 _ _ hp
      have l2 : (stepL (h :: tl) 2 2).length ≤ (h :: tl).length := step_len (h :: tl) 2
      have l1 : (stepL (h :: tl) 1 2).length ≤ (h :: tl).length := step_len (h :: tl) 1
      rw [List.length_cons] at l1 l2
      have e2 : ∀ q ∈ stepL (h :: tl) 2 2, q.length ≤ 900000 := fun q m => by
        obtain ⟨j, e⟩ := (step_mem (h :: tl) 2 q).mp m
        exact each q (List.mem_of_getElem? e)
      have e1 : ∀ q ∈ stepL (h :: tl) 1 2, q.length ≤ 900000 := fun q m => by
        obtain ⟨j, e⟩ := (step_mem (h :: tl) 1 q).mp m
        exact each q (List.mem_of_getElem? e)
      have ld : (cutS h (some 2) none).length ≤ 900000 := Nat.le_trans (cut_len h _ _) lh
      generalize stepL (h :: tl) 2 2 = A2 at l2 e2 s1 ha hp1 k ⊢
      generalize cutS h (some 2) none = d at ld k ⊢
      generalize upd H a (.lst (A2.map V.str)) = H1 at s1 ha hp1 ⊢
      refine ⟨a, _, rfl, .inr (SqL.of ha), ?_⟩
      have en : (V.str d :: (A2.map V.str ++ [])) = (d :: A2).map V.str := by rw [List.append_nil]; rfl
      show (V.str d :: (A2.map V.str ++ [])).length ≤ sizeLine ∧ ∀ q, H1 q = none → (fun (x : V) (G : Hp) => _) (V.ref q) (upd H1 q (.lst (V.str d :: (A2.map V.str ++ []))))
      rw [en]
      refine ⟨sz_of (by rw [List.length_map, List.length_cons]; omega), fun b nb => ?_⟩
      have s2 := same_new (o := .lst ((d :: A2).map V.str)) nb
      have hb := upd_same (H := H1) (a := b) (o := .lst ((d :: A2).map V.str))
      have hp2 := s2 _ _ hp1
      have S2 := s1.trans s2
      have ed : ∀ q ∈ d :: A2, q.length ≤ 900000 := fun q m => by
        rcases List.mem_cons.mp m with rfl | m
        · exact ld
        · exact e2 q m
      have ln : (d :: A2).length ≤ 900200 := by rw [List.length_cons]; omega
      generalize upd H1 b (.lst ((d :: A2).map V.str)) = H2 at s2 hb hp2 S2 ⊢
      generalize d :: A2 = N2 at hb ed ln k ⊢
      refine ⟨.ref b, (by kernel_rfl), b, rfl, ⟨_, SqL.of hb⟩, ?_⟩
      intro D nD
      refine lc_list (K := K) (a := b) (xs := N2.map V.str) (fun i H' => H' D = some (.lst (((N2.take i).map isCnt).map V.bl)) ∧ Same H2 H') ⟨upd_same, same_new nD⟩ (fun i H' _ ⟨_, S⟩ => SqL.of (S _ _ hb)) ?_ ?_
      · rintro i x H4 hi ⟨hD, S⟩
        rw [List.getElem?_map] at hi
        obtain ⟨y, hy, rfl⟩ := Option.map_eq_some_iff.mp hi
        refine ⟨rfl, ?_⟩
        refine ⟨.str y, (by kernel_rfl), y, rfl, ed y (List.mem_of_getElem? hy), ?_⟩
        refine ⟨_, hD, small_big (by rw [List.length_map, List.length_map, List.length_take]; omega), ?_, same_put S nD⟩
        rw [upd_same, List.take_add_one, hy]
        simp
      · rintro H4 ⟨hD, S⟩
        rw [List.length_map, List.take_length] at hD
        refine ⟨D, _, rfl, SqL.of hD, ?_⟩
        rw [all_bl]
        have S4 := S2.trans S
        cases hc : N2.all isCnt with
        | false =>
          rw [hc, Bool.false_and, Bool.true_and] at k
          exact ⟨_, rfl, ite_no rfl (k _ S4)⟩
        | true =>
          rw [hc, Bool.true_and, Bool.true_and] at k
          refine ⟨_, rfl, ite_yes rfl ?_⟩
          refine ⟨.ref p, (by kernel_rfl), p, _, rfl, SqL.of (S _ _ hp2), fun c nc => ?_⟩
          rw [step_map]
          have s5 := same_new (o := .lst ((stepL (h :: tl) 1 2).map V.str)) nc
          have hcc := upd_same (H := H4) (a := c) (o := .lst ((stepL (h :: tl) 1 2).map V.str))
          have S5 := S4.trans s5
          generalize stepL (h :: tl) 1 2 = A1 at l1 e1 hcc S5 k ⊢
          generalize upd H4 c (.lst (A1.map V.str)) = H5 at hcc S5 ⊢
          refine ⟨c, rfl, ⟨_, SqL.of hcc⟩, ?_⟩
          intro D2 nD2
          refine lc_list (K := K) (a := c) (xs := A1.map V.str) (fun i H' => H' D2 = some (.lst (((A1.take i).map isMet).map V.bl)) ∧ Same H5 H') ⟨upd_same, same_new nD2⟩ (fun i H' _ ⟨_, S⟩ => SqL.of (S _ _ hcc)) ?_ ?_
          · rintro i x H6 hi ⟨hD2, S6⟩
            rw [List.getElem?_map] at hi
            obtain ⟨y, hy, rfl⟩ := Option.map_eq_some_iff.mp hi
            refine ⟨rfl, ?_⟩
            refine ⟨.str y, (by kernel_rfl), y, rfl, e1 y (List.mem_of_getElem? hy), ?_⟩
            refine ⟨_, hD2, small_big (by rw [List.length_map, List.length_map, List.length_take]; omega), ?_, same_put S6 nD2⟩
            rw [upd_same, List.take_add_one, hy]
            simp
          · rintro H6 ⟨hD2, S6⟩
            rw [List.length_map, List.take_length] at hD2
            refine ⟨D2, _, rfl, SqL.of hD2, ?_⟩
            rw [all_bl]
            exact k _ (S5.trans S6)
    · refine ite_yes (by rw [decide_eq_false h0]; rfl) ?_
      try refine ite_yes rfl ?_
      rw [decide_eq_false h0] at k
      exact k _ (fun _ _ e => e)

abbrev sisline : Stmt := top 17
abbrev Nisline : List Str := ["word"]
abbrev Pisline : List Str := ["word"]
theorem scisline : FnScope Nisline Pisline (defScope sisline) := ⟨rfl, rfl, rfl, by decide +kernel, rfl, by decide +kernel, by decide +kernel⟩

theorem ok_isl {f fA : Addr} {fd fdA : FuncData} (F : Fun K "is_line" "is_line" sisline f fd) (T : LTxt mg) (G_are_parts : FnOk P w K mg base CX0 5 fA fdA Pareparts spParts) (kp_are_parts : PySem.W.keepIn K (.ref fA) = true) (b_are_parts : Binds K fdA Pareparts []) (g_are_parts : mg "are_parts" = some (.ref fA)) : FnOk P w K mg base CX0 6 f fd Pisline (spB isLin) := by
  refine F.ok scisline (fun vs H Q E h => ?_) (fun cdv A outer s H vs Q E hr h => ?_)
  · obtain ⟨t, rfl, _⟩ := h
    rfl
  · obtain ⟨t, rfl, hl, k⟩ := h
    have hr1 := hr
    refine ⟨_, (pss_one (ps_ret (pe_and (pe_callB call_isi (by rfl) T.isinstance (by decide +kernel) (pa_cons (pv 0) (pa_cons (pe_bltn (v := .ty "str") (by rfl) T.str (by decide +kernel) rfl) pa_nil))) (pe_one (pe_call G_are_parts hr1 rfl g_are_parts kp_are_parts b_are_parts .nil pass0 (pa_cons (pe_split (pv 0) pe_str) pa_nil)))))), ?_⟩
    refine ⟨.str t, (by kernel_rfl), _, _, _, _, true, rfl, .ty "str", .base (.str t), kit_ty (by decide +kernel), _, rfl, ?_⟩
    refine ite_yes rfl ?_
    refine ⟨.str t, (by kernel_rfl), ⟨_, rfl⟩, t, ".", rfl, rfl, rfl, sz_of (by omega), fun p np => ?_⟩
    have each : ∀ q ∈ Txt.split t ".", q.length ≤ 900000 := fun q m => by
      have := split_each (y := ".") (by decide +kernel) (by decide +kernel) m
      omega
    have few := split_few t "."
    rw [← lin_eq] at k
    have hp := upd_same (H := H) (a := p) (o := .lst ((Txt.split t ".").map V.str))
    have s1 := same_new (o := .lst ((Txt.split t ".").map V.str)) np
    cases e : Txt.split t "." with
    | nil =>
      have q := split_dot t
      obtain ⟨h, tt, rest, _, kk⟩ := spl_head (codes t)
      rw [kk, e] at q
      cases q
    | cons a r =>
      rw [e] at each few k hp s1
      rw [List.length_cons] at few
      exact ⟨p, a, r, rfl, hp, by omega, each, fun H' S => k H' (s1.trans S)⟩
theorem ok_islO {f fA : Addr} {fd fdA : FuncData} (F : Fun K "is_line" "is_line" sisline f fd) (T : LTxt mg) (G_are_parts : FnOk P w K mg base CX0 5 fA fdA Pareparts spParts) (kp_are_parts : PySem.W.keepIn K (.ref fA) = true) (b_are_parts : Binds K fdA Pareparts []) (g_are_parts : mg "are_parts" = some (.ref fA)) : FnOk P w K mg base CX0 6 f fd Pisline spOddB := by
  refine F.ok scisline (fun vs H Q E h => ?_) (fun cdv A outer s H vs Q E hr h => ?_)
  · obtain ⟨v, rfl, _⟩ := h
    rfl
  · obtain ⟨v, rfl, ⟨u, ht, hk⟩, k⟩ := h
    have hr1 := hr
    refine ⟨_, (pss_one (ps_ret (pe_and (pe_callB call_isi (by rfl) T.isinstance (by decide +kernel) (pa_cons (pv 0) (pa_cons (pe_bltn (v := .ty "str") (by rfl) T.str (by decide +kernel) rfl) pa_nil))) (pe_one (pe_call G_are_parts hr1 rfl g_are_parts kp_are_parts b_are_parts .nil pass0 (pa_cons (pe_split (pv 0) pe_str) pa_nil)))))), ?_⟩
    refine ⟨v, (by kernel_rfl), _, _, _, _, false, rfl, .ty "str", ht _, hk _, _, rfl, ?_⟩
    exact ite_no rfl (k _ (fun _ _ e => e))
end
end Nm
namespace Nm
open PySem PySem.Spec PyProof.Rows L2
theorem dc_list {K : PySem.W.Frag} {a : Addr} {xs : List V} {g : TG} {tt : TT} {tk tv : TE} {vs : List Nat} {σ : L2.St} {H1 : Hp} {D : Addr} {Qd : Hp → Prop} (Pv : Nat → Hp → Prop) (h0 : Pv 0 (upd H1 D (.dK []))) (hl : ∀ i H, i ≤ xs.length → Pv i H → SqL K H a xs)
    (hs : ∀ i x H, xs[i]? = some x → Pv i H → g x (wipe σ vs) H fun σ2 H2 => wipe σ2 vs = wipe σ vs ∧ tt σ2 H2 fun b H3 =>
      if b = true then tk σ2 H3 fun y H4 => tv σ2 H4 fun z H5 => ∃ kvs k, y = kV k ∧ H5 D = some (.dK kvs) ∧ kvs.length < sizeLine ∧ Pv (i + 1) (upd H5 D (.dK (putK kvs k z))) else Pv (i + 1) H3) (hd : ∀ H, Pv xs.length H → Qd H) :
    ∃ W : Nat → Nat → Hp → Prop, (∃ m, W 0 m (upd H1 D (.dK []))) ∧ ∀ i m H, W i m H →
      ((Itl K a).stop i H ∧ Qd H) ∨ ((Itl K a).go i H ∧ ∃ Nx : Hp → Prop, (∀ H', Nx H' → ∃ m', m' < m ∧ W (i + 1) m' H') ∧ ∀ x H', (Itl K a).yld i H x H' → g x (wipe σ vs) H' fun σ2 H2 => wipe σ2 vs = wipe σ vs ∧ tt σ2 H2 fun b H3 =>
        if b = true then tk σ2 H3 fun y H4 => tv σ2 H4 fun z H5 => ∃ kvs k, y = kV k ∧ H5 D = some (.dK kvs) ∧ kvs.length < sizeLine ∧ Nx (upd H5 D (.dK (putK kvs k z))) else Nx H3) := by
  refine ⟨fun i m H => m = xs.length - i ∧ i ≤ xs.length ∧ Pv i H, ⟨xs.length, by simp, Nat.zero_le _, h0⟩, ?_⟩
  rintro i m H ⟨rfl, hi, p⟩
  have q := hl i H hi p
  by_cases hlt : i < xs.length
  · refine .inr ⟨⟨xs, xs[i], q, by simp [hlt]⟩, Pv (i + 1), fun H' p' => ⟨xs.length - (i + 1), by omega, rfl, hlt, p'⟩, fun x H' y => ?_⟩
    obtain ⟨e, y⟩ := y
    subst e
    exact hs i x _ (y xs q) p
  · have e : i = xs.length := by omega
    subst e
    exact .inl ⟨⟨xs, q, Nat.le_refl _⟩, hd H p⟩
/-- texts as a dict's keys, with True -/
def dkOf (y : Str) : Key × V := (.inr y, .bl true)
theorem any_dk (y : Str) : ∀ l : List Str, ((l.map dkOf).any fun kv => decide (kv.1 = (.inr y : Key))) = decide (y ∈ l)
  | [] => rfl
  | a :: r => by
    rw [List.map_cons, List.any_cons, any_dk y r]
    by_cases h : a = y
    · rw [decide_eq_true (show (dkOf a).1 = (.inr y : Key) from by rw [h]; rfl), decide_eq_true (show y ∈ a :: r from by rw [h]; exact List.mem_cons_self ..), Bool.true_or]
    · have n1 : ¬ (dkOf a).1 = (.inr y : Key) := fun z => h (Sum.inr.inj z)
      rw [decide_eq_false n1, Bool.false_or]
      by_cases m : y ∈ r
      · rw [decide_eq_true m, decide_eq_true (List.mem_cons_of_mem _ m)]
      · rw [decide_eq_false m, decide_eq_false fun z => (List.mem_cons.mp z).elim (fun q => h q.symm) m]
theorem put_dk (l : List Str) (y : Str) : putK (l.map dkOf) (.inr y) (.bl true) = (if y ∈ l then l else l ++ [y]).map dkOf := by
  unfold putK
  rw [any_dk]
  by_cases m : y ∈ l
  · rw [if_pos (decide_eq_true m), if_pos m, List.map_map]
    refine List.map_congr_left fun z _ => ?_
    show (if (dkOf z).1 = (.inr y : Key) then ((dkOf z).1, V.bl true) else dkOf z) = dkOf z
    split <;> rfl
  · rw [if_neg (by rw [decide_eq_false m]; exact Bool.false_ne_true), if_neg m, List.map_append]
    rfl
theorem keys_dk (l : List Str) : ((l.map dkOf).map fun kv => kV kv.1) = l.map V.str := by
  rw [List.map_map]
  rfl
/-! ### the program's functions that may raise, and those that write -/
def spInitE (C : Addr) : Sp := fun vs H Q _ => ∃ (a : Addr) (v1 v2 : V), vs = [.ref a, v1, v2] ∧ H a = some (exo a C none) ∧
  ∀ (d : Addr) (H' : Hp), H' a = some (exo a C (some d)) → H' d = some (exd d [("column", v2), ("line", v1)]) → H d = none → (∀ b, b ≠ a → b ≠ d → H' b = H b) → Q .non H'
theorem made_raise {H H' : Hp} {a C d : Addr} {fs : List (Str × V)} (an : H a = none) (nd : (upd H a (exo a C none)) d = none) (oth : ∀ b, b ≠ a → b ≠ d → H' b = (upd H a (exo a C none)) b) : Same H (upd (del H' a) d (.xd fs)) ∧ H d = none := by
  have da : d ≠ a := fun q => by
    rw [q, upd_same] at nd
    cases nd
  rw [upd_ne da] at nd
  refine ⟨fun b o e => ?_, nd⟩
  have h1 := ne_of_none e an
  have h2 := ne_of_none e nd
  rw [upd_ne h2, del_ne h1, oth b h1 h2, upd_ne h1]
  exact e

def spInitN (C : Addr) : Sp := fun vs H Q _ => ∃ (a : Addr) (v : V), vs = [.ref a, v] ∧ H a = some (exo a C none) ∧
  ∀ (d : Addr) (H' : Hp), H' a = some (exo a C (some d)) → H' d = some (exd d [("name", v)]) → H d = none → (∀ b, b ≠ a → b ≠ d → H' b = H b) → Q .non H'
section
variable {P : Program} {w : World} {K : PySem.W.Frag} {mg : Str → Option Value} {base : Heap} {CN CT : Addr}

abbrev sBadTextinit : Stmt := inClass (top 2) 0
abbrev NBadTextinit : List Str := ["self", "line", "column"]
abbrev PBadTextinit : List Str := ["self", "line", "column"]
theorem scBadTextinit : FnScope NBadTextinit PBadTextinit (defScope sBadTextinit) := ⟨rfl, rfl, rfl, by decide +kernel, rfl, by decide +kernel, by decide +kernel⟩

abbrev sBadNameinit : Stmt := inClass (top 3) 0
abbrev NBadNameinit : List Str := ["self", "name"]
abbrev PBadNameinit : List Str := ["self", "name"]
theorem scBadNameinit : FnScope NBadNameinit PBadNameinit (defScope sBadNameinit) := ⟨rfl, rfl, rfl, by decide +kernel, rfl, by decide +kernel, by decide +kernel⟩

theorem ok_btinit {f fI : Addr} {fd : FuncData} (F : Fun K "__init__" "BadText.__init__" sBadTextinit f fd) (X : XCls K mg "BadText" CT fI ["line", "column"]) : FnOk P w K mg base CX0 1 f fd ["self", "line", "column"] (spInitE CT) := by
  refine F.ok scBadTextinit (fun vs H Q E h => ?_) (fun cdv A outer s H vs Q E hr h => ?_)
  · obtain ⟨a, v1, v2, rfl, _⟩ := h
    rfl
  · obtain ⟨a, v1, v2, rfl, ha, k⟩ := h
    refine ⟨_, (pss_cons (ps_ost (pv 0) (pv 1)) (pss_one (ps_ost (pv 0) (pv 2)))), ?_⟩
    refine ⟨_, rfl, _, rfl, a, CT, rfl, X.oex, X.no _ (by simp), .inl ⟨ha, fun d dn da => ?_⟩⟩
    refine ⟨_, rfl, _, rfl, a, CT, rfl, X.oex, X.no _ (by simp), .inr ⟨d, _, upd_same, (by rw [upd_ne da, upd_same]), (by show 1 ≤ 900; decide), ?_⟩⟩
    exact k d _ (by rw [upd_ne da.symm, upd_same]) (by rw [upd_same]) dn fun b h1 h2 => by rw [upd_ne h2, upd_ne h1, upd_ne h2]


theorem ok_bninit {f fI : Addr} {fd : FuncData} (F : Fun K "__init__" "BadName.__init__" sBadNameinit f fd) (X : XCls K mg "BadName" CN fI ["name"]) : FnOk P w K mg base CX0 1 f fd ["self", "name"] (spInitN CN) := by
  refine F.ok scBadNameinit (fun vs H Q E h => ?_) (fun cdv A outer s H vs Q E hr h => ?_)
  · obtain ⟨a, v, rfl, _⟩ := h
    rfl
  · obtain ⟨a, v, rfl, ha, k⟩ := h
    refine ⟨_, (pss_one (ps_ost (pv 0) (pv 1))), ?_⟩
    refine ⟨_, rfl, _, rfl, a, CN, rfl, X.oex, X.no _ (by simp), .inl ⟨ha, fun d dn da => ?_⟩⟩
    exact k d _ (by rw [upd_same]) (by rw [upd_ne da, upd_same]) dn fun b h1 h2 => by rw [upd_ne h1, upd_ne h2]

abbrev sparentof : Stmt := top 18
abbrev Nparentof : List Str := ["line", "parts"]
abbrev Pparentof : List Str := ["line"]
theorem scparentof : FnScope Nparentof Pparentof (defScope sparentof) := ⟨rfl, rfl, rfl, by decide +kernel, rfl, by decide +kernel, by decide +kernel⟩

theorem ok_par {f fI fn : Addr} {fd fdI fdn : FuncData} {pI : List Str} (F : Fun K "parent_of" "parent_of" sparentof f fd) (T : LTxt mg) (G_is_line0 : FnOk P w K mg base CX0 7 fI fdI pI (spB isLin)) (G_is_lineO : FnOk P w K mg base CX0 7 fI fdI pI spOddB) (kp_is_line : PySem.W.keepIn K (.ref fI) = true) (b_is_line : Binds K fdI pI []) (g_is_line : mg "is_line" = some (.ref fI))
    (XN : XCls K mg "BadName" CN fn ["name"]) (F_bn : Fun K "__init__" "BadName.__init__" sBadNameinit fn fdn) (B_bn : Binds K fdn ["self", "name"] []) : FnOk P w K mg base CX0 9 f fd Pparentof spPar := by
  have G_is_line := G_is_line0.mono (show 7 ≤ 8 by decide)
  have G_bn : FnOk P w K mg base CX0 7 fn fdn ["self", "name"] (spInitN CN) := (ok_bninit F_bn XN).mono (by decide)
  refine F.ok scparentof (fun vs H Q E h => ?_) (fun cdv A outer s H vs Q E hr h => ?_)
  · obtain ⟨v, rfl, _⟩ := h
    rfl
  · obtain ⟨y, rfl, ly, hl, k⟩ := h
    have hr1 := hr
    refine ⟨_, (pss_cons (ps_if (pt_not (pt_val (pe_call G_is_line hr1 rfl g_is_line kp_is_line b_is_line .nil pass0 (pa_cons (pv 0) pa_nil))))
      (pss_one ps_never)
      pss_nil)
      (pss_cons (ps_set (i := 1) scparentof.nd rfl (Or.inl rfl) (pe_split (pv 0) pe_str))
      (pss_one (ps_ret (pe_ifExp (pt_cmpR op_gt (pe_callB call_len_seq (by rfl) T.len PySem.boot_len (pa_cons (pv 1) pa_nil)) pe_int (nomark _)) (pe_join pe_str (pe_slice sl_list (pv 1) po_none (po_some (pe_un un_neg pe_int)))) pe_non))))), ?_⟩
    refine ⟨.str y, (by kernel_rfl), y, rfl, by omega, fun H1 S1 => ?_⟩
    rw [hl]
    refine ⟨_, rfl, ite_no rfl ?_⟩
    refine ⟨.str y, (by kernel_rfl), ⟨_, rfl⟩, y, ".", rfl, rfl, rfl, sz_of (by omega), fun l nl => ?_⟩
    have each : ∀ q ∈ Txt.split y ".", q.length ≤ 4000 := fun q m => by
      have := split_each (y := ".") (by decide +kernel) (by decide +kernel) m
      omega
    have few := split_few y "."
    have s2 := same_new (o := .lst ((Txt.split y ".").map V.str)) nl
    have hl2 := upd_same (H := H1) (a := l) (o := .lst ((Txt.split y ".").map V.str))
    generalize upd H1 l (.lst ((Txt.split y ".").map V.str)) = H2 at s2 hl2 ⊢
    have S2 := S1.trans s2
    have two := lin_len hl
    unfold parV at k
    generalize Txt.split y "." = ps at two each few hl2 k ⊢
    refine ⟨.ref l, (by kernel_rfl), l, _, rfl, .inl (SqL.of hl2), _, _, rfl, rfl, _, rfl, ?_⟩
    rw [List.length_map]
    by_cases h2 : ps.length = 2
    · refine ite_no (decide_eq_false (by omega)) ?_
      rw [if_pos h2] at k
      exact k _ S2
    · refine ite_yes (decide_eq_true (by omega)) ?_
      rw [if_neg h2, ← cutL_two ps two] at k
      refine ⟨⟨_, rfl⟩, .ref l, (by kernel_rfl), 2, rfl, -2, rfl, l, _, rfl, SqL.of hl2, fun m nm => ?_⟩
      rw [cutV_map]
      have s3 := same_new (o := .lst ((cutL ps none (some (-2))).map V.str)) nm
      have cl : (cutL ps none (some (-2))).length ≤ ps.length := by
        unfold cutL
        simp only [List.length_take, List.length_drop]
        omega
      have ce : ∀ q ∈ cutL ps none (some (-2)), q.length ≤ 4000 := fun q m => each q (List.mem_of_mem_drop (List.mem_of_mem_take m))
      have sm := sum_le1 ce
      have l1 : ("." : Str).length = 1 := rfl
      have mul : (cutL ps none (some (-2))).length * 4000 ≤ 4002 * 4000 := Nat.mul_le_mul_right _ (by omega)
      refine ⟨".", m, _, rfl, rfl, .inl (SqL.of upd_same), by rw [l1]; omega, ?_⟩
      exact k _ (S2.trans s3)
theorem ok_parbad {f fI fn : Addr} {fd fdI fdn : FuncData} {pI : List Str} (F : Fun K "parent_of" "parent_of" sparentof f fd) (T : LTxt mg) (G_is_line0 : FnOk P w K mg base CX0 7 fI fdI pI (spB isLin)) (G_is_lineO : FnOk P w K mg base CX0 7 fI fdI pI spOddB) (kp_is_line : PySem.W.keepIn K (.ref fI) = true) (b_is_line : Binds K fdI pI []) (g_is_line : mg "is_line" = some (.ref fI))
    (XN : XCls K mg "BadName" CN fn ["name"]) (F_bn : Fun K "__init__" "BadName.__init__" sBadNameinit fn fdn) (B_bn : Binds K fdn ["self", "name"] []) : FnOk P w K mg base (L2.CX P w) 9 f fd Pparentof (spBadN CN) := by
  have G_bn : FnOk P w K mg base CX0 7 fn fdn ["self", "name"] (spInitN CN) := (ok_bninit F_bn XN).mono (by decide)
  have GI : FnOk P w K mg base CX0 8 fI fdI pI (fun vs H Q E => spB isLin vs H Q E ∨ spOddB vs H Q E) := ⟨fun vs H Q E h => h.elim (G_is_line0.len vs H Q E) (G_is_lineO.len vs H Q E), fun A outer s H args us vs Q E hr he hb hv h => h.elim (fun h => (G_is_line0.mono (show 7 ≤ 8 by decide)).run A outer s H args us vs Q E hr he hb hv h) (fun h => (G_is_lineO.mono (show 7 ≤ 8 by decide)).run A outer s H args us vs Q E hr he hb hv h)⟩
  refine F.okX scparentof (fun vs H Q E h => ?_) (fun cdv A outer s H vs Q E hr h => ?_)
  · obtain ⟨v, rfl, _⟩ := h
    rfl
  · obtain ⟨v, rfl, no, ke⟩ := h
    have hr1 := hr
    refine ⟨_, (pss_cons (ps_if (pt_not (pt_val (pe_call GI hr1 rfl g_is_line kp_is_line b_is_line .nil pass0 (pa_cons (pv 0) pa_nil))))
      (pss_one (ps_raise rfl (takes_of rfl rfl rfl rfl) (pmk_oex XN.oex XN.ini XN.tyI G_bn hr1 B_bn .nil pass0 (by rfl) XN.gm (pa_cons (pv 0) pa_nil))))
      pss_nil)
      pss_never), ?_⟩
    have go : ∀ (H1 : Hp), Same H H1 → ∀ a, H1 a = none → ∃ (a1 : Addr) (v1 : V), [V.ref a, v] = [.ref a1, v1] ∧ True := fun _ _ a _ => ⟨a, v, rfl, trivial⟩
    clear go
    rcases no with ⟨y, rfl, ly, hl⟩ | od
    · refine ⟨.str y, (by kernel_rfl), .inl ⟨y, rfl, ly, fun H1 S1 => ?_⟩⟩
      rw [hl]
      refine ⟨_, rfl, ite_yes rfl ?_⟩
      refine ⟨.str y, (by kernel_rfl), by show 1 ≤ 1000; decide, fun a an => ⟨a, .str y, rfl, upd_same, fun d H' ha hd dn oth => ?_⟩⟩
      have nn := made_raise (fs := [("name", .str y)]) an dn oth
      exact ⟨rfl, d, _, ha, hd, nn.2, ke d _ (S1.trans nn.1) upd_same⟩
    · refine ⟨v, (by kernel_rfl), .inr ⟨v, rfl, od, fun H1 S1 => ?_⟩⟩
      refine ⟨_, rfl, ite_yes rfl ?_⟩
      refine ⟨v, (by kernel_rfl), by show 1 ≤ 1000; decide, fun a an => ⟨a, v, rfl, upd_same, fun d H' ha hd dn oth => ?_⟩⟩
      have nn := made_raise (fs := [("name", v)]) an dn oth
      exact ⟨rfl, d, _, ha, hd, nn.2, ke d _ (S1.trans nn.1) upd_same⟩

abbrev slogtext : Stmt := top 19
abbrev Nlogtext : List Str := ["lines", "line"]
abbrev Plogtext : List Str := ["lines"]
theorem sclogtext : FnScope Nlogtext Plogtext (defScope slogtext) := ⟨rfl, rfl, rfl, by decide +kernel, rfl, by decide +kernel, by decide +kernel⟩

theorem ok_log {f : Addr} {fd : FuncData} (F : Fun K "log_text" "log_text" slogtext f fd) : FnOk P w K mg base CX0 1 f fd Plogtext spLog2 := by
  refine F.ok sclogtext (fun vs H Q E h => ?_) (fun cdv A outer s H vs Q E hr h => ?_)
  · obtain ⟨p, ls, rfl, _⟩ := h
    rfl
  · obtain ⟨p, ls, rfl, hp, hn, each, k⟩ := h
    refine ⟨_, (pss_one (ps_ret (pe_join pe_str (pe_lc (own := [("line", 1)]) (g := (gName 1)) rfl sclogtext.nd (pi_list (pv 0)) (blkOk_by (own := [("line", 1)]) (N := Nlogtext) (sc := defScope slogtext) (by decide +kernel)) (fun _ _ _ _ _ => (pg_name (i := 1) sclogtext.nd rfl (Or.inl rfl))) (fun _ _ _ _ _ => pts_nil) (fun _ _ _ _ _ => (pe_op op_add_str (pv 1) pe_str)))))), ?_⟩
    refine ⟨⟨_, rfl⟩, .ref p, (by kernel_rfl), p, rfl, ⟨_, SqL.of hp⟩, ?_⟩
    intro D nD
    refine lc_list (K := K) (a := p) (xs := ls.map V.str) (fun i H' => H' D = some (.lst (((ls.take i).map nlT).map V.str)) ∧ Same H H') ⟨upd_same, same_new nD⟩ (fun i H' _ ⟨_, S⟩ => SqL.of (S _ _ hp)) ?_ ?_
    · rintro i x H2 hi ⟨hD, S⟩
      rw [List.getElem?_map] at hi
      obtain ⟨y, hy, rfl⟩ := Option.map_eq_some_iff.mp hi
      have ly := each y (List.mem_of_getElem? hy)
      have lj := (List.getElem?_eq_some_iff.mp hy).1
      refine ⟨rfl, ?_⟩
      have l1 : ("\n" : Str).length = 1 := rfl
      refine ⟨.str y, (by kernel_rfl), y, "\n", rfl, rfl, sz_of (by rw [l1]; omega), ?_⟩
      refine ⟨_, hD, small_big (by rw [List.length_map, List.length_map, List.length_take]; omega), ?_, same_put S nD⟩
      rw [upd_same, List.take_add_one, hy]
      simp [nlT]
    · rintro H2 ⟨hD, S⟩
      rw [List.length_map, List.take_length] at hD
      refine ⟨"", D, _, rfl, rfl, .inl (SqL.of hD), ?_, k _ S⟩
      have q := sum_log ls 5000 each
      have q2 : ls.length * (5000 + 1) ≤ 100 * 5001 := Nat.mul_le_mul_right _ hn
      have l0 : ("" : Str).length = 0 := rfl
      rw [l0, Nat.mul_zero]
      omega


abbrev spiecesof : Stmt := top 20
abbrev Npiecesof : List Str := ["text"]
abbrev Ppiecesof : List Str := ["text"]
theorem scpiecesof : FnScope Npiecesof Ppiecesof (defScope spiecesof) := ⟨rfl, rfl, rfl, by decide +kernel, rfl, by decide +kernel, by decide +kernel⟩
def spPieces : Sp := fun vs H Q _ => ∃ t : Str, vs = [.str t] ∧ t.length ≤ 900000 ∧ ∀ (p : Addr) (H' : Hp), Same H H' → H' p = some (.lst ((Txt.split t "\n").dropLast.map V.str)) → Q (.ref p) H'
theorem ok_pie {f : Addr} {fd : FuncData} (F : Fun K "pieces_of" "pieces_of" spiecesof f fd) (T : LTxt mg) : FnOk P w K mg base CX0 1 f fd Ppiecesof spPieces := by
  refine F.ok scpiecesof (fun vs H Q E h => ?_) (fun cdv A outer s H vs Q E hr h => ?_)
  · obtain ⟨t, rfl, _⟩ := h
    rfl
  · obtain ⟨t, rfl, hl, k⟩ := h
    refine ⟨_, (pss_cons (ps_if (pt_not (pt_val (pe_callB call_isi (by rfl) T.isinstance (by decide +kernel) (pa_cons (pv 0) (pa_cons (pe_bltn (v := .ty "str") (by rfl) T.str (by decide +kernel) rfl) pa_nil)))))
      (pss_one ps_never)
      pss_nil)
      (pss_one (ps_ret (pe_slice sl_list (pe_split (pv 0) pe_str) po_none (po_some (pe_un un_neg pe_int)))))), ?_⟩
    refine ⟨.str t, (by kernel_rfl), _, _, _, _, true, rfl, .ty "str", .base (.str t), kit_ty (by decide +kernel), _, rfl, ?_⟩
    refine ite_no rfl ?_
    refine ⟨.str t, (by kernel_rfl), ⟨_, rfl⟩, t, "\n", rfl, rfl, rfl, sz_of (by omega), fun p np => ?_⟩
    have hp := upd_same (H := H) (a := p) (o := .lst ((Txt.split t "\n").map V.str))
    have s1 := same_new (o := .lst ((Txt.split t "\n").map V.str)) np
    refine ⟨1, rfl, -1, rfl, p, _, rfl, SqL.of hp, fun a na => ?_⟩
    rw [cutV_last, ← List.map_dropLast]
    exact k a _ (s1.trans (same_new na)) upd_same
theorem ok_piebad {f ft : Addr} {fd fdt : FuncData} (F : Fun K "pieces_of" "pieces_of" spiecesof f fd) (T : LTxt mg) (XT : XCls K mg "BadText" CT ft ["line", "column"]) (F_bt : Fun K "__init__" "BadText.__init__" sBadTextinit ft fdt) (B_bt : Binds K fdt ["self", "line", "column"] []) : FnOk P w K mg base (L2.CX P w) 8 f fd Ppiecesof (spBadT CT) := by
  have G_bt : FnOk P w K mg base CX0 6 ft fdt ["self", "line", "column"] (spInitE CT) := (ok_btinit F_bt XT).mono (by decide)
  refine F.okX scpiecesof (fun vs H Q E h => ?_) (fun cdv A outer s H vs Q E hr h => ?_)
  · obtain ⟨v, rfl, _⟩ := h
    rfl
  · obtain ⟨v, rfl, ⟨u, ht, hk⟩, ke⟩ := h
    have hr1 := hr
    refine ⟨_, (pss_cons (ps_if (pt_not (pt_val (pe_callB call_isi (by rfl) T.isinstance (by decide +kernel) (pa_cons (pv 0) (pa_cons (pe_bltn (v := .ty "str") (by rfl) T.str (by decide +kernel) rfl) pa_nil)))))
      (pss_one (ps_raise rfl (takes_of rfl rfl rfl rfl) (pmk_oex XT.oex XT.ini XT.tyI G_bt hr1 B_bt .nil pass0 (by rfl) XT.gm (pa_cons pe_int (pa_cons pe_int pa_nil)))))
      pss_nil)
      pss_never), ?_⟩
    refine ⟨v, (by kernel_rfl), _, _, _, _, false, rfl, .ty "str", ht _, hk _, _, rfl, ?_⟩
    refine ite_yes rfl ?_
    refine ⟨by show 2 ≤ 1000; decide, fun a an => ⟨a, .int 0, .int 0, rfl, upd_same, fun d H' ha hd dn oth => ?_⟩⟩
    have nn := made_raise (fs := xdBT 0 0) an dn oth
    exact ⟨rfl, d, _, ha, hd, nn.2, ke d _ nn.1 upd_same⟩

abbrev slinesin : Stmt := top 21
abbrev Nlinesin : List Str := ["text", "piece"]
abbrev Plinesin : List Str := ["text"]
theorem sclinesin : FnScope Nlinesin Plinesin (defScope slinesin) := ⟨rfl, rfl, rfl, by decide +kernel, rfl, by decide +kernel, by decide +kernel⟩
theorem ok_lin {f fI fP : Addr} {fd fdI fdP : FuncData} {pI : List Str} (F : Fun K "lines_in" "lines_in" slinesin f fd) (T : LTxt mg) (G_is_line0 : FnOk P w K mg base CX0 7 fI fdI pI (spB isLin)) (kp_is_line : PySem.W.keepIn K (.ref fI) = true) (b_is_line : Binds K fdI pI []) (g_is_line : mg "is_line" = some (.ref fI))
    (F_pieces_of : Fun K "pieces_of" "pieces_of" spiecesof fP fdP) (b_pieces_of : Binds K fdP Ppiecesof []) (g_pieces_of : mg "pieces_of" = some (.ref fP)) : FnOk P w K mg base CX0 9 f fd Plinesin spLinesT := by
  have G_is_line := G_is_line0.mono (show 7 ≤ 8 by decide)
  have G_pieces_of : FnOk P w K mg base CX0 8 fP fdP Ppiecesof spPieces := (ok_pie F_pieces_of T).mono (by decide)
  refine F.ok sclinesin (fun vs H Q E h => ?_) (fun cdv A outer s H vs Q E hr h => ?_)
  · obtain ⟨t, rfl, _⟩ := h
    rfl
  · obtain ⟨t, rfl, hl, k⟩ := h
    have hr1 := hr
    refine ⟨_, (pss_one (ps_ret (pe_callTy call_tuple_of (by rfl) T.tuple (by decide +kernel) (pa_cons (pe_callTy (call_list_dK rfl) (by rfl) T.list (by decide +kernel) (pa_cons
      (pe_dc (own := [("piece", 1)]) (g := (gName 1)) rfl sclinesin.nd (pi_list (pe_call G_pieces_of hr1 rfl g_pieces_of F_pieces_of.kp b_pieces_of .nil pass0 (pa_cons (pv 0) pa_nil))) (blkOk_by (own := [("piece", 1)]) (N := Nlinesin) (sc := defScope slinesin) (by decide +kernel)) (fun _ _ _ _ _ => (pg_name (i := 1) sclinesin.nd rfl (Or.inl rfl))) (fun _ _ _ _ _ => pts_one (pt_val (pe_call G_is_line hr1 rfl g_is_line kp_is_line b_is_line .nil pass0 (pa_cons (pv 1) pa_nil)))) (fun _ _ _ _ _ => (pv 1)) (fun _ _ _ _ _ => pe_bl)) pa_nil)) pa_nil)))), ?_⟩
    refine ⟨.str t, (by kernel_rfl), t, rfl, hl, fun a H1 S1 ha => ?_⟩
    have each : ∀ q ∈ Txt.split t "\n", q.length ≤ 900000 := fun q m => by
      have := split_each (y := "\n") (by decide +kernel) (by decide +kernel) m
      omega
    have few := split_few t "\n"
    replace k : ∀ (p : Addr) (H' : Hp), Same H H' → H' p = some (.tup ((((Txt.split t "\n").dropLast).foldl addLine []).map V.str)) → Q (.ref p) H' := k
    have each' : ∀ q ∈ (Txt.split t "\n").dropLast, q.length ≤ 900000 := fun q m => each q (List.dropLast_subset _ m)
    have few' : (Txt.split t "\n").dropLast.length ≤ t.length + 2 := by rw [List.length_dropLast]; omega
    generalize (Txt.split t "\n").dropLast = ys at each' few' ha k ⊢
    refine ⟨a, rfl, ⟨_, SqL.of ha⟩, ?_⟩
    intro D nD
    refine dc_list (K := K) (a := a) (xs := ys.map V.str) (fun i H' => H' D = some (.dK (((ys.take i).foldl addLine []).map dkOf)) ∧ Same H1 H') ⟨upd_same, same_new nD⟩ (fun i H' _ ⟨_, S⟩ => SqL.of (S _ _ ha)) ?_ ?_
    · rintro i x H4 hi ⟨hD, S⟩
      rw [List.getElem?_map] at hi
      obtain ⟨y, hy, rfl⟩ := Option.map_eq_some_iff.mp hi
      have my : y ∈ ys := List.mem_of_getElem? hy
      have st : (ys.take (i + 1)).foldl addLine [] = addLine ((ys.take i).foldl addLine []) y := by
        rw [List.take_add_one, hy, List.foldl_append]
        rfl
      have lf := fold_len (ys.take i) []
      rw [List.length_take] at lf
      simp only [List.length_nil] at lf
      rw [st]
      generalize (ys.take i).foldl addLine [] = fd0 at hD lf ⊢
      refine ⟨rfl, ?_⟩
      refine ⟨.str y, (by kernel_rfl), y, rfl, each' y my, fun H5 S5 => ?_⟩
      refine ⟨_, rfl, ?_⟩
      have hD5 := S5 _ _ hD
      have SS := S.trans S5
      cases hi : isLin y with
      | false =>
        have e : addLine fd0 y = fd0 := by unfold addLine; rw [hi, if_neg (by simp)]
        rw [e]
        exact ⟨hD5, SS⟩
      | true =>
        have e : addLine fd0 y = if y ∈ fd0 then fd0 else fd0 ++ [y] := by
          unfold addLine
          rw [hi]
          by_cases m : y ∈ fd0
          · rw [decide_eq_true m, if_pos m, if_neg (by simp)]
          · rw [decide_eq_false m, if_neg m, if_pos (by rfl)]
        refine ⟨.str y, (by kernel_rfl), ?_⟩
        refine ⟨_, .inr y, rfl, hD5, small_big (by rw [List.length_map]; omega), ?_, same_put SS nD⟩
        rw [upd_same, put_dk, e]
    · rintro H4 ⟨hD, S⟩
      rw [List.length_map, List.take_length] at hD
      refine ⟨D, _, rfl, hD, fun l nl => ?_⟩
      rw [keys_dk]
      have s5 := same_new (o := .lst ((ys.foldl addLine []).map V.str)) nl
      have hl5 := upd_same (H := H4) (a := l) (o := .lst ((ys.foldl addLine []).map V.str))
      refine ⟨l, _, rfl, .inl ⟨SqL.of hl5, fun q nq => ?_⟩⟩
      exact k q _ (((S1.trans S).trans s5).trans (same_new nq)) upd_same
theorem ok_linbad {f ft fP : Addr} {fd fdt fdP : FuncData} (F : Fun K "lines_in" "lines_in" slinesin f fd) (T : LTxt mg) (XT : XCls K mg "BadText" CT ft ["line", "column"]) (F_bt : Fun K "__init__" "BadText.__init__" sBadTextinit ft fdt) (B_bt : Binds K fdt ["self", "line", "column"] [])
    (F_pieces_of : Fun K "pieces_of" "pieces_of" spiecesof fP fdP) (b_pieces_of : Binds K fdP Ppiecesof []) (g_pieces_of : mg "pieces_of" = some (.ref fP)) {fI : Addr} {fdI : FuncData} {pI : List Str} (G_is_line0 : FnOk P w K mg base CX0 7 fI fdI pI (spB isLin)) (kp_is_line : PySem.W.keepIn K (.ref fI) = true) (b_is_line : Binds K fdI pI []) (g_is_line : mg "is_line" = some (.ref fI)) : FnOk P w K mg base (L2.CX P w) 9 f fd Plinesin (spBadT CT) := by
  have G_is_line := G_is_line0.mono (show 7 ≤ 8 by decide)
  have G_pieces_of : FnOk P w K mg base (L2.CX P w) 8 fP fdP Ppiecesof (spBadT CT) := ok_piebad F_pieces_of T XT F_bt B_bt
  refine F.okX sclinesin (fun vs H Q E h => ?_) (fun cdv A outer s H vs Q E hr h => ?_)
  · obtain ⟨v, rfl, _⟩ := h
    rfl
  · obtain ⟨v, rfl, od, ke⟩ := h
    have hr1 := hr
    refine ⟨_, (pss_one (ps_ret (pe_callTy call_tuple_of (by rfl) T.tuple (by decide +kernel) (pa_cons (pe_callTy (call_list_dK rfl) (by rfl) T.list (by decide +kernel) (pa_cons
      (pe_dc (own := [("piece", 1)]) (g := (gName 1)) rfl sclinesin.nd (pi_list (pe_call (E := E) G_pieces_of hr1 rfl g_pieces_of F_pieces_of.kp b_pieces_of .nil (passes_call (takes_of rfl rfl rfl rfl) (fun _ _ _ _ h => h)) (pa_cons (pv 0) pa_nil))) (blkOk_by (own := [("piece", 1)]) (N := Nlinesin) (sc := defScope slinesin) (by decide +kernel)) (fun _ _ _ _ _ => (pg_name (i := 1) sclinesin.nd rfl (Or.inl rfl))) (fun _ _ _ _ _ => pts_one (pt_val (pe_call G_is_line hr1 rfl g_is_line kp_is_line b_is_line .nil pass0 (pa_cons (pv 1) pa_nil)))) (fun _ _ _ _ _ => (pv 1)) (fun _ _ _ _ _ => pe_bl)) pa_nil)) pa_nil)))), ?_⟩
    exact ⟨v, (by kernel_rfl), v, rfl, od, ke⟩
end
end Nm
namespace Nm
open PySem PySem.Spec PyProof.Rows L2
theorem ends_nl {t : Str} {c : Nat} (hc : atI (codes t) (-1) = some c) : Txt.endswith t "\n" = decide (c = 10) := by
  have hne : codes t ≠ [] := fun z => by
    rw [z] at hc
    cases hc
  have q : 0 < (codes t).length := List.length_pos_iff.mpr hne
  have hl : (codes t)[(codes t).length - 1]? = some c := by
    rw [← hc]
    unfold atI
    have e : ixN (codes t).length (-1) = some ((codes t).length - 1) := by
      unfold ixN
      rw [if_neg (by decide)]
      first
      | (rw [if_pos (by omega)]; congr 1; omega)
      | (simp; omega)
    rw [e]
    rfl
  have hd : (codes t).drop ((codes t).length - 1) = [c] := by
    obtain ⟨h, e⟩ := List.getElem?_eq_some_iff.mp hl
    rw [List.drop_eq_getElem_cons h, e, List.drop_of_length_le (by omega)]
  unfold Txt.endswith
  have l1 : ("\n" : Str).length = 1 := rfl
  rw [StrLaws.subAt_eq, l1, len_codes, decide_eq_true (by omega : 0 + 1 ≤ (codes t).length), Bool.true_and]
  show (((codes t).drop ((codes t).length - 1)).take 1 == [10]) = _
  rw [hd]
  by_cases h : c = 10
  · rw [decide_eq_true h, h]
    rfl
  · rw [decide_eq_false h]
    show ([c] == [10]) = false
    simp [h]
section
variable {P : Program} {w : World} {K : PySem.W.Frag} {mg : Str → Option Value} {base : Heap} {CN CT : Addr}
abbrev sappended : Stmt := top 22
abbrev Nappended : List Str := ["text", "lines", "torn"]
abbrev Pappended : List Str := ["text", "lines"]
theorem scappended : FnScope Nappended Pappended (defScope sappended) := ⟨rfl, rfl, rfl, by decide +kernel, rfl, by decide +kernel, by decide +kernel⟩

theorem ok_app {f fG : Addr} {fd fdG : FuncData} (F : Fun K "appended" "appended" sappended f fd) (F_log_text : Fun K "log_text" "log_text" slogtext fG fdG) (b_log_text : Binds K fdG Plogtext []) (g_log_text : mg "log_text" = some (.ref fG)) :
    FnOk P w K mg base CX0 2 f fd Pappended spApp := by
  have G_log_text : FnOk P w K mg base CX0 1 fG fdG Plogtext spLog2 := ok_log F_log_text
  refine F.ok scappended (fun vs H Q E h => ?_) (fun cdv A outer s H vs Q E hr h => ?_)
  · obtain ⟨t, p, ls, rfl, _⟩ := h
    rfl
  · obtain ⟨t, p, ls, rfl, ht, hp, hn, each, k⟩ := h
    have hr1 := hr
    refine ⟨_, (pss_cons (ps_set (i := 2) scappended.nd rfl (Or.inl rfl) (pe_and (pe_cmpR op_ne (pv 0) pe_str (nomark _)) (pe_one (pe_not (pe_m1 PySem.F.slot_str_endswith PySem.F.type_str_endswith mt_endswith (pv 0) pe_str)))))
      (pss_one (ps_ret (pe_op op_add_str (pe_op op_add_str (pv 0) (pe_ifExp (pt_val (pv 2)) pe_str pe_str)) (pe_call G_log_text hr1 rfl g_log_text F_log_text.kp b_log_text .nil pass0 (pa_cons (pv 1) pa_nil)))))), ?_⟩
    have ll := log_len each
    have q2 : ls.length * (5000 + 1) ≤ 100 * 5001 := Nat.mul_le_mul_right _ hn
    have l1 : ("\n" : Str).length = 1 := rfl
    have fin : ∀ (b : Str), glueT t = b → b.length ≤ 1 → ∀ H1, Same H H1 → t.length + b.length ≤ sizeLine ∧ (t ++ b).length + (logOf ls).length ≤ sizeLine ∧ Q (.str (t ++ b ++ logOf ls)) H1 := fun b e hb H1 S1 => by
      refine ⟨sz_of (by omega), sz_of (by rw [len_app]; omega), ?_⟩
      have := k H1 S1
      unfold appT at this
      rwa [e] at this
    refine ⟨.str t, (by kernel_rfl), rfl, ?_⟩
    rw [dec_str]
    by_cases h0 : t = ""
    · refine ⟨_, rfl, ite_no (by rw [decide_eq_true h0]; rfl) ?_⟩
      have e : glueT t = "" := by rw [h0]; rfl
      refine ⟨.str t, (by kernel_rfl), .bl false, (by kernel_rfl), _, rfl, ite_no rfl ?_⟩
      have z := fin "" e (Nat.zero_le _)
      exact ⟨t, "", rfl, rfl, (z H (fun _ _ e => e)).1, .ref p, (by kernel_rfl), p, ls, rfl, hp, hn, each, fun H1 S1 => ⟨_, _, rfl, rfl, (z H1 S1).2.1, (z H1 S1).2.2⟩⟩
    refine ⟨_, rfl, ite_yes (by rw [decide_eq_false h0]; rfl) ?_⟩
    obtain ⟨c, hc⟩ := atI_last (l := codes t) (fun z => h0 (str_ext (by rw [z]; rfl)))
    refine ⟨.str t, (by kernel_rfl), ⟨_, rfl⟩, t, "\n", rfl, rfl, ?_⟩
    rw [ends_nl hc]
    by_cases h1 : c = 10
    · rw [decide_eq_true h1]
      have e : glueT t = "" := by unfold glueT; rw [hc]; exact if_pos h1
      refine ⟨_, rfl, ?_⟩
      refine ⟨.str t, (by kernel_rfl), .bl false, (by kernel_rfl), _, rfl, ite_no rfl ?_⟩
      have z := fin "" e (Nat.zero_le _)
      exact ⟨t, "", rfl, rfl, (z H (fun _ _ e => e)).1, .ref p, (by kernel_rfl), p, ls, rfl, hp, hn, each, fun H1 S1 => ⟨_, _, rfl, rfl, (z H1 S1).2.1, (z H1 S1).2.2⟩⟩
    · rw [decide_eq_false h1]
      have e : glueT t = "\n" := by unfold glueT; rw [hc]; exact if_neg h1
      refine ⟨_, rfl, ?_⟩
      refine ⟨.str t, (by kernel_rfl), .bl true, (by kernel_rfl), _, rfl, ite_yes rfl ?_⟩
      have z := fin "\n" e (Nat.le_refl _)
      exact ⟨t, "\n", rfl, rfl, (z H (fun _ _ e => e)).1, .ref p, (by kernel_rfl), p, ls, rfl, hp, hn, each, fun H1 S1 => ⟨_, _, rfl, rfl, (z H1 S1).2.1, (z H1 S1).2.2⟩⟩
end
end Nm
namespace Nm
open PySem PySem.Spec PyProof.Rows L2
/-! ### the end, where the law's own body asks what guards run: none, at the caller -/
theorem entry {P : Program} {w : World} {K : PySem.W.Frag} {h : Heap} {a : Addr} {vs : List Value} {ns : List Int} (KX : K.In h) (ha : h.get? a = some { cls := .type "list", data := .seq vs.toArray }) (hi : IntsAre vs ns) (hl : ns.length ≤ sizeLine) :
    ∃ H : Hp, SqL K H a (ns.map V.int) ∧ HOk P w H h ∧ ∀ b u, H b = some u → b = a ∧ K.lookup a = none ∧ u = .frz { cls := .type "list", data := .seq vs.toArray } (.lst (ns.map V.int)) := by
  have rv := vals_ints hi
  have lenV := hi.length
  cases hk : K.lookup a with
  | some o =>
    have e := (KX a o hk).symm.trans ha
    cases e
    exact ⟨fun _ => none, .inr ⟨_, vs.toArray, _, hk, rfl, rfl, rfl, by rw [List.size_toArray, lenV]; exact hl, by simpa using rv⟩, (fun b u z => nomatch (show (none : Option HO) = some u from z)), fun b u z => nomatch (show (none : Option HO) = some u from z)⟩
  | none =>
    let o : Obj := { cls := .type "list", data := .seq vs.toArray }
    have at_ : ∀ b u, (if b = a then some (HO.frz o (.lst (ns.map V.int))) else none) = some u → b = a ∧ u = .frz o (.lst (ns.map V.int)) := fun b u z => by
      by_cases q : b = a
      · rw [if_pos q] at z
        exact ⟨q, (Option.some.inj z).symm⟩
      · rw [if_neg q] at z
        cases z
    refine ⟨fun b => if b = a then some (.frz o (.lst (ns.map V.int))) else none, .inl (.inr ⟨o, if_pos rfl⟩), fun b u z => ?_, fun b u z => ⟨(at_ b u z).1, rfl, (at_ b u z).2⟩⟩
    obtain ⟨rfl, rfl⟩ := at_ b u z
    exact ⟨ha, by rw [List.length_map]; exact hl, vs, _, rv, ha⟩
/-- a law's body, at the caller, from its term of rules and its reading -/
theorem walk_g {l : PySem.W.OpenLaw} {k : Nat} {q : Program} {loose : List Str} {XP : (Str → Option Value) → Heap → Prop} {YP : World → Heap → Prop} {d : DefRec} {K : Params → PySem.W.Frag} {x : Str} {N : List Str} {st : Stmt} {qual : Str}
    (hn : l.most = some 63) (hdf : d.params.defaults = []) (hr : Room (k + 1) callerA) (S : FnScope N [x] (defScope st)) (hY : ∀ (w : World) (h : Heap), YP w h → (K w.params).In h)
    (F : ∀ (w : World) (mg : Str → Option Value) (fa : Addr) (h : Heap), (K w.params).In h → h.Ns mainGlobals mg → mg d.name = some (.ref fa) →
      ∃ fd : FuncData, Fun (K w.params) qual qual st fa fd ∧ (∀ (s : Shared) (u : Value), BindsTo s fd ⟨[u], []⟩ [(x, u)]) ∧
        ∀ (base : Heap) (cdv : Value) (s : Shared) (H : Hp) (a : Addr) (ns : List Int), (K w.params).In base → base.Ns mainGlobals mg → ns.length ≤ 63 → SqL (K w.params) H a (ns.map V.int) →
          ∃ t, PSs (cxOf CX0 l.prog w (K w.params) mg base N qual (defScope st) fa cdv callerA [] s H E0).nox (defBody st) t ∧ t { nx := fun _ _ => False, rt := fun v _ => v = .bl true } (start N [.ref a]) H) :
    PySem.W.WalkO q loose XP YP l.row.toRowW d [] (fun f vs => PySem.call f vs) := by
  refine Att.attach_call hn hdf ?_
  intro w s₀ s₁ mg mb fa o pm cd doc a vs ns G Y ho hd hcd hmg hobj hints hlen hg
  have KX := hY w _ Y
  obtain ⟨fd, FF, hb, body⟩ := F w mg fa _ KX G.T.g hmg
  obtain ⟨H, hS, hok, only⟩ := entry (P := l.prog) (w := w) KX hobj hints (Nat.le_trans hlen (by decide))
  -- what the base keeps: all but the script
  have keepB : ∀ b o, s₁.heap.get? b = some o → (b = a → (K w.params).lookup a = none → False) → (hidT s₁.heap H).get? b = some o := fun b o e n => hidT_get e (by
    cases z : H b with
    | none => rfl
    | some u => exact (n (only b u z).1 (only b u z).2.1).elim)
  have KB : (K w.params).In (hidT s₁.heap H) := fun b o e => keepB b o (KX b o e) fun q z => by
    rw [q, z] at e
    cases e
  have nsB : ∀ {b : Addr} {m : Str → Option Value}, s₁.heap.Ns b m → (hidT s₁.heap H).Ns b m := fun {b m} n => by
    obtain ⟨o, es, ep, e, hdat, r⟩ := n
    refine ⟨o, es, ep, keepB b o e fun q _ => ?_, hdat, r⟩
    rw [q, hobj] at e
    cases e
    cases hdat
  have limB : (hidT s₁.heap H).NoLimit := by
    obtain ⟨mc, h1, h2⟩ := G.T.nolimit
    exact ⟨mc, nsB h1, h2⟩
  have e0 : Env0 l.prog w (K w.params) mg (hidT s₁.heap H) callerA [] s₁ H :=
    { frames := rfl, mod := ⟨KB, nsB G.T.g, ⟨mb, nsB G.T.b, G.T.builtins⟩, limB⟩, bs := fun b o e => of_hidT e, bsz := Nat.le_of_eq (hidT_size _ _), funs := trivial, frf := (fun b z => by cases z), hok := hok, bare := .of_eq hg }
  obtain ⟨oc, od, kV, dc, pmv, an, cdv, ct, osl, rfl, lk, hcode⟩ := FF.ex
  have hpar : (defScope st).names.lookup x = some .local ∨ (defScope st).names.lookup x = some .cell := S.par x (List.mem_singleton.mpr rfl)
  refine Att.call_fn KX G.T.nolimit lk hcode hr.depth (hb s₁ (.ref a)) ?_ (fun s2 ic => ?_) S.co S.gen S.kind
  · rcases hpar with z | z <;> simp [z]
  obtain ⟨t, ht, hq⟩ := body _ cdv s₁ H a ns KB (nsB G.T.g) hlen hS
  have I : Inv (cxOf CX0 l.prog w (K w.params) mg (hidT s₁.heap H) N qual (defScope st) fa cdv callerA [] s₁ H E0) [] (start N [.ref a]) H s2 := inv_start S hr.hd e0 rfl (.cons rfl .nil) ic
  have old : ∀ (s' : Shared) (σ' : L2.St) (H' : Hp), Inv (cxOf CX0 l.prog w (K w.params) mg (hidT s₁.heap H) N qual (defScope st) fa cdv callerA [] s₁ H E0) [] σ' H' s' → OldK s₁.heap s'.heap := fun s' σ' H' J => by
    refine OldK.of_keep fun b o e => ?_
    cases z : H b with
    | none => exact J.base.keep b o e z (by intro y; cases y) (by intro y; cases y)
    | some u =>
      obtain ⟨_, _, rfl⟩ := only b u z
      have p1 := (hok b _ z).1
      have p2 := (J.hok b _ (J.base.frzs b _ _ z)).1
      rw [e] at p1
      cases p1
      exact p2
  refine wpAny_mono (ht.nox.run [] s2 _ H _ I hq) ?_ ?_
  · intro fl s' hs
    cases fl with
    | ret u =>
      obtain ⟨v, σ', H', J, rv, q⟩ := hs
      have q' : v = V.bl true := q
      subst q'
      have ru : u = Value.bool true := rv
      subst ru
      exact ⟨rfl, old _ _ _ J, J.os, J.bare⟩
    | next =>
      obtain ⟨_, _, _, q⟩ := hs
      exact False.elim q
    | brk =>
      obtain ⟨_, _, _, q⟩ := hs
      exact False.elim q
    | cont =>
      obtain ⟨_, _, _, q⟩ := hs
      exact False.elim q
  · intro e s' hs
    exact wpAny_mono hs (fun _ _ z => False.elim z) fun _ _ z => False.elim z
end Nm
namespace Nm
open PySem PySem.Spec PyProof.Rows L2
/-! ### the end: what the top has written -/
/-- a def of the text, raw -/
structure FRaw (K : PySem.W.Frag) (x qual : Str) (st : Stmt) (f : Addr) : Prop where
  ex : ∃ (oc : Value) (od : Option Addr) (kV doc pm : Value) (an : Option Addr) (cdv ct : Value) (osl : Array (Option Value)),
    K.lookup f = some ⟨oc, od, .func (PySem.W.fnOf x qual (defArgs st) (defBody st) (defScope st) .none kV doc pm an cdv ct), osl⟩ ∧ PySem.W.codeIn K cdv qual = true
  kp : PySem.W.keepIn K (.ref f) = true
theorem fraw_mk {K : PySem.W.Frag} {x qual : Str} {st : Stmt} {f : Addr} {oc : Value} {od an : Option Addr} {osl : Array (Option Value)} {kV doc pm cdv ct : Value} (l : K.lookup f = some ⟨oc, od, .func (PySem.W.fnOf x qual (defArgs st) (defBody st) (defScope st) .none kV doc pm an cdv ct), osl⟩)
    (c : PySem.W.codeIn K cdv qual = true) (k : PySem.W.keepIn K (.ref f) = true) : FRaw K x qual st f := ⟨⟨oc, od, kV, doc, pm, an, cdv, ct, osl, l, c⟩, k⟩

theorem exm_sub {K : PySem.W.Frag} {S T : Addr} {b : Bool} (h1 : PySem.W.subIn K (.ref S) (.type "BaseException") = some true) (h2 : PySem.W.isClsIn K S = true) (h3 : PySem.W.typeIn K (.ref S) = some (.type "type")) (h4 : PySem.W.subIn K (.ref T) (.ref S) = some b) : PySem.W.exmOne K (.ref T) (.ref S) = some b := by
  have a1 : (PySem.W.subIn K (.ref S) (.type "BaseException") == some true) = true := by rw [h1]; rfl
  have a2 : ((PySem.W.clsIn K S).isSome && PySem.W.typeIn K (.ref S) == some (.type "type")) = true := by
    rw [show (PySem.W.clsIn K S).isSome = true from h2, h3]
    rfl
  show (if (PySem.W.subIn K (.ref S) (.type "BaseException") == some true) = true then (if ((PySem.W.clsIn K S).isSome && PySem.W.typeIn K (.ref S) == some (.type "type")) = true then PySem.W.subIn K (.ref T) (.ref S) else none) else none) = some b
  rw [if_pos a1, if_pos a2]
  exact h4

structure XRaw (K : PySem.W.Frag) (x : Str) (C J : Addr) : Prop where
  ns : PySem.W.nsIn K mainGlobals x = some (some (.ref C))
  cls : ∃ nm q N bs sn sub ab col dd m0 m1 m2 m3 m5, K.lookup C = some (excClassObj nm q C N bs [.ref J, .type "ValueError", .type "Exception", .type "BaseException", .type "object"] true sn sub ab col dd m0 m1 m2 m3 m5 "ValueError.__new__")
  sa : PySem.W.findIn K (.ref C) "__setattr__" = some (some (.builtin "object.__setattr__"))
  ga : PySem.W.findIn K (.ref C) "__getattribute__" = some (some (.builtin "BaseException.__getattribute__"))
  gg : PySem.W.findIn K (.ref C) "__getattr__" = some none
  sb : PySem.W.subIn K (.ref C) (.type "BaseException") = some true
  ty : PySem.W.typeIn K (.ref C) = some (.type "type")
  kp : PySem.W.keepIn K (.ref C) = true
  ca : PySem.W.findIn K (.ref C) "__class__" = some (some (.builtin "object.__class__"))
  mo : PySem.W.mroIn K C (.type "object") = some true
  hd : PySem.W.hasDictIn K C = true
theorem xraw_mk {K : PySem.W.Frag} {x : Str} {C J : Addr} {nm q : Str} {N : Addr} {bs : List Value} {sn : List Str} {sub : List Value} {ab : Bool} {col : Option Bool} {dd : Option Addr} {m0 m1 m2 m3 m5 : Option Value}
    (ns : PySem.W.nsIn K mainGlobals x = some (some (.ref C)))
    (cls : K.lookup C = some (excClassObj nm q C N bs [.ref J, .type "ValueError", .type "Exception", .type "BaseException", .type "object"] true sn sub ab col dd m0 m1 m2 m3 m5 "ValueError.__new__"))
    (sa : PySem.W.findIn K (.ref C) "__setattr__" = some (some (.builtin "object.__setattr__")))
    (ga : PySem.W.findIn K (.ref C) "__getattribute__" = some (some (.builtin "BaseException.__getattribute__")))
    (gg : PySem.W.findIn K (.ref C) "__getattr__" = some none)
    (sb : PySem.W.subIn K (.ref C) (.type "BaseException") = some true)
    (ty : PySem.W.typeIn K (.ref C) = some (.type "type"))
    (kp : PySem.W.keepIn K (.ref C) = true)
    (ca : PySem.W.findIn K (.ref C) "__class__" = some (some (.builtin "object.__class__")))
    (mo : PySem.W.mroIn K C (.type "object") = some true)
    (hd : PySem.W.hasDictIn K C = true) : XRaw K x C J := ⟨ns, ⟨nm, q, N, bs, sn, sub, ab, col, dd, m0, m1, m2, m3, m5, cls⟩, sa, ga, gg, sb, ty, kp, ca, mo, hd⟩
theorem XRaw.oex {K : PySem.W.Frag} {x : Str} {C J : Addr} (r : XRaw K x C J) : OexC K C := by
  obtain ⟨nm, q, N, bs, sn, sub, ab, col, dd, m0, m1, m2, m3, m5, e⟩ := r.cls
  refine ⟨⟨nm, q, N, bs, _, sn, sub, ab, col, dd, m0, m1, m2, m3, m5, e, ?_⟩, r.sa, r.sb, r.ty, r.kp⟩
  show PySem.HandSPX.refsVE [.type "ValueError", .type "Exception", .type "BaseException", .type "object"] = true
  decide +kernel

theorem fin {P : Program} {w : World} {K : PySem.W.Frag} {h : Heap} {mg : Str → Option Value} {fa CN CT J fn ft fA fN fB fC fM fV fR fI fP fG fS fL fA2 f1 fD fQ f2 f3 f4 f5 f6 f7 f8 f9 g1 g2 g3 g4 g5 fz : Addr} {t_BIG_LETTERS t_SMALL_LETTERS t_DIGITS t_MOST_SIGNS : Tok} (X : K.In h) (G : h.Ns mainGlobals mg) (hfa : mg "law" = some (.ref fa))
    (z_len : PySem.W.nsIn K mainGlobals "len" = some none)
    (z_range : PySem.W.nsIn K mainGlobals "range" = some none)
    (z_isinstance : PySem.W.nsIn K mainGlobals "isinstance" = some none)
    (z_str : PySem.W.nsIn K mainGlobals "str" = some none)
    (z_int : PySem.W.nsIn K mainGlobals "int" = some none)
    (z_bool : PySem.W.nsIn K mainGlobals "bool" = some none)
    (z_tuple : PySem.W.nsIn K mainGlobals "tuple" = some none)
    (z_list : PySem.W.nsIn K mainGlobals "list" = some none)
    (z_enumerate : PySem.W.nsIn K mainGlobals "enumerate" = some none)
    (z_all : PySem.W.nsIn K mainGlobals "all" = some none)
    (v_BIG_LETTERS : PySem.W.nsIn K mainGlobals "BIG_LETTERS" = some (some (.str "ABCDEFGHIJKLMNOPQRSTUVWXYZ" t_BIG_LETTERS)))
    (v_SMALL_LETTERS : PySem.W.nsIn K mainGlobals "SMALL_LETTERS" = some (some (.str "abcdefghijklmnopqrstuvwxyz" t_SMALL_LETTERS)))
    (v_DIGITS : PySem.W.nsIn K mainGlobals "DIGITS" = some (some (.str "0123456789" t_DIGITS)))
    (v_MOST_SIGNS : PySem.W.nsIn K mainGlobals "MOST_SIGNS" = some (some (.int 24 t_MOST_SIGNS)))
    (x_BadName : XRaw K "BadName" CN J)
    (i_BadName : PySem.W.findIn K (.ref CN) "__init__" = some (some (.ref fn)))
    (t_BadName : PySem.W.typeIn K (.ref fn) = some (.type "function"))
    (n_BadName_name : PySem.W.findIn K (.ref CN) "name" = some none)
    (c_BadName : PySem.W.isClsIn K CN = true)
    (s_BadName : PySem.W.subIn K (.ref CN) (.ref CN) = some true)
    (d_BadName : FRaw K "__init__" "BadName.__init__" sBadNameinit fn)
    (x_BadText : XRaw K "BadText" CT J)
    (i_BadText : PySem.W.findIn K (.ref CT) "__init__" = some (some (.ref ft)))
    (t_BadText : PySem.W.typeIn K (.ref ft) = some (.type "function"))
    (n_BadText_line : PySem.W.findIn K (.ref CT) "line" = some none)
    (n_BadText_column : PySem.W.findIn K (.ref CT) "column" = some none)
    (c_BadText : PySem.W.isClsIn K CT = true)
    (s_BadText : PySem.W.subIn K (.ref CT) (.ref CT) = some true)
    (d_BadText : FRaw K "__init__" "BadText.__init__" sBadTextinit ft)
    (s_TN : PySem.W.subIn K (.ref CT) (.ref CN) = some false)
    (g_all_among : PySem.W.nsIn K mainGlobals "all_among" = some (some (.ref fA)))
    (d_all_among : FRaw K "all_among" "all_among" sallamong fA)
    (g_is_name : PySem.W.nsIn K mainGlobals "is_name" = some (some (.ref fN)))
    (d_is_name : FRaw K "is_name" "is_name" sisname fN)
    (g_is_big : PySem.W.nsIn K mainGlobals "is_big" = some (some (.ref fB)))
    (d_is_big : FRaw K "is_big" "is_big" sisbig fB)
    (g_is_natural : PySem.W.nsIn K mainGlobals "is_natural" = some (some (.ref fC)))
    (d_is_natural : FRaw K "is_natural" "is_natural" sisnatural fC)
    (g_is_written : PySem.W.nsIn K mainGlobals "is_written" = some (some (.ref fM)))
    (d_is_written : FRaw K "is_written" "is_written" siswritten fM)
    (g_is_word : PySem.W.nsIn K mainGlobals "is_word" = some (some (.ref fV)))
    (d_is_word : FRaw K "is_word" "is_word" sisword fV)
    (g_are_parts : PySem.W.nsIn K mainGlobals "are_parts" = some (some (.ref fR)))
    (d_are_parts : FRaw K "are_parts" "are_parts" sareparts fR)
    (g_is_line : PySem.W.nsIn K mainGlobals "is_line" = some (some (.ref fI)))
    (d_is_line : FRaw K "is_line" "is_line" sisline fI)
    (g_parent_of : PySem.W.nsIn K mainGlobals "parent_of" = some (some (.ref fP)))
    (d_parent_of : FRaw K "parent_of" "parent_of" sparentof fP)
    (g_log_text : PySem.W.nsIn K mainGlobals "log_text" = some (some (.ref fG)))
    (d_log_text : FRaw K "log_text" "log_text" slogtext fG)
    (g_pieces_of : PySem.W.nsIn K mainGlobals "pieces_of" = some (some (.ref fS)))
    (d_pieces_of : FRaw K "pieces_of" "pieces_of" spiecesof fS)
    (g_lines_in : PySem.W.nsIn K mainGlobals "lines_in" = some (some (.ref fL)))
    (d_lines_in : FRaw K "lines_in" "lines_in" slinesin fL)
    (g_appended : PySem.W.nsIn K mainGlobals "appended" = some (some (.ref fA2)))
    (d_appended : FRaw K "appended" "appended" sappended fA2)
    (g_law_pen : PySem.W.nsIn K mainGlobals "_law_pen" = some (some (.ref f1)))
    (d_law_pen : FRaw K "_law_pen" "_law_pen" sPen f1)
    (g_law_draw : PySem.W.nsIn K mainGlobals "_law_draw" = some (some (.ref fD)))
    (d_law_draw : FRaw K "_law_draw" "_law_draw" sDraw fD)
    (g_law_pick : PySem.W.nsIn K mainGlobals "_law_pick" = some (some (.ref fQ)))
    (d_law_pick : FRaw K "_law_pick" "_law_pick" sPick fQ)
    (g_law_counts : PySem.W.nsIn K mainGlobals "_law_counts" = some (some (.ref f2)))
    (d_law_counts : FRaw K "_law_counts" "_law_counts" sLcounts f2)
    (g_law_named : PySem.W.nsIn K mainGlobals "_law_named" = some (some (.ref f3)))
    (d_law_named : FRaw K "_law_named" "_law_named" sLnamed f3)
    (g_law_met_word : PySem.W.nsIn K mainGlobals "_law_met_word" = some (some (.ref f4)))
    (d_law_met_word : FRaw K "_law_met_word" "_law_met_word" sLmetword f4)
    (g_law_is_line : PySem.W.nsIn K mainGlobals "_law_is_line" = some (some (.ref f5)))
    (d_law_is_line : FRaw K "_law_is_line" "_law_is_line" sLisline f5)
    (g_law_lines_in : PySem.W.nsIn K mainGlobals "_law_lines_in" = some (some (.ref f6)))
    (d_law_lines_in : FRaw K "_law_lines_in" "_law_lines_in" sLlinesin f6)
    (g_law_log_text : PySem.W.nsIn K mainGlobals "_law_log_text" = some (some (.ref f7)))
    (d_law_log_text : FRaw K "_law_log_text" "_law_log_text" sLlogtext f7)
    (g_law_appended : PySem.W.nsIn K mainGlobals "_law_appended" = some (some (.ref f8)))
    (d_law_appended : FRaw K "_law_appended" "_law_appended" sLappended f8)
    (g_law_bent : PySem.W.nsIn K mainGlobals "_law_bent" = some (some (.ref f9)))
    (d_law_bent : FRaw K "_law_bent" "_law_bent" sLbent f9)
    (g_law_some_line : PySem.W.nsIn K mainGlobals "_law_some_line" = some (some (.ref g1)))
    (d_law_some_line : FRaw K "_law_some_line" "_law_some_line" sLsomeline g1)
    (g_law_spoilt : PySem.W.nsIn K mainGlobals "_law_spoilt" = some (some (.ref g2)))
    (d_law_spoilt : FRaw K "_law_spoilt" "_law_spoilt" sLspoilt g2)
    (g_law_refusal : PySem.W.nsIn K mainGlobals "_law_refusal" = some (some (.ref g3)))
    (d_law_refusal : FRaw K "_law_refusal" "_law_refusal" sLrefusal g3)
    (g_law_words_right : PySem.W.nsIn K mainGlobals "_law_words_right" = some (some (.ref g4)))
    (d_law_words_right : FRaw K "_law_words_right" "_law_words_right" sLwordsright g4)
    (g_law_odd_right : PySem.W.nsIn K mainGlobals "_law_odd_right" = some (some (.ref g5)))
    (d_law_odd_right : FRaw K "_law_odd_right" "_law_odd_right" sLoddright g5)
    (g_law : PySem.W.nsIn K mainGlobals "law" = some (some (.ref fz)))
    (d_law : FRaw K "law" "law" slaw fz)
    : ∃ fd : FuncData, Fun K "law" "law" slaw fa fd ∧ (∀ (s : Shared) (u : Value), BindsTo s fd ⟨[u], []⟩ [("_law_script", u)]) ∧
        ∀ (base : Heap) (cdv : Value) (s : Shared) (H : Hp) (a : Addr) (ns : List Int), K.In base → base.Ns mainGlobals mg → ns.length ≤ 63 → SqL K H a (ns.map V.int) →
          ∃ t, PSs (cxOf CX0 P w K mg base Nlaw "law" (defScope slaw) fa cdv callerA [] s H E0).nox (defBody slaw) t ∧ t { nx := fun _ _ => False, rt := fun v _ => v = .bl true } (start Nlaw [.ref a]) H := by
  have e := hfa.symm.trans (PySem.W.mg_of X G g_law)
  cases e
  have XN : XCls K mg "BadName" CN fn ["name"] :=
    { gm := PySem.W.mg_of X G x_BadName.ns, oex := x_BadName.oex, ini := i_BadName, tyI := t_BadName, xf := ⟨x_BadName.ga, x_BadName.gg, x_BadName.sb, x_BadName.hd⟩, te := exm_sub x_BadName.sb c_BadName x_BadName.ty s_BadName,
      no := fun f hf => by
        simp only [List.mem_cons, List.not_mem_nil, or_false] at hf
        rcases hf with rfl <;> assumption }
  have XT : XCls K mg "BadText" CT ft ["line", "column"] :=
    { gm := PySem.W.mg_of X G x_BadText.ns, oex := x_BadText.oex, ini := i_BadText, tyI := t_BadText, xf := ⟨x_BadText.ga, x_BadText.gg, x_BadText.sb, x_BadText.hd⟩, te := exm_sub x_BadText.sb c_BadText x_BadText.ty s_BadText,
      no := fun f hf => by
        simp only [List.mem_cons, List.not_mem_nil, or_false] at hf
        rcases hf with rfl | rfl <;> assumption }
  have xx : PySem.W.exmOne K (.ref CT) (.ref CN) = some false := exm_sub x_BadName.sb c_BadName x_BadName.ty s_TN
  obtain ⟨oc, od, kV, doc, pm, an, cdv, ct, osl, lk, cc⟩ := d_BadName.ex
  have F_BadName := fun_mk (st := sBadNameinit) lk cc d_BadName.kp
  have B_BadName := F_BadName.binds (ps := ["self", "name"]) fun _ _ _ _ _ _ us hl => match us, hl with | [_, _], _ => rfl
  generalize PySem.W.fnOf _ _ _ _ _ _ kV doc pm an cdv ct = fd_BadName at F_BadName B_BadName
  clear lk cc
  obtain ⟨oc, od, kV, doc, pm, an, cdv, ct, osl, lk, cc⟩ := d_BadText.ex
  have F_BadText := fun_mk (st := sBadTextinit) lk cc d_BadText.kp
  have B_BadText := F_BadText.binds (ps := ["self", "line", "column"]) fun _ _ _ _ _ _ us hl => match us, hl with | [_, _, _], _ => rfl
  generalize PySem.W.fnOf _ _ _ _ _ _ kV doc pm an cdv ct = fd_BadText at F_BadText B_BadText
  clear lk cc
  obtain ⟨oc, od, kV, doc, pm, an, cdv, ct, osl, lk, cc⟩ := d_all_among.ex
  have F_all_among := fun_mk (st := sallamong) lk cc d_all_among.kp
  have B_all_among := F_all_among.binds (ps := ["text", "signs"]) fun _ _ _ _ _ _ us hl => match us, hl with | [_, _], _ => rfl
  generalize PySem.W.fnOf _ _ _ _ _ _ kV doc pm an cdv ct = fd_all_among at F_all_among B_all_among
  clear lk cc
  obtain ⟨oc, od, kV, doc, pm, an, cdv, ct, osl, lk, cc⟩ := d_is_name.ex
  have F_is_name := fun_mk (st := sisname) lk cc d_is_name.kp
  have B_is_name := F_is_name.binds (ps := ["word", "first_signs"]) fun _ _ _ _ _ _ us hl => match us, hl with | [_, _], _ => rfl
  generalize PySem.W.fnOf _ _ _ _ _ _ kV doc pm an cdv ct = fd_is_name at F_is_name B_is_name
  clear lk cc
  obtain ⟨oc, od, kV, doc, pm, an, cdv, ct, osl, lk, cc⟩ := d_is_big.ex
  have F_is_big := fun_mk (st := sisbig) lk cc d_is_big.kp
  have B_is_big := F_is_big.binds (ps := ["word"]) fun _ _ _ _ _ _ us hl => match us, hl with | [_], _ => rfl
  generalize PySem.W.fnOf _ _ _ _ _ _ kV doc pm an cdv ct = fd_is_big at F_is_big B_is_big
  clear lk cc
  obtain ⟨oc, od, kV, doc, pm, an, cdv, ct, osl, lk, cc⟩ := d_is_natural.ex
  have F_is_natural := fun_mk (st := sisnatural) lk cc d_is_natural.kp
  have B_is_natural := F_is_natural.binds (ps := ["word"]) fun _ _ _ _ _ _ us hl => match us, hl with | [_], _ => rfl
  generalize PySem.W.fnOf _ _ _ _ _ _ kV doc pm an cdv ct = fd_is_natural at F_is_natural B_is_natural
  clear lk cc
  obtain ⟨oc, od, kV, doc, pm, an, cdv, ct, osl, lk, cc⟩ := d_is_written.ex
  have F_is_written := fun_mk (st := siswritten) lk cc d_is_written.kp
  have B_is_written := F_is_written.binds (ps := ["word"]) fun _ _ _ _ _ _ us hl => match us, hl with | [_], _ => rfl
  generalize PySem.W.fnOf _ _ _ _ _ _ kV doc pm an cdv ct = fd_is_written at F_is_written B_is_written
  clear lk cc
  obtain ⟨oc, od, kV, doc, pm, an, cdv, ct, osl, lk, cc⟩ := d_is_word.ex
  have F_is_word := fun_mk (st := sisword) lk cc d_is_word.kp
  have B_is_word := F_is_word.binds (ps := ["part"]) fun _ _ _ _ _ _ us hl => match us, hl with | [_], _ => rfl
  generalize PySem.W.fnOf _ _ _ _ _ _ kV doc pm an cdv ct = fd_is_word at F_is_word B_is_word
  clear lk cc
  obtain ⟨oc, od, kV, doc, pm, an, cdv, ct, osl, lk, cc⟩ := d_are_parts.ex
  have F_are_parts := fun_mk (st := sareparts) lk cc d_are_parts.kp
  have B_are_parts := F_are_parts.binds (ps := ["parts"]) fun _ _ _ _ _ _ us hl => match us, hl with | [_], _ => rfl
  generalize PySem.W.fnOf _ _ _ _ _ _ kV doc pm an cdv ct = fd_are_parts at F_are_parts B_are_parts
  clear lk cc
  obtain ⟨oc, od, kV, doc, pm, an, cdv, ct, osl, lk, cc⟩ := d_is_line.ex
  have F_is_line := fun_mk (st := sisline) lk cc d_is_line.kp
  have B_is_line := F_is_line.binds (ps := ["word"]) fun _ _ _ _ _ _ us hl => match us, hl with | [_], _ => rfl
  generalize PySem.W.fnOf _ _ _ _ _ _ kV doc pm an cdv ct = fd_is_line at F_is_line B_is_line
  clear lk cc
  obtain ⟨oc, od, kV, doc, pm, an, cdv, ct, osl, lk, cc⟩ := d_parent_of.ex
  have F_parent_of := fun_mk (st := sparentof) lk cc d_parent_of.kp
  have B_parent_of := F_parent_of.binds (ps := ["line"]) fun _ _ _ _ _ _ us hl => match us, hl with | [_], _ => rfl
  generalize PySem.W.fnOf _ _ _ _ _ _ kV doc pm an cdv ct = fd_parent_of at F_parent_of B_parent_of
  clear lk cc
  obtain ⟨oc, od, kV, doc, pm, an, cdv, ct, osl, lk, cc⟩ := d_log_text.ex
  have F_log_text := fun_mk (st := slogtext) lk cc d_log_text.kp
  have B_log_text := F_log_text.binds (ps := ["lines"]) fun _ _ _ _ _ _ us hl => match us, hl with | [_], _ => rfl
  generalize PySem.W.fnOf _ _ _ _ _ _ kV doc pm an cdv ct = fd_log_text at F_log_text B_log_text
  clear lk cc
  obtain ⟨oc, od, kV, doc, pm, an, cdv, ct, osl, lk, cc⟩ := d_pieces_of.ex
  have F_pieces_of := fun_mk (st := spiecesof) lk cc d_pieces_of.kp
  have B_pieces_of := F_pieces_of.binds (ps := ["text"]) fun _ _ _ _ _ _ us hl => match us, hl with | [_], _ => rfl
  generalize PySem.W.fnOf _ _ _ _ _ _ kV doc pm an cdv ct = fd_pieces_of at F_pieces_of B_pieces_of
  clear lk cc
  obtain ⟨oc, od, kV, doc, pm, an, cdv, ct, osl, lk, cc⟩ := d_lines_in.ex
  have F_lines_in := fun_mk (st := slinesin) lk cc d_lines_in.kp
  have B_lines_in := F_lines_in.binds (ps := ["text"]) fun _ _ _ _ _ _ us hl => match us, hl with | [_], _ => rfl
  generalize PySem.W.fnOf _ _ _ _ _ _ kV doc pm an cdv ct = fd_lines_in at F_lines_in B_lines_in
  clear lk cc
  obtain ⟨oc, od, kV, doc, pm, an, cdv, ct, osl, lk, cc⟩ := d_appended.ex
  have F_appended := fun_mk (st := sappended) lk cc d_appended.kp
  have B_appended := F_appended.binds (ps := ["text", "lines"]) fun _ _ _ _ _ _ us hl => match us, hl with | [_, _], _ => rfl
  generalize PySem.W.fnOf _ _ _ _ _ _ kV doc pm an cdv ct = fd_appended at F_appended B_appended
  clear lk cc
  obtain ⟨oc, od, kV, doc, pm, an, cdv, ct, osl, lk, cc⟩ := d_law_pen.ex
  have F_law_pen := fun_mk (st := sPen) lk cc d_law_pen.kp
  have B_law_pen := F_law_pen.binds (ps := ["_law_script"]) fun _ _ _ _ _ _ us hl => match us, hl with | [_], _ => rfl
  generalize PySem.W.fnOf _ _ _ _ _ _ kV doc pm an cdv ct = fd_law_pen at F_law_pen B_law_pen
  clear lk cc
  obtain ⟨oc, od, kV, doc, pm, an, cdv, ct, osl, lk, cc⟩ := d_law_draw.ex
  have F_law_draw := fun_mk (st := sDraw) lk cc d_law_draw.kp
  have B_law_draw := F_law_draw.binds (ps := ["_law_pen_here", "_law_many"]) fun _ _ _ _ _ _ us hl => match us, hl with | [_, _], _ => rfl
  generalize PySem.W.fnOf _ _ _ _ _ _ kV doc pm an cdv ct = fd_law_draw at F_law_draw B_law_draw
  clear lk cc
  obtain ⟨oc, od, kV, doc, pm, an, cdv, ct, osl, lk, cc⟩ := d_law_pick.ex
  have F_law_pick := fun_mk (st := sPick) lk cc d_law_pick.kp
  have B_law_pick := F_law_pick.binds (ps := ["_law_pen_here", "_law_some"]) fun _ _ _ _ _ _ us hl => match us, hl with | [_, _], _ => rfl
  generalize PySem.W.fnOf _ _ _ _ _ _ kV doc pm an cdv ct = fd_law_pick at F_law_pick B_law_pick
  clear lk cc
  obtain ⟨oc, od, kV, doc, pm, an, cdv, ct, osl, lk, cc⟩ := d_law_counts.ex
  have F_law_counts := fun_mk (st := sLcounts) lk cc d_law_counts.kp
  have B_law_counts := F_law_counts.binds (ps := ["_law_word"]) fun _ _ _ _ _ _ us hl => match us, hl with | [_], _ => rfl
  generalize PySem.W.fnOf _ _ _ _ _ _ kV doc pm an cdv ct = fd_law_counts at F_law_counts B_law_counts
  clear lk cc
  obtain ⟨oc, od, kV, doc, pm, an, cdv, ct, osl, lk, cc⟩ := d_law_named.ex
  have F_law_named := fun_mk (st := sLnamed) lk cc d_law_named.kp
  have B_law_named := F_law_named.binds (ps := ["_law_word", "_law_first"]) fun _ _ _ _ _ _ us hl => match us, hl with | [_, _], _ => rfl
  generalize PySem.W.fnOf _ _ _ _ _ _ kV doc pm an cdv ct = fd_law_named at F_law_named B_law_named
  clear lk cc
  obtain ⟨oc, od, kV, doc, pm, an, cdv, ct, osl, lk, cc⟩ := d_law_met_word.ex
  have F_law_met_word := fun_mk (st := sLmetword) lk cc d_law_met_word.kp
  have B_law_met_word := F_law_met_word.binds (ps := ["_law_word"]) fun _ _ _ _ _ _ us hl => match us, hl with | [_], _ => rfl
  generalize PySem.W.fnOf _ _ _ _ _ _ kV doc pm an cdv ct = fd_law_met_word at F_law_met_word B_law_met_word
  clear lk cc
  obtain ⟨oc, od, kV, doc, pm, an, cdv, ct, osl, lk, cc⟩ := d_law_is_line.ex
  have F_law_is_line := fun_mk (st := sLisline) lk cc d_law_is_line.kp
  have B_law_is_line := F_law_is_line.binds (ps := ["_law_word"]) fun _ _ _ _ _ _ us hl => match us, hl with | [_], _ => rfl
  generalize PySem.W.fnOf _ _ _ _ _ _ kV doc pm an cdv ct = fd_law_is_line at F_law_is_line B_law_is_line
  clear lk cc
  obtain ⟨oc, od, kV, doc, pm, an, cdv, ct, osl, lk, cc⟩ := d_law_lines_in.ex
  have F_law_lines_in := fun_mk (st := sLlinesin) lk cc d_law_lines_in.kp
  have B_law_lines_in := F_law_lines_in.binds (ps := ["_law_text"]) fun _ _ _ _ _ _ us hl => match us, hl with | [_], _ => rfl
  generalize PySem.W.fnOf _ _ _ _ _ _ kV doc pm an cdv ct = fd_law_lines_in at F_law_lines_in B_law_lines_in
  clear lk cc
  obtain ⟨oc, od, kV, doc, pm, an, cdv, ct, osl, lk, cc⟩ := d_law_log_text.ex
  have F_law_log_text := fun_mk (st := sLlogtext) lk cc d_law_log_text.kp
  have B_law_log_text := F_law_log_text.binds (ps := ["_law_lines"]) fun _ _ _ _ _ _ us hl => match us, hl with | [_], _ => rfl
  generalize PySem.W.fnOf _ _ _ _ _ _ kV doc pm an cdv ct = fd_law_log_text at F_law_log_text B_law_log_text
  clear lk cc
  obtain ⟨oc, od, kV, doc, pm, an, cdv, ct, osl, lk, cc⟩ := d_law_appended.ex
  have F_law_appended := fun_mk (st := sLappended) lk cc d_law_appended.kp
  have B_law_appended := F_law_appended.binds (ps := ["_law_text", "_law_lines"]) fun _ _ _ _ _ _ us hl => match us, hl with | [_, _], _ => rfl
  generalize PySem.W.fnOf _ _ _ _ _ _ kV doc pm an cdv ct = fd_law_appended at F_law_appended B_law_appended
  clear lk cc
  obtain ⟨oc, od, kV, doc, pm, an, cdv, ct, osl, lk, cc⟩ := d_law_bent.ex
  have F_law_bent := fun_mk (st := sLbent) lk cc d_law_bent.kp
  have B_law_bent := F_law_bent.binds (ps := ["_law_pen_here", "_law_line"]) fun _ _ _ _ _ _ us hl => match us, hl with | [_, _], _ => rfl
  generalize PySem.W.fnOf _ _ _ _ _ _ kV doc pm an cdv ct = fd_law_bent at F_law_bent B_law_bent
  clear lk cc
  obtain ⟨oc, od, kV, doc, pm, an, cdv, ct, osl, lk, cc⟩ := d_law_some_line.ex
  have F_law_some_line := fun_mk (st := sLsomeline) lk cc d_law_some_line.kp
  have B_law_some_line := F_law_some_line.binds (ps := ["_law_pen_here"]) fun _ _ _ _ _ _ us hl => match us, hl with | [_], _ => rfl
  generalize PySem.W.fnOf _ _ _ _ _ _ kV doc pm an cdv ct = fd_law_some_line at F_law_some_line B_law_some_line
  clear lk cc
  obtain ⟨oc, od, kV, doc, pm, an, cdv, ct, osl, lk, cc⟩ := d_law_spoilt.ex
  have F_law_spoilt := fun_mk (st := sLspoilt) lk cc d_law_spoilt.kp
  have B_law_spoilt := F_law_spoilt.binds (ps := ["_law_pen_here", "_law_line"]) fun _ _ _ _ _ _ us hl => match us, hl with | [_, _], _ => rfl
  generalize PySem.W.fnOf _ _ _ _ _ _ kV doc pm an cdv ct = fd_law_spoilt at F_law_spoilt B_law_spoilt
  clear lk cc
  obtain ⟨oc, od, kV, doc, pm, an, cdv, ct, osl, lk, cc⟩ := d_law_refusal.ex
  have F_law_refusal := fun_mk (st := sLrefusal) lk cc d_law_refusal.kp
  have B_law_refusal := F_law_refusal.binds (ps := ["_law_call", "_law_odd"]) fun _ _ _ _ _ _ us hl => match us, hl with | [_, _], _ => rfl
  generalize PySem.W.fnOf _ _ _ _ _ _ kV doc pm an cdv ct = fd_law_refusal at F_law_refusal B_law_refusal
  clear lk cc
  obtain ⟨oc, od, kV, doc, pm, an, cdv, ct, osl, lk, cc⟩ := d_law_words_right.ex
  have F_law_words_right := fun_mk (st := sLwordsright) lk cc d_law_words_right.kp
  have B_law_words_right := F_law_words_right.binds (ps := ["_law_words"]) fun _ _ _ _ _ _ us hl => match us, hl with | [_], _ => rfl
  generalize PySem.W.fnOf _ _ _ _ _ _ kV doc pm an cdv ct = fd_law_words_right at F_law_words_right B_law_words_right
  clear lk cc
  obtain ⟨oc, od, kV, doc, pm, an, cdv, ct, osl, lk, cc⟩ := d_law_odd_right.ex
  have F_law_odd_right := fun_mk (st := sLoddright) lk cc d_law_odd_right.kp
  have B_law_odd_right := F_law_odd_right.binds (ps := ["_law_pen_here"]) fun _ _ _ _ _ _ us hl => match us, hl with | [_], _ => rfl
  generalize PySem.W.fnOf _ _ _ _ _ _ kV doc pm an cdv ct = fd_law_odd_right at F_law_odd_right B_law_odd_right
  clear lk cc
  have PT : PenTxt mg := ⟨PySem.W.mg_none_of X G z_int, PySem.W.mg_none_of X G z_list, PySem.W.mg_none_of X G z_len⟩
  have T : LTxt mg := {len := PySem.W.mg_none_of X G z_len, range := PySem.W.mg_none_of X G z_range, isinstance := PySem.W.mg_none_of X G z_isinstance, str := PySem.W.mg_none_of X G z_str, int := PySem.W.mg_none_of X G z_int, bool := PySem.W.mg_none_of X G z_bool, tuple := PySem.W.mg_none_of X G z_tuple, list := PySem.W.mg_none_of X G z_list}
  have WT : WTxt mg := {
    BIG_LETTERS := ⟨_, PySem.W.mg_of X G v_BIG_LETTERS⟩
    SMALL_LETTERS := ⟨_, PySem.W.mg_of X G v_SMALL_LETTERS⟩
    DIGITS := ⟨_, PySem.W.mg_of X G v_DIGITS⟩
    MOST_SIGNS := ⟨_, PySem.W.mg_of X G v_MOST_SIGNS⟩
    len := PySem.W.mg_none_of X G z_len
    enumerate := PySem.W.mg_none_of X G z_enumerate
    tuple := PySem.W.mg_none_of X G z_tuple
    int := PySem.W.mg_none_of X G z_int
    list := PySem.W.mg_none_of X G z_list
    isinstance := PySem.W.mg_none_of X G z_isinstance
    range := PySem.W.mg_none_of X G z_range
  }
  have M_all_among := PySem.W.mg_of X G g_all_among
  have M_is_name := PySem.W.mg_of X G g_is_name
  have M_is_big := PySem.W.mg_of X G g_is_big
  have M_is_natural := PySem.W.mg_of X G g_is_natural
  have M_is_written := PySem.W.mg_of X G g_is_written
  have M_is_word := PySem.W.mg_of X G g_is_word
  have M_are_parts := PySem.W.mg_of X G g_are_parts
  have M_is_line := PySem.W.mg_of X G g_is_line
  have M_parent_of := PySem.W.mg_of X G g_parent_of
  have M_log_text := PySem.W.mg_of X G g_log_text
  have M_pieces_of := PySem.W.mg_of X G g_pieces_of
  have M_lines_in := PySem.W.mg_of X G g_lines_in
  have M_appended := PySem.W.mg_of X G g_appended
  have M_law_pen := PySem.W.mg_of X G g_law_pen
  have M_law_draw := PySem.W.mg_of X G g_law_draw
  have M_law_pick := PySem.W.mg_of X G g_law_pick
  have M_law_counts := PySem.W.mg_of X G g_law_counts
  have M_law_named := PySem.W.mg_of X G g_law_named
  have M_law_met_word := PySem.W.mg_of X G g_law_met_word
  have M_law_is_line := PySem.W.mg_of X G g_law_is_line
  have M_law_lines_in := PySem.W.mg_of X G g_law_lines_in
  have M_law_log_text := PySem.W.mg_of X G g_law_log_text
  have M_law_appended := PySem.W.mg_of X G g_law_appended
  have M_law_bent := PySem.W.mg_of X G g_law_bent
  have M_law_some_line := PySem.W.mg_of X G g_law_some_line
  have M_law_spoilt := PySem.W.mg_of X G g_law_spoilt
  have M_law_refusal := PySem.W.mg_of X G g_law_refusal
  have M_law_words_right := PySem.W.mg_of X G g_law_words_right
  have M_law_odd_right := PySem.W.mg_of X G g_law_odd_right
  have M_law := PySem.W.mg_of X G g_law
  obtain ⟨oc, od, kV, doc, pm, an, cdv, ct, osl, lk, cc⟩ := d_law.ex
  refine ⟨_, fun_mk (st := slaw) lk cc d_law.kp, fun s v => .of_eq rfl, fun base cdv s H a ns _ _ hlen hS => ?_⟩
  have GN : FnOk P w K mg base CX0 4 fC fd_is_natural Pisnatural (spW isCnt) := (ok_nat F_is_natural).mono (by decide)
  have GV : FnOk P w K mg base CX0 4 fV fd_is_word Pisword (spW isMet) := ok_word F_is_word WT F_is_written B_is_written M_is_written F_is_natural B_is_natural M_is_natural F_is_big B_is_big M_is_big F_is_name B_is_name M_is_name F_all_among B_all_among M_all_among
  have GR : FnOk P w K mg base CX0 5 fR fd_are_parts Pareparts spParts := ok_parts F_are_parts T (PySem.W.mg_none_of X G z_all) GN F_is_natural.kp B_is_natural M_is_natural GV F_is_word.kp B_is_word M_is_word
  have GI : FnOk P w K mg base CX0 7 fI fd_is_line Pisline (spB isLin) := (ok_isl F_is_line T GR F_are_parts.kp B_are_parts M_are_parts).mono (by decide)
  have GO : FnOk P w K mg base CX0 7 fI fd_is_line Pisline spOddB := (ok_islO F_is_line T GR F_are_parts.kp B_are_parts M_are_parts).mono (by decide)
  have GP : FnOk P w K mg base CX0 9 fP fd_parent_of Pparentof spPar := ok_par F_parent_of T GI GO F_is_line.kp B_is_line M_is_line XN F_BadName B_BadName
  have GB : FnOk P w K mg base (L2.CX P w) 9 fP fd_parent_of Pparentof (spBadN CN) := ok_parbad F_parent_of T GI GO F_is_line.kp B_is_line M_is_line XN F_BadName B_BadName
  have GL : FnOk P w K mg base CX0 9 fL fd_lines_in Plinesin spLinesT := ok_lin F_lines_in T GI F_is_line.kp B_is_line M_is_line F_pieces_of B_pieces_of M_pieces_of
  have GLB : FnOk P w K mg base (L2.CX P w) 9 fL fd_lines_in Plinesin (spBadT CT) := ok_linbad F_lines_in T XT F_BadText B_BadText F_pieces_of B_pieces_of M_pieces_of GI F_is_line.kp B_is_line M_is_line
  have GG : FnOk P w K mg base CX0 9 fG fd_log_text Plogtext spLog2 := (ok_log F_log_text).mono (by decide)
  have GA : FnOk P w K mg base CX0 9 fA2 fd_appended Pappended spApp := (ok_app F_appended F_log_text B_log_text M_log_text).mono (by decide)
  exact rd_law base T PT F_law_draw B_law_draw M_law_draw F_law_pick B_law_pick M_law_pick F_law_counts B_law_counts M_law_counts F_law_named B_law_named M_law_named F_law_met_word B_law_met_word M_law_met_word F_law_is_line B_law_is_line M_law_is_line F_law_refusal B_law_refusal M_law_refusal (GI.mono (by decide)) F_is_line.kp B_is_line M_is_line GP GB F_parent_of.kp B_parent_of M_parent_of XN XT F_law_pen B_law_pen M_law_pen F_law_lines_in B_law_lines_in M_law_lines_in F_law_log_text B_law_log_text M_law_log_text F_law_appended B_law_appended M_law_appended F_law_bent B_law_bent M_law_bent F_law_some_line B_law_some_line M_law_some_line F_law_spoilt B_law_spoilt M_law_spoilt F_law_words_right B_law_words_right M_law_words_right F_law_odd_right B_law_odd_right M_law_odd_right (GO.mono (by decide)) GL GLB F_lines_in.kp B_lines_in M_lines_in GG F_log_text.kp B_log_text M_log_text GA F_appended.kp B_appended M_appended xx cdv s H a ns hlen hS
end Nm
open PySem PySem.W PyProof.Rows in
set_option maxRecDepth 100000 in
set_option maxHeartbeats 0 in
theorem PySem.Challenge.cw_namedmeets_k40_lines_and_logs_holds : PySem.Challenge.rw_namedmeets_k40_lines_and_logs.Holds := by
  w_on; o_law; k_head; (case hw => w_witness2)
  k_fill
  refine Nm.walk_g (l := PySem.Challenge.rw_namedmeets_k40_lines_and_logs) (k := 12) (x := "_law_script") (st := Nm.slaw) (qual := "law") (N := Nm.Nlaw) rfl rfl ⟨rfl, by decide, by decide⟩ Nm.sclaw (fun w h Y => PySem.W.kIn_of Y) ?F
  intro w mg fa h KX G hmg
  refine' Nm.fin KX G hmg ?z_len ?z_range ?z_isinstance ?z_str ?z_int ?z_bool ?z_tuple ?z_list ?z_enumerate ?z_all ?v_BIG_LETTERS ?v_SMALL_LETTERS ?v_DIGITS ?v_MOST_SIGNS ?x_BadName ?i_BadName ?t_BadName ?n_BadName_name ?c_BadName ?s_BadName ?d_BadName ?x_BadText ?i_BadText ?t_BadText ?n_BadText_line ?n_BadText_column ?c_BadText ?s_BadText ?d_BadText ?s_TN ?g_all_among ?d_all_among ?g_is_name ?d_is_name ?g_is_big ?d_is_big ?g_is_natural ?d_is_natural ?g_is_written ?d_is_written ?g_is_word ?d_is_word ?g_are_parts ?d_are_parts ?g_is_line ?d_is_line ?g_parent_of ?d_parent_of ?g_log_text ?d_log_text ?g_pieces_of ?d_pieces_of ?g_lines_in ?d_lines_in ?g_appended ?d_appended ?g_law_pen ?d_law_pen ?g_law_draw ?d_law_draw ?g_law_pick ?d_law_pick ?g_law_counts ?d_law_counts ?g_law_named ?d_law_named ?g_law_met_word ?d_law_met_word ?g_law_is_line ?d_law_is_line ?g_law_lines_in ?d_law_lines_in ?g_law_log_text ?d_law_log_text ?g_law_appended ?d_law_appended ?g_law_bent ?d_law_bent ?g_law_some_line ?d_law_some_line ?g_law_spoilt ?d_law_spoilt ?g_law_refusal ?d_law_refusal ?g_law_words_right ?d_law_words_right ?g_law_odd_right ?d_law_odd_right ?g_law ?d_law
  (case z_len => k_is)
  (case z_range => k_is)
  (case z_isinstance => k_is)
  (case z_str => k_is)
  (case z_int => k_is)
  (case z_bool => k_is)
  (case z_tuple => k_is)
  (case z_list => k_is)
  (case z_enumerate => k_is)
  (case z_all => k_is)
  (case v_BIG_LETTERS => k_is)
  (case v_SMALL_LETTERS => k_is)
  (case v_DIGITS => k_is)
  (case v_MOST_SIGNS => k_is)
  (case x_BadName => refine' Nm.xraw_mk ?a ?b ?c ?d ?e ?f ?g ?h ?i ?j ?k; (case a => k_is); (case b => k_is); (case c => k_is); (case d => k_is); (case e => k_is); (case f => k_is); (case g => k_is); (case h => k_is); (case i => k_is); (case j => k_is); (case k => k_is))
  (case i_BadName => k_is)
  (case t_BadName => k_is)
  (case n_BadName_name => k_is)
  (case c_BadName => k_is)
  (case s_BadName => k_is)
  (case d_BadName => refine' Nm.fraw_mk ?a ?b ?c; (case a => k_is); (case b => k_is); (case c => k_is))
  (case x_BadText => refine' Nm.xraw_mk ?a ?b ?c ?d ?e ?f ?g ?h ?i ?j ?k; (case a => k_is); (case b => k_is); (case c => k_is); (case d => k_is); (case e => k_is); (case f => k_is); (case g => k_is); (case h => k_is); (case i => k_is); (case j => k_is); (case k => k_is))
  (case i_BadText => k_is)
  (case t_BadText => k_is)
  (case n_BadText_line => k_is)
  (case n_BadText_column => k_is)
  (case c_BadText => k_is)
  (case s_BadText => k_is)
  (case d_BadText => refine' Nm.fraw_mk ?a ?b ?c; (case a => k_is); (case b => k_is); (case c => k_is))
  (case s_TN => k_is)
  (case g_all_among => k_is)
  (case d_all_among => refine' Nm.fraw_mk ?a ?b ?c; (case a => k_is); (case b => k_is); (case c => k_is))
  (case g_is_name => k_is)
  (case d_is_name => refine' Nm.fraw_mk ?a ?b ?c; (case a => k_is); (case b => k_is); (case c => k_is))
  (case g_is_big => k_is)
  (case d_is_big => refine' Nm.fraw_mk ?a ?b ?c; (case a => k_is); (case b => k_is); (case c => k_is))
  (case g_is_natural => k_is)
  (case d_is_natural => refine' Nm.fraw_mk ?a ?b ?c; (case a => k_is); (case b => k_is); (case c => k_is))
  (case g_is_written => k_is)
  (case d_is_written => refine' Nm.fraw_mk ?a ?b ?c; (case a => k_is); (case b => k_is); (case c => k_is))
  (case g_is_word => k_is)
  (case d_is_word => refine' Nm.fraw_mk ?a ?b ?c; (case a => k_is); (case b => k_is); (case c => k_is))
  (case g_are_parts => k_is)
  (case d_are_parts => refine' Nm.fraw_mk ?a ?b ?c; (case a => k_is); (case b => k_is); (case c => k_is))
  (case g_is_line => k_is)
  (case d_is_line => refine' Nm.fraw_mk ?a ?b ?c; (case a => k_is); (case b => k_is); (case c => k_is))
  (case g_parent_of => k_is)
  (case d_parent_of => refine' Nm.fraw_mk ?a ?b ?c; (case a => k_is); (case b => k_is); (case c => k_is))
  (case g_log_text => k_is)
  (case d_log_text => refine' Nm.fraw_mk ?a ?b ?c; (case a => k_is); (case b => k_is); (case c => k_is))
  (case g_pieces_of => k_is)
  (case d_pieces_of => refine' Nm.fraw_mk ?a ?b ?c; (case a => k_is); (case b => k_is); (case c => k_is))
  (case g_lines_in => k_is)
  (case d_lines_in => refine' Nm.fraw_mk ?a ?b ?c; (case a => k_is); (case b => k_is); (case c => k_is))
  (case g_appended => k_is)
  (case d_appended => refine' Nm.fraw_mk ?a ?b ?c; (case a => k_is); (case b => k_is); (case c => k_is))
  (case g_law_pen => k_is)
  (case d_law_pen => refine' Nm.fraw_mk ?a ?b ?c; (case a => k_is); (case b => k_is); (case c => k_is))
  (case g_law_draw => k_is)
  (case d_law_draw => refine' Nm.fraw_mk ?a ?b ?c; (case a => k_is); (case b => k_is); (case c => k_is))
  (case g_law_pick => k_is)
  (case d_law_pick => refine' Nm.fraw_mk ?a ?b ?c; (case a => k_is); (case b => k_is); (case c => k_is))
  (case g_law_counts => k_is)
  (case d_law_counts => refine' Nm.fraw_mk ?a ?b ?c; (case a => k_is); (case b => k_is); (case c => k_is))
  (case g_law_named => k_is)
  (case d_law_named => refine' Nm.fraw_mk ?a ?b ?c; (case a => k_is); (case b => k_is); (case c => k_is))
  (case g_law_met_word => k_is)
  (case d_law_met_word => refine' Nm.fraw_mk ?a ?b ?c; (case a => k_is); (case b => k_is); (case c => k_is))
  (case g_law_is_line => k_is)
  (case d_law_is_line => refine' Nm.fraw_mk ?a ?b ?c; (case a => k_is); (case b => k_is); (case c => k_is))
  (case g_law_lines_in => k_is)
  (case d_law_lines_in => refine' Nm.fraw_mk ?a ?b ?c; (case a => k_is); (case b => k_is); (case c => k_is))
  (case g_law_log_text => k_is)
  (case d_law_log_text => refine' Nm.fraw_mk ?a ?b ?c; (case a => k_is); (case b => k_is); (case c => k_is))
  (case g_law_appended => k_is)
  (case d_law_appended => refine' Nm.fraw_mk ?a ?b ?c; (case a => k_is); (case b => k_is); (case c => k_is))
  (case g_law_bent => k_is)
  (case d_law_bent => refine' Nm.fraw_mk ?a ?b ?c; (case a => k_is); (case b => k_is); (case c => k_is))
  (case g_law_some_line => k_is)
  (case d_law_some_line => refine' Nm.fraw_mk ?a ?b ?c; (case a => k_is); (case b => k_is); (case c => k_is))
  (case g_law_spoilt => k_is)
  (case d_law_spoilt => refine' Nm.fraw_mk ?a ?b ?c; (case a => k_is); (case b => k_is); (case c => k_is))
  (case g_law_refusal => k_is)
  (case d_law_refusal => refine' Nm.fraw_mk ?a ?b ?c; (case a => k_is); (case b => k_is); (case c => k_is))
  (case g_law_words_right => k_is)
  (case d_law_words_right => refine' Nm.fraw_mk ?a ?b ?c; (case a => k_is); (case b => k_is); (case c => k_is))
  (case g_law_odd_right => k_is)
  (case d_law_odd_right => refine' Nm.fraw_mk ?a ?b ?c; (case a => k_is); (case b => k_is); (case c => k_is))
  (case g_law => k_is)
  (case d_law => refine' Nm.fraw_mk ?a ?b ?c; (case a => k_is); (case b => k_is); (case c => k_is))
