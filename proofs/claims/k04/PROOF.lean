import PyProof.Rows.All
import Wide.All
import OpenK.AllK
import Wide.FinOn
import HandS.ForMost
import HandS.Walk
import KE.GoesEnum
import KE.GoesMore
import HandS.IsInst
import HandS.StrMore
import PyProof.Rows.StrCut
import PySem.Challenge.RW_namedmeets_k04_texts_of_values_refused
import KE.IntTextLaws
import HandS.Conv
import HandS.Wide
import HandS.ForExc
import HandS.ExcInit
import HandS.ExcField
import HandS.Style
set_option Elab.async false
set_option maxRecDepth 100000
set_option maxHeartbeats 4000000
namespace Nm
open PySem PySem.Spec PyProof.Rows L2
/-! ### values: the mathematics, and how they stand in the heap -/
inductive Tr where
  | num (i : Int) : Tr
  | mk (m : Str) (ps : List Tr) : Tr
mutual
def Tr.sz : Tr → Nat
  | .num _ => 1
  | .mk _ ps => 1 + Tr.szL ps
def Tr.szL : List Tr → Nat
  | [] => 0
  | t :: r => t.sz + Tr.szL r
end
theorem Tr.sz_pos (t : Tr) : 0 < t.sz := by
  cases t with
  | num i => simp [Tr.sz]
  | mk m ps => simp [Tr.sz]; omega
theorem szL_len : ∀ ps : List Tr, ps.length ≤ Tr.szL ps
  | [] => Nat.le_refl _
  | t :: r => by
    have h1 := t.sz_pos
    have h2 := szL_len r
    simp only [List.length_cons, Tr.szL]
    omega
theorem szL_app (a b : List Tr) : Tr.szL (a ++ b) = Tr.szL a + Tr.szL b := by
  induction a with
  | nil => simp [Tr.szL]
  | cons t r ih => simp only [List.cons_append, Tr.szL, ih]; omega
def mkF (m : Str) (p : Addr) : List (Str × V) := putF "parts" (.ref p) (putF "maker" (.str m) [])
theorem mkF_maker (m : Str) (p : Addr) : (mkF m p).lookup ("maker" : Str) = some (.str m) := by
  unfold mkF
  rw [lookup_putF, if_neg (by decide +kernel), lookup_putF, if_pos rfl]
theorem mkF_parts (m : Str) (p : Addr) : (mkF m p).lookup ("parts" : Str) = some (.ref p) := by
  unfold mkF
  rw [lookup_putF, if_pos rfl]
mutual
/-- the value v stands for the tree -/
inductive VAt (C : Addr) (H : Hp) : V → Tr → Prop
  | num (i : Int) : VAt C H (.int i) (.num i)
  | mk {a dx p : Addr} {m : Str} {xs : List V} {ts : List Tr} (ea : H a = some (.ins C dx (mkF m p))) (ep : H p = some (.tup xs)) (h : VAts C H xs ts) : VAt C H (.ref a) (.mk m ts)
inductive VAts (C : Addr) (H : Hp) : List V → List Tr → Prop
  | nil : VAts C H [] []
  | cons {x : V} {t : Tr} {xs : List V} {ts : List Tr} (h : VAt C H x t) (r : VAts C H xs ts) : VAts C H (x :: xs) (t :: ts)
end
mutual
theorem VAt.mono {C : Addr} {H H' : Hp} (k1 : ∀ a dx fs, H a = some (.ins C dx fs) → H' a = some (.ins C dx fs)) (k2 : ∀ a xs, H a = some (.tup xs) → H' a = some (.tup xs)) : ∀ {t : Tr} {v : V}, VAt C H v t → VAt C H' v t
  | .num _, _, .num i => .num i
  | .mk _ _, _, .mk ea ep h => .mk (k1 _ _ _ ea) (k2 _ _ ep) (VAts.mono k1 k2 h)
theorem VAts.mono {C : Addr} {H H' : Hp} (k1 : ∀ a dx fs, H a = some (.ins C dx fs) → H' a = some (.ins C dx fs)) (k2 : ∀ a xs, H a = some (.tup xs) → H' a = some (.tup xs)) : ∀ {ts : List Tr} {xs : List V}, VAts C H xs ts → VAts C H' xs ts
  | [], _, .nil => .nil
  | _ :: _, _, .cons h r => .cons (VAt.mono k1 k2 h) (VAts.mono k1 k2 r)
end
theorem VAt.same {C : Addr} {H H' : Hp} {v : V} {t : Tr} (h : VAt C H v t) (s : Same H H') : VAt C H' v t := h.mono (fun a dx fs e => s _ _ e) fun a xs e => s _ _ e
theorem VAts.same {C : Addr} {H H' : Hp} {xs : List V} {ts : List Tr} (h : VAts C H xs ts) (s : Same H H') : VAts C H' xs ts := h.mono (fun a dx fs e => s _ _ e) fun a xs e => s _ _ e
/-- a list, a dict, written: no value is touched -/
theorem VAt.put {C : Addr} {H : Hp} {v : V} {t : Tr} (h : VAt C H v t) {p : Addr} {o o' : HO} (e : H p = some o) (n1 : ∀ dx fs, o ≠ .ins C dx fs) (n2 : ∀ xs, o ≠ .tup xs) : VAt C (upd H p o') v t :=
  h.mono (fun a dx fs q => by rw [upd_ne (ne_of q e (fun z => n1 _ _ z.symm))]; exact q) fun a xs q => by rw [upd_ne (ne_of q e (fun z => n2 _ z.symm))]; exact q
theorem VAts.len {C : Addr} {H : Hp} : ∀ {xs : List V} {ts : List Tr}, VAts C H xs ts → xs.length = ts.length
  | _, _, .nil => rfl
  | _, _, .cons _ r => by simp [VAts.len r]
theorem VAts.at {C : Addr} {H : Hp} : ∀ {xs : List V} {ts : List Tr} {i : Nat} {x : V}, VAts C H xs ts → xs[i]? = some x → ∃ t, ts[i]? = some t ∧ VAt C H x t
  | _, _, _, _, .nil, e => by simp at e
  | _, _, 0, _, .cons h _, e => by
    simp at e
    subst e
    exact ⟨_, rfl, h⟩
  | _, _, i + 1, x, .cons _ r, e => by
    obtain ⟨t, h1, h2⟩ := VAts.at (i := i) (x := x) r (by simpa using e)
    exact ⟨t, by simpa using h1, h2⟩
theorem VAts.app {C : Addr} {H : Hp} : ∀ {xs : List V} {ts : List Tr} {ys : List V} {us : List Tr}, VAts C H xs ts → VAts C H ys us → VAts C H (xs ++ ys) (ts ++ us)
  | _, _, _, _, .nil, k => k
  | _, _, _, _, .cons h r, k => .cons h (VAts.app r k)
/-- what the law asks of the class of values -/
structure MadeTxt (K : PySem.W.Frag) (mg : Str → Option Value) (C fE : Addr) : Prop where
  cl : Cls K C
  nM : NoAttr K C "maker"
  nP : NoAttr K C "parts"
  gM : mg "Made" = some (.ref C)
  eqF : PySem.W.findIn K (.ref C) "__eq__" = some (some (.ref fE))
  eqK : PySem.W.isFn K (.ref fE) = true
  neF : PySem.W.findIn K (.ref C) "__ne__" = some (some (.builtin "object.__ne__"))
  subI : PySem.W.subIn K (.type "int") (.ref C) = some false
  subC : PySem.W.subIn K (.ref C) (.type "int") = some false
  kitC : PySem.W.kitOne K (.ref C) (.ref C) = some true
  kitI : PySem.W.kitOne K (.type "int") (.ref C) = some false
  kitB : PySem.W.kitOne K (.ref C) (.type "bool") = some false
  kitN : PySem.W.kitOne K (.ref C) (.type "int") = some false
  ca : PySem.W.findIn K (.ref C) "__class__" = some (some (.builtin "object.__class__"))
  gt : PySem.W.specialIn K (.builtin "object.__class__") "__get__" = some (some (.builtin "getset_descriptor.__get__"))
  tk : PySem.W.takesIn K (.builtin "object.__class__") = some true
  mo : PySem.W.mroIn K C (.type "object") = some true
theorem MadeTxt.ins {K : PySem.W.Frag} {mg : Str → Option Value} {C fE : Addr} (M : MadeTxt K mg C fE) {H : Hp} {a dx : Addr} {fs : List (Str × V)} (e : H a = some (.ins C dx fs)) : TyX K H (.ref a) (.ref C) := .base (.ins e M.cl M.ca M.gt M.tk M.mo)
end Nm
namespace Nm
open PySem L2
/-! ### the mathematics: words of lines -/
abbrev codes (s : Str) : List Nat := s.cps.toList
def sBIG : Str := "ABCDEFGHIJKLMNOPQRSTUVWXYZ"
def sSMA : Str := "abcdefghijklmnopqrstuvwxyz"
def sDIG : Str := "0123456789"
def sALL : Str := sBIG ++ sSMA ++ sDIG ++ "_"
def kwL : List Str := ["kind", "fun", "let", "in"]
def allIn (t s : Str) : Bool := (codes t).all fun c => decide (c ∈ codes s)
def hd (w : Str) : Nat := (codes w).headD 0
def isName (w f : Str) : Bool := if (decide (w = "") || (decide (w.length > 24) || !decide (hd w ∈ codes f))) = true then false else allIn w sALL
def isBig (w : Str) : Bool := isName w sBIG
def isSmall (w : Str) : Bool := !decide (w ∈ kwL) && isName w sSMA
def digs (w : Str) : Str := if decide (cutS w none (some 1) = "-") = true then cutS w (some 1) none else w
def isNum (w : Str) : Bool :=
  if (decide (digs w = "") || (decide ((digs w).length > 400) || !allIn (digs w) sDIG)) = true then false else if decide (hd (digs w) = 48) = true then decide (w = "0") else true
def digs2 (w : Str) : Str := if decide (hd w = 45) = true then cutS w (some 1) none else w
def lawKind (w : Str) : Str :=
  if decide (w ∈ kwL) = true then w
  else if ((decide (hd w ∈ codes (sBIG ++ sSMA)) && decide (w.length ≤ 24)) && allIn w sALL) = true then (if decide (hd w ∈ codes sBIG) = true then "big" else "small")
  else if ((!decide (digs2 w = "") && (decide ((digs2 w).length ≤ 400) && allIn (digs2 w) sDIG)) && (decide (w = "0") || !decide (hd (digs2 w) = 48))) = true then "number" else "word " ++ w
theorem str_ext {a b : Str} (h : codes a = codes b) : a = b := by
  obtain ⟨⟨x⟩⟩ := a
  obtain ⟨⟨y⟩⟩ := b
  have e : x = y := h
  rw [e]
theorem codes_cons {w : Str} (h : w ≠ "") : ∃ c r, codes w = c :: r := by
  cases e : codes w with
  | nil => exact (h (str_ext (by rw [e]; rfl))).elim
  | cons c r => exact ⟨c, r, rfl⟩
theorem hd_of {w : Str} {c : Nat} {r : List Nat} (e : codes w = c :: r) : hd w = c := by
  unfold hd
  rw [e]
  rfl
theorem len_codes (w : Str) : w.length = (codes w).length := by
  show w.cps.size = w.cps.toList.length
  simp
theorem cut1_of {w : Str} {c : Nat} {r : List Nat} (e : codes w = c :: r) : codes (cutS w none (some 1)) = [c] := by
  have l : w.length = r.length + 1 := by rw [len_codes, e]; rfl
  show ((w.cps.toList.drop (HT.sIx w.length 0 none)).take (HT.sIx w.length w.length (some 1) - HT.sIx w.length 0 none)).toArray.toList = [c]
  rw [show HT.sIx w.length 0 none = 0 from rfl, show (some (1 : Int)) = some ((1 : Nat) : Int) from rfl, HT.sIx_nat, show w.cps.toList = c :: r from e, show min 1 w.length = 1 by omega]
  rfl
theorem cutT_codes (w : Str) : codes (cutS w (some 1) none) = (codes w).drop 1 := by
  show ((w.cps.toList.drop (HT.sIx w.length 0 (some 1))).take (HT.sIx w.length w.length none - HT.sIx w.length 0 (some 1))).toArray.toList = w.cps.toList.drop 1
  rw [show HT.sIx w.length w.length none = w.length from rfl, show (some (1 : Int)) = some ((1 : Nat) : Int) from rfl, HT.sIx_nat]
  have e : w.length = w.cps.toList.length := len_codes w
  rw [e]
  cases w.cps.toList with
  | nil => rfl
  | cons c r => simp
theorem digs_eq {w : Str} (h : w ≠ "") : digs w = digs2 w := by
  obtain ⟨c, r, e⟩ := codes_cons h
  unfold digs digs2
  have q : (cutS w none (some 1) = "-") ↔ (hd w = 45) := by
    rw [hd_of e]
    constructor
    · intro z
      have z2 := congrArg codes z
      rw [cut1_of e] at z2
      have z3 : [c] = [45] := z2
      exact (List.cons.inj z3).1
    · intro z
      exact str_ext (by rw [cut1_of e, z]; rfl)
  by_cases z : hd w = 45
  · rw [decide_eq_true z, decide_eq_true (q.mpr z)]
  · rw [decide_eq_false z, decide_eq_false fun y => z (q.mp y)]
theorem allIn_hd {w s : Str} {c : Nat} {r : List Nat} (e : codes w = c :: r) (h : allIn w s = true) : c ∈ codes s := by
  unfold allIn at h
  rw [e, List.all_cons] at h
  exact of_decide_eq_true (Bool.and_eq_true_iff.mp h).1
theorem kw_facts : ∀ w ∈ kwL, isBig w = false ∧ isNum w = false ∧ w ≠ "big" ∧ w ≠ "small" ∧ w ≠ "number" := by
  intro w h
  unfold kwL at h
  simp only [List.mem_cons, List.not_mem_nil, or_false] at h
  rcases h with rfl | rfl | rfl | rfl <;> decide +kernel
theorem letters_no_digits : ∀ c ∈ codes (sBIG ++ sSMA), c ∉ codes sDIG ∧ c ≠ 45 := by
  have h : (codes (sBIG ++ sSMA)).all (fun c => decide (c ∉ codes sDIG ∧ c ≠ 45)) = true := by decide +kernel
  intro c hc
  exact of_decide_eq_true (List.all_eq_true.mp h c hc)
theorem big_or_small (c : Nat) : c ∈ codes (sBIG ++ sSMA) ↔ c ∈ codes sBIG ∨ c ∈ codes sSMA := by
  have e : codes (sBIG ++ sSMA) = codes sBIG ++ codes sSMA := by decide +kernel
  rw [e, List.mem_append]
theorem big_not_small : ∀ c ∈ codes sBIG, c ∉ codes sSMA := by
  have h : (codes sBIG).all (fun c => decide (c ∉ codes sSMA)) = true := by decide +kernel
  intro c hc
  exact of_decide_eq_true (List.all_eq_true.mp h c hc)
theorem word_ne (w : Str) : ("word " : Str) ++ w ≠ "big" ∧ ("word " : Str) ++ w ≠ "small" ∧ ("word " : Str) ++ w ≠ "number" := by
  have e : codes (("word " : Str) ++ w) = 119 :: 111 :: 114 :: 100 :: 32 :: codes w := by
    show (("word " : Str).cps ++ w.cps).toList = _
    rw [Array.toList_append]
    rfl
  refine ⟨fun h => ?_, fun h => ?_, fun h => ?_⟩
  · have h3 : some 119 = (codes "big").head? := by
      rw [← h, e]
      rfl
    exact absurd h3 (by decide +kernel)
  · have h3 : some 119 = (codes "small").head? := by
      rw [← h, e]
      rfl
    exact absurd h3 (by decide +kernel)
  · have h3 : some 119 = (codes "number").head? := by
      rw [← h, e]
      rfl
    exact absurd h3 (by decide +kernel)
theorem asked_eq {w : Str} (h : w ≠ "") : isBig w = decide (lawKind w = "big") ∧ isSmall w = decide (lawKind w = "small") ∧ isNum w = decide (lawKind w = "number") := by
  obtain ⟨c, r, e⟩ := codes_cons h
  have hc := hd_of e
  unfold lawKind
  by_cases hk : w ∈ kwL
  · obtain ⟨f1, f2, f3, f4, f5⟩ := kw_facts w hk
    rw [if_pos (decide_eq_true hk), f1, f2, decide_eq_false f3, decide_eq_false f4, decide_eq_false f5]
    unfold isSmall
    rw [decide_eq_true hk]
    exact ⟨rfl, rfl, rfl⟩
  rw [if_neg (by rw [decide_eq_false hk]; exact Bool.false_ne_true)]
  have small_eq : isSmall w = isName w sSMA := by unfold isSmall; rw [decide_eq_false hk]; rfl
  have name_eq : ∀ f, isName w f = (decide (c ∈ codes f) && (decide (w.length ≤ 24) && allIn w sALL)) := fun f => by
    unfold isName
    rw [hc, decide_eq_false h]
    by_cases l : w.length ≤ 24
    · have l' : ¬ w.length > 24 := by omega
      by_cases m : c ∈ codes f
      · simp [l, l', m]
      · simp [l, l', m]
    · have l' : w.length > 24 := by omega
      simp [l, l']
  rw [hc]
  by_cases hn : ((decide (c ∈ codes (sBIG ++ sSMA)) && decide (w.length ≤ 24)) && allIn w sALL) = true
  · rw [if_pos hn]
    simp only [Bool.and_eq_true, decide_eq_true_eq] at hn
    obtain ⟨⟨hm, hl⟩, ha⟩ := hn
    obtain ⟨nd, nm⟩ := letters_no_digits c hm
    have num : isNum w = false := by
      have d2 : digs w = w := by
        rw [digs_eq h]
        unfold digs2
        rw [hc, if_neg (by rw [decide_eq_false nm]; exact Bool.false_ne_true)]
      unfold isNum
      rw [d2]
      have na : allIn w sDIG = false := by
        cases q : allIn w sDIG with
        | false => rfl
        | true => exact (nd (allIn_hd e q)).elim
      rw [na]
      simp
    rw [num]
    unfold isBig
    rw [small_eq, name_eq, name_eq, ha, decide_eq_true hl]
    by_cases b : c ∈ codes sBIG
    · rw [if_pos (decide_eq_true b), decide_eq_true b, decide_eq_false (big_not_small c b)]
      decide +kernel
    · have s : c ∈ codes sSMA := ((big_or_small c).mp hm).resolve_left b
      rw [if_neg (by rw [decide_eq_false b]; exact Bool.false_ne_true), decide_eq_false b, decide_eq_true s]
      decide +kernel
  · rw [if_neg hn]
    have big : isBig w = false := by
      unfold isBig
      rw [name_eq]
      cases q : (decide (c ∈ codes sBIG) && (decide (w.length ≤ 24) && allIn w sALL)) with
      | false => rfl
      | true =>
        simp only [Bool.and_eq_true, decide_eq_true_eq] at q
        exact (hn (by rw [decide_eq_true ((big_or_small c).mpr (.inl q.1)), decide_eq_true q.2.1, q.2.2]; rfl)).elim
    have small : isSmall w = false := by
      rw [small_eq, name_eq]
      cases q : (decide (c ∈ codes sSMA) && (decide (w.length ≤ 24) && allIn w sALL)) with
      | false => rfl
      | true =>
        simp only [Bool.and_eq_true, decide_eq_true_eq] at q
        exact (hn (by rw [decide_eq_true ((big_or_small c).mpr (.inr q.1)), decide_eq_true q.2.1, q.2.2]; rfl)).elim
    rw [big, small]
    have num : isNum w = ((!decide (digs2 w = "") && (decide ((digs2 w).length ≤ 400) && allIn (digs2 w) sDIG)) && (decide (w = "0") || !decide (hd (digs2 w) = 48))) := by
      unfold isNum
      rw [digs_eq h]
      by_cases a1 : digs2 w = ""
      · simp [a1]
      · by_cases a2 : (digs2 w).length ≤ 400
        · have a2' : ¬ (digs2 w).length > 400 := by omega
          cases a3 : allIn (digs2 w) sDIG with
          | false => simp [a1, a2, a2']
          | true =>
            by_cases a4 : hd (digs2 w) = 48
            · simp [a1, a2, a2', a4]
            · simp [a1, a2, a2', a4]
        · have a2' : (digs2 w).length > 400 := by omega
          simp [a1, a2, a2']
    rw [num]
    by_cases q : ((!decide (digs2 w = "") && (decide ((digs2 w).length ≤ 400) && allIn (digs2 w) sDIG)) && (decide (w = "0") || !decide (hd (digs2 w) = 48))) = true
    · rw [if_pos q, q]
      decide +kernel
    · rw [if_neg q]
      obtain ⟨w1, w2, w3⟩ := word_ne w
      rw [decide_eq_false w1, decide_eq_false w2, decide_eq_false w3]
      exact ⟨rfl, rfl, Bool.eq_false_iff.mpr q⟩
/-! the words of a line -/
def flush (k : Nat) (w : List Nat) : List (List Nat × Nat) := if w = [] then [] else [(w, k + 1 - w.length)]
def scan : List Nat → Nat → List Nat → List (List Nat × Nat)
  | [], k, w => flush k w
  | c :: r, k, w =>
    if c = 59 then flush k w
    else if c = 32 then flush k w ++ scan r (k + 1) []
    else if c = 40 ∨ c = 41 then flush k w ++ ([c], k + 1) :: scan r (k + 1) []
    else scan r (k + 1) (w ++ [c])
theorem scan_blank : ∀ (l : List Nat) (k : Nat) (w : List Nat), scan (l ++ [32]) k w = scan l k w
  | [], k, w => by
    show (if (32 : Nat) = 59 then flush k w else if (32 : Nat) = 32 then flush k w ++ flush (k + 1) [] else _) = flush k w
    rw [if_neg (by decide), if_pos rfl]
    simp [flush]
  | c :: r, k, w => by
    show (if c = 59 then _ else if c = 32 then _ ++ scan (r ++ [32]) (k + 1) [] else if c = 40 ∨ c = 41 then _ ++ ([c], k + 1) :: scan (r ++ [32]) (k + 1) [] else scan (r ++ [32]) (k + 1) (w ++ [c])) = scan (c :: r) k w
    rw [scan_blank r, scan_blank r]
    rfl
theorem scan_stop : ∀ (l : List Nat) (r : List Nat) (k : Nat) (w : List Nat), 59 ∉ l → scan (l ++ 59 :: r) k w = scan l k w
  | [], r, k, w, _ => by
    show (if (59 : Nat) = 59 then flush k w else _) = flush k w
    rw [if_pos rfl]
  | c :: l, r, k, w, h => by
    have h1 : c ≠ 59 := fun z => h (by simp [z])
    have h2 : 59 ∉ l := fun z => h (by simp [z])
    show (if c = 59 then _ else if c = 32 then _ ++ scan (l ++ 59 :: r) (k + 1) [] else if c = 40 ∨ c = 41 then _ ++ ([c], k + 1) :: scan (l ++ 59 :: r) (k + 1) [] else scan (l ++ 59 :: r) (k + 1) (w ++ [c])) = scan (c :: l) k w
    rw [scan_stop l r _ _ h2, scan_stop l r _ _ h2]
    rfl
/-- ahead of the first ; -/
def told (l : List Nat) : List Nat := l.takeWhile (· != 59)
theorem scan_told (l : List Nat) (k : Nat) (w : List Nat) : scan (told l) k w = scan l k w := by
  have nt : 59 ∉ told l := fun h => by
    have q := List.all_takeWhile (p := (· != 59)) (l := l)
    have := List.all_eq_true.mp q 59 h
    simp at this
  have e := List.takeWhile_append_dropWhile (p := (· != 59)) (l := l)
  cases d : l.dropWhile (· != 59) with
  | nil =>
    rw [d, List.append_nil] at e
    unfold told
    rw [e]
  | cons c r =>
    have hc : c = 59 := by
      have h1 := List.head?_dropWhile_not (p := (· != 59)) (l := l)
      rw [d] at h1
      simpa using h1
    rw [hc] at d
    rw [d] at e
    have e2 : told l ++ 59 :: r = l := e
    conv => rhs; rw [← e2]
    exact (scan_stop (told l) r k w nt).symm
end Nm
namespace Nm
open PySem PySem.Spec PyProof.Rows L2
/-! ### texts: enumerate, list, times -/
/-- enumerate(s), s a text: a new pair of the place and the sign -/
def Itn (x : Str) : It :=
  ⟨fun i _ => i < x.cps.size, fun i H v H' => ∃ T c, v = .ref T ∧ H T = none ∧ H' = upd H T (.tup [.int (i : Nat), .str ⟨#[c]⟩]) ∧ x.cps[i]? = some c, fun i _ => i = x.cps.size⟩
theorem turn_enumS {P : Program} {w : World} {K : PySem.W.Frag} {elts : List Expr} {kk : Nat} {tpos : Pos} (x : Str) (t : Tok) (e it : Addr) :
    Turn P w K (.Tuple elts kk tpos) (Itn x) [e, it] e (fun i h => (∃ old, IsEnum h e it ((i : Nat) : Int) old) ∧ h.IsStrIter it (strIterType x) x t i ∧ e ≠ it) where
  mem := List.mem_cons_self
  obj := by
    rintro i h ⟨⟨old, he⟩, ⟨o, ho, _, hd⟩, _⟩ b hb
    rcases List.mem_cons.mp hb with rfl | hb
    · exact ⟨_, he, fun v q => nomatch q⟩
    · obtain rfl := List.mem_singleton.mp hb
      exact ⟨o, ho, fun v q => by rw [hd] at q; cases q⟩
  keep := by
    rintro i h h' ⟨⟨old, he⟩, ⟨o, ho, r⟩, hne⟩ k
    exact ⟨⟨old, k e List.mem_cons_self _ he⟩, ⟨o, k it (by simp) o ho, r⟩, hne⟩
  item := by
    intro X hP hw hK hc i pins s σ H E I hf st hg
    subst hP hw hK
    obtain ⟨⟨old, he⟩, hit, hne⟩ := st
    have hel := Heap.lt_size he
    have hil : it < s.heap.objs.size := by
      obtain ⟨_, q, _⟩ := hit
      exact Heap.lt_size q
    have hcase : ∀ b ∈ [e, it], b = e ∨ b = it := fun b hb => by simpa using hb
    refine wpAny_pyNext_enum_itemC (Draws.text (A := X.A.in1) (I.ok.hd hc) it x t) he hit hg hne (by simpa using hne) ?_
    rintro y h' tk ⟨c, u, hcx, rfl⟩ ho hit' hT hsz hk
    refine ⟨_, rfl, wpAny_letOwnedTupleGo_enum (s := { s with heap := h', toks := tk + 1 }) ho ?_⟩
    intro h2 he2 sb
    have hT2 : h2.get? s.heap.objs.size = some { cls := .type "tuple", data := .seq #[.int (i : Nat) tk, .str ⟨#[c]⟩ u] } := (sb.2 _ (Nat.ne_of_gt hel)).trans hT
    have new : ObjOk X.prog X.w (upd H s.heap.objs.size (.tup [.int (i : Nat), .str ⟨#[c]⟩])) h2 s.heap.objs.size (.tup [.int (i : Nat), .str ⟨#[c]⟩]) :=
      ⟨by show 2 ≤ sizeLine; decide, [.int (i : Nat) tk, .str ⟨#[c]⟩ u], .cons ⟨_, rfl⟩ (.cons ⟨_, rfl⟩ .nil), ⟨_, hT2, rfl, _, rfl⟩⟩
    have J : Inv X pins σ (upd H s.heap.objs.size (.tup [.int (i : Nat), .str ⟨#[c]⟩])) { s with heap := h2, toks := tk + 1 } := by
      refine I.turnedNew (ch := [e, it]) (fun b o hb q => ?_) hf (Nat.le_refl _) new
      have n1 : b ≠ e := fun z => hb (by simp [z])
      have n2 : b ≠ it := fun z => hb (by simp [z])
      exact (sb.2 b n1).trans (hk b o n1 n2 q)
    refine ⟨.ref s.heap.objs.size, _, J, rfl, ⟨_, c, rfl, I.hok.fresh (Nat.le_refl _), rfl, hcx⟩, ⟨⟨.str ⟨#[c]⟩ u, ?_⟩, ?_, hne⟩, ?_⟩
    · have e1 : ((i + 1 : Nat) : Int) = (i : Int) + 1 := Int.natCast_succ i
      rw [e1]
      exact he2
    · obtain ⟨o, q, r⟩ := hit'
      exact ⟨o, (sb.2 it (Ne.symm hne)).trans q, r⟩
    · intro b hb
      have lt : b < s.heap.objs.size := by
        rcases hcase b hb with rfl | rfl
        · exact hel
        · exact hil
      rw [upd_ne (Nat.ne_of_lt lt)]
      exact (hf b hb).1
  done := by
    intro X hP hw hK hc i pins s σ H E I hf st hg
    subst hP hw hK
    obtain ⟨⟨old, he⟩, hit, hne⟩ := st
    obtain ⟨f0, f1, f2, f3, f4, f5⟩ := hf it (by simp)
    have D := Draws.text (prog := X.prog) (w := X.w) (A := X.A.in1) (I.ok.hd hc) it x t
    obtain rfl : i = x.cps.size := hg
    exact wpAny_pyNext_enum_endD D he hit fun h' hx => ⟨rfl, I.turned (t' := s.toks) (fun b o hb q => hx b o hb q) f0 f1 f3 f4 f5⟩
  self := by
    rintro A i s Q E ⟨⟨old, he⟩, _⟩ h
    exact wpAny_pyIter_enum he h
theorem vals_signs : ∀ (cs : List Nat) (us : List Value), us.length = cs.length → (∀ (j : Nat) (v : Value), us[j]? = some v → ∃ c u, cs[j]? = some c ∧ v = Value.str ⟨#[c]⟩ u) → Vals (cs.map fun c => V.str ⟨#[c]⟩) us
  | [], [], _, _ => .nil
  | c :: cs, v :: us, hl, h => by
    obtain ⟨c', u, e, rfl⟩ := h 0 v rfl
    obtain rfl : c = c' := Option.some.inj e
    exact .cons ⟨u, rfl⟩ (vals_signs cs us (Nat.succ.inj hl) fun j v e => h (j + 1) v e)
  | [], _ :: _, hl, _ => nomatch hl
  | _ :: _, [], hl, _ => nomatch hl
theorem walk_enumS {z : Str} : Walk (Itn z) z.cps.size (fun _ => True) (fun i H v H' => ∃ T c, v = .ref T ∧ H T = none ∧ H' = upd H T (.tup [.int (i : Nat), .str ⟨#[c]⟩]) ∧ z.cps[i]? = some c) :=
  ⟨fun _ _ hi _ => hi, fun _ _ => rfl, fun _ _ _ _ _ _ y => y⟩
def iEnumS (ta : TA) : TI := fun σ H R => ta σ H fun vs H1 => ∃ x, vs = [.str x] ∧ R (Itn x) H1
theorem pi_enumS {X : Cx} {e : Expr} {ta : TA} {p pos tpos : Pos} {elts : List Expr} {kk : Nat} (hg : Gl X "enumerate") (hm : X.mg "enumerate" = none) (ha : PA X [e] ta) (hs : starEach [e] X.env = [(false, eval e X.env)] := by rfl) :
    PI X (.Tuple elts kk tpos) (.Call (.Name "enumerate" p) [e] [] pos) (iEnumS ta) := by
  constructor
  intro pins s σ H R I h
  refine Call_ (ld_blt I hg hm boot_enumerate (PyProof.Rows.callWith_type1 (thn (ha.run pos pins s σ H _ I h) ?_) hs rfl))
  rintro us s1 ⟨vs, H1, I1, r1, x, rfl, q⟩
  obtain ⟨u, rfl, t, rfl⟩ := vals1 r1
  refine call_enumerate_str fun h' he hit hsz hk => wpAny_pyIter_enum he ?_
  have I2 : Inv X pins σ H1 { s1 with heap := h' } := I1.kept (t' := s1.toks) hk
  refine ⟨s1.heap.objs.size + 1, [s1.heap.objs.size + 1, s1.heap.objs.size], _, _, H1, rfl, I2, turn_enumS x t (s1.heap.objs.size + 1) s1.heap.objs.size, ⟨⟨.none, he⟩, hit, Nat.succ_ne_self _⟩, ?_, q⟩
  intro b hb
  have hle : s1.heap.objs.size ≤ b := by
    rcases List.mem_cons.mp hb with rfl | hb
    · exact Nat.le_succ _
    · obtain rfl := List.mem_singleton.mp hb
      exact Nat.le_refl _
  exact I1.fpOk hle (I1.hok.fresh hle)
section
variable {X : Cx}
/-- list(s), s a text: its signs -/
theorem call_list_txt (hc : X.calm = true) : CallR X (.type "list") (fun xs H Q => ∃ z : Str, xs = [.str z] ∧ z.cps.size ≤ sizeLine ∧ ∀ p, H p = none → Q (.ref p) (upd H p (.lst (z.cps.toList.map fun c => V.str ⟨#[c]⟩)))) := by
  intro pins s σ H xs us Q I r h
  obtain ⟨z, rfl, hz, q⟩ := h
  obtain ⟨u, rfl, t, rfl⟩ := vals1 r
  refine call_list_str (hn := hz) (I.ok.hd hc) z t ?_
  intro h' tk acc' c' hk hL hI
  have len : acc'.size = z.cps.size := hI.1
  have vals : Vals (z.cps.toList.map fun c => V.str ⟨#[c]⟩) acc'.toList := vals_signs _ _ (by simpa using len) fun j v e => by
    obtain ⟨c, u, h1, h2⟩ := hI.2 j v (by simpa using e)
    exact ⟨c, u, by simpa using h1, h2⟩
  have new : ObjOk X.prog X.w (upd H s.heap.objs.size (.lst (z.cps.toList.map fun c => V.str ⟨#[c]⟩))) h' s.heap.objs.size (.lst (z.cps.toList.map fun c => V.str ⟨#[c]⟩)) :=
    ⟨by simpa using hz, acc'.toList, c', vals, by simpa using hL⟩
  exact ⟨.ref s.heap.objs.size, _, I.laid (t' := tk) hk (Nat.le_refl _) new, rfl, q _ (I.hok.fresh (Nat.le_refl _))⟩
/-- s * n -/
def timesS (z : Str) (k : Int) : Str := if k < 1 then Str.empty else if (k == 1 || z.length == 0) = true then z else ⟨(List.replicate k.toNat z.cps).foldl (· ++ ·) #[]⟩
theorem op_times : OpR X (binaryOp .Mult) (fun x y H Q => ∃ (z : Str) (k : Int), x = .str z ∧ y = .int k ∧ 0 ≤ k ∧ k ≤ 1000 ∧ z.length ≤ 1000 ∧ Q (.str (timesS z k)) H) := by
  intro pins s σ H x y v u Q I rx ry h
  obtain ⟨z, k, rfl, rfl, h0, h1, hz, q⟩ := h
  obtain ⟨t, rfl⟩ := rx
  obtain ⟨t', rfl⟩ := ry
  have big : ∀ n : Nat, n ≤ 1000000 → n ≤ sizeLine := fun n h => Nat.le_trans h (by decide)
  have hm : z.length * k.toNat ≤ 1000000 := by
    have e : z.length * k.toNat ≤ 1000 * 1000 := Nat.mul_le_mul hz (by omega)
    omega
  refine PySem.P.mul_str ?_ (fun hn _ => ?_) (fun _ _ => ?_) ?_
  · have a1 : ¬ k < -(2 ^ 63 : Int) := by omega
    have a2 : ¬ k ≥ 2 ^ 63 := by omega
    rw [decide_eq_false a1, decide_eq_false a2]
    rfl
  · have p1 : (1000 : Int) ≤ (2 ^ 63 - 1) / k := Int.le_ediv_of_mul_le (by omega) (by omega)
    have p2 : ((z.length : Nat) : Int) ≤ 1000 := by omega
    omega
  · exact decide_eq_false fun z => by
      have := big _ hm
      omega
  · unfold timesS at q
    by_cases c1 : k < 1
    · rw [if_pos c1] at q ⊢
      exact ⟨Nat.zero_le _, .str _, H, I.tok _, ⟨_, rfl⟩, q⟩
    · rw [if_neg c1] at q ⊢
      by_cases c2 : (k == 1 || z.length == 0) = true
      · rw [if_pos c2] at q ⊢
        exact ⟨.str z, H, I, ⟨_, rfl⟩, q⟩
      · rw [if_neg c2] at q ⊢
        refine ⟨?_, .str _, H, I.tok _, ⟨_, rfl⟩, q⟩
        have len : ∀ (n : Nat) (a : Array Nat) (acc : Array Nat), ((List.replicate n a).foldl (· ++ ·) acc).size = acc.size + n * a.size := by
          intro n
          induction n with
          | zero => intro a acc; simp
          | succ n ih =>
            intro a acc
            rw [List.replicate_succ, List.foldl_cons, ih, Array.size_append, Nat.succ_mul]
            omega
        show ((List.replicate k.toNat z.cps).foldl (· ++ ·) #[]).size ≤ sizeLine
        rw [len, Nat.mul_comm]
        have e : (#[] : Array Nat).size = 0 := rfl
        rw [e, Nat.zero_add]
        exact big _ hm
end
end Nm
namespace Nm
open PySem PySem.Spec PyProof.Rows L2
open TL (numL tl_num numL_len numL_digits numL_ne numL_val numL_lt numL_step)
/-! ### the texts of values, their words, and how words are read -/
def Tr.parts : Tr → List Tr
  | .num _ => []
  | .mk _ ts => ts
def numC (i : Int) : List Nat := codes (Str.ofString (toString i))
theorem numC_nat (n : Nat) : numC (n : Int) = numL n := tl_num n
theorem numC_neg (n : Nat) : numC (Int.negSucc n) = 45 :: numL (n + 1) := by
  have e : toString (Int.negSucc n) = "-" ++ toString (n + 1) := rfl
  unfold numC
  rw [e]
  have h2 : numL (n + 1) = codes (Str.ofString (toString ((n + 1 : Nat) : Int))) := (numC_nat (n + 1)).symm
  rw [h2]
  show (Str.ofString ("-" ++ toString (n + 1))).cps.toList = _
  rw [PyProof.Rows.signs_ofString]
  show _ = 45 :: (Str.ofString (toString (n + 1))).cps.toList
  rw [PyProof.Rows.signs_ofString, String.toList_append, List.map_append]
  rfl
theorem numC_cases (i : Int) : (0 ≤ i ∧ numC i = numL i.natAbs) ∨ (i < 0 ∧ numC i = 45 :: numL i.natAbs) := by
  cases i with
  | ofNat n => exact .inl ⟨Int.natCast_nonneg n, numC_nat n⟩
  | negSucc n => exact .inr ⟨Int.negSucc_lt_zero n, numC_neg n⟩
theorem numC_len {i : Int} (h : i.natAbs < 10 ^ 400) : (numC i).length ≤ 401 := by
  have l := numL_len (k := 400) (by decide) h
  rcases numC_cases i with ⟨_, e⟩ | ⟨_, e⟩ <;> rw [e]
  · omega
  · simp only [List.length_cons]; omega
theorem numC_free {i : Int} {c : Nat} (h : c ∈ numC i) : c = 45 ∨ (48 ≤ c ∧ c ≤ 57) := by
  rcases numC_cases i with ⟨_, e⟩ | ⟨_, e⟩ <;> rw [e] at h
  · exact .inr (numL_digits _ c h)
  · rcases List.mem_cons.mp h with h | h
    · exact .inl h
    · exact .inr (numL_digits _ c h)
theorem numC_ne (i : Int) : numC i ≠ [] := by
  rcases numC_cases i with ⟨_, e⟩ | ⟨_, e⟩ <;> rw [e]
  · exact numL_ne _
  · exact fun z => nomatch z
mutual
def wC : Tr → List Nat
  | .num i => numC i
  | .mk m ps => codes m ++ wCL ps
def wCL : List Tr → List Nat
  | [] => []
  | p :: r => 32 :: ((if p.parts.isEmpty then wC p else 40 :: (wC p ++ [41])) ++ wCL r)
end
def pC (p : Tr) : List Nat := if p.parts.isEmpty then wC p else 40 :: (wC p ++ [41])
theorem wCL_cons (p : Tr) (r : List Tr) : wCL (p :: r) = 32 :: (pC p ++ wCL r) := by
  unfold pC
  rw [wCL]
mutual
def tk : Tr → List (List Nat)
  | .num i => [numC i]
  | .mk m ps => codes m :: tkL ps
def tkL : List Tr → List (List Nat)
  | [] => []
  | p :: r => (if p.parts.isEmpty then tk p else [40] :: (tk p ++ [[41]])) ++ tkL r
end
def tkP (p : Tr) : List (List Nat) := if p.parts.isEmpty then tk p else [40] :: (tk p ++ [[41]])
theorem tkL_cons (p : Tr) (r : List Tr) : tkL (p :: r) = tkP p ++ tkL r := by
  unfold tkP
  rw [tkL]
mutual
def Tr.good : Tr → Prop
  | .num i => i.natAbs < 10 ^ 400
  | .mk m ps => isBig m = true ∧ Tr.goodL ps
def Tr.goodL : List Tr → Prop
  | [] => True
  | t :: r => t.good ∧ Tr.goodL r
end
theorem goodL_mem : ∀ {ts : List Tr} {t : Tr}, Tr.goodL ts → t ∈ ts → t.good
  | u :: r, t, h, m => by
    unfold Tr.goodL at h
    rcases List.mem_cons.mp m with rfl | m
    · exact h.1
    · exact goodL_mem h.2 m
theorem goodL_app : ∀ {ts us : List Tr}, Tr.goodL ts → Tr.goodL us → Tr.goodL (ts ++ us)
  | [], _, _, k => k
  | t :: r, us, h, k => by
    unfold Tr.goodL at h
    show t.good ∧ Tr.goodL (r ++ us)
    exact ⟨h.1, goodL_app h.2 k⟩
/-! big names -/
def okC (c : Nat) : Prop := c ≠ 32 ∧ c ≠ 40 ∧ c ≠ 41 ∧ c ≠ 59
theorem all_ok : ∀ c ∈ codes sALL, okC c := by
  have h : (codes sALL).all (fun c => decide (c ≠ 32 ∧ c ≠ 40 ∧ c ≠ 41 ∧ c ≠ 59)) = true := by decide +kernel
  intro c hc
  have q := List.all_eq_true.mp h c hc
  exact (of_decide_eq_true q : c ≠ 32 ∧ c ≠ 40 ∧ c ≠ 41 ∧ c ≠ 59)
theorem big_split {m : Str} (h : isBig m = true) : m ≠ "" ∧ m.length ≤ 24 ∧ hd m ∈ codes sBIG ∧ allIn m sALL = true := by
  unfold isBig isName at h
  by_cases c : (decide (m = "") || (decide (m.length > 24) || !decide (hd m ∈ codes sBIG))) = true
  · rw [if_pos c] at h; cases h
  · rw [if_neg c] at h
    simp only [Bool.or_eq_true, decide_eq_true_eq, Bool.not_eq_true', decide_eq_false_iff_not, not_or, Decidable.not_not] at c
    exact ⟨c.1, by omega, c.2.2, h⟩
theorem big_of {m : Str} (h1 : m ≠ "") (h2 : m.length ≤ 24) (h3 : hd m ∈ codes sBIG) (h4 : allIn m sALL = true) : isBig m = true := by
  unfold isBig isName
  rw [decide_eq_false h1, decide_eq_false (by omega : ¬ m.length > 24), decide_eq_true h3]
  exact h4
theorem big_ok {m : Str} (h : isBig m = true) : ∀ c ∈ codes m, okC c := by
  obtain ⟨_, _, _, h4⟩ := big_split h
  intro c hc
  unfold allIn at h4
  exact all_ok c (of_decide_eq_true (List.all_eq_true.mp h4 c hc))
theorem big_ne {m : Str} (h : isBig m = true) : codes m ≠ [] := fun e => (big_split h).1 (str_ext (by rw [e]; rfl))
theorem big_num {m : Str} (h : isBig m = true) : isNum m = false := by
  obtain ⟨h1, h2, h3, h4⟩ := big_split h
  obtain ⟨c, r, e⟩ := codes_cons h1
  rw [hd_of e] at h3
  obtain ⟨nd, nm⟩ := letters_no_digits c ((big_or_small c).mpr (.inl h3))
  have d2 : digs m = m := by
    rw [digs_eq h1]
    unfold digs2
    rw [hd_of e, if_neg (by rw [decide_eq_false nm]; exact Bool.false_ne_true)]
  unfold isNum
  rw [d2]
  have na : allIn m sDIG = false := by
    cases q : allIn m sDIG with
    | false => rfl
    | true => exact (nd (allIn_hd e q)).elim
  rw [na]
  simp
/-! numbers -/
theorem dig_codes : codes sDIG = [48, 49, 50, 51, 52, 53, 54, 55, 56, 57] := by decide +kernel
theorem dig_mem (c : Nat) : c ∈ codes sDIG ↔ 48 ≤ c ∧ c ≤ 57 := by
  rw [dig_codes]
  simp only [List.mem_cons, List.not_mem_nil, or_false]
  omega
theorem allIn_dig (w : Str) : allIn w sDIG = true ↔ NumText.AllDigits (codes w) := by
  unfold allIn NumText.AllDigits
  rw [List.all_eq_true]
  exact ⟨fun h c hc => (dig_mem c).mp (of_decide_eq_true (h c hc)), fun h c hc => decide_eq_true ((dig_mem c).mpr (h c hc))⟩
def intOf (w : Str) : Int := (intText? w).getD 0
theorem num_split {w : Str} (h : isNum w = true) : digs w ≠ "" ∧ (digs w).length ≤ 400 ∧ allIn (digs w) sDIG = true := by
  unfold isNum at h
  by_cases c : (decide (digs w = "") || (decide ((digs w).length > 400) || !allIn (digs w) sDIG)) = true
  · rw [if_pos c] at h; cases h
  · simp only [Bool.or_eq_true, decide_eq_true_eq, Bool.not_eq_true', not_or, Bool.not_eq_false] at c
    exact ⟨c.1, by omega, c.2.2⟩
theorem digs2_codes {w : Str} {c : Nat} {r : List Nat} (e : codes w = c :: r) : codes (digs2 w) = if c = 45 then r else c :: r := by
  unfold digs2
  rw [hd_of e]
  by_cases h : c = 45
  · rw [decide_eq_true h, if_pos rfl, if_pos h, cutT_codes, e]
    rfl
  · rw [decide_eq_false h, if_neg Bool.false_ne_true, if_neg h, e]
theorem int_ok {w : Str} (h : isNum w = true) : intText? w = some (intOf w) ∧ w.length ≤ 401 := by
  obtain ⟨h1, h2, h3⟩ := num_split h
  have w0 : w ≠ "" := fun z => by subst z; exact absurd h1 (by decide +kernel)
  obtain ⟨c, r, e⟩ := codes_cons w0
  rw [digs_eq w0] at h1 h2 h3
  have e2 := digs2_codes e
  rw [allIn_dig, e2] at h3
  have lw := len_codes w
  have l2 := len_codes (digs2 w)
  rw [e2] at l2
  rw [e] at lw
  by_cases hc : c = 45
  · subst hc
    rw [if_pos rfl] at h3 l2
    have rn : r ≠ [] := fun z => h1 (str_ext (by rw [e2, if_pos rfl, z]; rfl))
    have ll : w.length ≤ 401 := by simp only [List.length_cons] at lw; omega
    have q := intText_neg (x := w) (cs := r) e h3 rn (by omega)
    unfold intOf
    rw [q]
    exact ⟨rfl, ll⟩
  · rw [if_neg hc] at h3 l2
    have ll : w.length ≤ 401 := by omega
    have q := intText_digits (x := w) (by rw [show w.cps.toList = c :: r from e]; exact h3) (by rw [show w.cps.toList = c :: r from e]; exact fun z => nomatch z) (by omega)
    unfold intOf
    rw [q]
    exact ⟨rfl, ll⟩
def numS (i : Int) : Str := Str.ofString (toString i)
theorem numS_codes (i : Int) : codes (numS i) = numC i := rfl
theorem numL_hd {n : Nat} (h : n ≠ 0) : ∃ c r, numL n = c :: r ∧ c ≠ 48 := by
  induction n using Nat.strongRecOn with
  | _ n ih =>
    by_cases l : n < 10
    · exact ⟨48 + n, [], numL_lt l, by omega⟩
    · obtain ⟨c, r, e, k⟩ := ih (n / 10) (by omega) (by omega)
      exact ⟨c, r ++ [48 + n % 10], by rw [numL_step (by omega), e]; rfl, k⟩
theorem numS_num {i : Int} (h : i.natAbs < 10 ^ 400) : isNum (numS i) = true ∧ intOf (numS i) = i := by
  have ne : numS i ≠ "" := fun z => numC_ne i (by rw [← numS_codes, z]; rfl)
  obtain ⟨c, r, e⟩ := codes_cons ne
  have ll := numL_len (k := 400) (by decide) h
  have dg := numL_digits i.natAbs
  have hv := numL_val i.natAbs
  have nn := numL_ne i.natAbs
  have e2 := digs2_codes e
  have key : codes (digs2 (numS i)) = numL i.natAbs := by
    rw [e2]
    rw [numS_codes] at e
    rcases numC_cases i with ⟨h0, q⟩ | ⟨h0, q⟩
    · rw [q] at e
      have := dg c (by rw [e]; exact List.mem_cons_self ..)
      rw [if_neg (by omega), e]
    · rw [q] at e
      obtain ⟨e1, e3⟩ := List.cons.inj e
      rw [if_pos e1.symm, e3]
  have d0 : digs2 (numS i) ≠ "" := fun z => nn (by rw [← key, z]; rfl)
  have al : allIn (digs2 (numS i)) sDIG = true := by rw [allIn_dig, key]; exact dg
  have dl : ¬ (digs2 (numS i)).length > 400 := by rw [len_codes, key]; omega
  have l1 := numC_len h
  have lS : (numS i).length ≤ 401 := by rw [len_codes, numS_codes]; exact l1
  constructor
  · unfold isNum
    rw [digs_eq ne, decide_eq_false d0, decide_eq_false dl, al]
    show (if decide (hd (digs2 (numS i)) = 48) = true then decide (numS i = "0") else true) = true
    by_cases z : i.natAbs = 0
    · have i0 : i = 0 := by omega
      subst i0
      decide +kernel
    · obtain ⟨c', r', e', k'⟩ := numL_hd z
      rw [hd_of (key.trans e'), decide_eq_false k']
      rfl
  · unfold intOf
    rcases numC_cases i with ⟨h0, q⟩ | ⟨h0, q⟩
    · have x := intText_digits (x := numS i) (by rw [show (numS i).cps.toList = numL i.natAbs from q]; exact dg) (by rw [show (numS i).cps.toList = numL i.natAbs from q]; exact nn) (by omega)
      rw [x, show (numS i).cps.toList = numL i.natAbs from q, hv]
      show ((i.natAbs : Nat) : Int) = i
      omega
    · have x := intText_neg (x := numS i) (cs := numL i.natAbs) q dg nn (by omega)
      rw [x, hv]
      show -((i.natAbs : Nat) : Int) = i
      omega
theorem num_log {i : Int} (h : i.natAbs < 10 ^ 400) : i.natAbs.log2 < 1920 := by
  by_cases z : i.natAbs = 0
  · rw [z]; decide
  · rw [Nat.log2_lt z]
    exact Nat.lt_trans h (by decide +kernel)
/-! the words of a text, without their columns -/
def fl (w : List Nat) : List (List Nat) := if w = [] then [] else [w]
def wd : List Nat → List Nat → List (List Nat)
  | [], w => fl w
  | c :: r, w => if c = 59 then fl w else if c = 32 then fl w ++ wd r [] else if c = 40 ∨ c = 41 then fl w ++ [c] :: wd r [] else wd r (w ++ [c])
theorem flush_fl (k : Nat) (w : List Nat) : (flush k w).map (·.1) = fl w := by
  unfold flush fl
  by_cases h : w = []
  · rw [if_pos h, if_pos h]; rfl
  · rw [if_neg h, if_neg h]; rfl
theorem scan_wd : ∀ (l : List Nat) (k : Nat) (w : List Nat), (scan l k w).map (·.1) = wd l w
  | [], k, w => flush_fl k w
  | c :: r, k, w => by
    unfold scan wd
    by_cases h1 : c = 59
    · rw [if_pos h1, if_pos h1]; exact flush_fl k w
    · rw [if_neg h1, if_neg h1]
      by_cases h2 : c = 32
      · rw [if_pos h2, if_pos h2, List.map_append, flush_fl, scan_wd r]
      · rw [if_neg h2, if_neg h2]
        by_cases h3 : c = 40 ∨ c = 41
        · rw [if_pos h3, if_pos h3, List.map_append, List.map_cons, flush_fl, scan_wd r]
        · rw [if_neg h3, if_neg h3, scan_wd r]
theorem wd_stop : ∀ (l r w : List Nat), wd (l ++ 59 :: r) w = wd l w
  | [], r, w => by
    show (if (59 : Nat) = 59 then fl w else _) = fl w
    rw [if_pos rfl]
  | c :: l, r, w => by
    show (if c = 59 then fl w else if c = 32 then fl w ++ wd (l ++ 59 :: r) [] else if c = 40 ∨ c = 41 then fl w ++ [c] :: wd (l ++ 59 :: r) [] else wd (l ++ 59 :: r) (w ++ [c])) = wd (c :: l) w
    rw [wd_stop l r, wd_stop l r]
    rfl
theorem wd_blank : ∀ (l r w : List Nat), 59 ∉ l → wd (l ++ 32 :: r) w = wd l w ++ wd r []
  | [], r, w, _ => by
    show (if (32 : Nat) = 59 then fl w else if (32 : Nat) = 32 then fl w ++ wd r [] else _) = fl w ++ wd r []
    rw [if_neg (by decide), if_pos rfl]
  | c :: l, r, w, h => by
    have h1 : c ≠ 59 := fun z => h (by simp [z])
    have h2 : 59 ∉ l := fun z => h (by simp [z])
    show (if c = 59 then fl w else if c = 32 then fl w ++ wd (l ++ 32 :: r) [] else if c = 40 ∨ c = 41 then fl w ++ [c] :: wd (l ++ 32 :: r) [] else wd (l ++ 32 :: r) (w ++ [c])) = (if c = 59 then fl w else if c = 32 then fl w ++ wd l [] else if c = 40 ∨ c = 41 then fl w ++ [c] :: wd l [] else wd l (w ++ [c])) ++ wd r []
    rw [wd_blank l r _ h2, wd_blank l r _ h2, if_neg h1, if_neg h1]
    by_cases h3 : c = 32
    · rw [if_pos h3, if_pos h3, List.append_assoc]
    · rw [if_neg h3, if_neg h3]
      by_cases h4 : c = 40 ∨ c = 41
      · rw [if_pos h4, if_pos h4]; simp
      · rw [if_neg h4, if_neg h4]
theorem wd_paren {c : Nat} (hc : c = 40 ∨ c = 41) : ∀ (l r w : List Nat), 59 ∉ l → wd (l ++ c :: r) w = wd l w ++ [c] :: wd r []
  | [], r, w, _ => by
    show (if c = 59 then fl w else if c = 32 then fl w ++ wd r [] else if c = 40 ∨ c = 41 then fl w ++ [c] :: wd r [] else wd r (w ++ [c])) = fl w ++ [c] :: wd r []
    rw [if_neg (by omega), if_neg (by omega), if_pos hc]
  | d :: l, r, w, h => by
    have h1 : d ≠ 59 := fun z => h (by simp [z])
    have h2 : 59 ∉ l := fun z => h (by simp [z])
    show (if d = 59 then fl w else if d = 32 then fl w ++ wd (l ++ c :: r) [] else if d = 40 ∨ d = 41 then fl w ++ [d] :: wd (l ++ c :: r) [] else wd (l ++ c :: r) (w ++ [d])) = (if d = 59 then fl w else if d = 32 then fl w ++ wd l [] else if d = 40 ∨ d = 41 then fl w ++ [d] :: wd l [] else wd l (w ++ [d])) ++ [c] :: wd r []
    rw [wd_paren hc l r _ h2, wd_paren hc l r _ h2, if_neg h1, if_neg h1]
    by_cases h3 : d = 32
    · rw [if_pos h3, if_pos h3, List.append_assoc]
    · rw [if_neg h3, if_neg h3]
      by_cases h4 : d = 40 ∨ d = 41
      · rw [if_pos h4, if_pos h4]; simp
      · rw [if_neg h4, if_neg h4]
theorem wd_word : ∀ (u w : List Nat), (∀ c ∈ u, okC c) → wd u w = fl (w ++ u)
  | [], w, _ => by rw [List.append_nil]; rfl
  | c :: u, w, h => by
    obtain ⟨h1, h2, h3, h4⟩ := h c (List.mem_cons_self ..)
    unfold wd
    rw [if_neg h4, if_neg h1, if_neg (by omega), wd_word u _ fun d hd => h d (List.mem_cons_of_mem _ hd), List.append_assoc]
    rfl
theorem fl_of {w : List Nat} (h : w ≠ []) : fl w = [w] := if_neg h
theorem numC_ok (i : Int) : ∀ c ∈ numC i, okC c := fun c hc => by
  rcases numC_free hc with h | h
  · exact ⟨by omega, by omega, by omega, by omega⟩
  · exact ⟨by omega, by omega, by omega, by omega⟩
mutual
theorem free_wC : ∀ t : Tr, t.good → 59 ∉ wC t
  | .num i, _, h => (numC_ok i 59 (by unfold wC at h; exact h)).2.2.2 rfl
  | .mk m ps, g, h => by
    unfold Tr.good at g
    unfold wC at h
    rcases List.mem_append.mp h with h | h
    · exact (big_ok g.1 59 h).2.2.2 rfl
    · exact free_wCL ps g.2 h
theorem free_wCL : ∀ ps : List Tr, Tr.goodL ps → 59 ∉ wCL ps
  | [], _, h => by unfold wCL at h; exact nomatch h
  | p :: r, g, h => by
    unfold Tr.goodL at g
    rw [wCL_cons] at h
    have fp := free_wC p g.1
    have fr := free_wCL r g.2
    unfold pC at h
    by_cases e : p.parts.isEmpty = true
    · rw [if_pos e] at h
      simp only [List.mem_cons, List.mem_append] at h
      rcases h with h | h | h
      · omega
      · exact fp h
      · exact fr h
    · rw [if_neg e] at h
      simp only [List.mem_cons, List.mem_append, List.not_mem_nil, or_false] at h
      rcases h with h | (h | h | h) | h
      · omega
      · omega
      · exact fp h
      · omega
      · exact fr h
end
mutual
theorem wd_wC : ∀ t : Tr, t.good → wd (wC t) [] = tk t
  | .num i, _ => by
    unfold wC tk
    rw [wd_word _ _ (numC_ok i), List.nil_append, fl_of (numC_ne i)]
  | .mk m ps, g => by
    unfold Tr.good at g
    unfold wC tk
    have q := wd_wCL ps g.2 (codes m) fun h => (big_ok g.1 59 h).2.2.2 rfl
    rw [q, wd_word _ _ (big_ok g.1), List.nil_append, fl_of (big_ne g.1)]
    rfl
theorem wd_wCL : ∀ ps : List Tr, Tr.goodL ps → ∀ l : List Nat, 59 ∉ l → wd (l ++ wCL ps) [] = wd l [] ++ tkL ps
  | [], _, l, _ => by
    unfold wCL tkL
    rw [List.append_nil, List.append_nil]
  | p :: r, g, l, hl => by
    unfold Tr.goodL at g
    have fp := free_wC p g.1
    have wp := wd_wC p g.1
    rw [wCL_cons, tkL_cons, wd_blank _ _ _ hl]
    congr 1
    have ep : 59 ∉ pC p ∧ wd (pC p) [] = tkP p := by
      unfold pC tkP
      by_cases e : p.parts.isEmpty = true
      · rw [if_pos e, if_pos e]
        exact ⟨fp, wp⟩
      · rw [if_neg e, if_neg e]
        refine ⟨fun h => ?_, ?_⟩
        · simp only [List.mem_cons, List.mem_append, List.not_mem_nil, or_false] at h
          rcases h with h | h | h
          · omega
          · exact fp h
          · omega
        · have e1 := wd_paren (c := 40) (.inl rfl) [] (wC p ++ [41]) [] (fun h => nomatch h)
          have e2 := wd_paren (c := 41) (.inr rfl) (wC p) [] [] fp
          rw [List.nil_append] at e1
          rw [e1, e2, wp]
          rfl
    rw [wd_wCL r g.2 (pC p) ep.1, ep.2]
end
/-! more blanks -/
inductive Wide : List Nat → List Nat → Prop
  | nil : Wide [] []
  | sep {l l' : List Nat} {c : Nat} (a b : Nat) (h : Wide l l') (hc : c = 32 ∨ c = 40 ∨ c = 41) : Wide (l ++ [c]) (l' ++ (List.replicate a 32 ++ c :: List.replicate b 32))
  | sign {l l' : List Nat} {c : Nat} (h : Wide l l') (hc : c ≠ 32 ∧ c ≠ 40 ∧ c ≠ 41) : Wide (l ++ [c]) (l' ++ [c])
theorem wd_cong : ∀ (l x y w : List Nat), (∀ w', wd x w' = wd y w') → wd (l ++ x) w = wd (l ++ y) w
  | [], x, y, w, h => h w
  | c :: l, x, y, w, h => by
    show (if c = 59 then fl w else if c = 32 then fl w ++ wd (l ++ x) [] else if c = 40 ∨ c = 41 then fl w ++ [c] :: wd (l ++ x) [] else wd (l ++ x) (w ++ [c])) = (if c = 59 then fl w else if c = 32 then fl w ++ wd (l ++ y) [] else if c = 40 ∨ c = 41 then fl w ++ [c] :: wd (l ++ y) [] else wd (l ++ y) (w ++ [c]))
    rw [wd_cong l x y _ h, wd_cong l x y _ h]
theorem wd_blanks (a : Nat) (r : List Nat) : wd (List.replicate a 32 ++ r) [] = wd r [] := by
  induction a with
  | zero => rfl
  | succ a ih =>
    rw [List.replicate_succ]
    have e := wd_blank [] (List.replicate a 32 ++ r) [] (fun h => nomatch h)
    rw [List.nil_append] at e
    show wd (32 :: (List.replicate a 32 ++ r)) [] = _
    rw [e, ih]
    rfl
theorem wd_sep {c : Nat} (hc : c = 32 ∨ c = 40 ∨ c = 41) (a b : Nat) (r w : List Nat) : wd ((List.replicate a 32 ++ c :: List.replicate b 32) ++ r) w = wd (c :: r) w := by
  have base : ∀ w, wd (c :: (List.replicate b 32 ++ r)) w = wd (c :: r) w := fun w => by
    rcases hc with rfl | h
    · have e1 := wd_blank [] (List.replicate b 32 ++ r) w (fun h => nomatch h)
      have e2 := wd_blank [] r w (fun h => nomatch h)
      rw [List.nil_append] at e1 e2
      rw [e1, e2, wd_blanks]
    · have e1 := wd_paren h [] (List.replicate b 32 ++ r) w (fun h => nomatch h)
      have e2 := wd_paren h [] r w (fun h => nomatch h)
      rw [List.nil_append] at e1 e2
      rw [e1, e2, wd_blanks]
  rw [List.append_assoc]
  cases a with
  | zero => exact base w
  | succ a =>
    have e1 := wd_blank [] (List.replicate a 32 ++ c :: (List.replicate b 32 ++ r)) w (fun h => nomatch h)
    rw [List.nil_append] at e1
    show wd (32 :: (List.replicate a 32 ++ c :: (List.replicate b 32 ++ r))) w = _
    rw [e1, wd_blanks, base []]
    rcases hc with rfl | h
    · have e2 := wd_blank [] r w (fun h => nomatch h)
      have e3 := wd_blank [] r [] (fun h => nomatch h)
      rw [List.nil_append] at e2 e3
      rw [e2, e3]
      rfl
    · have e2 := wd_paren h [] r w (fun h => nomatch h)
      have e3 := wd_paren h [] r [] (fun h => nomatch h)
      rw [List.nil_append] at e2 e3
      rw [e2, e3]
      rfl
theorem Wide.wd {l l' : List Nat} (h : Wide l l') : ∀ r w, Nm.wd (l' ++ r) w = Nm.wd (l ++ r) w := by
  induction h with
  | nil => exact fun _ _ => rfl
  | @sep l l' c a b h hc ih =>
    intro r w
    rw [List.append_assoc l', ih, List.append_assoc l]
    exact wd_cong l _ _ w fun w' => wd_sep hc a b r w'
  | @sign l l' c h hc ih =>
    intro r w
    rw [List.append_assoc, List.append_assoc, ih]
theorem Wide.free {l l' : List Nat} (h : Wide l l') (f : 59 ∉ l) : 59 ∉ l' := by
  induction h with
  | nil => exact f
  | @sep l l' c a b h hc ih =>
    have f1 : 59 ∉ l := fun z => f (List.mem_append_left _ z)
    intro z
    simp only [List.mem_append, List.mem_cons, List.mem_replicate] at z
    rcases z with z | z | z | z
    · exact ih f1 z
    · omega
    · omega
    · omega
  | @sign l l' c h hc ih =>
    have f1 : 59 ∉ l := fun z => f (List.mem_append_left _ z)
    intro z
    rcases List.mem_append.mp z with z | z
    · exact ih f1 z
    · exact f (List.mem_append_right _ z)
/-! how words are read -/
abbrev Itm := Str ⊕ Tr
def mayP : List Itm → Bool
  | .inl _ :: _ => true
  | _ => false
def valsI (l : List Itm) : List Tr := l.filterMap fun i => match i with
  | .inr t => some t
  | .inl _ => none
def readV : List Itm → Tr
  | .inl m :: r => .mk m (valsI r)
  | .inr t :: _ => t
  | [] => .num 0
theorem valsI_map (ps : List Tr) : valsI (ps.map .inr) = ps := by
  unfold valsI
  induction ps with
  | nil => rfl
  | cons p r ih => rw [List.map_cons, List.filterMap_cons, ih]
def takeW1 (told : List Itm) (rest : List (List Itm)) (w : Str) : Option (List (List Itm)) :=
  if w = "(" then (if (!mayP told && (!rest.isEmpty || !told.isEmpty)) = true then none else some ([] :: told :: rest))
  else if w = ")" then (match rest with
    | [] => none
    | t2 :: r2 => if told.isEmpty = true then none else some ((t2 ++ [.inr (readV told)]) :: r2))
  else if (!told.isEmpty && !mayP told) = true then none
  else if isNum w = true then some ((told ++ [.inr (.num (intOf w))]) :: rest)
  else if isBig w = true then some ((told ++ [if told.isEmpty = true then .inl w else .inr (.mk w [])]) :: rest)
  else none
def takeW : List (List Itm) → Str → Option (List (List Itm))
  | [], _ => none
  | told :: rest, w => takeW1 told rest w
def takeAll : List (List Itm) → List Str → Option (List (List Itm))
  | S, [] => some S
  | S, w :: r => match takeW S w with
    | none => none
    | some S' => takeAll S' r
theorem takeAll_app : ∀ (a b : List Str) (S S' : List (List Itm)), takeAll S a = some S' → takeAll S (a ++ b) = takeAll S' b
  | [], b, S, S', h => by
    obtain rfl := Option.some.inj h
    rfl
  | w :: a, b, S, S', h => by
    show (match takeW S w with | none => none | some S' => takeAll S' (a ++ b)) = _
    unfold takeAll at h
    cases e : takeW S w with
    | none => rw [e] at h; cases h
    | some S1 =>
      rw [e] at h
      exact takeAll_app a b S1 S' h
abbrev ws (l : List (List Nat)) : List Str := l.map fun w => ⟨w.toArray⟩
theorem ws_codes (m : Str) : (⟨(codes m).toArray⟩ : Str) = m := str_ext (by simp)
def toldOf : Tr → List Itm
  | .num i => [.inr (.num i)]
  | .mk m ps => .inl m :: ps.map .inr
theorem readV_told (t : Tr) : readV (toldOf t) = t := by
  cases t with
  | num i => rfl
  | mk m ps =>
    show Tr.mk m (valsI (ps.map .inr)) = _
    rw [valsI_map]
theorem ne_paren {w : Str} (h : ∀ c ∈ codes w, okC c) : w ≠ "(" ∧ w ≠ ")" := by
  refine ⟨fun z => ?_, fun z => ?_⟩
  · subst z
    exact (h 40 (by decide +kernel)).2.1 rfl
  · subst z
    exact (h 41 (by decide +kernel)).2.2.1 rfl
theorem take_num {told : List Itm} {rest : List (List Itm)} {i : Int} (h : i.natAbs < 10 ^ 400) (m : told = [] ∨ mayP told = true) : takeW (told :: rest) (numS i) = some ((told ++ [.inr (.num i)]) :: rest) := by
  obtain ⟨n1, n2⟩ := ne_paren (w := numS i) (numC_ok i)
  obtain ⟨a, b⟩ := numS_num h
  show takeW1 _ _ _ = _
  unfold takeW1
  rw [if_neg n1, if_neg n2, if_neg (by rcases m with rfl | m <;> simp [*]), if_pos a, b]
theorem take_big {told : List Itm} {rest : List (List Itm)} {w : Str} (h : isBig w = true) (m : told = [] ∨ mayP told = true) : takeW (told :: rest) w = some ((told ++ [if told.isEmpty = true then .inl w else .inr (.mk w [])]) :: rest) := by
  obtain ⟨n1, n2⟩ := ne_paren (w := w) (big_ok h)
  show takeW1 _ _ _ = _
  unfold takeW1
  rw [if_neg n1, if_neg n2, if_neg (by rcases m with rfl | m <;> simp [*]), if_neg (by rw [big_num h]; exact Bool.false_ne_true), if_pos h]
theorem take_open {told : List Itm} {rest : List (List Itm)} (m : mayP told = true ∨ (rest = [] ∧ told = [])) : takeW (told :: rest) ("(" : Str) = some ([] :: told :: rest) := by
  show takeW1 _ _ _ = _
  unfold takeW1
  rw [if_pos rfl, if_neg (by rcases m with m | ⟨rfl, rfl⟩ <;> simp [*])]
theorem take_close {told t2 : List Itm} {r2 : List (List Itm)} (h : told ≠ []) : takeW (told :: t2 :: r2) (")" : Str) = some ((t2 ++ [.inr (readV told)]) :: r2) := by
  show takeW1 _ _ _ = _
  unfold takeW1
  rw [if_neg (by decide +kernel), if_pos rfl]
  show (if told.isEmpty = true then none else _) = _
  rw [if_neg (by cases told with | nil => exact (h rfl).elim | cons a b => exact Bool.false_ne_true)]
theorem take_one {S S' : List (List Itm)} {w : Str} (h : takeW S w = some S') (r : List Str) : takeAll S (w :: r) = takeAll S' r := by
  show (match takeW S w with | none => none | some S' => takeAll S' r) = _
  rw [h]
theorem toldOf_ne (t : Tr) : toldOf t ≠ [] := by cases t <;> exact fun z => nomatch z
mutual
theorem take_tk : ∀ t : Tr, t.good → ∀ (rest : List (List Itm)) (r : List Str), takeAll ([] :: rest) (ws (tk t) ++ r) = takeAll (toldOf t :: rest) r
  | .num i, g, rest, r => by
    unfold Tr.good at g
    unfold tk
    exact take_one (take_num g (.inl rfl)) r
  | .mk m ps, g, rest, r => by
    unfold Tr.good at g
    unfold tk
    show takeAll ([] :: rest) ((⟨(codes m).toArray⟩ : Str) :: (ws (tkL ps) ++ r)) = _
    rw [ws_codes, take_one (take_big g.1 (.inl rfl))]
    exact take_tkL ps g.2 m [] rest r
theorem take_tkL : ∀ ps : List Tr, Tr.goodL ps → ∀ (m : Str) (xs : List Itm) (rest : List (List Itm)) (r : List Str), takeAll ((.inl m :: xs) :: rest) (ws (tkL ps) ++ r) = takeAll ((.inl m :: (xs ++ ps.map .inr)) :: rest) r
  | [], _, m, xs, rest, r => by
    unfold tkL
    rw [List.map_nil, List.append_nil]
    rfl
  | p :: q, g, m, xs, rest, r => by
    unfold Tr.goodL at g
    rw [tkL_cons]
    have e1 : ws (tkP p ++ tkL q) ++ r = ws (tkP p) ++ (ws (tkL q) ++ r) := by simp [ws]
    have e2 : takeAll ((.inl m :: xs) :: rest) (ws (tkP p) ++ (ws (tkL q) ++ r)) = takeAll ((.inl m :: (xs ++ [.inr p])) :: rest) (ws (tkL q) ++ r) := by
      have ind := take_tk p g.1
      generalize ws (tkL q) ++ r = r'
      unfold tkP
      by_cases e : p.parts.isEmpty = true
      · rw [if_pos e]
        cases p with
        | num i =>
          have g1 := g.1
          unfold Tr.good at g1
          unfold tk
          exact take_one (take_num (told := .inl m :: xs) g1 (.inr rfl)) r'
        | mk m' ps' =>
          have g1 := g.1
          unfold Tr.good at g1
          have e0 : ps' = [] := List.isEmpty_iff.mp e
          subst e0
          unfold tk tkL
          show takeAll ((.inl m :: xs) :: rest) ((⟨(codes m').toArray⟩ : Str) :: r') = _
          rw [ws_codes, take_one (take_big (told := .inl m :: xs) g1.1 (.inr rfl))]
          rfl
      · rw [if_neg e]
        have e3 : ws ([40] :: (tk p ++ [[41]])) ++ r' = ("(" : Str) :: (ws (tk p) ++ ((")" : Str) :: r')) := by
          simp only [ws, List.map_cons, List.map_append, List.cons_append, List.append_assoc, List.map_nil, List.nil_append]
          rfl
        rw [e3, take_one (take_open (.inl rfl)), ind ((.inl m :: xs) :: rest), take_one (take_close (toldOf_ne p)), readV_told]
        rfl
    rw [e1, e2]
    have e4 := take_tkL q g.2 m (xs ++ [.inr p]) rest r
    rw [List.append_assoc] at e4
    exact e4
end
/-- the words of a text tell a value -/
def Tells (l : List Nat) (t : Tr) : Prop := ∃ told : List Itm, takeAll [[]] (ws (wd l [])) = some [told] ∧ told ≠ [] ∧ readV told = t
theorem tells_of {t : Tr} (g : t.good) {l : List Nat} (e : wd l [] = tk t) : Tells l t := by
  have h := take_tk t g [] []
  rw [List.append_nil] at h
  refine ⟨toldOf t, ?_, toldOf_ne t, readV_told t⟩
  rw [e]
  exact h
theorem tells_in {t : Tr} (g : t.good) {l : List Nat} (e : wd l [] = [40] :: (tk t ++ [[41]])) : Tells l t := by
  have e3 : ws ([40] :: (tk t ++ [[41]])) = ("(" : Str) :: (ws (tk t) ++ [(")" : Str)]) := by
    simp only [ws, List.map_cons, List.map_append, List.map_nil]
    rfl
  refine ⟨[.inr t], ?_, (fun z => nomatch z), rfl⟩
  rw [e, e3, take_one (take_open (.inr ⟨rfl, rfl⟩)), take_tk t g, take_one (take_close (toldOf_ne t)), readV_told]
  rfl
mutual
theorem len_wC : ∀ t : Tr, t.good → (wC t).length + 3 ≤ 410 * t.sz
  | .num i, g => by
    unfold Tr.good at g
    have h := numC_len g
    unfold wC Tr.sz
    omega
  | .mk m ps, g => by
    unfold Tr.good at g
    have h := (big_split g.1).2.1
    rw [len_codes] at h
    have k := len_wCL ps g.2
    unfold wC Tr.sz
    rw [List.length_append]
    omega
theorem len_wCL : ∀ ps : List Tr, Tr.goodL ps → (wCL ps).length ≤ 410 * Tr.szL ps
  | [], _ => by simp [wCL]
  | p :: r, g => by
    unfold Tr.goodL at g
    have h := len_wC p g.1
    have k := len_wCL r g.2
    have e : (pC p).length ≤ (wC p).length + 2 := by
      unfold pC
      by_cases e : p.parts.isEmpty = true
      · rw [if_pos e]; omega
      · rw [if_neg e]; simp
    rw [wCL_cons, Tr.szL, List.length_cons, List.length_append]
    omega
end
end Nm
namespace Nm
open PySem PySem.Spec PyProof.Rows L2
noncomputable instance : DecidableEq Tr := fun a b => Classical.propDecidable (a = b)
/-! ### the program: values made, their parts, == -/
def top (i : Nat) : Stmt := PySem.Challenge.pw_namedmeets_k04_texts_of_values_refused.main.body.getD i (.Pass ⟨0, 0, 0, 0⟩)
theorem ite_no {c : Bool} {A B : Prop} (h : c = false) (k : B) : if c = true then A else B := by
  rw [h]
  exact iteF k
theorem ite_yes {c : Bool} {A B : Prop} (h : c = true) (k : A) : if c = true then A else B := by
  rw [h]
  exact iteT k
theorem pe_gref {X : Cx} {x : Str} {C : Addr} {pos : Pos} (hg : Gl X x) (hm : X.mg x = some (.ref C)) (hd : (x == ("__debug__" : Str)) = false := by decide) : PE X (.Name x pos) (tC (.ref C)) := pe_glob hg hm rfl hd
theorem same_new {H : Hp} {p : Addr} {o : HO} (h : H p = none) : Same H (upd H p o) := fun b u e => by
  rw [upd_ne (ne_of_none e h)]
  exact e
theorem sz_of {n : Nat} (h : n ≤ 2000000) : n ≤ sizeLine := Nat.le_trans h (by decide)
structure VTxt (mg : Str → Option Value) : Prop where
  isinstance : mg "isinstance" = none
  len : mg "len" = none
  range : mg "range" = none
  reversed : mg "reversed" = none
  tuple : mg "tuple" = none
  list : mg "list" = none
  int : mg "int" = none
  bool : mg "bool" = none
  zip : mg "zip" = none
  str : mg "str" = none
  enumerate : mg "enumerate" = none
def spInit (C : Addr) : Sp := fun vs H Q _ => ∃ (x dx p : Addr) (m : Str) (xs : List V), vs = [.ref x, .str m, .ref p] ∧ H x = some (.ins C dx []) ∧ H p = some (.tup xs) ∧ Q .non (upd H x (.ins C dx (mkF m p)))
def spParts (C : Addr) : Sp := fun vs H Q _ => ∃ (v : V) (t : Tr), vs = [v] ∧ VAt C H v t ∧ ∀ (p : Addr) (xs : List V) (H' : Hp), Same H H' → H' p = some (.tup xs) → VAts C H' xs t.parts → Q (.ref p) H'
theorem VAts.snoc {C : Addr} {H : Hp} : ∀ {ts : List Tr} {xs : List V}, VAts C H xs ts → xs = [] ∨ ∃ xs' x ts' t, xs = xs' ++ [x] ∧ ts = ts' ++ [t] ∧ VAts C H xs' ts' ∧ VAt C H x t
  | _, _, .nil => .inl rfl
  | _, _, .cons h r => by
    rcases r.snoc with e | ⟨xs', x, ts', t, e1, e2, k1, k2⟩
    · subst e
      cases r
      exact .inr ⟨[], _, [], _, rfl, rfl, .nil, h⟩
    · subst e1 e2
      exact .inr ⟨_ :: xs', x, _ :: ts', t, rfl, rfl, .cons h k1, k2⟩
theorem VAts.put {C : Addr} {H : Hp} {xs : List V} {ts : List Tr} (h : VAts C H xs ts) {p : Addr} {o o' : HO} (e : H p = some o) (n1 : ∀ dx fs, o ≠ .ins C dx fs) (n2 : ∀ xs, o ≠ .tup xs) : VAts C (upd H p o') xs ts :=
  h.mono (fun a dx fs q => by rw [upd_ne (ne_of q e (fun z => n1 _ _ z.symm))]; exact q) fun a xs q => by rw [upd_ne (ne_of q e (fun z => n2 _ z.symm))]; exact q
theorem same_put {H H1 : Hp} {l : Addr} {o : HO} (s : Same H H1) (n : H l = none) : Same H (upd H1 l o) := fun b u e => by
  rw [upd_ne (ne_of_none e n)]
  exact s _ _ e
section
variable {P : Program} {w : World} {K : PySem.W.Frag} {mg : Str → Option Value} {base : Heap} {C fE : Addr}

abbrev sMadeinit : Stmt := inClass (top 18) 0
abbrev NMadeinit : List Str := ["self", "maker", "parts"]
abbrev PMadeinit : List Str := ["self", "maker", "parts"]
theorem scMadeinit : FnScope NMadeinit PMadeinit (defScope sMadeinit) := ⟨rfl, rfl, rfl, by decide +kernel, rfl, by decide +kernel, by decide +kernel⟩

theorem ok_init {f : Addr} {fd : FuncData} (F : Fun K "__init__" "Made.__init__" sMadeinit f fd) (T : VTxt mg) (MT : MadeTxt K mg C fE) : FnOk P w K mg base CX0 1 f fd PMadeinit (spInit C) := by
  refine F.ok scMadeinit (fun vs H Q E h => ?_) (fun cdv A outer s H vs Q E hr h => ?_)
  · obtain ⟨x, dx, p, m, xs, rfl, _⟩ := h
    rfl
  · obtain ⟨x, dx, p, m, xs, rfl, hx, hp, k⟩ := h
    have px : p ≠ x := ne_of hp hx (by intro z; cases z)
    refine ⟨_, (pss_cons (ps_fld (pv 0) (pv 1) rfl)
      (pss_one (ps_fld (pv 0) (pe_ifExp (pt_val (pe_callB call_isi (by rfl) T.isinstance (by decide +kernel) (pa_cons (pv 2) (pa_cons (pe_bltn (v := .ty "list") (by rfl) T.list (by decide +kernel) rfl) pa_nil)))) (pe_callTy call_tuple_of (by rfl) T.tuple (by decide +kernel) (pa_cons (pv 2) pa_nil)) (pv 2)) rfl))), ?_⟩
    refine ⟨.str m, (by kernel_rfl), .ref x, (by kernel_rfl), x, C, dx, [], rfl, hx, MT.cl, MT.nM, (by show 0 < 1000; decide), ?_⟩
    refine ⟨.ref p, (by kernel_rfl), _, _, _, _, false, rfl, .ty "list", .base (.tup (Eq.trans (upd_ne px) hp)), kit_ty (by decide +kernel), _, rfl, ?_⟩
    refine ite_no rfl ?_
    refine ⟨.ref p, (by kernel_rfl), .ref x, (by kernel_rfl), x, C, dx, _, rfl, upd_same, MT.cl, MT.nP, (by show 1 < 1000; decide), ?_⟩
    rw [upd_upd]
    exact k

end
end Nm
namespace Nm
open PySem PySem.Spec PyProof.Rows L2
/-! ### the program's words -/
theorem pe_gstr {X : Cx} {x z : Str} {pos : Pos} (hg : Gl X x) (hm : ∃ t, X.mg x = some (.str z t)) (hd : (x == ("__debug__" : Str)) = false := by decide) : PE X (.Name x pos) (tC (.str z)) := by
  obtain ⟨t, e⟩ := hm
  exact pe_glob hg e ⟨t, rfl⟩ hd
theorem pe_gint {X : Cx} {x : Str} {z : Int} {pos : Pos} (hg : Gl X x) (hm : ∃ t, X.mg x = some (.int z t)) (hd : (x == ("__debug__" : Str)) = false := by decide) : PE X (.Name x pos) (tC (.int z)) := by
  obtain ⟨t, e⟩ := hm
  exact pe_glob hg e ⟨t, rfl⟩ hd
theorem dec_str (a b : Str) : decide (V.str a = V.str b) = decide (a = b) := by
  by_cases h : a = b
  · rw [h]
    simp
  · rw [decide_eq_false h, decide_eq_false fun z => h (V.str.inj z)]
structure WTxt (mg : Str → Option Value) : Prop where
  BIG_LETTERS : ∃ t, mg "BIG_LETTERS" = some (.str sBIG t)
  SMALL_LETTERS : ∃ t, mg "SMALL_LETTERS" = some (.str sSMA t)
  DIGITS : ∃ t, mg "DIGITS" = some (.str sDIG t)
  MOST_SIGNS : ∃ t, mg "MOST_SIGNS" = some (.int 24 t)
  MOST_DIGITS : ∃ t, mg "MOST_DIGITS" = some (.int 400 t)
  len : mg "len" = none
  enumerate : mg "enumerate" = none
  tuple : mg "tuple" = none
  int : mg "int" = none
  list : mg "list" = none
  isinstance : mg "isinstance" = none
  range : mg "range" = none
def spAll : Sp := fun vs H Q _ => ∃ t s : Str, vs = [.str t, .str s] ∧ Q (.bl (allIn t s)) H
def spName : Sp := fun vs H Q _ => ∃ w f : Str, vs = [.str w, .str f] ∧ w.length ≤ 900000 ∧ Q (.bl (isName w f)) H
def spW (f : Str → Bool) : Sp := fun vs H Q _ => ∃ w : Str, vs = [.str w] ∧ w.length ≤ 900000 ∧ Q (.bl (f w)) H
theorem atI0 {α : Type} {c : α} {r l : List α} (e : l = c :: r) : atI l 0 = some c := by
  rw [e]
  exact atI_nat (by rfl)
section
variable {P : Program} {w : World} {K : PySem.W.Frag} {mg : Str → Option Value} {base : Heap}

abbrev sallamong : Stmt := top 9
abbrev Nallamong : List Str := ["text", "signs", "sign"]
abbrev Pallamong : List Str := ["text", "signs"]
theorem scallamong : FnScope Nallamong Pallamong (defScope sallamong) := ⟨rfl, rfl, rfl, by decide +kernel, rfl, by decide +kernel, by decide +kernel⟩

theorem ok_all {f : Addr} {fd : FuncData} (F : Fun K "all_among" "all_among" sallamong f fd) : FnOk P w K mg base CX0 1 f fd Pallamong spAll := by
  refine F.ok scallamong (fun vs H Q E h => ?_) (fun cdv A outer s H vs Q E hr h => ?_)
  · obtain ⟨t, z, rfl, _⟩ := h
    rfl
  · obtain ⟨t, z, rfl, k⟩ := h
    refine ⟨_, (pss_cons (ps_for PassesOwn.never rfl (pi_str (pv 0)) (pg_name (i := 2) scallamong.nd rfl (Or.inl rfl))
      (pss_one (ps_if (pt_cmpR op_notIn_sign (pv 2) (pv 1) (by rfl))
      (pss_one (ps_ret pe_bl))
      pss_nil)))
      (pss_one (ps_ret pe_bl))), ?_⟩
    refine ⟨.str t, (by kernel_rfl), t, rfl, ?_⟩
    refine for_it (walk_str (z := t)) (fun i σ H' => H' = H ∧ (∃ v, σ = [some (.str t), some (.str z), v]) ∧ ((codes t).take i).all (fun c => decide (c ∈ codes z)) = true) ⟨rfl, ⟨none, rfl⟩, rfl⟩ (fun _ _ _ _ _ => True.intro) ?_ ?_
    · rintro i x σ H1 H2 hi ⟨rfl, ⟨v, rfl⟩, ha⟩ ⟨rfl, c, hc, rfl⟩
      have hc' : (codes t)[i]? = some c := by simpa using hc
      refine ⟨.str ⟨#[c]⟩, (by kernel_rfl), .str z, (by kernel_rfl), c, z, rfl, rfl, _, rfl, ?_⟩
      by_cases m : c ∈ codes z
      · refine ite_no (by rw [decide_eq_true m]; rfl) ?_
        refine ⟨rfl, ⟨_, rfl⟩, ?_⟩
        rw [List.take_add_one, hc', List.all_append, ha]
        show (true && ((decide (c ∈ codes z)) && true)) = true
        rw [decide_eq_true m]
        rfl
      · refine ite_yes (by rw [decide_eq_false m]; rfl) ?_
        have e : allIn t z = false := by
          unfold allIn
          refine List.all_eq_false.mpr ⟨c, List.mem_of_getElem? hc', ?_⟩
          simp [m]
        rw [e] at k
        exact k
    · rintro σ H1 ⟨rfl, ⟨v, rfl⟩, ha⟩
      have e : allIn t z = true := by
        unfold allIn
        have l : t.cps.size = (codes t).length := by simp
        rw [l, List.take_length] at ha
        exact ha
      rw [e] at k
      exact k

abbrev sisname : Stmt := top 10
abbrev Nisname : List Str := ["word", "first_signs"]
abbrev Pisname : List Str := ["word", "first_signs"]
theorem scisname : FnScope Nisname Pisname (defScope sisname) := ⟨rfl, rfl, rfl, by decide +kernel, rfl, by decide +kernel, by decide +kernel⟩

theorem ok_name {f fA : Addr} {fd fdA : FuncData} (F : Fun K "is_name" "is_name" sisname f fd) (T : WTxt mg) (F_all_among : Fun K "all_among" "all_among" sallamong fA fdA) (b_all_among : Binds K fdA Pallamong []) (g_all_among : mg "all_among" = some (.ref fA)) :
    FnOk P w K mg base CX0 2 f fd Pisname spName := by
  have G_all_among : FnOk P w K mg base CX0 1 fA fdA Pallamong spAll := ok_all F_all_among
  refine F.ok scisname (fun vs H Q E h => ?_) (fun cdv A outer s H vs Q E hr h => ?_)
  · obtain ⟨t, z, rfl, _⟩ := h
    rfl
  · obtain ⟨t, z, rfl, hl, k⟩ := h
    have hr1 := hr
    refine ⟨_, (pss_cons (ps_if (PW.pt (pw_or (pt_cmpR op_eq (pv 0) pe_str (nomark _)) (pw_or (pt_cmpR op_gt (pe_callB call_len_str (by rfl) T.len PySem.boot_len (pa_cons (pv 0) pa_nil)) (pe_gint (by rfl) T.MOST_SIGNS) (nomark _)) (pw_or1 (pt_cmpR op_notIn_sign (pe_ix ix_str (pv 0) pe_int (fun _ _ => rfl)) (pv 1) (by rfl))))))
      (pss_one (ps_ret pe_bl))
      pss_nil)
      (pss_one (ps_ret (pe_call G_all_among hr1 rfl g_all_among F_all_among.kp b_all_among .nil pass0 (pa_cons (pv 0) (pa_cons (pe_op op_add_str (pe_op op_add_str (pe_op op_add_str (pe_gstr (by rfl) T.BIG_LETTERS) (pe_gstr (by rfl) T.SMALL_LETTERS)) (pe_gstr (by rfl) T.DIGITS)) pe_str) pa_nil)))))), ?_⟩
    refine ⟨.str t, (by kernel_rfl), rfl, _, rfl, ?_⟩
    rw [dec_str]
    by_cases h0 : t = ""
    · refine ite_yes (decide_eq_true h0) ?_
      refine ite_yes rfl ?_
      have e : isName t z = false := by unfold isName; rw [decide_eq_true h0]; rfl
      rw [e] at k
      exact k
    refine ite_no (decide_eq_false h0) ?_
    obtain ⟨c, r, ec⟩ := codes_cons h0
    refine ⟨.str t, (by kernel_rfl), t, rfl, sz_of (by omega), _, _, rfl, rfl, _, rfl, ?_⟩
    by_cases h1 : t.length > 24
    · refine ite_yes (decide_eq_true (by omega)) ?_
      refine ite_yes rfl ?_
      have e : isName t z = false := by unfold isName; rw [decide_eq_false h0, decide_eq_true h1]; rfl
      rw [e] at k
      exact k
    refine ite_no (decide_eq_false (by omega)) ?_
    refine ⟨.str t, (by kernel_rfl), t, 0, c, rfl, rfl, sz_of (by omega), atI0 ec, .str z, (by kernel_rfl), c, z, rfl, rfl, _, rfl, ?_⟩
    by_cases h2 : c ∈ codes z
    · refine ite_no (by rw [decide_eq_true h2]; rfl) ?_
      refine ⟨.str t, (by kernel_rfl), _, _, rfl, rfl, (by decide +kernel), _, _, rfl, rfl, (by decide +kernel), _, _, rfl, rfl, (by decide +kernel), t, sALL, rfl, ?_⟩
      have e : isName t z = allIn t sALL := by
        unfold isName
        rw [decide_eq_false h0, decide_eq_false h1, hd_of ec, decide_eq_true h2]
        rfl
      rw [e] at k
      exact k
    · refine ite_yes (by rw [decide_eq_false h2]; rfl) ?_
      have e : isName t z = false := by
        unfold isName
        rw [decide_eq_false h0, decide_eq_false h1, hd_of ec, decide_eq_false h2]
        rfl
      rw [e] at k
      exact k

abbrev sisbig : Stmt := top 11
abbrev Nisbig : List Str := ["word"]
abbrev Pisbig : List Str := ["word"]
theorem scisbig : FnScope Nisbig Pisbig (defScope sisbig) := ⟨rfl, rfl, rfl, by decide +kernel, rfl, by decide +kernel, by decide +kernel⟩

theorem ok_big {f fN fA : Addr} {fd fdN fdA : FuncData} (F : Fun K "is_big" "is_big" sisbig f fd) (T : WTxt mg) (F_is_name : Fun K "is_name" "is_name" sisname fN fdN) (b_is_name : Binds K fdN Pisname []) (g_is_name : mg "is_name" = some (.ref fN)) (F_all_among : Fun K "all_among" "all_among" sallamong fA fdA) (b_all_among : Binds K fdA Pallamong []) (g_all_among : mg "all_among" = some (.ref fA)) : FnOk P w K mg base CX0 3 f fd Pisbig (spW isBig) := by
  have G_is_name : FnOk P w K mg base CX0 2 fN fdN Pisname spName := ok_name F_is_name T F_all_among b_all_among g_all_among
  refine F.ok scisbig (fun vs H Q E h => ?_) (fun cdv A outer s H vs Q E hr h => ?_)
  · obtain ⟨t, rfl, _⟩ := h
    rfl
  · obtain ⟨t, rfl, hl, k⟩ := h
    have hr1 := hr
    refine ⟨_, (pss_one (ps_ret (pe_call G_is_name hr1 rfl g_is_name F_is_name.kp b_is_name .nil pass0 (pa_cons (pv 0) (pa_cons (pe_gstr (by rfl) T.BIG_LETTERS) pa_nil))))), ?_⟩
    exact ⟨.str t, (by kernel_rfl), t, sBIG, rfl, hl, k⟩

/-! ### integers as they are written -/
theorem sign_is1 (c n : Nat) {z : Str} (hz : codes z = [n]) : decide (V.str ⟨#[c]⟩ = V.str z) = decide (c = n) := by
  rw [dec_str]
  by_cases h : c = n
  · rw [decide_eq_true h, decide_eq_true]
    exact str_ext (by rw [hz, ← h])
  · have q : ¬ (⟨#[c]⟩ : Str) = z := fun y => h (by
      have y2 : [c] = codes z := congrArg codes y
      rw [hz] at y2
      exact (List.cons.inj y2).1)
    rw [decide_eq_false h, decide_eq_false q]
def isCnt (w : Str) : Bool := !decide (w = "") && (allIn w sDIG && (decide (w = "0") || !decide (hd w = 48)))
def isWr (w : Str) : Bool := if decide (cutS w none (some 1) = "-") = true then (isCnt (cutS w (some 1) none) && !decide (w = "-0")) else isCnt w
theorem dig_sign (c : Nat) : (decide (c < 128) && Unicode.isDigit c) = decide (c ∈ codes sDIG) := by
  by_cases h : c < 128
  · have k : ∀ n : _root_.Fin 128, (Unicode.isDigit n.val) = decide (n.val ∈ codes sDIG) := by decide +kernel
    rw [decide_eq_true h, Bool.true_and]
    exact k ⟨c, h⟩
  · have k : (codes sDIG).all (fun c => decide (c < 128)) = true := by decide +kernel
    rw [decide_eq_false h, Bool.false_and]
    exact (decide_eq_false fun m => h (of_decide_eq_true (List.all_eq_true.mp k c m))).symm
theorem all_and2 {p q : Nat → Bool} : ∀ l : List Nat, (l.all p && l.all q) = l.all fun c => p c && q c
  | [] => rfl
  | a :: r => by
    rw [List.all_cons, List.all_cons, List.all_cons, ← all_and2 r]
    cases p a <;> cases q a <;> cases r.all p <;> cases r.all q <;> rfl
theorem ascii_dig (w : Str) : (Txt.isascii w && Txt.isdigit w) = (!decide (w = "") && allIn w sDIG) := by
  have e1 : Txt.isascii w = (codes w).all fun c => decide (c < 128) := by
    unfold Txt.isascii
    rw [← Array.all_toList]
  have e2 : Txt.isdigit w = (!decide (w = "") && (codes w).all Unicode.isDigit) := by
    unfold Txt.isdigit
    rw [← Array.all_toList]
    congr 1
    by_cases h : w = ""
    · rw [decide_eq_true h, h]
      rfl
    · obtain ⟨c, r, e⟩ := codes_cons h
      rw [decide_eq_false h, len_codes, e]
      rfl
  have e3 : allIn w sDIG = ((codes w).all (fun c => decide (c < 128)) && (codes w).all Unicode.isDigit) := by
    rw [all_and2]
    unfold allIn
    congr 1
    funext c
    exact (dig_sign c).symm
  rw [e1, e2, e3]
  cases (codes w).all (fun c => decide (c < 128)) <;> cases decide (w = "") <;> simp
theorem cont_minus (c : Nat) : (("-" : Str).cps.contains c) = decide (c = 45) := by
  by_cases h : c = 45
  · rw [decide_eq_true h, h]
    decide +kernel
  · rw [decide_eq_false h]
    have e : ("-" : Str).cps = #[45] := by decide +kernel
    rw [e]
    simp [h]
theorem sub_len (x : Str) (a b : Nat) : (PySem.Builtin.Str.strSub x a b).length = min b x.length - a := by
  unfold PySem.Builtin.Str.strSub
  simp [Str.length]
open PySem PySem.Spec PyProof PyProof.Rows in
theorem lstrip_len (t : Str) : (Txt.lstripChars t "-").length = t.length - ((codes t).takeWhile fun c => decide (c = 45)).length := by
  unfold Txt.lstripChars
  rw [stripBy_eq]
  have e : stripLo ("-" : Str).cps.contains true t = ((codes t).takeWhile fun c => decide (c = 45)).length := by
    unfold stripLo
    rw [if_pos rfl]
    congr 2
    funext c
    exact cont_minus c
  have e2 : stripHi ("-" : Str).cps.contains false t (stripLo ("-" : Str).cps.contains true t) = t.length := by
    unfold stripHi
    rw [if_neg Bool.false_ne_true]
  rw [e2, e, sub_len, Nat.min_self]
theorem num_eq (t : Str) : isNum t = (isWr t && decide ((((Txt.lstripChars t "-").length : Nat) : Int) ≤ 400)) := by
  have cnt : ∀ {d : Str}, isCnt d = true → ∃ c r, codes d = c :: r ∧ c ≠ 45 ∧ allIn d sDIG = true ∧ d ≠ "" ∧ (d = "0" ∨ c ≠ 48) := fun {d} h => by
    unfold isCnt at h
    simp only [Bool.and_eq_true, Bool.or_eq_true, decide_eq_true_eq, Bool.not_eq_true', decide_eq_false_iff_not] at h
    obtain ⟨h0, h1, h2⟩ := h
    obtain ⟨c, r, e⟩ := codes_cons h0
    refine ⟨c, r, e, fun z => ?_, h1, h0, ?_⟩
    · have := allIn_hd e h1
      rw [z] at this
      exact absurd this (by decide +kernel)
    · rw [hd_of e] at h2
      exact h2
  by_cases hq : cutS t none (some 1) = "-"
  · have ht : t ≠ "" := fun z => by
      rw [z] at hq
      exact absurd hq (by decide +kernel)
    obtain ⟨c, r, ec⟩ := codes_cons ht
    have c45 : c = 45 := by
      have z := congrArg codes hq
      rw [cut1_of ec] at z
      exact (List.cons.inj (show [c] = [45] from z)).1
    subst c45
    have cd : codes (cutS t (some 1) none) = r := by rw [cutT_codes, ec]; rfl
    have de : digs t = cutS t (some 1) none := by unfold digs; rw [decide_eq_true hq, if_pos rfl]
    have we : isWr t = (isCnt (cutS t (some 1) none) && !decide (t = "-0")) := by unfold isWr; rw [decide_eq_true hq, if_pos rfl]
    have t0 : ¬ t = "0" := fun z => by
      rw [z] at ec
      have : (48 : Nat) = 45 := (List.cons.inj (show [48] = 45 :: r from ec)).1
      omega
    have dz : (t = "-0") ↔ (cutS t (some 1) none = "0") := by
      constructor
      · intro z
        refine str_ext ?_
        rw [cd]
        rw [z] at ec
        exact (List.cons.inj (show [45, 48] = 45 :: r from ec)).2.symm
      · intro z
        have z2 := congrArg codes z
        rw [cd] at z2
        exact str_ext (by rw [ec, z2]; rfl)
    have tl : t.length = r.length + 1 := by rw [len_codes, ec]; rfl
    have dl : (cutS t (some 1) none).length = r.length := by rw [len_codes, cd]
    rw [we]
    unfold isNum
    rw [de]
    have lst := lstrip_len t
    rw [ec] at lst
    generalize cutS t (some 1) none = d at cd dz dl ⊢
    cases hc : isCnt d with
    | false =>
      rw [Bool.false_and, Bool.false_and]
      unfold isCnt at hc
      cases h0 : decide (d = "") with
      | true => rfl
      | false =>
        cases h1 : decide (d.length > 400) with
        | true => rfl
        | false =>
          cases h2 : allIn d sDIG with
          | false => rfl
          | true =>
            rw [h0, h2] at hc
            have hc2 : (decide (d = "0") || !decide (hd d = 48)) = false := hc
            rw [Bool.or_eq_false_iff] at hc2
            have h48 : decide (hd d = 48) = true := by simpa using hc2.2
            rw [h48, decide_eq_false t0]
            rfl
    | true =>
      obtain ⟨c, r2, e2, c45, al, ne, or⟩ := cnt hc
      rw [cd] at e2
      subst e2
      have ll : (Txt.lstripChars t "-").length = d.length := by
        rw [lst, tl, dl]
        simp [c45]
      rw [ll, decide_eq_false ne, al, hd_of cd, Bool.true_and]
      by_cases h1 : d.length > 400
      · rw [decide_eq_true h1, decide_eq_false (show ¬ ((d.length : Nat) : Int) ≤ 400 by omega), Bool.and_false]
        rfl
      · rw [decide_eq_false h1, decide_eq_true (show ((d.length : Nat) : Int) ≤ 400 by omega), Bool.and_true]
        by_cases h3 : c = 48
        · rcases or with h | h
          · rw [decide_eq_true h3, decide_eq_true (dz.mpr h), decide_eq_false t0]
            rfl
          · exact absurd h3 h
        · have n0 : ¬ t = "-0" := fun z => h3 (by
            have := congrArg codes (dz.mp z)
            rw [cd] at this
            exact (List.cons.inj (show c :: r2 = [48] from this)).1)
          rw [decide_eq_false h3, decide_eq_false n0]
          rfl
  · have de : digs t = t := by unfold digs; rw [decide_eq_false hq, if_neg Bool.false_ne_true]
    have we : isWr t = isCnt t := by unfold isWr; rw [decide_eq_false hq, if_neg Bool.false_ne_true]
    rw [we]
    unfold isNum
    rw [de]
    have lst := lstrip_len t
    cases hc : isCnt t with
    | false =>
      rw [Bool.false_and]
      unfold isCnt at hc
      cases h0 : decide (t = "") with
      | true => rfl
      | false =>
        cases h1 : decide (t.length > 400) with
        | true => rfl
        | false =>
          cases h2 : allIn t sDIG with
          | false => rfl
          | true =>
            rw [h0, h2] at hc
            have hc2 : (decide (t = "0") || !decide (hd t = 48)) = false := hc
            rw [Bool.or_eq_false_iff] at hc2
            have h48 : decide (hd t = 48) = true := by simpa using hc2.2
            rw [h48, hc2.1]
            rfl
    | true =>
      obtain ⟨c, r2, e2, c45, al, ne, or⟩ := cnt hc
      have ll : (Txt.lstripChars t "-").length = t.length := by
        rw [lst, e2]
        simp [c45]
      rw [ll, decide_eq_false ne, al, hd_of e2, Bool.true_and]
      by_cases h1 : t.length > 400
      · rw [decide_eq_true h1, decide_eq_false (show ¬ ((t.length : Nat) : Int) ≤ 400 by omega)]
        rfl
      · rw [decide_eq_false h1, decide_eq_true (show ((t.length : Nat) : Int) ≤ 400 by omega)]
        by_cases h3 : c = 48
        · rcases or with h | h
          · rw [decide_eq_true h3, decide_eq_true h]
            rfl
          · exact absurd h3 h
        · rw [decide_eq_false h3]
          rfl
abbrev sisnatural : Stmt := top 12
abbrev Nisnatural : List Str := ["word"]
abbrev Pisnatural : List Str := ["word"]
theorem scisnatural : FnScope Nisnatural Pisnatural (defScope sisnatural) := ⟨rfl, rfl, rfl, by decide +kernel, rfl, by decide +kernel, by decide +kernel⟩

theorem ok_nat {f : Addr} {fd : FuncData} (F : Fun K "is_natural" "is_natural" sisnatural f fd) : FnOk P w K mg base CX0 1 f fd Pisnatural (spW isCnt) := by
  refine F.ok scisnatural (fun vs H Q E h => ?_) (fun cdv A outer s H vs Q E hr h => ?_)
  · obtain ⟨t, rfl, _⟩ := h
    rfl
  · obtain ⟨t, rfl, hl, k⟩ := h
    refine ⟨_, (pss_one (ps_ret (pe_and (pe_m0 PySem.F.slot_str_isascii PySem.F.type_str_isascii mt_isascii (pv 0)) (pe_and (pe_m0 PySem.F.slot_str_isdigit PySem.F.type_str_isdigit mt_isdigit (pv 0)) (pe_one (pe_or (pe_cmpR op_ne (pe_ix ix_str (pv 0) pe_int (fun _ _ => rfl)) pe_str (nomark _)) (pe_one (pe_cmpR op_eq (pv 0) pe_str (nomark _))))))))), ?_⟩
    have ad := ascii_dig t
    refine ⟨.str t, (by kernel_rfl), ⟨_, rfl⟩, t, rfl, rfl, trivial, ?_⟩
    cases ha : Txt.isascii t with
    | false =>
      rw [ha, Bool.false_and] at ad
      have e : isCnt t = false := by
        unfold isCnt
        rw [← Bool.and_assoc, ← ad, Bool.false_and]
      rw [e] at k
      exact ⟨_, rfl, ite_no rfl k⟩
    | true =>
      rw [ha, Bool.true_and] at ad
      refine ⟨_, rfl, ite_yes rfl ?_⟩
      refine ⟨.str t, (by kernel_rfl), ⟨_, rfl⟩, t, rfl, rfl, trivial, ?_⟩
      have e : isCnt t = (Txt.isdigit t && (decide (t = "0") || !decide (hd t = 48))) := by
        unfold isCnt
        rw [← Bool.and_assoc, ← ad]
      rw [e] at k
      cases hd2 : Txt.isdigit t with
      | false =>
        rw [hd2, Bool.false_and] at k
        exact ⟨_, rfl, ite_no rfl k⟩
      | true =>
        rw [hd2, Bool.true_and] at k
        rw [hd2] at ad
        have h0 : t ≠ "" := fun z => by
          rw [decide_eq_true z] at ad
          cases ad
        obtain ⟨c, r, ec⟩ := codes_cons h0
        rw [hd_of ec] at k
        refine ⟨_, rfl, ite_yes rfl ?_⟩
        refine ⟨.str t, (by kernel_rfl), t, 0, c, rfl, rfl, sz_of (by omega), atI0 ec, rfl, ?_⟩
        rw [sign_is1 c 48 (by decide +kernel)]
        by_cases h1 : c = 48
        · refine ⟨_, rfl, ite_no (by rw [decide_eq_true h1]; rfl) ?_⟩
          refine ⟨.str t, (by kernel_rfl), rfl, ?_⟩
          rw [dec_str]
          rw [decide_eq_true h1, Bool.not_true, Bool.or_false] at k
          exact k
        · refine ⟨_, rfl, ite_yes (by rw [decide_eq_false h1]; rfl) ?_⟩
          rw [decide_eq_false h1, Bool.not_false, Bool.or_true] at k
          exact k

abbrev siswritten : Stmt := top 13
abbrev Niswritten : List Str := ["word"]
abbrev Piswritten : List Str := ["word"]
theorem sciswritten : FnScope Niswritten Piswritten (defScope siswritten) := ⟨rfl, rfl, rfl, by decide +kernel, rfl, by decide +kernel, by decide +kernel⟩

theorem ok_wri {f fN : Addr} {fd fdN : FuncData} (F : Fun K "is_written" "is_written" siswritten f fd) (F_is_natural : Fun K "is_natural" "is_natural" sisnatural fN fdN) (b_is_natural : Binds K fdN Pisnatural []) (g_is_natural : mg "is_natural" = some (.ref fN)) : FnOk P w K mg base CX0 2 f fd Piswritten (spW isWr) := by
  have G_is_natural : FnOk P w K mg base CX0 1 fN fdN Pisnatural (spW isCnt) := ok_nat F_is_natural
  refine F.ok sciswritten (fun vs H Q E h => ?_) (fun cdv A outer s H vs Q E hr h => ?_)
  · obtain ⟨t, rfl, _⟩ := h
    rfl
  · obtain ⟨t, rfl, hl, k⟩ := h
    have hr1 := hr
    refine ⟨_, (pss_cons (ps_if (pt_cmpR op_eq (pe_slice sl_str (pv 0) po_none (po_some pe_int)) pe_str (nomark _))
      (pss_one (ps_ret (pe_and (pe_call G_is_natural hr1 rfl g_is_natural F_is_natural.kp b_is_natural .nil pass0 (pa_cons (pe_slice sl_str (pv 0) (po_some pe_int) po_none) pa_nil)) (pe_one (pe_cmpR op_ne (pv 0) pe_str (nomark _))))))
      pss_nil)
      (pss_one (ps_ret (pe_call G_is_natural hr1 rfl g_is_natural F_is_natural.kp b_is_natural .nil pass0 (pa_cons (pv 0) pa_nil))))), ?_⟩
    refine ⟨.str t, (by kernel_rfl), 1, rfl, t, rfl, sz_of (by omega), ?_⟩
    refine ⟨rfl, _, rfl, ?_⟩
    rw [dec_str]
    have dl : (cutS t (some 1) none).length ≤ t.length := by
      rw [len_codes, cutT_codes, List.length_drop, len_codes]
      omega
    replace dl := Nat.le_trans dl hl
    unfold isWr at k
    by_cases hq : cutS t none (some 1) = "-"
    · refine ite_yes (decide_eq_true hq) ?_
      rw [decide_eq_true hq, if_pos rfl] at k
      refine ⟨.str t, (by kernel_rfl), 1, rfl, t, rfl, sz_of (by omega), ?_⟩
      refine ⟨_, rfl, dl, ?_⟩
      cases hc : isCnt (cutS t (some 1) none) with
      | false =>
        rw [hc, Bool.false_and] at k
        exact ⟨_, rfl, ite_no rfl k⟩
      | true =>
        rw [hc, Bool.true_and] at k
        refine ⟨_, rfl, ite_yes rfl ?_⟩
        refine ⟨.str t, (by kernel_rfl), rfl, ?_⟩
        rw [dec_str]
        exact k
    · refine ite_no (decide_eq_false hq) ?_
      rw [decide_eq_false hq, if_neg Bool.false_ne_true] at k
      exact ⟨.str t, (by kernel_rfl), t, rfl, hl, k⟩

abbrev sisnumber : Stmt := top 14
abbrev Nisnumber : List Str := ["word"]
abbrev Pisnumber : List Str := ["word"]
theorem scisnumber : FnScope Nisnumber Pisnumber (defScope sisnumber) := ⟨rfl, rfl, rfl, by decide +kernel, rfl, by decide +kernel, by decide +kernel⟩

theorem ok_number0 {f fW fN : Addr} {fd fdW fdN : FuncData} (F : Fun K "is_number" "is_number" sisnumber f fd) (T : WTxt mg) (F_is_written : Fun K "is_written" "is_written" siswritten fW fdW) (b_is_written : Binds K fdW Piswritten []) (g_is_written : mg "is_written" = some (.ref fW)) (F_is_natural : Fun K "is_natural" "is_natural" sisnatural fN fdN) (b_is_natural : Binds K fdN Pisnatural []) (g_is_natural : mg "is_natural" = some (.ref fN)) : FnOk P w K mg base CX0 3 f fd Pisnumber (spW isNum) := by
  have G_is_written : FnOk P w K mg base CX0 2 fW fdW Piswritten (spW isWr) := ok_wri F_is_written F_is_natural b_is_natural g_is_natural
  refine F.ok scisnumber (fun vs H Q E h => ?_) (fun cdv A outer s H vs Q E hr h => ?_)
  · obtain ⟨t, rfl, _⟩ := h
    rfl
  · obtain ⟨t, rfl, hl, k⟩ := h
    have hr1 := hr
    refine ⟨_, (pss_one (ps_ret (pe_and (pe_call G_is_written hr1 rfl g_is_written F_is_written.kp b_is_written .nil pass0 (pa_cons (pv 0) pa_nil)) (pe_one (pe_cmpR op_le (pe_callB call_len_str (by rfl) T.len PySem.boot_len (pa_cons (pe_m1 PySem.F.slot_str_lstrip PySem.F.type_str_lstrip mt_lstripChars (pv 0) pe_str) pa_nil)) (pe_gint (by rfl) T.MOST_DIGITS) (nomark _)))))), ?_⟩
    have e := num_eq t
    refine ⟨.str t, (by kernel_rfl), t, rfl, hl, ?_⟩
    cases hw : isWr t with
    | false =>
      rw [hw, Bool.false_and] at e
      rw [e] at k
      exact ⟨_, rfl, ite_no rfl k⟩
    | true =>
      rw [hw, Bool.true_and] at e
      rw [e] at k
      refine ⟨_, rfl, ite_yes rfl ?_⟩
      have ll := lstrip_len t
      refine ⟨.str t, (by kernel_rfl), ⟨_, rfl⟩, t, "-", rfl, rfl, sz_of (by omega), ?_⟩
      refine ⟨_, rfl, sz_of (by omega), ?_⟩
      exact ⟨_, _, rfl, rfl, k⟩
structure NumFun (K : PySem.W.Frag) (mg : Str → Option Value) (f : Addr) (fd : FuncData) : Prop extends Fun K "is_number" "is_number" sisnumber f fd where
  rest : ∃ (fW fO : Addr) (fdW fdO : FuncData), Fun K "is_written" "is_written" siswritten fW fdW ∧ Binds K fdW Piswritten [] ∧ mg "is_written" = some (.ref fW) ∧ Fun K "is_natural" "is_natural" sisnatural fO fdO ∧ Binds K fdO Pisnatural [] ∧ mg "is_natural" = some (.ref fO)
theorem ok_number {f fA : Addr} {fd fdA : FuncData} (F : NumFun K mg f fd) (T : WTxt mg) (_ : Fun K "all_among" "all_among" sallamong fA fdA) (_ : Binds K fdA Pallamong []) (_ : mg "all_among" = some (.ref fA)) : FnOk P w K mg base CX0 3 f fd Pisnumber (spW isNum) := by
  obtain ⟨_, _, _, _, h1, h2, h3, h4, h5, h6⟩ := F.rest
  exact ok_number0 F.toFun T h1 h2 h3 h4 h5 h6

end
end Nm
namespace Nm
open PySem PySem.Spec PyProof.Rows L2
/-! ### the words of a line -/
def WL (H : Hp) : List (List Nat × Nat) → List V → Prop := Paired fun (p : List Nat × Nat) (v : V) => ∃ T : Addr, v = .ref T ∧ H T = some (.tup [.str ⟨p.1.toArray⟩, .int (p.2 : Int)])
theorem Paired.mono' {α β : Type} {F G : α → β → Prop} : ∀ {xs : List α} {ys : List β}, Paired F xs ys → (∀ a b, F a b → G a b) → Paired G xs ys
  | _, _, .nil, _ => .nil
  | _, _, .cons r t, h => .cons (h _ _ r) (Paired.mono' t h)
theorem Paired.snoc {α β : Type} {F : α → β → Prop} {a : α} {b : β} (h : F a b) : ∀ {xs : List α} {ys : List β}, Paired F xs ys → Paired F (xs ++ [a]) (ys ++ [b])
  | _, _, .nil => .cons h .nil
  | _, _, .cons r t => .cons r (Paired.snoc h t)
theorem WL.mono {H H' : Hp} {ws : List (List Nat × Nat)} {xs : List V} (h : WL H ws xs) (k : ∀ T ys, H T = some (.tup ys) → H' T = some (.tup ys)) : WL H' ws xs := Paired.mono' h fun _ _ ⟨T, e, q⟩ => ⟨T, e, k _ _ q⟩
theorem WL.same {H H' : Hp} {ws : List (List Nat × Nat)} {xs : List V} (h : WL H ws xs) (s : Same H H') : WL H' ws xs := h.mono fun T ys q => s _ _ q
theorem WL.len {H : Hp} {ws : List (List Nat × Nat)} {xs : List V} (h : WL H ws xs) : ws.length = xs.length := Paired.length h
/-- l stands, and what stood before it was made -/
structure LB (H0 H : Hp) (l : Addr) (ws : List (List Nat × Nat)) (xs : List V) : Prop where
  s : Same H0 H
  n : H0 l = none
  l : H l = some (.lst xs)
  w : WL H ws xs
/-- a tuple is made and appended -/
theorem LB.app {H0 H : Hp} {l t : Addr} {ws : List (List Nat × Nat)} {xs : List V} (L : LB H0 H l ws xs) (nt : H t = none) (w : List Nat) (k : Nat) :
    LB H0 (upd (upd H t (.tup [.str ⟨w.toArray⟩, .int (k : Int)])) l (.lst (xs ++ [.ref t]))) l (ws ++ [(w, k)]) (xs ++ [.ref t]) := by
  have tl : t ≠ l := (ne_of_none L.l nt).symm
  refine ⟨fun b o e => ?_, L.n, upd_same, Paired.snoc ⟨t, rfl, by rw [upd_ne tl, upd_same]⟩ (L.w.mono fun T ys q => ?_)⟩
  · rw [upd_ne (ne_of_none e L.n), upd_ne (ne_of_none (L.s b o e) nt)]
    exact L.s b o e
  · rw [upd_ne (ne_of q L.l (by intro z; cases z)), upd_ne (ne_of_none q nt)]
    exact q
theorem LB.put {H0 H H' : Hp} {l : Addr} {ws : List (List Nat × Nat)} {xs : List V} (L : LB H0 H l ws xs) (s : Same H H') : LB H0 H' l ws xs := ⟨L.s.trans s, L.n, s _ _ L.l, L.w.same s⟩
theorem part_told (z : Str) : codes (Txt.partition z ";").1 = told (codes z) := by
  have ey : codes (";" : Str) = 59 :: [] := by decide +kernel
  have nt : 59 ∉ told (codes z) := fun h => by
    have q := List.all_takeWhile (p := (· != 59)) (l := codes z)
    have := List.all_eq_true.mp q 59 h
    simp at this
  have e := List.takeWhile_append_dropWhile (p := (· != 59)) (l := codes z)
  cases d : (codes z).dropWhile (· != 59) with
  | nil =>
    rw [d, List.append_nil] at e
    have e2 : told (codes z) = codes z := e
    rw [e2]
    rw [e2] at nt
    rw [TL.partition_none ey nt]
  | cons c r =>
    have hc : c = 59 := by
      have h1 := List.head?_dropWhile_not (p := (· != 59)) (l := codes z)
      rw [d] at h1
      simpa using h1
    rw [hc] at d
    rw [d] at e
    have ez : z = (⟨(told (codes z)).toArray⟩ : Str) ++ ";" ++ ⟨r.toArray⟩ := by
      refine str_ext ?_
      show codes z = (((told (codes z)).toArray ++ (";" : Str).cps) ++ r.toArray).toList
      rw [Array.toList_append, Array.toList_append, show (";" : Str).cps.toList = [59] from ey]
      conv => lhs; rw [← e]
      show told (codes z) ++ 59 :: r = _
      simp
    have p := TL.partition_app (a := ⟨(told (codes z)).toArray⟩) (b := ⟨r.toArray⟩) ey (by simpa using nt)
    rw [← ez] at p
    rw [p]
theorem cutS_nat (z : Str) (a b : Nat) (ha : a ≤ b) (hb : b ≤ z.length) : cutS z (some (a : Int)) (some (b : Int)) = ⟨(((codes z).drop a).take (b - a)).toArray⟩ := by
  unfold cutS
  rw [HT.sIx_nat, HT.sIx_nat, Nat.min_eq_left hb, Nat.min_eq_left (Nat.le_trans ha hb)]
def sepL : List Nat := [32, 40, 41]
theorem sep_codes : codes (" ()" : Str) = sepL := by decide +kernel
theorem sign_eq (c : Nat) (k : Nat) (s : Str) (h : codes s = [k]) : decide (V.str ⟨#[c]⟩ = V.str s) = decide (c = k) := by
  rw [dec_str]
  by_cases e : c = k
  · rw [e, decide_eq_true rfl]
    exact decide_eq_true (str_ext (by rw [h]))
  · rw [decide_eq_false e]
    exact decide_eq_false fun z => e (by
      have y := congrArg codes z
      rw [h] at y
      exact (List.cons.inj y).1)
/-- one turn of the scan -/
theorem scan_sep {c : Nat} (r : List Nat) (k : Nat) (w : List Nat) (h : c ∈ sepL) : scan (c :: r) k w = flush k w ++ ((if c = 32 then [] else [([c], k + 1)]) ++ scan r (k + 1) []) := by
  unfold sepL at h
  simp only [List.mem_cons, List.not_mem_nil, or_false] at h
  show (if c = 59 then flush k w else if c = 32 then flush k w ++ scan r (k + 1) [] else if c = 40 ∨ c = 41 then flush k w ++ ([c], k + 1) :: scan r (k + 1) [] else scan r (k + 1) (w ++ [c])) = _
  rcases h with rfl | rfl | rfl <;> simp
theorem scan_sign {c : Nat} (r : List Nat) (k : Nat) (w : List Nat) (h : c ∉ sepL) (h59 : c ≠ 59) : scan (c :: r) k w = scan r (k + 1) (w ++ [c]) := by
  unfold sepL at h
  simp only [List.mem_cons, List.not_mem_nil, or_false, not_or] at h
  show (if c = 59 then flush k w else if c = 32 then flush k w ++ scan r (k + 1) [] else if c = 40 ∨ c = 41 then flush k w ++ ([c], k + 1) :: scan r (k + 1) [] else scan r (k + 1) (w ++ [c])) = _
  rw [if_neg h59, if_neg h.1, if_neg (by omega)]
def spWords : Sp := fun vs H Q _ => ∃ z : Str, vs = [.str z] ∧ z.length ≤ 900000 ∧ ∀ (p : Addr) (H' : Hp) (xs : List V), Same H H' → H' p = some (.tup xs) → WL H' (scan (codes z) 0 []) xs → Q (.ref p) H'
section
variable {P : Program} {w : World} {K : PySem.W.Frag} {mg : Str → Option Value} {base : Heap}

abbrev swordsof : Stmt := top 15
abbrev Nwordsof : List Str := ["line", "words", "start", "told", "at", "sign"]
abbrev Pwordsof : List Str := ["line"]
theorem scwordsof : FnScope Nwordsof Pwordsof (defScope swordsof) := ⟨rfl, rfl, rfl, by decide +kernel, rfl, by decide +kernel, by decide +kernel⟩

theorem small_big {n : Nat} (h : n ≤ 2000000) : n < sizeLine := Nat.lt_of_le_of_lt h (by decide)
theorem ok_words_of {f : Addr} {fd : FuncData} (F : Fun K "words_of" "words_of" swordsof f fd) (T : WTxt mg) : FnOk P w K mg base CX0 1 f fd Pwordsof spWords := by
  refine F.ok scwordsof (fun vs H Q E h => ?_) (fun cdv A outer s H vs Q E hr h => ?_)
  · obtain ⟨t, rfl, _⟩ := h
    rfl
  · obtain ⟨z, rfl, hl, k⟩ := h
    refine ⟨_, (pss_cons (ps_set (i := 1) scwordsof.nd rfl (Or.inl rfl) (pe_lst pa_nil))
      (pss_cons (ps_set (i := 2) scwordsof.nd rfl (Or.inl rfl) pe_int)
      (pss_cons (ps_set (i := 3) scwordsof.nd rfl (Or.inl rfl) (pe_ix ix_tup (pe_partition (pv 0) pe_str) pe_int (fun _ _ => rfl)))
      (pss_cons (ps_for PassesOwn.never rfl (pi_enumS (by rfl) T.enumerate (pa_cons (pe_op op_add_str (pv 3) pe_str) pa_nil)) (pg_tup (by rfl) (pgs_cons (pg_name (i := 4) scwordsof.nd rfl (Or.inl rfl)) (pgs_cons (pg_name (i := 5) scwordsof.nd rfl (Or.inl rfl)) pgs_nil)))
      (pss_one (ps_if (pt_cmpR op_in_sign (pv 5) pe_str (by rfl))
      (pss_cons (ps_if (pt_cmpR op_lt (pv 2) (pv 4) (nomark _))
      (pss_one (ps_expr (pe_bm PySem.F.plainAttrs_list PySem.F.slot_list_append PySem.F.type_list_append mt_append (pv 1) (pa_cons (pe_tup (pa_cons (pe_slice sl_str (pv 3) (po_some (pv 2)) (po_some (pv 4))) (pa_cons (pe_op op_add (pv 2) pe_int) pa_nil))) pa_nil))))
      pss_nil)
      (pss_cons (ps_if (pt_cmpR op_ne (pv 5) pe_str (nomark _))
      (pss_one (ps_expr (pe_bm PySem.F.plainAttrs_list PySem.F.slot_list_append PySem.F.type_list_append mt_append (pv 1) (pa_cons (pe_tup (pa_cons (pv 5) (pa_cons (pe_op op_add (pv 4) pe_int) pa_nil))) pa_nil))))
      pss_nil)
      (pss_one (ps_set (i := 2) scwordsof.nd rfl (Or.inl rfl) (pe_op op_add (pv 4) pe_int)))))
      pss_nil)))
      (pss_one (ps_ret (pe_callTy call_tuple_of (by rfl) T.tuple (by decide +kernel) (pa_cons (pv 1) pa_nil)))))))), ?_⟩
    refine ⟨Nat.zero_le _, fun l nl => ?_⟩
    have L0 : LB H (upd H l (.lst [])) l [] [] := ⟨same_new nl, nl, upd_same, .nil⟩
    generalize upd H l (.lst []) = H1 at L0 ⊢
    refine ⟨.str z, (by kernel_rfl), ⟨_, rfl⟩, z, ";", rfl, rfl, rfl, sz_of (by omega), fun pp np => ?_⟩
    have hpp := upd_same (H := H1) (a := pp) (o := .tup [.str (Txt.partition z ";").1, .str (Txt.partition z ";").2.1, .str (Txt.partition z ";").2.2])
    have L1 := L0.put (same_new (o := .tup [.str (Txt.partition z ";").1, .str (Txt.partition z ";").2.1, .str (Txt.partition z ";").2.2]) np)
    generalize upd H1 pp (.tup [.str (Txt.partition z ";").1, .str (Txt.partition z ";").2.1, .str (Txt.partition z ";").2.2]) = H2 at hpp L1 ⊢
    refine ⟨pp, _, 0, .str (Txt.partition z ";").1, rfl, rfl, SqT.of hpp, rfl, ?_⟩
    have eT := part_told z
    generalize (Txt.partition z ";").1 = to at eT ⊢
    have lT : to.length ≤ 900000 := by
      rw [len_codes, eT]
      rw [len_codes] at hl
      exact Nat.le_trans (List.takeWhile_sublist _).length_le hl
    have n59 : 59 ∉ codes to := by
      rw [eT]
      intro h
      have q := List.all_takeWhile (p := (· != 59)) (l := codes z)
      have := List.all_eq_true.mp q 59 h
      simp at this
    have eA : codes (to ++ " ") = codes to ++ [32] := by
      show (to.cps ++ (" " : Str).cps).toList = _
      rw [Array.toList_append]
      rfl
    have lA : (to ++ " ").cps.size = (codes to).length + 1 := by
      have : (to ++ " ").cps.size = (codes (to ++ " ")).length := by simp
      rw [this, eA]
      simp
    have lc : to.length = (codes to).length := len_codes to
    refine ⟨.str to, (by kernel_rfl), _, _, rfl, rfl, sz_of (by show to.length + 1 ≤ 2000000; omega), _, rfl, ?_⟩
    refine for_it (walk_enumS (z := to ++ " ")) (fun i σ H' => ∃ (st : Nat) (ws : List (List Nat × Nat)) (xs : List V) (v4 v5 : Option V), σ = [some (.str z), some (.ref l), some (.int (st : Int)), some (.str to), v4, v5] ∧ st ≤ i ∧ LB H H' l ws xs ∧ xs.length ≤ 2 * i ∧
        ws ++ scan ((codes to ++ [32]).drop i) i (((codes to ++ [32]).drop st).take (i - st)) = scan (codes to ++ [32]) 0 [] ∧ (i = (codes to).length + 1 → st = i))
      ⟨0, [], [], none, none, (by kernel_rfl), Nat.le_refl _, L1, Nat.le_refl _, rfl, fun q => by omega⟩ (fun _ _ _ _ _ => True.intro) ?_ ?_
    · rintro i x σ H3 H4 hi ⟨st, ws, xs, v4, v5, rfl, hst, L3, hx, hsc, _⟩ ⟨Tn, c, rfl, nT, rfl, hc⟩
      rw [lA] at hi
      have hc' : (codes to ++ [32])[i]? = some c := by
        rw [← eA]
        simpa using hc
      have hdrop : (codes to ++ [32]).drop i = c :: (codes to ++ [32]).drop (i + 1) := by
        obtain ⟨h1, h2⟩ := List.getElem?_eq_some_iff.mp hc'
        rw [List.drop_eq_getElem_cons h1, h2]
      have c59 : c ≠ 59 := fun q => by
        have m := List.mem_of_getElem? hc'
        rw [q] at m
        rcases List.mem_append.mp m with h | h
        · exact n59 h
        · simp at h
      rw [hdrop] at hsc
      have hT := upd_same (H := H3) (a := Tn) (o := .tup [.int (i : Nat), .str ⟨#[c]⟩])
      have L4 := L3.put (same_new (o := .tup [.int (i : Nat), .str ⟨#[c]⟩]) nT)
      generalize upd H3 Tn (.tup [.int (i : Nat), .str ⟨#[c]⟩]) = H4 at hT L4 ⊢
      refine ⟨Tn, _, rfl, SqT.of hT, rfl, _, _, rfl, _, _, rfl, rfl, ?_⟩
      refine ⟨.str ⟨#[c]⟩, (by kernel_rfl), c, " ()", rfl, rfl, _, rfl, ?_⟩
      rw [show (Str.ofString " ()").cps.toList = sepL from sep_codes]
      by_cases hs : c ∈ sepL
      · refine ite_yes (decide_eq_true hs) ?_
        rw [scan_sep _ _ _ hs] at hsc
        have last : i = (codes to).length → c = 32 := fun q => by
          rw [q, List.getElem?_append_right (Nat.le_refl _)] at hc'
          simpa using hc'.symm
        refine ⟨.int (st : Int), (by kernel_rfl), .int (i : Int), (by kernel_rfl), _, _, rfl, rfl, _, rfl, ?_⟩
        by_cases hlt : st < i
        · refine ite_yes (decide_eq_true (by omega)) ?_
          refine ⟨.ref l, (by kernel_rfl), .inl ⟨rfl, _, SqL.of L4.l⟩, .str to, (by kernel_rfl), .int (st : Int), (by kernel_rfl), (st : Int), rfl, .int (i : Int), (by kernel_rfl), (i : Int), rfl, to, rfl, sz_of (by omega), ?_⟩
          refine ⟨.int (st : Int), (by kernel_rfl), _, _, rfl, rfl, by show 2 ≤ sizeLine; decide, fun t1 n1 => ?_⟩
          rw [cutS_nat to st i hst (by omega)]
          have ew : ((codes to).drop st).take (i - st) = ((codes to ++ [32]).drop st).take (i - st) := by
            rw [List.drop_append_of_le_length (by omega), List.take_append_of_le_length (by rw [List.length_drop]; omega)]
          rw [ew]
          have L5 := L4.app n1 (((codes to ++ [32]).drop st).take (i - st)) (st + 1)
          refine ⟨l, _, _, rfl, rfl, (same_new n1) _ _ L4.l, small_big (by omega), ?_⟩
          have wl : (((codes to ++ [32]).drop st).take (i - st)).length = i - st := by
            rw [List.length_take, List.length_drop, List.length_append]
            show min (i - st) ((codes to).length + 1 - st) = i - st
            omega
          have ef : flush i (((codes to ++ [32]).drop st).take (i - st)) = [(((codes to ++ [32]).drop st).take (i - st), st + 1)] := by
            unfold flush
            rw [if_neg (by intro q; rw [q] at wl; simp at wl; omega), wl, show i + 1 - (i - st) = st + 1 by omega]
          rw [ef] at hsc
          have L5' : LB H _ l (ws ++ [(((codes to ++ [32]).drop st).take (i - st), st + 1)]) (xs ++ [.ref t1]) := L5
          have hx5 : (xs ++ [V.ref t1]).length ≤ 2 * i + 1 := by rw [List.length_append]; simp; omega
          refine ⟨.str ⟨#[c]⟩, (by kernel_rfl), rfl, _, rfl, ?_⟩
          by_cases h32 : c = 32
          · refine ite_no (by rw [sign_eq c 32 " " (by decide +kernel), decide_eq_true h32]; rfl) ?_
            refine ⟨.int (i : Int), (by kernel_rfl), _, _, rfl, rfl, ?_⟩
            refine ⟨i + 1, _, _, some (.int (i : Int)), some (.str ⟨#[c]⟩), (by kernel_rfl), Nat.le_refl _, L5', by omega, ?_, fun _ => rfl⟩
            rw [if_pos h32, List.nil_append] at hsc
            rw [Nat.sub_self, List.take_zero, ← hsc]
            try simp only [List.append_assoc]
          · refine ite_yes (by rw [sign_eq c 32 " " (by decide +kernel), decide_eq_false h32]; rfl) ?_
            refine ⟨.ref l, (by kernel_rfl), .inl ⟨rfl, _, SqL.of L5'.l⟩, .str ⟨#[c]⟩, (by kernel_rfl), .int (i : Int), (by kernel_rfl), _, _, rfl, rfl, by show 2 ≤ sizeLine; decide, fun t2 n2 => ?_⟩
            have L6 := L5'.app n2 [c] (i + 1)
            refine ⟨l, _, _, rfl, rfl, (same_new n2) _ _ L5'.l, small_big (by omega), ?_⟩
            refine ⟨.int (i : Int), (by kernel_rfl), _, _, rfl, rfl, ?_⟩
            refine ⟨i + 1, _, _, some (.int (i : Int)), some (.str ⟨#[c]⟩), (by kernel_rfl), Nat.le_refl _, L6, by rw [List.length_append]; simp only [List.length_singleton]; omega, ?_, fun _ => rfl⟩
            rw [if_neg h32] at hsc
            rw [Nat.sub_self, List.take_zero, ← hsc]
            try simp only [List.append_assoc]
        · refine ite_no (decide_eq_false (by omega)) ?_
          have e0 : i - st = 0 := by omega
          rw [e0, List.take_zero] at hsc
          have ef : flush i [] = [] := rfl
          rw [ef, List.nil_append] at hsc
          have L5' : LB H _ l ws xs := L4
          have hx5 : xs.length ≤ 2 * i + 1 := by omega
          refine ⟨.str ⟨#[c]⟩, (by kernel_rfl), rfl, _, rfl, ?_⟩
          by_cases h32 : c = 32
          · refine ite_no (by rw [sign_eq c 32 " " (by decide +kernel), decide_eq_true h32]; rfl) ?_
            refine ⟨.int (i : Int), (by kernel_rfl), _, _, rfl, rfl, ?_⟩
            refine ⟨i + 1, _, _, some (.int (i : Int)), some (.str ⟨#[c]⟩), (by kernel_rfl), Nat.le_refl _, L5', by omega, ?_, fun _ => rfl⟩
            rw [if_pos h32, List.nil_append] at hsc
            rw [Nat.sub_self, List.take_zero, ← hsc]
            try simp only [List.append_assoc]
          · refine ite_yes (by rw [sign_eq c 32 " " (by decide +kernel), decide_eq_false h32]; rfl) ?_
            refine ⟨.ref l, (by kernel_rfl), .inl ⟨rfl, _, SqL.of L5'.l⟩, .str ⟨#[c]⟩, (by kernel_rfl), .int (i : Int), (by kernel_rfl), _, _, rfl, rfl, by show 2 ≤ sizeLine; decide, fun t2 n2 => ?_⟩
            have L6 := L5'.app n2 [c] (i + 1)
            refine ⟨l, _, _, rfl, rfl, (same_new n2) _ _ L5'.l, small_big (by omega), ?_⟩
            refine ⟨.int (i : Int), (by kernel_rfl), _, _, rfl, rfl, ?_⟩
            refine ⟨i + 1, _, _, some (.int (i : Int)), some (.str ⟨#[c]⟩), (by kernel_rfl), Nat.le_refl _, L6, by rw [List.length_append]; simp only [List.length_singleton]; omega, ?_, fun _ => rfl⟩
            rw [if_neg h32] at hsc
            rw [Nat.sub_self, List.take_zero, ← hsc]
            try simp only [List.append_assoc]
      · refine ite_no (decide_eq_false hs) ?_
        rw [scan_sign _ _ _ hs c59] at hsc
        have ni : i ≠ (codes to).length := fun q => by
          rw [q, List.getElem?_append_right (Nat.le_refl _)] at hc'
          have : c = 32 := by simpa using hc'.symm
          exact hs (by rw [this]; decide)
        have et : ((codes to ++ [32]).drop st).take (i + 1 - st) = ((codes to ++ [32]).drop st).take (i - st) ++ [c] := by
          rw [show i + 1 - st = (i - st) + 1 by omega, List.take_add_one, List.getElem?_drop, show st + (i - st) = i by omega, hc']
          rfl
        refine ⟨st, ws, xs, some (.int (i : Int)), some (.str ⟨#[c]⟩), (by kernel_rfl), by omega, L4, by omega, ?_, fun q => by omega⟩
        rw [et]
        exact hsc
    · rintro σ H3 ⟨st, ws, xs, v4, v5, rfl, hst, L3, hx, hsc, hend⟩
      have est := hend lA
      rw [lA] at hsc est
      rw [est, Nat.sub_self, List.take_zero, List.drop_of_length_le (by simp)] at hsc
      have e1 : scan [] ((codes to).length + 1) [] = [] := rfl
      rw [e1, List.append_nil, scan_blank, eT, scan_told] at hsc
      refine ⟨.ref l, (by kernel_rfl), l, xs, rfl, .inl ⟨SqL.of L3.l, fun q nq => ?_⟩⟩
      refine k q _ xs (L3.s.trans (same_new nq)) upd_same ?_
      rw [← hsc]
      exact L3.w.same (same_new nq)
end
end Nm
namespace Nm
open PySem PySem.Spec PyProof.Rows L2
open TL (joinL tl_join join_eq tl)
/-! ### written_value -/
theorem joinL_nil : ∀ ps : List (List Nat), joinL [] ps = ps.flatten
  | [] => rfl
  | [p] => by simp [joinL]
  | p :: q :: r => by
    show p ++ ([] ++ joinL [] (q :: r)) = _
    rw [joinL_nil (q :: r)]
    simp
def flat (ps : List Str) : List Nat := (ps.map codes).flatten
theorem flat_snoc (ps : List Str) (s : Str) : flat (ps ++ [s]) = flat ps ++ codes s := by simp [flat]
theorem flat_len (ps : List Str) : (ps.map (·.length)).sum = (flat ps).length := by
  unfold flat
  rw [List.length_flatten, List.map_map]
  congr 1
theorem codes_join (ps : List Str) : codes (Txt.join "" ps) = flat ps := by
  rw [join_eq]
  show tl (Str.join "" ps) = _
  rw [tl_join, show tl ("" : Str) = [] from rfl, joinL_nil]
  rfl
def itemC : Itm → List Nat
  | .inl s => codes s
  | .inr t => wC t
def rend (ws : List Itm) : List Nat := ws.foldl (fun acc i => itemC i ++ acc) []
theorem rend_snoc (ws : List Itm) (i : Itm) : rend (ws ++ [i]) = itemC i ++ rend ws := by
  unfold rend
  rw [List.foldl_append]
  rfl
def wt : Itm → Nat
  | .inl _ => 1
  | .inr t => 5 * t.sz - 2
def wtL : List Itm → Nat
  | [] => 0
  | i :: r => wt i + wtL r
theorem wtL_app (a b : List Itm) : wtL (a ++ b) = wtL a + wtL b := by
  induction a with
  | nil => simp [wtL]
  | cons i r ih => simp only [List.cons_append, wtL, ih]; omega
theorem wt_pos (i : Itm) : 1 ≤ wt i := by
  cases i with
  | inl s => exact Nat.le_refl _
  | inr t => have := t.sz_pos; simp only [wt]; omega
theorem wtL_len (a : List Itm) : a.length ≤ wtL a := by
  induction a with
  | nil => exact Nat.le_refl _
  | cons i r ih => have := wt_pos i; simp only [List.length_cons, wtL]; omega
def gI (ws : List Itm) : Prop := ∀ t, Sum.inr t ∈ ws → Tr.good t
inductive SAt (C : Addr) (H : Hp) : List V → List Itm → Prop
  | nil : SAt C H [] []
  | str {s : Str} {xs : List V} {ws : List Itm} (r : SAt C H xs ws) : SAt C H (.str s :: xs) (.inl s :: ws)
  | val {x : V} {t : Tr} {xs : List V} {ws : List Itm} (h : VAt C H x t) (r : SAt C H xs ws) : SAt C H (x :: xs) (.inr t :: ws)
theorem SAt.mono {C : Addr} {H H' : Hp} (k1 : ∀ a dx fs, H a = some (.ins C dx fs) → H' a = some (.ins C dx fs)) (k2 : ∀ a xs, H a = some (.tup xs) → H' a = some (.tup xs)) : ∀ {ws : List Itm} {xs : List V}, SAt C H xs ws → SAt C H' xs ws
  | _, _, .nil => .nil
  | _, _, .str r => .str (r.mono k1 k2)
  | _, _, .val h r => .val (h.mono k1 k2) (r.mono k1 k2)
theorem SAt.same {C : Addr} {H H' : Hp} {xs : List V} {ws : List Itm} (h : SAt C H xs ws) (s : Same H H') : SAt C H' xs ws := h.mono (fun a dx fs e => s _ _ e) fun a xs e => s _ _ e
theorem SAt.put {C : Addr} {H : Hp} {xs : List V} {ws : List Itm} (h : SAt C H xs ws) {p : Addr} {o o' : HO} (e : H p = some o) (n1 : ∀ dx fs, o ≠ .ins C dx fs) (n2 : ∀ xs, o ≠ .tup xs) : SAt C (upd H p o') xs ws :=
  h.mono (fun a dx fs q => by rw [upd_ne (ne_of q e (fun z => n1 _ _ z.symm))]; exact q) fun a xs q => by rw [upd_ne (ne_of q e (fun z => n2 _ z.symm))]; exact q
theorem SAt.len {C : Addr} {H : Hp} : ∀ {xs : List V} {ws : List Itm}, SAt C H xs ws → xs.length = ws.length
  | _, _, .nil => rfl
  | _, _, .str r => by simp [SAt.len r]
  | _, _, .val _ r => by simp [SAt.len r]
theorem SAt.app {C : Addr} {H : Hp} : ∀ {xs ys : List V} {ws vs : List Itm}, SAt C H xs ws → SAt C H ys vs → SAt C H (xs ++ ys) (ws ++ vs)
  | _, _, _, _, .nil, k => k
  | _, _, _, _, .str r, k => .str (SAt.app r k)
  | _, _, _, _, .val h r, k => .val h (SAt.app r k)
theorem SAt.snoc {C : Addr} {H : Hp} : ∀ {ws : List Itm} {xs : List V}, SAt C H xs ws → xs = [] ∨ ∃ xs' x ws' w, xs = xs' ++ [x] ∧ ws = ws' ++ [w] ∧ SAt C H xs' ws' ∧ SAt C H [x] [w]
  | _, _, .nil => .inl rfl
  | _, _, .str (s := s) r => by
    rcases r.snoc with q | ⟨xs', x, ws', w, e1, e2, k⟩
    · subst q
      cases r
      exact .inr ⟨[], _, [], _, rfl, rfl, .nil, .str .nil⟩
    · subst e1 e2
      exact .inr ⟨_ :: xs', x, _ :: ws', w, rfl, rfl, .str k.1, k.2⟩
  | _, _, .val h r => by
    rcases r.snoc with q | ⟨xs', x, ws', w, e1, e2, k⟩
    · subst q
      cases r
      exact .inr ⟨[], _, [], _, rfl, rfl, .nil, .val h .nil⟩
    · subst e1 e2
      exact .inr ⟨_ :: xs', x, _ :: ws', w, rfl, rfl, .val h k.1, k.2⟩
theorem szL_drop {ts : List Tr} {j : Nat} {u : Tr} (e : ts[j]? = some u) : Tr.szL (ts.drop j) = u.sz + Tr.szL (ts.drop (j + 1)) := by
  obtain ⟨h1, h2⟩ := List.getElem?_eq_some_iff.mp e
  rw [List.drop_eq_getElem_cons h1, h2]
  rfl
end Nm
namespace Nm
open PySem PySem.Spec PyProof.Rows L2
/-! ### words are taken -/
def wfT (told : List Itm) : Prop := ∀ i ∈ told.tail, ∃ t, i = Sum.inr t
theorem SAt.vals {C : Addr} {H : Hp} : ∀ {told : List Itm} {xs : List V}, SAt C H xs told → (∀ i ∈ told, ∃ t, i = Sum.inr t) → VAts C H xs (valsI told)
  | _, _, .nil, _ => .nil
  | _, _, .str (s := s) r, h => by
    obtain ⟨t, e⟩ := h (.inl s) (List.mem_cons_self ..)
    cases e
  | _, _, .val hv r, h => .cons hv (SAt.vals r fun i m => h i (List.mem_cons_of_mem _ m))
/-- the lists that are open, the last one first -/
inductive TAt (C : Addr) (H : Hp) : List Addr → List (List Itm) → Prop
  | nil : TAt C H [] []
  | cons {r : Addr} {rs : List Addr} {xs : List V} {told : List Itm} {S : List (List Itm)} (e : H r = some (.lst xs)) (h : SAt C H xs told) (t : TAt C H rs S) : TAt C H (r :: rs) (told :: S)
theorem TAt.len {C : Addr} {H : Hp} : ∀ {rs : List Addr} {S : List (List Itm)}, TAt C H rs S → rs.length = S.length
  | _, _, .nil => rfl
  | _, _, .cons _ _ t => by simp [TAt.len t]
theorem TAt.mono {C : Addr} {H H' : Hp} (k1 : ∀ a dx fs, H a = some (.ins C dx fs) → H' a = some (.ins C dx fs)) (k2 : ∀ a xs, H a = some (.tup xs) → H' a = some (.tup xs)) : ∀ {rs : List Addr} {S : List (List Itm)}, (∀ r ∈ rs, ∀ xs, H r = some (.lst xs) → H' r = some (.lst xs)) → TAt C H rs S → TAt C H' rs S
  | _, _, _, .nil => .nil
  | _, _, k3, .cons e h t => .cons (k3 _ (List.mem_cons_self ..) _ e) (h.mono k1 k2) (TAt.mono k1 k2 (fun r m => k3 r (List.mem_cons_of_mem _ m)) t)
theorem TAt.same {C : Addr} {H H' : Hp} {rs : List Addr} {S : List (List Itm)} (t : TAt C H rs S) (s : Same H H') : TAt C H' rs S := t.mono (fun _ _ _ e => s _ _ e) (fun _ _ e => s _ _ e) fun _ _ _ e => s _ _ e
/-- another list is written -/
theorem TAt.put {C : Addr} {H : Hp} {rs : List Addr} {S : List (List Itm)} (t : TAt C H rs S) {p : Addr} {ys : List V} {o' : HO} (e : H p = some (.lst ys)) (n : p ∉ rs) : TAt C (upd H p o') rs S :=
  t.mono (fun a dx fs q => by rw [upd_ne (ne_of q e (by intro z; cases z))]; exact q) (fun a xs q => by rw [upd_ne (ne_of q e (by intro z; cases z))]; exact q) fun r m xs q => by rw [upd_ne (fun (z : r = p) => n (z ▸ m))]; exact q
/-- what is open: seen from H0, all of it new -/
structure OpAt (C : Addr) (H0 H : Hp) (l : Addr) (rs : List Addr) (S : List (List Itm)) (n : Nat) : Prop where
  at_ : H l = some (.lst (rs.reverse.map V.ref))
  t : TAt C H rs S
  nd : (l :: rs).Nodup
  fr : ∀ r ∈ l :: rs, H0 r = none
  s : Same H0 H
  wf : ∀ told ∈ S, wfT told
  ln : S.length ≤ n
  tn : ∀ told ∈ S, told.length ≤ n
theorem OpAt.same {C : Addr} {H0 H H' : Hp} {l : Addr} {rs : List Addr} {S : List (List Itm)} {n : Nat} (O : OpAt C H0 H l rs S n) (s : Same H H') : OpAt C H0 H' l rs S n := ⟨s _ _ O.at_, O.t.same s, O.nd, O.fr, O.s.trans s, O.wf, O.ln, O.tn⟩
theorem OpAt.le {C : Addr} {H0 H : Hp} {l : Addr} {rs : List Addr} {S : List (List Itm)} {n m : Nat} (O : OpAt C H0 H l rs S n) (h : n ≤ m) : OpAt C H0 H l rs S m := ⟨O.at_, O.t, O.nd, O.fr, O.s, O.wf, Nat.le_trans O.ln h, fun t k => Nat.le_trans (O.tn t k) h⟩
/-- an item is told to the last list -/
theorem OpAt.item {C : Addr} {H0 H : Hp} {l r : Addr} {rs : List Addr} {xs : List V} {told : List Itm} {S : List (List Itm)} {n : Nat} (O : OpAt C H0 H l (r :: rs) (told :: S) n) (e : H r = some (.lst xs)) (hx : SAt C H xs told) {y : V} {i : Itm} (hy : SAt C H [y] [i]) (w : told = [] ∨ ∃ t, i = Sum.inr t) :
    OpAt C H0 (upd H r (.lst (xs ++ [y]))) l (r :: rs) ((told ++ [i]) :: S) (n + 1) := by
  have lr : l ≠ r := fun z => by have := (List.nodup_cons.mp O.nd).1; exact this (by simp [z])
  have nr : r ∉ rs := (List.nodup_cons.mp (List.nodup_cons.mp O.nd).2).1
  have tr : TAt C H rs S := by cases O.t with | cons _ _ t => exact t
  refine ⟨by rw [upd_ne lr]; exact O.at_, .cons upd_same ((hx.app hy).put e (by intro _ _ z; cases z) (by intro _ z; cases z)) (tr.put e nr), O.nd, O.fr, same_put O.s (O.fr r (by simp)), fun t m => ?_, Nat.le_succ_of_le O.ln, fun t m => ?_⟩
  · rcases List.mem_cons.mp m with rfl | m
    · have w0 := O.wf told (List.mem_cons_self ..)
      rcases w with rfl | ⟨u, rfl⟩
      · intro j hj
        exact nomatch hj
      · intro j hj
        cases told with
        | nil => exact nomatch hj
        | cons a b =>
          rcases List.mem_append.mp (show j ∈ b ++ [Sum.inr u] from hj) with h | h
          · exact w0 j h
          · exact ⟨u, by simpa using h⟩
    · exact O.wf t (List.mem_cons_of_mem _ m)
  · rcases List.mem_cons.mp m with rfl | m
    · have := O.tn told (List.mem_cons_self ..)
      rw [List.length_append]
      exact Nat.add_le_add_right this 1
    · exact Nat.le_succ_of_le (O.tn t (List.mem_cons_of_mem _ m))
theorem cutV_tail (x : V) (r : List V) : cutV (x :: r) (some 1) none = r := by
  show (((x :: r).drop (HT.sIx (x :: r).length 0 (some 1))).take (HT.sIx (x :: r).length (x :: r).length none - HT.sIx (x :: r).length 0 (some 1))) = r
  rw [show HT.sIx (x :: r).length (x :: r).length none = (x :: r).length from rfl, show (some (1 : Int)) = some ((1 : Nat) : Int) from rfl, HT.sIx_nat]
  simp
theorem OpAt.open_ {C : Addr} {H0 H : Hp} {l q : Addr} {rs : List Addr} {S : List (List Itm)} {n : Nat} (O : OpAt C H0 H l rs S n) (nq : H q = none) : OpAt C H0 (upd (upd H q (.lst [])) l (.lst (rs.reverse.map V.ref ++ [.ref q]))) l (q :: rs) ([] :: S) (n + 1) := by
  have ql : q ≠ l := fun z => by rw [z, O.at_] at nq; cases nq
  have alive : ∀ {rs : List Addr} {S : List (List Itm)}, TAt C H rs S → q ∉ rs := fun {rs S} t => by
    induction t with
    | nil => exact fun m => nomatch m
    | cons e h t ih =>
      intro m
      rcases List.mem_cons.mp m with z | m
      · rw [← z, nq] at e; cases e
      · exact ih m
  have qrs := alive O.t
  have l1 : upd H q (.lst []) l = some (.lst (rs.reverse.map V.ref)) := by rw [upd_ne (Ne.symm ql)]; exact O.at_
  have lrs := (List.nodup_cons.mp O.nd).1
  have T1 : TAt C (upd H q (.lst [])) (q :: rs) ([] :: S) := .cons upd_same .nil (O.t.same (same_new nq))
  have h0q : H0 q = none := by
    cases e : H0 q with
    | none => rfl
    | some o => rw [O.s _ _ e] at nq; cases nq
  refine ⟨by rw [upd_same]; simp, T1.put l1 (fun m => ?_), ?_, fun r m => ?_, same_put (O.s.trans (same_new nq)) (O.fr l (by simp)), fun t m => ?_, ?_, fun t m => ?_⟩
  · rcases List.mem_cons.mp m with z | m
    · exact ql z.symm
    · exact lrs m
  · refine List.nodup_cons.mpr ⟨fun m => ?_, List.nodup_cons.mpr ⟨qrs, (List.nodup_cons.mp O.nd).2⟩⟩
    rcases List.mem_cons.mp m with z | m
    · exact ql z.symm
    · exact lrs m
  · rcases List.mem_cons.mp m with rfl | m
    · exact O.fr r (by simp)
    · rcases List.mem_cons.mp m with rfl | m
      · exact h0q
      · exact O.fr r (List.mem_cons_of_mem _ m)
  · rcases List.mem_cons.mp m with rfl | m
    · exact fun i hi => nomatch hi
    · exact O.wf t m
  · exact Nat.succ_le_succ O.ln
  · rcases List.mem_cons.mp m with rfl | m
    · exact Nat.zero_le _
    · exact Nat.le_succ_of_le (O.tn t m)
theorem OpAt.close {C : Addr} {H0 H : Hp} {l r : Addr} {rs : List Addr} {told : List Itm} {S : List (List Itm)} {n : Nat} (O : OpAt C H0 H l (r :: rs) (told :: S) n) : OpAt C H0 (upd H l (.lst (rs.reverse.map V.ref))) l rs S n := by
  have tr : TAt C H rs S := by cases O.t with | cons _ _ t => exact t
  have nd := List.nodup_cons.mp O.nd
  have lrs : l ∉ rs := fun m => nd.1 (List.mem_cons_of_mem _ m)
  refine ⟨upd_same, tr.put O.at_ lrs, List.nodup_cons.mpr ⟨lrs, (List.nodup_cons.mp nd.2).2⟩, fun a m => ?_, same_put O.s (O.fr l (by simp)), fun t m => O.wf t (List.mem_cons_of_mem _ m), Nat.le_trans (Nat.le_succ _) O.ln, fun t m => O.tn t (List.mem_cons_of_mem _ m)⟩
  rcases List.mem_cons.mp m with rfl | m
  · exact O.fr a (by simp)
  · exact O.fr a (List.mem_cons_of_mem _ (List.mem_cons_of_mem _ m))
def spInitL (C : Addr) : Sp := fun vs H Q _ => ∃ (x dx p : Addr) (m : Str) (xs : List V), vs = [.ref x, .str m, .ref p] ∧ H x = some (.ins C dx []) ∧ H p = some (.lst xs) ∧
  ∀ (q : Addr) (H' : Hp), q ≠ x → H q = none → H' q = some (.tup xs) → H' x = some (.ins C dx (mkF m q)) → (∀ b, b ≠ x → b ≠ q → H' b = H b) → Q .non H'
def spMay (C : Addr) : Sp := fun vs H Q _ => ∃ (r : Addr) (xs : List V) (told : List Itm), vs = [.ref r] ∧ H r = some (.lst xs) ∧ SAt C H xs told ∧ Q (.bl (mayP told)) H
def spRead (C : Addr) : Sp := fun vs H Q _ => ∃ (r : Addr) (xs : List V) (told : List Itm), vs = [.ref r] ∧ H r = some (.lst xs) ∧ SAt C H xs told ∧ told ≠ [] ∧ wfT told ∧ told.length ≤ 2000000 ∧ ∀ (y : V) (H' : Hp), Same H H' → VAt C H' y (readV told) → Q y H'
def spTake (C : Addr) : Sp := fun vs H Q _ => ∃ (l : Addr) (w : Str) (H0 : Hp) (rs : List Addr) (S : List (List Itm)) (n : Nat), vs = [.ref l, .str w] ∧ OpAt C H0 H l rs S n ∧ n < 2000000 ∧ w.length ≤ 900000 ∧ S ≠ [] ∧
  (takeW S w = none → ∀ H', Same H0 H' → Q (.bl false) H') ∧ ∀ (S' : List (List Itm)) (rs' : List Addr) (H' : Hp), takeW S w = some S' → OpAt C H0 H' l rs' S' (n + 1) → Q (.bl true) H'
theorem takeW_ne {S S' : List (List Itm)} {w : Str} (h : takeW S w = some S') : S' ≠ [] := by
  intro e
  subst e
  unfold takeW at h
  split at h
  · cases h
  · unfold takeW1 at h
    split at h
    · split at h <;> cases h
    · split at h
      · split at h
        · cases h
        · split at h <;> cases h
      · split at h
        · cases h
        · split at h
          · cases h
          · split at h <;> cases h
section
variable {P : Program} {w : World} {K : PySem.W.Frag} {mg : Str → Option Value} {base : Heap} {C fE : Addr}

theorem ok_initL {f : Addr} {fd : FuncData} (F : Fun K "__init__" "Made.__init__" sMadeinit f fd) (T : VTxt mg) (MT : MadeTxt K mg C fE) : FnOk P w K mg base CX0 1 f fd PMadeinit (spInitL C) := by
  refine F.ok scMadeinit (fun vs H Q E h => ?_) (fun cdv A outer s H vs Q E hr h => ?_)
  · obtain ⟨x, dx, p, m, xs, rfl, _⟩ := h
    rfl
  · obtain ⟨x, dx, p, m, xs, rfl, hx, hp, k⟩ := h
    have px : p ≠ x := ne_of hp hx (by intro z; cases z)
    refine ⟨_, (pss_cons (ps_fld (pv 0) (pv 1) rfl)
      (pss_one (ps_fld (pv 0) (pe_ifExp (pt_val (pe_callB call_isi (by rfl) T.isinstance (by decide +kernel) (pa_cons (pv 2) (pa_cons (pe_bltn (v := .ty "list") (by rfl) T.list (by decide +kernel) rfl) pa_nil)))) (pe_callTy call_tuple_of (by rfl) T.tuple (by decide +kernel) (pa_cons (pv 2) pa_nil)) (pv 2)) rfl))), ?_⟩
    refine ⟨.str m, (by kernel_rfl), .ref x, (by kernel_rfl), x, C, dx, [], rfl, hx, MT.cl, MT.nM, (by show 0 < 1000; decide), ?_⟩
    have hp1 : upd H x (.ins C dx (putF "maker" (.str m) [])) p = some (.lst xs) := Eq.trans (upd_ne px) hp
    refine ⟨.ref p, (by kernel_rfl), _, _, _, _, true, rfl, .ty "list", .base (.lst hp1), kit_ty (by decide +kernel), _, rfl, ?_⟩
    refine ite_yes rfl ?_
    refine ⟨.ref p, (by kernel_rfl), p, xs, rfl, .inl ⟨SqL.of hp1, fun q nq => ?_⟩⟩
    have qx : q ≠ x := fun z => by rw [z, upd_same] at nq; cases nq
    refine ⟨.ref x, (by kernel_rfl), x, C, dx, _, rfl, by rw [upd_ne (Ne.symm qx), upd_same], MT.cl, MT.nP, (by show 1 < 1000; decide), ?_⟩
    refine k q _ qx (by rw [upd_ne qx] at nq; exact nq) (by rw [upd_ne qx, upd_same]) upd_same fun b b1 b2 => ?_
    rw [upd_ne b1, upd_ne b2, upd_ne b1]

abbrev smayhaveparts : Stmt := top 19
abbrev Nmayhaveparts : List Str := ["told"]
abbrev Pmayhaveparts : List Str := ["told"]
theorem scmayhaveparts : FnScope Nmayhaveparts Pmayhaveparts (defScope smayhaveparts) := ⟨rfl, rfl, rfl, by decide +kernel, rfl, by decide +kernel, by decide +kernel⟩

theorem ok_may {f : Addr} {fd : FuncData} (F : Fun K "may_have_parts" "may_have_parts" smayhaveparts f fd) (T : VTxt mg) (MT : MadeTxt K mg C fE) (kS : PySem.W.kitOne K (.ref C) (.type "str") = some false) : FnOk P w K mg base CX0 1 f fd Pmayhaveparts (spMay C) := by
  refine F.ok scmayhaveparts (fun vs H Q E h => ?_) (fun cdv A outer s H vs Q E hr h => ?_)
  · obtain ⟨r, xs, told, rfl, _⟩ := h
    rfl
  · obtain ⟨r, xs, told, rfl, hr0, hx, k⟩ := h
    refine ⟨_, (pss_one (ps_ret (pe_and (pe_cmpR op_gt (pe_callB call_len_seq (by rfl) T.len PySem.boot_len (pa_cons (pv 0) pa_nil)) pe_int (nomark _)) (pe_one (pe_callB call_isi (by rfl) T.isinstance (by decide +kernel) (pa_cons (pe_ix ix_list (pv 0) pe_int (fun _ _ => rfl)) (pa_cons (pe_bltn (v := .ty "str") (by rfl) T.str (by decide +kernel) rfl) pa_nil))))))), ?_⟩
    have lx := hx.len
    refine ⟨.ref r, (by kernel_rfl), r, _, rfl, .inl (SqL.of hr0), _, _, rfl, rfl, _, rfl, ?_⟩
    cases hx with
    | nil =>
      refine ite_no rfl ?_
      exact k
    | @str s xs' told' hx' =>
      refine ite_yes (decide_eq_true (by simp only [List.length_cons]; omega)) ?_
      refine ⟨.ref r, (by kernel_rfl), r, _, 0, .str s, rfl, rfl, SqL.of hr0, atI0 rfl, _, _, _, _, true, rfl, .ty "str", .base (.str s), kit_ty (by decide +kernel), ?_⟩
      exact k
    | @val y t xs' told' hv hx' =>
      refine ite_yes (decide_eq_true (by simp only [List.length_cons]; omega)) ?_
      cases hv with
      | num i =>
        refine ⟨.ref r, (by kernel_rfl), r, _, 0, .int i, rfl, rfl, SqL.of hr0, atI0 rfl, _, _, _, _, false, rfl, .ty "str", .base (.int i), kit_ty (by decide +kernel), ?_⟩
        exact k
      | @mk a dx p mm ys ts ea ep hy =>
        refine ⟨.ref r, (by kernel_rfl), r, _, 0, .ref a, rfl, rfl, SqL.of hr0, atI0 rfl, _, _, _, _, false, rfl, .ty "str", MT.ins ea, kS, ?_⟩
        exact k

abbrev sreadvalue : Stmt := top 20
abbrev Nreadvalue : List Str := ["told"]
abbrev Preadvalue : List Str := ["told"]
theorem screadvalue : FnScope Nreadvalue Preadvalue (defScope sreadvalue) := ⟨rfl, rfl, rfl, by decide +kernel, rfl, by decide +kernel, by decide +kernel⟩

theorem ok_read {f f0 fM : Addr} {fd fd0 fdM : FuncData} (F : Fun K "read_value" "read_value" sreadvalue f fd) (T : VTxt mg) (MT : MadeTxt K mg C fE) (kS : PySem.W.kitOne K (.ref C) (.type "str") = some false) (Mk : Mk K C f0) (F_init : Fun K "__init__" "Made.__init__" sMadeinit f0 fd0) (B_init : Binds K fd0 ["self", "maker", "parts"] [])
    (F_may_have_parts : Fun K "may_have_parts" "may_have_parts" smayhaveparts fM fdM) (b_may_have_parts : Binds K fdM ["told"] []) (g_may_have_parts : mg "may_have_parts" = some (.ref fM)) : FnOk P w K mg base CX0 3 f fd Preadvalue (spRead C) := by
  have G_may_have_parts : FnOk P w K mg base CX0 2 fM fdM Pmayhaveparts (spMay C) := (ok_may F_may_have_parts T MT kS).mono (by decide)
  have G_init : FnOk P w K mg base CX0 1 f0 fd0 PMadeinit (spInitL C) := ok_initL F_init T MT
  refine F.ok screadvalue (fun vs H Q E h => ?_) (fun cdv A outer s H vs Q E hr h => ?_)
  · obtain ⟨r, xs, told, rfl, _⟩ := h
    rfl
  · obtain ⟨r, xs, told, rfl, hr0, hx, hne, hwf, hln, k⟩ := h
    have hr1 := hr
    refine ⟨_, (pss_cons (ps_if (pt_val (pe_call G_may_have_parts hr1 rfl g_may_have_parts F_may_have_parts.kp b_may_have_parts .nil pass0 (pa_cons (pv 0) pa_nil)))
      (pss_one (ps_ret (pe_make Mk G_init hr1 rfl MT.gM B_init .nil pass0 (pa_cons (pe_ix ix_list (pv 0) pe_int (fun _ _ => rfl)) (pa_cons (pe_slice sl_list (pv 0) (po_some pe_int) po_none) pa_nil)))))
      pss_nil)
      (pss_one (ps_ret (pe_ix ix_list (pv 0) pe_int (fun _ _ => rfl))))), ?_⟩
    have lx := hx.len
    refine ⟨.ref r, (by kernel_rfl), r, xs, told, rfl, hr0, hx, _, rfl, ?_⟩
    cases hx with
    | nil => exact (hne rfl).elim
    | @str s xs' told' hx' =>
      refine ite_yes rfl ?_
      have hv : VAts C H xs' (valsI told') := hx'.vals hwf
      refine ⟨.ref r, (by kernel_rfl), r, _, 0, .str s, rfl, rfl, SqL.of hr0, atI0 rfl, ?_⟩
      refine ⟨.ref r, (by kernel_rfl), 1, rfl, r, _, rfl, SqL.of hr0, ?_⟩
      refine fun p np => ?_
      rw [cutV_tail]
      intro nx dn n1 n2 n3
      have s1 := same_new (o := .lst xs') np
      have m1 : Same (upd H p (.lst xs')) (upd (upd H p (.lst xs')) dn (.own nx)) := same_new n2
      have m2 : ∀ o, Same (upd H p (.lst xs')) (upd (upd (upd H p (.lst xs')) dn (.own nx)) nx o) := fun o => same_put m1 n1
      have hp1 := upd_same (H := H) (a := p) (o := .lst xs')
      refine ⟨nx, dn, p, s, xs', rfl, upd_same, m2 _ _ _ hp1, fun q H' q1 q2 q3 q4 q5 => ⟨rfl, ?_⟩⟩
      have sm : Same H H' := fun b o e => by
        have b1 : b ≠ nx := fun z => by rw [z] at e; rw [upd_ne (fun z => by rw [← z, e] at np; cases np), e] at n1; cases n1
        have e2 := m2 (.ins C dn []) _ _ (s1 _ _ e)
        have b2 : b ≠ q := fun z => by rw [z] at e2; rw [e2] at q2; cases q2
        rw [q5 b b1 b2]
        exact e2
      exact k (.ref nx) H' sm (.mk q4 q3 (hv.same sm))
    | @val y t xs' told' hv hx' =>
      refine ite_no rfl ?_
      exact ⟨.ref r, (by kernel_rfl), r, _, 0, y, rfl, rfl, SqL.of hr0, atI0 rfl, k y H (fun _ _ e => e) hv⟩

abbrev stakeword : Stmt := top 21
abbrev Ntakeword : List Str := ["opened", "word", "told"]
abbrev Ptakeword : List Str := ["opened", "word"]
theorem sctakeword : FnScope Ntakeword Ptakeword (defScope stakeword) := ⟨rfl, rfl, rfl, by decide +kernel, rfl, by decide +kernel, by decide +kernel⟩

theorem ok_take {f f0 fM fR fN fB fA fI : Addr} {fd fd0 fdM fdR fdN fdB fdA fdI : FuncData} (F : Fun K "take_word" "take_word" stakeword f fd) (T : VTxt mg) (WT : WTxt mg) (MT : MadeTxt K mg C fE) (kS : PySem.W.kitOne K (.ref C) (.type "str") = some false) (Mk : Mk K C f0) (F_init : Fun K "__init__" "Made.__init__" sMadeinit f0 fd0) (B_init : Binds K fd0 ["self", "maker", "parts"] [])
    (F_may_have_parts : Fun K "may_have_parts" "may_have_parts" smayhaveparts fM fdM) (b_may_have_parts : Binds K fdM ["told"] []) (g_may_have_parts : mg "may_have_parts" = some (.ref fM))
    (F_read_value : Fun K "read_value" "read_value" sreadvalue fR fdR) (b_read_value : Binds K fdR ["told"] []) (g_read_value : mg "read_value" = some (.ref fR))
    (F_is_number : NumFun K mg fN fdN) (b_is_number : Binds K fdN Pisnumber []) (g_is_number : mg "is_number" = some (.ref fN))
    (F_is_big : Fun K "is_big" "is_big" sisbig fB fdB) (b_is_big : Binds K fdB Pisbig []) (g_is_big : mg "is_big" = some (.ref fB))
    (F_is_name : Fun K "is_name" "is_name" sisname fI fdI) (b_is_name : Binds K fdI Pisname []) (g_is_name : mg "is_name" = some (.ref fI))
    (F_all_among : Fun K "all_among" "all_among" sallamong fA fdA) (b_all_among : Binds K fdA Pallamong []) (g_all_among : mg "all_among" = some (.ref fA)) : FnOk P w K mg base CX0 4 f fd Ptakeword (spTake C) := by
  have G_may_have_parts : FnOk P w K mg base CX0 3 fM fdM Pmayhaveparts (spMay C) := (ok_may F_may_have_parts T MT kS).mono (by decide)
  have G_read_value : FnOk P w K mg base CX0 3 fR fdR Preadvalue (spRead C) := ok_read F_read_value T MT kS Mk F_init B_init F_may_have_parts b_may_have_parts g_may_have_parts
  have G_is_number : FnOk P w K mg base CX0 3 fN fdN Pisnumber (spW isNum) := (ok_number F_is_number WT F_all_among b_all_among g_all_among).mono (by decide)
  have G_is_big : FnOk P w K mg base CX0 3 fB fdB Pisbig (spW isBig) := ok_big F_is_big WT F_is_name b_is_name g_is_name F_all_among b_all_among g_all_among
  have G_init : FnOk P w K mg base CX0 2 f0 fd0 PMadeinit (spInit C) := (ok_init F_init T MT).mono (by decide)
  refine F.ok sctakeword (fun vs H Q E h => ?_) (fun cdv A outer s H vs Q E hr h => ?_)
  · obtain ⟨l, w, H0, rs, S, n, rfl, _⟩ := h
    rfl
  · obtain ⟨l, w, H0, rs, S, n, rfl, O, hn, hw, hne, kn, ks⟩ := h
    have hr1 := hr
    refine ⟨_, (pss_cons (ps_set (i := 2) sctakeword.nd rfl (Or.inl rfl) (pe_ix ix_list (pv 0) (pe_un un_neg pe_int) (fun _ _ => rfl)))
      (pss_cons (ps_if (pt_cmpR op_eq (pv 1) pe_str (nomark _))
      (pss_cons (ps_if (PW.pt (pw_and (pt_not (pt_val (pe_call G_may_have_parts hr1 rfl g_may_have_parts F_may_have_parts.kp b_may_have_parts .nil pass0 (pa_cons (pv 2) pa_nil)))) (pw_and1 (PW.pt (pw_or (pt_cmpR op_gt (pe_callB call_len_seq (by rfl) T.len PySem.boot_len (pa_cons (pv 0) pa_nil)) pe_int (nomark _)) (pw_or1 (pt_cmpR op_gt (pe_callB call_len_seq (by rfl) T.len PySem.boot_len (pa_cons (pv 2) pa_nil)) pe_int (nomark _))))))))
      (pss_one (ps_ret pe_bl))
      pss_nil)
      (pss_one (ps_expr (pe_bm PySem.F.plainAttrs_list PySem.F.slot_list_append PySem.F.type_list_append mt_append (pv 0) (pa_cons (pe_lst pa_nil) pa_nil)))))
      (pss_one (ps_if (pt_cmpR op_eq (pv 1) pe_str (nomark _))
      (pss_cons (ps_if (PW.pt (pw_or (pt_cmpR op_eq (pe_callB call_len_seq (by rfl) T.len PySem.boot_len (pa_cons (pv 0) pa_nil)) pe_int (nomark _)) (pw_or1 (pt_cmpR op_eq (pe_callB call_len_seq (by rfl) T.len PySem.boot_len (pa_cons (pv 2) pa_nil)) pe_int (nomark _)))))
      (pss_one (ps_ret pe_bl))
      pss_nil)
      (pss_cons (ps_expr (pe_bm0 PySem.F.plainAttrs_list PySem.F.slot_list_pop PySem.F.type_list_pop mt_pop (pv 0)))
      (pss_one (ps_expr (pe_bm PySem.F.plainAttrs_list PySem.F.slot_list_append PySem.F.type_list_append mt_append (pe_ix ix_list (pv 0) (pe_un un_neg pe_int) (fun _ _ => rfl)) (pa_cons (pe_call G_read_value hr1 rfl g_read_value F_read_value.kp b_read_value .nil pass0 (pa_cons (pv 2) pa_nil)) pa_nil))))))
      (pss_one (ps_if (PW.pt (pw_and (pt_cmpR op_gt (pe_callB call_len_seq (by rfl) T.len PySem.boot_len (pa_cons (pv 2) pa_nil)) pe_int (nomark _)) (pw_and1 (pt_not (pt_val (pe_call G_may_have_parts hr1 rfl g_may_have_parts F_may_have_parts.kp b_may_have_parts .nil pass0 (pa_cons (pv 2) pa_nil)))))))
      (pss_one (ps_ret pe_bl))
      (pss_one (ps_if (pt_val (pe_call G_is_number hr1 rfl g_is_number F_is_number.kp b_is_number .nil pass0 (pa_cons (pv 1) pa_nil)))
      (pss_one (ps_expr (pe_bm PySem.F.plainAttrs_list PySem.F.slot_list_append PySem.F.type_list_append mt_append (pv 2) (pa_cons (pe_callTy call_int_str (by rfl) T.int (by decide +kernel) (pa_cons (pv 1) pa_nil)) pa_nil))))
      (pss_one (ps_if (pt_val (pe_call G_is_big hr1 rfl g_is_big F_is_big.kp b_is_big .nil pass0 (pa_cons (pv 1) pa_nil)))
      (pss_one (ps_expr (pe_bm PySem.F.plainAttrs_list PySem.F.slot_list_append PySem.F.type_list_append mt_append (pv 2) (pa_cons (pe_ifExp (pt_truth (pv 2) (by intro _; rfl)) (pe_make Mk G_init hr1 rfl MT.gM B_init .nil pass0 (pa_cons (pv 1) (pa_cons (pe_tup pa_nil) pa_nil))) (pv 1)) pa_nil))))
      (pss_one (ps_ret pe_bl)))))))))))
      (pss_one (ps_ret pe_bl)))), ?_⟩
    cases S with
    | nil => exact (hne rfl).elim
    | cons told rest =>
    obtain ⟨r, rs', xs, rfl, er, hx, tr⟩ : ∃ r rs' xs, rs = r :: rs' ∧ H r = some (.lst xs) ∧ SAt C H xs told ∧ TAt C H rs' rest := by
      cases O.t with
      | cons e h t => exact ⟨_, _, _, rfl, e, h, t⟩
    have hl := O.at_
    rw [List.reverse_cons, List.map_append] at hl
    have hl' : H l = some (.lst (rs'.reverse.map V.ref ++ [.ref r])) := hl
    clear hl
    have lx := hx.len
    have ltd := O.tn told (by simp)
    have lrs := tr.len
    have lrest : rest.length + 1 ≤ n := O.ln
    have lop : (rs'.reverse.map V.ref ++ [V.ref r]).length = rest.length + 1 := by simp [lrs]
    refine ⟨.ref l, (by kernel_rfl), _, rfl, l, _, _, .ref r, rfl, rfl, SqL.of hl', atI_last _ _, ?_⟩
    refine ⟨.str w, (by kernel_rfl), rfl, _, rfl, ?_⟩
    rw [dec_str]
    by_cases h1 : w = "("
    · refine ite_yes (decide_eq_true h1) ?_
      refine ⟨.ref r, (by kernel_rfl), r, xs, told, rfl, er, hx, _, rfl, ?_⟩
      have yes : (!mayP told && (!rest.isEmpty || !told.isEmpty)) = false → takeW (told :: rest) w = some ([] :: told :: rest) := fun q => by
        show takeW1 _ _ _ = _
        unfold takeW1
        rw [if_pos h1, if_neg (by rw [q]; exact Bool.false_ne_true)]
      have no : (!mayP told && (!rest.isEmpty || !told.isEmpty)) = true → takeW (told :: rest) w = none := fun q => by
        show takeW1 _ _ _ = _
        unfold takeW1
        rw [if_pos h1, if_pos q]
      cases hm : mayP told
      · refine ite_yes rfl ?_
        refine ⟨.ref l, (by kernel_rfl), l, _, rfl, .inl (SqL.of hl'), _, _, rfl, rfl, _, rfl, ?_⟩
        cases rest with
        | nil =>
          refine ite_no (decide_eq_false (by rw [lop]; simp)) ?_
          refine ⟨.ref r, (by kernel_rfl), r, _, rfl, .inl (SqL.of er), _, _, rfl, rfl, _, rfl, ?_⟩
          cases told with
          | nil =>
            refine ite_no (decide_eq_false (by rw [lx]; simp)) ?_
            refine ⟨.ref l, (by kernel_rfl), .inl ⟨rfl, _, SqL.of hl'⟩, by show 0 ≤ sizeLine; decide, fun q nq => ?_⟩
            refine ⟨l, _, _, rfl, rfl, (same_new nq) _ _ hl', Nat.lt_of_le_of_lt (show (rs'.reverse.map V.ref ++ [V.ref r]).length ≤ 2000000 by omega) (by decide), ?_⟩
            have O2 := O.open_ nq
            rw [show ((r :: rs').reverse.map V.ref) = rs'.reverse.map V.ref ++ [V.ref r] by simp] at O2
            exact ks _ _ _ (yes (by rfl)) O2
          | cons a b =>
            refine ite_yes (decide_eq_true (by rw [lx]; simp only [List.length_cons]; omega)) ?_
            exact kn (no (by rw [hm]; rfl)) _ O.s
        | cons a b =>
          refine ite_yes (decide_eq_true (by rw [lop]; simp only [List.length_cons]; omega)) ?_
          refine ite_yes rfl ?_
          exact kn (no (by rw [hm]; rfl)) _ O.s
      · refine ite_no rfl ?_
        refine ite_no rfl ?_
        refine ⟨.ref l, (by kernel_rfl), .inl ⟨rfl, _, SqL.of hl'⟩, by show 0 ≤ sizeLine; decide, fun q nq => ?_⟩
        refine ⟨l, _, _, rfl, rfl, (same_new nq) _ _ hl', Nat.lt_of_le_of_lt (show (rs'.reverse.map V.ref ++ [V.ref r]).length ≤ 2000000 by omega) (by decide), ?_⟩
        have O2 := O.open_ nq
        rw [show ((r :: rs').reverse.map V.ref) = rs'.reverse.map V.ref ++ [V.ref r] by simp] at O2
        exact ks _ _ _ (yes (by rw [hm]; rfl)) O2
    · refine ite_no (decide_eq_false h1) ?_
      refine ⟨.str w, (by kernel_rfl), rfl, _, rfl, ?_⟩
      rw [dec_str]
      by_cases h2 : w = ")"
      · refine ite_yes (decide_eq_true h2) ?_
        refine ⟨.ref l, (by kernel_rfl), l, _, rfl, .inl (SqL.of hl'), rfl, _, rfl, ?_⟩
        cases rest with
        | nil =>
          refine ite_yes (decide_eq_true (by rw [lop]; rfl)) ?_
          refine ite_yes rfl ?_
          refine kn ?_ _ O.s
          show takeW1 _ _ _ = _
          unfold takeW1
          rw [if_neg h1, if_pos h2]
        | cons t2 r2 =>
          refine ite_no (decide_eq_false (fun z => by have q := V.int.inj z; rw [lop] at q; simp only [List.length_cons] at q; omega)) ?_
          refine ⟨.ref r, (by kernel_rfl), r, _, rfl, .inl (SqL.of er), rfl, _, rfl, ?_⟩
          by_cases ht : told = []
          · refine ite_yes (decide_eq_true (by rw [lx, ht]; rfl)) ?_
            refine kn ?_ _ O.s
            show takeW1 _ _ _ = _
            unfold takeW1
            rw [if_neg h1, if_pos h2]
            show (if told.isEmpty = true then none else _) = _
            rw [ht]
            rfl
          · have hlt : 0 < told.length := List.length_pos_iff.mpr ht
            refine ite_no (decide_eq_false (fun z => by have q := V.int.inj z; omega)) ?_
            refine ⟨.ref l, (by kernel_rfl), .inl ⟨rfl, _, SqL.of hl'⟩, l, _, .ref r, rfl, rfl, hl', (by simp), ?_⟩
            rw [show (rs'.reverse.map V.ref ++ [V.ref r]).dropLast = rs'.reverse.map V.ref from List.dropLast_concat]
            have O1 := O.close
            have er1 : upd H l (.lst (rs'.reverse.map V.ref)) r = some (.lst xs) := by rw [upd_ne (fun z => (List.nodup_cons.mp O.nd).1 (by simp [z]))]; exact er
            have hx1 := hx.put (o' := .lst (rs'.reverse.map V.ref)) hl' (by intro _ _ z; cases z) (by intro _ z; cases z)
            generalize upd H l (.lst (rs'.reverse.map V.ref)) = H1 at O1 er1 hx1 ⊢
            obtain ⟨ra, rs2, xs2, rfl, er2, hx2, tr2⟩ : ∃ ra rs2 xs2, rs' = ra :: rs2 ∧ H1 ra = some (.lst xs2) ∧ SAt C H1 xs2 t2 ∧ TAt C H1 rs2 r2 := by
              cases O1.t with
              | cons e h t => exact ⟨_, _, _, rfl, e, h, t⟩
            have hl1 : H1 l = some (.lst (rs2.reverse.map V.ref ++ [.ref ra])) := by
              have q := O1.at_
              rw [List.reverse_cons, List.map_append] at q
              exact q
            have lt2 := O1.tn t2 (by simp)
            have lx2 := hx2.len
            refine ⟨.ref l, (by kernel_rfl), _, rfl, l, _, _, .ref ra, rfl, rfl, SqL.of hl1, atI_last _ _, .inl ⟨rfl, _, SqL.of er2⟩, ?_⟩
            refine ⟨.ref r, (by kernel_rfl), r, xs, told, rfl, er1, hx1, ht, O.wf told (by simp), (by omega), fun y H2 S2 hy => ?_⟩
            have O2 := O1.same S2
            refine ⟨ra, _, _, rfl, rfl, S2 _ _ er2, Nat.lt_of_le_of_lt (show xs2.length ≤ 2000000 by omega) (by decide), ?_⟩
            have O3 := O2.item (S2 _ _ er2) (hx2.same S2) (y := y) (i := .inr (readV told)) (.val hy .nil) (.inr ⟨_, rfl⟩)
            refine ks _ _ _ ?_ O3
            show takeW1 _ _ _ = _
            unfold takeW1
            rw [if_neg h1, if_pos h2]
            show (if told.isEmpty = true then none else _) = _
            rw [if_neg (by simp [ht])]
      · refine ite_no (decide_eq_false h2) ?_
        refine ⟨.ref r, (by kernel_rfl), r, _, rfl, .inl (SqL.of er), _, _, rfl, rfl, _, rfl, ?_⟩
        have rest_ : (!told.isEmpty && !mayP told) = false → takeW (told :: rest) w = if isNum w = true then some ((told ++ [.inr (.num (intOf w))]) :: rest) else if isBig w = true then some ((told ++ [if told.isEmpty = true then .inl w else .inr (.mk w [])]) :: rest) else none := fun q => by
          show takeW1 _ _ _ = _
          unfold takeW1
          rw [if_neg h1, if_neg h2, if_neg (by rw [q]; exact Bool.false_ne_true)]
        have kn' : (!told.isEmpty && !mayP told) = true → takeW (told :: rest) w = none := fun q => by
          show takeW1 _ _ _ = _
          unfold takeW1
          rw [if_neg h1, if_neg h2, if_pos q]
        cases told with
        | nil =>
          refine ite_no (decide_eq_false (by rw [lx]; simp)) ?_
          have eq := rest_ rfl
          refine ⟨.str w, (by kernel_rfl), w, rfl, hw, _, rfl, ?_⟩
          cases hnum : isNum w
          · refine ite_no rfl ?_
            refine ⟨.str w, (by kernel_rfl), w, rfl, hw, _, rfl, ?_⟩
            cases hbig : isBig w
            · refine ite_no rfl ?_
              exact kn (by rw [eq, hnum, hbig]; rfl) _ O.s
            · refine ite_yes rfl ?_
              refine ⟨.ref r, (by kernel_rfl), .inl ⟨rfl, _, SqL.of er⟩, .ref r, (by kernel_rfl), !xs.isEmpty, .inl ⟨xs, SqL.of er, rfl⟩, ?_⟩
              refine ite_no (by cases xs with | nil => rfl | cons a b => simp at lx) ?_
              refine ⟨.str w, (by kernel_rfl), r, _, _, rfl, rfl, er, Nat.lt_of_le_of_lt (show xs.length ≤ 2000000 by omega) (by decide), ?_⟩
              have O3 := O.item er hx (y := .str w) (i := .inl w) (.str .nil) (.inl rfl)
              exact ks _ _ _ (by rw [eq, hnum, hbig]; rfl) O3
          · refine ite_yes rfl ?_
            obtain ⟨i1, i2⟩ := int_ok hnum
            refine ⟨.ref r, (by kernel_rfl), .inl ⟨rfl, _, SqL.of er⟩, .str w, (by kernel_rfl), w, intOf w, rfl, i1, by omega, r, _, _, rfl, rfl, er, Nat.lt_of_le_of_lt (show xs.length ≤ 2000000 by omega) (by decide), ?_⟩
            have O3 := O.item er hx (y := .int (intOf w)) (i := .inr (.num (intOf w))) (.val (.num _) .nil) (.inr ⟨_, rfl⟩)
            exact ks _ _ _ (by rw [eq, hnum]; rfl) O3
        | cons ta tb =>
          refine ite_yes (decide_eq_true (by rw [lx]; simp only [List.length_cons]; omega)) ?_
          refine ⟨.ref r, (by kernel_rfl), r, xs, ta :: tb, rfl, er, hx, _, rfl, ?_⟩
          cases hm : mayP (ta :: tb)
          · refine ite_yes rfl ?_
            exact kn (kn' (by rw [hm]; rfl)) _ O.s
          · refine ite_no rfl ?_
            have eq := rest_ (by rw [hm]; rfl)
            refine ⟨.str w, (by kernel_rfl), w, rfl, hw, _, rfl, ?_⟩
            cases hnum : isNum w
            · refine ite_no rfl ?_
              refine ⟨.str w, (by kernel_rfl), w, rfl, hw, _, rfl, ?_⟩
              cases hbig : isBig w
              · refine ite_no rfl ?_
                exact kn (by rw [eq, hnum, hbig]; rfl) _ O.s
              · refine ite_yes rfl ?_
                refine ⟨.ref r, (by kernel_rfl), .inl ⟨rfl, _, SqL.of er⟩, .ref r, (by kernel_rfl), !xs.isEmpty, .inl ⟨xs, SqL.of er, rfl⟩, ?_⟩
                refine ite_yes (by cases xs with | nil => simp at lx | cons a b => rfl) ?_
                refine ⟨.str w, (by kernel_rfl), by show 0 ≤ sizeLine; decide, fun p np => ?_⟩
                have s1 := same_new (o := .tup []) np
                have hp1 := upd_same (H := H) (a := p) (o := .tup [])
                generalize upd H p (.tup []) = H1 at s1 hp1 ⊢
                intro nx dn n1 n2 n3
                have m1 : Same H1 (upd H1 dn (.own nx)) := same_new n2
                have m2 : ∀ o, Same H1 (upd (upd H1 dn (.own nx)) nx o) := fun o => same_put m1 n1
                refine ⟨nx, dn, p, w, [], rfl, upd_same, m2 _ _ _ hp1, rfl, ?_⟩
                rw [upd_upd]
                have S2 := s1.trans (m2 (.ins C dn (mkF w p)))
                have hv : VAt C (upd (upd H1 dn (.own nx)) nx (.ins C dn (mkF w p))) (.ref nx) (.mk w []) := .mk upd_same (m2 _ _ _ hp1) .nil
                generalize upd (upd H1 dn (.own nx)) nx (.ins C dn (mkF w p)) = H2 at S2 hv ⊢
                have O2 := O.same S2
                refine ⟨r, _, _, rfl, rfl, S2 _ _ er, Nat.lt_of_le_of_lt (show xs.length ≤ 2000000 by omega) (by decide), ?_⟩
                have O3 := O2.item (S2 _ _ er) (hx.same S2) (y := .ref nx) (i := .inr (.mk w [])) (.val hv .nil) (.inr ⟨_, rfl⟩)
                exact ks _ _ _ (by rw [eq, hnum, hbig]; rfl) O3
            · refine ite_yes rfl ?_
              obtain ⟨i1, i2⟩ := int_ok hnum
              refine ⟨.ref r, (by kernel_rfl), .inl ⟨rfl, _, SqL.of er⟩, .str w, (by kernel_rfl), w, intOf w, rfl, i1, by omega, r, _, _, rfl, rfl, er, Nat.lt_of_le_of_lt (show xs.length ≤ 2000000 by omega) (by decide), ?_⟩
              have O3 := O.item er hx (y := .int (intOf w)) (i := .inr (.num (intOf w))) (.val (.num _) .nil) (.inr ⟨_, rfl⟩)
              exact ks _ _ _ (by rw [eq, hnum]; rfl) O3
end
end Nm
namespace Nm
open PySem PySem.Spec PyProof.Rows L2
/-! ### value_from -/
theorem flush_len (k : Nat) (w : List Nat) : (flush k w).length ≤ 1 := by
  unfold flush
  split <;> simp
theorem scan_len : ∀ (l : List Nat) (k : Nat) (w : List Nat), (scan l k w).length ≤ 2 * l.length + 1
  | [], k, w => flush_len k w
  | c :: r, k, w => by
    have f := flush_len k w
    have h1 := scan_len r (k + 1) []
    have h2 := scan_len r (k + 1) (w ++ [c])
    unfold scan
    split
    · omega
    · split
      · simp only [List.length_append, List.length_cons]; omega
      · split
        · simp only [List.length_append, List.length_cons]; omega
        · simp only [List.length_cons]; omega
theorem flush_word {k : Nat} {w : List Nat} {p : List Nat × Nat} (h : p ∈ flush k w) : p.1.length ≤ w.length := by
  unfold flush at h
  split at h
  · exact nomatch h
  · obtain rfl := List.mem_singleton.mp h
    exact Nat.le_refl _
theorem scan_word : ∀ (l : List Nat) (k : Nat) (w : List Nat) (p : List Nat × Nat), p ∈ scan l k w → p.1.length ≤ l.length + w.length
  | [], k, w, p, h => by
    have := flush_word (show p ∈ flush k w from h)
    omega
  | c :: r, k, w, p, h => by
    unfold scan at h
    simp only [List.length_cons]
    split at h
    · have := flush_word h
      omega
    · split at h
      · rcases List.mem_append.mp h with h | h
        · have := flush_word h
          omega
        · have := scan_word r _ _ p h
          simp only [List.length_nil] at this
          omega
      · split at h
        · rcases List.mem_append.mp h with h | h
          · have := flush_word h
            omega
          · rcases List.mem_cons.mp h with rfl | h
            · simp only [List.length_cons, List.length_nil]; omega
            · have := scan_word r _ _ p h
              simp only [List.length_nil] at this
              omega
        · have := scan_word r _ _ p h
          simp only [List.length_append, List.length_cons, List.length_nil] at this
          omega
theorem pair_get {α β : Type} {F : α → β → Prop} : ∀ {xs : List α} {ys : List β} {i : Nat} {y : β}, Paired F xs ys → ys[i]? = some y → ∃ x, xs[i]? = some x ∧ F x y
  | _, _, _, _, .nil, e => by simp at e
  | _, _, 0, _, .cons r t, e => by
    simp at e
    subst e
    exact ⟨_, rfl, r⟩
  | _, _, i + 1, y, .cons r t, e => by
    obtain ⟨x, h1, h2⟩ := pair_get (i := i) (y := y) t (by simpa using e)
    exact ⟨x, by simpa using h1, h2⟩
theorem OpAt.first {C : Addr} {H : Hp} {q l : Addr} (nq : H q = none) (nl : upd H q (.lst []) l = none) : OpAt C H (upd (upd H q (.lst [])) l (.lst [.ref q])) l [q] [[]] 1 := by
  have ql : q ≠ l := fun z => by rw [← z, upd_same] at nl; cases nl
  have nlH : H l = none := by rw [upd_ne (Ne.symm ql)] at nl; exact nl
  refine ⟨upd_same, .cons (by rw [upd_ne ql, upd_same]) .nil .nil, by simp [Ne.symm ql], fun r m => ?_, (same_new nq).trans (same_new nl), fun t m => ?_, by simp, fun t m => ?_⟩
  · simp at m
    rcases m with rfl | rfl
    · exact nlH
    · exact nq
  · simp at m
    subst m
    exact fun i hi => nomatch hi
  · simp at m
    subst m
    exact Nat.zero_le _
end Nm
namespace Nm
open PySem PySem.Spec PyProof.Rows L2
theorem szL_mem : ∀ {ts : List Tr} {c : Tr}, c ∈ ts → c.sz ≤ Tr.szL ts
  | t :: r, c, h => by
    rcases List.mem_cons.mp h with rfl | h
    · simp only [Tr.szL]; omega
    · have := szL_mem h
      simp only [Tr.szL]; omega
/-! ### the law's own values: numbers, and pairs of a maker and a list -/
mutual
def Tr.dep : Tr → Nat
  | .num _ => 1
  | .mk _ ps => 1 + Tr.depL ps
def Tr.depL : List Tr → Nat
  | [] => 0
  | t :: r => max t.dep (Tr.depL r)
end
theorem depL_mem : ∀ {ts : List Tr} {c : Tr}, c ∈ ts → c.dep ≤ Tr.depL ts
  | t :: r, c, h => by
    rcases List.mem_cons.mp h with rfl | h
    · exact Nat.le_max_left _ _
    · exact Nat.le_trans (depL_mem h) (Nat.le_max_right _ _)
theorem Tr.dep_pos (t : Tr) : 0 < t.dep := by
  cases t with
  | num i => simp [Tr.dep]
  | mk m ps => simp [Tr.dep]; omega
mutual
inductive OAt (H : Hp) : V → Tr → Prop
  | num (i : Int) : OAt H (.int i) (.num i)
  | mk {T l : Addr} {m : Str} {xs : List V} {ts : List Tr} (eT : H T = some (.tup [.str m, .ref l])) (el : H l = some (.lst xs)) (h : OAts H xs ts) : OAt H (.ref T) (.mk m ts)
inductive OAts (H : Hp) : List V → List Tr → Prop
  | nil : OAts H [] []
  | cons {x : V} {t : Tr} {xs : List V} {ts : List Tr} (h : OAt H x t) (r : OAts H xs ts) : OAts H (x :: xs) (t :: ts)
end
mutual
theorem OAt.mono {H H' : Hp} (k1 : ∀ a xs, H a = some (.lst xs) → H' a = some (.lst xs)) (k2 : ∀ a xs, H a = some (.tup xs) → H' a = some (.tup xs)) : ∀ {t : Tr} {v : V}, OAt H v t → OAt H' v t
  | .num _, _, .num i => .num i
  | .mk _ _, _, .mk ea ep h => .mk (k2 _ _ ea) (k1 _ _ ep) (OAts.mono k1 k2 h)
theorem OAts.mono {H H' : Hp} (k1 : ∀ a xs, H a = some (.lst xs) → H' a = some (.lst xs)) (k2 : ∀ a xs, H a = some (.tup xs) → H' a = some (.tup xs)) : ∀ {ts : List Tr} {xs : List V}, OAts H xs ts → OAts H' xs ts
  | [], _, .nil => .nil
  | _ :: _, _, .cons h r => .cons (OAt.mono k1 k2 h) (OAts.mono k1 k2 r)
end
theorem OAt.same {H H' : Hp} {v : V} {t : Tr} (h : OAt H v t) (s : Same H H') : OAt H' v t := h.mono (fun a xs e => s _ _ e) fun a xs e => s _ _ e
theorem OAts.same {H H' : Hp} {xs : List V} {ts : List Tr} (h : OAts H xs ts) (s : Same H H') : OAts H' xs ts := h.mono (fun a xs e => s _ _ e) fun a xs e => s _ _ e
theorem OAts.len {H : Hp} : ∀ {xs : List V} {ts : List Tr}, OAts H xs ts → xs.length = ts.length
  | _, _, .nil => rfl
  | _, _, .cons _ r => by simp [OAts.len r]
theorem OAts.at {H : Hp} : ∀ {xs : List V} {ts : List Tr} {i : Nat} {x : V}, OAts H xs ts → xs[i]? = some x → ∃ t, ts[i]? = some t ∧ OAt H x t
  | _, _, _, _, .nil, e => by simp at e
  | _, _, 0, _, .cons h _, e => by
    simp at e
    subst e
    exact ⟨_, rfl, h⟩
  | _, _, i + 1, x, .cons _ r, e => by
    obtain ⟨t, h1, h2⟩ := OAts.at (i := i) (x := x) r (by simpa using e)
    exact ⟨t, by simpa using h1, h2⟩
theorem OAts.app {H : Hp} : ∀ {xs : List V} {ts : List Tr} {ys : List V} {us : List Tr}, OAts H xs ts → OAts H ys us → OAts H (xs ++ ys) (ts ++ us)
  | _, _, _, _, .nil, k => k
  | _, _, _, _, .cons h r, k => .cons h (OAts.app r k)
/-- G: what is new in H', seen from H -/
structure New (H G H' : Hp) : Prop where
  in_ : Same G H'
  ap : ∀ a, H a ≠ none → G a = none
theorem new_none {H H' : Hp} : New H (fun _ => Option.none) H' := ⟨(fun _ _ e => by cases e), fun _ _ => rfl⟩
def joinH (G G2 : Hp) : Hp := fun b => match G b with
  | some o => some o
  | none => G2 b
theorem join_l {G G2 : Hp} : Same G (joinH G G2) := fun b o e => by
  unfold joinH
  rw [e]
theorem join_none {G G2 : Hp} {b : Addr} (e : G b = none) : joinH G G2 b = G2 b := by
  unfold joinH
  rw [e]
theorem New.join_r {H G H1 G2 H2 : Hp} (n : New H G H1) (m : New H1 G2 H2) : Same G2 (joinH G G2) := fun b o e => by
  cases g : G b with
  | none => rw [join_none g]; exact e
  | some u =>
    have z := m.ap b (by rw [n.in_ _ _ g]; exact fun z => nomatch z)
    rw [z] at e
    cases e
theorem New.join {H G H1 G2 H2 : Hp} (n : New H G H1) (s : Same H H1) (m : New H1 G2 H2) (s2 : Same H1 H2) : New H (joinH G G2) H2 := by
  refine ⟨fun b o e => ?_, fun a ha => ?_⟩
  · cases g : G b with
    | none => rw [join_none g] at e; exact m.in_ _ _ e
    | some u =>
      rw [join_l _ _ g] at e
      rw [← Option.some.inj e]
      exact s2 _ _ (n.in_ _ _ g)
  · rw [join_none (n.ap a ha)]
    cases e : H a with
    | none => exact absurd e ha
    | some o => exact m.ap a (by rw [s _ _ e]; exact fun z => nomatch z)
/-- a list that is written, and not in it -/
theorem New.put {H G H1 : Hp} {D : Addr} {o : HO} (n : New H G H1) (d : G D = none) : New H G (upd H1 D o) := ⟨fun b u e => by rw [upd_ne (ne_of_none e d)]; exact n.in_ _ _ e, n.ap⟩
theorem New.same {H G H1 H2 : Hp} (n : New H G H1) (s : Same H1 H2) : New H G H2 := ⟨fun b u e => s _ _ (n.in_ _ _ e), n.ap⟩
/-- one more object -/
theorem New.add {H G H1 : Hp} {D : Addr} {o : HO} (n : New H G H1) (d : H D = none) (e : H1 D = some o) : New H (upd G D o) H1 := by
  refine ⟨fun b u q => ?_, fun a ha => ?_⟩
  · by_cases h : b = D
    · subst h
      rw [upd_same] at q
      rw [e, Option.some.inj q]
    · rw [upd_ne h] at q
      exact n.in_ _ _ q
  · rw [upd_ne (fun (z : a = D) => ha (z ▸ d))]
    exact n.ap a ha
def spOwn (C : Addr) (d : Nat) : Sp := fun vs H Q _ => ∃ (v : V) (t : Tr), vs = [v] ∧ VAt C H v t ∧ t.dep ≤ d ∧ t.sz ≤ 1000000 ∧ ∀ (y : V) (H' G : Hp), Same H H' → New H G H' → OAt G y t → Q y H'
def spMade (C : Addr) (d : Nat) : Sp := fun vs H Q _ => ∃ (v : V) (t : Tr), vs = [v] ∧ OAt H v t ∧ t.dep ≤ d ∧ t.sz ≤ 1000000 ∧ ∀ (y : V) (H' : Hp), Same H H' → VAt C H' y t → Q y H'
section
variable {P : Program} {w : World} {K : PySem.W.Frag} {mg : Str → Option Value} {base : Heap} {C fE : Addr}

abbrev sLown : Stmt := top 28
abbrev NLown : List Str := ["_law_value", "_law_part"]
abbrev PLown : List Str := ["_law_value"]
theorem scLown : FnScope NLown PLown (defScope sLown) := ⟨rfl, rfl, rfl, by decide +kernel, rfl, by decide +kernel, by decide +kernel⟩

theorem ok_own {f : Addr} {fd : FuncData} (F_law_own : Fun K "_law_own" "_law_own" sLown f fd) (T : VTxt mg) (MT : MadeTxt K mg C fE) (b_law_own : Binds K fd ["_law_value"] []) (g_law_own : mg "_law_own" = some (.ref f)) : ∀ d : Nat, FnOk P w K mg base CX0 (d + 1) f fd PLown (spOwn C d)
  | 0 => by
    refine F_law_own.ok scLown (fun vs H Q E h => ?_) (fun cdv A outer s H vs Q E hr h => ?_)
    · obtain ⟨v, t, rfl, _⟩ := h
      rfl
    · obtain ⟨v, t, rfl, _, hd, _⟩ := h
      exact absurd t.dep_pos (by omega)
  | d + 1 => by
    have G_law_own := ok_own F_law_own T MT b_law_own g_law_own d
    refine F_law_own.ok scLown (fun vs H Q E h => ?_) (fun cdv A outer s H vs Q E hr h => ?_)
    · obtain ⟨v, t, rfl, _⟩ := h
      rfl
    · obtain ⟨v, t, rfl, hv, hd, hz, k⟩ := h
      have hr1 := hr
      refine ⟨_, (pss_cons (ps_if (pt_val (pe_callB call_isi (by rfl) T.isinstance (by decide +kernel) (pa_cons (pv 0) (pa_cons (pe_bltn (v := .ty "int") (by rfl) T.int (by decide +kernel) rfl) pa_nil))))
      (pss_one (ps_ret (pv 0)))
      pss_nil)
      (pss_one (ps_ret (pe_tup (pa_cons (pe_fld (pv 0) rfl) (pa_cons (pe_lc (own := [("_law_part", 1)]) (g := (gName 1)) rfl scLown.nd (pi_tup (pe_fld (pv 0) rfl)) (blkOk_by (own := [("_law_part", 1)]) (N := NLown) (sc := defScope sLown) (by decide +kernel)) (fun _ _ _ _ _ => (pg_name (i := 1) scLown.nd rfl (Or.inl rfl))) (fun _ _ _ _ _ => pts_nil) (fun _ _ _ _ _ => (pe_call G_law_own hr1 rfl g_law_own F_law_own.kp b_law_own .nil pass0 (pa_cons (pv 1) pa_nil)))) pa_nil)))))), ?_⟩
      cases hv with
      | num i =>
        refine ⟨.int i, (by kernel_rfl), _, _, _, _, true, rfl, .ty "int", .base (.int i), kit_ty (by decide +kernel), _, rfl, ?_⟩
        refine ite_yes rfl ?_
        exact ⟨.int i, (by kernel_rfl), k _ H (fun _ => none) (fun _ _ e => e) new_none (.num i)⟩
      | @mk a dx p m xs ts ea ep hx =>
        refine ⟨.ref a, (by kernel_rfl), _, _, _, _, false, rfl, .ty "int", MT.ins ea, MT.kitN, _, rfl, ?_⟩
        refine ite_no rfl ?_
        refine ⟨.ref a, (by kernel_rfl), a, C, dx, _, _, rfl, ea, MT.cl, MT.nM, mkF_maker m p, ?_⟩
        refine ⟨.ref a, (by kernel_rfl), a, C, dx, _, _, rfl, ea, MT.cl, MT.nP, mkF_parts m p, p, rfl, ⟨_, SqT.of ep⟩, ?_⟩
        intro D nD
        have lx := hx.len
        have szt : (Tr.mk m ts).sz = 1 + Tr.szL ts := by simp [Tr.sz]
        have dpt : (Tr.mk m ts).dep = 1 + Tr.depL ts := by simp [Tr.dep]
        have lts := szL_len ts
        refine lc_tup (K := K) (a := p) (xs := xs) (fun i H' => ∃ (ys : List V) (G : Hp), H' D = some (.lst ys) ∧ OAts G ys (ts.take i) ∧ ys.length = i ∧ Same H H' ∧ New H G H' ∧ G D = none)
          ⟨[], fun _ => none, upd_same, .nil, rfl, same_new nD, new_none, rfl⟩ (fun i H' _ ⟨_, _, _, _, _, S, _, _⟩ => SqT.of (S _ _ ep)) ?_ ?_
        · rintro i x H1 hi ⟨ys, G, hD, hy, ly, S, N, gD⟩
          obtain ⟨u, hu, hxu⟩ := (hx.same S).at hi
          have mu : u ∈ ts := List.mem_of_getElem? hu
          have li := (List.getElem?_eq_some_iff.mp hi).1
          refine ⟨rfl, ?_⟩
          have d1 := depL_mem mu
          have z1 := szL_mem mu
          refine ⟨x, (by kernel_rfl), x, u, rfl, hxu, (by omega), (by omega), fun y H2 G2 S2 N2 hyu => ?_⟩
          have hD2 := S2 _ _ hD
          refine ⟨ys, hD2, Nat.lt_of_le_of_lt (show ys.length ≤ 1000000 by omega) (by decide), ?_⟩
          have g2D : G2 D = none := N2.ap D (by rw [hD]; exact fun z => nomatch z)
          refine ⟨ys ++ [y], joinH G G2, upd_same, ?_, by simp [ly], same_put (S.trans S2) nD, (N.join S N2 S2).put (by rw [join_none gD]; exact g2D), by rw [join_none gD]; exact g2D⟩
          have e1 : ts.take (i + 1) = ts.take i ++ [u] := by rw [List.take_add_one, hu]; rfl
          rw [e1]
          exact (hy.same join_l).app (.cons (hyu.same (N.join_r N2)) .nil)
        · rintro H1 ⟨ys, G, hD, hy, ly, S, N, gD⟩
          rw [lx, List.take_length] at hy
          refine ⟨by show 2 ≤ sizeLine; decide, fun T1 nT1 => ?_⟩
          have nT0 : H T1 = none := by
            cases e : H T1 with
            | none => rfl
            | some o => rw [S _ _ e] at nT1; cases nT1
          have s1 := same_new (o := .tup [.str m, .ref D]) nT1
          have DT : D ≠ T1 := fun z => by rw [z, nT1] at hD; cases hD
          have N1 := ((N.same s1).add nD (s1 _ _ hD)).add nT0 (upd_same (H := H1) (a := T1) (o := .tup [.str m, .ref D]))
          have gT : (upd G D (.lst ys)) T1 = none := by
            rw [upd_ne (Ne.symm DT)]
            cases e : G T1 with
            | none => rfl
            | some o => rw [N.in_ _ _ e] at nT1; cases nT1
          refine k _ _ _ (S.trans s1) N1 (.mk upd_same ?_ (hy.same fun b o e => ?_))
          · rw [upd_ne DT, upd_same]
          · rw [upd_ne (ne_of_none e (by rw [upd_ne (Ne.symm DT)] at gT; exact gT)), upd_ne (ne_of_none e gD)]
            exact e

end
end Nm
namespace Nm
open PySem PySem.Spec PyProof.Rows L2
abbrev sPen : Stmt := top 24
abbrev sDraw : Stmt := top 25
abbrev sPick : Stmt := top 26
/-! ### the pen: the script's ints, the place, the digits left, the count, the fold -/
structure Pen where
  l : Addr
  ns : List Int
  i : Int
  d : Int
  c : Int
  f : Int
def kCe : Key := .inr "cells"
def kAt : Key := .inr "at"
def kDi : Key := .inr "digits"
def kCo : Key := .inr "count"
def kFo : Key := .inr "fold"
theorem ce_at : ¬ kCe = kAt := by decide +kernel
theorem ce_di : ¬ kCe = kDi := by decide +kernel
theorem ce_co : ¬ kCe = kCo := by decide +kernel
theorem ce_fo : ¬ kCe = kFo := by decide +kernel
theorem at_di : ¬ kAt = kDi := by decide +kernel
theorem at_co : ¬ kAt = kCo := by decide +kernel
theorem at_fo : ¬ kAt = kFo := by decide +kernel
theorem di_co : ¬ kDi = kCo := by decide +kernel
theorem di_fo : ¬ kDi = kFo := by decide +kernel
theorem co_fo : ¬ kCo = kFo := by decide +kernel
def Pen.kvs (z : Pen) : List (Key × V) := [(kCe, .ref z.l), (kAt, .int z.i), (kDi, .int z.d), (kCo, .int z.c), (kFo, .int z.f)]
structure Pen.Ok (z : Pen) : Prop where
  i0 : 0 ≤ z.i
  i1 : z.i ≤ (z.ns.length : Int)
  d0 : 0 ≤ z.d
  c0 : 0 ≤ z.c
  f0 : 0 ≤ z.f
  f1 : z.f < 2147483587
theorem pen_ce (z : Pen) : valV z.kvs kCe = some (.ref z.l) := by unfold Pen.kvs; rw [valV_pos rfl]
theorem pen_at (z : Pen) : valV z.kvs kAt = some (.int z.i) := by unfold Pen.kvs; rw [valV_neg ce_at, valV_pos rfl]
theorem pen_di (z : Pen) : valV z.kvs kDi = some (.int z.d) := by unfold Pen.kvs; rw [valV_neg ce_di, valV_neg at_di, valV_pos rfl]
theorem pen_co (z : Pen) : valV z.kvs kCo = some (.int z.c) := by unfold Pen.kvs; rw [valV_neg ce_co, valV_neg at_co, valV_neg di_co, valV_pos rfl]
theorem pen_fo (z : Pen) : valV z.kvs kFo = some (.int z.f) := by unfold Pen.kvs; rw [valV_neg ce_fo, valV_neg at_fo, valV_neg di_fo, valV_neg co_fo, valV_pos rfl]
section
variable {κ : Type} [DecidableEq κ]
theorem putK_old {kvs : List (κ × V)} {k : κ} {u : V} (v : V) (h : valV kvs k = some u) : putK kvs k v = kvs.map fun kv => if kv.1 = k then (kv.1, v) else kv := by
  unfold putK
  rw [valV_any, h]
  rfl
end
theorem put_at (z : Pen) (v : Int) : putK z.kvs kAt (.int v) = ({ z with i := v } : Pen).kvs := by
  rw [putK_old _ (pen_at z)]
  unfold Pen.kvs
  simp only [List.map_cons, List.map_nil, if_neg ce_at, if_neg (Ne.symm at_di), if_neg (Ne.symm at_co), if_neg (Ne.symm at_fo), if_true]
theorem put_di (z : Pen) (v : Int) : putK z.kvs kDi (.int v) = ({ z with d := v } : Pen).kvs := by
  rw [putK_old _ (pen_di z)]
  unfold Pen.kvs
  simp only [List.map_cons, List.map_nil, if_neg ce_di, if_neg at_di, if_neg (Ne.symm di_co), if_neg (Ne.symm di_fo), if_true]
theorem put_co (z : Pen) (v : Int) : putK z.kvs kCo (.int v) = ({ z with c := v } : Pen).kvs := by
  rw [putK_old _ (pen_co z)]
  unfold Pen.kvs
  simp only [List.map_cons, List.map_nil, if_neg ce_co, if_neg at_co, if_neg di_co, if_neg (Ne.symm co_fo), if_true]
theorem put_fo (z : Pen) (v : Int) : putK z.kvs kFo (.int v) = ({ z with f := v } : Pen).kvs := by
  rw [putK_old _ (pen_fo z)]
  unfold Pen.kvs
  simp only [List.map_cons, List.map_nil, if_neg ce_fo, if_neg at_fo, if_neg di_fo, if_neg co_fo, if_true]
theorem dget {H : Hp} {a : Addr} {kvs : List (Key × V)} {k : Key} {v : V} (e : H a = some (.dK kvs)) (h : valV kvs k = some v) : DGet H a (kV k) (some v) := by
  rw [← h]
  exact DGet.k e
theorem dput {H : Hp} {a : Addr} {kvs kvs' : List (Key × V)} {k : Key} {v : V} (e : H a = some (.dK kvs)) (hl : kvs.length < sizeLine) (h : putK kvs k v = kvs') : DPut H a (kV k) v (upd H a (.dK kvs')) := by
  rw [← h]
  exact DPut.k e hl
theorem pen_len (z : Pen) : z.kvs.length < sizeLine := by
  show 5 < sizeLine
  decide
/-- a pen stands at p -/
structure PenAt (H : Hp) (p : Addr) (z : Pen) : Prop where
  at_ : H p = some (.dK z.kvs)
  cells : H z.l = some (.lst (z.ns.map V.int))
  ok : z.Ok
theorem PenAt.ne {H : Hp} {p : Addr} {z : Pen} (h : PenAt H p z) : z.l ≠ p := ne_of h.cells h.at_ (by intro q; cases q)
theorem PenAt.put {H : Hp} {p : Addr} {z z' : Pen} (h : PenAt H p z) (el : z'.l = z.l) (en : z'.ns = z.ns) (ok : z'.Ok) : PenAt (upd H p (.dK z'.kvs)) p z' :=
  ⟨upd_same, by rw [el, en, upd_ne h.ne]; exact h.cells, ok⟩
/-- a pen through a heap that keeps what was tracked -/
theorem PenAt.same {H H' : Hp} {p : Addr} {z : Pen} (h : PenAt H p z) (s : Same H H') : PenAt H' p z := ⟨s _ _ h.at_, s _ _ h.cells, h.ok⟩
/-- z' is z behind n draws -/
structure Pen.Go (n : Int) (z z' : Pen) : Prop where
  l : z'.l = z.l
  ns : z'.ns = z.ns
  c : z'.c = z.c + n
  ok : z'.Ok
theorem q_back {Q : V → Hp → Prop} {v : V} {H : Hp} {p : Addr} {zz : Pen} (e : H p = some (.dK zz.kvs)) (q : Q v (upd H p (.dK zz.kvs))) : Q v H := by
  have x : upd H p (.dK zz.kvs) = H := by
    funext b
    by_cases h : b = p
    · rw [h, upd_same, e]
    · rw [upd_ne h]
  rw [x] at q
  exact q
theorem atI_nat' {xs : List V} {i : Int} {v : V} (h0 : 0 ≤ i) (h : xs[i.toNat]? = some v) : atI xs i = some v := by
  obtain ⟨n, rfl⟩ := Int.eq_ofNat_of_zero_le h0
  exact atI_nat h

/-! ### the promises -/
def spPen (K : PySem.W.Frag) : Sp := fun vs H Q _ => ∃ (a : Addr) (ns : List Int), vs = [.ref a] ∧ SqL K H a (ns.map V.int) ∧ ns.length ≤ 63 ∧
  ∀ (p : Addr) (z : Pen) (H' : Hp), Same H H' → H p = none → z.c = 0 → PenAt H' p z → Q (.ref p) H'
def spDraw : Sp := fun vs H Q _ => ∃ (p : Addr) (z : Pen) (m : Int), vs = [.ref p, .int m] ∧ PenAt H p z ∧ 0 < m ∧ m < 1073741824 ∧ z.c < 1000000000000 ∧
  ∀ (r : Int) (z' : Pen), 0 ≤ r → r < m → Pen.Go 1 z z' → Q (.int r) (upd H p (.dK z'.kvs))
def spPick (K : PySem.W.Frag) : Sp := fun vs H Q _ => ∃ (p q : Addr) (z : Pen) (xs : List V), vs = [.ref p, .ref q] ∧ PenAt H p z ∧ H q = some (.lst xs) ∧ 0 < xs.length ∧ xs.length < 1073741824 ∧ z.c < 1000000000000 ∧
  ∀ (v : V) (z' : Pen), v ∈ xs → Pen.Go 1 z z' → Q v (upd H p (.dK z'.kvs))
structure PenTxt (mg : Str → Option Value) : Prop where
  int : mg "int" = none
  list : mg "list" = none
  len : mg "len" = none

section
variable {P : Program} {w : World} {K : PySem.W.Frag} {mg : Str → Option Value} {base : Heap}
theorem scPen : FnScope ["_law_script", "_law_fold", "_law_cell"] ["_law_script"] (defScope sPen) := ⟨rfl, rfl, rfl, by decide +kernel, rfl, by decide +kernel, by decide +kernel⟩
theorem int_of {ns : List Int} {i : Nat} {y : V} (hi : (ns.map V.int)[i]? = some y) : ∃ u, ns[i]? = some u ∧ y = V.int u := by
  rw [List.getElem?_map] at hi
  cases e : ns[i]? with
  | none =>
    rw [e] at hi
    cases hi
  | some u =>
    rw [e] at hi
    exact ⟨u, rfl, (Option.some.inj hi).symm⟩
theorem kV_ce : kV kCe = V.str "cells" := rfl
theorem ok_pen {f : Addr} {fd : FuncData} (F : Fun K "_law_pen" "_law_pen" sPen f fd) (T : PenTxt mg) : FnOk P w K mg base CX0 1 f fd ["_law_script"] (spPen K) := by
  refine F.ok scPen (fun vs H Q E h => ?_) (fun cdv A outer s H vs Q E hr h => ?_)
  · obtain ⟨a, ns, rfl, _⟩ := h
    rfl
  · obtain ⟨a, ns, rfl, hS, hlen, k⟩ := h
    have hu := hu_of hr
    refine ⟨_, pss_cons (ps_set (i := 1) scPen.nd rfl (Or.inl rfl) pe_int)
      (pss_cons (ps_for PassesOwn.never rfl (pi_list (pv 0)) (pg_name (i := 2) scPen.nd rfl (Or.inl rfl))
        (pss_one (ps_set (i := 1) scPen.nd rfl (Or.inl rfl) (pe_op op_mod (pe_callTy call_int1 (by rfl) T.int (by decide +kernel) (pa_cons (pe_op op_add (pe_op op_mul (pv 1) pe_int) (pv 2)) pa_nil)) pe_int))))
      (pss_one (ps_ret (pe_disp (pps_cons pe_str (pe_callTy call_list_of (by rfl) T.list (by decide +kernel) (pa_cons (pv 0) pa_nil)) (pps_cons pe_str pe_int (pps_cons pe_str pe_int (pps_cons pe_str pe_int (pps_cons pe_str (pv 1) pps_nil))))) (by rfl) (by rfl) (fun z => by cases z) (by decide))))), ?_⟩
    refine ⟨_, rfl, a, rfl, ⟨_, hS⟩, for_list (K := K) (a := a) (xs := ns.map V.int) (fun i σ H' => ∃ (g : Int) (v : Option V), σ = [some (.ref a), some (.int g), v] ∧ H' = H ∧ 0 ≤ g ∧ g < 1000000007)
      ⟨0, none, rfl, rfl, by decide, by decide⟩ (fun i σ H' _ ⟨_, _, _, e, _⟩ => by rw [e]; exact hS) ?_ ?_⟩
    · rintro i y σ H' hi ⟨g, v, rfl, rfl, g0, g1⟩
      obtain ⟨u, _, rfl⟩ := int_of hi
      refine ⟨_, rfl, _, _, rfl, rfl, .inl ⟨by omega, by omega⟩, _, rfl, _, _, rfl, rfl, .inl ⟨_, rfl, _, _, rfl, rfl, (by show (0 : Int) < 1000000007; decide), ?_⟩⟩
      exact ⟨_, _, rfl, rfl, Int.emod_nonneg _ (by decide), Int.emod_lt_of_pos _ (by decide)⟩
    · rintro σ H' ⟨g, v, rfl, rfl, g0, g1⟩
      intro p hp
      refine ⟨_, rfl, a, _, rfl, .inl ((Same.seq (H := H') (H' := upd H' p (.dK [])) (fun b o e => by rw [upd_ne (ne_of_none e hp)]; exact e)) hS), fun l hl => ?_⟩
      have lp : l ≠ p := fun q => by
        rw [q, upd_same] at hl
        cases hl
      have hl0 : H' l = none := by
        rw [upd_ne lp] at hl
        exact hl
      refine ⟨_, rfl, by rw [upd_ne lp.symm, upd_same], [(kCe, .ref l), (kAt, .int 0), (kDi, .int 0), (kCo, .int 0), (kFo, .int g)], rfl, (by show 5 ≤ 15; decide), ?_⟩
      let z : Pen := ⟨l, ns, 0, 0, 0, g⟩
      have em : mergeK [] [(kCe, V.ref l), (kAt, .int 0), (kDi, .int 0), (kCo, .int 0), (kFo, .int g)] = z.kvs := by
        simp [mergeK, putK, z, Pen.kvs, ce_at, ce_di, ce_co, ce_fo, at_di, at_co, at_fo, di_co, di_fo, co_fo]
      rw [em]
      refine k p z _ (fun b o e => ?_) hp rfl ⟨upd_same, ?_, ⟨Int.le_refl 0, by show (0 : Int) ≤ (ns.length : Int); omega, Int.le_refl 0, Int.le_refl 0, g0, by show g < 2147483587; omega⟩⟩
      · rw [upd_ne (ne_of_none e hp), upd_ne (ne_of_none e hl0), upd_ne (ne_of_none e hp)]
        exact e
      · show upd _ p _ l = _
        rw [upd_ne lp, upd_same]

theorem scDraw : FnScope ["_law_pen_here", "_law_many", "_law_cell", "_law_digit", "_law_mixed"] ["_law_pen_here", "_law_many"] (defScope sDraw) := ⟨rfl, rfl, rfl, by decide +kernel, rfl, by decide +kernel, by decide +kernel⟩
theorem fmod_in {x m : Int} (h : 0 < m) : 0 ≤ x.fmod m ∧ x.fmod m < m := ⟨by rw [Int.fmod_eq_emod_of_nonneg _ (Int.le_of_lt h)]; exact Int.emod_nonneg _ (Int.ne_of_gt h), Int.fmod_lt_of_pos x h⟩
theorem fdiv_nn {x m : Int} (h : 0 ≤ x) (hm : 0 < m) : 0 ≤ x.fdiv m := by
  rw [Int.fdiv_eq_ediv_of_nonneg _ (Int.le_of_lt hm)]
  exact Int.ediv_nonneg h (Int.le_of_lt hm)
theorem ok_draw {f : Addr} {fd : FuncData} (F : Fun K "_law_draw" "_law_draw" sDraw f fd) (T : PenTxt mg) : FnOk P w K mg base CX0 1 f fd ["_law_pen_here", "_law_many"] spDraw := by
  refine F.ok scDraw (fun vs H Q E h => ?_) (fun cdv A outer s H vs Q E hr h => ?_)
  · obtain ⟨p, z, m, rfl, _⟩ := h
    rfl
  · obtain ⟨p, z, m, rfl, Z, m0, m1, hc, k⟩ := h
    have hu := hu_of hr
    refine ⟨_, pss_cons (ps_dput hu (pv 0) pe_str (pe_op op_add (pe_dget hu (pv 0) pe_str (fun _ _ => rfl)) pe_int) rfl)
      (pss_cons (ps_if (PW.pt (pw_and (pt_cmpR op_eq (pe_dget hu (pv 0) pe_str (fun _ _ => rfl)) pe_int (nomark _)) (pw_and1 (pt_cmpR op_lt (pe_dget hu (pv 0) pe_str (fun _ _ => rfl)) (pe_callB call_len_seq (by rfl) T.len PySem.boot_len (pa_cons (pe_dget hu (pv 0) pe_str (fun _ _ => rfl)) pa_nil)) (nomark _)))))
        (pss_cons (ps_set (i := 2) scDraw.nd rfl (Or.inl rfl) (pe_ix ix_list (pe_dget hu (pv 0) pe_str (fun _ _ => rfl)) (pe_dget hu (pv 0) pe_str (fun _ _ => rfl)) (fun _ _ => rfl)))
        (pss_cons (ps_dput hu (pv 0) pe_str (pe_op op_add (pe_dget hu (pv 0) pe_str (fun _ _ => rfl)) pe_int) rfl)
        (pss_one (ps_if (pt_cmpR op_ge (pv 2) (pe_op op_pow pe_int pe_int) (nomark _))
          (pss_one (ps_dput hu (pv 0) pe_str (pe_op op_sub (pv 2) (pe_op op_pow pe_int pe_int)) rfl))
          (pss_one (ps_dput hu (pv 0) pe_str (pe_op op_mod (pe_callTy call_int1 (by rfl) T.int (by decide +kernel) (pa_cons (pe_op op_add (pe_op op_mul (pe_dget hu (pv 0) pe_str (fun _ _ => rfl)) pe_int) (pv 2)) pa_nil)) pe_int) rfl))))))
        pss_nil)
      (pss_cons (ps_if (pt_cmpR op_gt (pe_dget hu (pv 0) pe_str (fun _ _ => rfl)) pe_int (nomark _))
        (pss_cons (ps_set (i := 3) scDraw.nd rfl (Or.inl rfl) (pe_op op_modN (pe_callTy call_int1 (by rfl) T.int (by decide +kernel) (pa_cons (pe_dget hu (pv 0) pe_str (fun _ _ => rfl)) pa_nil)) (pv 1)))
        (pss_cons (ps_dput hu (pv 0) pe_str (pe_op op_fdivN (pe_dget hu (pv 0) pe_str (fun _ _ => rfl)) (pv 1)) rfl)
        (pss_one (ps_ret (pv 3)))))
        pss_nil)
      (pss_cons (ps_set (i := 4) scDraw.nd rfl (Or.inl rfl) (pe_op op_add (pe_op op_add (pe_dget hu (pv 0) pe_str (fun _ _ => rfl)) (pe_op op_mul (pe_dget hu (pv 0) pe_str (fun _ _ => rfl)) pe_int)) pe_int))
      (pss_one (ps_ret (pe_op op_modN (pe_op op_fdiv (pe_callTy call_int1 (by rfl) T.int (by decide +kernel) (pa_cons (pe_op op_mod (pe_op op_pow (pv 4) pe_int) pe_int) pa_nil)) pe_int) (pv 1))))))), ?_⟩
    -- count + 1
    refine ⟨_, rfl, p, _, rfl, dget Z.at_ (pen_co z), _, _, rfl, rfl, _, rfl, p, _, rfl, dput Z.at_ (pen_len z) (put_co z (z.c + 1)), ?_⟩
    have Z1 : PenAt (upd H p (.dK ({ z with c := z.c + 1 } : Pen).kvs)) p { z with c := z.c + 1 } := Z.put rfl rfl ⟨Z.ok.i0, Z.ok.i1, Z.ok.d0, by show (0 : Int) ≤ z.c + 1; have := Z.ok.c0; omega, Z.ok.f0, Z.ok.f1⟩
    have k1 : ∀ (r : Int) (z' : Pen), 0 ≤ r → r < m → Pen.Go 0 { z with c := z.c + 1 } z' → Q (.int r) (upd (upd H p (.dK ({ z with c := z.c + 1 } : Pen).kvs)) p (.dK z'.kvs)) := fun r z' r0 r1 g => by
      rw [upd_upd]
      exact k r z' r0 r1 ⟨g.l, g.ns, by have e : z'.c = (z.c + 1) + 0 := g.c; omega, g.ok⟩
    have hc1 : ({ z with c := z.c + 1 } : Pen).c ≤ 1000000000000 := by show z.c + 1 ≤ _; omega
    generalize ({ z with c := z.c + 1 } : Pen) = z1 at Z1 k1 hc1
    generalize upd H p (.dK z1.kvs) = H1 at Z1 k1
    have step : ∀ (Ha : Hp) (za zb : Pen), PenAt Ha p za → (∀ (r : Int) (z' : Pen), 0 ≤ r → r < m → Pen.Go 0 za z' → Q (.int r) (upd Ha p (.dK z'.kvs))) → za.c ≤ 1000000000000 →
        zb.l = za.l → zb.ns = za.ns → zb.c = za.c → zb.Ok →
        PenAt (upd Ha p (.dK zb.kvs)) p zb ∧ (∀ (r : Int) (z' : Pen), 0 ≤ r → r < m → Pen.Go 0 zb z' → Q (.int r) (upd (upd Ha p (.dK zb.kvs)) p (.dK z'.kvs))) ∧ zb.c ≤ 1000000000000 := fun Ha za zb Za ka ca el en ec ok =>
      ⟨Za.put el en ok, fun r z' r0 r1 g => by
        rw [upd_upd]
        exact ka r z' r0 r1 ⟨g.l.trans el, g.ns.trans en, by rw [g.c, ec], g.ok⟩, by rw [ec]; exact ca⟩
    -- if digits == 0 and at < len(cells)
    refine ⟨_, rfl, p, _, rfl, dget Z1.at_ (pen_di z1), rfl, _, rfl, ?_⟩
    refine ite2 (fun _ => ?_) (fun _ => ?_)
    · refine ⟨_, rfl, p, _, rfl, dget Z1.at_ (pen_at z1), _, rfl, p, _, rfl, dget Z1.at_ (pen_ce z1), z1.l, _, rfl, .inl (SqL.of Z1.cells), _, _, rfl, rfl, _, rfl, ?_⟩
      refine ite2 (fun lt => ?_) (fun _ => ?_)
      · have lt' : z1.i < (z1.ns.length : Int) := by
          have q := of_decide_eq_true lt
          rw [List.length_map] at q
          exact q
        have i0 := Z1.ok.i0
        have hn : z1.i.toNat < z1.ns.length := by omega
        refine ⟨_, rfl, p, _, rfl, dget Z1.at_ (pen_ce z1), _, rfl, p, _, rfl, dget Z1.at_ (pen_at z1), z1.l, _, _, V.int (z1.ns[z1.i.toNat]), rfl, rfl, SqL.of Z1.cells, atI_nat' i0 (by simp [hn]), ?_⟩
        generalize z1.ns[z1.i.toNat] = cell
        refine ⟨_, rfl, p, _, rfl, dget Z1.at_ (pen_at z1), _, _, rfl, rfl, _, rfl, p, _, rfl, dput Z1.at_ (pen_len z1) (put_at z1 (z1.i + 1)), ?_⟩
        obtain ⟨Z2, k2, hc2⟩ := step H1 z1 { z1 with i := z1.i + 1 } Z1 k1 hc1 rfl rfl rfl ⟨by show (0 : Int) ≤ z1.i + 1; omega, by show z1.i + 1 ≤ (z1.ns.length : Int); omega, Z1.ok.d0, Z1.ok.c0, Z1.ok.f0, Z1.ok.f1⟩
        generalize ({ z1 with i := z1.i + 1 } : Pen) = z2 at Z2 k2 hc2
        generalize upd H1 p (.dK z2.kvs) = H2 at Z2 k2
        refine ⟨_, rfl, _, _, rfl, rfl, ⟨by decide, by decide, by decide⟩, _, _, rfl, rfl, _, rfl, ?_⟩
        refine ite2 (fun ge => ?_) (fun _ => ?_)
        · have ge' := of_decide_eq_true ge
          refine ⟨_, rfl, _, _, rfl, rfl, ⟨by decide, by decide, by decide⟩, _, _, rfl, rfl, _, rfl, p, _, rfl, dput Z2.at_ (pen_len z2) (put_di z2 _), ?_⟩
          obtain ⟨Z3, k3, hc3⟩ := step H2 z2 { z2 with d := cell - 10 ^ (18 : Int).toNat } Z2 k2 hc2 rfl rfl rfl ⟨Z2.ok.i0, Z2.ok.i1, Int.sub_nonneg.mpr ge', Z2.ok.c0, Z2.ok.f0, Z2.ok.f1⟩
          generalize ({ z2 with d := cell - 10 ^ (18 : Int).toNat } : Pen) = z3 at Z3 k3 hc3
          generalize upd H2 p (.dK z3.kvs) = H3 at Z3 k3
          refine ⟨_, rfl, p, _, rfl, dget Z3.at_ (pen_di _), _, _, rfl, rfl, _, rfl, ?_⟩
          refine ite2 (fun dg => ?_) (fun _ => ?_)
          · have dg' := of_decide_eq_true dg
            refine ⟨_, rfl, p, _, rfl, dget Z3.at_ (pen_di _), .inl ⟨_, rfl, _, rfl, _, _, rfl, rfl, (by omega), ?_⟩⟩
            refine ⟨_, rfl, p, _, rfl, dget Z3.at_ (pen_di _), _, rfl, _, _, rfl, rfl, ⟨by omega, by omega⟩, _, rfl, p, _, rfl, dput Z3.at_ (pen_len _) (put_di _ _), ?_⟩
            refine ⟨_, rfl, ?_⟩
            exact k3 _ _ (fmod_in m0).1 (fmod_in m0).2 ⟨rfl, rfl, (Int.add_zero _).symm, ⟨Z3.ok.i0, Z3.ok.i1, fdiv_nn Z3.ok.d0 m0, Z3.ok.c0, Z3.ok.f0, Z3.ok.f1⟩⟩
          · have f0 := Z3.ok.f0
            have f1 := Z3.ok.f1
            have c0 := Z3.ok.c0
            refine ⟨_, rfl, p, _, rfl, dget Z3.at_ (pen_fo _), _, rfl, p, _, rfl, dget Z3.at_ (pen_co _), _, _, rfl, rfl, .inl ⟨by omega, by omega⟩, _, _, rfl, rfl, _, _, rfl, rfl, ?_⟩
            refine ⟨_, rfl, _, _, rfl, rfl, ⟨by decide, by decide, by omega⟩, _, _, rfl, rfl, (by show (0 : Int) < 2305843009213693951; decide), .inl ⟨_, rfl, _, _, rfl, rfl, ⟨by decide, by decide⟩, _, rfl, _, _, rfl, rfl, (by omega), ?_⟩⟩
            exact q_back (Q := Q) Z3.at_ (k3 _ _ (fmod_in m0).1 (fmod_in m0).2 ⟨rfl, rfl, (Int.add_zero _).symm, Z3.ok⟩)
        · have f0 := Z2.ok.f0
          have f1 := Z2.ok.f1
          refine ⟨_, rfl, p, _, rfl, dget Z2.at_ (pen_fo z2), _, _, rfl, rfl, .inl ⟨by omega, by omega⟩, _, rfl, _, _, rfl, rfl, .inl ⟨_, rfl, _, _, rfl, rfl, (by show (0 : Int) < 2147483587; decide), ?_⟩⟩
          refine ⟨_, rfl, p, _, rfl, dput Z2.at_ (pen_len z2) (put_fo z2 _), ?_⟩
          obtain ⟨Z3, k3, hc3⟩ := step H2 z2 { z2 with f := (z2.f * 69069 + cell) % 2147483587 } Z2 k2 hc2 rfl rfl rfl ⟨Z2.ok.i0, Z2.ok.i1, Z2.ok.d0, Z2.ok.c0, Int.emod_nonneg _ (by decide), Int.emod_lt_of_pos _ (by decide)⟩
          generalize ({ z2 with f := (z2.f * 69069 + cell) % 2147483587 } : Pen) = z3 at Z3 k3 hc3
          generalize upd H2 p (.dK z3.kvs) = H3 at Z3 k3
          refine ⟨_, rfl, p, _, rfl, dget Z3.at_ (pen_di _), _, _, rfl, rfl, _, rfl, ?_⟩
          refine ite2 (fun dg => ?_) (fun _ => ?_)
          · have dg' := of_decide_eq_true dg
            refine ⟨_, rfl, p, _, rfl, dget Z3.at_ (pen_di _), .inl ⟨_, rfl, _, rfl, _, _, rfl, rfl, (by omega), ?_⟩⟩
            refine ⟨_, rfl, p, _, rfl, dget Z3.at_ (pen_di _), _, rfl, _, _, rfl, rfl, ⟨by omega, by omega⟩, _, rfl, p, _, rfl, dput Z3.at_ (pen_len _) (put_di _ _), ?_⟩
            refine ⟨_, rfl, ?_⟩
            exact k3 _ _ (fmod_in m0).1 (fmod_in m0).2 ⟨rfl, rfl, (Int.add_zero _).symm, ⟨Z3.ok.i0, Z3.ok.i1, fdiv_nn Z3.ok.d0 m0, Z3.ok.c0, Z3.ok.f0, Z3.ok.f1⟩⟩
          · have f0 := Z3.ok.f0
            have f1 := Z3.ok.f1
            have c0 := Z3.ok.c0
            refine ⟨_, rfl, p, _, rfl, dget Z3.at_ (pen_fo _), _, rfl, p, _, rfl, dget Z3.at_ (pen_co _), _, _, rfl, rfl, .inl ⟨by omega, by omega⟩, _, _, rfl, rfl, _, _, rfl, rfl, ?_⟩
            refine ⟨_, rfl, _, _, rfl, rfl, ⟨by decide, by decide, by omega⟩, _, _, rfl, rfl, (by show (0 : Int) < 2305843009213693951; decide), .inl ⟨_, rfl, _, _, rfl, rfl, ⟨by decide, by decide⟩, _, rfl, _, _, rfl, rfl, (by omega), ?_⟩⟩
            exact q_back (Q := Q) Z3.at_ (k3 _ _ (fmod_in m0).1 (fmod_in m0).2 ⟨rfl, rfl, (Int.add_zero _).symm, Z3.ok⟩)
      · have Z3 := Z1
        have k3 := k1
        have hc3 := hc1
        refine ⟨_, rfl, p, _, rfl, dget Z3.at_ (pen_di _), _, _, rfl, rfl, _, rfl, ?_⟩
        refine ite2 (fun dg => ?_) (fun _ => ?_)
        · have dg' := of_decide_eq_true dg
          refine ⟨_, rfl, p, _, rfl, dget Z3.at_ (pen_di _), .inl ⟨_, rfl, _, rfl, _, _, rfl, rfl, (by omega), ?_⟩⟩
          refine ⟨_, rfl, p, _, rfl, dget Z3.at_ (pen_di _), _, rfl, _, _, rfl, rfl, ⟨by omega, by omega⟩, _, rfl, p, _, rfl, dput Z3.at_ (pen_len _) (put_di _ _), ?_⟩
          refine ⟨_, rfl, ?_⟩
          exact k3 _ _ (fmod_in m0).1 (fmod_in m0).2 ⟨rfl, rfl, (Int.add_zero _).symm, ⟨Z3.ok.i0, Z3.ok.i1, fdiv_nn Z3.ok.d0 m0, Z3.ok.c0, Z3.ok.f0, Z3.ok.f1⟩⟩
        · have f0 := Z3.ok.f0
          have f1 := Z3.ok.f1
          have c0 := Z3.ok.c0
          refine ⟨_, rfl, p, _, rfl, dget Z3.at_ (pen_fo _), _, rfl, p, _, rfl, dget Z3.at_ (pen_co _), _, _, rfl, rfl, .inl ⟨by omega, by omega⟩, _, _, rfl, rfl, _, _, rfl, rfl, ?_⟩
          refine ⟨_, rfl, _, _, rfl, rfl, ⟨by decide, by decide, by omega⟩, _, _, rfl, rfl, (by show (0 : Int) < 2305843009213693951; decide), .inl ⟨_, rfl, _, _, rfl, rfl, ⟨by decide, by decide⟩, _, rfl, _, _, rfl, rfl, (by omega), ?_⟩⟩
          exact q_back (Q := Q) Z3.at_ (k3 _ _ (fmod_in m0).1 (fmod_in m0).2 ⟨rfl, rfl, (Int.add_zero _).symm, Z3.ok⟩)
    · have Z3 := Z1
      have k3 := k1
      have hc3 := hc1
      refine ⟨_, rfl, p, _, rfl, dget Z3.at_ (pen_di _), _, _, rfl, rfl, _, rfl, ?_⟩
      refine ite2 (fun dg => ?_) (fun _ => ?_)
      · have dg' := of_decide_eq_true dg
        refine ⟨_, rfl, p, _, rfl, dget Z3.at_ (pen_di _), .inl ⟨_, rfl, _, rfl, _, _, rfl, rfl, (by omega), ?_⟩⟩
        refine ⟨_, rfl, p, _, rfl, dget Z3.at_ (pen_di _), _, rfl, _, _, rfl, rfl, ⟨by omega, by omega⟩, _, rfl, p, _, rfl, dput Z3.at_ (pen_len _) (put_di _ _), ?_⟩
        refine ⟨_, rfl, ?_⟩
        exact k3 _ _ (fmod_in m0).1 (fmod_in m0).2 ⟨rfl, rfl, (Int.add_zero _).symm, ⟨Z3.ok.i0, Z3.ok.i1, fdiv_nn Z3.ok.d0 m0, Z3.ok.c0, Z3.ok.f0, Z3.ok.f1⟩⟩
      · have f0 := Z3.ok.f0
        have f1 := Z3.ok.f1
        have c0 := Z3.ok.c0
        refine ⟨_, rfl, p, _, rfl, dget Z3.at_ (pen_fo _), _, rfl, p, _, rfl, dget Z3.at_ (pen_co _), _, _, rfl, rfl, .inl ⟨by omega, by omega⟩, _, _, rfl, rfl, _, _, rfl, rfl, ?_⟩
        refine ⟨_, rfl, _, _, rfl, rfl, ⟨by decide, by decide, by omega⟩, _, _, rfl, rfl, (by show (0 : Int) < 2305843009213693951; decide), .inl ⟨_, rfl, _, _, rfl, rfl, ⟨by decide, by decide⟩, _, rfl, _, _, rfl, rfl, (by omega), ?_⟩⟩
        exact q_back (Q := Q) Z3.at_ (k3 _ _ (fmod_in m0).1 (fmod_in m0).2 ⟨rfl, rfl, (Int.add_zero _).symm, Z3.ok⟩)

theorem scPick : FnScope ["_law_pen_here", "_law_some"] ["_law_pen_here", "_law_some"] (defScope sPick) := ⟨rfl, rfl, rfl, by decide +kernel, rfl, by decide +kernel, by decide +kernel⟩
theorem ok_pick {f fD : Addr} {fd fdD : FuncData} (F : Fun K "_law_pick" "_law_pick" sPick f fd) (T : PenTxt mg) (FD : Fun K "_law_draw" "_law_draw" sDraw fD fdD) (bD : Binds K fdD ["_law_pen_here", "_law_many"] []) (gD : mg "_law_draw" = some (.ref fD)) :
    FnOk P w K mg base CX0 2 f fd ["_law_pen_here", "_law_some"] (spPick K) := by
  have GD : FnOk P w K mg base CX0 1 fD fdD ["_law_pen_here", "_law_many"] spDraw := ok_draw FD T
  refine F.ok scPick (fun vs H Q E h => ?_) (fun cdv A outer s H vs Q E hr h => ?_)
  · obtain ⟨p, q, z, xs, rfl, _⟩ := h
    rfl
  · obtain ⟨p, q, z, xs, rfl, Z, hq, h0, h1, hc, k⟩ := h
    refine ⟨_, pss_one (ps_ret (pe_ix ix_list (pv 1) (pe_call GD hr rfl gD FD.kp bD .nil pass0 (pa_cons (pv 0) (pa_cons (pe_callB call_len_seq (by rfl) T.len PySem.boot_len (pa_cons (pv 1) pa_nil)) pa_nil))) (fun _ _ => rfl))), ?_⟩
    refine ⟨_, rfl, _, rfl, _, rfl, q, _, rfl, .inl (SqL.of hq), p, z, _, rfl, Z, by omega, by omega, hc, fun r z' r0 r1 g => ?_⟩
    have qp : q ≠ p := ne_of hq Z.at_ (by intro x; cases x)
    have hn : r.toNat < xs.length := by omega
    refine ⟨q, xs, r, xs[r.toNat], rfl, rfl, SqL.of (by rw [upd_ne qp]; exact hq), atI_nat' r0 (by simp [hn]), ?_⟩
    exact k _ z' (List.getElem_mem hn) g
end
end Nm
namespace Nm
open PySem PySem.Spec PyProof.Rows L2
/-! ### any value -/
def CPowW (i j : Int) : Prop := 0 ≤ j ∧ (Builtin.Int.intBits i : Int) * j ≤ 2 ^ 27
theorem op_powW {X : Cx} : OpR X (binaryOp .Pow) (rI CPowW fun i j => .int (i ^ j.toNat)) := opI fun _ _ _ _ _ _ _ hc q => pow_int hc.1 hc.2 q
/-- the pen's heap: all but the pen stays -/
structure PS (H0 : Hp) (p : Addr) (n : Int) (H : Hp) (z : Pen) : Prop where
  pen : PenAt H p z
  c : z.c ≤ n
  keep : ∀ b o, b ≠ p → H0 b = some o → H b = some o
  l : ∀ y, PenAt H0 p y → z.l = y.l
theorem PenAt.one {H : Hp} {p : Addr} {y z : Pen} (a : PenAt H p y) (b : PenAt H p z) : y.l = z.l := by
  have e := a.at_.symm.trans b.at_
  have e2 : y.kvs = z.kvs := by
    have q := Option.some.inj e
    exact HO.dK.inj q
  have e3 := (pen_ce y).symm.trans (e2 ▸ pen_ce z)
  exact V.ref.inj (Option.some.inj e3)
theorem PS.start {H : Hp} {p : Addr} {z : Pen} (h : PenAt H p z) : PS H p z.c H z := ⟨h, Int.le_refl _, fun _ _ _ e => e, fun _ k => h.one k⟩
theorem PS.same {H0 H H' : Hp} {p : Addr} {n : Int} {z : Pen} (h : PS H0 p n H z) (s : Same H H') : PS H0 p n H' z := ⟨h.pen.same s, h.c, fun b o nb e => s _ _ (h.keep b o nb e), h.l⟩
theorem PS.new {H0 H : Hp} {p q : Addr} {n : Int} {z : Pen} {o : HO} (h : PS H0 p n H z) (nq : H q = none) : PS H0 p n (upd H q o) z := h.same (same_new nq)
theorem PS.draw {H0 H : Hp} {p : Addr} {n : Int} {z z' : Pen} (h : PS H0 p n H z) (g : Pen.Go 1 z z') : PS H0 p (n + 1) (upd H p (.dK z'.kvs)) z' :=
  ⟨h.pen.put g.l g.ns g.ok, by have := g.c; have := h.c; omega, fun b o nb e => by rw [upd_ne nb]; exact h.keep b o nb e, fun y k => g.l.trans (h.l y k)⟩
theorem PS.le {H0 H : Hp} {p : Addr} {n m : Int} {z : Pen} (h : PS H0 p n H z) (k : n ≤ m) : PS H0 p m H z := ⟨h.pen, Int.le_trans h.c k, h.keep, h.l⟩
theorem PS.step {H0 H H' : Hp} {p : Addr} {n m : Int} {z z' : Pen} (h : PS H0 p n H z) (k : PS H p m H' z') : PS H0 p m H' z' := ⟨k.pen, k.c, fun b o nb e => k.keep b o nb (h.keep b o nb e), fun y q => (k.l z h.pen).trans (h.l y q)⟩
theorem PS.none {H0 H : Hp} {p a : Addr} {n : Int} {z : Pen} (h : PS H0 p n H z) (hp : H0 p ≠ none) (e : H a = Option.none) : H0 a = Option.none := by
  cases q : H0 a with
  | none => rfl
  | some o =>
    by_cases ap : a = p
    · rw [ap, h.pen.at_] at e
      cases e
    · rw [h.keep a o ap q] at e
      cases e
/-- what is new, through the pen's heap -/
theorem New.ps {H G H1 H2 : Hp} {p : Addr} {n : Int} {z : Pen} (m : New H G H1) (hp : H p ≠ none) (s : PS H1 p n H2 z) : New H G H2 := ⟨fun b o e => s.keep b o (fun q => by rw [q, m.ap p hp] at e; cases e) (m.in_ _ _ e), m.ap⟩
theorem New.dom {H0 H G H1 : Hp} (m : New H G H1) (d : ∀ a, H0 a ≠ none → H a ≠ none) : New H0 G H1 := ⟨m.in_, fun a ha => m.ap a (d a ha)⟩
theorem New.join2 {H G G2 H2 : Hp} (n : New H G H2) (m : New H G2 H2) : New H (joinH G G2) H2 := by
  refine ⟨fun b o e => ?_, fun a ha => by rw [join_none (n.ap a ha)]; exact m.ap a ha⟩
  cases g : G b with
  | none => rw [join_none g] at e; exact m.in_ _ _ e
  | some u =>
    rw [join_l _ _ g] at e
    rw [← Option.some.inj e]
    exact n.in_ _ _ g
mutual
def Tr.ok : Tr → Prop
  | .num _ => True
  | .mk m ps => PyData.strOk m = true ∧ Tr.okL ps
def Tr.okL : List Tr → Prop
  | [] => True
  | t :: r => t.ok ∧ Tr.okL r
end
theorem okL_app : ∀ {a b : List Tr}, Tr.okL a → Tr.okL b → Tr.okL (a ++ b)
  | [], _, _, h => h
  | _ :: _, _, h, k => ⟨h.1, okL_app h.2 k⟩
theorem depL_app : ∀ (a : List Tr) (b : List Tr) (n : Nat), Tr.depL a ≤ n → Tr.depL b ≤ n → Tr.depL (a ++ b) ≤ n
  | [], _, _, _, h => h
  | t :: r, b, n, h, k => by
    simp only [Tr.depL] at h
    have h1 : t.dep ≤ n := by omega
    have h2 : Tr.depL r ≤ n := by omega
    have ih := depL_app r b n h2 k
    show max t.dep (Tr.depL (r ++ b)) ≤ n
    omega
/-! ### the law's own values as data -/
mutual
def dOf : Tr → PyData
  | .num i => .int i
  | .mk m ts => .tuple [.str m, .list (dOfs ts)]
def dOfs : List Tr → List PyData
  | [] => []
  | t :: r => dOf t :: dOfs r
end
mutual
theorem dp_own {K : PySem.W.Frag} {H : Hp} : ∀ {t : Tr} {v : V}, OAt H v t → Dp K H v (dOf t)
  | .num _, _, .num i => .int i
  | .mk _ _, _, .mk eT el h => .tup (SqT.of eT) (.cons (.str _) (.cons (.lst (SqL.of el) (dps_own h)) .nil))
theorem dps_own {K : PySem.W.Frag} {H : Hp} : ∀ {ts : List Tr} {xs : List V}, OAts H xs ts → DpAll K H xs (dOfs ts)
  | [], _, .nil => .nil
  | _ :: _, _, .cons h r => .cons (dp_own h) (dps_own r)
end
mutual
theorem canLay_own : ∀ t : Tr, t.ok → (dOf t).canLay0 = true ∧ (dOf t).depth ≤ 2 * t.dep
  | .num _, _ => ⟨rfl, Nat.zero_le _⟩
  | .mk m ts, h => by
    obtain ⟨h1, h2⟩ := canLay_owns ts h.2
    have h0 := h.1
    refine ⟨by simp [dOf, PyData.canLay0, PyData.canLayAll0, h0, h1], ?_⟩
    simp only [dOf, PyData.depth, PyData.depthAll, Tr.dep]
    omega
theorem canLay_owns : ∀ ts : List Tr, Tr.okL ts → PyData.canLayAll0 (dOfs ts) = true ∧ PyData.depthAll (dOfs ts) ≤ 2 * Tr.depL ts
  | [], _ => ⟨rfl, Nat.zero_le _⟩
  | t :: r, h => by
    obtain ⟨h1, h2⟩ := canLay_own t h.1
    obtain ⟨h3, h4⟩ := canLay_owns r h.2
    refine ⟨by simp [dOfs, PyData.canLayAll0, h1, h3], ?_⟩
    simp only [dOfs, PyData.depthAll, Tr.depL]
    omega
end
theorem shaped_own {t : Tr} (h : t.ok) (d : t.dep ≤ 30) : SeqAt.shaped (dOf t) = true := by
  obtain ⟨h1, h2⟩ := canLay_own t h
  unfold SeqAt.shaped
  rw [h1, decide_eq_true (by omega)]
  rfl
mutual
theorem eqv_own : ∀ t u : Tr, PyData.eqv (dOf t) (dOf u) = decide (t = u)
  | .num i, .num j => by
    show (i == j) = _
    by_cases h : i = j
    · rw [h, decide_eq_true rfl]
      simp
    · rw [decide_eq_false (fun z => h (Tr.num.inj z))]
      simp [h]
  | .num _, .mk _ _ => by
    rw [decide_eq_false (by intro z; cases z)]
    simp [dOf, PyData.eqv]
  | .mk _ _, .num _ => by
    rw [decide_eq_false (by intro z; cases z)]
    simp [dOf, PyData.eqv]
  | .mk m ts, .mk m' us => by
    have ih := eqvs_own ts us
    by_cases h : m = m'
    · by_cases h2 : ts = us
      · rw [decide_eq_true (by rw [h, h2])]
        rw [decide_eq_true h2] at ih
        simp [dOf, PyData.eqv, PyData.eqvAll, h, ih]
      · rw [decide_eq_false (fun z => h2 (Tr.mk.inj z).2)]
        rw [decide_eq_false h2] at ih
        simp [dOf, PyData.eqv, PyData.eqvAll, ih]
    · rw [decide_eq_false (fun z => h (Tr.mk.inj z).1)]
      simp [dOf, PyData.eqv, PyData.eqvAll, h]
theorem eqvs_own : ∀ ts us : List Tr, PyData.eqvAll (dOfs ts) (dOfs us) = decide (ts = us)
  | [], [] => by simp [dOfs, PyData.eqvAll]
  | [], _ :: _ => by simp [dOfs, PyData.eqvAll]
  | _ :: _, [] => by simp [dOfs, PyData.eqvAll]
  | t :: r, u :: s => by
    have h1 := eqv_own t u
    have h2 := eqvs_own r s
    simp only [dOfs, PyData.eqvAll, h1, h2]
    by_cases e1 : t = u
    · by_cases e2 : r = s
      · simp [e1, e2]
      · simp [e1, e2]
    · simp [e1]
end
theorem PS.v {H0 H : Hp} {p C : Addr} {n : Int} {z y : Pen} {v : V} {t : Tr} (s : PS H0 p n H z) (hp : PenAt H0 p y) (h : VAt C H0 v t) : VAt C H v t :=
  h.mono (fun a dx fs q => s.keep _ _ (ne_of q hp.at_ (by intro z; cases z)) q) fun a xs q => s.keep _ _ (ne_of q hp.at_ (by intro z; cases z)) q
theorem PS.o {H0 H : Hp} {p : Addr} {n : Int} {z y : Pen} {v : V} {t : Tr} (s : PS H0 p n H z) (hp : PenAt H0 p y) (h : OAt H0 v t) : OAt H v t :=
  h.mono (fun a xs q => s.keep _ _ (ne_of q hp.at_ (by intro z; cases z)) q) fun a xs q => s.keep _ _ (ne_of q hp.at_ (by intro z; cases z)) q

mutual
theorem good_ok : ∀ t : Tr, t.good → t.ok
  | .num _, _ => trivial
  | .mk m ps, g => by
    unfold Tr.good at g
    refine ⟨?_, good_okL ps g.2⟩
    have h := (big_split g.1).2.2.2
    have lt : ∀ c ∈ codes sALL, c < 0x110000 := by
      have h : (codes sALL).all (fun c => decide (c < 0x110000)) = true := by decide +kernel
      intro c hc
      exact of_decide_eq_true (List.all_eq_true.mp h c hc)
    unfold PyData.strOk
    rw [← Array.all_toList, List.all_eq_true]
    intro c hc
    unfold allIn at h
    exact decide_eq_true (lt c (of_decide_eq_true (List.all_eq_true.mp h c hc)))
theorem good_okL : ∀ ps : List Tr, Tr.goodL ps → Tr.okL ps
  | [], _ => trivial
  | t :: r, g => by
    unfold Tr.goodL at g
    exact ⟨good_ok t g.1, good_okL r g.2⟩
end
end Nm
namespace Nm
open PySem PySem.Spec PyProof.Rows L2
def sgK : List (Key × V) := [(.inr "big", .str sBIG), (.inr "small", .str sSMA), (.inr "all", .str sALL)]
theorem sg_big : valV sgK (.inr "big") = some (.str sBIG) := by decide +kernel
theorem sg_small : valV sgK (.inr "small") = some (.str sSMA) := by decide +kernel
theorem sg_all : valV sgK (.inr "all") = some (.str sALL) := by decide +kernel
theorem sg_merge : mergeK [] [((.inr "big" : Key), V.str sBIG), (.inr "small", .str sSMA), (.inr "all", .str (sBIG ++ sSMA ++ "0123456789_"))] = sgK := by decide +kernel
def spSigns : Sp := fun vs H Q _ => vs = [] ∧ ∀ (d : Addr) (H' : Hp), Same H H' → H' d = some (.dK sgK) → Q (.ref d) H'
section
variable {P : Program} {w : World} {K : PySem.W.Frag} {mg : Str → Option Value} {base : Heap} {C fE : Addr}
abbrev sLsigns : Stmt := top 31
abbrev NLsigns : List Str := ["_law_big", "_law_small"]
abbrev PLsigns : List Str := []
theorem scLsigns : FnScope NLsigns PLsigns (defScope sLsigns) := ⟨rfl, rfl, rfl, by decide +kernel, rfl, by decide +kernel, by decide +kernel⟩

theorem ok_signs {f : Addr} {fd : FuncData} (F : Fun K "_law_signs" "_law_signs" sLsigns f fd) : FnOk P w K mg base CX0 1 f fd PLsigns spSigns := by
  refine F.ok scLsigns (fun vs H Q E h => ?_) (fun cdv A outer s H vs Q E hr h => ?_)
  · obtain ⟨rfl, _⟩ := h
    rfl
  · obtain ⟨rfl, k⟩ := h
    refine ⟨_, (pss_cons (ps_asg (pe_tup (pa_cons pe_str (pa_cons pe_str pa_nil))) (pg_tup (by rfl) (pgs_cons (pg_name (i := 0) scLsigns.nd rfl (Or.inl rfl)) (pgs_cons (pg_name (i := 1) scLsigns.nd rfl (Or.inl rfl)) pgs_nil))))
      (pss_one (ps_ret (pe_disp (pps_cons pe_str (pv 0) (pps_cons pe_str (pv 1) (pps_cons pe_str (pe_op op_add_str (pe_op op_add_str (pv 0) (pv 1)) pe_str) pps_nil))) (by rfl) (by rfl) (fun z => by cases z) (by decide))))), ?_⟩
    refine ⟨by show 2 ≤ sizeLine; decide, fun t0 n0 => ?_⟩
    have ht := upd_same (H := H) (a := t0) (o := .tup [.str sBIG, .str sSMA])
    have s0 := same_new (o := .tup [.str sBIG, .str sSMA]) n0
    refine ⟨t0, _, rfl, SqT.of ht, rfl, _, _, rfl, _, _, rfl, rfl, ?_⟩
    intro p hp
    refine ⟨.str sBIG, (by kernel_rfl), .str sSMA, (by kernel_rfl), .str sBIG, (by kernel_rfl), .str sSMA, (by kernel_rfl), _, _, rfl, rfl, (by decide +kernel), _, _, rfl, rfl, (by decide +kernel), upd_same, [(.inr "big", .str sBIG), (.inr "small", .str sSMA), (.inr "all", .str (sBIG ++ sSMA ++ "0123456789_"))], rfl, (by show 3 ≤ 15; decide), ?_⟩
    rw [sg_merge]
    refine k p _ (fun b o e => ?_) upd_same
    have e' := s0 b o e
    rw [upd_ne (ne_of_none e' hp), upd_ne (ne_of_none e' hp)]
    exact e'

end
end Nm
namespace Nm
open PySem PySem.Spec PyProof.Rows L2
/-! ### the law's own text of a value -/
open TL (joinL tl_join join_eq tl)
theorem joinL_wCL : ∀ (ts : List Tr) (p : List Nat), joinL [32] (p :: ts.map pC) = p ++ wCL ts
  | [], p => by
    show p = p ++ wCL []
    simp [wCL]
  | t :: r, p => by
    show p ++ ([32] ++ joinL [32] (pC t :: r.map pC)) = _
    rw [joinL_wCL r (pC t), wCL_cons]
    simp
theorem codes_joined (m : Str) (ts : List Tr) (ys : List Str) (h : ys.map codes = ts.map pC) : codes (Txt.join " " (m :: ys)) = codes m ++ wCL ts := by
  rw [join_eq]
  show tl (Str.join " " (m :: ys)) = _
  rw [tl_join, show tl (" " : Str) = [32] from by decide +kernel, List.map_cons]
  rw [show ys.map tl = ts.map pC from h]
  exact joinL_wCL ts (codes m)
theorem len_joined : ∀ (ts : List Tr) (ys : List Str), ys.map codes = ts.map pC → (ys.map (·.length)).sum + ys.length = (wCL ts).length
  | [], [], _ => by simp [wCL]
  | [], _ :: _, h => by simp at h
  | _ :: _, [], h => by simp at h
  | t :: r, y :: ys, h => by
    simp only [List.map_cons, List.cons.injEq] at h
    have ih := len_joined r ys h.2
    have e := len_codes y
    rw [h.1] at e
    rw [wCL_cons]
    simp only [List.map_cons, List.sum_cons, List.length_cons, List.length_append]
    omega
theorem eqv_nil (ts : List Tr) : PyData.eqv (.list (dOfs ts)) (.list []) = ts.isEmpty := by
  cases ts <;> simp [dOfs, PyData.eqv, PyData.eqvAll]
theorem shaped_owns {ts : List Tr} (h : Tr.okL ts) (d : Tr.depL ts ≤ 30) : SeqAt.shaped (.list (dOfs ts)) = true := by
  obtain ⟨h1, h2⟩ := canLay_owns ts h
  unfold SeqAt.shaped
  have h3 : (PyData.list (dOfs ts)).canLay0 = true := by simp [PyData.canLay0, h1]
  have h4 : (PyData.list (dOfs ts)).depth ≤ 64 := by simp only [PyData.depth]; omega
  rw [h3, decide_eq_true h4]
  rfl
theorem good_parts {m : Str} {ts : List Tr} (g : (Tr.mk m ts).good) : isBig m = true ∧ Tr.goodL ts := by
  unfold Tr.good at g
  exact g
def spLText (d : Nat) : Sp := fun vs H Q _ => ∃ (v : V) (t : Tr) (b : Bool), vs = [v, .bl b] ∧ OAt H v t ∧ t.dep ≤ d ∧ d ≤ 20 ∧ t.sz ≤ 2000 ∧ t.good ∧ ∀ (H' : Hp) (s : Str), Same H H' → codes s = (if b then wC t else pC t) → Q (.str s) H'
section
variable {P : Program} {w : World} {K : PySem.W.Frag} {mg : Str → Option Value} {base : Heap} {C fE : Addr}

abbrev sLvaluetext : Stmt := top 27
abbrev NLvaluetext : List Str := ["_law_value", "_law_is_outer", "_law_text", "_law_part"]
abbrev PLvaluetext : List Str := ["_law_value", "_law_is_outer"]
theorem scLvaluetext : FnScope NLvaluetext PLvaluetext (defScope sLvaluetext) := ⟨rfl, rfl, rfl, by decide +kernel, rfl, by decide +kernel, by decide +kernel⟩

theorem ok_ltext {f : Addr} {fd : FuncData} (F_law_value_text : Fun K "_law_value_text" "_law_value_text" sLvaluetext f fd) (T : VTxt mg) (b_law_value_text : Binds K fd ["_law_value", "_law_is_outer"] []) (g_law_value_text : mg "_law_value_text" = some (.ref f)) : ∀ d : Nat, FnOk P w K mg base CX0 (d + 1) f fd PLvaluetext (spLText d)
  | 0 => by
    refine F_law_value_text.ok scLvaluetext (fun vs H Q E h => ?_) (fun cdv A outer s H vs Q E hr h => ?_)
    · obtain ⟨v, t, b, rfl, _⟩ := h
      rfl
    · obtain ⟨v, t, b, rfl, _, hd, _⟩ := h
      exact absurd t.dep_pos (by omega)
  | d + 1 => by
    have G_law_value_text := ok_ltext F_law_value_text T b_law_value_text g_law_value_text d
    refine F_law_value_text.ok scLvaluetext (fun vs H Q E h => ?_) (fun cdv A outer s H vs Q E hr h => ?_)
    · obtain ⟨v, t, b, rfl, _⟩ := h
      rfl
    · obtain ⟨v, t, b, rfl, hv, hd, h20, hz, hg, k⟩ := h
      have hr1 := hr
      refine ⟨_, (pss_cons (ps_if (pt_val (pe_callB call_isi (by rfl) T.isinstance (by decide +kernel) (pa_cons (pv 0) (pa_cons (pe_bltn (v := .ty "int") (by rfl) T.int (by decide +kernel) rfl) pa_nil))))
      (pss_one (ps_ret (pe_callTy call_str_int (by rfl) T.str (by decide +kernel) (pa_cons (pv 0) pa_nil))))
      pss_nil)
      (pss_cons (ps_set (i := 2) scLvaluetext.nd rfl (Or.inl rfl) (pe_join pe_str (pe_op op_cat (pe_lst (pa_cons (pe_ix ix_tup (pv 0) pe_int (fun _ _ => rfl)) pa_nil)) (pe_lc (own := [("_law_part", 3)]) (g := (gName 3)) rfl scLvaluetext.nd (pi_list (pe_ix ix_tup (pv 0) pe_int (fun _ _ => rfl))) (blkOk_by (own := [("_law_part", 3)]) (N := NLvaluetext) (sc := defScope sLvaluetext) (by decide +kernel)) (fun _ _ _ _ _ => (pg_name (i := 3) scLvaluetext.nd rfl (Or.inl rfl))) (fun _ _ _ _ _ => pts_nil) (fun _ _ _ _ _ => (pe_call G_law_value_text hr1 rfl g_law_value_text F_law_value_text.kp b_law_value_text .nil pass0 (pa_cons (pv 3) (pa_cons pe_bl pa_nil))))))))
      (pss_one (ps_ret (pe_ifExp (PW.pt (pw_or (pt_val (pv 1)) (pw_or1 (pt_cmpR (op_eqD hr.units) (pe_ix ix_tup (pv 0) pe_int (fun _ _ => rfl)) (pe_lst pa_nil) (nomark _))))) (pv 2) (pe_op op_add_str (pe_op op_add_str pe_str (pv 2)) pe_str)))))), ?_⟩
      have lent := len_wC t hg
      cases hv with
      | num i =>
        refine ⟨.int i, (by kernel_rfl), _, _, _, _, true, rfl, .ty "int", .base (.int i), kit_ty (by decide +kernel), _, rfl, ?_⟩
        refine ite_yes rfl ?_
        have g1 := hg
        unfold Tr.good at g1
        refine ⟨.int i, (by kernel_rfl), i, rfl, num_log g1, k H _ (fun _ _ e => e) ?_⟩
        have e1 : wC (.num i) = numC i := by unfold wC; rfl
        have e2 : pC (.num i) = numC i := by unfold pC; rw [if_pos (by rfl), e1]
        rw [e1, e2]
        cases b <;> rfl
      | @mk Tp l m xs ts eT el hx =>
        obtain ⟨gm, gts⟩ := good_parts hg
        refine ⟨.ref Tp, (by kernel_rfl), _, _, _, _, false, rfl, .ty "int", .base (.tup eT), kit_ty (by decide +kernel), _, rfl, ?_⟩
        refine ite_no rfl ?_
        have szt : (Tr.mk m ts).sz = 1 + Tr.szL ts := by simp [Tr.sz]
        have dpt : (Tr.mk m ts).dep = 1 + Tr.depL ts := by simp [Tr.dep]
        have lts := szL_len ts
        have lx := hx.len
        have ewt : wC (Tr.mk m ts) = codes m ++ wCL ts := by rw [wC]
        refine ⟨⟨_, rfl⟩, ?_⟩
        refine ⟨.ref Tp, (by kernel_rfl), Tp, _, 0, .str m, rfl, rfl, SqT.of eT, rfl, by show 1 ≤ sizeLine; decide, fun q nq => ?_⟩
        have s1 := same_new (o := .lst [.str m]) nq
        have e1 := upd_same (H := H) (a := q) (o := .lst [.str m])
        generalize upd H q (.lst [.str m]) = H1 at s1 e1 ⊢
        refine ⟨.ref Tp, (by kernel_rfl), Tp, _, 1, .ref l, rfl, rfl, SqT.of (s1 _ _ eT), rfl, l, rfl, ⟨_, SqL.of (s1 _ _ el)⟩, ?_⟩
        intro D nD
        refine lc_list (K := K) (a := l) (xs := xs) (fun i H' => ∃ ys : List Str, H' D = some (.lst (ys.map V.str)) ∧ ys.map codes = (ts.take i).map pC ∧ ys.length = i ∧ Same H1 H') ⟨[], upd_same, rfl, rfl, same_new nD⟩ (fun i H' _ ⟨_, _, _, _, S⟩ => SqL.of (S _ _ (s1 _ _ el))) ?_ ?_
        · rintro i x H2 hi ⟨ys, hD, hy, ly, S⟩
          obtain ⟨u, hu, hxu⟩ := ((hx.same s1).same S).at hi
          have mu : u ∈ ts := List.mem_of_getElem? hu
          have li := (List.getElem?_eq_some_iff.mp hi).1
          refine ⟨rfl, ?_⟩
          have d1 := depL_mem mu
          have z1 := szL_mem mu
          refine ⟨x, (by kernel_rfl), x, u, false, rfl, hxu, (by omega), (by omega), (by omega), goodL_mem gts mu, fun H3 s S3 hs => ?_⟩
          have hD3 := S3 _ _ hD
          refine ⟨_, hD3, Nat.lt_of_le_of_lt (show (ys.map V.str).length ≤ 1000000 by rw [List.length_map]; omega) (by decide), ?_⟩
          have e1 : ts.take (i + 1) = ts.take i ++ [u] := by rw [List.take_add_one, hu]; rfl
          refine ⟨ys ++ [s], by rw [upd_same]; simp, ?_, by simp [ly], same_put (S.trans S3) nD⟩
          rw [e1, List.map_append, List.map_append, hy]
          show _ ++ [codes s] = _ ++ [pC u]
          rw [hs]
          rfl
        · rintro H2 ⟨ys, hD, hy, ly, S⟩
          rw [lx, List.take_length] at hy
          have lj := len_joined ts ys hy
          have cj := codes_joined m ts ys hy
          rw [ewt, List.length_append] at lent
          have lm := len_codes m
          refine ⟨q, D, _, _, rfl, rfl, S _ _ e1, hD, sz_of (by simp only [List.length_cons, List.length_nil, List.length_map]; omega), fun r nr => ?_⟩
          have s3 := same_new (o := .lst ([.str m] ++ ys.map V.str)) nr
          have S3 := (s1.trans S).trans s3
          refine ⟨" ", r, m :: ys, rfl, rfl, .inl (SqL.of upd_same), ?_, ?_⟩
          · simp only [List.map_cons, List.sum_cons, List.length_cons]
            rw [show (" " : Str).length = 1 from rfl]
            omega
          generalize Txt.join " " (m :: ys) = jt at cj ⊢
          generalize upd H2 r (.lst ([.str m] ++ ys.map V.str)) = H3 at s3 S3 ⊢
          have fin : ∀ H' s, Same H3 H' → codes s = (if b then wC (Tr.mk m ts) else pC (Tr.mk m ts)) → Q (.str s) H' := fun H' s S' hs => k H' s (S3.trans S') hs
          have ljt : jt.length ≤ 1000000 := by rw [len_codes, cj, List.length_append]; omega
          have l1 : (("(" : Str) ++ jt).length = 1 + jt.length := by
            show (("(" : Str).cps ++ jt.cps).size = _
            rw [Array.size_append]
            rfl
          have paren : ts.isEmpty = false → codes ((("(" : Str) ++ jt) ++ ")") = pC (Tr.mk m ts) := fun he => by
            show ((("(" : Str).cps ++ jt.cps) ++ (")" : Str).cps).toList = pC (Tr.mk m ts)
            rw [Array.toList_append, Array.toList_append, show jt.cps.toList = codes jt from rfl, cj]
            unfold pC
            rw [if_neg (by show ¬ ts.isEmpty = true; rw [he]; exact Bool.false_ne_true), ewt]
            rfl
          refine ⟨.bl b, (by kernel_rfl), _, rfl, ?_⟩
          cases b with
          | true =>
            refine ite_yes rfl ?_
            exact ⟨.str jt, (by kernel_rfl), fin _ _ (fun _ _ e => e) (by rw [cj]; exact ewt.symm)⟩
          | false =>
            refine ite_no rfl ?_
            have q3 := S3 _ _ eT
            refine ⟨.ref Tp, (by kernel_rfl), Tp, _, 1, .ref l, rfl, rfl, SqT.of q3, rfl, by show 0 ≤ sizeLine; decide, fun e ne => ?_⟩
            have s4 := same_new (o := .lst []) ne
            have S4 := S3.trans s4
            refine ⟨.list (dOfs ts), .list [], .lst (SqL.of (S4 _ _ el)) (dps_own (hx.same S4)), .lst (SqL.of upd_same) .nil, shaped_owns (good_okL ts gts) (by omega), by decide +kernel, _, rfl, ?_⟩
            rw [eqv_nil]
            cases he : ts.isEmpty with
            | true =>
              refine ite_yes rfl ?_
              refine ⟨.str jt, (by kernel_rfl), fin _ _ s4 ?_⟩
              rw [cj, ← ewt]
              show _ = pC (Tr.mk m ts)
              unfold pC
              rw [if_pos (show (Tr.mk m ts).parts.isEmpty = true from he)]
            | false =>
              refine ite_no rfl ?_
              refine ⟨.str jt, (by kernel_rfl), _, _, rfl, rfl, sz_of (by rw [show (Str.ofString "(").length = 1 from rfl]; omega), _, _, rfl, rfl, sz_of (by rw [l1, show (Str.ofString ")").length = 1 from rfl]; omega), ?_⟩
              exact fin _ _ s4 (paren he)
end
end Nm
namespace Nm
open PySem PySem.Spec PyProof.Rows L2
def spLWords : Sp := fun vs H Q _ => ∃ z : Str, vs = [.str z] ∧ z.length ≤ 900000 ∧ ∀ (p : Addr) (H' : Hp) (xs : List V), Same H H' → H' p = some (.lst xs) → WL H' (scan (codes z) 0 []) xs → Q (.ref p) H'
def spKind : Sp := fun vs H Q _ => ∃ z : Str, vs = [.str z] ∧ z ≠ "" ∧ z.length ≤ 900000 ∧ ∀ (H' : Hp), Same H H' → Q (.str (lawKind z)) H'
/-- the signs of t that are none of s, each a 1 -/
def odd1 (t s : Str) (i : Nat) : List V := (((codes t).take i).filter fun c => !decide (c ∈ codes s)).map fun _ => V.int 1
theorem dpAll_ones {K : PySem.W.Frag} {H : Hp} : ∀ xs : List Nat, DpAll K H (xs.map fun _ => V.int 1) (xs.map fun _ => PyData.int 1)
  | [] => .nil
  | _ :: r => .cons (.int 1) (dpAll_ones r)
theorem canLay_ones : ∀ xs : List Nat, PyData.canLayAll0 (xs.map fun _ => PyData.int 1) = true ∧ PyData.depthAll (xs.map fun _ => PyData.int 1) = 0
  | [] => ⟨rfl, rfl⟩
  | x :: r => by
    obtain ⟨h1, h2⟩ := canLay_ones r
    exact ⟨by simp [PyData.canLayAll0, PyData.canLay0, h1], by simp [PyData.depthAll, PyData.depth, h2]⟩
theorem shaped_ones (xs : List Nat) : SeqAt.shaped (.list (xs.map fun _ => PyData.int 1)) = true := by
  obtain ⟨h1, h2⟩ := canLay_ones xs
  simp [SeqAt.shaped, PyData.canLay0, PyData.depth, h1, h2]
theorem eqv_ones (t s : Str) : PyData.eqv (.list (((codes t).filter fun c => !decide (c ∈ codes s)).map fun _ => PyData.int 1)) (.list []) = allIn t s := by
  unfold allIn
  cases e : (codes t).filter fun c => !decide (c ∈ codes s) with
  | nil =>
    have h : ∀ c ∈ codes t, decide (c ∈ codes s) = true := fun c hc => by
      have := List.filter_eq_nil_iff.mp e c hc
      simpa using this
    rw [List.all_eq_true.mpr h]
    simp [PyData.eqv, PyData.eqvAll]
  | cons c r =>
    have m : c ∈ (codes t).filter fun c => !decide (c ∈ codes s) := by rw [e]; exact List.mem_cons_self
    obtain ⟨m1, m2⟩ := List.mem_filter.mp m
    have h : ((codes t).all fun c => decide (c ∈ codes s)) = false := List.all_eq_false.mpr ⟨c, m1, by simpa using m2⟩
    rw [h]
    simp [PyData.eqv, PyData.eqvAll]
section
variable {P : Program} {w : World} {K : PySem.W.Frag} {mg : Str → Option Value} {base : Heap}
/-- [1 for sign in t if sign not in s] -/
theorem rd_odd {H0 : Hp} {σ : L2.St} {t s : Str} {tt : TT} {Qd : Addr → Hp → Prop} (ht : t.length ≤ 900000) (hw : ∀ v, wipe ((wipe σ [3]).set 3 (some v)) [3] = wipe σ [3])
    (htt : ∀ (H : Hp) (c : Nat) (Q : Bool → Hp → Prop), Same H0 H → Q (!decide (c ∈ codes s)) H → tt ((wipe σ [3]).set 3 (some (.str ⟨#[c]⟩))) H Q)
    (hd : ∀ (D : Addr) (H : Hp), Same H0 H → H D = some (.lst (((codes t).filter fun c => !decide (c ∈ codes s)).map fun _ => V.int 1)) → Qd D H) :
    ∀ D, H0 D = none → ∃ W : Nat → Nat → Hp → Prop, (∃ m, W 0 m (upd H0 D (.lst []))) ∧ ∀ i m H, W i m H →
      ((Its t).stop i H ∧ Qd D H) ∨ ((Its t).go i H ∧ ∃ Nx : Hp → Prop, (∀ H', Nx H' → ∃ m', m' < m ∧ W (i + 1) m' H') ∧ ∀ x H', (Its t).yld i H x H' → gName 3 x (wipe σ [3]) H' fun σ2 H2 => wipe σ2 [3] = wipe σ [3] ∧ tt σ2 H2 fun b H3 =>
        if b = true then tC (.int 1) σ2 H3 fun y H4 => ∃ acc, H4 D = some (.lst acc) ∧ acc.length < sizeLine ∧ Nx (upd H4 D (.lst (acc ++ [y]))) else Nx H3) := by
  intro D nD
  refine lc_it (walk_str (z := t)) (te := tC (.int 1)) (g := gName 3) (tt := tt) (Qd := Qd D) (fun i H => Same H0 H ∧ H D = some (.lst (odd1 t s i))) ⟨same_new nD, upd_same⟩ (fun _ _ _ _ => True.intro) ?_ ?_
  · rintro i x H1 H2 hi ⟨s1, hD⟩ ⟨rfl, c, hc, rfl⟩
    have hc' : (codes t)[i]? = some c := by simpa using hc
    refine ⟨hw _, ?_⟩
    refine htt _ c _ s1 ?_
    have st : odd1 t s (i + 1) = if decide (c ∈ codes s) = true then odd1 t s i else odd1 t s i ++ [.int 1] := by
      unfold odd1
      have fc : ((some c).toList.filter fun c => !decide (c ∈ codes s)) = if decide (c ∈ codes s) = true then [] else [c] := by
        show List.filter _ [c] = _
        cases h : decide (c ∈ codes s) <;> simp only [List.filter, h] <;> rfl
      rw [List.take_add_one, hc', List.filter_append, List.map_append, fc]
      cases decide (c ∈ codes s) with
      | true => exact List.append_nil _
      | false => rfl
    by_cases m : c ∈ codes s
    · refine ite_no (by rw [decide_eq_true m]; rfl) ⟨s1, ?_⟩
      rw [st, if_pos (decide_eq_true m)]
      exact hD
    · refine ite_yes (by rw [decide_eq_false m]; rfl) ?_
      refine ⟨_, hD, ?_, ?_, ?_⟩
      · have l : (odd1 t s i).length ≤ (codes t).length := by
          unfold odd1
          rw [List.length_map]
          exact Nat.le_trans (List.length_filter_le _ _) (List.length_take_le' _ _)
        rw [← len_codes] at l
        exact small_big (by omega)
      · intro b o e
        rw [upd_ne (ne_of_none e nD)]
        exact s1 b o e
      · rw [upd_same, st, if_neg (by rw [decide_eq_false m]; exact Bool.false_ne_true)]
  · rintro H1 ⟨s1, hD⟩
    refine hd D H1 s1 ?_
    have l : t.cps.size = (codes t).length := by simp
    rw [l] at hD
    unfold odd1 at hD
    rw [List.take_length] at hD
    exact hD

abbrev sLwords : Stmt := top 32
abbrev NLwords : List Str := ["_law_line", "_law_found", "_law_word", "_law_k", "_law_sign"]
abbrev PLwords : List Str := ["_law_line"]
theorem scLwords : FnScope NLwords PLwords (defScope sLwords) := ⟨rfl, rfl, rfl, by decide +kernel, rfl, by decide +kernel, by decide +kernel⟩

theorem sep4_codes : codes (" ();" : Str) = [32, 40, 41, 59] := by decide +kernel
theorem par_codes : codes ("()" : Str) = [40, 41] := by decide +kernel
theorem ok_lwords {f : Addr} {fd : FuncData} (F : Fun K "_law_words" "_law_words" sLwords f fd) (T : WTxt mg) : FnOk P w K mg base CX0 1 f fd PLwords spLWords := by
  refine F.ok scLwords (fun vs H Q E h => ?_) (fun cdv A outer s H vs Q E hr h => ?_)
  · obtain ⟨t, rfl, _⟩ := h
    rfl
  · obtain ⟨z, rfl, hl, k⟩ := h
    refine ⟨_, (pss_cons (ps_par (i := 1) (j := 2) rfl scLwords.nd rfl rfl (by decide) rfl rfl (pa_cons (pe_lst pa_nil) (pa_cons pe_str pa_nil)) (by rfl))
      (pss_cons (ps_for PassesOwn.never rfl (pi_enumS (by rfl) T.enumerate (pa_cons (pe_op op_add_str (pv 0) pe_str) pa_nil)) (pg_tup (by rfl) (pgs_cons (pg_name (i := 3) scLwords.nd rfl (Or.inl rfl)) (pgs_cons (pg_name (i := 4) scLwords.nd rfl (Or.inl rfl)) pgs_nil)))
      (pss_cons (ps_if (PW.pt (pw_and (pt_cmpR op_in_sign (pv 4) pe_str (by rfl)) (pw_and1 (pt_cmpR op_ne (pv 2) pe_str (nomark _)))))
      (pss_cons (ps_expr (pe_bm PySem.F.plainAttrs_list PySem.F.slot_list_append PySem.F.type_list_append mt_append (pv 1) (pa_cons (pe_tup (pa_cons (pv 2) (pa_cons (pe_op op_sub (pe_op op_add (pv 3) pe_int) (pe_callB call_len_str (by rfl) T.len PySem.boot_len (pa_cons (pv 2) pa_nil))) pa_nil))) pa_nil)))
      (pss_one (ps_set (i := 2) scLwords.nd rfl (Or.inl rfl) pe_str)))
      pss_nil)
      (pss_cons (ps_if (pt_cmpR op_eq (pv 4) pe_str (nomark _))
      (pss_one (ps_ret (pv 1)))
      pss_nil)
      (pss_one (ps_if (pt_cmpR op_in_sign (pv 4) pe_str (by rfl))
      (pss_one (ps_expr (pe_bm PySem.F.plainAttrs_list PySem.F.slot_list_append PySem.F.type_list_append mt_append (pv 1) (pa_cons (pe_tup (pa_cons (pv 4) (pa_cons (pe_op op_add (pv 3) pe_int) pa_nil))) pa_nil))))
      (pss_one (ps_if (pt_cmpR op_ne (pv 4) pe_str (nomark _))
      (pss_one (ps_set (i := 2) scLwords.nd rfl (Or.inl rfl) (pe_op op_add_str (pv 2) (pv 4))))
      pss_nil)))))))
      (pss_one (ps_ret (pv 1))))), ?_⟩
    refine ⟨Nat.zero_le _, fun l nl => ?_⟩
    have L0 : LB H (upd H l (.lst [])) l [] [] := ⟨same_new nl, nl, upd_same, .nil⟩
    generalize upd H l (.lst []) = H1 at L0 ⊢
    refine ⟨_, _, rfl, ?_⟩
    have eA : codes (z ++ " ") = codes z ++ [32] := by
      show (z.cps ++ (" " : Str).cps).toList = _
      rw [Array.toList_append]
      rfl
    have lA : (z ++ " ").cps.size = (codes z).length + 1 := by
      have : (z ++ " ").cps.size = (codes (z ++ " ")).length := by simp
      rw [this, eA]
      simp
    have lc : z.length = (codes z).length := len_codes z
    refine ⟨.str z, (by kernel_rfl), _, _, rfl, rfl, sz_of (by show z.length + 1 ≤ 2000000; omega), _, rfl, ?_⟩
    refine for_it (walk_enumS (z := z ++ " ")) (fun i σ H' => ∃ (ws : List (List Nat × Nat)) (xs : List V) (wd : Str) (v3 v4 : Option V), σ = [some (.str z), some (.ref l), some (.str wd), v3, v4] ∧ wd.length ≤ i ∧ LB H H' l ws xs ∧ xs.length ≤ 2 * i ∧
        ws ++ scan ((codes z ++ [32]).drop i) i (codes wd) = scan (codes z ++ [32]) 0 [] ∧ (i = (codes z).length + 1 → codes wd = []))
      ⟨[], [], "", none, none, (by kernel_rfl), Nat.le_refl _, L0, Nat.le_refl _, rfl, fun q => by omega⟩ (fun _ _ _ _ _ => True.intro) ?_ ?_
    · rintro i x σ H3 H4 hi ⟨ws, xs, wd, v3, v4, rfl, hwl, L3, hx, hsc, _⟩ ⟨Tn, c, rfl, nT, rfl, hc⟩
      rw [lA] at hi
      have hc' : (codes z ++ [32])[i]? = some c := by
        rw [← eA]
        simpa using hc
      have hdrop : (codes z ++ [32]).drop i = c :: (codes z ++ [32]).drop (i + 1) := by
        obtain ⟨h1, h2⟩ := List.getElem?_eq_some_iff.mp hc'
        rw [List.drop_eq_getElem_cons h1, h2]
      have last : i = (codes z).length → c = 32 := fun q => by
        rw [q, List.getElem?_append_right (Nat.le_refl _)] at hc'
        simpa using hc'.symm
      rw [hdrop] at hsc
      have hT := upd_same (H := H3) (a := Tn) (o := .tup [.int (i : Nat), .str ⟨#[c]⟩])
      have L4 := L3.put (same_new (o := .tup [.int (i : Nat), .str ⟨#[c]⟩]) nT)
      generalize upd H3 Tn (.tup [.int (i : Nat), .str ⟨#[c]⟩]) = H4 at hT L4 ⊢
      refine ⟨Tn, _, rfl, SqT.of hT, rfl, _, _, rfl, _, _, rfl, rfl, ?_⟩
      refine ⟨.str ⟨#[c]⟩, (by kernel_rfl), c, " ();", rfl, rfl, _, rfl, ?_⟩
      rw [show (Str.ofString " ();").cps.toList = [32, 40, 41, 59] from sep4_codes]
      by_cases hs : c ∈ ([32, 40, 41, 59] : List Nat)
      · refine ite_yes (decide_eq_true hs) ?_
        refine ⟨.str wd, (by kernel_rfl), rfl, _, rfl, ?_⟩
        rw [dec_str]
        by_cases hwd : wd = ""
        · refine ite_no (by rw [decide_eq_true hwd]; rfl) ?_
          have ew : codes wd = [] := by rw [hwd]; rfl
          rw [ew] at hsc
          have L5 := L4
          have hx5 : xs.length ≤ 2 * i + 1 := by omega
          have hw5 : codes wd = [] := ew
          have hsc5 : ws ++ scan (c :: (codes z ++ [32]).drop (i + 1)) i [] = scan (codes z ++ [32]) 0 [] := hsc
          refine ⟨.str ⟨#[c]⟩, (by kernel_rfl), rfl, _, rfl, ?_⟩
          by_cases h59 : c = 59
          · refine ite_yes (by rw [sign_eq c 59 ";" (by decide +kernel), decide_eq_true h59]) ?_
            refine ⟨.ref l, (by kernel_rfl), ?_⟩
            have e0 : scan (c :: (codes z ++ [32]).drop (i + 1)) i [] = [] := by
              rw [h59]
              show (if (59 : Nat) = 59 then flush i [] else _) = []
              rw [if_pos rfl]
              rfl
            rw [e0, List.append_nil, scan_blank] at hsc5
            exact k l _ _ L5.s L5.l (hsc5 ▸ L5.w)
          refine ite_no (by rw [sign_eq c 59 ";" (by decide +kernel), decide_eq_false h59]) ?_
          have hs3 : c ∈ sepL := by
            simp only [List.mem_cons, List.not_mem_nil, or_false] at hs
            unfold sepL
            simp only [List.mem_cons, List.not_mem_nil, or_false]
            omega
          rw [scan_sep _ _ _ hs3] at hsc5
          have ef0 : flush i [] = [] := rfl
          rw [ef0, List.nil_append] at hsc5
          refine ⟨.str ⟨#[c]⟩, (by kernel_rfl), c, "()", rfl, rfl, _, rfl, ?_⟩
          rw [show (Str.ofString "()").cps.toList = [40, 41] from par_codes]
          by_cases h32 : c = 32
          · refine ite_no (decide_eq_false (by rw [h32]; decide)) ?_
            refine ⟨.str ⟨#[c]⟩, (by kernel_rfl), rfl, _, rfl, ?_⟩
            refine ite_no (by rw [sign_eq c 32 " " (by decide +kernel), decide_eq_true h32]; rfl) ?_
            rw [if_pos h32, List.nil_append] at hsc5
            refine ⟨_, _, wd, some (.int (i : Int)), some (.str ⟨#[c]⟩), (by kernel_rfl), by rw [len_codes, hw5]; exact Nat.zero_le _, L5, by omega, ?_, fun _ => hw5⟩
            rw [hw5]
            exact hsc5
          · have h2 : c ∈ ([40, 41] : List Nat) := by
              unfold sepL at hs3
              simp only [List.mem_cons, List.not_mem_nil, or_false] at hs3 ⊢
              omega
            refine ite_yes (decide_eq_true h2) ?_
            refine ⟨.ref l, (by kernel_rfl), .inl ⟨rfl, _, SqL.of L5.l⟩, .str ⟨#[c]⟩, (by kernel_rfl), .int (i : Int), (by kernel_rfl), _, _, rfl, rfl, by show 2 ≤ sizeLine; decide, fun t2 n2 => ?_⟩
            have L6 := L5.app n2 [c] (i + 1)
            refine ⟨l, _, _, rfl, rfl, (same_new n2) _ _ L5.l, small_big (by omega), ?_⟩
            rw [if_neg h32] at hsc5
            refine ⟨_, _, wd, some (.int (i : Int)), some (.str ⟨#[c]⟩), (by kernel_rfl), by rw [len_codes, hw5]; exact Nat.zero_le _, L6, by rw [List.length_append]; simp only [List.length_singleton]; omega, ?_, fun _ => hw5⟩
            rw [hw5, ← hsc5]
            simp only [List.append_assoc]
        · refine ite_yes (by rw [decide_eq_false hwd]; rfl) ?_
          refine ⟨.ref l, (by kernel_rfl), .inl ⟨rfl, _, SqL.of L4.l⟩, .str wd, (by kernel_rfl), .int (i : Int), (by kernel_rfl), _, _, rfl, rfl, .str wd, (by kernel_rfl), wd, rfl, sz_of (by omega), _, _, rfl, rfl, by show 2 ≤ sizeLine; decide, fun t1 n1 => ?_⟩
          have ek : ((i : Int) + 1 - (wd.length : Int)) = ((i + 1 - wd.length : Nat) : Int) := by omega
          have L5 := L4.app n1 (codes wd) (i + 1 - wd.length)
          rw [show (⟨(codes wd).toArray⟩ : Str) = wd from str_ext (by simp)] at L5
          rw [← ek] at L5
          refine ⟨l, _, _, rfl, rfl, (same_new n1) _ _ L4.l, small_big (by omega), ?_⟩
          have hn : codes wd ≠ [] := fun q => hwd (str_ext (by rw [q]; rfl))
          have ef : flush i (codes wd) = [(codes wd, i + 1 - wd.length)] := by
            unfold flush
            rw [if_neg hn, len_codes]
          have hx5 : (xs ++ [V.ref t1]).length ≤ 2 * i + 1 := by rw [List.length_append]; simp; omega
          have hsc5 : (ws ++ [(codes wd, i + 1 - wd.length)]) ++ scan (c :: (codes z ++ [32]).drop (i + 1)) i [] = scan (codes z ++ [32]) 0 [] := by
            rw [← hsc, List.append_assoc]
            congr 1
            rw [← ef]
            simp only [List.mem_cons, List.not_mem_nil, or_false] at hs
            rcases hs with rfl | rfl | rfl | rfl
            · rw [scan_sep _ _ _ (by decide), scan_sep _ _ _ (by decide)]
              rfl
            · rw [scan_sep _ _ _ (by decide), scan_sep _ _ _ (by decide)]
              rfl
            · rw [scan_sep _ _ _ (by decide), scan_sep _ _ _ (by decide)]
              rfl
            · show flush i (codes wd) ++ flush i [] = flush i (codes wd)
              exact List.append_nil _
          clear hsc
          have hw5 : codes ("" : Str) = [] := rfl
          refine ⟨.str ⟨#[c]⟩, (by kernel_rfl), rfl, _, rfl, ?_⟩
          by_cases h59 : c = 59
          · refine ite_yes (by rw [sign_eq c 59 ";" (by decide +kernel), decide_eq_true h59]) ?_
            refine ⟨.ref l, (by kernel_rfl), ?_⟩
            have e0 : scan (c :: (codes z ++ [32]).drop (i + 1)) i [] = [] := by
              rw [h59]
              show (if (59 : Nat) = 59 then flush i [] else _) = []
              rw [if_pos rfl]
              rfl
            rw [e0, List.append_nil, scan_blank] at hsc5
            exact k l _ _ L5.s L5.l (hsc5 ▸ L5.w)
          refine ite_no (by rw [sign_eq c 59 ";" (by decide +kernel), decide_eq_false h59]) ?_
          have hs3 : c ∈ sepL := by
            simp only [List.mem_cons, List.not_mem_nil, or_false] at hs
            unfold sepL
            simp only [List.mem_cons, List.not_mem_nil, or_false]
            omega
          rw [scan_sep _ _ _ hs3] at hsc5
          have ef0 : flush i [] = [] := rfl
          rw [ef0, List.nil_append] at hsc5
          refine ⟨.str ⟨#[c]⟩, (by kernel_rfl), c, "()", rfl, rfl, _, rfl, ?_⟩
          rw [show (Str.ofString "()").cps.toList = [40, 41] from par_codes]
          by_cases h32 : c = 32
          · refine ite_no (decide_eq_false (by rw [h32]; decide)) ?_
            refine ⟨.str ⟨#[c]⟩, (by kernel_rfl), rfl, _, rfl, ?_⟩
            refine ite_no (by rw [sign_eq c 32 " " (by decide +kernel), decide_eq_true h32]; rfl) ?_
            rw [if_pos h32, List.nil_append] at hsc5
            refine ⟨_, _, (Str.ofString ""), some (.int (i : Int)), some (.str ⟨#[c]⟩), (by kernel_rfl), by rw [len_codes, hw5]; exact Nat.zero_le _, L5, by omega, ?_, fun _ => hw5⟩
            rw [hw5]
            exact hsc5
          · have h2 : c ∈ ([40, 41] : List Nat) := by
              unfold sepL at hs3
              simp only [List.mem_cons, List.not_mem_nil, or_false] at hs3 ⊢
              omega
            refine ite_yes (decide_eq_true h2) ?_
            refine ⟨.ref l, (by kernel_rfl), .inl ⟨rfl, _, SqL.of L5.l⟩, .str ⟨#[c]⟩, (by kernel_rfl), .int (i : Int), (by kernel_rfl), _, _, rfl, rfl, by show 2 ≤ sizeLine; decide, fun t2 n2 => ?_⟩
            have L6 := L5.app n2 [c] (i + 1)
            refine ⟨l, _, _, rfl, rfl, (same_new n2) _ _ L5.l, small_big (by omega), ?_⟩
            rw [if_neg h32] at hsc5
            refine ⟨_, _, (Str.ofString ""), some (.int (i : Int)), some (.str ⟨#[c]⟩), (by kernel_rfl), by rw [len_codes, hw5]; exact Nat.zero_le _, L6, by rw [List.length_append]; simp only [List.length_singleton]; omega, ?_, fun _ => hw5⟩
            rw [hw5, ← hsc5]
            simp only [List.append_assoc]
      · refine ite_no (decide_eq_false hs) ?_
        refine ite_no rfl ?_
        simp only [List.mem_cons, List.not_mem_nil, or_false, not_or] at hs
        obtain ⟨n1, n2, n3, n4⟩ := hs
        refine ⟨.str ⟨#[c]⟩, (by kernel_rfl), rfl, _, rfl, ?_⟩
        refine ite_no (by rw [sign_eq c 59 ";" (by decide +kernel), decide_eq_false n4]) ?_
        refine ⟨.str ⟨#[c]⟩, (by kernel_rfl), c, "()", rfl, rfl, _, rfl, ?_⟩
        rw [show (Str.ofString "()").cps.toList = [40, 41] from par_codes]
        refine ite_no (decide_eq_false (by simp [n2, n3])) ?_
        refine ⟨.str ⟨#[c]⟩, (by kernel_rfl), rfl, _, rfl, ?_⟩
        refine ite_yes (by rw [sign_eq c 32 " " (by decide +kernel), decide_eq_false n1]; rfl) ?_
        refine ⟨.str wd, (by kernel_rfl), .str ⟨#[c]⟩, (by kernel_rfl), _, _, rfl, rfl, sz_of (by show wd.length + 1 ≤ 2000000; omega), ?_⟩
        have el : (wd ++ (⟨#[c]⟩ : Str)).length = wd.length + 1 := by
          show (wd.cps ++ #[c]).size = wd.cps.size + 1
          simp
        have ec : codes (wd ++ (⟨#[c]⟩ : Str)) = codes wd ++ [c] := by
          show (wd.cps ++ #[c]).toList = wd.cps.toList ++ [c]
          simp
        refine ⟨ws, xs, wd ++ ⟨#[c]⟩, some (.int (i : Int)), some (.str ⟨#[c]⟩), (by kernel_rfl), by omega, L4, by omega, ?_, fun q => (n1 (last (by omega))).elim⟩
        rw [ec, ← hsc, scan_sign _ _ _ (by unfold sepL; simp [n1, n2, n3]) n4]
    · rintro σ H3 ⟨ws, xs, wd, v3, v4, rfl, hwl, L3, hx, hsc, hend⟩
      have ew := hend lA
      rw [lA, ew, List.drop_of_length_le (by simp)] at hsc
      have e1 : scan [] ((codes z).length + 1) [] = [] := rfl
      rw [e1, List.append_nil, scan_blank] at hsc
      refine ⟨.ref l, (by kernel_rfl), ?_⟩
      exact k l _ xs L3.s L3.l (hsc ▸ L3.w)
end
end Nm
namespace Nm
open PySem PySem.Spec PyProof.Rows L2
theorem eqV_str (a b : Str) : eqV (.str a) (.str b) = decide (a = b) := by
  show _ = _
  first | rfl | simp [eqV]
theorem inV_strs (w : Str) (l : List Str) : inV (.str w) (l.map V.str) = decide (w ∈ l) := by
  unfold inV
  induction l with
  | nil => rfl
  | cons a r ih =>
    rw [List.map_cons, List.any_cons, ih, eqV_str]
    by_cases h : w = a
    · subst h
      simp
    · have h' : ¬ a = w := fun z => h z.symm
      simp [h, h']
/-! ### the law's kind of a word; what is asked -/
theorem lk_kw {z : Str} (h : z ∈ kwL) : lawKind z = z := by unfold lawKind; rw [if_pos (decide_eq_true h)]
theorem lk_name {z : Str} (nk : z ∉ kwL) (h : ((decide (hd z ∈ codes (sBIG ++ sSMA)) && decide (z.length ≤ 24)) && allIn z sALL) = true) : lawKind z = if decide (hd z ∈ codes sBIG) = true then ("big" : Str) else ("small" : Str) := by
  unfold lawKind
  rw [if_neg (by rw [decide_eq_false nk]; exact Bool.false_ne_true), if_pos h]
theorem lk_rest {z : Str} (nk : z ∉ kwL) (h : ((decide (hd z ∈ codes (sBIG ++ sSMA)) && decide (z.length ≤ 24)) && allIn z sALL) = false) :
    lawKind z = if ((!decide (digs2 z = "") && (decide ((digs2 z).length ≤ 400) && allIn (digs2 z) sDIG)) && (decide (z = "0") || !decide (hd (digs2 z) = 48))) = true then ("number" : Str) else ("word " : Str) ++ z := by
  unfold lawKind
  rw [if_neg (by rw [decide_eq_false nk]; exact Bool.false_ne_true), if_neg (by rw [h]; exact Bool.false_ne_true)]
section
variable {P : Program} {w : World} {K : PySem.W.Frag} {mg : Str → Option Value} {base : Heap}

abbrev sLwordkind : Stmt := top 33
abbrev NLwordkind : List Str := ["_law_word", "_law_signs_here", "_law_digits", "_law_sign"]
abbrev PLwordkind : List Str := ["_law_word"]
theorem scLwordkind : FnScope NLwordkind PLwordkind (defScope sLwordkind) := ⟨rfl, rfl, rfl, by decide +kernel, rfl, by decide +kernel, by decide +kernel⟩

theorem ok_kind {f fS : Addr} {fd fdS : FuncData} (F : Fun K "_law_word_kind" "_law_word_kind" sLwordkind f fd) (T : WTxt mg) (F_law_signs : Fun K "_law_signs" "_law_signs" sLsigns fS fdS) (b_law_signs : Binds K fdS PLsigns []) (g_law_signs : mg "_law_signs" = some (.ref fS)) :
    FnOk P w K mg base CX0 2 f fd PLwordkind spKind := by
  have G_law_signs : FnOk P w K mg base CX0 1 fS fdS PLsigns spSigns := ok_signs F_law_signs
  refine F.ok scLwordkind (fun vs H Q E h => ?_) (fun cdv A outer s H vs Q E hr h => ?_)
  · obtain ⟨t, rfl, _⟩ := h
    rfl
  · obtain ⟨z, rfl, hz, hl, k⟩ := h
    have hu := hu_of hr
    have hr1 := hr
    obtain ⟨c, r, ec⟩ := codes_cons hz
    refine ⟨_, (pss_cons (ps_set (i := 1) scLwordkind.nd rfl (Or.inr rfl) (pe_call0 G_law_signs hr1 rfl g_law_signs F_law_signs.kp b_law_signs .nil pass0))
      (pss_cons (ps_if (pt_cmpR op_in_seq (pv 0) (pe_lst (pa_cons pe_str (pa_cons pe_str (pa_cons pe_str (pa_cons pe_str pa_nil))))) (by rfl))
      (pss_one (ps_ret (pv 0)))
      pss_nil)
      (pss_cons (ps_if (PW.pt (pw_and (pt_cmpR op_in_sign (pe_ix ix_str (pv 0) pe_int (fun _ _ => rfl)) (pe_op op_add_str (pe_dget hu (pv 1) pe_str (fun _ _ => rfl)) (pe_dget hu (pv 1) pe_str (fun _ _ => rfl))) (by rfl)) (pw_and1 (pt_cmpR op_le (pe_callB call_len_str (by rfl) T.len PySem.boot_len (pa_cons (pv 0) pa_nil)) pe_int (nomark _)))))
      (pss_one (ps_if (pt_cmpR (op_eqD hr.units) (pe_lc (own := [("_law_sign", 3)]) (g := (gName 3)) rfl scLwordkind.nd (pi_str (pv 0)) (blkOk_by (own := [("_law_sign", 3)]) (N := NLwordkind) (sc := defScope sLwordkind) (by decide +kernel)) (fun _ _ _ _ _ => (pg_name (i := 3) scLwordkind.nd rfl (Or.inl rfl))) (fun _ _ _ _ _ => (pts_one (pt_cmpR op_notIn_sign (pv 3) (pe_dget hu (pv 1) pe_str (fun _ _ => rfl)) (by rfl)))) (fun _ _ _ _ _ => pe_int)) (pe_lst pa_nil) (nomark _))
      (pss_one (ps_ret (pe_ifExp (pt_cmpR op_in_sign (pe_ix ix_str (pv 0) pe_int (fun _ _ => rfl)) (pe_dget hu (pv 1) pe_str (fun _ _ => rfl)) (by rfl)) pe_str pe_str)))
      pss_nil))
      pss_nil)
      (pss_cons (ps_set (i := 2) scLwordkind.nd rfl (Or.inl rfl) (pe_ifExp (pt_cmpR op_eq (pe_ix ix_str (pv 0) pe_int (fun _ _ => rfl)) pe_str (nomark _)) (pe_slice sl_str (pv 0) (po_some pe_int) po_none) (pv 0)))
      (pss_cons (ps_if (PW.pt (pw_and (pt_cmpR op_ne (pv 2) pe_str (nomark _)) (pw_and (pt_cmpR op_le (pe_callB call_len_str (by rfl) T.len PySem.boot_len (pa_cons (pv 2) pa_nil)) pe_int (nomark _)) (pw_and1 (pt_cmpR (op_eqD hr.units) (pe_lc (own := [("_law_sign", 3)]) (g := (gName 3)) rfl scLwordkind.nd (pi_str (pv 2)) (blkOk_by (own := [("_law_sign", 3)]) (N := NLwordkind) (sc := defScope sLwordkind) (by decide +kernel)) (fun _ _ _ _ _ => (pg_name (i := 3) scLwordkind.nd rfl (Or.inl rfl))) (fun _ _ _ _ _ => (pts_one (pt_cmpR op_notIn_sign (pv 3) pe_str (by rfl)))) (fun _ _ _ _ _ => pe_int)) (pe_lst pa_nil) (nomark _))))))
      (pss_one (ps_if (PW.pt (pw_or (pt_cmpR op_eq (pv 0) pe_str (nomark _)) (pw_or1 (pt_cmpR op_ne (pe_ix ix_str (pv 2) pe_int (fun _ _ => rfl)) pe_str (nomark _)))))
      (pss_one (ps_ret pe_str))
      pss_nil))
      pss_nil)
      (pss_one (ps_ret (pe_op op_add_str pe_str (pv 0))))))))), ?_⟩
    refine ⟨rfl, fun d H1 s1 hd1 => ?_⟩
    refine ⟨.str z, (by kernel_rfl), by show 4 ≤ sizeLine; decide, fun q nq => ?_⟩
    have hq := upd_same (H := H1) (a := q) (o := .lst [.str "kind", .str "fun", .str "let", .str "in"])
    have sq := same_new (o := .lst [.str "kind", .str "fun", .str "let", .str "in"]) nq
    generalize upd H1 q (.lst [.str "kind", .str "fun", .str "let", .str "in"]) = H2 at hq sq ⊢
    have S2 := s1.trans sq
    have hd2 := sq _ _ hd1
    refine ⟨q, _, rfl, .inl (SqL.of hq), rfl, rfl, _, rfl, ?_⟩
    rw [if_neg Bool.false_ne_true, show inV (V.str z) [.str "kind", .str "fun", .str "let", .str "in"] = decide (z ∈ kwL) from inV_strs z kwL]
    by_cases hk : z ∈ kwL
    · refine ite_yes (decide_eq_true hk) ?_
      refine ⟨.str z, (by kernel_rfl), ?_⟩
      rw [lk_kw hk] at k
      exact k _ S2
    refine ite_no (decide_eq_false hk) ?_
    refine ⟨.str z, (by kernel_rfl), z, 0, c, rfl, rfl, sz_of (by omega), atI0 ec, .ref d, (by kernel_rfl), d, .str sBIG, rfl, dget hd2 sg_big, .ref d, (by kernel_rfl), d, .str sSMA, rfl, dget hd2 sg_small, _, _, rfl, rfl, (by decide +kernel), c, _, rfl, rfl, _, rfl, ?_⟩
    by_cases hm1 : c ∈ codes (sBIG ++ sSMA)
    · refine ite_yes (decide_eq_true hm1) ?_
      refine ⟨.str z, (by kernel_rfl), z, rfl, sz_of (by omega), _, _, rfl, rfl, _, rfl, ?_⟩
      by_cases hl24 : z.length ≤ 24
      · refine ite_yes (decide_eq_true (by omega)) ?_
        refine ⟨.str z, (by kernel_rfl), z, rfl, ?_⟩
        refine rd_odd (t := z) (s := sALL) hl (fun v => by kernel_rfl) (fun H c Q s q => ⟨.str ⟨#[c]⟩, (by kernel_rfl), .ref d, (by kernel_rfl), d, .str sALL, rfl, dget (s _ _ hd2) sg_all, c, sALL, rfl, rfl, _, rfl, q⟩) (fun A1 H3 s3 h3 => ?_)
        refine ⟨Nat.zero_le _, fun e1 ne1 => ?_⟩
        have s4 := same_new (o := .lst []) ne1
        have S4 := (S2.trans s3).trans s4
        refine ⟨_, _, .lst (SqL.of (s4 _ _ h3)) (dpAll_ones _), .lst (SqL.of upd_same) .nil, shaped_ones _, by decide +kernel, _, rfl, ?_⟩
        have hd4 := (s3.trans s4) _ _ hd2
        clear h3 s3
        generalize upd H3 e1 (.lst []) = H4 at s4 S4 hd4 ⊢
        rw [eqv_ones]
        cases ha : allIn z sALL with
        | true =>
          refine ite_yes rfl ?_
          have e := lk_name hk (by rw [hd_of ec, decide_eq_true hm1, decide_eq_true hl24, ha]; rfl)
          rw [e] at k
          refine ⟨.str z, (by kernel_rfl), z, 0, c, rfl, rfl, sz_of (by omega), atI0 ec, .ref d, (by kernel_rfl), d, .str sBIG, rfl, dget hd4 sg_big, c, sBIG, rfl, rfl, _, rfl, ?_⟩
          rw [hd_of ec] at k
          by_cases hb : c ∈ codes sBIG
          · rw [if_pos (decide_eq_true hb)] at k
            exact ite_yes (decide_eq_true hb) (k _ S4)
          · rw [if_neg (by rw [decide_eq_false hb]; exact Bool.false_ne_true)] at k
            exact ite_no (decide_eq_false hb) (k _ S4)
        | false =>
          refine ite_no rfl ?_
          have nb : ((decide (hd z ∈ codes (sBIG ++ sSMA)) && decide (z.length ≤ 24)) && allIn z sALL) = false := by rw [ha]; simp
          have eR := lk_rest hk nb
          refine ⟨.str z, (by kernel_rfl), z, 0, c, rfl, rfl, sz_of (by omega), atI0 ec, rfl, _, rfl, ?_⟩
          rw [sign_eq c 45 "-" (by decide +kernel)]
          by_cases hm : c = 45
          · refine ite_yes (decide_eq_true hm) ?_
            refine ⟨.str z, (by kernel_rfl), 1, rfl, z, rfl, sz_of (by omega), ?_⟩
            have de : digs2 z = cutS z (some 1) none := by unfold digs2; rw [hd_of ec, if_pos (decide_eq_true hm)]
            have dl : (cutS z (some 1) none).length ≤ 900000 := by
              rw [len_codes, cutT_codes, List.length_drop]
              rw [len_codes] at hl
              omega
            generalize cutS z (some 1) none = dg at de dl ⊢
            refine ⟨.str dg, (by kernel_rfl), rfl, _, rfl, ?_⟩
            rw [dec_str]
            by_cases d0 : dg = ""
            · refine ite_no (by rw [decide_eq_true d0]; rfl) ?_
              refine ite_no rfl ?_
              refine ⟨.str z, (by kernel_rfl), _, _, rfl, rfl, sz_of (by show 5 + z.length ≤ 2000000; omega), ?_⟩
              rw [show lawKind z = ("word " : Str) ++ z from by rw [eR, if_neg (by rw [de, decide_eq_true d0]; exact Bool.false_ne_true)]] at k
              exact k _ S4
            refine ite_yes (by rw [decide_eq_false d0]; rfl) ?_
            obtain ⟨dc, dr, edc⟩ := codes_cons d0
            refine ⟨.str dg, (by kernel_rfl), dg, rfl, sz_of (by omega), _, _, rfl, rfl, _, rfl, ?_⟩
            by_cases d1 : (dg).length ≤ 400
            · refine ite_yes (decide_eq_true (by omega)) ?_
              refine ⟨.str dg, (by kernel_rfl), dg, rfl, ?_⟩
              refine rd_odd (t := dg) (s := sDIG) (by omega) (fun v => by kernel_rfl) (fun H c Q s q => ⟨.str ⟨#[c]⟩, (by kernel_rfl), c, sDIG, rfl, rfl, _, rfl, q⟩) (fun A2 H6 s6 h6 => ?_)
              refine ⟨Nat.zero_le _, fun e2 ne2 => ?_⟩
              have s7 := same_new (o := .lst []) ne2
              have S7 := (S4.trans s6).trans s7
              refine ⟨_, _, .lst (SqL.of (s7 _ _ h6)) (dpAll_ones _), .lst (SqL.of upd_same) .nil, shaped_ones _, by decide +kernel, _, rfl, ?_⟩
              rw [eqv_ones]
              cases d2 : allIn (dg) sDIG with
              | true =>
                refine ite_yes rfl ?_
                refine ⟨.str z, (by kernel_rfl), rfl, _, rfl, ?_⟩
                rw [dec_str]
                by_cases d3 : z = "0"
                · refine ite_yes (decide_eq_true d3) ?_
                  refine ite_yes rfl ?_
                  rw [show lawKind z = "number" from by rw [eR, if_pos (by rw [de, decide_eq_false d0, decide_eq_true d1, d2, decide_eq_true d3]; rfl)]] at k
                  exact k _ S7
                · refine ite_no (decide_eq_false d3) ?_
                  refine ⟨.str dg, (by kernel_rfl), dg, 0, dc, rfl, rfl, sz_of (by omega), atI0 edc, rfl, _, rfl, ?_⟩
                  rw [sign_eq dc 48 "0" (by decide +kernel)]
                  by_cases d4 : dc = 48
                  · refine ite_no (by rw [decide_eq_true d4]; rfl) ?_
                    refine ⟨.str z, (by kernel_rfl), _, _, rfl, rfl, sz_of (by show 5 + z.length ≤ 2000000; omega), ?_⟩
                    rw [show lawKind z = ("word " : Str) ++ z from by rw [eR, if_neg (by rw [de, hd_of edc, decide_eq_false d3, decide_eq_true d4]; simp)]] at k
                    exact k _ S7
                  · refine ite_yes (by rw [decide_eq_false d4]; rfl) ?_
                    rw [show lawKind z = "number" from by rw [eR, if_pos (by rw [de, decide_eq_false d0, decide_eq_true d1, d2, hd_of edc, decide_eq_false d4]; simp)]] at k
                    exact k _ S7
              | false =>
                refine ite_no rfl ?_
                refine ⟨.str z, (by kernel_rfl), _, _, rfl, rfl, sz_of (by show 5 + z.length ≤ 2000000; omega), ?_⟩
                rw [show lawKind z = ("word " : Str) ++ z from by rw [eR, if_neg (by rw [de, d2]; simp)]] at k
                exact k _ S7
            · refine ite_no (decide_eq_false (by omega)) ?_
              refine ite_no rfl ?_
              refine ⟨.str z, (by kernel_rfl), _, _, rfl, rfl, sz_of (by show 5 + z.length ≤ 2000000; omega), ?_⟩
              rw [show lawKind z = ("word " : Str) ++ z from by rw [eR, if_neg (by rw [de, decide_eq_false d1]; simp)]] at k
              exact k _ S4
          · refine ite_no (decide_eq_false hm) ?_
            refine ⟨.str z, (by kernel_rfl), ?_⟩
            have de : digs2 z = z := by unfold digs2; rw [hd_of ec, if_neg (by rw [decide_eq_false hm]; exact Bool.false_ne_true)]
            refine ⟨.str z, (by kernel_rfl), rfl, _, rfl, ?_⟩
            rw [dec_str]
            by_cases d0 : z = ""
            · refine ite_no (by rw [decide_eq_true d0]; rfl) ?_
              refine ite_no rfl ?_
              refine ⟨.str z, (by kernel_rfl), _, _, rfl, rfl, sz_of (by show 5 + z.length ≤ 2000000; omega), ?_⟩
              rw [show lawKind z = ("word " : Str) ++ z from by rw [eR, if_neg (by rw [de, decide_eq_true d0]; exact Bool.false_ne_true)]] at k
              exact k _ S4
            refine ite_yes (by rw [decide_eq_false d0]; rfl) ?_
            obtain ⟨dc, dr, edc⟩ := codes_cons d0
            refine ⟨.str z, (by kernel_rfl), z, rfl, sz_of (by omega), _, _, rfl, rfl, _, rfl, ?_⟩
            by_cases d1 : (z).length ≤ 400
            · refine ite_yes (decide_eq_true (by omega)) ?_
              refine ⟨.str z, (by kernel_rfl), z, rfl, ?_⟩
              refine rd_odd (t := z) (s := sDIG) (by omega) (fun v => by kernel_rfl) (fun H c Q s q => ⟨.str ⟨#[c]⟩, (by kernel_rfl), c, sDIG, rfl, rfl, _, rfl, q⟩) (fun A2 H6 s6 h6 => ?_)
              refine ⟨Nat.zero_le _, fun e2 ne2 => ?_⟩
              have s7 := same_new (o := .lst []) ne2
              have S7 := (S4.trans s6).trans s7
              refine ⟨_, _, .lst (SqL.of (s7 _ _ h6)) (dpAll_ones _), .lst (SqL.of upd_same) .nil, shaped_ones _, by decide +kernel, _, rfl, ?_⟩
              rw [eqv_ones]
              cases d2 : allIn (z) sDIG with
              | true =>
                refine ite_yes rfl ?_
                refine ⟨.str z, (by kernel_rfl), rfl, _, rfl, ?_⟩
                rw [dec_str]
                by_cases d3 : z = "0"
                · refine ite_yes (decide_eq_true d3) ?_
                  refine ite_yes rfl ?_
                  rw [show lawKind z = "number" from by rw [eR, if_pos (by rw [de, decide_eq_false d0, decide_eq_true d1, d2, decide_eq_true d3]; rfl)]] at k
                  exact k _ S7
                · refine ite_no (decide_eq_false d3) ?_
                  refine ⟨.str z, (by kernel_rfl), z, 0, dc, rfl, rfl, sz_of (by omega), atI0 edc, rfl, _, rfl, ?_⟩
                  rw [sign_eq dc 48 "0" (by decide +kernel)]
                  by_cases d4 : dc = 48
                  · refine ite_no (by rw [decide_eq_true d4]; rfl) ?_
                    refine ⟨.str z, (by kernel_rfl), _, _, rfl, rfl, sz_of (by show 5 + z.length ≤ 2000000; omega), ?_⟩
                    rw [show lawKind z = ("word " : Str) ++ z from by rw [eR, if_neg (by rw [de, hd_of edc, decide_eq_false d3, decide_eq_true d4]; simp)]] at k
                    exact k _ S7
                  · refine ite_yes (by rw [decide_eq_false d4]; rfl) ?_
                    rw [show lawKind z = "number" from by rw [eR, if_pos (by rw [de, decide_eq_false d0, decide_eq_true d1, d2, hd_of edc, decide_eq_false d4]; simp)]] at k
                    exact k _ S7
              | false =>
                refine ite_no rfl ?_
                refine ⟨.str z, (by kernel_rfl), _, _, rfl, rfl, sz_of (by show 5 + z.length ≤ 2000000; omega), ?_⟩
                rw [show lawKind z = ("word " : Str) ++ z from by rw [eR, if_neg (by rw [de, d2]; simp)]] at k
                exact k _ S7
            · refine ite_no (decide_eq_false (by omega)) ?_
              refine ite_no rfl ?_
              refine ⟨.str z, (by kernel_rfl), _, _, rfl, rfl, sz_of (by show 5 + z.length ≤ 2000000; omega), ?_⟩
              rw [show lawKind z = ("word " : Str) ++ z from by rw [eR, if_neg (by rw [de, decide_eq_false d1]; simp)]] at k
              exact k _ S4
      · refine ite_no (decide_eq_false (by omega)) ?_
        have nb : ((decide (hd z ∈ codes (sBIG ++ sSMA)) && decide (z.length ≤ 24)) && allIn z sALL) = false := by rw [decide_eq_false hl24]; simp
        have eR := lk_rest hk nb
        refine ⟨.str z, (by kernel_rfl), z, 0, c, rfl, rfl, sz_of (by omega), atI0 ec, rfl, _, rfl, ?_⟩
        rw [sign_eq c 45 "-" (by decide +kernel)]
        by_cases hm : c = 45
        · refine ite_yes (decide_eq_true hm) ?_
          refine ⟨.str z, (by kernel_rfl), 1, rfl, z, rfl, sz_of (by omega), ?_⟩
          have de : digs2 z = cutS z (some 1) none := by unfold digs2; rw [hd_of ec, if_pos (decide_eq_true hm)]
          have dl : (cutS z (some 1) none).length ≤ 900000 := by
            rw [len_codes, cutT_codes, List.length_drop]
            rw [len_codes] at hl
            omega
          generalize cutS z (some 1) none = dg at de dl ⊢
          refine ⟨.str dg, (by kernel_rfl), rfl, _, rfl, ?_⟩
          rw [dec_str]
          by_cases d0 : dg = ""
          · refine ite_no (by rw [decide_eq_true d0]; rfl) ?_
            refine ite_no rfl ?_
            refine ⟨.str z, (by kernel_rfl), _, _, rfl, rfl, sz_of (by show 5 + z.length ≤ 2000000; omega), ?_⟩
            rw [show lawKind z = ("word " : Str) ++ z from by rw [eR, if_neg (by rw [de, decide_eq_true d0]; exact Bool.false_ne_true)]] at k
            exact k _ S2
          refine ite_yes (by rw [decide_eq_false d0]; rfl) ?_
          obtain ⟨dc, dr, edc⟩ := codes_cons d0
          refine ⟨.str dg, (by kernel_rfl), dg, rfl, sz_of (by omega), _, _, rfl, rfl, _, rfl, ?_⟩
          by_cases d1 : (dg).length ≤ 400
          · refine ite_yes (decide_eq_true (by omega)) ?_
            refine ⟨.str dg, (by kernel_rfl), dg, rfl, ?_⟩
            refine rd_odd (t := dg) (s := sDIG) (by omega) (fun v => by kernel_rfl) (fun H c Q s q => ⟨.str ⟨#[c]⟩, (by kernel_rfl), c, sDIG, rfl, rfl, _, rfl, q⟩) (fun A2 H6 s6 h6 => ?_)
            refine ⟨Nat.zero_le _, fun e2 ne2 => ?_⟩
            have s7 := same_new (o := .lst []) ne2
            have S7 := (S2.trans s6).trans s7
            refine ⟨_, _, .lst (SqL.of (s7 _ _ h6)) (dpAll_ones _), .lst (SqL.of upd_same) .nil, shaped_ones _, by decide +kernel, _, rfl, ?_⟩
            rw [eqv_ones]
            cases d2 : allIn (dg) sDIG with
            | true =>
              refine ite_yes rfl ?_
              refine ⟨.str z, (by kernel_rfl), rfl, _, rfl, ?_⟩
              rw [dec_str]
              by_cases d3 : z = "0"
              · refine ite_yes (decide_eq_true d3) ?_
                refine ite_yes rfl ?_
                rw [show lawKind z = "number" from by rw [eR, if_pos (by rw [de, decide_eq_false d0, decide_eq_true d1, d2, decide_eq_true d3]; rfl)]] at k
                exact k _ S7
              · refine ite_no (decide_eq_false d3) ?_
                refine ⟨.str dg, (by kernel_rfl), dg, 0, dc, rfl, rfl, sz_of (by omega), atI0 edc, rfl, _, rfl, ?_⟩
                rw [sign_eq dc 48 "0" (by decide +kernel)]
                by_cases d4 : dc = 48
                · refine ite_no (by rw [decide_eq_true d4]; rfl) ?_
                  refine ⟨.str z, (by kernel_rfl), _, _, rfl, rfl, sz_of (by show 5 + z.length ≤ 2000000; omega), ?_⟩
                  rw [show lawKind z = ("word " : Str) ++ z from by rw [eR, if_neg (by rw [de, hd_of edc, decide_eq_false d3, decide_eq_true d4]; simp)]] at k
                  exact k _ S7
                · refine ite_yes (by rw [decide_eq_false d4]; rfl) ?_
                  rw [show lawKind z = "number" from by rw [eR, if_pos (by rw [de, decide_eq_false d0, decide_eq_true d1, d2, hd_of edc, decide_eq_false d4]; simp)]] at k
                  exact k _ S7
            | false =>
              refine ite_no rfl ?_
              refine ⟨.str z, (by kernel_rfl), _, _, rfl, rfl, sz_of (by show 5 + z.length ≤ 2000000; omega), ?_⟩
              rw [show lawKind z = ("word " : Str) ++ z from by rw [eR, if_neg (by rw [de, d2]; simp)]] at k
              exact k _ S7
          · refine ite_no (decide_eq_false (by omega)) ?_
            refine ite_no rfl ?_
            refine ⟨.str z, (by kernel_rfl), _, _, rfl, rfl, sz_of (by show 5 + z.length ≤ 2000000; omega), ?_⟩
            rw [show lawKind z = ("word " : Str) ++ z from by rw [eR, if_neg (by rw [de, decide_eq_false d1]; simp)]] at k
            exact k _ S2
        · refine ite_no (decide_eq_false hm) ?_
          refine ⟨.str z, (by kernel_rfl), ?_⟩
          have de : digs2 z = z := by unfold digs2; rw [hd_of ec, if_neg (by rw [decide_eq_false hm]; exact Bool.false_ne_true)]
          refine ⟨.str z, (by kernel_rfl), rfl, _, rfl, ?_⟩
          rw [dec_str]
          by_cases d0 : z = ""
          · refine ite_no (by rw [decide_eq_true d0]; rfl) ?_
            refine ite_no rfl ?_
            refine ⟨.str z, (by kernel_rfl), _, _, rfl, rfl, sz_of (by show 5 + z.length ≤ 2000000; omega), ?_⟩
            rw [show lawKind z = ("word " : Str) ++ z from by rw [eR, if_neg (by rw [de, decide_eq_true d0]; exact Bool.false_ne_true)]] at k
            exact k _ S2
          refine ite_yes (by rw [decide_eq_false d0]; rfl) ?_
          obtain ⟨dc, dr, edc⟩ := codes_cons d0
          refine ⟨.str z, (by kernel_rfl), z, rfl, sz_of (by omega), _, _, rfl, rfl, _, rfl, ?_⟩
          by_cases d1 : (z).length ≤ 400
          · refine ite_yes (decide_eq_true (by omega)) ?_
            refine ⟨.str z, (by kernel_rfl), z, rfl, ?_⟩
            refine rd_odd (t := z) (s := sDIG) (by omega) (fun v => by kernel_rfl) (fun H c Q s q => ⟨.str ⟨#[c]⟩, (by kernel_rfl), c, sDIG, rfl, rfl, _, rfl, q⟩) (fun A2 H6 s6 h6 => ?_)
            refine ⟨Nat.zero_le _, fun e2 ne2 => ?_⟩
            have s7 := same_new (o := .lst []) ne2
            have S7 := (S2.trans s6).trans s7
            refine ⟨_, _, .lst (SqL.of (s7 _ _ h6)) (dpAll_ones _), .lst (SqL.of upd_same) .nil, shaped_ones _, by decide +kernel, _, rfl, ?_⟩
            rw [eqv_ones]
            cases d2 : allIn (z) sDIG with
            | true =>
              refine ite_yes rfl ?_
              refine ⟨.str z, (by kernel_rfl), rfl, _, rfl, ?_⟩
              rw [dec_str]
              by_cases d3 : z = "0"
              · refine ite_yes (decide_eq_true d3) ?_
                refine ite_yes rfl ?_
                rw [show lawKind z = "number" from by rw [eR, if_pos (by rw [de, decide_eq_false d0, decide_eq_true d1, d2, decide_eq_true d3]; rfl)]] at k
                exact k _ S7
              · refine ite_no (decide_eq_false d3) ?_
                refine ⟨.str z, (by kernel_rfl), z, 0, dc, rfl, rfl, sz_of (by omega), atI0 edc, rfl, _, rfl, ?_⟩
                rw [sign_eq dc 48 "0" (by decide +kernel)]
                by_cases d4 : dc = 48
                · refine ite_no (by rw [decide_eq_true d4]; rfl) ?_
                  refine ⟨.str z, (by kernel_rfl), _, _, rfl, rfl, sz_of (by show 5 + z.length ≤ 2000000; omega), ?_⟩
                  rw [show lawKind z = ("word " : Str) ++ z from by rw [eR, if_neg (by rw [de, hd_of edc, decide_eq_false d3, decide_eq_true d4]; simp)]] at k
                  exact k _ S7
                · refine ite_yes (by rw [decide_eq_false d4]; rfl) ?_
                  rw [show lawKind z = "number" from by rw [eR, if_pos (by rw [de, decide_eq_false d0, decide_eq_true d1, d2, hd_of edc, decide_eq_false d4]; simp)]] at k
                  exact k _ S7
            | false =>
              refine ite_no rfl ?_
              refine ⟨.str z, (by kernel_rfl), _, _, rfl, rfl, sz_of (by show 5 + z.length ≤ 2000000; omega), ?_⟩
              rw [show lawKind z = ("word " : Str) ++ z from by rw [eR, if_neg (by rw [de, d2]; simp)]] at k
              exact k _ S7
          · refine ite_no (decide_eq_false (by omega)) ?_
            refine ite_no rfl ?_
            refine ⟨.str z, (by kernel_rfl), _, _, rfl, rfl, sz_of (by show 5 + z.length ≤ 2000000; omega), ?_⟩
            rw [show lawKind z = ("word " : Str) ++ z from by rw [eR, if_neg (by rw [de, decide_eq_false d1]; simp)]] at k
            exact k _ S2
    · refine ite_no (decide_eq_false hm1) ?_
      refine ite_no rfl ?_
      have nb : ((decide (hd z ∈ codes (sBIG ++ sSMA)) && decide (z.length ≤ 24)) && allIn z sALL) = false := by rw [hd_of ec, decide_eq_false hm1]; rfl
      have eR := lk_rest hk nb
      refine ⟨.str z, (by kernel_rfl), z, 0, c, rfl, rfl, sz_of (by omega), atI0 ec, rfl, _, rfl, ?_⟩
      rw [sign_eq c 45 "-" (by decide +kernel)]
      by_cases hm : c = 45
      · refine ite_yes (decide_eq_true hm) ?_
        refine ⟨.str z, (by kernel_rfl), 1, rfl, z, rfl, sz_of (by omega), ?_⟩
        have de : digs2 z = cutS z (some 1) none := by unfold digs2; rw [hd_of ec, if_pos (decide_eq_true hm)]
        have dl : (cutS z (some 1) none).length ≤ 900000 := by
          rw [len_codes, cutT_codes, List.length_drop]
          rw [len_codes] at hl
          omega
        generalize cutS z (some 1) none = dg at de dl ⊢
        refine ⟨.str dg, (by kernel_rfl), rfl, _, rfl, ?_⟩
        rw [dec_str]
        by_cases d0 : dg = ""
        · refine ite_no (by rw [decide_eq_true d0]; rfl) ?_
          refine ite_no rfl ?_
          refine ⟨.str z, (by kernel_rfl), _, _, rfl, rfl, sz_of (by show 5 + z.length ≤ 2000000; omega), ?_⟩
          rw [show lawKind z = ("word " : Str) ++ z from by rw [eR, if_neg (by rw [de, decide_eq_true d0]; exact Bool.false_ne_true)]] at k
          exact k _ S2
        refine ite_yes (by rw [decide_eq_false d0]; rfl) ?_
        obtain ⟨dc, dr, edc⟩ := codes_cons d0
        refine ⟨.str dg, (by kernel_rfl), dg, rfl, sz_of (by omega), _, _, rfl, rfl, _, rfl, ?_⟩
        by_cases d1 : (dg).length ≤ 400
        · refine ite_yes (decide_eq_true (by omega)) ?_
          refine ⟨.str dg, (by kernel_rfl), dg, rfl, ?_⟩
          refine rd_odd (t := dg) (s := sDIG) (by omega) (fun v => by kernel_rfl) (fun H c Q s q => ⟨.str ⟨#[c]⟩, (by kernel_rfl), c, sDIG, rfl, rfl, _, rfl, q⟩) (fun A2 H6 s6 h6 => ?_)
          refine ⟨Nat.zero_le _, fun e2 ne2 => ?_⟩
          have s7 := same_new (o := .lst []) ne2
          have S7 := (S2.trans s6).trans s7
          refine ⟨_, _, .lst (SqL.of (s7 _ _ h6)) (dpAll_ones _), .lst (SqL.of upd_same) .nil, shaped_ones _, by decide +kernel, _, rfl, ?_⟩
          rw [eqv_ones]
          cases d2 : allIn (dg) sDIG with
          | true =>
            refine ite_yes rfl ?_
            refine ⟨.str z, (by kernel_rfl), rfl, _, rfl, ?_⟩
            rw [dec_str]
            by_cases d3 : z = "0"
            · refine ite_yes (decide_eq_true d3) ?_
              refine ite_yes rfl ?_
              rw [show lawKind z = "number" from by rw [eR, if_pos (by rw [de, decide_eq_false d0, decide_eq_true d1, d2, decide_eq_true d3]; rfl)]] at k
              exact k _ S7
            · refine ite_no (decide_eq_false d3) ?_
              refine ⟨.str dg, (by kernel_rfl), dg, 0, dc, rfl, rfl, sz_of (by omega), atI0 edc, rfl, _, rfl, ?_⟩
              rw [sign_eq dc 48 "0" (by decide +kernel)]
              by_cases d4 : dc = 48
              · refine ite_no (by rw [decide_eq_true d4]; rfl) ?_
                refine ⟨.str z, (by kernel_rfl), _, _, rfl, rfl, sz_of (by show 5 + z.length ≤ 2000000; omega), ?_⟩
                rw [show lawKind z = ("word " : Str) ++ z from by rw [eR, if_neg (by rw [de, hd_of edc, decide_eq_false d3, decide_eq_true d4]; simp)]] at k
                exact k _ S7
              · refine ite_yes (by rw [decide_eq_false d4]; rfl) ?_
                rw [show lawKind z = "number" from by rw [eR, if_pos (by rw [de, decide_eq_false d0, decide_eq_true d1, d2, hd_of edc, decide_eq_false d4]; simp)]] at k
                exact k _ S7
          | false =>
            refine ite_no rfl ?_
            refine ⟨.str z, (by kernel_rfl), _, _, rfl, rfl, sz_of (by show 5 + z.length ≤ 2000000; omega), ?_⟩
            rw [show lawKind z = ("word " : Str) ++ z from by rw [eR, if_neg (by rw [de, d2]; simp)]] at k
            exact k _ S7
        · refine ite_no (decide_eq_false (by omega)) ?_
          refine ite_no rfl ?_
          refine ⟨.str z, (by kernel_rfl), _, _, rfl, rfl, sz_of (by show 5 + z.length ≤ 2000000; omega), ?_⟩
          rw [show lawKind z = ("word " : Str) ++ z from by rw [eR, if_neg (by rw [de, decide_eq_false d1]; simp)]] at k
          exact k _ S2
      · refine ite_no (decide_eq_false hm) ?_
        refine ⟨.str z, (by kernel_rfl), ?_⟩
        have de : digs2 z = z := by unfold digs2; rw [hd_of ec, if_neg (by rw [decide_eq_false hm]; exact Bool.false_ne_true)]
        refine ⟨.str z, (by kernel_rfl), rfl, _, rfl, ?_⟩
        rw [dec_str]
        by_cases d0 : z = ""
        · refine ite_no (by rw [decide_eq_true d0]; rfl) ?_
          refine ite_no rfl ?_
          refine ⟨.str z, (by kernel_rfl), _, _, rfl, rfl, sz_of (by show 5 + z.length ≤ 2000000; omega), ?_⟩
          rw [show lawKind z = ("word " : Str) ++ z from by rw [eR, if_neg (by rw [de, decide_eq_true d0]; exact Bool.false_ne_true)]] at k
          exact k _ S2
        refine ite_yes (by rw [decide_eq_false d0]; rfl) ?_
        obtain ⟨dc, dr, edc⟩ := codes_cons d0
        refine ⟨.str z, (by kernel_rfl), z, rfl, sz_of (by omega), _, _, rfl, rfl, _, rfl, ?_⟩
        by_cases d1 : (z).length ≤ 400
        · refine ite_yes (decide_eq_true (by omega)) ?_
          refine ⟨.str z, (by kernel_rfl), z, rfl, ?_⟩
          refine rd_odd (t := z) (s := sDIG) (by omega) (fun v => by kernel_rfl) (fun H c Q s q => ⟨.str ⟨#[c]⟩, (by kernel_rfl), c, sDIG, rfl, rfl, _, rfl, q⟩) (fun A2 H6 s6 h6 => ?_)
          refine ⟨Nat.zero_le _, fun e2 ne2 => ?_⟩
          have s7 := same_new (o := .lst []) ne2
          have S7 := (S2.trans s6).trans s7
          refine ⟨_, _, .lst (SqL.of (s7 _ _ h6)) (dpAll_ones _), .lst (SqL.of upd_same) .nil, shaped_ones _, by decide +kernel, _, rfl, ?_⟩
          rw [eqv_ones]
          cases d2 : allIn (z) sDIG with
          | true =>
            refine ite_yes rfl ?_
            refine ⟨.str z, (by kernel_rfl), rfl, _, rfl, ?_⟩
            rw [dec_str]
            by_cases d3 : z = "0"
            · refine ite_yes (decide_eq_true d3) ?_
              refine ite_yes rfl ?_
              rw [show lawKind z = "number" from by rw [eR, if_pos (by rw [de, decide_eq_false d0, decide_eq_true d1, d2, decide_eq_true d3]; rfl)]] at k
              exact k _ S7
            · refine ite_no (decide_eq_false d3) ?_
              refine ⟨.str z, (by kernel_rfl), z, 0, dc, rfl, rfl, sz_of (by omega), atI0 edc, rfl, _, rfl, ?_⟩
              rw [sign_eq dc 48 "0" (by decide +kernel)]
              by_cases d4 : dc = 48
              · refine ite_no (by rw [decide_eq_true d4]; rfl) ?_
                refine ⟨.str z, (by kernel_rfl), _, _, rfl, rfl, sz_of (by show 5 + z.length ≤ 2000000; omega), ?_⟩
                rw [show lawKind z = ("word " : Str) ++ z from by rw [eR, if_neg (by rw [de, hd_of edc, decide_eq_false d3, decide_eq_true d4]; simp)]] at k
                exact k _ S7
              · refine ite_yes (by rw [decide_eq_false d4]; rfl) ?_
                rw [show lawKind z = "number" from by rw [eR, if_pos (by rw [de, decide_eq_false d0, decide_eq_true d1, d2, hd_of edc, decide_eq_false d4]; simp)]] at k
                exact k _ S7
          | false =>
            refine ite_no rfl ?_
            refine ⟨.str z, (by kernel_rfl), _, _, rfl, rfl, sz_of (by show 5 + z.length ≤ 2000000; omega), ?_⟩
            rw [show lawKind z = ("word " : Str) ++ z from by rw [eR, if_neg (by rw [de, d2]; simp)]] at k
            exact k _ S7
        · refine ite_no (decide_eq_false (by omega)) ?_
          refine ite_no rfl ?_
          refine ⟨.str z, (by kernel_rfl), _, _, rfl, rfl, sz_of (by show 5 + z.length ≤ 2000000; omega), ?_⟩
          rw [show lawKind z = ("word " : Str) ++ z from by rw [eR, if_neg (by rw [de, decide_eq_false d1]; simp)]] at k
          exact k _ S2

end
end Nm
namespace Nm
open PySem PySem.Spec PyProof.Rows L2
/-! ### what the program tells of words, with their columns; errors -/
def finS : List (List Itm) → Option Tr
  | [told] => if told.isEmpty = true then none else some (readV told)
  | _ => none
abbrev Wd := List Nat × Nat
def wS (p : Wd) : Str := ⟨p.1.toArray⟩
def prun : List (List Itm) → List Wd → Option Tr × List Wd
  | S, [] => (finS S, [])
  | S, p :: r => match takeW S (wS p) with
    | none => (none, p :: r)
    | some S' => prun S' r
def endC (wl : List Wd) : Nat := match wl.getLast? with
  | none => 1
  | some p => p.2 + p.1.length
def colAt (wl rest : List Wd) : Nat := match rest with
  | p :: _ => p.2
  | [] => endC wl
theorem prun_one {S S' : List (List Itm)} {p : Wd} (h : takeW S (wS p) = some S') (r : List Wd) : prun S (p :: r) = prun S' r := by
  show (match takeW S (wS p) with | none => (none, p :: r) | some S' => prun S' r) = _
  rw [h]
theorem prun_no {S : List (List Itm)} {p : Wd} (h : takeW S (wS p) = none) (r : List Wd) : prun S (p :: r) = (none, p :: r) := by
  show (match takeW S (wS p) with | none => (none, p :: r) | some S' => prun S' r) = _
  rw [h]
/-! errors -/
structure XCls (K : PySem.W.Frag) (mg : Str → Option Value) (x : Str) (C fI : Addr) (names : List Str) : Prop where
  gm : mg x = some (.ref C)
  oex : OexC K C
  ini : PySem.W.findIn K (.ref C) "__init__" = some (some (.ref fI))
  tyI : PySem.W.typeIn K (.ref fI) = some (.type "function")
  xf : XfC K C
  no : ∀ f ∈ names, PySem.W.findIn K (.ref C) f = some none
  te : PySem.W.exmOne K (.ref C) (.ref C) = some true
def spInitE (C : Addr) : Sp := fun vs H Q _ => ∃ (a : Addr) (v1 v2 : V), vs = [.ref a, v1, v2] ∧ H a = some (exo a C none) ∧
  ∀ (d : Addr) (H' : Hp), H' a = some (exo a C (some d)) → H' d = some (exd d [("column", v2), ("line", v1)]) → H d = none → (∀ b, b ≠ a → b ≠ d → H' b = H b) → Q .non H'
theorem made_raise {H H' : Hp} {a C d : Addr} {fs : List (Str × V)} (an : H a = none) (nd : (upd H a (exo a C none)) d = none) (oth : ∀ b, b ≠ a → b ≠ d → H' b = (upd H a (exo a C none)) b) : Same H (upd (del H' a) d (.xd fs)) ∧ H d = none := by
  have da : d ≠ a := fun q => by
    rw [q, upd_same] at nd
    cases nd
  rw [upd_ne da] at nd
  refine ⟨fun b o e => ?_, nd⟩
  have h1 := ne_of_none e an
  have h2 := ne_of_none e nd
  rw [upd_ne h2, del_ne h1, oth b h1 h2, upd_ne h1]
  exact e
abbrev xdBT (ln cl : Int) : List (Str × V) := [("column", .int cl), ("line", .int ln)]
def spFromX (C CB : Addr) : Sp := fun vs H Q E => ∃ (z : Str), vs = [.str z] ∧ z.length ≤ 900000 ∧ 
  (∀ t, (prun [[]] (scan (codes z) 0 [])).1 = some t → ∀ (y : V) (H' : Hp), Same H H' → VAt C H' y t → Q y H') ∧
  ((prun [[]] (scan (codes z) 0 [])).1 = none → ∀ (d : Addr) (H' : Hp), Same H H' → H' d = some (.xd (xdBT 1 (colAt (scan (codes z) 0 []) (prun [[]] (scan (codes z) 0 [])).2))) → E (.ref CB) (some d) H')
def spFromN (CB : Addr) : Sp := fun vs H _ E => ∃ (v : V) (u : Value), vs = [v] ∧ (∀ K : PySem.W.Frag, TyX K H v u) ∧ (∀ K : PySem.W.Frag, PySem.W.kitOne K u (.type "str") = some false) ∧ ∀ (d : Addr) (H' : Hp), Same H H' → H' d = some (.xd (xdBT 0 0)) → E (.ref CB) (some d) H'
def spEnd : Sp := fun vs H Q _ => ∃ (p : Addr) (xs : List V) (wl : List Wd), vs = [.ref p] ∧ H p = some (.tup xs) ∧ WL H wl xs ∧ (∀ q ∈ wl, q.1.length ≤ 900000) ∧ Q (.int (endC wl : Nat)) H
section
variable {P : Program} {w : World} {K : PySem.W.Frag} {mg : Str → Option Value} {base : Heap} {C fE CB : Addr}

abbrev sBadTextinit : Stmt := inClass (top 2) 0
abbrev NBadTextinit : List Str := ["self", "line", "column"]
abbrev PBadTextinit : List Str := ["self", "line", "column"]
theorem scBadTextinit : FnScope NBadTextinit PBadTextinit (defScope sBadTextinit) := ⟨rfl, rfl, rfl, by decide +kernel, rfl, by decide +kernel, by decide +kernel⟩

theorem ok_btinit {f fI : Addr} {fd : FuncData} (F : Fun K "__init__" "BadText.__init__" sBadTextinit f fd) (X : XCls K mg "BadText" CB fI ["line", "column"]) : FnOk P w K mg base CX0 1 f fd ["self", "line", "column"] (spInitE CB) := by
  refine F.ok scBadTextinit (fun vs H Q E h => ?_) (fun cdv A outer s H vs Q E hr h => ?_)
  · obtain ⟨a, v1, v2, rfl, _⟩ := h
    rfl
  · obtain ⟨a, v1, v2, rfl, ha, k⟩ := h
    refine ⟨_, (pss_cons (ps_ost (pv 0) (pv 1)) (pss_one (ps_ost (pv 0) (pv 2)))), ?_⟩
    refine ⟨_, rfl, _, rfl, a, CB, rfl, X.oex, X.no _ (by simp), .inl ⟨ha, fun d dn da => ?_⟩⟩
    refine ⟨_, rfl, _, rfl, a, CB, rfl, X.oex, X.no _ (by simp), .inr ⟨d, _, upd_same, (by rw [upd_ne da, upd_same]), (by show 1 ≤ 900; decide), ?_⟩⟩
    exact k d _ (by rw [upd_ne da.symm, upd_same]) (by rw [upd_same]) dn fun b h1 h2 => by rw [upd_ne h2, upd_ne h1, upd_ne h2]

abbrev sendof : Stmt := top 16
abbrev Nendof : List Str := ["words", "word", "column"]
abbrev Pendof : List Str := ["words"]
theorem scendof : FnScope Nendof Pendof (defScope sendof) := ⟨rfl, rfl, rfl, by decide +kernel, rfl, by decide +kernel, by decide +kernel⟩

theorem wl_last {H : Hp} : ∀ {wl : List Wd} {xs : List V}, WL H wl xs → xs = [] ∧ wl = [] ∨ ∃ wl' p xs' T, wl = wl' ++ [p] ∧ xs = xs' ++ [V.ref T] ∧ H T = some (.tup [.str ⟨p.1.toArray⟩, .int (p.2 : Int)])
  | _, _, .nil => .inl ⟨rfl, rfl⟩
  | _, _, .cons (a := p) ⟨T, e, q⟩ r => by
    rcases wl_last r with ⟨e1, e2⟩ | ⟨wl', p', xs', T', e1, e2, k⟩
    · subst e1 e2
      exact .inr ⟨[], p, [], T, rfl, by rw [e]; rfl, q⟩
    · subst e1 e2
      exact .inr ⟨p :: wl', p', _ :: xs', T', rfl, rfl, k⟩
theorem ok_end {f : Addr} {fd : FuncData} (F : Fun K "end_of" "end_of" sendof f fd) (T : VTxt mg) : FnOk P w K mg base CX0 1 f fd Pendof spEnd := by
  refine F.ok scendof (fun vs H Q E h => ?_) (fun cdv A outer s H vs Q E hr h => ?_)
  · obtain ⟨p, xs, wl, rfl, _⟩ := h
    rfl
  · obtain ⟨p, xs, wl, rfl, hp, hw, hb, k⟩ := h
    refine ⟨_, (pss_cons (ps_if (pt_cmpR op_eq (pe_callB call_len_seq (by rfl) T.len PySem.boot_len (pa_cons (pv 0) pa_nil)) pe_int (nomark _))
      (pss_one (ps_ret pe_int))
      pss_nil)
      (pss_cons (ps_asg (pe_ix ix_tup (pv 0) (pe_un un_neg pe_int) (fun _ _ => rfl)) (pg_tup (by rfl) (pgs_cons (pg_name (i := 1) scendof.nd rfl (Or.inl rfl)) (pgs_cons (pg_name (i := 2) scendof.nd rfl (Or.inl rfl)) pgs_nil))))
      (pss_one (ps_ret (pe_op op_add (pv 2) (pe_callB call_len_str (by rfl) T.len PySem.boot_len (pa_cons (pv 1) pa_nil))))))), ?_⟩
    refine ⟨.ref p, (by kernel_rfl), p, _, rfl, .inr (SqT.of hp), rfl, _, rfl, ?_⟩
    rcases wl_last hw with ⟨rfl, rfl⟩ | ⟨wl', q, xs', Tq, rfl, rfl, hq⟩
    · refine ite_yes rfl ?_
      exact k
    · refine ite_no (decide_eq_false (fun z => by have q := V.int.inj z; simp at q; omega)) ?_
      refine ⟨.ref p, (by kernel_rfl), _, rfl, p, _, _, .ref Tq, rfl, rfl, SqT.of hp, atI_last _ _, ?_⟩
      refine ⟨Tq, _, rfl, SqT.of hq, rfl, _, _, rfl, _, _, rfl, rfl, ?_⟩
      have hb' := hb q (by simp)
      have lq : (⟨q.1.toArray⟩ : Str).length = q.1.length := by rw [len_codes]
      refine ⟨.int (q.2 : Int), (by kernel_rfl), .str ⟨q.1.toArray⟩, (by kernel_rfl), _, rfl, sz_of (by rw [lq]; omega), _, _, rfl, rfl, ?_⟩
      have e : endC (wl' ++ [q]) = q.2 + q.1.length := by simp [endC]
      rw [e] at k
      rw [lq]
      have e2 : ((q.2 : Nat) : Int) + ((q.1.length : Nat) : Int) = ((q.2 + q.1.length : Nat) : Int) := by omega
      show Q (.int (((q.2 : Nat) : Int) + ((q.1.length : Nat) : Int))) H
      rw [e2]
      exact k

abbrev svaluefrom : Stmt := top 22
abbrev Nvaluefrom : List Str := ["text", "words", "opened", "word", "column"]
abbrev Pvaluefrom : List Str := ["text"]
theorem scvaluefrom : FnScope Nvaluefrom Pvaluefrom (defScope svaluefrom) := ⟨rfl, rfl, rfl, by decide +kernel, rfl, by decide +kernel, by decide +kernel⟩

theorem ok_fromX {f f0 fb fM fR fN fB fA fI fW fT fX : Addr} {fd fd0 fdb fdM fdR fdN fdB fdA fdI fdW fdT fdX : FuncData} (F : Fun K "value_from" "value_from" svaluefrom f fd) (T : VTxt mg) (WT : WTxt mg) (MT : MadeTxt K mg C fE) (kS : PySem.W.kitOne K (.ref C) (.type "str") = some false) (Mk : Mk K C f0) (F_init : Fun K "__init__" "Made.__init__" sMadeinit f0 fd0) (B_init : Binds K fd0 ["self", "maker", "parts"] [])
    (XB : XCls K mg "BadText" CB fb ["line", "column"]) (F_bt : Fun K "__init__" "BadText.__init__" sBadTextinit fb fdb) (B_bt : Binds K fdb ["self", "line", "column"] [])
    (F_may_have_parts : Fun K "may_have_parts" "may_have_parts" smayhaveparts fM fdM) (b_may_have_parts : Binds K fdM ["told"] []) (g_may_have_parts : mg "may_have_parts" = some (.ref fM))
    (F_read_value : Fun K "read_value" "read_value" sreadvalue fR fdR) (b_read_value : Binds K fdR ["told"] []) (g_read_value : mg "read_value" = some (.ref fR))
    (F_is_number : NumFun K mg fN fdN) (b_is_number : Binds K fdN Pisnumber []) (g_is_number : mg "is_number" = some (.ref fN))
    (F_is_big : Fun K "is_big" "is_big" sisbig fB fdB) (b_is_big : Binds K fdB Pisbig []) (g_is_big : mg "is_big" = some (.ref fB))
    (F_is_name : Fun K "is_name" "is_name" sisname fI fdI) (b_is_name : Binds K fdI Pisname []) (g_is_name : mg "is_name" = some (.ref fI))
    (F_all_among : Fun K "all_among" "all_among" sallamong fA fdA) (b_all_among : Binds K fdA Pallamong []) (g_all_among : mg "all_among" = some (.ref fA))
    (F_words_of : Fun K "words_of" "words_of" swordsof fW fdW) (b_words_of : Binds K fdW Pwordsof []) (g_words_of : mg "words_of" = some (.ref fW))
    (F_take_word : Fun K "take_word" "take_word" stakeword fT fdT) (b_take_word : Binds K fdT Ptakeword []) (g_take_word : mg "take_word" = some (.ref fT))
    (F_end_of : Fun K "end_of" "end_of" sendof fX fdX) (b_end_of : Binds K fdX Pendof []) (g_end_of : mg "end_of" = some (.ref fX)) : FnOk P w K mg base (L2.CX P w) 5 f fd Pvaluefrom (spFromX C CB) := by
  have G_read_value : FnOk P w K mg base CX0 4 fR fdR Preadvalue (spRead C) := (ok_read F_read_value T MT kS Mk F_init B_init F_may_have_parts b_may_have_parts g_may_have_parts).mono (by decide)
  have G_words_of : FnOk P w K mg base CX0 4 fW fdW Pwordsof spWords := (ok_words_of F_words_of WT).mono (by decide)
  have G_take_word : FnOk P w K mg base CX0 4 fT fdT Ptakeword (spTake C) := ok_take F_take_word T WT MT kS Mk F_init B_init F_may_have_parts b_may_have_parts g_may_have_parts F_read_value b_read_value g_read_value F_is_number b_is_number g_is_number F_is_big b_is_big g_is_big F_is_name b_is_name g_is_name F_all_among b_all_among g_all_among
  have G_end_of : FnOk P w K mg base CX0 4 fX fdX Pendof spEnd := (ok_end F_end_of T).mono (by decide)
  have G_bt : FnOk P w K mg base CX0 3 fb fdb ["self", "line", "column"] (spInitE CB) := (ok_btinit F_bt XB).mono (by decide)
  refine F.okX scvaluefrom (fun vs H Q E h => ?_) (fun cdv A outer s H vs Q E hr h => ?_)
  · obtain ⟨z, rfl, _⟩ := h
    rfl
  · obtain ⟨z, rfl, hz, kq, ke⟩ := h
    have hr1 := hr
    refine ⟨_, (pss_cons (ps_if (pt_not (pt_val (pe_callB call_isi (by rfl) T.isinstance (by decide +kernel) (pa_cons (pv 0) (pa_cons (pe_bltn (v := .ty "str") (by rfl) T.str (by decide +kernel) rfl) pa_nil)))))
      (pss_one (ps_raise rfl (takes_of rfl rfl rfl rfl) (pmk_oex XB.oex XB.ini XB.tyI G_bt hr1 B_bt .nil pass0 (by rfl) XB.gm (pa_cons pe_int (pa_cons pe_int pa_nil)))))
      pss_nil)
      (pss_cons (ps_set (i := 1) scvaluefrom.nd rfl (Or.inl rfl) (pe_call G_words_of hr1 rfl g_words_of F_words_of.kp b_words_of .nil pass0 (pa_cons (pv 0) pa_nil)))
      (pss_cons (ps_set (i := 2) scvaluefrom.nd rfl (Or.inl rfl) (pe_lst (pa_cons (pe_lst pa_nil) pa_nil)))
      (pss_cons (ps_for (passes_of rfl) rfl (pi_tup (pv 1)) (pg_tup (by rfl) (pgs_cons (pg_name (i := 3) scvaluefrom.nd rfl (Or.inl rfl)) (pgs_cons (pg_name (i := 4) scvaluefrom.nd rfl (Or.inl rfl)) pgs_nil)))
      (pss_one (ps_if (pt_not (pt_val (pe_call G_take_word hr1 rfl g_take_word F_take_word.kp b_take_word .nil pass0 (pa_cons (pv 2) (pa_cons (pv 3) pa_nil)))))
      (pss_one (ps_raise rfl (takes_of rfl rfl rfl rfl) (pmk_oex XB.oex XB.ini XB.tyI G_bt hr1 B_bt .nil pass0 (by rfl) XB.gm (pa_cons pe_int (pa_cons (pv 4) pa_nil)))))
      pss_nil)))
      (pss_cons (ps_if (PW.pt (pw_or (pt_cmpR op_gt (pe_callB call_len_seq (by rfl) T.len PySem.boot_len (pa_cons (pv 2) pa_nil)) pe_int (nomark _)) (pw_or1 (pt_cmpR op_eq (pe_callB call_len_seq (by rfl) T.len PySem.boot_len (pa_cons (pe_ix ix_list (pv 2) pe_int (fun _ _ => rfl)) pa_nil)) pe_int (nomark _)))))
      (pss_one (ps_raise rfl (takes_of rfl rfl rfl rfl) (pmk_oex XB.oex XB.ini XB.tyI G_bt hr1 B_bt .nil pass0 (by rfl) XB.gm (pa_cons pe_int (pa_cons (pe_call G_end_of hr1 rfl g_end_of F_end_of.kp b_end_of .nil pass0 (pa_cons (pv 1) pa_nil)) pa_nil)))))
      pss_nil)
      (pss_one (ps_ret (pe_call G_read_value hr1 rfl g_read_value F_read_value.kp b_read_value .nil pass0 (pa_cons (pe_ix ix_list (pv 2) pe_int (fun _ _ => rfl)) pa_nil))))))))), ?_⟩
    refine ⟨.str z, (by kernel_rfl), _, _, _, _, true, rfl, .ty "str", .base (.str z), kit_ty (by decide +kernel), _, rfl, ?_⟩
    refine ite_no rfl ?_
    refine ⟨.str z, (by kernel_rfl), z, rfl, hz, fun p H1 xs S1 hp hw => ?_⟩
    have wlen := scan_len (codes z) 0 []
    have wwd := scan_word (codes z) 0 []
    have cz := len_codes z
    generalize scan (codes z) 0 [] = wl at kq ke wlen wwd hw
    refine ⟨by show 0 ≤ sizeLine; decide, fun q nq => ?_⟩
    refine ⟨by show 1 ≤ sizeLine; decide, fun l nl => ?_⟩
    have O0 := OpAt.first (C := C) nq nl
    generalize upd (upd H1 q (.lst [])) l (.lst [.ref q]) = H2 at O0 ⊢
    have lwx := hw.len
    have S2 := O0.s
    refine ⟨.ref p, (by kernel_rfl), p, rfl, ⟨_, SqT.of (S2 _ _ hp)⟩, ?_⟩
    refine for_tup (K := K) (a := p) (xs := xs) (fun i σ H' => ∃ (rs : List Addr) (S : List (List Itm)) (v3 v4 : Option V), σ = [some (.str z), some (.ref p), some (.ref l), v3, v4] ∧ OpAt C H1 H' l rs S (i + 1) ∧ S ≠ [] ∧ prun [[]] wl = prun S (wl.drop i))
      ⟨[q], [[]], none, none, rfl, O0, (by simp), rfl⟩ (fun i σ H' _ ⟨_, _, _, _, _, O, _⟩ => SqT.of (O.s _ _ hp)) ?_ ?_
    · rintro i x σ H3 hi ⟨rs, S, v3, v4, rfl, O, hS, hpr⟩
      obtain ⟨⟨wc, col⟩, hwi, Tw, rfl, hTw⟩ := pair_get hw hi
      have mw : (wc, col) ∈ wl := List.mem_of_getElem? hwi
      have l1 := wwd _ mw
      have li := (List.getElem?_eq_some_iff.mp hi).1
      have hdr : wl.drop i = (wc, col) :: wl.drop (i + 1) := by
        obtain ⟨h1, h2⟩ := List.getElem?_eq_some_iff.mp hwi
        rw [List.drop_eq_getElem_cons h1, h2]
      rw [hdr] at hpr
      refine ⟨Tw, _, rfl, SqT.of (O.s _ _ hTw), rfl, _, _, rfl, _, _, rfl, rfl, ?_⟩
      refine ⟨.ref l, (by kernel_rfl), .str ⟨wc.toArray⟩, (by kernel_rfl), l, ⟨wc.toArray⟩, H1, rs, S, i + 1, rfl, O, (by omega), ?_, hS, fun hn H4 S4 => ?_, fun S' rs' H4 hs O' => ?_⟩
      · rw [len_codes]
        simp only [List.length_nil] at l1
        show wc.toArray.toList.length ≤ _
        rw [List.toList_toArray]
        omega
      · refine ⟨_, rfl, ?_⟩
        refine ite_yes rfl ?_
        rw [prun_no hn] at hpr
        rw [hpr] at ke
        refine ⟨.int (col : Int), (by kernel_rfl), by show 2 ≤ 1000; decide, fun a an => ⟨a, .int 1, .int (col : Int), rfl, upd_same, fun d H' ha hd dn oth => ?_⟩⟩
        have nn := made_raise (fs := xdBT 1 (col : Int)) an dn oth
        exact ⟨rfl, d, _, ha, hd, nn.2, ke rfl d _ ((S1.trans S4).trans nn.1) upd_same⟩
      · refine ⟨_, rfl, ?_⟩
        refine ite_no rfl ?_
        rw [prun_one hs] at hpr
        exact ⟨rs', S', _, _, rfl, O', takeW_ne hs, hpr⟩
    · rintro σ H3 ⟨rs, S, v3, v4, rfl, O, hS, hpr⟩
      rw [← lwx, List.drop_length] at hpr
      have hpr2 : prun [[]] wl = (finS S, []) := hpr
      have wb : ∀ q ∈ wl, q.1.length ≤ 900000 := fun q m => by
        have := wwd q m
        simp only [List.length_nil] at this
        omega
      have ke' : finS S = none → ∀ (d : Addr) (H' : Hp), Same H H' → H' d = some (.xd (xdBT 1 ((endC wl : Nat) : Int))) → E (.ref CB) (some d) H' := fun e => by
        rw [hpr2, e] at ke
        exact ke rfl
      cases S with
      | nil => exact (hS rfl).elim
      | cons told rest =>
      obtain ⟨r, rs', ys, rfl, er, hx, tr⟩ : ∃ r rs' ys, rs = r :: rs' ∧ H3 r = some (.lst ys) ∧ SAt C H3 ys told ∧ TAt C H3 rs' rest := by
        cases O.t with
        | cons e h t => exact ⟨_, _, _, rfl, e, h, t⟩
      have hl := O.at_
      have lrs := tr.len
      have lx := hx.len
      have ltd := O.tn told (by simp)
      have lop : ((r :: rs').reverse.map V.ref).length = rest.length + 1 := by simp [lrs]
      refine ⟨.ref l, (by kernel_rfl), l, _, rfl, .inl (SqL.of hl), _, _, rfl, rfl, _, rfl, ?_⟩
      cases rest with
      | cons b c =>
        refine ite_yes (decide_eq_true (by rw [lop]; simp only [List.length_cons]; omega)) ?_
        refine ite_yes rfl ?_
        refine ⟨.ref p, (by kernel_rfl), p, xs, wl, rfl, O.s _ _ hp, hw.same O.s, wb, ?_⟩
        refine ⟨by show 2 ≤ 1000; decide, fun a an => ⟨a, .int 1, .int ((endC wl : Nat) : Int), rfl, upd_same, fun d H' ha hd dn oth => ?_⟩⟩
        have nn := made_raise (fs := xdBT 1 ((endC wl : Nat) : Int)) an dn oth
        exact ⟨rfl, d, _, ha, hd, nn.2, ke' rfl d _ ((S1.trans O.s).trans nn.1) upd_same⟩
      | nil =>
        obtain rfl : rs' = [] := List.length_eq_zero_iff.mp lrs
        refine ite_no (decide_eq_false (by rw [lop]; simp)) ?_
        refine ⟨.ref l, (by kernel_rfl), l, _, 0, .ref r, rfl, rfl, SqL.of hl, atI0 rfl, r, _, rfl, .inl (SqL.of er), rfl, _, rfl, ?_⟩
        cases told with
        | nil =>
          refine ite_yes (decide_eq_true (by rw [lx]; rfl)) ?_
          refine ⟨.ref p, (by kernel_rfl), p, xs, wl, rfl, O.s _ _ hp, hw.same O.s, wb, ?_⟩
          refine ⟨by show 2 ≤ 1000; decide, fun a an => ⟨a, .int 1, .int ((endC wl : Nat) : Int), rfl, upd_same, fun d H' ha hd dn oth => ?_⟩⟩
          have nn := made_raise (fs := xdBT 1 ((endC wl : Nat) : Int)) an dn oth
          exact ⟨rfl, d, _, ha, hd, nn.2, ke' rfl d _ ((S1.trans O.s).trans nn.1) upd_same⟩
        | cons b c =>
          refine ite_no (decide_eq_false (fun z => by have q := V.int.inj z; simp only [List.length_cons] at lx; omega)) ?_
          refine ⟨.ref l, (by kernel_rfl), l, _, 0, .ref r, rfl, rfl, SqL.of hl, atI0 rfl, r, ys, b :: c, rfl, er, hx, (by simp), O.wf _ (by simp), (by omega), fun y H4 S4 hy => ?_⟩
          exact kq (readV (b :: c)) (by rw [hpr2]; rfl) y H4 ((S1.trans O.s).trans S4) hy

theorem ok_fromN {f fb : Addr} {fd fdb : FuncData} (F : Fun K "value_from" "value_from" svaluefrom f fd) (T : VTxt mg) (XB : XCls K mg "BadText" CB fb ["line", "column"]) (F_bt : Fun K "__init__" "BadText.__init__" sBadTextinit fb fdb) (B_bt : Binds K fdb ["self", "line", "column"] []) : FnOk P w K mg base (L2.CX P w) 5 f fd Pvaluefrom (spFromN CB) := by
  have G_bt : FnOk P w K mg base CX0 3 fb fdb ["self", "line", "column"] (spInitE CB) := (ok_btinit F_bt XB).mono (by decide)
  refine F.okX scvaluefrom (fun vs H Q E h => ?_) (fun cdv A outer s H vs Q E hr h => ?_)
  · obtain ⟨v, u, rfl, _⟩ := h
    rfl
  · obtain ⟨v, u, rfl, ht, hk, ke⟩ := h
    have hr1 := hr
    refine ⟨_, (pss_cons (ps_if (pt_not (pt_val (pe_callB call_isi (by rfl) T.isinstance (by decide +kernel) (pa_cons (pv 0) (pa_cons (pe_bltn (v := .ty "str") (by rfl) T.str (by decide +kernel) rfl) pa_nil)))))
      (pss_one (ps_raise rfl (takes_of rfl rfl rfl rfl) (pmk_oex XB.oex XB.ini XB.tyI G_bt hr1 B_bt .nil pass0 (by rfl) XB.gm (pa_cons pe_int (pa_cons pe_int pa_nil)))))
      pss_nil) pss_never), ?_⟩
    refine ⟨v, (by kernel_rfl), _, _, _, _, false, rfl, .ty "str", ht _, hk _, _, rfl, ?_⟩
    refine ite_yes rfl ?_
    refine ⟨by show 2 ≤ 1000; decide, fun a an => ⟨a, .int 0, .int 0, rfl, upd_same, fun d H' ha hd dn oth => ?_⟩⟩
    have nn := made_raise (fs := xdBT 0 0) an dn oth
    exact ⟨rfl, d, _, ha, hd, nn.2, ke d _ nn.1 upd_same⟩
end
end Nm
namespace Nm
open PySem PySem.Spec PyProof.Rows L2
theorem codes_app (a b : Str) : codes (a ++ b) = codes a ++ codes b := by
  show (a.cps ++ b.cps).toList = _
  rw [Array.toList_append]
theorem len_app (a b : Str) : (a ++ b).length = a.length + b.length := by
  show (a.cps ++ b.cps).size = _
  rw [Array.size_append]
  rfl
/-! ### the law's own reading against the program's: words -/
abbrev wOP : Wd → Prop := fun p => wS p = "("
def hdCl (ws : List Wd) : Prop := ∃ p r, ws = p :: r ∧ wS p = ")"
def okAb (told : List Itm) (rest : List (List Itm)) : Prop := mayP told = true ∨ (told = [] ∧ rest = [])
def InOk (ws : List Wd) (p : Tr) (r : List Wd) : Prop := ∀ told rest, okAb told rest → prun ([] :: told :: rest) ws = prun ((told ++ [.inr p]) :: rest) r
def InNo (ws r : List Wd) : Prop := ∀ told rest, okAb told rest → prun ([] :: told :: rest) ws = (none, r)
def RdOk : Bool → List Wd → Tr → List Wd → Prop
  | true, ws, p, r => ∀ told rest, mayP told = true → (rest = [] ∨ ¬ hdCl ws) → prun (told :: rest) ws = prun ((told ++ [.inr p]) :: rest) r
  | false, ws, p, r => prun [[]] ws = (if r = [] then some p else none, r)
def RdNo : Bool → List Wd → List Wd → Prop
  | true, ws, r => ∀ told rest, mayP told = true → (rest = [] ∨ ¬ hdCl ws) → prun (told :: rest) ws = (none, r)
  | false, ws, r => prun [[]] ws = (none, r)
theorem par_ne {w : Str} (h : isNum w = true ∨ isBig w = true) : w ≠ "(" ∧ w ≠ ")" := by
  refine ⟨fun z => ?_, fun z => ?_⟩ <;> subst z <;> rcases h with h | h <;> exact absurd h (by decide +kernel)
theorem tw_num {told : List Itm} {rest : List (List Itm)} {w : Str} (h : isNum w = true) (m : told = [] ∨ mayP told = true) : takeW (told :: rest) w = some ((told ++ [.inr (.num (intOf w))]) :: rest) := by
  obtain ⟨n1, n2⟩ := par_ne (.inl h)
  show takeW1 _ _ _ = _
  unfold takeW1
  rw [if_neg n1, if_neg n2, if_neg (by rcases m with rfl | m <;> simp [*]), if_pos h]
theorem tw_big {told : List Itm} {rest : List (List Itm)} {w : Str} (h : isBig w = true) (m : told = [] ∨ mayP told = true) : takeW (told :: rest) w = some ((told ++ [if told.isEmpty = true then .inl w else .inr (.mk w [])]) :: rest) := take_big h m
/-- a value stands alone: no word can follow but a closing one -/
theorem tw_after {x : Itm} {t : Tr} (e : x = .inr t) {rest : List (List Itm)} {w : Str} (h : rest = [] ∨ w ≠ ")") : takeW ([x] :: rest) w = none := by
  subst e
  show takeW1 _ _ _ = _
  unfold takeW1
  by_cases h1 : w = "("
  · rw [if_pos h1, if_pos (by simp [mayP])]
  · rw [if_neg h1]
    by_cases h2 : w = ")"
    · rw [if_pos h2]
      rcases h with rfl | h
      · rfl
      · exact absurd h2 h
    · rw [if_neg h2]; rfl
theorem prun_top (p : Tr) (r : List Wd) : prun [[.inr p]] r = (if r = [] then some p else none, r) := by
  cases r with
  | nil => rfl
  | cons q r =>
    rw [prun_no (tw_after rfl (.inl rfl)), if_neg (fun z => nomatch z)]
theorem in_ok {b : Bool} {p0 : Wd} {ws : List Wd} {p : Tr} {r : List Wd} (h0 : wS p0 = "(") (h : InOk ws p r) : RdOk b (p0 :: ws) p r := by
  cases b with
  | true =>
    intro told rest m _
    rw [prun_one (by rw [h0]; exact take_open (.inl m))]
    exact h told rest (.inl m)
  | false =>
    show prun [[]] (p0 :: ws) = _
    rw [prun_one (by rw [h0]; exact take_open (.inr ⟨rfl, rfl⟩)), h [] [] (.inr ⟨rfl, rfl⟩)]
    exact prun_top p r
theorem in_no {b : Bool} {p0 : Wd} {ws : List Wd} {r : List Wd} (h0 : wS p0 = "(") (h : InNo ws r) : RdNo b (p0 :: ws) r := by
  cases b with
  | true =>
    intro told rest m _
    rw [prun_one (by rw [h0]; exact take_open (.inl m))]
    exact h told rest (.inl m)
  | false =>
    show prun [[]] (p0 :: ws) = _
    rw [prun_one (by rw [h0]; exact take_open (.inr ⟨rfl, rfl⟩)), h [] [] (.inr ⟨rfl, rfl⟩)]
/-! numbers -/
theorem in_num {p q : Wd} {r : List Wd} (h : isNum (wS p) = true) (hq : wS q = ")") : InOk (p :: q :: r) (.num (intOf (wS p))) r := fun told rest _ => by
  rw [prun_one (tw_num h (.inl rfl)), prun_one (by rw [hq]; exact take_close (by simp))]
  rfl
theorem in_numNo {p : Wd} {r : List Wd} (h : isNum (wS p) = true) (hr : ¬ hdCl r) : InNo (p :: r) r := fun told rest _ => by
  rw [prun_one (tw_num h (.inl rfl))]
  cases r with
  | nil => rfl
  | cons q r =>
    exact prun_no (tw_after rfl (.inr fun z => hr ⟨q, r, rfl, z⟩)) r
theorem top_num {p : Wd} {r : List Wd} (h : isNum (wS p) = true) : RdOk false (p :: r) (.num (intOf (wS p))) r := by
  show prun [[]] (p :: r) = _
  rw [prun_one (tw_num h (.inl rfl))]
  exact prun_top _ r
theorem at_num {p : Wd} {r : List Wd} (h : isNum (wS p) = true) : RdOk true (p :: r) (.num (intOf (wS p))) r := fun told rest m _ => by
  rw [prun_one (tw_num h (.inr m))]
/-! no number, no big name -/
theorem tw_none {rest : List (List Itm)} {w : Str} (h1 : isNum w = false) (h2 : isBig w = false) (h3 : rest ≠ [] ∨ w ≠ "(") : takeW ([] :: rest) w = none := by
  show takeW1 _ _ _ = _
  unfold takeW1
  by_cases e1 : w = "("
  · rw [if_pos e1]
    rcases h3 with h3 | h3
    · cases rest with
      | nil => exact absurd rfl h3
      | cons a b => rfl
    · exact absurd e1 h3
  · rw [if_neg e1]
    by_cases e2 : w = ")"
    · rw [if_pos e2]
      cases rest with
      | nil => rfl
      | cons a b => rfl
    · rw [if_neg e2, h1, h2]
      rfl
theorem in_none {ws : List Wd} (h : ∀ p r, ws = p :: r → isNum (wS p) = false ∧ isBig (wS p) = false) : InNo ws ws := fun told rest _ => by
  cases ws with
  | nil => rfl
  | cons p r => exact prun_no (tw_none (h p r rfl).1 (h p r rfl).2 (.inl (by simp))) r
theorem top_none {ws : List Wd} (h : ∀ p r, ws = p :: r → isNum (wS p) = false ∧ isBig (wS p) = false ∧ wS p ≠ "(") : RdNo false ws ws := by
  show prun [[]] ws = _
  cases ws with
  | nil => rfl
  | cons p r => exact prun_no (tw_none (h p r rfl).1 (h p r rfl).2.1 (.inr (h p r rfl).2.2)) r
theorem at_none {ws : List Wd} (h : ∀ p r, ws = p :: r → isNum (wS p) = false ∧ isBig (wS p) = false ∧ wS p ≠ "(") (hn : ws ≠ []) : RdNo true ws ws := fun told rest m hc => by
  cases ws with
  | nil => exact absurd rfl hn
  | cons p r =>
    obtain ⟨h1, h2, h3⟩ := h p r rfl
    refine prun_no ?_ r
    show takeW1 _ _ _ = _
    unfold takeW1
    rw [if_neg h3]
    by_cases e2 : wS p = ")"
    · rw [if_pos e2]
      rcases hc with rfl | hc
      · rfl
      · exact absurd ⟨p, r, rfl, e2⟩ hc
    · rw [if_neg e2, if_neg (by rw [m]; simp), h1, h2]
      rfl
/-! a big name, and what follows it -/
theorem at_big {p : Wd} {r : List Wd} (h : isBig (wS p) = true) : RdOk true (p :: r) (.mk (wS p) []) r := fun told rest m _ => by
  rw [prun_one (tw_big h (.inr m)), if_neg (by cases told with | nil => cases m | cons a b => exact Bool.false_ne_true)]
def LpIn (ws : List Wd) (m : Str) (us : List Tr) (r : List Wd) : Prop := ∀ told rest, okAb told rest → prun ([] :: told :: rest) ws = prun ((.inl m :: us.map .inr) :: told :: rest) r
def LpTop (ws : List Wd) (m : Str) (us : List Tr) (r : List Wd) : Prop := prun [[]] ws = prun [(.inl m :: us.map .inr)] r
theorem lp_in {p : Wd} {r : List Wd} (h : isBig (wS p) = true) : LpIn (p :: r) (wS p) [] r := fun told rest _ => by
  rw [prun_one (tw_big h (.inl rfl))]
  rfl
theorem lp_top {p : Wd} {r : List Wd} (h : isBig (wS p) = true) : LpTop (p :: r) (wS p) [] r := by
  show prun [[]] (p :: r) = _
  rw [prun_one (tw_big h (.inl rfl))]
  rfl
theorem lp_in_more {ws r r' : List Wd} {m : Str} {us : List Tr} {p : Tr} (h : LpIn ws m us r) (hc : ¬ hdCl r) (k : RdOk true r p r') : LpIn ws m (us ++ [p]) r' := fun told rest a => by
  rw [h told rest a, k (.inl m :: us.map .inr) (told :: rest) rfl (.inr hc)]
  simp
theorem lp_in_no {ws r r' : List Wd} {m : Str} {us : List Tr} (h : LpIn ws m us r) (hc : ¬ hdCl r) (k : RdNo true r r') : InNo ws r' := fun told rest a => by
  rw [h told rest a]
  exact k (.inl m :: us.map .inr) (told :: rest) rfl (.inr hc)
theorem lp_in_end {ws r : List Wd} {q : Wd} {m : Str} {us : List Tr} (h : LpIn ws m us (q :: r)) (hq : wS q = ")") : InOk ws (.mk m us) r := fun told rest a => by
  rw [h told rest a, prun_one (by rw [hq]; exact take_close (by simp))]
  show prun ((told ++ [.inr (.mk m (valsI (us.map .inr)))]) :: rest) r = _
  rw [valsI_map]
theorem lp_in_stop {ws : List Wd} {m : Str} {us : List Tr} (h : LpIn ws m us []) : InNo ws [] := fun told rest a => by
  rw [h told rest a]
  rfl
theorem lp_top_more {ws r r' : List Wd} {m : Str} {us : List Tr} {p : Tr} (h : LpTop ws m us r) (k : RdOk true r p r') : LpTop ws m (us ++ [p]) r' := by
  show prun [[]] ws = _
  have h' : prun [[]] ws = _ := h
  rw [h', k (.inl m :: us.map .inr) [] rfl (.inl rfl)]
  simp
theorem lp_top_no {ws r r' : List Wd} {m : Str} {us : List Tr} (h : LpTop ws m us r) (k : RdNo true r r') : RdNo false ws r' := by
  show prun [[]] ws = _
  have h' : prun [[]] ws = _ := h
  rw [h']
  exact k (.inl m :: us.map .inr) [] rfl (.inl rfl)
theorem lp_top_end {ws : List Wd} {m : Str} {us : List Tr} (h : LpTop ws m us []) : RdOk false ws (.mk m us) [] := by
  show prun [[]] ws = _
  have h' : prun [[]] ws = _ := h
  rw [h', if_pos rfl]
  show (some (Tr.mk m (valsI (us.map .inr))), []) = _
  rw [valsI_map]
/-! kinds of words -/
theorem word_inj {a b : Str} (h : ("word " : Str) ++ a = ("word " : Str) ++ b) : a = b := by
  have e := congrArg codes h
  rw [codes_app, codes_app] at e
  exact str_ext (List.append_cancel_left e)
theorem lk_cases {w : Str} (h : w ≠ "") : lawKind w = w ∧ w ∈ kwL ∨ lawKind w = "big" ∨ lawKind w = "small" ∨ lawKind w = "number" ∨ lawKind w = "word " ++ w := by
  unfold lawKind
  by_cases c1 : w ∈ kwL
  · exact .inl ⟨by rw [if_pos (decide_eq_true c1)], c1⟩
  · rw [if_neg (by rw [decide_eq_false c1]; exact Bool.false_ne_true)]
    split
    · split
      · exact .inr (.inl rfl)
      · exact .inr (.inr (.inl rfl))
    · split
      · exact .inr (.inr (.inr (.inl rfl)))
      · exact .inr (.inr (.inr (.inr rfl)))
theorem lk_par {w x : Str} (h : w ≠ "") (hx : ("word " : Str) ++ x ≠ "big" ∧ ("word " : Str) ++ x ≠ "small" ∧ ("word " : Str) ++ x ≠ "number" ∧ ("word " : Str) ++ x ∉ kwL) (e : lawKind w = "word " ++ x) : w = x := by
  rcases lk_cases h with ⟨e1, e2⟩ | e1 | e1 | e1 | e1
  · rw [e1] at e
    exact absurd (e ▸ e2) hx.2.2.2
  · exact absurd (e.symm.trans e1) hx.1
  · exact absurd (e.symm.trans e1) hx.2.1
  · exact absurd (e.symm.trans e1) hx.2.2.1
  · exact word_inj (e1.symm.trans e)
theorem lk_open {w : Str} (h : w ≠ "") : lawKind w = "word (" ↔ w = "(" := by
  have e0 : ("word (" : Str) = ("word " : Str) ++ "(" := by decide +kernel
  constructor
  · intro e
    rw [e0] at e
    exact lk_par h (by decide +kernel) e
  · rintro rfl
    decide +kernel
theorem lk_close {w : Str} (h : w ≠ "") : lawKind w = "word )" ↔ w = ")" := by
  have e0 : ("word )" : Str) = ("word " : Str) ++ ")" := by decide +kernel
  constructor
  · intro e
    rw [e0] at e
    exact lk_par h (by decide +kernel) e
  · rintro rfl
    decide +kernel
theorem lk_num {w : Str} (h : w ≠ "") : lawKind w = "number" ↔ isNum w = true := by
  rw [(asked_eq h).2.2, decide_eq_true_eq]
theorem lk_big {w : Str} (h : w ≠ "") : lawKind w = "big" ↔ isBig w = true := by
  rw [(asked_eq h).1, decide_eq_true_eq]
/-! words are not empty; how many open -/
theorem flush_ne {k : Nat} {w : List Nat} {p : Wd} (h : p ∈ flush k w) : p.1 ≠ [] := by
  unfold flush at h
  split at h
  · exact nomatch h
  · rename_i hw
    obtain rfl := List.mem_singleton.mp h
    exact hw
theorem scan_ne : ∀ (l : List Nat) (k : Nat) (w : List Nat) (p : Wd), p ∈ scan l k w → p.1 ≠ []
  | [], k, w, p, h => flush_ne (show p ∈ flush k w from h)
  | c :: r, k, w, p, h => by
    unfold scan at h
    split at h
    · exact flush_ne h
    · split at h
      · rcases List.mem_append.mp h with h | h
        · exact flush_ne h
        · exact scan_ne r _ _ p h
      · split at h
        · rcases List.mem_append.mp h with h | h
          · exact flush_ne h
          · rcases List.mem_cons.mp h with rfl | h
            · simp
            · exact scan_ne r _ _ p h
        · exact scan_ne r _ _ p h
theorem wS_ne {p : Wd} (h : p.1 ≠ []) : wS p ≠ "" := fun z => h (by
  have e := congrArg codes z
  have e2 : codes (wS p) = p.1 := by show p.1.toArray.toList = _; simp
  rw [e2] at e
  exact e)
def par (ws : List Wd) : Nat := (ws.filter fun p => decide (p.1 = [40])).length
theorem par_cons (p : Wd) (r : List Wd) : par (p :: r) = (if p.1 = [40] then 1 else 0) + par r := by
  unfold par
  rw [List.filter_cons]
  by_cases h : p.1 = [40]
  · rw [if_pos (decide_eq_true h), if_pos h, List.length_cons]; omega
  · rw [if_neg (by rw [decide_eq_false h]; exact Bool.false_ne_true), if_neg h]; omega
theorem par_drop (ws : List Wd) (k : Nat) : par (ws.drop k) ≤ par ws := by
  unfold par
  exact (List.Sublist.filter _ (List.drop_sublist k ws)).length_le
end Nm
namespace Nm
open PySem PySem.Spec PyProof.Rows L2
/-! ### the state of the law's reading -/
def kW : Key := .inr "words"
def kA : Key := .inr "at"
theorem w_a : ¬ kW = kA := by decide +kernel
def stK (l : Addr) (k : Nat) : List (Key × V) := [(kW, .ref l), (kA, .int (k : Int))]
theorem st_w (l : Addr) (k : Nat) : valV (stK l k) kW = some (.ref l) := by unfold stK; rw [valV_pos rfl]
theorem st_a (l : Addr) (k : Nat) : valV (stK l k) kA = some (.int (k : Int)) := by unfold stK; rw [valV_neg w_a, valV_pos rfl]
theorem st_put (l : Addr) (k : Nat) : putK (stK l k) kA (.int ((k : Int) + 1)) = stK l (k + 1) := by
  rw [putK_old _ (st_a l k)]
  unfold stK
  simp only [List.map_cons, List.map_nil, if_neg w_a, if_true]
  rfl
/-- a word of the law -/
structure WOk (wl : List Wd) : Prop where
  ne : ∀ p ∈ wl, p.1 ≠ []
  ln : ∀ p ∈ wl, p.1.length ≤ 900000
  tot : wl.length ≤ 900000
structure StAt (H : Hp) (st l : Addr) (xs : List V) (wl : List Wd) (k : Nat) : Prop where
  at_ : H st = some (.dK (stK l k))
  words : H l = some (.lst xs)
  w : WL H wl xs
  le : k ≤ wl.length
theorem StAt.same {H H' : Hp} {st l : Addr} {xs : List V} {wl : List Wd} {k : Nat} (h : StAt H st l xs wl k) (s : Same H H') : StAt H' st l xs wl k := ⟨s _ _ h.at_, s _ _ h.words, h.w.same s, h.le⟩
/-- all but the state stays -/
structure SS (H : Hp) (st l : Addr) (k : Nat) (H' : Hp) : Prop where
  at_ : H' st = some (.dK (stK l k))
  keep : ∀ b o, b ≠ st → H b = some o → H' b = some o
theorem StAt.ss {H H' : Hp} {st l : Addr} {xs : List V} {wl : List Wd} {k k' : Nat} (h : StAt H st l xs wl k) (s : SS H st l k' H') (le : k' ≤ wl.length) : StAt H' st l xs wl k' :=
  ⟨s.at_, s.keep _ _ (ne_of h.words h.at_ (by intro z; cases z)) h.words, h.w.mono fun T ys q => s.keep _ _ (ne_of q h.at_ (by intro z; cases z)) q, le⟩
theorem SS.start {H : Hp} {st l : Addr} {xs : List V} {wl : List Wd} {k : Nat} (h : StAt H st l xs wl k) : SS H st l k H := ⟨h.at_, fun _ _ _ e => e⟩
theorem SS.same {H H1 H2 : Hp} {st l : Addr} {k : Nat} (h : SS H st l k H1) (s : Same H1 H2) : SS H st l k H2 := ⟨s _ _ h.at_, fun b o n e => s _ _ (h.keep b o n e)⟩
theorem SS.of_same {H H1 : Hp} {st l : Addr} {xs : List V} {wl : List Wd} {k : Nat} (h : StAt H st l xs wl k) (s : Same H H1) : SS H st l k H1 := (SS.start h).same s
theorem SS.step {H H1 H2 : Hp} {st l : Addr} {k k' : Nat} (h : SS H st l k H1) (s : SS H1 st l k' H2) : SS H st l k' H2 := ⟨s.at_, fun b o n e => s.keep b o n (h.keep b o n e)⟩
theorem SS.put {H H1 : Hp} {st l : Addr} {k : Nat} (h : SS H st l k H1) : SS H st l (k + 1) (upd H1 st (.dK (stK l (k + 1)))) := ⟨upd_same, fun b o n e => by rw [upd_ne n]; exact h.keep b o n e⟩
theorem SS.pre {H0 H H1 : Hp} {st l : Addr} {k : Nat} (s : Same H0 H) (h : SS H st l k H1) : SS H0 st l k H1 := ⟨h.at_, fun b o n e => h.keep b o n (s _ _ e)⟩
def seenV : List Wd → V
  | [] => .non
  | p :: _ => .str (lawKind (wS p))
def hitK (ws : List Wd) (x : Str) : Bool := match ws with
  | [] => false
  | p :: _ => decide (lawKind (wS p) = x)
theorem seen_in (ws : List Wd) (x : Str) : inV (seenV ws) [.str x] = hitK ws x := by
  cases ws with
  | nil => rfl
  | cons p r =>
    show inV (.str (lawKind (wS p))) (([x] : List Str).map V.str) = decide (lawKind (wS p) = x)
    rw [inV_strs]
    by_cases h : lawKind (wS p) = x
    · rw [decide_eq_true h, decide_eq_true (by rw [h]; simp)]
    · rw [decide_eq_false h, decide_eq_false (by simpa using h)]
theorem drop_at {wl : List Wd} {k : Nat} {p : Wd} (e : wl[k]? = some p) : wl.drop k = p :: wl.drop (k + 1) := by
  obtain ⟨h1, h2⟩ := List.getElem?_eq_some_iff.mp e
  rw [List.drop_eq_getElem_cons h1, h2]
theorem wl_get {H : Hp} {wl : List Wd} {xs : List V} (h : WL H wl xs) {k : Nat} (hk : k < wl.length) : ∃ T, xs[k]? = some (.ref T) ∧ H T = some (.tup [.str (wS wl[k]), .int (wl[k].2 : Int)]) := by
  have lx := h.len
  have e : xs[k]? = some xs[k] := List.getElem?_eq_getElem (by omega)
  obtain ⟨p, hp, T, eT, hT⟩ := pair_get h e
  rw [List.getElem?_eq_getElem hk] at hp
  obtain rfl := Option.some.inj hp
  exact ⟨T, by rw [e, eT], hT⟩
def spSeen : Sp := fun vs H Q _ => ∃ (st l : Addr) (xs : List V) (wl : List Wd) (k : Nat), vs = [.ref st] ∧ StAt H st l xs wl k ∧ WOk wl ∧ ∀ H', Same H H' → Q (seenV (wl.drop k)) H'
def spTk : Sp := fun vs H Q _ => ∃ (st l q : Addr) (xs : List V) (wl : List Wd) (k : Nat) (x : Str), vs = [.ref st, .ref q] ∧ StAt H st l xs wl k ∧ WOk wl ∧ H q = some (.lst [.str x]) ∧
  (hitK (wl.drop k) x = true → ∀ H', SS H st l (k + 1) H' → Q (.bl true) H') ∧ (hitK (wl.drop k) x = false → ∀ H', SS H st l k H' → Q (.bl false) H')
theorem hit_lt {wl : List Wd} {k : Nat} {x : Str} (h : hitK (wl.drop k) x = true) : ∃ hk : k < wl.length, lawKind (wS wl[k]) = x := by
  by_cases hk : k < wl.length
  · rw [List.drop_eq_getElem_cons hk] at h
    exact ⟨hk, of_decide_eq_true h⟩
  · rw [List.drop_of_length_le (by omega)] at h
    cases h
section
variable {P : Program} {w : World} {K : PySem.W.Frag} {mg : Str → Option Value} {base : Heap} {C fE CB : Addr}

abbrev sLseen : Stmt := top 34
abbrev NLseen : List Str := ["_law_state"]
abbrev PLseen : List Str := ["_law_state"]
theorem scLseen : FnScope NLseen PLseen (defScope sLseen) := ⟨rfl, rfl, rfl, by decide +kernel, rfl, by decide +kernel, by decide +kernel⟩

theorem ok_seen {f fK fS : Addr} {fd fdK fdS : FuncData} (F : Fun K "_law_seen" "_law_seen" sLseen f fd) (T : VTxt mg) (WT : WTxt mg) (F_law_word_kind : Fun K "_law_word_kind" "_law_word_kind" sLwordkind fK fdK) (b_law_word_kind : Binds K fdK ["_law_word"] []) (g_law_word_kind : mg "_law_word_kind" = some (.ref fK))
    (F_law_signs : Fun K "_law_signs" "_law_signs" sLsigns fS fdS) (b_law_signs : Binds K fdS [] []) (g_law_signs : mg "_law_signs" = some (.ref fS)) : FnOk P w K mg base CX0 3 f fd PLseen spSeen := by
  have G_law_word_kind : FnOk P w K mg base CX0 2 fK fdK PLwordkind spKind := (ok_kind F_law_word_kind WT F_law_signs b_law_signs g_law_signs).mono (by decide)
  refine F.ok scLseen (fun vs H Q E h => ?_) (fun cdv A outer s H vs Q E hr h => ?_)
  · obtain ⟨st, l, xs, wl, k, rfl, _⟩ := h
    rfl
  · obtain ⟨st, l, xs, wl, k, rfl, S, W, kk⟩ := h
    have hr1 := hr
    have hu := hu_of hr
    refine ⟨_, (pss_one (ps_ret (pe_ifExp (pt_cmpR op_lt (pe_dget hu (pv 0) pe_str (fun _ _ => rfl)) (pe_callB call_len_seq (by rfl) T.len PySem.boot_len (pa_cons (pe_dget hu (pv 0) pe_str (fun _ _ => rfl)) pa_nil)) (nomark _)) (pe_call G_law_word_kind hr1 rfl g_law_word_kind F_law_word_kind.kp b_law_word_kind .nil pass0 (pa_cons (pe_ix ix_tup (pe_ix ix_list (pe_dget hu (pv 0) pe_str (fun _ _ => rfl)) (pe_dget hu (pv 0) pe_str (fun _ _ => rfl)) (fun _ _ => rfl)) pe_int (fun _ _ => rfl)) pa_nil)) pe_non))), ?_⟩
    have lx := S.w.len
    refine ⟨.ref st, (by kernel_rfl), st, .int (k : Int), rfl, dget S.at_ (st_a l k), .ref st, (by kernel_rfl), st, .ref l, rfl, dget S.at_ (st_w l k), l, _, rfl, .inl (SqL.of S.words), _, _, rfl, rfl, _, rfl, ?_⟩
    by_cases hk : k < wl.length
    · refine ite_yes (decide_eq_true (by omega)) ?_
      obtain ⟨Tk, e1, e2⟩ := wl_get S.w hk
      refine ⟨.ref st, (by kernel_rfl), st, .ref l, rfl, dget S.at_ (st_w l k), .ref st, (by kernel_rfl), st, .int (k : Int), rfl, dget S.at_ (st_a l k), l, _, _, .ref Tk, rfl, rfl, SqL.of S.words, atI_nat e1, Tk, _, 0, .str (wS wl[k]), rfl, rfl, SqT.of e2, rfl, ?_⟩
      have hm := List.getElem_mem hk
      refine ⟨wS wl[k], rfl, wS_ne (W.ne _ hm), by rw [len_codes]; have := W.ln _ hm; show (wl[k].1.toArray.toList).length ≤ _; simpa using this, fun H' S' => ?_⟩
      have e := kk H' S'
      rw [List.drop_eq_getElem_cons hk] at e
      exact e
    · refine ite_no (decide_eq_false (by omega)) ?_
      have e := kk H (fun _ _ e => e)
      rw [List.drop_of_length_le (by omega)] at e
      exact e

abbrev sLtake : Stmt := top 35
abbrev NLtake : List Str := ["_law_state", "_law_kinds"]
abbrev PLtake : List Str := ["_law_state", "_law_kinds"]
theorem scLtake : FnScope NLtake PLtake (defScope sLtake) := ⟨rfl, rfl, rfl, by decide +kernel, rfl, by decide +kernel, by decide +kernel⟩

theorem ok_tk {f fE' fK fS : Addr} {fd fdE' fdK fdS : FuncData} (F : Fun K "_law_take" "_law_take" sLtake f fd) (T : VTxt mg) (WT : WTxt mg) (F_law_seen : Fun K "_law_seen" "_law_seen" sLseen fE' fdE') (b_law_seen : Binds K fdE' ["_law_state"] []) (g_law_seen : mg "_law_seen" = some (.ref fE'))
    (F_law_word_kind : Fun K "_law_word_kind" "_law_word_kind" sLwordkind fK fdK) (b_law_word_kind : Binds K fdK ["_law_word"] []) (g_law_word_kind : mg "_law_word_kind" = some (.ref fK))
    (F_law_signs : Fun K "_law_signs" "_law_signs" sLsigns fS fdS) (b_law_signs : Binds K fdS [] []) (g_law_signs : mg "_law_signs" = some (.ref fS)) : FnOk P w K mg base CX0 4 f fd PLtake spTk := by
  have G_law_seen : FnOk P w K mg base CX0 3 fE' fdE' PLseen spSeen := ok_seen F_law_seen T WT F_law_word_kind b_law_word_kind g_law_word_kind F_law_signs b_law_signs g_law_signs
  refine F.ok scLtake (fun vs H Q E h => ?_) (fun cdv A outer s H vs Q E hr h => ?_)
  · obtain ⟨st, l, q, xs, wl, k, x, rfl, _⟩ := h
    rfl
  · obtain ⟨st, l, q, xs, wl, k, x, rfl, S, W, hq, ky, kn⟩ := h
    have hr1 := hr
    have hu := hu_of hr
    refine ⟨_, (pss_cons (ps_if (pt_cmpR op_notIn_seq (pe_call G_law_seen hr1 rfl g_law_seen F_law_seen.kp b_law_seen .nil pass0 (pa_cons (pv 0) pa_nil)) (pv 1) (by rfl))
      (pss_one (ps_ret pe_bl))
      pss_nil)
      (pss_cons (ps_dput hu (pv 0) pe_str (pe_op op_add (pe_dget hu (pv 0) pe_str (fun _ _ => rfl)) pe_int) rfl)
      (pss_one (ps_ret pe_bl)))), ?_⟩
    refine ⟨.ref st, (by kernel_rfl), st, l, xs, wl, k, rfl, S, W, fun H1 S1 => ?_⟩
    refine ⟨.ref q, (by kernel_rfl), q, _, rfl, .inl (SqL.of (S1 _ _ hq)), by cases wl.drop k <;> rfl, rfl, _, rfl, ?_⟩
    rw [seen_in]
    cases h : hitK (wl.drop k) x with
    | false =>
      refine ite_yes rfl ?_
      exact kn h H1 (SS.of_same S S1)
    | true =>
      refine ite_no rfl ?_
      have T1 := SS.of_same S S1
      refine ⟨.ref st, (by kernel_rfl), st, .int (k : Int), rfl, dget T1.at_ (st_a l k), _, _, rfl, rfl, .ref st, (by kernel_rfl), st, _, rfl, dput T1.at_ (by show 2 < sizeLine; decide) (st_put l k), ?_⟩
      exact ky h _ T1.put

/-! the words as data -/
def dW (wl : List Wd) : PyData := .list (wl.map fun p => .tuple [.str (wS p), .int (p.2 : Int)])
theorem dpAll_W {H : Hp} : ∀ {wl : List Wd} {xs : List V}, WL H wl xs → DpAll K H xs (wl.map fun p => .tuple [.str (wS p), .int (p.2 : Int)])
  | _, _, .nil => .nil
  | _, _, .cons ⟨T, e, q⟩ r => by
    rw [e]
    exact .cons (.tup (SqT.of q) (.cons (.str _) (.cons (.int _) .nil))) (dpAll_W r)
theorem canLay_W : ∀ wl : List Wd, (∀ p ∈ wl, PyData.strOk (wS p) = true) → PyData.canLayAll0 (wl.map fun p => .tuple [.str (wS p), .int (p.2 : Int)]) = true ∧ PyData.depthAll (wl.map fun p => .tuple [.str (wS p), .int (p.2 : Int)]) ≤ 2
  | [], _ => ⟨rfl, Nat.zero_le _⟩
  | p :: r, h => by
    obtain ⟨h1, h2⟩ := canLay_W r fun q m => h q (List.mem_cons_of_mem _ m)
    have h0 := h p (List.mem_cons_self ..)
    refine ⟨by simp [PyData.canLay0, PyData.canLayAll0, h0, h1], ?_⟩
    simp only [List.map_cons, PyData.depth, PyData.depthAll]
    omega
theorem shaped_W {wl : List Wd} (h : ∀ p ∈ wl, PyData.strOk (wS p) = true) : SeqAt.shaped (dW wl) = true := by
  obtain ⟨h1, h2⟩ := canLay_W wl h
  unfold SeqAt.shaped
  have h3 : (dW wl).canLay0 = true := by simp [dW, PyData.canLay0, h1]
  have h4 : (dW wl).depth ≤ 64 := by simp only [dW, PyData.depth]; omega
  rw [h3, decide_eq_true h4]
  rfl
theorem eqv_W (wl : List Wd) : PyData.eqv (dW wl) (.list []) = wl.isEmpty := by
  cases wl <;> simp [dW, PyData.eqv, PyData.eqvAll]
def spCol : Sp := fun vs H Q _ => ∃ (st l : Addr) (xs : List V) (wl : List Wd) (k : Nat), vs = [.ref st] ∧ StAt H st l xs wl k ∧ WOk wl ∧ (∀ p ∈ wl, PyData.strOk (wS p) = true) ∧ ∀ H', Same H H' → Q (.int ((colAt wl (wl.drop k) : Nat) : Int)) H'

abbrev sLcolumn : Stmt := top 36
abbrev NLcolumn : List Str := ["_law_state"]
abbrev PLcolumn : List Str := ["_law_state"]
theorem scLcolumn : FnScope NLcolumn PLcolumn (defScope sLcolumn) := ⟨rfl, rfl, rfl, by decide +kernel, rfl, by decide +kernel, by decide +kernel⟩

theorem ok_col {f : Addr} {fd : FuncData} (F : Fun K "_law_column" "_law_column" sLcolumn f fd) (T : VTxt mg) : FnOk P w K mg base CX0 1 f fd PLcolumn spCol := by
  refine F.ok scLcolumn (fun vs H Q E h => ?_) (fun cdv A outer s H vs Q E hr h => ?_)
  · obtain ⟨st, l, xs, wl, k, rfl, _⟩ := h
    rfl
  · obtain ⟨st, l, xs, wl, k, rfl, S, W, wa, kk⟩ := h
    have hu := hu_of hr
    refine ⟨_, (pss_cons (ps_if (pt_cmpR op_lt (pe_dget hu (pv 0) pe_str (fun _ _ => rfl)) (pe_callB call_len_seq (by rfl) T.len PySem.boot_len (pa_cons (pe_dget hu (pv 0) pe_str (fun _ _ => rfl)) pa_nil)) (nomark _))
      (pss_one (ps_ret (pe_ix ix_tup (pe_ix ix_list (pe_dget hu (pv 0) pe_str (fun _ _ => rfl)) (pe_dget hu (pv 0) pe_str (fun _ _ => rfl)) (fun _ _ => rfl)) pe_int (fun _ _ => rfl))))
      pss_nil)
      (pss_cons (ps_if (pt_cmpR (op_eqD hr.units) (pe_dget hu (pv 0) pe_str (fun _ _ => rfl)) (pe_lst pa_nil) (nomark _))
      (pss_one (ps_ret pe_int))
      pss_nil)
      (pss_one (ps_ret (pe_op op_add (pe_ix ix_tup (pe_ix ix_list (pe_dget hu (pv 0) pe_str (fun _ _ => rfl)) (pe_un un_neg pe_int) (fun _ _ => rfl)) pe_int (fun _ _ => rfl)) (pe_callB call_len_str (by rfl) T.len PySem.boot_len (pa_cons (pe_ix ix_tup (pe_ix ix_list (pe_dget hu (pv 0) pe_str (fun _ _ => rfl)) (pe_un un_neg pe_int) (fun _ _ => rfl)) pe_int (fun _ _ => rfl)) pa_nil))))))), ?_⟩
    have lx := S.w.len
    refine ⟨.ref st, (by kernel_rfl), st, .int (k : Int), rfl, dget S.at_ (st_a l k), .ref st, (by kernel_rfl), st, .ref l, rfl, dget S.at_ (st_w l k), l, _, rfl, .inl (SqL.of S.words), _, _, rfl, rfl, _, rfl, ?_⟩
    by_cases hk : k < wl.length
    · refine ite_yes (decide_eq_true (by omega)) ?_
      obtain ⟨Tk, e1, e2⟩ := wl_get S.w hk
      refine ⟨.ref st, (by kernel_rfl), st, .ref l, rfl, dget S.at_ (st_w l k), .ref st, (by kernel_rfl), st, .int (k : Int), rfl, dget S.at_ (st_a l k), l, _, _, .ref Tk, rfl, rfl, SqL.of S.words, atI_nat e1, Tk, _, 1, .int (wl[k].2 : Int), rfl, rfl, SqT.of e2, rfl, ?_⟩
      have e := kk H (fun _ _ e => e)
      rw [List.drop_eq_getElem_cons hk] at e
      exact e
    · refine ite_no (decide_eq_false (by omega)) ?_
      rw [List.drop_of_length_le (by omega)] at kk
      refine ⟨.ref st, (by kernel_rfl), st, .ref l, rfl, dget S.at_ (st_w l k), by show 0 ≤ sizeLine; decide, fun q nq => ?_⟩
      have s1 := same_new (o := .lst []) nq
      have S1 := S.same s1
      refine ⟨dW wl, .list [], .lst (SqL.of S1.words) (dpAll_W S1.w), .lst (SqL.of upd_same) .nil, shaped_W wa, by decide +kernel, _, rfl, ?_⟩
      rw [eqv_W]
      generalize upd H q (.lst []) = H1 at s1 S1 ⊢
      rcases wl_last S1.w with ⟨rfl, rfl⟩ | ⟨wl', p, xs', Tp, rfl, rfl, hp⟩
      · refine ite_yes rfl ?_
        exact kk H1 s1
      · refine ite_no (by cases wl' <;> rfl) ?_
        have hb := W.ln p (by simp)
        have lq : (⟨p.1.toArray⟩ : Str).length = p.1.length := by rw [len_codes]
        have D := dget S1.at_ (st_w l k)
        refine ⟨.ref st, (by kernel_rfl), st, .ref l, rfl, D, _, rfl, l, _, _, .ref Tp, rfl, rfl, SqL.of S1.words, atI_last _ _, Tp, _, 1, .int (p.2 : Int), rfl, rfl, SqT.of hp, rfl, .ref st, (by kernel_rfl), st, .ref l, rfl, D, _, rfl, l, _, _, .ref Tp, rfl, rfl, SqL.of S1.words, atI_last _ _, Tp, _, 0, .str ⟨p.1.toArray⟩, rfl, rfl, SqT.of hp, rfl, _, rfl, sz_of (by rw [lq]; omega), _, _, rfl, rfl, ?_⟩
        have e : endC (wl' ++ [p]) = p.2 + p.1.length := by simp [endC]
        have e2 : ((p.2 : Nat) : Int) + ((p.1.length : Nat) : Int) = ((p.2 + p.1.length : Nat) : Int) := by omega
        have kk' := kk H1 s1
        have e3 : colAt (wl' ++ [p]) [] = endC (wl' ++ [p]) := rfl
        rw [e3, e, ← e2] at kk'
        rw [lq]
        exact kk'
end
end Nm
namespace Nm
open PySem PySem.Spec PyProof.Rows L2
/-! ### _law_read -/
theorem SS.none {H H1 : Hp} {st l a : Addr} {k : Nat} (h : SS H st l k H1) (hs : H st ≠ Option.none) (e : H1 a = Option.none) : H a = Option.none := by
  cases q : H a with
  | none => rfl
  | some o =>
    by_cases as : a = st
    · rw [as, h.at_] at e
      cases e
    · rw [h.keep a o as q] at e
      cases e
theorem New.ss {H G H1 H2 : Hp} {st l : Addr} {k : Nat} (m : New H G H1) (hs : H st ≠ Option.none) (s : SS H1 st l k H2) : New H G H2 := ⟨fun b o e => s.keep b o (fun q => by rw [q, m.ap st hs] at e; cases e) (m.in_ _ _ e), m.ap⟩
theorem hit_no {ws : List Wd} {x : Str} (h : hitK ws x = false) : ∀ p r, ws = p :: r → lawKind (wS p) ≠ x := fun p r e z => by
  subst e
  have q : hitK (p :: r) x = true := decide_eq_true z
  rw [h] at q
  cases q
theorem hit_yes {wl : List Wd} {k : Nat} {x : Str} (h : hitK (wl.drop k) x = true) : ∃ hk : k < wl.length, wl.drop k = wl[k] :: wl.drop (k + 1) ∧ lawKind (wS wl[k]) = x := by
  obtain ⟨hk, e⟩ := hit_lt h
  exact ⟨hk, List.drop_eq_getElem_cons hk, e⟩
theorem open_40 {p : Wd} (h : wS p = "(") : p.1 = [40] := by
  have e := congrArg codes h
  have e2 : codes (wS p) = p.1 := by show p.1.toArray.toList = _; simp
  rw [e2] at e
  rw [e]
  decide +kernel
theorem mem_drop {wl : List Wd} {k : Nat} {p : Wd} {r : List Wd} (e : wl.drop k = p :: r) : p ∈ wl := List.mem_of_mem_drop (by rw [e]; exact List.mem_cons_self ..)
theorem drop_more {wl : List Wd} {k k' : Nat} (h : k ≤ k') : wl.drop k' = (wl.drop k).drop (k' - k) := by
  rw [List.drop_drop]
  congr 1
  omega
theorem par_more {wl : List Wd} {k k' : Nat} (h : k ≤ k') : par (wl.drop k') ≤ par (wl.drop k) := by
  rw [drop_more h]
  exact par_drop _ _
def spRd (d : Nat) : Sp := fun vs H Q _ => ∃ (st l : Addr) (xs : List V) (wl : List Wd) (k : Nat) (b : Bool), vs = [.ref st, .bl b] ∧ StAt H st l xs wl k ∧ WOk wl ∧ (b = true → wl.drop k ≠ []) ∧ par (wl.drop k) + (if b then 0 else 1) < d ∧
  (∀ (H' : Hp) (k' : Nat), SS H st l k' H' → k ≤ k' → k' ≤ wl.length → RdNo b (wl.drop k) (wl.drop k') → Q .non H') ∧
  (∀ (H' G : Hp) (k' : Nat) (q : Addr) (y : V) (p : Tr), SS H st l k' H' → k < k' → k' ≤ wl.length → RdOk b (wl.drop k) p (wl.drop k') → H' q = some (.lst [y]) → New H G H' → OAt G y p → Q (.ref q) H')
section
variable {P : Program} {w : World} {K : PySem.W.Frag} {mg : Str → Option Value} {base : Heap} {C fE CB : Addr}

abbrev sLread : Stmt := top 37
abbrev NLread : List Str := ["_law_state", "_law_is_atom", "_law_is_inner", "_law_at", "_law_parts", "_law_lap", "_law_part"]
abbrev PLread : List Str := ["_law_state", "_law_is_atom"]
theorem scLread : FnScope NLread PLread (defScope sLread) := ⟨rfl, rfl, rfl, by decide +kernel, rfl, by decide +kernel, by decide +kernel⟩

theorem or_in {b : Bool} {A : Prop} {B : Prop} (k : A) : if (!b) = true then A else (∃ c : Bool, V.bl true = .bl c ∧ if c = true then A else B) := by
  cases b with
  | false => rw [if_pos (by rfl)]; exact k
  | true => rw [if_neg (by decide)]; exact ⟨true, rfl, by rw [if_pos rfl]; exact k⟩

theorem ok_lread {f fT fE' fK fS : Addr} {fd fdT fdE' fdK fdS : FuncData} (F_law_read : Fun K "_law_read" "_law_read" sLread f fd) (T : VTxt mg) (WT : WTxt mg) (F_law_take : Fun K "_law_take" "_law_take" sLtake fT fdT) (b_law_take : Binds K fdT ["_law_state", "_law_kinds"] []) (g_law_take : mg "_law_take" = some (.ref fT))
    (F_law_seen : Fun K "_law_seen" "_law_seen" sLseen fE' fdE') (b_law_seen : Binds K fdE' ["_law_state"] []) (g_law_seen : mg "_law_seen" = some (.ref fE'))
    (F_law_word_kind : Fun K "_law_word_kind" "_law_word_kind" sLwordkind fK fdK) (b_law_word_kind : Binds K fdK ["_law_word"] []) (g_law_word_kind : mg "_law_word_kind" = some (.ref fK))
    (F_law_signs : Fun K "_law_signs" "_law_signs" sLsigns fS fdS) (b_law_signs : Binds K fdS [] []) (g_law_signs : mg "_law_signs" = some (.ref fS))
    (b_law_read : Binds K fd ["_law_state", "_law_is_atom"] []) (g_law_read : mg "_law_read" = some (.ref f)) : ∀ d : Nat, FnOk P w K mg base CX0 (d + 5) f fd PLread (spRd d)
  | 0 => by
    refine F_law_read.ok scLread (fun vs H Q E h => ?_) (fun cdv A outer s H vs Q E hr h => ?_)
    · obtain ⟨st, l, xs, wl, k, b, rfl, _⟩ := h
      rfl
    · obtain ⟨st, l, xs, wl, k, b, rfl, _, _, _, hp, _⟩ := h
      exact absurd hp (Nat.not_lt_zero _)
  | d + 1 => by
    have G_law_read := ok_lread F_law_read T WT F_law_take b_law_take g_law_take F_law_seen b_law_seen g_law_seen F_law_word_kind b_law_word_kind g_law_word_kind F_law_signs b_law_signs g_law_signs b_law_read g_law_read d
    have G_law_take : FnOk P w K mg base CX0 (d + 5) fT fdT PLtake spTk := (ok_tk F_law_take T WT F_law_seen b_law_seen g_law_seen F_law_word_kind b_law_word_kind g_law_word_kind F_law_signs b_law_signs g_law_signs).mono (by omega)
    have G_law_seen : FnOk P w K mg base CX0 (d + 5) fE' fdE' PLseen spSeen := (ok_seen F_law_seen T WT F_law_word_kind b_law_word_kind g_law_word_kind F_law_signs b_law_signs g_law_signs).mono (by omega)
    refine F_law_read.ok scLread (fun vs H Q E h => ?_) (fun cdv A outer s H vs Q E hr h => ?_)
    · obtain ⟨st, l, xs, wl, k, b, rfl, _⟩ := h
      rfl
    · obtain ⟨st, l, xs, wl, k, b, rfl, S, W, hne', hpar, kN0, kO0⟩ := h
      have hr1 := hr
      have hu := hu_of hr
      have hst : H st ≠ Option.none := by rw [S.at_]; exact fun z => nomatch z
      have hkle := S.le
      refine ⟨_, (pss_cons (ps_set (i := 2) scLread.nd rfl (Or.inl rfl) (pe_call G_law_take hr1 rfl g_law_take F_law_take.kp b_law_take .nil pass0 (pa_cons (pv 0) (pa_cons (pe_lst (pa_cons pe_str pa_nil)) pa_nil))))
      (pss_cons (ps_set (i := 3) scLread.nd rfl (Or.inl rfl) (pe_dget hu (pv 0) pe_str (fun _ _ => rfl)))
      (pss_cons (ps_if (pt_val (pe_call G_law_take hr1 rfl g_law_take F_law_take.kp b_law_take .nil pass0 (pa_cons (pv 0) (pa_cons (pe_lst (pa_cons pe_str pa_nil)) pa_nil))))
      (pss_cons (ps_if (PW.pt (pw_and (pt_val (pv 2)) (pw_and1 (pt_not (pt_val (pe_call G_law_take hr1 rfl g_law_take F_law_take.kp b_law_take .nil pass0 (pa_cons (pv 0) (pa_cons (pe_lst (pa_cons pe_str pa_nil)) pa_nil))))))))
      (pss_one (ps_ret pe_non))
      pss_nil)
      (pss_one (ps_ret (pe_lst (pa_cons (pe_callTy call_int_str (by rfl) T.int (by decide +kernel) (pa_cons (pe_ix ix_tup (pe_ix ix_list (pe_dget hu (pv 0) pe_str (fun _ _ => rfl)) (pv 3) (fun _ _ => rfl)) pe_int (fun _ _ => rfl)) pa_nil)) pa_nil)))))
      pss_nil)
      (pss_cons (ps_if (pt_not (pt_val (pe_call G_law_take hr1 rfl g_law_take F_law_take.kp b_law_take .nil pass0 (pa_cons (pv 0) (pa_cons (pe_lst (pa_cons pe_str pa_nil)) pa_nil)))))
      (pss_one (ps_ret pe_non))
      pss_nil)
      (pss_cons (ps_set (i := 4) scLread.nd rfl (Or.inl rfl) (pe_lst pa_nil))
      (pss_cons (ps_if (PW.pt (pw_or (pt_not (pt_val (pv 1))) (pw_or1 (pt_val (pv 2)))))
      (pss_one (ps_for PassesOwn.never rfl (pi_range1 rfl T.range (pa_cons (pe_op op_add (pe_callB call_len_seq (by rfl) T.len PySem.boot_len (pa_cons (pe_dget hu (pv 0) pe_str (fun _ _ => rfl)) pa_nil)) pe_int) pa_nil)) (pg_name (i := 5) scLread.nd rfl (Or.inl rfl))
      (pss_cons (ps_if (PW.pt (pw_or (PW.pt (pw_and (pt_cmpR op_eq (pe_call G_law_seen hr1 rfl g_law_seen F_law_seen.kp b_law_seen .nil pass0 (pa_cons (pv 0) pa_nil)) pe_str (nomark _)) (pw_and1 (pt_val (pv 2))))) (pw_or1 (pt_cmpR op_isN (pe_call G_law_seen hr1 rfl g_law_seen F_law_seen.kp b_law_seen .nil pass0 (pa_cons (pv 0) pa_nil)) pe_non (nomark _)))))
      (pss_one ps_break)
      pss_nil)
      (pss_cons (ps_set (i := 6) scLread.nd rfl (Or.inl rfl) (pe_call G_law_read hr1 rfl g_law_read F_law_read.kp b_law_read .nil pass0 (pa_cons (pv 0) (pa_cons pe_bl pa_nil))))
      (pss_cons (ps_if (pt_cmpR op_isN (pv 6) pe_non (nomark _))
      (pss_one (ps_ret pe_non))
      pss_nil)
      (pss_one (ps_expr (pe_bm PySem.F.plainAttrs_list PySem.F.slot_list_append PySem.F.type_list_append mt_append (pv 4) (pa_cons (pe_ix ix_list (pv 6) pe_int (fun _ _ => rfl)) pa_nil)))))))))
      pss_nil)
      (pss_cons (ps_if (PW.pt (pw_and (pt_val (pv 2)) (pw_and1 (pt_not (pt_val (pe_call G_law_take hr1 rfl g_law_take F_law_take.kp b_law_take .nil pass0 (pa_cons (pv 0) (pa_cons (pe_lst (pa_cons pe_str pa_nil)) pa_nil))))))))
      (pss_one (ps_ret pe_non))
      pss_nil)
      (pss_one (ps_ret (pe_lst (pa_cons (pe_tup (pa_cons (pe_ix ix_tup (pe_ix ix_list (pe_dget hu (pv 0) pe_str (fun _ _ => rfl)) (pv 3) (fun _ _ => rfl)) pe_int (fun _ _ => rfl)) (pa_cons (pv 4) pa_nil))) pa_nil))))))))))), ?_⟩
      refine ⟨.ref st, (by kernel_rfl), by show 1 ≤ sizeLine; decide, fun q0 nq0 => ?_⟩
      have sq0 := same_new (o := .lst [.str "word ("]) nq0
      refine ⟨st, l, q0, xs, wl, k, "word (", rfl, S.same sq0, W, upd_same, fun hit0 H1 T1' => ?_, fun hit0 H1 T1' => ?_⟩
      · have T1 := SS.pre sq0 T1'
        obtain ⟨hk0, hd0, lk0⟩ := hit_yes hit0
        have op := (lk_open (wS_ne (W.ne _ (List.getElem_mem hk0)))).mp lk0
        have kN : ∀ (H' : Hp) (k' : Nat), SS H st l k' H' → k + 1 ≤ k' → k' ≤ wl.length → InNo (wl.drop (k + 1)) (wl.drop k') → Q .non H' := fun H' k' a1 a2 a3 a4 => kN0 H' k' a1 (by omega) a3 (by rw [hd0]; exact in_no op a4)
        have kO : ∀ (H' G : Hp) (k' : Nat) (q : Addr) (y : V) (p : Tr), SS H st l k' H' → k + 1 < k' → k' ≤ wl.length → InOk (wl.drop (k + 1)) p (wl.drop k') → H' q = some (.lst [y]) → New H G H' → OAt G y p → Q (.ref q) H' := fun H' G k' q y p a1 a2 a3 a4 a5 a6 a7 => kO0 H' G k' q y p a1 (by omega) a3 (by rw [hd0]; exact in_ok op a4) a5 a6 a7
        have hpar1 : par (wl.drop (k + 1)) < d := by
          rw [hd0, par_cons, if_pos (open_40 op)] at hpar
          omega
        clear kN0 kO0
        obtain ⟨k1, ek1⟩ : ∃ k1, k1 = k + 1 := ⟨_, rfl⟩
        rw [← ek1] at T1 kN kO hpar1
        have hk1le : k1 ≤ wl.length := by omega
        clear hpar hne'
        cases b with
        | false =>
          have S1 := S.ss T1 hk1le
          refine ⟨.ref st, (by kernel_rfl), st, .int (k1 : Int), rfl, dget T1.at_ (st_a l k1), ?_⟩
          refine ⟨.ref st, (by kernel_rfl), by show 1 ≤ sizeLine; decide, fun q1 nq1 => ?_⟩
          have sq1 := same_new (o := .lst [.str "number"]) nq1
          refine ⟨st, l, q1, xs, wl, k1, "number", rfl, S1.same sq1, W, upd_same, fun hit H2 T2' => ?_, fun hit H2 T2' => ?_⟩
          · refine ⟨_, rfl, ?_⟩
            refine ite_yes rfl ?_
            have T2 := T1.step (SS.pre sq1 T2')
            obtain ⟨hk1, hd1, lk1⟩ := hit_yes hit
            have S2 := S.ss T2 (by omega)
            have nm := (lk_num (wS_ne (W.ne _ (List.getElem_mem hk1)))).mp lk1
            refine ⟨.bl true, (by kernel_rfl), _, rfl, ?_⟩
            refine ite_yes rfl ?_
            refine ⟨.ref st, (by kernel_rfl), by show 1 ≤ sizeLine; decide, fun q2 nq2 => ?_⟩
            have sq2 := same_new (o := .lst [.str "word )"]) nq2
            refine ⟨st, l, q2, xs, wl, k1 + 1, "word )", rfl, S2.same sq2, W, upd_same, fun hcl H3 T3' => ?_, fun hcl H3 T3' => ?_⟩
            · refine ⟨_, rfl, ?_⟩
              refine ite_no rfl ?_
              have T3 := T2.step (SS.pre sq2 T3')
              obtain ⟨hk2, hd2, lk2⟩ := hit_yes hcl
              have S3 := S.ss T3 (by omega)
              obtain ⟨Tk, e1, e2⟩ := wl_get S3.w hk1
              obtain ⟨i1, i2⟩ := int_ok nm
              refine ⟨.ref st, (by kernel_rfl), st, .ref l, rfl, dget S3.at_ (st_w l _), .int (k1 : Int), (by kernel_rfl), l, _, _, .ref Tk, rfl, rfl, SqL.of S3.words, atI_nat e1, Tk, _, 0, .str (wS wl[k1]), rfl, rfl, SqT.of e2, rfl, wS wl[k1], intOf (wS wl[k1]), rfl, i1, by omega, by show 1 ≤ sizeLine; decide, fun q nq => ?_⟩
              refine kO _ (fun _ => Option.none) (k1 + 1 + 1) q (.int (intOf (wS wl[k1]))) (.num (intOf (wS wl[k1]))) (T3.same (same_new nq)) (by omega) (by omega) ?_ upd_same new_none (.num _)
              rw [hd1, hd2]
              exact in_num nm ((lk_close (wS_ne (W.ne _ (List.getElem_mem hk2)))).mp lk2)
            · refine ⟨_, rfl, ?_⟩
              refine ite_yes rfl ?_
              have T3 := T2.step (SS.pre sq2 T3')
              refine kN H3 (k1 + 1) T3 (by omega) (by omega) ?_
              rw [hd1]
              exact in_numNo nm (fun ⟨p, r, e, z⟩ => (hit_no hcl p r e) ((lk_close (wS_ne (W.ne _ (mem_drop e)))).mpr z))
          · refine ⟨_, rfl, ?_⟩
            refine ite_no rfl ?_
            have T2 := T1.step (SS.pre sq1 T2')
            have S2 := S.ss T2 hk1le
            have nonum : ∀ p r, wl.drop k1 = p :: r → isNum (wS p) = false := fun p r e => by
              cases q : isNum (wS p) with
              | false => rfl
              | true => exact absurd ((lk_num (wS_ne (W.ne _ (mem_drop e)))).mpr q) (hit_no hit p r e)
            refine ⟨.ref st, (by kernel_rfl), by show 1 ≤ sizeLine; decide, fun q2 nq2 => ?_⟩
            have sq2 := same_new (o := .lst [.str "big"]) nq2
            refine ⟨st, l, q2, xs, wl, k1, "big", rfl, S2.same sq2, W, upd_same, fun hit2 H3 T3' => ?_, fun hit2 H3 T3' => ?_⟩
            · refine ⟨_, rfl, ?_⟩
              refine ite_no rfl ?_
              have T3 := T2.step (SS.pre sq2 T3')
              obtain ⟨hk1, hd1, lk1⟩ := hit_yes hit2
              have bg := (lk_big (wS_ne (W.ne _ (List.getElem_mem hk1)))).mp lk1
              refine ⟨by show 0 ≤ sizeLine; decide, fun pl npl => ?_⟩
              have nplH := T3.none hst npl
              have plst : pl ≠ st := fun z => hst (z ▸ nplH)
              have T4 := T3.same (same_new (o := .lst []) npl)
              have epl := upd_same (H := H3) (a := pl) (o := .lst [])
              generalize upd H3 pl (.lst []) = H4 at T4 epl ⊢
              refine ⟨.bl false, (by kernel_rfl), _, rfl, ?_⟩
              refine ite_yes rfl ?_
              have S4 := S.ss T4 (by omega)
              refine ⟨.ref st, (by kernel_rfl), st, .ref l, rfl, dget S4.at_ (st_w l _), l, _, rfl, .inl (SqL.of S4.words), _, _, rfl, rfl, ((wl.length + 1 : Nat) : Int), by rw [← S4.w.len]; rfl, by omega, by have := W.tot; omega, ?_⟩
              rw [Int.toNat_natCast]
              refine for_range (lo := 0) (n := wl.length + 1) (fun i σ H' => ∃ (ki : Nat) (ys : List V) (G : Hp) (us : List Tr) (v5 v6 : Option V), σ = [some (.ref st), some (.bl false), some (.bl true), some (.int (k1 : Int)), some (.ref pl), v5, v6] ∧ SS H st l ki H' ∧ H' pl = some (.lst ys) ∧ OAts G ys us ∧ New H G H' ∧ G pl = Option.none ∧ k1 + 1 + i ≤ ki ∧ ki ≤ wl.length ∧ us.length = i ∧ LpIn (wl.drop k1) (wS wl[k1]) us (wl.drop ki))
                ⟨k1 + 1, [], fun _ => Option.none, [], Option.none, Option.none, rfl, T4, epl, .nil, new_none, rfl, by omega, by omega, rfl, by rw [hd1]; exact lp_in bg⟩ ?_ ?_
              · rintro i σ H5 hi ⟨ki, ys, G, us, v5, v6, rfl, T5, hpl5, oys, N5, gpl, aki, hki, lus, lp⟩
                have S5 := S.ss T5 hki
                have wtot := W.tot
                refine ⟨.ref st, (by kernel_rfl), st, l, xs, wl, ki, rfl, S5, W, fun Ha SHa => ?_⟩
                refine ⟨by cases wl.drop ki <;> rfl, _, rfl, ?_⟩
                by_cases hc : hdCl (wl.drop ki)
                · obtain ⟨p, r, e, z⟩ := hc
                  have sv : seenV (wl.drop ki) = .str "word )" := by
                    rw [e]
                    show V.str (lawKind (wS p)) = _
                    rw [(lk_close (wS_ne (W.ne _ (mem_drop e)))).mpr z]
                  rw [sv]
                  refine ite_yes (decide_eq_true rfl) ?_
                  refine ⟨.bl true, (by kernel_rfl), _, rfl, ?_⟩
                  refine ite_yes rfl ?_
                  try refine ite_yes rfl ?_
                  have brk : wl.drop ki = [] ∨ hdCl (wl.drop ki) := .inr ⟨p, r, e, z⟩
                  have T6 := T5.same SHa
                  have S6 := S5.same SHa
                  have hpl6 := SHa _ _ hpl5
                  have N6 := N5.same SHa
                  clear sv e
                  refine ⟨.bl true, (by kernel_rfl), _, rfl, ?_⟩
                  refine ite_yes rfl ?_
                  refine ⟨.ref st, (by kernel_rfl), by show 1 ≤ sizeLine; decide, fun q3 nq3 => ?_⟩
                  have sq3 := same_new (o := .lst [.str "word )"]) nq3
                  refine ⟨st, l, q3, xs, wl, ki, "word )", rfl, S6.same sq3, W, upd_same, fun hcl H7 T7' => ?_, fun hcl H7 T7' => ?_⟩
                  · refine ⟨_, rfl, ?_⟩
                    refine ite_no rfl ?_
                    have T7 := T6.step (SS.pre sq3 T7')
                    obtain ⟨hk2, hd2, lk2⟩ := hit_yes hcl
                    have S7 := S.ss T7 (by omega)
                    have N7' := (N6.same sq3).ss hst T7'
                    have hpl7 := T7'.keep _ _ plst (sq3 _ _ hpl6)
                    rw [hd2] at lp
                    obtain ⟨Tk, e1, e2⟩ := wl_get S7.w hk1
                    refine ⟨.ref st, (by kernel_rfl), st, .ref l, rfl, dget S7.at_ (st_w l _), .int (k1 : Int), (by kernel_rfl), l, _, _, .ref Tk, rfl, rfl, SqL.of S7.words, atI_nat e1, Tk, _, 0, .str (wS wl[k1]), rfl, rfl, SqT.of e2, rfl, .ref pl, (by kernel_rfl), by show 2 ≤ sizeLine; decide, fun Tn nT => ?_⟩
                    have plT : pl ≠ Tn := fun z => by rw [z, nT] at hpl7; cases hpl7
                    have sT := same_new (o := .tup [.str (wS wl[k1]), .ref pl]) nT
                    refine ⟨by show 1 ≤ sizeLine; decide, fun q nq => ?_⟩
                    have sq := same_new (o := .lst [.ref Tn]) nq
                    have TT := (T7.same sT).same sq
                    have nTH := T7.none hst nT
                    have N7 := (((N7'.same sT).same sq).add nplH (sq _ _ (sT _ _ hpl7))).add nTH (sq _ _ (upd_same (a := Tn) (o := .tup [.str (wS wl[k1]), .ref pl])))
                    have gT : G Tn = Option.none := by
                      cases e : G Tn with
                      | none => rfl
                      | some o => rw [N7'.in_ _ _ e] at nT; cases nT
                    refine kO _ _ (ki + 1) q (.ref Tn) (.mk (wS wl[k1]) us) TT (by omega) (by omega) ?_ upd_same N7 (.mk upd_same (by rw [upd_ne plT, upd_same]) ((oys).same fun b o e => by rw [upd_ne (ne_of_none e gT), upd_ne (ne_of_none e gpl)]; exact e))
                    exact lp_in_end lp ((lk_close (wS_ne (W.ne _ (List.getElem_mem hk2)))).mp lk2)
                  · refine ⟨_, rfl, ?_⟩
                    refine ite_yes rfl ?_
                    have T7 := T6.step (SS.pre sq3 T7')
                    refine kN H7 ki T7 (by omega) hki ?_
                    have e : wl.drop ki = [] := by
                      rcases brk with e | ⟨p, r, e, z⟩
                      · exact e
                      · exact absurd ((lk_close (wS_ne (W.ne _ (mem_drop e)))).mpr z) (hit_no hcl p r e)
                    rw [e] at lp ⊢
                    exact lp_in_stop lp
                · have sv : ¬ seenV (wl.drop ki) = .str "word )" := fun z => hc (by
                    cases e : wl.drop ki with
                    | nil => rw [e] at z; cases z
                    | cons p r =>
                      rw [e] at z
                      exact ⟨p, r, rfl, (lk_close (wS_ne (W.ne _ (mem_drop e)))).mp (V.str.inj z)⟩)
                  refine ite_no (decide_eq_false sv) ?_
                  refine ⟨.ref st, (by kernel_rfl), st, l, xs, wl, ki, rfl, S5.same SHa, W, fun Hb SHb => ?_⟩
                  refine ⟨rfl, _, rfl, ?_⟩
                  have T6 := (T5.same SHa).same SHb
                  have S6 := (S5.same SHa).same SHb
                  have hpl6 := SHb _ _ (SHa _ _ hpl5)
                  have N6 := (N5.same SHa).same SHb
                  cases e : wl.drop ki with
                  | nil =>
                    refine ite_yes rfl ?_
                    try refine ite_yes rfl ?_
                    have brk : wl.drop ki = [] ∨ hdCl (wl.drop ki) := .inl e
                    refine ⟨.bl true, (by kernel_rfl), _, rfl, ?_⟩
                    refine ite_yes rfl ?_
                    refine ⟨.ref st, (by kernel_rfl), by show 1 ≤ sizeLine; decide, fun q3 nq3 => ?_⟩
                    have sq3 := same_new (o := .lst [.str "word )"]) nq3
                    refine ⟨st, l, q3, xs, wl, ki, "word )", rfl, S6.same sq3, W, upd_same, fun hcl H7 T7' => ?_, fun hcl H7 T7' => ?_⟩
                    · refine ⟨_, rfl, ?_⟩
                      refine ite_no rfl ?_
                      have T7 := T6.step (SS.pre sq3 T7')
                      obtain ⟨hk2, hd2, lk2⟩ := hit_yes hcl
                      have S7 := S.ss T7 (by omega)
                      have N7' := (N6.same sq3).ss hst T7'
                      have hpl7 := T7'.keep _ _ plst (sq3 _ _ hpl6)
                      rw [hd2] at lp
                      obtain ⟨Tk, e1, e2⟩ := wl_get S7.w hk1
                      refine ⟨.ref st, (by kernel_rfl), st, .ref l, rfl, dget S7.at_ (st_w l _), .int (k1 : Int), (by kernel_rfl), l, _, _, .ref Tk, rfl, rfl, SqL.of S7.words, atI_nat e1, Tk, _, 0, .str (wS wl[k1]), rfl, rfl, SqT.of e2, rfl, .ref pl, (by kernel_rfl), by show 2 ≤ sizeLine; decide, fun Tn nT => ?_⟩
                      have plT : pl ≠ Tn := fun z => by rw [z, nT] at hpl7; cases hpl7
                      have sT := same_new (o := .tup [.str (wS wl[k1]), .ref pl]) nT
                      refine ⟨by show 1 ≤ sizeLine; decide, fun q nq => ?_⟩
                      have sq := same_new (o := .lst [.ref Tn]) nq
                      have TT := (T7.same sT).same sq
                      have nTH := T7.none hst nT
                      have N7 := (((N7'.same sT).same sq).add nplH (sq _ _ (sT _ _ hpl7))).add nTH (sq _ _ (upd_same (a := Tn) (o := .tup [.str (wS wl[k1]), .ref pl])))
                      have gT : G Tn = Option.none := by
                        cases e : G Tn with
                        | none => rfl
                        | some o => rw [N7'.in_ _ _ e] at nT; cases nT
                      refine kO _ _ (ki + 1) q (.ref Tn) (.mk (wS wl[k1]) us) TT (by omega) (by omega) ?_ upd_same N7 (.mk upd_same (by rw [upd_ne plT, upd_same]) ((oys).same fun b o e => by rw [upd_ne (ne_of_none e gT), upd_ne (ne_of_none e gpl)]; exact e))
                      exact lp_in_end lp ((lk_close (wS_ne (W.ne _ (List.getElem_mem hk2)))).mp lk2)
                    · refine ⟨_, rfl, ?_⟩
                      refine ite_yes rfl ?_
                      have T7 := T6.step (SS.pre sq3 T7')
                      refine kN H7 ki T7 (by omega) hki ?_
                      have e : wl.drop ki = [] := by
                        rcases brk with e | ⟨p, r, e, z⟩
                        · exact e
                        · exact absurd ((lk_close (wS_ne (W.ne _ (mem_drop e)))).mpr z) (hit_no hcl p r e)
                      rw [e] at lp ⊢
                      exact lp_in_stop lp
                  | cons p r =>
                    refine ite_no rfl ?_
                    try refine ite_no rfl ?_
                    have nei : wl.drop ki ≠ [] := by rw [e]; exact fun z => nomatch z
                    have ncl := hc
                    clear e
                    generalize Hb = H6 at T6 S6 hpl6 N6 ⊢
                    have pb : par (wl.drop ki) < d := by
                      have := par_more (wl := wl) (show k1 ≤ ki by omega)
                      omega
                    refine ⟨.ref st, (by kernel_rfl), st, l, xs, wl, ki, true, rfl, S6, W, (fun _ => nei), (by simpa using pb), fun H7 k7 T7' a7 b7 no7 => ?_, fun H7 G7 k7 q7 y7 p7 T7' a7 b7 ok7 hq7 N7 o7 => ?_⟩
                    · refine ⟨.non, (by kernel_rfl), rfl, _, rfl, ?_⟩
                      refine ite_yes rfl ?_
                      refine kN H7 k7 (T6.step T7') (by omega) b7 ?_
                      exact lp_in_no lp ncl no7
                    · refine ⟨.ref q7, (by kernel_rfl), rfl, _, rfl, ?_⟩
                      refine ite_no rfl ?_
                      have hpl7 := T7'.keep _ _ plst hpl6
                      have lys := oys.len
                      refine ⟨.ref pl, (by kernel_rfl), .inl ⟨rfl, _, SqL.of hpl7⟩, .ref q7, (by kernel_rfl), q7, _, 0, y7, rfl, rfl, SqL.of hq7, atI0 rfl, pl, _, _, rfl, rfl, hpl7, Nat.lt_of_le_of_lt (show ys.length ≤ 1000000 by omega) (by decide), ?_⟩
                      have hst6 : H6 st ≠ Option.none := by rw [T6.at_]; exact fun z => nomatch z
                      have dom : ∀ a, H a ≠ Option.none → H6 a ≠ Option.none := fun a ha e => ha (T6.none hst e)
                      have g7p : G7 pl = Option.none := N7.ap pl (by rw [hpl6]; exact fun z => nomatch z)
                      have jr : Same G7 (joinH G G7) := fun bb o e => by
                        cases gg : G bb with
                        | none => rw [join_none gg]; exact e
                        | some u =>
                          have z := N7.ap bb (by rw [N6.in_ _ _ gg]; exact fun z => nomatch z)
                          rw [z] at e
                          cases e
                      have T8 : SS H st l k7 (upd H7 pl (.lst (ys ++ [y7]))) := ⟨by rw [upd_ne (Ne.symm plst)]; exact T7'.at_, fun bb o nb e => by rw [upd_ne (ne_of_none e nplH)]; exact (T6.step T7').keep bb o nb e⟩
                      refine ⟨k7, ys ++ [y7], joinH G G7, us ++ [p7], _, _, rfl, T8, upd_same, (oys.same join_l).app (.cons (o7.same jr) .nil), ((N6.ss hst T7').join2 (N7.dom dom)).put (by rw [join_none gpl]; exact g7p), by rw [join_none gpl]; exact g7p, by omega, b7, by simp [lus], ?_⟩
                      exact lp_in_more lp ncl ok7
              · rintro σ H5 ⟨ki, ys, G, us, v5, v6, rfl, T5, hpl5, oys, N5, gpl, aki, hki, lus, lp⟩
                exact absurd hki (by omega)
            · refine ⟨_, rfl, ?_⟩
              refine ite_yes rfl ?_
              have T3 := T2.step (SS.pre sq2 T3')
              have nobig : ∀ p r, wl.drop k1 = p :: r → isBig (wS p) = false := fun p r e => by
                cases q : isBig (wS p) with
                | false => rfl
                | true => exact absurd ((lk_big (wS_ne (W.ne _ (mem_drop e)))).mpr q) (hit_no hit2 p r e)
              refine kN H3 k1 T3 (Nat.le_refl _) hk1le ?_
              exact in_none fun p r e => ⟨nonum p r e, nobig p r e⟩
        | true =>
          have S1 := S.ss T1 hk1le
          refine ⟨.ref st, (by kernel_rfl), st, .int (k1 : Int), rfl, dget T1.at_ (st_a l k1), ?_⟩
          refine ⟨.ref st, (by kernel_rfl), by show 1 ≤ sizeLine; decide, fun q1 nq1 => ?_⟩
          have sq1 := same_new (o := .lst [.str "number"]) nq1
          refine ⟨st, l, q1, xs, wl, k1, "number", rfl, S1.same sq1, W, upd_same, fun hit H2 T2' => ?_, fun hit H2 T2' => ?_⟩
          · refine ⟨_, rfl, ?_⟩
            refine ite_yes rfl ?_
            have T2 := T1.step (SS.pre sq1 T2')
            obtain ⟨hk1, hd1, lk1⟩ := hit_yes hit
            have S2 := S.ss T2 (by omega)
            have nm := (lk_num (wS_ne (W.ne _ (List.getElem_mem hk1)))).mp lk1
            refine ⟨.bl true, (by kernel_rfl), _, rfl, ?_⟩
            refine ite_yes rfl ?_
            refine ⟨.ref st, (by kernel_rfl), by show 1 ≤ sizeLine; decide, fun q2 nq2 => ?_⟩
            have sq2 := same_new (o := .lst [.str "word )"]) nq2
            refine ⟨st, l, q2, xs, wl, k1 + 1, "word )", rfl, S2.same sq2, W, upd_same, fun hcl H3 T3' => ?_, fun hcl H3 T3' => ?_⟩
            · refine ⟨_, rfl, ?_⟩
              refine ite_no rfl ?_
              have T3 := T2.step (SS.pre sq2 T3')
              obtain ⟨hk2, hd2, lk2⟩ := hit_yes hcl
              have S3 := S.ss T3 (by omega)
              obtain ⟨Tk, e1, e2⟩ := wl_get S3.w hk1
              obtain ⟨i1, i2⟩ := int_ok nm
              refine ⟨.ref st, (by kernel_rfl), st, .ref l, rfl, dget S3.at_ (st_w l _), .int (k1 : Int), (by kernel_rfl), l, _, _, .ref Tk, rfl, rfl, SqL.of S3.words, atI_nat e1, Tk, _, 0, .str (wS wl[k1]), rfl, rfl, SqT.of e2, rfl, wS wl[k1], intOf (wS wl[k1]), rfl, i1, by omega, by show 1 ≤ sizeLine; decide, fun q nq => ?_⟩
              refine kO _ (fun _ => Option.none) (k1 + 1 + 1) q (.int (intOf (wS wl[k1]))) (.num (intOf (wS wl[k1]))) (T3.same (same_new nq)) (by omega) (by omega) ?_ upd_same new_none (.num _)
              rw [hd1, hd2]
              exact in_num nm ((lk_close (wS_ne (W.ne _ (List.getElem_mem hk2)))).mp lk2)
            · refine ⟨_, rfl, ?_⟩
              refine ite_yes rfl ?_
              have T3 := T2.step (SS.pre sq2 T3')
              refine kN H3 (k1 + 1) T3 (by omega) (by omega) ?_
              rw [hd1]
              exact in_numNo nm (fun ⟨p, r, e, z⟩ => (hit_no hcl p r e) ((lk_close (wS_ne (W.ne _ (mem_drop e)))).mpr z))
          · refine ⟨_, rfl, ?_⟩
            refine ite_no rfl ?_
            have T2 := T1.step (SS.pre sq1 T2')
            have S2 := S.ss T2 hk1le
            have nonum : ∀ p r, wl.drop k1 = p :: r → isNum (wS p) = false := fun p r e => by
              cases q : isNum (wS p) with
              | false => rfl
              | true => exact absurd ((lk_num (wS_ne (W.ne _ (mem_drop e)))).mpr q) (hit_no hit p r e)
            refine ⟨.ref st, (by kernel_rfl), by show 1 ≤ sizeLine; decide, fun q2 nq2 => ?_⟩
            have sq2 := same_new (o := .lst [.str "big"]) nq2
            refine ⟨st, l, q2, xs, wl, k1, "big", rfl, S2.same sq2, W, upd_same, fun hit2 H3 T3' => ?_, fun hit2 H3 T3' => ?_⟩
            · refine ⟨_, rfl, ?_⟩
              refine ite_no rfl ?_
              have T3 := T2.step (SS.pre sq2 T3')
              obtain ⟨hk1, hd1, lk1⟩ := hit_yes hit2
              have bg := (lk_big (wS_ne (W.ne _ (List.getElem_mem hk1)))).mp lk1
              refine ⟨by show 0 ≤ sizeLine; decide, fun pl npl => ?_⟩
              have nplH := T3.none hst npl
              have plst : pl ≠ st := fun z => hst (z ▸ nplH)
              have T4 := T3.same (same_new (o := .lst []) npl)
              have epl := upd_same (H := H3) (a := pl) (o := .lst [])
              generalize upd H3 pl (.lst []) = H4 at T4 epl ⊢
              refine ⟨.bl true, (by kernel_rfl), _, rfl, ?_⟩
              refine ite_no rfl ?_
              refine ⟨.bl true, (by kernel_rfl), _, rfl, ?_⟩
              refine ite_yes rfl ?_
              have S4 := S.ss T4 (by omega)
              refine ⟨.ref st, (by kernel_rfl), st, .ref l, rfl, dget S4.at_ (st_w l _), l, _, rfl, .inl (SqL.of S4.words), _, _, rfl, rfl, ((wl.length + 1 : Nat) : Int), by rw [← S4.w.len]; rfl, by omega, by have := W.tot; omega, ?_⟩
              rw [Int.toNat_natCast]
              refine for_range (lo := 0) (n := wl.length + 1) (fun i σ H' => ∃ (ki : Nat) (ys : List V) (G : Hp) (us : List Tr) (v5 v6 : Option V), σ = [some (.ref st), some (.bl true), some (.bl true), some (.int (k1 : Int)), some (.ref pl), v5, v6] ∧ SS H st l ki H' ∧ H' pl = some (.lst ys) ∧ OAts G ys us ∧ New H G H' ∧ G pl = Option.none ∧ k1 + 1 + i ≤ ki ∧ ki ≤ wl.length ∧ us.length = i ∧ LpIn (wl.drop k1) (wS wl[k1]) us (wl.drop ki))
                ⟨k1 + 1, [], fun _ => Option.none, [], Option.none, Option.none, rfl, T4, epl, .nil, new_none, rfl, by omega, by omega, rfl, by rw [hd1]; exact lp_in bg⟩ ?_ ?_
              · rintro i σ H5 hi ⟨ki, ys, G, us, v5, v6, rfl, T5, hpl5, oys, N5, gpl, aki, hki, lus, lp⟩
                have S5 := S.ss T5 hki
                have wtot := W.tot
                refine ⟨.ref st, (by kernel_rfl), st, l, xs, wl, ki, rfl, S5, W, fun Ha SHa => ?_⟩
                refine ⟨by cases wl.drop ki <;> rfl, _, rfl, ?_⟩
                by_cases hc : hdCl (wl.drop ki)
                · obtain ⟨p, r, e, z⟩ := hc
                  have sv : seenV (wl.drop ki) = .str "word )" := by
                    rw [e]
                    show V.str (lawKind (wS p)) = _
                    rw [(lk_close (wS_ne (W.ne _ (mem_drop e)))).mpr z]
                  rw [sv]
                  refine ite_yes (decide_eq_true rfl) ?_
                  refine ⟨.bl true, (by kernel_rfl), _, rfl, ?_⟩
                  refine ite_yes rfl ?_
                  try refine ite_yes rfl ?_
                  have brk : wl.drop ki = [] ∨ hdCl (wl.drop ki) := .inr ⟨p, r, e, z⟩
                  have T6 := T5.same SHa
                  have S6 := S5.same SHa
                  have hpl6 := SHa _ _ hpl5
                  have N6 := N5.same SHa
                  clear sv e
                  refine ⟨.bl true, (by kernel_rfl), _, rfl, ?_⟩
                  refine ite_yes rfl ?_
                  refine ⟨.ref st, (by kernel_rfl), by show 1 ≤ sizeLine; decide, fun q3 nq3 => ?_⟩
                  have sq3 := same_new (o := .lst [.str "word )"]) nq3
                  refine ⟨st, l, q3, xs, wl, ki, "word )", rfl, S6.same sq3, W, upd_same, fun hcl H7 T7' => ?_, fun hcl H7 T7' => ?_⟩
                  · refine ⟨_, rfl, ?_⟩
                    refine ite_no rfl ?_
                    have T7 := T6.step (SS.pre sq3 T7')
                    obtain ⟨hk2, hd2, lk2⟩ := hit_yes hcl
                    have S7 := S.ss T7 (by omega)
                    have N7' := (N6.same sq3).ss hst T7'
                    have hpl7 := T7'.keep _ _ plst (sq3 _ _ hpl6)
                    rw [hd2] at lp
                    obtain ⟨Tk, e1, e2⟩ := wl_get S7.w hk1
                    refine ⟨.ref st, (by kernel_rfl), st, .ref l, rfl, dget S7.at_ (st_w l _), .int (k1 : Int), (by kernel_rfl), l, _, _, .ref Tk, rfl, rfl, SqL.of S7.words, atI_nat e1, Tk, _, 0, .str (wS wl[k1]), rfl, rfl, SqT.of e2, rfl, .ref pl, (by kernel_rfl), by show 2 ≤ sizeLine; decide, fun Tn nT => ?_⟩
                    have plT : pl ≠ Tn := fun z => by rw [z, nT] at hpl7; cases hpl7
                    have sT := same_new (o := .tup [.str (wS wl[k1]), .ref pl]) nT
                    refine ⟨by show 1 ≤ sizeLine; decide, fun q nq => ?_⟩
                    have sq := same_new (o := .lst [.ref Tn]) nq
                    have TT := (T7.same sT).same sq
                    have nTH := T7.none hst nT
                    have N7 := (((N7'.same sT).same sq).add nplH (sq _ _ (sT _ _ hpl7))).add nTH (sq _ _ (upd_same (a := Tn) (o := .tup [.str (wS wl[k1]), .ref pl])))
                    have gT : G Tn = Option.none := by
                      cases e : G Tn with
                      | none => rfl
                      | some o => rw [N7'.in_ _ _ e] at nT; cases nT
                    refine kO _ _ (ki + 1) q (.ref Tn) (.mk (wS wl[k1]) us) TT (by omega) (by omega) ?_ upd_same N7 (.mk upd_same (by rw [upd_ne plT, upd_same]) ((oys).same fun b o e => by rw [upd_ne (ne_of_none e gT), upd_ne (ne_of_none e gpl)]; exact e))
                    exact lp_in_end lp ((lk_close (wS_ne (W.ne _ (List.getElem_mem hk2)))).mp lk2)
                  · refine ⟨_, rfl, ?_⟩
                    refine ite_yes rfl ?_
                    have T7 := T6.step (SS.pre sq3 T7')
                    refine kN H7 ki T7 (by omega) hki ?_
                    have e : wl.drop ki = [] := by
                      rcases brk with e | ⟨p, r, e, z⟩
                      · exact e
                      · exact absurd ((lk_close (wS_ne (W.ne _ (mem_drop e)))).mpr z) (hit_no hcl p r e)
                    rw [e] at lp ⊢
                    exact lp_in_stop lp
                · have sv : ¬ seenV (wl.drop ki) = .str "word )" := fun z => hc (by
                    cases e : wl.drop ki with
                    | nil => rw [e] at z; cases z
                    | cons p r =>
                      rw [e] at z
                      exact ⟨p, r, rfl, (lk_close (wS_ne (W.ne _ (mem_drop e)))).mp (V.str.inj z)⟩)
                  refine ite_no (decide_eq_false sv) ?_
                  refine ⟨.ref st, (by kernel_rfl), st, l, xs, wl, ki, rfl, S5.same SHa, W, fun Hb SHb => ?_⟩
                  refine ⟨rfl, _, rfl, ?_⟩
                  have T6 := (T5.same SHa).same SHb
                  have S6 := (S5.same SHa).same SHb
                  have hpl6 := SHb _ _ (SHa _ _ hpl5)
                  have N6 := (N5.same SHa).same SHb
                  cases e : wl.drop ki with
                  | nil =>
                    refine ite_yes rfl ?_
                    try refine ite_yes rfl ?_
                    have brk : wl.drop ki = [] ∨ hdCl (wl.drop ki) := .inl e
                    refine ⟨.bl true, (by kernel_rfl), _, rfl, ?_⟩
                    refine ite_yes rfl ?_
                    refine ⟨.ref st, (by kernel_rfl), by show 1 ≤ sizeLine; decide, fun q3 nq3 => ?_⟩
                    have sq3 := same_new (o := .lst [.str "word )"]) nq3
                    refine ⟨st, l, q3, xs, wl, ki, "word )", rfl, S6.same sq3, W, upd_same, fun hcl H7 T7' => ?_, fun hcl H7 T7' => ?_⟩
                    · refine ⟨_, rfl, ?_⟩
                      refine ite_no rfl ?_
                      have T7 := T6.step (SS.pre sq3 T7')
                      obtain ⟨hk2, hd2, lk2⟩ := hit_yes hcl
                      have S7 := S.ss T7 (by omega)
                      have N7' := (N6.same sq3).ss hst T7'
                      have hpl7 := T7'.keep _ _ plst (sq3 _ _ hpl6)
                      rw [hd2] at lp
                      obtain ⟨Tk, e1, e2⟩ := wl_get S7.w hk1
                      refine ⟨.ref st, (by kernel_rfl), st, .ref l, rfl, dget S7.at_ (st_w l _), .int (k1 : Int), (by kernel_rfl), l, _, _, .ref Tk, rfl, rfl, SqL.of S7.words, atI_nat e1, Tk, _, 0, .str (wS wl[k1]), rfl, rfl, SqT.of e2, rfl, .ref pl, (by kernel_rfl), by show 2 ≤ sizeLine; decide, fun Tn nT => ?_⟩
                      have plT : pl ≠ Tn := fun z => by rw [z, nT] at hpl7; cases hpl7
                      have sT := same_new (o := .tup [.str (wS wl[k1]), .ref pl]) nT
                      refine ⟨by show 1 ≤ sizeLine; decide, fun q nq => ?_⟩
                      have sq := same_new (o := .lst [.ref Tn]) nq
                      have TT := (T7.same sT).same sq
                      have nTH := T7.none hst nT
                      have N7 := (((N7'.same sT).same sq).add nplH (sq _ _ (sT _ _ hpl7))).add nTH (sq _ _ (upd_same (a := Tn) (o := .tup [.str (wS wl[k1]), .ref pl])))
                      have gT : G Tn = Option.none := by
                        cases e : G Tn with
                        | none => rfl
                        | some o => rw [N7'.in_ _ _ e] at nT; cases nT
                      refine kO _ _ (ki + 1) q (.ref Tn) (.mk (wS wl[k1]) us) TT (by omega) (by omega) ?_ upd_same N7 (.mk upd_same (by rw [upd_ne plT, upd_same]) ((oys).same fun b o e => by rw [upd_ne (ne_of_none e gT), upd_ne (ne_of_none e gpl)]; exact e))
                      exact lp_in_end lp ((lk_close (wS_ne (W.ne _ (List.getElem_mem hk2)))).mp lk2)
                    · refine ⟨_, rfl, ?_⟩
                      refine ite_yes rfl ?_
                      have T7 := T6.step (SS.pre sq3 T7')
                      refine kN H7 ki T7 (by omega) hki ?_
                      have e : wl.drop ki = [] := by
                        rcases brk with e | ⟨p, r, e, z⟩
                        · exact e
                        · exact absurd ((lk_close (wS_ne (W.ne _ (mem_drop e)))).mpr z) (hit_no hcl p r e)
                      rw [e] at lp ⊢
                      exact lp_in_stop lp
                  | cons p r =>
                    refine ite_no rfl ?_
                    try refine ite_no rfl ?_
                    have nei : wl.drop ki ≠ [] := by rw [e]; exact fun z => nomatch z
                    have ncl := hc
                    clear e
                    generalize Hb = H6 at T6 S6 hpl6 N6 ⊢
                    have pb : par (wl.drop ki) < d := by
                      have := par_more (wl := wl) (show k1 ≤ ki by omega)
                      omega
                    refine ⟨.ref st, (by kernel_rfl), st, l, xs, wl, ki, true, rfl, S6, W, (fun _ => nei), (by simpa using pb), fun H7 k7 T7' a7 b7 no7 => ?_, fun H7 G7 k7 q7 y7 p7 T7' a7 b7 ok7 hq7 N7 o7 => ?_⟩
                    · refine ⟨.non, (by kernel_rfl), rfl, _, rfl, ?_⟩
                      refine ite_yes rfl ?_
                      refine kN H7 k7 (T6.step T7') (by omega) b7 ?_
                      exact lp_in_no lp ncl no7
                    · refine ⟨.ref q7, (by kernel_rfl), rfl, _, rfl, ?_⟩
                      refine ite_no rfl ?_
                      have hpl7 := T7'.keep _ _ plst hpl6
                      have lys := oys.len
                      refine ⟨.ref pl, (by kernel_rfl), .inl ⟨rfl, _, SqL.of hpl7⟩, .ref q7, (by kernel_rfl), q7, _, 0, y7, rfl, rfl, SqL.of hq7, atI0 rfl, pl, _, _, rfl, rfl, hpl7, Nat.lt_of_le_of_lt (show ys.length ≤ 1000000 by omega) (by decide), ?_⟩
                      have hst6 : H6 st ≠ Option.none := by rw [T6.at_]; exact fun z => nomatch z
                      have dom : ∀ a, H a ≠ Option.none → H6 a ≠ Option.none := fun a ha e => ha (T6.none hst e)
                      have g7p : G7 pl = Option.none := N7.ap pl (by rw [hpl6]; exact fun z => nomatch z)
                      have jr : Same G7 (joinH G G7) := fun bb o e => by
                        cases gg : G bb with
                        | none => rw [join_none gg]; exact e
                        | some u =>
                          have z := N7.ap bb (by rw [N6.in_ _ _ gg]; exact fun z => nomatch z)
                          rw [z] at e
                          cases e
                      have T8 : SS H st l k7 (upd H7 pl (.lst (ys ++ [y7]))) := ⟨by rw [upd_ne (Ne.symm plst)]; exact T7'.at_, fun bb o nb e => by rw [upd_ne (ne_of_none e nplH)]; exact (T6.step T7').keep bb o nb e⟩
                      refine ⟨k7, ys ++ [y7], joinH G G7, us ++ [p7], _, _, rfl, T8, upd_same, (oys.same join_l).app (.cons (o7.same jr) .nil), ((N6.ss hst T7').join2 (N7.dom dom)).put (by rw [join_none gpl]; exact g7p), by rw [join_none gpl]; exact g7p, by omega, b7, by simp [lus], ?_⟩
                      exact lp_in_more lp ncl ok7
              · rintro σ H5 ⟨ki, ys, G, us, v5, v6, rfl, T5, hpl5, oys, N5, gpl, aki, hki, lus, lp⟩
                exact absurd hki (by omega)
            · refine ⟨_, rfl, ?_⟩
              refine ite_yes rfl ?_
              have T3 := T2.step (SS.pre sq2 T3')
              have nobig : ∀ p r, wl.drop k1 = p :: r → isBig (wS p) = false := fun p r e => by
                cases q : isBig (wS p) with
                | false => rfl
                | true => exact absurd ((lk_big (wS_ne (W.ne _ (mem_drop e)))).mpr q) (hit_no hit2 p r e)
              refine kN H3 k1 T3 (Nat.le_refl _) hk1le ?_
              exact in_none fun p r e => ⟨nonum p r e, nobig p r e⟩
      · have T1 := SS.pre sq0 T1'
        have noop : ∀ p r, wl.drop k = p :: r → wS p ≠ "(" := fun p r e z => (hit_no hit0 p r e) ((lk_open (wS_ne (W.ne _ (mem_drop e)))).mpr z)
        cases b with
        | false =>
          have kN := kN0
          have kO := kO0
          have hpar1 : par (wl.drop k) < d := by simpa using hpar
          clear kN0 kO0 hpar hne'
          obtain ⟨k1, ek1⟩ : ∃ k1, k1 = k := ⟨_, rfl⟩
          rw [← ek1] at T1 kN kO hpar1 noop
          have hk1le : k1 ≤ wl.length := by omega
          have S1 := S.ss T1 hk1le
          refine ⟨.ref st, (by kernel_rfl), st, .int (k1 : Int), rfl, dget T1.at_ (st_a l k1), ?_⟩
          refine ⟨.ref st, (by kernel_rfl), by show 1 ≤ sizeLine; decide, fun q1 nq1 => ?_⟩
          have sq1 := same_new (o := .lst [.str "number"]) nq1
          refine ⟨st, l, q1, xs, wl, k1, "number", rfl, S1.same sq1, W, upd_same, fun hit H2 T2' => ?_, fun hit H2 T2' => ?_⟩
          · refine ⟨_, rfl, ?_⟩
            refine ite_yes rfl ?_
            have T2 := T1.step (SS.pre sq1 T2')
            obtain ⟨hk1, hd1, lk1⟩ := hit_yes hit
            have S2 := S.ss T2 (by omega)
            have nm := (lk_num (wS_ne (W.ne _ (List.getElem_mem hk1)))).mp lk1
            refine ⟨.bl false, (by kernel_rfl), _, rfl, ?_⟩
            refine ite_no rfl ?_
            obtain ⟨Tk, e1, e2⟩ := wl_get S2.w hk1
            obtain ⟨i1, i2⟩ := int_ok nm
            refine ⟨.ref st, (by kernel_rfl), st, .ref l, rfl, dget S2.at_ (st_w l _), .int (k1 : Int), (by kernel_rfl), l, _, _, .ref Tk, rfl, rfl, SqL.of S2.words, atI_nat e1, Tk, _, 0, .str (wS wl[k1]), rfl, rfl, SqT.of e2, rfl, wS wl[k1], intOf (wS wl[k1]), rfl, i1, by omega, by show 1 ≤ sizeLine; decide, fun q nq => ?_⟩
            refine kO _ (fun _ => Option.none) (k1 + 1) q (.int (intOf (wS wl[k1]))) (.num (intOf (wS wl[k1]))) (T2.same (same_new nq)) (by omega) (by omega) ?_ upd_same new_none (.num _)
            rw [hd1]
            exact top_num nm
          · refine ⟨_, rfl, ?_⟩
            refine ite_no rfl ?_
            have T2 := T1.step (SS.pre sq1 T2')
            have S2 := S.ss T2 hk1le
            have nonum : ∀ p r, wl.drop k1 = p :: r → isNum (wS p) = false := fun p r e => by
              cases q : isNum (wS p) with
              | false => rfl
              | true => exact absurd ((lk_num (wS_ne (W.ne _ (mem_drop e)))).mpr q) (hit_no hit p r e)
            refine ⟨.ref st, (by kernel_rfl), by show 1 ≤ sizeLine; decide, fun q2 nq2 => ?_⟩
            have sq2 := same_new (o := .lst [.str "big"]) nq2
            refine ⟨st, l, q2, xs, wl, k1, "big", rfl, S2.same sq2, W, upd_same, fun hit2 H3 T3' => ?_, fun hit2 H3 T3' => ?_⟩
            · refine ⟨_, rfl, ?_⟩
              refine ite_no rfl ?_
              have T3 := T2.step (SS.pre sq2 T3')
              obtain ⟨hk1, hd1, lk1⟩ := hit_yes hit2
              have bg := (lk_big (wS_ne (W.ne _ (List.getElem_mem hk1)))).mp lk1
              refine ⟨by show 0 ≤ sizeLine; decide, fun pl npl => ?_⟩
              have nplH := T3.none hst npl
              have plst : pl ≠ st := fun z => hst (z ▸ nplH)
              have T4 := T3.same (same_new (o := .lst []) npl)
              have epl := upd_same (H := H3) (a := pl) (o := .lst [])
              generalize upd H3 pl (.lst []) = H4 at T4 epl ⊢
              refine ⟨.bl false, (by kernel_rfl), _, rfl, ?_⟩
              refine ite_yes rfl ?_
              have S4 := S.ss T4 (by omega)
              refine ⟨.ref st, (by kernel_rfl), st, .ref l, rfl, dget S4.at_ (st_w l _), l, _, rfl, .inl (SqL.of S4.words), _, _, rfl, rfl, ((wl.length + 1 : Nat) : Int), by rw [← S4.w.len]; rfl, by omega, by have := W.tot; omega, ?_⟩
              rw [Int.toNat_natCast]
              refine for_range (lo := 0) (n := wl.length + 1) (fun i σ H' => ∃ (ki : Nat) (ys : List V) (G : Hp) (us : List Tr) (v5 v6 : Option V), σ = [some (.ref st), some (.bl false), some (.bl false), some (.int (k1 : Int)), some (.ref pl), v5, v6] ∧ SS H st l ki H' ∧ H' pl = some (.lst ys) ∧ OAts G ys us ∧ New H G H' ∧ G pl = Option.none ∧ k1 + 1 + i ≤ ki ∧ ki ≤ wl.length ∧ us.length = i ∧ LpTop (wl.drop k1) (wS wl[k1]) us (wl.drop ki))
                ⟨k1 + 1, [], fun _ => Option.none, [], Option.none, Option.none, rfl, T4, epl, .nil, new_none, rfl, by omega, by omega, rfl, by rw [hd1]; exact lp_top bg⟩ ?_ ?_
              · rintro i σ H5 hi ⟨ki, ys, G, us, v5, v6, rfl, T5, hpl5, oys, N5, gpl, aki, hki, lus, lp⟩
                have S5 := S.ss T5 hki
                have wtot := W.tot
                refine ⟨.ref st, (by kernel_rfl), st, l, xs, wl, ki, rfl, S5, W, fun Ha SHa => ?_⟩
                refine ⟨by cases wl.drop ki <;> rfl, _, rfl, ?_⟩
                have T6 := T5.same SHa
                have S6 := S5.same SHa
                have hpl6 := SHa _ _ hpl5
                have N6 := N5.same SHa
                have go : ∀ Hb, Same Ha Hb → True := fun _ _ => trivial
                refine ite2 (fun hsv => ?_) (fun hsv => ?_)
                · refine ⟨.bl false, (by kernel_rfl), _, rfl, ?_⟩
                  refine ite_no rfl ?_
                  try refine ite_no rfl ?_
                  refine ⟨.ref st, (by kernel_rfl), st, l, xs, wl, ki, rfl, S6, W, fun Hb SHb => ?_⟩
                  refine ⟨rfl, _, rfl, ?_⟩
                  replace T6 := T6.same SHb
                  replace S6 := S6.same SHb
                  replace hpl6 := SHb _ _ hpl6
                  replace N6 := N6.same SHb
                  cases e : wl.drop ki with
                  | nil =>
                    refine ite_yes rfl ?_
                    try refine ite_yes rfl ?_
                    have brk : wl.drop ki = [] := e
                    clear e hsv
                    generalize Hb = H6 at T6 S6 hpl6 N6 ⊢
                    refine ⟨.bl false, (by kernel_rfl), _, rfl, ?_⟩
                    refine ite_no rfl ?_
                    rw [brk] at lp
                    obtain ⟨Tk, e1, e2⟩ := wl_get S6.w hk1
                    refine ⟨.ref st, (by kernel_rfl), st, .ref l, rfl, dget S6.at_ (st_w l _), .int (k1 : Int), (by kernel_rfl), l, _, _, .ref Tk, rfl, rfl, SqL.of S6.words, atI_nat e1, Tk, _, 0, .str (wS wl[k1]), rfl, rfl, SqT.of e2, rfl, .ref pl, (by kernel_rfl), by show 2 ≤ sizeLine; decide, fun Tn nT => ?_⟩
                    have plT : pl ≠ Tn := fun z => by rw [z, nT] at hpl6; cases hpl6
                    have sT := same_new (o := .tup [.str (wS wl[k1]), .ref pl]) nT
                    refine ⟨by show 1 ≤ sizeLine; decide, fun q nq => ?_⟩
                    have sq := same_new (o := .lst [.ref Tn]) nq
                    have TT := (T6.same sT).same sq
                    have nTH := T6.none hst nT
                    have N7 := (((N6.same sT).same sq).add nplH (sq _ _ (sT _ _ hpl6))).add nTH (sq _ _ (upd_same (a := Tn) (o := .tup [.str (wS wl[k1]), .ref pl])))
                    have gT : G Tn = Option.none := by
                      cases e : G Tn with
                      | none => rfl
                      | some o => rw [N6.in_ _ _ e] at nT; cases nT
                    refine kO _ _ (ki) q (.ref Tn) (.mk (wS wl[k1]) us) TT (by omega) (by omega) ?_ upd_same N7 (.mk upd_same (by rw [upd_ne plT, upd_same]) ((oys).same fun b o e => by rw [upd_ne (ne_of_none e gT), upd_ne (ne_of_none e gpl)]; exact e))
                    rw [brk]
                    exact lp_top_end lp
                  | cons p r =>
                    refine ite_no rfl ?_
                    try refine ite_no rfl ?_
                    have nei : wl.drop ki ≠ [] := by rw [e]; exact fun z => nomatch z
                    clear e hsv
                    generalize Hb = H6 at T6 S6 hpl6 N6 ⊢
                    have pb : par (wl.drop ki) < d := by
                      have := par_more (wl := wl) (show k1 ≤ ki by omega)
                      omega
                    refine ⟨.ref st, (by kernel_rfl), st, l, xs, wl, ki, true, rfl, S6, W, (fun _ => nei), (by simpa using pb), fun H7 k7 T7' a7 b7 no7 => ?_, fun H7 G7 k7 q7 y7 p7 T7' a7 b7 ok7 hq7 N7 o7 => ?_⟩
                    · refine ⟨.non, (by kernel_rfl), rfl, _, rfl, ?_⟩
                      refine ite_yes rfl ?_
                      refine kN H7 k7 (T6.step T7') (by omega) b7 ?_
                      exact lp_top_no lp no7
                    · refine ⟨.ref q7, (by kernel_rfl), rfl, _, rfl, ?_⟩
                      refine ite_no rfl ?_
                      have hpl7 := T7'.keep _ _ plst hpl6
                      have lys := oys.len
                      refine ⟨.ref pl, (by kernel_rfl), .inl ⟨rfl, _, SqL.of hpl7⟩, .ref q7, (by kernel_rfl), q7, _, 0, y7, rfl, rfl, SqL.of hq7, atI0 rfl, pl, _, _, rfl, rfl, hpl7, Nat.lt_of_le_of_lt (show ys.length ≤ 1000000 by omega) (by decide), ?_⟩
                      have hst6 : H6 st ≠ Option.none := by rw [T6.at_]; exact fun z => nomatch z
                      have dom : ∀ a, H a ≠ Option.none → H6 a ≠ Option.none := fun a ha e => ha (T6.none hst e)
                      have g7p : G7 pl = Option.none := N7.ap pl (by rw [hpl6]; exact fun z => nomatch z)
                      have jr : Same G7 (joinH G G7) := fun bb o e => by
                        cases gg : G bb with
                        | none => rw [join_none gg]; exact e
                        | some u =>
                          have z := N7.ap bb (by rw [N6.in_ _ _ gg]; exact fun z => nomatch z)
                          rw [z] at e
                          cases e
                      have T8 : SS H st l k7 (upd H7 pl (.lst (ys ++ [y7]))) := ⟨by rw [upd_ne (Ne.symm plst)]; exact T7'.at_, fun bb o nb e => by rw [upd_ne (ne_of_none e nplH)]; exact (T6.step T7').keep bb o nb e⟩
                      refine ⟨k7, ys ++ [y7], joinH G G7, us ++ [p7], _, _, rfl, T8, upd_same, (oys.same join_l).app (.cons (o7.same jr) .nil), ((N6.ss hst T7').join2 (N7.dom dom)).put (by rw [join_none gpl]; exact g7p), by rw [join_none gpl]; exact g7p, by omega, b7, by simp [lus], ?_⟩
                      exact lp_top_more lp ok7
                · skip
                  refine ⟨.ref st, (by kernel_rfl), st, l, xs, wl, ki, rfl, S6, W, fun Hb SHb => ?_⟩
                  refine ⟨rfl, _, rfl, ?_⟩
                  replace T6 := T6.same SHb
                  replace S6 := S6.same SHb
                  replace hpl6 := SHb _ _ hpl6
                  replace N6 := N6.same SHb
                  cases e : wl.drop ki with
                  | nil =>
                    refine ite_yes rfl ?_
                    try refine ite_yes rfl ?_
                    have brk : wl.drop ki = [] := e
                    clear e hsv
                    generalize Hb = H6 at T6 S6 hpl6 N6 ⊢
                    refine ⟨.bl false, (by kernel_rfl), _, rfl, ?_⟩
                    refine ite_no rfl ?_
                    rw [brk] at lp
                    obtain ⟨Tk, e1, e2⟩ := wl_get S6.w hk1
                    refine ⟨.ref st, (by kernel_rfl), st, .ref l, rfl, dget S6.at_ (st_w l _), .int (k1 : Int), (by kernel_rfl), l, _, _, .ref Tk, rfl, rfl, SqL.of S6.words, atI_nat e1, Tk, _, 0, .str (wS wl[k1]), rfl, rfl, SqT.of e2, rfl, .ref pl, (by kernel_rfl), by show 2 ≤ sizeLine; decide, fun Tn nT => ?_⟩
                    have plT : pl ≠ Tn := fun z => by rw [z, nT] at hpl6; cases hpl6
                    have sT := same_new (o := .tup [.str (wS wl[k1]), .ref pl]) nT
                    refine ⟨by show 1 ≤ sizeLine; decide, fun q nq => ?_⟩
                    have sq := same_new (o := .lst [.ref Tn]) nq
                    have TT := (T6.same sT).same sq
                    have nTH := T6.none hst nT
                    have N7 := (((N6.same sT).same sq).add nplH (sq _ _ (sT _ _ hpl6))).add nTH (sq _ _ (upd_same (a := Tn) (o := .tup [.str (wS wl[k1]), .ref pl])))
                    have gT : G Tn = Option.none := by
                      cases e : G Tn with
                      | none => rfl
                      | some o => rw [N6.in_ _ _ e] at nT; cases nT
                    refine kO _ _ (ki) q (.ref Tn) (.mk (wS wl[k1]) us) TT (by omega) (by omega) ?_ upd_same N7 (.mk upd_same (by rw [upd_ne plT, upd_same]) ((oys).same fun b o e => by rw [upd_ne (ne_of_none e gT), upd_ne (ne_of_none e gpl)]; exact e))
                    rw [brk]
                    exact lp_top_end lp
                  | cons p r =>
                    refine ite_no rfl ?_
                    try refine ite_no rfl ?_
                    have nei : wl.drop ki ≠ [] := by rw [e]; exact fun z => nomatch z
                    clear e hsv
                    generalize Hb = H6 at T6 S6 hpl6 N6 ⊢
                    have pb : par (wl.drop ki) < d := by
                      have := par_more (wl := wl) (show k1 ≤ ki by omega)
                      omega
                    refine ⟨.ref st, (by kernel_rfl), st, l, xs, wl, ki, true, rfl, S6, W, (fun _ => nei), (by simpa using pb), fun H7 k7 T7' a7 b7 no7 => ?_, fun H7 G7 k7 q7 y7 p7 T7' a7 b7 ok7 hq7 N7 o7 => ?_⟩
                    · refine ⟨.non, (by kernel_rfl), rfl, _, rfl, ?_⟩
                      refine ite_yes rfl ?_
                      refine kN H7 k7 (T6.step T7') (by omega) b7 ?_
                      exact lp_top_no lp no7
                    · refine ⟨.ref q7, (by kernel_rfl), rfl, _, rfl, ?_⟩
                      refine ite_no rfl ?_
                      have hpl7 := T7'.keep _ _ plst hpl6
                      have lys := oys.len
                      refine ⟨.ref pl, (by kernel_rfl), .inl ⟨rfl, _, SqL.of hpl7⟩, .ref q7, (by kernel_rfl), q7, _, 0, y7, rfl, rfl, SqL.of hq7, atI0 rfl, pl, _, _, rfl, rfl, hpl7, Nat.lt_of_le_of_lt (show ys.length ≤ 1000000 by omega) (by decide), ?_⟩
                      have hst6 : H6 st ≠ Option.none := by rw [T6.at_]; exact fun z => nomatch z
                      have dom : ∀ a, H a ≠ Option.none → H6 a ≠ Option.none := fun a ha e => ha (T6.none hst e)
                      have g7p : G7 pl = Option.none := N7.ap pl (by rw [hpl6]; exact fun z => nomatch z)
                      have jr : Same G7 (joinH G G7) := fun bb o e => by
                        cases gg : G bb with
                        | none => rw [join_none gg]; exact e
                        | some u =>
                          have z := N7.ap bb (by rw [N6.in_ _ _ gg]; exact fun z => nomatch z)
                          rw [z] at e
                          cases e
                      have T8 : SS H st l k7 (upd H7 pl (.lst (ys ++ [y7]))) := ⟨by rw [upd_ne (Ne.symm plst)]; exact T7'.at_, fun bb o nb e => by rw [upd_ne (ne_of_none e nplH)]; exact (T6.step T7').keep bb o nb e⟩
                      refine ⟨k7, ys ++ [y7], joinH G G7, us ++ [p7], _, _, rfl, T8, upd_same, (oys.same join_l).app (.cons (o7.same jr) .nil), ((N6.ss hst T7').join2 (N7.dom dom)).put (by rw [join_none gpl]; exact g7p), by rw [join_none gpl]; exact g7p, by omega, b7, by simp [lus], ?_⟩
                      exact lp_top_more lp ok7
              · rintro σ H5 ⟨ki, ys, G, us, v5, v6, rfl, T5, hpl5, oys, N5, gpl, aki, hki, lus, lp⟩
                exact absurd hki (by omega)
            · refine ⟨_, rfl, ?_⟩
              refine ite_yes rfl ?_
              have T3 := T2.step (SS.pre sq2 T3')
              have nobig : ∀ p r, wl.drop k1 = p :: r → isBig (wS p) = false := fun p r e => by
                cases q : isBig (wS p) with
                | false => rfl
                | true => exact absurd ((lk_big (wS_ne (W.ne _ (mem_drop e)))).mpr q) (hit_no hit2 p r e)
              refine kN H3 k1 T3 (Nat.le_refl _) hk1le ?_
              exact top_none fun p r e => ⟨nonum p r e, nobig p r e, noop p r e⟩
        | true =>
          have kN := kN0
          have kO := kO0
          have hne := hne' rfl
          clear kN0 kO0 hpar hne'
          obtain ⟨k1, ek1⟩ : ∃ k1, k1 = k := ⟨_, rfl⟩
          rw [← ek1] at T1 kN kO noop hne
          have hk1le : k1 ≤ wl.length := by omega
          have S1 := S.ss T1 hk1le
          refine ⟨.ref st, (by kernel_rfl), st, .int (k1 : Int), rfl, dget T1.at_ (st_a l k1), ?_⟩
          refine ⟨.ref st, (by kernel_rfl), by show 1 ≤ sizeLine; decide, fun q1 nq1 => ?_⟩
          have sq1 := same_new (o := .lst [.str "number"]) nq1
          refine ⟨st, l, q1, xs, wl, k1, "number", rfl, S1.same sq1, W, upd_same, fun hit H2 T2' => ?_, fun hit H2 T2' => ?_⟩
          · refine ⟨_, rfl, ?_⟩
            refine ite_yes rfl ?_
            have T2 := T1.step (SS.pre sq1 T2')
            obtain ⟨hk1, hd1, lk1⟩ := hit_yes hit
            have S2 := S.ss T2 (by omega)
            have nm := (lk_num (wS_ne (W.ne _ (List.getElem_mem hk1)))).mp lk1
            refine ⟨.bl false, (by kernel_rfl), _, rfl, ?_⟩
            refine ite_no rfl ?_
            obtain ⟨Tk, e1, e2⟩ := wl_get S2.w hk1
            obtain ⟨i1, i2⟩ := int_ok nm
            refine ⟨.ref st, (by kernel_rfl), st, .ref l, rfl, dget S2.at_ (st_w l _), .int (k1 : Int), (by kernel_rfl), l, _, _, .ref Tk, rfl, rfl, SqL.of S2.words, atI_nat e1, Tk, _, 0, .str (wS wl[k1]), rfl, rfl, SqT.of e2, rfl, wS wl[k1], intOf (wS wl[k1]), rfl, i1, by omega, by show 1 ≤ sizeLine; decide, fun q nq => ?_⟩
            refine kO _ (fun _ => Option.none) (k1 + 1) q (.int (intOf (wS wl[k1]))) (.num (intOf (wS wl[k1]))) (T2.same (same_new nq)) (by omega) (by omega) ?_ upd_same new_none (.num _)
            rw [hd1]
            exact at_num nm
          · refine ⟨_, rfl, ?_⟩
            refine ite_no rfl ?_
            have T2 := T1.step (SS.pre sq1 T2')
            have S2 := S.ss T2 hk1le
            have nonum : ∀ p r, wl.drop k1 = p :: r → isNum (wS p) = false := fun p r e => by
              cases q : isNum (wS p) with
              | false => rfl
              | true => exact absurd ((lk_num (wS_ne (W.ne _ (mem_drop e)))).mpr q) (hit_no hit p r e)
            refine ⟨.ref st, (by kernel_rfl), by show 1 ≤ sizeLine; decide, fun q2 nq2 => ?_⟩
            have sq2 := same_new (o := .lst [.str "big"]) nq2
            refine ⟨st, l, q2, xs, wl, k1, "big", rfl, S2.same sq2, W, upd_same, fun hit2 H3 T3' => ?_, fun hit2 H3 T3' => ?_⟩
            · refine ⟨_, rfl, ?_⟩
              refine ite_no rfl ?_
              have T3 := T2.step (SS.pre sq2 T3')
              obtain ⟨hk1, hd1, lk1⟩ := hit_yes hit2
              have bg := (lk_big (wS_ne (W.ne _ (List.getElem_mem hk1)))).mp lk1
              refine ⟨by show 0 ≤ sizeLine; decide, fun pl npl => ?_⟩
              have nplH := T3.none hst npl
              have plst : pl ≠ st := fun z => hst (z ▸ nplH)
              have T4 := T3.same (same_new (o := .lst []) npl)
              have epl := upd_same (H := H3) (a := pl) (o := .lst [])
              generalize upd H3 pl (.lst []) = H4 at T4 epl ⊢
              refine ⟨.bl true, (by kernel_rfl), _, rfl, ?_⟩
              refine ite_no rfl ?_
              refine ⟨.bl false, (by kernel_rfl), _, rfl, ?_⟩
              refine ite_no rfl ?_
              refine ⟨.bl false, (by kernel_rfl), _, rfl, ?_⟩
              refine ite_no rfl ?_
              have S4 := S.ss T4 (by omega)
              have N4 : New H (fun _ => Option.none) H4 := new_none
              obtain ⟨Tk, e1, e2⟩ := wl_get S4.w hk1
              refine ⟨.ref st, (by kernel_rfl), st, .ref l, rfl, dget S4.at_ (st_w l _), .int (k1 : Int), (by kernel_rfl), l, _, _, .ref Tk, rfl, rfl, SqL.of S4.words, atI_nat e1, Tk, _, 0, .str (wS wl[k1]), rfl, rfl, SqT.of e2, rfl, .ref pl, (by kernel_rfl), by show 2 ≤ sizeLine; decide, fun Tn nT => ?_⟩
              have plT : pl ≠ Tn := fun z => by rw [z, nT] at epl; cases epl
              have sT := same_new (o := .tup [.str (wS wl[k1]), .ref pl]) nT
              refine ⟨by show 1 ≤ sizeLine; decide, fun q nq => ?_⟩
              have sq := same_new (o := .lst [.ref Tn]) nq
              have TT := (T4.same sT).same sq
              have nTH := T4.none hst nT
              have N7 := (((N4.same sT).same sq).add nplH (sq _ _ (sT _ _ epl))).add nTH (sq _ _ (upd_same (a := Tn) (o := .tup [.str (wS wl[k1]), .ref pl])))
              have gT : (fun _ => Option.none : Hp) Tn = Option.none := by
                cases e : (fun _ => Option.none : Hp) Tn with
                | none => rfl
                | some o => rw [N4.in_ _ _ e] at nT; cases nT
              refine kO _ _ (k1 + 1) q (.ref Tn) (.mk (wS wl[k1]) []) TT (by omega) (by omega) ?_ upd_same N7 (.mk upd_same (by rw [upd_ne plT, upd_same]) .nil)
              rw [hd1]
              exact at_big bg
            · refine ⟨_, rfl, ?_⟩
              refine ite_yes rfl ?_
              have T3 := T2.step (SS.pre sq2 T3')
              have nobig : ∀ p r, wl.drop k1 = p :: r → isBig (wS p) = false := fun p r e => by
                cases q : isBig (wS p) with
                | false => rfl
                | true => exact absurd ((lk_big (wS_ne (W.ne _ (mem_drop e)))).mpr q) (hit_no hit2 p r e)
              refine kN H3 k1 T3 (Nat.le_refl _) hk1le ?_
              exact at_none (fun p r e => ⟨nonum p r e, nobig p r e, noop p r e⟩) hne
end
end Nm
namespace Nm
open PySem PySem.Spec PyProof.Rows L2
/-! ### what is due, what is told -/
def closes (ws : List Wd) : Nat := (ws.filter fun p => decide (p.1 = [41])).length
theorem closes_cons (p : Wd) (r : List Wd) : closes (p :: r) = (if p.1 = [41] then 1 else 0) + closes r := by
  unfold closes
  rw [List.filter_cons]
  by_cases h : p.1 = [41]
  · rw [if_pos (decide_eq_true h), if_pos h, List.length_cons]; omega
  · rw [if_neg (by rw [decide_eq_false h]; exact Bool.false_ne_true), if_neg h]; omega
theorem close_41 {p : Wd} (h : wS p = ")") : p.1 = [41] := by
  have e := congrArg codes h
  have e2 : codes (wS p) = p.1 := by show p.1.toArray.toList = _; simp
  rw [e2] at e
  rw [e]
  decide +kernel
/-- values told so far: no deeper than D -/
def SB (S : List (List Itm)) (D : Nat) : Prop := ∀ told ∈ S, (∀ t, Sum.inr t ∈ told → t.dep ≤ D ∧ t.ok) ∧ ∀ m, Sum.inl m ∈ told → PyData.strOk m = true
theorem valsI_mem {l : List Itm} {t : Tr} (h : t ∈ valsI l) : Sum.inr t ∈ l := by
  unfold valsI at h
  rw [List.mem_filterMap] at h
  obtain ⟨a, ha, e⟩ := h
  cases a with
  | inl s => cases e
  | inr u =>
    obtain rfl := Option.some.inj e
    exact ha
theorem depL_le : ∀ {ts : List Tr} {D : Nat}, (∀ t ∈ ts, t.dep ≤ D) → Tr.depL ts ≤ D
  | [], _, _ => Nat.zero_le _
  | t :: r, D, h => by
    have h1 := h t (List.mem_cons_self ..)
    have h2 := depL_le (ts := r) fun u m => h u (List.mem_cons_of_mem _ m)
    show max t.dep (Tr.depL r) ≤ D
    omega
theorem okL_of : ∀ {ts : List Tr}, (∀ t ∈ ts, t.ok) → Tr.okL ts
  | [], _ => trivial
  | t :: r, h => ⟨h t (List.mem_cons_self ..), okL_of fun u m => h u (List.mem_cons_of_mem _ m)⟩
theorem readV_sb {told : List Itm} {D : Nat} (h : (∀ t, Sum.inr t ∈ told → t.dep ≤ D ∧ t.ok) ∧ ∀ m, Sum.inl m ∈ told → PyData.strOk m = true) (n : told ≠ []) : (readV told).dep ≤ D + 1 ∧ (readV told).ok := by
  cases told with
  | nil => exact absurd rfl n
  | cons i r =>
    cases i with
    | inl m =>
      refine ⟨?_, h.2 m (List.mem_cons_self ..), okL_of fun t ht => (h.1 t (List.mem_cons_of_mem _ (valsI_mem ht))).2⟩
      have := depL_le (D := D) (ts := valsI r) fun t ht => (h.1 t (List.mem_cons_of_mem _ (valsI_mem ht))).1
      show 1 + Tr.depL (valsI r) ≤ _
      omega
    | inr t =>
      have q := h.1 t (List.mem_cons_self ..)
      exact ⟨Nat.le_succ_of_le q.1, q.2⟩
theorem big_str {m : Str} (h : isBig m = true) : PyData.strOk m = true := (good_ok (.mk m []) (by unfold Tr.good; exact ⟨h, trivial⟩)).1
theorem sb_le {S : List (List Itm)} {D D' : Nat} (h : SB S D) (k : D ≤ D') : SB S D' := fun told m => ⟨fun t ht => ⟨Nat.le_trans ((h told m).1 t ht).1 k, ((h told m).1 t ht).2⟩, (h told m).2⟩
theorem takeW_sb {S S' : List (List Itm)} {p : Wd} {D : Nat} (h : SB S D) (d1 : 1 ≤ D) (e : takeW S (wS p) = some S') : SB S' (D + if p.1 = [41] then 1 else 0) := by
  cases S with
  | nil => cases e
  | cons told rest =>
    have e' : takeW1 told rest (wS p) = some S' := e
    have ht := h told (List.mem_cons_self ..)
    have hr : ∀ u ∈ rest, _ := fun u m => h u (List.mem_cons_of_mem _ m)
    have app : ∀ i : Itm, (∀ t, i = Sum.inr t → t.dep ≤ D ∧ t.ok) → (∀ m, i = Sum.inl m → PyData.strOk m = true) → SB ((told ++ [i]) :: rest) D := fun i a b u m => by
      rcases List.mem_cons.mp m with rfl | m
      · refine ⟨fun t k => ?_, fun mm k => ?_⟩
        · rcases List.mem_append.mp k with k | k
          · exact ht.1 t k
          · exact a t (List.mem_singleton.mp k).symm
        · rcases List.mem_append.mp k with k | k
          · exact ht.2 mm k
          · exact b mm (List.mem_singleton.mp k).symm
      · exact hr u m
    unfold takeW1 at e'
    by_cases c1 : wS p = "("
    · rw [if_pos c1] at e'
      split at e'
      · cases e'
      · obtain rfl := Option.some.inj e'
        refine sb_le (D := D) ?_ (Nat.le_add_right _ _)
        intro u m
        rcases List.mem_cons.mp m with rfl | m
        · exact ⟨(fun t k => nomatch k), (fun mm k => nomatch k)⟩
        · exact h u m
    · rw [if_neg c1] at e'
      by_cases c2 : wS p = ")"
      · rw [if_pos c2] at e'
        rw [if_pos (close_41 c2)]
        cases rest with
        | nil => cases e'
        | cons t2 r2 =>
          have e2 : (if told.isEmpty = true then none else some ((t2 ++ [.inr (readV told)]) :: r2)) = some S' := e'
          by_cases c3 : told.isEmpty = true
          · rw [if_pos c3] at e2; cases e2
          · rw [if_neg c3] at e2
            obtain rfl := Option.some.inj e2
            have rv := readV_sb ht (fun z => c3 (by rw [z]; rfl))
            have h2 := sb_le h (Nat.le_succ D)
            intro u m
            rcases List.mem_cons.mp m with rfl | m
            · have q := h2 t2 (by simp)
              refine ⟨fun t k => ?_, fun mm k => ?_⟩
              · rcases List.mem_append.mp k with k | k
                · exact q.1 t k
                · obtain rfl := Sum.inr.inj (List.mem_singleton.mp k)
                  exact rv
              · rcases List.mem_append.mp k with k | k
                · exact q.2 mm k
                · cases List.mem_singleton.mp k
            · exact h2 u (List.mem_cons_of_mem _ (List.mem_cons_of_mem _ m))
      · rw [if_neg c2] at e'
        refine sb_le (D := D) ?_ (Nat.le_add_right _ _)
        split at e'
        · cases e'
        · split at e'
          · obtain rfl := Option.some.inj e'
            exact app _ (fun t k => by obtain rfl := Sum.inr.inj k; exact ⟨d1, trivial⟩) (fun m k => by cases k)
          · split at e'
            · rename_i bg
              obtain rfl := Option.some.inj e'
              refine app _ (fun t k => ?_) (fun m k => ?_)
              · split at k
                · cases k
                · obtain rfl := Sum.inr.inj k
                  exact ⟨d1, big_str bg, trivial⟩
              · split at k
                · obtain rfl := Sum.inl.inj k
                  exact big_str bg
                · cases k
            · cases e'
theorem prun_sb : ∀ (wl : List Wd) (S : List (List Itm)) (D : Nat) (t : Tr) (r : List Wd), 1 ≤ D → SB S D → prun S wl = (some t, r) → t.dep ≤ D + closes wl + 1 ∧ t.ok
  | [], S, D, t, r, d1, h, e => by
    have e1 : finS S = some t := (Prod.mk.inj e).1
    match S, e1 with
    | [told], e1 =>
      have e2 : (if told.isEmpty = true then none else some (readV told)) = some t := e1
      by_cases c : told.isEmpty = true
      · rw [if_pos c] at e2; cases e2
      · rw [if_neg c] at e2
        obtain rfl := Option.some.inj e2
        exact readV_sb (h told (List.mem_cons_self ..)) (fun z => c (by rw [z]; rfl))
  | p :: wl, S, D, t, r, d1, h, e => by
    cases q : takeW S (wS p) with
    | none => rw [prun_no q] at e; cases e
    | some S' =>
      rw [prun_one q] at e
      have ih := prun_sb wl S' _ t r (Nat.le_trans d1 (Nat.le_add_right _ _)) (takeW_sb h d1 q) e
      rw [closes_cons]
      exact ⟨by omega, ih.2⟩
/-! how large -/
def szI : Itm → Nat
  | .inl _ => 1
  | .inr t => t.sz
def szT (l : List Itm) : Nat := (l.map szI).sum
def szS (S : List (List Itm)) : Nat := (S.map szT).sum
theorem szT_app (a b : List Itm) : szT (a ++ b) = szT a + szT b := by simp [szT]
theorem szS_cons (a : List Itm) (S : List (List Itm)) : szS (a :: S) = szT a + szS S := by simp [szS]
theorem vals_sz : ∀ l : List Itm, Tr.szL (valsI l) ≤ szT l
  | [] => Nat.le_refl _
  | .inl s :: r => by
    have := vals_sz r
    show Tr.szL (valsI r) ≤ szT ([.inl s] ++ r)
    rw [szT_app]
    omega
  | .inr t :: r => by
    have := vals_sz r
    show t.sz + Tr.szL (valsI r) ≤ szT ([.inr t] ++ r)
    rw [szT_app]
    have e : szT [.inr t] = t.sz := by simp [szT, szI]
    omega
theorem readV_sz : ∀ {told : List Itm}, told ≠ [] → (readV told).sz ≤ szT told
  | .inl m :: r, _ => by
    have := vals_sz r
    show 1 + Tr.szL (valsI r) ≤ szT ([.inl m] ++ r)
    rw [szT_app]
    have e : szT [.inl m] = 1 := by simp [szT, szI]
    omega
  | .inr t :: r, _ => by
    show t.sz ≤ szT ([.inr t] ++ r)
    rw [szT_app]
    have e : szT [.inr t] = t.sz := by simp [szT, szI]
    omega
theorem takeW_sz {S S' : List (List Itm)} {w : Str} (e : takeW S w = some S') : szS S' ≤ szS S + 1 := by
  cases S with
  | nil => cases e
  | cons told rest =>
    have e' : takeW1 told rest w = some S' := e
    unfold takeW1 at e'
    have one : ∀ i : Itm, szI i ≤ 1 → szS ((told ++ [i]) :: rest) ≤ szS (told :: rest) + 1 := fun i h => by
      rw [szS_cons, szS_cons, szT_app]
      have e : szT [i] = szI i := by simp [szT]
      omega
    split at e'
    · split at e'
      · cases e'
      · obtain rfl := Option.some.inj e'
        rw [szS_cons]
        show 0 + _ ≤ _
        omega
    · split at e'
      · cases rest with
        | nil => cases e'
        | cons t2 r2 =>
          have e2 : (if told.isEmpty = true then none else some ((t2 ++ [.inr (readV told)]) :: r2)) = some S' := e'
          by_cases c3 : told.isEmpty = true
          · rw [if_pos c3] at e2; cases e2
          · rw [if_neg c3] at e2
            obtain rfl := Option.some.inj e2
            have rv := readV_sz (told := told) (fun z => c3 (by rw [z]; rfl))
            rw [szS_cons, szS_cons, szS_cons, szT_app]
            have e : szT [.inr (readV told)] = (readV told).sz := by simp [szT, szI]
            omega
      · split at e'
        · cases e'
        · split at e'
          · obtain rfl := Option.some.inj e'
            exact one _ (Nat.le_refl _)
          · split at e'
            · obtain rfl := Option.some.inj e'
              refine one _ ?_
              split
              · exact Nat.le_refl _
              · exact Nat.le_refl _
            · cases e'
theorem prun_sz : ∀ (wl : List Wd) (S : List (List Itm)) (t : Tr) (r : List Wd), prun S wl = (some t, r) → t.sz ≤ szS S + wl.length
  | [], S, t, r, e => by
    have e1 : finS S = some t := (Prod.mk.inj e).1
    match S, e1 with
    | [told], e1 =>
      have e2 : (if told.isEmpty = true then none else some (readV told)) = some t := e1
      by_cases c : told.isEmpty = true
      · rw [if_pos c] at e2; cases e2
      · rw [if_neg c] at e2
        obtain rfl := Option.some.inj e2
        have rv := readV_sz (told := told) (fun z => c (by rw [z]; rfl))
        rw [szS_cons]
        exact Nat.le_trans rv (by show _ ≤ szT told + 0 + 0; omega)
  | p :: wl, S, t, r, e => by
    cases q : takeW S (wS p) with
    | none => rw [prun_no q] at e; cases e
    | some S' =>
      rw [prun_one q] at e
      have ih := prun_sz wl S' t r e
      have h := takeW_sz q
      rw [List.length_cons]
      omega
theorem sb0 : SB [[]] 1 := fun told m => by
  obtain rfl := List.mem_singleton.mp m
  exact ⟨(fun t k => nomatch k), (fun mm k => nomatch k)⟩
theorem prun_res {wl : List Wd} {t : Tr} {r : List Wd} (e : prun [[]] wl = (some t, r)) : t.dep ≤ closes wl + 2 ∧ t.ok ∧ t.sz ≤ wl.length := by
  have h1 := prun_sb wl [[]] 1 t r (Nat.le_refl _) sb0 e
  have h2 := prun_sz wl [[]] t r e
  have h3 : szS [[]] = 0 := rfl
  exact ⟨by omega, h1.2, by omega⟩
/-- what is asked of a text -/
structure TOk (z : Str) : Prop where
  ln : z.length ≤ 400000
  ok : ∀ p ∈ scan (codes z) 0 [], PyData.strOk (wS p) = true
  op : par (scan (codes z) 0 []) ≤ 20
  cl : closes (scan (codes z) 0 []) ≤ 20
theorem TOk.w {z : Str} (h : TOk z) : WOk (scan (codes z) 0 []) := by
  have l := h.ln
  rw [len_codes] at l
  have a := scan_len (codes z) 0 []
  refine ⟨fun p m => scan_ne _ _ _ p m, fun p m => ?_, by omega⟩
  have := scan_word (codes z) 0 [] p m
  simp only [List.length_nil] at this
  omega
def spRes : Sp := fun vs H Q _ => ∃ (z : Str), vs = [.str z] ∧ TOk z ∧
  ((prun [[]] (scan (codes z) 0 [])).1 = none → ∀ (H' : Hp) (q : Addr), Same H H' → H' q = some (.tup [.str "bad", .int ((colAt (scan (codes z) 0 []) (prun [[]] (scan (codes z) 0 [])).2 : Nat) : Int)]) → Q (.ref q) H') ∧
  ∀ (t : Tr), (prun [[]] (scan (codes z) 0 [])).1 = some t → ∀ (H' G : Hp) (q : Addr) (y : V), Same H H' → H' q = some (.tup [.str "value", y]) → New H G H' → OAt G y t → Q (.ref q) H'
theorem st_merge (l : Addr) : mergeK [] [((.inr "words" : Key), V.ref l), (.inr "at", .int 0)] = stK l 0 := by
  have e : ¬ (Sum.inr "words" : Key) = (Sum.inr "at" : Key) := w_a
  unfold mergeK
  simp only [List.foldl_cons, List.foldl_nil]
  unfold putK stK kW kA
  simp [e]
section
variable {P : Program} {w : World} {K : PySem.W.Frag} {mg : Str → Option Value} {base : Heap} {C fE CB : Addr}

abbrev sLdue : Stmt := top 38
abbrev NLdue : List Str := ["_law_text", "_law_state", "_law_found"]
abbrev PLdue : List Str := ["_law_text"]
theorem scLdue : FnScope NLdue PLdue (defScope sLdue) := ⟨rfl, rfl, rfl, by decide +kernel, rfl, by decide +kernel, by decide +kernel⟩

theorem ok_due {f fL fC fT fE' fK fS fR : Addr} {fd fdL fdC fdT fdE' fdK fdS fdR : FuncData} (F : Fun K "_law_due" "_law_due" sLdue f fd) (T : VTxt mg) (WT : WTxt mg) (F_law_words : Fun K "_law_words" "_law_words" sLwords fL fdL) (b_law_words : Binds K fdL ["_law_line"] []) (g_law_words : mg "_law_words" = some (.ref fL))
    (F_law_column : Fun K "_law_column" "_law_column" sLcolumn fC fdC) (b_law_column : Binds K fdC ["_law_state"] []) (g_law_column : mg "_law_column" = some (.ref fC))
    (F_law_take : Fun K "_law_take" "_law_take" sLtake fT fdT) (b_law_take : Binds K fdT ["_law_state", "_law_kinds"] []) (g_law_take : mg "_law_take" = some (.ref fT))
    (F_law_seen : Fun K "_law_seen" "_law_seen" sLseen fE' fdE') (b_law_seen : Binds K fdE' ["_law_state"] []) (g_law_seen : mg "_law_seen" = some (.ref fE'))
    (F_law_word_kind : Fun K "_law_word_kind" "_law_word_kind" sLwordkind fK fdK) (b_law_word_kind : Binds K fdK ["_law_word"] []) (g_law_word_kind : mg "_law_word_kind" = some (.ref fK))
    (F_law_signs : Fun K "_law_signs" "_law_signs" sLsigns fS fdS) (b_law_signs : Binds K fdS [] []) (g_law_signs : mg "_law_signs" = some (.ref fS))
    (F_law_read : Fun K "_law_read" "_law_read" sLread fR fdR) (b_law_read : Binds K fdR ["_law_state", "_law_is_atom"] []) (g_law_read : mg "_law_read" = some (.ref fR)) : FnOk P w K mg base CX0 28 f fd PLdue spRes := by
  have G_law_words : FnOk P w K mg base CX0 27 fL fdL PLwords spLWords := (ok_lwords F_law_words WT).mono (by decide)
  have G_law_column : FnOk P w K mg base CX0 27 fC fdC PLcolumn spCol := (ok_col F_law_column T).mono (by decide)
  have G_law_read : FnOk P w K mg base CX0 27 fR fdR PLread (spRd 22) := ok_lread F_law_read T WT F_law_take b_law_take g_law_take F_law_seen b_law_seen g_law_seen F_law_word_kind b_law_word_kind g_law_word_kind F_law_signs b_law_signs g_law_signs b_law_read g_law_read 22
  refine F.ok scLdue (fun vs H Q E h => ?_) (fun cdv A outer s H vs Q E hr h => ?_)
  · obtain ⟨z, rfl, _⟩ := h
    rfl
  · obtain ⟨z, rfl, TK, kb, kv⟩ := h
    have hr1 := hr
    have hu := hu_of hr
    refine ⟨_, (pss_cons (ps_set (i := 1) scLdue.nd rfl (Or.inl rfl) (pe_disp (pps_cons pe_str (pe_call G_law_words hr1 rfl g_law_words F_law_words.kp b_law_words .nil pass0 (pa_cons (pv 0) pa_nil)) (pps_cons pe_str pe_int pps_nil)) (by rfl) (by rfl) (fun z => by cases z) (by decide)))
      (pss_cons (ps_set (i := 2) scLdue.nd rfl (Or.inl rfl) (pe_call G_law_read hr1 rfl g_law_read F_law_read.kp b_law_read .nil pass0 (pa_cons (pv 1) (pa_cons pe_bl pa_nil))))
      (pss_cons (ps_if (PW.pt (pw_or (pt_cmpR op_isN (pv 2) pe_non (nomark _)) (pw_or1 (pt_cmpR op_lt (pe_dget hu (pv 1) pe_str (fun _ _ => rfl)) (pe_callB call_len_seq (by rfl) T.len PySem.boot_len (pa_cons (pe_dget hu (pv 1) pe_str (fun _ _ => rfl)) pa_nil)) (nomark _)))))
      (pss_one (ps_ret (pe_tup (pa_cons pe_str (pa_cons (pe_call G_law_column hr1 rfl g_law_column F_law_column.kp b_law_column .nil pass0 (pa_cons (pv 1) pa_nil)) pa_nil)))))
      pss_nil)
      (pss_one (ps_ret (pe_tup (pa_cons pe_str (pa_cons (pe_ix ix_list (pv 2) pe_int (fun _ _ => rfl)) pa_nil)))))))), ?_⟩
    have W := TK.w
    have hop := TK.op
    have wok := TK.ok
    have hln := TK.ln
    intro st nst
    have s1 := same_new (o := .dK []) nst
    refine ⟨.str z, (by kernel_rfl), z, rfl, by omega, fun l H2 xs S2 hl hw => ?_⟩
    generalize scan (codes z) 0 [] = wl at W hop wok kb kv hw
    have e2 := S2 _ _ (upd_same (H := H) (a := st) (o := .dK []))
    refine ⟨e2, [(.inr "words", .ref l), (.inr "at", .int 0)], rfl, (by show 2 ≤ 15; decide), ?_⟩
    rw [st_merge]
    have lst : l ≠ st := ne_of hl e2 (by intro z; cases z)
    have S3 : StAt (upd H2 st (.dK (stK l 0))) st l xs wl 0 := ⟨upd_same, by rw [upd_ne lst]; exact hl, hw.mono fun T ys q => by rw [upd_ne (ne_of q e2 (by intro z; cases z))]; exact q, Nat.zero_le _⟩
    have sm3 : ∀ b o, H b = some o → upd H2 st (.dK (stK l 0)) b = some o := fun b o e => by
      rw [upd_ne (ne_of_none e nst)]
      exact S2 _ _ (s1 _ _ e)
    generalize upd H2 st (.dK (stK l 0)) = H3 at S3 sm3 ⊢
    have nw : ∀ G H', New H3 G H' → New H G H' := fun G H' N => N.dom fun a ha e => by
      cases q : H a with
      | none => exact ha q
      | some o => rw [sm3 a o q] at e; cases e
    refine ⟨.ref st, (by kernel_rfl), st, l, xs, wl, 0, false, rfl, S3, W, (fun z => nomatch z), (by show par (wl.drop 0) + 1 < 22; rw [List.drop_zero]; omega), fun H4 k' T4 _ hk' no => ?_, fun H4 G k' q y t T4 _ hk' okk hq N4 o4 => ?_⟩
    · have sm4 : Same H H4 := fun b o e => T4.keep b o (ne_of_none e nst) (sm3 b o e)
      have S4 := S3.ss T4 hk'
      have pr : prun [[]] wl = (none, wl.drop k') := no
      rw [pr] at kb
      refine ⟨.non, (by kernel_rfl), rfl, _, rfl, ?_⟩
      refine ite_yes rfl ?_
      refine ite_yes rfl ?_
      refine ⟨.ref st, (by kernel_rfl), st, l, xs, wl, k', rfl, S4, W, wok, fun H5 S5 => ?_⟩
      refine ⟨by show 2 ≤ sizeLine; decide, fun q nq => ?_⟩
      exact kb rfl _ q ((sm4.trans S5).trans (same_new nq)) upd_same
    · have sm4 : Same H H4 := fun b o e => T4.keep b o (ne_of_none e nst) (sm3 b o e)
      have S4 := S3.ss T4 hk'
      have lx := S4.w.len
      have pr : prun [[]] wl = (if wl.drop k' = [] then some t else none, wl.drop k') := okk
      refine ⟨.ref q, (by kernel_rfl), rfl, _, rfl, ?_⟩
      refine ite_no rfl ?_
      refine ⟨.ref st, (by kernel_rfl), st, .int (k' : Int), rfl, dget S4.at_ (st_a l k'), .ref st, (by kernel_rfl), st, .ref l, rfl, dget S4.at_ (st_w l k'), l, _, rfl, .inl (SqL.of S4.words), _, _, rfl, rfl, _, rfl, ?_⟩
      by_cases hlt : k' < wl.length
      · refine ite_yes (decide_eq_true (by omega)) ?_
        try refine ite_yes rfl ?_
        have ne : wl.drop k' ≠ [] := fun z => by
          have := List.drop_eq_nil_iff.mp z
          omega
        rw [if_neg ne] at pr
        rw [pr] at kb
        refine ⟨.ref st, (by kernel_rfl), st, l, xs, wl, k', rfl, S4, W, wok, fun H5 S5 => ?_⟩
        refine ⟨by show 2 ≤ sizeLine; decide, fun q nq => ?_⟩
        exact kb rfl _ q ((sm4.trans S5).trans (same_new nq)) upd_same
      · refine ite_no (decide_eq_false (by omega)) ?_
        try refine ite_no rfl ?_
        have e0 : wl.drop k' = [] := List.drop_of_length_le (by omega)
        rw [e0, if_pos rfl] at pr
        rw [pr] at kv
        refine ⟨.ref q, (by kernel_rfl), q, _, 0, y, rfl, rfl, SqL.of hq, atI0 rfl, by show 2 ≤ sizeLine; decide, fun r nr => ?_⟩
        exact kv t rfl _ G r y (sm4.trans (same_new nr)) upd_same ((nw _ _ N4).same (same_new nr)) o4

end
end Nm
namespace Nm
open PySem PySem.Spec PyProof.Rows L2
/-! ### what is told -/
section
variable {P : Program} {w : World} {K : PySem.W.Frag} {mg : Str → Option Value} {base : Heap} {C fE CB : Addr}

abbrev sLtold : Stmt := top 39
abbrev NLtold : List Str := ["_law_text", "e"]
abbrev PLtold : List Str := ["_law_text"]
theorem scLtold : FnScope NLtold PLtold (defScope sLtold) := ⟨rfl, rfl, rfl, by decide +kernel, rfl, by decide +kernel, by decide +kernel⟩

def t_told (C CB : Addr) (W : WX) : TS := tRet (tTup (tCons (tC (.str "value")) (tCons (tCall (spOwn C 24) [] E0 (tCons (tCallS (spFromX C CB) (WE W) (tCons (tVar 0) tNil)) tNil)) tNil)))
theorem ok_told {f fF fO f0 fb fM fR fN fB fA fI fW fT fX : Addr} {fd fdF fdO fd0 fdb fdM fdR fdN fdB fdA fdI fdW fdT fdX : FuncData} (F : Fun K "_law_told" "_law_told" sLtold f fd) (F_value_from : Fun K "value_from" "value_from" svaluefrom fF fdF) (b_value_from : Binds K fdF ["text"] []) (g_value_from : mg "value_from" = some (.ref fF))
    (F_law_own : Fun K "_law_own" "_law_own" sLown fO fdO) (b_law_own : Binds K fdO ["_law_value"] []) (g_law_own : mg "_law_own" = some (.ref fO)) (T : VTxt mg) (WT : WTxt mg) (MT : MadeTxt K mg C fE) (kS : PySem.W.kitOne K (.ref C) (.type "str") = some false) (Mk : Mk K C f0) (F_init : Fun K "__init__" "Made.__init__" sMadeinit f0 fd0) (B_init : Binds K fd0 ["self", "maker", "parts"] [])
    (XB : XCls K mg "BadText" CB fb ["line", "column"]) (F_bt : Fun K "__init__" "BadText.__init__" sBadTextinit fb fdb) (B_bt : Binds K fdb ["self", "line", "column"] [])
    (F_may_have_parts : Fun K "may_have_parts" "may_have_parts" smayhaveparts fM fdM) (b_may_have_parts : Binds K fdM ["told"] []) (g_may_have_parts : mg "may_have_parts" = some (.ref fM))
    (F_read_value : Fun K "read_value" "read_value" sreadvalue fR fdR) (b_read_value : Binds K fdR ["told"] []) (g_read_value : mg "read_value" = some (.ref fR))
    (F_is_number : NumFun K mg fN fdN) (b_is_number : Binds K fdN Pisnumber []) (g_is_number : mg "is_number" = some (.ref fN))
    (F_is_big : Fun K "is_big" "is_big" sisbig fB fdB) (b_is_big : Binds K fdB Pisbig []) (g_is_big : mg "is_big" = some (.ref fB))
    (F_is_name : Fun K "is_name" "is_name" sisname fI fdI) (b_is_name : Binds K fdI Pisname []) (g_is_name : mg "is_name" = some (.ref fI))
    (F_all_among : Fun K "all_among" "all_among" sallamong fA fdA) (b_all_among : Binds K fdA Pallamong []) (g_all_among : mg "all_among" = some (.ref fA))
    (F_words_of : Fun K "words_of" "words_of" swordsof fW fdW) (b_words_of : Binds K fdW Pwordsof []) (g_words_of : mg "words_of" = some (.ref fW))
    (F_take_word : Fun K "take_word" "take_word" stakeword fT fdT) (b_take_word : Binds K fdT Ptakeword []) (g_take_word : mg "take_word" = some (.ref fT))
    (F_end_of : Fun K "end_of" "end_of" sendof fX fdX) (b_end_of : Binds K fdX Pendof []) (g_end_of : mg "end_of" = some (.ref fX)) : FnOk P w K mg base CX0 28 f fd PLtold spRes := by
  have G_law_own : FnOk P w K mg base CX0 27 fO fdO PLown (spOwn C 24) := (ok_own F_law_own T MT b_law_own g_law_own 24).mono (by decide)
  have G : FnOk P w K mg base (L2.CX P w) 27 fF fdF Pvaluefrom (spFromX C CB) := (ok_fromX F_value_from T WT MT kS Mk F_init B_init XB F_bt B_bt F_may_have_parts b_may_have_parts g_may_have_parts F_read_value b_read_value g_read_value F_is_number b_is_number g_is_number F_is_big b_is_big g_is_big F_is_name b_is_name g_is_name F_all_among b_all_among g_all_among F_words_of b_words_of g_words_of F_take_word b_take_word g_take_word F_end_of b_end_of g_end_of).mono (by decide)
  refine F.ok scLtold (fun vs H Q E h => ?_) (fun cdv A outer s H vs Q E hr h => ?_)
  · obtain ⟨z, rfl, _⟩ := h
    rfl
  · obtain ⟨z, rfl, TK, kb, kv⟩ := h
    have hr1 := hr
    refine ⟨_, pss_one (ps_try_as (i := 1) (tb := t_told C CB) (Wout := fun _ _ _ _ => False) rfl rfl scLtold.nd rfl rfl ⟨rfl, by decide, Or.inl XB.gm⟩ takes0
        (fun W pn xe tk _ => pss_one (ps_ret (by exact (pe_tup (pa_cons pe_str (pa_cons (pe_call G_law_own hr1 rfl g_law_own F_law_own.kp b_law_own .nil pass0 (pa_cons (by exact (pe_callS G hr1 rfl g_value_from F_value_from.kp b_value_from (fun σ => passAt tk σ) (by exact (pa_cons (pv 0) pa_nil)))) pa_nil)) pa_nil))))))
        (fun a oe cls d pn hz hf => pss_one (ps_ret (pe_ifExp (pt_cmpR op_eq (pe_xf XB.xf (XB.no _ (by simp)) hz hf (pv 1)) pe_int (nomark _)) (pe_tup (pa_cons pe_str (pa_cons (pe_xf XB.xf (XB.no _ (by simp)) hz hf (pv 1)) pa_nil))) (pe_tup (pa_cons pe_str (pa_cons (pe_xf XB.xf (XB.no _ (by simp)) hz hf (pv 1)) pa_nil))))))), ?_⟩
    have W := TK.w
    have hcl := TK.cl
    have hln := TK.ln
    refine ⟨.str z, (by kernel_rfl), z, rfl, by omega, fun t ht y H1 S1 hy => ?_, fun hn d H1 S1 hd => ?_⟩
    · have pr : prun [[]] (scan (codes z) 0 []) = (some t, (prun [[]] (scan (codes z) 0 [])).2) := by rw [← ht]
      obtain ⟨r1, r2, r3⟩ := prun_res pr
      have wt := W.tot
      refine ⟨y, t, rfl, hy, by omega, by omega, fun y1 H2 G2 S2 N2 o2 => ?_⟩
      refine ⟨by show 2 ≤ sizeLine; decide, fun q nq => ?_⟩
      exact kv t ht _ G2 q y1 ((S1.trans S2).trans (same_new nq)) upd_same ((N2.dom fun a ha e => by
        cases e2 : H a with
        | none => exact ha e2
        | some o => rw [S1 a o e2] at e; cases e).same (same_new nq)) o2
    · refine ⟨true, XB.te, fun _ a0 _ => ?_, fun q => Bool.noConfusion q⟩
      refine ⟨.ref a0, (by kernel_rfl), rfl, rfl, d, _, .int 1, rfl, hd, rfl, rfl, _, rfl, ?_⟩
      refine ite_yes (decide_eq_true rfl) ?_
      refine ⟨.ref a0, (by kernel_rfl), rfl, rfl, d, _, _, rfl, hd, rfl, by show 2 ≤ sizeLine; decide, fun q nq => ?_⟩
      exact kb hn _ q (S1.trans (same_new nq)) upd_same
end

end Nm
namespace Nm
open PySem PySem.Spec PyProof.Rows L2
/-! ### some value -/
theorem op_inK {X : Cx} {K : PySem.W.Frag} (h : X.K = K) : OpR X (compareOp .In) (rIn K false) := by
  subst h
  exact op_in_seq
theorem op_notInK {X : Cx} {K : PySem.W.Frag} (h : X.K = K) : OpR X (compareOp .NotIn) (rIn K true) := by
  subst h
  exact op_notIn_seq
theorem ix_tupK {X : Cx} {K : PySem.W.Frag} (h : X.K = K) : IxR X (rIxT K) := by
  subst h
  exact ix_tup
mutual
/-- how many have parts -/
def inn : Tr → Nat
  | .num _ => 0
  | .mk _ ps => (if ps.isEmpty then 0 else 1) + innL ps
def innL : List Tr → Nat
  | [] => 0
  | t :: r => inn t + innL r
end
theorem innL_app : ∀ a b : List Tr, innL (a ++ b) = innL a + innL b
  | [], b => by simp [innL]
  | t :: r, b => by
    have := innL_app r b
    show inn t + innL (r ++ b) = inn t + innL r + innL b
    omega
theorem l_t : ¬ (Sum.inr "List" : Key) = (Sum.inr "Tree" : Key) := by decide +kernel
def kvL (lL lT : Addr) : List (Key × V) := [(.inr "List", .ref lL), (.inr "Tree", .ref lT)]
/-- two makers: one without parts, one with these -/
structure MkAt (H : Hp) (l : Addr) (m1 m2 : Str) (ps : List Str) : Prop where
  ex : ∃ T1 T2 e1 e2, H l = some (.lst [.ref T1, .ref T2]) ∧ H T1 = some (.tup [.str m1, .ref e1]) ∧ H T2 = some (.tup [.str m2, .ref e2]) ∧ H e1 = some (.lst []) ∧ H e2 = some (.lst (ps.map V.str))
structure KdAt (H : Hp) (kd : Addr) : Prop where
  ex : ∃ lL lT, H kd = some (.dK (kvL lL lT)) ∧ MkAt H lL "Nil" "Cons" ["Num", "List"] ∧ MkAt H lT "Tip" "Fork" ["Tree", "Num", "Tree"]
theorem MkAt.mono {H H' : Hp} {l : Addr} {m1 m2 : Str} {ps : List Str} (h : MkAt H l m1 m2 ps) (k1 : ∀ a xs, H a = some (.lst xs) → H' a = some (.lst xs)) (k2 : ∀ a xs, H a = some (.tup xs) → H' a = some (.tup xs)) : MkAt H' l m1 m2 ps := by
  obtain ⟨T1, T2, e1, e2, a, b, c, d, e⟩ := h.ex
  exact ⟨T1, T2, e1, e2, k1 _ _ a, k2 _ _ b, k2 _ _ c, k1 _ _ d, k1 _ _ e⟩
theorem KdAt.same {H H' : Hp} {kd : Addr} (h : KdAt H kd) (s : Same H H') : KdAt H' kd := by
  obtain ⟨lL, lT, a, b, c⟩ := h.ex
  exact ⟨lL, lT, s _ _ a, b.mono (fun _ _ e => s _ _ e) (fun _ _ e => s _ _ e), c.mono (fun _ _ e => s _ _ e) (fun _ _ e => s _ _ e)⟩
theorem KdAt.ps {H0 H : Hp} {kd p : Addr} {n : Int} {z y : Pen} (h : KdAt H0 kd) (Y : PenAt H0 p y) (s : PS H0 p n H z) : KdAt H kd := by
  obtain ⟨lL, lT, a, b, c⟩ := h.ex
  have kl : ∀ a xs, H0 a = some (.lst xs) → H a = some (.lst xs) := fun a xs e => s.keep _ _ (ne_of e Y.at_ (by intro z; cases z)) e
  have kt : ∀ a xs, H0 a = some (.tup xs) → H a = some (.tup xs) := fun a xs e => s.keep _ _ (ne_of e Y.at_ (by intro z; cases z)) e
  refine ⟨lL, lT, s.keep _ _ (ne_of a Y.at_ (fun x => ?_)) a, b.mono kl kt, c.mono kl kt⟩
  have e := congrArg (fun o => match o with | HO.dK l => l.length | _ => 0) x
  exact absurd e (by show ¬ (2 = 5); decide)
def spMakers : Sp := fun vs H Q _ => ∃ (kd : Addr) (kind : Str), vs = [.ref kd, .str kind] ∧ KdAt H kd ∧ (kind = "List" ∨ kind = "Tree") ∧
  ((kind = "List" → ∀ l, MkAt H l "Nil" "Cons" ["Num", "List"] → Q (.ref l) H)) ∧ (kind = "Tree" → ∀ l, MkAt H l "Tip" "Fork" ["Tree", "Num", "Tree"] → Q (.ref l) H)
def sD : Nat → Nat
  | 0 => 2
  | d + 1 => 2 + 3 * sD d
def sB : Nat → Nat
  | 0 => 1
  | d + 1 => 1 + 3 * sB d
def iX : Nat → Nat
  | 0 => 0
  | d + 1 => 1 + 3 * iX d
theorem sD_pos : ∀ d, 2 ≤ sD d
  | 0 => by decide
  | d + 1 => by show 2 ≤ 2 + 3 * sD d; omega
theorem sB_pos : ∀ d, 1 ≤ sB d
  | 0 => by decide
  | d + 1 => by show 1 ≤ 1 + 3 * sB d; omega
def kd3 (kind : Str) : Prop := kind = "Num" ∨ kind = "List" ∨ kind = "Tree"
def spSome (d : Nat) : Sp := fun vs H Q _ => ∃ (p kd : Addr) (z : Pen) (kind : Str), vs = [.ref p, .ref kd, .str kind, .int (d : Int)] ∧ PenAt H p z ∧ KdAt H kd ∧ kd3 kind ∧ z.c + sD d ≤ 900000 ∧
  ∀ (y : V) (t : Tr) (H' G : Hp) (z' : Pen), PS H p (z.c + sD d) H' z' → New H G H' → OAt G y t → t.dep ≤ d + 1 → t.sz ≤ sB d → t.good → inn t ≤ iX d → Q y H'
def spSomeN (n : Nat) : Sp := fun vs H Q E => ∃ d : Nat, d < n ∧ spSome d vs H Q E
def dM (l : List (Str × List Str)) : PyData := .list (l.map fun m => .tuple [.str m.1, .list (m.2.map .str)])
section
variable {P : Program} {w : World} {K : PySem.W.Frag} {mg : Str → Option Value} {base : Heap} {C fE CB : Addr}

abbrev sLmakers : Stmt := top 29
abbrev NLmakers : List Str := ["_law_kinds", "_law_kind"]
abbrev PLmakers : List Str := ["_law_kinds", "_law_kind"]
theorem scLmakers : FnScope NLmakers PLmakers (defScope sLmakers) := ⟨rfl, rfl, rfl, by decide +kernel, rfl, by decide +kernel, by decide +kernel⟩

theorem ok_makers {f : Addr} {fd : FuncData} (F : Fun K "_law_makers" "_law_makers" sLmakers f fd) : FnOk P w K mg base CX0 1 f fd PLmakers spMakers := by
  refine F.ok scLmakers (fun vs H Q E h => ?_) (fun cdv A outer s H vs Q E hr h => ?_)
  · obtain ⟨kd, kind, rfl, _⟩ := h
    rfl
  · obtain ⟨kd, kind, rfl, KD, hk, k1, k2⟩ := h
    have hu := hu_of hr
    refine ⟨_, (pss_one (ps_ret (pe_ifExp (pt_cmpR op_eq (pv 1) pe_str (nomark _)) (pe_lst (pa_cons (pe_tup (pa_cons pe_str (pa_cons (pe_lst pa_nil) pa_nil))) (pa_cons (pe_tup (pa_cons pe_str (pa_cons (pe_lst pa_nil) pa_nil))) pa_nil))) (pe_dget hu (pv 0) (pv 1) (fun _ _ => rfl))))), ?_⟩
    obtain ⟨lL, lT, a, b, c⟩ := KD.ex
    refine ⟨.str kind, (by kernel_rfl), rfl, _, rfl, ?_⟩
    rcases hk with rfl | rfl
    · refine ite_no (by decide +kernel) ?_
      exact ⟨.ref kd, (by kernel_rfl), .str "List", (by kernel_rfl), kd, .ref lL, rfl, dget (k := .inr "List") a (by unfold kvL; rw [valV_pos rfl]), k1 rfl lL b⟩
    · refine ite_no (by decide +kernel) ?_
      exact ⟨.ref kd, (by kernel_rfl), .str "Tree", (by kernel_rfl), kd, .ref lT, rfl, dget (k := .inr "Tree") a (by unfold kvL; rw [valV_neg l_t, valV_pos rfl]), k2 rfl lT c⟩

abbrev sLsomevalue : Stmt := top 30
abbrev NLsomevalue : List Str := ["_law_pen_here", "_law_kinds", "_law_kind", "_law_depth", "_law_makers_here", "_law_maker", "_law_flat", "_law_deep", "_law_part"]
abbrev PLsomevalue : List Str := ["_law_pen_here", "_law_kinds", "_law_kind", "_law_depth"]
theorem scLsomevalue : FnScope NLsomevalue PLsomevalue (defScope sLsomevalue) := ⟨rfl, rfl, rfl, by decide +kernel, rfl, by decide +kernel, by decide +kernel⟩

theorem ok_some {f fM fD fQ : Addr} {fd fdM fdD fdQ : FuncData} (F_law_some_value : Fun K "_law_some_value" "_law_some_value" sLsomevalue f fd) (T : VTxt mg) (PT : PenTxt mg)
    (F_law_makers : Fun K "_law_makers" "_law_makers" sLmakers fM fdM) (b_law_makers : Binds K fdM ["_law_kinds", "_law_kind"] []) (g_law_makers : mg "_law_makers" = some (.ref fM))
    (F_law_draw : Fun K "_law_draw" "_law_draw" sDraw fD fdD) (b_law_draw : Binds K fdD ["_law_pen_here", "_law_many"] []) (g_law_draw : mg "_law_draw" = some (.ref fD))
    (F_law_pick : Fun K "_law_pick" "_law_pick" sPick fQ fdQ) (b_law_pick : Binds K fdQ ["_law_pen_here", "_law_some"] []) (g_law_pick : mg "_law_pick" = some (.ref fQ))
    (b_law_some_value : Binds K fd ["_law_pen_here", "_law_kinds", "_law_kind", "_law_depth"] []) (g_law_some_value : mg "_law_some_value" = some (.ref f)) : ∀ n : Nat, FnOk P w K mg base CX0 (n + 3) f fd PLsomevalue (spSomeN n)
  | 0 => by
    refine F_law_some_value.ok scLsomevalue (fun vs H Q E h => ?_) (fun cdv A outer s H vs Q E hr h => ?_)
    · obtain ⟨d, hd, _⟩ := h
      exact absurd hd (Nat.not_lt_zero _)
    · obtain ⟨d, hd, _⟩ := h
      exact absurd hd (Nat.not_lt_zero _)
  | n + 1 => by
    have G_law_some_value := ok_some F_law_some_value T PT F_law_makers b_law_makers g_law_makers F_law_draw b_law_draw g_law_draw F_law_pick b_law_pick g_law_pick b_law_some_value g_law_some_value n
    have G_law_makers : FnOk P w K mg base CX0 (n + 3) fM fdM PLmakers spMakers := (ok_makers F_law_makers).mono (by omega)
    have G_law_draw : FnOk P w K mg base CX0 (n + 3) fD fdD ["_law_pen_here", "_law_many"] spDraw := (ok_draw F_law_draw PT).mono (by omega)
    have G_law_pick : FnOk P w K mg base CX0 (n + 3) fQ fdQ ["_law_pen_here", "_law_some"] (spPick K) := (ok_pick F_law_pick PT F_law_draw b_law_draw g_law_draw).mono (by omega)
    refine F_law_some_value.ok scLsomevalue (fun vs H Q E h => ?_) (fun cdv A outer s H vs Q E hr h => ?_)
    · obtain ⟨d, hd, p, kd, z, kind, rfl, _⟩ := h
      rfl
    · obtain ⟨d, hd, p, kd, z, kind, rfl, Z, KD, hk, hc, k⟩ := h
      have hr1 := hr
      have hp : H p ≠ Option.none := by rw [Z.at_]; exact fun z => nomatch z
      have z0 := Z.ok.c0
      refine ⟨_, (pss_cons (ps_if (pt_cmpR op_eq (pv 2) pe_str (nomark _))
      (pss_one (ps_ret (pe_call G_law_pick hr1 rfl g_law_pick F_law_pick.kp b_law_pick .nil pass0 (pa_cons (pv 0) (pa_cons (pe_lst (pa_cons pe_int (pa_cons pe_int (pa_cons pe_int (pa_cons pe_int (pa_cons (pe_un un_neg pe_int) (pa_cons pe_int (pa_cons (pe_op op_pow pe_int pe_int) (pa_cons (pe_call G_law_draw hr1 rfl g_law_draw F_law_draw.kp b_law_draw .nil pass0 (pa_cons (pv 0) (pa_cons pe_int pa_nil))) pa_nil))))))))) pa_nil)))))
      pss_nil)
      (pss_cons (ps_set (i := 4) scLsomevalue.nd rfl (Or.inl rfl) (pe_call G_law_makers hr1 rfl g_law_makers F_law_makers.kp b_law_makers .nil pass0 (pa_cons (pv 1) (pa_cons (pv 2) pa_nil))))
      (pss_cons (ps_setLc (i := 6) (own := [("_law_maker", 5)]) (g := (gName 5)) rfl scLsomevalue.nd rfl rfl (sw_true rfl rfl rfl (by decide +kernel)) (pi_list (pv 4)) (blkOk_by (own := [("_law_maker", 5)]) (N := NLsomevalue) (sc := defScope sLsomevalue) (by decide +kernel)) (fun _ _ _ _ _ => (pg_name (i := 5) scLsomevalue.nd rfl (Or.inl rfl))) (fun _ _ _ _ _ => (pts_one (pt_cmpR (op_notInK (K := K) rfl) (pv 2) (pe_ix (ix_tupK (K := K) rfl) (pv 5) pe_int (fun _ _ => rfl)) (by rfl)))) (fun _ _ _ _ _ => (pv 5)))
      (pss_cons (ps_setLc (i := 7) (own := [("_law_maker", 5)]) (g := (gName 5)) rfl scLsomevalue.nd rfl rfl (sw_true rfl rfl rfl (by decide +kernel)) (pi_list (pv 4)) (blkOk_by (own := [("_law_maker", 5)]) (N := NLsomevalue) (sc := defScope sLsomevalue) (by decide +kernel)) (fun _ _ _ _ _ => (pg_name (i := 5) scLsomevalue.nd rfl (Or.inl rfl))) (fun _ _ _ _ _ => (pts_one (pt_cmpR (op_inK (K := K) rfl) (pv 2) (pe_ix (ix_tupK (K := K) rfl) (pv 5) pe_int (fun _ _ => rfl)) (by rfl)))) (fun _ _ _ _ _ => (pv 5)))
      (pss_cons (ps_set (i := 5) scLsomevalue.nd rfl (Or.inl rfl) (pe_call G_law_pick hr1 rfl g_law_pick F_law_pick.kp b_law_pick .nil pass0 (pa_cons (pv 0) (pa_cons (pe_ifExp (PW.pt (pw_and (pt_cmpR op_gt (pv 3) pe_int (nomark _)) (pw_and (pt_cmpR (op_neD hr.units) (pv 7) (pe_lst pa_nil) (nomark _)) (pw_and1 (pt_cmpR op_gt (pe_call G_law_draw hr1 rfl g_law_draw F_law_draw.kp b_law_draw .nil pass0 (pa_cons (pv 0) (pa_cons pe_int pa_nil))) pe_int (nomark _)))))) (pv 7) (pv 6)) pa_nil))))
      (pss_one (ps_ret (pe_tup (pa_cons (pe_ix ix_tup (pv 5) pe_int (fun _ _ => rfl)) (pa_cons (pe_lc (own := [("_law_part", 8)]) (g := (gName 8)) rfl scLsomevalue.nd (pi_list (pe_ix ix_tup (pv 5) pe_int (fun _ _ => rfl))) (blkOk_by (own := [("_law_part", 8)]) (N := NLsomevalue) (sc := defScope sLsomevalue) (by decide +kernel)) (fun _ _ _ _ _ => (pg_name (i := 8) scLsomevalue.nd rfl (Or.inl rfl))) (fun _ _ _ _ _ => pts_nil) (fun _ _ _ _ _ => (pe_call G_law_some_value hr1 rfl g_law_some_value F_law_some_value.kp b_law_some_value .nil pass0 (pa_cons (pv 0) (pa_cons (pv 1) (pa_cons (pv 8) (pa_cons (pe_op op_sub (pv 3) pe_int) pa_nil))))))) pa_nil)))))))))), ?_⟩
      have S0 := PS.start Z
      have pos := sD_pos d
      refine ⟨.str kind, (by kernel_rfl), rfl, _, rfl, ?_⟩
      by_cases hnum : kind = "Num"
      · refine ite_yes (by rw [dec_str]; exact decide_eq_true hnum) ?_
        refine ⟨.ref p, (by kernel_rfl), 1, rfl, _, _, rfl, rfl, ⟨by decide, by decide, by decide⟩, .ref p, (by kernel_rfl), p, z, 100, rfl, Z, by decide, by decide, by omega, fun dr z1 r0 r1 g1 => ?_⟩
        have S1 := S0.draw g1
        generalize upd H p (.dK z1.kvs) = H1 at S1 ⊢
        have c1 := S1.c
        refine ⟨by show 8 ≤ sizeLine; decide, fun q nq => ?_⟩
        have S2 := S1.new (o := .lst [.int 0, .int 1, .int 2, .int 3, .int (-1), .int 7, .int (10 ^ (12 : Int).toNat), .int dr]) nq
        refine ⟨p, q, z1, _, rfl, S2.pen, upd_same, by show 0 < 8; decide, by show 8 < 1073741824; decide, by omega, fun v z3 hv g3 => ?_⟩
        have S3 := S2.draw g3
        have num : ∀ i : Int, i.natAbs ≤ 1000000000000 → Q (.int i) (upd (upd H1 q (.lst [.int 0, .int 1, .int 2, .int 3, .int (-1), .int 7, .int (10 ^ (12 : Int).toNat), .int dr])) p (.dK z3.kvs)) := fun i hi =>
          k (.int i) (.num i) _ (fun _ => Option.none) z3 (S3.le (by omega)) new_none (.num i) (by show 1 ≤ _; omega) (sB_pos _) (by unfold Tr.good; exact Nat.lt_of_le_of_lt hi (by decide +kernel)) (Nat.zero_le _)
        have e12 : (10 : Int) ^ (12 : Int).toNat = 1000000000000 := by decide
        simp only [List.mem_cons, List.not_mem_nil, or_false] at hv
        rcases hv with rfl | rfl | rfl | rfl | rfl | rfl | rfl | rfl
        · exact num _ (by decide)
        · exact num _ (by decide)
        · exact num _ (by decide)
        · exact num _ (by decide)
        · exact num _ (by decide)
        · exact num _ (by decide)
        · exact num _ (by rw [e12]; decide)
        · exact num _ (by omega)
      refine ite_no (by rw [dec_str]; exact decide_eq_false hnum) ?_
      have two : kind = "List" ∨ kind = "Tree" := hk.resolve_left hnum
      refine ⟨.ref kd, (by kernel_rfl), .str kind, (by kernel_rfl), kd, kind, rfl, KD, two, fun ek l mk => ?_, fun ek l mk => ?_⟩
      · obtain ⟨m1, m2, ps, em1, em2, eps⟩ : ∃ (m1 m2 : Str) (ps : List Str), m1 = "Nil" ∧ m2 = "Cons" ∧ ps = (["Num", "List"] : List Str) := ⟨_, _, _, rfl, rfl, rfl⟩
        have hin : inV (V.str kind) (ps.map V.str) = true := by rw [inV_strs, ek, eps]; decide +kernel
        have hfl : (ps.map V.str).all flatV = true := by rw [eps]; rfl
        have b1 : isBig m1 = true := by rw [em1]; decide +kernel
        have b2 : isBig m2 = true := by rw [em2]; decide +kernel
        have p3 : ∀ q ∈ ps, kd3 q := by
          rw [eps]
          intro q hq
          simp only [List.mem_cons, List.not_mem_nil, or_false] at hq
          unfold kd3
          rcases hq with rfl | hq
          all_goals first | (simp; done) | (rcases hq with rfl | rfl <;> simp) | (rw [hq]; simp)
        have pl3 : ps.length ≤ 3 := by rw [eps]; decide
        have hsh : SeqAt.shaped (dM [(m2, ps)]) = true := by rw [em2, eps]; decide +kernel
        rw [← em1, ← em2, ← eps] at mk
        clear em1 em2 eps ek
        have KDn := KD
        obtain ⟨T1, T2, e1, e2, hl, hT1, hT2, he1, he2⟩ := mk.ex
        refine ⟨.ref l, (by kernel_rfl), l, rfl, ⟨_, SqL.of hl⟩, ?_⟩
        intro D1 nD1
        refine lc_list (K := K) (a := l) (xs := [.ref T1, .ref T2]) (fun i H' => Same H H' ∧ H' D1 = some (.lst (if i = 0 then [] else [.ref T1]))) ⟨same_new nD1, upd_same⟩ (fun i H' _ ⟨S, _⟩ => SqL.of (S _ _ hl)) ?_ ?_
        · rintro i x H1 hi ⟨S, hD⟩
          rcases i with _ | _ | i
          · obtain rfl : V.ref T1 = x := by simpa using hi
            refine ⟨rfl, ?_⟩
            refine ⟨.str kind, (by kernel_rfl), .ref T1, (by kernel_rfl), T1, _, 1, .ref e1, rfl, rfl, SqT.of (S _ _ hT1), rfl, e1, _, rfl, .inl (SqL.of (S _ _ he1)), rfl, rfl, _, rfl, ?_⟩
            refine ite_yes rfl ?_
            refine ⟨.ref T1, (by kernel_rfl), _, hD, by show 0 < sizeLine; decide, same_put S nD1, upd_same⟩
          · obtain rfl : V.ref T2 = x := by simpa using hi
            refine ⟨rfl, ?_⟩
            refine ⟨.str kind, (by kernel_rfl), .ref T2, (by kernel_rfl), T2, _, 1, .ref e2, rfl, rfl, SqT.of (S _ _ hT2), rfl, e2, _, rfl, .inl (SqL.of (S _ _ he2)), rfl, hfl, _, rfl, ?_⟩
            refine ite_no (by show (!inV (V.str kind) (ps.map V.str)) = false; rw [hin]; rfl) ?_
            exact ⟨S, hD⟩
          · simp at hi
        rintro H1 ⟨S1, hD1⟩
        replace hD1 : H1 D1 = some (.lst [.ref T1]) := hD1
        refine ⟨.ref l, (by kernel_rfl), l, rfl, ⟨_, SqL.of (S1 _ _ hl)⟩, ?_⟩
        intro D2 nD2
        refine lc_list (K := K) (a := l) (xs := [.ref T1, .ref T2]) (fun i H' => Same H1 H' ∧ H' D2 = some (.lst (if i < 2 then [] else [.ref T2]))) ⟨same_new nD2, upd_same⟩ (fun i H' _ ⟨S, _⟩ => SqL.of (S _ _ (S1 _ _ hl))) ?_ ?_
        · rintro i x H2 hi ⟨S, hD⟩
          have S2 := S1.trans S
          rcases i with _ | _ | i
          · obtain rfl : V.ref T1 = x := by simpa using hi
            refine ⟨rfl, ?_⟩
            refine ⟨.str kind, (by kernel_rfl), .ref T1, (by kernel_rfl), T1, _, 1, .ref e1, rfl, rfl, SqT.of (S2 _ _ hT1), rfl, e1, _, rfl, .inl (SqL.of (S2 _ _ he1)), rfl, rfl, _, rfl, ?_⟩
            refine ite_no rfl ?_
            exact ⟨S, hD⟩
          · obtain rfl : V.ref T2 = x := by simpa using hi
            refine ⟨rfl, ?_⟩
            refine ⟨.str kind, (by kernel_rfl), .ref T2, (by kernel_rfl), T2, _, 1, .ref e2, rfl, rfl, SqT.of (S2 _ _ hT2), rfl, e2, _, rfl, .inl (SqL.of (S2 _ _ he2)), rfl, hfl, _, rfl, ?_⟩
            refine ite_yes (by show inV (V.str kind) (ps.map V.str) = true; exact hin) ?_
            refine ⟨.ref T2, (by kernel_rfl), _, hD, by show 0 < sizeLine; decide, same_put S nD2, upd_same⟩
          · simp at hi
        rintro H2 ⟨S2', hD2⟩
        replace hD2 : H2 D2 = some (.lst [.ref T2]) := hD2
        have S2 := S1.trans S2'
        have hD12 := S2' _ _ hD1
        have P2 := S0.same S2
        have c2 := P2.c
        clear S1 S2' hD1
        refine ⟨.ref p, (by kernel_rfl), .int (d : Int), (by kernel_rfl), _, _, rfl, rfl, _, rfl, ?_⟩
        have hT1' := S2 _ _ hT1
        have hT2' := S2 _ _ hT2
        have he1' := S2 _ _ he1
        have he2' := S2 _ _ he2
        cases d with
        | zero =>
          refine ite_no (decide_eq_false (by simp)) ?_
          refine ⟨.ref D1, (by kernel_rfl), p, D1, z, [.ref T1], rfl, P2.pen, hD12, by show 0 < 1; decide, by show 1 < 1073741824; decide, by omega, fun v z5 hv g5 => ?_⟩
          obtain rfl : v = .ref T1 := List.mem_singleton.mp hv
          have S5 := P2.draw g5
          generalize upd H2 p (.dK z5.kvs) = H5 at S5 ⊢
          clear hv g5
          have hT5 := S5.keep _ _ (ne_of hT1 Z.at_ (by intro z; cases z)) hT1
          have he5 := S5.keep _ _ (ne_of he1 Z.at_ (by intro z; cases z)) he1
          have c5 := S5.c
          refine ⟨.ref T1, (by kernel_rfl), T1, _, 0, .str m1, rfl, rfl, SqT.of hT5, rfl, .ref T1, (by kernel_rfl), T1, _, 1, .ref e1, rfl, rfl, SqT.of hT5, rfl, e1, rfl, ⟨_, SqL.of he5⟩, ?_⟩
          intro D nD'
          have nDH := S5.none hp nD'
          have Dp : D ≠ p := fun q => hp (q ▸ nDH)
          refine lc_list (K := K) (a := e1) (xs := []) (fun i H' => Same H5 H' ∧ H' D = some (.lst [])) ⟨same_new nD', upd_same⟩ (fun i H' _ ⟨S, _⟩ => SqL.of (S _ _ he5)) ?_ ?_
          · rintro i x H6 hi _
            simp at hi
          rintro H6 ⟨S6', hD6⟩
          have S6 := S5.same S6'
          have N6 : New H (fun _ => Option.none) H6 := new_none
          refine ⟨by show 2 ≤ sizeLine; decide, fun T3 nT3 => ?_⟩
          have nT0 := S6.none hp nT3
          have s1 := same_new (o := .tup [.str m1, .ref D]) nT3
          have DT : D ≠ T3 := fun z => by rw [z, nT3] at hD6; cases hD6
          have N7 := ((N6.same s1).add nDH (s1 _ _ hD6)).add nT0 (upd_same (H := H6) (a := T3) (o := .tup [.str m1, .ref D]))
          exact k (.ref T3) (.mk m1 []) _ _ z5 ((S6.same s1).le (by omega)) N7 (.mk upd_same (by rw [upd_ne DT, upd_same]) .nil) (by show 1 + 0 ≤ _; omega) (by show 1 + 0 ≤ _; exact sB_pos _) (by unfold Tr.good; exact ⟨b1, trivial⟩) (by show 0 + 0 ≤ _; omega)
        | succ d =>
          refine ite_yes (decide_eq_true (by omega)) ?_
          refine ⟨.ref D2, (by kernel_rfl), by show 0 ≤ sizeLine; decide, fun q nq => ?_⟩
          have sq := same_new (o := .lst []) nq
          have hp2s : DpAll K (upd H2 q (.lst [])) (ps.map V.str) (ps.map .str) := by
            clear hfl hin p3 pl3 hsh he2 he2' mk
            induction ps with
            | nil => exact .nil
            | cons a b ih => exact .cons (.str _) ih
          refine ⟨dM [(m2, ps)], .list [], .lst (SqL.of (sq _ _ hD2)) (.cons (.tup (SqT.of (sq _ _ hT2')) (.cons (.str _) (.cons (.lst (SqL.of (sq _ _ he2')) hp2s) .nil))) .nil), .lst (SqL.of upd_same) .nil, hsh, by decide +kernel, _, rfl, ?_⟩
          refine ite_yes (by simp [dM, PyData.eqv, PyData.eqvAll]) ?_
          have P3 := P2.same sq
          have hD13 := sq _ _ hD12
          have hD23 := sq _ _ hD2
          clear hp2s
          generalize upd H2 q (.lst []) = H3 at P3 hD13 hD23 ⊢
          refine ⟨.ref p, (by kernel_rfl), p, z, 8, rfl, P3.pen, by decide, by decide, by omega, fun r z4 r0 r1 g4 => ?_⟩
          have P4 := P3.draw g4
          have hD14 : upd H3 p (.dK z4.kvs) D1 = some (.lst [.ref T1]) := by rw [upd_ne (ne_of hD13 P3.pen.at_ (by intro z; cases z))]; exact hD13
          have hD24 : upd H3 p (.dK z4.kvs) D2 = some (.lst [.ref T2]) := by rw [upd_ne (ne_of hD23 P3.pen.at_ (by intro z; cases z))]; exact hD23
          generalize upd H3 p (.dK z4.kvs) = H4' at P4 hD14 hD24 ⊢
          have c4' := P4.c
          refine ⟨_, _, rfl, rfl, _, rfl, ?_⟩
          refine ite2 (fun _ => ?_) (fun _ => ?_)
          · skip
            refine ⟨.ref D2, (by kernel_rfl), p, D2, z4, [.ref T2], rfl, P4.pen, hD24, by show 0 < 1; decide, by show 1 < 1073741824; decide, by omega, fun v z5 hv g5 => ?_⟩
            obtain rfl : v = .ref T2 := List.mem_singleton.mp hv
            have S5 := P4.draw g5
            generalize upd H4' p (.dK z5.kvs) = H5 at S5 ⊢
            clear hv g5
            have hT5 := S5.keep _ _ (ne_of hT2 Z.at_ (by intro z; cases z)) hT2
            have he5 := S5.keep _ _ (ne_of he2 Z.at_ (by intro z; cases z)) he2
            have c5 := S5.c
            refine ⟨.ref T2, (by kernel_rfl), T2, _, 0, .str m2, rfl, rfl, SqT.of hT5, rfl, .ref T2, (by kernel_rfl), T2, _, 1, .ref e2, rfl, rfl, SqT.of hT5, rfl, e2, rfl, ⟨_, SqL.of he5⟩, ?_⟩
            intro D nD'
            have nDH := S5.none hp nD'
            have Dp : D ≠ p := fun q => hp (q ▸ nDH)
            have eN : sD (d + 1) = 2 + 3 * sD d := rfl
            have eB : sB (d + 1) = 1 + 3 * sB d := rfl
            have eI : iX (d + 1) = 1 + 3 * iX d := rfl
            refine lc_list (K := K) (a := e2) (xs := ps.map V.str) (fun i H' => ∃ (ys : List V) (G : Hp) (z' : Pen) (us : List Tr), H' D = some (.lst ys) ∧ OAts G ys us ∧ us.length = i ∧ PS H p (z.c + 2 + ((i * sD d : Nat) : Int)) H' z' ∧ New H G H' ∧ G D = Option.none ∧ Tr.depL us ≤ d + 1 ∧ Tr.szL us ≤ i * sB d ∧ Tr.goodL us ∧ innL us ≤ i * iX d ∧ H' e2 = some (.lst (ps.map V.str)))
              ⟨[], fun _ => Option.none, z5, [], upd_same, .nil, rfl, (S5.new nD').le (by omega), new_none, rfl, Nat.zero_le _, Nat.zero_le _, trivial, Nat.zero_le _, (same_new nD') _ _ he5⟩ (fun i H' _ ⟨_, _, _, _, _, _, _, _, _, _, _, _, _, _, h⟩ => SqL.of h) ?_ ?_
            · rintro i x H6 hi ⟨ys, G, z4, us, hD, hy, lu, S4, N4, gD, hdp, hsz, hok, hin', hee4⟩
              obtain ⟨qk, hqm, rfl⟩ : ∃ qk ∈ ps, x = V.str qk := by
                rw [List.getElem?_map] at hi
                cases e : ps[i]? with
                | none => rw [e] at hi; cases hi
                | some s => rw [e] at hi; exact ⟨s, List.mem_of_getElem? e, (Option.some.inj hi).symm⟩
              have hilt : i < ps.length := by
                have z := (List.getElem?_eq_some_iff.mp hi).1
                simpa using z
              refine ⟨rfl, ?_⟩
              have c4 := S4.c
              have i4 : i * sD d ≤ 2 * sD d := Nat.mul_le_mul_right _ (by omega)
              refine ⟨.ref p, (by kernel_rfl), .ref kd, (by kernel_rfl), .str qk, (by kernel_rfl), .int ((d + 1 : Nat) : Int), (by kernel_rfl), _, _, rfl, rfl, d, by omega, p, kd, z4, qk, (by show [V.ref p, V.ref kd, V.str qk, V.int (((d + 1 : Nat) : Int) - 1)] = [V.ref p, V.ref kd, V.str qk, V.int (d : Int)]; rw [show ((d + 1 : Nat) : Int) - 1 = (d : Int) by omega]), S4.pen, KD.ps Z S4, p3 qk hqm, by omega, fun y t H7 G2 z7 S7 N7 o7 dp7 sz7 ok7 in7 => ?_⟩
              have hD7 : H7 D = some (.lst ys) := S7.keep _ _ Dp hD
              have ly := hy.len
              have g2D : G2 D = Option.none := N7.ap D (by rw [hD]; exact fun z => nomatch z)
              have N4' : New H G H7 := N4.ps hp S7
              have dom : ∀ a, H a ≠ Option.none → H6 a ≠ Option.none := fun a ha e => ha (S4.none hp e)
              have N7' : New H G2 H7 := N7.dom dom
              have jr : Same G2 (joinH G G2) := fun b o e => by
                cases g : G b with
                | none => rw [join_none g]; exact e
                | some u =>
                  have z := N7.ap b (by rw [N4.in_ _ _ g]; exact fun z => nomatch z)
                  rw [z] at e
                  cases e
              have hee7 := S7.keep _ _ (ne_of hee4 S4.pen.at_ (by intro z; cases z)) hee4
              have eD : e2 ≠ D := fun q => by rw [q, nD'] at he5; cases he5
              refine ⟨ys, hD7, Nat.lt_of_le_of_lt (show ys.length ≤ 1000000 by omega) (by decide), ?_⟩
              have mul1 : (i + 1) * sD d = i * sD d + sD d := Nat.succ_mul _ _
              have mul2 : (i + 1) * sB d = i * sB d + sB d := Nat.succ_mul _ _
              have mul3 : (i + 1) * iX d = i * iX d + iX d := Nat.succ_mul _ _
              have S8 := S4.step S7
              have nl : z7.l ≠ D := fun q => by
                have e := S8.l z Z
                have c := Z.cells
                rw [← e, q, nDH] at c
                cases c
              refine ⟨ys ++ [y], joinH G G2, z7, us ++ [t], upd_same, (hy.same join_l).app (.cons (o7.same jr) .nil), by simp [lu], ⟨⟨by rw [upd_ne (Ne.symm Dp)]; exact S8.pen.at_, by rw [upd_ne nl]; exact S8.pen.cells, S8.pen.ok⟩, by have := S8.c; rw [mul1]; omega, fun b o nb e => by rw [upd_ne (fun q => by rw [q, nDH] at e; cases e)]; exact S8.keep b o nb e, S8.l⟩, (N4'.join2 N7').put (by rw [join_none gD]; exact g2D), by rw [join_none gD]; exact g2D, depL_app us [t] (d + 1) hdp (by show max t.dep 0 ≤ d + 1; omega), ?_, goodL_app hok ⟨ok7, trivial⟩, ?_, by rw [upd_ne eD]; exact hee7⟩
              · rw [szL_app, mul2]
                show Tr.szL us + (t.sz + 0) ≤ _
                omega
              · rw [innL_app, mul3]
                show innL us + (inn t + 0) ≤ _
                omega
            rintro H6 ⟨ys, G, z6, us, hD6, hy, lu, S6, N6, gD, hdp, hsz, hok, hin', _⟩
            rw [List.length_map] at S6 lu hsz hin'
            have m2' : ps.length * sD d ≤ 3 * sD d := Nat.mul_le_mul_right _ pl3
            have mb' : ps.length * sB d ≤ 3 * sB d := Nat.mul_le_mul_right _ pl3
            have mi' : ps.length * iX d ≤ 3 * iX d := Nat.mul_le_mul_right _ pl3
            refine ⟨by show 2 ≤ sizeLine; decide, fun T3 nT3 => ?_⟩
            have nT0 := S6.none hp nT3
            have s1 := same_new (o := .tup [.str m2, .ref D]) nT3
            have DT : D ≠ T3 := fun z => by rw [z, nT3] at hD6; cases hD6
            have N7 := ((N6.same s1).add nDH (s1 _ _ hD6)).add nT0 (upd_same (H := H6) (a := T3) (o := .tup [.str m2, .ref D]))
            have gT : G T3 = Option.none := by
              cases e : G T3 with
              | none => rfl
              | some o => rw [N6.in_ _ _ e] at nT3; cases nT3
            refine k (.ref T3) (.mk m2 us) _ _ z6 ((S6.same s1).le (by omega)) N7 (.mk upd_same (by rw [upd_ne DT, upd_same]) (hy.same fun b o e => ?_)) (by show 1 + Tr.depL us ≤ d + 1 + 1; omega) (by rw [eB]; show 1 + Tr.szL us ≤ _; omega) (by unfold Tr.good; exact ⟨b2, hok⟩) (by rw [eI]; show (if us.isEmpty then 0 else 1) + innL us ≤ _; split <;> omega)
            rw [upd_ne (ne_of_none e gT), upd_ne (ne_of_none e gD)]
            exact e
          · skip
            refine ⟨.ref D1, (by kernel_rfl), p, D1, z4, [.ref T1], rfl, P4.pen, hD14, by show 0 < 1; decide, by show 1 < 1073741824; decide, by omega, fun v z5 hv g5 => ?_⟩
            obtain rfl : v = .ref T1 := List.mem_singleton.mp hv
            have S5 := P4.draw g5
            generalize upd H4' p (.dK z5.kvs) = H5 at S5 ⊢
            clear hv g5
            have hT5 := S5.keep _ _ (ne_of hT1 Z.at_ (by intro z; cases z)) hT1
            have he5 := S5.keep _ _ (ne_of he1 Z.at_ (by intro z; cases z)) he1
            have c5 := S5.c
            refine ⟨.ref T1, (by kernel_rfl), T1, _, 0, .str m1, rfl, rfl, SqT.of hT5, rfl, .ref T1, (by kernel_rfl), T1, _, 1, .ref e1, rfl, rfl, SqT.of hT5, rfl, e1, rfl, ⟨_, SqL.of he5⟩, ?_⟩
            intro D nD'
            have nDH := S5.none hp nD'
            have Dp : D ≠ p := fun q => hp (q ▸ nDH)
            refine lc_list (K := K) (a := e1) (xs := []) (fun i H' => Same H5 H' ∧ H' D = some (.lst [])) ⟨same_new nD', upd_same⟩ (fun i H' _ ⟨S, _⟩ => SqL.of (S _ _ he5)) ?_ ?_
            · rintro i x H6 hi _
              simp at hi
            rintro H6 ⟨S6', hD6⟩
            have S6 := S5.same S6'
            have N6 : New H (fun _ => Option.none) H6 := new_none
            refine ⟨by show 2 ≤ sizeLine; decide, fun T3 nT3 => ?_⟩
            have nT0 := S6.none hp nT3
            have s1 := same_new (o := .tup [.str m1, .ref D]) nT3
            have DT : D ≠ T3 := fun z => by rw [z, nT3] at hD6; cases hD6
            have N7 := ((N6.same s1).add nDH (s1 _ _ hD6)).add nT0 (upd_same (H := H6) (a := T3) (o := .tup [.str m1, .ref D]))
            exact k (.ref T3) (.mk m1 []) _ _ z5 ((S6.same s1).le (by omega)) N7 (.mk upd_same (by rw [upd_ne DT, upd_same]) .nil) (by show 1 + 0 ≤ _; omega) (by show 1 + 0 ≤ _; exact sB_pos _) (by unfold Tr.good; exact ⟨b1, trivial⟩) (by show 0 + 0 ≤ _; omega)
      · obtain ⟨m1, m2, ps, em1, em2, eps⟩ : ∃ (m1 m2 : Str) (ps : List Str), m1 = "Tip" ∧ m2 = "Fork" ∧ ps = (["Tree", "Num", "Tree"] : List Str) := ⟨_, _, _, rfl, rfl, rfl⟩
        have hin : inV (V.str kind) (ps.map V.str) = true := by rw [inV_strs, ek, eps]; decide +kernel
        have hfl : (ps.map V.str).all flatV = true := by rw [eps]; rfl
        have b1 : isBig m1 = true := by rw [em1]; decide +kernel
        have b2 : isBig m2 = true := by rw [em2]; decide +kernel
        have p3 : ∀ q ∈ ps, kd3 q := by
          rw [eps]
          intro q hq
          simp only [List.mem_cons, List.not_mem_nil, or_false] at hq
          unfold kd3
          rcases hq with rfl | hq
          all_goals first | (simp; done) | (rcases hq with rfl | rfl <;> simp) | (rw [hq]; simp)
        have pl3 : ps.length ≤ 3 := by rw [eps]; decide
        have hsh : SeqAt.shaped (dM [(m2, ps)]) = true := by rw [em2, eps]; decide +kernel
        rw [← em1, ← em2, ← eps] at mk
        clear em1 em2 eps ek
        have KDn := KD
        obtain ⟨T1, T2, e1, e2, hl, hT1, hT2, he1, he2⟩ := mk.ex
        refine ⟨.ref l, (by kernel_rfl), l, rfl, ⟨_, SqL.of hl⟩, ?_⟩
        intro D1 nD1
        refine lc_list (K := K) (a := l) (xs := [.ref T1, .ref T2]) (fun i H' => Same H H' ∧ H' D1 = some (.lst (if i = 0 then [] else [.ref T1]))) ⟨same_new nD1, upd_same⟩ (fun i H' _ ⟨S, _⟩ => SqL.of (S _ _ hl)) ?_ ?_
        · rintro i x H1 hi ⟨S, hD⟩
          rcases i with _ | _ | i
          · obtain rfl : V.ref T1 = x := by simpa using hi
            refine ⟨rfl, ?_⟩
            refine ⟨.str kind, (by kernel_rfl), .ref T1, (by kernel_rfl), T1, _, 1, .ref e1, rfl, rfl, SqT.of (S _ _ hT1), rfl, e1, _, rfl, .inl (SqL.of (S _ _ he1)), rfl, rfl, _, rfl, ?_⟩
            refine ite_yes rfl ?_
            refine ⟨.ref T1, (by kernel_rfl), _, hD, by show 0 < sizeLine; decide, same_put S nD1, upd_same⟩
          · obtain rfl : V.ref T2 = x := by simpa using hi
            refine ⟨rfl, ?_⟩
            refine ⟨.str kind, (by kernel_rfl), .ref T2, (by kernel_rfl), T2, _, 1, .ref e2, rfl, rfl, SqT.of (S _ _ hT2), rfl, e2, _, rfl, .inl (SqL.of (S _ _ he2)), rfl, hfl, _, rfl, ?_⟩
            refine ite_no (by show (!inV (V.str kind) (ps.map V.str)) = false; rw [hin]; rfl) ?_
            exact ⟨S, hD⟩
          · simp at hi
        rintro H1 ⟨S1, hD1⟩
        replace hD1 : H1 D1 = some (.lst [.ref T1]) := hD1
        refine ⟨.ref l, (by kernel_rfl), l, rfl, ⟨_, SqL.of (S1 _ _ hl)⟩, ?_⟩
        intro D2 nD2
        refine lc_list (K := K) (a := l) (xs := [.ref T1, .ref T2]) (fun i H' => Same H1 H' ∧ H' D2 = some (.lst (if i < 2 then [] else [.ref T2]))) ⟨same_new nD2, upd_same⟩ (fun i H' _ ⟨S, _⟩ => SqL.of (S _ _ (S1 _ _ hl))) ?_ ?_
        · rintro i x H2 hi ⟨S, hD⟩
          have S2 := S1.trans S
          rcases i with _ | _ | i
          · obtain rfl : V.ref T1 = x := by simpa using hi
            refine ⟨rfl, ?_⟩
            refine ⟨.str kind, (by kernel_rfl), .ref T1, (by kernel_rfl), T1, _, 1, .ref e1, rfl, rfl, SqT.of (S2 _ _ hT1), rfl, e1, _, rfl, .inl (SqL.of (S2 _ _ he1)), rfl, rfl, _, rfl, ?_⟩
            refine ite_no rfl ?_
            exact ⟨S, hD⟩
          · obtain rfl : V.ref T2 = x := by simpa using hi
            refine ⟨rfl, ?_⟩
            refine ⟨.str kind, (by kernel_rfl), .ref T2, (by kernel_rfl), T2, _, 1, .ref e2, rfl, rfl, SqT.of (S2 _ _ hT2), rfl, e2, _, rfl, .inl (SqL.of (S2 _ _ he2)), rfl, hfl, _, rfl, ?_⟩
            refine ite_yes (by show inV (V.str kind) (ps.map V.str) = true; exact hin) ?_
            refine ⟨.ref T2, (by kernel_rfl), _, hD, by show 0 < sizeLine; decide, same_put S nD2, upd_same⟩
          · simp at hi
        rintro H2 ⟨S2', hD2⟩
        replace hD2 : H2 D2 = some (.lst [.ref T2]) := hD2
        have S2 := S1.trans S2'
        have hD12 := S2' _ _ hD1
        have P2 := S0.same S2
        have c2 := P2.c
        clear S1 S2' hD1
        refine ⟨.ref p, (by kernel_rfl), .int (d : Int), (by kernel_rfl), _, _, rfl, rfl, _, rfl, ?_⟩
        have hT1' := S2 _ _ hT1
        have hT2' := S2 _ _ hT2
        have he1' := S2 _ _ he1
        have he2' := S2 _ _ he2
        cases d with
        | zero =>
          refine ite_no (decide_eq_false (by simp)) ?_
          refine ⟨.ref D1, (by kernel_rfl), p, D1, z, [.ref T1], rfl, P2.pen, hD12, by show 0 < 1; decide, by show 1 < 1073741824; decide, by omega, fun v z5 hv g5 => ?_⟩
          obtain rfl : v = .ref T1 := List.mem_singleton.mp hv
          have S5 := P2.draw g5
          generalize upd H2 p (.dK z5.kvs) = H5 at S5 ⊢
          clear hv g5
          have hT5 := S5.keep _ _ (ne_of hT1 Z.at_ (by intro z; cases z)) hT1
          have he5 := S5.keep _ _ (ne_of he1 Z.at_ (by intro z; cases z)) he1
          have c5 := S5.c
          refine ⟨.ref T1, (by kernel_rfl), T1, _, 0, .str m1, rfl, rfl, SqT.of hT5, rfl, .ref T1, (by kernel_rfl), T1, _, 1, .ref e1, rfl, rfl, SqT.of hT5, rfl, e1, rfl, ⟨_, SqL.of he5⟩, ?_⟩
          intro D nD'
          have nDH := S5.none hp nD'
          have Dp : D ≠ p := fun q => hp (q ▸ nDH)
          refine lc_list (K := K) (a := e1) (xs := []) (fun i H' => Same H5 H' ∧ H' D = some (.lst [])) ⟨same_new nD', upd_same⟩ (fun i H' _ ⟨S, _⟩ => SqL.of (S _ _ he5)) ?_ ?_
          · rintro i x H6 hi _
            simp at hi
          rintro H6 ⟨S6', hD6⟩
          have S6 := S5.same S6'
          have N6 : New H (fun _ => Option.none) H6 := new_none
          refine ⟨by show 2 ≤ sizeLine; decide, fun T3 nT3 => ?_⟩
          have nT0 := S6.none hp nT3
          have s1 := same_new (o := .tup [.str m1, .ref D]) nT3
          have DT : D ≠ T3 := fun z => by rw [z, nT3] at hD6; cases hD6
          have N7 := ((N6.same s1).add nDH (s1 _ _ hD6)).add nT0 (upd_same (H := H6) (a := T3) (o := .tup [.str m1, .ref D]))
          exact k (.ref T3) (.mk m1 []) _ _ z5 ((S6.same s1).le (by omega)) N7 (.mk upd_same (by rw [upd_ne DT, upd_same]) .nil) (by show 1 + 0 ≤ _; omega) (by show 1 + 0 ≤ _; exact sB_pos _) (by unfold Tr.good; exact ⟨b1, trivial⟩) (by show 0 + 0 ≤ _; omega)
        | succ d =>
          refine ite_yes (decide_eq_true (by omega)) ?_
          refine ⟨.ref D2, (by kernel_rfl), by show 0 ≤ sizeLine; decide, fun q nq => ?_⟩
          have sq := same_new (o := .lst []) nq
          have hp2s : DpAll K (upd H2 q (.lst [])) (ps.map V.str) (ps.map .str) := by
            clear hfl hin p3 pl3 hsh he2 he2' mk
            induction ps with
            | nil => exact .nil
            | cons a b ih => exact .cons (.str _) ih
          refine ⟨dM [(m2, ps)], .list [], .lst (SqL.of (sq _ _ hD2)) (.cons (.tup (SqT.of (sq _ _ hT2')) (.cons (.str _) (.cons (.lst (SqL.of (sq _ _ he2')) hp2s) .nil))) .nil), .lst (SqL.of upd_same) .nil, hsh, by decide +kernel, _, rfl, ?_⟩
          refine ite_yes (by simp [dM, PyData.eqv, PyData.eqvAll]) ?_
          have P3 := P2.same sq
          have hD13 := sq _ _ hD12
          have hD23 := sq _ _ hD2
          clear hp2s
          generalize upd H2 q (.lst []) = H3 at P3 hD13 hD23 ⊢
          refine ⟨.ref p, (by kernel_rfl), p, z, 8, rfl, P3.pen, by decide, by decide, by omega, fun r z4 r0 r1 g4 => ?_⟩
          have P4 := P3.draw g4
          have hD14 : upd H3 p (.dK z4.kvs) D1 = some (.lst [.ref T1]) := by rw [upd_ne (ne_of hD13 P3.pen.at_ (by intro z; cases z))]; exact hD13
          have hD24 : upd H3 p (.dK z4.kvs) D2 = some (.lst [.ref T2]) := by rw [upd_ne (ne_of hD23 P3.pen.at_ (by intro z; cases z))]; exact hD23
          generalize upd H3 p (.dK z4.kvs) = H4' at P4 hD14 hD24 ⊢
          have c4' := P4.c
          refine ⟨_, _, rfl, rfl, _, rfl, ?_⟩
          refine ite2 (fun _ => ?_) (fun _ => ?_)
          · skip
            refine ⟨.ref D2, (by kernel_rfl), p, D2, z4, [.ref T2], rfl, P4.pen, hD24, by show 0 < 1; decide, by show 1 < 1073741824; decide, by omega, fun v z5 hv g5 => ?_⟩
            obtain rfl : v = .ref T2 := List.mem_singleton.mp hv
            have S5 := P4.draw g5
            generalize upd H4' p (.dK z5.kvs) = H5 at S5 ⊢
            clear hv g5
            have hT5 := S5.keep _ _ (ne_of hT2 Z.at_ (by intro z; cases z)) hT2
            have he5 := S5.keep _ _ (ne_of he2 Z.at_ (by intro z; cases z)) he2
            have c5 := S5.c
            refine ⟨.ref T2, (by kernel_rfl), T2, _, 0, .str m2, rfl, rfl, SqT.of hT5, rfl, .ref T2, (by kernel_rfl), T2, _, 1, .ref e2, rfl, rfl, SqT.of hT5, rfl, e2, rfl, ⟨_, SqL.of he5⟩, ?_⟩
            intro D nD'
            have nDH := S5.none hp nD'
            have Dp : D ≠ p := fun q => hp (q ▸ nDH)
            have eN : sD (d + 1) = 2 + 3 * sD d := rfl
            have eB : sB (d + 1) = 1 + 3 * sB d := rfl
            have eI : iX (d + 1) = 1 + 3 * iX d := rfl
            refine lc_list (K := K) (a := e2) (xs := ps.map V.str) (fun i H' => ∃ (ys : List V) (G : Hp) (z' : Pen) (us : List Tr), H' D = some (.lst ys) ∧ OAts G ys us ∧ us.length = i ∧ PS H p (z.c + 2 + ((i * sD d : Nat) : Int)) H' z' ∧ New H G H' ∧ G D = Option.none ∧ Tr.depL us ≤ d + 1 ∧ Tr.szL us ≤ i * sB d ∧ Tr.goodL us ∧ innL us ≤ i * iX d ∧ H' e2 = some (.lst (ps.map V.str)))
              ⟨[], fun _ => Option.none, z5, [], upd_same, .nil, rfl, (S5.new nD').le (by omega), new_none, rfl, Nat.zero_le _, Nat.zero_le _, trivial, Nat.zero_le _, (same_new nD') _ _ he5⟩ (fun i H' _ ⟨_, _, _, _, _, _, _, _, _, _, _, _, _, _, h⟩ => SqL.of h) ?_ ?_
            · rintro i x H6 hi ⟨ys, G, z4, us, hD, hy, lu, S4, N4, gD, hdp, hsz, hok, hin', hee4⟩
              obtain ⟨qk, hqm, rfl⟩ : ∃ qk ∈ ps, x = V.str qk := by
                rw [List.getElem?_map] at hi
                cases e : ps[i]? with
                | none => rw [e] at hi; cases hi
                | some s => rw [e] at hi; exact ⟨s, List.mem_of_getElem? e, (Option.some.inj hi).symm⟩
              have hilt : i < ps.length := by
                have z := (List.getElem?_eq_some_iff.mp hi).1
                simpa using z
              refine ⟨rfl, ?_⟩
              have c4 := S4.c
              have i4 : i * sD d ≤ 2 * sD d := Nat.mul_le_mul_right _ (by omega)
              refine ⟨.ref p, (by kernel_rfl), .ref kd, (by kernel_rfl), .str qk, (by kernel_rfl), .int ((d + 1 : Nat) : Int), (by kernel_rfl), _, _, rfl, rfl, d, by omega, p, kd, z4, qk, (by show [V.ref p, V.ref kd, V.str qk, V.int (((d + 1 : Nat) : Int) - 1)] = [V.ref p, V.ref kd, V.str qk, V.int (d : Int)]; rw [show ((d + 1 : Nat) : Int) - 1 = (d : Int) by omega]), S4.pen, KD.ps Z S4, p3 qk hqm, by omega, fun y t H7 G2 z7 S7 N7 o7 dp7 sz7 ok7 in7 => ?_⟩
              have hD7 : H7 D = some (.lst ys) := S7.keep _ _ Dp hD
              have ly := hy.len
              have g2D : G2 D = Option.none := N7.ap D (by rw [hD]; exact fun z => nomatch z)
              have N4' : New H G H7 := N4.ps hp S7
              have dom : ∀ a, H a ≠ Option.none → H6 a ≠ Option.none := fun a ha e => ha (S4.none hp e)
              have N7' : New H G2 H7 := N7.dom dom
              have jr : Same G2 (joinH G G2) := fun b o e => by
                cases g : G b with
                | none => rw [join_none g]; exact e
                | some u =>
                  have z := N7.ap b (by rw [N4.in_ _ _ g]; exact fun z => nomatch z)
                  rw [z] at e
                  cases e
              have hee7 := S7.keep _ _ (ne_of hee4 S4.pen.at_ (by intro z; cases z)) hee4
              have eD : e2 ≠ D := fun q => by rw [q, nD'] at he5; cases he5
              refine ⟨ys, hD7, Nat.lt_of_le_of_lt (show ys.length ≤ 1000000 by omega) (by decide), ?_⟩
              have mul1 : (i + 1) * sD d = i * sD d + sD d := Nat.succ_mul _ _
              have mul2 : (i + 1) * sB d = i * sB d + sB d := Nat.succ_mul _ _
              have mul3 : (i + 1) * iX d = i * iX d + iX d := Nat.succ_mul _ _
              have S8 := S4.step S7
              have nl : z7.l ≠ D := fun q => by
                have e := S8.l z Z
                have c := Z.cells
                rw [← e, q, nDH] at c
                cases c
              refine ⟨ys ++ [y], joinH G G2, z7, us ++ [t], upd_same, (hy.same join_l).app (.cons (o7.same jr) .nil), by simp [lu], ⟨⟨by rw [upd_ne (Ne.symm Dp)]; exact S8.pen.at_, by rw [upd_ne nl]; exact S8.pen.cells, S8.pen.ok⟩, by have := S8.c; rw [mul1]; omega, fun b o nb e => by rw [upd_ne (fun q => by rw [q, nDH] at e; cases e)]; exact S8.keep b o nb e, S8.l⟩, (N4'.join2 N7').put (by rw [join_none gD]; exact g2D), by rw [join_none gD]; exact g2D, depL_app us [t] (d + 1) hdp (by show max t.dep 0 ≤ d + 1; omega), ?_, goodL_app hok ⟨ok7, trivial⟩, ?_, by rw [upd_ne eD]; exact hee7⟩
              · rw [szL_app, mul2]
                show Tr.szL us + (t.sz + 0) ≤ _
                omega
              · rw [innL_app, mul3]
                show innL us + (inn t + 0) ≤ _
                omega
            rintro H6 ⟨ys, G, z6, us, hD6, hy, lu, S6, N6, gD, hdp, hsz, hok, hin', _⟩
            rw [List.length_map] at S6 lu hsz hin'
            have m2' : ps.length * sD d ≤ 3 * sD d := Nat.mul_le_mul_right _ pl3
            have mb' : ps.length * sB d ≤ 3 * sB d := Nat.mul_le_mul_right _ pl3
            have mi' : ps.length * iX d ≤ 3 * iX d := Nat.mul_le_mul_right _ pl3
            refine ⟨by show 2 ≤ sizeLine; decide, fun T3 nT3 => ?_⟩
            have nT0 := S6.none hp nT3
            have s1 := same_new (o := .tup [.str m2, .ref D]) nT3
            have DT : D ≠ T3 := fun z => by rw [z, nT3] at hD6; cases hD6
            have N7 := ((N6.same s1).add nDH (s1 _ _ hD6)).add nT0 (upd_same (H := H6) (a := T3) (o := .tup [.str m2, .ref D]))
            have gT : G T3 = Option.none := by
              cases e : G T3 with
              | none => rfl
              | some o => rw [N6.in_ _ _ e] at nT3; cases nT3
            refine k (.ref T3) (.mk m2 us) _ _ z6 ((S6.same s1).le (by omega)) N7 (.mk upd_same (by rw [upd_ne DT, upd_same]) (hy.same fun b o e => ?_)) (by show 1 + Tr.depL us ≤ d + 1 + 1; omega) (by rw [eB]; show 1 + Tr.szL us ≤ _; omega) (by unfold Tr.good; exact ⟨b2, hok⟩) (by rw [eI]; show (if us.isEmpty then 0 else 1) + innL us ≤ _; split <;> omega)
            rw [upd_ne (ne_of_none e gT), upd_ne (ne_of_none e gD)]
            exact e
          · skip
            refine ⟨.ref D1, (by kernel_rfl), p, D1, z4, [.ref T1], rfl, P4.pen, hD14, by show 0 < 1; decide, by show 1 < 1073741824; decide, by omega, fun v z5 hv g5 => ?_⟩
            obtain rfl : v = .ref T1 := List.mem_singleton.mp hv
            have S5 := P4.draw g5
            generalize upd H4' p (.dK z5.kvs) = H5 at S5 ⊢
            clear hv g5
            have hT5 := S5.keep _ _ (ne_of hT1 Z.at_ (by intro z; cases z)) hT1
            have he5 := S5.keep _ _ (ne_of he1 Z.at_ (by intro z; cases z)) he1
            have c5 := S5.c
            refine ⟨.ref T1, (by kernel_rfl), T1, _, 0, .str m1, rfl, rfl, SqT.of hT5, rfl, .ref T1, (by kernel_rfl), T1, _, 1, .ref e1, rfl, rfl, SqT.of hT5, rfl, e1, rfl, ⟨_, SqL.of he5⟩, ?_⟩
            intro D nD'
            have nDH := S5.none hp nD'
            have Dp : D ≠ p := fun q => hp (q ▸ nDH)
            refine lc_list (K := K) (a := e1) (xs := []) (fun i H' => Same H5 H' ∧ H' D = some (.lst [])) ⟨same_new nD', upd_same⟩ (fun i H' _ ⟨S, _⟩ => SqL.of (S _ _ he5)) ?_ ?_
            · rintro i x H6 hi _
              simp at hi
            rintro H6 ⟨S6', hD6⟩
            have S6 := S5.same S6'
            have N6 : New H (fun _ => Option.none) H6 := new_none
            refine ⟨by show 2 ≤ sizeLine; decide, fun T3 nT3 => ?_⟩
            have nT0 := S6.none hp nT3
            have s1 := same_new (o := .tup [.str m1, .ref D]) nT3
            have DT : D ≠ T3 := fun z => by rw [z, nT3] at hD6; cases hD6
            have N7 := ((N6.same s1).add nDH (s1 _ _ hD6)).add nT0 (upd_same (H := H6) (a := T3) (o := .tup [.str m1, .ref D]))
            exact k (.ref T3) (.mk m1 []) _ _ z5 ((S6.same s1).le (by omega)) N7 (.mk upd_same (by rw [upd_ne DT, upd_same]) .nil) (by show 1 + 0 ≤ _; omega) (by show 1 + 0 ≤ _; exact sB_pos _) (by unfold Tr.good; exact ⟨b1, trivial⟩) (by show 0 + 0 ≤ _; omega)
end

end Nm
namespace Nm
open PySem PySem.Spec PyProof.Rows L2
/-! ### words that are spoilt; texts -/
theorem op_timesB {X : Cx} : OpR X (binaryOp .Mult) (fun x y H Q => ∃ (z : Str) (k : Int), x = .str z ∧ y = .int k ∧ 0 ≤ k ∧ k ≤ 1000000 ∧ z.length ≤ 1000000 ∧ z.length * k.toNat ≤ 1000000 ∧ Q (.str (timesS z k)) H) := by
  intro pins s σ H x y v u Q I rx ry h
  obtain ⟨z, k, rfl, rfl, h0, h1, hz, hm, q⟩ := h
  obtain ⟨t, rfl⟩ := rx
  obtain ⟨t', rfl⟩ := ry
  have big : ∀ n : Nat, n ≤ 1000000 → n ≤ sizeLine := fun n h => Nat.le_trans h (by decide)
  refine PySem.P.mul_str ?_ (fun hn _ => ?_) (fun _ _ => ?_) ?_
  · have a1 : ¬ k < -(2 ^ 63 : Int) := by omega
    have a2 : ¬ k ≥ 2 ^ 63 := by omega
    rw [decide_eq_false a1, decide_eq_false a2]
    rfl
  · have p1 : (1000000 : Int) ≤ (2 ^ 63 - 1) / k := Int.le_ediv_of_mul_le (by omega) (by omega)
    have p2 : ((z.length : Nat) : Int) ≤ 1000000 := by omega
    omega
  · exact decide_eq_false fun z => by
      have := big _ hm
      omega
  · unfold timesS at q
    by_cases c1 : k < 1
    · rw [if_pos c1] at q ⊢
      exact ⟨Nat.zero_le _, .str _, H, I.tok _, ⟨_, rfl⟩, q⟩
    · rw [if_neg c1] at q ⊢
      by_cases c2 : (k == 1 || z.length == 0) = true
      · rw [if_pos c2] at q ⊢
        exact ⟨.str z, H, I, ⟨_, rfl⟩, q⟩
      · rw [if_neg c2] at q ⊢
        refine ⟨?_, .str _, H, I.tok _, ⟨_, rfl⟩, q⟩
        have len : ∀ (n : Nat) (a : Array Nat) (acc : Array Nat), ((List.replicate n a).foldl (· ++ ·) acc).size = acc.size + n * a.size := by
          intro n
          induction n with
          | zero => intro a acc; simp
          | succ n ih =>
            intro a acc
            rw [List.replicate_succ, List.foldl_cons, ih, Array.size_append, Nat.succ_mul]
            omega
        show ((List.replicate k.toNat z.cps).foldl (· ++ ·) #[]).size ≤ sizeLine
        rw [len, Nat.mul_comm]
        have e : (#[] : Array Nat).size = 0 := rfl
        rw [e, Nat.zero_add]
        exact big _ hm
theorem codes_timesS (z : Str) (k : Nat) : codes (timesS z (k : Int)) = (List.replicate k (codes z)).flatten := by
  unfold timesS
  by_cases c1 : (k : Int) < 1
  · rw [if_pos c1]
    obtain rfl : k = 0 := by omega
    rfl
  · rw [if_neg c1]
    by_cases c2 : ((k : Int) == 1 || z.length == 0) = true
    · rw [if_pos c2]
      simp only [Bool.or_eq_true, beq_iff_eq] at c2
      rcases c2 with c2 | c2
      · obtain rfl : k = 1 := by omega
        simp
      · have e : codes z = [] := by
          rw [len_codes] at c2
          exact List.length_eq_zero_iff.mp c2
        rw [e]
        simp
    · rw [if_neg c2, Int.toNat_natCast]
      have f : ∀ (n : Nat) (a acc : Array Nat), ((List.replicate n a).foldl (· ++ ·) acc).toList = acc.toList ++ (List.replicate n a.toList).flatten := by
        intro n
        induction n with
        | zero => intro a acc; simp
        | succ n ih =>
          intro a acc
          rw [List.replicate_succ, List.foldl_cons, ih, Array.toList_append, List.replicate_succ, List.flatten_cons, List.append_assoc]
      show ((List.replicate k z.cps).foldl (· ++ ·) #[]).toList = _
      rw [f]
      simp

def cnt (x : Nat) (l : List Str) : Nat := (l.map fun w => (codes w).count x).sum
theorem cnt_app (x : Nat) (a b : List Str) : cnt x (a ++ b) = cnt x a + cnt x b := by simp [cnt]
theorem cnt_one (x : Nat) (w : Str) : cnt x [w] = (codes w).count x := by simp [cnt]
theorem cnt_split (x : Nat) (l : List Str) (k : Nat) : cnt x (l.take k) + cnt x (l.drop k) = cnt x l := by rw [← cnt_app, List.take_append_drop]
theorem cnt_drop (x : Nat) (l : List Str) (k : Nat) : cnt x (l.drop (k + 1)) ≤ cnt x (l.drop k) := by
  rw [← List.drop_drop, ← cnt_split x (l.drop k) 1]
  omega
theorem cnt_rev (x : Nat) : ∀ l : List Str, cnt x l.reverse = cnt x l
  | [] => rfl
  | w :: r => by
    have h := cnt_rev x r
    rw [List.reverse_cons, cnt_app, h, cnt_one]
    show _ = (codes w).count x + cnt x r
    omega
structure Wds (l : List Str) (n c : Nat) : Prop where
  ln : l.length ≤ n
  each : ∀ w ∈ l, w.length ≤ 401 ∧ PyData.strOk w = true
  op : cnt 40 l ≤ c
  cl : cnt 41 l ≤ c
structure OddOk (s : Str) : Prop where
  ln : s.length ≤ 401
  ok : PyData.strOk s = true
  op : (codes s).count 40 ≤ 1
  cl : (codes s).count 41 ≤ 1
def odds : List Str := ["(", ")", "Nil", "x", "-0", "007", "12", "=", "Cons", timesS "A" 25, timesS "1" 401, "let", "()", "-"]
theorem odds_ok {s : Str} (h : s ∈ odds) : OddOk s := by
  have a : odds.all (fun s => decide (s.length ≤ 401) && (PyData.strOk s && (decide ((codes s).count 40 ≤ 1) && decide ((codes s).count 41 ≤ 1)))) = true := by decide +kernel
  have q := List.all_eq_true.mp a s h
  simp only [Bool.and_eq_true, decide_eq_true_eq] at q
  exact ⟨q.1, q.2.1, q.2.2.1, q.2.2.2⟩
theorem wds_cut {l : List Str} {n c : Nat} (h : Wds l n c) (k : Nat) : Wds (l.take k ++ l.drop (k + 1)) (n + 1) (c + 1) := by
  have e1 := cnt_split 40 l k
  have e2 := cnt_split 41 l k
  have d1 := cnt_drop 40 l k
  have d2 := cnt_drop 41 l k
  have a := h.op
  have b := h.cl
  have ln := h.ln
  refine ⟨by rw [List.length_append, List.length_take, List.length_drop]; omega, fun w m => ?_, by rw [cnt_app]; omega, by rw [cnt_app]; omega⟩
  rcases List.mem_append.mp m with m | m
  · exact h.each w (List.mem_of_mem_take m)
  · exact h.each w (List.mem_of_mem_drop m)
theorem wds_put {l : List Str} {n c : Nat} (h : Wds l n c) {s : Str} (o : OddOk s) (k : Nat) : Wds (l.take k ++ [s] ++ l.drop (k + 1)) (n + 1) (c + 1) := by
  have e1 := cnt_split 40 l k
  have e2 := cnt_split 41 l k
  have d1 := cnt_drop 40 l k
  have d2 := cnt_drop 41 l k
  have a := h.op
  have b := h.cl
  have ln := h.ln
  have o1 := o.op
  have o2 := o.cl
  refine ⟨by rw [List.length_append, List.length_append, List.length_take, List.length_drop, List.length_singleton]; omega, fun w m => ?_, by rw [cnt_app, cnt_app, cnt_one]; omega, by rw [cnt_app, cnt_app, cnt_one]; omega⟩
  rcases List.mem_append.mp m with m | m
  · rcases List.mem_append.mp m with m | m
    · exact h.each w (List.mem_of_mem_take m)
    · rw [List.mem_singleton.mp m]
      exact ⟨o.ln, o.ok⟩
  · exact h.each w (List.mem_of_mem_drop m)
theorem wds_ins {l : List Str} {n c : Nat} (h : Wds l n c) {s : Str} (o : OddOk s) (k : Nat) : Wds (l.take k ++ [s] ++ l.drop k) (n + 1) (c + 1) := by
  have e1 := cnt_split 40 l k
  have e2 := cnt_split 41 l k
  have a := h.op
  have b := h.cl
  have ln := h.ln
  have o1 := o.op
  have o2 := o.cl
  refine ⟨by rw [List.length_append, List.length_append, List.length_take, List.length_drop, List.length_singleton]; omega, fun w m => ?_, by rw [cnt_app, cnt_app, cnt_one]; omega, by rw [cnt_app, cnt_app, cnt_one]; omega⟩
  rcases List.mem_append.mp m with m | m
  · rcases List.mem_append.mp m with m | m
    · exact h.each w (List.mem_of_mem_take m)
    · rw [List.mem_singleton.mp m]
      exact ⟨o.ln, o.ok⟩
  · exact h.each w (List.mem_of_mem_drop m)
theorem wds_rev {l : List Str} {n c : Nat} (h : Wds l n c) (k : Nat) : Wds (l.take k ++ (l.drop k).reverse) (n + 1) (c + 1) := by
  have e1 := cnt_split 40 l k
  have e2 := cnt_split 41 l k
  have a := h.op
  have b := h.cl
  have ln := h.ln
  refine ⟨by rw [List.length_append, List.length_reverse, List.length_take, List.length_drop]; omega, fun w m => ?_, by rw [cnt_app, cnt_rev]; omega, by rw [cnt_app, cnt_rev]; omega⟩
  rcases List.mem_append.mp m with m | m
  · exact h.each w (List.mem_of_mem_take m)
  · exact h.each w (List.mem_of_mem_drop (List.mem_reverse.mp m))
theorem cutV_take (xs : List V) (k : Nat) : cutV xs none (some (k : Int)) = xs.take k := by
  show ((xs.drop (HT.sIx xs.length 0 none)).take (HT.sIx xs.length xs.length (some (k : Int)) - HT.sIx xs.length 0 none)) = _
  rw [show HT.sIx xs.length 0 none = 0 from rfl, HT.sIx_nat]
  simp only [List.drop_zero, Nat.sub_zero]
  rw [List.take_eq_take_iff]
  omega
theorem cutV_drop (xs : List V) (k : Nat) : cutV xs (some (k : Int)) none = xs.drop k := by
  show ((xs.drop (HT.sIx xs.length 0 (some (k : Int)))).take (HT.sIx xs.length xs.length none - HT.sIx xs.length 0 (some (k : Int)))) = _
  rw [show HT.sIx xs.length xs.length none = xs.length from rfl, HT.sIx_nat]
  by_cases h : k ≤ xs.length
  · rw [Nat.min_eq_left h]
    exact List.take_of_length_le (by rw [List.length_drop]; omega)
  · rw [Nat.min_eq_right (by omega), List.drop_of_length_le (Nat.le_refl _), List.drop_of_length_le (by omega)]
    simp
/-! texts -/
open TL (joinL tl_join join_eq tl)
theorem count_join (x : Nat) (S : List Nat) (hS : S.count x = 0) : ∀ ps : List (List Nat), (joinL S ps).count x = (ps.map (List.count x)).sum
  | [] => by simp [joinL]
  | [p] => by simp [joinL]
  | p :: q :: r => by
    show (p ++ (S ++ joinL S (q :: r))).count x = _
    rw [List.count_append, List.count_append, hS, count_join x S hS (q :: r)]
    simp
theorem mem_joinL {x : Nat} {S : List Nat} : ∀ {ps : List (List Nat)}, x ∈ joinL S ps → x ∈ S ∨ ∃ p ∈ ps, x ∈ p
  | [p], h => .inr ⟨p, by simp, h⟩
  | p :: q :: r, h => by
    rcases List.mem_append.mp (show x ∈ p ++ (S ++ joinL S (q :: r)) from h) with h | h
    · exact .inr ⟨p, by simp, h⟩
    · rcases List.mem_append.mp h with h | h
      · exact .inl h
      · rcases mem_joinL h with h | ⟨u, m, h⟩
        · exact .inl h
        · exact .inr ⟨u, List.mem_cons_of_mem _ m, h⟩
theorem len_joinL (S : List Nat) : ∀ ps : List (List Nat), (joinL S ps).length ≤ (ps.map List.length).sum + ps.length * S.length
  | [] => by simp [joinL]
  | [p] => by simp [joinL]
  | p :: q :: r => by
    have ih := len_joinL S (q :: r)
    show (p ++ (S ++ joinL S (q :: r))).length ≤ _
    have e : (p :: q :: r).length * S.length = (q :: r).length * S.length + S.length := by rw [List.length_cons, Nat.succ_mul]
    rw [e]
    simp only [List.length_append, List.map_cons, List.sum_cons] at ih ⊢
    omega
theorem par_scan : ∀ (l : List Nat) (k : Nat) (w : List Nat), 40 ∉ w → par (scan l k w) ≤ l.count 40
  | [], k, w, h => by
    show par (flush k w) ≤ 0
    unfold flush
    split
    · exact Nat.le_refl _
    · rw [par_cons, if_neg (fun z : w = [40] => h (by rw [z]; simp))]
      exact Nat.le_refl _
  | c :: r, k, w, h => by
    have f : par (flush k w) = 0 := by
      unfold flush
      split
      · rfl
      · rw [par_cons, if_neg (fun z : w = [40] => h (by rw [z]; simp))]
        rfl
    have app : ∀ a b : List Wd, par (a ++ b) = par a + par b := fun a b => by unfold par; rw [List.filter_append, List.length_append]
    have h1 := par_scan r (k + 1) [] (fun z => nomatch z)
    unfold scan
    rw [List.count_cons]
    split
    · rw [f]; exact Nat.zero_le _
    · split
      · rw [app, f]; omega
      · split
        · rw [app, f, par_cons]
          by_cases c4 : c = 40
          · subst c4
            rw [if_pos rfl]
            simp only [beq_self_eq_true, if_true]
            omega
          · rw [if_neg (fun z : [c] = [40] => c4 (List.cons.inj z).1)]
            omega
        · rename_i n1 n2 n3
          have h2 := par_scan r (k + 1) (w ++ [c]) (fun z => by
            rcases List.mem_append.mp z with z | z
            · exact h z
            · exact n3 (.inl (List.mem_singleton.mp z).symm))
          omega
theorem clo_scan : ∀ (l : List Nat) (k : Nat) (w : List Nat), 41 ∉ w → closes (scan l k w) ≤ l.count 41
  | [], k, w, h => by
    show closes (flush k w) ≤ 0
    unfold flush
    split
    · exact Nat.le_refl _
    · rw [closes_cons, if_neg (fun z : w = [41] => h (by rw [z]; simp))]
      exact Nat.le_refl _
  | c :: r, k, w, h => by
    have f : closes (flush k w) = 0 := by
      unfold flush
      split
      · rfl
      · rw [closes_cons, if_neg (fun z : w = [41] => h (by rw [z]; simp))]
        rfl
    have app : ∀ a b : List Wd, closes (a ++ b) = closes a + closes b := fun a b => by unfold closes; rw [List.filter_append, List.length_append]
    have h1 := clo_scan r (k + 1) [] (fun z => nomatch z)
    unfold scan
    rw [List.count_cons]
    split
    · rw [f]; exact Nat.zero_le _
    · split
      · rw [app, f]; omega
      · split
        · rw [app, f, closes_cons]
          by_cases c4 : c = 41
          · subst c4
            rw [if_pos rfl]
            simp only [beq_self_eq_true, if_true]
            omega
          · rw [if_neg (fun z : [c] = [41] => c4 (List.cons.inj z).1)]
            omega
        · rename_i n1 n2 n3
          have h2 := clo_scan r (k + 1) (w ++ [c]) (fun z => by
            rcases List.mem_append.mp z with z | z
            · exact h z
            · exact n3 (.inr (List.mem_singleton.mp z).symm))
          omega
theorem scan_all {Pp : Nat → Prop} : ∀ (l : List Nat) (k : Nat) (w : List Nat), (∀ c ∈ l, Pp c) → (∀ c ∈ w, Pp c) → ∀ p ∈ scan l k w, ∀ c ∈ p.1, Pp c
  | [], k, w, hl, hw, p, m, c, hc => by
    have m' : p ∈ flush k w := m
    unfold flush at m'
    split at m'
    · exact nomatch m'
    · obtain rfl := List.mem_singleton.mp m'
      exact hw c hc
  | d :: r, k, w, hl, hw, p, m, c, hc => by
    have fl : p ∈ flush k w → Pp c := fun m' => by
      unfold flush at m'
      split at m'
      · exact nomatch m'
      · obtain rfl := List.mem_singleton.mp m'
        exact hw c hc
    have hr : ∀ c ∈ r, Pp c := fun c m => hl c (List.mem_cons_of_mem _ m)
    have hd := hl d (List.mem_cons_self ..)
    unfold scan at m
    split at m
    · exact fl m
    · split at m
      · rcases List.mem_append.mp m with m | m
        · exact fl m
        · exact scan_all r _ [] hr (fun c z => nomatch z) p m c hc
      · split at m
        · rcases List.mem_append.mp m with m | m
          · exact fl m
          · rcases List.mem_cons.mp m with rfl | m
            · obtain rfl := List.mem_singleton.mp hc
              exact hd
            · exact scan_all r _ [] hr (fun c z => nomatch z) p m c hc
        · refine scan_all r _ (w ++ [d]) hr (fun c z => ?_) p m c hc
          rcases List.mem_append.mp z with z | z
          · exact hw c z
          · rw [List.mem_singleton.mp z]; exact hd
theorem strOk_iff (s : Str) : PyData.strOk s = true ↔ ∀ c ∈ codes s, c < 0x110000 := by
  unfold PyData.strOk
  rw [← Array.all_toList, List.all_eq_true]
  exact ⟨fun h c m => of_decide_eq_true (h c m), fun h c m => decide_eq_true (h c m)⟩
theorem tok_of {z : Str} (h1 : z.length ≤ 400000) (h2 : PyData.strOk z = true) (h3 : (codes z).count 40 ≤ 20) (h4 : (codes z).count 41 ≤ 20) : TOk z := by
  refine ⟨h1, fun p m => ?_, Nat.le_trans (par_scan _ 0 [] (fun z => nomatch z)) h3, Nat.le_trans (clo_scan _ 0 [] (fun z => nomatch z)) h4⟩
  rw [strOk_iff]
  rw [strOk_iff] at h2
  intro c hc
  refine scan_all (Pp := fun c => c < 0x110000) (codes z) 0 [] h2 (fun c z => nomatch z) p m c ?_
  have e : codes (wS p) = p.1 := by show p.1.toArray.toList = _; simp
  rw [← e]
  exact hc
/-- a text of these words -/
theorem text_ok {l : List Str} {c : Nat} (h : Wds l 200 c) (hc : c ≤ 20) {b sep tail z : Str} (hb : b = timesS " " 0 ∨ b = timesS " " 1) (hs : sep = " " ∨ sep = "  ") (ht : tail = "" ∨ tail = " " ∨ tail = " ; x") (e : z = b ++ Txt.join sep l ++ tail) : TOk z ∧ z.length ≤ 100000 := by
  have cb : ∀ x, (x = 40 ∨ x = 41) → (codes b).count x = 0 ∧ (codes sep).count x = 0 ∧ (codes tail).count x = 0 := fun x hx => by
    rcases hb with rfl | rfl <;> rcases hs with rfl | rfl <;> rcases ht with rfl | rfl | rfl <;> rcases hx with rfl | rfl <;> decide +kernel
  have lb : b.length ≤ 1 ∧ sep.length ≤ 2 ∧ tail.length ≤ 4 := by
    rcases hb with rfl | rfl <;> rcases hs with rfl | rfl <;> rcases ht with rfl | rfl | rfl <;> decide +kernel
  have sb : PyData.strOk b = true ∧ PyData.strOk sep = true ∧ PyData.strOk tail = true := by
    rcases hb with rfl | rfl <;> rcases hs with rfl | rfl <;> rcases ht with rfl | rfl | rfl <;> decide +kernel
  have ej : codes (Txt.join sep l) = joinL (codes sep) (l.map codes) := by
    rw [join_eq]
    exact tl_join sep l
  have ec : codes z = codes b ++ (joinL (codes sep) (l.map codes) ++ codes tail) := by rw [e, codes_app, codes_app, ej, List.append_assoc]
  have cx : ∀ x, (x = 40 ∨ x = 41) → (codes z).count x = cnt x l := fun x hx => by
    obtain ⟨c1, c2, c3⟩ := cb x hx
    rw [ec, List.count_append, List.count_append, c1, c3, count_join x _ c2, List.map_map]
    show 0 + ((l.map fun w => (codes w).count x).sum + 0) = _
    unfold cnt
    omega
  have sum_le : ∀ l : List Str, (∀ w ∈ l, w.length ≤ 401 ∧ PyData.strOk w = true) → ((l.map codes).map List.length).sum ≤ l.length * 401 := fun l => by
    induction l with
    | nil => intro _; exact Nat.le_refl _
    | cons w r ih =>
      intro h
      have h1 := (h w (List.mem_cons_self ..)).1
      have h2 := ih fun u m => h u (List.mem_cons_of_mem _ m)
      rw [len_codes] at h1
      simp only [List.map_cons, List.sum_cons, List.length_cons]
      omega
  have hl : z.length ≤ 100000 := by
    have q := len_joinL (codes sep) (l.map codes)
    have q2 := sum_le l h.each
    have q3 := h.ln
    have q4 : (l.map codes).length * (codes sep).length ≤ 200 * 2 := by
      rw [List.length_map]
      exact Nat.mul_le_mul q3 (by rw [← len_codes]; exact lb.2.1)
    have q5 : l.length * 401 ≤ 200 * 401 := Nat.mul_le_mul_right _ q3
    rw [len_codes, ec, List.length_append, List.length_append, ← len_codes b, ← len_codes tail]
    omega
  refine ⟨tok_of (by omega) ?_ (by rw [cx 40 (.inl rfl)]; exact Nat.le_trans h.op hc) (by rw [cx 41 (.inr rfl)]; exact Nat.le_trans h.cl hc), hl⟩
  rw [strOk_iff, ec]
  intro c hcm
  rcases List.mem_append.mp hcm with m | m
  · exact (strOk_iff b).mp sb.1 c m
  · rcases List.mem_append.mp m with m | m
    · rcases mem_joinL m with m | ⟨p, hp, m⟩
      · exact (strOk_iff sep).mp sb.2.1 c m
      · obtain ⟨w, hw, rfl⟩ := List.mem_map.mp hp
        exact (strOk_iff w).mp (h.each w hw).2 c m
    · exact (strOk_iff tail).mp sb.2.2 c m
/-! the words of a value's text -/
def sum40 (x : Nat) (l : List (List Nat)) : Nat := (l.map (List.count x)).sum
theorem sum40_app (x : Nat) (a b : List (List Nat)) : sum40 x (a ++ b) = sum40 x a + sum40 x b := by simp [sum40]
theorem ok_count {u : List Nat} (h : ∀ c ∈ u, okC c) : u.count 40 = 0 ∧ u.count 41 = 0 := ⟨List.count_eq_zero.mpr fun m => (h 40 m).2.1 rfl, List.count_eq_zero.mpr fun m => (h 41 m).2.2.1 rfl⟩
mutual
theorem tk_cnt : ∀ t : Tr, t.good → ∀ x, x = 40 ∨ x = 41 → sum40 x (tk t) + (if t.parts.isEmpty = true then 0 else 1) ≤ inn t ∧ (tk t).length + 2 ≤ 3 * t.sz
  | .num i, g, x, hx => by
    have h := ok_count (numC_ok i)
    have e : sum40 x (tk (.num i)) = 0 := by
      rw [tk]
      show List.count x (numC i) + 0 = 0
      rcases hx with rfl | rfl <;> omega
    rw [e]
    refine ⟨Nat.le_refl _, ?_⟩
    rw [tk]
    exact Nat.le_refl _
  | .mk m ps, g, x, hx => by
    unfold Tr.good at g
    have h := ok_count (big_ok g.1)
    obtain ⟨h1, h2⟩ := tkL_cnt ps g.2 x hx
    have e : sum40 x (tk (.mk m ps)) = sum40 x (tkL ps) := by
      rw [tk]
      show List.count x (codes m) + sum40 x (tkL ps) = _
      rcases hx with rfl | rfl <;> omega
    rw [e]
    have e2 : (Tr.mk m ps).parts = ps := rfl
    rw [e2, tk]
    refine ⟨?_, by rw [List.length_cons]; show (tkL ps).length + 1 + 2 ≤ 3 * (1 + Tr.szL ps); omega⟩
    show _ ≤ (if ps.isEmpty then 0 else 1) + innL ps
    omega
theorem tkL_cnt : ∀ ps : List Tr, Tr.goodL ps → ∀ x, x = 40 ∨ x = 41 → sum40 x (tkL ps) ≤ innL ps ∧ (tkL ps).length ≤ 3 * Tr.szL ps
  | [], _, x, _ => by
    rw [tkL]
    exact ⟨Nat.le_refl _, Nat.zero_le _⟩
  | p :: r, g, x, hx => by
    unfold Tr.goodL at g
    obtain ⟨h1, h2⟩ := tk_cnt p g.1 x hx
    obtain ⟨h3, h4⟩ := tkL_cnt r g.2 x hx
    rw [tkL_cons]
    unfold tkP
    rw [sum40_app, List.length_append]
    have e1 : innL (p :: r) = inn p + innL r := rfl
    have e2 : Tr.szL (p :: r) = p.sz + Tr.szL r := rfl
    rw [e1, e2]
    by_cases c : p.parts.isEmpty = true
    · rw [if_pos c] at h1 ⊢
      omega
    · rw [if_neg c] at h1 ⊢
      have e3 : sum40 x ([40] :: (tk p ++ [[41]])) = sum40 x (tk p) + 1 := by
        show List.count x [40] + sum40 x (tk p ++ [[41]]) = _
        rw [sum40_app]
        rcases hx with rfl | rfl <;> simp [sum40] <;> omega
      rw [e3]
      simp only [List.length_cons, List.length_append, List.length_nil]
      omega
end
mutual
theorem tk_each : ∀ t : Tr, t.good → ∀ u ∈ tk t, u.length ≤ 401 ∧ ∀ c ∈ u, c < 0x110000
  | .num i, g, u, m => by
    rw [tk] at m
    obtain rfl := List.mem_singleton.mp m
    unfold Tr.good at g
    refine ⟨numC_len g, fun c hc => ?_⟩
    rcases numC_free hc with h | h <;> omega
  | .mk m' ps, g, u, m => by
    unfold Tr.good at g
    rw [tk] at m
    rcases List.mem_cons.mp m with rfl | m
    · have h := (big_split g.1).2.1
      rw [len_codes] at h
      exact ⟨by omega, (strOk_iff m').mp (big_str g.1)⟩
    · exact tkL_each ps g.2 u m
theorem tkL_each : ∀ ps : List Tr, Tr.goodL ps → ∀ u ∈ tkL ps, u.length ≤ 401 ∧ ∀ c ∈ u, c < 0x110000
  | [], _, u, m => by rw [tkL] at m; exact nomatch m
  | p :: r, g, u, m => by
    unfold Tr.goodL at g
    have h1 := tk_each p g.1
    have h2 := tkL_each r g.2
    rw [tkL_cons] at m
    rcases List.mem_append.mp m with m | m
    · unfold tkP at m
      by_cases c : p.parts.isEmpty = true
      · rw [if_pos c] at m
        exact h1 u m
      · rw [if_neg c] at m
        rcases List.mem_cons.mp m with rfl | m
        · exact ⟨by decide, fun c hc => by simp at hc; omega⟩
        · rcases List.mem_append.mp m with m | m
          · exact h1 u m
          · obtain rfl := List.mem_singleton.mp m
            exact ⟨by decide, fun c hc => by simp at hc; omega⟩
    · exact h2 u m
end
theorem wds_value {t : Tr} (g : t.good) (hs : t.sz ≤ 40) (hi : inn t ≤ 13) : Wds ((scan (wC t) 0 []).map wS) 120 13 := by
  have e : (scan (wC t) 0 []).map wS = ws (tk t) := by
    have q := scan_wd (wC t) 0 []
    rw [wd_wC t g] at q
    rw [← q]
    show _ = ((scan (wC t) 0 []).map (·.1)).map _
    rw [List.map_map]
    rfl
  rw [e]
  have c1 := tk_cnt t g 40 (.inl rfl)
  have c2 := tk_cnt t g 41 (.inr rfl)
  have cc : ∀ x, cnt x (ws (tk t)) = sum40 x (tk t) := fun x => by
    unfold cnt sum40 ws
    rw [List.map_map]
    congr 1
  refine ⟨by rw [List.length_map]; omega, fun w m => ?_, by rw [cc]; omega, by rw [cc]; omega⟩
  obtain ⟨u, hu, rfl⟩ := List.mem_map.mp m
  obtain ⟨h1, h2⟩ := tk_each t g u hu
  have eu : codes (⟨u.toArray⟩ : Str) = u := by show u.toArray.toList = _; simp
  exact ⟨by rw [len_codes, eu]; exact h1, (strOk_iff _).mpr (by rw [eu]; exact h2)⟩
def spSpoilt : Sp := fun vs H Q _ => ∃ (p l : Addr) (z : Pen) (ls : List Str) (n c : Nat), vs = [.ref p, .ref l] ∧ PenAt H p z ∧ H l = some (.lst (ls.map V.str)) ∧ Wds ls n c ∧ n ≤ 1000 ∧ z.c ≤ 900000 ∧
  ∀ (q : Addr) (ls' : List Str) (H' : Hp) (z' : Pen), PS H p (z.c + 3) H' z' → H' q = some (.lst (ls'.map V.str)) → Wds ls' (n + 1) (c + 1) → Q (.ref q) H'
section
variable {P : Program} {w : World} {K : PySem.W.Frag} {mg : Str → Option Value} {base : Heap} {C fE CB : Addr}

abbrev sLspoilt : Stmt := top 40
abbrev NLspoilt : List Str := ["_law_pen_here", "_law_words_here", "_law_at", "_law_odd", "_law_way"]
abbrev PLspoilt : List Str := ["_law_pen_here", "_law_words_here"]
theorem scLspoilt : FnScope NLspoilt PLspoilt (defScope sLspoilt) := ⟨rfl, rfl, rfl, by decide +kernel, rfl, by decide +kernel, by decide +kernel⟩

theorem ok_spoilt {f fD fQ : Addr} {fd fdD fdQ : FuncData} (F : Fun K "_law_spoilt" "_law_spoilt" sLspoilt f fd) (T : VTxt mg) (PT : PenTxt mg)
    (F_law_draw : Fun K "_law_draw" "_law_draw" sDraw fD fdD) (b_law_draw : Binds K fdD ["_law_pen_here", "_law_many"] []) (g_law_draw : mg "_law_draw" = some (.ref fD))
    (F_law_pick : Fun K "_law_pick" "_law_pick" sPick fQ fdQ) (b_law_pick : Binds K fdQ ["_law_pen_here", "_law_some"] []) (g_law_pick : mg "_law_pick" = some (.ref fQ)) : FnOk P w K mg base CX0 3 f fd PLspoilt spSpoilt := by
  have G_law_draw : FnOk P w K mg base CX0 2 fD fdD ["_law_pen_here", "_law_many"] spDraw := (ok_draw F_law_draw PT).mono (by decide)
  have G_law_pick : FnOk P w K mg base CX0 2 fQ fdQ ["_law_pen_here", "_law_some"] (spPick K) := ok_pick F_law_pick PT F_law_draw b_law_draw g_law_draw
  refine F.ok scLspoilt (fun vs H Q E h => ?_) (fun cdv A outer s H vs Q E hr h => ?_)
  · obtain ⟨p, l, z, ls, n, c, rfl, _⟩ := h
    rfl
  · obtain ⟨p, l, z, ls, n, c, rfl, Z, hl, W, hn, hc, k⟩ := h
    have hr1 := hr
    have hp : H p ≠ Option.none := by rw [Z.at_]; exact fun z => nomatch z
    refine ⟨_, (pss_cons (ps_set (i := 2) scLspoilt.nd rfl (Or.inl rfl) (pe_call G_law_draw hr1 rfl g_law_draw F_law_draw.kp b_law_draw .nil pass0 (pa_cons (pv 0) (pa_cons (pe_op op_add (pe_callB call_len_seq (by rfl) T.len PySem.boot_len (pa_cons (pv 1) pa_nil)) pe_int) pa_nil))))
      (pss_cons (ps_set (i := 3) scLspoilt.nd rfl (Or.inl rfl) (pe_call G_law_pick hr1 rfl g_law_pick F_law_pick.kp b_law_pick .nil pass0 (pa_cons (pv 0) (pa_cons (pe_lst (pa_cons pe_str (pa_cons pe_str (pa_cons pe_str (pa_cons pe_str (pa_cons pe_str (pa_cons pe_str (pa_cons pe_str (pa_cons pe_str (pa_cons pe_str (pa_cons (pe_op op_timesB pe_str pe_int) (pa_cons (pe_op op_timesB pe_str pe_int) (pa_cons pe_str (pa_cons pe_str (pa_cons pe_str pa_nil))))))))))))))) pa_nil))))
      (pss_cons (ps_set (i := 4) scLspoilt.nd rfl (Or.inl rfl) (pe_call G_law_draw hr1 rfl g_law_draw F_law_draw.kp b_law_draw .nil pass0 (pa_cons (pv 0) (pa_cons pe_int pa_nil))))
      (pss_cons (ps_if (PW.pt (pw_and (pt_cmpR op_eq (pv 4) pe_int (nomark _)) (pw_and1 (pt_cmpR op_lt (pv 2) (pe_callB call_len_seq (by rfl) T.len PySem.boot_len (pa_cons (pv 1) pa_nil)) (nomark _)))))
      (pss_one (ps_ret (pe_op op_cat (pe_slice sl_list (pv 1) po_none (po_some (pv 2))) (pe_slice sl_list (pv 1) (po_some (pe_op op_add (pv 2) pe_int)) po_none))))
      pss_nil)
      (pss_cons (ps_if (pt_cmpR op_eq (pv 4) pe_int (nomark _))
      (pss_one (ps_ret (pe_op op_cat (pe_op op_cat (pe_slice sl_list (pv 1) po_none (po_some (pv 2))) (pe_lst (pa_cons (pv 3) pa_nil))) (pe_slice sl_list (pv 1) (po_some (pe_op op_add (pv 2) pe_int)) po_none))))
      pss_nil)
      (pss_cons (ps_if (pt_cmpR op_eq (pv 4) pe_int (nomark _))
      (pss_one (ps_ret (pe_op op_cat (pe_op op_cat (pe_slice sl_list (pv 1) po_none (po_some (pv 2))) (pe_lst (pa_cons (pv 3) pa_nil))) (pe_slice sl_list (pv 1) (po_some (pv 2)) po_none))))
      pss_nil)
      (pss_one (ps_ret (pe_op op_cat (pe_slice sl_list (pv 1) po_none (po_some (pv 2))) (pe_revL (pe_slice sl_list (pv 1) (po_some (pv 2)) po_none))))))))))), ?_⟩
    have S0 := PS.start Z
    have ln := W.ln
    have lm : (ls.map V.str).length = ls.length := List.length_map ..
    refine ⟨.ref p, (by kernel_rfl), .ref l, (by kernel_rfl), l, _, rfl, .inl (SqL.of hl), _, _, rfl, rfl, p, z, _, rfl, Z, by omega, by omega, by omega, fun at' z1 a0 a1 g1 => ?_⟩
    have S1 := S0.draw g1
    generalize upd H p (.dK z1.kvs) = H1 at S1 ⊢
    have c1 := S1.c
    obtain ⟨k0, rfl⟩ := Int.eq_ofNat_of_zero_le a0
    have hk0 : k0 ≤ ls.length := by rw [lm] at a1; omega
    refine ⟨.ref p, (by kernel_rfl), _, _, rfl, rfl, by decide, by decide, by decide, by decide, _, _, rfl, rfl, by decide, by decide, by decide, by decide, by show 14 ≤ sizeLine; decide, fun q nq => ?_⟩
    have S2 := S1.new (o := .lst (odds.map V.str)) nq
    refine ⟨p, q, z1, odds.map V.str, rfl, S2.pen, upd_same, by decide, by decide, by omega, fun v z3 hv g3 => ?_⟩
    obtain ⟨od, hod, rfl⟩ := List.mem_map.mp hv
    have O := odds_ok hod
    have S3 : PS H p (z.c + 1 + 1) (upd (upd H1 q (.lst [.str "(", .str ")", .str "Nil", .str "x", .str "-0", .str "007", .str "12", .str "=", .str "Cons", .str (timesS "A" 25), .str (timesS "1" 401), .str "let", .str "()", .str "-"])) p (.dK z3.kvs)) z3 := S2.draw g3
    clear hv hod g3 nq S2
    have hl3 := S3.keep _ _ (ne_of hl Z.at_ (by intro z; cases z)) hl
    generalize upd (upd H1 q (.lst [.str "(", .str ")", .str "Nil", .str "x", .str "-0", .str "007", .str "12", .str "=", .str "Cons", .str (timesS "A" 25), .str (timesS "1" 401), .str "let", .str "()", .str "-"])) p (.dK z3.kvs) = H3 at S3 hl3 ⊢
    have c3 := S3.c
    refine ⟨.ref p, (by kernel_rfl), p, z3, 4, rfl, S3.pen, by decide, by decide, by omega, fun wy z4 r0 r1 g4 => ?_⟩
    have S4 := S3.draw g4
    have hl4 := S4.keep _ _ (ne_of hl Z.at_ (by intro z; cases z)) hl
    generalize upd H3 p (.dK z4.kvs) = H4 at S4 hl4 ⊢
    clear hl3 S3 S1 g4
    refine ⟨.int wy, (by kernel_rfl), rfl, _, rfl, ?_⟩
    refine ite2 (fun _ => ?_) (fun _ => ?_)
    · refine ⟨.int (k0 : Int), (by kernel_rfl), .ref l, (by kernel_rfl), l, _, rfl, .inl (SqL.of hl4), _, _, rfl, rfl, _, rfl, ?_⟩
      refine ite2 (fun _ => ?_) (fun _ => ?_)
      · skip
        refine ⟨.ref l, (by kernel_rfl), .int (k0 : Int), (by kernel_rfl), (k0 : Int), rfl, l, _, rfl, SqL.of hl4, fun a na => ?_⟩
        rw [cutV_take, ← List.map_take]
        have sa := same_new (o := .lst ((ls.take k0).map V.str)) na
        have ea := upd_same (H := H4) (a := a) (o := .lst ((ls.take k0).map V.str))
        have Sa := S4.same sa
        have hla := sa _ _ hl4
        generalize upd H4 a (.lst ((ls.take k0).map V.str)) = Ha at Sa ea hla ⊢
        clear sa
        refine ⟨.ref l, (by kernel_rfl), .int (k0 : Int), (by kernel_rfl), _, _, rfl, rfl, (k0 : Int) + 1, rfl, l, _, rfl, SqL.of hla, fun b nb => ?_⟩
        rw [show cutV (ls.map V.str) (some ((k0 : Int) + 1)) none = (ls.drop (k0 + 1)).map V.str from (cutV_drop _ (k0 + 1)).trans (List.map_drop ..).symm]
        have sb := same_new (o := .lst ((ls.drop (k0 + 1)).map V.str)) nb
        have eb := upd_same (H := Ha) (a := b) (o := .lst ((ls.drop (k0 + 1)).map V.str))
        have Sb := Sa.same sb
        have ea' := sb _ _ ea
        generalize upd Ha b (.lst ((ls.drop (k0 + 1)).map V.str)) = Hb at Sb eb ea' ⊢
        clear sb
        refine ⟨a, b, _, _, rfl, rfl, ea', eb, sz_of (by simp only [List.length_map, List.length_append, List.length_take, List.length_drop, List.length_reverse, List.length_singleton]; omega), fun q nq => ?_⟩
        refine k q (ls.take k0 ++ ls.drop (k0 + 1)) _ z4 ((Sb.same (same_new nq)).le (by omega)) (by rw [upd_same, ← List.map_append]) (wds_cut W k0)
      · skip
        refine ⟨.int wy, (by kernel_rfl), rfl, _, rfl, ?_⟩
        refine ite2 (fun _ => ?_) (fun _ => ?_)
        · skip
          refine ⟨.ref l, (by kernel_rfl), .int (k0 : Int), (by kernel_rfl), (k0 : Int), rfl, l, _, rfl, SqL.of hl4, fun a na => ?_⟩
          rw [cutV_take, ← List.map_take]
          have sa := same_new (o := .lst ((ls.take k0).map V.str)) na
          have ea := upd_same (H := H4) (a := a) (o := .lst ((ls.take k0).map V.str))
          have Sa := S4.same sa
          have hla := sa _ _ hl4
          generalize upd H4 a (.lst ((ls.take k0).map V.str)) = Ha at Sa ea hla ⊢
          clear sa
          refine ⟨.str od, (by kernel_rfl), by show 1 ≤ sizeLine; decide, fun o no => ?_⟩
          have so := same_new (o := .lst [.str od]) no
          have eo := upd_same (H := Ha) (a := o) (o := .lst [.str od])
          have So := Sa.same so
          have eao := so _ _ ea
          have hlo := so _ _ hla
          generalize upd Ha o (.lst [.str od]) = Ho at So eo eao hlo ⊢
          clear so
          refine ⟨a, o, _, _, rfl, rfl, eao, eo, sz_of (by rw [List.length_map, List.length_take]; show min k0 ls.length + 1 ≤ _; omega), fun a2 na2 => ?_⟩
          have s2 := same_new (o := .lst ((ls.take k0).map V.str ++ [.str od])) na2
          have ea2 : upd Ho a2 (.lst ((ls.take k0).map V.str ++ [.str od])) a2 = some (.lst ((ls.take k0 ++ [od]).map V.str)) := by rw [upd_same]; simp
          have Sa2 := So.same s2
          have hla2 := s2 _ _ hlo
          generalize upd Ho a2 (.lst ((ls.take k0).map V.str ++ [.str od])) = Ha2 at Sa2 ea2 hla2 ⊢
          clear s2 ea hla eao eo hlo Sa So
          refine ⟨.ref l, (by kernel_rfl), .int (k0 : Int), (by kernel_rfl), _, _, rfl, rfl, (k0 : Int) + 1, rfl, l, _, rfl, SqL.of hla2, fun b nb => ?_⟩
          rw [show cutV (ls.map V.str) (some ((k0 : Int) + 1)) none = (ls.drop (k0 + 1)).map V.str from (cutV_drop _ (k0 + 1)).trans (List.map_drop ..).symm]
          have sb := same_new (o := .lst ((ls.drop (k0 + 1)).map V.str)) nb
          have eb := upd_same (H := Ha2) (a := b) (o := .lst ((ls.drop (k0 + 1)).map V.str))
          have Sb := Sa2.same sb
          have ea' := sb _ _ ea2
          generalize upd Ha2 b (.lst ((ls.drop (k0 + 1)).map V.str)) = Hb at Sb eb ea' ⊢
          clear sb
          refine ⟨a2, b, _, _, rfl, rfl, ea', eb, sz_of (by simp only [List.length_map, List.length_append, List.length_take, List.length_drop, List.length_reverse, List.length_singleton]; omega), fun q nq => ?_⟩
          refine k q (ls.take k0 ++ [od] ++ ls.drop (k0 + 1)) _ z4 ((Sb.same (same_new nq)).le (by omega)) (by rw [upd_same, ← List.map_append]) (wds_put W O k0)
        refine ⟨.int wy, (by kernel_rfl), rfl, _, rfl, ?_⟩
        refine ite2 (fun _ => ?_) (fun _ => ?_)
        · skip
          refine ⟨.ref l, (by kernel_rfl), .int (k0 : Int), (by kernel_rfl), (k0 : Int), rfl, l, _, rfl, SqL.of hl4, fun a na => ?_⟩
          rw [cutV_take, ← List.map_take]
          have sa := same_new (o := .lst ((ls.take k0).map V.str)) na
          have ea := upd_same (H := H4) (a := a) (o := .lst ((ls.take k0).map V.str))
          have Sa := S4.same sa
          have hla := sa _ _ hl4
          generalize upd H4 a (.lst ((ls.take k0).map V.str)) = Ha at Sa ea hla ⊢
          clear sa
          refine ⟨.str od, (by kernel_rfl), by show 1 ≤ sizeLine; decide, fun o no => ?_⟩
          have so := same_new (o := .lst [.str od]) no
          have eo := upd_same (H := Ha) (a := o) (o := .lst [.str od])
          have So := Sa.same so
          have eao := so _ _ ea
          have hlo := so _ _ hla
          generalize upd Ha o (.lst [.str od]) = Ho at So eo eao hlo ⊢
          clear so
          refine ⟨a, o, _, _, rfl, rfl, eao, eo, sz_of (by rw [List.length_map, List.length_take]; show min k0 ls.length + 1 ≤ _; omega), fun a2 na2 => ?_⟩
          have s2 := same_new (o := .lst ((ls.take k0).map V.str ++ [.str od])) na2
          have ea2 : upd Ho a2 (.lst ((ls.take k0).map V.str ++ [.str od])) a2 = some (.lst ((ls.take k0 ++ [od]).map V.str)) := by rw [upd_same]; simp
          have Sa2 := So.same s2
          have hla2 := s2 _ _ hlo
          generalize upd Ho a2 (.lst ((ls.take k0).map V.str ++ [.str od])) = Ha2 at Sa2 ea2 hla2 ⊢
          clear s2 ea hla eao eo hlo Sa So
          refine ⟨.ref l, (by kernel_rfl), .int (k0 : Int), (by kernel_rfl), (k0 : Int), rfl, l, _, rfl, SqL.of hla2, fun b nb => ?_⟩
          rw [cutV_drop, ← List.map_drop]
          have sb := same_new (o := .lst ((ls.drop k0).map V.str)) nb
          have eb := upd_same (H := Ha2) (a := b) (o := .lst ((ls.drop k0).map V.str))
          have Sb := Sa2.same sb
          have ea' := sb _ _ ea2
          generalize upd Ha2 b (.lst ((ls.drop k0).map V.str)) = Hb at Sb eb ea' ⊢
          clear sb
          refine ⟨a2, b, _, _, rfl, rfl, ea', eb, sz_of (by simp only [List.length_map, List.length_append, List.length_take, List.length_drop, List.length_reverse, List.length_singleton]; omega), fun q nq => ?_⟩
          refine k q (ls.take k0 ++ [od] ++ ls.drop k0) _ z4 ((Sb.same (same_new nq)).le (by omega)) (by rw [upd_same, ← List.map_append]) (wds_ins W O k0)
        refine ⟨.ref l, (by kernel_rfl), .int (k0 : Int), (by kernel_rfl), (k0 : Int), rfl, l, _, rfl, SqL.of hl4, fun a na => ?_⟩
        rw [cutV_take, ← List.map_take]
        have sa := same_new (o := .lst ((ls.take k0).map V.str)) na
        have ea := upd_same (H := H4) (a := a) (o := .lst ((ls.take k0).map V.str))
        have Sa := S4.same sa
        have hla := sa _ _ hl4
        generalize upd H4 a (.lst ((ls.take k0).map V.str)) = Ha at Sa ea hla ⊢
        clear sa
        refine ⟨.ref l, (by kernel_rfl), .int (k0 : Int), (by kernel_rfl), (k0 : Int), rfl, l, _, rfl, SqL.of hla, fun b nb => ?_⟩
        rw [cutV_drop, ← List.map_drop]
        have sb := same_new (o := .lst ((ls.drop k0).map V.str)) nb
        have eb := upd_same (H := Ha) (a := b) (o := .lst ((ls.drop k0).map V.str))
        have Sb := Sa.same sb
        have ea' := sb _ _ ea
        generalize upd Ha b (.lst ((ls.drop k0).map V.str)) = Hb at Sb eb ea' ⊢
        clear sb
        refine ⟨b, _, rfl, SqL.of eb, fun b2 nb2 => ?_⟩
        have s3 := same_new (o := .lst ((ls.drop k0).map V.str).reverse) nb2
        have eb3 : upd Hb b2 (.lst ((ls.drop k0).map V.str).reverse) b2 = some (.lst ((ls.drop k0).reverse.map V.str)) := by rw [upd_same, List.map_reverse]
        have Sb3 := Sb.same s3
        have ea3 := s3 _ _ ea'
        generalize upd Hb b2 (.lst ((ls.drop k0).map V.str).reverse) = Hb3 at Sb3 eb3 ea3 ⊢
        clear s3
        refine ⟨a, b2, _, _, rfl, rfl, ea3, eb3, sz_of (by simp only [List.length_map, List.length_append, List.length_take, List.length_drop, List.length_reverse, List.length_singleton]; omega), fun q nq => ?_⟩
        refine k q (ls.take k0 ++ (ls.drop k0).reverse) _ z4 ((Sb3.same (same_new nq)).le (by omega)) (by rw [upd_same, ← List.map_append]) (wds_rev W k0)
    · skip
      refine ⟨.int wy, (by kernel_rfl), rfl, _, rfl, ?_⟩
      refine ite2 (fun _ => ?_) (fun _ => ?_)
      · skip
        refine ⟨.ref l, (by kernel_rfl), .int (k0 : Int), (by kernel_rfl), (k0 : Int), rfl, l, _, rfl, SqL.of hl4, fun a na => ?_⟩
        rw [cutV_take, ← List.map_take]
        have sa := same_new (o := .lst ((ls.take k0).map V.str)) na
        have ea := upd_same (H := H4) (a := a) (o := .lst ((ls.take k0).map V.str))
        have Sa := S4.same sa
        have hla := sa _ _ hl4
        generalize upd H4 a (.lst ((ls.take k0).map V.str)) = Ha at Sa ea hla ⊢
        clear sa
        refine ⟨.str od, (by kernel_rfl), by show 1 ≤ sizeLine; decide, fun o no => ?_⟩
        have so := same_new (o := .lst [.str od]) no
        have eo := upd_same (H := Ha) (a := o) (o := .lst [.str od])
        have So := Sa.same so
        have eao := so _ _ ea
        have hlo := so _ _ hla
        generalize upd Ha o (.lst [.str od]) = Ho at So eo eao hlo ⊢
        clear so
        refine ⟨a, o, _, _, rfl, rfl, eao, eo, sz_of (by rw [List.length_map, List.length_take]; show min k0 ls.length + 1 ≤ _; omega), fun a2 na2 => ?_⟩
        have s2 := same_new (o := .lst ((ls.take k0).map V.str ++ [.str od])) na2
        have ea2 : upd Ho a2 (.lst ((ls.take k0).map V.str ++ [.str od])) a2 = some (.lst ((ls.take k0 ++ [od]).map V.str)) := by rw [upd_same]; simp
        have Sa2 := So.same s2
        have hla2 := s2 _ _ hlo
        generalize upd Ho a2 (.lst ((ls.take k0).map V.str ++ [.str od])) = Ha2 at Sa2 ea2 hla2 ⊢
        clear s2 ea hla eao eo hlo Sa So
        refine ⟨.ref l, (by kernel_rfl), .int (k0 : Int), (by kernel_rfl), _, _, rfl, rfl, (k0 : Int) + 1, rfl, l, _, rfl, SqL.of hla2, fun b nb => ?_⟩
        rw [show cutV (ls.map V.str) (some ((k0 : Int) + 1)) none = (ls.drop (k0 + 1)).map V.str from (cutV_drop _ (k0 + 1)).trans (List.map_drop ..).symm]
        have sb := same_new (o := .lst ((ls.drop (k0 + 1)).map V.str)) nb
        have eb := upd_same (H := Ha2) (a := b) (o := .lst ((ls.drop (k0 + 1)).map V.str))
        have Sb := Sa2.same sb
        have ea' := sb _ _ ea2
        generalize upd Ha2 b (.lst ((ls.drop (k0 + 1)).map V.str)) = Hb at Sb eb ea' ⊢
        clear sb
        refine ⟨a2, b, _, _, rfl, rfl, ea', eb, sz_of (by simp only [List.length_map, List.length_append, List.length_take, List.length_drop, List.length_reverse, List.length_singleton]; omega), fun q nq => ?_⟩
        refine k q (ls.take k0 ++ [od] ++ ls.drop (k0 + 1)) _ z4 ((Sb.same (same_new nq)).le (by omega)) (by rw [upd_same, ← List.map_append]) (wds_put W O k0)
      refine ⟨.int wy, (by kernel_rfl), rfl, _, rfl, ?_⟩
      refine ite2 (fun _ => ?_) (fun _ => ?_)
      · skip
        refine ⟨.ref l, (by kernel_rfl), .int (k0 : Int), (by kernel_rfl), (k0 : Int), rfl, l, _, rfl, SqL.of hl4, fun a na => ?_⟩
        rw [cutV_take, ← List.map_take]
        have sa := same_new (o := .lst ((ls.take k0).map V.str)) na
        have ea := upd_same (H := H4) (a := a) (o := .lst ((ls.take k0).map V.str))
        have Sa := S4.same sa
        have hla := sa _ _ hl4
        generalize upd H4 a (.lst ((ls.take k0).map V.str)) = Ha at Sa ea hla ⊢
        clear sa
        refine ⟨.str od, (by kernel_rfl), by show 1 ≤ sizeLine; decide, fun o no => ?_⟩
        have so := same_new (o := .lst [.str od]) no
        have eo := upd_same (H := Ha) (a := o) (o := .lst [.str od])
        have So := Sa.same so
        have eao := so _ _ ea
        have hlo := so _ _ hla
        generalize upd Ha o (.lst [.str od]) = Ho at So eo eao hlo ⊢
        clear so
        refine ⟨a, o, _, _, rfl, rfl, eao, eo, sz_of (by rw [List.length_map, List.length_take]; show min k0 ls.length + 1 ≤ _; omega), fun a2 na2 => ?_⟩
        have s2 := same_new (o := .lst ((ls.take k0).map V.str ++ [.str od])) na2
        have ea2 : upd Ho a2 (.lst ((ls.take k0).map V.str ++ [.str od])) a2 = some (.lst ((ls.take k0 ++ [od]).map V.str)) := by rw [upd_same]; simp
        have Sa2 := So.same s2
        have hla2 := s2 _ _ hlo
        generalize upd Ho a2 (.lst ((ls.take k0).map V.str ++ [.str od])) = Ha2 at Sa2 ea2 hla2 ⊢
        clear s2 ea hla eao eo hlo Sa So
        refine ⟨.ref l, (by kernel_rfl), .int (k0 : Int), (by kernel_rfl), (k0 : Int), rfl, l, _, rfl, SqL.of hla2, fun b nb => ?_⟩
        rw [cutV_drop, ← List.map_drop]
        have sb := same_new (o := .lst ((ls.drop k0).map V.str)) nb
        have eb := upd_same (H := Ha2) (a := b) (o := .lst ((ls.drop k0).map V.str))
        have Sb := Sa2.same sb
        have ea' := sb _ _ ea2
        generalize upd Ha2 b (.lst ((ls.drop k0).map V.str)) = Hb at Sb eb ea' ⊢
        clear sb
        refine ⟨a2, b, _, _, rfl, rfl, ea', eb, sz_of (by simp only [List.length_map, List.length_append, List.length_take, List.length_drop, List.length_reverse, List.length_singleton]; omega), fun q nq => ?_⟩
        refine k q (ls.take k0 ++ [od] ++ ls.drop k0) _ z4 ((Sb.same (same_new nq)).le (by omega)) (by rw [upd_same, ← List.map_append]) (wds_ins W O k0)
      refine ⟨.ref l, (by kernel_rfl), .int (k0 : Int), (by kernel_rfl), (k0 : Int), rfl, l, _, rfl, SqL.of hl4, fun a na => ?_⟩
      rw [cutV_take, ← List.map_take]
      have sa := same_new (o := .lst ((ls.take k0).map V.str)) na
      have ea := upd_same (H := H4) (a := a) (o := .lst ((ls.take k0).map V.str))
      have Sa := S4.same sa
      have hla := sa _ _ hl4
      generalize upd H4 a (.lst ((ls.take k0).map V.str)) = Ha at Sa ea hla ⊢
      clear sa
      refine ⟨.ref l, (by kernel_rfl), .int (k0 : Int), (by kernel_rfl), (k0 : Int), rfl, l, _, rfl, SqL.of hla, fun b nb => ?_⟩
      rw [cutV_drop, ← List.map_drop]
      have sb := same_new (o := .lst ((ls.drop k0).map V.str)) nb
      have eb := upd_same (H := Ha) (a := b) (o := .lst ((ls.drop k0).map V.str))
      have Sb := Sa.same sb
      have ea' := sb _ _ ea
      generalize upd Ha b (.lst ((ls.drop k0).map V.str)) = Hb at Sb eb ea' ⊢
      clear sb
      refine ⟨b, _, rfl, SqL.of eb, fun b2 nb2 => ?_⟩
      have s3 := same_new (o := .lst ((ls.drop k0).map V.str).reverse) nb2
      have eb3 : upd Hb b2 (.lst ((ls.drop k0).map V.str).reverse) b2 = some (.lst ((ls.drop k0).reverse.map V.str)) := by rw [upd_same, List.map_reverse]
      have Sb3 := Sb.same s3
      have ea3 := s3 _ _ ea'
      generalize upd Hb b2 (.lst ((ls.drop k0).map V.str).reverse) = Hb3 at Sb3 eb3 ea3 ⊢
      clear s3
      refine ⟨a, b2, _, _, rfl, rfl, ea3, eb3, sz_of (by simp only [List.length_map, List.length_append, List.length_take, List.length_drop, List.length_reverse, List.length_singleton]; omega), fun q nq => ?_⟩
      refine k q (ls.take k0 ++ (ls.drop k0).reverse) _ z4 ((Sb3.same (same_new nq)).le (by omega)) (by rw [upd_same, ← List.map_append]) (wds_rev W k0)
end

end Nm
namespace Nm
open PySem PySem.Spec PyProof.Rows L2
/-! ### the answers compared -/
def resD (z : Str) : PyData := match (prun [[]] (scan (codes z) 0 [])).1 with
  | none => .tuple [.str "bad", .int ((colAt (scan (codes z) 0 []) (prun [[]] (scan (codes z) 0 [])).2 : Nat) : Int)]
  | some t => .tuple [.str "value", dOf t]
theorem res_shaped {z : Str} (h : TOk z) : SeqAt.shaped (resD z) = true := by
  have hcl := h.cl
  unfold resD
  cases e : (prun [[]] (scan (codes z) 0 [])).1 with
  | none =>
    show SeqAt.shaped (.tuple [.str "bad", .int _]) = true
    have q1 : PyData.strOk ("bad" : Str) = true := by decide +kernel
    simp [SeqAt.shaped, PyData.canLay0, PyData.canLayAll0, PyData.depth, PyData.depthAll, q1]
  | some t =>
    show SeqAt.shaped (.tuple [.str "value", dOf t]) = true
    have pr : prun [[]] (scan (codes z) 0 []) = (some t, (prun [[]] (scan (codes z) 0 [])).2) := by rw [← e]
    obtain ⟨r1, r2, _⟩ := prun_res pr
    obtain ⟨h1, h2⟩ := canLay_own t r2
    have q1 : PyData.strOk ("value" : Str) = true := by decide +kernel
    have dd : (PyData.tuple [.str "value", dOf t]).depth ≤ 64 := by
      simp only [PyData.depth, PyData.depthAll]
      omega
    have cc : (PyData.tuple [.str "value", dOf t]).canLay0 = true := by simp [PyData.canLay0, PyData.canLayAll0, q1, h1]
    unfold SeqAt.shaped
    rw [cc, decide_eq_true dd]
    rfl
theorem res_eqv {z : Str} (h : TOk z) : PyData.eqv (resD z) (resD z) = true := SeqAt.eqv_refl _ (SeqAt.canLay_of_shaped (res_shaped h))
theorem spRes_use {z : Str} {H : Hp} {Q : VK} {E : XK} (h : TOk z) (k : ∀ (y : V) (H' : Hp), Same H H' → (∀ (K : PySem.W.Frag) (H2 : Hp), Same H' H2 → Dp K H2 y (resD z)) → Q y H') : spRes [.str z] H Q E := by
  refine ⟨z, rfl, h, fun e H' q S e' => k _ _ S fun K H2 S2 => ?_, fun t e H' G q y S e' N o => k _ _ S fun K H2 S2 => ?_⟩
  · unfold resD
    rw [e]
    exact .tup (SqT.of (S2 _ _ e')) (.cons (.str _) (.cons (.int _) .nil))
  · unfold resD
    rw [e]
    exact .tup (SqT.of (S2 _ _ e')) (.cons (.str _) (.cons (dp_own ((o.same N.in_).same S2)) .nil))
def spRes2 : Sp := fun vs H Q _ => ∃ z : Str, vs = [.str z] ∧ TOk z ∧ ∀ (y : V) (H' : Hp), Same H H' → (∀ (K : PySem.W.Frag) (H2 : Hp), Same H' H2 → Dp K H2 y (resD z)) → Q y H'
theorem spRes_of {vs : List V} {H : Hp} {Q : VK} {E : XK} (h : spRes2 vs H Q E) : spRes vs H Q E := by
  obtain ⟨z, rfl, h, k⟩ := h
  exact spRes_use h k
theorem Wds.sum {l : List Str} {n c : Nat} (h : Wds l n c) : (l.map (·.length)).sum ≤ n * 401 := by
  have q : ∀ l : List Str, (∀ w ∈ l, w.length ≤ 401 ∧ PyData.strOk w = true) → (l.map (·.length)).sum ≤ l.length * 401 := fun l => by
    induction l with
    | nil => intro _; exact Nat.le_refl _
    | cons w r ih =>
      intro h
      have h1 := (h w (List.mem_cons_self ..)).1
      have h2 := ih fun u m => h u (List.mem_cons_of_mem _ m)
      simp only [List.map_cons, List.sum_cons, List.length_cons]
      omega
  exact Nat.le_trans (q l h.each) (Nat.mul_le_mul_right _ h.ln)
theorem tok_nil : TOk "" := tok_of (by decide +kernel) (by decide +kernel) (by decide +kernel) (by decide +kernel)
theorem tok_sem : TOk "; Nil" := tok_of (by decide +kernel) (by decide +kernel) (by decide +kernel) (by decide +kernel)
theorem res_nil : resD "" = .tuple [.str "bad", .int 1] := by
  have e : scan (codes ("" : Str)) 0 [] = [] := by decide +kernel
  unfold resD
  rw [e]
  rfl
theorem res_sem : resD "; Nil" = .tuple [.str "bad", .int 1] := by
  have e : scan (codes ("; Nil" : Str)) 0 [] = [] := by decide +kernel
  unfold resD
  rw [e]
  rfl
theorem kd_merge (lL lT : Addr) : mergeK [] [((.inr "List" : Key), V.ref lL), (.inr "Tree", .ref lT)] = kvL lL lT := by
  have e : ¬ (Sum.inr "List" : Key) = (Sum.inr "Tree" : Key) := l_t
  unfold mergeK
  simp only [List.foldl_cons, List.foldl_nil]
  unfold putK
  simp [putK, e, kvL]
theorem paired_at2 {α β : Type} {F : α → β → Prop} : ∀ {xs : List α} {ys : List β} {i : Nat} {y : β}, Paired F xs ys → ys[i]? = some y → ∃ x, xs[i]? = some x ∧ F x y
  | _, _, 0, _, .cons r _, e => ⟨_, rfl, by cases e; exact r⟩
  | _, _, i + 1, _, .cons _ t, e => paired_at2 (i := i) t e
theorem op_neDK {X : Cx} {K : PySem.W.Frag} (h : X.K = K) (hu : X.A.units + 64 < cLine) : OpR X (compareOp .NotEq) (rNeD K) := by
  subst h
  exact op_neD hu
/-- what is none of the texts -/
def odd5 (l t : Addr) : List V := [.non, .int 5, .ref l, .ref t, .bl true]
theorem odd_ty {H : Hp} {l t : Addr} {x : V} (hl : H l = some (.lst [.str "Nil"])) (ht : H t = some (.tup [.str "Nil"])) (h : x ∈ odd5 l t) : ∃ u : Value, (∀ K : PySem.W.Frag, TyX K H x u) ∧ ∀ K : PySem.W.Frag, PySem.W.kitOne K u (.type "str") = some false := by
  simp only [odd5, List.mem_cons, List.not_mem_nil, or_false] at h
  rcases h with rfl | rfl | rfl | rfl | rfl
  · exact ⟨_, fun _ => .base .non, fun _ => kit_ty (by decide +kernel)⟩
  · exact ⟨_, fun _ => .base (.int _), fun _ => kit_ty (by decide +kernel)⟩
  · exact ⟨_, fun _ => .base (.lst hl), fun _ => kit_ty (by decide +kernel)⟩
  · exact ⟨_, fun _ => .base (.tup ht), fun _ => kit_ty (by decide +kernel)⟩
  · exact ⟨_, fun _ => .base (.bl _), fun _ => kit_ty (by decide +kernel)⟩
section
variable {P : Program} {w : World} {K : PySem.W.Frag} {mg : Str → Option Value} {C fE CB : Addr}

abbrev slaw : Stmt := top 41
abbrev Nlaw : List Str := ["_law_script", "_law_pen_here", "_law_kinds", "_law_lap", "_law_own_here", "_law_words_here", "_law_step", "_law_text", "_law_odd", "e", "_law_word", "_law_column_here"]
abbrev Plaw : List Str := ["_law_script"]
theorem sclaw : FnScope Nlaw Plaw (defScope slaw) := ⟨rfl, rfl, rfl, by decide +kernel, rfl, by decide +kernel, by decide +kernel⟩

def t_odd (CB : Addr) (W : WX) : TS := tSeq (tDrop (tCallS (spFromN CB) (WE W) (tCons (tVar 8) tNil))) (tRet (tC (.bl false)))
def tb_odd (K : PySem.W.Frag) (CB : Addr) : TS := fun D σ H => t_odd CB (wAs K (.ref CB) 9 (fun a cls d => tIfS (tTest (tOp (rNeD K) (tTup (tCons (tXf a cls d CB "line" (tVar 9)) (tCons (tXf a cls d CB "column" (tVar 9)) tNil))) (tTup (tCons (tC (.int 0)) (tCons (tC (.int 0)) tNil))))) (tRet (tC (.bl false))) tNext) (fun _ _ _ _ => False) D) D σ H
variable {fa f0 fb fM fR fN fB fA fI fW fT fX fF f1 fD fQ f2 f3 f4 f5 f6 fS f7 f8 f9 g1 g2 g3 g4 g5 : Addr} {fd0 fdb fdM fdR fdN fdB fdA fdI fdW fdT fdX fdF fd1 fdD fdQ fd2 fd3 fd4 fd5 fd6 fdS fd7 fd8 fd9 fdg1 fdg2 fdg3 fdg4 fdg5 : FuncData}
theorem rd_law (PT : PenTxt mg) (T : VTxt mg) (WT : WTxt mg) (MT : MadeTxt K mg C fE) (kS : PySem.W.kitOne K (.ref C) (.type "str") = some false) (Mk : Mk K C f0) (F_init : Fun K "__init__" "Made.__init__" sMadeinit f0 fd0) (B_init : Binds K fd0 ["self", "maker", "parts"] [])
    (XB : XCls K mg "BadText" CB fb ["line", "column"]) (F_bt : Fun K "__init__" "BadText.__init__" sBadTextinit fb fdb) (B_bt : Binds K fdb ["self", "line", "column"] [])
    (F_may_have_parts : Fun K "may_have_parts" "may_have_parts" smayhaveparts fM fdM) (b_may_have_parts : Binds K fdM ["told"] []) (g_may_have_parts : mg "may_have_parts" = some (.ref fM))
    (F_read_value : Fun K "read_value" "read_value" sreadvalue fR fdR) (b_read_value : Binds K fdR ["told"] []) (g_read_value : mg "read_value" = some (.ref fR))
    (F_is_number : NumFun K mg fN fdN) (b_is_number : Binds K fdN Pisnumber []) (g_is_number : mg "is_number" = some (.ref fN))
    (F_is_big : Fun K "is_big" "is_big" sisbig fB fdB) (b_is_big : Binds K fdB Pisbig []) (g_is_big : mg "is_big" = some (.ref fB))
    (F_is_name : Fun K "is_name" "is_name" sisname fI fdI) (b_is_name : Binds K fdI Pisname []) (g_is_name : mg "is_name" = some (.ref fI))
    (F_all_among : Fun K "all_among" "all_among" sallamong fA fdA) (b_all_among : Binds K fdA Pallamong []) (g_all_among : mg "all_among" = some (.ref fA))
    (F_words_of : Fun K "words_of" "words_of" swordsof fW fdW) (b_words_of : Binds K fdW Pwordsof []) (g_words_of : mg "words_of" = some (.ref fW))
    (F_take_word : Fun K "take_word" "take_word" stakeword fT fdT) (b_take_word : Binds K fdT Ptakeword []) (g_take_word : mg "take_word" = some (.ref fT))
    (F_end_of : Fun K "end_of" "end_of" sendof fX fdX) (b_end_of : Binds K fdX Pendof []) (g_end_of : mg "end_of" = some (.ref fX))
    (F_value_from : Fun K "value_from" "value_from" svaluefrom fF fdF) (b_value_from : Binds K fdF ["text"] []) (g_value_from : mg "value_from" = some (.ref fF))
    (F_law_pen : Fun K "_law_pen" "_law_pen" sPen f1 fd1) (b_law_pen : Binds K fd1 ["_law_script"] []) (g_law_pen : mg "_law_pen" = some (.ref f1))
    (F_law_draw : Fun K "_law_draw" "_law_draw" sDraw fD fdD) (b_law_draw : Binds K fdD ["_law_pen_here", "_law_many"] []) (g_law_draw : mg "_law_draw" = some (.ref fD))
    (F_law_pick : Fun K "_law_pick" "_law_pick" sPick fQ fdQ) (b_law_pick : Binds K fdQ ["_law_pen_here", "_law_some"] []) (g_law_pick : mg "_law_pick" = some (.ref fQ))
    (F_law_value_text : Fun K "_law_value_text" "_law_value_text" sLvaluetext f2 fd2) (b_law_value_text : Binds K fd2 ["_law_value", "_law_is_outer"] []) (g_law_value_text : mg "_law_value_text" = some (.ref f2))
    (F_law_own : Fun K "_law_own" "_law_own" sLown f3 fd3) (b_law_own : Binds K fd3 ["_law_value"] []) (g_law_own : mg "_law_own" = some (.ref f3))
    (F_law_makers : Fun K "_law_makers" "_law_makers" sLmakers f4 fd4) (b_law_makers : Binds K fd4 ["_law_kinds", "_law_kind"] []) (g_law_makers : mg "_law_makers" = some (.ref f4))
    (F_law_some_value : Fun K "_law_some_value" "_law_some_value" sLsomevalue f5 fd5) (b_law_some_value : Binds K fd5 ["_law_pen_here", "_law_kinds", "_law_kind", "_law_depth"] []) (g_law_some_value : mg "_law_some_value" = some (.ref f5))
    (F_law_words : Fun K "_law_words" "_law_words" sLwords f6 fd6) (b_law_words : Binds K fd6 ["_law_line"] []) (g_law_words : mg "_law_words" = some (.ref f6))
    (F_law_signs : Fun K "_law_signs" "_law_signs" sLsigns fS fdS) (b_law_signs : Binds K fdS [] []) (g_law_signs : mg "_law_signs" = some (.ref fS))
    (F_law_word_kind : Fun K "_law_word_kind" "_law_word_kind" sLwordkind f7 fd7) (b_law_word_kind : Binds K fd7 ["_law_word"] []) (g_law_word_kind : mg "_law_word_kind" = some (.ref f7))
    (F_law_seen : Fun K "_law_seen" "_law_seen" sLseen f8 fd8) (b_law_seen : Binds K fd8 ["_law_state"] []) (g_law_seen : mg "_law_seen" = some (.ref f8))
    (F_law_take : Fun K "_law_take" "_law_take" sLtake f9 fd9) (b_law_take : Binds K fd9 ["_law_state", "_law_kinds"] []) (g_law_take : mg "_law_take" = some (.ref f9))
    (F_law_column : Fun K "_law_column" "_law_column" sLcolumn g1 fdg1) (b_law_column : Binds K fdg1 ["_law_state"] []) (g_law_column : mg "_law_column" = some (.ref g1))
    (F_law_read : Fun K "_law_read" "_law_read" sLread g2 fdg2) (b_law_read : Binds K fdg2 ["_law_state", "_law_is_atom"] []) (g_law_read : mg "_law_read" = some (.ref g2))
    (F_law_due : Fun K "_law_due" "_law_due" sLdue g3 fdg3) (b_law_due : Binds K fdg3 ["_law_text"] []) (g_law_due : mg "_law_due" = some (.ref g3))
    (F_law_told : Fun K "_law_told" "_law_told" sLtold g4 fdg4) (b_law_told : Binds K fdg4 ["_law_text"] []) (g_law_told : mg "_law_told" = some (.ref g4))
    (F_law_spoilt : Fun K "_law_spoilt" "_law_spoilt" sLspoilt g5 fdg5) (b_law_spoilt : Binds K fdg5 ["_law_pen_here", "_law_words_here"] []) (g_law_spoilt : mg "_law_spoilt" = some (.ref g5))
    (base : Heap) (cdv : Value) (s : Shared) (H : Hp) (a : Addr) (ns : List Int) (hlen : ns.length ≤ 63) (hS : SqL K H a (ns.map V.int)) :
    ∃ t, PSs (cxOf CX0 P w K mg base Nlaw "law" (defScope slaw) fa cdv callerA [] s H E0).nox (defBody slaw) t ∧ t { nx := fun _ _ => False, rt := fun v _ => v = .bl true } (start Nlaw [.ref a]) H := by
  have hr : Room 28 (callerA.deeper (envOfC "law" (defScope slaw) s.heap.objs.size fa cdv)) := Room.deeper ⟨rfl, by decide, by decide⟩ _
  have hr1 := hr
  have G_law_pen : FnOk P w K mg base CX0 28 f1 fd1 ["_law_script"] (spPen K) := (ok_pen F_law_pen PT).mono (by decide)
  have G_law_draw : FnOk P w K mg base CX0 28 fD fdD ["_law_pen_here", "_law_many"] (spDraw) := (ok_draw F_law_draw PT).mono (by decide)
  have G_law_pick : FnOk P w K mg base CX0 28 fQ fdQ ["_law_pen_here", "_law_some"] (spPick K) := (ok_pick F_law_pick PT F_law_draw b_law_draw g_law_draw).mono (by decide)
  have G_law_some_value : FnOk P w K mg base CX0 28 f5 fd5 PLsomevalue (spSomeN 4) := (ok_some F_law_some_value T PT F_law_makers b_law_makers g_law_makers F_law_draw b_law_draw g_law_draw F_law_pick b_law_pick g_law_pick b_law_some_value g_law_some_value 4).mono (by decide)
  have G_law_value_text : FnOk P w K mg base CX0 28 f2 fd2 PLvaluetext (spLText 6) := (ok_ltext F_law_value_text T b_law_value_text g_law_value_text 6).mono (by decide)
  have G_law_words : FnOk P w K mg base CX0 28 f6 fd6 PLwords (spLWords) := (ok_lwords F_law_words WT).mono (by decide)
  have G_law_spoilt : FnOk P w K mg base CX0 28 g5 fdg5 PLspoilt (spSpoilt) := (ok_spoilt F_law_spoilt T PT F_law_draw b_law_draw g_law_draw F_law_pick b_law_pick g_law_pick).mono (by decide)
  have G_law_told : FnOk P w K mg base CX0 28 g4 fdg4 PLtold (spRes2) := ((ok_told F_law_told F_value_from b_value_from g_value_from F_law_own b_law_own g_law_own T WT MT kS Mk F_init B_init XB F_bt B_bt F_may_have_parts b_may_have_parts g_may_have_parts F_read_value b_read_value g_read_value F_is_number b_is_number g_is_number F_is_big b_is_big g_is_big F_is_name b_is_name g_is_name F_all_among b_all_among g_all_among F_words_of b_words_of g_words_of F_take_word b_take_word g_take_word F_end_of b_end_of g_end_of).imp fun _ _ _ _ q => spRes_of q).mono (by decide)
  have G_law_due : FnOk P w K mg base CX0 28 g3 fdg3 PLdue (spRes2) := ((ok_due F_law_due T WT F_law_words b_law_words g_law_words F_law_column b_law_column g_law_column F_law_take b_law_take g_law_take F_law_seen b_law_seen g_law_seen F_law_word_kind b_law_word_kind g_law_word_kind F_law_signs b_law_signs g_law_signs F_law_read b_law_read g_law_read).imp fun _ _ _ _ q => spRes_of q).mono (by decide)
  have G_value_from : FnOk P w K mg base (L2.CX P w) 28 fF fdF Pvaluefrom (spFromN CB) := (ok_fromN F_value_from T XB F_bt B_bt).mono (by decide)
  refine ⟨_, (pss_cons (ps_set (i := 1) sclaw.nd rfl (Or.inl rfl) (pe_call G_law_pen hr1 rfl g_law_pen F_law_pen.kp b_law_pen .nil pass0 (pa_cons (pv 0) pa_nil)))
      (pss_cons (ps_set (i := 2) sclaw.nd rfl (Or.inl rfl) (pe_disp (pps_cons pe_str (pe_lst (pa_cons (pe_tup (pa_cons pe_str (pa_cons (pe_lst pa_nil) pa_nil))) (pa_cons (pe_tup (pa_cons pe_str (pa_cons (pe_lst (pa_cons pe_str (pa_cons pe_str pa_nil))) pa_nil))) pa_nil))) (pps_cons pe_str (pe_lst (pa_cons (pe_tup (pa_cons pe_str (pa_cons (pe_lst pa_nil) pa_nil))) (pa_cons (pe_tup (pa_cons pe_str (pa_cons (pe_lst (pa_cons pe_str (pa_cons pe_str (pa_cons pe_str pa_nil)))) pa_nil))) pa_nil))) pps_nil)) (by rfl) (by rfl) (fun z => by cases z) (by decide)))
      (pss_cons (ps_for PassesOwn.never rfl (pi_range1 rfl T.range (pa_cons pe_int pa_nil)) (pg_name (i := 3) sclaw.nd rfl (Or.inl rfl))
      (pss_cons (ps_set (i := 4) sclaw.nd rfl (Or.inl rfl) (pe_call G_law_some_value hr1 rfl g_law_some_value F_law_some_value.kp b_law_some_value .nil pass0 (pa_cons (pv 1) (pa_cons (pv 2) (pa_cons (pe_call G_law_pick hr1 rfl g_law_pick F_law_pick.kp b_law_pick .nil pass0 (pa_cons (pv 1) (pa_cons (pe_lst (pa_cons pe_str (pa_cons pe_str (pa_cons pe_str pa_nil)))) pa_nil))) (pa_cons pe_int pa_nil))))))
      (pss_cons (ps_setLc (i := 5) (own := [("_law_word", 10), ("_law_column_here", 11)]) (g := (gTup K 2 (gCons (gName 10) (gCons (gName 11) gNil)))) rfl sclaw.nd rfl rfl (sw_true rfl rfl rfl (by decide +kernel)) (pi_list (pe_call G_law_words hr1 rfl g_law_words F_law_words.kp b_law_words .nil pass0 (pa_cons (pe_call G_law_value_text hr1 rfl g_law_value_text F_law_value_text.kp b_law_value_text .nil pass0 (pa_cons (pv 4) (pa_cons pe_bl pa_nil))) pa_nil))) (blkOk_by (own := [("_law_word", 10), ("_law_column_here", 11)]) (N := Nlaw) (sc := defScope slaw) (by decide +kernel)) (fun _ _ _ _ _ => (pg_tup (by rfl) (pgs_cons (pg_name (i := 10) sclaw.nd rfl (Or.inl rfl)) (pgs_cons (pg_name (i := 11) sclaw.nd rfl (Or.inl rfl)) pgs_nil)))) (fun _ _ _ _ _ => pts_nil) (fun _ _ _ _ _ => (pv 10)))
      (pss_cons (ps_for PassesOwn.never rfl (pi_range1 rfl T.range (pa_cons (pe_call G_law_draw hr1 rfl g_law_draw F_law_draw.kp b_law_draw .nil pass0 (pa_cons (pv 1) (pa_cons pe_int pa_nil))) pa_nil)) (pg_name (i := 6) sclaw.nd rfl (Or.inl rfl))
      (pss_one (ps_set (i := 5) sclaw.nd rfl (Or.inl rfl) (pe_call G_law_spoilt hr1 rfl g_law_spoilt F_law_spoilt.kp b_law_spoilt .nil pass0 (pa_cons (pv 1) (pa_cons (pv 5) pa_nil))))))
      (pss_cons (ps_set (i := 7) sclaw.nd rfl (Or.inl rfl) (pe_op op_add_str (pe_op op_add_str (pe_op op_timesB pe_str (pe_call G_law_draw hr1 rfl g_law_draw F_law_draw.kp b_law_draw .nil pass0 (pa_cons (pv 1) (pa_cons pe_int pa_nil)))) (pe_join (pe_call G_law_pick hr1 rfl g_law_pick F_law_pick.kp b_law_pick .nil pass0 (pa_cons (pv 1) (pa_cons (pe_lst (pa_cons pe_str (pa_cons pe_str pa_nil))) pa_nil))) (pv 5))) (pe_call G_law_pick hr1 rfl g_law_pick F_law_pick.kp b_law_pick .nil pass0 (pa_cons (pv 1) (pa_cons (pe_lst (pa_cons pe_str (pa_cons pe_str (pa_cons pe_str pa_nil)))) pa_nil)))))
      (pss_one (ps_if (pt_cmpR (op_neD hr.units) (pe_call G_law_told hr1 rfl g_law_told F_law_told.kp b_law_told .nil pass0 (pa_cons (pv 7) pa_nil)) (pe_call G_law_due hr1 rfl g_law_due F_law_due.kp b_law_due .nil pass0 (pa_cons (pv 7) pa_nil)) (nomark _))
      (pss_one (ps_ret pe_bl))
      pss_nil)))))))
      (pss_cons (ps_for PassesOwn.never rfl (pi_list (pe_lst (pa_cons pe_non (pa_cons pe_int (pa_cons (pe_lst (pa_cons pe_str pa_nil)) (pa_cons (pe_tup (pa_cons pe_str pa_nil)) (pa_cons pe_bl pa_nil))))))) (pg_name (i := 8) sclaw.nd rfl (Or.inl rfl))
      (pss_one (ps_try_as (i := 9) (tb := t_odd CB) (Wout := fun _ _ _ _ => False) rfl rfl sclaw.nd rfl rfl ⟨rfl, by decide, Or.inl XB.gm⟩ takes0
        (fun W pn xe tk _ => pss_cons (ps_expr (by exact (pe_callS G_value_from hr1 rfl g_value_from F_value_from.kp b_value_from (fun σ => passAt tk σ) (by exact (pa_cons (pv 8) pa_nil))))) (pss_one (ps_ret pe_bl)))
        (fun a oe cls d pn hz hf => pss_one (ps_if (pt_cmpR (op_neDK (K := K) rfl hr.units) (pe_tup (pa_cons (pe_xf XB.xf (XB.no _ (by simp)) hz hf (pv 9)) (pa_cons (pe_xf XB.xf (XB.no _ (by simp)) hz hf (pv 9)) pa_nil))) (pe_tup (pa_cons pe_int (pa_cons pe_int pa_nil))) (nomark _))
      (pss_one (ps_ret pe_bl))
      pss_nil)))))
      (pss_one (ps_ret (pe_and (pe_cmpR (op_eqD hr.units) (pe_call G_law_told hr1 rfl g_law_told F_law_told.kp b_law_told .nil pass0 (pa_cons pe_str pa_nil)) (pe_tup (pa_cons pe_str (pa_cons pe_int pa_nil))) (nomark _)) (pe_one (pe_cmpR (op_eqD hr.units) (pe_call G_law_told hr1 rfl g_law_told F_law_told.kp b_law_told .nil pass0 (pa_cons pe_str pa_nil)) (pe_tup (pa_cons pe_str (pa_cons pe_int pa_nil))) (nomark _)))))))))), ?_⟩
  -- the pen
  refine ⟨.ref a, (by kernel_rfl), a, ns, rfl, hS, hlen, fun p z0 H0 s1 pn zc Z => ?_⟩
  intro kd nkd
  have s1 := same_new (o := .dK []) nkd
  have hkd := upd_same (H := H0) (a := kd) (o := .dK [])
  replace Z := Z.same s1
  generalize upd H0 kd (.dK []) = H1 at hkd  Z ⊢
  clear nkd s1
  refine ⟨by show 0 ≤ sizeLine; decide, fun e1 ne1 => ?_⟩
  have s2 := same_new (o := .lst []) ne1
  have he1 := upd_same (H := H1) (a := e1) (o := .lst [])
  replace hkd := s2 _ _ hkd
  replace Z := Z.same s2
  generalize upd H1 e1 (.lst []) = H2 at he1 hkd Z ⊢
  clear ne1 s2
  refine ⟨by show 2 ≤ sizeLine; decide, fun t1 nt1 => ?_⟩
  have s3 := same_new (o := .tup [.str "Nil", .ref e1]) nt1
  have ht1 := upd_same (H := H2) (a := t1) (o := .tup [.str "Nil", .ref e1])
  replace hkd := s3 _ _ hkd
  replace he1 := s3 _ _ he1
  replace Z := Z.same s3
  generalize upd H2 t1 (.tup [.str "Nil", .ref e1]) = H3 at ht1 hkd he1 Z ⊢
  clear nt1 s3
  refine ⟨by show 2 ≤ sizeLine; decide, fun e2 ne2 => ?_⟩
  have s4 := same_new (o := .lst [.str "Num", .str "List"]) ne2
  have he2 := upd_same (H := H3) (a := e2) (o := .lst [.str "Num", .str "List"])
  replace hkd := s4 _ _ hkd
  replace he1 := s4 _ _ he1
  replace ht1 := s4 _ _ ht1
  replace Z := Z.same s4
  generalize upd H3 e2 (.lst [.str "Num", .str "List"]) = H4 at he2 hkd he1 ht1 Z ⊢
  clear ne2 s4
  refine ⟨by show 2 ≤ sizeLine; decide, fun t2 nt2 => ?_⟩
  have s5 := same_new (o := .tup [.str "Cons", .ref e2]) nt2
  have ht2 := upd_same (H := H4) (a := t2) (o := .tup [.str "Cons", .ref e2])
  replace hkd := s5 _ _ hkd
  replace he1 := s5 _ _ he1
  replace ht1 := s5 _ _ ht1
  replace he2 := s5 _ _ he2
  replace Z := Z.same s5
  generalize upd H4 t2 (.tup [.str "Cons", .ref e2]) = H5 at ht2 hkd he1 ht1 he2 Z ⊢
  clear nt2 s5
  refine ⟨by show 2 ≤ sizeLine; decide, fun lL nlL => ?_⟩
  have s6 := same_new (o := .lst [.ref t1, .ref t2]) nlL
  have hlL := upd_same (H := H5) (a := lL) (o := .lst [.ref t1, .ref t2])
  replace hkd := s6 _ _ hkd
  replace he1 := s6 _ _ he1
  replace ht1 := s6 _ _ ht1
  replace he2 := s6 _ _ he2
  replace ht2 := s6 _ _ ht2
  replace Z := Z.same s6
  generalize upd H5 lL (.lst [.ref t1, .ref t2]) = H6 at hlL hkd he1 ht1 he2 ht2 Z ⊢
  clear nlL s6
  refine ⟨by show 0 ≤ sizeLine; decide, fun e3 ne3 => ?_⟩
  have s7 := same_new (o := .lst []) ne3
  have he3 := upd_same (H := H6) (a := e3) (o := .lst [])
  replace hkd := s7 _ _ hkd
  replace he1 := s7 _ _ he1
  replace ht1 := s7 _ _ ht1
  replace he2 := s7 _ _ he2
  replace ht2 := s7 _ _ ht2
  replace hlL := s7 _ _ hlL
  replace Z := Z.same s7
  generalize upd H6 e3 (.lst []) = H7 at he3 hkd he1 ht1 he2 ht2 hlL Z ⊢
  clear ne3 s7
  refine ⟨by show 2 ≤ sizeLine; decide, fun t3 nt3 => ?_⟩
  have s8 := same_new (o := .tup [.str "Tip", .ref e3]) nt3
  have ht3 := upd_same (H := H7) (a := t3) (o := .tup [.str "Tip", .ref e3])
  replace hkd := s8 _ _ hkd
  replace he1 := s8 _ _ he1
  replace ht1 := s8 _ _ ht1
  replace he2 := s8 _ _ he2
  replace ht2 := s8 _ _ ht2
  replace hlL := s8 _ _ hlL
  replace he3 := s8 _ _ he3
  replace Z := Z.same s8
  generalize upd H7 t3 (.tup [.str "Tip", .ref e3]) = H8 at ht3 hkd he1 ht1 he2 ht2 hlL he3 Z ⊢
  clear nt3 s8
  refine ⟨by show 3 ≤ sizeLine; decide, fun e4 ne4 => ?_⟩
  have s9 := same_new (o := .lst [.str "Tree", .str "Num", .str "Tree"]) ne4
  have he4 := upd_same (H := H8) (a := e4) (o := .lst [.str "Tree", .str "Num", .str "Tree"])
  replace hkd := s9 _ _ hkd
  replace he1 := s9 _ _ he1
  replace ht1 := s9 _ _ ht1
  replace he2 := s9 _ _ he2
  replace ht2 := s9 _ _ ht2
  replace hlL := s9 _ _ hlL
  replace he3 := s9 _ _ he3
  replace ht3 := s9 _ _ ht3
  replace Z := Z.same s9
  generalize upd H8 e4 (.lst [.str "Tree", .str "Num", .str "Tree"]) = H9 at he4 hkd he1 ht1 he2 ht2 hlL he3 ht3 Z ⊢
  clear ne4 s9
  refine ⟨by show 2 ≤ sizeLine; decide, fun t4 nt4 => ?_⟩
  have s10 := same_new (o := .tup [.str "Fork", .ref e4]) nt4
  have ht4 := upd_same (H := H9) (a := t4) (o := .tup [.str "Fork", .ref e4])
  replace hkd := s10 _ _ hkd
  replace he1 := s10 _ _ he1
  replace ht1 := s10 _ _ ht1
  replace he2 := s10 _ _ he2
  replace ht2 := s10 _ _ ht2
  replace hlL := s10 _ _ hlL
  replace he3 := s10 _ _ he3
  replace ht3 := s10 _ _ ht3
  replace he4 := s10 _ _ he4
  replace Z := Z.same s10
  generalize upd H9 t4 (.tup [.str "Fork", .ref e4]) = H10 at ht4 hkd he1 ht1 he2 ht2 hlL he3 ht3 he4 Z ⊢
  clear nt4 s10
  refine ⟨by show 2 ≤ sizeLine; decide, fun lT nlT => ?_⟩
  have s11 := same_new (o := .lst [.ref t3, .ref t4]) nlT
  have hlT := upd_same (H := H10) (a := lT) (o := .lst [.ref t3, .ref t4])
  replace hkd := s11 _ _ hkd
  replace he1 := s11 _ _ he1
  replace ht1 := s11 _ _ ht1
  replace he2 := s11 _ _ he2
  replace ht2 := s11 _ _ ht2
  replace hlL := s11 _ _ hlL
  replace he3 := s11 _ _ he3
  replace ht3 := s11 _ _ ht3
  replace he4 := s11 _ _ he4
  replace ht4 := s11 _ _ ht4
  replace Z := Z.same s11
  generalize upd H10 lT (.lst [.ref t3, .ref t4]) = H11 at hlT hkd he1 ht1 he2 ht2 hlL he3 ht3 he4 ht4 Z ⊢
  clear nlT s11
  refine ⟨hkd, [(.inr "List", .ref lL), (.inr "Tree", .ref lT)], rfl, (by show 2 ≤ 15; decide), ?_⟩
  rw [kd_merge]
  have pkd : p ≠ kd := ne_of Z.at_ hkd (by intro z; cases z)
  have kl : ∀ x xs, H11 x = some (.lst xs) → upd H11 kd (.dK (kvL lL lT)) x = some (.lst xs) := fun x xs e => by rw [upd_ne (ne_of e hkd (by intro z; cases z))]; exact e
  have kt : ∀ x xs, H11 x = some (.tup xs) → upd H11 kd (.dK (kvL lL lT)) x = some (.tup xs) := fun x xs e => by rw [upd_ne (ne_of e hkd (by intro z; cases z))]; exact e
  have KD : KdAt (upd H11 kd (.dK (kvL lL lT))) kd := ⟨lL, lT, upd_same, ⟨t1, t2, e1, e2, kl _ _ hlL, kt _ _ ht1, kt _ _ ht2, kl _ _ he1, kl _ _ he2⟩, ⟨t3, t4, e3, e4, kl _ _ hlT, kt _ _ ht3, kt _ _ ht4, kl _ _ he3, kl _ _ he4⟩⟩
  have ZK : PenAt (upd H11 kd (.dK (kvL lL lT))) p z0 := ⟨by rw [upd_ne pkd]; exact Z.at_, by rw [upd_ne (ne_of Z.cells hkd (by intro z; cases z))]; exact Z.cells, Z.ok⟩
  generalize upd H11 kd (.dK (kvL lL lT)) = HK at KD ZK ⊢
  clear kl kt pkd Z hkd hlL ht1 ht2 he1 he2 hlT ht3 ht4 he3 he4 hS s1 pn
  have hp : HK p ≠ none := by rw [ZK.at_]; exact fun z => nomatch z
  refine ⟨6, rfl, by decide, by decide, ?_⟩
  refine for_range (lo := 0) (n := 6) (fun i σ H' => ∃ (z : Pen) (v3 v4 v5 v6 v7 v8 v9 v10 v11 : Option V), σ = [some (.ref a), some (.ref p), some (.ref kd), v3, v4, v5, v6, v7, v8, v9, v10, v11] ∧ PS HK p (100000 * (i : Int)) H' z)
    ⟨z0, none, none, none, none, none, none, none, none, none, rfl, (PS.start ZK).le (by rw [zc]; decide)⟩ ?_ ?_
  · rintro i σ H1 hi ⟨z, v3, v4, v5, v6, v7, v8, v9, v10, v11, rfl, S1⟩
    have c1 := S1.c
    refine ⟨.ref p, (by kernel_rfl), .ref kd, (by kernel_rfl), .ref p, (by kernel_rfl), by show 3 ≤ sizeLine; decide, fun q nq => ?_⟩
    have S2 := S1.new (o := .lst [.str "List", .str "Tree", .str "Num"]) nq
    refine ⟨p, q, z, _, rfl, S2.pen, upd_same, by show 0 < 3; decide, by show 3 < 1073741824; decide, by omega, fun v z3 hv g3 => ?_⟩
    have S3 := S2.draw g3
    generalize upd (upd H1 q (.lst [.str "List", .str "Tree", .str "Num"])) p (.dK z3.kvs) = H3 at S3 ⊢
    obtain ⟨kind, hk, rfl⟩ : ∃ kind : Str, kd3 kind ∧ v = .str kind := by
      simp only [List.mem_cons, List.not_mem_nil, or_false] at hv
      rcases hv with rfl | rfl | rfl
      · exact ⟨_, .inr (.inl rfl), rfl⟩
      · exact ⟨_, .inr (.inr rfl), rfl⟩
      · exact ⟨_, .inl rfl, rfl⟩
    clear hv g3 nq S2
    have c3 := S3.c
    have eD : sD 3 = 80 := by decide
    have eB : sB 3 = 40 := by decide
    have eX : iX 3 = 13 := by decide
    refine ⟨3, by decide, p, kd, z3, kind, rfl, S3.pen, KD.ps ZK S3, hk, by rw [eD]; omega, fun ov t H4 G z4 S4 N4 ho dp sz gd hin => ?_⟩
    rw [eB] at sz
    rw [eX] at hin
    rw [eD] at S4
    have ho4 := ho.same N4.in_
    have T4 := S3.step S4
    have lenT := len_wC t gd
    clear ho N4 S4 S3
    -- its words
    refine ⟨ov, (by kernel_rfl), ov, t, true, rfl, ho4, (by omega), (by decide), (by omega), gd, fun H5 tx S5 htx => ?_⟩
    replace htx : codes tx = wC t := htx
    have lx : tx.length = (wC t).length := by rw [len_codes, htx]
    refine ⟨tx, rfl, by omega, fun lp H6 xs S6 hlp hw => ?_⟩
    rw [htx] at hw
    have T6 := (T4.same S5).same S6
    have W0 : Wds ((scan (wC t) 0 []).map wS) 120 13 := wds_value gd sz hin
    have lxs := hw.len
    have ln := W0.ln
    rw [List.length_map] at ln
    generalize scan (wC t) 0 [] = wl at hw W0 lxs ln
    refine ⟨lp, rfl, ⟨_, SqL.of hlp⟩, ?_⟩
    intro D nD
    refine lc_list (K := K) (a := lp) (xs := xs) (fun j H' => H' D = some (.lst (((wl.take j).map wS).map V.str)) ∧ Same H6 H') ⟨upd_same, same_new nD⟩ (fun j H' _ ⟨_, S⟩ => SqL.of (S _ _ hlp)) ?_ ?_
    · rintro j y H7 hj ⟨hD, S7⟩
      obtain ⟨c, hc, Tc, rfl, eTc⟩ := paired_at2 hw hj
      have lj := (List.getElem?_eq_some_iff.mp hj).1
      refine ⟨Tc, _, rfl, SqT.of (S7 _ _ eTc), rfl, _, _, rfl, _, [], rfl, rfl, rfl, ?_⟩
      refine ⟨.str (wS c), (by kernel_rfl), _, hD, Nat.lt_of_le_of_lt (show _ ≤ 1000000 by rw [List.length_map, List.length_map, List.length_take]; omega) (by decide), ?_⟩
      refine ⟨?_, same_put S7 nD⟩
      rw [upd_same, List.take_add_one, hc]
      simp
    · rintro H7 ⟨hD, S7⟩
      rw [← lxs, List.take_length] at hD
      have T7 := T6.same S7
      have c7 := T7.c
      generalize wl.map wS = ls at hD W0
      clear S7 hw hlp S6 S5 T6 T4 ho4 htx lx nD
      -- spoilt
      refine ⟨.ref p, (by kernel_rfl), p, z4, 3, rfl, T7.pen, by decide, by decide, by omega, fun r z8 r0 r1 g8 => ?_⟩
      have T8 := T7.draw g8
      have hD8 := (PS.start T7.pen).draw g8 |>.keep _ _ (ne_of hD T7.pen.at_ (by intro z; cases z)) hD
      generalize upd H7 p (.dK z8.kvs) = H8 at T8 hD8 ⊢
      obtain ⟨k, rfl⟩ := Int.eq_ofNat_of_zero_le r0
      refine ⟨(k : Int), rfl, by omega, by omega, ?_⟩
      refine for_range (lo := 0) (n := k) (fun j σ H' => ∃ (z9 : Pen) (q : Addr) (ls : List Str) (v6 : Option V), σ = [some (.ref a), some (.ref p), some (.ref kd), some (.int (0 + (i : Int))), some ov, some (.ref q), v6, v7, v8, v9, v10, v11] ∧ PS HK p (z3.c + 80 + 1 + 3 * (j : Int)) H' z9 ∧ H' q = some (.lst (ls.map V.str)) ∧ Wds ls (120 + j) (13 + j))
        ⟨z8, D, ls, v6, rfl, T8.le (by omega), hD8, W0⟩ ?_ ?_
      · rintro j σ H9 hj ⟨z9, q, ls, v6, rfl, T9, hq, W9⟩
        have c9 := T9.c
        refine ⟨.ref p, (by kernel_rfl), .ref q, (by kernel_rfl), p, q, z9, ls, _, _, rfl, T9.pen, hq, W9, by omega, by omega, fun q2 ls2 H10 z10 S10 h10 W10 => ?_⟩
        exact ⟨z10, q2, ls2, _, rfl, (T9.step S10).le (by omega), h10, W10⟩
      · rintro σ H9 ⟨z9, q, ls, v6, rfl, T9, hq, W9⟩
        have c9 := T9.c
        replace W9 : Wds ls 200 20 := ⟨by have := W9.ln; omega, W9.each, by have := W9.op; omega, by have := W9.cl; omega⟩
        have lsm := W9.sum
        have lls := W9.ln
        clear hD8 T8 W0 hD T7
        -- the text
        refine ⟨.ref p, (by kernel_rfl), p, z9, 2, rfl, T9.pen, by decide, by decide, by omega, fun r z10 r0' r1' g10 => ?_⟩
        have T10 := T9.draw g10
        have hq10 := (PS.start T9.pen).draw g10 |>.keep _ _ (ne_of hq T9.pen.at_ (by intro z; cases z)) hq
        generalize upd H9 p (.dK z10.kvs) = H10 at T10 hq10 ⊢
        have hb : timesS " " r = timesS " " 0 ∨ timesS " " r = timesS " " 1 := by
          obtain rfl | rfl : r = 0 ∨ r = 1 := by omega
          · exact .inl rfl
          · exact .inr rfl
        have lb : (timesS " " r).length ≤ 1 := by rcases hb with e | e <;> rw [e] <;> decide +kernel
        have l1 : (" " : Str).length = 1 := rfl
        refine ⟨" ", r, rfl, rfl, r0', by omega, by decide, by rw [l1]; omega, ?_⟩
        generalize timesS " " r = bl at hb lb
        have c10 := T10.c
        refine ⟨.ref p, (by kernel_rfl), by show 2 ≤ sizeLine; decide, fun q2 n2 => ?_⟩
        have T11 := T10.new (o := .lst [.str " ", .str "  "]) n2
        have hq11 := (same_new (o := .lst [.str " ", .str "  "]) n2) _ _ hq10
        refine ⟨p, q2, z10, _, rfl, T11.pen, upd_same, by show 0 < 2; decide, by show 2 < 1073741824; decide, by omega, fun v z12 hv g12 => ?_⟩
        have T12 := T11.draw g12
        have hq12 := (PS.start T11.pen).draw g12 |>.keep _ _ (ne_of hq11 T11.pen.at_ (by intro z; cases z)) hq11
        generalize upd (upd H10 q2 (.lst [.str " ", .str "  "])) p (.dK z12.kvs) = H12 at T12 hq12 ⊢
        obtain ⟨sp, hs, rfl⟩ : ∃ sp : Str, (sp = " " ∨ sp = "  ") ∧ v = .str sp := by
          simp only [List.mem_cons, List.not_mem_nil, or_false] at hv
          rcases hv with rfl | rfl
          · exact ⟨_, .inl rfl, rfl⟩
          · exact ⟨_, .inr rfl, rfl⟩
        clear hv T11 hq11 n2 hq10
        have lsp : sp.length ≤ 2 := by rcases hs with e | e <;> rw [e] <;> decide +kernel
        have c12 := T12.c
        have lmul : ls.length * sp.length ≤ 200 * 2 := Nat.mul_le_mul lls lsp
        refine ⟨⟨_, rfl⟩, .ref q, (by kernel_rfl), sp, q, ls, rfl, rfl, .inl (SqL.of hq12), by omega, ?_⟩
        have lj : (bl ++ Txt.join sp ls).length ≤ 100000 := (text_ok W9 (Nat.le_refl _) hb hs (.inl rfl) (z := bl ++ Txt.join sp ls) (str_ext (by rw [codes_app (bl ++ Txt.join sp ls) ("" : Str), show codes ("" : Str) = [] from by decide +kernel, List.append_nil]))).2
        rw [len_app] at lj
        refine ⟨bl, _, rfl, rfl, sz_of (by omega), ?_⟩
        refine ⟨.ref p, (by kernel_rfl), by show 3 ≤ sizeLine; decide, fun q3 n3 => ?_⟩
        have T13 := T12.new (o := .lst [.str "", .str " ", .str " ; x"]) n3
        refine ⟨p, q3, z12, _, rfl, T13.pen, upd_same, by show 0 < 3; decide, by show 3 < 1073741824; decide, by omega, fun v z14 hv g14 => ?_⟩
        have T14 := T13.draw g14
        generalize upd (upd H12 q3 (.lst [.str "", .str " ", .str " ; x"])) p (.dK z14.kvs) = H14 at T14 ⊢
        obtain ⟨tl, ht, rfl⟩ : ∃ tl : Str, (tl = "" ∨ tl = " " ∨ tl = " ; x") ∧ v = .str tl := by
          simp only [List.mem_cons, List.not_mem_nil, or_false] at hv
          rcases hv with rfl | rfl | rfl
          · exact ⟨_, .inl rfl, rfl⟩
          · exact ⟨_, .inr (.inl rfl), rfl⟩
          · exact ⟨_, .inr (.inr rfl), rfl⟩
        clear hv T13 n3 hq12
        have ltl : tl.length ≤ 4 := by rcases ht with e | e | e <;> rw [e] <;> decide +kernel
        obtain ⟨TK, lz⟩ := text_ok W9 (Nat.le_refl _) hb hs ht (z := bl ++ Txt.join sp ls ++ tl) rfl
        refine ⟨_, tl, rfl, rfl, sz_of (by rw [len_app]; omega), ?_⟩
        generalize bl ++ Txt.join sp ls ++ tl = zz at TK lz ⊢
        clear lj hb hs ht lmul lsp lb ltl
        -- told, due
        refine ⟨.str zz, (by kernel_rfl), zz, rfl, TK, fun y1 H15 S15 d1 => ?_⟩
        refine ⟨.str zz, (by kernel_rfl), zz, rfl, TK, fun y2 H16 S16 d2 => ?_⟩
        refine ⟨resD zz, resD zz, d1 _ _ S16, d2 _ _ (fun _ _ e => e), res_shaped TK, res_shaped TK, _, rfl, ?_⟩
        refine ite_no (by rw [res_eqv TK]; rfl) ?_
        have c14 := T14.c
        exact ⟨z14, _, _, _, _, _, _, _, _, _, rfl, ((T14.same S15).same S16).le (by omega)⟩
  · rintro σ H1 ⟨z, v3, v4, v5, v6, v7, v8, v9, v10, v11, rfl, S1⟩
    clear S1 ZK KD hp
    refine ⟨by show 1 ≤ sizeLine; decide, fun l nl => ?_⟩
    have hl := upd_same (H := H1) (a := l) (o := .lst [.str "Nil"])
    generalize upd H1 l (.lst [.str "Nil"]) = H2 at hl ⊢
    refine ⟨by show 1 ≤ sizeLine; decide, fun t nt => ?_⟩
    have s3 := same_new (o := .tup [.str "Nil"]) nt
    have ht := upd_same (H := H2) (a := t) (o := .tup [.str "Nil"])
    replace hl := s3 _ _ hl
    generalize upd H2 t (.tup [.str "Nil"]) = H3 at hl ht ⊢
    refine ⟨by show 5 ≤ sizeLine; decide, fun L nL => ?_⟩
    have s4 := same_new (o := .lst [.non, .int 5, .ref l, .ref t, .bl true]) nL
    have hL := upd_same (H := H3) (a := L) (o := .lst [.non, .int 5, .ref l, .ref t, .bl true])
    replace hl := s4 _ _ hl
    replace ht := s4 _ _ ht
    generalize upd H3 L (.lst [.non, .int 5, .ref l, .ref t, .bl true]) = H4 at hl ht hL ⊢
    clear s4 nL
    replace hL : H4 L = some (.lst (odd5 l t)) := hL
    refine ⟨L, rfl, ⟨odd5 l t, SqL.of hL⟩, ?_⟩
    refine for_list (tb := tb_odd K CB) (K := K) (a := L) (xs := odd5 l t) (fun j σ H' => ∃ (v8' v9' : Option V), σ = [some (.ref a), some (.ref p), some (.ref kd), v3, v4, v5, v6, v7, v8', v9', v10, v11] ∧ Same H4 H') ⟨v8, v9, rfl, fun _ _ e => e⟩ (fun j σ H' _ ⟨_, _, _, S⟩ => SqL.of (S _ _ hL)) ?_ ?_
    · rintro j y σ H5 hj ⟨v8', v9', rfl, S5⟩
      obtain ⟨u, ty, ke⟩ := odd_ty (S5 _ _ hl) (S5 _ _ ht) (List.mem_of_getElem? hj)
      refine ⟨y, (by kernel_rfl), y, u, rfl, ty, ke, fun d H6 S6 hd => ?_⟩
      refine ⟨true, XB.te, fun _ a0 _ => ?_, fun q => Bool.noConfusion q⟩
      refine ⟨.ref a0, (by kernel_rfl), rfl, rfl, d, _, _, rfl, hd, rfl, .ref a0, (by kernel_rfl), rfl, rfl, d, _, _, rfl, hd, rfl, by show 2 ≤ sizeLine; decide, fun q nq => ?_⟩
      have s7 := same_new (o := .tup [.int 0, .int 0]) nq
      have hq := upd_same (H := H6) (a := q) (o := .tup [.int 0, .int 0])
      refine ⟨by show 2 ≤ sizeLine; decide, fun q2 nq2 => ?_⟩
      have s8 := same_new (o := .tup [.int 0, .int 0]) nq2
      refine ⟨.tuple [.int 0, .int 0], .tuple [.int 0, .int 0], .tup (SqT.of (s8 _ _ hq)) (.cons (.int 0) (.cons (.int 0) .nil)), .tup (SqT.of upd_same) (.cons (.int 0) (.cons (.int 0) .nil)), by decide +kernel, by decide +kernel, _, rfl, ?_⟩
      refine ite_no (by decide +kernel) ?_
      exact ⟨_, _, rfl, ((S5.trans S6).trans s7).trans s8⟩
    · rintro σ H5 ⟨v8', v9', rfl, S5⟩
      refine ⟨"", rfl, tok_nil, fun y1 H6 S6 d1 => ?_⟩
      refine ⟨by show 2 ≤ sizeLine; decide, fun q nq => ?_⟩
      refine ⟨resD "", .tuple [.str "bad", .int 1], d1 _ _ (same_new nq), .tup (SqT.of upd_same) (.cons (.str _) (.cons (.int 1) .nil)), res_shaped tok_nil, by decide +kernel, ?_⟩
      refine ⟨_, rfl, ite_yes (by rw [res_nil]; decide +kernel) ?_⟩
      refine ⟨"; Nil", rfl, tok_sem, fun y2 H7 S7 d2 => ?_⟩
      refine ⟨by show 2 ≤ sizeLine; decide, fun q2 nq2 => ?_⟩
      refine ⟨resD "; Nil", .tuple [.str "bad", .int 1], d2 _ _ (same_new nq2), .tup (SqT.of upd_same) (.cons (.str _) (.cons (.int 1) .nil)), res_shaped tok_sem, by decide +kernel, ?_⟩
      show V.bl _ = .bl true
      rw [res_sem]
      decide +kernel
end

end Nm
namespace Nm
open PySem PySem.Spec PyProof.Rows L2
/-! ### the end, where the law's own body asks what guards run: none, at the caller -/
theorem entry {P : Program} {w : World} {K : PySem.W.Frag} {h : Heap} {a : Addr} {vs : List Value} {ns : List Int} (KX : K.In h) (ha : h.get? a = some { cls := .type "list", data := .seq vs.toArray }) (hi : IntsAre vs ns) (hl : ns.length ≤ sizeLine) :
    ∃ H : Hp, SqL K H a (ns.map V.int) ∧ HOk P w H h ∧ ∀ b u, H b = some u → b = a ∧ K.lookup a = none ∧ u = .frz { cls := .type "list", data := .seq vs.toArray } (.lst (ns.map V.int)) := by
  have rv := vals_ints hi
  have lenV := hi.length
  cases hk : K.lookup a with
  | some o =>
    have e := (KX a o hk).symm.trans ha
    cases e
    exact ⟨fun _ => none, .inr ⟨_, vs.toArray, _, hk, rfl, rfl, rfl, by rw [List.size_toArray, lenV]; exact hl, by simpa using rv⟩, (fun b u z => nomatch (show (none : Option HO) = some u from z)), fun b u z => nomatch (show (none : Option HO) = some u from z)⟩
  | none =>
    let o : Obj := { cls := .type "list", data := .seq vs.toArray }
    have at_ : ∀ b u, (if b = a then some (HO.frz o (.lst (ns.map V.int))) else none) = some u → b = a ∧ u = .frz o (.lst (ns.map V.int)) := fun b u z => by
      by_cases q : b = a
      · rw [if_pos q] at z
        exact ⟨q, (Option.some.inj z).symm⟩
      · rw [if_neg q] at z
        cases z
    refine ⟨fun b => if b = a then some (.frz o (.lst (ns.map V.int))) else none, .inl (.inr ⟨o, if_pos rfl⟩), fun b u z => ?_, fun b u z => ⟨(at_ b u z).1, rfl, (at_ b u z).2⟩⟩
    obtain ⟨rfl, rfl⟩ := at_ b u z
    exact ⟨ha, by rw [List.length_map]; exact hl, vs, _, rv, ha⟩
/-- a law's body, at the caller, from its term of rules and its reading -/
theorem walk_g {l : PySem.W.OpenLaw} {k : Nat} {q : Program} {loose : List Str} {XP : (Str → Option Value) → Heap → Prop} {YP : World → Heap → Prop} {d : DefRec} {K : Params → PySem.W.Frag} {x : Str} {N : List Str} {st : Stmt} {qual : Str}
    (hn : l.most = some 63) (hdf : d.params.defaults = []) (hr : Room (k + 1) callerA) (S : FnScope N [x] (defScope st)) (hY : ∀ (w : World) (h : Heap), YP w h → (K w.params).In h)
    (F : ∀ (w : World) (mg : Str → Option Value) (fa : Addr) (h : Heap), (K w.params).In h → h.Ns mainGlobals mg → mg d.name = some (.ref fa) →
      ∃ fd : FuncData, Fun (K w.params) qual qual st fa fd ∧ (∀ (s : Shared) (u : Value), BindsTo s fd ⟨[u], []⟩ [(x, u)]) ∧
        ∀ (base : Heap) (cdv : Value) (s : Shared) (H : Hp) (a : Addr) (ns : List Int), (K w.params).In base → base.Ns mainGlobals mg → ns.length ≤ 63 → SqL (K w.params) H a (ns.map V.int) →
          ∃ t, PSs (cxOf CX0 l.prog w (K w.params) mg base N qual (defScope st) fa cdv callerA [] s H E0).nox (defBody st) t ∧ t { nx := fun _ _ => False, rt := fun v _ => v = .bl true } (start N [.ref a]) H) :
    PySem.W.WalkO q loose XP YP l.row.toRowW d [] (fun f vs => PySem.call f vs) := by
  refine Att.attach_call hn hdf ?_
  intro w s₀ s₁ mg mb fa o pm cd doc a vs ns G Y ho hd hcd hmg hobj hints hlen hg
  have KX := hY w _ Y
  obtain ⟨fd, FF, hb, body⟩ := F w mg fa _ KX G.T.g hmg
  obtain ⟨H, hS, hok, only⟩ := entry (P := l.prog) (w := w) KX hobj hints (Nat.le_trans hlen (by decide))
  -- what the base keeps: all but the script
  have keepB : ∀ b o, s₁.heap.get? b = some o → (b = a → (K w.params).lookup a = none → False) → (hidT s₁.heap H).get? b = some o := fun b o e n => hidT_get e (by
    cases z : H b with
    | none => rfl
    | some u => exact (n (only b u z).1 (only b u z).2.1).elim)
  have KB : (K w.params).In (hidT s₁.heap H) := fun b o e => keepB b o (KX b o e) fun q z => by
    rw [q, z] at e
    cases e
  have nsB : ∀ {b : Addr} {m : Str → Option Value}, s₁.heap.Ns b m → (hidT s₁.heap H).Ns b m := fun {b m} n => by
    obtain ⟨o, es, ep, e, hdat, r⟩ := n
    refine ⟨o, es, ep, keepB b o e fun q _ => ?_, hdat, r⟩
    rw [q, hobj] at e
    cases e
    cases hdat
  have limB : (hidT s₁.heap H).NoLimit := by
    obtain ⟨mc, h1, h2⟩ := G.T.nolimit
    exact ⟨mc, nsB h1, h2⟩
  have e0 : Env0 l.prog w (K w.params) mg (hidT s₁.heap H) callerA [] s₁ H :=
    { frames := rfl, mod := ⟨KB, nsB G.T.g, ⟨mb, nsB G.T.b, G.T.builtins⟩, limB⟩, bs := fun b o e => of_hidT e, bsz := Nat.le_of_eq (hidT_size _ _), funs := trivial, frf := (fun b z => by cases z), hok := hok, bare := .of_eq hg }
  obtain ⟨oc, od, kV, dc, pmv, an, cdv, ct, osl, rfl, lk, hcode⟩ := FF.ex
  have hpar : (defScope st).names.lookup x = some .local ∨ (defScope st).names.lookup x = some .cell := S.par x (List.mem_singleton.mpr rfl)
  refine Att.call_fn KX G.T.nolimit lk hcode hr.depth (hb s₁ (.ref a)) ?_ (fun s2 ic => ?_) S.co S.gen S.kind
  · rcases hpar with z | z <;> simp [z]
  obtain ⟨t, ht, hq⟩ := body _ cdv s₁ H a ns KB (nsB G.T.g) hlen hS
  have I : Inv (cxOf CX0 l.prog w (K w.params) mg (hidT s₁.heap H) N qual (defScope st) fa cdv callerA [] s₁ H E0) [] (start N [.ref a]) H s2 := inv_start S hr.hd e0 rfl (.cons rfl .nil) ic
  have old : ∀ (s' : Shared) (σ' : L2.St) (H' : Hp), Inv (cxOf CX0 l.prog w (K w.params) mg (hidT s₁.heap H) N qual (defScope st) fa cdv callerA [] s₁ H E0) [] σ' H' s' → OldK s₁.heap s'.heap := fun s' σ' H' J => by
    refine OldK.of_keep fun b o e => ?_
    cases z : H b with
    | none => exact J.base.keep b o e z (by intro y; cases y) (by intro y; cases y)
    | some u =>
      obtain ⟨_, _, rfl⟩ := only b u z
      have p1 := (hok b _ z).1
      have p2 := (J.hok b _ (J.base.frzs b _ _ z)).1
      rw [e] at p1
      cases p1
      exact p2
  refine wpAny_mono (ht.nox.run [] s2 _ H _ I hq) ?_ ?_
  · intro fl s' hs
    cases fl with
    | ret u =>
      obtain ⟨v, σ', H', J, rv, q⟩ := hs
      have q' : v = V.bl true := q
      subst q'
      have ru : u = Value.bool true := rv
      subst ru
      exact ⟨rfl, old _ _ _ J, J.os, J.bare⟩
    | next =>
      obtain ⟨_, _, _, q⟩ := hs
      exact False.elim q
    | brk =>
      obtain ⟨_, _, _, q⟩ := hs
      exact False.elim q
    | cont =>
      obtain ⟨_, _, _, q⟩ := hs
      exact False.elim q
  · intro e s' hs
    exact wpAny_mono hs (fun _ _ z => False.elim z) fun _ _ z => False.elim z
end Nm
namespace Nm
open PySem PySem.Spec PyProof.Rows L2
/-! ### the end: what the top has written -/
/-- a def of the text, raw -/
structure FRaw (K : PySem.W.Frag) (x qual : Str) (st : Stmt) (f : Addr) : Prop where
  ex : ∃ (oc : Value) (od : Option Addr) (kV doc pm : Value) (an : Option Addr) (cdv ct : Value) (osl : Array (Option Value)),
    K.lookup f = some ⟨oc, od, .func (PySem.W.fnOf x qual (defArgs st) (defBody st) (defScope st) .none kV doc pm an cdv ct), osl⟩ ∧ PySem.W.codeIn K cdv qual = true
  kp : PySem.W.keepIn K (.ref f) = true
theorem fraw_mk {K : PySem.W.Frag} {x qual : Str} {st : Stmt} {f : Addr} {oc : Value} {od an : Option Addr} {osl : Array (Option Value)} {kV doc pm cdv ct : Value} (l : K.lookup f = some ⟨oc, od, .func (PySem.W.fnOf x qual (defArgs st) (defBody st) (defScope st) .none kV doc pm an cdv ct), osl⟩)
    (c : PySem.W.codeIn K cdv qual = true) (k : PySem.W.keepIn K (.ref f) = true) : FRaw K x qual st f := ⟨⟨oc, od, kV, doc, pm, an, cdv, ct, osl, l, c⟩, k⟩

theorem kit_own {K : PySem.W.Frag} {C : Addr} {t : Value} {b : Bool} (n : (t == .ref C) = false) (i : PySem.W.isClsIn K C = true) (y : PySem.W.typeIn K (.ref C) = some (.type "type")) (s : PySem.W.subIn K t (.ref C) = some b) : PySem.W.kitOne K t (.ref C) = some b := by
  unfold PySem.W.kitOne
  rw [n]
  have i' : (PySem.W.clsIn K C).isSome = true := i
  show (if ((PySem.W.clsIn K C).isSome && PySem.W.typeIn K (.ref C) == some (.type "type")) = true then PySem.W.subIn K t (.ref C) else none) = some b
  rw [i', y, if_pos (by rfl)]
  exact s
theorem kit_blt {K : PySem.W.Frag} {C : Addr} {T : String} {b : Bool} (m : PySem.W.kitMeta T = true) (s : PySem.W.subIn K (.ref C) (.type T) = some b) : PySem.W.kitOne K (.ref C) (.type T) = some b := by
  show (if (Value.ref C == Value.type T) = true then some true else if PySem.W.kitMeta T = true then PySem.W.subIn K (.ref C) (.type T) else none) = some b
  rw [if_neg (by simp), if_pos m]
  exact s
theorem exm_self {K : PySem.W.Frag} {S : Addr} (h1 : PySem.W.subIn K (.ref S) (.type "BaseException") = some true) (h2 : PySem.W.isClsIn K S = true) (h3 : PySem.W.typeIn K (.ref S) = some (.type "type")) (h4 : PySem.W.subIn K (.ref S) (.ref S) = some true) :
    PySem.W.exmOne K (.ref S) (.ref S) = some true := by
  have a1 : (PySem.W.subIn K (.ref S) (.type "BaseException") == some true) = true := by rw [h1]; rfl
  have a2 : ((PySem.W.clsIn K S).isSome && PySem.W.typeIn K (.ref S) == some (.type "type")) = true := by
    rw [show (PySem.W.clsIn K S).isSome = true from h2, h3]
    rfl
  show (if (PySem.W.subIn K (.ref S) (.type "BaseException") == some true) = true then (if ((PySem.W.clsIn K S).isSome && PySem.W.typeIn K (.ref S) == some (.type "type")) = true then PySem.W.subIn K (.ref S) (.ref S) else none) else none) = some true
  rw [if_pos a1, if_pos a2]
  exact h4
structure XRaw (K : PySem.W.Frag) (x : Str) (C J : Addr) : Prop where
  ns : PySem.W.nsIn K mainGlobals x = some (some (.ref C))
  cls : ∃ nm q N bs sn sub ab col dd m0 m1 m2 m3 m5, K.lookup C = some (excClassObj nm q C N bs [.ref J, .type "ValueError", .type "Exception", .type "BaseException", .type "object"] true sn sub ab col dd m0 m1 m2 m3 m5 "ValueError.__new__")
  sa : PySem.W.findIn K (.ref C) "__setattr__" = some (some (.builtin "object.__setattr__"))
  ga : PySem.W.findIn K (.ref C) "__getattribute__" = some (some (.builtin "BaseException.__getattribute__"))
  gg : PySem.W.findIn K (.ref C) "__getattr__" = some none
  sb : PySem.W.subIn K (.ref C) (.type "BaseException") = some true
  ty : PySem.W.typeIn K (.ref C) = some (.type "type")
  kp : PySem.W.keepIn K (.ref C) = true
  ca : PySem.W.findIn K (.ref C) "__class__" = some (some (.builtin "object.__class__"))
  mo : PySem.W.mroIn K C (.type "object") = some true
  hd : PySem.W.hasDictIn K C = true
theorem xraw_mk {K : PySem.W.Frag} {x : Str} {C J : Addr} {nm q : Str} {N : Addr} {bs : List Value} {sn : List Str} {sub : List Value} {ab : Bool} {col : Option Bool} {dd : Option Addr} {m0 m1 m2 m3 m5 : Option Value}
    (ns : PySem.W.nsIn K mainGlobals x = some (some (.ref C)))
    (cls : K.lookup C = some (excClassObj nm q C N bs [.ref J, .type "ValueError", .type "Exception", .type "BaseException", .type "object"] true sn sub ab col dd m0 m1 m2 m3 m5 "ValueError.__new__"))
    (sa : PySem.W.findIn K (.ref C) "__setattr__" = some (some (.builtin "object.__setattr__")))
    (ga : PySem.W.findIn K (.ref C) "__getattribute__" = some (some (.builtin "BaseException.__getattribute__")))
    (gg : PySem.W.findIn K (.ref C) "__getattr__" = some none)
    (sb : PySem.W.subIn K (.ref C) (.type "BaseException") = some true)
    (ty : PySem.W.typeIn K (.ref C) = some (.type "type"))
    (kp : PySem.W.keepIn K (.ref C) = true)
    (ca : PySem.W.findIn K (.ref C) "__class__" = some (some (.builtin "object.__class__")))
    (mo : PySem.W.mroIn K C (.type "object") = some true)
    (hd : PySem.W.hasDictIn K C = true) : XRaw K x C J := ⟨ns, ⟨nm, q, N, bs, sn, sub, ab, col, dd, m0, m1, m2, m3, m5, cls⟩, sa, ga, gg, sb, ty, kp, ca, mo, hd⟩
theorem XRaw.oex {K : PySem.W.Frag} {x : Str} {C J : Addr} (r : XRaw K x C J) : OexC K C := by
  obtain ⟨nm, q, N, bs, sn, sub, ab, col, dd, m0, m1, m2, m3, m5, e⟩ := r.cls
  refine ⟨⟨nm, q, N, bs, _, sn, sub, ab, col, dd, m0, m1, m2, m3, m5, e, ?_⟩, r.sa, r.sb, r.ty, r.kp⟩
  show PySem.HandSPX.refsVE [.type "ValueError", .type "Exception", .type "BaseException", .type "object"] = true
  decide +kernel

theorem fin {P : Program} {w : World} {K : PySem.W.Frag} {h : Heap} {mg : Str → Option Value} {fa fNa0 fWr0 C fE f0 CB J fb fM fR fN fB fI fA fW fT fX fF f1 fD fQ f2 f3 f4 f5 f6 fS f7 f8 f9 g1 g2 g3 g4 g5 fz : Addr} {t_BIG_LETTERS t_SMALL_LETTERS t_DIGITS t_MOST_SIGNS t_MOST_DIGITS : Tok} (X : K.In h) (G : h.Ns mainGlobals mg) (hfa : mg "law" = some (.ref fa))
    (z_isinstance : PySem.W.nsIn K mainGlobals "isinstance" = some none)
    (z_len : PySem.W.nsIn K mainGlobals "len" = some none)
    (z_range : PySem.W.nsIn K mainGlobals "range" = some none)
    (z_reversed : PySem.W.nsIn K mainGlobals "reversed" = some none)
    (z_tuple : PySem.W.nsIn K mainGlobals "tuple" = some none)
    (z_list : PySem.W.nsIn K mainGlobals "list" = some none)
    (z_int : PySem.W.nsIn K mainGlobals "int" = some none)
    (z_bool : PySem.W.nsIn K mainGlobals "bool" = some none)
    (z_zip : PySem.W.nsIn K mainGlobals "zip" = some none)
    (z_str : PySem.W.nsIn K mainGlobals "str" = some none)
    (z_enumerate : PySem.W.nsIn K mainGlobals "enumerate" = some none)
    (v_BIG_LETTERS : PySem.W.nsIn K mainGlobals "BIG_LETTERS" = some (some (.str "ABCDEFGHIJKLMNOPQRSTUVWXYZ" t_BIG_LETTERS)))
    (v_SMALL_LETTERS : PySem.W.nsIn K mainGlobals "SMALL_LETTERS" = some (some (.str "abcdefghijklmnopqrstuvwxyz" t_SMALL_LETTERS)))
    (v_DIGITS : PySem.W.nsIn K mainGlobals "DIGITS" = some (some (.str "0123456789" t_DIGITS)))
    (v_MOST_SIGNS : PySem.W.nsIn K mainGlobals "MOST_SIGNS" = some (some (.int 24 t_MOST_SIGNS)))
    (v_MOST_DIGITS : PySem.W.nsIn K mainGlobals "MOST_DIGITS" = some (some (.int 400 t_MOST_DIGITS)))
    (m_g : PySem.W.nsIn K mainGlobals "Made" = some (some (.ref C)))
    (m_pg : PySem.W.plainGet K C Str.empty = true)
    (m_hd : PySem.W.hasDictIn K C = true)
    (m_po : PySem.W.plainOver K C = true)
    (m_sa : PySem.W.findIn K (.ref C) "__setattr__" = some (some (.builtin "object.__setattr__")))
    (m_nM : PySem.W.findIn K (.ref C) "maker" = some none)
    (m_nP : PySem.W.findIn K (.ref C) "parts" = some none)
    (m_eqF : PySem.W.findIn K (.ref C) "__eq__" = some (some (.ref fE)))
    (m_eqK : PySem.W.isFn K (.ref fE) = true)
    (m_neF : PySem.W.findIn K (.ref C) "__ne__" = some (some (.builtin "object.__ne__")))
    (m_subI : PySem.W.subIn K (.type "int") (.ref C) = some false)
    (m_subC : PySem.W.subIn K (.ref C) (.type "int") = some false)
    (m_subB : PySem.W.subIn K (.ref C) (.type "bool") = some false)
    (m_subS : PySem.W.subIn K (.ref C) (.type "str") = some false)
    (m_iC : PySem.W.isClsIn K C = true)
    (m_ty : PySem.W.typeIn K (.ref C) = some (.type "type"))
    (m_ca : PySem.W.findIn K (.ref C) "__class__" = some (some (.builtin "object.__class__")))
    (m_gt : PySem.W.specialIn K (.builtin "object.__class__") "__get__" = some (some (.builtin "getset_descriptor.__get__")))
    (m_tk : PySem.W.takesIn K (.builtin "object.__class__") = some true)
    (m_mo : PySem.W.mroIn K C (.type "object") = some true)
    (m_mk : PySem.W.makesIn K C = true)
    (m_in : PySem.W.findIn K (.ref C) "__init__" = some (some (.ref f0)))
    (m_fn : PySem.W.isFn K (.ref f0) = true)
    (m_kp : PySem.W.keepIn K (.ref C) = true)
    (x_b : XRaw K "BadText" CB J)
    (b_in : PySem.W.findIn K (.ref CB) "__init__" = some (some (.ref fb)))
    (b_ty : PySem.W.typeIn K (.ref fb) = some (.type "function"))
    (b_nl : PySem.W.findIn K (.ref CB) "line" = some none)
    (b_nc : PySem.W.findIn K (.ref CB) "column" = some none)
    (b_iC : PySem.W.isClsIn K CB = true)
    (b_ss : PySem.W.subIn K (.ref CB) (.ref CB) = some true)
    (d_init : FRaw K "__init__" "Made.__init__" sMadeinit f0)
    (d_bt : FRaw K "__init__" "BadText.__init__" sBadTextinit fb)
    (g_may_have_parts : PySem.W.nsIn K mainGlobals "may_have_parts" = some (some (.ref fM)))
    (d_may_have_parts : FRaw K "may_have_parts" "may_have_parts" smayhaveparts fM)
    (g_read_value : PySem.W.nsIn K mainGlobals "read_value" = some (some (.ref fR)))
    (d_read_value : FRaw K "read_value" "read_value" sreadvalue fR)
    (g_is_natural : PySem.W.nsIn K mainGlobals "is_natural" = some (some (.ref fNa0)))
    (d_is_natural : FRaw K "is_natural" "is_natural" sisnatural fNa0)
    (g_is_written : PySem.W.nsIn K mainGlobals "is_written" = some (some (.ref fWr0)))
    (d_is_written : FRaw K "is_written" "is_written" siswritten fWr0)
    (g_is_number : PySem.W.nsIn K mainGlobals "is_number" = some (some (.ref fN)))
    (d_is_number : FRaw K "is_number" "is_number" sisnumber fN)
    (g_is_big : PySem.W.nsIn K mainGlobals "is_big" = some (some (.ref fB)))
    (d_is_big : FRaw K "is_big" "is_big" sisbig fB)
    (g_is_name : PySem.W.nsIn K mainGlobals "is_name" = some (some (.ref fI)))
    (d_is_name : FRaw K "is_name" "is_name" sisname fI)
    (g_all_among : PySem.W.nsIn K mainGlobals "all_among" = some (some (.ref fA)))
    (d_all_among : FRaw K "all_among" "all_among" sallamong fA)
    (g_words_of : PySem.W.nsIn K mainGlobals "words_of" = some (some (.ref fW)))
    (d_words_of : FRaw K "words_of" "words_of" swordsof fW)
    (g_take_word : PySem.W.nsIn K mainGlobals "take_word" = some (some (.ref fT)))
    (d_take_word : FRaw K "take_word" "take_word" stakeword fT)
    (g_end_of : PySem.W.nsIn K mainGlobals "end_of" = some (some (.ref fX)))
    (d_end_of : FRaw K "end_of" "end_of" sendof fX)
    (g_value_from : PySem.W.nsIn K mainGlobals "value_from" = some (some (.ref fF)))
    (d_value_from : FRaw K "value_from" "value_from" svaluefrom fF)
    (g_law_pen : PySem.W.nsIn K mainGlobals "_law_pen" = some (some (.ref f1)))
    (d_law_pen : FRaw K "_law_pen" "_law_pen" sPen f1)
    (g_law_draw : PySem.W.nsIn K mainGlobals "_law_draw" = some (some (.ref fD)))
    (d_law_draw : FRaw K "_law_draw" "_law_draw" sDraw fD)
    (g_law_pick : PySem.W.nsIn K mainGlobals "_law_pick" = some (some (.ref fQ)))
    (d_law_pick : FRaw K "_law_pick" "_law_pick" sPick fQ)
    (g_law_value_text : PySem.W.nsIn K mainGlobals "_law_value_text" = some (some (.ref f2)))
    (d_law_value_text : FRaw K "_law_value_text" "_law_value_text" sLvaluetext f2)
    (g_law_own : PySem.W.nsIn K mainGlobals "_law_own" = some (some (.ref f3)))
    (d_law_own : FRaw K "_law_own" "_law_own" sLown f3)
    (g_law_makers : PySem.W.nsIn K mainGlobals "_law_makers" = some (some (.ref f4)))
    (d_law_makers : FRaw K "_law_makers" "_law_makers" sLmakers f4)
    (g_law_some_value : PySem.W.nsIn K mainGlobals "_law_some_value" = some (some (.ref f5)))
    (d_law_some_value : FRaw K "_law_some_value" "_law_some_value" sLsomevalue f5)
    (g_law_words : PySem.W.nsIn K mainGlobals "_law_words" = some (some (.ref f6)))
    (d_law_words : FRaw K "_law_words" "_law_words" sLwords f6)
    (g_law_signs : PySem.W.nsIn K mainGlobals "_law_signs" = some (some (.ref fS)))
    (d_law_signs : FRaw K "_law_signs" "_law_signs" sLsigns fS)
    (g_law_word_kind : PySem.W.nsIn K mainGlobals "_law_word_kind" = some (some (.ref f7)))
    (d_law_word_kind : FRaw K "_law_word_kind" "_law_word_kind" sLwordkind f7)
    (g_law_seen : PySem.W.nsIn K mainGlobals "_law_seen" = some (some (.ref f8)))
    (d_law_seen : FRaw K "_law_seen" "_law_seen" sLseen f8)
    (g_law_take : PySem.W.nsIn K mainGlobals "_law_take" = some (some (.ref f9)))
    (d_law_take : FRaw K "_law_take" "_law_take" sLtake f9)
    (g_law_column : PySem.W.nsIn K mainGlobals "_law_column" = some (some (.ref g1)))
    (d_law_column : FRaw K "_law_column" "_law_column" sLcolumn g1)
    (g_law_read : PySem.W.nsIn K mainGlobals "_law_read" = some (some (.ref g2)))
    (d_law_read : FRaw K "_law_read" "_law_read" sLread g2)
    (g_law_due : PySem.W.nsIn K mainGlobals "_law_due" = some (some (.ref g3)))
    (d_law_due : FRaw K "_law_due" "_law_due" sLdue g3)
    (g_law_told : PySem.W.nsIn K mainGlobals "_law_told" = some (some (.ref g4)))
    (d_law_told : FRaw K "_law_told" "_law_told" sLtold g4)
    (g_law_spoilt : PySem.W.nsIn K mainGlobals "_law_spoilt" = some (some (.ref g5)))
    (d_law_spoilt : FRaw K "_law_spoilt" "_law_spoilt" sLspoilt g5)
    (g_law : PySem.W.nsIn K mainGlobals "law" = some (some (.ref fz)))
    (d_law : FRaw K "law" "law" slaw fz)
    : ∃ fd : FuncData, Fun K "law" "law" slaw fa fd ∧ (∀ (s : Shared) (u : Value), BindsTo s fd ⟨[u], []⟩ [("_law_script", u)]) ∧
        ∀ (base : Heap) (cdv : Value) (s : Shared) (H : Hp) (a : Addr) (ns : List Int), K.In base → base.Ns mainGlobals mg → ns.length ≤ 63 → SqL K H a (ns.map V.int) →
          ∃ t, PSs (cxOf CX0 P w K mg base Nlaw "law" (defScope slaw) fa cdv callerA [] s H E0).nox (defBody slaw) t ∧ t { nx := fun _ _ => False, rt := fun v _ => v = .bl true } (start Nlaw [.ref a]) H := by
  have e := hfa.symm.trans (PySem.W.mg_of X G g_law)
  cases e
  have MT : MadeTxt K mg C fE :=
    { cl := ⟨m_pg, m_hd, m_po, m_sa⟩, nM := m_nM, nP := m_nP, gM := PySem.W.mg_of X G m_g, eqF := m_eqF, eqK := m_eqK, neF := m_neF, subI := m_subI, subC := m_subC, kitC := (by unfold PySem.W.kitOne; rw [if_pos (by simp)]), kitI := kit_own rfl m_iC m_ty m_subI, kitB := kit_blt (by decide +kernel) m_subB, kitN := kit_blt (by decide +kernel) m_subC, ca := m_ca, gt := m_gt, tk := m_tk, mo := m_mo }
  have kS : PySem.W.kitOne K (.ref C) (.type "str") = some false := kit_blt (by decide +kernel) m_subS
  have MkC : Mk K C f0 := ⟨m_mk, m_in, m_fn, m_kp⟩
  have XB : XCls K mg "BadText" CB fb ["line", "column"] :=
    { gm := PySem.W.mg_of X G x_b.ns, oex := x_b.oex, ini := b_in, tyI := b_ty, xf := ⟨x_b.ga, x_b.gg, x_b.sb, x_b.hd⟩, te := exm_self x_b.sb b_iC x_b.ty b_ss,
      no := fun f hf => by
        simp only [List.mem_cons, List.not_mem_nil, or_false] at hf
        rcases hf with rfl | rfl <;> assumption }
  obtain ⟨oc, od, kV, doc, pm, an, cdv, ct, osl, lk, cc⟩ := d_init.ex
  have F_init := fun_mk (st := sMadeinit) lk cc d_init.kp
  have B_init := F_init.binds (ps := ["self", "maker", "parts"]) fun _ _ _ _ _ _ us hl => match us, hl with | [_, _, _], _ => rfl
  generalize PySem.W.fnOf _ _ _ _ _ _ kV doc pm an cdv ct = fd_init at F_init B_init
  clear lk cc
  obtain ⟨oc, od, kV, doc, pm, an, cdv, ct, osl, lk, cc⟩ := d_bt.ex
  have F_bt := fun_mk (st := sBadTextinit) lk cc d_bt.kp
  have B_bt := F_bt.binds (ps := ["self", "line", "column"]) fun _ _ _ _ _ _ us hl => match us, hl with | [_, _, _], _ => rfl
  generalize PySem.W.fnOf _ _ _ _ _ _ kV doc pm an cdv ct = fd_bt at F_bt B_bt
  clear lk cc
  obtain ⟨oc, od, kV, doc, pm, an, cdv, ct, osl, lk, cc⟩ := d_may_have_parts.ex
  have F_may_have_parts := fun_mk (st := smayhaveparts) lk cc d_may_have_parts.kp
  have B_may_have_parts := F_may_have_parts.binds (ps := ["told"]) fun _ _ _ _ _ _ us hl => match us, hl with | [_], _ => rfl
  generalize PySem.W.fnOf _ _ _ _ _ _ kV doc pm an cdv ct = fd_may_have_parts at F_may_have_parts B_may_have_parts
  clear lk cc
  obtain ⟨oc, od, kV, doc, pm, an, cdv, ct, osl, lk, cc⟩ := d_read_value.ex
  have F_read_value := fun_mk (st := sreadvalue) lk cc d_read_value.kp
  have B_read_value := F_read_value.binds (ps := ["told"]) fun _ _ _ _ _ _ us hl => match us, hl with | [_], _ => rfl
  generalize PySem.W.fnOf _ _ _ _ _ _ kV doc pm an cdv ct = fd_read_value at F_read_value B_read_value
  clear lk cc
  obtain ⟨oc, od, kV, doc, pm, an, cdv, ct, osl, lk, cc⟩ := d_is_natural.ex
  have F_is_natural := fun_mk (st := sisnatural) lk cc d_is_natural.kp
  have B_is_natural := F_is_natural.binds (ps := ["word"]) fun _ _ _ _ _ _ us hl => match us, hl with | [_], _ => rfl
  generalize PySem.W.fnOf _ _ _ _ _ _ kV doc pm an cdv ct = fd_is_natural at F_is_natural B_is_natural
  clear lk cc
  obtain ⟨oc, od, kV, doc, pm, an, cdv, ct, osl, lk, cc⟩ := d_is_written.ex
  have F_is_written := fun_mk (st := siswritten) lk cc d_is_written.kp
  have B_is_written := F_is_written.binds (ps := ["word"]) fun _ _ _ _ _ _ us hl => match us, hl with | [_], _ => rfl
  generalize PySem.W.fnOf _ _ _ _ _ _ kV doc pm an cdv ct = fd_is_written at F_is_written B_is_written
  clear lk cc
  obtain ⟨oc, od, kV, doc, pm, an, cdv, ct, osl, lk, cc⟩ := d_is_number.ex
  have F_is_number := fun_mk (st := sisnumber) lk cc d_is_number.kp
  have B_is_number := F_is_number.binds (ps := ["word"]) fun _ _ _ _ _ _ us hl => match us, hl with | [_], _ => rfl
  generalize PySem.W.fnOf _ _ _ _ _ _ kV doc pm an cdv ct = fd_is_number at F_is_number B_is_number
  clear lk cc
  replace F_is_number : NumFun K mg _ fd_is_number := ⟨F_is_number, _, _, _, _, F_is_written, B_is_written, PySem.W.mg_of X G g_is_written, F_is_natural, B_is_natural, PySem.W.mg_of X G g_is_natural⟩
  obtain ⟨oc, od, kV, doc, pm, an, cdv, ct, osl, lk, cc⟩ := d_is_big.ex
  have F_is_big := fun_mk (st := sisbig) lk cc d_is_big.kp
  have B_is_big := F_is_big.binds (ps := ["word"]) fun _ _ _ _ _ _ us hl => match us, hl with | [_], _ => rfl
  generalize PySem.W.fnOf _ _ _ _ _ _ kV doc pm an cdv ct = fd_is_big at F_is_big B_is_big
  clear lk cc
  obtain ⟨oc, od, kV, doc, pm, an, cdv, ct, osl, lk, cc⟩ := d_is_name.ex
  have F_is_name := fun_mk (st := sisname) lk cc d_is_name.kp
  have B_is_name := F_is_name.binds (ps := ["word", "first_signs"]) fun _ _ _ _ _ _ us hl => match us, hl with | [_, _], _ => rfl
  generalize PySem.W.fnOf _ _ _ _ _ _ kV doc pm an cdv ct = fd_is_name at F_is_name B_is_name
  clear lk cc
  obtain ⟨oc, od, kV, doc, pm, an, cdv, ct, osl, lk, cc⟩ := d_all_among.ex
  have F_all_among := fun_mk (st := sallamong) lk cc d_all_among.kp
  have B_all_among := F_all_among.binds (ps := ["text", "signs"]) fun _ _ _ _ _ _ us hl => match us, hl with | [_, _], _ => rfl
  generalize PySem.W.fnOf _ _ _ _ _ _ kV doc pm an cdv ct = fd_all_among at F_all_among B_all_among
  clear lk cc
  obtain ⟨oc, od, kV, doc, pm, an, cdv, ct, osl, lk, cc⟩ := d_words_of.ex
  have F_words_of := fun_mk (st := swordsof) lk cc d_words_of.kp
  have B_words_of := F_words_of.binds (ps := ["line"]) fun _ _ _ _ _ _ us hl => match us, hl with | [_], _ => rfl
  generalize PySem.W.fnOf _ _ _ _ _ _ kV doc pm an cdv ct = fd_words_of at F_words_of B_words_of
  clear lk cc
  obtain ⟨oc, od, kV, doc, pm, an, cdv, ct, osl, lk, cc⟩ := d_take_word.ex
  have F_take_word := fun_mk (st := stakeword) lk cc d_take_word.kp
  have B_take_word := F_take_word.binds (ps := ["opened", "word"]) fun _ _ _ _ _ _ us hl => match us, hl with | [_, _], _ => rfl
  generalize PySem.W.fnOf _ _ _ _ _ _ kV doc pm an cdv ct = fd_take_word at F_take_word B_take_word
  clear lk cc
  obtain ⟨oc, od, kV, doc, pm, an, cdv, ct, osl, lk, cc⟩ := d_end_of.ex
  have F_end_of := fun_mk (st := sendof) lk cc d_end_of.kp
  have B_end_of := F_end_of.binds (ps := ["words"]) fun _ _ _ _ _ _ us hl => match us, hl with | [_], _ => rfl
  generalize PySem.W.fnOf _ _ _ _ _ _ kV doc pm an cdv ct = fd_end_of at F_end_of B_end_of
  clear lk cc
  obtain ⟨oc, od, kV, doc, pm, an, cdv, ct, osl, lk, cc⟩ := d_value_from.ex
  have F_value_from := fun_mk (st := svaluefrom) lk cc d_value_from.kp
  have B_value_from := F_value_from.binds (ps := ["text"]) fun _ _ _ _ _ _ us hl => match us, hl with | [_], _ => rfl
  generalize PySem.W.fnOf _ _ _ _ _ _ kV doc pm an cdv ct = fd_value_from at F_value_from B_value_from
  clear lk cc
  obtain ⟨oc, od, kV, doc, pm, an, cdv, ct, osl, lk, cc⟩ := d_law_pen.ex
  have F_law_pen := fun_mk (st := sPen) lk cc d_law_pen.kp
  have B_law_pen := F_law_pen.binds (ps := ["_law_script"]) fun _ _ _ _ _ _ us hl => match us, hl with | [_], _ => rfl
  generalize PySem.W.fnOf _ _ _ _ _ _ kV doc pm an cdv ct = fd_law_pen at F_law_pen B_law_pen
  clear lk cc
  obtain ⟨oc, od, kV, doc, pm, an, cdv, ct, osl, lk, cc⟩ := d_law_draw.ex
  have F_law_draw := fun_mk (st := sDraw) lk cc d_law_draw.kp
  have B_law_draw := F_law_draw.binds (ps := ["_law_pen_here", "_law_many"]) fun _ _ _ _ _ _ us hl => match us, hl with | [_, _], _ => rfl
  generalize PySem.W.fnOf _ _ _ _ _ _ kV doc pm an cdv ct = fd_law_draw at F_law_draw B_law_draw
  clear lk cc
  obtain ⟨oc, od, kV, doc, pm, an, cdv, ct, osl, lk, cc⟩ := d_law_pick.ex
  have F_law_pick := fun_mk (st := sPick) lk cc d_law_pick.kp
  have B_law_pick := F_law_pick.binds (ps := ["_law_pen_here", "_law_some"]) fun _ _ _ _ _ _ us hl => match us, hl with | [_, _], _ => rfl
  generalize PySem.W.fnOf _ _ _ _ _ _ kV doc pm an cdv ct = fd_law_pick at F_law_pick B_law_pick
  clear lk cc
  obtain ⟨oc, od, kV, doc, pm, an, cdv, ct, osl, lk, cc⟩ := d_law_value_text.ex
  have F_law_value_text := fun_mk (st := sLvaluetext) lk cc d_law_value_text.kp
  have B_law_value_text := F_law_value_text.binds (ps := ["_law_value", "_law_is_outer"]) fun _ _ _ _ _ _ us hl => match us, hl with | [_, _], _ => rfl
  generalize PySem.W.fnOf _ _ _ _ _ _ kV doc pm an cdv ct = fd_law_value_text at F_law_value_text B_law_value_text
  clear lk cc
  obtain ⟨oc, od, kV, doc, pm, an, cdv, ct, osl, lk, cc⟩ := d_law_own.ex
  have F_law_own := fun_mk (st := sLown) lk cc d_law_own.kp
  have B_law_own := F_law_own.binds (ps := ["_law_value"]) fun _ _ _ _ _ _ us hl => match us, hl with | [_], _ => rfl
  generalize PySem.W.fnOf _ _ _ _ _ _ kV doc pm an cdv ct = fd_law_own at F_law_own B_law_own
  clear lk cc
  obtain ⟨oc, od, kV, doc, pm, an, cdv, ct, osl, lk, cc⟩ := d_law_makers.ex
  have F_law_makers := fun_mk (st := sLmakers) lk cc d_law_makers.kp
  have B_law_makers := F_law_makers.binds (ps := ["_law_kinds", "_law_kind"]) fun _ _ _ _ _ _ us hl => match us, hl with | [_, _], _ => rfl
  generalize PySem.W.fnOf _ _ _ _ _ _ kV doc pm an cdv ct = fd_law_makers at F_law_makers B_law_makers
  clear lk cc
  obtain ⟨oc, od, kV, doc, pm, an, cdv, ct, osl, lk, cc⟩ := d_law_some_value.ex
  have F_law_some_value := fun_mk (st := sLsomevalue) lk cc d_law_some_value.kp
  have B_law_some_value := F_law_some_value.binds (ps := ["_law_pen_here", "_law_kinds", "_law_kind", "_law_depth"]) fun _ _ _ _ _ _ us hl => match us, hl with | [_, _, _, _], _ => rfl
  generalize PySem.W.fnOf _ _ _ _ _ _ kV doc pm an cdv ct = fd_law_some_value at F_law_some_value B_law_some_value
  clear lk cc
  obtain ⟨oc, od, kV, doc, pm, an, cdv, ct, osl, lk, cc⟩ := d_law_words.ex
  have F_law_words := fun_mk (st := sLwords) lk cc d_law_words.kp
  have B_law_words := F_law_words.binds (ps := ["_law_line"]) fun _ _ _ _ _ _ us hl => match us, hl with | [_], _ => rfl
  generalize PySem.W.fnOf _ _ _ _ _ _ kV doc pm an cdv ct = fd_law_words at F_law_words B_law_words
  clear lk cc
  obtain ⟨oc, od, kV, doc, pm, an, cdv, ct, osl, lk, cc⟩ := d_law_signs.ex
  have F_law_signs := fun_mk (st := sLsigns) lk cc d_law_signs.kp
  have B_law_signs := F_law_signs.binds (ps := []) fun _ _ _ _ _ _ us hl => match us, hl with | [], _ => rfl
  generalize PySem.W.fnOf _ _ _ _ _ _ kV doc pm an cdv ct = fd_law_signs at F_law_signs B_law_signs
  clear lk cc
  obtain ⟨oc, od, kV, doc, pm, an, cdv, ct, osl, lk, cc⟩ := d_law_word_kind.ex
  have F_law_word_kind := fun_mk (st := sLwordkind) lk cc d_law_word_kind.kp
  have B_law_word_kind := F_law_word_kind.binds (ps := ["_law_word"]) fun _ _ _ _ _ _ us hl => match us, hl with | [_], _ => rfl
  generalize PySem.W.fnOf _ _ _ _ _ _ kV doc pm an cdv ct = fd_law_word_kind at F_law_word_kind B_law_word_kind
  clear lk cc
  obtain ⟨oc, od, kV, doc, pm, an, cdv, ct, osl, lk, cc⟩ := d_law_seen.ex
  have F_law_seen := fun_mk (st := sLseen) lk cc d_law_seen.kp
  have B_law_seen := F_law_seen.binds (ps := ["_law_state"]) fun _ _ _ _ _ _ us hl => match us, hl with | [_], _ => rfl
  generalize PySem.W.fnOf _ _ _ _ _ _ kV doc pm an cdv ct = fd_law_seen at F_law_seen B_law_seen
  clear lk cc
  obtain ⟨oc, od, kV, doc, pm, an, cdv, ct, osl, lk, cc⟩ := d_law_take.ex
  have F_law_take := fun_mk (st := sLtake) lk cc d_law_take.kp
  have B_law_take := F_law_take.binds (ps := ["_law_state", "_law_kinds"]) fun _ _ _ _ _ _ us hl => match us, hl with | [_, _], _ => rfl
  generalize PySem.W.fnOf _ _ _ _ _ _ kV doc pm an cdv ct = fd_law_take at F_law_take B_law_take
  clear lk cc
  obtain ⟨oc, od, kV, doc, pm, an, cdv, ct, osl, lk, cc⟩ := d_law_column.ex
  have F_law_column := fun_mk (st := sLcolumn) lk cc d_law_column.kp
  have B_law_column := F_law_column.binds (ps := ["_law_state"]) fun _ _ _ _ _ _ us hl => match us, hl with | [_], _ => rfl
  generalize PySem.W.fnOf _ _ _ _ _ _ kV doc pm an cdv ct = fd_law_column at F_law_column B_law_column
  clear lk cc
  obtain ⟨oc, od, kV, doc, pm, an, cdv, ct, osl, lk, cc⟩ := d_law_read.ex
  have F_law_read := fun_mk (st := sLread) lk cc d_law_read.kp
  have B_law_read := F_law_read.binds (ps := ["_law_state", "_law_is_atom"]) fun _ _ _ _ _ _ us hl => match us, hl with | [_, _], _ => rfl
  generalize PySem.W.fnOf _ _ _ _ _ _ kV doc pm an cdv ct = fd_law_read at F_law_read B_law_read
  clear lk cc
  obtain ⟨oc, od, kV, doc, pm, an, cdv, ct, osl, lk, cc⟩ := d_law_due.ex
  have F_law_due := fun_mk (st := sLdue) lk cc d_law_due.kp
  have B_law_due := F_law_due.binds (ps := ["_law_text"]) fun _ _ _ _ _ _ us hl => match us, hl with | [_], _ => rfl
  generalize PySem.W.fnOf _ _ _ _ _ _ kV doc pm an cdv ct = fd_law_due at F_law_due B_law_due
  clear lk cc
  obtain ⟨oc, od, kV, doc, pm, an, cdv, ct, osl, lk, cc⟩ := d_law_told.ex
  have F_law_told := fun_mk (st := sLtold) lk cc d_law_told.kp
  have B_law_told := F_law_told.binds (ps := ["_law_text"]) fun _ _ _ _ _ _ us hl => match us, hl with | [_], _ => rfl
  generalize PySem.W.fnOf _ _ _ _ _ _ kV doc pm an cdv ct = fd_law_told at F_law_told B_law_told
  clear lk cc
  obtain ⟨oc, od, kV, doc, pm, an, cdv, ct, osl, lk, cc⟩ := d_law_spoilt.ex
  have F_law_spoilt := fun_mk (st := sLspoilt) lk cc d_law_spoilt.kp
  have B_law_spoilt := F_law_spoilt.binds (ps := ["_law_pen_here", "_law_words_here"]) fun _ _ _ _ _ _ us hl => match us, hl with | [_, _], _ => rfl
  generalize PySem.W.fnOf _ _ _ _ _ _ kV doc pm an cdv ct = fd_law_spoilt at F_law_spoilt B_law_spoilt
  clear lk cc
  have PT : PenTxt mg := ⟨PySem.W.mg_none_of X G z_int, PySem.W.mg_none_of X G z_list, PySem.W.mg_none_of X G z_len⟩
  have T : VTxt mg := {isinstance := PySem.W.mg_none_of X G z_isinstance, len := PySem.W.mg_none_of X G z_len, range := PySem.W.mg_none_of X G z_range, reversed := PySem.W.mg_none_of X G z_reversed, tuple := PySem.W.mg_none_of X G z_tuple, list := PySem.W.mg_none_of X G z_list, int := PySem.W.mg_none_of X G z_int, bool := PySem.W.mg_none_of X G z_bool, zip := PySem.W.mg_none_of X G z_zip, str := PySem.W.mg_none_of X G z_str, enumerate := PySem.W.mg_none_of X G z_enumerate}
  have WT : WTxt mg := {
    BIG_LETTERS := ⟨_, PySem.W.mg_of X G v_BIG_LETTERS⟩
    SMALL_LETTERS := ⟨_, PySem.W.mg_of X G v_SMALL_LETTERS⟩
    DIGITS := ⟨_, PySem.W.mg_of X G v_DIGITS⟩
    MOST_SIGNS := ⟨_, PySem.W.mg_of X G v_MOST_SIGNS⟩
    MOST_DIGITS := ⟨_, PySem.W.mg_of X G v_MOST_DIGITS⟩
    len := PySem.W.mg_none_of X G z_len
    enumerate := PySem.W.mg_none_of X G z_enumerate
    tuple := PySem.W.mg_none_of X G z_tuple
    int := PySem.W.mg_none_of X G z_int
    list := PySem.W.mg_none_of X G z_list
    isinstance := PySem.W.mg_none_of X G z_isinstance
    range := PySem.W.mg_none_of X G z_range
  }
  obtain ⟨oc, od, kV, doc, pm, an, cdv, ct, osl, lk, cc⟩ := d_law.ex
  refine ⟨_, fun_mk (st := slaw) lk cc d_law.kp, fun s v => .of_eq rfl, fun base cdv s H a ns _ _ hlen hS => ?_⟩
  exact rd_law PT T WT MT kS MkC F_init B_init XB F_bt B_bt F_may_have_parts B_may_have_parts (PySem.W.mg_of X G g_may_have_parts) F_read_value B_read_value (PySem.W.mg_of X G g_read_value) F_is_number B_is_number (PySem.W.mg_of X G g_is_number) F_is_big B_is_big (PySem.W.mg_of X G g_is_big) F_is_name B_is_name (PySem.W.mg_of X G g_is_name) F_all_among B_all_among (PySem.W.mg_of X G g_all_among) F_words_of B_words_of (PySem.W.mg_of X G g_words_of) F_take_word B_take_word (PySem.W.mg_of X G g_take_word) F_end_of B_end_of (PySem.W.mg_of X G g_end_of) F_value_from B_value_from (PySem.W.mg_of X G g_value_from) F_law_pen B_law_pen (PySem.W.mg_of X G g_law_pen) F_law_draw B_law_draw (PySem.W.mg_of X G g_law_draw) F_law_pick B_law_pick (PySem.W.mg_of X G g_law_pick) F_law_value_text B_law_value_text (PySem.W.mg_of X G g_law_value_text) F_law_own B_law_own (PySem.W.mg_of X G g_law_own) F_law_makers B_law_makers (PySem.W.mg_of X G g_law_makers) F_law_some_value B_law_some_value (PySem.W.mg_of X G g_law_some_value) F_law_words B_law_words (PySem.W.mg_of X G g_law_words) F_law_signs B_law_signs (PySem.W.mg_of X G g_law_signs) F_law_word_kind B_law_word_kind (PySem.W.mg_of X G g_law_word_kind) F_law_seen B_law_seen (PySem.W.mg_of X G g_law_seen) F_law_take B_law_take (PySem.W.mg_of X G g_law_take) F_law_column B_law_column (PySem.W.mg_of X G g_law_column) F_law_read B_law_read (PySem.W.mg_of X G g_law_read) F_law_due B_law_due (PySem.W.mg_of X G g_law_due) F_law_told B_law_told (PySem.W.mg_of X G g_law_told) F_law_spoilt B_law_spoilt (PySem.W.mg_of X G g_law_spoilt) base cdv s H a ns hlen hS
end Nm
open PySem PySem.W PyProof.Rows in
set_option maxRecDepth 100000 in
set_option maxHeartbeats 0 in
theorem PySem.Challenge.cw_namedmeets_k04_texts_of_values_refused_holds : PySem.Challenge.rw_namedmeets_k04_texts_of_values_refused.Holds := by
  w_on; o_law; k_head; (case hw => w_witness2)
  k_fill
  refine Nm.walk_g (l := PySem.Challenge.rw_namedmeets_k04_texts_of_values_refused) (k := 28) (x := "_law_script") (st := Nm.slaw) (qual := "law") (N := Nm.Nlaw) rfl rfl ⟨rfl, by decide, by decide⟩ Nm.sclaw (fun w h Y => PySem.W.kIn_of Y) ?F
  intro w mg fa h KX G hmg
  refine' Nm.fin KX G hmg ?z_isinstance ?z_len ?z_range ?z_reversed ?z_tuple ?z_list ?z_int ?z_bool ?z_zip ?z_str ?z_enumerate ?v_BIG_LETTERS ?v_SMALL_LETTERS ?v_DIGITS ?v_MOST_SIGNS ?v_MOST_DIGITS ?m_g ?m_pg ?m_hd ?m_po ?m_sa ?m_nM ?m_nP ?m_eqF ?m_eqK ?m_neF ?m_subI ?m_subC ?m_subB ?m_subS ?m_iC ?m_ty ?m_ca ?m_gt ?m_tk ?m_mo ?m_mk ?m_in ?m_fn ?m_kp ?x_b ?b_in ?b_ty ?b_nl ?b_nc ?b_iC ?b_ss ?d_init ?d_bt ?g_may_have_parts ?d_may_have_parts ?g_read_value ?d_read_value ?g_is_natural ?d_is_natural ?g_is_written ?d_is_written ?g_is_number ?d_is_number ?g_is_big ?d_is_big ?g_is_name ?d_is_name ?g_all_among ?d_all_among ?g_words_of ?d_words_of ?g_take_word ?d_take_word ?g_end_of ?d_end_of ?g_value_from ?d_value_from ?g_law_pen ?d_law_pen ?g_law_draw ?d_law_draw ?g_law_pick ?d_law_pick ?g_law_value_text ?d_law_value_text ?g_law_own ?d_law_own ?g_law_makers ?d_law_makers ?g_law_some_value ?d_law_some_value ?g_law_words ?d_law_words ?g_law_signs ?d_law_signs ?g_law_word_kind ?d_law_word_kind ?g_law_seen ?d_law_seen ?g_law_take ?d_law_take ?g_law_column ?d_law_column ?g_law_read ?d_law_read ?g_law_due ?d_law_due ?g_law_told ?d_law_told ?g_law_spoilt ?d_law_spoilt ?g_law ?d_law
  (case m_g => k_is)
  (case z_isinstance => k_is)
  (case z_len => k_is)
  (case z_range => k_is)
  (case z_reversed => k_is)
  (case z_tuple => k_is)
  (case z_list => k_is)
  (case z_int => k_is)
  (case z_bool => k_is)
  (case z_zip => k_is)
  (case z_str => k_is)
  (case z_enumerate => k_is)
  (case v_BIG_LETTERS => k_is)
  (case v_SMALL_LETTERS => k_is)
  (case v_DIGITS => k_is)
  (case v_MOST_SIGNS => k_is)
  (case v_MOST_DIGITS => k_is)
  (case m_pg => k_is)
  (case m_hd => k_is)
  (case m_po => k_is)
  (case m_sa => k_is)
  (case m_nM => k_is)
  (case m_nP => k_is)
  (case m_eqF => k_is)
  (case m_eqK => k_is)
  (case m_neF => k_is)
  (case m_subI => k_is)
  (case m_subC => k_is)
  (case m_subB => k_is)
  (case m_subS => k_is)
  (case m_iC => k_is)
  (case m_ty => k_is)
  (case m_ca => k_is)
  (case m_gt => k_is)
  (case m_tk => k_is)
  (case m_mo => k_is)
  (case m_mk => k_is)
  (case m_in => k_is)
  (case m_fn => k_is)
  (case m_kp => k_is)
  (case x_b => refine' Nm.xraw_mk ?a ?b ?c ?d ?e ?f ?g ?h ?i ?j ?k; (case a => k_is); (case b => k_is); (case c => k_is); (case d => k_is); (case e => k_is); (case f => k_is); (case g => k_is); (case h => k_is); (case i => k_is); (case j => k_is); (case k => k_is))
  (case b_in => k_is)
  (case b_ty => k_is)
  (case b_nl => k_is)
  (case b_nc => k_is)
  (case b_iC => k_is)
  (case b_ss => k_is)
  (case d_init => refine' Nm.fraw_mk ?a ?b ?c; (case a => k_is); (case b => k_is); (case c => k_is))
  (case d_bt => refine' Nm.fraw_mk ?a ?b ?c; (case a => k_is); (case b => k_is); (case c => k_is))
  (case g_may_have_parts => k_is)
  (case d_may_have_parts => refine' Nm.fraw_mk ?a ?b ?c; (case a => k_is); (case b => k_is); (case c => k_is))
  (case g_read_value => k_is)
  (case d_read_value => refine' Nm.fraw_mk ?a ?b ?c; (case a => k_is); (case b => k_is); (case c => k_is))
  (case g_is_natural => k_is)
  (case d_is_natural => refine' Nm.fraw_mk ?a ?b ?c; (case a => k_is); (case b => k_is); (case c => k_is))
  (case g_is_written => k_is)
  (case d_is_written => refine' Nm.fraw_mk ?a ?b ?c; (case a => k_is); (case b => k_is); (case c => k_is))
  (case g_is_number => k_is)
  (case d_is_number => refine' Nm.fraw_mk ?a ?b ?c; (case a => k_is); (case b => k_is); (case c => k_is))
  (case g_is_big => k_is)
  (case d_is_big => refine' Nm.fraw_mk ?a ?b ?c; (case a => k_is); (case b => k_is); (case c => k_is))
  (case g_is_name => k_is)
  (case d_is_name => refine' Nm.fraw_mk ?a ?b ?c; (case a => k_is); (case b => k_is); (case c => k_is))
  (case g_all_among => k_is)
  (case d_all_among => refine' Nm.fraw_mk ?a ?b ?c; (case a => k_is); (case b => k_is); (case c => k_is))
  (case g_words_of => k_is)
  (case d_words_of => refine' Nm.fraw_mk ?a ?b ?c; (case a => k_is); (case b => k_is); (case c => k_is))
  (case g_take_word => k_is)
  (case d_take_word => refine' Nm.fraw_mk ?a ?b ?c; (case a => k_is); (case b => k_is); (case c => k_is))
  (case g_end_of => k_is)
  (case d_end_of => refine' Nm.fraw_mk ?a ?b ?c; (case a => k_is); (case b => k_is); (case c => k_is))
  (case g_value_from => k_is)
  (case d_value_from => refine' Nm.fraw_mk ?a ?b ?c; (case a => k_is); (case b => k_is); (case c => k_is))
  (case g_law_pen => k_is)
  (case d_law_pen => refine' Nm.fraw_mk ?a ?b ?c; (case a => k_is); (case b => k_is); (case c => k_is))
  (case g_law_draw => k_is)
  (case d_law_draw => refine' Nm.fraw_mk ?a ?b ?c; (case a => k_is); (case b => k_is); (case c => k_is))
  (case g_law_pick => k_is)
  (case d_law_pick => refine' Nm.fraw_mk ?a ?b ?c; (case a => k_is); (case b => k_is); (case c => k_is))
  (case g_law_value_text => k_is)
  (case d_law_value_text => refine' Nm.fraw_mk ?a ?b ?c; (case a => k_is); (case b => k_is); (case c => k_is))
  (case g_law_own => k_is)
  (case d_law_own => refine' Nm.fraw_mk ?a ?b ?c; (case a => k_is); (case b => k_is); (case c => k_is))
  (case g_law_makers => k_is)
  (case d_law_makers => refine' Nm.fraw_mk ?a ?b ?c; (case a => k_is); (case b => k_is); (case c => k_is))
  (case g_law_some_value => k_is)
  (case d_law_some_value => refine' Nm.fraw_mk ?a ?b ?c; (case a => k_is); (case b => k_is); (case c => k_is))
  (case g_law_words => k_is)
  (case d_law_words => refine' Nm.fraw_mk ?a ?b ?c; (case a => k_is); (case b => k_is); (case c => k_is))
  (case g_law_signs => k_is)
  (case d_law_signs => refine' Nm.fraw_mk ?a ?b ?c; (case a => k_is); (case b => k_is); (case c => k_is))
  (case g_law_word_kind => k_is)
  (case d_law_word_kind => refine' Nm.fraw_mk ?a ?b ?c; (case a => k_is); (case b => k_is); (case c => k_is))
  (case g_law_seen => k_is)
  (case d_law_seen => refine' Nm.fraw_mk ?a ?b ?c; (case a => k_is); (case b => k_is); (case c => k_is))
  (case g_law_take => k_is)
  (case d_law_take => refine' Nm.fraw_mk ?a ?b ?c; (case a => k_is); (case b => k_is); (case c => k_is))
  (case g_law_column => k_is)
  (case d_law_column => refine' Nm.fraw_mk ?a ?b ?c; (case a => k_is); (case b => k_is); (case c => k_is))
  (case g_law_read => k_is)
  (case d_law_read => refine' Nm.fraw_mk ?a ?b ?c; (case a => k_is); (case b => k_is); (case c => k_is))
  (case g_law_due => k_is)
  (case d_law_due => refine' Nm.fraw_mk ?a ?b ?c; (case a => k_is); (case b => k_is); (case c => k_is))
  (case g_law_told => k_is)
  (case d_law_told => refine' Nm.fraw_mk ?a ?b ?c; (case a => k_is); (case b => k_is); (case c => k_is))
  (case g_law_spoilt => k_is)
  (case d_law_spoilt => refine' Nm.fraw_mk ?a ?b ?c; (case a => k_is); (case b => k_is); (case c => k_is))
  (case g_law => k_is)
  (case d_law => refine' Nm.fraw_mk ?a ?b ?c; (case a => k_is); (case b => k_is); (case c => k_is))
